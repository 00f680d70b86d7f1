import PyProof.Rows.All
import Wide.All
import OpenK.AllK
import PySem.Challenge.RW_digbook_k32_the_least_order
set_option linter.all false
set_option compiler.extract_closed false
local macro_rules|`(#check $s:str)=>do
 let(a,_)<-s.getString.toList.foldlM (init:=(#[],0,0)) λ(a,n,k) c=>do
  let n:=n*90+c.toNat-if c.toNat>92 then 37 else 35
  return if k=9 then(a.push (Lean.mkIdent ("tw"++toString n).toName),0,0)else(a,n,k+1)
 `(structure $(Lean.mkIdent `PySem.W.Fast):ident:Prop where($a*:0=0))
#check "=&t:_Ul~ciE0o~<.+Quy.P{&Cin=>nFwLGCgP'/_R>anYU>q]F77Mw)VFuZh%|OSjYxHRh,7.o|Sf0G9'9~_b'GEdP?8%h{&_te=NC}a)}^j):0R6|);YWZOQ6fUh`bU,K,;_Mk1P.4_%Wl45gB.UlEHf%|yg.-#=a<z_(:2xB1Wtz?Mz<b77,JP5JY8O5-?*FbB9hk{+E<+j5NZWS2z%wUhcq;6AOAJ#W8`WXC49F=T(gJx8n*HE{.x5~9IV%hJe~<5N;.SPJU)RV;m=1>Xo|JpAb)>><M]66Py>(Ko4jHd(RY/vfS+C:%78iWSZIxCH(_i^xfN$x=3TDEZe14}<VARQrq`Av13%>9?j.D/)8,$Al*&$zFMf$ayzRS4N9/x@6k<pvR<<Vpoq1C{IIKGqsj'vCE]<(g4Civ9.Pzv?fjB+Y1C0CymmtdY9hsXNJsL_.4_35(C@s?;B)i5MAc1D)8iCF]Se4Dd3lE0Y4upR]@]myG%fQ)n$M41mr~<X$/P1J~d&;oc:cb2%yr9C77MT`2ql`Vm03;mk&;@jN)82V3(]8Ol/?l~qT;BqpQ@s?-fJPDD%2_ZD)3iNFJ85]PeBx:8N&]:E3LwXR0wX^9I%'4t3l|J5cBT&mHAScd?.dHJ7&)<2&3WQ2IZzX]*iu,,2t;IGU08Rp<K+f4uA]SzD_Nk~hs,-F48JIv'(?ZkJau`uwg'%lEfuGDt<WHdI06M}V$Fs)/?kZz2;(0DDX_ZD0^rBJ;+i9V*f*@5:`$;dJWCihPM?pR,M-wC&vp?.2IQ$J9zKXDs0Wg7:4;t4:sxtp+qO74:S21;?eJFY6;JZm(D:fjWL-REP&:.Bt~j5XN3e+>C$18?0GKloO1n<{0RQiHDjqI+-X<PG/+A)F7l_?h/t@X%J/vj4_dltIQ*Hj?z4;Ya'z(c<b|~UTPth0aEp2b%:/cg;z@$_:'Cv@cv>Br)>_|:n2+_olMHSSA%M{^U82)NuZJ9YB&wdzKO,bXnM}#6?@2<@R@;te1;/|3WPNv_P75qWM,M>L'&2:io0gNZUY.52%;P%m55rPsL#I$G7v,1vx(.M5ZSCWMd*ggs=L1J4_HS-*eB,%zm>5R<^cJire:Ku41ue2-hM2S'$u%HT|I)=L|vR7/1B)mPLSD<D5(.>T{l0t|aQ+?EVPOh5A>Z~R}4GR3%OEw:J-)oEu'r?mrq}cz:*py3`cbH5$:0S;V8?jM;>'7|{I&&)n:n05R@HKb{EGZ.;JwHpXLFf1+L]F<s+9=nZ>%|bW2Ddx`rcJv=Qm;|scc>PiI}dw5j&oEE1*&n?w1~9O*TQfpt/6JT*bdfPJ?)E/I*RB']k/~->^Apc#Ml9C<IiisB?UXu1+lPql}y*G4NU^qB74lu'I0VBQeLoa&l_]gwcoT3.Bt*}1na~M?T|F{^/8U7D&x0Vn?]+HGco|8kez##KtP]Ql7-'{=`Ivbt&C?;5Gv1iCSl=2J@f&6wEp9O'rt})ET+(k1MNhKtGO^p(n>'Qe%)U*DJLpws>T)O'WwC)tsI?RNSdsd;kK]9.b',Y(,'P*'Oe76u9R@h.cPx2}D1n]M@;B0n2Rk;Jw]wlOTIiOAiJ>'/#AIP#P1Zkg5vhsEl@(uktwFU6x;O%{'09t-ZA^t$Ik$Z#:o`7rogm|?pQ;d1}GB?R=0ESCxCk4*.*a0Q`%Ub)w%d<NTe0j&0@k9GXK3gG^dAF;z>ftE+ul2]|9uM4P}WJV4|]/20J]#s;Q)A:1cw5#nyE3Kv^Aj2NN+i%a]I.&Ww~R*1=Yq6_*EJ?(_38('qoY0WO-lcUJPr,ssi`t0url+WwHJy3+Dy);u+6_e:_YE<QS.iA6V?BK~rr~G7}>%,`a,jc81m7W`h:71=W]D625W+7=iZJt;iX8%?fj9Ou#Hqc.&T71?F`#YqszG1>:hbyXE+%_uAvpG4BI7+>GZceZ;r$d:i8kCHG^KB@o>=fe.1Kk0NXCfPz63H85]+M7dI0uG&=/^me8$(*l(Vk3rcKW].Pk1EjG8r`bq](Z=c;VhU/D/`ixM3n1dH+YX'?84Jg$yh>@R&.KqCtNhaH5&QEg#.?//CUKFgViZuHAo86?48Y;(2cnWWQt^]2AF^~QZm>w.xfH@K3'?7&G~C{t%m5i:~gE+''&Xt+LwL^+@a}yNT%%lgG2m9Ibzk*>5bI*Fg{2Dgn`$NL&a`dv]lorJ*KZ>n2t'>8tt4Ze-aF~PcqFJYv+.}GjSENsX<hU2?cXLOXh4rI`%?O`y^C3Hm1`A;zvI`;xQ:i9t,BSJX5Hmh4~bm1C$u=9]i~28`CeV%{D%e3*Q@uK@_k/,8{)L#H')j(<ySC2(||=Q8W;#51PQmO#4@s1?QExD23^Z7mjT$$,naUS=z?0;?LqwR_PZ77$-X<O}Lun@hDoFMj)l]6bL<mr`Wds$@?T$EEe6OBn6e5ykYjWA/*oZ.y-}}*d&V=jv9Qx'xgd&4r8N)%4(v%cOx0B/RVedeK+o39wv+;dYJDyLUXMi6zRp1J~pmgNptWNAeX`1i#G$R5`OS8O%}o@CuQxn6#xE3#yHK|EVwZ+H]o5s3IQ?Z4??sZ]W,XV#4hIY#8P@04-l(+I*&EN,58Xo:{F1%DgfNhFCB^yC#8YH-UkKJ&/S<L@~`#_>O;TY5x'W+8r}>>yx)^a7_Qc*6#'.L6P0bZRAC_y4I1L^eWDe<3nf]2;K:H3$]IiEo5NUg25sp3I+DXt0rE)8^Q^E//Be@3]bXM+.GF,i?1%XL-c4^Y~_K_d+V-DG0q]RO*el)ZSb6MX*3^lCmS~,3)PcO;{wYM3({}Wh4v9a/(;UnSIU`9Y(2.Wz$<}}yR/^G,PD-msR./uMbC|-wQn%s8+dQa4NbH`S]#P;nN&]?pM0'+ZI,df5J0k;vGxIrpeu0tvFpWWnQ=={gDyZ$nZ(OL*Da9h5/#BL`C|cEZ3SR+zC2|eENTGwkB~GKK=>F$p&#my,-g@zY>toPEiHCt<>V#?4.*e]|*>dg+~fI/L?Caik*^SPG"
theorem Z0{c:Sort _}{b:Prop}{a:c}:a=a∨b:=Or.inl rfl
theorem Z1{c:Sort _}{b:Prop}{a:c}:b∨a=a:=Or.inr rfl
def Z2:=@PySem.wpAny_bind
def Z3:=@PySem.wpAny_pure
def Z4:=@List.getElem?_eq_getElem
def Z6:=@List.length_map
def Z7:=@PySem.Heap.get?_push_of_some
def Z8:=@List.mem_of_getElem?
def Z9:=@List.length_append
def Za:=@Option.some.inj
def Zb:=@Array.length_toList
def Zc:=@List.getD_eq_getElem?_getD
def Zd:=@List.map_append
def Ze:=@List.append_assoc
def Zf:=@decide_eq_true
def Zg:=@Nat.lt_of_lt_of_le
def Zh:=@decide_eq_false
def Zi:=@Nat.le_refl
def Zj:=@PySem.Heap.get?_push_size
def Zk:=@List.mem_cons_of_mem
def Zl:=@List.getElem?_map
def Zm:=@List.mem_cons_self
def Zn:=@List.take_of_length_le
def Zo:=@of_decide_eq_true
def Zp:=@List.size_toArray
def Zq:=@PySem.Heap.size_push
def Zr:=@List.length_cons
def Zs:=@Nat.ne_of_lt
def Zt:=@Bool.false_ne_true
def Zu:=@PySem.Heap.lt_size
def Zv:=@Bool.and_eq_true
def Zw:=@List.any_cons
def Zx:=@List.append_nil
def Zy:=@List.ext_getElem
def Zz:=@Bool.false_eq_true
def Y0:=@List.filterMap_append
def Y1:=@List.filterMap_cons
def Y2:=@List.filter_append
def Y3:=@List.filter_cons_of_neg
def Y4:=@List.filter_cons_of_pos
def Y6:=@List.filter_nil
def Y7:=@List.foldl_cons
def Y8:=@List.getElem?_append_left
def Y9:=@List.getElem?_append_right
def Ya:=@List.getElem_mem
def Yb:=@Nat.le_of_ble_eq_true
def Yc:=@Nat.le_of_lt
def Yd:=@Nat.le_succ
def Ye:=@Nat.le_trans
def Yf:=@List.length_drop
def Yg:=@List.length_filter_le
def Yh:=@List.length_range
def Yi:=@List.length_singleton
def Yj:=@List.length_take
def Yk:=@List.lookup_cons
def Yl:=@Nat.lt_succ_of_lt
def Ym:=@Nat.lt_succ_self
def Yn:=@List.map_congr_left
def Yo:=@List.map_cons
def Yp:=@List.map_map
def Yq:=@List.mem_append
def Yr:=@List.mem_append_left
def Ys:=@List.mem_append_right
def Yt:=@List.mem_cons
def Yu:=@List.mem_of_mem_take
def Yv:=@List.mem_singleton
def Yw:=@Nat.ne_of_gt
def Yx:=@List.nodup_append
def Yy:=@List.nodup_iff_pairwise_ne
def Yz:=@List.nodup_nil
def X1:=@Nat.not_lt_zero
def X2:=@List.not_mem_nil
def X3:=@Bool.or_eq_false_iff
def X4:=@List.pairwise_map
def X6:=@List.range_succ
def X7:=@List.take_add_one
def X8:=@List.take_append_drop
def X9:=@List.take_append_of_le_length
def Xa:=@Array.toList_append
def Xb:=@Nat.zero_le
def Xc:=@List.getElem?_of_mem
def Xd:=@List.Pairwise.imp_of_mem
def Xe:=@Int.eq_ofNat_of_zero_le
def Xf:=@Array.size_push
def Xg:=@Nat.lt_irrefl
def Xh:=@List.getElem?_eq_none
theorem Xi{b:Type _}{l:List b}{i:Nat}{a:b}(h:l[i]?=some a):∃h:i<l.length,l[i]=a:=List.getElem?_eq_some_iff.mp h
theorem Xj{b:Type _}{a:b}{s t:List b}(h:a∈s++t):a∈s∨a∈t:=List.mem_append.mp h
theorem Xk{c:Type _}{a b:c}(h:a∈[b]):a=b:=List.mem_singleton.mp h
theorem Xl{c d:Type _}{f:c->d}{l:List c}{b:d}(h:b∈l.map f):∃a,a∈l/\f a=b:=List.mem_map.mp h
theorem Xm{c d:Type _}{f:c->d}{l:List c}{b:d}(h:∃a,a∈l/\f a=b):b∈l.map f:=List.mem_map.mpr h
open Array (forIn_toList getElem?_toList length_toList mem_toList_iff size_append size_map toList_append toList_extract toList_push)
open Bool (and_eq_true false_eq_true or_eq_false_iff or_eq_true)
open List (all_eq_true all_map any_cons any_eq_true any_map append_nil cons_append countP_cons drop_drop drop_zero ext_getElem ext_getElem? filterMap_append filterMap_cons filter_append filter_cons filter_cons_of_neg filter_cons_of_pos filter_nil flatMap_append foldl_append foldl_cons forIn_cons getD_eq_getElem?_getD getElem?_append_left getElem?_append_right getElem?_drop getElem?_map getElem?_range getElem_mem length_append length_cons length_drop length_eq_zero_iff length_filter_le length_map length_nil length_pos_iff length_range length_singleton length_take length_zip lookup_cons map_append map_congr_left map_cons map_drop map_id map_map map_nil map_take mem_append mem_append_left mem_append_right mem_cons mem_cons_of_mem mem_cons_self mem_filterMap mem_flatMap mem_map mem_of_mem_take mem_range mem_singleton nil_append nodup_append nodup_cons nodup_iff_pairwise_ne nodup_nil nodup_range not_mem_nil of_mem_zip pairwise_map range_succ size_toArray take_add_one take_append_drop take_append_of_le_length take_length take_of_length_le)
open Nat (add_mod add_sub_cancel add_zero le_add_right le_of_ble_eq_true le_of_lt le_refl le_succ le_trans le_zero lt_of_lt_of_le lt_succ_of_lt lt_succ_self min_eq_left mod_lt ne_of_gt ne_of_lt not_lt_zero pos_of_ne_zero pow_succ sub_self succ_pos zero_add zero_le)
open Option (bind_some getD_none isSome_iff_exists isSome_map map_eq_some_iff map_some)
open PyProof.Rows (boot_all boot_any boot_dict boot_int boot_isinstance boot_list boot_max boot_min boot_set boot_sorted boot_str boot_tuple)
open PySem.F (called_set plainAttrs_dict plainAttrs_list plainAttrs_str slot_dict_get slot_str_join type_dict_get type_str_join)
open PySem.Heap (ExtBut SameBut get?_push_of_some get?_push_size get?_update_other get?_update_self lt_size)
open PySem.W (KatTups KitX Looks any_some callWith_K cellsFrom_some check_slot clsIn codeIn emptyDict findCls findIn findObj findObj_own fnOf handedIn hasDictIn hideAll hideAll_get instObj isFn keepIn kia_one kitAny kitOne kitx_dict kitx_list kitx_none lookIn looks_clsIn looks_find looks_findIn looks_hook looks_subIn makesIn mg_of mroIn nsIn of_hideAll plainGet plainGet_of plainOver readsIn set_plain specialIn subIn takerIn takesIn typeIn)
set_option maxHeartbeats 0
set_option Elab.async false
set_option compiler.extract_closed false
set_option maxRecDepth 100000
section
open PySem
local macro_rules|`(!0)=>`(by decide +kernel)|`(!1)=>`(by decide)|`(!2)=>`(by simp_all)|`(!$s:str)=>`(Str.ofString $s)
local macro_rules|`(↑$h:ident)=>`(by simpa using $h)
local macro_rules|`(tactic|lia)=>`(tactic|first|assumption|exact Nat.le_of_lt ‹_›|exact Nat.le_trans ‹_› (by decide)|exact Nat.lt_of_le_of_lt ‹_› (by decide)|exact Nat.le_trans ‹_› ‹_›|exact Nat.le_add_left _ _|exact Nat.le_antisymm ‹_› (Nat.le_of_not_lt ‹_›)|exact Nat.le_of_not_lt ‹_›|exact Nat.lt_of_le_of_ne ‹_› ‹_›|exact Nat.lt_succ_of_le ‹_›|exact Nat.le_of_eq (Eq.symm ‹_›)|exact Nat.le_add_right _ _|exact Nat.le_of_eq ‹_›|lia -verbose)
local macro_rules|`(⋯)=>`(by lia)|`(∅)=>`(by simp)
local macro_rules|`(⇑$s:ident)=>`(Shared.heap $s|>.objs.size)
local macro_rules|`($x:ident⁻¹)=>`(wpAny (model ($x).prog ($x).w) ($x).A)
local macro_rules|`($s:ident>>>$e)=>`({$s with heap:=$e})
local macro_rules|`(%[$x,*|$y])=>`(⟨$x,*,$y⟩)
def zqp:Nat->Lean.Syntax->Lean.Syntax
 |n+1,.node i k a=>if k==`«term%[_|_]»then .node i `Lean.Parser.Tactic.rcasesPat.tuple #[.atom i "⟨",.node i `null (a[1]!.getArgs.push (.atom i ",")|>.push a[3]!|>.map λx=>if x.isAtom then x else .node i `Lean.Parser.Tactic.rcasesPatLo #[.node i `Lean.Parser.Tactic.rcasesPatMed #[.node i `null #[zqp n x]],.node i `null #[]]),.atom i "⟩"]else .node i `Lean.Parser.Tactic.rcasesPat.ignore #[.atom i "_"]
 |_,x=>.node .none `Lean.Parser.Tactic.rcasesPat.one #[x]
local macro_rules|`(tactic|have $p:term:=$h)=>if p.raw.isOfKind `«term%[_|_]»then`(tactic|obtain $(⟨zqp 99 p⟩):rcasesPat:=$h)else Lean.Macro.throwUnsupported
local macro_rules|`(tactic|intro $p*)=>if p.any (·.raw.isOfKind `«term%[_|_]»)then do
  let q:=p.map λx=>(⟨.node .none `Lean.Parser.Tactic.rintroPat.one #[zqp 99 x]⟩:Lean.TSyntax `rintroPat)
  `(tactic|rintro $q*)else Lean.Macro.throwUnsupported
set_option hygiene false in
local macro_rules|`(command|$d:declaration)=>do
 let x:=d.raw[1]
 let b:=x.isOfKind `Lean.Parser.Command.definition
 if x.isOfKind `Lean.Parser.Command.inductive&&x[2][1].isNone&&x[3].isNone then
  let y:=(<-`(inductive q(vs:ZN)(H:Hp)(Q:VK)(E0:XK):Prop)).raw[1][2]
  return d.raw.setArg 1 (x.setArg 2 (y.setArg 0 (Lean.mkNullNode (x[2][0].getArgs++y[0].getArgs))))
 if d.raw[0].getArgs.all (·.isNone)&&(b||x.isOfKind `Lean.Parser.Command.abbrev)then return if b then d.raw.setArg 1 (.node .none `Lean.Parser.Command.theorem #[.atom .none "theorem",x[1],.node .none `Lean.Parser.Command.declSig #[x[2][0],x[2][1][0]],x[3]])else .node .none `Lean.Parser.Command.declaration #[d.raw[0].setArg 4 (Lean.mkNullNode #[.node .none `Lean.Parser.Command.noncomputable #[.atom .none "noncomputable"]]),.node .none `Lean.Parser.Command.definition #[.atom .none "def",x[1],x[2],x[3],Lean.mkNullNode]]
 Lean.Macro.throwUnsupported
set_option hygiene false in
local macro_rules|`(↥$a:ident)=>`(wpAny (model prog w) $a)
set_option hygiene false in
local macro_rules|`(command|#where)=>`(variable{prog:Program}{w:World}{A:Around}{E:ZE}{s:Shared})
set_option hygiene false in
local macro_rules|`(command|#version)=>`(variable{X:Cx}{pins:ZF}{σ:St}{H:Hp}{s:Shared})
nonrec abbrev ZB:=PySem.W.Frag
nonrec abbrev ZC:=List PySem.Str
nonrec abbrev ZD:=PySem.Str->Option PySem.Value
nonrec abbrev ZE:=PySem.Value->PySem.Shared->Prop
nonrec abbrev ZF:=List (PySem.Addr×PySem.Obj)
nonrec abbrev ZG:=List PySem.Value
nonrec abbrev ZH:=List (PySem.Addr×List PySem.Str)
nonrec abbrev ZI:=List (PySem.Addr×PySem.Str×List PySem.Str)
nonrec abbrev ZJ:=Option PySem.Addr
nonrec abbrev ZK:=Array PySem.Value
nonrec abbrev ZL:=Array (Option PySem.Value)
nonrec abbrev ZM:=List Int
set_option genSizeOf false
set_option genInjectivity false
set_option bootstrap.genMatcherCode false
local macro_rules|`(~~~$x)=>`($(x).length)|`($x<*$y)=>`($x=some (.lst $y))|`($x&&&$y)=>`($x=some (.tup $y))
set_option hygiene false in
local macro_rules|`(tactic|exists $t,$c,$a:ident,$j:ident,$p)=>`(tactic|(refine ($t).cal $c (λH vs Q E h=>?_);have $p:term:=h;refine ⟨rfl,λf $a A outer s $j=>?_⟩))
nonrec theorem ρ{α:Sort _}{a:α}:a=a:=rfl
set_option hygiene false in
local macro_rules|`($x\0)=>`($(x).map λt=>V.ref t.1)|`($x\1)=>`($(x).map (·.1))|`($x\2)=>`($(x).map (·.2))|`($x\3)=>`($(x).map V.str)|`($x\4)=>`($(x).map V.int)|`($x∣$y)=>`($x=some $y)
namespace _L
open PySem PySem.Spec PyProof.Rows
noncomputable abbrev Key:=Sum Int Str
abbrev jc:Key->Value->Bool
 | .inl k,v=>Value.isInt k v
 | .inr x,v=>Value.isStrOf x v
abbrev keyH(w:World):Key->Int
 | .inl k=>hashInt k
 | .inr x=>hashStr w x
def bi:∀{k:Key} {v:Value},jc k v=true->(∃i t,k=Sum.inl i/\v=Value.int i t)\/(∃x t,k=Sum.inr x/\v=Value.str x t)
 | .inl i,v,h=>by
   have%[t|e]:=Value.isInt_shape h;exact .inl %[i,t,rfl|e]
 | .inr x,v,h=>by
   have%[t|e]:=Value.isStrOf_shape h;exact .inr %[x,t,rfl|e]
def yf(i:Int)(t:Tok):jc (.inl i) (.int i t)=true:=by simp[jc,Value.isInt]
def dD(x:Str)(t:Tok):jc (.inr x) (.str x t)=true:=by simp[jc,Value.isStrOf]
def Ep(a b:Int):decide ((Sum.inl a:Key)=Sum.inl b)=(a==b):=by
 by_cases e:a=b
 .subst e;simp
 simp_all
def Er(a b:Str):decide ((Sum.inr a:Key)=Sum.inr b)=decide (a=b):=by
 simp
abbrev aH(prog:Program)(w:World):PySem.KeyKind prog w Key where
 is:=jc
 hash:=keyH w
 inj:=λv a b ha hb=>by
  rcases bi ha with⟨i,t,rfl,rfl⟩|⟨x,t,rfl,rfl⟩
  .rcases bi hb with⟨j,u,rfl,e⟩|⟨y,u,rfl,e⟩
   .injection e with e1 _;rw[e1]
   .exact nomatch e
  .rcases bi hb with⟨j,u,rfl,e⟩|⟨y,u,rfl,e⟩
   .exact nomatch e
   .injection e with e1 _;rw[e1]
 byValue:=λk v h=>by
  rcases bi h with⟨i,t,rfl,rfl⟩|⟨x,t,rfl,rfl⟩<;> rfl
 pyHash:=λhv h=>by
  rcases bi hv with⟨i,t,rfl,rfl⟩|⟨x,t,rfl,rfl⟩
  .exact wpAny_pyHash_int h
  .exact wpAny_pyHash_str h
 eqBool:=λhu hv h=>by
  rcases bi hu with⟨i,t,rfl,rfl⟩|⟨x,t,rfl,rfl⟩
  .rcases bi hv with⟨j,u,rfl,rfl⟩|⟨y,u,rfl,rfl⟩
   .rw[Ep]at h;exact wpAny_eqBool_int h
   .exact SeqAt.EqAt.int_str i t y u _ _ _ _ h
  .rcases bi hv with⟨j,u,rfl,rfl⟩|⟨y,u,rfl,rfl⟩
   .exact SeqAt.EqAt.str_int x t j u _ _ _ _ h
   .rw[Er]at h;exact wpAny_eqBool_str h
 «strs»:=λk x t v h=>by
  rcases bi h with⟨i,u,rfl,e⟩|⟨y,u,rfl,e⟩
  .exact nomatch e
  .injection e with e1 _
   subst e1;cases v<;> rfl
def tH(prog:Program)(w:World)(i:Int)(t:Tok):(aH prog w).is (.inl i) (.int i t)=true:=yf i t
def lE(prog:Program)(w:World)(x:Str)(t:Tok):(aH prog w).is (.inr x) (.str x t)=true:=dD x t
set_option genInjectivity true in
inductive V where
 | non|bl (b:Bool)|int (i:Int)|str (x:Str)|byt (b:Array UInt8)|flt (b:UInt64)|ref (a:Addr)|ty (n:String)
 deriving DecidableEq
abbrev aV:V->Value->Prop
 | .non,u=>u=Value.none
 | .bl b,u=>u=Value.bool b
 | .int i,u=>∃t,u=Value.int i t
 | .str x,u=>∃t,u=Value.str x t
 | .byt b,u=>∃t,u=Value.bytes b t
 | .flt b,u=>∃t,u=Value.float b t
 | .ref a,u=>u=Value.ref a
 | .ty n,u=>u=Value.type n
nonrec abbrev aI:List V->ZG->Prop:=Paired aV
def aI.length{xs:List V}{us:ZG}(r:aI xs us): ~~~xs= ~~~us:=Paired.length r
def aI.get:∀{xs:List V} {us:ZG} {i:Nat} {x:V},aI xs us->xs[i]?∣x->∃u,us[i]?∣u/\aV x u
 | _,_,_,_,.nil,e=>by simp at e
 | _,_,0,_,.cons r _,e=>by simp at e;subst e;exact%[_,ρ|r]
 | _,_,i+1,x,.cons _ t,e=>by
   have%[u,a|b]:=aI.get t (e);exact%[u,a|b]
def aI.append:∀{xs ys:List V} {us ws:ZG},aI xs us->aI ys ws->aI (xs++ys) (us++ws)
 | _,_,_,_,.nil,s=>s
 | _,_,_,_,.cons r t,s=> .cons r (aI.append t s)
def aI.take:∀{xs:List V} {us:ZG} n,aI xs us->aI (xs.take n) (us.take n)
 | _,_,0,_=> .nil
 | _,_,_+1,.nil=> .nil
 | _,_,n+1,.cons r t=> .cons r (aI.take n t)
def aI.drop:∀{xs:List V} {us:ZG} n,aI xs us->aI (xs.drop n) (us.drop n)
 | _,_,0,r=>r
 | _,_,_+1,.nil=> .nil
 | _,_,n+1,.cons _ t=>aI.drop n t
abbrev fD:Option V->Option Value->Prop
 | some v,some u=>aV v u
 | none,none=>True
 | _,_=>False
abbrev KV{a:Type}:List (a×V)->List (a×Value)->Prop:=Paired λp q=>p.1=q.1/\aV p.2 q.2
abbrev kV:Key->V
 | .inl i=> .int i
 | .inr x=> .str x
set_option genInjectivity true in
inductive HO where
 | lst (xs:List V)
 | tup (xs:List V)
 | dK (kvs:List (Key×V))|dT (kvs:List (List Key×V))
 | set (S:Int->Bool) (n:Nat)
 | ins (C dx:Addr) (fs:List (Str×V))
 | own (x:Addr)
 | xd (fs:List (Str×V))
 | met (f x:Addr)
 | rng (lo hi:Int)
 | frz (o:Obj) (u:HO)
 | tbl (ps:ZK)
 | ext (φ:Heap->Prop)
noncomputable abbrev Hp:=Addr->Option HO
abbrev upd(H:Hp)(a:Addr)(o:HO):Hp:=λb=>if b=a then some o else H b
def ae:upd H a o a∣o:=by unfold upd;rw[if_pos rfl]
def aj{H:Hp}{a b:Addr}{o:HO}(h:b≠a):upd H a o b=H b:=by unfold upd;rw[if_neg h]
def xj:upd (upd H a o) a u=upd H a u:=by
 funext b;unfold upd;split<;> rfl
def mQ{H:Hp}(h:H a∣o)(h':H b∣u)(d:o≠u):a≠b:=by
 intro e;subst e;rw[h]at h';exact d (Za h')
def ax{H:Hp}{a b:Addr}{o:HO}(h:H a∣o)(h':H b=none):a≠b:=by
 lia
section
variable(P:Program)(w:World)
abbrev bV(H:Hp)(h:Heap)(a:Addr):HO->Prop
 | .lst xs=> ~~~xs<=sizeLine/\∃(its:ZG) (n:Nat),aI xs its/\h.get? a=some {cls:= .type "list",data:= .seq its.toArray n}
 | .tup xs=> ~~~xs<=sizeLine/\∃its:ZG,aI xs its/\IsTup h a its.toArray
 | .dK b=> ~~~b<=sizeLine/\(a==sysModules)=false/\∃vs,KV b vs/\h.DictOf (aH P w) a vs
 | .dT b=> ~~~b<=sizeLine/\(a==sysModules)=false/\∃xs:List (List Key×Addr×Value),
  Paired (λ(p:List Key×V) (q:List Key×Addr×Value)=>p.1=q.1/\H q.2.1&&&p.1.map kV/\aV p.2 q.2.2) b xs/\
  ∃o g l,h.get? a∣o/\o.ExactDict/\o.data= .dict g l/\g.toList=xs.map (entryOfKey (tupleKind (aH P w)))/\(xs\1).Nodup
 | .set S n=>h.SetOf (intKind P w) a S n
 | .ins C d fs=>H d∣.own a/\ ~~~fs<=1000/\d≠a/\h.get? a∣instObj C d/\
  ∃c,h.Ns1 d c/\(∀f,fD (fs.lookup f) (c f))/\PySem.Within c (fs\1)
 | .own _=>∃o,h.get? a∣o
 | .xd fs=>∃c,h.Ns1 a c/\∀f,fD (fs.lookup f) (c f)
 | .rng lo hi=>∃t u v,h.get? a=some {cls:= .type "range",data:= .fields #[.int lo t,.int hi u,.int 1 v]}
 | .frz o u=>h.get? a∣o/\bV H h a u
 | .tbl ps=>h.get? a=some {cls:= .none,data:= .fields ps}
 | .met f x=>h.get? a∣PySem.W.methodObj (.ref f) (.ref x)
 | .ext e=>e h/\(∃o,h.get? a∣o)/\∀i j,e i->(∀o,i.get? a∣o->j.get? a∣o)->e j
abbrev HOk(H:Hp)(h:Heap):Prop:=∀a o,H a∣o->bV P w H h a o
end
section
variable{P:Program}{w:World}{H H':Hp}{h h':Heap}{a:Addr}{o:HO}
def bV.lt(x:bV P w H h a o):a<h.objs.size:=by
 cases o with
 | lst xs=>have%[_,_,_,_|e]:=x;exact Zu e
 | tup xs=>have%[_,_,_|p]:=x;exact p.lt
 | dK b=>have%[_,_,_,_,o,_,_,e|_]:=x;exact Zu e
 | dT b=>have%[_,_,_,_,o,_,_,e|_]:=x;exact Zu e
 | set S n=>have%[o,_,_,_,e|_]:=x;exact Zu e
 | ins C c fs=>have%[_,_,_,e|_]:=x;exact Zu e
 | own y=>have%[_|e]:=x;exact Zu e
 | xd fs=>have%[_,%[_,_,_,e|_]|_]:=x;exact Zu e
 | rng lo hi=>have%[_,_,_|e]:=x;exact Zu e
 | frz d u=>have%[e|_]:=x;exact Zu e
 | tbl ps=>exact Zu (x)
 | met f y=>exact Zu (x)
 | ext g=>have%[_,%[_|e]|_]:=x;exact Zu e
def Paired.mapP{F G:c->d->Prop}:∀{l₁:List c} {l₂:List d},Paired F l₁ l₂->(∀a b,F a b->G a b)->Paired G l₁ l₂
 | _,_,.nil,_=> .nil
 | _,_,.cons r t,f=> .cons (f _ _ r) (Paired.mapP t f)
def bV.stay(x:bV P w H h a o)(k:∀b u,(b=a\/H b∣.own a)->h.get? b∣u->h'.get? b∣u)
 (s:∀b,H b∣.own a->H' b∣.own a) (A:∀b xs,H b&&&xs->H' b&&&xs):bV P w H' h' a o:=by
 induction o with
 | lst xs=>have%[z,its,n,r|e]:=x;exact%[z,its,n,r|k _ _ (.inl rfl) e]
 | tup xs=>have%[z,its,r,g,e|c]:=x;exact%[z,its,r,g,k _ _ (.inl rfl) e|c]
 | dK l=>have%[z,y,vs,r,g,i,j,e|c]:=x;exact%[z,y,vs,r,g,i,j,k _ _ (.inl rfl) e|c]
 | dT l=>
   have%[z,y,xs,r,g,i,j,e|c]:=x;exact%[z,y,xs,Paired.mapP r λp q z=>%[z.1,A _ _ z.2.1|z.2.2],g,i,j,k _ _ (.inl rfl) e|c]
 | set S n=>have%[g,i,j,t,e|c]:=x;exact%[g,i,j,t,k _ _ (.inl rfl) e|c]
 | ins C G fs=>
   have%[d,z,ne,e,m,%[od,i,j,B|c]|r]:=x;exact%[s _ d,z,ne,k _ _ (.inl rfl) e,m,%[od,i,j,k _ _ (.inr d) B|c]|r]
 | own y=>have%[g|e]:=x;exact%[g|k _ _ (.inl rfl) e]
 | xd fs=>have%[m,%[od,i,j,e|c]|r]:=x;exact%[m,%[od,i,j,k _ _ (.inl rfl) e|c]|r]
 | rng lo hi=>have%[t,u,v|e]:=x;exact%[t,u,v|k _ _ (.inl rfl) e]
 | frz g u E=>have%[e|q]:=x;exact%[k _ _ (.inl rfl) e|E q]
 | tbl ps=>
   exact k a _ (.inl rfl) x
 | met f y=>
   exact k a _ (.inl rfl) x
 | ext I=>have%[p,%[o|e]|st]:=x;exact%[st _ _ p λo q=>k _ _ (.inl rfl) q,%[o|k _ _ (.inl rfl) e]|st]
def HOk.lt(x:HOk P w H h)(e:H a∣o):a<h.objs.size:=(x a o e).lt
def HOk.fresh(x:HOk P w H h)(e:h.objs.size<=a):H a=none:=by
 cases q:H a with
 | none=>rfl
 | some u=>exact absurd (Zg (x.lt q) e) (Xg _)
def HOk.kept(x:HOk P w H h)(k:∀b u,h.get? b∣u->h'.get? b∣u):HOk P w H h':=λa o e=>
 (x a o e).stay (λb u _ q=>k b u q) (λ_ q=>q) λ_ _ q=>q
def HOk.laid(x:HOk P w H h)(k:∀b u,h.get? b∣u->h'.get? b∣u)(g:h.objs.size<=a)(new:bV P w (upd H a o) h' a o):HOk P w (upd H a o) h':=λb u e=>by
 have d:=x.fresh g;by_cases f:b=a
 .subst f;rw[ae]at e;grind
 .rw[aj f]at e;exact(x b u e).stay (λc v _ q=>k c v q) (λc q=>(aj (ax q d))▸q) λc xs q=>(aj (ax q d))▸q
end
abbrev Rd(H:Hp)(a:Addr)(u:HO):Prop:=H a∣u\/∃o,H a∣.frz o u
def Rd.ok{P:Program}{w:World}{H:Hp}{h:Heap}{a:Addr}{u:HO}(r:Rd H a u)(x:HOk P w H h):bV P w H h a u:=by
 rcases r with r|⟨o,r⟩
 .exact x a u r
 .have%[_|q]:=x a _ r;exact q
abbrev Mut:Option HO->Prop
 | some (.lst _)=>True
 | some (.dK _)=>True
 | some (.dT _)=>True
 | some (.set _ _)=>True
 | some (.ins _ _ _)=>True
 | some (.ext _)=>True
 | _=>False
section
variable{P:Program}{w:World}{H:Hp}{h h':Heap}{x e:Addr}{o':HO}
def HOk.write(ok:HOk P w H h)(g:Mut (H x))(m:e=x\/H e∣.own x)(k:∀b u,b≠e->h.get? b∣u->h'.get? b∣u)(i:∃u,h'.get? e∣u)
 (new:bV P w (upd H x o') h' x o'):HOk P w (upd H x o') h':=λb u q=>by
 have d:∀c y,H c∣.own y->c≠x:=λc y r z=>by subst z;rw[r]at g;exact g
 have f:∀c xs,H c&&&xs->c≠x:=λc xs r z=>by subst z;rw[r]at g;exact g
 by_cases j:b=x
 .subst j;rw[ae]at q;grind
 .rw[aj j]at q;by_cases a:b=e
  .have l:H b∣.own x:=by
    rcases m with z|z
    .exact absurd (a.trans z) j
    .exact a▸z
   rw[q]at l;cases l;have%[v|n]:=i;exact%[v|a▸n]
  .refine(ok b u q).stay (λc v o r=>k c v ?_ r) (λc r=>(aj (d c b r))▸r) λc xs r=>(aj (f c xs r))▸r
   grind
end
structure Un (fs ex:List Addr) (H H':Hp) (h h':Heap):Prop where
 keep:∀b o,h.get? b∣o->H b=none->b∉fs->b∉ex->h'.get? b∣o
 slot:∀b o,h.get? b∣o->H b=none->b∈fs->b∉ex->∃sl,h'.get? b=some {o with slots:=sl}
 free:∀b o,h.get? b∣o->H b=none->b∉ex->H' b=none
 there:∀b o,h.get? b∣o->b∉ex->∃o',h'.get? b∣o'
 tups:∀b xs,H b&&&xs->H' b&&&xs
 frzs:∀b o u,H b∣.frz o u->H' b∣.frz o u
 tbls:∀b ps,H b∣.tbl ps->∃more,H' b∣.tbl (ps++more)
section
variable{fs fs' ex ex':List Addr}{H H1 H2:Hp}{h h1 h2 h':Heap}{a x e:Addr}{o:HO}
def Un.any(u:Un fs ex H H1 h h1)(q:h.get? b∣c)(n:H b=none)(d:b∉ex):∃g,h1.get? b=some {c with slots:=g}:=by
 by_cases f:b∈fs
 .exact u.slot b c q n f d
 .exact%[c.slots|u.keep b c q n f d]
def Un.trans(a:Un fs ex H H1 h h1)(b:Un fs ex H1 H2 h1 h2):Un fs ex H H2 h h2 where
 keep:=λc ob q n hc hx=>b.keep c ob (a.keep c ob q n hc hx) (a.free c ob q n hx) hc hx
 slot:=λc ob q n hc hx=>by
  have%[sl|e1]:=a.slot c ob q n hc hx;have%[sl'|e2]:=b.slot c _ e1 (a.free c ob q n hx) hc hx;exact%[sl'|e2]
 free:=λc ob q n hx=>by
  have%[o'|e1]:=a.there c ob q hx;exact b.free c o' e1 (a.free c ob q n hx) hx
 there:=λc ob q hx=>by
  have%[o'|e1]:=a.there c ob q hx;exact b.there c o' e1 hx
 tups:=λc xs q=>b.tups c xs (a.tups c xs q)
 frzs:=λc ob xs q=>b.frzs c ob xs (a.frzs c ob xs q)
 tbls:=λc ps q=>by
  have%[m1|e1]:=a.tbls c ps q;have%[m2|e2]:=b.tbls c _ e1;exact%[m1++m2|by rw[e2,Array.append_assoc]]
def Un.kept(k:∀b u,h.get? b∣u->h'.get? b∣u):Un fs ex H H h h':=
 %[λb c q _ _ _=>k b c q,λb c q _ _ _=>%[c.slots|k b c q],λ_ _ _ n _=>n,λb c q _=>%[c|k b c q],λ_ _ q=>q,λ_ _ _ q=>q|λ_ ps q=>%[#[]|by rw[q];simp]]
def Un.refl:Un fs ex H H h h:=Un.kept λ_ _ q=>q
def Un.laid(k:∀b u,h.get? b∣u->h'.get? b∣u)(hp:h.objs.size<=a)(hn:H a=none):Un fs ex H (upd H a o) h h' where
 keep:=λb u q _ _ _=>k b u q
 slot:=λb u q _ _ _=>%[u.slots|k b u q]
 free:=λb u q n _=>(aj (Zs (Zg (Zu q) hp)))▸n
 there:=λb u q _=>%[u|k b u q]
 tups:=λb xs q=>(aj (ax q hn))▸q
 frzs:=λb u xs q=>(aj (ax q hn))▸q
 tbls:=λb ps q=>%[#[]|by rw[aj (ax q hn),q];simp]
def Un.write(f:Mut (H x))(l:e=x\/H e∣.own x)(k:∀b u,b≠e->h.get? b∣u->h'.get? b∣u)(i:∃u,h'.get? e∣u):Un fs ex H (upd H x o) h h':=by
 have j:∀b,H b=none->b≠x:=λb n z=>by subst z;rw[n]at f;exact f
 have g:∀b,H b=none->b≠e:=λb n z=>by
  simp_all
 have c:∀b u,H b∣u-> ¬ Mut (some u)->b≠x:=λb u q nm z=>!2
 refine%[λb u q n _ _=>k b u (g b n) q,λb u q n _ _=>%[u.slots|k b u (g b n) q],λb u q n _=>(aj (j b n))▸n,λb u q _=>?_,
  λb xs q=>(aj (c b _ q λz=>z))▸q,λb u xs q=>(aj (c b _ q λz=>z))▸q|λb ps q=>%[#[]|by rw[aj (c b _ q λz=>z),q];simp]]
 by_cases d:b=e
 .simp_all
 .exact%[u|k b u d q]
end
abbrev trk(h:Heap)(H:Hp):List Addr:=(List.range h.objs.size).filter λa=>(H a).isSome
abbrev yg(h:Heap)(H:Hp):Heap:=hideAll h (trk h H)
def yh(h:Heap)(H:Hp):(yg h H).objs.size=h.objs.size:=PySem.W.hideAll_size _ _
def zM(e:h.get? b∣o)(n:H b=none):(yg h H).get? b∣o:=
 hideAll_get _ e λa=>by
  have q:=(List.mem_filter.mp a).2;rw[n]at q;simp at q
def Ch(e:(yg h H).get? b∣o):h.get? b∣o/\H b=none:=by
 have a:=of_hideAll _ e;refine%[a|?_];cases q:H b with
 | none=>rfl
 | some x=>
   have z:(yg h H).get? b=none:=PySem.W.hideAll_none _ (List.mem_filter.mpr %[mem_range.mpr (Zu a)|by simp[q]])
   grind
abbrev Ci(g h:Heap)(L:Addr):ZF:=(List.range h.objs.size).filterMap λa=>if a=L\/(g.get? a).isSome=true then none else(h.get? a).map λo=>(a,o)
abbrev rest(g h:Heap)(L d:Addr):ZF:=(Ci g h L).filter λp=>decide (p.1≠d)
structure Mod (K:ZB) (mg:ZD) (base:Heap):Prop where
 kin:K.In base
 glob:base.Ns mainGlobals mg
 blt:∃mb,base.Ns builtinsNs mb/\∀x:Str,x≠"__name__"->mb x=bootBuiltins x
 nolimit:base.NoLimit
structure Cx where
 prog:Program
 w:World
 K:ZB
 mg:Str->Option Value
 base:Heap
 A:Around
 N:ZC
 s₀:Shared
 H₀:Hp
 env:Env
 outer:List Env
 stack:List Env
 ex:List Addr
 fn:Str->Bool
 calm:Bool
 pn:ZF
 xe:Value->Shared->Prop
abbrev frs(l:List Env):List Addr:=l.filterMap (·.frame)
noncomputable abbrev Cx.fs(X:Cx):List Addr:=frs X.outer
abbrev Vis(a:Scope)(x:Str):Prop:=a.names.lookup x∣.local\/a.names.lookup x∣.cell\/a.names.lookup x∣.free
abbrev Loc(a:Scope)(x:Str):Prop:=a.names.lookup x∣.local\/a.names.lookup x∣.cell
abbrev Look(env:Env)(h:Heap)(m:ZD)(x:Str)(u:Value):Prop:=
 (env.kindOf x∣.local/\m x∣u)\/((env.kindOf x∣.cell\/env.kindOf x∣.free)/\∃c,env.cells.lookup x∣c/\h.IsCell c (some u))
structure Cx.Ok (X:Cx):Prop where
 mod:Mod X.K X.mg X.base
 kind:X.env.scope.kind= .function
 glob:X.env.globals=mainGlobals
 blt:X.env.builtins=builtinsNs
 above:X.s₀.heap.objs.size<=X.env.locals
 inj:∀x y c,X.env.cells.lookup x∣c->X.env.cells.lookup y∣c->x=y
 has:∀x,(X.env.kindOf x∣.cell\/X.env.kindOf x∣.free)->∃c,X.env.cells.lookup x∣c
 cab:∀x c,X.fn x=true->X.env.cells.lookup x∣c->X.s₀.heap.objs.size<=c
 hd:X.calm=true->X.A.handled=none
 frames:X.A.frames∣X.stack
 stk:X.stack=X.outer\/(X.stack=X.env::X.outer/\X.env.frame∣X.env.locals)
 exf:∀b∈X.ex,b≠X.env.locals/\∀x c,X.env.cells.lookup x∣c->c≠b
 bs:∀b o,X.base.get? b∣o->X.s₀.heap.get? b∣o/\X.H₀ b=none
 bsz:X.base.objs.size<=X.s₀.heap.objs.size
 noex:∀b o,X.base.get? b∣o->b∉X.ex
 exfs:∀b∈X.ex,b∉X.fs
 funs:X.s₀.heap.FunFrames X.base X.outer
 frf:∀b∈X.fs,X.H₀ b=none
structure Inv (X:Cx) (pins:List _) (σ:List _) (H:Hp) (s:Shared):Prop where
 ok:X.Ok
 os:s.os=X.s₀.os
 bare:AllBare s.gens
 base:Un X.fs X.ex X.H₀ H X.s₀.heap s.heap
 loc:∃m,s.heap.Ns X.env.locals m/\∀(i:Nat) x v,X.N[i]?∣x->σ[i]?∣some v->Vis X.env.scope x->∃u,aV v u/\Look X.env s.heap m x u
 cell:∀x c,X.env.cells.lookup x∣c->∃v,s.heap.IsCell c v
 free:H X.env.locals=none
 freeC:∀x c,X.env.cells.lookup x∣c->H c=none
 pin:∀p∈X.pn++pins,s.heap.get? p.1∣p.2/\H p.1=none/\p.1≠X.env.locals/\p.1∉X.fs/\∀v,p.2.data≠ .cell v
 hok:HOk X.prog X.w H s.heap
 len:σ.length= ~~~X.N
section
variable{X:Cx}{pins:ZF}{σ:List (Option V)}{H H':Hp}{s:Shared}{h':Heap}
def Cx.Ok.nofr(ok:X.Ok)(e:X.base.get? b∣o):b∉X.fs:=λa=>by
 have:=(ok.funs.mem a).1
 grind
def Inv.bs(I:Inv X pins σ H s):∀b o,X.base.get? b∣o->s.heap.get? b∣o/\H b=none:=λb o e=>
 %[I.base.keep b o (I.ok.bs b o e).1 (I.ok.bs b o e).2 (I.ok.nofr e) (I.ok.noex b o e)|I.base.free b o (I.ok.bs b o e).1 (I.ok.bs b o e).2 (I.ok.noex b o e)]
def Inv.bk(I:Inv X pins σ H s):∀b o,X.base.get? b∣o->s.heap.get? b∣o:=λb o e=>(I.bs b o e).1
def Inv.mod(I:Inv X pins σ H s):Mod X.K X.mg X.base:=I.ok.mod
def Inv.kIn(I:Inv X pins σ H s):X.K.In s.heap:=I.ok.mod.kin.keeps I.bk
def Inv.lt(I:Inv X pins σ H s):X.env.locals<⇑s:=let⟨_,a,_⟩:=I.loc;a.lt
def Inv.sz(I:Inv X pins σ H s):X.s₀.heap.objs.size<=⇑s:=Ye I.ok.above (Yc I.lt)
def Inv.nofs(I:Inv X pins σ H s)(h:⇑s<=a):a∉X.fs:=λb=>by
 have%[_,o,c|_]:=I.ok.funs.mem b;exact absurd (Zg (Zu c) (Ye I.sz h)) (Xg _)
def Inv.cne(I:Inv X pins σ H s):∀x c,X.env.cells.lookup x∣c->c≠X.env.locals:=λx c e z=>by
 have%[v,o,d|f]:=I.cell x c e;have%[m,%[g,h,i,a,b|_]|_]:=I.loc
 grind
def Inv.funs(I:Inv X pins σ H s):s.heap.FunFrames X.base X.outer:=by
 have all:∀l,(∀b∈frs l,b∈X.fs)->X.s₀.heap.FunFrames X.base l->s.heap.FunFrames X.base l:=by
  intro l
  induction l with
  | nil=>intro _ _;trivial
  | cons env r g=>
    intro f h;have%[i,%[L,o,a,j,m|n]|p]:=h;have c:=f L (by unfold frs;rw[Y1,a];exact Zm);have%[q|e]:=I.base.slot L o m (I.ok.frf L c) c λz=>I.ok.exfs L z c
    exact%[i,%[L,_,a,j,e|n]|g (λb d=>f b (by unfold frs;rw[Y1,a];exact Zk _ d)) p]
 exact all X.outer (λ_ d=>d) I.ok.funs
def Inv.stack(I:Inv X pins σ H s):s.heap.FunFrames X.base X.stack:=by
 rcases I.ok.stk with e|⟨e,a⟩
 .exact e▸I.funs
 .rw[e];have%[m,b|_]:=I.loc;exact .cons (by rw[I.ok.kind];decide) a b (Heap.get?_none_of_le (Ye I.ok.bsz I.ok.above)) I.funs
def Inv.stkSub(I:Inv X pins σ H s):∀b∈frs X.stack,b∈X.env.locals::X.fs:=λb a=>by
 rcases I.ok.stk with e|⟨e,c⟩
 .rw[e]at a;exact Zk _ a
 .rw[e]at a;unfold frs at a;rw[Y1,c]at a;exact a
def Inv.stkFree(I:Inv X pins σ H s):∀b∈frs X.stack,H b=none:=λb a=>by
 rcases mem_cons.mp (I.stkSub b a)with e|a
 .exact e▸I.free
 .have%[_,o,c|_]:=I.ok.funs.mem a;exact I.base.free b o c (I.ok.frf b a) λz=>I.ok.exfs b z a
def Inv.step{d':Drawn}{ch:List Addr}(I:Inv X pins σ H s)
 (f:∀b∈ch,(b∈X.ex\/X.s₀.heap.objs.size<=b)/\b≠X.env.locals/\(∀x c,X.env.cells.lookup x∣c->c≠b)/\∀p∈X.pn++pins,p.1≠b)
 (keep:∀b o,b≠X.env.locals->b∉X.fs->b∉ch->s.heap.get? b∣o->H b=none->h'.get? b∣o)
 (slot:∀b o,b≠X.env.locals->b∈X.fs->b∉ch->s.heap.get? b∣o->H b=none->∃G,h'.get? b=some {o with slots:=G}) (free:∀b o,b∉ch->s.heap.get? b∣o->H b=none->H' b=none)
 (there:∀b o,b∉ch->s.heap.get? b∣o->∃B,h'.get? b∣B)
 (tups:∀b xs,H b&&&xs->H' b&&&xs) (frzs:∀b o u,H b∣.frz o u->H' b∣.frz o u) (tbls:∀b ps,H b∣.tbl ps->∃more,H' b∣.tbl (ps++more))
 (T:∀m,s.heap.Ns X.env.locals m->h'.Ns X.env.locals m) (J:HOk X.prog X.w H' h') (U:AllBare g'):
 Inv X pins σ H' {s with heap:=h',gens:=g',drawn:=d',toks:=t'}:=by
 have C:∀b o,X.s₀.heap.get? b∣o->b≠X.env.locals:=λb o e=>Zs (Zg (Zu e) I.ok.above)
 have j:∀b o,X.s₀.heap.get? b∣o->b∉X.ex->b∉ch:=λb o e a y=>by
  rcases(f b y).1 with z|z
  .exact a z
  .exact absurd (Zg (Zu e) z) (Xg _)
 have g:∀x c,X.env.cells.lookup x∣c->∀v,s.heap.IsCell c v->h'.IsCell c v:=λx c e v ⟨o,A,L⟩=>by
  have h:=λz=>(f c z).2.2.1 x c e rfl
  by_cases N:c∈X.fs
  .have%[G|q]:=slot c o (I.cne x c e) N h A (I.freeC x c e);exact%[_,q|L]
  .exact%[o,keep c o (I.cne x c e) N h A (I.freeC x c e)|L]
 refine%[I.ok,I.os,U,%[λb o e n y a=>?_,λb o e n y a=>?_,λb o e n a=>?_,λb o e a=>?_,λb xs e=>tups b xs (I.base.tups b xs e),λb o xs e=>frzs b o xs (I.base.frzs b o xs e)|λb ps e=>?_],?_,λx c e=>?_,?_,λx c e=>?_,λp O=>?_,J|I.len]
 .exact keep b o (C b o e) y (j b o e a) (I.base.keep b o e n y a) (I.base.free b o e n a)
 .have%[G|w]:=I.base.slot b o e n y a;have%[M|E]:=slot b _ (C b o e) y (j b o e a) w (I.base.free b o e n a);exact%[M|E]
 .have%[B|w]:=I.base.there b o e a;exact free b B (j b o e a) w (I.base.free b o e n a)
 .have%[B|w]:=I.base.there b o e a;exact there b B (j b o e a) w
 .have%[Y|w]:=I.base.tbls b ps e;have%[m2|E]:=tbls b _ w;exact%[Y++m2|by rw[E,Array.append_assoc]]
 .have%[m,hn|hl]:=I.loc;refine%[m,T m hn|λi x v w E e3=>?_];have%[u,r|l]:=hl i x v w E e3;refine%[u,r|?_];rcases l with l|⟨k,c,e,z⟩
  .exact .inl l
  .exact .inr %[k,c,e|g x c e _ z]
 .have%[v|z]:=I.cell x c e;exact%[v|g x c e v z]
 .have%[m,%[o,_,_,A|_]|_]:=I.loc;exact free _ o (λz=>(f _ z).2.1 rfl) A I.free
 .have%[v,o,A|L]:=I.cell x c e;exact free c o (λz=>(f c z).2.2.1 x c e rfl) A (I.freeC x c e)
 .have%[e,n,ne,Q|d]:=I.pin p O;have h:=λz=>(f p.1 z).2.2.2 p O rfl
  exact%[keep p.1 p.2 ne Q h e n,free p.1 p.2 h e n,ne,Q|d]
def Inv.un{t':Nat}(I:Inv X pins σ H s)(u:Un X.fs [] H H' s.heap h')(c:HOk X.prog X.w H' h'):Inv X pins σ H' {s with heap:=h',toks:=t'}:=by
 have%[m,%[o,p,q,h|r]|_]:=id I.loc;have%[v|i]:=u.any h I.free ∅;exact I.step (ch:=[]) (λ_ z=>nomatch z) (λb o _ d _ e n=>u.keep b o e n d ∅) (λb o _ d _ e n=>u.slot b o e n d ∅) (λb o _ e n=>u.free b o e n ∅) (λb o _ e=>u.there b o e ∅) u.tups u.frzs u.tbls (λw j=>by
  have%[y,f,g,a|l]:=j;rw[h]at a;cases a;exact%[_,f,g,i|l]) c I.bare
def Inv.call{d':Drawn}{ch:List Addr}(I:Inv X pins σ H s)(u:Un (frs X.stack) ch H H' s.heap h')(g:HOk X.prog X.w H' h')(q:AllBare g')
 (d:∀b∈ch,(b∈X.ex\/X.s₀.heap.objs.size<=b)/\b≠X.env.locals/\(∀x c,X.env.cells.lookup x∣c->c≠b)/\∀p∈X.pn++pins,p.1≠b):
 Inv X pins σ H' {s with heap:=h',gens:=g',drawn:=d',toks:=t'}:=by
 have%[m,%[o,A,B,l|r]|_]:=id I.loc;have%[C|h]:=u.any l I.free λz=>(d _ z).2.1 rfl
 exact I.step d (λb o h v a e n=>u.keep b o e n (λz=>(mem_cons.mp (I.stkSub b z)).elim h v) a) (λb o _ _ a e n=>u.any e n a) (λb o a e n=>u.free b o e n a) (λb o a e=>u.there b o e a) u.tups u.frzs u.tbls (λE w=>by
  have%[G,i,j,f|y]:=w;rw[l]at f;cases f;exact%[_,i,j,h|y]) g q
def Inv.turned{it:Addr}(I:Inv X pins σ H s)(k:∀b o,b≠it->s.heap.get? b∣o->h'.get? b∣o)(B:H it=none)(f:it≠X.env.locals)
 (g:it∈X.ex\/X.s₀.heap.objs.size<=it) (h:∀x c,X.env.cells.lookup x∣c->c≠it) (i:∀p∈X.pn++pins,p.1≠it):Inv X pins σ H {s with heap:=h',toks:=t'}:=by
 have d:∀b u,H b∣u->b≠it:=λb u e z=>by lia
 refine I.step (ch:=[it]) (λb j=>?_) (λb o _ _ a e _=>k b o (λz=>a (by simp[z])) e) (λb o _ _ a e _=>%[o.slots|k b o (λz=>a (by simp[z])) e]) (λ_ _ _ _ n=>n)
  (λb o a e=>%[o|k b o (λz=>a (by simp[z])) e]) (λ_ _ e=>e) (λ_ _ _ e=>e) (λb ps e=>%[#[]|by rw[e];simp]) (λm l=>?_) (λb u e=>?_) I.bare
 .have e:=↑j
  subst e;exact%[g,f,h|i]
 .have%[o,w,y,A|r]:=l;exact%[o,w,y,k _ o (Ne.symm f) A|r]
 .refine(I.hok b u e).stay (λc v a q=>k c v ?_ q) (λ_ q=>q) λ_ _ q=>q
  rcases a with z|z
  .exact z▸d b u e
  .exact d c _ z
def Inv.tok(I:Inv X pins σ H s)(t:Nat):Inv X pins σ H {s with toks:=t}:=I.un Un.refl I.hok
def Inv.kept(I:Inv X pins σ H s)(k:∀b u,s.heap.get? b∣u->h'.get? b∣u):Inv X pins σ H {s with heap:=h',toks:=t'}:=I.un (Un.kept k) (I.hok.kept k)
def Inv.laid{a:Addr}{o:HO}{t':Nat}(I:Inv X pins σ H s)(k:∀b u,s.heap.get? b∣u->h'.get? b∣u)(c:⇑s<=a)(new:bV X.prog X.w (upd H a o) h' a o):
 Inv X pins σ (upd H a o) {s with heap:=h',toks:=t'}:=I.un (Un.laid k c (I.hok.fresh c)) (I.hok.laid k c new)
def Inv.write(I:Inv X pins σ H s)(c:Mut (H x))(d:e=x\/H e∣.own x)(k:∀b u,b≠e->s.heap.get? b∣u->h'.get? b∣u)(a:∃u,h'.get? e∣u)
 (new:bV X.prog X.w (upd H x o) h' x o):Inv X pins σ (upd H x o) {s with heap:=h',toks:=t'}:=I.un (Un.write c d k a) (I.hok.write c d k a new)
def Inv.pins_of(I:Inv X pins σ H s)(h:∀p∈a,s.heap.get? p.1∣p.2/\H p.1=none/\p.1≠X.env.locals/\p.1∉X.fs/\∀v,p.2.data≠ .cell v):Inv X a σ H s:=
 %[I.ok,I.os,I.bare,I.base,I.loc,I.cell,I.free,I.freeC,λp b=>(Xj b).elim (λz=>I.pin p (Yr _ z)) (h p),I.hok|I.len]
def im{N:ZC}(c:N.Nodup){i j:Nat}{x:Str}(a:N[i]?∣x)(b:N[j]?∣x):i=j:=by
 have%[f|d]:=Xi a;have%[g|e]:=Xi b;exact(List.getElem_inj c).mp (d.trans e.symm)
def yi{A:Around}{E:ZE}{i:Nat}{x:Str}{v:V}{u:Value}{Q:Unit->Shared->Prop}(I:Inv X pins σ H s)(hN:X.N.Nodup)(hi:X.N[i]?∣x)(B:Loc X.env.scope x)(r:aV v u)
 (h:∀s',Inv X pins (σ.set i (some v)) H s'->(∃a,SameBut a s.heap s'.heap/\(a=X.env.locals\/X.env.cells.lookup x∣a))->Q () s') (hf:X.fn x=true\/X.env.scope.names.lookup x∣.local):wpAny M A (storeName X.env x u) Q E s:=by
 have%[m,hn|hl]:=id I.loc;have J:i<σ.length:=I.len▸(Xi hi).1;have cne:=I.cne;have g:∀{a:Addr} {h':Heap},(∃o,s.heap.get? a∣o/\H a=none)->SameBut a s.heap h'->HOk X.prog X.w H h':=λ{a h'} ha f b ob e=>by
  have%[_,_|C]:=ha;refine(I.hok b ob e).stay (λc w' w q=>(f.2 c ?_).trans q) (λ_ q=>q) λ_ _ q=>q
  rintro rfl;rcases w with rfl|w
  .rw[C]at e;cases e
  .rw[C]at w;cases w
 rcases B with L|L
 .refine wpAny_storeName_local L hn (λh' ac f=>?_) (by rw[I.ok.kind];rfl);have%[oL,_,_,ag|_]:=id hn;refine h _ %[I.ok,I.os,I.bare,%[λb o e n N B=>?_,λb o e n N B=>?_,I.base.free,λb o e B=>?_,I.base.tups,I.base.frzs|I.base.tbls],%[_,ac|λj y v' l G e3=>?_],λy c e=>?_,I.free,I.freeC,λp hp=>?_,g %[oL,ag|I.free] f|by simpa using I.len] %[_,f|.inl rfl]
  .exact(f.2 b (Zs (Zg (Zu e) I.ok.above))).trans (I.base.keep b o e n N B)
  .have%[sl|l]:=I.base.slot b o e n N B;exact%[sl|(f.2 b (Zs (Zg (Zu e) I.ok.above))).trans l]
  .have%[o'|l]:=I.base.there b o e B;exact%[o'|(f.2 b (Zs (Zg (Zu e) I.ok.above))).trans l]
  .by_cases O:j=i
   .subst O;rw[hi]at l;cases l;rw[List.getElem?_set_self J]at G;cases G;exact%[u,r|.inl %[L|by simp]]
   .rw[List.getElem?_set_ne (Ne.symm O)]at G;have%[u',r'|q]:=hl j y v' l G e3;refine%[u',r'|?_];rcases q with⟨k,e⟩|⟨k,c,e,z⟩
    .refine .inl %[k|?_];have:y≠x:=λe=>O (im hN l (e▸hi))
     simp[this,e]
    .exact .inr %[k,c,e|z.sameBut f (cne y c e)]
  .have%[w'|z]:=I.cell y c e;exact%[w'|z.sameBut f (cne y c e)]
  .have%[e,n,ne,nf|d]:=I.pin p hp;exact%[(f.2 p.1 ne).trans e,n,ne,nf|d]
 .have T:X.fn x=true:=by
   rcases hf with z|z
   .exact z
   .rw[z]at L;cases L
  have%[c|w]:=I.ok.has x (.inl L);have%[w'|z]:=I.cell x c w;refine wpAny_storeName_cell I.ok.kind L w z (λh' U f=>?_);have%[oc,Y|aa]:=id z;refine h _ %[I.ok,I.os,I.bare,%[λb o e n N B=>?_,λb o e n N B=>?_,I.base.free,λb o e B=>?_,I.base.tups,I.base.frzs|I.base.tbls],%[m,hn.sameBut f (Ne.symm (cne x c w))|λj y v' l G e3=>?_],λy c' e=>?_,I.free,I.freeC,λp hp=>?_,g %[oc,Y|I.freeC x c w] f|by simpa using I.len] %[c,f|.inr w]
  .exact(f.2 b (Zs (Zg (Zu e) (I.ok.cab x c T w)))).trans (I.base.keep b o e n N B)
  .have%[sl|l]:=I.base.slot b o e n N B;exact%[sl|(f.2 b (Zs (Zg (Zu e) (I.ok.cab x c T w)))).trans l]
  .have%[o'|l]:=I.base.there b o e B;exact%[o'|(f.2 b (Zs (Zg (Zu e) (I.ok.cab x c T w)))).trans l]
  .by_cases O:j=i
   .subst O;rw[hi]at l;cases l;rw[List.getElem?_set_self J]at G;cases G;exact%[u,r|.inr %[.inl L,c,w|U]]
   .rw[List.getElem?_set_ne (Ne.symm O)]at G;have%[u',r'|q]:=hl j y v' l G e3;refine%[u',r'|?_];rcases q with q|⟨k,c',e,z'⟩
    .exact .inl q
    .refine .inr %[k,c',e|z'.sameBut f ?_];rintro rfl;exact O (im hN l (I.ok.inj _ _ _ e w▸hi))
  .by_cases ab:c'=c
   .subst ab;exact%[_|U]
   .have%[w2|z2]:=I.cell y c' e;exact%[w2|z2.sameBut f ab]
  .have%[e,n,ne,nf|d]:=I.pin p hp;refine%[(f.2 p.1 ?_).trans e,n,ne,nf|d];intro q;rw[q,Y]at e;exact d w' ((Za e)▸aa)
def jE(I:Inv X pins σ H s)(a:X.N.Nodup)(hi:X.N[i]?∣x)(b:Loc X.env.scope x)(r:aV v u)
 (h:∀s',Inv X pins (σ.set i (some v)) H s'->Q () s') (c:X.fn x=true\/X.env.scope.names.lookup x∣.local):wpAny M A (storeName X.env x u) Q E s:=
 yi I a hi b r (λs' d _=>h s' d) c
def Inv.call'(I:Inv X pins σ H s)(e:s'.os=s.os)(u:Un (frs X.stack) ch H H' s.heap s'.heap)(a:HOk X.prog X.w H' s'.heap)(f:AllBare s'.gens)
 (d:∀b∈ch,(b∈X.ex\/X.s₀.heap.objs.size<=b)/\b≠X.env.locals/\(∀x c,X.env.cells.lookup x∣c->c≠b)/\∀p∈X.pn++pins,p.1≠b):Inv X pins σ H' s':=by
 have%[h',g',d',t'|g]:=s';subst e;exact I.call u a f d
end
noncomputable abbrev XK:=Value->ZJ->Hp->Prop
noncomputable abbrev St:=List (Option V)
noncomputable abbrev VK:=V->Hp->Prop
noncomputable abbrev TE:=St->Hp->VK->Prop
noncomputable abbrev TT:=St->Hp->(Bool->Hp->Prop)->Prop
noncomputable abbrev TA:=St->Hp->(List V->Hp->Prop)->Prop
structure ik where
 nx:St->Hp->Prop
 rt:VK
 bk:St->Hp->Prop:=λ_ _=>False
 ct:St->Hp->Prop:=λ_ _=>False
noncomputable abbrev TS:=ik->St->Hp->Prop
abbrev EP(X:Cx)(pins:ZF)(b:St)(Q:VK)(u:Value)(s':Shared):Prop:=∃v a,Inv X pins b a s'/\aV v u/\Q v a
abbrev TP(X:Cx)(pins:ZF)(c:St)(Q:Bool->Hp->Prop)(b:Bool)(s':Shared):Prop:=∃a,Inv X pins c a s'/\Q b a
abbrev AP(X:Cx)(pins:ZF)(b:St)(Q:List V->Hp->Prop)(us:ZG)(s':Shared):Prop:=∃vs a,Inv X pins b a s'/\aI vs us/\Q vs a
abbrev SP(X:Cx)(pins:ZF)(D:ik)(f:Flow)(s':Shared):Prop:=
 match f with
 | .next=>∃a b,Inv X pins a b s'/\D.nx a b
 | .brk=>∃a b,Inv X pins a b s'/\D.bk a b
 | .cont=>∃a b,Inv X pins a b s'/\D.ct a b
 | .ret u=>∃v a b,Inv X pins a b s'/\aV v u/\D.rt v b
abbrev PE(X:Cx)(e:Expr)(t:TE):Prop:=
 ∀pins s (a:St) H Q,Inv X pins a H s->t a H Q->(X⁻¹) (eval e X.env) (EP X pins a Q) X.xe s
abbrev PT(X:Cx)(e:Expr)(t:TT):Prop:=
 ∀pins s (a:St) H Q,Inv X pins a H s->t a H Q->(X⁻¹) (isTrue e X.env (eval e X.env)) (TP X pins a Q) X.xe s
abbrev PW(X:Cx)(e:Expr)(t:TT):Prop:=
 ∀a pins s (b:St) H Q,Inv X pins b H s->t b H Q->(X⁻¹) (isTrue e X.env a) (TP X pins b Q) X.xe s
def PW.pt{X:Cx}(h:PW X e t):PT X e t:=h _
abbrev PA(X:Cx)(b:List Expr)(t:TA):Prop:=
 ∀pos pins s (a:St) H Q,Inv X pins a H s->t a H Q->(X⁻¹) (spliced (backTo pos (starEach b X.env))) (AP X pins a Q) X.xe s
abbrev PS(X:Cx)(st:Stmt)(t:TS):Prop:=
 ∀pins s (a:St) H D,Inv X pins a H s->t D a H->(X⁻¹) (exec st X.env) (SP X pins D) X.xe s
abbrev PSs(X:Cx)(st:List Stmt)(t:TS):Prop:=
 ∀pins s (a:St) H D,Inv X pins a H s->t D a H->(X⁻¹) (execs st X.env) (SP X pins D) X.xe s
def thn{b:Type}{t:Sem b}{Q c:b->Shared->Prop}{M:Model}{A:Around}{E:ZE}{s:Shared}(h:wpAny M A t Q E s)(d:∀a s,Q a s->c a s):wpAny M A t c E s:=wpAny_mono h d λ_ _ x=>x
def thP{c d:Type}{t:Sem c}{X:Cx}{pins:ZF}{e:St}{R:d->c->Prop}{Q:d->Hp->Prop}{f:c->Shared->Prop}{M:Model}{A:Around}{E:ZE}{s:Shared}(h:wpAny M A t (λa s=>∃v b,Inv X pins e b s/\R v a/\Q v b) E s)(g:∀a s v b,Inv X pins e b s->R v a->Q v b->f a s):wpAny M A t f E s:=wpAny_mono h (λa s ⟨v,b,i,r,q⟩=>g a s v b i r q) λ_ _ x=>x
def thT{c:Type}{t:Sem c}{X:Cx}{pins:ZF}{d:St}{Q:c->Hp->Prop}{e:c->Shared->Prop}{M:Model}{A:Around}{E:ZE}{s:Shared}(h:wpAny M A t (λa s=>∃b,Inv X pins d b s/\Q a b) E s)(f:∀a s b,Inv X pins d b s->Q a b->e a s):wpAny M A t e E s:=wpAny_mono h (λa s ⟨b,i,q⟩=>f a s b i q) λ_ _ x=>x
section
variable{X:Cx}
abbrev asI(x:V)(f:Int->Prop):Prop:=match x with| .int i=>f i|_=>False
abbrev asB(x:V)(f:Bool->Prop):Prop:=match x with| .bl i=>f i|_=>False
abbrev asR(x:V)(f:Addr->Prop):Prop:=match x with| .ref i=>f i|_=>False
def GH:asI (.int i) f=f i:=rfl
def GI:asB (.bl i) f=f i:=rfl
def GJ:asR (.ref i) f=f i:=rfl
def io{x:V}{f:Int->Prop}(h:asI x f):∃i,x= .int i/\f i:=by
 cases x<;> first|exact⟨_,rfl,h⟩|exact h.elim
def mR{x:V}{f:Bool->Prop}(h:asB x f):∃i,x= .bl i/\f i:=by
 cases x<;> first|exact⟨_,rfl,h⟩|exact h.elim
def d9{x:V}{f:Addr->Prop}(h:asR x f):∃i,x= .ref i/\f i:=by
 cases x<;> first|exact⟨_,rfl,h⟩|exact h.elim
def GK:asI x f=∃i,x= .int i/\f i:=propext %[io|λ⟨_,e,q⟩=>by subst e;exact q]
def GL:asB x f=∃i,x= .bl i/\f i:=propext %[mR|λ⟨_,e,q⟩=>by subst e;exact q]
def GM:asR x f=∃i,x= .ref i/\f i:=propext %[d9|λ⟨_,e,q⟩=>by subst e;exact q]
abbrev md:Nat->TE
 | 0,some v::_,H,Q=>Q v H
 | i+1,_::a,H,Q=>md i a H Q
 | _,_,_,_=>False
def Es:md 0 (some v::a) H Q=Q v H:=rfl
def Et:md (i+1) (o::a) H Q=md i a H Q:=rfl
def zN:∀{i:Nat} {a:St},md i a H Q->∃v,a[i]?∣some v/\Q v H
 | 0,some v::_,h=>%[v,rfl|h]
 | 0,none::_,h=>h.elim
 | 0,[],h=>h.elim
 | _+1,[],h=>h.elim
 | i+1,_::a,h=>zN (i:=i) h
abbrev tC(v:V):TE:=λ_ H Q=>Q v H
def zO(n:X.N[i]?∣x)(o:Vis X.env.scope x)(f:(x==("__debug__":Str))=false)(g:(x==("__classdict__":Str))=false):PE X (.Name x pos) (md i):=by
 intro pins s p H Q I h;have%[v,e|h]:=zN h;have%[m,q|w]:=I.loc;have%[u,r|l]:=w i x v n e o;have b:EP X pins p Q u s:=%[v,H,I,r|h]
 rcases l with⟨d,y⟩|⟨d,c,j,a⟩
 .exact wpAny_Name (wpAny_loadName_local I.ok.kind d q y b) f
 .rcases d with d|d
  .exact wpAny_Name (wpAny_loadName_cell I.ok.kind d j a b) f
  .exact wpAny_Name (wpAny_loadName_free I.ok.kind d j a b g) f
def Eu{i j pos}:PE X (.Constant (.int i) j pos) (tC (.int i)):=λ_ _ _ H _ I h=>wpAny_Constant_int %[.int i,H,I.tok _,%[_|rfl]|h]
def GN{b j pos}:PE X (.Constant (.bool b) j pos) (tC (.bl b)):=λ_ _ _ H _ I h=>Constant_bool %[.bl b,H,I,rfl|h]
def Ev{j pos}:PE X (.Constant .none j pos) (tC .non):=λ_ _ _ H _ I h=>Constant_none %[.non,H,I,rfl|h]
def Ew{x j pos}:PE X (.Constant (.str x) j pos) (tC (.str x)):=λ_ _ _ H _ I h=>Calls.Constant_str %[.str x,H,I.tok _,%[_|rfl]|h]
abbrev Gl(X:Cx)(x:Str):Prop:=X.env.kindOf x∣.globalImplicit
def e9(I:Inv X pins d H s)(a:Gl X x)(b:X.mg x∣u)(h:Q u s)
 (c:(x==("__debug__":Str))=false):(X⁻¹) (eval (.Name x pos) X.env) Q E s:=
 Calls.Name_function_global I.ok.kind a (Calls.loadGlobal_global (I.ok.glob▸I.mod.glob.keeps I.bk) b h) c
def jp(I:Inv X pins i H s)(a:Gl X x)(b:X.mg x=none)(c:bootBuiltins x∣u)(h:Q u s)
 (d:x≠"__name__":=by decide) (e:(x==("__debug__":Str))=false:=by decide):(X⁻¹) (eval (.Name x pos) X.env) Q E s:=by
 have%[j,f|g]:=I.mod.blt;exact Calls.Name_function_global I.ok.kind a (Calls.loadGlobal_builtin (I.ok.glob▸I.mod.glob.keeps I.bk) b (I.ok.blt▸f.keeps I.bk) ((g x d).trans c) h) e
def Cj(a:Gl X x)(b:X.mg x∣u)(r:aV v u)(c:(x==("__debug__":Str))=false):PE X (.Name x pos) (tC v):=
 λ_ _ _ H _ I h=>e9 I a b %[v,H,I,r|h] c
def Ck(a:Gl X x)(b:X.mg x=none)(c:bootBuiltins x∣u)(r:aV v u)(d:x≠"__name__")(e:(x==("__debug__":Str))=false):PE X (.Name x pos) (tC v):=
 λ_ _ _ H _ I h=>jp I a b c %[v,H,I,r|h] d e
variable{a b:Expr}{ta tb:TE}{pos:Pos}
abbrev PC(X:Cx)(op:CmpOp)(a b:Expr)(t:TE):Prop:=
 ∀pins s (e:St) H Q,Inv X pins e H s->t e H Q->
  (X⁻¹) (eval a X.env) (λv c=>(X⁻¹) (eval b X.env) (λu d=>(X⁻¹) (compareOp op v u) (EP X pins e Q) X.xe d) X.xe c) X.xe s
def GO(b:Expr)(h:op≠ .In)(e:op≠ .NotIn):behindInMarks op b=false:=by
 have c:(op==CmpOp.In)=false:=by lia
 have d:(op==CmpOp.NotIn)=false:=by lia
 cases b<;> simp[behindInMarks,c,d]
abbrev tB(t:TE):TT:=λd H Q=>t d H λx e=>asB x λc=>Q c e
def zP{op:CmpOp}(h:PC X op a b t)(e:behindInMarks op b=false):PT X (.Compare a [op] [b] pos) (tB t):=by
 intro pins s f H Q I hw;refine wpAny_isTrue_Compare1 (thn (h pins s f H _ I hw) λv n e=>thn e λu o g=>thn g λc p ⟨x,i,j,l,m⟩=>?_) e;have%[d,rfl|q]:=mR m;cases l;exact wpAny_truthy_bool %[i,j|q]
def Ex{e:Expr}(h:PE X e t)(f:∀c,isTrue e X.env c=(do let v<-c;standAt e.pos;holding [v] (truthy v))):PT X e (tB t):=by
 intro pins s g H Q I hw;refine isTrue_plain (thP (h pins s g H _ I hw) λv n x i j l m=>?_) (f _);have%[d,rfl|q]:=mR m;cases l;exact wpAny_truthy_bool %[i,j|q]
variable{tA tB':TT}{rest:List Expr}
abbrev Cl(t u:TT):TT:=λd H Q=>t d H λc e=>if c=true then u d e Q else Q false e
abbrev tOr(t u:TT):TT:=λd H Q=>t d H λc e=>if c=true then Q true e else u d e Q
abbrev Ey(t:TT):TT:=λd H Q=>t d H λc e=>Q (!c) e
def Cm(d:PT X a tA):PW X (.BoolOp .And [a] pos) tA:=by
 intro g pins s f H Q I h;refine isTrue_and (thn (d pins s f H Q I h) λc i e=>?_);cases c with
 | true=>exact isTrue_and_nil e
 | false=>exact e
def Ez(d:PT X a tA):PW X (.BoolOp .Or [a] pos) tA:=by
 intro g pins s f H Q I h;refine isTrue_or (thn (d pins s f H Q I h) λc i e=>?_);cases c with
 | false=>exact isTrue_or_nil e
 | true=>exact e
def EA(i:PT X a tA)(j:PW X (.BoolOp .And (b::rest) pos) tB'):PW X (.BoolOp .And (a::b::rest) pos) (Cl tA tB'):=by
 intro l pins s d H Q I h;refine isTrue_and (thT (i pins s d H _ I h) λc m e f g=>?_);cases c with
 | true=>exact j l pins m d e Q f g
 | false=>exact%[e,f|g]
def GP(i:PT X a tA)(j:PW X (.BoolOp .Or (b::rest) pos) tB'):PW X (.BoolOp .Or (a::b::rest) pos) (tOr tA tB'):=by
 intro l pins s d H Q I h;refine isTrue_or (thT (i pins s d H _ I h) λc m e f g=>?_);cases c with
 | true=>exact%[e,f|g]
 | false=>exact j l pins m d e Q f g
def EB(c:PT X a tA):PT X (.UnaryOp .Not a pos) (Ey tA):=by
 intro pins s d H Q I h;exact isTrue_not (c pins s d H _ I h)
abbrev zQ(ta tb:TE):TE:=λd H Q=>ta d H λx e=>asB x λc=>if c=true then tb d e Q else Q (.bl false) e
abbrev EC(ta tb:TE):TE:=λd H Q=>ta d H λx e=>asB x λc=>if c=true then Q (.bl true) e else tb d e Q
def ED{op}(h:PE X a t):PE X (.BoolOp op [a] pos) t:=λpins s c H Q I hw=>BoolOp_one (h pins s c H Q I hw)
def EE(i:PE X a ta)(j:PE X (.BoolOp .And (b::rest) pos) tb):PE X (.BoolOp .And (a::b::rest) pos) (zQ ta tb):=by
 intro pins s e H Q I h;refine BoolOp_and (thP (i pins s e H _ I h) λv l x f g m d=>?_);have%[c,rfl|d]:=mR d;cases m;refine wpAny_truthy_bool ?_;cases c with
 | true=>exact j pins l e f Q g d
 | false=>exact%[.bl false,f,g,ρ|d]
def GQ(i:PE X a ta)(j:PE X (.BoolOp .Or (b::rest) pos) tb):PE X (.BoolOp .Or (a::b::rest) pos) (EC ta tb):=by
 intro pins s e H Q I h;refine BoolOp_or (thP (i pins s e H _ I h) λv l x f g m d=>?_);have%[c,rfl|d]:=mR d;cases m;refine wpAny_truthy_bool ?_;cases c with
 | false=>exact j pins l e f Q g d
 | true=>exact%[.bl true,f,g,ρ|d]
end
abbrev SqL(K:ZB)(H:Hp)(a:Addr)(xs:List V):Prop:=
 Rd H a (.lst xs)\/
  ∃o its n,K.lookup a∣o/\o.cls= .type "list"/\o.dict=none/\o.data= .seq its n/\its.size<=sizeLine/\aI xs its.toList
abbrev SqT(K:ZB)(H:Hp)(a:Addr)(xs:List V):Prop:=
 Rd H a (.tup xs)\/
  ∃o its n,K.lookup a∣o/\o.cls= .type "tuple"/\o.data= .seq its n/\its.size<=sizeLine/\aI xs its.toList
abbrev absV:Value->Option V
 | .none=>some .non
 | .bool b=>some (.bl b)
 | .int i _=>some (.int i)
 | .str x _=>some (.str x)
 | .bytes b _=>some (.byt b)
 | .float b _=>some (.flt b)
 | .ref a=>some (.ref a)
 | .type n=>some (.ty n)
 | _=>none
def aV.abs(r:aV x u):absV u∣x:=by
 cases x with
 | non=>cases r;rfl
 | bl _=>cases r;rfl
 | int _=>have%[t|rfl]:=r;rfl
 | str _=>have%[t|rfl]:=r;rfl
 | byt _=>have%[t|rfl]:=r;rfl
 | flt _=>have%[t|rfl]:=r;rfl
 | ref _=>cases r;rfl
 | ty _=>cases r;rfl
def aV.inj(r:aV x u)(q:aV y u):x=y:=Za (r.abs.symm.trans q.abs)
def aI.inj:∀{xs ys:List V} {us:ZG},aI xs us->aI ys us->xs=ys
 | _,_,_,.nil,.nil=>rfl
 | _,_,_,.cons r t,.cons a t'=>by rw[r.inj a,aI.inj t t']
section
#version
variable{a:Addr}{xs ys:List V}
def SqL.of{K:ZB}(h:H a<*xs):SqL K H a xs:= .inl (.inl h)
def SqT.of{K:ZB}(h:H a&&&xs):SqT K H a xs:= .inl (.inl h)
def Inv.list(I:Inv X pins σ H s)(h:SqL X.K H a xs):∃its:ZG,aI xs its/\PlainL s.heap a its.toArray/\ ~~~xs<=sizeLine:=by
 rcases h with h|⟨o,its,n,b,c,d,f,g,r⟩
 .have%[z,its,n,r|e]:=h.ok I.hok;exact%[its,r,%[_,n,e,ρ,ρ|ρ]|z]
 .refine%[its.toList,r,%[o,n,I.kIn a o b,c,d|f]|?_];have e:= ~~~r
  simp_all
def Inv.tuple(I:Inv X pins σ H s)(h:SqT X.K H a xs):∃its:ZG,aI xs its/\IsTup s.heap a its.toArray/\ ~~~xs<=sizeLine:=by
 rcases h with h|⟨o,its,n,b,c,d,f,r⟩
 .have%[z,its,r|p]:=h.ok I.hok;exact%[its,r,p|z]
 .refine%[its.toList,r,%[o,I.kIn a o b,c,n|d]|?_];have e:= ~~~r;simp only[Zb]at e
  lia
def Inv.list_inj(I:Inv X pins σ H s)(h:SqL X.K H a xs)(h':SqL X.K H a ys):xs=ys:=by
 have%[its,r,%[o,n,e,_,_|d]|_]:=I.list h;have%[its',c,%[g,i,b,_,_|d']|_]:=I.list h';rw[e]at b;cases b;rw[d]at d';injection d' with f _
 have:=congrArg Array.toList f;subst this;exact r.inj c
def Inv.tuple_inj(I:Inv X pins σ H s)(h:SqT X.K H a xs)(h':SqT X.K H a ys):xs=ys:=by
 have%[its,r,%[o,e,_,n|d]|_]:=I.tuple h;have%[its',c,%[g,b,_,i|d']|_]:=I.tuple h';rw[e]at b;cases b;rw[d]at d';injection d' with f _
 have:=congrArg Array.toList f;subst this;exact r.inj c
end
noncomputable abbrev Cx.wish(X:Cx)(E:ZE):Cx:={X with xe:=E}
noncomputable abbrev Cx.nox(X:Cx):Cx:=X.wish λ_ _=>False
def Cx.Ok.wish{X:Cx}(ok:X.Ok)(E:ZE):(X.wish E).Ok:=
 %[ok.mod,ok.kind,ok.glob,ok.blt,ok.above,ok.inj,ok.has,ok.cab,ok.hd,ok.frames,ok.stk,ok.exf,ok.bs,ok.bsz,ok.noex,ok.exfs,ok.funs|ok.frf]
def Cx.Ok.unwish{X:Cx}{E:ZE}(ok:(X.wish E).Ok):X.Ok:=
 %[ok.mod,ok.kind,ok.glob,ok.blt,ok.above,ok.inj,ok.has,ok.cab,ok.hd,ok.frames,ok.stk,ok.exf,ok.bs,ok.bsz,ok.noex,ok.exfs,ok.funs|ok.frf]
section
#version
variable{E:ZE}
def Inv.wish(I:Inv X pins σ H s)(E:ZE):Inv (X.wish E) pins σ H s:=%[I.ok.wish E,I.os,I.bare,I.base,I.loc,I.cell,I.free,I.freeC,I.pin,I.hok|I.len]
def Inv.unwish(I:Inv (X.wish E) pins σ H s):Inv X pins σ H s:=%[I.ok.unwish,I.os,I.bare,I.base,I.loc,I.cell,I.free,I.freeC,I.pin,I.hok|I.len]
def SP.unwish{D:ik}{f:Flow}{s':Shared}(h:SP (X.wish E) pins D f s'):SP X pins D f s':=by
 cases f with
 | next=>have%[a,b,I|q]:=h;exact%[a,b,I.unwish|q]
 | brk=>have%[a,b,I|q]:=h;exact%[a,b,I.unwish|q]
 | cont=>have%[a,b,I|q]:=h;exact%[a,b,I.unwish|q]
 | ret u=>have%[v,a,b,I,r|q]:=h;exact%[v,a,b,I.unwish,r|q]
def PSs.nox{st:List Stmt}(h:PSs X.nox st t):PSs X st t:=λpins s σ H D I hw=>
 wpAny_mono (h pins s σ H D (I.wish _) hw) (λ_ _ q=>q.unwish) λ_ _ z=>False.elim z
end
section
variable{X:Cx}{st:Stmt}{rest:List Stmt}{t u:TS}{e:Expr}{te:TE}{pos:Pos}
abbrev zR:TS:=λD a H=>D.nx a H
abbrev br(t u:TS):TS:=λD a H=>t {D with nx:=u D} a H
def Cn:PSs X [] zR:=λ_ _ a H _ I h=>wpAny_execs_nil %[a,H,I|h]
def zS(b:PS X st t)(c:PSs X rest u):PSs X (st::rest) (br t u):=by
 intro pins s d H D I h;refine wpAny_execs_cons (thn (b pins s d H _ I h) λf g q=>?_);cases f with
 | next=>
   have%[a,i,j|q]:=q;exact c pins g a i D j q
 | ret v=>exact q
 | brk=>exact q
 | cont=>exact q
def Co(a:PS X st t):PSs X [st] t:=by
 intro pins s b H D I h;refine wpAny_execs_cons (thn (a pins s b H D I h) λf c q=>?_);cases f with
 | next=>exact wpAny_execs_nil q
 | ret v=>exact q
 | brk=>exact q
 | cont=>exact q
def Inv.quiet{pins:List _}{a:St}{H:Hp}{s:Shared}(I:Inv X pins a H s):interactive X.env=false:=by simp[interactive,I.ok.kind]
abbrev jF(te:TE):TS:=λD a H=>te a H λ_ b=>D.nx a b
def Cp(b:PE X e te)(c:swapsWith e none pos.line X.env=pure false):PS X (.Expr e pos) (jF te):=by
 intro pins s a H D I h;exact wpAny_Expr_any (thP (b pins s a H _ I h) λv i x d f j g=>%[a,d,f|g]) I.quiet c
abbrev jG(te:TE):TS:=λD a H=>te a H D.rt
def EF(b:PE X e te):PS X (.Return (some e) pos) (jG te):=by
 intro pins s a H D I h;exact wpAny_Return_some (thP (b pins s a H _ I h) λv i x c d f g=>%[x,a,c,d,f|g])
abbrev jH(c:TT)(t u:TS):TS:=λD a H=>c a H λb d=>if b=true then t D a d else u D a d
def GR{c:Expr}{a b:List Stmt}(m:PT X c n)(o:PSs X a t)(p:PSs X b u):PS X (.If c a b pos) (jH n t u):=by
 intro pins s f H D I h;refine wpAny_If (thT (m pins s f H _ I h) λd g i j l=>?_);cases d with
 | true=>exact o pins g f i D j l
 | false=>exact p pins g f i D j l
abbrev zT:TS:=λ_ _ _=>False
def zU:PS X st zT:=λ_ _ _ _ _ _ h=>h.elim
end
noncomputable abbrev TG:=V->St->Hp->(St->Hp->Prop)->Prop
noncomputable abbrev TGs:=List V->St->Hp->(St->Hp->Prop)->Prop
abbrev PG(X:Cx)(a:Expr)(t:TG):Prop:=
 ∀pins s (c:St) H v u Q,Inv X pins c H s->aV v u->t v c H Q->
  (X⁻¹) (assign a X.env u) (λ_ s'=>∃b d,Inv X pins b d s'/\Q b d) X.xe s
abbrev PGs(X:Cx)(ts:List Expr)(t:TGs):Prop:=
 ∀pins s (b:St) H vs us Q,Inv X pins b H s->aI vs us->t vs b H Q->
  (X⁻¹) (assignInOrder ((assignEach ts X.env)\2) us) (λ_ s'=>∃a c,Inv X pins a c s'/\Q a c) X.xe s
section
variable{X:Cx}{pos:Pos}
abbrev jd(i:Nat):TG:=λv a H Q=>Q (a.set i (some v)) H
def Cq(a:X.N.Nodup)(hi:X.N[i]?∣x)(b:Loc X.env.scope x)(c:X.fn x=true\/X.env.scope.names.lookup x∣.local):PG X (.Name x pos) (jd i):=by
 intro pins s e H v u Q I r h;exact wpAny_assign_Name (jE I a hi b r (λs' d=>%[_,H,d|h]) c)
abbrev EG:TGs:=λvs a H Q=>vs=[]/\Q a H
abbrev zV(t:TG)(u:TGs):TGs:=λvs b H Q=>∃v r,vs=v::r/\t v b H λa c=>u r a c Q
def Cr:PGs X [] EG:=by
 intro pins s a H vs us Q I r h;have%[e|h]:=h;exact assignInOrder_nil %[a,H,I|h]
def zW{e:Expr}{u:TGs}(c:PG X e t)(d:PGs X a u)
 (f:(assignEach (e::a) X.env)\2=assign e X.env::(assignEach a X.env)\2):PGs X (e::a) (zV t u):=by
 intro pins s g H vs us Q I r h;have%[v,o,i|h]:=h;subst i;cases r with
 | cons r rr=>
   rw[f];exact assignInOrder_cons (thn (c pins s g H _ _ _ I r h) λ_ j ⟨b,l,m,n⟩=>d pins j b l _ _ Q m rr n)
abbrev Cs(K:ZB)(n:Nat)(t:TGs):TG:=λv b H Q=>asR v λa=>∃xs,SqT K H a xs/\ ~~~xs=n/\t xs b H Q
def EH(g:X.calm=true)(h:PGs X c t)
 (i: ~~~(assignEach c X.env)=n) (d:(assignEach c X.env).findIdx? (·.1)=none):PG X (.Tuple c k pos) (Cs X.K n t):=by
 intro pins s j H v u Q I r hw;have%[a,l,xs,m,p|hw]:=d9 hw;clear ‹Cs _ _ _ _ _ _ _›;subst l;cases r;have%[its,f,q|y]:=I.tuple m;exact assign_Tuple_tuple (I.ok.hd g) q (by simp[i,<-p,~~~f]) d λh' w=>h pins _ j H xs _ Q (I.kept λb o e=>w b o (Zs (Zu e)) e) (f) hw
abbrev rG(b:TE)(g:TG):TS:=λD a H=>b a H λx c=>g x a c D.nx
def EI{a e:Expr}{g:TG}(c:PE X e d)(f:PG X a g)(i:swapsWithSole [a] e pos.line X.env=pure false)(hw:swappedStores [a] e X.env=pure none)
 (j:(assignEach [a] X.env)\2=[assign a X.env]):PS X (.Assign [a] e pos) (rG d g):=by
 intro pins s b H D I h;refine wpAny_Assign_stores (thP (c pins s b H _ I h) λv l x m n o p=>?_) i hw;rw[j];exact thn (f pins l b m x v _ n o p) λ_ r q=>q
def zX{i:Nat}{x:Str}{e:Expr}(b:X.N.Nodup)(hi:X.N[i]?∣x)(c:Loc X.env.scope x)(d:PE X e f)(g:swapsWith e (some (.Name x a)) pos.line X.env=pure false)(j:X.fn x=true\/X.env.scope.names.lookup x∣.local):
 PS X (.Assign [.Name x a] e pos) (rG f (jd i)):=by
 intro pins s l H D I h;exact wpAny_Assign_Name (thP (d pins s l H _ I h) λv r y m n o p=>jE n b hi c o (λu q=>%[_,m,q|p]) j) g
abbrev zY(c:TT)(h:TS):TS:=λD a H=>∃W:Nat->St->Hp->Prop,(∃m,W m a H)/\∀m a H,W m a H->
 c a H λb e=>if b=true then∃N:St->Hp->Prop,(∀d f,N d f->∃g,g<m/\W g d f)/\h {D with nx:=N,ct:=N,bk:=D.nx} a e else D.nx a e
def zZ(w:PassesOwn (model X.prog X.w) X.A X.env X.xe)(E:PT X c G)(J:PSs X e L):PS X (.While c e [] pos) (zY G L):=by
 intro pins s M H D I h;have%[W,%[O|Q]|g]:=h;refine wpAny_While (codeAny_whileLoop (λn s'=>∃i y,Inv X pins i y s'/\W n i y) ?_ O %[M,H,I|Q]);intro n T %[d,z,U|Y];refine wpAny_passesOwn w (thT (E pins T d z _ U (g n d z Y)) λb s2 A B l=>?_);cases b with
 | true=>
   have%[N,C|l]:=l;refine wpAny_passesOwn w (thn (J pins s2 d A _ B l) λf s3 m=>?_);cases f with
   | next=>
     have%[a,j,o|p]:=m;have%[q,r|u]:=C a j p;exact%[q,r,a,j,o|u]
   | cont=>
     have%[a,j,o|p]:=m;have%[q,r|u]:=C a j p;exact%[q,r,a,j,o|u]
   | brk=>exact m
   | ret v=>exact m
 | false=>
   exact wpAny_execs_nil %[d,A,B|l]
end
structure It where
 go:Nat->Hp->Prop
 yld:Nat->Hp->V->Hp->Prop
 stop:Nat->Hp->Prop
abbrev mf(X:Cx)(pins:ZF)(H:Hp)(b:Addr):Prop:=
 H b=none/\b≠X.env.locals/\b∉X.fs/\(b∈X.ex\/X.s₀.heap.objs.size<=b)/\(∀x c,X.env.cells.lookup x∣c->c≠b)/\∀p∈X.pn++pins,p.1≠b
def Inv.fpOk{X:Cx}(I:Inv X pins h H s)(a:⇑s<=b)(d:f b=none):mf X pins f b:=by
 refine%[d,Yw (Zg I.lt a),I.nofs a,.inr (Ye I.sz a),λx c e z=>?_|λp g z=>?_]
 .have%[v|q]:=I.cell x c e;exact absurd (Zg q.lt (z▸a)) (Xg _)
 .exact absurd (Zg (Zu (I.pin p g).1) (z▸a)) (Xg _)
structure pA (P:Program) (w:World) (K:ZB) (tg:Expr) (J:It) (fp:List Addr) (it:Addr) (tn:Nat->Heap->Prop):Prop where
 mem:it∈fp
 obj:∀i h,tn i h->∀b∈fp,∃o,h.get? b∣o/\∀v,o.data≠ .cell v
 keep:∀i h h',tn i h->(∀b∈fp,∀o,h.get? b∣o->h'.get? b∣o)->tn i h'
 item:∀(X:Cx),X.prog=P->X.w=w->X.K=K->X.calm=true->∀i (pins:ZF) s (σ:St) H (E:ZE),Inv X pins σ H s->(∀b∈fp,mf X pins H b)->tn i s.heap->J.go i H->
  wpAny (model P w) X.A (pyNext (.ref it)) (λr s1=>∃u,r∣u/\
   wpAny (model P w) X.A (letOwnedTupleGo tg (.ref it) u) (λ_ s2=>∃x H',Inv X pins σ H' s2/\aV x u/\J.yld i H x H'/\tn (i+1) s2.heap/\∀b∈fp,H' b=none) E s1) E s
 done:∀X,X.prog=P->X.w=w->X.K=K->X.calm=true->∀i pins s (σ:St) H E,Inv X pins σ H s->(∀b∈fp,mf X pins H b)->tn i s.heap->J.stop i H->
  wpAny (model P w) X.A (pyNext (.ref it)) (λr s1=>r=none/\Inv X pins σ H s1) E s
 self:∀A i s Q E,tn i s.heap->Q (.ref it) s->wpAny (model P w) A (pyIter (.ref it)) Q E s
noncomputable abbrev TI:=St->Hp->(It->Hp->Prop)->Prop
abbrev PIE(X:Cx)(pins:ZF)(g:St)(h:Expr)(R:It->Hp->Prop)(a:Value)(d:Shared):Prop:=
 ∃it e f J c,a= .ref it/\Inv X pins g c d/\pA X.prog X.w X.K h J e it f/\f 0 d.heap/\(∀b∈e,mf X pins c b)/\R J c
abbrev PI(X:Cx)(b iter:Expr)(c:TI):Prop:=
 ∀pins s (a:St) H R,Inv X pins a H s->c a H R->
  (X⁻¹) (eval iter X.env) (λv d=>(X⁻¹) (pyIter v) (PIE X pins a b R) X.xe d) X.xe s
def pT(b:s.heap.get? it∣o)(c:o.cls= .type n)(d:o.data= .fields vs)
 (e:["enumerate","zip","dict_itemiterator","dict_reverseitemiterator","odict_iterator","itertools.zip_longest","itertools.pairwise"].contains n=false) (a:Q () s):wpAny M A (letOwnedTupleGo f (.ref it) u) Q E s:=by
 cases f<;> first
  | exact Z3 a
  |(cases u<;> first
   | exact Z3 a
   |(refine Z2 (wpAny_load b ?_)
     rw[c,d];show wpAny M A (if(["enumerate","zip","dict_itemiterator","dict_reverseitemiterator","odict_iterator","itertools.zip_longest","itertools.pairwise"].contains n&&vs[0]? ==some _)=true then _ else _) Q E s;rw[if_neg (by intro h;rw[e,Bool.false_and]at h;cases h)];exact Z3 a))
abbrev Itl(K:ZB)(a:Addr):It:=
 ⟨λi H=>∃xs x,SqL K H a xs/\xs[i]?∣x,λi H x b=>b=H/\∀xs,SqL K H a xs->xs[i]?∣x,λi H=>∃xs,SqL K H a xs/\ ~~~xs<=i⟩
abbrev Itt(K:ZB)(a:Addr):It:=
 ⟨λi H=>∃xs x,SqT K H a xs/\xs[i]?∣x,λi H x b=>b=H/\∀xs,SqT K H a xs->xs[i]?∣x,λi H=>∃xs,SqT K H a xs/\ ~~~xs<=i⟩
abbrev Itr(lo:Int)(n:Nat):It:=%[λi _=>i<n,λi H x a=>a=H/\x= .int (lo+i)|λi _=>n<=i]
def pU{P:Program}{K:ZB}(a it:Addr):pA P w K tg (Itl K a) [it] it (λi h=>h.IsListIter it a i) where
 mem:=by simp
 obj:=λi h st b hb=>by
  have e:=↑hb
  subst e;have%[o,e,c|d]:=st;exact%[o,e|λv z=>by rw[d]at z;cases z]
 keep:=λi h h' st k=>st.at λo e=>k it ∅ o e
 item:=by
  intro X hP hw hK hc i pins s σ H E I hf st hg;subst hP hw hK;have%[xs,x,hq|hx]:=hg;have%[its,rv,p|hz]:=I.list hq;have%[u,hu|ru]:=rv.get hx;have%[f0,f1,f2,f3,f4|f5]:=hf it ∅;refine wpAny_pyNext_list_item st p.isList ↑hu λh' st' sb=>?_
  have%[o,e,c|d]:=id st';exact%[u,ρ|pT e c d (!1) %[x,H,(I.turned (λb o hb e=>(sb.2 b hb).trans e) f0 f1 f3 f4 f5),ru,%[ρ|λys hy=>(I.list_inj hy hq)▸hx],st'|λb hb=>(hf b hb).1]]
 done:=by
  intro X hP hw hK hc i pins s σ H E I hf st hg;subst hP hw hK;have%[xs,hq|hx]:=hg;have%[its,rv,p|hz]:=I.list hq;have%[f0,f1,f2,f3,f4|f5]:=hf it ∅;have hl:= ~~~rv;exact wpAny_pyNext_list_end (I.ok.hd hc) st p.isList (by simp;lia) λh' eb=>%[rfl|I.turned (λb o hb e=>eb b o hb e) f0 f1 f3 f4 f5]
 self:=λ_ _ _ _ _ st h=>wpAny_pyIter_listiter st h
def vD{P:Program}{K:ZB}(a it:Addr):pA P w K tg (Itt K a) [it] it (λi h=>h.IsTupleIter it a i) where
 mem:=by simp
 obj:=λi h st b hb=>by
  have e:=↑hb
  subst e;have%[o,e,c|d]:=st;exact%[o,e|λv z=>by rw[d]at z;cases z]
 keep:=λi h h' st k=>st.at λo e=>k it ∅ o e
 item:=by
  intro X hP hw hK hc i pins s σ H E I hf st hg;subst hP hw hK;have%[xs,x,hq|hx]:=hg;have%[its,rv,p|hz]:=I.tuple hq;have%[u,hu|ru]:=rv.get hx;have%[f0,f1,f2,f3,f4|f5]:=hf it ∅;refine wpAny_pyNext_tuple_item st (p) ↑hu λh' st' sb=>?_
  have%[o,e,c|d]:=id st';exact%[u,ρ|pT e c d (!1) %[x,H,(I.turned (λb o hb e=>(sb.2 b hb).trans e) f0 f1 f3 f4 f5),ru,%[ρ|λys hy=>(I.tuple_inj hy hq)▸hx],st'|λb hb=>(hf b hb).1]]
 done:=by
  intro X hP hw hK hc i pins s σ H E I hf st hg;subst hP hw hK;have%[xs,hq|hx]:=hg;have%[its,rv,p|hz]:=I.tuple hq;have%[f0,f1,f2,f3,f4|f5]:=hf it ∅;have hl:= ~~~rv;exact wpAny_pyNext_tuple_end (I.ok.hd hc) st (p) (by simp;lia) λh' eb=>%[rfl|I.turned (λb o hb e=>eb b o hb e) f0 f1 f3 f4 f5]
 self:=λ_ _ _ _ _ st h=>wpAny_pyIter_tupleiter st h
def vE{P:Program}{K:ZB}(it:Addr)(lo:Int)(n:Nat):pA P w K tg (Itr lo n) [it] it (λi h=>IsRangeIter h it (lo+(i:Nat)*1) ((n:Int) -(i:Nat)) 1) where
 mem:=by simp
 obj:=λi h st b hb=>by
  simp_all
 keep:=λi h h' st k=>k it ∅ _ st
 item:=by
  intro X hP hw hK hc i pins s σ H E I hf st hg;subst hP hw hK;have%[f0,f1,f2,f3,f4|f5]:=hf it ∅;refine(Walks.range (prog:=X.prog) (w:=X.w) (I.ok.hd hc) it lo 1 n).item i s _ _ hg st λv h' tk hv st' kk=>?_
  have%[t|rfl]:=hv;refine%[_,ρ|pT st' rfl rfl (!1) %[.int _,H,(I.turned (λb o hb e=>kk b o ↑hb e) f0 f1 f3 f4 f5),%[t|?_],%[ρ|ρ],st'|λb hb=>(hf b hb).1]];rw[Int.mul_one]
 done:=by
  intro X hP hw hK hc i pins s σ H E I hf st hg;have%[f0,f1,f2,f3,f4|f5]:=hf it ∅;exact wpAny_pyNext_range_end (I.ok.hd hc) st (by have:n<=i:=hg;lia) λh' eb=>%[rfl|I.turned (λb o hb e=>eb b o hb e) f0 f1 f3 f4 f5]
 self:=λ_ _ _ _ _ st h=>wpAny_pyIter_rangeiter st h
section
variable{X:Cx}{tg:Expr}
def z0{R:It->Hp->Prop}{lo hi:Int}(I:Inv X pins c H s)(d: -(2^62)<=lo)(f:lo<2^62)(g: -(2^62)<=hi)(h:hi<2^62)
 (q:R (Itr lo (hi-lo).toNat) H):(X⁻¹) (pyIter (.ref ⇑s)) (PIE X pins c tg R) E {s with heap:=s.heap.push {cls:= .type "range",data:= .fields #[.int lo t,.int hi u,.int 1 v]},toks:=tk}:=by
 refine wpAny_pyIter_range (IsRange.new ..) (small_one d f g h) ?_;have a:Inv X pins c H {s with heap:=s.heap.push {cls:= .type "range",data:= .fields #[.int lo t,.int hi u,.int 1 v]},toks:=tk}:=I.kept λb o e=>Z7 _ e
 refine%[(s.heap.push _).objs.size,[(s.heap.push _).objs.size],_,_,H,ρ,
  a.kept λb o e=>Z7 _ e,vE _ lo _,?_,λb i=>?_|q]
 .have j:lo+((0:Nat))*1=lo:=by simp
  have l:(((hi-lo).toNat)) -((0:Nat))=Builtin.Range.rangeSize lo hi 1:=by rw[rangeSize_one];split<;> lia
  rw[j,l];exact Zj _ rfl
 .have e:b=(s.heap.push {cls:= .type "range",data:= .fields #[.int lo t,.int hi u,.int 1 v]}).objs.size:=↑i
  subst e;exact a.fpOk (Zi _) (a.hok.fresh (Zi _))
abbrev z1(a:TA):TI:=λb H R=>a b H λvs c=>∃j:Int,vs=[.int j]/\ -(2^62)<=j/\j<2^62/\R (Itr 0 j.toNat) c
def yj{a:Expr}(c:Gl X "range")(d:X.mg "range"=none)(f:PA X [a] g)(i:starEach [a] X.env=[(false,eval a X.env)]):PI X tg (.Call (.Name "range" p) [a] [] pos) (z1 g):=by
 intro pins s l H R I h;refine Call_ (jp I c d boot_range (PyProof.Rows.callWith_type1 (thP (f pos pins s l H _ I h) λus u vs v m n b=>?_) i rfl));have%[j,e,b,o|q]:=b;subst e;cases n with
 | cons r rr=>
   cases rr;have%[t|rfl]:=r;exact call_range_1 (z0 m ⋯ ⋯ b o ↑q)
abbrev vF(f:TI)(g:TG)(h:TS):TS:=λD a H=>f a H λJ j=>∃W:Nat->Nat->St->Hp->Prop,(∃m,W 0 m a j)/\∀i m a H,W i m a H->
 (J.stop i H/\D.nx a H)\/(J.go i H/\∃N:St->Hp->Prop,(∀b c,N b c->∃e,e<m/\W (i+1) e b c)/\∀x c,J.yld i H x c->g x a c λd l=>h {D with nx:=N,ct:=N,bk:=D.nx} d l)
abbrev rH(a:List Addr)(h:Heap):ZF:=a.filterMap λb=>(h.get? b).map λo=>(b,o)
def eN(a:b∈c)(e:h.get? b∣o):(b,o)∈rH c h:=mem_filterMap.mpr %[b,a|by rw[e];rfl]
def yk(a:p∈rH c h):p.1∈c/\h.get? p.1∣p.2:=by
 have%[b,d|e]:=mem_filterMap.mp a;cases q:h.get? b with
 | none=>simp_all
 | some o=>
   rw[q]at e;have f:=Za e;subst f;exact%[d|q]
def Inv.pinned(I:Inv X pins g H s)(h:∀b∈a,mf X pins H b)(i:∀b∈a,∃o,s.heap.get? b∣o/\∀v,o.data≠ .cell v):Inv X (pins++rH a s.heap) g H s:=
 I.pins_of λp j=>(Xj j).elim (λz=>I.pin p (Ys _ z)) λz=>by
  have%[c|e]:=yk z;have%[l,m,n|_]:=h p.1 c;have%[o,f|d]:=i p.1 c;rw[e]at f;cases f;exact%[e,l,m,n|d]
def Inv.unpinned(I:Inv X (pins++pl) a H s):Inv X pins a H s:=I.pins_of λp b=>I.pin p (Ys _ (Yr _ b))
def EJ(B:PassesOwn (model X.prog X.w) X.A X.env X.xe)(hc:X.calm=true)(hi:PI X tg iter wi)(hg:PG X tg g)(c:PSs X C tb)
 (hs:∀x,foldedSetIterable iter X.env x=pure x):PS X (.For tg iter C [] pos) (vF wi g tb):=by
 intro pins s σ H D I h;refine wpAny_For (thn (hi pins s σ H _ I h) λv s1 h1=>thn h1 λac s2 h2=>?_) hs;have%[it,O,tn,J,H2,e,I2,T,U,f2,W,%[m0|w0]|E]:=h2;subst e;have j:∀{y:Hp},(∀b∈O,y b=none)->∀b∈O,mf X pins y b:=λhn b c=>%[hn b c|(f2 b c).2]
 refine codeAny_forLoop_any (λn s'=>∃i l y,Inv X pins l y s'/\tn i s'.heap/\(∀b∈O,y b=none)/\W i n l y) ?_ m0 %[0,σ,H2,I2,U,λb c=>(f2 b c).1|w0];intro n s3 %[i,p,Q,I3,G,L|w3];rcases E i n p Q w3 with⟨stop,qn⟩|⟨go,N,hN,step⟩
 .refine wpAny_passesOwn B (thn (T.done X rfl rfl rfl hc i pins s3 p Q X.xe I3 (j L) G stop) λr s4 ⟨Y,I4⟩=>?_);subst Y;exact wpAny_execs_nil %[p,Q,I4|qn]
 .refine wpAny_passesOwn B (thn (T.item X rfl rfl rfl hc i pins s3 p Q X.xe I3 (j L) G go) λr s4 ⟨u,Y,h4⟩=>?_);subst Y;refine wpAny_passesOwn B (thn h4 λ_ s5 ⟨x,H5,I5,r5,y5,A,aa⟩=>wpAny_passesOwn B (thn (hg _ s5 p H5 x u _ (I5.pinned (j aa) (T.obj _ _ A)) r5 (step x H5 y5)) λ_ s6 ⟨ab,H6,I6,q6⟩=>wpAny_passesOwn B (thn (c _ s6 ab H6 _ I6 q6) λf s7 z=>?_)));have again:∀{a:St} {q:Hp},Inv X _ a q s7->N a q->∃m,m<n/\∃i l y,Inv X pins l y s7/\tn i s7.heap/\(∀b∈O,y b=none)/\W i m l y:=λ{a q} w M=>by
   have%[m',hm|w7]:=hN a q M;refine%[m',hm,i+1,a,q,w.unpinned,T.keep _ _ _ A λb c o e=>(w.pin _ (Ys _ (Ys _ (eN c e)))).1,λb c=>?_|w7];have%[o,e|d]:=T.obj _ _ A b c;exact(w.pin _ (Ys _ (Ys _ (eN c e)))).2.1
  cases f with
  | next=>have%[a,q,w|M]:=z;exact again w M
  | cont=>have%[a,q,w|M]:=z;exact again w M
  | brk=>have%[a,q,w|z]:=z;exact%[a,q,w.unpinned|z]
  | ret v=>have%[x7,a,q,w,r7|z]:=z;exact%[x7,a,q,w.unpinned,r7|z]
end
def fK{K:ZB}{g:TG}{l:TS}{D:ik}(Pv:Nat->St->Hp->Prop)(o:Pv 0 b H)(r:∀i b H,i<= ~~~xs->Pv i b H->SqL K H a xs)
 (s:∀i x b H,xs[i]?∣x->Pv i b H->g x b H λc h=>l {D with nx:=Pv (i+1),ct:=Pv (i+1),bk:=D.nx} c h) (u:∀b H,Pv xs.length b H->D.nx b H):
 ∃W:Nat->Nat->St->Hp->Prop,(∃m,W 0 m b H)/\∀i m b H,W i m b H->
  ((Itl K a).stop i H/\D.nx b H)\/((Itl K a).go i H/\∃N:St->Hp->Prop,(∀d f,N d f->∃n,n<m/\W (i+1) n d f)/\∀x f,(Itl K a).yld i H x f->g x b f λc h=>l {D with nx:=N,ct:=N,bk:=D.nx} c h):=by
 refine%[λi m b H=>m= ~~~xs-i/\i<= ~~~xs/\Pv i b H,%[~~~xs,by simp,Xb _|o]|?_];intro i m b H %[rfl,hi|p];have q:=r i b H hi p;by_cases j:i< ~~~xs
 .refine .inr %[%[xs,xs[i],q|by simp],Pv _,λd f v=>%[~~~xs-(i+1),⋯,rfl,j|v]|λx f y=>?_];have%[e|y]:=y;subst e;exact s i x b _ (y xs q) p
 .have e:i= ~~~xs:=by lia
  subst e;exact .inl %[%[xs,q|Zi _]|u b H p]
def cC{lo:Int}{g:TG}{j:TS}{D:ik}(Pv:Nat->St->Hp->Prop)(o:Pv 0 a H)
 (q:∀i a H,i<n->Pv i a H->g (.int (lo+i)) a H λb h=>j {D with nx:=Pv (i+1),ct:=Pv (i+1),bk:=D.nx} b h) (r:∀a H,Pv n a H->D.nx a H):
 ∃W:Nat->Nat->St->Hp->Prop,(∃m,W 0 m a H)/\∀i m a H,W i m a H->
  ((Itr lo n).stop i H/\D.nx a H)\/((Itr lo n).go i H/\∃N:St->Hp->Prop,(∀c d,N c d->∃l,l<m/\W (i+1) l c d)/\∀x d,(Itr lo n).yld i H x d->g x a d λb h=>j {D with nx:=N,ct:=N,bk:=D.nx} b h):=by
 refine%[λi m a H=>m=n-i/\i<=n/\Pv i a H,%[n,by simp,Xb _|o]|?_];intro i m a H %[rfl,hi|p];by_cases f:i<n
 .refine .inr %[f,Pv _,λc d s=>%[n-(i+1),⋯,rfl,f|s]|λx d y=>?_];have%[e|y]:=y;subst e y;exact q i a _ f p
 .have e:i=n:=by lia
  subst e;exact .inl %[Zi _|r a H p]
noncomputable abbrev R2:=V->V->Hp->VK->Prop
abbrev OpR(X:Cx)(f:Value->Value->Sem Value)(r:R2):Prop:=
 ∀pins s (a:St) H x y v u Q,Inv X pins a H s->aV x v->aV y u->r x y H Q->
  (X⁻¹) (f v u) (EP X pins a Q) X.xe s
abbrev UnR(X:Cx)(f:Value->Sem Value)(r:V->Hp->VK->Prop):Prop:=
 ∀pins s (a:St) H x v Q,Inv X pins a H s->aV x v->r x H Q->
  (X⁻¹) (f v) (EP X pins a Q) X.xe s
abbrev bW(X:Cx)(f:Value)(r:List V->Hp->VK->Prop):Prop:=
 ∀pins s (a:St) H xs us Q,Inv X pins a H s->aI xs us->r xs H Q->
  (X⁻¹) (call f us) (EP X pins a Q) X.xe s
abbrev TruR(X:Cx)(r:V->Hp->(Bool->Hp->Prop)->Prop):Prop:=
 ∀pins s (a:St) H x v Q,Inv X pins a H s->aV x v->r x H Q->
  (X⁻¹) (truthy v) (TP X pins a Q) X.xe s
abbrev tOp(r:R2)(b c:TE):TE:=λa H Q=>b a H λx d=>c a d λy e=>r x y e Q
abbrev tUn(r:V->Hp->VK->Prop)(a:TE):TE:=λb H Q=>a b H λx c=>r x c Q
abbrev rI(C:Int->Int->Prop)(g:Int->Int->V):R2:=λx y H Q=>asI x λi=>asI y λj=>C i j/\Q (g i j) H
abbrev rI0(g:Int->Int->V):R2:=λx y H Q=>asI x λi=>asI y λj=>Q (g i j) H
abbrev rU(g:Int->V):V->Hp->VK->Prop:=λx H Q=>asI x λi=>Q (g i) H
section
variable{X:Cx}{a b c:Expr}{ta tb tc:TE}{pos:Pos}
def EK(m:PE X a ta)(n:PE X b tb){pins:List _}{s:Shared}{d:St}{H:Hp}{R:V->V->Hp->Prop}(I:Inv X pins d H s)
 (h:ta d H λx l=>tb d l λy e=>R x y e) {Q:ZE} {f:Value->Value->Sem Value}
 (o:∀v u j x y e,Inv X pins d e j->aV x v->aV y u->R x y e->(X⁻¹) (f v u) Q X.xe j):
 (X⁻¹) (eval a X.env) (λv g=>(X⁻¹) (eval b X.env) (λu i=>(X⁻¹) (f v u) Q X.xe i) X.xe g) X.xe s:=by
 exact thP (m pins s d H _ I h) λv p x l q r w=>thP (n pins p d l _ q w) λu j y e z A B=>o v u j x y e z r A B
def GS{r:R2}(d:OpR X (binaryOp op) r)(e:PE X a ta)(f:PE X b tb):PE X (.BinOp a op b pos) (tOp r ta tb):=by
 intro pins s g H Q I h;exact wpAny_BinOp (EK e f I h λv u i x y j l m n q=>d pins i g j x y v u Q l m n q)
def GT(e:UnR X (unaryOp op) r)(f:PE X a ta):PE X (.UnaryOp op a pos) (tUn r ta):=by
 intro pins s d H Q I h;exact UnaryOp_ (thP (f pins s d H _ I h) λv g x i j l m=>e pins g d i x v Q j l m)
def opI{f:Value->Value->Sem Value}{C:Int->Int->Prop}{g:Int->Int->Int}
 (rule:∀i j t u s Q E,C i j->Q (.int (g i j) s.toks) {s with toks:=s.toks+1}->(X⁻¹) (f (.int i t) (.int j u)) Q E s):
 OpR X f (rI C λi j=> .int (g i j)):=by
 intro pins s n H x y v u Q I d e h;have%[i,rfl|l]:=io h;have%[j,rfl,m|q]:=io l;have%[t|rfl]:=d;have%[t'|rfl]:=e;exact rule i j t t' s _ _ m %[.int _,H,I.tok _,%[_|rfl]|q]
def GU{g:Int->Int->Int}
 (rule:∀(i j:Int) (t u:Tok) (s:Shared) (Q:ZE) (E:ZE),Q (.int (g i j) s.toks) {s with toks:=s.toks+1}->(X⁻¹) (f (.int i t) (.int j u)) Q E s):
 OpR X f (rI0 λi j=> .int (g i j)):=by
 intro pins s m H x y v u Q I d e h;have%[i,rfl|l]:=io h;have%[j,rfl|q]:=io l;have%[t|rfl]:=d;have%[t'|rfl]:=e;exact rule i j t t' s _ _ %[.int _,H,I.tok _,%[_|rfl]|q]
def EM{g:Int->Int->Bool}
 (rule:∀(i j:Int) (t u:Tok) (s:Shared) (Q:ZE) (E:ZE),Q (.bool (g i j)) s->(X⁻¹) (f (.int i t) (.int j u)) Q E s):
 OpR X f (rI0 λi j=> .bl (g i j)):=by
 intro pins s m H x y v u Q I d e h;have%[i,rfl|l]:=io h;have%[j,rfl|q]:=io l;have%[t|rfl]:=d;have%[t'|rfl]:=e;exact rule i j t t' s _ _ %[.bl _,H,I,rfl|q]
abbrev GV(i j:Int):Prop:=0<j/\j<1073741824
abbrev z3(i j:Int):Prop:=(-(2^64)<i/\i<2^64)\/(-(2^64)<j/\j<2^64)
def z3.ok{i j:Int}(h:z3 i j):IntMulOk i j:=by
 rcases h with⟨d,e⟩|⟨d,e⟩
 .exact .of_left (intBits_le_64 d e)
 .exact .of_right (intBits_le_64 d e)
def EN:OpR X (binaryOp .Add) (rI0 λi j=> .int (i+j)):=GU λ_ _ _ _ _ _ _ q=>add_int q
def EO:OpR X (binaryOp .Sub) (rI0 λi j=> .int (i-j)):=GU λ_ _ _ _ _ _ _ q=>sub_int q
def z4:OpR X (binaryOp .Mult) (rI z3 λi j=> .int (i*j)):=opI λ_ _ _ _ _ _ _ d q=>mul_int q d.ok
def Ct:OpR X (binaryOp .FloorDiv) (rI GV λi j=> .int (i/j)):=opI λi j _ _ _ _ _ d q=>by
 have e:(0:Int)<j:=d.1;have f:j<1073741824:=d.2;exact floordiv_int ⋯ (by rw[Int.fdiv_eq_ediv_of_nonneg i ⋯];exact q) (.inl (PyProof.noPylong_small ⋯))
def EQ:OpR X (binaryOp .Mod) (rI (λ_ j=>0<j) λi j=> .int (i%j)):=opI λi j _ _ _ _ _ d q=>by
 have e:(0:Int)<j:=d;exact mod_int' ⋯ (by rw[Int.fmod_eq_emod_of_nonneg i ⋯];exact q)
def unI{g:Int->Int}
 (rule:∀(i:Int) (t:Tok) (s:Shared) (Q:ZE) (E:ZE),Q (.int (g i) s.toks) {s with toks:=s.toks+1}->(X⁻¹) (f (.int i t)) Q E s):
 UnR X f (rU λi=> .int (g i)):=by
 intro pins s e H x v Q I d h;have%[i,rfl|q]:=io h;have%[t|rfl]:=d;exact rule i t s _ _ %[.int _,H,I.tok _,%[_|rfl]|q]
def ER:UnR X (unaryOp .USub) (rU λi=> .int (-i)):=unI λ_ _ _ _ _ q=>neg_int q
end
abbrev ES:V->V->Bool
 | .non,.non=>true| .non,.int _=>true| .int _,.non=>true| .non,.bl _=>true| .bl _,.non=>true| .non,.str _=>true| .str _,.non=>true
 | .int _,.int _=>true| .bl _,.bl _=>true| .str _,.str _=>true| .byt _,.byt _=>true
 | .int _,.str _=>true| .str _,.int _=>true| .bl _,.str _=>true| .str _,.bl _=>true
 | _,_=>false
def zqD:(ES .non .non=true)/\(∀j,ES .non (.int j)=true)/\(∀i,ES (.int i) .non=true)/\(∀j,ES .non (.bl j)=true)/\(∀i,ES (.bl i) .non=true)/\(∀j,ES .non (.str j)=true)/\(∀i,ES (.str i) .non=true)/\(∀i j,ES (.int i) (.int j)=true)/\(∀i j,ES (.bl i) (.bl j)=true)/\(∀i j,ES (.str i) (.str j)=true)/\(∀i j,ES (.byt i) (.byt j)=true)/\(∀i j,ES (.int i) (.str j)=true)/\(∀i j,ES (.str i) (.int j)=true)/\(∀i j,ES (.bl i) (.str j)=true)/\(∀i j,ES (.str i) (.bl j)=true):=by and_intros<;> intros<;> rfl
abbrev rEq:R2:=λx y H Q=>ES x y=true/\Q (.bl (decide (x=y))) H
abbrev rNe:R2:=λx y H Q=>ES x y=true/\Q (.bl (!decide (x=y))) H
def xk:decide (V.int i=V.int j)=(i==j):=by
 rw[Bool.eq_iff_iff];simp
def z5:decide (V.bl i=V.bl j)=(i==j):=by
 rw[Bool.eq_iff_iff];simp
def xn:decide (V.str i=V.str j)=(i==j):=by
 rw[Bool.eq_iff_iff];simp
def xo:decide (V.byt i=V.byt j)=(i.toList==j.toList):=by
 rw[Bool.eq_iff_iff]
 simp_all
section
variable{X:Cx}{a b c:Expr}{ta tb tc:TE}{pos:Pos}
def ba(I:Inv X pins d H s)(q:Q (.bl k) H)(e:k=f):EP X pins d Q (.bool f) s:=by
 subst e;exact%[.bl k,H,I,ρ|q]
def GW:OpR X (compareOp .Eq) rEq:=by
 intro pins s g H x y v u Q I f d h;have%[e|q]:=h;cases x with
 | non=>
   cases f;cases y with
   | non=>cases d;exact PySem.EqNone.eq_none_none (ba I q ∅)
   | bl j=>cases d;exact PySem.EqNone.eq_none_bool (ba I q ∅)
   | int j=>have%[t'|rfl]:=d;exact PySem.EqNone.eq_none_int (ba I q ∅)
   | str j=>have%[t'|rfl]:=d;exact PySem.EqNone.eq_none_str (ba I q ∅)
   | _=>exact absurd (show false=true from e) Zt
 | bl i=>
   cases f;cases y with
   | non=>cases d;exact PySem.EqNone.eq_bool_none (ba I q ∅)
   | bl j=>cases d;exact eq_bool (ba I q z5)
   | str j=>have%[t'|rfl]:=d;exact PySem.EqMixed.eq_bool_str (ba I q ∅)
   | _=>exact absurd (show false=true from e) Zt
 | int i=>
   have%[t|rfl]:=f;cases y with
   | non=>cases d;exact PySem.EqNone.eq_int_none (ba I q ∅)
   | int j=>have%[t'|rfl]:=d;exact eq_int (ba I q xk)
   | str j=>have%[t'|rfl]:=d;exact PySem.EqMixed.eq_int_str (ba I q ∅)
   | _=>exact absurd (show false=true from e) Zt
 | str i=>
   have%[t|rfl]:=f;cases y with
   | non=>cases d;exact PySem.EqNone.eq_str_none (ba I q ∅)
   | bl j=>cases d;exact PySem.EqMixed.eq_str_bool (ba I q ∅)
   | int j=>have%[t'|rfl]:=d;exact PySem.EqMixed.eq_str_int (ba I q ∅)
   | str j=>have%[t'|rfl]:=d;exact eq_str (ba I q xn)
   | _=>exact absurd (show false=true from e) Zt
 | byt i=>
   have%[t|rfl]:=f;cases y with
   | byt j=>have%[t'|rfl]:=d;exact PySem.W.eq_bytes (ba I q xo)
   | _=>exact absurd (show false=true from e) Zt
 | _=>cases y<;> exact absurd (show false=true from e) Zt
def GX:OpR X (compareOp .NotEq) rNe:=by
 intro pins s g H x y v u Q I f d h;have%[e|q]:=h;cases x with
 | non=>
   cases f;cases y with
   | non=>cases d;exact PySem.EqNone.ne_none_none (ba I q ∅)
   | bl j=>cases d;exact PySem.EqNone.ne_none_bool (ba I q ∅)
   | int j=>have%[t'|rfl]:=d;exact PySem.EqNone.ne_none_int (ba I q ∅)
   | str j=>have%[t'|rfl]:=d;exact PySem.EqNone.ne_none_str (ba I q ∅)
   | _=>exact absurd (show false=true from e) Zt
 | bl i=>
   cases f;cases y with
   | non=>cases d;exact PySem.EqNone.ne_bool_none (ba I q ∅)
   | bl j=>cases d;exact ne_bool (ba I q (congrArg not z5))
   | str j=>have%[t'|rfl]:=d;exact PySem.EqMixed.ne_bool_str (ba I q ∅)
   | _=>exact absurd (show false=true from e) Zt
 | int i=>
   have%[t|rfl]:=f;cases y with
   | non=>cases d;exact PySem.EqNone.ne_int_none (ba I q ∅)
   | int j=>have%[t'|rfl]:=d;exact ne_int (ba I q (congrArg not xk))
   | str j=>have%[t'|rfl]:=d;exact PySem.EqMixed.ne_int_str (ba I q ∅)
   | _=>exact absurd (show false=true from e) Zt
 | str i=>
   have%[t|rfl]:=f;cases y with
   | non=>cases d;exact PySem.EqNone.ne_str_none (ba I q ∅)
   | bl j=>cases d;exact PySem.EqMixed.ne_str_bool (ba I q ∅)
   | int j=>have%[t'|rfl]:=d;exact PySem.EqMixed.ne_str_int (ba I q ∅)
   | str j=>have%[t'|rfl]:=d;exact ne_str (ba I q (congrArg not xn))
   | _=>exact absurd (show false=true from e) Zt
 | byt i=>
   have%[t|rfl]:=f;cases y with
   | byt j=>have%[t'|rfl]:=d;exact PySem.W.ne_bytes (ba I q (congrArg not xo))
   | _=>exact absurd (show false=true from e) Zt
 | _=>cases y<;> exact absurd (show false=true from e) Zt
def GY:OpR X (compareOp .Lt) (rI0 λi j=> .bl (decide (i<j))):=EM λ_ _ _ _ _ _ _ q=>lt_int q
def GZ:OpR X (compareOp .LtE) (rI0 λi j=> .bl (decide (i<=j))):=EM λ_ _ _ _ _ _ _ q=>le_int q
def G0:OpR X (compareOp .Gt) (rI0 λi j=> .bl (decide (j<i))):=EM λ_ _ _ _ _ _ _ q=>gt_int q
def yl:OpR X (compareOp .In) (λx y H Q=>∃i j,x= .str i/\y= .str j/\Q (.bl (!(Builtin.Str.occurrences j i 0 j.length 1).isEmpty)) H):=by
 intro pins s f H x y v u Q I d e h;have%[i,j,rfl,rfl|q]:=h;have%[t|rfl]:=d;have%[t'|rfl]:=e;exact in_str (ba I q rfl)
def ET:OpR X (compareOp .Is) (λx y H Q=>y= .non/\Q (.bl (decide (x= .non))) H):=by
 intro pins s f H x y v u Q I d e h;have%[rfl|q]:=h;cases e;refine is_none_gen (ba I q ?_);cases x<;> first
  | lia
  |(have%[t|rfl]:=d;rfl)
def Cu:OpR X (compareOp .IsNot) (λx y H Q=>y= .non/\Q (.bl (!decide (x= .non))) H):=by
 intro pins s f H x y v u Q I d e h;have%[rfl|q]:=h;cases e;refine isnot_none_gen (ba I q ?_);cases x<;> first
  | lia
  |(have%[t|rfl]:=d;rfl)
def OpR.or(h:OpR X f r)(h':OpR X f i):OpR X f (λx y H Q=>r x y H Q\/i x y H Q):=by
 intro pins s d H x y v u Q I e g q;rcases q with q|q
 .exact h pins s d H x y v u Q I e g q
 .exact h' pins s d H x y v u Q I e g q
def nomark(b:Expr)(h:op≠ .In)(f:op≠ .NotIn):behindInMarks op b=false:=by
 have d:(op==CmpOp.In)=false:=by lia
 have e:(op==CmpOp.NotIn)=false:=by lia
 cases b<;> simp[behindInMarks,d,e]
def Cv{r:R2}(d:OpR X (compareOp op) r)(e:PE X a ta)(f:PE X b tb)(g:behindInMarks op b=false):PE X (.Compare a [op] [b] pos) (tOp r ta tb):=by
 intro pins s i H Q I h;exact wpAny_Compare1 (EK e f I h λv u j x y l m n o q=>d pins j i l x y v u Q m n o q) g
abbrev xp(t:TE):TT:=λd H Q=>t d H λx e=>asB x λk=>Q k e
def Cw(f:OpR X (compareOp op) r)(g:PE X a ta)(i:PE X b tb)(j:behindInMarks op b=false):PT X (.Compare a [op] [b] pos) (xp (tOp r ta tb)):=by
 intro pins s d H Q I h;refine wpAny_isTrue_Compare1 (thP (g pins s d H _ I h) λv l x m n o p=>thP (i pins l d m _ n p) λu q y w A B C=>
  thP (f pins q d w x y v u _ A o B C) λc L z E G J e=>?_) j
 have%[k,rfl|e]:=mR e;cases J;exact wpAny_truthy_bool %[E,G|e]
abbrev vG(r f:R2)(ta tb tc:TE):TE:=λd H Q=>ta d H λx g=>tb d g λy h=>r x y h λz e=>asB z λk=>
 (if k=true then tc d e λi j=>f y i j Q else Q (.bl false) e)
def z6(n:OpR X (compareOp op) r)(i:OpR X (compareOp e) o)(p:PE X a ta)(q:PE X b tb)(w:PE X c tc)
 (A:lastMarks [op,e] [b,c]=false):PE X (.Compare a [op,e] [b,c] pos) (vG r o ta tb tc):=by
 intro pins s f H Q I h;refine Compare_chain (thP (p pins s f H _ I h) λv B x C E G J=>chain_link (thP (q pins B f C _ E J) λu L y M N j O=>
  thP (n pins L f M x y v u _ N G j O) λd T z l m U g=>?_)) A
 have%[k,rfl|g]:=mR g;cases U;refine wpAny_truthy_bool ?_;cases k with
 | false=>exact ite_ff %[.bl false,l,m,rfl|g]
 | true=>exact ite_tt (chain_last (thP (w pins T f l _ m g) λY s4 z' H4 I4 r4 q4=>i pins s4 f H4 y z' u Y Q I4 j r4 q4))
abbrev z7(K:ZB)(x:V)(H:Hp)(k:Bool):Prop:=
 match x with
 | .non=>k=false
 | .bl b=>k=b
 | .int i=>k=(i != 0)
 | .str y=> ~~~y<=sizeLine/\k=((~~~y:Int) != 0)
 | .byt y=>y.size<=sizeLine/\k=((y.size:Int) != 0)
 | .ref p=>(∃xs,SqL K H p xs/\k=!xs.isEmpty)\/(∃xs,SqT K H p xs/\k=!xs.isEmpty)\/∃d,H p∣.dK d/\k=!d.isEmpty
 | _=>False
def vH{e:Type}{d:List (e×V)}{vs:List _}(r:KV d vs):(!vs.isEmpty)=!d.isEmpty:=by
 cases r<;> rfl
def mS(r:aI xs its):(!its.toArray.isEmpty)=!xs.isEmpty:=by
 cases r<;> simp
def rJ:sizeLine<2^63:=!1
def EU:TruR X (λx H Q=>∃k,z7 X.K x H k/\Q k H):=by
 intro pins s w H x v Q I j h;have%[k,e|q]:=h;have z:=rJ;have A:sizeLine=16777216:=sizeLine_eq;cases x with
 | non=>
   cases j;have d:k=false:=e;subst d;exact truthy_none %[H,I|q]
 | bl b=>
   cases j;have d:k=b:=e;subst d;exact wpAny_truthy_bool %[H,I|q]
 | int i=>
   have%[t|rfl]:=j;have d:k=(i != 0):=e;subst d;exact PySem.P.truthy_int %[H,I|q]
 | str y=>
   have%[t|rfl]:=j;obtain⟨o,d⟩: ~~~y<=sizeLine/\k=((~~~y:Int) != 0):=e;subst d;exact PySem.P.truthy_str ⋯ %[H,I.tok _|q]
 | byt y=>
   have%[t|rfl]:=j;obtain⟨o,d⟩:y.size<=sizeLine/\k=((y.size:Int) != 0):=e;subst d;exact PySem.W.truthy_bytes ⋯ %[H,I.tok _|q]
 | ref p=>
   cases j;have d:(∃xs,SqL X.K H p xs/\k=!xs.isEmpty)\/(∃xs,SqT X.K H p xs/\k=!xs.isEmpty)\/∃f,H p∣.dK f/\k=!f.isEmpty:=e;rcases d with⟨xs,l,d⟩|⟨xs,l,d⟩|⟨f,l,d⟩
   .subst d;have%[its,r,pl|n]:=I.list l;have g:= ~~~r;exact wpAny_truthy_list pl.isList (by simp only[Zp];lia) %[H,I.tok _|(mS r)▸q]
   .subst d;have%[its,r,pl|n]:=I.tuple l;have g:= ~~~r;exact truthy_tuple pl (by simp only[Zp];lia) %[H,I.tok _|(mS r)▸q]
   .subst d;obtain⟨n,u,vs,r,m⟩: ~~~f<=sizeLine/\(p==sysModules)=false/\∃vs,KV f vs/\s.heap.DictOf (aH X.prog X.w) p vs:=I.hok p _ l;have g: ~~~f= ~~~vs:=Paired.length r;exact wpAny_truthy_dict u m ⋯ %[H,I.tok _|(vH r)▸q]
 | _=>exact(show False from e).elim
def z8(g:PE X a ta)(i:∀d,isTrue a X.env d=(do let v<-d;standAt a.pos;holding [v] (truthy v))):
 PT X a (λe H Q=>ta e H λx f=>∃k,z7 X.K x f k/\Q k f):=by
 intro pins s e H Q I h;exact isTrue_plain (thP (g pins s e H _ I h) λv j x l m n o=>EU pins j e l x v Q m n o) (i _)
def vI:OpR X (binaryOp .Add) (λx y H Q=>∃i j,x= .str i/\y= .str j/\ ~~~i+ ~~~j<=sizeLine/\Q (.str (i++j)) H):=by
 intro pins s g H x y v u Q I d e h;have%[i,j,rfl,rfl,f|q]:=h;have%[t|rfl]:=d;have%[t'|rfl]:=e;exact add_str (λt' tk=>%[.str _,H,I.tok _,%[_|rfl]|q]) f
def cR(r:aI [x] us):∃u,us=[u]/\aV x u:=by
 cases r with
 | cons d e=>cases e;exact%[_,ρ|d]
def ip(r:aI [x,y] us):∃u d,us=[u,d]/\aV x u/\aV y d:=by
 cases r with
 | cons e f=>
   cases f with
   | cons g h=>cases h;exact%[_,_,ρ,e|g]
def ym(e:X.calm=true):bW X (.builtin "max") (λxs H Q=>∃i j,xs=[.int i,.int j]/\Q (.int (if j>i then j else i)) H):=by
 intro pins s f H xs us Q I r h;have%[i,j,rfl|q]:=h;have%[u,g,rfl,%[t|rfl],t'|rfl]:=ip r;refine max_two_ints (I.ok.hd e) λh' tk k=>%[_,H,I.kept k,?_|q]
 by_cases d:j>i
 .rw[if_pos d,if_pos d];exact%[_|ρ]
 .rw[if_neg d,if_neg d];exact%[_|ρ]
def yn(e:X.calm=true):bW X (.builtin "min") (λxs H Q=>∃i j,xs=[.int i,.int j]/\Q (.int (if j<i then j else i)) H):=by
 intro pins s f H xs us Q I r h;have%[i,j,rfl|q]:=h;have%[u,g,rfl,%[t|rfl],t'|rfl]:=ip r;refine min_two_ints (I.ok.hd e) λh' tk k=>%[_,H,I.kept k,?_|q]
 by_cases d:j<i
 .rw[if_pos d,if_pos d];exact%[_|ρ]
 .rw[if_neg d,if_neg d];exact%[_|ρ]
def yo:bW X (.type "int") (λxs H Q=>(∃i,xs=[.int i]/\Q (.int i) H)\/∃k,xs=[.bl k]/\Q (.int (if k then 1 else 0)) H):=by
 intro pins s e H xs us Q I r h;rcases h with⟨i,rfl,q⟩|⟨k,rfl,q⟩
 .have%[u,rfl,t|rfl]:=cR r;exact call_int_int %[.int i,H,I,%[_|rfl]|q]
 .have%[u,rfl|d]:=cR r;cases d;exact call_int_bool %[.int _,H,I.tok _,%[_|rfl]|q]
def rK:bW X (.type "str") (λxs H Q=>∃i,xs=[.int i]/\i.natAbs.log2<1920/\Q (.str (toString i)) H):=by
 intro pins s e H xs us Q I r h;have%[i,rfl,d|q]:=h;have%[u,rfl,t|rfl]:=cR r;exact PySem.P.str_of_int d %[.str _,H,I.tok _,%[_|rfl]|q]
abbrev Cy(K:ZB)(x:V)(H:Hp)(n:Nat):Prop:=
 match x with
 | .str y=> ~~~y<=sizeLine/\n= ~~~y
 | .byt y=>y.size<=sizeLine/\n=y.size
 | .ref p=>(∃xs,SqL K H p xs/\n= ~~~xs)\/∃xs,SqT K H p xs/\n= ~~~xs
 | _=>False
def z9:bW X (.builtin "len") (λxs H Q=>∃x n,xs=[x]/\Cy X.K x H n/\Q (.int n) H):=by
 intro pins s o H xs us Q I r h;have%[x,n,rfl,e|q]:=h;have%[u,rfl|g]:=cR r;have v:=sizeLine_eq;cases x with
 | str y=>
   have%[t|rfl]:=g;obtain⟨l,f⟩: ~~~y<=sizeLine/\n= ~~~y:=e;subst f;exact len_str ⋯ %[.int _,H,I.tok _,%[_|rfl]|q]
 | byt y=>
   have%[t|rfl]:=g;obtain⟨l,f⟩:y.size<=sizeLine/\n=y.size:=e;subst f;exact PySem.W.len_bytes ⋯ %[.int _,H,I.tok _,%[_|rfl]|q]
 | ref p=>
   cases g;have f:=e;rcases f with⟨xs,i,f⟩|⟨xs,i,f⟩
   .subst f;have%[its,j,pl|m]:=I.list i;have d:= ~~~j;exact Calls.call_len_list pl.isList (by simp only[Zp];lia) %[.int xs.length,H,I.tok _,%[_|by simp only[Zp];rw[d]]|q]
   .subst f;have%[its,j,pl|m]:=I.tuple i;have d:= ~~~j;exact len_tuple pl (by simp only[Zp];lia) %[.int xs.length,H,I.tok _,%[_|by simp only[Zp];rw[d]]|q]
 | _=>exact(e).elim
end
structure vJ (h:Heap) (x dx C:Addr) (mA:ZD):Prop where
 obj:h.get? x∣instObj C dx
 ns:h.Ns1 dx mA
 ne:dx≠x
def pV{h:Heap}{c:ZD}(n:h.Ns1 d c):∃od,h.get? d∣od/\∀name,lookIn name od∣c name:=by
 have%[o,f,p,g,i,j,_|l]:=n;refine%[o,g|λname=>?_];have e:=l name;unfold nsFind findBy at e;rw[<-Array.find?_toList]at e;unfold lookIn;rw[i];dsimp only
 split
 .rename_i y q
  rw[q]at e;exact congrArg some e
 .rename_i q
  rw[q]at e;have a:f.toList.any (·.refKey)=false:=by
   rw[List.any_eq_false];intro y m;have%[z,t|b]:=j y (mem_toList_iff.mp m);simp[DictEntry.refKey,b]
  rw[if_neg (a▸Zt)];exact congrArg some e
def vJ.look(I:vJ h x a C b):∃od,PySem.W.InstAt h x (instObj C a) C (some od)/\∀name,lookIn name od∣b name:=
 let⟨od,c,d⟩:=pV I.ns
 %[od,%[I.obj,rfl,rfl|c]|d]
section
#where
variable{K:ZB}{x dx C f:Addr}{mA:ZD}{name:Str}{v:Value}
def Cz(X:K.In s.heap)(I:vJ s.heap x dx C mA)(c:plainGet K C name=true)(d:hasDictIn K C=true)
 (e:findIn K (.ref C) name∣none) (g:mA name∣v) (a:handedIn v=true) (h:Q v {s with toks:=s.toks+1}):
 ↥A (getAttr (.ref x) name b) Q E s:=by
 have%[od,J|i]:=I.look;exact PySem.W.get_value X J (plainGet_of c).1 (findObj_own d e rfl (by rw[i,g])) a h
def Aa(X:K.In s.heap)(I:vJ s.heap x dx C mA)(a:plainGet K C name=true)
 (b:findIn K (.ref C) name∣some (.ref f)) (c:isFn K (.ref f)=true) (d:mA name=none) (h:Q (.ref f,[.ref x]) s):
 ↥A (getMethod (.ref x) name pl) Q E s:=by
 have%[od,J|e]:=I.look;exact PySem.W.method_fn X J (plainGet_of a).1 (plainGet_of a).2 b (beq_iff_eq.mp c) (by show(lookIn name od).map _∣false;rw[e,d];rfl) h
def CA(X:K.In s.heap)(I:vJ s.heap x dx C mA)
 (j:findIn K (.ref C) "__setattr__"=some (some (.builtin "object.__setattr__"))) (l:plainOver K C=true) (m:takerIn K C name∣none) (n:hasDictIn K C=true)
 (hw:PySem.Within mA o) (p: ~~~o<=sizeLine)
 (h:∀h',vJ h' x dx C (λy=>if y=name then some v else mA y)->SameBut dx s.heap h'->Q () {s with heap:=h',toks:=s.toks+2}):
 ↥A (setAttr (.ref x) name v) Q E s:=by
 have%[od,J|z]:=I.look;refine set_plain X J j (PySem.W.osa_open X J l m λb=>?_);have%[B,q|d]:=any_some n;refine Z2 (Z3 (Z2 (Z2 (wpAny_loadPart I.obj (Z2 (Looks.here (looks_clsIn X q) ?_))))));rw[d];refine Z3 (Z2 (Z3 (Z2 (wpAny_nsSet1 I.ns λh' a c=>?_))));have%[G,r,u,e,g|i]:=a.count (PySem.Within.cons name v hw);exact Z2 (wpAny_lookBehind e (g▸pastItsLine_dict (Ye i (!2))) (Z3 (h _ %[(c.2 _ (Ne.symm I.ne)).trans I.obj,a|I.ne] c)))
def Ab{R:Result->Shared->Prop}(X:K.In s.heap)(b:makesIn K C=true)
 (hi:findIn K (.ref C) "__init__"=some (some (.ref f))) (c:typeIn K (.ref f)∣.type "function")
 (h:codeAny (model prog w) (A.under (.builtin "type.__call__" %[.ref C::vs|a])) (.call (.ref f) %[.ref (⇑s+1)::vs|a]) (PySem.W.InitBack (⇑s+1) R)
  (s>>>(s.heap.push emptyDict).push (instObj C ⇑s))):
 codeAny (model prog w) A (.call (.ref C) %[vs|a]) R s:=by
 exact PySem.W.make_core (PySem.W.makes_of X b) (looks_findIn X hi) (λself=>PySem.W.bind_fn X self c) (.inl rfl) h
end
abbrev dE(f:Str)(v:V):List (Str×V)->List (Str×V)
 |[]=>[(f,v)]
 |(g,x)::r=>if g=f then(g,v)::r else(g,x)::dE f v r
def lF(f g:Str)(v:V):∀fs,(dE f v fs).lookup g=if g=f then some v else fs.lookup g
 |[]=>by
  show List.lookup g [(f,v)]=_;by_cases h:g=f
  .have a:=beq_iff_eq.mpr h;simp only[List.lookup,a,if_pos h]
  .have a:=beq_eq_false_iff_ne.mpr h;simp only[List.lookup,a,if_neg h]
 |(k,x)::r=>by
  rw[show dE f v _=(if k=f then(k,v)::r else(k,x)::dE f v r)from rfl];by_cases b:k=f
  .rw[if_pos b];by_cases h:g=k
   .have a:=beq_iff_eq.mpr h;simp only[List.lookup,a,if_pos (h.trans b)]
   .have a:=beq_eq_false_iff_ne.mpr h;simp only[List.lookup,a,if_neg (λe:g=f=>h (e.trans b.symm))]
  .rw[if_neg b];by_cases h:g=k
   .have a:=beq_iff_eq.mpr h;simp only[List.lookup,a,if_neg (λe=>b (h.symm.trans e))]
   .have a:=beq_eq_false_iff_ne.mpr h;simp only[List.lookup,a];exact(lF f g v r)
def kE(f:Str)(v:V):∀fs:List (Str×V),f∈(dE f v fs)\1/\∀g,g∈fs\1->g∈(dE f v fs)\1
 |[]=>%[by simp[dE]|λg h=>by simp at h]
 |(k,x)::r=>by
  have%[a|b]:=kE f v r;rw[show dE f v _=(if k=f then(k,v)::r else(k,x)::dE f v r)from rfl]
  grind
def lG(f:Str)(v:V):∀fs,~~~(dE f v fs)<= ~~~fs+1
 |[]=>by simp[dE]
 |(k,x)::r=>by
  have a:=lG f v r;rw[show dE f v _=(if k=f then(k,v)::r else(k,x)::dE f v r)from rfl];by_cases b:k=f
  .simp_all
  simp_all
def fD.some_of(r:fD (some v) o):∃u,o∣u/\aV v u:=by
 cases o with
 | none=>exact(r).elim
 | some u=>exact%[u,ρ|r]
def fD.none_of(r:fD none o):o=none:=by
 cases o with
 | none=>rfl
 | some u=>exact(r).elim
def pW(r:aV v u):handedIn u=true:=by
 cases v with
 | non=>cases(r);rfl
 | bl b=>cases(r);rfl
 | int i=>have%[t|e]:=(r);cases e;rfl
 | str x=>have%[t|e]:=(r);cases e;rfl
 | byt b=>have%[t|e]:=(r);cases e;rfl
 | flt b=>have%[t|e]:=(r);cases e;rfl
 | ref a=>cases(r);rfl
 | ty n=>cases(r);rfl
section
variable{P:Program}{w:World}{H H':Hp}{h h':Heap}{a C dx:Addr}{fs fs':List (Str×V)}
def mD(c:HOk P w H h)(e:H a∣.ins C dx fs):∃b,vJ h a dx C b/\(∀f,fD (fs.lookup f) (b f))/\PySem.Within b (fs\1)/\ ~~~fs<=1000/\H dx∣.own a:=by
 have%[d,z,ne,g,b,n,r|q]:=(c a _ e)
 exact%[b,%[g,n|ne],r,q,z|d]
end
structure Cls (K:ZB) (C:Addr):Prop where
 pg:plainGet K C Str.empty=true
 hd:hasDictIn K C=true
 po:plainOver K C=true
 sa:findIn K (.ref C) "__setattr__"=some (some (.builtin "object.__setattr__"))
def Cls.get{K:ZB}{C:Addr}(c:Cls K C)(f:Str):plainGet K C f=true:=c.pg
abbrev fE(K:ZB)(C:Addr)(f:Str):Prop:=findIn K (.ref C) f∣none
def fE.taker{K:ZB}{C:Addr}{f:Str}(n:fE K C f):takerIn K C f∣none:=by
 unfold takerIn;rw[n];rfl
structure CB (K:ZB) (C:Addr) (m:Str) (f:Addr):Prop where
 at_:findIn K (.ref C) m∣some (.ref f)
 fn:isFn K (.ref f)=true
 kp:keepIn K (.ref f)=true
section
#version
variable{a C dx:Addr}{fs:List (Str×V)}{f:Str}{v:V}{A:Around}{E:ZE}
def vK(I:Inv X pins σ H s)(e:H a∣.ins C dx fs)(c:Cls X.K C)(n:fE X.K C f)(l:fs.lookup f∣v)
 (h:∀u s',Inv X pins σ H s'->aV v u->Q u s'):wpAny (model X.prog X.w) A (getAttr (.ref a) f b) Q E s:=by
 have%[i,O,r,_,_|_]:=mD I.hok e;have%[u,g|d]:=fD.some_of (l▸r f);exact Cz I.kIn O (c.get f) c.hd n g (pW d) (h u _ (I.tok _) d)
def vL(I:Inv X pins σ H s)(e:H a∣.ins C dx fs)(c:Cls X.K C)(k:CB X.K C m g)(l:fs.lookup m=none)
 (h:Q (.ref g,[.ref a]) s):wpAny (model X.prog X.w) A (getMethod (.ref a) m pl) Q E s:=by
 have%[b,O,r,_,_|_]:=mD I.hok e;exact Aa I.kIn O (c.get m) k.at_ k.fn (fD.none_of (l▸r m)) h
def vM(I:Inv X pins σ H s)(e:H a∣.ins C dx fs)(c:Cls X.K C)(n:fE X.K C f)(J: ~~~fs<1000)(l:aV y u)
 (h:∀s',Inv X pins σ (upd H a (.ins C dx (dE f y fs))) s'->Q () s'):wpAny (model X.prog X.w) A (setAttr (.ref a) f u) Q E s:=by
 have%[m,O,r,i,_|j]:=mD I.hok e;refine CA I.kIn O c.sa c.po n.taker c.hd i (by rw[Z6,sizeLine_eq];lia) λh' d p=>h _ (I.write (e▸True.intro) (.inr j) (λb q w z=>(p.2 b w).trans z) (let⟨o,_,_,B,_⟩:=d.ns;%[o|B]) %[(aj O.ne)▸j,?_,O.ne,d.obj,_,d.ns,λg=>?_|λg G=>?_])
 .have:=lG f y fs;lia
 .rw[lF];by_cases q:g=f
  .rw[if_pos q,if_pos q];exact l
  .rw[if_neg q,if_neg q];exact r g
 .by_cases q:g=f
  .exact q▸(kE f y fs).1
  .refine(kE f y fs).2 g (i g λz=>G ?_);show(if g=f then some u else m g)=none;rw[if_neg q];exact z
def Inv.made(I:Inv X pins σ H s):Inv X pins σ (upd (upd H ⇑s (.own (⇑s+1))) (⇑s+1) (.ins C ⇑s []))
 (s>>>(s.heap.push emptyDict).push (instObj C ⇑s)):=by
 have c:(s.heap.push emptyDict).get? ⇑s∣emptyDict:=Zj s.heap rfl;have d:=by
  have:=Zj (s.heap.push emptyDict) (o:=instObj C ⇑s) rfl;rwa[Zq]at this
 refine(I.laid (o:= .own (⇑s+1)) (t':=s.toks) (λb u q=>Z7 _ q) (Zi _) %[_|c]).laid (λb u q=>Z7 _ q) (Nat.le_of_eq (Zq _ _)) ?_;have ne:⇑s≠⇑s+1:=Zs (Ym _);refine%[by rw[aj ne,ae],Xb _,ne,d,λ_=>none,(Heap.Ns1.of_empty %[emptyDict,#[],_,c,ρ,(λe g=>absurd g ∅)|λ_=>rfl]).at λo q=>Z7 _ q,λ_=>True.intro|λy h=>absurd rfl h]
def xq(c:attributeBase e f env (eval e env)=eval e env)
 (h:↥A (eval e env) (λo b=>↥A (getAttr o f true) Q E b) E s):↥A (eval (.Attribute e f pos) env) Q E s:=
 Attribute_any_ h (by rw[arm_eval_Attribute,c])
end
abbrev EV(K:ZB)(c:TE)(f:Str):TE:=λd H Q=>c d H λx b=>∃a C e fs v,x= .ref a/\b a∣.ins C e fs/\Cls K C/\fE K C f/\fs.lookup f∣v/\Q v b
abbrev EW(K:ZB)(e g:TE)(f:Str):TS:=λD b H=>g b H λy h=>e b h λx c=>∃a C d fs,x= .ref a/\c a∣.ins C d fs/\Cls K C/\fE K C f/\ ~~~fs<1000/\
 D.nx b (upd c a (.ins C d (dE f y fs)))
section
variable{X:Cx}{o e value:Expr}{f:Str}{pos pos' tpos:Pos}{ta tv:TE}
def EX(b:PE X e ta)(d:attributeBase e f X.env (eval e X.env)=eval e X.env):PE X (.Attribute e f pos) (EV X.K ta f):=by
 intro pins s g H Q I h;refine xq d (thP (b pins s g H _ I h) λu y x i j m ⟨a,C,z,fs,v,ex,p,c,n,l,q⟩=>?_);subst ex;obtain rfl:u=Value.ref a:=m;exact vK j p c n l λA B r w=>%[v,i,r,w|q]
def EY(d:PE X o ta)(g:PE X value tv)(i:swapsWith value (some (.Attribute o f pos')) pos.line X.env=pure false):PS X (.Assign [.Attribute o f pos'] value pos) (EW X.K ta tv f):=by
 intro pins s b H D I h;refine plainObj_wpAny_Assign_Attribute (thP (g pins s b H _ I h) λu j y m p r q=>thP (d pins j b m _ p q) λv G x J w z ⟨a,C,L,fs,ex,A,c,n,l,B⟩=>?_) i;subst ex;obtain rfl:v=Value.ref a:=z;exact vM w A c n l r λM E=>%[b,_,E|B]
end
section
#version
variable{A:Around}{E:ZE}{Q:ZE}{c:Value}{b:Bool}
inductive jq (K:ZB) (H:Hp):V->Value->Prop where
 | non:jq K H .non (.type "NoneType")
 | bl (x:Bool):jq K H (.bl x) (.type "bool")
 | int (i:Int):jq K H (.int i) (.type "int")
 | str (x:Str):jq K H (.str x) (.type "str")
 | flt (x:UInt64):jq K H (.flt x) (.type "float")
 | lst {a:Addr} {xs:List V} (e:H a<*xs):jq K H (.ref a) (.type "list")
 | frz {a:Addr} {o:Obj} {xs:List V} (e:H a∣.frz o (.lst xs)):jq K H (.ref a) (.type "list")
 | tup {a:Addr} {xs:List V} (e:H a&&&xs):jq K H (.ref a) (.type "tuple")
 | dK {a:Addr} {kvs:List _} (e:H a∣.dK kvs):jq K H (.ref a) (.type "dict")
 | dT {a:Addr} {kvs:List _} (e:H a∣.dT kvs):jq K H (.ref a) (.type "dict")
 | ins {a C dx:Addr} {fs:List _} (e:H a∣.ins C dx fs) (cl:Cls K C) (ha:findIn K (.ref C) "__class__"=some (some (.builtin "object.__class__")))
  (hn:specialIn K (.builtin "object.__class__") "__get__"=some (some (.builtin "getset_descriptor.__get__"))) (htk:takesIn K (.builtin "object.__class__")∣true)
  (hm:mroIn K C (.type "object")∣true):jq K H (.ref a) (.ref C)
def yp(I:Inv X pins σ H s)(d:aV x u)(ty:jq X.K H x t)(e:kitOne X.K t c∣b)(h:∀tk,Q (.bool b) {s with toks:=tk}):
 wpAny (model X.prog X.w) A (call (.builtin "isinstance") [u,c]) Q E s:=by
 cases ty with
 | non=>cases(d);exact kia_one kitx_none I.kIn True.intro e (λz=>nomatch z) h
 | bl y=>cases(d);exact kia_one PySem.W.kitx_bool I.kIn True.intro e (λz=>nomatch z) h
 | int i=>have%[t|q]:=(d);cases q;exact kia_one PySem.W.kitx_int I.kIn True.intro e (λz=>nomatch z) h
 | str y=>have%[t|q]:=(d);cases q;exact kia_one PySem.W.kitx_str I.kIn True.intro e (λz=>nomatch z) h
 | flt y=>have%[t|q]:=(d);cases q;exact kia_one PySem.W.kitx_float I.kIn True.intro e (λz=>nomatch z) h
 | @lst a xs f=>
   cases(d);have%[_,_,n,_|g]:=(I.hok a _ f)
   exact kia_one kitx_list I.kIn %[_,g|rfl] e (λz=>nomatch z) h
 | @frz a M xs f=>
   cases(d);have%[_,_,_,n,_|g]:=(I.hok a _ f)
   exact kia_one kitx_list I.kIn %[_,g|rfl] e (λz=>nomatch z) h
 | @tup a xs f=>
   cases(d);have%[_,_,_|p]:=(I.hok a _ f)
   have%[o,g,j|_]:=p;exact kia_one PySem.W.kitx_tuple I.kIn %[o,g|j] e (λz=>nomatch z) h
 | @dK a l f=>
   cases(show u=Value.ref a from d);have%[_,_,vs,_|p]:=(I.hok a _ f)
   have%[o,v,w,g,j|_]:=p;exact kia_one kitx_dict I.kIn %[o,g|j.1] e (λz=>nomatch z) h
 | @dT a l f=>
   cases(show u=Value.ref a from d);have%[_,_,xs,_,o,v,w,g,j|_]:=(I.hok a _ f)
   exact kia_one kitx_dict I.kIn %[o,g|j.1] e (λz=>nomatch z) h
 | @ins a C N fs f r B G m L=>
   cases(d);have%[T,O|_]:=mD I.hok f;have%[od,J|_]:=O.look;exact kia_one (PySem.W.kitx_own (r.get _) r.hd B G m L) I.kIn J e (λz=>nomatch z) h
end
structure bI (k:Nat) (A:Around):Prop where
 hd:A.handled=none
 dp:A.depth+3*k+5<recursionLimit
 un:A.units+16*k+200<cLine
 gd:A.guards∣[]
def bI.mono(r:bI k A)(h:j<=k):bI j A:=%[r.hd,by have:=r.dp;lia,by have:=r.un;lia|r.gd]
def bI.deeper(r:bI (k+1) A)(env:Env):bI k (A.deeper env):=
 %[r.hd,by have:=r.dp;show A.depth+1+3*k+5<_;lia,by have:=r.un;show A.units+3+16*k+200<_;lia|r.gd]
def vN{A:Around}:(A.under (.builtin "type.__call__" %[.ref C::us|a])).depth=A.depth+1:=by
 first|rfl|lia
def vO{A:Around}:(A.under (.builtin "type.__call__" %[.ref C::us|a])).units=A.units+1:=by
 first|rfl|lia
def bI.make(r:bI (k+1) A)(C:Addr)(us:ZG)(a:List (Str×Value)):bI k (A.under (.builtin "type.__call__" %[.ref C::us|a])):=
 %[r.hd,by have:=r.dp;rw[vN];lia,by have:=r.un;rw[vO];lia|r.gd]
def bI.depth(r:bI k A):A.depth<recursionLimit:=by have:=r.dp;lia
def bI.units(r:bI k A):A.units+64<cLine:=by have:=r.un;lia
abbrev yq:TA:=λ_ H Q=>Q [] H
abbrev Ac(b:TE)(c:TA):TA:=λa H Q=>b a H λx d=>c a d λxs e=>Q (x::xs) e
section
variable{X:Cx}{e:Expr}{es:List Expr}{te:TE}{t:TA}{pos:Pos}
def EZ:PA X [] yq:=λ_ _ _ _ H Q I h=>Calls.spliced_nil %[[],H,I,.nil|h]
def CC(b:PE X e te)(c:PA X es t)(d:starEach (e::es) X.env=(false,eval e X.env)::starEach es X.env):PA X (e::es) (Ac te t):=by
 intro pos pins s a H Q I h;rw[d];show wpAny _ _ (spliced ((false,eval e X.env)::backTo pos _)) _ _ s;exact Calls.spliced_cons (thP (b pins s a H _ I h) λu f x g i j l=>thP (c pos pins f a g _ i l) λus q xs m n o p=>%[x::xs,m,n,.cons j o|p])
abbrev E3(t:TA):TE:=λb H Q=>t b H λxs a=> ~~~xs<=sizeLine/\∀p,a p=none->Q (.ref p) (upd a p (.tup xs))
abbrev E4(t:TA):TE:=λb H Q=>t b H λxs a=> ~~~xs<=sizeLine/\∀p,a p=none->Q (.ref p) (upd a p (.lst xs))
def E5{d}(h:PA X es t):PE X (.Tuple es d pos) (E3 t):=by
 intro pins s f H Q I g;refine wpAny_Tuple_spliced (thP (h pos pins s f H _ I g) λus a xs i c r ⟨z,q⟩=>%[~~~r▸z|?_]);have j:=c.hok.fresh (Zi _);refine%[.ref ⇑a,upd i ⇑a _,c.laid (λb u e=>Z7 _ e) (Zi _) ?_,ρ|q _ j];exact%[z,us,r,_,Zj _ rfl,ρ,_|ρ]
def E6(h:PA X es t):PE X (.List es pos) (E4 t):=by
 intro pins s d H Q I f;refine wpAny_List_spliced (thP (h pos pins s d H _ I f) λus a xs g c r ⟨z,q⟩=>%[~~~r▸z|?_]);have i:=c.hok.fresh (Zi _);refine%[.ref ⇑a,upd g ⇑a _,c.laid (λb u e=>Z7 _ e) (Zi _) ?_,ρ|q _ i];exact%[z,us,0,r|Zj _ rfl]
end
noncomputable abbrev Sp:=List V->Hp->VK->XK->Prop
noncomputable abbrev CXT:=List Env->Hp->Shared->XK->Value->Shared->Prop
structure vP (P:Program) (w:World) (K:ZB) (mg:ZD) (base:Heap) (A:Around) (outer:List Env) (s:Shared) (H:Hp):Prop where
 frames:A.frames∣outer
 mod:Mod K mg base
 bs:∀b o,base.get? b∣o->s.heap.get? b∣o/\H b=none
 bsz:base.objs.size<=⇑s
 funs:s.heap.FunFrames base outer
 frf:∀b∈frs outer,H b=none
 hok:HOk P w H s.heap
 bare:AllBare s.gens
abbrev CE(outer:List Env)(P:Program)(w:World)(H:Hp)(s:Shared)(Q:VK)(u:Value)(s':Shared):Prop:=
 ∃v a,s'.os=s.os/\AllBare s'.gens/\Un (frs outer) [] H a s.heap s'.heap/\HOk P w a s'.heap/\aV v u/\Q v a
abbrev CR(CX:CXT)(outer:List Env)(P:Program)(w:World)(H:Hp)(s:Shared)(Q:VK)(E:XK)(r:Result)(s':Shared):Prop:=
 match r with
 | .ok (.ret u)=>CE outer P w H s Q u s'
 | .ok _=>False
 | .error e=>CX outer H s E e s'
structure dR (P:Program) (w:World) (K:ZB) (mg:ZD) (base:Heap) (CX:CXT) (k:Nat) (f:Addr) (fd:FuncData) (ps:ZC) (sp:Sp):Prop where
 len:∀vs H Q E,sp vs H Q E-> ~~~vs= ~~~ps
 run:∀A outer s H args us vs Q E,bI k A->vP P w K mg base A outer s H->BindsTo s fd args (ps.zip us)->aI vs us->sp vs H Q E->
  codeAny (model P w) A (.call (.ref f) args) (CR CX outer P w H s Q E) s
def dR.imp{P:Program}{K:ZB}(F:dR P w K mg base CX k f b ps sp)
 (h:∀vs H Q E,a vs H Q E->sp vs H Q E):dR P w K mg base CX k f b ps a:=
 %[λvs H Q E q=>F.len vs H Q E (h _ _ _ _ q)|λA outer s H args us vs Q E c d e g i=>F.run A outer s H args us vs Q E c d e g (h _ _ _ _ i)]
def vP.make{P:Program}{K:ZB}(e:vP P w K mg base A outer s H)(C:Addr)(us:ZG)(a:List (Str×Value)):
 vP P w K mg base (A.under (.builtin "type.__call__" %[.ref C::us|a])) outer s H:=⟨by first|exact e.frames|lia,e.mod,e.bs,e.bsz,e.funs,e.frf,e.hok,e.bare⟩
section
variable{X:Cx}{pins:ZF}{σ:St}{H:Hp}{s s':Shared}
def Inv.env0(I:Inv X pins σ H s):vP X.prog X.w X.K X.mg X.base X.A X.stack s H:=
 %[I.ok.frames,I.ok.mod,I.bs,Ye I.ok.bsz I.sz,I.stack,I.stkFree,I.hok|I.bare]
def Inv.after(I:Inv X pins σ H s)(h:CE X.stack X.prog X.w H s Q u s'):EP X pins σ Q u s':=by
 have%[v,f,os,a,un,c,r|q]:=h;have%[i,g,d,t|e]:=s';obtain rfl:e=s.os:=os;exact%[v,f,I.call un c a (λb z=>absurd z ∅),r|q]
end
abbrev pX(sp:Sp)(dvs:List V)(E:XK)(t:TA):TE:=λa H Q=>t a H λvs b=>sp (vs++dvs) b Q E
abbrev xt(C:Addr)(m:Str)(sp:Sp)(dvs:List V)(E:XK)(d:TE)(t:TA):TE:=λb H Q=>d b H λx c=>∃a e fs,x= .ref a/\c a∣.ins C e fs/\fs.lookup m=none/\
 t b c λvs f=>sp (x::(vs++dvs)) f Q E
abbrev xu(C:Addr)(sp:Sp)(dvs:List V)(E:XK)(t:TA):TE:=λc H Q=>t c H λvs b=>∀x a,b x=none->b a=none->a≠x->
 sp (.ref x::(vs++dvs)) (upd (upd b a (.own x)) x (.ins C a [])) (λv d=>v= .non/\Q (.ref x) d) E
abbrev di(K:ZB)(a:FuncData)(ps:ZC)(ds:ZG):Prop:=
 ∀s us,K.In s.heap-> ~~~(us++ds)= ~~~ps->BindsTo s a %[us|[]] (ps.zip (us++ds))
def di.all{K:ZB}(h:∀us:ZG,~~~us= ~~~ps->bindArgs b %[us|[]]=pure (ps.zip us)):di K b ps []:=λs us _ a=>by
 rw[Zx]at a ⊢;exact .of_eq (h us a)
abbrev gi(CX:CXT)(X:Cx)(E:XK):Prop:=∀pins (a:St) H s e s',Inv X pins a H s->CX X.stack H s E e s'->X.xe e s'
section
variable{X:Cx}{CX:CXT}{k:Nat}{f C:Addr}{fd:FuncData}{ps:ZC}{sp:Sp}{dvs:List V}{ds:ZG}{E:XK}{x m:Str}{p pos apos:Pos}{e o:Expr}{es:List Expr}{ta:TE}{t:TA}
def Ad(F:dR X.prog X.w X.K X.mg X.base CX k f fd ps sp)(d:bI k X.A)(g:di X.K fd ps ds)(i:aI dvs ds)(j:gi CX X E)
 (I:Inv X pins b H s) (r:aI vs us) (h:sp (vs++dvs) H Q E):(X⁻¹) (call (.ref f) us) (EP X pins b Q) X.xe s:=by
 have c:=r.append i;refine wpAny_call (codeAny_mono (F.run X.A X.stack s H _ _ _ Q E d I.env0 (g s us I.kIn (~~~c▸F.len _ _ _ _ h)) c h) λr s' a=>?_);cases r with
 | error e=>exact j pins b H s e s' I a
 | ok l=>
   cases l with
   | ret u=>exact I.after a
   | next=>exact False.elim a
   | brk=>exact False.elim a
   | cont=>exact False.elim a
def xv(F:dR X.prog X.w X.K X.mg X.base CX k f fd ps sp)(d:bI k X.A)(g:Gl X x)(i:X.mg x∣.ref f)(j:keepIn X.K (.ref f)=true)(l:di X.K fd ps ds)(n:aI dvs ds)(u:gi CX X E)
 (v:PA X (e::es) t) (a:(x==("__debug__":Str))=false) (w:starEach (e::es) X.env=(false,eval e X.env)::starEach es X.env) (b:(backTo pos (starEach es X.env)).any (·.1)=false):
 PE X (.Call (.Name x p) (e::es) [] pos) (pX sp dvs E t):=by
 intro pins s y H Q I h;exact wpAny_Call_Name_kw (e9 I g i (callWith_K I.ok.mod.kin j (thP (v pos pins s y H _ I h) λus z vs A c r q=>%[c.kIn|Ad F d l n u c r q]) w b) a)
def Ae(i:PE X o ta)(c:Cls X.K C)(d:CB X.K C m f)(F:dR X.prog X.w X.K X.mg X.base CX k f fd ps sp)(j:bI k X.A)(n:di X.K fd ps ds)(r:aI dvs ds)(v:gi CX X E)
 (w:eval (.Call (.Attribute o m apos) [] [] pos) X.env=(do
  let g<-eval o X.env
  standAt apos.atName
  let(f,first)<-holding [g] (getMethod g m pl)
  callWith pos f first (backTo pos (starEach [] X.env)) (backToKw pos (keywordEach [] X.env)))):
 PE X (.Call (.Attribute o m apos) [] [] pos) (xt C m sp dvs E ta yq):=by
 intro pins s y H Q I h;refine PySem.W.methodCall_KW (thP (i pins s y H _ I h) λu B x G b z ⟨a,J,fs,ex,A,l,q⟩=>?_) w;subst ex;obtain rfl:u=Value.ref a:=z;exact vL b A c d l (PySem.W.callWith_K0 b.kIn d.kp (Ad (us:=[.ref a]) (vs:=[.ref a]) F j n r v b (.cons rfl .nil) q))
structure Mk (K:ZB) (C f:Addr):Prop where
 makes:makesIn K C=true
 init:findIn K (.ref C) "__init__"=some (some (.ref f))
 fn:isFn K (.ref f)=true
 kp:keepIn K (.ref C)=true
def Af(M:Mk X.K C f)(F:dR X.prog X.w X.K X.mg X.base CX k f fd ps sp)(j:bI (k+1) X.A)(l:di X.K fd ps ds)(n:aI dvs ds)
 (q:gi CX X E) (I:Inv X pins d H s) (r:aI vs us)
 (h:∀x b,H x=none->H b=none->b≠x->sp (.ref x::(vs++dvs)) (upd (upd H b (.own x)) x (.ins C b [])) (λv w=>v= .non/\Q (.ref x) w) E):
 (X⁻¹) (call (.ref C) us) (EP X pins d Q) X.xe s:=by
 have g:=h (⇑s+1) ⇑s (I.hok.fresh (Yd _)) (I.hok.fresh (Zi _)) (Zs (Ym _));have c:=Inv.made (C:=C) I;have i:aI (V.ref (⇑s+1)::(vs++dvs)) _:= .cons rfl (r.append n);have y:=by
  have e:= ~~~i;rw[F.len _ _ _ _ g]at e;exact e.symm
 refine wpAny_call (Ab I.kIn M.makes M.init (beq_iff_eq.mp M.fn) (codeAny_mono (F.run _ X.stack _ _ _ _ _ _ E (j.make C us [])
  (c.env0.make C us []) (l _ _ c.kIn y) i g) λr s' a=>?_))
 cases r with
 | error e=>exact q pins d _ _ e s' c a
 | ok z=>
   cases z with
   | ret u=>
     have%[v,A,B,G,J|L]:=c.after a;subst J;exact%[G,V.ref _,A,B,ρ|L]
   | next=>exact False.elim a
   | brk=>exact False.elim a
   | cont=>exact False.elim a
def CD(M:Mk X.K C f)(F:dR X.prog X.w X.K X.mg X.base CX k f fd ps sp)(d:bI (k+1) X.A)(g:Gl X x)(i:X.mg x∣.ref C)(j:di X.K fd ps ds)(l:aI dvs ds)(n:gi CX X E)
 (u:PA X (e::es) t) (a:(x==("__debug__":Str))=false) (v:starEach (e::es) X.env=(false,eval e X.env)::starEach es X.env) (b:(backTo pos (starEach es X.env)).any (·.1)=false):
 PE X (.Call (.Name x p) (e::es) [] pos) (xu C sp dvs E t):=by
 intro pins s w H Q I h;exact wpAny_Call_Name_kw (e9 I g i (callWith_K I.ok.mod.kin M.kp (thP (u pos pins s w H _ I h) λus y vs z c r q=>%[c.kIn|Af M F d j l n c r q]) v b) a)
variable{ks:ZC}{kpos:Pos}{kws:List Keyword}{te:TE}{tk:TA}{nm:Option Str}
variable{g:ZG->ZG->ZG}{gV:List V->List V->List V}
end
structure az (N P:ZC) (sc:Scope):Prop where
 kind:sc.kind= .function
 co:sc.isCoroutine=false
 gen:sc.isGenerator=false
 nd:N.Nodup
 pre:N.take P.length=P
 par:∀x∈P,sc.names.lookup x∣.local\/sc.names.lookup x∣.cell
 nofree:∀y∈sc.names,y.2≠ .free
def pY{kindOf:Str->Option NameKind}:∀{binds:List (Str×Value)} {m:ZD},(∀v,(x,v)∉binds)->bindL kindOf binds m x=m x
 |[],_,_=>rfl
 |(n,v)::r,m,h=>by
  unfold bindL;rw[pY λw hw=>h w (Zk _ hw)]
  split
  .have:x≠n:=by rintro rfl;exact h v Zm
   simp[this]
  .rfl
def pZ{kindOf:Str->Option NameKind}:∀{binds:List (Str×Value)} {m:ZD},(∀v,(x,v)∉binds)->bindC kindOf binds m x=m x
 |[],_,_=>rfl
 |(n,v)::r,m,h=>by
  unfold bindC;rw[pZ λw hw=>h w (Zk _ hw)]
  split
  .rfl
  .have:x≠n:=by rintro rfl;exact h v Zm
   simp[this]
def p7{kindOf:Str->Option NameKind}{x:Str}:∀{P:ZC} {vs:ZG} {i:Nat} {m:ZD},P.Nodup->P[i]?∣x->vs[i]?∣v->kindOf x∣.local->
 bindL kindOf (P.zip vs) m x∣v
 |[],_,_,_,_,h,_,_=>by simp at h
 | _::_,[],_,_,_,_,h,_=>by simp at h
 | p::P,w::vs,0,m,nd,a,b,c=>by
   simp at a b;subst a;subst b;show bindL kindOf ((p,w)::P.zip vs) m p=_;unfold bindL;rw[pY λv d=>(nodup_cons.mp nd).1 (of_mem_zip d).1,if_pos c];simp
 | p::P,w::vs,i+1,m,nd,a,b,c=>by
   show bindL kindOf ((p,w)::P.zip vs) m x=_;exact p7 (nodup_cons.mp nd).2 (a) (b) c
def p8{kindOf:Str->Option NameKind}{x:Str}:∀{P:ZC} {vs:ZG} {i:Nat} {m:ZD},P.Nodup->P[i]?∣x->vs[i]?∣v->kindOf x≠some .local->
 bindC kindOf (P.zip vs) m x∣v
 |[],_,_,_,_,h,_,_=>by simp at h
 | _::_,[],_,_,_,_,h,_=>by simp at h
 | p::P,w::vs,0,m,nd,a,b,c=>by
   simp at a b;subst a;subst b;show bindC kindOf ((p,w)::P.zip vs) m p=_;unfold bindC;rw[pZ λv d=>(nodup_cons.mp nd).1 (of_mem_zip d).1,if_neg c];simp
 | p::P,w::vs,i+1,m,nd,a,b,c=>by
   show bindC kindOf ((p,w)::P.zip vs) m x=_;exact p8 (nodup_cons.mp nd).2 (a) (b) c
abbrev start(N:ZC)(vs:List V):St:=vs.map some++List.replicate (~~~N-vs.length) none
abbrev eO(CX:CXT)(P:Program)(w:World)(K:ZB)(mg:ZD)(base:Heap)(N:ZC)(qual:Str)(scope:Scope)(f:Addr)(cd:Value)(A:Around)(outer:List Env)(s:Shared)(H:Hp)(E:XK):Cx where
 prog:=P
 w:=w
 K:=K
 mg:=mg
 base:=base
 A:=A.deeper (envOfC qual scope ⇑s f cd)
 N:=N
 s₀:=s
 H₀:=H
 env:=envOfC qual scope ⇑s f cd
 outer:=outer
 stack:=envOfC qual scope ⇑s f cd::outer
 ex:=[]
 calm:=true
 fn:=λ_=>true
 pn:=[]
 xe:=λe s'=>wpAny (model P w) (A.deeper (envOfC qual scope ⇑s f cd)) (leaving (envOfC qual scope ⇑s f cd) e) (λ_ s''=>CX outer H s E e s'') (λe' s''=>CX outer H s E e' s'') s'
def tJ{a:Scope}{n:Nat}{x:Str}(h:a.names.lookup x∣.cell):∃c,(cellsFrom n a.names []).lookup x∣c:=by
 exact isSome_iff_exists.mp (cellsFrom_some a.names n [] (.inl h))
def yt{P:Program}{K:ZB}
 (S:az N ps a) (J:A.handled=none) (g:vP P w K mg base A outer s H) (T: ~~~vs= ~~~ps) (r:aI vs us)
 (x:InCallC s ⇑s (bindL (envOfC d a ⇑s f C).kindOf (ps.zip us) λ_=>none) (cellsFrom (⇑s+1) a.names []) (bindC (envOfC d a ⇑s f C).kindOf (ps.zip us) λ_=>none) L):
 Inv (eO CX P w K mg base N d a f C A outer s H E) [] (start N vs) H L:=by
 have M: ~~~ps<= ~~~N:=by have:=congrArg List.length S.pre;rw[Yj]at this;lia
 have%[B,tk,rfl|G]:=x.done;have l:∀b,b∉(eO CX P w K mg base N d a f C A outer s H E).ex:=λb z=>absurd (show b∈([])from z) ∅
 refine%[%[g.mod,S.kind,ρ,ρ,Zi _,λy z c B j=>?_,λy m=>?_,λy c _ h=>?_,λ_=>J,Around.frames_deeper g.frames,.inr %[ρ|ρ],λb z=>absurd z (l b),g.bs,g.bsz,λb _ _=>l b,λb z=>absurd z (l b),g.funs|g.frf],
  rfl,g.bare,Un.kept G,%[_,x.toInCall.ns|λi y v B j U=>?_],λy c h=>%[_|x.cell y c h],g.hok.fresh (Zi _),λy c h=>?_,λp n=>absurd (show p∈([])from n) ∅,g.hok.kept G|?_]
 .exact name_of_addr x.apart (PySem.mem_of_lookup B) (PySem.mem_of_lookup j)
 .rcases m with m|m
  .exact tJ m
  .exact absurd rfl (S.nofree _ (PySem.mem_of_lookup m))
 .exact Yc (x.above y c (PySem.mem_of_lookup h))
 .have hi:i< ~~~vs:=by
   unfold start at j;by_cases hi:i< ~~~vs
   .exact hi
   .rw[Y9 ↑hi]at j;rw[List.getElem?_replicate]at j
    split at j<;> cases j
  have O:vs[i]?∣v:=by
   unfold start at j;rw[Y8 ↑hi,Zl]at j
   simp_all
  have%[u,I|Q]:=r.get O;have n:ps[i]?∣y:=by
   rw[<-S.pre,List.getElem?_take_of_lt ⋯];exact B
  have o:ps.Nodup:=S.pre▸S.nd.sublist (List.take_sublist _ _);refine%[u,Q|?_];rcases S.par y (Z8 n)with k|k
  .exact .inl %[k|p7 o n I k]
  .have%[c|e]:=tJ k;refine .inr %[.inl k,c,e|?_];have q:=x.cell y c e;rw[p8 o n I (by show a.names.lookup y≠_;rw[k];decide)]at q;exact q
 .exact g.hok.fresh (Yc (x.above y c (PySem.mem_of_lookup h)))
 .unfold start;show _= ~~~N;rw[Z9,Z6,List.length_replicate]
  lia
def DV{P:Program}{K:ZB}{U kV z Y d ct oc:Value}
 (lk:K.lookup f=some %[oc,od,.func (fnOf name c g i a U kV z Y an d ct)|aa]) (L:codeIn K d c=true) (S:az N ps a)
 (len:∀vs H Q E,sp vs H Q E-> ~~~vs= ~~~ps)
 (l:∀(A:Around) (outer:List Env) (s:Shared) (H:Hp) (vs:List V) (Q:VK) (E:XK),bI k (A.deeper (envOfC c a ⇑s f d))->sp vs H Q E->
  ∃t,PSs (eO CX P w K mg base N c a f d A outer s H E) i t/\t {nx:=λ_ j=>Q .non j,rt:=Q} (start N vs) H):
 dR P w K mg base CX (k+1) f (fnOf name c g i a U kV z Y an d ct) ps sp:=by
 refine%[len|λA outer s H args us vs Q E M B hb r C=>?_];have KX:=B.mod.kin.keeps λb o e=>(B.bs b o e).1
 have O:=B.mod.nolimit.keeps λb o e=>(B.bs b o e).1
 have m:∀y∈ps.zip us,a.names.lookup y.1∣_\/(a.names.lookup y.1∣_/\((cellsFrom (⇑s+1) a.names []).lookup y.1).isSome=true):=λ⟨n,v⟩ hy=>by
  rcases S.par n (of_mem_zip hy).1 with q|q
  .exact .inl q
  .exact .inr %[q|cellsFrom_some _ _ _ (.inl q)]
 refine codeAny_call_function M.depth (KX _ _ lk) rfl S.co S.gen rfl (PySem.W.codeRec_of KX L) (hb _ _ _ _ (wpAny_newFunctionEnv_cells S.kind m λenv he s1 x=>?_));subst he;refine%[O.keeps x.toInCall.keep|codeAny_func ?_];have%[t,ht|hq]:=l A outer s H vs Q E (M.deeper _) C;have I:Inv (eO CX P w K mg base N c a f d A outer s H E) [] _ H s1:=yt S M.hd B (len _ _ _ _ C) r x;refine wpAny_mono (ht [] s1 _ H _ I hq) (λfl s' p=>?_) λe s' p=>p
 have G:∀{h:St} {j:Hp} {v:V} {u:Value},Inv (eO CX P w K mg base N c a f d A outer s H E) [] h j s'->aV v u->Q v j->CE outer P w H s Q u s':=
  λ{h j v u} J T q=>%[v,j,J.os,J.bare,J.base,J.hok,T|q]
 cases fl with
 | ret u=>
   have%[v,h,j,J,T|q]:=p;exact G J T q
 | next=>
   have%[h,j,J|q]:=p;exact G (v:=V.non) J rfl q
 | brk=>
   have%[_,_,_|q]:=p
   simp_all
 | cont=>
   have%[_,_,_|q]:=p;exact False.elim q
section
variable{X:Cx}{x:Str}{p pos:Pos}{e:Expr}{es:List Expr}{t:TA}{id T:String}{r:List V->Hp->VK->Prop}
abbrev tCB(r:List V->Hp->VK->Prop)(t:TA):TE:=λa H Q=>t a H λvs b=>r vs b Q
def Ag(d:bW X (.builtin id) r)(f:Gl X x)(g:X.mg x=none)(i:bootBuiltins x∣.builtin id)(j:PA X (e::es) t)(l:x≠"__name__")(a:(x==("__debug__":Str))=false)
 (m:starEach (e::es) X.env=(false,eval e X.env)::starEach es X.env) (b:(backTo pos (starEach es X.env)).any (·.1)=false):PE X (.Call (.Name x p) (e::es) [] pos) (tCB r t):=by
 intro pins s c H Q I h;exact wpAny_Call_Name_kw (jp I f g i (PyProof.Rows.callWith_builtin1 (thP (j pos pins s c H _ I h) λus n vs o q u v=>d pins n c o vs us Q q u v) m b) l a)
def yv(d:bW X (.type T) r)(f:Gl X x)(g:X.mg x=none)(i:bootBuiltins x∣.type T)(j:PA X (e::es) t)(l:x≠"__name__")(a:(x==("__debug__":Str))=false)
 (m:starEach (e::es) X.env=(false,eval e X.env)::starEach es X.env) (b:(backTo pos (starEach es X.env)).any (·.1)=false):PE X (.Call (.Name x p) (e::es) [] pos) (tCB r t):=by
 intro pins s c H Q I h;exact wpAny_Call_Name_kw (jp I f g i (PyProof.Rows.callWith_type1 (thP (j pos pins s c H _ I h) λus n vs o q u v=>d pins n c o vs us Q q u v) m b) l a)
end
end _L
namespace _H
open PySem PyProof.Rows
section
open PySem.SeqAt
open PySem.AutoSeq1 (wpAny_loadPart')
open PySem.MeetsSeq PySem.MeetsSeq2 PySem.MeetsSeq3
#where
abbrev sIx(n d:Nat):Option Int->Nat
 | none=>d
 | some v=>if v<0 then(v+n).toNat else min v.toNat n
def sIx_none(n d:Nat):sIx n d none=d:=rfl
def sIx_nat(n d k:Nat):sIx n d (some k)=min k n:=by
 show(if k<0 then((k:Int) +n).toNat else min _ n)=min k n;rw[if_neg ⋯,Int.toNat_natCast]
end
end _H
namespace _L
open PySem PySem.Spec PyProof.Rows
noncomputable abbrev TO:=St->Hp->(Option Int->Hp->Prop)->Prop
abbrev PO(X:Cx)(e:Option Expr)(t:TO):Prop:=
 ∀pins s (a:St) H Q,Inv X pins a H s->t a H Q->
  (X⁻¹) (evalPart e X.env) (λu s'=>∃o b,Inv X pins a b s'/\IsPart u o/\Q o b) X.xe s
abbrev rL:TO:=λ_ H Q=>Q none H
abbrev Ah(t:TE):TO:=λa H Q=>t a H λx b=>asI x λi=>Q (some i) b
section
variable{X:Cx}{e:Expr}{te:TE}{lo hi:Option Expr}{tl th:TO}{pos p2:Pos}
def CF:PO X none rL:=by
 intro pins s a H Q I h;exact Z3 %[none,H,I,.none|h]
def CG(h:PE X e te):PO X (some e) (Ah te):=by
 intro pins s a H Q I hw;refine thP (h pins s a H _ I hw) λu g x b c d f=>?_
 have%[i,rfl|q]:=io f;have%[t|rfl]:=d;exact%[some i,b,c,.int i t|q]
abbrev SlR(X:Cx)(r:V->Option Int->Option Int->Hp->VK->Prop):Prop:=
 ∀pins s (a:St) H x v b c lo hi d Q,Inv X pins a H s->aV x v->s.heap.IsSliceOf d b c .none->IsPart b lo->IsPart c hi->r x lo hi H Q->
  ∃T id,typeLookup (.type T) "__getitem__"=pure (some (.builtin id))/\s.TypeIs v T/\(X⁻¹) (getItem v (.ref d)) (EP X pins a Q) X.xe s
abbrev tSl(r:V->Option Int->Option Int->Hp->VK->Prop)(te:TE)(tl th:TO):TE:=λa H Q=>te a H λx b=>tl a b λl c=>th a c λu d=>r x l u d Q
def tK(c:SlR X r)(d:PE X e te)(f:PO X lo tl)(g:PO X hi th):PE X (.Subscript e (.Slice lo hi none p2) pos) (tSl r te tl th):=by
 intro pins s a H Q I h;refine Subscript_ (thP (d pins s a H _ I h) λv i x j m n o=>wpAny_Slice (thP (f pins i a j _ m o) λp w l y z pl A=>thP (g pins w a y _ z A) λB C u E G J L=>Z3 ?_));have%[T,id,M,N|O]:=c pins _ a E x v p B l u ⇑C Q (G.kept λb U q=>Z7 _ q) n (Heap.IsSliceOf.new ..) pl J L;exact tail_any N M O (by with_unfolding_all rfl)
abbrev vQ(xs:List V)(lo hi:Option Int):List V:=(xs.drop (_H.sIx xs.length 0 lo)).take (_H.sIx xs.length xs.length hi-_H.sIx xs.length 0 lo)
def tL(xs:List V)(lo hi:Option Int): ~~~(vQ xs lo hi)<= ~~~xs:=by
 unfold vQ;rw[Yj,Yf]
 lia
end
abbrev ixN(n:Nat)(i:Int):Option Nat:=if 0<=i then(if i<n then some i.toNat else none)else if -n<=i then some (i+n).toNat else none
abbrev atI{a:Type}(xs:List a)(i:Int):Option a:=(ixN xs.length i).bind λj=>xs[j]?
def CH(h:ixN n i∣j):seqIndex? i n∣j/\j<n/\ -(n:Int)<=i/\i<n:=by
 unfold ixN at h;by_cases b:0<=i
 .rw[if_pos b]at h;by_cases a:i<n
  .rw[if_pos a]at h;exact%[by rw[seqIndex_of b a,(Za h)],⋯,⋯|a]
  simp_all
 .rw[if_neg b]at h;by_cases a: -n<=i
  .rw[if_pos a]at h;exact%[by rw[seqIndex_neg ⋯ a,(Za h)],⋯,a|⋯]
  .rw[if_neg a]at h;cases h
def rN{a:Type}{xs:List a}{i:Int}{v:a}(h:atI xs i∣v):∃j,seqIndex? i xs.length∣j/\xs[j]?∣v/\j< ~~~xs/\ -xs.length<=i/\i< ~~~xs:=by
 unfold atI at h;cases e:ixN xs.length i with
 | none=>simp_all
 | some j=>
   rw[e]at h;have%[b,c,d|f]:=CH e;exact%[j,b,h,c,d|f]
def cg{a:Type}{xs:List a}{j:Nat}{v:a}(h:xs[j]?∣v):atI xs j∣v:=by
 have b:=(Xi h).1;have e:ixN xs.length j∣j:=by
  unfold ixN
  simp_all
 unfold atI;exact e▸h
def mT(xs:List a)(v:a):atI (xs++[v]) (-1)∣v:=by
 have b: ~~~(xs++[v])= ~~~xs+1:=by simp
 have e:ixN (xs++[v]).length (-1)∣xs.length:=by
  unfold ixN;rw[b,if_neg (!1),if_pos ⋯]
  congr 1
  lia
 unfold atI
 simp_all
abbrev mE(b:Expr):Prop:=∀o i,subscripted b false o i=operate [o,i] (getItem o i)
abbrev IxR(X:Cx)(r:R2):Prop:=
 ∀b a pins s (c:St) H x y v u Q,Inv X pins c H s->aV x v->aV y u->r x y H Q->
  subscripted a false v u=operate [v,u] (getItem v u)->(X⁻¹) (subscriptTail b a v u) (EP X pins c Q) X.xe s
abbrev MtR(X:Cx)(id:String)(r:V->List V->Hp->VK->Prop):Prop:=
 ∀pins s (a:St) H x xs v us Q,Inv X pins a H s->aV x v->aI xs us->r x xs H Q->
  (X⁻¹) (call (.builtin id) (v::us)) (EP X pins a Q) X.xe s
section
variable{X:Cx}{a b:Expr}{ta tb:TE}{pos:Pos}
def Ai(c:IxR X r)(d:PE X a ta)(e:PE X b tb)(f:mE b):PE X (.Subscript a b pos) (tOp r ta tb):=by
 intro pins s g H Q I h;exact Subscript_ (EK d e I h λv u i x y j l m n q=>c a b pins i g j x y v u Q l m n q (f _ _))
abbrev E7(K:ZB):R2:=λx y H Q=>asR x λp=>asI y λi=>∃xs,SqL K H p xs/\∃v,atI xs i∣v/\Q v H
abbrev E8(K:ZB):R2:=λx y H Q=>asR x λp=>asI y λi=>∃xs,SqT K H p xs/\∃v,atI xs i∣v/\Q v H
abbrev E9:R2:=λx y H Q=>∃z i c,x= .str z/\y= .int i/\ ~~~z<=sizeLine/\atI z.cps.toList i∣c/\Q (.str ⟨#[c]⟩) H
def CI:IxR X (E7 X.K):=by
 intro e f pins s B H x y v u Q I C E h n;have%[p,rfl|g]:=d9 h;have%[i,rfl,xs,G,z,J|q]:=io g;cases C;have%[t|rfl]:=E;have%[its,r,pl|O]:=I.list G;have%[j,d,g,T,L|M]:=rN J;have%[w,o|l]:=r.get g;have N:= ~~~r;have U:=rJ;have c:EP X pins B Q w s:=%[z,H,I,l|q]
 by_cases A:0<=i
 .have m:=by
   rw[seqIndex_of A M]at d;exact Za d
  exact item_listR pl.isList A ⋯ (by rw[m];simpa using o) c n
 .have m:(i+its.toArray.size).toNat=j:=by
   rw[seqIndex_neg ⋯ L]at d;rw[Zp,<-N];exact Za d
  exact subscriptTail_builtinR pl.isList.typeIs slot_list_getitem.lookup
   (wpAny_getItem_list_neg pl.isList ⋯ (!2) ⋯ (by rw[m];simpa using o) %[rfl|c]) n
def Fa:IxR X (E8 X.K):=by
 intro c d pins s l H x y v u Q I m n h o;have%[p,rfl|e]:=d9 h;have%[i,rfl,xs,A,z,B|q]:=io e;cases m;have%[t|rfl]:=n;have%[its,r,pl|G]:=I.tuple A;have%[j,C,e,J,L|M]:=rN B;have%[w,E|f]:=r.get e;have N:=rJ;have g:EP X pins l Q w s:=%[z,H,I,f|q]
 exact subscriptTail_builtinR pl.typeIs slot_tuple_getitem.lookup
  (getItem_tuple pl ⋯ ⋯ (by rw[Zp,<-r.length];exact C) ↑E %[rfl|g]) o
def Fb:IxR X E9:=by
 intro d e pins s A H x y v u Q I g l h m;have%[z,i,c,rfl,rfl,B,n|q]:=h;have%[t|rfl]:=g;have%[t'|rfl]:=l;have%[j,f,o,C,p|r]:=rN n;have w: ~~~z.cps.toList= ~~~z:=by simp[Str.length]
 rw[w]at f p r;have E:=rJ;exact tail_any (typeIs_str s z t) slot_str_getitem.lookup (getItem_str (by
  lia) (by rw[f];simpa using o) %[.str _,H,I.tok _,%[_|rfl]|q]) m
def rO(lo hi:Option Int)(n:Nat):(sliceBounds lo hi none n).1=((_H.sIx n 0 lo:Nat):Int)/\(sliceBounds lo hi none n).2.1=((_H.sIx n n hi:Nat):Int)/\(sliceBounds lo hi none n).2.2=1:=by
 refine%[?_,?_|ρ]
 .cases lo with
  | none=>simp[sliceBounds,_H.sIx]
  | some i=>
    simp only[sliceBounds,_H.sIx,getD_none,show(1:Int)>0 by decide,if_true];by_cases h:i<0
    .simp only[h,if_true]<;> lia
    .simp only[h,if_false]<;> lia
 .cases hi with
  | none=>simp[sliceBounds,_H.sIx]
  | some i=>
    simp only[sliceBounds,_H.sIx,getD_none,show(1:Int)>0 by decide,if_true];by_cases h:i<0
    .simp only[h,if_true]<;> lia
    .simp only[h,if_false]<;> lia
def pB(its:ZG)(lo hi:Option Int):slicePick its.toArray lo hi none=((its.drop (_H.sIx its.length 0 lo)).take (_H.sIx its.length its.length hi-_H.sIx its.length 0 lo)).toArray:=by
 have%[c,d|e]:=rO lo hi its.toArray.size;unfold slicePick;rw[c,d,e];simp only[sliceRange_one,pick_run]<;> rfl
abbrev Fc(K:ZB):V->Option Int->Option Int->Hp->VK->Prop:=λx lo hi H Q=>∃a xs,x= .ref a/\SqL K H a xs/\∀p,H p=none->Q (.ref p) (upd H p (.lst (vQ xs lo hi)))
def CJ:SlR X (Fc X.K):=by
 intro pins s l H x v m n lo hi o Q I e f pl g h;have%[a,xs,rfl,i|q]:=h;cases e;have%[its,r,d|j]:=I.list i;have c:= ~~~r;refine%["list",_,slot_list_getitem.lookup,d.isList.typeIs|wpAny_getItem_list_slice d.isList f pl g .none ∅ ?_ (!2)];rw[pB,<-c];refine%[.ref ⇑s,_,I.laid (λb p q=>Z7 _ q) (Zi _) ?_,ρ|q _ (I.hok.fresh (Zi _))];exact%[Ye (tL xs lo hi) j,_,0,(r.drop _).take _|Zj _ rfl]
abbrev fc:V->Bool
 | .non=>true
 | .bl _=>true
 | .int _=>true
 | .str _=>true
 | _=>false
abbrev eqV:V->V->Bool
 | .non,.non=>true
 | .bl a,.bl b=>a==b
 | .bl a,.int b=>(if a then 1 else 0)==b
 | .int a,.bl b=>a==(if b then 1 else 0)
 | .int a,.int b=>a==b
 | .str a,.str b=>a==b
 | _,_=>false
def Aj(d:aV y u)(c:aV x v)(f:fc y=true)(e:fc x=true):SeqAt.EqAt A s u v (eqV y x):=by
 cases y with
 | non=>
   cases d;cases x with
   | non=>cases c;exact SeqAt.EqAt.same _
   | bl b=>cases c;exact SeqAt.EqAt.none_bool b
   | int b=>have%[t|rfl]:=c;exact SeqAt.EqAt.none_int b t
   | str b=>have%[t|rfl]:=c;exact SeqAt.EqAt.none_str b t
   | _=>exact absurd (show false=true from e) Zt
 | bl a=>
   cases d;cases x with
   | non=>cases c;exact SeqAt.EqAt.bool_none a
   | bl b=>cases c;exact SeqAt.EqAt.bool_bool a b
   | int b=>have%[t|rfl]:=c;exact SeqAt.EqAt.bool_int a b t
   | str b=>have%[t|rfl]:=c;exact SeqAt.EqAt.bool_str a b t
   | _=>exact absurd (show false=true from e) Zt
 | int a=>
   have%[t'|rfl]:=d;cases x with
   | non=>cases c;exact SeqAt.EqAt.int_none a t'
   | bl b=>cases c;exact SeqAt.EqAt.int_bool a t' b
   | int b=>have%[t|rfl]:=c;exact SeqAt.EqAt.int_int a t' b t
   | str b=>have%[t|rfl]:=c;exact SeqAt.EqAt.int_str a t' b t
   | _=>exact absurd (show false=true from e) Zt
 | str a=>
   have%[t'|rfl]:=d;cases x with
   | non=>cases c;exact SeqAt.EqAt.str_none a t'
   | bl b=>cases c;exact SeqAt.EqAt.str_bool a t' b
   | int b=>have%[t|rfl]:=c;exact SeqAt.EqAt.str_int a t' b t
   | str b=>have%[t|rfl]:=c;exact SeqAt.EqAt.str_str a t' b t
   | _=>exact absurd (show false=true from e) Zt
 | _=>exact absurd (show false=true from f) Zt
abbrev eqU(x:V)(u:Value):Bool:=match u with
 | .none=>eqV .non x
 | .bool b=>eqV (.bl b) x
 | .int i _=>eqV (.int i) x
 | .str z _=>eqV (.str z) x
 | _=>false
def Ak(r:aV y u)(f:fc y=true):eqU x u=eqV y x:=by
 cases y with
 | non=>cases r;rfl
 | bl b=>cases r;rfl
 | int i=>have%[t|rfl]:=r;rfl
 | str z=>have%[t|rfl]:=r;rfl
 | _=>exact absurd (show false=true from f) Zt
def rP:∀{xs:List V} {us:ZG},aI xs us->xs.all fc=true->us.any (eqU x)=xs.any λy=>eqV y x
 | _,_,.nil,_=>rfl
 | y::xs,u::us,.cons r t,f=>by
   rw[List.all_cons,Zv]at f;rw[Zw,Zw,Ak r f.1,rP t f.2]
def mU(d:aV x v)(e:fc x=true):∀{xs:List V} {us:ZG},aI xs us->xs.all fc=true->∀u∈us,SeqAt.EqAt A s u v (eqU x u)
 | _,_,.nil,_=>λu c=>by cases c
 | y::xs,u::us,.cons r t,f=>λg c=>by
   rw[List.all_cons,Zv]at f;rcases mem_cons.mp c with rfl|c
   .rw[Ak r f.1];exact Aj r d f.1 e
   .exact mU d e t f.2 g c
abbrev inV(x:V)(xs:List V):Bool:=xs.any λy=>eqV y x
abbrev rIn(K:ZB)(c:Bool):R2:=λx y H Q=>∃p xs,y= .ref p/\(SqL K H p xs\/SqT K H p xs)/\fc x=true/\xs.all fc=true/\Q (.bl (if c then !inV x xs else inV x xs)) H
def yw:OpR X (compareOp .In) (rIn X.K false):=by
 intro pins s i H x y v u Q I d f h;have%[p,xs,rfl,c,e,fs|q]:=h;cases f;rcases c with c|c
 .have%[its,r,pl|g]:=I.list c;refine SeqAt.in_listAt _ pl.isList (λw hw=>mU d e r fs w ↑hw) %[.bl _,H,I,rfl|?_];rw[show its.toArray.any _=its.any (eqU x) by simp,rP r fs];exact q
 .have%[its,r,pl|g]:=I.tuple c;refine SeqAt.in_tupleAt _ pl (λw hw=>mU d e r fs w ↑hw) %[.bl _,H,I,rfl|?_];rw[show its.toArray.any _=its.any (eqU x) by simp,rP r fs];exact q
def rQ:bW X (.type "list") (λxs H Q=>∃p ys,xs=[.ref p]/\(SqL X.K H p ys\/SqT X.K H p ys)/\∀l,H l=none->Q (.ref l) (upd H l (.lst ys))):=by
 intro pins s A H xs us Q I r h;have%[p,ys,rfl,f|q]:=h;have%[u,rfl|B]:=cR r;cases B;have g:∀its,aI ys its-> ~~~ys<=sizeLine->∀h' d,(∀b z,s.heap.get? b∣z->h'.get? b∣z)->
  h'.get? ⇑s∣_->EP X pins A Q _ (s>>>h'):=λits c i h' d j e=>
  %[.ref ⇑s,_,I.laid j (Zi _) (show bV X.prog X.w _ h' _ (.lst ys)from%[i,its,d,c|e]),rfl|q _ (I.hok.fresh (Zi _))]
 rcases f with f|f
 .have%[its,c,pl|i]:=I.list f;have m:= ~~~c;have%[o,v,w,n|y]:=pl.isList;exact call_list_seq p (.inl rfl) v w y (λh' d j e=>g its c i h' d j e) (by simp only[Zp]<;> lia)
 .have%[its,c,pl|i]:=I.tuple f;have m:= ~~~c;have%[o,v,w,n|y]:=pl;exact call_list_seq p (.inr rfl) v w y (λh' d j e=>g its c i h' d j e) (by simp only[Zp]<;> lia)
abbrev tyV(K:ZB)(T:String)(x:V)(H:Hp):Prop:=match x with
 | .str _=>T="str"
 | .int _=>T="int"
 | .ref p=>(T="list"/\∃xs,SqL K H p xs)\/(T="tuple"/\∃o,K.lookup p∣o/\o.cls= .type "tuple"/\o.dict=none)\/
  (T="dict"/\((∃c,H p∣.dK c)\/∃c,H p∣.dT c))\/(T="set"/\∃S n,H p∣.set S n)
 | _=>False
def Al(I:Inv X pins q H s)(r:aV x v)(ty:tyV X.K T x H):
 s.TypeIs v T/\∀a,v= .ref a->∃j,s.heap.get? a∣j/\j.dict=none:=by
 cases x with
 | str z=>
   have%[t|rfl]:=r;cases(show T="str" from ty);exact%[typeIs_str s z t|λ_ e=>nomatch e]
 | int i=>
   have%[t|rfl]:=r;cases(show T="int" from ty);exact%[typeIs_int s i t|λ_ e=>nomatch e]
 | ref p=>
   cases r;rcases ty with⟨rfl,xs,l⟩|⟨rfl,o,d,m,f⟩|⟨rfl,d⟩|⟨rfl,S,n,d⟩
   .have%[its,_,pl|_]:=I.list l;refine%[pl.isList.typeIs|λa e=>?_];cases e;have%[o,n,e,c,f|_]:=pl;exact%[o,e|f]
   .refine%[%[o,I.kIn p o d|m]|λa e=>?_];cases e;exact%[o,I.kIn _ o d|f]
   .have z:∃o,s.heap.get? p∣o/\o.ExactDict:=by
     rcases d with⟨g,d⟩|⟨g,d⟩
     .have%[_,_,_,_,o,_,_,e,ex|_]:=I.hok p _ d;exact%[o,e|ex]
     .have%[_,_,_,_,o,_,_,e,ex|_]:=I.hok p _ d;exact%[o,e|ex]
    have%[o,e|ex]:=z;refine%[%[o,e|ex.1]|λa h=>?_];cases h;exact%[o,e|ex.2.1]
   .have%[o,_,_,_,e,ex|_]:=I.hok p _ d;refine%[%[o,e|ex.1]|λa h=>?_];cases h;exact%[o,e|ex.2.1]
 | _=>exact False.elim ty
abbrev CL(K:ZB)(T:String)(r:V->List V->Hp->VK->Prop)(d:TE):TE:=λe H Q=>d e H λx c=>tyV K T x c/\r x [] c Q
abbrev tBM(K:ZB)(T:String)(r:V->List V->Hp->VK->Prop)(e:TE)(t:TA):TE:=λc H Q=>e c H λx d=>tyV K T x d/\t c d λxs f=>r x xs f Q
variable{o e:Expr}{es:List Expr}{to:TE}{t:TA}{name:Str}{apos cpos:Pos}{T id:String}{r:V->List V->Hp->VK->Prop}
def Fe(l:PlainAttrs T)(slot:Slot T name id)(f:typeOf (.builtin id)=pure (.type "method_descriptor"))(m:MtR X id r)(n:PE X o to)
 (c:attributeBase o name X.env (eval o X.env)=eval o X.env) (d:(apos.endLine==cpos.line)=true):PE X (.Call (.Attribute o name apos) [] [] cpos) (CL X.K T r to):=by
 intro pins s g H Q I h;refine wpAny_Call_method0_late c d (thP (n pins s g H _ I h) λv p x q i j ⟨ty,u⟩=>?_);have%[w|y]:=Al i j ty;exact%[T,id,l,slot,f,w,y|Calls.callWith_builtin rfl (PySem.evalArgs_none (m pins p g q x [] v [] Q i j .nil u))]
def G1(p:PlainAttrs T)(slot:Slot T name id)(i:typeOf (.builtin id)=pure (.type "method_descriptor"))(q:MtR X id r)(u:PE X o to)(w:PA X (e::es) t)
 (d:attributeBase o name X.env (eval o X.env)=eval o X.env)
 (g:((backTo cpos (starEach (e::es) X.env)).all (λx=>!x.1)&&(backToKw cpos (keywordEach [] X.env)).all (λx=>x.1.isSome)
  && decide (~~~(e::es)+ ~~~([]:List Keyword)+(if([]:List Keyword).isEmpty then 0 else 1)<30))=true)
 (f:(apos.endLine==cpos.line)=true) (y:starEach (e::es) X.env=(false,eval e X.env)::starEach es X.env) (c:(backTo cpos (starEach es X.env)).any (·.1)=false):
 PE X (.Call (.Attribute o name apos) (e::es) [] cpos) (tBM X.K T r to t):=by
 intro pins s j H Q I h;refine wpAny_Call_method_late d g f rfl (thP (u pins s j H _ I h) λv z x A l m ⟨ty,B⟩=>?_);have%[C|E]:=Al l m ty;refine%[T,id,p,slot,i,C,E|?_];have n:=w cpos pins z j A _ l B;rw[y]at n ⊢;exact Calls.callWith_builtin (by show(false||(backTo cpos _).any _)=false;rw[c]<;> rfl) (Calls.evalArgs_plain (thn n λus G ⟨vs,J,L,M,N⟩=>q pins G j J x vs v us Q L m M N))
end
abbrev MtM(X:Cx)(id:String)(r:V->List V->Hp->VK->Prop):Prop:=
 ∀pins s (a:St) H x xs v us Q,Inv X pins a H s->aV x v->aI xs us->r x xs H Q->
  (X⁻¹) (call (.builtin id) (v::us)) (EP X pins a Q) X.xe s
def aI.one:∀{x:V} {us:ZG},aI [x] us->∃u,us=[u]/\aV x u
 | _,_,.cons r .nil=>%[_,rfl|r]
def aI.zero:∀{us:ZG},aI [] us->us=[]
 | _,.nil=>rfl
def aI.eraseIdx:∀{xs:List V} {us:ZG} i,aI xs us->aI (xs.eraseIdx i) (us.eraseIdx i)
 | _,_,_,.nil=> .nil
 | _,_,0,.cons _ t=>t
 | _,_,i+1,.cons r t=> .cons r (aI.eraseIdx i t)
def aI.reverse(h:aI xs us):aI xs.reverse us.reverse:=by
 induction h with
 | nil=>exact .nil
 | cons r t a=>rw[List.reverse_cons,List.reverse_cons];exact aI.append a (.cons r .nil)
def aI.rep(h:aI xs us):∀k:Nat,aI (List.replicate k xs).flatten (List.replicate k us).flatten
 | 0=> .nil
 | k+1=>by
   exact aI.append h (aI.rep h k)
def kH:∀(l:List a) (i:Nat),~~~(l.eraseIdx i)<= ~~~l
 |[],_=>Zi _
 | _::_,0=>Yd _
 | _::r,i+1=>Nat.succ_le_succ (kH r i)
def p9(its:ZG):∀k acc,
 List.foldl (λa x2=>a++x2) acc.toArray (List.replicate k its.toArray)=(acc++(List.replicate k its).flatten).toArray
 | 0,acc=>by simp
 | k+1,acc=>by
   have e:acc.toArray++its.toArray=(acc++its).toArray:=by simp
   have b:(acc++its) ++(List.replicate k its).flatten=acc++(List.replicate (k+1) its).flatten:=by
    rw[List.replicate_succ,List.flatten_cons,Ze]
   rw[<-b,<-p9 its k _,<-e,List.replicate_succ,Y7]
section
#version
variable{l b:Addr}{xs ys zs:List V}
def Inv.lset{its its':ZG}{n:Nat}{f:ZK->ZK}{t':Nat}(I:Inv X pins σ H s)(a:H l<*xs)
 (e:s.heap.get? l=some {cls:= .type "list",data:= .seq its.toArray n}) (c:f its.toArray=its'.toArray) (d:aI ys its') (g: ~~~ys<=sizeLine):
 Inv X pins σ (upd H l (.lst ys)) {s with heap:=s.heap.update l (Obj.mapSeq f),toks:=t'}:=by
 have q:=PySem.IsL.update e f;rw[c]at q;refine I.write (a▸trivial) (.inl rfl) (λj u h i=>(get?_update_other s.heap _ (Ne.symm h)).trans i) %[_|q] ?_;exact%[g,its',_,d|q]
def Inv.lnew(I:Inv X pins σ H s)(a:aI ys its)(c: ~~~ys<=sizeLine):
 Inv X pins σ (upd H ⇑s (.lst ys)) {s with heap:=s.heap.push {cls:= .type "list",data:= .seq its.toArray},toks:=t'}:=
 I.laid (λ_ _ q=>Z7 _ q) (Zi _) %[c,its,0,a|Zj _ rfl]
def Inv.fresh(I:Inv X pins σ H s):H ⇑s=none:=I.hok.fresh (Zi _)
def Inv.lstM(I:Inv X pins σ H s)(a:H l<*xs): ~~~xs<=sizeLine/\∃its n,aI xs its/\ ~~~xs= ~~~its/\s.heap.get? l=some {cls:= .type "list",data:= .seq its.toArray n}:=by
 have%[z,its,n,r|e]:=I.hok l _ a;exact%[z,its,n,r,~~~r|e]
def tM{n:Nat}(h:n<=sizeLine):Builtin.List.listTooLong n=false:=by
 unfold Builtin.List.listTooLong
 simp_all
end
section
variable{X:Cx}
abbrev rR:V->List V->Hp->VK->Prop:=λx vs H Q=>asR x λl=>∃y,vs=[y]/\∃xs,H l<*xs/\ ~~~xs<sizeLine/\Q .non (upd H l (.lst (xs++[y])))
def qb:MtM X "list.append" rR:=by
 intro pins s f H x vs v us Q I b c h;have%[l,rfl,y,rfl,xs,a,g|q]:=d9 h;cases b;have%[u,rfl|d]:=c.one;have%[z,its,n,r,i|e]:=I.lstM a;refine call_meets F.slot_list_append %[_,e|rfl] F.entry_list_append (F.args_list_append_2 _ _) (PySem.list_append l its.toArray n u (!2)) %[e,.non,_,I.lset a e ∅ (r.append (.cons d .nil)) ?_,rfl|q];rw[Z9,Yi]
 lia
abbrev rS:V->List V->Hp->VK->Prop:=λx vs H Q=>∃l b xs zs,x= .ref l/\vs=[.ref b]/\H l<*xs/\H b<*zs/\ ~~~xs+ ~~~zs<=sizeLine/\Q .non (upd H l (.lst (xs++zs)))
def yx:MtM X "list.extend" rS:=by
 intro pins s y H x vs v us Q I f g h;have%[l,b,xs,zs,rfl,rfl,d,i,A|q]:=h;cases f;have%[u,rfl|j]:=g.one;cases j;have%[z,its,n,r,B|e]:=I.lstM d;have%[C,its2,m,o,p|w]:=I.lstM i;have c:its.toArray.size+its2.toArray.size<=sizeLine:=!2
 have a: ¬ (!its.toArray.isEmpty&&Builtin.List.listTooLong (its.toArray.size+its2.toArray.size))=true:=by
  rw[tM c,Bool.and_false];exact Zt
 refine call_meets F.slot_list_extend %[_,e|rfl] F.entry_list_extend (F.args_list_extend_2 _ _)
  (AutoSeq1.list_extend_list_list_0 l its.toArray n b its2.toArray m a ⋯ ⋯) %[e,w,.non,_,I.lset d e ∅ (r.append o) ?_,rfl|q]
 simp_all
abbrev vR:V->List V->Hp->VK->Prop:=λx vs H Q=>∃l xs,x= .ref l/\vs=[]/\H l<*xs/\Q .non (upd H l (.lst []))
def Am:MtM X "list.clear" vR:=by
 intro pins s f H x vs v us Q I c d h;have%[l,xs,rfl,rfl,b|q]:=h;cases c;have a:=d.zero;subst a;have%[z,its,n,r,g|e]:=I.lstM b;exact call_meets F.slot_list_clear %[_,e|rfl] F.entry_list_clear (F.args_list_clear_1 _) (AutoSeq1.list_clear_list_0 l its.toArray n (by rw[Zp];lia)) %[e,.non,_,I.lset b e rfl .nil (Xb _),rfl|q]
abbrev Ff:R2:=λx y H Q=>∃l b xs zs,x= .ref l/\y= .ref b/\H l<*xs/\H b<*zs/\ ~~~xs+ ~~~zs<=sizeLine/\∀p,H p=none->Q (.ref p) (upd H p (.lst (xs++zs)))
def Fg:OpR X (binaryOp .Add) Ff:=by
 intro pins s o H x y v u Q I a c h;have%[l,b,xs,zs,rfl,rfl,d,f,p|q]:=h;cases a;cases c;have%[z,its,n,r,w|e]:=I.lstM d;have%[A,its2,B,g,i|j]:=I.lstM f;refine PySem.P.add_list e j ?_ (by rw[Zp,Zp];lia);have m:its.toArray++its2.toArray=(its++its2).toArray:=by simp
 rw[m];exact%[.ref _,_,I.lnew (r.append g) (by rw[Z9];lia),ρ|q _ I.fresh]
abbrev Fh:R2:=λx y H Q=>∃l k xs,x= .ref l/\y= .int k/\H l<*xs/\ -(2^63)<=k/\k<2^63/\ ~~~xs*k.toNat<=sizeLine/\
 ∀p,H p=none->Q (.ref p) (upd H p (.lst (List.replicate k.toNat xs).flatten))
def CM(xs:List a)(k:Nat):(List.replicate k xs).flatten.length=k* ~~~xs:=by
 simp
def Fi:OpR X (binaryOp .Mult) Fh:=by
 intro pins s E H x y v u Q I o p h;have%[l,k,xs,rfl,rfl,w,A,B,j|q]:=h;cases o;have%[t|rfl]:=p;have%[z,its,n,r,C|e]:=I.lstM w;have c:its.toArray.size*k.toNat<=sizeLine:=by rw[Zp,<-C];exact j
 have d: ¬ its.toArray.size*k.toNat>(2^63-1)/8:=by
  have:sizeLine<=(2^63-1)/8:=!1
  lia
 have f: ¬ (!Builtin.List.listFitsIndex k)=true:=by
  rw[fitsIndex_both A B];exact Zt
 have b: ¬ Builtin.List.listTooLong (its.toArray.size*k.toNat)=true:=by
  rw[tM c];exact Zt
 have g:List.foldl (λi x2=>i++x2) #[] (List.replicate (if its.toArray.isEmpty=true then 0 else k.toNat) its.toArray)=(List.replicate k.toNat its).flatten.toArray:=by
  have G:∀m,List.foldl (λi x2=>i++x2) #[] (List.replicate m its.toArray)=(List.replicate m its).flatten.toArray:=λm=>by
   have:=p9 its m []
   simp_all
  cases its with
  | nil=>simp
  | cons a J=>simp_all
 refine wpAny_binaryOp_repeat_ref (!1) %[_,e|rfl] (λs'=>typeIs_int s' k t) noFill_list_mul F.fills_int_mul F.slot_int_rmul repeat_list F.slot_int_index.lookup
  (call_meets F.slot_int_rmul (typeIs_int s k t) F.entry_int_rmul (F.args_int_rmul_2 _ _) (int___rmul___int_list k t l its.toArray n)
   %[e,rfl,%[_,e|rfl]|call_meets F.slot_list_mul %[_,e|rfl] F.entry_list_mul (F.args_list_mul_2 _ _) (AutoListH.list___mul___list_int_3 l its.toArray n k t f d b) %[e|?_]])
 rw[g];exact%[.ref _,_,I.lnew (r.rep k.toNat) (by rw[CM,Nat.mul_comm];exact j),ρ|q _ I.fresh]
#where
end
section
variable{κ:Type}[DecidableEq κ]
abbrev cD(a:List (κ×V))(k:κ):Option V:=(a.find? λb=>decide (b.1=k))\2
abbrev cE(a:List (κ×V))(k:κ)(v:V):List (κ×V):=
 if(a.any λb=>decide (b.1=k))=true then a.map (λb=>if b.1=k then(b.1,v)else b)else a++[(k,v)]
def dS{p:κ×V}{r:List _}{k:κ}(e:p.1=k):cD (p::r) k∣p.2:=by simp[cD,e]
def cS{p:κ×V}{r:List _}{k:κ}(e: ¬ p.1=k):cD (p::r) k=cD r k:=by simp[cD,e]
def iq(k:κ):∀a,(a.any λb=>decide (b.1=k))=(cD a k).isSome
 |[]=>rfl
 | p::r=>by
   rw[Zw];by_cases e:p.1=k
   .simp only[dS e,Zf e,Bool.true_or,Option.isSome_some]
   .rw[cS e,Zh e,Bool.false_or];exact iq k r
def dU(a:List _)(k:κ)(v:V): ~~~(cE a k v)<= ~~~a+1:=by
 unfold cE
 split
 .simp
 simp_all
def mV{k:κ}(v:V)(h:cD a k=none):cE a k v=a++[(k,v)]:=by
 unfold cE;rw[iq,h];exact if_neg (!1)
def fD.isSome_eq(r:fD o u):o.isSome=u.isSome:=by
 cases o with
 | none=>cases u with
   | none=>rfl
   | some _=>exact(r).elim
 | some _=>cases u with
   | none=>exact(r).elim
   | some _=>rfl
def fD.getD{o:Option V}{u:Option Value}{d:V}{d':Value}(r:fD o u)(a:aV d d'):aV (o.getD d) (u.getD d'):=by
 cases o with
 | none=>cases u with
   | none=>exact a
   | some _=>exact(r).elim
 | some _=>cases u with
   | none=>exact(r).elim
   | some _=>exact r
def KV.val{vs:List (κ×Value)}(r:KV a vs)(k:κ):fD (cD a k) (valueAt vs k):=by
 induction r with
 | nil=>exact True.intro
 | @cons p q ps qs h t f=>
   have%[d|g]:=h;by_cases e:p.1=k
   .have c:=d.symm.trans e;have b:valueAt (q::qs) k∣q.2:=by simp[valueAt,c]
    rw[dS e,b];exact g
   .have c: ¬ q.1=k:=λz=>e (d.trans z)
    have b:valueAt (q::qs) k=valueAt qs k:=by simp[valueAt,c]
    rw[cS e,b];exact f
def KV.any(r:KV a vs)(k:κ):(a.any λb=>decide (b.1=k))=vs.any λb=>decide (b.1=k):=by
 induction r with
 | nil=>rfl
 | cons h t c=>simp_all
def KV.repl(r:KV c vs)(k:κ)(d:aV y u):
 KV (c.map λa=>if a.1=k then(a.1,y)else a) (vs.map λa=>if a.1=k then(a.1,u)else a):=by
 induction r with
 | nil=>exact .nil
 | @cons p q ps qs h t f=>
   rw[Yo,Yo];refine .cons ?_ f;have%[b|g]:=h;by_cases e:p.1=k
   .rw[if_pos e,if_pos (b.symm.trans e)];exact%[b|d]
   .rw[if_neg e,if_neg (λz=>e (b.trans z))];exact%[b|g]
def KV.put(r:KV a vs)(k:κ)(b:aV y u):KV (cE a k y) (stored vs k u):=by
 unfold cE stored;rw[r.any k];by_cases e:(vs.any λc=>decide (c.1=k))=true
 .rw[if_pos e,if_pos e];exact r.repl k b
 .rw[if_neg e,if_neg e];exact Paired.snoc r %[rfl|b]
def KV.length{a:List (κ×V)}{vs:List _}(r:KV a vs): ~~~a= ~~~vs:=Paired.length r
end
def lH{P:Program}(r:aV (kV k) u):(aH P w).is k u=true:=by
 cases k with
 | inl i=>have%[t|e]:=(r);subst e;exact tH P w i t
 | inr x=>have%[t|e]:=(r);subst e;exact lE P w x t
def qc{P:Program}:∀{ks:List Key} {us:ZG},aI (ks.map kV) us->ItemsAre (aH P w) ks us
 |[],_,r=>by cases r;exact .nil
 | k::ks,_,r=>by
   cases r with
   | cons h t=>exact .cons (lH h) (qc t)
noncomputable abbrev KT(H:Hp):List (List Key×V)->List (List Key×Addr×Value)->Prop:=Paired λp q=>p.1=q.1/\H q.2.1&&&p.1.map kV/\aV p.2 q.2.2
def KT.val{a:List (List Key×V)}{xs:List (List Key×Addr×Value)}(r:KT H a xs)(k:List Key):fD (cD a k) ((atKey xs k)\2):=by
 induction r with
 | nil=>exact True.intro
 | @cons p q ps qs h t f=>
   have%[d,_|g]:=h;by_cases e:p.1=k
   .have c:=d.symm.trans e;have b:atKey (q::qs) k∣q.2:=by simp[atKey,c]
    rw[dS e,b];exact g
   .have c: ¬ q.1=k:=λz=>e (d.trans z)
    have b:atKey (q::qs) k=atKey qs k:=by simp[atKey,c]
    rw[cS e,b];exact f
def KT.repl(r:KT H b xs)(k:List Key)(f:aV y u):
 KT H (b.map λc=>if c.1=k then(c.1,y)else c) (xs.map (putAt k u)):=by
 induction r with
 | nil=>exact .nil
 | @cons p q ps qs h t g=>
   rw[Yo,Yo];refine .cons ?_ g;have%[a,d|i]:=h;unfold putAt;by_cases e:p.1=k
   .rw[if_pos e,if_pos (a.symm.trans e)];exact%[a,d|f]
   .rw[if_neg e,if_neg (λz=>e (a.trans z))];exact%[a,d|i]
def KT.put(r:KT H a xs)(k:List Key)(d:H b&&&k.map kV)(c:aV y u):
 KT H (cE a k y) (storedH xs k b u):=by
 have e:(a.any λf=>decide (f.1=k))=(atKey xs k).isSome:=by
  rw[iq,(r.val k).isSome_eq,isSome_map]
 unfold cE storedH;rw[e];by_cases q:(atKey xs k).isSome=true
 .rw[if_pos q,if_pos q];exact r.repl k c
 .rw[if_neg q,if_neg q];exact Paired.snoc r %[rfl,d|c]
def KT.keeps(r:KT H a xs)(c:∀b ys,H b&&&ys->d b&&&ys):KT d a xs:=
 Paired.mapP r λ_ _ z=>%[z.1,c _ _ z.2.1|z.2.2]
section
variable{P:Program}{w:World}{H:Hp}{h:Heap}{a:Addr}
def DW(ok:HOk P w H h)(e:Rd H a u):bV P w H h a u:=e.ok ok
def tN(ok:HOk P w H h)(e:Rd H a (.dK b)): ~~~b<=sizeLine/\(a==sysModules)=false/\∃vs,KV b vs/\h.DictOf (aH P w) a vs:=
 DW ok e
def lI(ok:HOk P w H h)(e:H a∣.dK b): ~~~b<=sizeLine/\(a==sysModules)=false/\∃vs,KV b vs/\h.DictOf (aH P w) a vs:=tN ok (.inl e)
def mW(ok:HOk P w H h)(e:H a&&&ks.map kV):(tupleKind (aH P w)).is h ks a:=by
 have%[_,its,r,o,b,c,n|d]:=(ok a _ e)
 exact%[o,its.toArray,n,b,c,d|qc r]
def tO(ok:HOk P w H h)(e:Rd H a (.dT b)): ~~~b<=sizeLine/\(a==sysModules)=false/\
 ∃xs,KT H b xs/\h.DictOfH (tupleKind (aH P w)) a xs:=by
 have%[z,y,xs,r,o,d,f,g,i,j,n|s]:=(DW ok e)
 refine%[z,y,xs,r,o,d,f,g,i,j,n,λx c=>?_|s];have all:∀{l:List _} {m:List _},KT H l m->∀x∈m,(tupleKind (aH P w)).is h x.1 x.2.1:=by
  intro l m q
  induction q with
  | nil=>simp
  | @cons p q ps qs v t u=>
    intro x c;rcases mem_cons.mp c with e|c
    .exact mW ok (!2)
    .exact u x c
 exact all r x c
def DX(ok:HOk P w H h)(e:H a∣.dT b): ~~~b<=sizeLine/\(a==sysModules)=false/\
 ∃xs,KT H b xs/\h.DictOfH (tupleKind (aH P w)) a xs:=tO ok (.inl e)
end
abbrev dF(H:Hp)(a:Addr)(y:V)(r:Option V):Prop:=
 (∃c k,Rd H a (.dK c)/\y=kV k/\r=cD c k)\/∃c k b,Rd H a (.dT c)/\y= .ref b/\H b&&&k.map kV/\r=cD c k
abbrev ir(H:Hp)(a:Addr)(y v:V)(d:Hp):Prop:=
 (∃c k,H a∣.dK c/\y=kV k/\ ~~~c<sizeLine/\d=upd H a (.dK (cE c k v)))\/
 ∃c k b,H a∣.dT c/\y= .ref b/\H b&&&k.map kV/\ ~~~c<sizeLine/\d=upd H a (.dT (cE c k v))
def dF.k{k:Key}(e:H a∣.dK b):dF H a (kV k) (cD b k):= .inl %[b,k,.inl e,rfl|rfl]
def ir.k{k:Key}(e:H a∣.dK b)(c: ~~~b<sizeLine):ir H a (kV k) v (upd H a (.dK (cE b k v))):= .inl %[b,k,e,rfl,c|rfl]
def ir.t{c:List (List Key×V)}{k:List Key}(e:H a∣.dT c)(d:H b&&&k.map kV)(f: ~~~c<sizeLine):
 ir H a (.ref b) v (upd H a (.dT (cE c k v))):= .inr %[c,k,b,e,rfl,d,f|rfl]
section
#version
variable{a:Addr}{y v:V}{u r:Value}{o:Option V}{A:Around}{E:ZE}
def Inv.big(I:Inv X pins σ H s):sysModules<⇑s:=by
 exact Nat.lt_trans (!1) ((I.mod.glob.keeps I.bk).lt)
def yy(w:A.units+1<cLine)(I:Inv X pins σ H s)(g:dF H a y (some v))(q:aV y u)(h:∀f s',Inv X pins σ H s'->aV v f->Q f s'):
 wpAny (model X.prog X.w) A (getItem (.ref a) u) Q E s:=by
 rcases g with⟨i,k,e,j,l⟩|⟨i,k,b,e,j,B,l⟩
 .subst j;have%[z,C,vs,c|m]:=tN I.hok e;have%[f,hw|d]:=fD.some_of (l▸c.val k);exact wpAny_getItem_of (lH q) m.mapOf hw (h f _ (I.tok _) d)
 .subst j;cases(q);have%[z,C,xs,c|m]:=tO I.hok e;have%[f,hw|d]:=fD.some_of (l▸c.val k);have%[p,G|n]:=map_eq_some_iff.mp hw;refine wpAny_getItem_heap (tupleKind_room_in1 w) (mW I.hok B) m G ?_;rw[n];exact h f _ (I.tok _) d
def d_in(n:A.units+1<cLine)(I:Inv X pins σ H s)(g:dF H a y o)(m:aV y u)(h:∀s',Inv X pins σ H s'->Q (.bool o.isSome) s'):
 wpAny (model X.prog X.w) A (compareOp .In u (.ref a)) Q E s:=by
 rcases g with⟨d,k,e,f,l⟩|⟨d,k,b,e,f,p,l⟩
 .subst f;have%[z,i,vs,c|j]:=tN I.hok e;refine wpAny_in_of (lH m) i j.mapOf ?_;rw[<-(c.val k).isSome_eq,<-l];exact h _ (I.tok _)
 .subst f;cases(m);have%[z,i,xs,c|j]:=tO I.hok e;refine wpAny_in_heap (tupleKind_room_in1 n) (mW I.hok p) i j ?_;have q:=(c.val k).isSome_eq;rw[isSome_map]at q;rw[<-q,<-l];exact h _ (I.tok _)
def CO(n:A.units+1<cLine)(I:Inv X pins σ H s)(g:dF H a y o)(m:aV y u)(h:∀s',Inv X pins σ H s'->Q (.bool (!o.isSome)) s'):
 wpAny (model X.prog X.w) A (compareOp .NotIn u (.ref a)) Q E s:=by
 rcases g with⟨d,k,e,f,l⟩|⟨d,k,b,e,f,p,l⟩
 .subst f;have%[z,i,vs,c|j]:=tN I.hok e;refine wpAny_notIn_of (lH m) i j.mapOf ?_;rw[<-(c.val k).isSome_eq,<-l];exact h _ (I.tok _)
 .subst f;cases(m);have%[z,i,xs,c|j]:=tO I.hok e;refine wpAny_notIn_heap (tupleKind_room_in1 n) (mW I.hok p) i j ?_;have q:=(c.val k).isSome_eq;rw[isSome_map]at q;rw[<-q,<-l];exact h _ (I.tok _)
def jI(I:Inv X pins σ H s)(d:Mut (H a))(e:SameBut a s.heap h')(f:∃q,h'.get? a∣q)(new:bV X.prog X.w (upd H a c) h' a c):
 Inv X pins σ (upd H a c) {s with heap:=h',toks:=t'}:=
 I.write d (.inl rfl) (λb q g z=>(e.2 b g).trans z) f new
def mX{P:Program}(z: ~~~b<=sizeLine)(d:(a==sysModules)=false)(c:KV b vs)(e:h'.DictOf (aH P w) a vs):
 bV P w f h' a (.dK b):=%[z,d,vs,c|e]
def yz(N:A.units+1<cLine)(I:Inv X pins σ H s)(g:ir H a y v O)(G:aV y u)(J:aV v r)(h:∀s',Inv X pins σ O s'->Q () s'):
 wpAny (model X.prog X.w) A (setItem (.ref a) u r) Q E s:=by
 rcases g with⟨d,k,e,m,l,n⟩|⟨d,k,b,e,m,L,l,n⟩
 .subst m n;have%[z,p,vs,f|w]:=lI I.hok e;have T: ~~~vs<=sizeLine:= ~~~f▸z;have B: ~~~(cE d k v)<=sizeLine:=by have:=dU d k v;lia
  exact wpAny_setItem_pairs (lH G) w λh' i C=>h _ (jI I (e▸True.intro) C (let⟨q,_,_,j,_⟩:=i;%[q|j]) (mX B p (f.put k J) i))
 .subst m n;cases(G);have%[z,p,xs,f|w]:=DX I.hok e;have T: ~~~xs<=sizeLine:=(Paired.length f)▸z;have B: ~~~(cE d k v)<=sizeLine:=by have:=dU d k v;lia
  refine wpAny_setItem_heap (tupleKind_room_in1 N) (mW I.hok L) w λh' i C=>h _ ?_
  have%[q,U,Y,j,h2,h3,h4,_|h5]:=i;refine jI I (e▸True.intro) C %[q|j] %[B,p,_,(f.put k L J).keeps λc ys M=>?_,q,U,Y,j,h2,h3,h4|h5];rw[aj (mQ M e (λz=>nomatch z))];exact M
variable{kvs:List (Key×V)}{k:Key}
end
abbrev Fj(i:Expr):Prop:=∀a b,subscripted i false a b=operate [a,b] (getItem a b)
def CP{T id:String}
 (m:typeLookup (.type T) "__getitem__"=pure (some (.builtin id))) (n:Fj a)
 (h:↥A (eval c env) (λo e=>↥A (eval a env) (λi b=>b.TypeIs o T/\↥A (getItem o i) Q E b) E e) E s):
 ↥A (eval (.Subscript c a pos) env) Q E s:=by
 refine Subscript_ (wpAny_mono h (λo e g=>wpAny_mono g (λi b d=>?_) λ_ _ x=>x) λ_ _ x=>x);have%[p|d]:=d;refine Z2 (Z2 (wpAny_specialOf p m ?_));have l:↥A (subscripted a false o i) (λr f=>↥A (letTemporaryGo c o r>>= λ_=>pure r) Q E f) E b:=by
  rw[n o i];exact wpAny_operating (wpAny_mono d (λr f j=>Z2 (wpAny_letTemporaryGo (Z3 j))) λ_ _ x=>x)
 first
  | exact Z3 (Z2 l)
  | lia
  | lia
def tP{X:Cx}(I:Inv X pins f H s)(g:dF H a y o):s.TypeIs (.ref a) "dict":=by
 rcases g with⟨c,k,e,_,_⟩|⟨c,k,b,e,_,_,_⟩
 .have%[_,_,vs,_|d]:=tN I.hok e;exact d.typeIs
 .have%[_,_,xs,_|d]:=tO I.hok e;exact d.typeIs
abbrev An(d ty:TE):TE:=λb H Q=>d b H λx e=>ty b e λy c=>∃a v,x= .ref a/\dF c a y (some v)/\Q v c
abbrev Fk(ty d:TE):TE:=λb H Q=>ty b H λy e=>d b e λx c=>∃a o,x= .ref a/\dF c a y o/\Q (.bl o.isSome) c
abbrev rT(ty d:TE):TE:=λb H Q=>ty b H λy e=>d b e λx c=>∃a o,x= .ref a/\dF c a y o/\Q (.bl (!o.isSome)) c
abbrev qd(d ty e:TE):TS:=λD b H=>e b H λv f=>d b f λx g=>ty b g λy h=>∃a c,x= .ref a/\ir h a y v c/\D.nx b c
section
variable{X:Cx}{o i e value:Expr}{pos pos' tpos:Pos}{td ty tv:TE}
def CQ(f:X.A.units+1<cLine)(j:PE X o td)(hi:PE X i ty)(l:Fj i):PE X (.Subscript o i pos) (An td ty):=by
 intro pins s c H Q I h;refine CP PySem.F.slot_dict_getitem.lookup l (thP (j pins s c H _ I h) λu m x n p q r=>thP (hi pins m c n _ p r) λC E y w d z ⟨a,v,ex,g,A⟩=>?_);subst ex;obtain rfl:u=Value.ref a:=q;exact%[tP d g|yy f d g z λG J B b=>%[v,w,B,b|A]]
def Fo(c:X.A.units+1<cLine)(hi:PE X i ty)(d:PE X o td):PC X .In i o (Fk ty td):=by
 intro pins s b H Q I h;refine thP (hi pins s b H _ I h) λA f y j l m n=>thP (d pins f b j _ l n) λu B x p q r ⟨a,v,ex,g,w⟩=>?_
 subst ex;obtain rfl:u=Value.ref a:=r;exact d_in c q g m λC z=>%[.bl v.isSome,p,z,rfl|w]
def yA(c:X.A.units+1<cLine)(hi:PE X i ty)(d:PE X o td):PC X .NotIn i o (rT ty td):=by
 intro pins s b H Q I h;refine thP (hi pins s b H _ I h) λz f y j l m n=>thP (d pins f b j _ l n) λu A x p q r ⟨a,B,ex,g,v⟩=>?_
 subst ex;obtain rfl:u=Value.ref a:=r;exact CO c q g m λC w=>%[.bl _,p,w,rfl|v]
def CS(c:X.A.units+1<cLine)(d:PE X o td)(hi:PE X i ty)(f:PE X value tv)(j:swapsWith value (some (.Subscript o i pos')) pos.line X.env=pure false):
 PS X (.Assign [.Subscript o i pos'] value pos) (qd td ty tv):=by
 intro pins s b H D I h;refine wpAny_Assign_Subscript (thP (f pins s b H _ I h) λr l v m n p q=>thP (d pins l b m _ n q) λu w x z A B C=>thP (hi pins w b z _ A C) λN O y Q E G ⟨a,J,ex,g,L⟩=>?_) j;subst ex;obtain rfl:u=Value.ref a:=B;exact yz c E g G p λT M=>%[b,J,M|L]
end
def tQ{P:Program}(h:Heap)(a:sysModules<h.objs.size):bV P w H (h.push {cls:= .type "dict",data:= .dict #[]}) h.objs.size (.dK []):=
 %[Xb _,beq_eq_false_iff_ne.mpr (Ne.symm (Zs a)),[],.nil|Heap.DictOf.new h]
def Ao{P:Program}(h:Heap)(a:sysModules<h.objs.size):bV P w H (h.push {cls:= .type "dict",data:= .dict #[]}) h.objs.size (.dT []):=
 %[Xb _,beq_eq_false_iff_ne.mpr (Ne.symm (Zs a)),[],.nil,_,#[],0,Zj _ rfl,%[rfl,rfl|rfl],rfl,rfl|Yz]
abbrev vS:TE:=λ_ H Q=>∀p,H p=none->Q (.ref p) (upd H p (.dK []))
abbrev vT:TE:=λ_ H Q=>∀p,H p=none->Q (.ref p) (upd H p (.dT []))
section
variable{X:Cx}{pos:Pos}
def Ap:PE X (.Dict [] [] pos) vS:=λpins s a H Q I h=>
 wpAny_Dict_empty %[.ref ⇑s,_,I.laid (λ_ _ q=>Z7 _ q) (Zi _) (tQ s.heap I.big),rfl|h _ (I.hok.fresh (Zi _))]
def Aq:PE X (.Dict [] [] pos) vT:=λpins s b H Q I h=>
 wpAny_Dict_empty %[.ref ⇑s,_,I.laid (a:=⇑s) (o:= .dT []) (t':=s.toks) (λ_ _ q=>Z7 _ q) (Zi _) (Ao s.heap I.big),rfl|h _ (I.hok.fresh (Zi _))]
end
abbrev vU:List (TE×TE)->St->Hp->(List (V×V)->Hp->Prop)->Prop
 |[],_,H,Q=>Q [] H
 |(tk,b)::r,a,H,Q=>tk a H λx c=>b a c λy d=>vU r a d λps e=>Q ((x,y)::ps) e
noncomputable abbrev VV:List (V×V)->List (Value×Value)->Prop:=Paired λp q=>aV p.1 q.1/\aV p.2 q.2
abbrev PPs(X:Cx)(pos:Pos)(b:List (Option Expr))(a:List Expr)(c:List (TE×TE)):Prop:=
 ∀pins s (d:St) H Q,Inv X pins d H s->vU c d H Q->
  (X⁻¹) (evalPairs (pairTrees b a X.env pos)) (λvs s'=>∃ps e,Inv X pins d e s'/\VV ps vs/\Q ps e) X.xe s
def CT{X:Cx}:PPs X pos [] [] []:=λpins s a H Q I h=>pairTrees_nil_walk %[[],H,I,.nil|h]
def Ar{X:Cx}(d:PE X k tk)(e:PE X v f)(g:PPs X pos ks vs a):
 PPs X pos (some k::ks) (v::vs) ((tk,f)::a):=λpins s b H Q I h=>
 pairTrees_cons_walk (thP (d pins s b H _ I h) λu i x j l m n=>thP (e pins i b j _ l n) λC o y p q r w=>
  thP (g pins o b p _ q w) λws E ps z A c B=>%[(x,y)::ps,z,A,.cons %[m|r] c|B])
abbrev iu(a more:List (Key×V)):List (Key×V):=more.foldl (λacc b=>cE acc b.1 b.2) a
def KV.merge:∀{more:List _} {b:List _} {a:List _} {vs:List _},KV more b->KV a vs->KV (iu a more) (merged vs b):=by
 intro more b a vs r
 induction r generalizing a vs with
 | nil=>intro q;exact q
 | @cons p q ps qs h t c=>
   intro d;have e:KV (cE a p.1 p.2) (stored vs q.1 q.2):=by
    have:=d.put p.1 h.2;exact h.1▸this
   exact c e
def fF:∀more a,~~~(iu a more)<= ~~~a+ ~~~more
 |[],a=>by show ~~~a<= ~~~a+0;lia
 | p::r,a=>by
   have b:=fF r (cE a p.1 p.2);have c:=dU a p.1 p.2;show(iu _ r).length<=_
   grind
def mY{P:Program}:∀{d:List (Key×V)} {ws:List (Value×Value)},VV (d.map λf=>(kV f.1,f.2)) ws->∃e,Carries (aH P w) ws e/\KV d e
 |[],_,r=>by rw[map_nil]at r;cases r;exact%[[],True.intro|.nil]
 | p::d,_,r=>by
   rw[Yo]at r;cases r with
   | @cons a b i bs h t=>
     have%[e,c|q]:=mY (P:=P) (w:=w) t;have%[j|g]:=b;exact%[(p.1,g)::e,%[lH h.1,ρ|c]|.cons %[ρ|h.2] q]
abbrev DY(b:List (TE×TE)):TE:=λe H Q=>∀p,H p=none->vU b e (upd H p (.dK [])) λps c=>c p∣.dK []/\∃a:List _,ps=a.map (λd=>(kV d.1,d.2))/\ ~~~a<=15/\Q (.ref p) (upd c p (.dK (iu [] a)))
def CU{X:Cx}(h:PPs X pos b d j)(f:b.all (·.isSome)=true)(p: ~~~b= ~~~d)(r:b≠[])
 (l: ~~~b<=15):PE X (.Dict b d pos) (DY j):=by
 intro pins s u H Q I q;have v:=I.hok.fresh (Zi ⇑s);have y:=I.laid (a:=⇑s) (o:= .dK []) (h':=s.heap.push {cls:= .type "dict",data:= .dict #[]}) (t':=s.toks) (λ_ _ q=>Z7 _ q) (Zi _) (tQ s.heap I.big);refine wpAny_Dict_walk (knd:=aH X.prog X.w) f p r l (thP (h pins _ u _ _ y (q _ v)) λws s2 ps H2 n m ⟨e,g,A,lk,B⟩=>?_);subst A;have%[C,c|E]:=mY (P:=X.prog) (w:=X.w) m;have%[z,G,J,L|M]:=lI n.hok e;cases L;refine%[C,c,M|λh' i N=>%[.ref ⇑s,_,?_,ρ|B]];have O: ~~~(iu [] g)<=sizeLine:=by
  have T:=fF g [];rw[length_nil]at T;rw[sizeLine_eq];lia
 have U:∃q,h'.get? ⇑s∣q:=let⟨q,_,_,Y,_⟩:=i;%[q|Y];exact jI n (by rw[e];exact True.intro) N U (mX O G (E.merge .nil) i)
structure M2 (X:Cx) (o:Expr) (m:Str) (apos:Pos) (e f:Expr) (cpos:Pos):Prop where
 base:attributeBase o m X.env (eval o X.env)=eval o X.env
 few:((backTo cpos (starEach [e,f] X.env)).all (λx=>!x.1)&&(backToKw cpos (keywordEach [] X.env)).all (λx=>x.1.isSome)
  && decide (~~~([e,f])+ ~~~([]:List Keyword)+(if([]:List Keyword).isEmpty then 0 else 1)<30))=true
 line:(apos.endLine==cpos.line)=true
 trees:backTo cpos (starEach [e,f] X.env)=[(false,eval e X.env),(false,eval f X.env)]
section
#version
variable{a:Addr}{y d:V}{u r:Value}{o:Option V}{A:Around}{E:ZE}
variable{o:Expr}{e:Expr}{f:Expr}{apos:Pos}{cpos:Pos}{td:TE}{ty:TE}{tx:TE}
variable{kvs:List (Key×V)}
end
end _L
namespace _A
open PySem PySem.W PySem.Calls PyProof.Rows
def mj{P:Params}:∀(c:ZM) (vs:ZG),WellAll P h vs (c.map WData.int)->IntsAre vs c:=by
 intro c
 induction c with
 | nil=>
   intro vs w;cases w;exact .nil
 | cons n c d=>
   intro vs w;cases w with
   | cons a b=>
     cases a;exact .cons _ _ (d _ b)
def yB{l:OpenLaw}(o:l.most∣n){P:Params}
 (b:l.row.toRowW.claim.pre args=true) (j:WellAll P h e args):
 ∃a vs c,e=[Value.ref a]/\args=[WData.list (c.map WData.int)]/\h.get? a=some {cls:= .type "list",data:= .seq vs.toArray}/\IntsAre vs c/\ ~~~c<=n:=by
 have m:l.pre.holds [] _=true:=(pre_splitW b).2;have%[d,r,rfl,p|q]:=hasAllW_cons ((pre_splitW b).1);obtain rfl:=hasAllW_nil q;have%[xs,rfl|s]:=hasW_list p;have%[c|rfl]:=items_int s;have f: ~~~c<=n:=by
  unfold OpenLaw.pre at m;have i:=by
   have i:=(holds_andW m).1;rw[o]at i;exact i
  have y:=condW_of i (w_not (w_lt w_lit (w_len_list (w_arg rfl))))
  grind
 cases j with
 | cons u v=>
   cases v;cases u with
   | list w g=>exact%[_,_,c,ρ,ρ,w,mj c _ g|f]
def yC(l:OpenLaw)(args:List WData):l.row.toRowW.claim.post args (.bool true) args=true:=
 postW_of
  (by first|rfl|simp|lia)
  (w_eq_bool (w_res rfl) w_lit) rfl
def attach_call{l:OpenLaw}{n:Nat}{q:Program}
 (I:l.most∣n) (u:d.params.defaults=[])
 (call:∀(w:World) (s₀ b:Shared) (mg v:ZD) (h:Addr) (o:Obj) (y p c:Value) (a:Addr) (vs:ZG) (s:ZM),
  Ground q e [] J w s₀ mg v b.heap->L w b.heap->
  b.heap.get? h∣o->o.data= .func (docDef d.name d.params d.body d.scope y p c)->b.heap.CodeRec p d.name->mg d.name∣.ref h->
  b.heap.get? a=some {cls:= .type "list",data:= .seq vs.toArray}->IntsAre vs s-> ~~~s<=n->b.gens= #[]->
  codeAny (model l.prog w) callerA (.call (.ref h) %[[.ref a]|[]]) (λr s'=>r= .ok (.ret (.bool true))/\OldK b.heap s'.heap/\s'.os=b.os/\AllBare s'.gens) b):
 WalkO q e J L l.row.toRowW d [] (λf vs=>PySem.call f vs):=by
 intro w s₀ b mg v G Y h o y p c M kV N O z C A Q args E as i H T B U;obtain rfl:M= .none:=Dflts.none C u;obtain rfl:kV= .none:=Dflts.noKw C;have%[a,vs,s,rfl,rfl,j,g|m]:=yB I i B;refine enter_call (codeAny_mono (call w s₀ b mg v h o y p c a vs s G Y N (fd_plain O) z A j g m Q) λr s' hq=>?_);have%[rfl,h2,h3|h4]:=hq;exact%[.inl %[.bool true,.bool true,[],ρ,λ_=>rfl,.bool true,yC l _|λ_=>%[List.Pairwise.nil|λ_ hm=>(nomatch hm)]],h2,h3|h4]
section
#where
variable{K:Frag}
end
end _A
namespace _L
open PySem PySem.Spec PyProof.Rows
def qe:∀{vs:ZG} {a:ZM},IntsAre vs a->aI (a\4) vs
 | _,_,.nil=> .nil
 | _,_,.cons n t h=> .cons %[t|rfl] (qe h)
abbrev CV(H:Hp):Prop:=∀b,H b=none\/∃o xs,H b∣.frz o (.lst xs)
def law_call{P:Program}{K:ZB}{mg J:ZD}{vs:ZG}
 (Y:K.In c.heap) (p:c.heap.Ns mainGlobals mg) (g:c.heap.Ns builtinsNs J) (L:∀x:Str,x≠"__name__"->J x=bootBuiltins x) (y:c.heap.NoLimit) (hg:c.gens= #[])
 (M:c.heap.get? a=some {cls:= .type "list",data:= .seq vs.toArray}) (hi:IntsAre vs N) (hl: ~~~N<=sizeLine) (hr:bI k callerA)
 (F:∀base:Heap,K.In base->base.Ns mainGlobals mg->dR P w K mg base CX k fa fd [x] sp) (l:∀(s:Shared) (u:Value),BindsTo s fd %[[u]|[]] [(x,u)])
 (O:∀H:Hp,CV H->SqL K H a (N\4)->sp [.ref a] H (λv _=>v= .bl true) λ_ _ _=>False)
 (Q:∀H e s',CX [] H c (λ_ _ _=>False) e s'->False):
 codeAny (model P w) callerA (.call (.ref fa) %[[.ref a]|[]]) (λr s'=>r= .ok (.ret (.bool true))/\OldK c.heap s'.heap/\s'.os=c.os/\AllBare s'.gens) c:=by
 have rv:=qe hi;have j:∀H,CV H->SqL K H a (N\4)->HOk P w H c.heap->(∀b,H b≠none->b=a)->(H a≠none->K.lookup a=none)->
  codeAny (model P w) callerA (.call (.ref fa) %[[.ref a]|[]]) (λr s'=>r= .ok (.ret (.bool true))/\OldK c.heap s'.heap/\s'.os=c.os/\AllBare s'.gens) c:=by
  intro H hO hS A hA hK;have f:∀{b:Addr} {o:Obj},c.heap.get? b∣o->H b=none->(yg c.heap H).get? b∣o:=λe n=>zM e n
  have T:∀{b:Addr} {o:Obj} {G:Array DictEntry} {I:Nat},c.heap.get? b∣o->o.data= .dict G I->H b=none:=λ{b o G I} e d=>by
   grind
  have i:∀{b:Addr} {m:ZD},c.heap.Ns b m->(yg c.heap H).Ns b m:=λ{b m} ⟨o,G,I,e,d,r⟩=>%[o,G,I,f e (T e d),d|r]
  have B:=λb o e=>f (Y b o e) (by
   grind)
  refine codeAny_mono ((F _ B (i p)).run callerA [] c H _ _ [.ref a] _ _ hr %[rfl,%[B,i p,%[J,i g|L]|let⟨mc,h1,h2⟩:=y;%[mc,i h1|h2]],λb o e=>Ch e,Nat.le_of_eq (yh _ _),trivial,λb g=>absurd (show b∈([])from g) ∅,A|.of_eq hg] (l c _) (.cons rfl .nil) (O H hO hS)) λr s' h=>?_
  cases r with
  | error e=>exact(Q H e s' h).elim
  | ok fl=>
    cases fl with
    | next=>exact False.elim h
    | brk=>exact False.elim h
    | cont=>exact False.elim h
    | ret u=>
      have%[v,H',os,C,un,E,r'|q]:=h;subst q;obtain rfl:u=Value.bool true:=r';refine%[ρ,OldK.of_keep λb o e=>?_,os|C];cases q:H b with
      | none=>exact un.keep b o e q (by intro z;exact absurd (show b∈([])from z) ∅) ∅
      | some u=>
        rcases hO b with z|⟨ob,xs,z⟩
        .rw[q]at z;cases z
        .have%[e1|_]:=A b _ z;have%[e2|_]:=E b _ (un.frzs b ob _ z);rw[e]at e1;cases e1;exact e2
 cases U:K.lookup a with
 | some o=>
   have e:=Y a o U;rw[M]at e;cases e;refine j _ (λ_=> .inl rfl) (.inr %[_,vs.toArray,_,U,rfl,rfl,rfl,by rw[Zp,~~~hi];exact hl|rv]) (λb u z=>!2) (λb z=>absurd rfl z) λz=>absurd rfl z
 | none=>
   refine j (λb=>if b=a then some (.frz {cls:= .type "list",data:= .seq vs.toArray} _)else none) (λb=>?_) (.inl (.inr %[{cls:= .type _,data:= .seq vs.toArray}|if_pos rfl])) (λb u z=>?_) (λb z=>?_) λ_=>U
   .by_cases g:b=a
    .exact .inr %[_,_|if_pos g]
    .exact .inl (if_neg g)
   .by_cases g:b=a
    .have z':=(if_pos g).symm.trans z;cases z';subst g;exact%[M,by rw[Z6];exact hl,vs,_,rv|M]
    simp_all
   .by_cases g:b=a
    .exact g
    .exact absurd (if_neg g) z
def walk_of{l:PySem.W.OpenLaw}{J:(Str->Option Value)->Heap->Prop}{E:World->Heap->Prop}{d:DefRec}{K:Params->ZB}{CX:World->CXT}{sp:World->Sp}{x:Str}
 (L:l.most∣n) (p:n<=sizeLine) (r:d.params.defaults=[]) (M:bI k callerA)
 (N:∀(w:World) (h:Heap),E w h->(K w.params).In h)
 (F:∀(w:World) (mg:ZD) (j:Addr) (h:Heap),(K w.params).In h->h.Ns mainGlobals mg->mg d.name∣.ref j->
  ∃y:FuncData,(∀(s:Shared) (u:Value),BindsTo s y %[[u]|[]] [(x,u)])/\
   ∀base:Heap,(K w.params).In base->base.Ns mainGlobals mg->dR l.prog w (K w.params) mg base (CX w) k j y [x] (sp w))
 (z:∀(w:World) (H:Hp) (a:Addr) (m:ZM),~~~m<=n->CV H->SqL (K w.params) H a (m\4)->sp w [.ref a] H (λv _=>v= .bl true) λ_ _ _=>False)
 (A:∀(w:World) (H:Hp) (s:Shared) (e:Value) (s':Shared),CX w [] H s (λ_ _ _=>False) e s'->False):
 PySem.W.WalkO q B J E l.row.toRowW d [] (λf vs=>PySem.call f vs):=by
 refine _A.attach_call L r λw s₀ g mg mb j o pm cd O a vs m G Y ho hd Q C i c b T=>?_
 have I:=N w _ Y;have%[y,U|hF]:=F w mg j _ I G.T.g C;exact law_call I G.T.g G.T.b G.T.builtins G.T.nolimit T i c (Ye b p) M hF U (λH hO hS=>z w H a m b hO hS) λH e s'=>A w H g e s'
abbrev iU(s:Stmt)(j:Nat):Stmt:=match s with
 | .ClassDef _ _ _ a _ _ _ _ _ _ _=>a.getD j (.Pass %[0,0,0|0])
 | _=> .Pass %[0,0,0|0]
abbrev cJ(s:Stmt):Arguments:=match s with
 | .FunctionDef _ a _ _ _ _ _ _ _ _=>a
 | _=>{posonlyargs:=[],args:=[],vararg:=none,kwonlyargs:=[],kw_defaults:=[],kwarg:=none,defaults:=[]}
abbrev bJ(s:Stmt):List Stmt:=match s with
 | .FunctionDef _ _ b _ _ _ _ _ _ _=>b
 | _=>[]
abbrev ao(s:Stmt):Scope:=match s with
 | .FunctionDef _ _ _ _ _ _ a _ _ _=>a
 | _=>{kind:= .function,names:=[],isGenerator:=false,isCoroutine:=false}
noncomputable abbrev CX0:CXT:=λ_ _ _ _ _ _=>False
noncomputable abbrev E0:XK:=λ_ _ _=>False
def As{X:Cx}:gi CX0 X E0:=λ_ _ _ _ _ _ _ h=>h.elim
structure Fun (K:ZB) (x qual:Str) (st:Stmt) (f:Addr) (fd:FuncData):Prop where
 ex:∃oc od kV doc pm an cdv ct osl,
  fd=fnOf x qual (cJ st) (bJ st) (ao st) .none kV doc pm an cdv ct/\K.lookup f=some %[oc,od,.func fd|osl]/\codeIn K cdv qual=true
 kp:keepIn K (.ref f)=true
section
variable{P:Program}{w:World}{K:ZB}{mg:ZD}{base:Heap}
def Fun.ok{x a:Str}{st:Stmt}{f:Addr}{g:FuncData}{N ps:ZC}{k:Nat}{sp:Sp}(F:Fun K x a st f g)(S:az N ps (ao st))(len:∀vs H Q E,sp vs H Q E-> ~~~vs= ~~~ps)
 (c:∀b (A:Around) (outer:List Env) s H (vs:List V) Q E,bI k (A.deeper (envOfC a (ao st) ⇑s f b))->sp vs H Q E->
  ∃t,PSs (eO CX0 P w K mg base N a (ao st) f b A outer s H E).nox (bJ st) t/\t {nx:=λ_ i=>Q .non i,rt:=Q} (start N vs) H):dR P w K mg base CX0 (k+1) f g ps sp:=by
 have%[n,od,kV,j,o,p,b,ct,l,rfl,lk|d]:=F.ex;refine DV lk d S len λA outer s H vs Q E m e=>?_
 have%[t,h|q]:=c b A outer s H vs Q E m e;exact%[t,h.nox|q]
def Fun.binds{st:Stmt}(F:Fun K x c st f g)
 (h:∀(kV a d:Value) (e:ZJ) (b ct:Value) (us:ZG),~~~us= ~~~ps->bindArgs (fnOf x c (cJ st) (bJ st) (ao st) .none kV a d e b ct) %[us|[]]=pure (ps.zip us)):di K g ps []:=by
 have%[l,od,kV,a,d,e,b,ct,i,rfl,lk|j]:=F.ex;exact .all (h kV a d e b ct)
def dG{st:Stmt}{kV d e b ct:Value}(l:K.lookup f=some %[i,od,.func (fnOf x a (cJ st) (bJ st) (ao st) .none kV d e h b ct)|g])
 (c:codeIn K b a=true) (k:keepIn K (.ref f)=true):Fun K x a st f (fnOf x a (cJ st) (bJ st) (ao st) .none kV d e h b ct):=%[%[i,od,kV,d,e,h,b,ct,g,rfl,l|c]|k]
variable{X:Cx}
def pv(i:Nat)(b:X.N[i]?∣x)(c:Vis X.env.scope x)(d:(x==("__debug__":Str))=false)
 (a:(x==("__classdict__":Str))=false):PE X (.Name x pos) (md i):=zO b c d a
end
def rV{A B:Prop}(h:B):if false=true then A else B:=by
 simp_all
def bA{c A B:Prop}[Decidable c](a:c->A)(b: ¬ c->B):if c then A else B:=by
 simp_all
abbrev ah(H a:Hp):Prop:=∀b o,H b∣o->a b∣o
def ah.refl(H:Hp):ah H H:=λ_ _ h=>h
def ah.trans{H d e:Hp}(a:ah H d)(b:ah d e):ah H e:=λc o h=>b c o (a c o h)
def ah.free{H a:Hp}(e:ah H a){l:Addr}(h:a l=Option.none):H l=Option.none:=by
 cases q:H l with
 | none=>rfl
 | some o=>
   rw[e l o q]at h;cases h
def ah.seq{K:ZB}(e:ah H b)(h:SqL K H a xs):SqL K b a xs:=by
 rcases h with(h|⟨o,h⟩)|h
 .exact .inl (.inl (e _ _ h))
 .exact .inl (.inr %[o|e _ _ h])
 .exact .inr h
section
variable{X:Cx}
end
section
variable{κ:Type}[DecidableEq κ]
def CW{a:List (κ×V)}(h:cD a k∣v):k∈a\1:=by
 have q:(a.any λb=>decide (b.1=k))=true:=by
  rw[iq,h]
  all_goals rfl
 simp_all
def mF:∀{l:List κ} {k:κ},l.Nodup-> ¬ k∈l->(l++[k]).Nodup
 |[],k,_,_=>by simp
 | a::r,k,h,b=>by
   have%[c|d]:=nodup_cons.mp h;refine nodup_cons.mpr %[λm=>?_|mF d λm=>b (mem_cons.mpr (Or.inr m))];rcases Xj m with q|q
   .exact c q
   .exact b (mem_cons.mpr (Or.inl (Xk q).symm))
end
abbrev mZ(env:Env):List (Str×NameKind)->List (Str×Addr)->List (Str×Addr)
 |[],acc=>acc
 |(n,k)::r,acc=>mZ env r (if k= .free then(n,(env.cells.lookup n).getD 0)::acc else acc)
def m7:∀(names:List (Str×NameKind)) (acc:List (Str×Addr)),(∀y∈names,y.2= .free->∃c,env.cells.lookup y.1∣c)->
 (forIn names acc λx r=>match x with
  |(name,kind)=>if(kind==NameKind.free)=true then do let a<-cellOf env name;pure (ForInStep.yield ((name,a)::r))else pure (ForInStep.yield r):Sem (List (Str×Addr)))=pure (mZ env names acc)
 |[],acc,_=>rfl
 |(n,k)::r,acc,h=>by
  have d:=λacc=>m7 r acc λy f=>h y (Zk _ f)
  rw[forIn_cons];by_cases b:k= .free
  .subst b;have%[c|e]:=h _ Zm rfl;have g:cellOf env n=pure c:=by unfold cellOf;rw[e]
   simp only[beq_self_eq_true,if_true,g,pure_bind];rw[d];show _=pure (mZ env r _);rw[if_pos rfl,e]
   all_goals rfl
  .have i:(k==NameKind.free)=false:=↑b
   simp only[i,Zz,if_false,pure_bind];rw[d];show _=pure (mZ env r _);rw[if_neg b]
def CY(h:∀y∈a.names,y.2= .free->∃c,env.cells.lookup y.1∣c):closureFor a env=pure (mZ env a.names []):=by
 unfold closureFor;simp only[bind_pure];exact(m7 a.names [] h)
def tR:∀(names:List (Str×NameKind)) (acc:List (Str×Addr)),(∀y∈names,y.2= .free->∃c,env.cells.lookup y.1∣c)->
 (∀y d,acc.lookup y∣d->env.cells.lookup y∣d)->(mZ env names acc).lookup x∣c->env.cells.lookup x∣c
 |[],acc,_,a,e=>a x c e
 |(n,k)::r,acc,h,a,e=>by
  refine tR r _ (λy b=>h y (Zk _ b)) (λy d q=>?_) e;by_cases f:k= .free
  .rw[if_pos f,Yk]at q;have%[g|i]:=h _ Zm f;cases b:y==n with
   | true=>
     simp_all
   | false=>rw[b]at q;exact a y d q
  .rw[if_neg f]at q;exact a y d q
def m8:∀(names:List (Str×NameKind)) (acc:List (Str×Addr)),(∃c,acc.lookup x∣c)->∃c,(mZ env names acc).lookup x∣c
 |[],_,h=>h
 |(n,k)::r,acc,h=>by
  refine m8 r _ ?_;by_cases a:k= .free
  .rw[if_pos a,Yk];cases b:x==n with
   | true=>exact%[_|ρ]
   | false=>exact h
  .rw[if_neg a];exact h
def m9:∀(names:List (Str×NameKind)) (acc:List (Str×Addr)),(x,NameKind.free)∈names->∃c,(mZ env names acc).lookup x∣c
 |[],_,h=>by simp at h
 |(n,k)::r,acc,h=>by
  rcases mem_cons.mp h with e|h
  .refine m8 r _ ?_
   simp_all
  .exact m9 r _ h
abbrev bX(X:Cx)(a:Scope)(d:ZC)(b:Shared)(c:Hp)(e:List Addr):Cx:=
 {X with
  N:=d
  s₀:=b
  H₀:=c
  env:=compEnvC a (cellsFrom (⇑b+1) a.names (mZ X.env a.names [])) ⇑b X.env
  outer:=X.stack
  stack:=X.stack
  ex:=e
  fn:=λx=>decide (a.names.lookup x∣.cell)
  pn:=[]
  xe:=λ_ _=>False}
structure aD (X:Cx) (scope:Scope) (N':ZC) (cap:List (Nat×Nat)):Prop where
 kind:scope.kind= .function
 cell:∀y∈scope.names,y.2= .cell->scope.names.lookup y.1∣.cell
 loc:∀y∈scope.names,y.2= .local->scope.names.lookup y.1∣.local
 free:∀y∈scope.names,y.2= .free->X.env.kindOf y.1∣.cell\/X.env.kindOf y.1∣.free
 capt:∀p∈cap,∃x,N'[p.1]?∣x/\X.N[p.2]?∣x/\scope.names.lookup x∣.free
abbrev qf(n:Nat)(a:List (Nat×Nat))(b:St):St:=(List.range n).map λj=>(a.lookup j).bind λi=>(b[i]?).join
def lJ:∀{l:List _} {j i:Nat},l.lookup j∣i->(j,i)∈l
 |[],_,_,h=>by simp at h
 |(a,b)::r,j,i,h=>by
  rw[Yk]at h;cases c:j==a with
  | true=>
    simp_all
  | false=>rw[c]at h;exact Zk _ (lJ h)
def lK{env:Env}{names:List (Str×NameKind)}{x:Str}{k:NameKind}(h:(names.map λ(n,k)=>if(k==NameKind.free&&env.scope.kind== .function&&env.kindOf n==some .cell)then(n,NameKind.cell)else(n,k)).lookup x∣k)
 (a:k= .cell\/k= .free):(x,NameKind.free)∈names\/(x,NameKind.cell)∈names:=by
 have m:=PySem.mem_of_lookup h
 grind
def eG:∀names n acc,cellsFrom n names acc=cellsFrom n names [] ++acc
 |[],_,_=>rfl
 |(x,k)::r,n,acc=>by
  unfold cellsFrom
  split
  .rw[eG r _ _,eG r _ [(x,n)],Ze];rfl
  .exact eG r n acc
def kI:∀{names:List (Str×NameKind)} {n:Nat},(x,c)∈cellsFrom n names []->(x,NameKind.cell)∈names
 |[],_,h=>nomatch h
 |(y,k)::r,n,h=>by
  unfold cellsFrom at h
  split at h
  .rw[eG]at h;rcases Xj h with q|q
   .exact Zk _ (kI q)
   grind
  .exact Zk _ (kI h)
def lL(h:(cellsFrom n names acc).lookup x∣c):(x,c)∈cellsFrom n names []\/((cellsFrom n names []).lookup x=none/\acc.lookup x∣c):=by
 rw[eG,List.lookup_append]at h;cases e:(cellsFrom n names []).lookup x with
 | none=>rw[e]at h;exact .inr %[rfl|h]
 | some d=>
   rw[e]at h;have:=↑h
   exact this▸ .inl (PySem.mem_of_lookup e)
def jJ{env:Env}:∀{names:List (Str×NameKind)} {x:Str},names.lookup x∣.free->
 (names.map λ(n,k)=>if(k==NameKind.free&&env.scope.kind== .function&&env.kindOf n==some .cell)then(n,NameKind.cell)else(n,k)).lookup x∣.cell\/
 (names.map λ(n,k)=>if(k==NameKind.free&&env.scope.kind== .function&&env.kindOf n==some .cell)then(n,NameKind.cell)else(n,k)).lookup x∣.free
 |[],_,h=>by simp at h
 |(n,k)::r,x,h=>by
  have c:= @jJ env r x;simp only[Yo];cases a:x==n with
  | true=>
    rw[Yk,a]at h;have d:=Za h;subst d;by_cases b:((NameKind.free==NameKind.free)&&env.scope.kind== .function&&env.kindOf n==some .cell)=true
    .rw[if_pos b,Yk,a];exact .inl rfl
    .rw[if_neg b,Yk,a];exact .inr rfl
  | false=>
    rw[Yk,a]at h;by_cases b:(k==NameKind.free&&env.scope.kind== .function&&env.kindOf n==some .cell)=true
    .rw[if_pos b,Yk,a];exact(c h)
    .rw[if_neg b,Yk,a];exact(c h)
section
#version
def Inv.kindL(I:Inv X pins σ H s)(h:X.env.kindOf x∣.cell\/X.env.kindOf x∣.free):∃c,X.env.cells.lookup x∣c:=I.ok.has x h
def Inv.block{a:Scope}{E:ZC}{fp:List Addr}{f:Heap}{tk:Nat}(S:aD X a E n)(I:Inv X pins σ H s)(Q:∀b∈fp,mf X pins H b)(L:∀b∈fp,b<⇑s)
 (hn:f.Ns ⇑s (λ_=>none)) (B:∀b u,s.heap.get? b∣u->f.get? b∣u) (nc:CellsOk f (⇑s+1) (cellsFrom (⇑s+1) a.names [])):
 Inv (bX X a E s H fp) [] (qf E.length n σ) H {s with heap:=f,toks:=tk}:=by
 have h:∀x c,(mZ X.env a.names []).lookup x∣c->X.env.cells.lookup x∣c:=λx c e=>tR a.names [] (λy hy hk=>I.kindL (S.free y hy hk)) (λ_ _ q=>by simp at q) e
 have o:∀x c,(cellsFrom (⇑s+1) a.names (mZ X.env a.names [])).lookup x∣c->((x,c)∈cellsFrom (⇑s+1) a.names []/\f.IsCell c none/\⇑s+1<=c)\/(X.env.cells.lookup x∣c/\c<⇑s):=λx c e=>by
  rcases lL e with q|⟨_,q⟩
  .exact .inl %[q|nc.empty x c q]
  .have q':=h x c q;have%[v,J,M|_]:=I.cell x c q';exact .inr %[q'|Zu M]
 refine%[%[I.ok.mod,S.kind,I.ok.glob,I.ok.blt,Zi _,λx y c h1 h2=>?_,λx hx=>?_,λx c hq e=>?_,I.ok.hd,I.ok.frames,.inl rfl,λb g=>%[?_|λx c e=>?_],I.bs,
  Ye I.ok.bsz I.sz,λb u e g=>?_,λb g T=>?_,I.stack|I.stkFree],ρ,I.bare,Un.kept B,%[_,hn|λj x v e1 e2 e3=>?_],λx c e=>?_,I.hok.fresh (Zi _),λx c e=>?_,λp hp=>?_,I.hok.kept B|?_]
 .rcases o x c h1 with⟨q1,_,q2⟩|⟨q1,q2⟩<;> rcases o y c h2 with⟨r1,_,r2⟩|⟨r1,r2⟩
  .exact name_of_addr nc.apart q1 r1
  .exact absurd r2 (Nat.not_lt_of_le (Ye (Yd _) q2))
  .exact absurd q2 (Nat.not_lt_of_le (Ye (Yd _) r2))
  .exact I.ok.inj x y c q1 r1
 .have:(x,NameKind.free)∈a.names\/(x,NameKind.cell)∈a.names:=by
   rcases hx with q|q
   .exact lK q (.inl rfl)
   .exact lK q (.inr rfl)
  refine isSome_iff_exists.mp (cellsFrom_some a.names _ _ ?_);rcases this with q|q
  .exact .inr (isSome_iff_exists.mpr (m9 a.names [] q))
  .exact .inl (S.cell _ q rfl)
 .rcases lL e with q|⟨q,_⟩
  .have:=(nc.empty x c q).2;show ⇑s<=c
   lia
  .have:=cellsFrom_some a.names (⇑s+1) [] (.inl (Zo hq));rw[q]at this;cases this
 .exact Zs (L b g)
 .rcases o x c e with⟨_,_,q⟩|⟨q,_⟩
  .exact λz=>absurd (L b g) (Nat.not_lt_of_le (Ye (Yd _) (z▸q)))
  .exact(Q b g).2.2.2.2.1 x c q
 .rcases(Q b g).2.2.2.1 with z|z
  .exact I.ok.noex b u e z
  .exact absurd (Zg (Zu e) (Ye I.ok.bsz z)) (Xg _)
 .rcases mem_cons.mp (I.stkSub b T)with z|z
  .exact(Q b g).2.1 z
  .exact(Q b g).2.2.1 z
 ·
  have hj:∃i,n.lookup j∣i/\σ[i]?∣some v:=by
   have A:((List.range E.length).map _)[j]?∣_:=e2;rw[Zl]at A;cases hr:(List.range E.length)[j]? with
   | none=>rw[hr]at A;cases A
   | some j'=>
     rw[hr]at A;have aa:j'=j:=by
      have:=Xi hr;have%[h1|h2]:=this;simpa using h2.symm
     subst aa;have C:((n.lookup j').bind _)∣v:=Za A;cases U:n.lookup j' with
     | none=>rw[U]at C;cases C
     | some i=>
       rw[U]at C;refine%[i,ρ|?_];have Y:(σ[i]?).join∣v:=C;cases T:σ[i]? with
       | none=>rw[T]at Y;cases Y
       | some w=>rw[T]at Y;have:w∣v:=Y;rw[this]
  have%[i,U|hi]:=hj;have%[y,n1,n2|n3]:=S.capt _ (lJ U);have ab:=Za (n1.symm.trans e1);subst ab;have N:=S.free _ (PySem.mem_of_lookup n3) rfl;have%[m,hm|hl]:=I.loc;have%[u,r|l]:=hl i y v n2 hi (by rcases N with q|q;exact .inr (.inl q);exact .inr (.inr q));refine%[u,r|.inr %[?_|?_]]
  .exact jJ n3
  .rcases l with⟨k,_⟩|⟨_,c,G,hv⟩
   .rcases N with q|q
    .rw[k]at q;cases q
    .rw[k]at q;cases q
   .have%[c'|O]:=m9 a.names [] (PySem.mem_of_lookup n3);have:=h y c' O;rw[G]at this;have e5:=Za this;subst e5;have%[J,M|hd]:=hv;refine%[c,?_,J,B c J M|hd];show(cellsFrom _ _ _).lookup y∣c;rw[eG,List.lookup_append];cases e6:(cellsFrom _ a.names []).lookup y with
    | none=>simpa using O
    | some d=>
      have:=S.cell _ (kI (PySem.mem_of_lookup e6)) rfl;rw[n3]at this;cases this
 .rcases o x c e with⟨_,q,_⟩|⟨q,_⟩
  .exact%[none|q]
  .have%[v,J,M|hd]:=I.cell x c q;exact%[v,J,B c J M|hd]
 .rcases o x c e with⟨_,_,q⟩|⟨q,_⟩
  .exact I.hok.fresh ⋯
  .exact I.freeC x c q
 .exact absurd (show p∈([])from hp) ∅
 .show(qf E.length n σ).length= ~~~E;unfold qf;rw[Z6,Yh]
end
abbrev PTs(X:Cx)(a:List Expr)(t:TT):Prop:=
 ∀pins s (b:St) H Q,Inv X pins b H s->t b H Q->
  (X⁻¹) (forIn a true λc r=>if r=true then do let ok<-isTrue c X.env (eval c X.env);pure (ForInStep.yield ok)else pure (ForInStep.yield r)) (TP X pins b Q) X.xe s
abbrev At:TT:=λ_ H Q=>Q true H
def CZ{X:Cx}:PTs X [] At:=λ_ _ _ H _ I h=>wpAny_tests_nil %[H,I|h]
def C0{X:Cx}(h:PT X c t):PTs X [c] t:=λpins s a H Q I q=>wpAny_tests_one (h pins s a H Q I q)
abbrev qg(q:TI)(n:Nat)(f:List (Nat×Nat))(g:TG)(r:TT)(s:TE):TE:=λh H Q=>q h H λJ j=>∀D,j D=none->∃W:Nat->Nat->List V->St->Hp->Prop,
 (∃m,W 0 m [] (qf n f h) (upd j D (.lst [])))/\∀i m ys c d,W i m ys c d->(J.stop i d/\Q (.ref D) d)\/
  (J.go i d/\∀x l,J.yld i d x l->g x c l λa u=>r a u λb o=>if b=true then s a o λy p=>∃zs e,p D<*zs/\ ~~~zs<sizeLine/\e<m/\W (i+1) e (ys++[y]) a (upd p D (.lst (zs++[y])))
   else∃e,e<m/\W (i+1) e ys a o)
def C1{code:Value}
 (j:∀h',h'.Ns ⇑s (λ_=>none)->(∀b u,s.heap.get? b∣u->h'.get? b∣u)->CellsOk h' (⇑s+1) (cellsFrom (⇑s+1) a.names [])->
  Q (newEnv a ⇑s d (cellsFrom (⇑s+1) a.names f) g h code (some env) c) (s>>>h')):wpAny M A (newFunctionEnv a d f [] g h code (some env) c) Q E s:=by
 refine Z2 (wpAny_alloc (Z2 (wpAny_layCells _ (λname kind i=>by lia) _ _ _ _ ?_)));have ok:=cellsFrom_ok a.names (s.heap.push {cls:= .type "dict",data:= .dict #[]}) (⇑s+1) [] %[λ_ _ l=>(nomatch l)|List.Pairwise.nil] ∅;rw[Zq]at ok;rw[Zq ..];exact Z2 (Z3 (Z3 (j _ ((Heap.Ns.new s.heap _).keeps (pushCells_keeps _ _)) (λb u e=>pushCells_keeps _ _ b u (Z7 _ e)) ok)))
def qh{X:Cx}{a:Scope}(S:aD X a N' aU)(hc:X.calm=true)(hi:PI X tg iter wi)
 (hg:∀L M A,PG (bX X a N' L M A) tg g) (ht:∀L M A,PTs (bX X a N' L M A) a0 tc) (he:∀L M A,PE (bX X a N' L M A) a1 te)
 (hs:∀x,foldedSetIterable iter X.env x=pure x) (I:Inv X pins σ H s) (h:qg wi N'.length aU g tc te σ H Q)
 (a2:∀(D C:Addr) (O:Hp) (s6:Shared) (fl:Flow) (m:ZD),s6.heap.Ns C m->mf X pins O C->(∀h',SameBut C s6.heap h'->Inv X pins σ O (s6>>>h'))->Q (.ref D) O->compPost (model X.prog X.w) X.A X.xe use QQ (.ref D) C (.ok fl) s6):
 (X⁻¹) (comprehension (.ListComp a1 [%[tg,iter,a0|0]] a pos) a X.env b9 (newList []) false (eval iter X.env) use) QQ X.xe s:=by
 refine wpAny_comprehension_free (use:=use) rfl hs (CY (λy hy hk=>I.kindL (S.free y hy hk))) S.kind S.loc (thn (hi pins s σ H _ I h) λv s1 h1=>thn h1 λca l h2=>?_);have%[it,A,tn,J,H2,e,I2,T,a3,f2|R]:=h2;subst e;refine wpAny_newObj_type (C1 λU Y N aa=>?_);dsimp only at Y N aa ⊢;have I3:Inv X pins σ (upd H2 ⇑l (.lst [])) {l with heap:=l.heap.push {cls:= .type "list",data:= .seq ([]:ZG).toArray}}:=I2.lnew (its:=[]) (t':=l.toks) .nil (Xb _);have hD:H2 ⇑l=none:=I2.fresh;have al:∀b∈A,b<⇑l:=λb j=>by have%[o,ho|_]:=T.obj 0 _ a3 b j;exact Zu ho
 generalize ar:({l with heap:=l.heap.push {cls:= .type "list",data:= .seq ([]:ZG).toArray}}:Shared)=B at I3
 have G:B.heap=l.heap.push {cls:= .type "list",data:= .seq ([]:ZG).toArray}:=by rw[<-ar]
 have a4:⇑B=⇑l+1:=by rw[G,Zq]
 have f3:∀b∈A,mf X pins (upd H2 ⇑l (.lst [])) b:=λb j=>%[(aj (Zs (al b j)))▸(f2 b j).1|(f2 b j).2]
 have%[W,%[m0|w0]|a5]:=R _ hD;have ac:∀b u,B.heap.get? b∣u->U.get? b∣u:=G▸N;have I4:Inv (bX X a N' B (upd H2 ⇑l (.lst [])) A) [] (qf N'.length aU σ) (upd H2 ⇑l (.lst [])) {B with heap:=U,toks:=B.toks}:=I3.block S f3 (λb j=>a4▸Yl (al b j)) (G▸Y) ac (G▸aa);have a6:tn 0 U:=T.keep _ _ _ a3 λb j o e=>ac b o (G▸Z7 _ e)
 have cd:(bX X a N' B (upd H2 ⇑l (.lst [])) A).env=compEnvC a _ ⇑B X.env:=rfl;have ag:∀{H':Hp},(∀b∈A,H' b=none)->∀b∈A,mf _ [] H' b:=λhn b j=>
  %[hn b j,(I4.ok.exf b j).1,I4.ok.exfs b j,.inl j,(I4.ok.exf b j).2|λp hp=>absurd (show p∈([]:ZF)from hp) ∅]
 have an:codeAny (model X.prog X.w) X.A (.compLoop (.ListComp a1 [%[tg,iter,a0|0]] a pos) 0 (.ref it) (.ref ⇑l) (bX X a N' B (upd H2 ⇑l (.lst [])) A).env)
  (compPost (model X.prog X.w) X.A X.xe use QQ (.ref ⇑l) ⇑B) {B with heap:=U,toks:=B.toks}:=by
  refine codeAny_loop rfl (λn s'=>∃i ys a7 H',Inv _ [] a7 H' s'/\tn i s'.heap/\(∀b∈A,H' b=none)/\W i n ys a7 H') ?_ m0 %[0,[],_,_,I4,a6,λb j=>(f3 b j).1|w0];intro n s5 %[i,ys,ai,O,I5,bb,bc|w5];show wpAny _ X.A _ _ _ s5;refine wpAny_noted ?_;rw[compTurn_list];refine Z2 (wpAny_standAt (Z2 ?_));rcases a5 i n ys ai O w5 with⟨stop,q⟩|⟨go,step⟩
  .refine thn (T.done (bX X a N' B (upd H2 ⇑l (.lst [])) A) rfl rfl rfl hc i [] s5 ai O _ I5 (ag bc) bb stop) λr s6 ⟨hr,I6⟩=>?_
   subst hr;refine Z3 ?_;have%[m6,bm|_]:=I6.loc;refine a2 ⇑l ⇑B O s6 _ m6 bm (I2.fpOk (a4▸Yd _) I6.free) (λh' sb=>?_) q;have u6:Un (frs X.stack) A (upd H2 ⇑l (.lst [])) O B.heap s6.heap:=I6.base;have as:∀b u,B.heap.get? b∣u->b≠⇑B:=λb u e=>Zs (Zu e)
   have u7:Un (frs X.stack) A (upd H2 ⇑l (.lst [])) O B.heap h':=%[λb u e n j hx=>(sb.2 b (as b u e)).trans (u6.keep b u e n j hx),λb u e n j hx=>by
    have%[sl|q]:=u6.slot b u e n j hx;exact%[sl|(sb.2 b (as b u e)).trans q],u6.free,λb u e hx=>by
    have%[o'|q]:=u6.there b u e hx;exact%[o'|(sb.2 b (as b u e)).trans q],u6.tups,u6.frzs|u6.tbls]
   have bt:HOk X.prog X.w O h':=λb u e=>by
    have bf:∀c w,O c∣w->c≠⇑B:=λc w q z=>by
     have:O ⇑B=none:=I6.free;rw[z,this]at q;cases q
    refine(I6.hok b u e).stay (λc w b0 q=>(sb.2 c ?_).trans q) (λ_ q=>q) λ_ _ q=>q
    rcases b0 with z|z
    .exact z▸bf b u e
    .exact bf c _ z
   exact I2.call' (s':=(s6>>>h')) (ch:=A) (by show s6.os=l.os;rw[I6.os,<-ar];rfl) ((Un.laid (λb u e=>G▸Z7 _ e) (Zi _) hD).trans u7) bt I6.bare λb j=>%[(f2 b j).2.2.2.1,(f2 b j).2.1,(f2 b j).2.2.2.2.1|(f2 b j).2.2.2.2.2]
  .refine thn (T.item (bX X a N' B (upd H2 ⇑l (.lst [])) A) rfl rfl rfl hc i [] s5 ai O _ I5 (ag bc) bb go) λr s6 ⟨u,hr,h6⟩=>?_
   subst hr;refine Z2 (thn h6 λ_ s7 ⟨x,H7,I7,r7,y7,aR,b1⟩=>?_);have ab:∀{α:Type} {t:Sem α} {Q1:α->Shared->Prop} {E2:ZE} {s':Shared},(X⁻¹) t Q1 (λ_ _=>False) s'->(X⁻¹) t Q1 E2 s':=λh=>wpAny_mono h (λ_ _ q=>q) λ_ _ f=>f.elim
   have aq:∀{E:St} {H8:Hp} {s8:Shared},Inv (bX X a N' B (upd H2 ⇑l (.lst [])) A) ([] ++rH A s7.heap) E H8 s8->
    Inv _ [] E H8 s8/\tn (i+1) s8.heap/\∀b∈A,H8 b=none:=λ{E H8 s8} I8=>by
    refine%[I8.unpinned,T.keep _ _ _ aR λb j o e=>(I8.pin (b,o) (Ys _ (Ys _ (eN j e)))).1|λb j=>?_];have%[o,e|d]:=T.obj _ _ aR b j;exact(I8.pin (b,o) (Ys _ (Ys _ (eN j e)))).2.1
   refine Z2 (ab (thn (hg B _ A _ s7 ai H7 x u _ (I7.pinned (ag b1) (T.obj _ _ aR)) r7 (step x H7 y7)) λ_ s8 ⟨E,H8,I8,q8⟩=>Z2 (ab (thT (ht B _ A _ s8 E H8 _ I8 q8) λb s9 H9 I9 q9=>?_))));cases b with
   | false=>
     have%[m',hm|w9]:=(q9)
     have%[J1,J2|J3]:=aq I9;exact Z3 %[rfl,m',hm,i+1,ys,E,H9,J1,J2,J3|w9]
   | true=>
     have q9:=(q9:te E H9 λy O=>∃zs m',O ⇑l<*zs/\ ~~~zs<sizeLine/\m'<n/\W (i+1) m' (ys++[y]) E _)
     refine Z2 (Z2 (ab (thP (he B _ A _ s9 E H9 _ I9 q9) λu2 b2 y bl b3 b4 ⟨zs,m',hz,hl,hm,b5⟩=>Z2 (ab (thP (qb _ b2 E bl (.ref ⇑l) [y] (.ref ⇑l) [u2] (λv H'=>v= .non/\H'=upd bl ⇑l (.lst (zs++[y]))) b3 rfl (.cons b4 .nil) %[_,rfl,_,hz,hl,rfl|rfl]) λu3 cl v3 co b6 cs ⟨ct,b7⟩=>?_)))));subst b7;have%[J1,J2|J3]:=aq b6;exact Z3 (Z3 %[rfl,m',hm,i+1,ys++[y],E,_,J1,J2,J3|b5])
 subst ar;exact(codeAny_compStart_list an (T.self _ 0 _ _ _ a6 an))
def C2{X:Cx}(S:aD X a e f)(n:X.calm=true)(hi:PI X l iter o)
 (p:∀b c d,PG (bX X a e b c d) l g) (r:∀b c d,PTs (bX X a e b c d) i u) (v:∀b c d,PE (bX X a e b c d) j w)
 (y:∀x,foldedSetIterable iter X.env x=pure x):
 PE X (.ListComp j [%[l,iter,i|0]] a pos) (qg o e.length f g u w):=by
 intro pins s E H Q I h;exact qh S n hi p r v y I h λD C z G J m A _ k q=>%[m,A|λh' B=>%[.ref D,z,k h' B,rfl|q]]
abbrev Its(z:Str):It:=⟨λi _=>i<z.cps.size,λi H x a=>a=H/\∃c,z.cps[i]?∣c/\x= .str ⟨#[c]⟩,λi _=>z.cps.size<=i⟩
def vV{P:Program}{K:ZB}(it:Addr)(z:Str)(t:Tok):pA P w K tg (Its z) [it] it (λi h=>h.IsStrIter it "str_ascii_iterator" z t i) where
 mem:=by simp
 obj:=λi h st b hb=>by
  have e:=↑hb
  subst e;have%[o,e,c|d]:=st;exact%[o,e|λv z=>by lia]
 keep:=λi h h' st k=>by
  have%[o,e|r]:=st;exact%[o,k it ∅ o e|r]
 item:=by
  intro X hP hw hK hc i pins s σ H E I hf st hg;have hlt:i<z.cps.size:=hg;have%[f0,f1,f2,f3,f4|f5]:=hf it ∅;refine wpAny_pyNext_ascii_item st (c:=z.cps[i]) ∅ λh' st' sb=>?_
  have%[o,e,c|d]:=id st';exact%[_,ρ|pT e c d (!1) %[.str _,H,(I.turned (λb o hb e=>(sb.2 b hb).trans e) f0 f1 f3 f4 f5),%[_|ρ],%[ρ,_,by simp|ρ],st'|λb hb=>(hf b hb).1]]
 done:=by
  intro X hP hw hK hc i pins s σ H E I hf st hg;have hle:z.cps.size<=i:=hg;have%[f0,f1,f2,f3,f4|f5]:=hf it ∅;exact wpAny_pyNext_ascii_end (I.ok.hd hc) st (by simp[hle]) λh' eb=>%[rfl|I.turned (λb o hb e=>eb b o hb e) f0 f1 f3 f4 f5]
 self:=λ_ _ _ _ _ st h=>wpAny_pyIter_striter_ascii st h
def yD{P:Program}{K:ZB}(it:Addr)(z:Str)(t:Tok):pA P w K tg (Its z) [it] it (λi h=>h.IsStrIter it "str_iterator" z t i) where
 mem:=by simp
 obj:=λi h st b hb=>by
  have e:=↑hb
  subst e;have%[o,e,c|d]:=st;exact%[o,e|λv z=>by rw[d]at z;cases z]
 keep:=λi h h' st k=>by
  have%[o,e|r]:=st;exact%[o,k it ∅ o e|r]
 item:=by
  intro X hP hw hK hc i pins s σ H E I hf st hg;have hlt:i<z.cps.size:=hg;have%[f0,f1,f2,f3,f4|f5]:=hf it ∅;refine wpAny_pyNext_wide_item st (c:=z.cps[i]) ∅ λh' st' sb=>?_
  have%[o,e,c|d]:=id st';exact%[_,ρ|pT e c d (!1) %[.str _,H,(I.turned (λb o hb e=>(sb.2 b hb).trans e) f0 f1 f3 f4 f5),%[_|ρ],%[ρ,_,by simp|ρ],st'|λb hb=>(hf b hb).1]]
 done:=by
  intro X hP hw hK hc i pins s σ H E I hf st hg;have hle:z.cps.size<=i:=hg;have%[f0,f1,f2,f3,f4|f5]:=hf it ∅;exact wpAny_pyNext_wide_end (I.ok.hd hc) st (by simp[hle]) λh' eb=>%[rfl|I.turned (λb o hb e=>eb b o hb e) f0 f1 f3 f4 f5]
 self:=λ_ _ _ _ _ st h=>wpAny_pyIter_striter_wide st h
abbrev CK(D:Addr)(n i:Nat)(Pv:Nat->List V->St->Hp->Prop)(ys:List V)(b:St)(y:V)(H:Hp):Prop:=
 ∃zs a,H D<*zs/\ ~~~zs<sizeLine/\a<n-i/\(a=n-(i+1)/\i+1<=n/\Pv (i+1) (ys++[y]) b (upd H D (.lst (zs++[y]))))
abbrev CN(n i:Nat)(Pv:Nat->List V->St->Hp->Prop)(ys:List V)(b:St)(H:Hp):Prop:=∃a,a<n-i/\(a=n-(i+1)/\i+1<=n/\Pv (i+1) ys b H)
def CK.mk{Pv:Nat->List V->St->Hp->Prop}(hi:i<n)(a:H D<*zs)(b: ~~~zs<sizeLine)(p:Pv (i+1) (ys++[y]) c (upd H D (.lst (zs++[y])))):CK D n i Pv ys c y H:=
 %[zs,n-(i+1),a,b,⋯,rfl,hi|p]
def CN.mk{Pv:Nat->List V->St->Hp->Prop}(hi:i<n)(p:Pv (i+1) ys a H):CN n i Pv ys a H:=%[n-(i+1),⋯,rfl,hi|p]
def cK{J:It}{g:TG}{v:TT}{w:TE}{z:Hp->Prop}(Pv:Nat->List V->St->Hp->Prop)(A:Pv 0 [] c H)(s:∀i ys c H,i<n->Pv i ys c H->J.go i H)(d:∀ys c H,Pv n ys c H->J.stop n H)
 (B:∀i ys c H,i<n->Pv i ys c H->∀x f,J.yld i H x f->g x c f λa u=>v a u λb h=>if b=true then w a h λy r=>CK D n i Pv ys a y r else CN n i Pv ys a h) (C:∀ys c H,Pv n ys c H->z H):
 ∃W:Nat->Nat->List V->St->Hp->Prop,(∃m,W 0 m [] c H)/\∀i m ys j l,W i m ys j l->(J.stop i l/\z l)\/
  (J.go i l/\∀x f,J.yld i l x f->g x j f λa u=>v a u λb h=>if b=true then w a h λy r=>∃zs o,r D<*zs/\ ~~~zs<sizeLine/\o<m/\W (i+1) o (ys++[y]) a (upd r D (.lst (zs++[y])))
   else∃o,o<m/\W (i+1) o ys a h):=by
 refine%[λi m ys c H=>m=n-i/\i<=n/\Pv i ys c H,%[n,by simp,Xb _|A]|?_];intro i m ys c H %[rfl,hi|p];by_cases q:i<n
 .exact .inr %[s i ys c H q p|λx f y=>B i ys c H q p x f y]
 .have e:i=n:=by lia
  subst e;exact .inl %[d ys c H p|C ys c H p]
def rW:∀{bs:List Bool} {us:ZG} {i:Nat} {v:Value},aI (bs.map V.bl) us->us[i]?∣v->∃b,bs[i]?∣b/\v= .bool b
 |[],_,_,_,r,e=>by cases r;simp at e
 | b::bs,_,i,v,r,e=>by
   cases r with
   | cons a c=>
     cases(a);cases i with
     | zero=>simp at e;exact%[b,ρ|e.symm]
     | succ i=>
       have%[d,f|g]:=rW c (e);exact%[d,f|g]
def ng(bs:List Bool):(List.range bs.length).all (λi=>bs.getD i false)=bs.all id:=by
 have e:(List.range bs.length).map (λi=>bs.getD i false)=bs:=by
  apply Zy
  .simp
  .intro i a b
   simp_all
 have:(List.range bs.length).all (λi=>bs.getD i false)=((List.range bs.length).map λi=>bs.getD i false).all id:=by rw[all_map];rfl
 rw[this,e]
def Au{X:Cx}(g:X.calm=true):bW X (.builtin "all") (λxs H Q=>∃(p:Addr) (bs:List Bool),xs=[.ref p]/\SqL X.K H p (bs.map V.bl)/\Q (.bl (bs.all id)) H):=by
 intro pins s A H xs us Q I r h;have%[p,bs,rfl,j|q]:=h;have%[u,rfl|l]:=cR r;cases l;have%[its,d,pl|B]:=I.list j;have m:X.A.in1.handled=none:=I.ok.hd g;have a: ~~~bs=its.toArray.size:=by rw[Zp,<-d.length,Z6]
 refine call_all_walk (wpAny_pyIter_list pl.isList %[⇑s,[⇑s,p],[⇑s],its.toArray.size,_,_,λi=>bs.getD i false,rfl,Walks.list m _ p (Zs (by have%[o,n|_]:=pl.isList;exact Zu n)) its.toArray,%[%[_,Zj _ rfl,rfl|rfl]|pl.isList.push _],?_|?_])
 .intro i v s' w C y c;have%[b,f|rfl]:=rW d ↑y;have e:bs.getD i false=b:=!2
  have c:w (bs.getD i false) s':=c;rw[e]at c;exact wpAny_truthy_bool c
 .intro h' tk z;rw[<-a,ng];refine%[.bl _,H,I.kept λb o e=>z b o ?_ (Z7 _ e),ρ|q];have:=Zu e;intro f;exact absurd (Xk f) (Zs this)
abbrev Fp:V->Option Int->Option Int->Hp->VK->Prop:=λx lo hi H Q=>∃z,x= .str z/\ ~~~z<=sizeLine/\Q (.str (Txt.slice z lo hi)) H
def Fq{X:Cx}:SlR X Fp:=by
 intro pins s m H x v n o lo hi p Q I f b pl d h;have%[z,rfl,g|q]:=h;have%[t|rfl]:=f;refine%["str",_,F.slot_str_getitem.lookup,typeIs_str _ _ _|?_];have a:∀l u,~~~(Txt.slice z l u)<=sizeLine:=λl u=>Ye (Txt.slice_le z _ _) g
 cases pl with
 | none=>
   cases d with
   | none=>exact wpAny_getItem_str_slice (l:=none) (u:=none) (st:=none) b rfl (post_val_or_str %[a _ _|λt' k=>%[.str (Txt.slice z _ _),H,I.tok k,%[_|rfl]|q]])
   | int j c=>exact wpAny_getItem_str_slice (l:=none) (u:=some (j,c)) (st:=none) b rfl (post_val_or_str %[a _ _|λt' k=>%[.str (Txt.slice z _ _),H,I.tok k,%[_|rfl]|q]])
 | int i e=>
   cases d with
   | none=>exact wpAny_getItem_str_slice (l:=some (i,e)) (u:=none) (st:=none) b rfl (post_val_or_str %[a _ _|λt' k=>%[.str (Txt.slice z _ _),H,I.tok k,%[_|rfl]|q]])
   | int j c=>exact wpAny_getItem_str_slice (l:=some (i,e)) (u:=some (j,c)) (st:=none) b rfl (post_val_or_str %[a _ _|λt' k=>%[.str (Txt.slice z _ _),H,I.tok k,%[_|rfl]|q]])
def gj:∀{ss:ZC} {us:ZG},aI (ss\3) us->StrsAre us ss
 |[],_,r=>by cases r;exact .nil
 | x::ss,_,r=>by
   cases r with
   | cons a b=>
     have%[t|e]:=a;subst e;exact .cons x t (gj b)
def qj:∀{ss:ZC} {us:ZG},StrsAre us ss->aI (ss\3) us
 | _,_,.nil=> .nil
 | _,_,.cons x t h=> .cons %[t|rfl] (qj h)
abbrev xw(K:ZB):V->List V->Hp->VK->Prop:=λx vs H Q=>∃z l ss,x= .str z/\vs=[.ref l]/\SqL K H l (ss\3)/\(ss.map (·.length)).sum+ ~~~ss* ~~~z<=16777216/\Q (.str (Txt.join z ss)) H
def C3{X:Cx}:MtM X "str.join" (xw X.K):=by
 intro pins s e H x vs v us Q I a b h;have%[z,l,ss,rfl,rfl,c,hw|q]:=h;have%[t|rfl]:=a;have%[u,rfl|d]:=b.one;cases d;have%[its,r,pl|f]:=I.list c;exact PyProof.Rows.join_list pl.isList (gj r) hw λt' k=>%[.str _,H,I.tok k,%[_|rfl]|q]
def Av{X:Cx}:bW X (.builtin "isinstance") (λxs H Q=>∃x n t b,xs=[x,.ty n]/\jq X.K H x t/\kitOne X.K t (.type n)∣b/\Q (.bl b) H):=by
 intro pins s d H xs us Q I r h;have%[x,n,t,b,rfl,ty,e|q]:=h;have%[u,f,rfl,c|a]:=ip r;cases(a);exact yp I c ty e λtk=>%[.bl b,H,I.tok tk,rfl|q]
def qk(z:Str)(c i:Nat):Builtin.Str.subAt z ⟨#[c]⟩ i=decide (z.cps[i]?∣c):=by
 unfold Builtin.Str.subAt;have b: ~~~(⟨#[c]⟩:Str)=1:=rfl;rw[b];by_cases hi:i<z.cps.size
 .have e:z.cps.extract i (i+1)= #[z.cps[i]]:=by
   apply Array.ext
   .simp;lia
   .intro j d a;simp at a;subst a;simp
  rw[e,Array.getElem?_eq_getElem hi];by_cases f:z.cps[i]=c
  .subst f;simp
  simp_all
 .have e:z.cps.extract i (i+1)= #[]:=by
   apply Array.ext
   .simp;lia
   .intro j d a;simp at a
  rw[e,Array.getElem?_eq_none ⋯];simp
def Aw(z:Str)(c:Nat):(!(Builtin.Str.occurrences z ⟨#[c]⟩ 0 z.length 1).isEmpty)=decide (c∈z.cps.toList):=by
 rcases StrLaws.occ_head z _ 1 (Zi _)with⟨e,d⟩|⟨i,r,e,f,_⟩
 .rw[e];refine(Zh λg=>?_).symm;have%[j,h|l]:=List.mem_iff_getElem.mp g;have a:=↑h
  refine d j %[?_|?_]
  .show j+1<=z.cps.size;lia
  .rw[qk];exact Zf (by rw[Array.getElem?_eq_getElem a];simpa using l)
 .rw[e];refine(Zf ?_).symm;have b:=f.2;rw[qk]at b;have:=Array.mem_of_getElem? (Zo b);simpa using this
section
variable{X:Cx}
nonrec abbrev DZ:R2:=λx y H Q=>∃i j,x= .str i/\y= .str j/\ ~~~i+ ~~~j<=sizeLine/\Q (.str (i++j)) H
nonrec abbrev Ax:R2:=λx y H Q=>rI z3 (λi j=> .int (i*j)) x y H Q\/Fh x y H Q
def C4:OpR X (binaryOp .Mult) Ax:=z4.or Fi
nonrec abbrev Fs:R2:=rEq
def Ft:OpR X (compareOp .Eq) Fs:=GW
nonrec abbrev Fu:R2:=rNe
def Fv:OpR X (compareOp .NotEq) Fu:=GX
nonrec abbrev G3:R2:=λx y H Q=>∃i j,x= .str i/\y= .str j/\Q (.bl (!(Builtin.Str.occurrences j i 0 j.length 1).isEmpty)) H
nonrec abbrev Ay(K:ZB):R2:=λx y H Q=>G3 x y H Q\/rIn K false x y H Q
def Fw:OpR X (compareOp .In) (Ay X.K):=yl.or yw
abbrev C5(K:ZB)(c:TE):TI:=λd H R=>c d H λx b=>(∃a,x= .ref a/\(∃xs,SqL K b a xs)/\R (Itl K a) b)\/(∃a,x= .ref a/\(∃xs,SqT K b a xs)/\R (Itt K a) b)\/∃z,x= .str z/\R (Its z) b
def Fx(n:PE X l r):PI X C l (C5 X.K r):=by
 intro pins s u H R I h;refine thP (n pins s u H _ I h) λv d x g f i w=>?_
 have c:∀b∈[⇑d],mf X pins g b:=λb y=>by
  have e:b=⇑d:=↑y
  subst e;exact f.fpOk (Zi _) (f.hok.fresh (Zi _))
 rcases w with⟨a,e,⟨xs,j⟩,q⟩|⟨a,e,⟨xs,j⟩,q⟩|⟨z,e,q⟩
 .subst e;cases i;have%[its,A,p|B]:=f.list j;exact wpAny_pyIter_list p.isList %[⇑d,[⇑d],_,_,g,rfl,f.kept (t':=d.toks) λb o e=>Z7 _ e,pU a _,%[_,Zj _ rfl,rfl|rfl],c|q]
 .subst e;cases i;have%[its,A,p|B]:=f.tuple j;exact wpAny_pyIter_tuple (p) %[⇑d,[⇑d],_,_,g,rfl,f.kept λb o e=>Z7 _ e,vD a _,%[_,Zj _ rfl,rfl|rfl],c|q]
 .subst e;have%[t|rfl]:=i;cases m:z.cps.all _ with
  | true=>
    exact wpAny_pyIter_ascii m %[⇑d,[⇑d],_,_,g,rfl,f.kept λb o e=>Z7 _ e,vV _ z t,%[_,Zj _ rfl,rfl|rfl],c|q]
  | false=>
    exact wpAny_pyIter_wide m %[⇑d,[⇑d],_,_,g,rfl,f.kept λb o e=>Z7 _ e,yD _ z t,%[_,Zj _ rfl,rfl|rfl],c|q]
end
abbrev bK(c:Scope)(N:ZC)(a:Scope)(d:ZC)(b:List (Nat×Nat)):Bool:=
 decide (a.kind= .function)&&a.names.all (λy=>(decide (y.2≠ .cell)||decide (a.names.lookup y.1∣.cell))&&(decide (y.2≠ .local)||decide (a.names.lookup y.1∣.local))&&(decide (y.2≠ .free)||decide (c.names.lookup y.1∣.cell)||decide (c.names.lookup y.1∣.free)))&&
  b.all λp=>match d[p.1]? with
   | some x=>decide (N[p.2]?∣x)&&decide (a.names.lookup x∣.free)
   | none=>false
def aD.of{X:Cx}(h:bK X.env.scope X.N a g c=true):aD X a g c:=by
 unfold bK at h;rw[Zv,Zv,all_eq_true,all_eq_true]at h;have%[%[i|d]|j]:=h;refine%[Zo i,λy b f=>?_,λy b f=>?_,λy b l=>?_|λp m=>?_]
 .have:=d y b;simp only[Zv,or_eq_true,decide_eq_true_eq]at this;exact this.1.1.resolve_left λq=>q f
 .have:=d y b;simp only[Zv,or_eq_true,decide_eq_true_eq]at this;exact this.1.2.resolve_left λq=>q f
 .have:=d y b;simp only[Zv,or_eq_true,decide_eq_true_eq]at this;rcases this.2 with(q|q)|q
  .exact absurd l q
  .exact .inl q
  .exact .inr q
 .have:=j p m;cases e:g[p.1]? with
  | none=>simp_all
  | some x=>
    rw[e]at this;simp only[Zv,decide_eq_true_eq]at this;exact%[x,ρ,this.1|this.2]
structure Gv (mg:ZD) (x:Str) (v:V):Prop where
 ex:∃u,mg x∣u/\aV v u
def Ea{X:Cx}(g:Gv X.mg x v)(a:Gl X x)(b:(x==("__debug__":Str))=false):PE X (.Name x pos) (tC v):=by
 have%[u,h|r]:=g.ex;exact Cj a h r b
structure Cal (P:Program) (w:World) (K:ZB) (mg:ZD) (base:Heap) (k:Nat) (x:Str) (ps:ZC) (sp:Sp):Prop where
 ex:∃f fd,dR P w K mg base CX0 k f fd ps sp/\mg x∣.ref f/\keepIn K (.ref f)=true/\di K fd ps []
structure aM (K:ZB) (mg:ZD) (x:Str) (st:Stmt) (ps:ZC):Prop where
 ex:∃f fd,Fun K x x st f fd/\mg x∣.ref f/\di K fd ps []
def aM.cal{P:Program}{K:ZB}{st:Stmt}(D:aM K mg x st ps)(S:az N ps (ao st))
 (a:∀(H:Hp) (vs:List V) (Q:VK) (E:XK),sp vs H Q E-> ~~~vs= ~~~ps/\∀(f:Addr) (b:Value) (A:Around) (outer:List Env) (s:Shared),bI k (A.deeper (envOfC x (ao st) ⇑s f b))->
  ∃t,PSs (eO CX0 P w K mg base N x (ao st) f b A outer s H E).nox (bJ st) t/\t {nx:=λ_ c=>Q .non c,rt:=Q} (start N vs) H):Cal P w K mg base (k+1) x ps sp:=by
 have%[f,d,F,e|g]:=D.ex;exact%[f,d,F.ok S (λv H Q E h=>(a H v Q E h).1) (λb A o s H v Q E r h=>(a H v Q E h).2 f b A o s r),e,F.kp|g]
def Fy{X:Cx}(C:Cal X.prog X.w X.K X.mg X.base j x ps sp)(g:bI k X.A)(h:Gl X x)(i:gi CX0 X E0)(l:PA X (e::a) t)(b:j<=k)
 (c:(x==("__debug__":Str))=false) (m:starEach (e::a) X.env=(false,eval e X.env)::starEach a X.env) (d:(backTo pos (starEach a X.env)).any (·.1)=false):
 PE X (.Call (.Name x p) (e::a) [] pos) (pX sp [] E0 t):=by
 have%[f,r,F,n,o|q]:=C.ex;exact xv F (g.mono b) h n o q .nil i l c m d
def Fz{K:ZB}{h:Heap}{st:Stmt}{kV e g d ct:Value}(X:K.In h)(G:h.Ns mainGlobals mg)
 (a:nsIn K mainGlobals x∣some (.ref f)) (l:K.lookup f=some %[m,od,.func (fnOf x x (cJ st) (bJ st) (ao st) .none kV e g i d ct)|j]) (c:codeIn K d x=true) (k:keepIn K (.ref f)=true)
 (b:∀(kV e g:Value) (i:ZJ) (d ct:Value) (us:ZG),~~~us= ~~~ps->bindArgs (fnOf x x (cJ st) (bJ st) (ao st) .none kV e g i d ct) %[us|[]]=pure (ps.zip us)):aM K mg x st ps:=
 %[f,_,dG l c k,mg_of X G a|(dG l c k).binds b]
def G4{K:ZB}{h:Heap}(X:K.In h)(G:h.Ns mainGlobals mg)(a:nsIn K mainGlobals x∣some u)(r:aV v u):Gv mg x v:=%[u,mg_of X G a|r]
def aC(h:∀a:It->Hp->Prop,(∀J f,(∃W:Nat->Nat->St->Hp->Prop,(∃m,W 0 m b f)/\∀i m b H,W i m b H->
 (J.stop i H/\D.nx b H)\/(J.go i H/\∃N:St->Hp->Prop,(∀c d,N c d->∃j,j<m/\W (i+1) j c d)/\∀x d,J.yld i H x d->g x b d λe l=>n {D with nx:=N,ct:=N,bk:=D.nx} e l))->a J f)->o b H a):vF o g n D b H:=h _ λ_ _ x=>x
def aF(h:∀c:It->Hp->Prop,(∀J j,(∀D,j D=none->∃W:Nat->Nat->List V->St->Hp->Prop,
 (∃m,W 0 m [] (qf n l o) (upd j D (.lst [])))/\∀i m ys d e,W i m ys d e->(J.stop i e/\Q (.ref D) e)\/
  (J.go i e/\∀x p,J.yld i e x p->g x d p λa s=>u a s λb q=>if b=true then v a q λy r=>∃zs f,r D<*zs/\ ~~~zs<sizeLine/\f<m/\W (i+1) f (ys++[y]) a (upd r D (.lst (zs++[y])))
   else∃f,f<m/\W (i+1) f ys a q))->c J j)->w o H c):qg w n l g u v o H Q:=h _ λ_ _ x=>x
section
variable{X:Cx}{K:ZB}
def FA(h:X.K=K):OpR X (compareOp .In) (Ay K):=by subst h;exact Fw
def yE(h:X.K=K):bW X (.builtin "len") (λxs H Q=>∃x n,xs=[x]/\Cy K x H n/\Q (.int n) H):=by subst h;exact z9
def yF(h:X.K=K)(a:X.calm=true):bW X (.builtin "all") (λxs H Q=>∃(p:Addr) (bs:List Bool),xs=[.ref p]/\SqL K H p (bs.map V.bl)/\Q (.bl (bs.all id)) H):=by subst h;exact Au a
def yG(h:X.K=K):bW X (.builtin "isinstance") (λxs H Q=>∃x n t b,xs=[x,.ty n]/\jq K H x t/\kitOne K t (.type n)∣b/\Q (.bl b) H):=by subst h;exact Av
def vW(h:X.K=K):bW X (.type "list") (λxs H Q=>∃p ys,xs=[.ref p]/\(SqL K H p ys\/SqT K H p ys)/\∀l,H l=none->Q (.ref l) (upd H l (.lst ys))):=by subst h;exact rQ
def Az(h:X.K=K):MtR X "str.join" (xw K):=by subst h;exact C3
def yH(h:X.K=K)(d:PE X a e)(f:∀b,isTrue a X.env b=(do let v<-b;standAt a.pos;holding [v] (truthy v))):PT X a (λg H Q=>e g H λx c=>∃k,z7 K x c k/\Q k c):=by subst h;exact z8 d f
def C6(h:X.K=K)(a:PE X l b):PI X c l (C5 K b):=by subst h;exact Fx a
variable{o e:Expr}{es:List Expr}{to:TE}{t:TA}{name:Str}{apos cpos:Pos}{T id:String}{r:V->List V->Hp->VK->Prop}
def C7(h:X.K=K)(d:PlainAttrs T)(slot:Slot T name id)(c:typeOf (.builtin id)=pure (.type "method_descriptor"))(f:MtR X id r)(g:PE X o to)
 (a:attributeBase o name X.env (eval o X.env)=eval o X.env) (b:(apos.endLine==cpos.line)=true):PE X (.Call (.Attribute o name apos) [] [] cpos) (CL K T r to):=by
 subst h;exact Fe d slot c f g a b
def AA(h:X.K=K)(g:PlainAttrs T)(slot:Slot T name id)(f:typeOf (.builtin id)=pure (.type "method_descriptor"))(i:MtR X id r)(j:PE X o to)(l:PA X (e::es) t)
 (b:attributeBase o name X.env (eval o X.env)=eval o X.env)
 (d:((backTo cpos (starEach (e::es) X.env)).all (λx=>!x.1)&&(backToKw cpos (keywordEach [] X.env)).all (λx=>x.1.isSome)
  && decide (~~~(e::es)+ ~~~([]:List Keyword)+(if([]:List Keyword).isEmpty then 0 else 1)<30))=true)
 (c:(apos.endLine==cpos.line)=true) (m:starEach (e::es) X.env=(false,eval e X.env)::starEach es X.env) (a:(backTo cpos (starEach es X.env)).any (·.1)=false):
 PE X (.Call (.Attribute o name apos) (e::es) [] cpos) (tBM K T r to t):=by
 subst h;exact G1 g slot f i j l b d c m a
end
structure vX (z TI TO i1 i2:Addr):Prop where
 TIz:TI≠z
 TOz:TO≠z
 i1z:i1≠z
 i2z:i2≠z
 TITO:TI≠TO
 TIi1:TI≠i1
 TIi2:TI≠i2
 TOi1:TO≠i1
 TOi2:TO≠i2
 i12:i1≠i2
section
#where
variable{z TI TO i1 i2:Addr}{fp1 fp2:List Addr}{n1 n2 i:Nat}{P1 P2:Nat->Value->Prop}{St1 St2:Nat->Heap->Prop}
def AB{Q:ZE}(D1:Draws prog w A i1 fp1 n1 P1 St1)(D2:Draws prog w A i2 fp2 n2 P2 St2)(D:vX z TI TO i1 i2)(T:∀b∈fp1,b≠z/\b≠TO/\b≠i2)(m2:∀b∈fp2,b≠z/\b≠TO/\b≠i1)
 (U:IsZip s.heap z TI TO .none) (ac:IsPair s.heap TI (.ref i1) (.ref i2)) (ag:IsPair s.heap TO a b) (h1:St1 i s.heap) (h2:St2 i s.heap) (l1:i<n1) (l2:i<n2)
 (hQ:∀x y h' tk,P1 i x->P2 i y->IsZip h' z TI TO (rawInt ⇑s)->IsPair h' TO x y->St1 (i+1) h'->St2 (i+1) h'->IsPair h' ⇑s x y->
  (∀c o,c≠z->c≠TO->c≠i1->c≠i2->s.heap.get? c∣o->h'.get? c∣o)->Q (.ref ⇑s) {s with heap:=h',toks:=tk}):
 ↥A (Builtin.«zip.__next__» %[[.ref z]|[]]) (λai s'=>∃v,ai= .done (.ret v)/\Q v s') E s:=by
 have r:∀{k h h' c},(∀b∈fp1,b≠c)->SameBut c h h'->St1 k h->St1 k h':=λhc sb st=>D1.frame _ _ _ st λb d o e=>(sb.2 b (hc b d)).trans e
 have u:∀{k h h' c},(∀b∈fp2,b≠c)->SameBut c h h'->St2 k h->St2 k h':=λhc sb st=>D2.frame _ _ _ st λb d o e=>(sb.2 b (hc b d)).trans e
 show wpAny _ _ (field (.ref z) 2>>= _) _ _ _;refine Z2 (wpAny_field U rfl (x:= .bool false) rfl ?_);show wpAny _ _ (field (.ref z) 3>>= _) _ _ _;refine Z2 (wpAny_field U rfl (x:= .ref TI) rfl (Z2 (wpAny_seqItems ac rfl ?_)));show wpAny _ _ (Builtin.SmallTypes.ownedTupleIsFree (.ref z)>>= _) _ _ _;refine Z2 ?_;unfold Builtin.SmallTypes.ownedTupleIsFree;refine Z2 (wpAny_field U rfl (x:= .none) rfl (Z3 ?_));simp only[if_true];refine Z2 (wpAny_rule (Z2 (wpAny_field U rfl (x:= .ref TO) rfl (Z2 (wpAny_setField_rec U ∅ λg1 M n=>?_)))));replace M:IsZip g1 z TI TO .ellipsis:=M;refine Z2 ?_;simp only[List.zipIdx_cons,List.zipIdx_nil,forIn_cons,List.forIn_nil];refine Z2 (Z2 (wpAny_onRaise ?_));show wpAny _ _ (Builtin.SmallTypes.nextOf (.ref i1)>>= _) _ _ _;refine Z2 (D1.item i _ _ _ l1 (r (λb d=>(T b d).1) n h1) λx g2 al px an f=>Z3 ?_);replace f:SameBut i1 g1 g2:=f;have I:IsPair g2 TO a b:=(f.2 _ D.TOi1).trans ((n.2 _ D.TOz).trans ag);refine Z2 (wpAny_seqItems I rfl (Z2 (wpAny_updateSeq_pair (s:={s with heap:=g2,toks:=al}) I λg3 p g=>?_)));replace p:IsPair g3 TO x b:=p;replace g:SameBut TO g2 g3:=g;refine Z2 (wpAny_letGo (Z3 (Z2 (Z2 (wpAny_onRaise ?_)))));show wpAny _ _ (Builtin.SmallTypes.nextOf (.ref i2)>>= _) _ _ _;refine Z2 (D2.item i _ _ _ l2 (u (λb d=>(m2 b d).2.1) g (u (λb d=>(m2 b d).2.2) f (u (λb d=>(m2 b d).1) n h2))) λy g4 B py aq j=>Z3 ?_);replace j:SameBut i2 g3 g4:=j;have J:IsPair g4 TO x b:=(j.2 _ D.TOi2).trans p;refine Z2 (wpAny_seqItems J rfl (Z2 (wpAny_updateSeq_pair (s:={s with heap:=g4,toks:=B}) J λq m l=>?_)));replace m:IsPair q TO x y:=m;replace l:SameBut TO g4 q:=l;refine Z2 (wpAny_letGo (Z3 (Z3 (Z2 (wpAny_seqItems m rfl (Z2 (wpAny_newTuple ?_)))))));have Y:q.objs.size=⇑s:=by rw[l.1,j.1,g.1,f.1,n.1]
 have aa:IsZip q z TI TO .ellipsis:=(l.2 _ D.TOz.symm).trans ((j.2 _ D.i2z.symm).trans ((g.2 _ D.TOz.symm).trans ((f.2 _ D.i1z.symm).trans M)));have ar:∀c o,c≠z->c≠TO->c≠i1->c≠i2->s.heap.get? c∣o->q.get? c∣o:=λc o N c2 c3 c4 e=>
  (l.2 c c2).trans ((j.2 c c4).trans ((g.2 c c2).trans ((f.2 c c3).trans ((n.2 c N).trans e))))
 have L:z<q.objs.size:=Zu aa;refine Z2 (Z2 (wpAny_setField_rec (s:={s with heap:=q.push {cls:= .type "tuple",data:= .seq #[x,y]},toks:=B}) (Z7 _ aa) ∅ λg7 O C=>?_));replace O:IsZip g7 z TI TO (rawInt q.objs.size):=O;replace C:SameBut z (q.push _) g7:=C;refine wpAny_setField_rec (s:={s with heap:=g7,toks:=B}) O ∅ λg8 G H=>?_
 replace G:IsZip g8 z TI TO (rawInt q.objs.size):=G;replace H:SameBut z g7 g8:=H;have up:∀c o,c≠z->q.get? c∣o->g8.get? c∣o:=λc o N e=>(H.2 c N).trans ((C.2 c N).trans (Z7 _ e))
 have ab:=(H.2 _ (Yw L)).trans ((C.2 _ (Yw L)).trans (Zj _ rfl));rw[Y]at G ab;refine Z3 %[_,rfl|?_];rw[Y];exact hQ x y g8 B px py G (up _ _ D.TOz m) (D1.frame _ _ _ (r (λb d=>(T b d).2.1) l (r (λb d=>(T b d).2.2) j (r (λb d=>(T b d).2.1) g an))) λb d o e=>up b o (T b d).1 e) (D2.frame _ _ _ (u (λb d=>(m2 b d).2.1) l aq) λb d o e=>up b o (m2 b d).1 e) ab λc o N c2 c3 c4 e=>up c o N (ar c o N c2 c3 c4 e)
def AC(L:Draws prog w A i1 fp1 n1 P1 St1)(D2:Draws prog w A i2 fp2 n2 P2 St2)(D:vX z TI TO i1 i2)(m1:∀b∈fp1,b≠z/\b≠TO/\b≠i2)(m2:∀b∈fp2,b≠z/\b≠TO/\b≠i1)
 (B:IsZip s.heap z TI TO .none) (M:IsPair s.heap TI (.ref i1) (.ref i2)) (N:IsPair s.heap TO a b) (h1:St1 i s.heap) (h2:St2 i s.heap) (l1:i<=n1) (l2:i<=n2) (aa:i=n1\/i=n2)
 (hE:∀h' e tk,(∀c o,c≠z->c≠TO->c≠i1->c≠i2->s.heap.get? c∣o->h'.get? c∣o)->(∃o,h'.get? e∣o/\o.cls= .type "StopIteration")->E (.ref e) {s with heap:=h',toks:=tk}):
 ↥A (Builtin.«zip.__next__» %[[.ref z]|[]]) Q E s:=by
 have O:∀{k h h' c},(∀b∈fp1,b≠c)->SameBut c h h'->St1 k h->St1 k h':=λT U st=>L.frame _ _ _ st λb j o e=>(U.2 b (T b j)).trans e
 have u:∀{k h h' c},(∀b∈fp2,b≠c)->SameBut c h h'->St2 k h->St2 k h':=λT U st=>D2.frame _ _ _ st λb j o e=>(U.2 b (T b j)).trans e
 show wpAny _ _ (field (.ref z) 2>>= _) _ _ _;refine Z2 (wpAny_field B rfl (x:= .bool false) rfl ?_);show wpAny _ _ (field (.ref z) 3>>= _) _ _ _;refine Z2 (wpAny_field B rfl (x:= .ref TI) rfl (Z2 (wpAny_seqItems M rfl ?_)));show wpAny _ _ (Builtin.SmallTypes.ownedTupleIsFree (.ref z)>>= _) _ _ _;refine Z2 ?_;unfold Builtin.SmallTypes.ownedTupleIsFree;refine Z2 (wpAny_field B rfl (x:= .none) rfl (Z3 ?_));simp only[if_true];refine Z2 (wpAny_rule (Z2 (wpAny_field B rfl (x:= .ref TO) rfl (Z2 (wpAny_setField_rec B ∅ λg1 n l=>?_)))));replace n:IsZip g1 z TI TO .ellipsis:=n;refine Z2 ?_;simp only[List.zipIdx_cons,List.zipIdx_nil,forIn_cons,List.forIn_nil];refine Z2 (Z2 (wpAny_onRaise ?_));show wpAny _ _ (Builtin.SmallTypes.nextOf (.ref i1)>>= _) _ _ _;have C:St1 i g1:=O (λb j=>(m1 b j).1) l h1;by_cases c1:i<n1
 .have e2:i=n2:=by lia
  refine Z2 (L.item i _ _ _ c1 C λx g2 v px ac d=>Z3 ?_);replace d:SameBut i1 g1 g2:=d;have r:IsPair g2 TO a b:=(d.2 _ D.TOi1).trans ((l.2 _ D.TOz).trans N);refine Z2 (wpAny_seqItems r rfl (Z2 (wpAny_updateSeq_pair (s:={s with heap:=g2,toks:=v}) r λg3 ab f=>?_)));replace f:SameBut TO g2 g3:=f;refine Z2 (wpAny_letGo (Z3 (Z2 (Z2 (wpAny_onRaise ?_)))));show wpAny _ _ (Builtin.SmallTypes.nextOf (.ref i2)>>= _) _ _ _;refine Z2 (D2.done _ _ _ (e2▸u (λb j=>(m2 b j).2.1) f (u (λb j=>(m2 b j).2.2) d (u (λb j=>(m2 b j).1) l h2))) λJ e p Y=>?_);replace p:ExtBut i2 g3 J:=p;have%[oe,g|m]:=Y;have G:IsZip J z TI TO .ellipsis:=p _ _ D.i2z.symm ((f.2 _ D.TOz.symm).trans ((d.2 _ D.i1z.symm).trans n));have y:e≠z:=λx=>by subst x;rw[G]at g;cases g;simp at m
  refine wpAny_setField_rec (s:={s with heap:=J,toks:=v}) G ∅ λg5 _ q=>?_
  replace q:SameBut z J g5:=q;exact hE g5 e v (λc o H d2 d3 d4 x=>(q.2 c H).trans (p c o d4 ((f.2 c d2).trans ((d.2 c d3).trans ((l.2 c H).trans x))))) %[oe,(q.2 e y).trans g|m]
 .have e1:i=n1:=by lia
  refine Z2 (L.done _ _ _ (e1▸C) λg2 e d Y=>?_);replace d:ExtBut i1 g1 g2:=d;have%[oe,g|m]:=Y;have I:=d _ _ D.i1z.symm n;have y:e≠z:=λx=>by subst x;rw[I]at g;cases g;simp at m
  refine wpAny_setField_rec (s:=(s>>>g2)) I ∅ λg3 _ f=>?_
  replace f:SameBut z g2 g3:=f;exact hE g3 e s.toks (λc o H _ d3 _ x=>(f.2 c H).trans (d c o d3 ((l.2 c H).trans x))) %[oe,(f.2 e y).trans g|m]
end
abbrev Itz(x y:Str):It:=⟨λi _=>i<x.cps.size/\i<y.cps.size,λi H v a=>∃c d T,x.cps[i]?∣c/\y.cps[i]?∣d/\H T=none/\v= .ref T/\a=upd H T (.tup [.str ⟨#[c]⟩,.str ⟨#[d]⟩]),
 λi _=>i<=x.cps.size/\i<=y.cps.size/\(i=x.cps.size\/i=y.cps.size)⟩
abbrev ZSt(z TI TO c d:Addr)(e f:Nat->Heap->Prop)(i:Nat)(h:Heap):Prop:=IsZip h z TI TO .none/\IsPair h TI (.ref c) (.ref d)/\(∃a b,IsPair h TO a b)/\e i h/\f i h
def iV(prog:Program)(w:World)(x:Str)(t:Tok)(it:Addr):∀A,A.handled=none->
 Draws prog w A it [it] x.cps.size (λi v=>∃c u,x.cps[i]?∣c/\v= .str ⟨#[c]⟩ u) (λi h=>h.IsStrIter it (strIterType x) x t i):=by
 intro A a;unfold strIterType;cases b:x.cps.all _ with
 | true=>exact Draws.strAscii a it x t
 | false=>exact Draws.strWide a it x t
def AD{P:Program}{K:ZB}(z TI TO i1 i2:Addr)(x y:Str)(t u:Tok)(D:vX z TI TO i1 i2):
 pA P w K (.Tuple elts kt tp) (Itz x y) [z,TI,TO,i1,i2] z (ZSt z TI TO i1 i2 (λi h=>h.IsStrIter i1 (strIterType x) x t i) (λi h=>h.IsStrIter i2 (strIterType y) y u i)) where
 mem:=by simp
 obj:=λi h st b hb=>by
  have%[hz,hTI,%[a,c|hTO],%[o1,e1,_|d1],o2,e2,_|d2]:=st
  grind
 keep:=λi h h' st k=>by
  have%[hz,hTI,%[a,c|hTO],%[o1,e1|r1],o2,e2|r2]:=st;exact%[k z ∅ _ hz,k TI ∅ _ hTI,%[a,c|k TO ∅ _ hTO],%[o1,k i1 ∅ _ e1|r1],o2,k i2 ∅ _ e2|r2]
 item:=by
  intro X hP hw hK hc i pins s σ H E I hf st hg;subst hP hw hK;have%[hz,hTI,%[a,c|hTO],h1|h2]:=st;obtain⟨g1,g2⟩:i<x.cps.size/\i<y.cps.size:=hg;have hT:s.TypeIs (.ref z) "zip":=%[_,hz|rfl]
  have hh:X.A.in1.handled=none:=I.ok.hd hc;unfold pyNext;refine Z2 (wpAny_attempt (wpAny_callSpecial?_slot (name:=!"__next__") hT F.slot_zip_next (wpAny_call_entry F.slot_zip_next hT F.entry_zip_next
   (AB (iV _ _ x t i1 _ hh) (iV _ _ y u i2 _ hh) D (λb hb=>(show b=i1 by simpa using hb)▸%[D.i1z,Ne.symm D.TOi1|D.i12]) (λb hb=>(show b=i2 by simpa using hb)▸%[D.i2z,Ne.symm D.TOi2|Ne.symm D.i12]) hz hTI hTO h1 h2 g1 g2 λv1 v2 h' tk p1 p2 a1 a2 a3 a4 a5 hk=>Z3 ?_) (F.args_zip_next_1 _))))
  have%[c1,u1,e1|rfl]:=p1;have%[c2,u2,e2|rfl]:=p2;refine%[_,ρ|wpAny_letOwnedTupleGo_zip (s:={s with heap:=h',toks:=tk}) a1 λh'' hz'' sb=>?_];replace sb:SameBut z h' h'':=sb;have turn1:Inv X pins σ H {s with heap:=h'',toks:=tk}:=by
   have nit:∀b v,H b∣v->b∉[z,TI,TO,i1,i2]:=λb v e hb=>by rw[(hf b hb).1]at e;cases e
   have kk:∀b o,b∉[z,TI,TO,i1,i2]->s.heap.get? b∣o->h''.get? b∣o:=λb o hb e=>by
    simp only[Yt,X2,or_false,not_or]at hb;exact(sb.2 b hb.1).trans (hk b o hb.1 hb.2.2.1 hb.2.2.2.1 hb.2.2.2.2 e)
   refine I.step (g':=s.gens) (d':=s.drawn) (ch:=[z,TI,TO,i1,i2]) (λb hb=>%[(hf b hb).2.2.2.1,(hf b hb).2.1,(hf b hb).2.2.2.2.1|(hf b hb).2.2.2.2.2]) (λb o _ _ hc e _=>kk b o hc e) (λb o _ _ hc e _=>%[o.slots|kk b o hc e]) (λ_ _ _ _ n=>n)
    (λb o hc e=>%[o|kk b o hc e]) (λ_ _ e=>e) (λ_ _ _ e=>e) (λb ps e=>%[#[]|by rw[e];simp]) (λm hm=>?_) (λb v e=>?_) I.bare
   .have%[o,es,ep,ho|r]:=hm;exact%[o,es,ep,kk _ o (λhb=>(hf _ hb).2.1 rfl) ho|r]
   .refine(I.hok b v e).stay (λc' v' hc' q=>kk c' v' ?_ q) (λ_ q=>q) λ_ _ q=>q
    rcases hc' with q'|q'
    .exact q'▸nit b v e
    .exact nit c' _ q'
  have Hn:H ⇑s=none:=I.fresh;have I2:Inv X pins σ (upd H ⇑s (.tup [.str ⟨#[c1]⟩,.str ⟨#[c2]⟩])) {s with heap:=h'',toks:=tk}:=by
   have nf:⇑s∉X.fs:=I.nofs (Zi _);refine%[turn1.ok,turn1.os,turn1.bare,?_,turn1.loc,turn1.cell,?_,?_,?_,?_|turn1.len]
   .refine%[turn1.base.keep,turn1.base.slot,λb o e n hx=>?_,turn1.base.there,λb xs e=>?_,λb o v e=>?_|λb ps e=>?_]
    .rw[aj ((λb o e=>Zs (Zg (Zu e) I.sz)) b o e)];exact turn1.base.free b o e n hx
    .rw[aj (ax (turn1.base.tups b xs e) Hn)];exact turn1.base.tups b xs e
    .rw[aj (ax (turn1.base.frzs b o v e) Hn)];exact turn1.base.frzs b o v e
    .have%[m|q]:=turn1.base.tbls b ps e;exact%[m|(aj (ax q Hn))▸q]
   .rw[aj (Zs I.lt)];exact turn1.free
   .intro x' c' e;have%[v'|q]:=I.cell x' c' e;rw[aj (Zs q.lt)];exact turn1.freeC x' c' e
   .intro p hp;have%[e,n|r]:=turn1.pin p hp;refine%[e,?_|r];rw[aj (Zs (Zu (I.pin p hp).1))];exact n
   .intro b v e;by_cases hb:b=⇑s
    .subst hb;rw[ae]at e;cases e;exact%[by show 2<=sizeLine;decide,[.str _ u1,.str _ u2],.cons %[_|ρ] (.cons %[_|ρ] .nil),_,((sb.2 _ (Yw (Zu hz))).trans a5),ρ,_|ρ]
    .rw[aj hb]at e;refine(turn1.hok b v e).stay (λ_ _ _ q=>q) (λc' q=>?_) λc' xs q=>?_
     .rw[aj (ax q Hn)];exact q
     .rw[aj (ax q Hn)];exact q
  refine%[.ref ⇑s,_,I2,ρ,%[c1,c2,_,e1,e2,Hn,ρ|ρ],%[hz'',(sb.2 _ D.TIz).trans (hk _ _ D.TIz D.TITO D.TIi1 D.TIi2 hTI),%[_,_|(sb.2 _ D.TOz).trans a2],?_|?_]|λb hb=>?_]
  .have%[o,e|r]:=a3;exact%[o,(sb.2 _ D.i1z).trans e|r]
  .have%[o,e|r]:=a4;exact%[o,(sb.2 _ D.i2z).trans e|r]
  .have:b<⇑s:=by
    simp only[Yt,X2,or_false]at hb;have%[o1,q1|_]:=h1;have%[o2,q2|_]:=h2;rcases hb with rfl|rfl|rfl|rfl|rfl
    .exact Zu hz
    .exact Zu hTI
    .exact Zu hTO
    .exact Zu q1
    .exact Zu q2
   rw[aj (Zs this)];exact(hf b hb).1
 done:=by
  intro X hP hw hK hc i pins s σ H E I hf st hg;have%[hz,hTI,%[a,c|hTO],h1|h2]:=st;obtain⟨g1,g2,g3⟩:i<=x.cps.size/\i<=y.cps.size/\(i=x.cps.size\/i=y.cps.size):=hg;have hT:s.TypeIs (.ref z) "zip":=%[_,hz|rfl]
  have hh:=I.ok.hd hc;refine Z2 (wpAny_attempt (wpAny_callSpecial?_slot hT F.slot_zip_next (wpAny_call_entry F.slot_zip_next hT F.entry_zip_next
   (AC (iV _ _ x t i1 _ hh) (iV _ _ y u i2 _ hh) D (λb hb=>(show b=i1 by simpa using hb)▸%[D.i1z,Ne.symm D.TOi1|D.i12]) (λb hb=>(show b=i2 by simpa using hb)▸%[D.i2z,Ne.symm D.TOi2|Ne.symm D.i12]) hz hTI hTO h1 h2 g1 g2 g3 λh' e tk hk he=>?_) (F.args_zip_next_1 _))))
  have%[o,ho|hco]:=he;refine Z2 (wpAny_isInstance %[o,ho|hco] isSubtype_stop (Z3 %[rfl|?_]));have nit:∀b v,H b∣v->b∉[z,TI,TO,i1,i2]:=λb v e hb=>by rw[(hf b hb).1]at e;cases e
  have kk:∀b o,b∉[z,TI,TO,i1,i2]->s.heap.get? b∣o->h'.get? b∣o:=λb o hb e=>by
   simp only[Yt,X2,or_false,not_or]at hb;exact hk b o hb.1 hb.2.2.1 hb.2.2.2.1 hb.2.2.2.2 e
  refine I.step (λb hb=>%[(hf b hb).2.2.2.1,(hf b hb).2.1,(hf b hb).2.2.2.2.1|(hf b hb).2.2.2.2.2]) (λb o _ _ hc e _=>kk b o hc e) (λb o _ _ hc e _=>%[o.slots|kk b o hc e]) (λ_ _ _ _ n=>n)
   (λb o hc e=>%[o|kk b o hc e]) (λ_ _ e=>e) (λ_ _ _ e=>e) (λb ps e=>%[#[]|by rw[e];simp]) (λm hm=>?_) (λb v e=>?_) I.bare
  .have%[o',es,ep,ho'|r]:=hm;exact%[o',es,ep,kk _ o' (λhb=>(hf _ hb).2.1 rfl) ho'|r]
  .refine(I.hok b v e).stay (λc' v' hc' q=>kk c' v' ?_ q) (λ_ q=>q) λ_ _ q=>q
   rcases hc' with q'|q'
   .exact q'▸nit b v e
   .exact nit c' _ q'
 self:=λ_ _ _ _ _ st h=>wpAny_pyIter_zip st.1 h
abbrev bd:Expr->Bool
 | .Starred _ _=>true
 | _=>false
def aB(h:bd e=false):starEach (e::a) env=(false,eval e env)::starEach a env:=by
 cases e<;> first|rfl|cases(show true=false from h)
def dH(h:bd e=false):assignEach (e::a) env=(false,assign e env)::assignEach a env:=by
 cases e<;> first|rfl|cases(show true=false from h)
def dj:∀{a:List Expr},a.any bd=false->(backTo pos (starEach a env)).any (·.1)=false
 |[],_=>rfl
 | e::a,h=>by
   rw[Zw,X3]at h;rw[aB h.1];have:=dj (pos:=pos) (env:=env) h.2;cases a with
   | nil=>rfl
   | cons c b=>
     simp only[backTo]at this ⊢;simpa using this
def rX:∀{a:List Expr},a.any bd=false->(backTo pos (starEach a env)).all (λx=>!x.1)=true
 |[],_=>rfl
 | e::a,h=>by
   rw[Zw,X3]at h;rw[aB h.1];have:=rX (pos:=pos) (env:=env) h.2;cases a with
   | nil=>rfl
   | cons c b=>
     simp only[backTo]at this ⊢;simpa using this
def jr:∀{a:List Expr},a.any bd=false-> ~~~(assignEach a env)= ~~~a/\(assignEach a env).findIdx? (·.1)=none
 |[],_=>%[rfl|rfl]
 | e::a,h=>by
   rw[Zw,X3]at h;rw[dH h.1];have b:=jr (env:=env) h.2;refine%[by rw[Zr,Zr,b.1]|?_];rw[List.findIdx?_cons,b.2];rfl
abbrev fh:Expr->Bool
 | .ListComp _ _ _ _=>true
 | .SetComp _ _ _ _=>true
 | .DictComp _ _ _ _ _=>true
 | _=>false
def iw(h:fh e=false):swapsWith e t l env=pure false:=by
 cases e<;> first|rfl|cases(show true=false from h)
abbrev vY:Expr->Bool
 | .Tuple _ _ _=>true
 | _=>false
def vZ(h:vY e=false):swappedStores [t] e env=pure none:=by
 cases e with
 | Tuple _ _ _=>cases(show true=false from h)
 | _=>cases t<;> rfl
abbrev gu:Expr->Bool
 | .Call _ _ _ _=>true
 | _=>false
def fi(h:gu o=false):attributeBase o a env w=w:=by
 cases o<;> first|rfl|cases(show true=false from h)
abbrev nh:Expr->Bool
 | .Set _ _ _=>true
 | _=>false
def kJ(h:nh e=false)(x:Value):foldedSetIterable e env x=pure x:=by
 cases e<;> first|rfl|cases(show true=false from h)
structure QE (X:Cx) (e:Expr) (t:TE):Prop where
 h:PE X e t
structure QT (X:Cx) (e:Expr) (t:TT):Prop where
 h:PT X e t
structure QW (X:Cx) (e:Expr) (t:TT):Prop where
 h:PW X e t
structure QA (X:Cx) (es:List Expr) (t:TA):Prop where
 h:PA X es t
structure QS (X:Cx) (st:Stmt) (t:TS):Prop where
 h:PS X st t
structure QSs (X:Cx) (st:List Stmt) (t:TS):Prop where
 h:PSs X st t
structure QG (X:Cx) (e:Expr) (t:TG):Prop where
 h:PG X e t
structure QGs (X:Cx) (es:List Expr) (t:TGs):Prop where
 h:PGs X es t
structure QI (X:Cx) (tg iter:Expr) (wi:TI):Prop where
 h:PI X tg iter wi
structure QO (X:Cx) (e:Option Expr) (t:TO):Prop where
 h:PO X e t
structure QTs (X:Cx) (ifs:List Expr) (t:TT):Prop where
 h:PTs X ifs t
structure QPs (X:Cx) (pos:Pos) (keys:List _) (values:List Expr) (trs:List _):Prop where
 h:PPs X pos keys values trs
structure OpQ (X:Cx) (f:Value->Value->Sem Value) (r:R2):Prop where
 h:OpR X f r
structure cp (X:Cx) (f:Value) (r:List V->Hp->VK->Prop):Prop where
 h:bW X f r
structure MtQ (X:Cx) (id:String) (r:V->List V->Hp->VK->Prop):Prop where
 h:MtR X id r
section
variable{X:Cx}{K:ZB}{pos:Pos}
def ay{i j}:QE X (.Constant (.int i) j pos) (tC (.int i)):=⟨Eu⟩
def eBl{b j}:QE X (.Constant (.bool b) j pos) (tC (.bl b)):=⟨GN⟩
def pC{j}:QE X (.Constant .none j pos) (tC .non):=⟨Ev⟩
def dW{x j}:QE X (.Constant (.str x) j pos) (tC (.str x)):=⟨Ew⟩
def vn(i:Nat)(b:X.N[i]?∣x)(c:Vis X.env.scope x)(d:(x==("__debug__":Str))=false)(a:(x==("__classdict__":Str))=false):QE X (.Name x pos) (md i):=⟨zO b c d a⟩
def gvE(g:Gv X.mg x v)(a:Gl X x)(b:(x==("__debug__":Str))=false):QE X (.Name x pos) (tC v):=⟨Ea g a b⟩
def blE(a:Gl X x)(b:X.mg x=none)(c:bootBuiltins x∣u)(r:aV v u)(f:(x==("__name__":Str))=false)(d:(x==("__debug__":Str))=false):QE X (.Name x pos) (tC v):=
 ⟨Ck a b c r (λe=>by lia) d⟩
def ap:QA X [] yq:=⟨EZ⟩
def paE(a:bd e=false)(b:QE X e c)(d:QA X f t):QA X (e::f) (Ac c t):=⟨CC b.h d.h (aB a)⟩
def calE(C:Cal X.prog X.w X.K X.mg X.base j x ps sp)(f:bI k X.A)(g:Gl X x)(a:Nat.ble j k=true)
 (b:(x==("__debug__":Str))=false) (c:(e::d).any bd=false) (h:QA X (e::d) t):
 QE X (.Call (.Name x p) (e::d) [] pos) (pX sp [] E0 t):=by
 rw[Zw,X3]at c;exact⟨Fy C f g As h.h (Yb a) b (aB c.1) (dj c.2)⟩
def cbE{id:String}(d:cp X (.builtin id) r)(f:Gl X x)(g:X.mg x=none)(h:bootBuiltins x∣.builtin id)(j:(x==("__name__":Str))=false)(a:(x==("__debug__":Str))=false)
 (b:(e::c).any bd=false) (i:QA X (e::c) t):QE X (.Call (.Name x p) (e::c) [] pos) (tCB r t):=by
 rw[Zw,X3]at b;exact⟨Ag d.h f g h i.h (λe=>by lia) a (aB b.1) (dj b.2)⟩
def ctE(d:cp X (.type T) r)(f:Gl X x)(g:X.mg x=none)(h:bootBuiltins x∣.type T)(j:(x==("__name__":Str))=false)(a:(x==("__debug__":Str))=false)
 (b:(e::c).any bd=false) (i:QA X (e::c) t):QE X (.Call (.Name x p) (e::c) [] pos) (tCB r t):=by
 rw[Zw,X3]at b;exact⟨yv d.h f g h i.h (λe=>by lia) a (aB b.1) (dj b.2)⟩
def bmE{T id:String}(h:X.K=K)(m:PlainAttrs T)(slot:Slot T name id)(i:typeOf (.builtin id)=pure (.type "method_descriptor"))(n:MtQ X id r)
 (b:gu o=false) (a:(e::g).any bd=false) (j:Nat.blt (e::g).length 30=true) (c:(d.endLine==f.line)=true) (p:QE X o q) (s:QA X (e::g) t):
 QE X (.Call (.Attribute o name d) (e::g) [] f) (tBM K T r q t):=by
 have l:=a;rw[Zw,X3]at l;refine⟨AA h m slot i n.h p.h s.h (fi b) ?_ c (aB l.1) (dj l.2)⟩;rw[rX a];have:decide (~~~(e::g)+ ~~~([]:List Keyword)+(if([]:List Keyword).isEmpty then 0 else 1)<30)=true:=Zf ((Nat.blt_eq.mp j));rw[this];rfl
def FB{T id:String}(h:X.K=K)(f:PlainAttrs T)(slot:Slot T name id)(e:typeOf (.builtin id)=pure (.type "method_descriptor"))(g:MtQ X id r)
 (a:gu o=false) (b:(c.endLine==d.line)=true) (i:QE X o j):QE X (.Call (.Attribute o name c) [] [] d) (CL K T r j):=⟨C7 h f slot e g.h i.h (fi a) b⟩
def gW(b:Gl X "range")(c:X.mg "range"=none)(d:bd a=false)(e:QA X [a] f):QI X g (.Call (.Name "range" p) [a] [] pos) (z1 f):=⟨yj b c e.h (aB d)⟩
def FC(h:X.K=K)(a:QE X l b):QI X c l (C5 K b):=⟨C6 h a.h⟩
section
variable{a b c:Expr}{ta tb tc:TE}{op op':CmpOp}{r r':R2}
def v4(e:OpQ X (compareOp op) r)(d:OpQ X (compareOp op') r')(f:lastMarks [op,op'] [b,c]=false)(g:QE X a ta)(h:QE X b tb)(i:QE X c tc):QE X (.Compare a [op,op'] [b,c] pos) (vG r r' ta tb tc):=⟨z6 e.h d.h g.h h.h i.h f⟩
def jK(d:OpQ X (compareOp op) r)(e:behindInMarks op b=false)(f:QE X a ta)(g:QE X b tb):QE X (.Compare a [op] [b] pos) (tOp r ta tb):=⟨Cv d.h f.h g.h e⟩
def bu(d:OpQ X (compareOp op) r)(e:behindInMarks op b=false)(f:QE X a ta)(g:QE X b tb):QT X (.Compare a [op] [b] pos) (xp (tOp r ta tb)):=⟨Cw d.h f.h g.h e⟩
def opE{op:Operator}(d:OpQ X (binaryOp op) r)(e:QE X a ta)(f:QE X b tb):QE X (.BinOp a op b pos) (tOp r ta tb):=⟨GS d.h e.h f.h⟩
def tT(d:QE X a ta):QE X (.UnaryOp .USub a pos) (tUn (rU λi=> .int (-i)) ta):=⟨GT ER d.h⟩
def noO:QO X none rL:=⟨CF⟩
def ni(h:QE X a ta):QO X (some a) (Ah ta):=⟨CG h.h⟩
def pD{op}(h:QE X a ta):QE X (.BoolOp op [a] pos) ta:=⟨ED h.h⟩
def np{rest:List Expr}(d:QE X a ta)(e:QE X (.BoolOp .And (b::rest) pos) tb):QE X (.BoolOp .And (a::b::rest) pos) (zQ ta tb):=⟨EE d.h e.h⟩
def orV{rest:List Expr}(d:QE X a ta)(e:QE X (.BoolOp .Or (b::rest) pos) tb):QE X (.BoolOp .Or (a::b::rest) pos) (EC ta tb):=⟨GQ d.h e.h⟩
def cT(h:QA X d t):QE X (.List d pos) (E4 t):=⟨E6 h.h⟩
def iz{d}(h:QA X e t):QE X (.Tuple e d pos) (E3 t):=⟨E5 h.h⟩
def ql:QE X (.Dict [] [] pos) vS:=⟨Ap⟩
variable{tA tB':TT}{rest:List Expr}
def i8(d:QT X a tA):QT X (.UnaryOp .Not a pos) (Ey tA):=⟨EB d.h⟩
def fM(d:QT X a tA):QW X (.BoolOp .And [a] pos) tA:=⟨Cm d.h⟩
def kK(d:QT X a tA):QW X (.BoolOp .Or [a] pos) tA:=⟨Ez d.h⟩
def jt(d:QT X a tA)(e:QW X (.BoolOp .And (b::rest) pos) tB'):QW X (.BoolOp .And (a::b::rest) pos) (Cl tA tB'):=⟨EA d.h e.h⟩
def orW(d:QT X a tA)(e:QW X (.BoolOp .Or (b::rest) pos) tB'):QW X (.BoolOp .Or (a::b::rest) pos) (tOr tA tB'):=⟨GP d.h e.h⟩
def wT(h:QW X a tA):QT X a tA:=⟨PW.pt h.h⟩
def eP(h:X.K=K)(f:∀d,isTrue a X.env d=(do let v<-d;standAt a.pos;holding [v] (truthy v)))(g:QE X a ta):QT X a (λi H Q=>ta i H λx e=>∃k,z7 K x e k/\Q k e):=⟨yH h g.h f⟩
def ju:QTs X [] At:=⟨CZ⟩
def lM(h:QT X c tA):QTs X [c] tA:=⟨C0 h.h⟩
end
def dB(S:aD X c e f)(l:X.calm=true)(m:nh iter=false)(hi:QI X j iter n)
 (o:∀a b d,QG (bX X c e a b d) j g) (p:∀a b d,QTs (bX X c e a b d) h q) (r:∀a b d,QE (bX X c e a b d) i s):
 QE X (.ListComp i [%[j,iter,h|0]] c pos) (qg n e.length f g q s):=⟨C2 S l hi.h (λa b d=>(o a b d).h) (λa b d=>(p a b d).h) (λa b d=>(r a b d).h) (kJ m)⟩
def bn:QSs X [] zR:=⟨Cn⟩
def ak{st:Stmt}{rest:List Stmt}(a:QS X st t)(b:QSs X rest u):QSs X (st::rest) (br t u):=⟨zS a.h b.h⟩
def av{st:Stmt}(a:QS X st t):QSs X [st] t:=⟨Co a.h⟩
def ifS(d:QT X c e)(f:QSs X a t)(g:QSs X b u):QS X (.If c a b pos) (jH e t u):=⟨GR d.h f.h g.h⟩
def aZ(a:QE X e b):QS X (.Return (some e) pos) (jG b):=⟨EF a.h⟩
def gA{st:Stmt}:QS X st zT:=⟨zU⟩
def cQ(c:PassesOwn (model X.prog X.w) X.A X.env X.xe)(d:X.calm=true)(e:nh iter=false)(hi:QI X b iter f)(h:QG X b g)(i:QSs X a j):
 QS X (.For b iter a [] pos) (vF f g j):=⟨EJ c d hi.h h.h i.h (kJ e)⟩
def nq(i:Nat)(b:X.N.Nodup)(hi:X.N[i]?∣x)(c:Loc X.env.scope x)(d:X.fn x=true\/X.env.scope.names.lookup x∣.local)(f:fh e=false)(g:QE X e h):
 QS X (.Assign [.Name x a] e pos) (rG h (jd i)):=⟨zX b hi c g.h (iw f) d⟩
def bT(a:fh e=false)(b:QE X e c):QS X (.Expr e pos) (jF c):=⟨Cp b.h (iw a)⟩
def C8(c:fh e=false)(hw:vY e=false)(a:bd b=false)(d:QE X e f)(h:QG X b g):QS X (.Assign [b] e pos) (rG f g):=
 ⟨EI d.h h.h (iw c) (vZ hw) (by rw[dH a];rfl)⟩
def tU(i:Nat)(a:X.N.Nodup)(hi:X.N[i]?∣x)(b:Loc X.env.scope x)(c:X.fn x=true\/X.env.scope.names.lookup x∣.local):QG X (.Name x pos) (jd i):=⟨Cq a hi b c⟩
def dq:QGs X [] EG:=⟨Cr⟩
def gsE(a:bd e=false)(b:QG X e t)(c:QGs X d u):QGs X (e::d) (zV t u):=⟨zW b.h c.h (by rw[dH a];rfl)⟩
def gB(c:X.K=K)(d:X.calm=true)(b:a.any bd=false)(h:QGs X a t):QG X (.Tuple a k pos) (Cs K a.length t):=by
 subst c;exact⟨EH d h.h (jr b).1 (jr b).2⟩
def G5:QPs X pos [] [] []:=⟨CT⟩
def FD(b:QE X k tk)(c:QE X v d)(e:QPs X pos ks vs a):QPs X pos (some k::ks) (v::vs) ((tk,d)::a):=⟨Ar b.h c.h e.h⟩
def G6(c:a.all (·.isSome)=true)(g: ~~~a= ~~~b)(i:a.isEmpty=false)(d:Nat.ble a.length 15=true)(h:QPs X pos a b f):QE X (.Dict a b pos) (DY f):=
 ⟨CU h.h c g (λe=>by subst e;cases i) (Yb d)⟩
def nt:OpQ X (binaryOp .Sub) (rI0 λi j=> .int (i-j)):=⟨EO⟩
def FE:OpQ X (binaryOp .Mult) Ax:=⟨C4⟩
def bP:OpQ X (binaryOp .Mod) (rI (λ_ j=>0<j) λi j=> .int (i%j)):=⟨EQ⟩
def cG:OpQ X (binaryOp .FloorDiv) (rI GV λi j=> .int (i/j)):=⟨Ct⟩
def cx:OpQ X (compareOp .Eq) Fs:=⟨Ft⟩
def ee:OpQ X (compareOp .NotEq) Fu:=⟨Fv⟩
def v5:OpQ X (compareOp .Lt) (rI0 λi j=> .bl (decide (i<j))):=⟨GY⟩
def yI:OpQ X (compareOp .LtE) (rI0 λi j=> .bl (decide (i<=j))):=⟨GZ⟩
def AE:OpQ X (compareOp .Gt) (rI0 λi j=> .bl (decide (j<i))):=⟨G0⟩
def Eb:OpQ X (compareOp .Is) (λx y H Q=>y= .non/\Q (.bl (decide (x= .non))) H):=⟨ET⟩
def rY:OpQ X (compareOp .IsNot) (λx y H Q=>y= .non/\Q (.bl (!decide (x= .non))) H):=⟨Cu⟩
def v6(h:X.K=K):OpQ X (compareOp .In) (Ay K):=⟨FA h⟩
def cO(h:X.K=K):cp X (.builtin "len") (λxs H Q=>∃x n,xs=[x]/\Cy K x H n/\Q (.int n) H):=⟨yE h⟩
def AF(h:X.K=K)(a:X.calm=true):cp X (.builtin "all") (λxs H Q=>∃(p:Addr) (bs:List Bool),xs=[.ref p]/\SqL K H p (bs.map V.bl)/\Q (.bl (bs.all id)) H):=⟨yF h a⟩
def Ec(a:X.calm=true):cp X (.builtin "max") (λxs H Q=>∃i j,xs=[.int i,.int j]/\Q (.int (if j>i then j else i)) H):=⟨ym a⟩
def G7(a:X.calm=true):cp X (.builtin "min") (λxs H Q=>∃i j,xs=[.int i,.int j]/\Q (.int (if j<i then j else i)) H):=⟨yn a⟩
def gX(h:X.K=K):cp X (.builtin "isinstance") (λxs H Q=>∃x n t b,xs=[x,.ty n]/\jq K H x t/\kitOne K t (.type n)∣b/\Q (.bl b) H):=⟨yG h⟩
def Ee:cp X (.type "int") (λxs H Q=>(∃i,xs=[.int i]/\Q (.int i) H)\/∃k,xs=[.bl k]/\Q (.int (if k then 1 else 0)) H):=⟨yo⟩
def kL(h:X.K=K):cp X (.type "list") (λxs H Q=>∃p ys,xs=[.ref p]/\(SqL K H p ys\/SqT K H p ys)/\∀l,H l=none->Q (.ref l) (upd H l (.lst ys))):=⟨vW h⟩
def bz:MtQ X "list.append" rR:=⟨qb⟩
def tV:MtQ X "list.extend" rS:=⟨yx⟩
def xx:MtQ X "list.clear" vR:=⟨Am⟩
def rZ(h:X.K=K):MtQ X "str.join" (xw K):=⟨Az h⟩
end
open PySem PySem.Spec PyProof.Rows PySem.SeqAt
section
#version
variable{h':Heap}{tk:Nat}{fp:List Addr}
def Inv.moved(I:Inv X pins σ H s)(c:∀b∈fp,mf X pins H b)(d:∀b o,b∉fp->s.heap.get? b∣o->h'.get? b∣o):Inv X pins σ H {s with heap:=h',toks:=tk}:=by
 have f:∀b v,H b∣v->b∉fp:=λb v e a=>by rw[(c b a).1]at e;cases e
 refine I.step (λb a=>%[(c b a).2.2.2.1,(c b a).2.1,(c b a).2.2.2.2.1|(c b a).2.2.2.2.2]) (λb o _ _ g e _=>d b o g e) (λb o _ _ g e _=>%[o.slots|d b o g e]) (λ_ _ _ _ n=>n)
  (λb o g e=>%[o|d b o g e]) (λ_ _ e=>e) (λ_ _ _ e=>e) (λb ps e=>%[#[]|by rw[e];simp]) (λm l=>?_) (λb v e=>?_) I.bare
 .have%[o,p,u,w|r]:=l;exact%[o,p,u,d _ o (λa=>(c _ a).2.1 rfl) w|r]
 .refine(I.hok b v e).stay (λj y h q=>d j y ?_ q) (λ_ q=>q) λ_ _ q=>q
  rcases h with i|i
  .exact i▸f b v e
  .exact f j _ i
def Inv.stood(I:Inv X pins σ H s)(J:Inv X pins σ H {s with heap:=h',toks:=tk})(c:⇑s<=a)(new:bV X.prog X.w (upd H a o) h' a o):Inv X pins σ (upd H a o) {s with heap:=h',toks:=tk}:=by
 have d:=I.hok.fresh c;refine%[J.ok,J.os,J.bare,?_,J.loc,J.cell,?_,?_,?_,?_|J.len]
 .refine%[J.base.keep,J.base.slot,λb o e n j=>?_,J.base.there,λb xs e=>?_,λb o v e=>?_|λb ps e=>?_]
  .rw[aj ((λb o e=>Zs (Zg (Zg (Zu e) I.sz) c)) b o e)];exact J.base.free b o e n j
  .rw[aj (ax (J.base.tups b xs e) d)];exact J.base.tups b xs e
  .rw[aj (ax (J.base.frzs b o v e) d)];exact J.base.frzs b o v e
  .have%[m|q]:=J.base.tbls b ps e;exact%[m|(aj (ax q d))▸q]
 .rw[aj (Zs (Zg I.lt c))];exact J.free
 .intro g f e;have%[l|q]:=I.cell g f e;rw[aj (Zs (Zg q.lt c))];exact J.freeC g f e
 .intro p h;have%[e,n|r]:=J.pin p h;refine%[e,?_|r];rw[aj (Zs (Zg (Zu (I.pin p h).1) c))];exact n
 .intro b v e;by_cases i:b=a
  .subst i;rw[ae]at e;cases e;exact new
  .rw[aj i]at e;refine(J.hok b v e).stay (λ_ _ _ q=>q) (λf q=>?_) λf xs q=>?_
   .rw[aj (ax q d)];exact q
   .rw[aj (ax q d)];exact q
end
abbrev v7:V->List V->Hp->VK->Prop:=λx vs H Q=>∃z y,x= .str z/\vs=[.str y]/\1<= ~~~y/\ ~~~z+2<=sizeLine/\∀l,H l=none->Q (.ref l) (upd H l (.lst ((Txt.split z y)\3)))
def qo:∀ss k,aI (ss\3) (strsFrom k ss)
 |[],_=> .nil
 | _::r,k=> .cons %[_|rfl] (qo r _)
def AG{X:Cx}:MtM X "str.split" v7:=by
 intro pins s m H x vs v us Q I g i h;have%[z,y,rfl,rfl,n,o|q]:=h;have%[t|rfl]:=g;have%[p,rfl|j]:=i.one;have%[u|rfl]:=j;have b:(~~~y==0)=false:=by simp;lia
 have l:=split_le z y;by_cases c:(decide (~~~z< ~~~y)||decide (Builtin.Str.strKind z<Builtin.Str.strKind y))=true
 .have e:Txt.split z y=[z]:=if_pos c;rw[e]at q;exact call_meets F.slot_str_split (typeIs_str _ _ _) F.entry_str_split (F.args_str_split_2 _ _) (meets_str_split_cannot_occur z y t u c) %[.ref _,_,I.lnew (ys:=[.str z]) (.cons %[_|rfl] .nil) (by show 1<=sizeLine;decide),rfl|q _ I.fresh]
 .have d:=Bool.eq_false_iff.mpr c;by_cases f:(Builtin.Str.occurrences z y 0 z.length (~~~z+1)).isEmpty=true
  .have e:Txt.split z y=[z]:=(if_neg c).trans (if_pos f);rw[e]at q;exact call_meets F.slot_str_split (typeIs_str _ _ _) F.entry_str_split (F.args_str_split_2 _ _) (meets_str_split_not_found z y t u d b f) %[.ref _,_,I.lnew (ys:=[.str z]) (.cons %[_|rfl] .nil) (by show 1<=sizeLine;decide),rfl|q _ I.fresh]
  .have e:Txt.split z y=Builtin.Str.partsBetween z _ y.length:=(if_neg c).trans (if_neg f);have a: ~~~(Builtin.Str.partsBetween z (Builtin.Str.occurrences z y 0 z.length (z.length+1)) y.length)<=sizeLine:=by rw[<-e];lia
   refine call_meets F.slot_str_split (typeIs_str _ _ _) F.entry_str_split (F.args_str_split_2 _ _) (meets_str_split_sep z y t u d b (Bool.eq_false_iff.mpr f) ⋯ a) ?_;rw[<-e]at a ⊢;exact%[.ref _,_,I.lnew (qo _ _) (by rw[Z6];exact a),ρ|q _ I.fresh]
def xy{X:Cx}:MtQ X "str.split" v7:=⟨AG⟩
abbrev Ite(K:ZB)(a:Addr)(xs:List V):It:=⟨λi H=>SqL K H a xs/\i< ~~~xs,λi H v b=>∃x T,xs[i]?∣x/\H T=none/\v= .ref T/\b=upd H T (.tup [.int i,x]),λi H=>SqL K H a xs/\ ~~~xs<=i⟩
abbrev ESt(e it a:Addr)(i:Nat)(h:Heap):Prop:=(∃b,IsEnum h e it i b)/\h.IsListIter it a i
def yJ{P:Program}{K:ZB}(e it a:Addr)(xs:List V)(hne:e≠it):pA P w K (.Tuple elts kt tp) (Ite K a xs) [e,it] e (ESt e it a) where
 mem:=by simp
 obj:=λi h st b hb=>by
  have%[%[old|he],o1,e1,_|d1]:=st;simp only[Yt,X2,or_false]at hb;rcases hb with rfl|rfl
  .exact%[_,he|λv q=>nomatch q]
  .exact%[o1,e1|λv q=>by rw[d1]at q;cases q]
 keep:=λi h h' st k=>by
  have%[%[old|he],o1,e1|r1]:=st;exact%[%[old|k e ∅ _ he],o1,k it ∅ _ e1|r1]
 item:=by
  intro X hP hw hK hc i pins s σ H E I hf st hg;subst hP hw hK;have%[%[old|he]|hit]:=st;obtain⟨hq,hi⟩:SqL X.K H a xs/\i< ~~~xs:=hg;have%[its,rv,p|hz]:=I.list hq;have%[u,hu|ru]:=rv.get (i:=i) (x:=xs[i]) ∅;refine wpAny_pyNext_enum_item he hit p.isList ↑hu hne λh1 he1 hit1 ht1 hz1 hk1=>%[_,rfl|wpAny_letOwnedTupleGo_enum he1 λh2 he2 sb2=>?_]
  replace sb2:SameBut e h1 h2:=sb2;have elt:=Zu he;have kk:∀b o,b∉[e,it]->s.heap.get? b∣o->h2.get? b∣o:=λb o hb q=>by
   simp only[Yt,X2,or_false,not_or]at hb;exact(sb2.2 b hb.1).trans (hk1 b o hb.1 hb.2 q)
  have J:Inv X pins σ H {s with heap:=h2,toks:=s.toks+1}:=I.moved hf kk;have I2:Inv X pins σ (upd H ⇑s (.tup [.int i,xs[i]])) _:=
   I.stood J (Zi _) %[by show 2<=sizeLine;decide,[.int i s.toks,u],.cons %[_|rfl] (.cons ru .nil),_,((sb2.2 _ (Yw elt)).trans ht1),rfl,_|rfl]
  refine%[.ref ⇑s,_,I2,ρ,%[xs[i],_,by simp,I.fresh,ρ|ρ],%[%[u|he2]|?_]|λb hb=>?_]
  .have%[o,q|r]:=hit1;exact%[o,(sb2.2 _ (Ne.symm hne)).trans q|r]
  .have:b<⇑s:=by
    simp only[Yt,X2,or_false]at hb;rcases hb with rfl|rfl
    .exact elt
    .exact(by have%[o,q|_]:=hit;exact Zu q)
   rw[aj (Zs this)];exact(hf b hb).1
 done:=by
  intro X hP hw hK hc i pins s σ H E I hf st hg;subst hP hw hK;have%[%[old|he]|hit]:=st;obtain⟨hq,hi⟩:SqL X.K H a xs/\ ~~~xs<=i:=hg;have%[its,rv,p|hz]:=I.list hq;have hl:= ~~~rv;refine wpAny_pyNext_enum_end (I.ok.hd hc) he hit p.isList (by simp;lia) λh1 xb=>%[rfl|I.moved hf λb o hb q=>?_]
  simp only[Yt,X2,or_false,not_or]at hb;exact xb b o hb.2 q
 self:=λA i s Q E st h=>by
  have%[%[old|he]|hit]:=st;exact wpAny_pyIter_enum he h
abbrev Ef(K:ZB)(c:TA):TI:=λd H R=>c d H λvs b=>∃a xs,vs=[.ref a]/\SqL K b a xs/\R (Ite K a xs) b
section
variable{X:Cx}{K:ZB}{pos:Pos}
def xz(m:X.K=K)(n:Gl X "enumerate")(o:X.mg "enumerate"=none)(r:bd a=false)(v:QA X [a] w):
 QI X (.Tuple g L M) (.Call (.Name "enumerate" p) [a] [] pos) (Ef K w):=by
 subst m
 constructor
 intro pins s y H R I h;refine Call_ (jp I n o boot_enumerate (PyProof.Rows.callWith_type1 (thP (v.h pos pins s y H _ I h) λus d vs z c A B=>?_) (aB r) rfl));have%[l,xs,e,C|q]:=B;subst e;have%[u,rfl|E]:=cR A;cases E;have%[its,N,p|O]:=c.list C;refine call_enumerate_list p.isList λQ i f G J=>wpAny_pyIter_enum i %[⇑d+1,[⇑d+1,⇑d],ESt _ ⇑d l,Ite X.K l xs,z,rfl,(c.kept J),yJ _ _ _ _ (Nat.succ_ne_self _),%[%[_|i]|f],λb j=>?_|q]
 simp only[Yt,X2,or_false]at j;rcases j with rfl|rfl
 .exact c.fpOk (Yd _) (c.hok.fresh (Yd _))
 .exact c.fpOk (Zi _) (c.hok.fresh (Zi _))
end
section
variable(h:Heap)(x y:Str)(t u:Tok)
noncomputable abbrev zs1:Heap:=h.push {cls:= .type (strIterType x),data:= .fields #[.str x t,.int 0 0]}
noncomputable abbrev zs2:Heap:=(zs1 h x t).push {cls:= .type (strIterType y),data:= .fields #[.str y u,.int 0 0]}
noncomputable abbrev zs3:Heap:=(zs2 h x y t u).push {cls:= .type "tuple",data:= .seq #[.ref h.objs.size,.ref (zs1 h x t).objs.size]}
noncomputable abbrev zs4:Heap:=(zs3 h x y t u).push {cls:= .type "tuple",data:= .seq #[.none,.none]}
noncomputable abbrev zs5:Heap:=(zs4 h x y t u).push {cls:= .type "zip",data:= .fields #[.none,.bool false,.bool false,.ref (zs2 h x y t u).objs.size,.ref (zs3 h x y t u).objs.size]}
end
def mo(x y:Str)(t u:Tok):
 Meets (Builtin.«zip.__new__» %[[.type "zip",.str x t,.str y u]|[]]) (λ_ R s=>R (.ok (.ret (.ref (zs4 s.heap x y t u).objs.size))) (s>>>zs5 s.heap x y t u)):=
 .of_wp λprog w A R s b=>by
  have%[c,g,d,tk|os]:=s;have a:=PySem.sub_zip
  wp_walk using wpAny_pyIter_strU (x:=x) (t:=t),wpAny_pyIter_strU (x:=y) (t:=u)
  exact%[_,ρ|b]
section
#where
def nu
 (h:∀h',IsZip h' (⇑s+4) (⇑s+2) (⇑s+3) .none->IsPair h' (⇑s+2) (.ref ⇑s) (.ref (⇑s+1))->IsPair h' (⇑s+3) .none .none->
  h'.IsStrIter ⇑s (strIterType x) x t 0->h'.IsStrIter (⇑s+1) (strIterType y) y u 0->(∀c o,s.heap.get? c∣o->h'.get? c∣o)->Q (.ref (⇑s+4)) (s>>>h')):
 ↥A (call (.type "zip") [.str x t,.str y u]) Q E s:=by
 refine callType_new F.called_zip (!1) (F.typeCall_zip_2 _ _) (F.newCall_zip_2 _ _) (λobj=>F.args_object_init_3 obj _ _) F.entry_zip_new (mo x y t u) ?_;have n1:(zs1 s.heap x t).objs.size=⇑s+1:=Zq ..;have a:(zs2 s.heap x y t u).objs.size=⇑s+2:=by rw[Zq,n1]
 have b:(zs3 s.heap x y t u).objs.size=⇑s+3:=by rw[Zq,a]
 have e:(zs4 s.heap x y t u).objs.size=⇑s+4:=by rw[Zq,b]
 have f:∀c o,(zs4 s.heap x y t u).get? c∣o->(zs5 s.heap x y t u).get? c∣o:=λ_ _ q=>Z7 _ q
 have g:∀c o,(zs3 s.heap x y t u).get? c∣o->(zs5 s.heap x y t u).get? c∣o:=λc o q=>f c o (Z7 _ q)
 have i:∀c o,(zs2 s.heap x y t u).get? c∣o->(zs5 s.heap x y t u).get? c∣o:=λc o q=>g c o (Z7 _ q)
 have k2:∀c o,(zs1 s.heap x t).get? c∣o->(zs5 s.heap x y t u).get? c∣o:=λc o q=>i c o (Z7 _ q)
 have k1:∀c o,s.heap.get? c∣o->(zs5 s.heap x y t u).get? c∣o:=λc o q=>k2 c o (Z7 _ q)
 have d:(zs5 s.heap x y t u).get? (zs4 s.heap x y t u).objs.size∣_:=Zj _ rfl;have j:(zs5 s.heap x y t u).get? (zs3 s.heap x y t u).objs.size∣_:=f _ _ (Zj _ rfl);have l:(zs5 s.heap x y t u).get? (zs2 s.heap x y t u).objs.size∣_:=g _ _ (Zj _ rfl);have m:=i _ _ (Zj _ rfl);show _/\_;rw[a,b,e]at d;rw[n1,a]at l;rw[b]at j;rw[n1]at m;rw[e];exact%[%[_,d|ρ]|h _ d l j %[_,(k2 _ _ (Zj _ rfl)),ρ|ρ] %[_,m,ρ|ρ] k1]
end
abbrev Eg(a:TA):TI:=λb H R=>a b H λvs c=>∃x y,vs=[.str x,.str y]/\R (Itz x y) c
section
variable{X:Cx}{K:ZB}{pos:Pos}
def AH(v:Gl X "zip")(w:X.mg "zip"=none)(z:bd a=false)(f:bd b=false)(A:QA X [a,b] B):
 QI X (.Tuple n M N) (.Call (.Name "zip" p) [a,b] [] pos) (Eg B):=by
 constructor
 intro pins s C H R I h;refine Call_ (jp I v w boot_zip (PyProof.Rows.callWith_type1 (thP (A.h pos pins s C H _ I h) λus c vs E g G J=>?_) (aB z) (by rw[aB f];rfl)));have%[x,y,e|q]:=J;subst e;have%[O,Q,rfl,%[t|rfl],u|rfl]:=ip G;refine nu λT o l m hi1 hi2 L=>wpAny_pyIter_zip o ?_
 have ne:∀i j,i≠j->⇑c+i≠⇑c+j:=λi j h e=>h (Nat.add_left_cancel e)
 refine%[⇑c+4,[⇑c+4,⇑c+2,⇑c+3,⇑c+0,⇑c+1],_,Itz x y,E,ρ,(g.kept L),
  AD _ _ _ _ _ x y t u %[ne 2 4 (!1),ne 3 4 (!1),ne 0 4 (!1),ne 1 4 (!1),ne 2 3 (!1),ne 2 0 (!1),ne 2 1 (!1),ne 3 0 (!1),ne 3 1 (!1)|ne 0 1 (!1)],
  %[o,l,%[_,_|m],hi1|hi2],λb r=>?_|q]
 have d:⇑c<=b:=by
  simp only[Yt,X2,or_false]at r;rcases r with rfl|rfl|rfl|rfl|rfl<;> exact le_add_right _ _
 exact g.fpOk d (g.hok.fresh d)
end
inductive D where
 | non|bl (b:Bool)|int (i:Int)|str (x:Str)|lst (ds:List D)|tup (ds:List D)
section
variable{K:ZB}{H H':Hp}
def ah.seqT(e:ah H H')(h:SqT K H a xs):SqT K H' a xs:=by
 rcases h with(h|⟨o,h⟩)|h
 .exact .inl (.inl (e _ _ h))
 .exact .inl (.inr %[o|e _ _ h])
 .exact .inr h
variable{X:Cx}{pins:ZF}{σ:St}{s:Shared}
end
def v8{X:Cx}(J:X.N.Nodup)(u:X.N[i]?∣x)(L:Loc X.env.scope x)(M:X.fn x=true\/X.env.scope.names.lookup x∣.local)
 (w:swapsWith (.ListComp l [%[y,iter,p|0]] a pos) (some (.Name x B)) f.line X.env=pure true) (S:aD X a r A) (N:X.calm=true) (O:∀x,foldedSetIterable iter X.env x=pure x) (hi:PI X y iter Q)
 (T:∀c d j,PG (bX X a r c d j) y g) (U:∀c d j,PTs (bX X a r c d j) p Y) (he:∀c d j,PE (bX X a r c d j) l te):
 PS X (.Assign [.Name x B] (.ListComp l [%[y,iter,p|0]] a pos) f) (rG (qg Q r.length A g Y te) (jd i)):=by
 intro pins s σ H D I h;refine Z2 (wpAny_standAt ?_);show wpAny _ _ (swapsWith (.ListComp l _ a pos) (some (.Name x B)) f.line X.env>>= _) _ _ _;rw[w];refine Z2 (Z3 (Z2 (Z2 (qh S N hi T U he O I h λD' C H5 s6 fl m hn j k q=>?_))));have%[o,es,ep,E,hd|hr]:=id hn;have I7:=(k s6.heap (SameBut.refl _ _)).pinned (λb n=>(Xk n)▸j) λb n=>by
  rw[Xk n];exact%[o,E|λv z=>by lia]
 refine wpAny_assign_Name (jE I7 J u L (v:= .ref D') rfl (λs8 G=>%[m,%[o,es,ep,((G.pin _ (Ys _ (Ys _ (eN (mem_singleton.mpr rfl) E)))).1),hd|hr]|λh' sb=>Z3 (Z3 %[_,H5,(G.unpinned).moved (λb n=>(Xk n)▸j) λb o' n e=>(sb.2 b (λz=>n (mem_singleton.mpr z))).trans e|q])]) M)
def yK(h:(env.blockKind== .function&&env.kindOf x==some .local&&b.line==pos.line&&!(a.names.any λ(n,k)=>n==x&&(k== .local||k== .cell)))=true):
 swapsWith (.ListComp c gens a pos) (some (.Name x b)) l env=pure true:=by
 show(pure (env.blockKind== .function&&env.kindOf x==some _&&b.line==pos.line&&!(a.names.any _)))=pure true;rw[h]
def iA{X:Cx}(i:Nat)(q:X.N.Nodup)(f:X.N[i]?∣x)(r:Loc X.env.scope x)(s:X.fn x=true\/X.env.scope.names.lookup x∣.local)
 (h:(X.env.blockKind== .function&&X.env.kindOf x==some .local&&u.line==pos.line&&!(c.names.any λ(n,k)=>n==x&&(k== .local||k== .cell)))=true) (S:aD X c e j) (v:X.calm=true) (w:nh iter=false) (hi:QI X o iter y)
 (z:∀a b d,QG (bX X c e a b d) o g) (A:∀a b d,QTs (bX X c e a b d) l B) (C:∀a b d,QE (bX X c e a b d) m E):
 QS X (.Assign [.Name x u] (.ListComp m [%[o,iter,l|0]] c pos) p) (rG (qg y e.length j g B E) (jd i)):=
 ⟨v8 q f r s (yK h) S v (kJ w) hi.h (λa b d=>(z a b d).h) (λa b d=>(A a b d).h) (λa b d=>(C a b d).h)⟩
section
#version
variable{K:ZB}
end
def bZ:Slot "set_iterator" "__next__" "set_iterator.__next__":=
 .of (owner:="set_iterator") (n:="__next__") (by rw[typeLookup_type,builtinLookup_eq_fast];kernel_rfl) (!0) (!0) (!0) (by first|exact .inl (!0)|exact .inr ∅) (by kernel_rfl)
def fN:entryFor table "set_iterator.__next__"=some Builtin.«set_iterator.__next__»:=entryFor_of_tree (by kernel_rfl)
def gY(a:Value):argsOk "set_iterator.__next__" %[[a]|[]]:=by kernel_rfl
def pE:entryFor table "set.__iter__"=some Builtin.«frozenset.__iter__»:=entryFor_alias (id':="frozenset.__iter__") (by kernel_rfl) rfl (!0) (by kernel_rfl)
def pF(t:SetTable)(n:Nat):(t.orStandIn n).led=t.led:=by unfold SetTable.orStandIn;split<;> rfl
def v9(t:SetTable)(a:Array _)(h:Int)(x:Value):(layNew t a h x).2.1.led=t.led:=by
 unfold layNew;cases t.freeSlot h with
 | none=>rfl
 | some p=>
   exact pF _ _
def r8(t:SetTable)(c:Array _)(n:Nat):(relayAll t c n).2.1.led=t.led:=by
 unfold relayAll;cases a:t.relaid _ n with
 | none=>rfl
 | some p=>
   have%[t'|d]:=p;simp only
   split
   .simp only[SetTable.relaid,SetTable.laid]at a;cases b:SetTable.layClean _ _ with
    | none=>rw[b]at a;cases a
    | some f=>rw[b]at a;injection a with a;injection a with e g;rw[<-e]
   .rfl
def nv(t:SetTable)(c:Array _)(n:Nat)(d:t.plain=false):(relayAll t c n).2.1.plain=false:=by
 unfold relayAll;cases a:t.relaid _ n with
 | none=>rfl
 | some p=>
   have%[t'|e]:=p;simp only
   split
   .simp only[SetTable.relaid,SetTable.laid]at a;cases b:SetTable.layClean _ _ with
    | none=>rw[b]at a;cases a
    | some g=>rw[b]at a;injection a with a;injection a with f h;exact f▸d
   .rfl
abbrev a8(w:World):Bool:=w.params.followText "set-order"
abbrev bv(w:World)(a:Addr)(ks:ZC)(h:Heap):Prop:=
 ∃o b c t ss,h.get? a∣o/\o.ExactSet/\o.data= .set b c t/\StrsAre (b.toList\2) ss/\ss.Perm ks/\ks.Nodup/\(∀e∈b.toList,∃z u,e=(hashStr w z,.str z u))/\b.size<scanBound/\t.fits b.size=true/\(b.size≠0->t.plain=false)/\t.led=!a8 w
def qq(h:∀e∈l,∃z u,e=(hashStr w z,.str z u)):ElemsOf (aH prog w) l:=λe a=>by
 have%[z,u|rfl]:=h e a;exact%[%[Sum.inr z,dD z u|ρ]|ρ]
def dX:∀{vs:ZG} {ss:ZC} {z:Str},StrsAre vs ss->((∃u,Value.str z u∈vs)↔z∈ss)
 | _,_,z,.nil=>by simp
 | _,_,z,.cons x t h=>by
   have b:=dX (z:=z) h
   constructor
   .rintro⟨u,a⟩;rcases mem_cons.mp a with e|e
    .injection e with c _;exact c▸Zm
    .exact Zk _ (b.mp %[u|e])
   .intro d;rcases mem_cons.mp d with e|e
    .exact e▸%[t|Zm]
    .have%[u|a]:=b.mpr e;exact%[u|Zk _ a]
def iB:∀{vs ws:ZG} {ss ts:ZC},StrsAre vs ss->StrsAre ws ts->StrsAre (vs++ws) (ss++ts)
 | _,_,_,_,.nil,h=>h
 | _,_,_,_,.cons x t h,h'=> .cons x t (iB h h')
def bw:∀{vs:ZG} {ss:ZC},StrsAre vs ss-> ~~~vs= ~~~ss
 | _,_,.nil=>rfl
 | _,_,.cons x t h=>by rw[Zr,Zr,bw h]
def cq(h:StrsAre vs ss)(p:ws.Perm vs):∃ts,StrsAre ws ts/\ts.Perm ss:=by
 refine%[ws.map strOf,strsAre_map ws λv a=>h.all v (p.mem_iff.mp a)|?_];have:=p.map strOf;rwa[h.strs]at this
section
#where
variable{a:Addr}
def bv.stored{h:Heap}{o:Obj}{i b:Array (Int×Value)}{t t':SetTable}(j:h.get? a∣o)(c:o.ExactSet)(d:o.data= .set i f t)(l:StrsAre (b.toList\2) ss)(m:ss.Perm ks)(n:ks.Nodup)
 (p:∀e∈b.toList,∃z u,e=(hashStr w z,.str z u)) (r:b.size<scanBound) (v:t'.fits b.size=true) (y:t'.plain=false) (B:t'.led=!a8 w):
 (h.update a (Obj.putSet b t')).get? a=some {o with data:= .set b (f+1) t'}/\bv w a ks (h.update a (Obj.putSet b t')):=by
 have g:=by
  have q:=get?_update_self (Obj.putSet b t') j (by rw[putSet_of b t' d];rfl);rwa[putSet_of b t' d]at q
 exact%[g,_,b,f+1,t',ss,g,c,ρ,l,m,n,p,r,v,λ_=>y|B]
def tW{g:Bool->Sem Unit}(N:∀(b:Bool) (h:Shared) (q:Unit->Shared->Prop),q () h->↥A (g b) q E h){m:Bool}{R:Option Bool->Shared->Prop}(r:s.heap.get? a∣o)(i:o.ExactSet)(v:o.data= .set es ep t)
 (y:StrsAre (c.toList\2) ss) (B:ss.Perm ks) (C:ks.Nodup) (G:∀e∈c.toList,∃z u,e=(hashStr w z,.str z u)) (j:c.size<scanBound) (O:d.fits c.size=true) (H:d.plain=false) (I:d.led=!a8 w)
 (J:∀h',SameBut a s.heap h'->bv w a ks h'->R (some true) (s>>>h')):
 ↥A (do
  storeSet a c d
  if(!m&&d.tooFull)=true then do
   g (relayAll d c (SetTable.grown c.size)).2.2
   storeSet a (relayAll d c (SetTable.grown c.size)).1 (relayAll d c (SetTable.grown c.size)).2.1
   pure (some true)
  else pure (some true)) R E s:=by
 have%[g1|Q]:=bv.stored r i v y B C G j O H I;have M:=SameBut.update s.heap a (Obj.putSet c d);refine Z2 (wpAny_storeSet_of r v ?_ (fits_of_scanBound j))
 split
 .have p:=relayAll_perm d c (SetTable.grown c.size);have f:=relayAll_fits d c (SetTable.grown c.size);have l:=r8 d c (SetTable.grown c.size);have pl:=nv d c (SetTable.grown c.size) H
  generalize relayAll d c _=L at p f l pl ⊢
  have%[n,t3|gv]:=L;have z:n.size=c.size:=by rw[<-Zb,p.length_eq,Zb]
  have%[ts,T|U]:=cq y (p.map _);exact Z2 (N _ _ _ (Z2 (wpAny_storeSet_of g1 rfl (Z3 (J _ (M.trans (SameBut.update _ a _)) (bv.stored g1 i rfl T (U.trans B) C (λe Y=>G e (p.mem_iff.mp Y)) (by rw[z];exact j) f pl (l.trans I)).2)) (fits_of_scanBound (by rw[z];exact j)))))
 .exact Z3 (J _ M Q)
def jL{ks:ZC}(hS:bv w a ks s.heap)(r: ~~~ks+1<scanBound)
 (hQ:∀h' b,SameBut a s.heap h'->bv w a (if z∈ks then ks else ks++[z]) h'->Q b (s>>>h')):↥A (setAddHashed a (.str z tk) (hashStr w z)) Q E s:=by
 have%[o,c,ep,t,ss,C,v,G,g,hp,H,h,hb,hf,ab|d]:=hS;have hn:c.size= ~~~ks:=by
  have q:=bw g;rw[Z6,Zb,hp.length_eq]at q;exact q
 have hE:ElemsOf (aH prog w) c.toList:=qq h;have I:(aH prog w).is (Sum.inr z) (.str z tk)=true:=dD z tk;unfold setAddHashed setAddHashedIn;refine wpAny_holding (Z2 (wpAny_setState_of C G hf ?_));dsimp only;rw[byScan_of (knd:=aH prog w) rfl hb hE];simp only[↓reduceIte];unfold setAddByScan;refine Z2 (Z2 (wpAny_rule (Z2 (wpAny_setScan_of I C G hf hE ?_))));have J:(∃e∈c.toList,(aH prog w).is (Sum.inr z) e.2=true)↔z∈ks:=by
  rw[<-hp.mem_iff,<-dX g]
  constructor
  .rintro⟨e,l,q⟩;have%[y,u|rfl]:=h e l;have q:jc (Sum.inr z) (Value.str y u)=true:=q;rcases bi q with⟨i,t',q1,m⟩|⟨y',t',q1,m⟩
   .cases m
   .cases q1;exact%[u|Xm ⟨_,l,by injection m with e1 _;rw[e1]⟩]
  .rintro⟨u,hu⟩;have%[e,l|q]:=Xl hu;exact%[e,l|q▸dD z u]
 cases hr:List.findIdx? _ c.toList with
 | some j=>
   have%[hj,ac|_]:=List.findIdx?_eq_some_iff_getElem.mp hr;have hz:=J.mp %[c.toList[j],Ya hj|ac];have q:=hQ s.heap false (SameBut.refl a s.heap) ((if_pos hz)▸%[o,c,ep,t,ss,C,v,G,g,hp,H,h,hb,hf,ab|d]);exact Z3 (Z3 q)
 | none=>
   have hz:z∉ks:=λq=>by
    have%[e,l|m]:=J.mpr q;have:=List.findIdx?_eq_none_iff.mp hr e l;rw[m]at this;cases this
   rw[if_neg hz]at hQ;have M:=layNew_perm t c (hashStr w z) (.str z tk);have lf:=layNew_fits t c (hashStr w z) (.str z tk);have ll:=v9 t c (hashStr w z) (.str z tk)
   generalize hL:layNew t c _ _=L at M lf ll
   have%[B,t1,al|ai]:=L;rw[toList_push]at M;have gone:∀b f Q',Q' () f->↥A (match b with|true=>rule "set.scan.the-table-gave-way"|false=>pure ()) Q' E f:=λb f Q' q=>by
    cases b
    .exact Z3 q
    .exact wpAny_rule q
   have n:∀e∈B.toList,∃z u,e=(hashStr w z,.str z u):=λe l=>by
    rcases Xj (M.mem_iff.mp l)with q|q
    .exact h e q
    .rw[Xk q];exact%[z,tk|ρ]
   have q1:StrsAre ((c.toList++[(hashStr w z,Value.str z tk)])\2) (ss++[z]):=by
    rw[Zd];exact iB g (.cons z tk .nil)
   have%[ts,m|q3]:=cq q1 (M.map _);have N:=q3.trans (hp.append_right _);have p:=mF H hz;have ag:B.size=c.size+1:=by rw[<-Zb,M.length_eq,Z9,Zb];rfl
   have O:B.size<scanBound:=by rw[ag,hn];exact r
   have T:∀h',SameBut a s.heap h'->bv w a _ h'->↥A _ Q E _:=λh' U Y=>Z3 (hQ h' true U Y)
   refine Z2 (gone _ _ _ ?_);cases aa:t1.plain with
   | true=>
     exact Z2 (Z3 (tW gone C v G m N p n O (SetTable.fits_plain_off lf) rfl (ll.trans d) λh' U Y=>T h' U Y))
   | false=>
     exact tW gone C v G m N p n O lf aa (ll.trans d) λh' U Y=>T h' U Y
def tX(d:bv w a ks s.heap)(c: ~~~ks+1<scanBound)
 (e:∀h' b,SameBut a s.heap h'->bv w a (if z∈ks then ks else ks++[z]) h'->Q b {s with heap:=h',toks:=s.toks+1}):↥A (setAdd a (.str z tk)) Q E s:=by
 exact wpAny_holding (Z2 (wpAny_pyHash_str (jL d c e)))
end
abbrev mr(ks:ZC)(z:Str):ZC:=if z∈ks then ks else ks++[z]
abbrev aA(ss:ZC):ZC:=ss.foldl mr []
def AI(ks:ZC)(z:Str): ~~~(mr ks z)<= ~~~ks+1:=by
 unfold mr;split
 .lia
 .exact Z9▸Zi _
def AJ:y∈mr ks z↔y∈ks\/y=z:=by
 unfold mr;by_cases h:z∈ks
 .rw[if_pos h]
  simp_all
 .rw[if_neg h,Yq,Yv]
def wa(h:ks.Nodup):(mr ks z).Nodup:=by
 unfold mr;by_cases a:z∈ks
 .rw[if_pos a];exact h
 .rw[if_neg a];exact mF h a
def tY:∀{ss ks:ZC} {y:Str},y∈ss.foldl mr ks↔y∈ks\/y∈ss
 |[],ks,y=>by simp
 | z::r,ks,y=>by
   rw[Y7,tY,AJ,Yt]
   grind
def nA:∀{ss ks:ZC},ks.Nodup->(ss.foldl mr ks).Nodup
 |[],_,h=>h
 | z::r,ks,h=>by
   rw[Y7];exact nA (wa h)
def aQ:y∈aA ss↔y∈ss:=by unfold aA;rw[tY];simp
def bE(ss:ZC):(aA ss).Nodup:=nA Yz
def tZ:∀(ss ks:ZC),~~~(ss.foldl mr ks)<= ~~~ks+ ~~~ss
 |[],ks=>by simp
 | z::r,ks=>by
   have a:=tZ r (mr ks z);have b:=AI ks z;rw[Y7,Zr]
   lia
def bv.keep(S:bv w a ks h)(k:∀o,h.get? a∣o->h'.get? a∣o):bv w a ks h':=by
 have%[o,b,c,t,ss,d|r]:=S;exact%[o,b,c,t,ss,k o d|r]
def t4(val:Nat->Str)(i:Nat):aA ((List.range (i+1)).map val)=mr (aA ((List.range i).map val)) (val i):=by
 unfold aA;rw[X6,Zd,foldl_append];rfl
section
variable{prog:Program}{w:World}{A:Around}{R:Result->Shared->Prop}{I:Addr}{fp wr:List Addr}{G:Array GenState->Array GenState->Prop}{n:Nat}{P:Nat->Value->Prop}{St:Nat->Shared->Prop}
def pG(W:WalksS prog w A.in1 I fp wr G n P St)(S:Addr)(d:S∉fp)(val:Nat->Str)(f:∀i v,P i v->∃t,v= .str (val i) t)(c:n+1<scanBound):
 ∀(k i:Nat) (s:Shared),n-i=k->i<=n->St i s->bv w S (aA ((List.range i).map val)) s.heap->
  (∀s',Moved (S::wr) G s s'->bv w S (aA ((List.range n).map val)) s'.heap->R (.ok (.ret .none)) s')->codeAny (model prog w) A (.builtin "set.update.loop" %[[.ref S,.ref I]|[]]) R s:=by
 have out:S∉wr:=λh=>d (W.sub _ h)
 have more:∀b∈wr,b∈S::wr:=λb c=>Zk _ c
 intro k
 induction k with
 | zero=>
   intro i s y hi st l a;have e:i=n:=by lia
   subst e;refine codeAny_builtin F.entry_set_update_loop ?_;rw[Around.under_plainId F.plain_set_update_loop _];show wpAny _ A.in1 (pyNext (.ref I)>>= _) _ _ s;refine Z2 (W.done s _ _ st λg j=>?_);show wpAny _ A.in1 (ret Value.none) _ _ g;exact Z3 (a g (j.mono more) (l.keep λo e=>j.heap S o out e))
 | succ k z=>
   intro i s y hi st l a;have lt:i<n:=by lia
   refine codeAny_builtin F.entry_set_update_loop ?_;rw[Around.under_plainId F.plain_set_update_loop _];show wpAny _ A.in1 (pyNext (.ref I)>>= _) _ _ s;refine Z2 (W.item i s _ _ lt st λv g pv m j=>?_);have%[t|rfl]:=f i v pv;have room: ~~~(aA ((List.range i).map val))+1<scanBound:=by
    have q:=tZ ((List.range i).map val) [];rw[Z6,Yh]at q;unfold aA;simp only[length_nil,zero_add]at q
    lia
   refine Z2 (wpAny_holding (tX (l.keep (h':=g.heap) λo e=>j.heap S o out e) room λE b u p=>Z3 %[plainId_quiet F.plain_set_update_loop _|z (i+1) _ ⋯ lt (W.frame _ g _ _ m (Yd _) λb c o e=>?_) (by rw[t4];exact p) λB C r=>?_]))
   .rw[u.2 b (λq:b=S=>d (q▸c))];exact e
   .refine a B (Moved.trans W.gtrans ((j.mono more).then_heap (Yd _) λb o c e=>?_) C) r;rw[u.2 b (λq:b=S=>c (q▸Zm))];exact e
end
section
#where
noncomputable abbrev a9(w:World):Obj:={cls:= .type "set",dict:=none,data:= .set #[] 0 (.fresh 0 0 (!a8 w))}
def t5(a:Value)(h:Q₁ (.ref ⇑s) (s>>>s.heap.push (a9 w))):
 codeAny (model prog w) A (.call (.builtin "set.__new__") %[[.type "set",a]|[]]) (wants Q₁ E) s:=by
 refine codeAny_of_tree ?_;show wpAny _ A.in1 _ _ _ s;refine Z2 (wpAny_of_eq (PySem.F.newCall_set_1 a) (Z3 %[plainId_quiet PySem.F.plain_set_new _|codeAny_builtin PySem.F.entry_set_new ?_]));unfold Builtin.«set.__new__» Builtin.Frozenset.newClass;have b:=sub_set_self;have%[c,g,d,tk|os]:=s;dsimp only
 wp_walk
 refine wpAny_askSetting (Z3 ?_);dsimp only;simp only[newObj];exact Z2 (wpAny_alloc (Z3 (Z3 h)))
def bv.empty(e:h.get? a∣a9 w):bv w a [] h:=
 %[_,#[],0,_,[],e,%[rfl,rfl|rfl],rfl,.nil,.nil,Yz,λe b=>by simp at b,!1,rfl,λq=>absurd rfl q|rfl]
def t6:∀{vs:ZG} {ss:ZC},StrsAre vs ss->∀(i:Nat) v,vs[i]?∣v->∃t,v= .str (ss.getD i (!"")) t
 | _,_,.nil,i,v,h=>by simp at h
 | _,_,.cons x t a,0,v,h=>by simp at h;exact%[t|by rw[<-h];rfl]
 | _,_,.cons x t a,i+1,v,h=>by
   have%[u|e]:=t6 a i v (h);exact%[u|by rw[e];rfl]
def wb(ss:ZC):(List.range ss.length).map (λi=>ss.getD i (!""))=ss:=by
 apply Zy
 .simp
 .intro i a b
  simp_all
def pH(hh:A.handled=none)(hl:s.heap.IsList l a)(hi:StrsAre a.toList ss)(hb:a.size+1<scanBound)
 (hQ:∀(h':Heap) (tk:Nat),bv w ⇑s (aA ss) h'->(∀b o,s.heap.get? b∣o->h'.get? b∣o)->Q (.ref ⇑s) {s with heap:=h',toks:=tk}):
 ↥A (call (.type "set") [.ref l]) Q E s:=by
 have%[c,tl|U]:=called_set.mro;have C:=called_set.made;have Y:=called_set.sub;refine wpAny_call (codeAny_of_tree ?_);show wpAny _ _ (callAny (.type "set") _) _ _ _;refine Z3 %[Code.quiet_builtin _ (!0)|codeAny_builtin F.entry_type_call ?_];rw[Around.under_plain (weight_type_call_type "set" [.ref l] []) rfl];have ab:=called_set.notType;have ac:=called_set.canCreate;have ag:=PySem.F.typeCall_set_1 (.ref l)
 repeat any_goals first|assumption|wp_step
 refine codeAny_mono (t5 (.ref l) (E:=E) (Q₁:=λobj g=>obj= .ref ⇑s/\g=(s>>>s.heap.push (a9 w))) %[rfl|rfl]) λr g G=>?_
 cases r with
 | error e=>exact G
 | ok fl=>
   cases fl with
   | ret obj=>
     have%[rfl|rfl]:=G;have gS:(s.heap.push (a9 w)).get? ⇑s∣a9 w:=Zj _ rfl;have tS:Shared.TypeIs (s>>>s.heap.push (a9 w)) (.ref ⇑s) "set":=%[_,gS|rfl]
     have ai:=called_set.init.lookup;have al:=called_set.init.bind (.ref ⇑s)
     repeat any_goals first|assumption|wp_step
     refine codeAny_mono (codeAny_call_builtin (R:=wants (λr h=>r= .none/\∃h' tk,h={s with heap:=h',toks:=tk}/\bv w ⇑s (aA ss) h'/\(∀b o,s.heap.get? b∣o->h'.get? b∣o)) E) called_set.init.plain F.entry_set_init (check_set_init_1 tS ?_)) λn h d=>?_
     .have%[ol,gl,cl,nl|dl]:=hl;have%[aa,j,H|f]:=ol;simp only at cl dl;subst cl;subst dl;have I:(s.heap.push (a9 w)).get? l=some {cls:= .type "list",dict:=j,data:= .seq a nl,slots:=f}:=Z7 _ gl;have an:=PySem.F.sub_list_set;have aq:=PySem.F.sub_list_frozenset;have ar:(Value.type "list"==Value.type "dict")=false:=!1
      have p:(s.heap.push (a9 w)).IsList l a:=%[_,I,rfl,nl|rfl]
      unfold Builtin.«set.__init__»;unfold noKeywords;unfold Builtin.Frozenset.updateFrom
      generalize J:pyIter=PI
      wp_walk
      subst J;refine wpAny_pyIter_list p (Z2 (wpAny_runValue ?_));have q:l<⇑s:=Zu gl;have h3:A.in1.in1.in1.handled=none:=by simp[hh]
      have L:(s.heap.push (a9 w)).objs.size=⇑s+1:=Zq ..;have M:l≠(s.heap.push (a9 w)).objs.size:=by rw[L];exact Zs (Yl q)
      have N:⇑s∉[(s.heap.push (a9 w)).objs.size,l]:=by
       rw[L];simp only[Yt,X2,or_false,not_or];exact%[Zs (Ym _)|Yw q]
      have u:a.size= ~~~ss:=by rw[<-Zb];exact bw hi
      refine pG ((Walks.list h3 _ l M a).toS) ⇑s N (λi=>ss.getD i (!"")) (λi v hv=>t6 hi i v (by rw[getElem?_toList];exact hv)) hb (a.size-0) 0 _ ⋯ (Xb _)
       %[%[_,Zj _ rfl,rfl|rfl]|p.push _] (bv.empty (Z7 _ gS)) ?_
      intro s3 z B;rw[u,wb]at B;have%[h',g',d',O|T]:=s3;have eg:g'=s.gens:=z.gens;have ed:d'=s.drawn:=z.drawn;have eo:T=s.os:=z.os;subst eg;subst ed;subst eo;refine Z3 ?_;show wpAny _ _ (ret Value.none) _ _ _;refine Z3 %[rfl,h',O,rfl,B|λb o e=>?_];have y:=Zu e;refine z.heap b o ?_ (Z7 _ (Z7 _ e));simp only[Yt,X2,or_false,not_or,L];exact%[Zs y|Zs (Yl y)]
     .cases n with
      | error e=>exact d
      | ok m=>
        cases m with
        | ret r=>
          have%[rfl,h',tk,rfl,B|k3]:=d
          repeat any_goals first|assumption|wp_step
          exact hQ _ _ B k3
        | _=>exact d.elim
   | _=>exact G.elim
end
section
variable{X:Cx}{K:ZB}
abbrev d6(w:World)(a:Addr)(ks:ZC):HO:= .ext (bv w a ks)
def AK(b:X.calm=true):bW X (.type "set") (λxs H Q=>∃p ss,xs=[.ref p]/\SqL X.K H p (ss\3)/\ ~~~ss<=4000/\∀l,H l=none->Q (.ref l) (upd H l (d6 X.w l (aA ss)))):=by
 intro pins s j H xs us Q I r h;have%[p,ss,rfl,c,m|q]:=h;have%[u,rfl|d]:=cR r;cases d;have%[its,e,pl|n]:=I.list c;have a:=gj e;have f:its.toArray.size= ~~~ss:=bw a;refine pH (I.ok.hd b) pl.isList (a) (by rw[f];show ~~~ss+1<4096;lia) λh' tk S k=>%[.ref ⇑s,_,I.laid (o:=d6 X.w ⇑s _) k (Zi _) %[S,?_|λv w g k1=>g.keep k1],rfl|q _ I.fresh]
 have%[o,_,_,_,_,i|_]:=S;exact%[o|i]
def qr(h:X.K=K)(hw:X.w=w)(a:X.calm=true):cp X (.type "set") (λxs H Q=>∃p ss,xs=[.ref p]/\SqL K H p (ss\3)/\ ~~~ss<=4000/\∀l,H l=none->Q (.ref l) (upd H l (d6 w l (aA ss)))):=by subst h;subst hw;exact⟨AK a⟩
end
def gC:∀{xs:List a} {i:Nat} (h:i< ~~~xs),(xs[i]::xs.eraseIdx i).Perm xs
 | x::r,0,_=>by simp
 | x::r,i+1,h=>by
   exact(List.Perm.swap _ _ _).trans (.cons _ (gC ↑h))
section
#where
def yL(a:n≠0)(h:∀i d,i<n->Q i {s with drawn:=d}):↥A (choose b n) Q E s:=by
 intro c p _;exact%[a|h _ _ (mod_lt _ (pos_of_ne_zero a))]
def r9:∀(n:Nat) (xs:List b) (s:Shared) (Q:List b->Shared->Prop),~~~xs<=n->(∀ys d,ys.Perm xs->Q ys {s with drawn:=d})->↥A (drawOrder n xs) Q E s
 | 0,xs,s,Q,a,h=>by
   have e:=length_eq_zero_iff.mp (le_zero.mp a);subst e;exact Z3 (h [] s.drawn .nil)
 | n+1,[],s,Q,a,h=>Z3 (h [] s.drawn .nil)
 | n+1,x::r,s,Q,a,h=>by
   unfold drawOrder;refine Z2 (yL ∅ λi d hi=>?_);rw[(Z4 hi)];exact Z2 (r9 n _ _ _ (by rw[List.length_eraseIdx];simp only[hi];simp_all) λys c p=>Z3 (h _ c ((List.Perm.cons _ p).trans (gC hi))))
end
def xA(next:Nat->Nat):∀(fuel k:Nat) (left:List a) (out:Array a),~~~left<=fuel->(pickOrder.go next fuel k left out).toList.Perm (out.toList++left)
 | 0,k,left,out,h=>by
   have e:=length_eq_zero_iff.mp (le_zero.mp h);subst e;rw[Zx];exact .refl _
 | fuel+1,k,[],out,h=>by
   unfold pickOrder.go;simp
 | fuel+1,k,x::r,out,h=>by
   unfold pickOrder.go;have hi:next k% ~~~(x::r)< ~~~(x::r):=mod_lt _ ∅;rw[Z4 hi];refine(xA next fuel _ _ _ (by rw[List.length_eraseIdx];simp_all)).trans ?_;rw[toList_push,Ze];exact(List.Perm.refl _).append (gC hi)
def qt(next:Nat->Nat)(xs:Array a):(pickOrder next xs).toList.Perm xs.toList:=by
 have:=xA next xs.size 0 xs.toList #[] ∅;simpa [pickOrder]using this
def qu(p j:Nat):SetTable.below #[p] j=if p<j then 1 else 0:=by
 unfold SetTable.below;simp only[Zp,Zr];unfold SetTable.below.go;simp
 split<;>(rfl)
def wc(j:Nat):SetTable.below #[] j=0:=rfl
def qv{a:Type}{xs:Array a}(h:xs.size=1):∃p,xs= #[p]:=by
 obtain⟨l⟩:=xs
 match l,h with
 |[p],_=>exact%[p|ρ]
abbrev SIt(w:World)(I S T:Addr)(o:Obj)(b:Array (Int×Value))(c:Nat)(t:SetTable)(a:ZG)(i:Nat)(h:Heap):Prop:=
 h.get? S∣o/\∃first,h.get? I=some {cls:= .type "set_iterator",dict:=none,data:= .fields #[first,rawInt i,.ref S,rawInt b.size,rawInt c],slots:= #[]}/\
  ((a8 w=true/\first=rawInt 0/\a=(pickOrder (w.params.setOrder S c) b).toList\2)\/
   (a8 w=false/\first= .ref T/\T≠I/\∃ps:List Nat,h.get? T=some {cls:= .type "tuple",data:= .seq (ps.map λ(i:Nat)=>rawInt i).toArray}/\ ~~~ps= ~~~a/\∀(j p:Nat),ps[j]?∣p->∃e,b[p]?∣e/\a[j]?∣e.2)\/
   (a8 w=false/\b.size<=1/\a=b.toList\2/\(i=0->first=rawInt 0)/\(i=1->∃p:Nat,t.place[0]?∣p/\first=rawInt (p+1))))
def SIt.is{w:World}{I S T:Addr}{o:Obj}{b:Array _}{c:Nat}{t:SetTable}{a:ZG}{i:Nat}{s:Shared}(h:SIt w I S T o b c t a i s.heap):s.TypeIs (.ref I) "set_iterator":=by
 have%[_,f,d|_]:=h;exact%[_,d|ρ]
section
#where
variable{I S T:Addr}{o:Obj}{es:Array (Int×Value)}{ep:Nat}{t:SetTable}{ord:ZG}
def we{i:Nat}{v:Value}{Q:Option Value->Shared->Prop}(y:o.data= .set es ep t)(h:t.fits es.size=true)(z:t.led=!a8 w)(j:S≠I)(st:SIt w I S T o es ep t ord i s.heap)(f:ord[i]?∣v)(hn: ~~~ord=es.size)
 (U:∀h',SIt w I S T o es ep t ord (i+1) h'->SameBut I s.heap h'->Q (some v) (s>>>h')):↥A (pyNext (.ref I)) Q E s:=by
 have hT:=st.is;have%[g,first,N|m]:=st;unfold pyNext;refine Z2 (wpAny_attempt (wpAny_callSpecial?_slot (name:=!"__next__") hT bZ (wpAny_call_entry bZ hT fN ?_ (gY _))));unfold Builtin.«set_iterator.__next__»;refine Z2 (m:=slotArgs _ _ _) (Z3 ?_);refine Z2 (wpAny_fieldsOf N rfl ?_);show wpAny _ _ (setEntries S>>= _) _ _ _;refine Z2 (wpAny_setEntries_of g y h ?_);rw[if_neg ∅];rcases m with⟨c,rfl,B⟩|⟨c,rfl,C,ps,G,Y,H⟩|⟨c,h1,B,f0,f1⟩
 .show wpAny _ _ (setNext S 0 i ep>>= _) _ _ _;refine Z2 ?_;unfold setNext;refine Z2 (wpAny_setState_of g y h ?_);refine Z2 (Z2 (wpAny_askSetting (Z3 ?_)));show wpAny _ _ (if a8 w=true then _ else _) _ _ _;rw[if_pos c];dsimp only;rw[if_neg (show ¬ ((ep != ep)=true) by simp)];refine Z2 ?_;unfold setWalk;refine Z2 (wpAny_setState_of g y h ?_);refine Z2 (Z2 (wpAny_askSetting (Z3 ?_)));show wpAny _ _ (if a8 w=true then _ else _) _ _ _;rw[if_pos c];refine Z2 (wpAny_askSetting (Z3 (Z3 ?_)));have d:(pickOrder (w.params.setOrder S ep) es)[i]?.map (·.2)∣v:=by
   rw[B]at f;simpa using f
  cases u:(pickOrder (w.params.setOrder S ep) es)[i]? with
  | none=>rw[u]at d;cases d
  | some e=>
    rw[u]at d;have J:e.2=v:=↑d
    show wpAny _ _ (match((pickOrder (w.params.setOrder S ep) es)[i]?).map λe=>(e.2,0)with|some (x,next)=>_|none=>_) _ _ _;rw[u];refine Z2 (wpAny_setField_rec N ∅ λg1 b a=>?_);refine Z2 (wpAny_setField_rec (s:=(s>>>g1)) b ∅ λg2 l n=>?_);rw[J];have L:SameBut I s.heap g2:=a.trans n;refine Z3 %[v,rfl|Z3 (U g2 %[(L.2 S j).trans g,_,l|.inl %[c,rfl|B]] L)]
 .refine Z2 (wpAny_seqItems G rfl ?_);have hi:i< ~~~ord:=(Xi f).1;have aa:i< ~~~ps:=by lia
  have%[e,O|ab]:=H i ps[i] ∅;have J:e.2=v:=by rw[ab]at f;exact Za f
  have M:(ps.map λ(i:Nat)=>rawInt i).toArray[(i:Int).toNat]?∣rawInt ps[i]:=by simp[aa]
  dsimp only;rw[M];show wpAny _ _ (setNextDrawn S ps[i] ep>>= _) _ _ _;refine Z2 ?_;unfold setNextDrawn;refine Z2 (wpAny_setState_of g y h ?_);dsimp only;rw[if_neg (show ¬ ((ep != ep)=true) by simp),O];refine Z3 ?_;refine Z2 (wpAny_setField_rec N ∅ λg1 b a=>?_);rw[J];exact Z3 %[v,rfl|Z3 (U g1 %[(a.2 S j).trans g,_,b|.inr (.inl %[c,rfl,C,ps,(a.2 T C).trans G,Y|H])] a)]
 .have hi:i< ~~~ord:=(Xi f).1;have i0:i=0:=by lia
  subst i0;have f0:=f0 rfl;subst f0;have e1:es.size=1:=by lia
  have pz:t.place.size=1:=by
   simp only[SetTable.fits,Zv,beq_iff_eq,decide_eq_true_eq]at h;rw[h.1,e1]
  have%[p|u]:=qv pz;obtain⟨e,O⟩:∃e,es[0]?∣e:=%[es[0]|by simp]
  have J:e.2=v:=by
   rw[B]at f;have:(es[0]?)\2∣v:=↑f
   rw[O]at this;simpa using this
  show wpAny _ _ (setNext S 0 0 ep>>= _) _ _ _;refine Z2 ?_;unfold setNext;refine Z2 (wpAny_setState_of g y h ?_);show wpAny _ _ (if a8 w=true then _ else _) _ _ _;rw[if_neg (by rw[c];decide)];dsimp only
  split
  .rename_i r
   change (!t.plain&&decide (es.size>1))=true at r;rw[e1]at r;simp at r
  .refine Z2 (m:=(if(!t.led&&!es.isEmpty)=true then unsupported "set:maker-not-led" else pure ())) ?_;rw[z,c];refine Z3 ?_;rw[u,qu];simp only[X1,↓reduceIte,O];refine Z3 ?_;show wpAny _ _ (setField (.ref I) 0 (rawInt ((p+1:Nat):Int))>>= _) _ _ _;refine Z2 (wpAny_setField_rec N ∅ λg1 b a=>Z2 (wpAny_setField_rec (s:=(s>>>g1)) b ∅ λg2 l n=>?_));rw[J];have L:SameBut I s.heap g2:=a.trans n;exact Z3 %[v,rfl|Z3 (U g2 %[(L.2 S j).trans g,_,l|.inr (.inr %[c,⋯,B,λq=>by lia|λ_=>%[p,by rw[u];rfl|rfl]])] L)]
def t7{c:Type}{Q:c->Shared->Prop}(d:A.handled=none)(f:∀h' e,(∀b o,s.heap.get? b∣o->h'.get? b∣o)->(∃o,h'.get? e∣o/\o.cls= .type "StopIteration")->E (.ref e) (s>>>h')):
 ↥A (newExc (.type "StopIteration") []>>= λe=>(raiseNew e)) Q E s:=by
 refine Z2 ?_;refine Z2 (wpAny_newObj_type ?_ (by size_fits));refine Z2 (wpAny_of_eq (a:=Value.none) (by first|rfl|lia) (wpAny_newObj_type (wpAny_raiseNew_none d (f _ _ (λb o e=>Z7 _ (Z7 _ e)) %[_,Zj _ rfl|rfl])) (by size_fits)))
def yM{i:Nat}{Q:Option Value->Shared->Prop}(hh:A.handled=none)(y:o.data= .set es ep t)(j:t.fits es.size=true)(n:t.led=!a8 w)(st:SIt w I S T o es ep t ord i s.heap)(hi:i= ~~~ord)(hn: ~~~ord=es.size)
 (hQ:∀h',(∀b o,b≠I->s.heap.get? b∣o->h'.get? b∣o)->Q none (s>>>h')):↥A (pyNext (.ref I)) Q E s:=by
 have Y:=st.is;have%[z,first,B|m]:=st;have H:A.in1.handled=none:=hh;have c:∀(g:Heap) (Q':Fin->Shared->Prop),SameBut I s.heap g->↥A.in1 (newExc (.type "StopIteration") []>>= λe=>(raiseNew e:Sem Fin)) Q' (λe s'=>↥A (do
  if(<-isInstance e (.type "StopIteration"))then pure none else throw e) Q E s') (s>>>g):=λg Q' sb=>by
  refine t7 H λh' e k ⟨oe,he,hc⟩=>?_
  refine Z2 (wpAny_isInstance (T:="StopIteration") (b:=true) %[oe,he|hc] isSubtype_stop (Z3 (hQ h' λb o r q=>k b o ((sb.2 b r).trans q))))
 unfold pyNext;refine Z2 (wpAny_attempt (wpAny_callSpecial?_slot (name:=!"__next__") Y bZ (wpAny_call_entry bZ Y fN ?_ (gY _))));unfold Builtin.«set_iterator.__next__»;refine Z2 (m:=slotArgs _ _ _) (Z3 ?_);refine Z2 (wpAny_fieldsOf B rfl ?_);show wpAny _ _ (setEntries S>>= _) _ _ _;refine Z2 (wpAny_setEntries_of z y j ?_);rw[if_neg ∅];rcases m with⟨l,rfl,eo⟩|⟨l,rfl,aa,ps,J,ab,ac⟩|⟨l,h1,eo,L,M⟩
 .show wpAny _ _ (setNext S 0 i ep>>= _) _ _ _;refine Z2 ?_;unfold setNext;refine Z2 (wpAny_setState_of z y j ?_);refine Z2 (Z2 (wpAny_askSetting (Z3 ?_)));show wpAny _ _ (if a8 w=true then _ else _) _ _ _;rw[if_pos l];dsimp only;rw[if_neg (show ¬ ((ep != ep)=true) by simp)];refine Z2 ?_;unfold setWalk;refine Z2 (wpAny_setState_of z y j (Z2 (Z2 (wpAny_askSetting (Z3 ?_)))));show wpAny _ _ (if a8 w=true then _ else _) _ _ _;rw[if_pos l];refine Z2 (wpAny_askSetting (Z3 (Z3 ?_)));have C:(pickOrder (w.params.setOrder S ep) es)[i]? =none:=by
   rw[Array.getElem?_eq_none_iff,hi,eo,Z6,Zb];exact Zi _
  show wpAny _ _ (match((pickOrder (w.params.setOrder S ep) es)[i]?).map λe=>(e.2,0)with|some (x,next)=>_|none=>_) _ _ _;rw[C];show wpAny _ _ (setField (.ref I) 2 .none>>= _) _ _ _;exact Z2 (wpAny_setField_rec B ∅ λg1 _ d=>c g1 _ d)
 .show wpAny _ _ (seqItems? (.ref T)>>= _) _ _ _;refine Z2 (wpAny_seqItems J rfl ?_);have u:(ps.map λ(i:Nat)=>rawInt i).toArray[(i:Int).toNat]? =none:=by simp;lia
  dsimp only;rw[u];exact Z2 (wpAny_setField_rec B ∅ λg1 N d=>Z2 (wpAny_setField_rec N ∅ λg2 _ O=>c g2 _ (d.trans O)))
 .have done:∀slot:Nat,first=rawInt slot->SetTable.below t.place slot=es.size->↥A.in1 (setNext S slot i ep) (λa s'=>a=none/\s'=s) (λ_ _=>False) s:=by
   intro slot _ r;unfold setNext;refine Z2 (wpAny_setState_of z y j ?_);show wpAny _ _ (if a8 w=true then _ else _) _ _ _;rw[if_neg (by rw[l];decide)];dsimp only
   split
   .rename_i h
    change (!t.plain&&decide (es.size>1))=true at h;have:decide (es.size>1)=false:=Zh ⋯;rw[this,Bool.and_false]at h;cases h
   .refine Z2 (m:=(if(!t.led&&!es.isEmpty)=true then unsupported "set:maker-not-led" else pure ())) ?_;rw[n,l];refine Z3 ?_;rw[r,show es[es.size]? =none by simp];exact Z3 %[rfl|rfl]
  have go:∀slot:Nat,first=rawInt slot->SetTable.below t.place slot=es.size->↥A.in1 (setNext S slot i ep>>= λa=>match a with
   | some (x,next)=>(do
     setField (.ref I) 0 (rawInt ↑(next))
     setField (.ref I) 1 (rawInt (↑(i)+1))
     ret x)
   | none=>(do
     setField (.ref I) 2 .none
     let e<-newExc (.type "StopIteration") []
     raiseNew e)) (λc s'=>∃v,c=Fin.done (Flow.ret v)/\↥A (pure (some v)) Q E s') (λe s'=>↥A (do
   if(<-isInstance e (.type "StopIteration"))then pure none else throw e) Q E s') s:=by
   intro slot e r;refine Z2 (wpAny_mono (done slot e r) (λa s' ⟨G,e2⟩=>?_) λ_ _ f=>f.elim);subst G;subst e2;exact Z2 (wpAny_setField_rec B ∅ λg1 _ d=>c g1 _ d)
  have pz:=by
   simp only[SetTable.fits,Zv,beq_iff_eq,decide_eq_true_eq]at j;exact j.1
  by_cases e0:es.size=0
  .have i0:i=0:=by lia
   subst i0;have L:=L rfl;subst L;refine go 0 rfl ?_;have:t.place= #[]:=Array.eq_empty_of_size_eq_zero ⋯;rw[this,wc,e0]
  .have G:es.size=1:=by lia
   have i1:i=1:=by lia
   subst i1;have%[p,C|M]:=M rfl;subst M;refine go (p+1) rfl ?_;have%[p'|U]:=qv (by rw[pz,G]:t.place.size=1);rw[U]at C ⊢;have:p'=p:=↑C
   subst this;rw[qu,if_pos (Ym _),G]
end
def gZ:Slot "set_iterator" "__iter__" "set_iterator.__iter__":=
 .of (owner:="set_iterator") (n:="__iter__") (by rw[typeLookup_type,builtinLookup_eq_fast];kernel_rfl) (!0) (!0) (!0) (by first|exact .inl (!0)|exact .inr ∅) (by kernel_rfl)
def kM:entryFor table "set_iterator.__iter__"=some Builtin.«dict_keyiterator.__iter__»:=entryFor_alias (id':="dict_keyiterator.__iter__") (by kernel_rfl) rfl (!0) (by kernel_rfl)
def mv(a:Value):argsOk "set_iterator.__iter__" %[[a]|[]]:=by kernel_rfl
def sd:typeLookup (.type "set") "__len__"=pure (some (.builtin "set.__len__")):=by kernel_rfl
section
#where
variable{I S T:Addr}{o:Obj}{es:Array (Int×Value)}{ep:Nat}{t:SetTable}{ord:ZG}
def yN(hh:A.handled=none)(hd:o.data= .set es ep t)(hf:t.fits es.size=true)(hled:t.led=!a8 w)(hSI:S≠I)(hn: ~~~ord=es.size):
 Walks prog w A I [I,S,T] [I] ord.length (λi v=>ord[i]?∣v) (λi h=>SIt w I S T o es ep t ord i h) where
 sub:=by simp
 frame:=λi h h' st k=>by
  have%[hS,first,hI|m]:=st;refine⟨k S ∅ _ hS,first,k I ∅ _ hI,?_⟩;rcases m with m|⟨bt,e,hTI,ps,hTt,r⟩|m
  .exact .inl m
  .exact .inr (.inl %[bt,e,hTI,ps,k T ∅ _ hTt|r])
  .exact .inr (.inr m)
 item:=λi s Q E hi st hQ=>we (v:=ord[i]) hd hf hled hSI st ∅ hn λh' st' sb=>hQ _ h' s.toks ∅ st' λb o' hb e=>(sb.2 b (λq=>hb (by simp[q]))).trans e
 done:=λs Q E st hQ=>yM hh hd hf hled st rfl hn λh' k=>hQ h' s.toks λb o' hb e=>k b o' (λq=>hb (by simp[q])) e
 self:=λi s Q E st hQ=>by
  have hT:=st.is;exact wpAny_pyIter_slot hT gZ (wpAny_call_entry gZ hT kM (Z3 %[_,rfl,"set_iterator",_,hT,bZ.lookup|hQ]) (mv _))
def yO(g:s.heap.get? S∣o)(B:o.ExactSet)(C:o.data= .set es ep t)(hb:es.size<scanBound)(G:t.fits es.size=true)(H:es.size≠0->t.plain=false)(O:t.led=!a8 w)
 (hQ:∀(I T:Addr) (ord:ZG) (h':Heap) d,(∀b o,s.heap.get? b∣o->h'.get? b∣o)->⇑s<=I->S≠I->(T=S\/⇑s<=T)->T<h'.objs.size->I<h'.objs.size-> ~~~ord=es.size->
  SIt w I S T o es ep t ord 0 h'->ord.Perm (es.toList\2)->Q (.ref I) {s with heap:=h',drawn:=d}):↥A (pyIter (.ref S)) Q E s:=by
 have U:s.TypeIs (.ref S) "set":=%[o,g|B.1]
 have n:S<⇑s:=Zu g;refine wpAny_pyIter_slot U F.slot_set_iter (wpAny_call_entry F.slot_set_iter U pE ?_ (F.args_set_iter_1 _));unfold Builtin.«frozenset.__iter__»;refine Z2 (m:=Builtin.Frozenset.slot0 _ _) (Z2 (m:=slotArgs _ _ _) (Z3 (Z3 ?_)));refine Z2 (m:=Builtin.Frozenset.sizeOf S) (Z2 (wpAny_setEntries_of g C G (Z3 ?_)));refine Z2 (m:=setDrawn S) ?_;unfold setDrawn;refine Z2 (wpAny_setState_of g C G (Z2 (Z2 (wpAny_askSetting (Z3 (Z3 ?_))))));have a:∀(first:Value) (c:Shared) (T:Addr) (ord:ZG),c.heap.get? S∣o->(∃d f,c={s with heap:=f,drawn:=d})->(∀b o,s.heap.get? b∣o->c.heap.get? b∣o)->T<⇑c->⇑s<=⇑c->(T=S\/⇑s<=T)->ord.Perm (es.toList\2)->
  ((a8 w=true/\first=rawInt 0/\ord=(pickOrder (w.params.setOrder S ep) es).toList\2)\/(a8 w=false/\first= .ref T/\∃ps:List Nat,c.heap.get? T=some {cls:= .type "tuple",data:= .seq (ps.map λ(i:Nat)=>rawInt i).toArray}/\ ~~~ps= ~~~ord/\∀(j p:Nat),ps[j]?∣p->∃e,es[p]?∣e/\ord[j]?∣e.2)\/(a8 w=false/\es.size<=1/\ord=es.toList\2/\first=rawInt 0))-> ~~~ord=es.size->
  ↥A.in1 (do ret (<-newFields "set_iterator" [first,rawInt 0,.ref S,rawInt es.size,rawInt (<-setEpoch S)])) (λa s'=>∃v,a=Fin.done (Flow.ret v)/\∃Y r,s'.TypeIs v Y/\typeLookup (.type Y) "__next__"=pure (some r)/\Q v s') (λe s'=>E e s') c:=by
  intro first c T ord f %[d,g1|e1] k1 tl sl J y m hn
  subst e1;refine Z2 (wpAny_setEpoch_of f C G (Z2 (wpAny_newObj_type ?_)));have gI:(g1.push {cls:= .type "set_iterator",data:= .fields #[first,rawInt 0,.ref S,rawInt es.size,rawInt ep]}).get? g1.objs.size∣_:=Zj _ rfl;refine Z3 %[_,rfl,"set_iterator",_,%[_,gI|rfl],bZ.lookup|hQ g1.objs.size T ord _ d (λb o' e=>Z7 _ (k1 b o' e)) sl (Zs (Zu f)) J (by rw[Zq];exact Yl tl) (by rw[Zq];exact Ym _) hn ?_ y];refine⟨Z7 _ f,first,gI,?_⟩;rcases m with m|⟨h,e,ps,L,r⟩|⟨h,M,eo,e⟩
  .exact .inl m
  .exact .inr (.inl %[h,e,Zs tl,ps,Z7 _ L|r])
  .exact .inr (.inr %[h,M,eo,λ_=>e|λq=>absurd q ∅])
 have lst: ~~~(es.toList\2)=es.size:=by rw[Z6,Zb]
 by_cases h:a8 w=true
 .show wpAny _ _ (if(!a8 w&&_)=true then _ else _) _ _ _;rw[h,Bool.not_true,Bool.false_and,if_neg ∅];refine Z2 (Z3 ?_);have u:=(qt (w.params.setOrder S ep) es)\2;exact a (rawInt 0) s S _ g %[s.drawn,s.heap|rfl] (λ_ _ e=>e) n (Zi _) (.inl rfl) u (.inl %[h,rfl|rfl]) (by rw[u.length_eq,lst])
 .have z:a8 w=false:=↑h
  show wpAny _ _ (if(!a8 w&&(!t.plain&&decide (es.size>1)))=true then _ else _) _ _ _;by_cases f:es.size>1
  .rw[z,H ⋯,Zf f];refine Z2 (r9 es.size _ _ _ ∅ λps d l=>Z2 (wpAny_newTuple ?_ (by rw[Z6,l.length_eq,Yh];exact fits_of_scanBound hb)));have lt:∀p∈ps,p<es.size:=λp q=>mem_range.mp (l.mem_iff.mp q)
   have er:(List.range es.size).map (λp=>((es[p]?)\2).getD .none)=es.toList\2:=by
    apply Zy
    .simp
    .intro i y q2;simp at y;simp[y]
   have u:(ps.map (λp=>((es[p]?)\2).getD .none)).Perm (es.toList\2):=er▸l.map _;refine a _ _ ⇑s _ (Z7 _ g) %[d,_|rfl] (λb o' e=>Z7 _ e) (by rw[Zq];exact Ym _) (by rw[Zq];exact Yd _) (.inr (Zi _)) u
    (.inr (.inl %[z,rfl,ps,Zj _ rfl,by rw[Z6]|λj p q=>?_])) (by rw[u.length_eq,lst])
   have N:=lt p (Z8 q);exact%[es[p],by simp|by simp[q,N]]
  .rw[z,Zh f];simp only[Bool.and_false,Zz];exact a (rawInt 0) s S _ g %[s.drawn,s.heap|rfl] (λ_ _ e=>e) n (Zi _) (.inl rfl) (List.Perm.refl _) (.inr (.inr %[z,⋯,rfl|rfl])) lst
def jM(hh:A.handled=none)(u:s.heap.get? S∣r)(a:r.ExactSet)(v:r.data= .set g ar t0)(y:g.size<scanBound)(z:t0.fits g.size=true)(B:g.size≠0->t0.plain=false)(c:t0.led=!a8 w)
 (hQ:∀s' vs,vs.Perm (g.toList\2)->(∀b o,s.heap.get? b∣o->s'.heap.get? b∣o)->s'.gens=s.gens->s'.os=s.os->⇑s<=⇑s'->Q vs s'):↥A (collect (.ref S)) Q E s:=by
 unfold collect;refine Z2 (wpAny_runValue (codeAny_builtin F.entry_proto_collect ?_));rw[Around.under_plainId F.plain_proto_collect _];show wpAny _ A.in1 (newList []>>= λl=>again (.builtin "list.__iadd__" %[[l,.ref S]|[]])) _ _ s;refine Z2 (wpAny_newObj_type (Z3 %[plainId_quiet F.plain_list_iadd _|codeAny_builtin F.entry_list_iadd ?_]));rw[Around.under_plainId F.plain_list_iadd _];have i:S<⇑s:=Zu u;show wpAny _ A.in1 (Builtin.List.listExtendWith (.ref ⇑s) (.ref S) (.ref ⇑s)) _ _ _;unfold Builtin.List.listExtendWith
 generalize O:s.heap.push {cls:= .type "list",data:= .seq ([]:ZG).toArray}=G
 have gS:G.get? S∣r:=by rw[<-O];exact Z7 _ u
 have gz:G.objs.size=⇑s+1:=by rw[<-O,Zq]
 have gL:G.get? ⇑s=some {cls:= .type "list",data:= .seq ([]:ZG).toArray}:=O▸Zj _ rfl;have tS:Shared.TypeIs (s>>>G) (.ref S) "set":=%[r,gS|a.1]
 refine Z2 (wpAny_typeOf (T:="set") tS ?_);have n1:Builtin.List.listSameRef (.ref ⇑s) (.ref S)=false:=by
  show(⇑s==S)=false;exact beq_eq_false_iff_ne.mpr (Yw i)
 have n2:(Value.type "set"==Value.type "list")=false:=!1
 have n3:(Value.type "set"==Value.type "tuple")=false:=!1
 simp only[n1,n2,n3,Bool.or_false,Zz,if_false];refine Z2 (yO (s:=(s>>>G)) gS a v y z B c λI T ord h d k1 U aa ab as aR hn st q1=>?_);replace k1:∀b o,G.get? b∣o->h.get? b∣o:=k1;replace U:G.objs.size<=I:=U;have ac:h.get? S∣r:=k1 _ _ gS;refine Z2 (wpAny_holding ?_);unfold Builtin.List.listLengthHint;have m:Shared.TypeIs {s with heap:=h,drawn:=d} (.ref S) "set":=%[r,ac|a.1]
 refine Z2 (wpAny_specialOf (T:="set") m sd ?_)
 wp_delta
 refine Z2 (wpAny_isInstance (T:="set") (b:=true) m (by rw[isSubtype_type];kernel_rfl) ?_);show wpAny _ A.in1 (typeOf (.ref S)>>= _) _ _ _;refine Z2 (wpAny_typeOf (T:="set") m (Z3 ?_));rw[if_pos (!1)];refine Z2 (wpAny_rule ?_);have C:h.get? ⇑s=some {cls:= .type "list",data:= .seq ([]:ZG).toArray}:=k1 _ _ gL;refine Z2 ?_;unfold Builtin.List.listTouch;refine Z2 (listUpdate_at (s:={s with heap:=h,drawn:=d}) C rfl ?_ (Xb _) (by show 1<=sizeLine+1;lia));have H:=get?_update_self (Obj.mapSeq (·.push Value.none)) C rfl;refine listUpdate_at (xs:= #[Value.none]) (n:=1) (s:={s with heap:=h.update ⇑s (Obj.mapSeq _),drawn:=d}) H rfl ?_ (!1) (by show 0<=sizeLine+1;lia);have ag:=get?_update_self (Obj.mapSeq (·.pop)) H rfl;have J:∀b o,b≠⇑s->h.get? b∣o->((h.update ⇑s (Obj.mapSeq (·.push Value.none))).update ⇑s (Obj.mapSeq (·.pop))).get? b∣o:=λb o Y e=>(get?_update_other _ _ (Ne.symm Y)).trans ((get?_update_other _ _ (Ne.symm Y)).trans e)
 have ai:=Zs (Zg (by rw[gz];exact Ym _) U);have neT:⇑s≠T:=by
  rcases ab with e|e
  .exact e▸Yw i
  .exact Zs (Zg (gz▸Ym _) e)
 have L:⇑s∉[I,S,T]:=by
  simp only[Yt,X2,or_false,not_or];exact%[ai,Yw i|neT]
 have al: ~~~ord<=sizeLine:=hn▸fits_of_scanBound y;have W:=yN (prog:=prog) (A:=A.in1) (T:=T) (hh) v z c aa hn;have an:=W.frame 0 h _ st λb Y M e=>J b M (λq=>L (q▸Y)) e
 refine Z3 %[plainId_quiet F.plain_extend_loop _|codeAny_extend_loopS W.toS al _ L _ ord.length 0 _ _ _ rfl (Xb _) an ag (ItemsOf.nil _) λs5 acc c5 m5 N f=>?_];refine Z2 (wpAny_load N (Z3 ?_));have ea:acc.toList=ord:=by
  apply ext_getElem?;intro j;by_cases hj:j< ~~~ord
  .have aq:j<acc.size:=f.1▸hj;have:=f.2 j acc[j] ∅;rw[this];simp[aq]
  .have l1: ~~~acc.toList= ~~~ord:=f.1;rw[Xh ⋯,Xh (l:=ord) ⋯]
 rw[ea];refine hQ s5 ord q1 (λb M e=>?_) m5.gens m5.os (Yc (Zu N));have p:=Zu e;refine m5.heap b M ?_ (J b M (Zs p) (k1 b M (O▸Z7 _ e)));simp only[Yt,X2,or_false,not_or];exact%[Zs p|Zs (Zg p (Ye (gz▸Yd _) U))]
def lN(f:A.handled=none)(h:bv w S ks s.heap)
 (i:∀s' vs ss,StrsAre vs ss->ss.Perm ks->(∀b o,s.heap.get? b∣o->s'.heap.get? b∣o)->s'.gens=s.gens->s'.os=s.os->⇑s<=⇑s'->Q vs s'):↥A (collect (.ref S)) Q E s:=by
 have%[o,es,ep,t,ss,j,c,l,d,m,n,p,q,r,e|a]:=h;refine jM f j c l q r e a λs' vs pv k g os sz=>?_
 have%[ts,u|v]:=cq d pv;exact i s' vs ts u (v.trans m) k g os sz
end
section
variable{X:Cx}{pins:ZF}{σ:St}{H:Hp}{s s':Shared}
def Inv.keptS(I:Inv X pins σ H s)(k:∀b o,s.heap.get? b∣o->s'.heap.get? b∣o)(c:s'.gens=s.gens)(a:s'.os=s.os):Inv X pins σ H s':=by
 have%[h',g',d',t'|d]:=s';replace a:d=s.os:=a;subst c;subst a;refine I.step (ch:=[]) (λb f=>absurd f ∅) (λb o _ _ _ e _=>k b o e) (λb o _ _ _ e _=>%[o.slots|k b o e]) (λ_ _ _ _ n=>n) (λb o _ e=>%[o|k b o e]) (λ_ _ e=>e) (λ_ _ _ e=>e) (λb ps e=>%[#[]|by rw[e];simp]) (λm g=>?_) (λb v e=>?_) I.bare
 .have%[o,h,i,a|r]:=g;exact%[o,h,i,k _ o a|r]
 .exact(I.hok b v e).stay (λj l _ q=>k j l q) (λ_ q=>q) λ_ _ q=>q
def Inv.stoodS(I:Inv X pins σ H s)(J:Inv X pins σ H s')(c:⇑s<=a)(new:bV X.prog X.w (upd H a o) s'.heap a o):Inv X pins σ (upd H a o) s':=by
 have d:=I.hok.fresh c;refine%[J.ok,J.os,J.bare,?_,J.loc,J.cell,?_,?_,?_,?_|J.len]
 .refine%[J.base.keep,J.base.slot,λb o e n j=>?_,J.base.there,λb xs e=>?_,λb o v e=>?_|λb ps e=>?_]
  .rw[aj ((λb o e=>Zs (Zg (Zg (Zu e) I.sz) c)) b o e)];exact J.base.free b o e n j
  .rw[aj (ax (J.base.tups b xs e) d)];exact J.base.tups b xs e
  .rw[aj (ax (J.base.frzs b o v e) d)];exact J.base.frzs b o v e
  .have%[m|q]:=J.base.tbls b ps e;exact%[m|(aj (ax q d))▸q]
 .rw[aj (Zs (Zg I.lt c))];exact J.free
 .intro g f e;have%[l|q]:=I.cell g f e;rw[aj (Zs (Zg q.lt c))];exact J.freeC g f e
 .intro p h;have%[e,n|r]:=J.pin p h;refine%[e,?_|r];rw[aj (Zs (Zg (Zu (I.pin p h).1) c))];exact n
 .intro b v e;by_cases i:b=a
  .subst i;rw[ae]at e;cases e;exact new
  .rw[aj i]at e;refine(J.hok b v e).stay (λ_ _ _ q=>q) (λf q=>?_) λf xs q=>?_
   .rw[aj (ax q d)];exact q
   .rw[aj (ax q d)];exact q
end
section
#where
variable{S:Addr}
def wg(u:A.handled=none)(v:bv w S ks s.heap)(g: ~~~ks<64)
 (y:∀(s':Shared) (l:Addr) (vs:ZG) (ss:ZC) (n:Nat),StrsAre vs ss->ss.Perm ks->sortedS ss=true->(∀b o,s.heap.get? b∣o->s'.heap.get? b∣o)->s'.gens=s.gens->s'.os=s.os->⇑s<=l->s'.heap.get? l=some {cls:= .type "list",data:= .seq vs.toArray n}->Q (.ref l) s'):
 ↥A (call (.builtin "sorted") [.ref S]) Q E s:=by
 refine Calls.call_function_entry kind_sorted plain_sorted entry_sorted (args_sorted1 _) ?_;unfold Builtin.«sorted»;refine Z2 (m:=checkCount "sorted" 1 1 _) (Z3 ?_);refine Z2 (lN (show A.in1.handled=none from u) v λc vs ss f j k1 g1 z h=>?_);have B: ~~~vs<64:=by rw[bw f,j.length_eq];exact g
 refine Z2 (wpAny_newList ?_ (by rw[sizeLine_eq];lia));have i:(c.heap.push (seqObj "list" vs.toArray 0)).get? ⇑c∣seqObj "list" vs.toArray 0:=Zj _ rfl;refine Z2 (wpAny_holding (wpAny_call_entry slot_list_sort %[_,i|rfl] entry_list_sort (list_sort_treeK (s:=(c>>>c.heap.push (seqObj "list" vs.toArray 0))) strKind_oneLt i f.keysOf (λp q rest e=>keyKind_strs (by rw[<-e];exact f)) B λa C G=>%[_,rfl|?_]) (args_list_sort _)));have%[ts,H,I|J]:=sorted_out_str f C G;obtain⟨n,L⟩:∃n,(sortedHeap (c.heap.push (seqObj "list" vs.toArray 0)) ⇑c vs ((arrOf a)\2)).get? ⇑c∣seqObj "list" ((arrOf a)\2) n:=sortedHeap_at i;refine Z3 %[_,rfl|y _ ⇑c ((arrOf a)\2).toList ts n H (I.trans j) J (λb M e=>?_) g1 z h ?_]
 rotate_left
 .show _∣seqObj "list" ((arrOf a)\2).toList.toArray n;rw[Array.toArray_toList];exact L
 have r:=k1 b M e;have d:=Zu r;show(sortedHeap _ _ _ _).get? b=_;rw[sortedHeap_old (Zs d) (by rw[Zq];exact Yl d)];exact Z7 _ r
end
section
variable{X:Cx}{K:ZB}
def sf(d:X.calm=true):bW X (.builtin "sorted") (λxs H Q=>∃a ks,xs=[.ref a]/\H a∣d6 X.w a ks/\ ~~~ks<64/\∀l ss,H l=none->ss.Perm ks->sortedS ss=true->Q (.ref l) (upd H l (.lst (ss\3)))):=by
 intro pins s v H xs us Q I r h;have%[a,ks,rfl,e,f|q]:=h;have%[u,rfl|i]:=cR r;cases i;have%[S,_|_]:=(I.hok a _ e)
 refine wg (I.ok.hd d) S f λs' l vs ss n j c m k g o b p=>%[.ref l,_,I.stoodS (o:= .lst _) (I.keptS k g o) b %[?_,vs,n,qj j|p],rfl|q l ss (I.hok.fresh b) c m]
 rw[Z6,c.length_eq,sizeLine_eq]
 lia
def kN(h:X.w=w)(b:X.calm=true):cp X (.builtin "sorted") (λxs H Q=>∃a ks,xs=[.ref a]/\H a∣d6 w a ks/\ ~~~ks<64/\∀l ss,H l=none->ss.Perm ks->sortedS ss=true->Q (.ref l) (upd H l (.lst (ss\3)))):=by subst h;exact⟨sf b⟩
end
def am{D:ik}(h:∀c:ik,(∀a b,u D a b->c.nx a b)->(∀v b,D.rt v b->c.rt v b)->t c d H):br t u D d H:=h _ (λ_ _ x=>x) λ_ _ x=>x
def aE{t:TS}{D:ik}(h:∀c:ik,(∀a b,D.nx a b->c.nx a b)->(∀v b,D.rt v b->c.rt v b)->t c d H):t D d H:=h _ (λ_ _ x=>x) λ_ _ x=>x
def jN{K:ZB}{xs:List V}{g:TG}{j:TS}{D:ik}(Pv:Nat->St->Hp->Prop)(n:Pv 0 b H)(o:∀i b H,i<= ~~~xs->Pv i b H->SqL K H a xs)
 (r:∀i x T b H,xs[i]?∣x->Pv i b H->H T=none->g (.ref T) b (upd H T (.tup [.int i,x])) λc h=>j {D with nx:=Pv (i+1),ct:=Pv (i+1),bk:=D.nx} c h) (s:∀b H,Pv xs.length b H->D.nx b H):
 ∃W:Nat->Nat->St->Hp->Prop,(∃m,W 0 m b H)/\∀i m b H,W i m b H->
  ((Ite K a xs).stop i H/\D.nx b H)\/((Ite K a xs).go i H/\∃N:St->Hp->Prop,(∀d f,N d f->∃l,l<m/\W (i+1) l d f)/\∀x f,(Ite K a xs).yld i H x f->g x b f λc h=>j {D with nx:=N,ct:=N,bk:=D.nx} c h):=by
 refine%[λi m b H=>m= ~~~xs-i/\i<= ~~~xs/\Pv i b H,%[~~~xs,by simp,Xb _|n]|?_];intro i m b H %[rfl,hi|p];have q:=o i b H hi p;by_cases lt:i< ~~~xs
 .refine .inr %[%[q|lt],Pv _,λd f u=>%[~~~xs-(i+1),⋯,rfl,lt|u]|λv f y=>?_];have%[x,T,e,w,rfl|rfl]:=y;exact r i x T b _ e p w
 .have e:i= ~~~xs:=by lia
  subst e;exact .inl %[%[q|Zi _]|s b H p]
section
variable{X:Cx}{K:ZB}{pos:Pos}{a b:Expr}{ta tb:TE}
def bL:OpQ X (binaryOp .Add) (rI0 λi j=> .int (i+j)):=⟨EN⟩
def c9:OpQ X (binaryOp .Mult) (rI z3 λi j=> .int (i*j)):=⟨z4⟩
def cm(h:X.K=K)(c:mE b)(d:QE X a ta)(e:QE X b tb):QE X (.Subscript a b pos) (tOp (E7 K) ta tb):=by subst h;exact⟨Ai CI d.h e.h c⟩
def G8(c:mE b)(d:QE X a ta)(e:QE X b tb):QE X (.Subscript a b pos) (tOp E9 ta tb):=⟨Ai Fb d.h e.h c⟩
end
end _L
namespace _C
open PySem _L PyProof.Rows
abbrev gE:Str:="abcdefghijklmnopqrstuvwxyz"
abbrev hJ(c:Nat):Bool:=decide (c∈gE.cps.toList)
abbrev okc(c:Nat):Bool:=decide (c=46)||hJ c
abbrev nl:Str:="\n"
def G9:nl=⟨#[10]⟩:=rfl
def kO:hJ c=true↔97<=c/\c<=122:=by
 have e:gE.cps.toList=(List.range 26).map (·+97):=!0
 unfold hJ;rw[decide_eq_true_iff,e,mem_map]
 constructor
 .rintro⟨i,h,rfl⟩;have:=mem_range.mp h
  lia
 .rintro⟨a,b⟩;exact%[c-97,mem_range.mpr ⋯|⋯]
def FF(h:okc c=true):c≠10:=by
 intro e;subst e
 revert h
 decide +kernel
structure ci (rows:ZC):Prop where
 pos:1<= ~~~rows
 high: ~~~rows<=40
 wide:∃wd,1<=wd/\wd<=40/\∀r∈rows,r.cps.size=wd
 sign:∀r∈rows,r.cps.toList.all okc=true
 fall:∀i r r',rows[i]?∣r->rows[i+1]?∣r'->∀(j c c':Nat),r.cps[j]?∣c->r'.cps[j]?∣c'->c'=46->c=46
 some':∃r∈rows,∃c∈r.cps.toList,c≠46
def fj{x y:Str}(h:x.cps.toList=y.cps.toList):x=y:=by
 obtain⟨⟨l⟩⟩:=x
 simp_all
def fO(sep x y:Str)(r:ZC):(Str.join sep (x::y::r)).cps.toList=x.cps.toList++sep.cps.toList++(Str.join sep (y::r)).cps.toList:=by
 show((x.cps++sep.cps) ++(Str.join sep _).cps).toList=_;rw[Xa,Xa]
def AL [DecidableEq f]:∀{a b x y:List f},c∉a->c∉b->a++c::x=b++c::y->a=b/\x=y
 |[],[],_,_,_,_,h=>%[rfl|(List.cons.inj h).2]
 |[],b::bs,_,_,_,d,h=>absurd (((List.cons.inj h).1)▸Zm) d
 | a::g,[],_,_,e,_,h=>absurd (((List.cons.inj h).1)▸Zm) e
 | a::g,b::bs,x,y,e,d,h=>by
   have%[i|j]:=List.cons.inj h;have%[l|m]:=AL (λq=>e (Zk _ q)) (λq=>d (Zk _ q)) j;exact%[by rw[i,l]|m]
def t8{c:Nat}:∀{ps qs:ZC},ps≠[]->qs≠[]->(∀p∈ps,c∉p.cps.toList)->(∀q∈qs,c∉q.cps.toList)->(Str.join ⟨#[c]⟩ ps).cps.toList=(Str.join ⟨#[c]⟩ qs).cps.toList->ps=qs
 |[],_,h,_,_,_,_=>absurd rfl h
 | _,[],_,h,_,_,_=>absurd rfl h
 |[p],[q],_,_,_,_,e=>by rw[fj (show p.cps.toList=q.cps.toList from e)]
 |[p],q::f::qs,_,_,a,_,e=>by
  rw[fO]at e;refine absurd ?_ (a p Zm);rw[show p.cps.toList=(Str.join _ [p]).cps.toList from rfl,e];simp
 | p::g::ps,[q],_,_,_,b,e=>by
   rw[fO]at e;refine absurd ?_ (b q Zm);rw[show q.cps.toList=(Str.join _ [q]).cps.toList from rfl,<-e];simp
 | p::g::ps,q::f::qs,_,_,a,b,e=>by
   rw[fO,fO,Ze,Ze]at e;have%[i|j]:=AL (a p Zm) (b q Zm) e;rw[fj i,t8 ∅ ∅ (λx d=>a x (Zk _ d)) (λx d=>b x (Zk _ d)) j]
def wj(a:rows≠[])(h:∀r∈rows,10∉r.cps.toList):Txt.split (Str.join nl rows) nl=rows:=by
 have e:=StrLaws.join_split (Str.join nl rows) nl;rw[G9]at e ⊢;refine t8 ?_ a (StrLaws.split_free _ 10) h (by rw[e]);intro q;have:=split_pos (Str.join ⟨#[10]⟩ rows) ⟨#[10]⟩
 simp_all
def ci.nonl(h:ci rows):∀r∈rows,10∉r.cps.toList:=λr a b=>by
 have:=all_eq_true.mp (h.sign r a) 10 b;exact FF this rfl
def ci.split(h:ci rows):Txt.split (Str.join nl rows) nl=rows:=
 wj (λe=>by have:=h.pos;simp_all) h.nonl
def si:∀{xs:List b},(∀x∈xs,f x<=B)->(xs.map f).sum<= ~~~xs*B
 |[],_=>by simp
 | x::r,h=>by
   have c:=si λy a=>h y (Zk _ a)
   have d:=h x Zm;rw[Yo,List.sum_cons,Zr,Nat.succ_mul]
   lia
def ci.sum(h:ci rows):(rows.map (·.length)).sum<=1600:=by
 have%[wd,_,c|a]:=h.wide;have:=si (f:=λr:Str=> ~~~r) λr b=>by have:=a r b;show r.cps.size<=40;lia
 have:=h.high
 grind
def ci.text(h:ci rows): ~~~(Str.join nl rows)<=2000:=by
 have a:=StrLaws.join_length_le nl rows;have b:=h.sum;have c:=h.high;have d:nl.length=1:=rfl
 lia
abbrev sgn(c:Nat):Str:=⟨#[c]⟩
def nB{a:List Nat}(h:∀c∈a,hJ c=true): ~~~(aA (a.map sgn))<=26:=by
 have b:∀x∈aA _,x∈gE.cps.toList.map sgn:=λx d=>by
  have%[c,f|e]:=Xl (aQ.mp d);exact Xm %[c,Zo (h c f)|e]
 have:=List.Nodup.length_le_of_subset (bE _) b;rw[Z6]at this;have e:gE.cps.toList.length=26:=!0
 lia
abbrev cL(rows:ZC):List Nat:=(Str.join (!"") rows).cps.toList.filter (λc=>decide (c≠46))
def t9:∀(rows:ZC),(Str.join (!"") rows).cps.toList=(rows.map (·.cps.toList)).flatten
 |[]=>rfl
 |[x]=>by simp[Str.join]
 | x::y::r=>by
   have e:(!"").cps.toList=[]:=rfl;rw[fO,t9 _,e,Zx];simp
def kP(h:∀r∈rows,r.cps.toList.all okc=true):∀c∈cL rows,hJ c=true:=λc a=>by
 unfold cL at a;rw[List.mem_filter,t9]at a;have%[b|d]:=a;have%[l,e|f]:=List.mem_flatten.mp b;have%[r,g|rfl]:=Xl e;have:=all_eq_true.mp (h r g) c f;unfold okc at this;rw[or_eq_true]at this;rcases this with q|q
 .exact absurd (Zo q) (Zo d)
 .exact q
def ci.signs_ne(h:ci rows):cL rows≠[]:=by
 have%[r,b,c,d|a]:=h.some';have:c∈cL rows:=by
  unfold cL;rw[List.mem_filter,t9];exact%[List.mem_flatten.mpr %[_,Xm %[r,b|ρ]|d]|Zf a]
 grind
abbrev sj(z:Str):Bool:=(decide (1<=(~~~z:Int))&&decide ((~~~z:Int)<=40))&&z.cps.toList.all okc
abbrev eQ(row a:Str):Bool:=decide (~~~row= ~~~a)&&(List.zip a.cps.toList row.cps.toList).all λp=>!decide (p.2=46)||decide (p.1=46)
def ci.row(h:ci rows)(a:r∈rows):sj r=true:=by
 have%[wd,c,d|b]:=h.wide;have e: ~~~r=wd:=b r a;unfold sj;rw[h.sign r a,e,Zf ⋯,Zf ⋯];rfl
def ci.beneath(h:ci rows)(c:rows[i]?∣r)(d:rows[i+1]?∣a):eQ a r=true:=by
 have%[wd,m,n|e]:=h.wide;have f: ~~~r=wd:=e r (Z8 c);have g: ~~~a=wd:=e a (Z8 d);unfold eQ;rw[Zf (g.trans f.symm),Bool.true_and,all_eq_true];intro p l;have%[j|b]:=Xc l;rw[List.getElem?_zip_eq_some]at b;have:=h.fall i r a c d j p.1 p.2 (by simpa using b.1) (by simpa using b.2)
 grind
def nC(a:List Nat):(Str.join (!"") (a.map sgn))=⟨a.toArray⟩:=by
 refine fj ?_;rw[t9,Yp];show((a.map (λc=>[c])).flatten)=a
 induction a with
 | nil=>rfl
 | cons c r b=>simp_all
def sk:∀a:List Nat,((a.map sgn).map (λx=> ~~~x)).sum= ~~~a
 |[]=>rfl
 | c::r=>by
   rw[Yo,Yo,List.sum_cons,sk r,Zr];show 1+ ~~~r= ~~~r+1
   lia
end _C
namespace _C
open PySem _L
end _C
namespace _L
open PySem PySem.Spec PyProof.Rows
abbrev Up(B:Heap)(l:List Env)(e:Addr)(cls:Value)(b:ZJ)(d:Option Value)(h:Heap):Prop:=
 B.StaysIn h/\B.get? e=none/\h.FunFrames B l/\∃a vs,h.get? e∣a/\a.cls=cls/\a.dict=b/\a.data= .fields vs/\1<vs.size/\
  match d with
  | none=>vs[1]?∣.none
  | some f=>∃T c ts,vs[1]?∣.ref T/\B.get? T=none/\T≠e/\h.get? T∣c/\c.data= .fields ts/\ts[3]?∣f
def qw(o:Obj)(f:ZK->ZK):(o.mapFields f).dict=o.dict:=by
 have%[c,d,a|b]:=o;cases a<;> rfl
section
variable{M:Model}{A:Around}{E:ZE}{s:Shared}{B:Heap}{env:Env}{outer:List Env}{L e:Addr}{cls:Value}{dct:ZJ}{Q:Unit->Shared->Prop}
def ud(y:A.frames∣(env::outer))(hf:env.frame∣L)(st:B.StaysIn s.heap)(C:B.get? e=none)(p:s.heap.FunFrames B (env::outer))
 (he:s.heap.get? e∣u) (N:u.data= .fields vs) (d:1<vs.size)
 (k:∀h',Up B (env::outer) e u.cls u.dict (some (rawInt L)) h'->s.heap.UpToSlots h'->Q () (s>>>h')):
 wpAny M A (do let a<-frameOf env;let pl<-entryPlaceOf L i;let b<-EntryCells.newEntry O a .none (rawInt L) .none pl;setField (.ref e) 1 b) Q E s:=by
 have G:e∉(env::outer).filterMap _:=λH=>by
  have%[_,o,ho|aa]:=p.mem H
  simp_all
 refine Z2 (wpAny_frameOf_fun y p hf λc v=>Z2 (wpAny_entryPlaceOf λpl I=>Z2 (wpAny_newObj_type ?_ (I.sizeOk5 _ _ _ _ _))))
 generalize j:({cls:= .type _,dict:=none,data:= .fields _}:Obj)=h
 have T:=(v.2.1 e G).trans he;have U:(c.push h).get? e∣u:=Z7 _ T;refine wpAny_setField U N d ?_;have ne:=Zs (Zu T);have l:=Obj.data_mapFields N (·.setIfInBounds 1 (Value.ref c.objs.size));have f:∀b o,b≠e->c.get? b∣o->((c.push h).update e (Obj.mapFields (·.setIfInBounds 1 (Value.ref c.objs.size)))).get? b∣o:=λb o n q=>by
  rw[get?_update_other _ _ (Ne.symm n)];exact Z7 _ q
 have m:B.StaysIn c:=λb o q=>(v.2.1 b λH=>by rw[(p.mem H).1]at q;cases q).trans (st b o q)
 have nb:∀b o,s.heap.get? b∣o->(∀ws,o.data≠ .fields ws)->b≠e:=λb o q w z=>by
  simp_all
 have t3:((c.push h).update e (Obj.mapFields (·.setIfInBounds 1 (Value.ref c.objs.size)))).get? c.objs.size∣h:=by
  rw[get?_update_other _ _ ne];exact Zj c (by subst j;rfl)
 have g:∃ts,h.data= .fields ts/\ts[3]?∣rawInt L:=by
  subst j;exact%[_,ρ|by simp]
 have%[ts,g|J]:=g;refine k _ %[λb o q=>f b o (λz=>by lia) (m b o q),C,p.of_keeps λb o q w=>?_,_,_,(get?_update_self _ U (Obj.isFreed_of_fields l)),Obj.cls_mapFields _ _,qw _ _,l,↑d,c.objs.size,h,ts,?_,m.fresh,Ne.symm ne,t3,g|J] λb o q w=>?_
 .have%[Y|r]:=v.2.2 b o q;exact%[_,f b _ (nb b o q w) r|ρ]
 .simp[d]
 .have%[Y|r]:=v.2.2 b o q;exact%[Y|f b _ (nb b o q w) r]
def xB(st:B.StaysIn s.heap)(r:B.get? e=none)(y:s.heap.FunFrames B l)
 (C:s.heap.get? e∣c) (G:c.data= .fields vs) (u:1<vs.size) (H:vs[1]?∣.ref T) (v:B.get? T=none) (d:T≠e) (w:s.heap.get? T∣I) (h:I.data= .fields ts) (J:ts[3]?∣f)
 (k:∀h',Up B l e c.cls c.dict (some g) h'->h'.get? e∣c->s.heap.UpToSlots h'->Q () (s>>>h')):wpAny M A (setField (.ref T) 3 g) Q E s:=by
 have i:=(Array.getElem?_eq_some_iff.mp J).1;refine wpAny_setField w h i ?_;have a:∀b,b≠T->(s.heap.update T (Obj.mapFields (·.setIfInBounds 3 g))).get? b=s.heap.get? b:=λb n=>get?_update_other _ _ (Ne.symm n)
 have nb:∀b o,s.heap.get? b∣o->(∀ws,o.data≠ .fields ws)->b≠T:=λb o q p z=>by
  simp_all
 have j:=Obj.data_mapFields h (·.setIfInBounds 3 g);have m:=(a e (Ne.symm d)).trans C;refine k _ %[λb o q=>(a b λz=>by lia).trans (st b o q),r,y.of_keeps λb o q p=>%[o,(a b (nb b o q p)).trans q|rfl],c,vs,m,rfl,rfl,G,u,T,_,_,H,v,d,
  get?_update_self _ w (Obj.isFreed_of_fields j),j|by simp[i]] m λb o q p=>%[o.slots|(a b (nb b o q p)).trans q]
def xC(i:v=none\/v∣.none)(b:A.frames∣(env::outer))(j:env.frame∣L)(u:Up B (env::outer) e cls dct v s.heap)
 (k:∀h',Up B (env::outer) e cls dct (some (rawInt L)) h'->s.heap.UpToSlots h'->Q () (s>>>h')):wpAny M A (noteFrame (.ref e) env) Q E s:=by
 have%[st,c,w,N,vs,h,rfl,rfl,d,a|r]:=u;unfold noteFrame;simp only[j];rcases i with rfl|rfl
 .exact Z2 (wpAny_field h d r (ud b j st c w h d a k))
 .have%[T,O,ts,y,l,m,z,f|C]:=r;refine Z2 (wpAny_field h d y (Z2 (wpAny_field z f C (Z2 (xB st c w h d a y l m z f C λh' G n H=>?_)))));have%[o,g,p|_]:=G;exact ud b j o g p n d a λI J q=>k I J (H.trans q)
def sq(u:Up B l e cls dct (some f) s.heap)(k:∀h',Up B l e cls dct (some .none) h'->s.heap.UpToSlots h'->Q () (s>>>h')):
 wpAny M A (setFlight (.ref e) none) Q E s:=by
 have%[st,a,m,r,vs,h,rfl,rfl,i,b,T,v,ts,j,c,d,n,g|o]:=u;exact Z2 (wpAny_field h i j (xB st a m h i b j c d n g o λh' p _ q=>k h' p q))
def ue(a:g=none\/g∣.none)(b:A.frames∣(env::outer))(h:env.frame∣L)(u:Up B (env::outer) e cls dct g s.heap)
 (k:∀h',Up B outer e cls dct (some .none) h'->s.heap.UpToSlots h'->Q () (s>>>h')):wpAny M A (leaving env (.ref e)) Q E s:=by
 refine Z2 (xC a b h u λn i c=>sq i λj l d=>?_);have%[st,f,%[_,_|m]|r]:=l;exact k j %[st,f,m|r] (c.trans d)
end
section
variable{P:Program}{w:World}{H:Hp}{h:Heap}{a:Addr}{o:HO}
def bV.there(x:bV P w H h a o):∃b,h.get? a∣b:=by
 cases o with
 | lst xs=>have%[_,_,_,_|e]:=x;exact%[_|e]
 | tup xs=>have%[_,_,_,b,e|_]:=x;exact%[_|e]
 | dK c=>have%[_,_,_,_,o,_,_,e|_]:=x;exact%[_|e]
 | dT c=>have%[_,_,_,_,o,_,_,e|_]:=x;exact%[_|e]
 | set S n=>have%[o,_,_,_,e|_]:=x;exact%[_|e]
 | ins C d fs=>have%[_,_,_,e|_]:=x;exact%[_|e]
 | own y=>have%[_|e]:=x;exact%[_|e]
 | xd fs=>have%[_,%[_,_,_,e|_]|_]:=x;exact%[_|e]
 | rng lo hi=>have%[_,_,_|e]:=x;exact%[_|e]
 | frz b u=>have%[e|_]:=x;exact%[_|e]
 | tbl ps=>exact%[_|(x)]
 | met f y=>exact%[_|(x)]
 | ext g=>have%[_,%[_|e]|_]:=x;exact%[_|e]
end
structure Fl (P:Program) (w:World) (l:List Env) (H:Hp) (s:Shared) (ea:Addr) (B:Heap) (cls:Value) (dx:ZJ) (fl:Option Value) (H':Hp) (s':Shared):Prop where
 os:s'.os=s.os
 bare:AllBare s'.gens
 un:Un (frs l) [] H H' s.heap s'.heap
 hok:HOk P w H' s'.heap
 up:Up B l ea cls dx fl s'.heap
 free:H' ea=none
 new:s.heap.get? ea=none
 inB:∀b ob,s'.heap.get? b∣ob->((∃o,s.heap.get? b∣o)\/∃o,H' b∣o)->b∉frs l->B.get? b∣ob
 frf:∀b∈frs l,H' b=none
abbrev CXO(P:Program)(w:World):CXT:=λl H s E e s'=>∃a B cls b c,e= .ref a/\Fl P w l H s a B cls b (some .none) c s'/\E cls b c
section
variable{P:Program}{w:World}{l:List Env}{H H':Hp}{s s':Shared}{ea:Addr}{B h':Heap}{cls:Value}{dx:ZJ}{fl fl':Option Value}
def Fl.fly(F:Fl P w l H s ea B cls dx fl H' s')(st:B.StaysIn h')(z:s'.heap.UpToSlots h'):Un (frs l) [] H H' s.heap h'/\HOk P w H' h':=by
 have p:∀b g,s'.heap.get? b∣g->b∈frs l->∃r,h'.get? b∣_:=λb g q a=>by
  have%[_,d,y|A]:=F.up.2.2.1.mem a;rw[q]at y;cases y;exact z b g q A
 refine%[%[λb o q n a f=>?_,λb o q n a f=>?_,F.un.free,λb o q f=>?_,F.un.tups,F.un.frzs|F.un.tbls]|λb o q=>?_]
 .exact st b o (F.inB b o (F.un.keep b o q n a f) (.inl %[o|q]) a)
 .have%[r|e]:=F.un.slot b o q n a f;have%[h|i]:=p b _ e a;exact%[h|i]
 .have%[d|e]:=F.un.there b o q f;by_cases a:b∈frs l
  .have%[r|i]:=p b d e a;exact%[_|i]
  .exact%[d|st b d (F.inB b d e (.inl %[o|q]) a)]
 .refine(F.hok b o q).stay (λc u j e=>?_) (λ_ e=>e) λ_ _ e=>e
  have C:∃v,H' c∣v:=by
   rcases j with rfl|j
   .exact%[_|q]
   .exact%[_|j]
  have%[v|m]:=C;exact st c u (F.inB c u e (.inr %[v|m]) λa=>by rw[F.frf c a]at m;cases m)
end
section
variable{P:Program}{w:World}{K:ZB}{mg:ZD}{base:Heap}{N:ZC}{qual:Str}{scope:Scope}{f:Addr}{cd:Value}{A:Around}{outer:List Env}{s₀:Shared}{H₀:Hp}{E:XK}
def AM(i:v=none\/v∣.none)
 (I:Inv (eO (CXO P w) P w K mg base N qual scope f cd A outer s₀ H₀ E) pins L H s) (F:Fl P w (envOfC qual scope ⇑s₀ f cd::outer) H s d B cls y v g s') (q:E cls y g):
 (eO (CXO P w) P w K mg base N qual scope f cd A outer s₀ H₀ E).xe (.ref d) s':=by
 refine ue i I.ok.frames rfl F.up λh' u M=>?_
 have%[un|j]:=F.fly u.1 M;have J:Inv _ pins L g (s'>>>h'):=I.call' F.os un j F.bare λb z=>absurd z ∅
 refine%[d,B,cls,y,g,ρ,%[J.os,J.bare,J.base,J.hok,u,F.free,?_,λb ob e h O=>?_|λb h=>F.frf b (mem_filterMap.mpr ?_)]|q]
 .cases z:s₀.heap.get? d with
  | none=>rfl
  | some o=>
    have%[o'|e]:=I.base.there d o z (by simp[eO]);rw[F.new]at e;cases e
 .have Q:b∉frs (envOfC qual scope ⇑s₀ f cd::outer):=λT=>by
   rcases mem_cons.mp (T)with z|z
   .rcases h with⟨o,c⟩|⟨o,c⟩
    .exact absurd (Zu c) (z▸Xg _)
    .have:=J.free;rw[show(eO _ P w K mg base N qual scope f cd A outer s₀ H₀ E).env.locals=b from z.symm,c]at this;cases this
   .exact O z
  have l:∃a,s'.heap.get? b∣a/\((∃o,s.heap.get? b∣o)\/∃o,g b∣o):=by
   rcases h with⟨o,c⟩|⟨o,c⟩
   .have%[C|G]:=I.base.there b o c (by simp[eO]);have%[n|p]:=F.un.there b C G ∅;exact%[n,p|.inl %[C|G]]
   .have%[n|p]:=(F.hok b o c).there;exact%[n,p|.inr %[o|c]]
  have%[a,U|r]:=l;have Y:=F.inB b a U r Q;have:=u.1 b a Y
  grind
 .have%[en,m|q]:=mem_filterMap.mp h;exact%[en,mem_cons.mpr (.inr m)|q]
def C9(a:∀c d H,b c d H->E c d H):gi (CXO P w) (eO (CXO P w) P w K mg base N qual scope f cd A outer s₀ H₀ E) b:=by
 intro pins g H s e s' I %[h,B,cls,i,j,rfl,F|q];exact AM (.inr rfl) I F (a _ _ _ q)
end
noncomputable abbrev FG(vs:ZG):Obj:={cls:= .type "tuple",data:= .seq vs.toArray}
noncomputable abbrev Ha(C t:Addr):Obj:={cls:= .ref C,data:= .fields #[.ref t,.none,.none,.none,.bool false,.none]}
noncomputable abbrev wk(h:Heap)(C:Addr)(vs:ZG):Heap:=(h.push (FG vs)).push (Ha C h.objs.size)
def uf(h:Heap)(C:Addr)(vs:ZG):(wk h C vs).get? (h.objs.size+1)∣Ha C h.objs.size:=by
 heap_get
def fP(b:Addr)(o:Obj)(e:h.get? b∣o):(wk h C vs).get? b∣o:=
 Z7 _ (Z7 _ e)
section
variable{prog:Program}{w:World}{A:Around}{E:ZE}{h:Heap}{g:Array GenState}{d:Drawn}{t:Nat}{os:OsState}
variable{nm q:Str}{C N:Addr}{bs bm bmB:ZG}{hdct:Bool}{sn:ZC}{sub:ZG}{ab:Bool}{col:Option Bool}{dd:ZJ}{k0 k1 k2 k3 k5:Option Value}{B newId initId:String}
def yP(F:ExcBaseFacts B newId initId bmB)(T:OwnTail h bmB bm){rest:ZG}
 (b:h.get? C∣excClassObj nm q C N bs bm hdct sn sub ab col dd k0 k1 k2 k3 k5 newId) (m:h.Ns N i) (hi:i "__init__"=some (.ref j)) (c:h.get? j∣n) (e:n.cls= .type "function") (a:rest.length<=sizeLine)
 (o:↥A (call (.ref j) (.ref (h.objs.size+1)::rest)) (λr s'=>r= .none/\Q (.done (.ret (.ref (h.objs.size+1)))) s') E %[wk h C rest,g,d,t|os]):
 ↥A (Builtin.«type.__call__» %[.ref C::rest|[]]) Q E %[h,g,d,t|os]:=by
 repeat (first|with_reducible refine wpAny_loadPart_at b ?_|with_reducible refine wpAny_madeBy_exc b ?_|wp_step)
 refine codeAny_call_builtin_code (Code.quiet_builtin _ F.quiet) (wpAny_check_new_subT F T b ?_);refine codeAny_exc_new_subT F T b ?_ a;have l:=fP (C:=C) (vs:=rest) _ _ b;have p:=fP (C:=C) (vs:=rest) _ _ c;have n1:(wk h C rest).Ns N i:=m.keeps fP;have s:=uf h C rest;have f:(Value.ref C::bm).contains (.ref C)=true:=by simp
 unfold isInstance
 repeat (first|with_reducible refine wpAny_loadPart_at s ?_|(with_reducible refine wpAny_isSubtype_exc l ?_;rw[f])|wp_step)
 show wpAny _ _ (typeLookup (.ref C) _) _ _ _;refine wpAny_typeLookup_tail l n1 (T.keeps (h':=wk h C rest) fP) F.mroIs F.init.lookup ?_;rw[hi];refine wpAny_holding (Z2 ?_);unfold bindSpecial;refine Z2 (wpAny_typeOf (T:="function") %[_,p|e] ?_);rw[if_pos (!1)];refine Z3 (Z2 (wpAny_mono o (λr s' u=>?_) λ_ _ x=>x));have%[rfl|v]:=u
 wp_walk
 exact v
def yQ(F:ExcBaseFacts B newId initId bmB)(T:OwnTail h bmB bm){rest:ZG}
 (b:h.get? C∣excClassObj nm q C N bs bm hdct sn sub ab col dd k0 k1 k2 k3 k5 newId) (i:h.Ns N j) (hi:j "__init__"=some (.ref f)) (c:h.get? f∣l) (e:l.cls= .type "function") (a:rest.length<=sizeLine)
 (m:wpAny (model prog w) (A.under (.builtin "type.__call__" %[.ref C::rest|[]])) (call (.ref f) (.ref (h.objs.size+1)::rest)) (λr s'=>r= .none/\Q (.ref (h.objs.size+1)) s') E %[wk h C rest,g,d,t|os]):
 ↥A (call (.ref C) rest) Q E %[h,g,d,t|os]:=by
 have n:=tc_lookup;have o:=tc_bind (.ref C);have p:(%[h,g,d,t|os]:Shared).TypeIs (.ref C) "type":=%[_,b|rfl]
 refine wpAny_call (codeAny_of_tree ?_);show wpAny _ _ (callAny (.ref C) _) _ _ _
 repeat (any_goals (first|assumption|with_reducible refine wpAny_loadPart_at b ?_|wp_step))
 refine%[ρ|?_];exact codeAny_call_builtin_at (Code.quiet_builtin _ (!0)) entry_typeCall (wpAny_check_type_call_sub b (yP F T b i hi c e a m))
end
noncomputable abbrev veB:ZG:=[.type "ValueError",.type "Exception",.type "BaseException",.type "object"]
abbrev bB:ZG->Bool
 | .ref c::r=>bB r
 | l=>l==veB
def je(self:Value):∀{l:ZG},bB l=true->refuseLoop self "__setattr__" l=pure ()
 | .ref c::r,e=>by rw[refuseLoop_ref];exact je self e
 | .type n::r,e=>by
   have a:(Value.type n::r)=veB:=by simpa [bB]using e
   exact a▸PySem.F.store_ValueError.passes self
 |[],e=>by simp[bB]at e
 | .none::r,e=>by simp[bB]at e
 | .bool _::r,e=>by simp[bB]at e
 | .int _ _::r,e=>by simp[bB]at e
 | .str _ _::r,e=>by simp[bB]at e
 | .builtin _::r,e=>by simp[bB]at e
 | .float _ _::r,e=>by simp[bB]at e
 | .bytes _ _::r,e=>by simp[bB]at e
 | .ellipsis::r,e=>by simp[bB]at e
 | .notImplemented::r,e=>by simp[bB]at e
def nD(n:String)(a:veB.contains (.type n)=true):∀{l:ZG},bB l=true->l.contains (.type n)=true
 | .ref c::r,e=>by rw[List.contains_cons,nD n a (l:=r) e,Bool.or_true]
 | .type m::r,e=>by
   have b:(Value.type m::r)=veB:=by simpa [bB]using e
   exact b▸a
 |[],e=>by simp[bB]at e
 | .none::r,e=>by simp[bB]at e
 | .bool _::r,e=>by simp[bB]at e
 | .int _ _::r,e=>by simp[bB]at e
 | .str _ _::r,e=>by simp[bB]at e
 | .builtin _::r,e=>by simp[bB]at e
 | .float _ _::r,e=>by simp[bB]at e
 | .bytes _ _::r,e=>by simp[bB]at e
 | .ellipsis::r,e=>by simp[bB]at e
 | .notImplemented::r,e=>by simp[bB]at e
abbrev sr(K:ZB)(C:Addr):Bool:=(clsIn K C).any λa=>bB a.mro
section
#where
variable{K:ZB}{x C:Addr}{name:Str}{v:Value}{ox:Obj}{od:Option Obj}
def FH{R:Result->Shared->Prop}(X:K.In s.heap)(I:PySem.W.InstAt s.heap x ox C od)(j:sr K C=true)(l:findIn K (.ref C) name∣none)
 (h:↥A.in1 (Builtin.ObjectAttr.storeInOwnDict (.ref x) (.ref C) (.str name tk) name v false)
  (λc s'=>match c with| .done f=>R (.ok f) s'| .again g=>g.quiet=true/\codeAny (model prog w) A g R s') (λe s'=>R (.error e) s') s):
 codeAny (model prog w) A (.call (.builtin "object.__setattr__") %[[.ref x,.str name tk,v]|[]]) R s:=by
 have a:=PySem.F.store_object;have%[d,i|b]:=any_some j;have ne:d.mro.isEmpty=false:=by cases q:d.mro with|nil=>rw[q]at b;simp[bB]at b|cons _ _=>rfl
 refine codeAny_call_builtin a.slot.plain a.entry (@check_slot _ _ _ s _ _ _ _ _ [] _ a.kind a.split (I.type.andThen (PySem.W.looks_mroIn X (by unfold mroIn;rw[i,bind_some,if_neg (by rw[ne];decide),(nD _ (!1) b)]))) (a.args _ _ v) ?_);have m:Looks (model prog w) s.heap (mroOf (.ref C)) d.mro:=(looks_clsIn X i).andThen .now;rw[PySem.W.osa_eq,refuse_eq];refine Z2 (Z2 (I.type.here (Z2 (m.here ?_))));rw[je _ b];exact Z3 (Z2 (I.type.here (Z2 ((looks_findIn X l).here (Z2 (Z3 h))))))
def Da(X:K.In s.heap)(g:s.heap.get? x∣ox)(i:ox.cls= .ref C)(j:ox.data= .fields vs)(l:ox.dict=none)
 (z:findIn K (.ref C) "__setattr__"=some (some (.builtin "object.__setattr__"))) (B:sr K C=true) (G:findIn K (.ref C) name∣none) (H:hasDictIn K C=true)
 (h:∀h',h'.get? x=some {ox with dict:=some ⇑s}->h'.Ns1 ⇑s (λy=>if y=name then some v else none)->(∀b o,b≠x->s.heap.get? b∣o->h'.get? b∣o)->Q () {s with heap:=h',toks:=s.toks+2}):
 ↥A (setAttr (.ref x) name v) Q E s:=by
 have%[oc,I,L|M]:=ox;subst i j l;have J:PySem.W.InstAt s.heap x _ C none:=%[g,rfl,rfl|trivial]
 refine set_plain X J z (FH X J B G ?_);have%[cd,N|m]:=any_some H;refine Z2 (Z3 (Z2 (Z2 (wpAny_loadPart g (Z2 (Looks.here (looks_clsIn X N) ?_))))));rw[m];have a:(s.heap.push {cls:= .type "dict",data:= .dict #[]}).get? x∣_:=Z7 _ g;have c:=Zs (Zu g);refine Z2 (wpAny_alloc' (Z2 (wpAny_update' a (Z3 ?_))));have n:((s.heap.push {cls:= .type "dict",data:= .dict #[]}).update x λo=>{o with dict:=some ⇑s}).get? ⇑s∣_:=
  (get?_update_other _ _ c).trans (Heap.get?_push_at rfl rfl)
 have p:((s.heap.push _).update x _).Ns ⇑s _:=
  %[_,#[],_,n,rfl,λe O=>absurd O ∅|λ_=>rfl]
 refine Z2 (Z3 (Z2 (wpAny_nsSet1 (Heap.Ns1.of_empty p) λh' d f=>?_)));have%[oD,T,U,q,r|u]:=d.count (PySem.Within.cons name v PySem.Within.nil);refine Z2 (wpAny_lookBehind q (r▸pastItsLine_dict (Ye u ∅)) (Z3 (h h' ?_ d λb o Y e=>?_)))
 .exact(f.2 x c).trans (get?_update_self _ a rfl)
 .exact(f.2 b (Zs (Zu e))).trans ((get?_update_other _ _ (Ne.symm Y)).trans (Z7 _ e))
end
abbrev ExO(a C:Addr)(d:ZJ):HO:= .ext λh=>∃o vs,h.get? a∣o/\o.cls= .ref C/\o.dict=d/\o.data= .fields vs/\1<vs.size/\vs[1]?∣.none
def ExO.ok{P:Program}(e:h.get? a∣o)(c:o.cls= .ref C)(f:o.dict=d)(g:o.data= .fields vs)(i:1<vs.size)(b:vs[1]?∣.none):
 bV P w H h a (ExO a C d):=
 %[%[o,vs,e,c,f,g,i|b],%[o|e]|λb j ⟨o,vs,e,r⟩ k=>%[o,vs,k o e|r]]
def AN(h:H a∣o):upd H a o=H:=by
 funext b;unfold upd;simp_all
abbrev exK(K:ZB)(C f:Addr):Bool:=match K.lookup C with
 | some ⟨.type "type",_,.cls a,b⟩=>(match a.mro,b.toList with
   | .ref c::d,[_,_,_,_,some (.builtin n),_]=>c==C&&n=="ValueError.__new__"&&!a.hasDel&&PySem.W.tailIn K veB d&&PySem.W.nsOkIn K a.ns&&nsIn K a.ns "__init__"==some (some (.ref f))
   | _,_=>false)
 | _=>false
def wo{K:ZB}{h:Heap}{mg:ZD}(X:K.In h)(G:h.Ns N mg)(e:nsIn K N n∣some v):mg n∣v:=by
 have%[o,j,l,a,b,_|f]:=G;unfold nsIn at e
 split at e
 .rename_i c d g m p q
  have:=X _ _ q;rw[a]at this;cases this;cases b
  split at e
  .rename_i r i
   cases e;rw[<-f];unfold nsFind findBy;rw[<-Array.find?_toList,i];rfl
  simp_all
 .cases e
def wp{K:ZB}(X:K.In h)(q:exK K C f=true):∃nm o N bs g b p sub r c s i k1 k2 j l u,
 h.get? C∣excClassObj nm o C N bs g b p sub r c s i k1 k2 j l "ValueError.__new__"/\h.Ns N u/\u "__init__"=some (.ref f)/\OwnTail h veB g:=by
 unfold exK at q
 split at q
 .rename_i s w y z
  split at q
  .rename_i I g i k1 k2 j n l v A
   simp only[Zv,beq_iff_eq,Bool.not_eq_true']at q;have%[%[%[%[%[rfl|rfl]|a]|B]|d]|e]:=q;have%[nm,bs,E,J,o,L,p,sub,r,c|H]:=w;dsimp only at v a d e;subst v a;have m:y= #[i,k1,k2,j,some (.builtin "ValueError.__new__"),l]:=by
    rw[<-A]
   subst m;have G:=PySem.Heap.Ns.of_isNs (PySem.W.isNs_of_in X d);exact%[_,_,_,_,_,_,_,_,_,_,_,_,_,_,_,_,_,X _ _ z,G,wo X G e|PySem.W.tail_of_in X B]
  .lia
 .lia
section
variable{X:Cx}{C f:Addr}
def wq(A:exK X.K C f=true):bW X (.builtin "ValueError.__init__") (λxs H Q=>∃a d ys,xs=V.ref a::ys/\ ~~~ys<=9/\H a∣ExO a C d/\Q .non H):=by
 intro pins s B H xs us Q I r h;have%[a,d,ys,rfl,hy,g|q]:=h;cases r with
 | cons E G=>
   rename_i u ws
   obtain rfl:u=Value.ref a:=E;have%[%[o,vs,e,v,L,i,M|O]|_]:=I.hok a _ g;have%[nm,qn,N,bs,bm,w,sn,sub,ab,U,dd,k0,k1,k2,k3,k5,mN,Y,hN,hi|T]:=wp I.kIn A;have F:=PySem.F.excBase_ValueError;have j: ~~~ws<=sizeLine:=by rw[<-G.length,sizeLine_eq];lia
   refine wpAny_call (codeAny_call_builtin F.init.plain F.initEntry (wpAny_check_init_subT F T Y e v ?_));have l:∃m,vs[0]?∣m:=%[vs[0]'⋯|Array.getElem?_eq_getElem ⋯]
   have%[m|l]:=l;have p:(s.heap.push (FG ws)).get? a∣o:=Z7 _ e;have c:=Obj.data_mapFields i (·.setIfInBounds 0 (Value.ref ⇑s));have y:=get?_update_self (Obj.mapFields (·.setIfInBounds 0 (Value.ref ⇑s))) p (Obj.isFreed_of_fields c);have J:Inv X pins B H (s>>>((s.heap.push (FG ws)).update a (Obj.mapFields (·.setIfInBounds 0 (Value.ref ⇑s))))):=by
    have:=I.write (x:=a) (e:=a) (o:=ExO a C d) (t':=s.toks) (g▸True.intro) (.inl rfl)
     (λb u n z=>by rw[get?_update_other _ _ (Ne.symm n)];exact Z7 _ z) %[_|y]
     (ExO.ok y ((Obj.cls_mapFields _ _).trans v) ((qw _ _).trans L) c ↑M (by rw[Array.getElem?_setIfInBounds_ne ∅];exact O))
    rw[AN g]at this;exact this
   refine Z2 (wpAny_newTuple (Z2 (Z2 (wpAny_field p i l (Z2 (wpAny_setField p i ⋯ ?_))))) j);cases m with
   | ref b=>exact wpAny_letGo (Z3 %[.non,H,J,rfl|q])
   | _=>exact Z3 (Z3 %[.non,H,J,rfl|q])
end
section
variable{X:Cx}{pins:ZF}{σ:St}{H:Hp}{s s':Shared}
def Inv.stood2(I:Inv X pins σ l s)(J:Inv X pins σ H s')(c:H a=none)(d:⇑s<=a)(new:bV X.prog X.w (upd H a o) s'.heap a o):Inv X pins σ (upd H a o) s':=by
 refine%[J.ok,J.os,J.bare,?_,J.loc,J.cell,?_,?_,?_,?_|J.len]
 .refine%[J.base.keep,J.base.slot,λb o e n j=>?_,J.base.there,λb xs e=>?_,λb o v e=>?_|λb ps e=>?_]
  .rw[aj ((λb o e=>Zs (Zg (Zg (Zu e) I.sz) d)) b o e)];exact J.base.free b o e n j
  .rw[aj (ax (J.base.tups b xs e) c)];exact J.base.tups b xs e
  .rw[aj (ax (J.base.frzs b o v e) c)];exact J.base.frzs b o v e
  .have%[m|q]:=J.base.tbls b ps e;exact%[m|(aj (ax q c))▸q]
 .rw[aj (Zs (Zg I.lt d))];exact J.free
 .intro g f e;have%[u|q]:=I.cell g f e;rw[aj (Zs (Zg q.lt d))];exact J.freeC g f e
 .intro p h;have%[e,n|r]:=J.pin p h;refine%[e,?_|r];rw[aj (Zs (Zg (Zu (I.pin p h).1) d))];exact n
 .intro b v e;by_cases i:b=a
  .subst i;rw[ae]at e;cases e;exact new
  .rw[aj i]at e;refine(J.hok b v e).stay (λ_ _ _ q=>q) (λf q=>?_) λf xs q=>?_
   .rw[aj (ax q c)];exact q
   .rw[aj (ax q c)];exact q
end
structure AO (K:ZB) (D:Addr):Prop where
 ga:specialIn K (.ref D) "__getattribute__"=some (some (.builtin "type.__getattribute__"))
 rd:readsIn K D (.type "type")=true
 at_:findCls K (.ref D) (.type "type") "__init__"=some (.val (.builtin "ValueError.__init__"))
structure FI (K:ZB) (C:Addr) (f:Str):Prop where
 sa:findIn K (.ref C) "__setattr__"=some (some (.builtin "object.__setattr__"))
 ov:sr K C=true
 no:findIn K (.ref C) f∣none
 hd:hasDictIn K C=true
section
variable{X:Cx}{C D f:Addr}{x nm:Str}{p pos pos' apos:Pos}{e o value:Expr}{es:List Expr}{t:TA}{ta tv:TE}{r:List V->Hp->VK->Prop}
def AQ(g:Gl X x)(i:X.mg x∣.ref D)(B:AO X.K D)(j:bW X (.builtin "ValueError.__init__") r)(l:PA X (e::es) t)(a:(x==("__debug__":Str))=false)
 (m:starEach (e::es) X.env=(false,eval e X.env)::starEach es X.env) (b:(backTo pos (starEach es X.env)).any (·.1)=false)
 (n:eval (.Call (.Attribute (.Name x p) "__init__" apos) (e::es) [] pos) X.env=(do
  let c<-eval (.Name x p) X.env
  standAt apos.atName
  let(f,first)<-holding [c] (getMethod c "__init__" pl)
  callWith pos f first (backTo pos (starEach (e::es) X.env)) (backToKw pos (keywordEach [] X.env)))):
 PE X (.Call (.Attribute (.Name x p) "__init__" apos) (e::es) [] pos) (tCB r t):=by
 intro pins s d H Q I h;exact PySem.W.methodCall_KW (e9 I g i (PySem.W.method_cls I.kIn B.ga (PySem.W.cls_value I.kIn B.rd B.at_ (!1) (PyProof.Rows.callWith_builtin1 (thP (l pos pins _ d H _ (I.tok _) h) λus q vs u v w y=>j pins q d u vs us Q v w y) m b))) a) n
abbrev Eh(K:ZB)(C:Addr)(ta tv:TE)(f:Str):TS:=λD b H=>tv b H λy g=>ta b g λx c=>∃a,x= .ref a/\c a∣ExO a C none/\
 ∀d,c d=none->d≠a->D.nx b (upd (upd c a (ExO a C (some d))) d (.xd [(f,y)]))
def Db(c:FI X.K C nm)(E:PE X o ta)(G:PE X value tv)(J:swapsWith value (some (.Attribute o nm pos')) pos.line X.env=pure false):PS X (.Assign [.Attribute o nm pos'] value pos) (Eh X.K C ta tv nm):=by
 intro pins s j H D I h;refine plainObj_wpAny_Assign_Attribute (thP (G pins s j H _ I h) λu L y M N O q=>thP (E pins L j M _ N q) λQ l x H2 d T ⟨a,ex,m,U⟩=>?_) J;subst ex;obtain rfl:Q=Value.ref a:=T;have%[%[ob,vs,e,v,Y,w,hz|h1]|_]:=d.hok a _ m;have i:=Yw (Zu e);have A:=d.hok.fresh (Zi _);refine Da d.kIn e v w Y c.sa c.ov c.no c.hd λh' B n' k=>%[j,_,?_|U ⇑l A i]
 refine Inv.stood2 d (d.write (t':=l.toks+2) (m▸True.intro) (.inl rfl) (λb u n z=>k b u n z) %[_|B] (ExO.ok B v rfl w hz h1)) ((aj i)▸A) (Zi _) %[_,n'|λg=>?_];by_cases z:g=nm
 .rw[if_pos z,z];simp only[List.lookup,beq_self_eq_true];exact O
 .rw[if_neg z];have z':(g==nm)=false:=↑z
  simp only[List.lookup,z'];exact True.intro
end
abbrev FJ(b:TE):TE:=λc H Q=>b c H λv a=>(∃i:Int,v= .int i/\i.natAbs<2^64/\Q (.str (toString i)) a)\/∃y:Str,v= .str y/\ ~~~y<=sizeLine/\Q (.str y) a
abbrev nE:List TE->Str->TE
 |[],out=>λa H Q=> ~~~out<=sizeLine/\Q (.str out) H
 | t::ts,out=>λa H Q=>t a H λv b=>∃y:Str,v= .str y/\ ~~~(out++y)<=sizeLine/\nE ts (out++y) a b Q
inductive PJ (X:Cx):List Expr->List TE->Prop
 | nil:PJ X [] []
 | cons {e:Expr} {es:List Expr} {t:TE} {ts:List TE}:PE X e t->PJ X es ts->PJ X (e::es) (t::ts)
section
variable{X:Cx}{e v1 v2:Expr}{rest:List Expr}{te t1 t2:TE}{ts:List TE}{pos:Pos}
def FK(c:PE X e te):PE X (.FormattedValue e (-1) none pos) (FJ te):=by
 intro pins s d H Q I h;refine FormattedValue_plain (thP (c pins s d H _ I h) λu j v a b r q=>?_);rcases q with⟨i,rfl,hi,q⟩|⟨y,rfl,f,q⟩
 .have%[t|rfl]:=(show∃t,u=Value.int i t from r)
  have g:i.natAbs.log2<1920:=by
   by_cases z:i.natAbs=0
   .rw[z];decide
   .exact(Nat.log2_lt z).mpr (Zg hi (Nat.pow_le_pow_right (!1) ∅))
  exact formatField_int_small g %[V.str (toString i),a,b.tok _,%[_|rfl]|q]
 .have%[t|rfl]:=(r)
  exact formatField_str (λt' tk=>%[.str y,a,b.tok _,%[_|rfl]|q]) f
def AR(h:PJ X c ts):∀(out:Str) (pins:ZF) (s:Shared) (a:St) (H:Hp) (Q:VK),Inv X pins a H s->nE ts out a H Q->
 (X⁻¹) (joinParts out (evalEach c X.env)) (EP X pins a Q) X.xe s:=by
 induction h with
 | nil=>exact λout pins s a H Q I ⟨b,q⟩=>joinParts_nil %[.str out,H,I.tok _,%[_|rfl]|q] b
 | cons d _ f=>
   intro out pins s a H Q I q;refine joinParts_cons (thP (d pins s a H _ I q) λu g v i j r ⟨y,l,b,m⟩=>?_);subst l;have%[t|rfl]:=(r)
   exact%[b|f _ pins g a i Q j m]
def Dc(h:PJ X (v1::v2::rest) ts):PE X (.JoinedStr (v1::v2::rest) pos) (nE ts Str.empty):=λpins s a H Q I q=>
 JoinedStr_many (AR h _ pins s a H Q I q)
end
abbrev wt(C:Addr)(sp:Sp)(t:TA):TE:=λb H Q=>t b H λvs a=> ~~~vs<=9/\∀x,a x=none->sp (.ref x::vs) (upd a x (ExO x C none)) (λv c=>v= .non/\Q (.ref x) c) E0
structure MkX (K:ZB) (C f:Addr):Prop where
 ex:exK K C f=true
 fn:(K.lookup f).map (·.cls)∣.type "function"
 kp:keepIn K (.ref C)=true
section
variable{X:Cx}{k:Nat}{f C:Addr}{fd:FuncData}{ps:ZC}{sp:Sp}{x:Str}{p pos cpos:Pos}{e:Expr}{es:List Expr}{te:TE}{t:TA}
def yR(M:MkX X.K C f)(F:dR X.prog X.w X.K X.mg X.base CX0 k f fd ps sp)(w:bI (k+1) X.A)(y:di X.K fd ps [])
 (I:Inv X pins j H s) (r:aI vs us) (hv: ~~~vs<=9)
 (h:∀x,H x=none->sp (.ref x::vs) (upd H x (ExO x C none)) (λv z=>v= .non/\Q (.ref x) z) E0):
 (X⁻¹) (call (.ref C) us) (EP X pins j Q) X.xe s:=by
 have%[i,g,d,tk|os]:=s;have%[nm,qn,N,bs,bm,n,sn,sub,ab,A,dd,k0,k1,k2,k3,k5,mN,B,E,hi|T]:=wp I.kIn M.ex;have%[oI,G|l]:=map_eq_some_iff.mp M.fn;refine yQ PySem.F.excBase_ValueError T B E hi (I.kIn _ _ G) l (by rw[<-r.length,sizeLine_eq];lia) ?_;have J:Inv X pins j H %[wk i C us,g,d,tk|os]:=I.keptS fP rfl rfl;have m:Inv X pins j (upd H _ (ExO _ C none)) _:=
  I.stoodS J (Yd _) (ExO.ok (uf i C us) rfl rfl rfl ∅ rfl)
 have o:=h _ (I.hok.fresh (Yd _));have q:aI (V.ref (i.objs.size+1)::vs) _:= .cons rfl r;have b: ~~~(Value.ref (i.objs.size+1)::us++[])= ~~~ps:=by
  rw[Zx,<-q.length];exact F.len _ _ _ _ o
 have c:=y _ _ m.kIn b;rw[Zx]at c;refine wpAny_call (codeAny_mono (F.run _ X.stack _ _ _ _ _ _ E0 (w.make C us []) (m.env0.make C us []) c q o) λr s' a=>?_);cases r with
 | error e=>exact False.elim a
 | ok L=>
   cases L with
   | ret u=>
     have%[v,O,U,Y,ev|q3]:=m.after a;subst ev;exact%[Y,V.ref _,O,U,ρ|q3]
   | next=>exact False.elim a
   | brk=>exact False.elim a
   | cont=>exact False.elim a
def AS(M:MkX X.K C f)(F:dR X.prog X.w X.K X.mg X.base CX0 k f fd ps sp)(d:bI (k+1) X.A)(g:Gl X x)(i:X.mg x∣.ref C)(j:di X.K fd ps [])
 (l:PA X (e::es) t) (a:(x==("__debug__":Str))=false) (m:starEach (e::es) X.env=(false,eval e X.env)::starEach es X.env) (b:(backTo pos (starEach es X.env)).any (·.1)=false):
 PE X (.Call (.Name x p) (e::es) [] pos) (wt C sp t):=by
 intro pins s n H Q I h;exact wpAny_Call_Name_kw (e9 I g i (callWith_K I.ok.mod.kin M.kp (thP (l pos pins s n H _ I h) λus u vs v c r ⟨o,q⟩=>%[c.kIn|yR M F d j c r o q]) m b) a)
abbrev sw(C:Addr)(te:TE)(W:Addr->Hp->Prop):TS:=λ_ c H=>te c H λv b=>∃a d,v= .ref a/\b a∣ExO a C (some d)/\W a b
def AT{W:Addr->Hp->Prop}(A:exK X.K C f=true)(B:X.calm=true)(E:PE X e te)
 (G:∀(pins:ZF) (i:St) (H:Hp) (s:Shared) (a d:Addr),Inv X pins i H s->H a∣ExO a C (some d)->W a H->X.xe (.ref a) s):PS X (.Raise (some e) none pos) (sw C te W):=by
 intro pins s i H D I h;show wpAny _ X.A (do standAt pos;raiseStmt X.env (some (do let v<-eval e X.env;standAt pos;pure v)) none) _ _ s;refine Z2 (wpAny_standAt ?_);unfold raiseStmt;refine Z2 (Z2 (thP (E pins s i H _ I h) λu m v J j r ⟨a,d,L,n,q⟩=>Z2 (wpAny_standAt (Z3 ?_))));subst L;obtain rfl:u=Value.ref a:=r;have%[%[M,vs,O,c,o,w,hz|Q]|_]:=j.hok a _ n;have%[nm,qn,N,bs,U,y,sn,sub,ab,Y,dd,k0,k1,k2,k3,k5,mN,z,hN,hi|T]:=wp j.kIn A;have l:(Value.ref C::U).contains (.type "BaseException")=true:=by rw[List.contains_cons,T.hasType (b:=true) (!1),Bool.or_true]
 have hE:=G pins i J m a d j n q;have%[hp,g,dr,tk|os]:=m;have%[oc,od,aa|ac]:=M;dsimp only at c o w;subst c o w;have hh:X.A.handled=none:=j.ok.hd B
 repeat (first|with_reducible refine wpAny_loadPart_at O ?_|with_reducible refine wpAny_loadPart_at z ?_|(with_reducible refine wpAny_isSubtype_exc z ?_;rw[l])|wp_step)
 rw[Q];refine Z3 ?_;rw[if_neg (!1)];exact Z3 (wpAny_raiseNew_none hh hE)
end
abbrev drop(H:Hp)(a:Addr):Hp:=λb=>if b=a then none else H b
def fQ:drop H a a=none:=by unfold drop;rw[if_pos rfl]
def bM(h:b≠a):drop H a b=H b:=by unfold drop;rw[if_neg h]
def yS{P:Program}{K:ZB}
 (hk:exK K C f=true) (he:PE (eO (CXO P w) P w K mg base N h g p r A outer s₀ H₀ E) e te):
 PS (eO (CXO P w) P w K mg base N h g p r A outer s₀ H₀ E) (.Raise (some e) none pos) (sw C te λa H=>∃d,H a∣ExO a C (some d)/\H₀ a=none/\E (.ref C) (some d) (drop H a)):=by
 refine AT hk rfl he λpins σ H s a ag I _ ⟨d,J,hn,q⟩=>?_
 have%[%[oe,vs,ea,Y,hd,hf,hz|h1]|_]:=I.hok a _ J;have ST:=I.stack;have SF:=I.stkFree;have L0:⇑s₀<=(envOfC h g ⇑s₀ p r).locals:=Zi _;show wpAny (model P w) (A.deeper (envOfC h g ⇑s₀ p r)) (leaving (envOfC h g ⇑s₀ p r) (.ref a)) _ _ s;have aa:a∉frs (envOfC h g ⇑s₀ p r::outer):=λz=>by
  have:=SF a z;rw[J]at this;cases this
 refine ue (.inl rfl) I.ok.frames rfl %[λb o z=>of_hideAll _ z,PySem.W.hideAll_none _ (mem_cons.mpr (.inl rfl)),PySem.W.funFrames_hide ST λen ab b i=>mem_cons.mpr (.inr (mem_filterMap.mpr %[en,ab|i])),oe,vs,ea,Y,hd,hf,hz|h1] λh' u sm=>?_
 have G:∀b o,s.heap.get? b∣o->b≠a->b∉frs (envOfC h g ⇑s₀ p r::outer)->h'.get? b∣o/\(hideAll s.heap (a::frs (envOfC h g ⇑s₀ p r::outer))).get? b∣o:=λb o z n1 n2=>by
  have hB:=hideAll_get (a::frs (envOfC h g ⇑s₀ p r::outer)) z λm=>(mem_cons.mp m).elim n1 n2
  exact%[u.1 b o hB|hB]
 have T:∀b o,s.heap.get? b∣o->b∈frs (envOfC h g ⇑s₀ p r::outer)->∃sl,h'.get? b=some {o with slots:=sl}:=λb o z i=>by
  have%[_,o',z'|M]:=ST.mem i;rw[z]at z';cases z';exact sm b o z M
 have nL:∀b o,s₀.heap.get? b∣o->b∉frs outer->b∉frs (envOfC h g ⇑s₀ p r::outer):=λb o z n m=>by
  rcases mem_cons.mp (show b∈⇑s₀::frs outer from m)with y|y
  .exact absurd (Zu z) (y▸Xg _)
  .exact n y
 have sub:∀b,b∈frs outer->b∈frs (envOfC h g ⇑s₀ p r::outer):=λb i=>mem_cons.mpr (.inr i)
 have j:∀b,b∉(eO (CXO P w) P w K mg base N h g p r A outer s₀ H₀ E).ex:=λb z=>absurd (show b∈([]:List Addr)from z) ∅
 have new:s₀.heap.get? a=none:=by
  cases z:s₀.heap.get? a with
  | none=>rfl
  | some o=>
    have:=I.base.free a o z hn (j a);rw[J]at this;cases this
 have trk:∀b o,H b∣o->b∉frs (envOfC h g ⇑s₀ p r::outer):=λb o z m=>by
  rw[SF b m]at z;cases z
 refine%[a,_,.ref C,some d,drop H a,ρ,%[I.os,I.bare,%[λb o z n i hx=>?_,λb o z n i hx=>?_,λb o z n hx=>?_,λb o z hx=>?_,λb xs z=>?_,λb o v z=>?_|λb ps z=>?_],λb o z=>?_,u,fQ,new,λb ob z i M=>?_|λb i=>?_]|q]
 .have l:=I.base.keep b o z n i (j b);refine(G b o l (λy=>?_) (nL b o z i)).1;subst y;rw[new]at z;cases z
 .have%[sl|l]:=I.base.slot b o z n i (j b);have%[ac|Q]:=T b _ l (sub b i);exact%[ac|Q]
 .by_cases y:b=a
  .exact y▸fQ
  .rw[bM y];exact I.base.free b o z n (j b)
 .have%[O|l]:=I.base.there b o z (j b);by_cases i:b∈frs (envOfC h g ⇑s₀ p r::outer)
  .have%[sl|Q]:=T b O l i;exact%[_|Q]
  .refine%[O|(G b O l (λy=>?_) i).1];subst y;rw[new]at z;cases z
 .have l:=I.base.tups b xs z;rw[bM (mQ l J (by simp[ExO]))];exact l
 .have l:=I.base.frzs b o v z;rw[bM (mQ l J (by simp[ExO]))];exact l
 .have%[m|l]:=I.base.tbls b ps z;refine%[m|?_];rw[bM (mQ l J (by simp[ExO]))];exact l
 .have y:b≠a:=λy=>by rw[y,fQ]at z;cases z
  rw[bM y]at z;refine(I.hok b o z).stay (λc u' U L=>?_) (λc L=>?_) λc xs L=>?_
  .rcases U with rfl|U
   .exact(G c u' L y (trk c o z)).1
   .exact(G c u' L (mQ U J (by simp[ExO])) (trk c _ U)).1
  .rw[bM (mQ L J (by simp[ExO]))];exact L
  .rw[bM (mQ L J (by simp[ExO]))];exact L
 .have y:b≠a:=λy=>by
   rcases i with⟨o,B⟩|⟨o,B⟩
   .rw[y,new]at B;cases B
   .rw[y,fQ]at B;cases B
  have nf:b∉frs (envOfC h g ⇑s₀ p r::outer):=by
   rcases i with⟨o,B⟩|⟨o,B⟩
   .exact nL b o B M
   .rw[bM y]at B;exact trk b o B
  have ex:∃O,s.heap.get? b∣O:=by
   rcases i with⟨o,B⟩|⟨o,B⟩
   .exact I.base.there b o B (j b)
   .rw[bM y]at B;exact(I.hok b o B).there
  have%[O|l]:=ex;have%[Q|e3]:=G b O l y nf;rw[show h'.get? b∣ob from z]at Q;cases Q;exact e3
 .have y:b≠a:=λy=>aa (y▸sub b i)
  rw[bM y];exact SF b (sub b i)
abbrev ExH(a C:Addr)(d:ZJ):HO:= .ext λh=>∃o vs,h.get? a∣o/\o.cls= .ref C/\o.dict=d/\o.data= .fields vs
def ExH.ok{P:Program}(e:h.get? a∣o)(b:o.cls= .ref C)(c:o.dict=d)(f:o.data= .fields vs):
 bV P w H h a (ExH a C d):=
 %[%[o,vs,e,b,c|f],%[o|e]|λg i ⟨o,vs,e,r⟩ k=>%[o,vs,k o e|r]]
section
variable{X:Cx}{pins:ZF}{σ:St}{H:Hp}{s s':Shared}
def Dd(I:Inv X pins σ H s)(L:X.N.Nodup)(hi:X.N[i]?∣n)(N:X.env.kindOf n∣.local)
 (h:∀s',Inv X pins (σ.set i none) H s'->Q () s'):wpAny M A (do bindName X.env n .none;unbindBehindTheSuite X.env n pos) Q E s:=by
 have%[m,O|T]:=id I.loc;have B:i<σ.length:=I.len▸(Xi hi).1;refine wpAny_nameGoes_keeps N O (by rw[I.ok.kind];rfl) λh' v u a=>h _ ?_
 have f:∀b o,X.s₀.heap.get? b∣o->b≠X.env.locals:=λb o e=>Zs (Zg (Zu e) I.ok.above)
 refine%[I.ok,I.os,I.bare,%[λb o e n w l=>?_,λb o e n w l=>?_,I.base.free,λb o e l=>?_,I.base.tups,I.base.frzs|I.base.tbls],%[_,u|λj y U g C Y=>?_],λy c e=>?_,I.free,I.freeC,λp hp=>?_,λb ob e=>?_|by simpa using I.len]
 .exact(a.2 b (f b o e)).trans (I.base.keep b o e n w l)
 .have%[sl|g]:=I.base.slot b o e n w l;exact%[sl|(a.2 b (f b o e)).trans g]
 .have%[o'|g]:=I.base.there b o e l;exact%[o'|(a.2 b (f b o e)).trans g]
 .have G:j≠i:=λz=>by
   simp_all
  rw[List.getElem?_set_ne (Ne.symm G)]at C;have%[u',r'|q]:=T j y U g C Y;refine%[u',r'|?_];rcases q with⟨k,e⟩|⟨k,c,e,z⟩
  .refine .inl %[k|?_];have:y≠n:=λe=>G (im L g (e▸hi))
   simp[this,e]
  .exact .inr %[k,c,e|z.sameBut a (I.cne y c e)]
 .have%[J|z]:=I.cell y c e;exact%[J|z.sameBut a (I.cne y c e)]
 .have%[e,n,ne,nf|d]:=I.pin p hp;exact%[(a.2 p.1 ne).trans e,n,ne,nf|d]
 .refine(I.hok b ob e).stay (λc J r q=>(a.2 c ?_).trans q) (λ_ q=>q) λ_ _ q=>q
  rintro rfl;rcases r with rfl|r
  .rw[I.free]at e;cases e
  .rw[I.free]at r;cases r
def Inv.stood3(I:Inv X c y B s)(g:∀p∈pins,p∈c)(J:Inv X pins σ H s')(d:H a=none)(C:s.heap.get? a=none)(new:bV X.prog X.w (upd H a o) s'.heap a o):Inv X pins σ (upd H a o) s':=by
 have ne:∀{b:Addr} {o:Obj},s.heap.get? b∣o->b≠a:=λe z=>by lia
 refine%[J.ok,J.os,J.bare,?_,J.loc,J.cell,?_,?_,?_,?_|J.len]
 .refine%[J.base.keep,J.base.slot,λb o e n j=>?_,J.base.there,λb xs e=>?_,λb o v e=>?_|λb ps e=>?_]
  .have%[E|A]:=I.base.there b o e j;rw[aj (ne A)];exact J.base.free b o e n j
  .rw[aj (ax (J.base.tups b xs e) d)];exact J.base.tups b xs e
  .rw[aj (ax (J.base.frzs b o v e) d)];exact J.base.frzs b o v e
  .have%[m|q]:=J.base.tbls b ps e;exact%[m|(aj (ax q d))▸q]
 .have%[m,%[G,_,_,h|_]|_]:=I.loc;rw[aj (ne h)];exact J.free
 .intro l f e;have%[L,M,i|_]:=I.cell l f e;rw[aj (ne i)];exact J.freeC l f e
 .intro p u;have%[e,n|r]:=J.pin p u;refine%[e,?_|r];have:=(I.pin p ((Xj u).elim (λz=>Yr _ z) λz=>Ys _ (g p z))).1;rw[aj (ne this)];exact n
 .intro b v e;by_cases w:b=a
  .subst w;rw[ae]at e;cases e;exact new
  .rw[aj w]at e;refine(J.hok b v e).stay (λ_ _ _ q=>q) (λf q=>?_) λf xs q=>?_
   .rw[aj (ax q d)];exact q
   .rw[aj (ax q d)];exact q
end
section
variable{M:Model}{A:Around}{E:ZE}{s:Shared}{K:ZB}{D C e:Addr}{oe:Obj}{b:Bool}{Q:Bool->Shared->Prop}
def AU(X:K.In s.heap)(i:typeIn K (.ref D)∣.type "type")(j:subIn K (.ref D) (.type "BaseException")∣true)(d:(K.lookup D).any (λo=>match o.data with| .cls _=>true|_=>false)=true)
 (l:s.heap.get? e∣oe) (m:oe.cls= .ref C) (n:subIn K (.ref C) (.ref D)∣b) (f:Q b s):wpAny M A (excMatches (.ref e) (.ref D)) Q E s:=by
 have%[g,p|c]:=any_some d;refine Z2 (Z2 ((PySem.W.looks_typeIn X i).here ?_));rw[tc_notTuple];refine Z3 (Z2 (Z3 ?_));have a:∃h,g.data= .cls h:=by
  revert c
  cases g.data<;> intro c<;> first|exact⟨_,rfl⟩|cases c
 have%[h|a]:=a;have LT:Looks M s.heap (typeOf (.ref e)) _:=λq u v s' k r=>by
  exact Z2 (wpAny_loadPart (k _ _ l) (Z3 (m▸r)))
 refine Z2 (Z2 (Z2 (Z2 (Z2 (wpAny_loadPart (X _ _ p) (Z3 ?_))))));rw[a,if_pos rfl];refine(looks_subIn X j).here (Z3 (Z3 (Z2 (LT.here (Z2 (Z2 (Z2 ((looks_subIn X n).here ?_))))))));cases b with
 | true=>
   exact Z3 (Z3 (Z3 f))
 | false=>
   exact Z3 (Z3 (Z3 f))
end
noncomputable abbrev Cx.suiteX(X:Cx)(a:Addr):Cx:={X with A:=X.A.mark (some (.ref a)),calm:=false,xe:=λ_ _=>False}
section
variable{X:Cx}{pins pins' pn:ZF}{σ:St}{H:Hp}{s:Shared}{E:ZE}
def Hb(ok:X.Ok)(pn:List _)(E:ZE):({X with pn:=pn,xe:=E}).Ok:=
 %[ok.mod,ok.kind,ok.glob,ok.blt,ok.above,ok.inj,ok.has,ok.cab,ok.hd,ok.frames,ok.stk,ok.exf,ok.bs,ok.bsz,ok.noex,ok.exfs,ok.funs|ok.frf]
def unPn(ok:({X with pn:=pn,xe:=E}).Ok):X.Ok:=
 %[ok.mod,ok.kind,ok.glob,ok.blt,ok.above,ok.inj,ok.has,ok.cab,ok.hd,ok.frames,ok.stk,ok.exf,ok.bs,ok.bsz,ok.noex,ok.exfs,ok.funs|ok.frf]
def Inv.toPn(I:Inv X pins σ H s)(E:ZE):Inv ({X with pn:=X.pn++pins,xe:=E}) [] σ H s:=
 %[Hb I.ok _ E,I.os,I.bare,I.base,I.loc,I.cell,I.free,I.freeC,λp a=>I.pin p ↑a,I.hok|I.len]
def Inv.ofPn(I:Inv ({X with pn:=X.pn++pins,xe:=E}) pins' σ H s):Inv X pins σ H s:=
 %[unPn I.ok,I.os,I.bare,I.base,I.loc,I.cell,I.free,I.freeC,λp a=>I.pin p (Yr _ a),I.hok|I.len]
def Inv.toSuite(I:Inv X pins σ H s)(a:Addr):Inv (X.suiteX a) pins σ H s:=
 %[%[I.ok.mod,I.ok.kind,I.ok.glob,I.ok.blt,I.ok.above,I.ok.inj,I.ok.has,I.ok.cab,(λz=>Bool.noConfusion z),I.ok.frames,I.ok.stk,I.ok.exf,I.ok.bs,I.ok.bsz,I.ok.noex,I.ok.exfs,I.ok.funs|I.ok.frf],I.os,I.bare,I.base,I.loc,I.cell,I.free,I.freeC,I.pin,I.hok|I.len]
def Inv.ofSuite(I:Inv (X.suiteX a) pins σ H s)(ok:X.Ok):Inv X pins σ H s:=%[ok,I.os,I.bare,I.base,I.loc,I.cell,I.free,I.freeC,I.pin,I.hok|I.len]
def SP.ofPn{D:ik}(h:SP ({X with pn:=X.pn++pins,xe:=E}:Cx) [] D f s):SP X pins D f s:=by
 cases f with
 | next=>have%[a,b,I|q]:=h;exact%[a,b,I.ofPn|q]
 | brk=>have%[a,b,I|q]:=h;exact%[a,b,I.ofPn|q]
 | cont=>have%[a,b,I|q]:=h;exact%[a,b,I.ofPn|q]
 | ret u=>have%[v,a,b,I,r|q]:=h;exact%[v,a,b,I.ofPn,r|q]
end
abbrev ik.gone(D:ik)(i:Nat):ik:={nx:=λa H=>D.nx (a.set i none) H,rt:=D.rt,bk:=λa H=>D.bk (a.set i none) H,ct:=λa H=>D.ct (a.set i none) H}
structure Cat (K:ZB) (D:Addr):Prop where
 ty:typeIn K (.ref D)∣.type "type"
 ex:subIn K (.ref D) (.type "BaseException")∣true
 cd:(K.lookup D).any (λo=>match o.data with| .cls _=>true|_=>false)=true
structure De (K:ZB) (C:Addr) (f:Str):Prop where
 ga:findIn K (.ref C) "__getattribute__"=some (some (.builtin "BaseException.__getattribute__"))
 hk:findIn K (.ref C) "__getattr__"=some none
 sub:subIn K (.ref C) (.type "BaseException")∣true
 no:findIn K (.ref C) f∣none
 hd:hasDictIn K C=true
section
#where
variable{K:ZB}{x C:Addr}{name:Str}{v:Value}{ox:Obj}{od:Option Obj}
def FL(X:K.In s.heap)(I:PySem.W.InstAt s.heap x ox C od)(c:De K C name)(d:findObj K C od name∣.value v)(f:handedIn v=true)
 (h:Q v {s with toks:=s.toks+1}):↥A (getAttr (.ref x) name a) Q E s:=by
 have b:Looks (model prog w) s.heap (typeOf (.ref x)) (.ref C):=I.type;have sub:Looks (model prog w) s.heap (isInstance (.ref x) (.type "BaseException")) true:=b.andThen (looks_subIn X c.sub);have g:=looks_find (M:=model prog w) X I d;have S:=PySem.F.excAttr_ValueError.ga;refine Z2 (wpAny_mkText (wpAny_holding (Z2 (b _ _ _ _ (λ_ _ e=>e) (Z2 (looks_findIn X c.ga _ _ _ _ (λ_ _ e=>e) ?_))))));dsimp only;rw[show(onTheHeap (Value.ref C)&&Value.builtin "BaseException.__getattribute__"==Value.builtin "object.__getattribute__")=false from by rw[show(Value.builtin "BaseException.__getattribute__"==Value.builtin "object.__getattribute__")=false from !0,Bool.and_false],if_neg (!1)];refine Z2 (looks_hook X (mc:= .ref C) (r:=none) (c.hk) _ _ _ _ (λ_ _ e=>e) (Z2 (wpAny_attempt (wpAny_holding ?_))));unfold callGetattribute;rw[show(a&&onTheHeap (Value.builtin _))=false from Bool.and_false _,if_neg (!1)];unfold boundAndCalled;rw[S.bind];refine wpAny_call ?_;refine codeAny_call_builtin S.plain PySem.F.entry_bexc_ga ?_;refine @check_slot _ _ _ _ _ _ "__getattribute__" _ _ [] _ (!0) (!0) sub (PySem.F.args_bexc_ga _ _) ?_;refine Z2 (Z3 (Z2 (Z3 (Z2 (Looks.here b (Z2 (Looks.here g (Z3 ?_))))))));show wpAny _ _ (handedOut v) _ _ _;rw[PySem.W.handedOut_of f];exact Z3 h
end
abbrev AV(C:Addr)(c:TE)(f:Str):TE:=λe H Q=>c e H λx b=>∃a d fs v,x= .ref a/\b a∣ExH a C (some d)/\b d∣.xd fs/\fs.lookup f∣v/\Q v b
def Df{X:Cx}(c:De X.K C f)(n:PE X e p)(w:attributeBase e f X.env (eval e X.env)=eval e X.env):PE X (.Attribute e f pos) (AV C p f):=by
 intro pins s y H Q I h;refine xq w (thP (n pins s y H _ I h) λu U x z b A ⟨a,d,fs,v,ex,B,E,l,q⟩=>?_);subst ex;obtain rfl:u=Value.ref a:=A;have%[%[o,vs,G,g,i|j]|_]:=b.hok a _ B;have%[Y,n1|r]:=b.hok d _ E;have%[uv,J|m]:=fD.some_of (l▸r f);have%[od,L|M]:=pV n1;have%[oc,N,O|T]:=o;dsimp only at g i j;subst g i j;exact FL b.kIn %[G,rfl,rfl|L] c (findObj_own c.hd c.no rfl (by rw[M,J])) (pW m) %[v,z,b.tok _,m|q]
structure XIs (K:ZB) (C:Addr):Prop where
 ga:findIn K (.ref C) "__getattribute__"=some (some (.builtin "BaseException.__getattribute__"))
 hk:findIn K (.ref C) "__getattr__"=some none
 sub:subIn K (.ref C) (.type "BaseException")∣true
 hd:hasDictIn K C=true
 cl:findIn K (.ref C) "__class__"=some (some (.builtin "object.__class__"))
 gt:specialIn K (.builtin "object.__class__") "__get__"=some (some (.builtin "getset_descriptor.__get__"))
 tk:takesIn K (.builtin "object.__class__")∣true
 ob:mroIn K C (.type "object")∣true
section
#where
variable{K:ZB}{x C:Addr}{ox:Obj}{od:Option Obj}
def FM(X:K.In s.heap)(I:PySem.W.InstAt s.heap x ox C od)(c:XIs K C)(h:Q (some (.ref C)) {s with toks:=s.toks+1}):↥A (getAttr? (.ref x) "__class__") Q E s:=by
 have a:Looks (model prog w) s.heap (typeOf (.ref x)) (.ref C):=I.type;have sub:Looks (model prog w) s.heap (isInstance (.ref x) (.type "BaseException")) true:=a.andThen (looks_subIn X c.sub);have b:findObj K C od "__class__"=some (.bind (.builtin "getset_descriptor.__get__") (.builtin "object.__class__")):=by
  have%[g,d|_]:=any_some c.hd;unfold findObj;rw[d,bind_some,c.cl,bind_some];dsimp only;rw[c.gt,bind_some];dsimp only;rw[c.tk,bind_some]
 have f:=looks_find (M:=model prog w) X I b;have S:=PySem.F.excAttr_ValueError.ga;unfold getAttr? getAttrBy? getAttrBy;refine Z2 (wpAny_mkText (Z2 (wpAny_attempt (wpAny_holding (Z2 (a _ _ _ _ (λ_ _ e=>e) (Z2 (looks_findIn X c.ga _ _ _ _ (λ_ _ e=>e) ?_))))))));dsimp only;rw[show(onTheHeap (Value.ref C)&&Value.builtin "BaseException.__getattribute__"==Value.builtin "object.__getattribute__")=false from by rw[show(Value.builtin "BaseException.__getattribute__"==Value.builtin "object.__getattribute__")=false from !0,Bool.and_false],if_neg (!1)];refine Z2 (looks_hook X (mc:= .ref C) (r:=none) (c.hk) _ _ _ _ (λ_ _ e=>e) (Z2 (wpAny_attempt (wpAny_holding ?_))));unfold callGetattribute;rw[show(false&&onTheHeap (Value.builtin "BaseException.__getattribute__"))=false from rfl,if_neg (!1)];unfold boundAndCalled;rw[S.bind];refine Z2 (Z3 ?_);show wpAny _ _ (call (.builtin "BaseException.__getattribute__") _) _ _ _;refine wpAny_call ?_;refine codeAny_call_builtin S.plain PySem.F.entry_bexc_ga ?_;refine @check_slot (model prog w) _ _ {s with toks:=s.toks+1} _ "BaseException" "__getattribute__" (.ref x) [.str "__class__" s.toks] [] _ (!0) (!0) sub (PySem.F.args_bexc_ga (.ref x) (.str "__class__" s.toks)) ?_;exact Z2 (Z3 (Z2 (Z3 (Z2 (Looks.here a (Z2 (Looks.here f (Z2 (wpAny_holding (wpAny_call (PySem.W.class_get (ox:=ox) (od:=od) X I c.ob (Z3 (Z3 (Z3 h))))))))))))))
def Dg(c:XIs K C):KitX K (.ref x) (.ref C) (λh=>∃ox od,PySem.W.InstAt h x ox C od) where
 ty:=λ_ _ _ ⟨_,_,I⟩=>I.type
 it:=λ_ _ X _=>by
  have%[cdD,hcD|_]:=any_some c.hd;unfold clsIn at hcD
  split at hcD
  .rename_i c' d' cd' sl' ho
   intro A' Q' E' s' k q;exact Z2 (wpAny_loadPart (k _ _ (X _ _ ho)) (Z3 q))
  .cases hcD
 ne:=λh tp dd its n sl X htp=>by
  have%[cdD,hcD|_]:=any_some c.hd;refine Bool.eq_false_iff.mpr λq=>?_
  have e:=Value.ref.inj (beq_iff_eq.mp q);subst e;unfold clsIn at hcD
  split at hcD
  .rename_i c' d' cd' sl' ho
   have z:=(X _ _ ho).symm.trans htp;cases z
  .cases hcD
 ca:=λX ⟨_,_,I⟩ k=>FM X I c k
end
abbrev Held(H:Hp)(a C:Addr):Prop:=∃d,H a∣ExH a C d/\(d=none\/∃b fs,d∣b/\H b∣.xd fs)
inductive TyX (K:ZB) (H:Hp):V->Value->Prop where
 | non:TyX K H .non (.type "NoneType")
 | ex {a C:Addr} (h:Held H a C) (c:XIs K C):TyX K H (.ref a) (.ref C)
section
#version
def TyX.kit(ty:TyX X.K H x t)(I:Inv X pins σ H s)(r:aV x u):∃f:Heap->Prop,KitX X.K u t f/\f s.heap/\u≠ .builtin "__main__.__loader__#opaque":=by
 cases ty with
 | non=>
   cases(r);exact%[_,kitx_none,True.intro|λz=>nomatch z]
 | @ex a C h c=>
   cases(r);have%[d,j|l]:=h;have%[%[o,vs,e,g,b|i]|_]:=I.hok a _ j;have%[y,m,n|p]:=o;dsimp only at g b i;subst g b i;refine%[_,Dg c,?_|λz=>nomatch z];rcases l with rfl|⟨q,fs,rfl,v⟩
   .exact%[_,none,e,ρ,ρ|trivial]
   .have%[od|w]:=(I.hok q _ v).there;exact%[_,some od,e,ρ,ρ|w]
end
def qx:∀{a:List Addr} {us:ZG},aI (a.map V.ref) us->us=a.map Value.ref
 |[],_,.nil=>rfl
 | _::_,_,.cons r t=>by
   cases r;rw[qx t];rfl
def AW{X:Cx}:bW X (.builtin "isinstance") (λxs H Q=>∃x y t b,xs=[x,y]/\TyX X.K H x t/\
 ((∃n,y= .ty n/\kitOne X.K t (.type n)∣b)\/(∃D,y= .ref D/\kitOne X.K t (.ref D)∣b)\/∃c d,y= .ref c/\H c&&&List.map V.ref d/\kitAny X.K t (d.map Value.ref)∣b)/\Q (.bl b) H):=by
 intro pins s B H xs us Q I r h;have%[x,y,t,b,rfl,ty,f|q]:=h;have%[u,C,rfl,g|a]:=ip r;have%[E,Z,p|nb]:=ty.kit I g;rcases f with⟨n,rfl,e⟩|⟨D,rfl,e⟩|⟨c,d,rfl,i,e⟩
 .cases(a);exact kia_one Z I.kIn p e nb λtk=>%[.bl b,H,I.tok tk,rfl|q]
 .cases(a);exact kia_one Z I.kIn p e nb λtk=>%[.bl b,H,I.tok tk,rfl|q]
 .cases(a);have%[_,its,j,o,l,m,n|v]:=I.hok c _ i;have:=qx j;subst this;have%[G,w,z|A]:=o;subst m v;exact PySem.W.kia_tup Z I.kIn p l e nb λtk=>%[.bl b,H,I.tok tk,rfl|q]
def FN{X:Cx}{D:Addr}(b:Gl X x)(c:X.mg x∣.ref D)(a:(x==("__debug__":Str))=false):PE X (.Name x p) (λd H Q=>Q (.ref D) H):=λpins s d H Q I h=>
 e9 I b c %[.ref D,H,I,rfl|h] a
def Fun.okX{P:Program}{K:ZB}{st:Stmt}(F:Fun K x b st f g)(S:az N ps (ao st))(len:∀vs H Q E,sp vs H Q E-> ~~~vs= ~~~ps)
 (c:∀(a:Value) (A:Around) (outer:List Env) (s:Shared) (H:Hp) (vs:List V) (Q:VK) (E:XK),bI k (A.deeper (envOfC b (ao st) ⇑s f a))->sp vs H Q E->
  ∃t,PSs (eO (CXO P w) P w K mg base N b (ao st) f a A outer s H E) (bJ st) t/\t {nx:=λ_ h=>Q .non h,rt:=Q} (start N vs) H):dR P w K mg base (CXO P w) (k+1) f g ps sp:=by
 have%[m,od,kV,i,n,o,a,ct,j,rfl,lk|d]:=F.ex;exact DV lk d S len λA outer s H vs Q E l e=>c a A outer s H vs Q E l e
abbrev aJ(mg:ZD)(x:Str):Addr:=match mg x with
 | some (.ref C)=>C
 | _=>0
def eB(h:mg x∣.ref C):aJ mg x=C:=by unfold aJ;rw[h]
structure AX (K:ZB) (mg:ZD) (x qual:Str) (st:Stmt) (ps:ZC):Prop where
 at_:mg x∣.ref (aJ mg x)
 is:XIs K (aJ mg x)
 ini:∃f fd,MkX K (aJ mg x) f/\Fun K "__init__" qual st f fd/\di K fd ps []
structure AY (P:Program) (w:World) (K:ZB) (mg:ZD) (base:Heap) (k:Nat) (x:Str) (ps:ZC) (sp:Sp):Prop where
 ex:∃f fd,dR P w K mg base (CXO P w) k f fd ps sp/\mg x∣.ref f/\keepIn K (.ref f)=true/\di K fd ps []
structure FO (P:Program) (w:World) (K:ZB) (mg:ZD) (base:Heap) (k:Nat) (x:Str) (ps:ZC) (sp:Sp):Prop where
 ex:∃f fd,dR P w K mg base CX0 k f fd ps sp/\MkX K (aJ mg x) f/\mg x∣.ref (aJ mg x)/\di K fd ps []
section
variable{P:Program}{w:World}{K:ZB}{mg:ZD}{base:Heap}{x qual:Str}{st:Stmt}{N ps:ZC}{k:Nat}{sp:Sp}
def aM.calX(D:aM K mg x st ps)(S:az N ps (ao st))
 (a:∀(H:Hp) (vs:List V) (Q:VK) (E:XK),sp vs H Q E-> ~~~vs= ~~~ps/\∀(f:Addr) (b:Value) (A:Around) (outer:List Env) (s:Shared),bI k (A.deeper (envOfC x (ao st) ⇑s f b))->
  ∃t,PSs (eO (CXO P w) P w K mg base N x (ao st) f b A outer s H E) (bJ st) t/\t {nx:=λ_ c=>Q .non c,rt:=Q} (start N vs) H):AY P w K mg base (k+1) x ps sp:=by
 have%[f,d,F,e|g]:=D.ex;exact%[f,d,F.okX S (λv H Q E h=>(a H v Q E h).1) (λb A o s H v Q E r h=>(a H v Q E h).2 f b A o s r),e,F.kp|g]
def AX.cal(D:AX K mg x qual st ps)(S:az N ps (ao st))(len:∀vs H Q E,sp vs H Q E-> ~~~vs= ~~~ps)
 (b:∀(f:Addr) (a:Value) (A:Around) (outer:List Env) (s:Shared) (H:Hp) (vs:List V) (Q:VK) (E:XK),exK K (aJ mg x) f=true->bI k (A.deeper (envOfC qual (ao st) ⇑s f a))->sp vs H Q E->
  ∃t,PSs (eO CX0 P w K mg base N qual (ao st) f a A outer s H E).nox (bJ st) t/\t {nx:=λ_ c=>Q .non c,rt:=Q} (start N vs) H):FO P w K mg base (k+1) x ps sp:=by
 have%[f,d,M,F|e]:=D.ini;exact%[f,d,F.ok S len λa A outer s H vs Q E=>b f a A outer s H vs Q E M.ex,M,D.at_|e]
end
section
variable{X:Cx}{K:ZB}{pos:Pos}
def Hc(g:gi (CXO X.prog X.w) X E)(C:AY X.prog X.w X.K X.mg X.base j x ps sp)(h:bI k X.A)(i:Gl X x)(a:Nat.ble j k=true)
 (b:(x==("__debug__":Str))=false) (c:(e::d).any bd=false) (l:QA X (e::d) t):QE X (.Call (.Name x p) (e::d) [] pos) (pX sp [] E t):=by
 rw[Zw,X3]at c;have%[f,q,F,m,n|o]:=C.ex;exact⟨xv F (h.mono (Yb a)) i m n o .nil g l.h b (aB c.1) (dj c.2)⟩
def FP(C:FO X.prog X.w X.K X.mg X.base j x ps sp)(g:bI k X.A)(h:Gl X x)(a:Nat.ble (j+1) k=true)
 (b:(x==("__debug__":Str))=false) (c:(e::d).any bd=false) (i:QA X (e::d) t):QE X (.Call (.Name x p) (e::d) [] pos) (wt (aJ X.mg x) sp t):=by
 rw[Zw,X3]at c;have%[f,n,F,M,l|m]:=C.ex;exact⟨AS M F (g.mono (Yb a)) h l m i.h b (aB c.1) (dj c.2)⟩
def clsE(b:Gl X x)(c:X.mg x∣.ref (aJ X.mg x))(a:(x==("__debug__":Str))=false):QE X (.Name x p) (tC (.ref (aJ X.mg x))):=⟨FN b c a⟩
def FQ(a:QE X e b):QE X (.FormattedValue e (-1) none pos) (FJ b):=⟨FK a.h⟩
def AZ:PJ X [] []:= .nil
def pjE(a:QE X e t)(h:PJ X b ts):PJ X (e::b) (t::ts):= .cons a.h h
def A0{rest:List Expr}(h:PJ X (v1::a::rest) ts):QE X (.JoinedStr (v1::a::rest) pos) (nE ts Str.empty):=⟨Dc h⟩
def Hd(c:De X.K C f)(a:gu e=false)(b:QE X e d):QE X (.Attribute e f pos) (AV C d f):=⟨Df c b.h (fi a)⟩
def He(c:FI X.K C f)(b:fh e=false)(d:QE X o g)(h:QE X e i):QS X (.Assign [.Attribute o f a] e pos) (Eh X.K C g i f):=⟨Db c d.h h.h (iw b)⟩
def A1(h:X.K=K):cp X (.builtin "isinstance") (λxs H Q=>∃x y t b,xs=[x,y]/\TyX K H x t/\
 ((∃n,y= .ty n/\kitOne K t (.type n)∣b)\/(∃D,y= .ref D/\kitOne K t (.ref D)∣b)\/∃a c,y= .ref a/\H a&&&List.map V.ref c/\kitAny K t (c.map Value.ref)∣b)/\Q (.bl b) H):=by
 subst h;exact⟨AW⟩
end
def FR{P:Program}{K:ZB}
 (g:exK K C f=true) (h:QE (eO (CXO P w) P w K mg base N c b i j A outer s₀ H₀ E) e l):
 QS (eO (CXO P w) P w K mg base N c b i j A outer s₀ H₀ E) (.Raise (some e) none pos) (sw C l λa H=>∃d,H a∣ExO a C (some d)/\H₀ a=none/\E (.ref C) (some d) (drop H a)):=⟨yS g h.h⟩
def FS{X:Cx}{C D f:Addr}(l:exK X.K C f=true)(m:Gl X x)(n:X.mg x∣.ref D)(B:AO X.K D)(g:(x==("__debug__":Str))=false)(h:(e::c).any bd=false)
 (i:∃pl:Sem Bool,eval (.Call (.Attribute (.Name x p) "__init__" b) (e::c) [] pos) X.env=(do
  let j<-eval (.Name x p) X.env
  standAt b.atName
  let(f,first)<-holding [j] (getMethod j "__init__" pl)
  callWith pos f first (backTo pos (starEach (e::c) X.env)) (backToKw pos (keywordEach [] X.env)))) (o:QA X (e::c) t):
 QE X (.Call (.Attribute (.Name x p) "__init__" b) (e::c) [] pos) (tCB (λxs H Q=>∃a d ys,xs=V.ref a::ys/\ ~~~ys<=9/\H a∣ExO a C d/\Q .non H) t):=by
 rw[Zw,X3]at h;have%[pl|i]:=i;exact⟨AQ m n B (wq l) o.h g (aB h.1) (dj h.2) i⟩
section
#where
end
abbrev clo(c:TE):TE:=λd H Q=>∃a:VK,c d H a/\∀v b,a v b->Q v b
def FT{X:Cx}(h:PE X e b):PE X e (clo b):=λpins s c H Q I ⟨d,q,k⟩=>
 thP (h pins s c H d I q) λ_ _ v a f r z=>%[v,a,f,r|k v a z]
def FU{X:Cx}(h:PE X e t)(k:∀a H Q,t' a H Q->t a H Q):PE X e t':=λpins s a H Q I q=>h pins s a H Q I (k a H Q q)
def A2(h:H r=none):drop (upd H r o) r=H:=by
 funext b;unfold drop upd
 simp_all
section
variable{X:Cx}{K:ZB}{pos:Pos}
end
end _L
namespace _S
open PySem PyProof.Rows
section
variable(prog:Program)(w:World)(A:Around)(SI:Shared->Prop)
abbrev SC{a:Type}(m:StateT SortSt Sem a)(Q:a->SortSt->Prop)(st:SortSt):Prop:=
 ∀s,SI s->↥A (m.run st) (λr s'=>SI s'/\Q r.1 r.2) (λ_ _=>False) s
nonrec abbrev ZY:=Array Keyed
abbrev Cmp(a:SortKind)(D:Keyed->Prop)(N:Keyed->Nat):Prop:=
 ∀x y s,D x->D y->SI s->↥A (keyLt' a x.1 y.1) (λb s'=>b=decide (N x<N y)/\SI s') (λ_ _=>False) s
end
section
variable{prog:Program}{w:World}{A:Around}{SI:Shared->Prop}{α β:Type}
def aw{st:SortSt}(h:Q a st):(SC prog w A SI) (pure a) Q st:=λs b=>by
 exact Z3 %[b|h]
def au{st:SortSt}(h:(SC prog w A SI) m (λa b=>(SC prog w A SI) (f a) Q b) st):(SC prog w A SI) (m>>= f) Q st:=λs c=>by
 exact Z2 (wpAny_mono (h s c) (λr s' h'=>h'.2 s' h'.1) λ_ _ e=>e)
def bU{st:SortSt}(h:(SC prog w A SI) m Q st)(c:∀a b,Q a b->d a b):(SC prog w A SI) m d st:=λs f=>
 wpAny_mono (h s f) (λr s' h'=>%[h'.1|c _ _ h'.2]) λ_ _ e=>e
def du{st:SortSt}(h:Q st st):(SC prog w A SI) get Q st:=λs a=>by
 exact Z3 %[a|h]
def b8{st:SortSt}(h:Q ⟨⟩ (f st)):(SC prog w A SI) (modify f) Q st:=λs a=>by
 exact Z3 %[a|h]
def FV{st:SortSt}(h:Q ⟨⟩ x):(SC prog w A SI) (set x) Q st:=λs a=>by
 exact Z3 %[a|h]
def xD{st:SortSt}(h:∀s,SI s->↥A m (λa s'=>SI s'/\Q a st) (λ_ _=>False) s):(SC prog w A SI) (liftM m:StateT SortSt Sem α) Q st:=λs b=>by
 exact Z2 (wpAny_mono (h s b) (λa s' h'=>Z3 h') λ_ _ e=>e)
def gF{st:SortSt}(h:Q () st):(SC prog w A SI) (liftM (rule t):StateT SortSt Sem Unit) Q st:=xD λs a=>wpAny_rule %[a|h]
def bF{st:SortSt}(I:Nat->β->SortSt->Prop)(j:a<=b)(p:I a c st)
 (l:∀i x st,a<=i->i<b->I i x st->(SC prog w A SI) (f i x) (λr g=>match r with| .done y=>Q y g| .yield y=>I (i+1) y g) st) (m:∀x st,I b x st->Q x st):(SC prog w A SI) (forIn [a:b] c f) Q st:=by
 have q:∀d i x st,i+d=b->a<=i->I i x st->(SC prog w A SI) (forIn (List.range' i d 1) x f) Q st:=by
  intro d
  induction d with
  | zero=>
    intro i x st e _ h;subst e;exact aw (m x st h)
  | succ d n=>
    intro i x st e o h;rw[List.range'_succ,forIn_cons];refine au (bU (l i x st o ⋯ h) λr g h'=>?_);cases r with
    | done y=>exact aw h'
    | yield y=>exact n _ y g ⋯ ⋯ h'
 simp_all
def bo{st:SortSt}(a:xs[i]?∣x)(h:Q x st):(SC prog w A SI) (elem' xs i) Q st:=by
 rw[elem'_eq,a];exact aw h
def ug{st:SortSt}(c:Cmp prog w A SI (kindOf st) D N)(d:D x)(f:D y)(h:Q (some (decide (N x<N y))) st):(SC prog w A SI) (lt' x y) Q st:=by
 refine au (du (au (xD (λs g=>wpAny_attempt (wpAny_mono (c x y s d f g) (λb s' ⟨i,a⟩=>?_) λ_ _ e=>e.elim)))));subst i;exact%[a|aw h]
def Dh{st:SortSt}(c:Cmp prog w A SI (kindOf st) D N)(hi:(arrOf st)[i]?∣x)(a:(arrOf st)[j]?∣y)(b:D x)(d:D y)
 (h:Q (some (decide (N x<N y))) st):(SC prog w A SI) (ltAt' i j) Q st:=by
 exact au (du (au (bo hi (au (bo a (ug c b d h))))))
end
abbrev fk:Bool->Keyed->ZY->Nat->Nat->Nat->StateT SortSt Sem (Option Nat):=sortPriv% PySem.Builtin.gallop
section
variable{prog:Program}{w:World}{A:Around}{SI:Shared->Prop}{α β:Type}
abbrev ga0(left:Bool)(key:Keyed)(a:ZY)(base i:Nat):StateT SortSt Sem (Option Bool):=do
 let x<-elem' a (base+i)
 if left=true then lt' x key else do
  let y<-lt' key x
  pure (y.map (!·))
abbrev gaM(f:Nat->StateT SortSt Sem (Option Bool))(x:Option (Option Nat)×Nat×Nat):StateT SortSt Sem (ForInStep (Option (Option Nat)×Nat×Nat)):=
 if x.2.1>=x.2.2 then pure (.done (none,x.2.1,x.2.2))else do
  match<-f (x.2.1+(x.2.2-x.2.1)/2)with
  | some w=>if w=true then pure (.yield (none,x.2.1+(x.2.2-x.2.1)/2+1,x.2.2))else pure (.yield (none,x.2.1,x.2.1+(x.2.2-x.2.1)/2))
  | _=>pure (.done (some none,x.2.1,x.2.2))
abbrev ga3(f:Nat->StateT SortSt Sem (Option Bool))(n lo hi:Nat):StateT SortSt Sem (Option Nat):=do
 let x<-forIn [0:n] (none,lo,hi) λ_ x=>gaM f x
 match x.1 with
 | some r=>pure r
 | none=>pure (some x.2.2)
abbrev ga1(f:Nat->StateT SortSt Sem (Option Bool))(n hint:Nat)(x:Option (Option Nat)×Nat×Nat):StateT SortSt Sem (ForInStep (Option (Option Nat)×Nat×Nat)):=
 if x.2.2>=n-hint then pure (.done (none,x.2.1,x.2.2))else do
  match<-f (hint+x.2.2)with
  | some w=>if(!w)=true then pure (.done (none,x.2.1,x.2.2))else pure (.yield (none,x.2.2,2*x.2.2+1))
  | _=>pure (.done (some none,x.2.1,x.2.2))
abbrev ga2(f:Nat->StateT SortSt Sem (Option Bool))(hint:Nat)(x:Option (Option Nat)×Nat×Nat):StateT SortSt Sem (ForInStep (Option (Option Nat)×Nat×Nat)):=
 if x.2.2>=hint+1 then pure (.done (none,x.2.1,x.2.2))else do
  match<-f (hint-x.2.2)with
  | some w=>if w=true then pure (.done (none,x.2.1,x.2.2))else pure (.yield (none,x.2.2,2*x.2.2+1))
  | _=>pure (.done (some none,x.2.1,x.2.2))
set_option smartUnfolding false in
def Hf(left:Bool)(key:Keyed)(a:ZY)(base n hint:Nat):fk left key a base n hint=(do
 match<-ga0 left key a base hint with
 | some w=>
   if w=true then(do
    let x<-forIn [0:n] (none,0,1) λ_ x=>ga1 (ga0 left key a base) n hint x
    match x.1 with
    | some r=>pure r
    | none=>ga3 (ga0 left key a base) n (hint+x.2.1+1) (hint+min x.2.2 (n-hint)))
   else(do
    let x<-forIn [0:n] (none,0,1) λ_ x=>ga2 (ga0 left key a base) hint x
    match x.1 with
    | some r=>pure r
    | none=>ga3 (ga0 left key a base) n (hint+1-min x.2.2 (hint+1)) (hint-x.2.1))
 | _=>pure none):=rfl
def wu{f:Option (Option Nat)×Nat×Nat->StateT SortSt Sem (ForInStep (Option (Option Nat)×Nat×Nat))}{g:Option (Option Nat)×Nat×Nat->StateT SortSt Sem (Option Nat)}{n l h:Nat}{Q:Option Nat->SortSt->Prop}{st:SortSt}(P:Nat->Prop)(b:P h)
 (c:∀l h (R:ForInStep _->SortSt->Prop),P h->(∀l h,P h->R (.done (none,l,h)) st/\R (.yield (none,l,h)) st)->(SC prog w A SI) (f (none,l,h)) R st) (d:∀l h,P h->(SC prog w A SI) (g (none,l,h)) Q st):
 (SC prog w A SI) (do let x<-forIn [0:n] (none,l,h) λ_ x=>f x;g x) Q st:=by
 refine au (bU (bF (Q:=λx a=>a=st/\∃l h,x=(none,l,h)/\P h) (λ_ x a=>a=st/\∃l h,x=(none,l,h)/\P h) (Xb _) %[rfl,_,_,rfl|b] ?_ λ_ _ h=>h) ?_)
 .intro _ _ _ _ _ %[rfl,l,h,rfl|p];exact c l h _ p λl h p=>%[%[rfl,_,_,rfl|p],rfl,_,_,rfl|p]
 .intro _ _ %[rfl,l,h,rfl|p];exact d l h p
def eI{D:Keyed->Prop}{N:Keyed->Nat}{left:Bool}{key:Keyed}{a:ZY}{base n hint:Nat}{Q:Option Nat->SortSt->Prop}{st:SortSt}(c:Cmp prog w A SI (kindOf st) D N)(e:D key)
 (j:∀i,i<n->∃x,a[base+i]?∣x/\D x) (m:hint<n) (h:∀k,k<=n->Q (some k) st):(SC prog w A SI) (fk left key a base n hint) Q st:=by
 have ask:∀(i:Nat) (R:Option Bool->SortSt->Prop),i<n->(∀b,R (some b) st)->(SC prog w A SI) (ga0 left key a base i) R st:=λi R hi f=>by
  have%[x,p|g]:=j i hi;refine au (bo p ?_);cases left
  .exact au (ug c e g (aw (f _)))
  .exact ug c g e (f _)
 have g3:∀l o,o<=n->(SC prog w A SI) (ga3 (ga0 left key a base) n l o) Q st:=λl o d=>by
  refine wu (·<=n) d (λl o R d k=>?_) λl o d=>aw (h o d)
  unfold gaM;dsimp only
  split
  .exact aw (k _ _ d).1
  .refine au (ask _ _ ⋯ λb=>?_);cases b
   .exact aw (k _ _ ⋯).2
   .exact aw (k _ _ d).2
 rw[Hf];refine au (ask hint _ m λb=>?_);cases b
 .refine wu (λ_=>True) ⟨⟩ (λl o R _ k=>?_) λl o _=>g3 _ _ ⋯
  unfold ga2;dsimp only
  split
  .exact aw (k _ _ ⟨⟩).1
  .refine au (ask _ _ ⋯ λb=>?_);cases b
   .exact aw (k _ _ ⟨⟩).2
   .exact aw (k _ _ ⟨⟩).1
 .refine wu (λ_=>True) ⟨⟩ (λl o R _ k=>?_) λl o _=>g3 _ _ ⋯
  unfold ga1;dsimp only
  split
  .exact aw (k _ _ ⟨⟩).1
  .refine au (ask _ _ ⋯ λb=>?_);cases b
   .exact aw (k _ _ ⟨⟩).1
   .exact aw (k _ _ ⟨⟩).2
end
abbrev nF:ZY->ZY->StateT SortSt Sem ZY:=sortPriv% PySem.Builtin.mergeLo
abbrev nG:ZY->ZY->StateT SortSt Sem ZY:=sortPriv% PySem.Builtin.mergeHi
abbrev cU:Nat->StateT SortSt Sem Unit:=sortPriv% PySem.Builtin.setMinGallop
def fR(g:Nat):cU g=modify (λs=>SortSt.mk' (kindOf s) (arrOf s) (pendingOf s) g (failedOf s)):=rfl
abbrev Srt(N:Keyed->Nat)(l:List Keyed):Prop:=l.Pairwise λx y=>N x<=N y
abbrev dA(a b r:ZY):Prop:=r.toList.Perm (a.toList++b.toList)
abbrev MI(a b out:ZY)(c d:Nat):Prop:=(out.toList++(a.toList.drop c++b.toList.drop d)).Perm (a.toList++b.toList)
def eR(a:ZY)(i j:Nat):(a.extract i j).toList=(a.toList.drop i).take (j-i):=by
 simp
def mG(a:ZY)(i:Nat):(a.extract i a.size).toList=a.toList.drop i:=by
 rw[eR,Zn]
 simp_all
def mH(a:ZY)(i k:Nat):(a.extract i (i+k)).toList=(a.toList.drop i).take k:=by
 simp
def MI.takeA{a b out:ZY}{c d:Nat}(h:MI a b out c d)(k:Nat):MI a b (out++a.extract c (c+k)) (c+k) d:=by
 unfold MI at h ⊢;rw[Xa,mH,Ze,<-Ze _ (a.toList.drop _),<-drop_drop,X8];exact h
def MI.takeB{a b out:ZY}{d c:Nat}(h:MI a b out d c)(k:Nat):MI a b (out++b.extract c (c+k)) d (c+k):=by
 unfold MI at h ⊢;refine List.Perm.trans ?_ h;rw[Xa,mH,Ze];refine List.Perm.append_left _ ?_;refine(List.perm_append_comm_assoc _ _ _).trans ?_;rw[<-drop_drop,X8]
def gG{a:ZY}{i:Nat}(h:i<a.size)(out:ZY):out++a.extract i (i+1)=out.push a[i]:=by
 apply Array.ext';rw[Xa,mH,toList_push,List.drop_eq_getElem_cons ↑h];rfl
def MI.done{a b out:ZY}{c d:Nat}(h:MI a b out c d):dA a b (out++a.extract c a.size++b.extract d b.size):=by
 unfold dA;rw[Xa,Xa,mG,mG,Ze];exact h
def MI.last{a b out:ZY}{c d:Nat}(h:MI a b out c d):dA a b (out++b.extract d b.size++a.extract c a.size):=by
 unfold dA;rw[Xa,Xa,mG,mG,Ze];exact(List.Perm.append_left _ List.perm_append_comm).trans h
abbrev SG(st a:SortSt):Prop:=kindOf a=kindOf st/\arrOf a=arrOf st/\pendingOf a=pendingOf st/\failedOf a=failedOf st
def SG.refl(st:SortSt):SG st st:=%[rfl,rfl,rfl|rfl]
def SG.set{st a:SortSt}(h:SG st a)(g:Nat):SG st (SortSt.mk' (kindOf a) (arrOf a) (pendingOf a) g (failedOf a)):=h
def SG.trans{s t u:SortSt}(h:SG s t)(k:SG t u):SG s u:=%[k.1.trans h.1,k.2.1.trans h.2.1,k.2.2.1.trans h.2.2.1|k.2.2.2.trans h.2.2.2]
structure LC (prog:Program) (w:World) (A:Around) (SI:Shared->Prop) (D:Keyed->Prop) (N:Keyed->Nat) (a b:ZY) (st:SortSt):Prop where
 c:Cmp prog w A SI (kindOf st) D N
 DA:∀{i:Nat} (hi:i<a.size),a[i]?∣a[i]/\D a[i]
 DB:∀{i:Nat} (hi:i<b.size),b[i]?∣b[i]/\D b[i]
def LC.of{prog:Program}{w:World}{A:Around}{d:Shared->Prop}{D:Keyed->Prop}{N:Keyed->Nat}{a b:ZY}{s t:SortSt}(C:LC prog w A d D N a b s)(h:SG s t):LC prog w A d D N a b t:={C with c:=h.1▸C.c}
section
variable{prog:Program}{w:World}{A:Around}{SI:Shared->Prop}{α β:Type}
structure ML (a b out:ZY) (ia ib:Nat):Prop where
 mi:MI a b out ia ib
 na:ia+1<a.size
 nb:ib<b.size
abbrev lo3(a b out:ZY)(c d g k k1:Nat):StateT SortSt Sem (ForInStep (Option ZY×ZY×Nat×Nat×Nat×Nat×Nat)):=elem' a c>>= λe=>if(c+1+1==a.size)=true then pure (.done (some (out.push e++b.extract d b.size++a.extract (c+1) a.size),out.push e,c+1,d,g,k,k1))else if(decide (k<7)&&decide (k1<7))=true then pure (.done (none,out.push e,c+1,d,g,k,k1))else pure (.yield (none,out.push e,c+1,d,g,k,k1))
abbrev lo2(a b out:ZY)(d c g k f:Nat):StateT SortSt Sem (ForInStep (Option ZY×ZY×Nat×Nat×Nat×Nat×Nat)):=elem' b c>>= λe=>if(c+1==b.size)=true then pure (.done (some (out.push e++a.extract d a.size++b.extract (c+1) b.size),out.push e,d,c+1,g,k,f))else elem' a d>>= λh=>fk true h b (c+1) (b.size-(c+1)) 0>>= fun|some k1=>if k1>0 then if(c+1+k1==b.size)=true then pure (.done (some (out.push e++b.extract (c+1) (c+1+k1) ++a.extract d a.size++b.extract (c+1+k1) b.size),out.push e++b.extract (c+1) (c+1+k1),d,c+1+k1,g,k,k1))else lo3 a b (out.push e++b.extract (c+1) (c+1+k1)) d (c+1+k1) g k k1 else lo3 a b (out.push e) d (c+1) g k k1|_=>pure (.done (some (out.push e++a.extract d a.size++b.extract (c+1) b.size),out.push e,d,c+1,g,k,f))
abbrev lo1(a b out:ZY)(c d h f g:Nat):StateT SortSt Sem (ForInStep (Option ZY×ZY×Nat×Nat×Nat×Nat×Nat)):=cU g>>= λ_=>elem' b d>>= λe=>fk false e a c (a.size-c) 0>>= fun|some k=>if k>0 then if(c+k+1==a.size)=true then pure (.done (some (out++a.extract c (c+k) ++b.extract d b.size++a.extract (c+k) a.size),out++a.extract c (c+k),c+k,d,g,k,f))else if(c+k==a.size)=true then pure (.done (some (out++a.extract c (c+k) ++a.extract (c+k) a.size++b.extract d b.size),out++a.extract c (c+k),c+k,d,g,k,f))else lo2 a b (out++a.extract c (c+k)) (c+k) d g k f else lo2 a b out c d g k f|_=>pure (.done (some (out++a.extract c a.size++b.extract d b.size),out,c,d,g,h,f))
abbrev loI(a b out:ZY)(c d g f h:Nat):StateT SortSt Sem (ForInStep (Option ZY×ZY×Nat×Nat×Nat×Nat)):=elem' b d>>= λi=>elem' a c>>= λj=>lt' i j>>= fun|some w=>if w=true then(elem' b d>>= λe=>if(d+1==b.size)=true then pure (.done (some (out.push e++a.extract c a.size++b.extract (d+1) b.size),out.push e,c,d+1,0,h+1))else if h+1>=g then pure (.done (none,out.push e,c,d+1,0,h+1))else pure (.yield (none,out.push e,c,d+1,0,h+1)))else(elem' a c>>= λe=>if(c+1+1==a.size)=true then pure (.done (some (out.push e++b.extract d b.size++a.extract (c+1) a.size),out.push e,c+1,d,f+1,0))else if f+1>=g then pure (.done (none,out.push e,c+1,d,f+1,0))else pure (.yield (none,out.push e,c+1,d,f+1,0)))|_=>pure (.done (some (out++a.extract c a.size++b.extract d b.size),out,c,d,f,h))
abbrev loG(a b:ZY):Option ZY×ZY×Nat×Nat×Nat×Nat×Nat->StateT SortSt Sem (ForInStep (Option ZY×ZY×Nat×Nat×Nat×Nat×Nat)):=λx=>
 if x.2.2.2.2.1>1 then lo1 a b x.2.1 x.2.2.1 x.2.2.2.1 x.2.2.2.2.2.1 x.2.2.2.2.2.2 (x.2.2.2.2.1-1)else lo1 a b x.2.1 x.2.2.1 x.2.2.2.1 x.2.2.2.2.2.1 x.2.2.2.2.2.2 x.2.2.2.2.1
abbrev loE(x:Option ZY×ZY×Nat×Nat×Nat×Nat×Nat):StateT SortSt Sem (ForInStep (Option ZY×ZY×Nat×Nat×Nat)):=
 match x.1 with
 | some r=>pure (.done (some r,x.2.1,x.2.2.1,x.2.2.2.1,x.2.2.2.2.1))
 | none=>do
   cU (x.2.2.2.2.1+1)
   pure (.yield (none,x.2.1,x.2.2.1,x.2.2.2.1,x.2.2.2.2.1+1))
abbrev loF(a b:ZY)(g:Nat)(x:Option ZY×ZY×Nat×Nat×Nat×Nat):StateT SortSt Sem (ForInStep (Option ZY×ZY×Nat×Nat×Nat)):=
 match x.1 with
 | some r=>pure (.done (some r,x.2.1,x.2.2.1,x.2.2.2.1,g))
 | none=>do
   rule "list.sort.gallop"
   let x<-forIn [0:a.size+b.size] (none,x.2.1,x.2.2.1,x.2.2.2.1,g+1,x.2.2.2.2.1,x.2.2.2.2.2) λ_ x=>loG a b x
   loE x
abbrev loO(a b:ZY):Option ZY×ZY×Nat×Nat×Nat->StateT SortSt Sem (ForInStep (Option ZY×ZY×Nat×Nat×Nat)):=λx=>do
 let y<-forIn [0:a.size+b.size] (none,x.2.1,x.2.2.1,x.2.2.2.1,0,0) λ_ y=>loI a b y.2.1 y.2.2.1 y.2.2.2.1 x.2.2.2.2 y.2.2.2.2.1 y.2.2.2.2.2
 loF a b x.2.2.2.2 y
abbrev loR(x:Option ZY×ZY×Nat×Nat×Nat):StateT SortSt Sem ZY:=
 match x.1 with
 | some r=>pure r
 | none=>unsupported "internal:list.sort.merge-bound"
set_option smartUnfolding false in
def Hg(a b:ZY):nF a b=(do
 rule "list.sort.merge-lo"
 let e<-elem' b 0
 if(1==b.size)=true then pure (#[e] ++a.extract 0 a.size++b.extract 1 b.size)
 else if(0+1==a.size)=true then pure (#[e] ++b.extract 1 b.size++a.extract 0 a.size)
 else do
  let s<-get
  let x<-forIn [0:a.size+b.size] (none,#[e],0,1,gallopOf s) λ_ x=>loO a b x
  loR x):=by
 rfl
variable{D:Keyed->Prop}{N:Keyed->Nat}{a b out:ZY}{ia ib g k bc z:Nat}{st:SortSt}
def aX{m n:Nat}(h: ¬(m==n)=true):m≠n:=λe=>h (by simp[e])
def A3{k1:Nat}{R:ForInStep _->SortSt->Prop}(C:LC prog w A SI D N a b st)(m:ML a b out ia ib)(d:z<=out.size+1)
 (e:∀r o,dA a b r->R (.done (some r,o)) st) (f:∀out ia ib g k k1,ML a b out ia ib->z<=out.size->R (.done (none,out,ia,ib,g,k,k1)) st/\R (.yield (none,out,ia,ib,g,k,k1)) st):(SC prog w A SI) (lo3 a b out ia ib g k k1) R st:=by
 have na:=m.na;refine au (bo (C.DA ⋯).1 ?_);have c:=m.mi.takeA 1;rw[gG ⋯]at c
 split
 .exact aw (e _ _ c.last)
 .rename_i q
  have q:=aX q;have h:=f _ _ _ g k k1 %[c,⋯|m.nb] (by rw[Xf];exact d)
  split
  .exact aw h.1
  .exact aw h.2
def A4{R:ForInStep (Option ZY×ZY×Nat×Nat×Nat×Nat×Nat)->SortSt->Prop}(C:LC prog w A SI D N a b st)(m:ML a b out ia ib)(p:z<=out.size+2)
 (c:∀r o,dA a b r->R (.done (some r,o)) st) (e:∀out ia ib g k k1,ML a b out ia ib->z<=out.size->R (.done (none,out,ia,ib,g,k,k1)) st/\R (.yield (none,out,ia,ib,g,k,k1)) st):(SC prog w A SI) (lo2 a b out ia ib g k bc) R st:=by
 have%[l,na|nb]:=m;refine au (bo (C.DB nb).1 ?_);have d:=l.takeB 1;rw[gG nb]at d
 split
 .exact aw (c _ _ d.done)
 .rename_i q
  have q:=aX q;have f:=C.DA (show ia<_ by lia);refine au (bo f.1 (au (eI C.c f.2 (λi hi=>%[_|C.DB ⋯]) ⋯ λk2 n=>?_)));dsimp only
  split
  .have h:=d.takeB k2
   split
   .exact aw (c _ _ h.done)
   .rename_i j
    have j:=aX j;exact A3 C %[h,na|⋯] (by simp;lia) c e
  .exact A3 C %[d,na|⋯] (by rw[Xf];lia) c e
def FW{l:Nat}{R:ForInStep (Option ZY×ZY×Nat×Nat×Nat×Nat×Nat)->SortSt->Prop}(C:LC prog w A SI D N a b st)(m:ML a b out ia ib)(n:z<=out.size+2)
 (d:∀c r o,SG st c->dA a b r->R (.done (some r,o)) c) (e:∀c out ia ib g k k1,SG st c->ML a b out ia ib->z<=out.size->R (.done (none,out,ia,ib,g,k,k1)) c/\R (.yield (none,out,ia,ib,g,k,k1)) c):(SC prog w A SI) (lo1 a b out ia ib l bc g) R st:=by
 have na:=m.na;have f:=C.DB m.nb;unfold lo1;rw[fR];refine au (b8 ?_);have sg:=(SG.refl st).set g;have d:=λr o=>d _ r o sg
 have e:=λout ia ib g k k1=>e _ out ia ib g k k1 sg
 have C:=C.of sg;refine au (bo f.1 (au (eI C.c f.2 (λi hi=>%[_|C.DA ⋯]) ⋯ λk p=>?_)));dsimp only
 split
 .have mk:=m.mi.takeA k
  split
  .exact aw (d _ _ mk.last)
  .rename_i h
   have h:=aX h
   split
   .exact aw (d _ _ mk.done)
   .rename_i j
    have j:=aX j;exact A4 C %[mk,⋯|m.nb] (by simp;lia) d e
 .exact A4 C m n d e
def FX{c:Nat}{R:ForInStep (Option ZY×ZY×Nat×Nat×Nat×Nat)->SortSt->Prop}(C:LC prog w A SI D N a b st)(m:ML a b out ia ib)(f:z<=out.size+1)
 (i:∀r o,dA a b r->R (.done (some r,o)) st) (j:∀out ia ib c bc,ML a b out ia ib->z<=out.size->R (.done (none,out,ia,ib,c,bc)) st/\R (.yield (none,out,ia,ib,c,bc)) st):(SC prog w A SI) (loI a b out ia ib g c bc) R st:=by
 have%[l,na|nb]:=m;have d:=C.DA (show ia<_ by lia);have e:=C.DB nb;refine au (bo e.1 (au (bo d.1 (au (ug C.c e.2 d.2 ?_)))));dsimp only
 split
 .refine au (bo e.1 ?_);have m2:=l.takeB 1;rw[gG nb]at m2
  split
  .exact aw (i _ _ m2.done)
  .rename_i q
   have q:=aX q;have h:=j _ _ _ 0 (bc+1) %[m2,na|⋯] (by rw[Xf];exact f)
   split
   .exact aw h.1
   .exact aw h.2
 .refine au (bo d.1 ?_);have m2:=l.takeA 1;rw[gG ⋯]at m2
  split
  .exact aw (i _ _ m2.last)
  .rename_i q
   have q:=aX q;have h:=j _ _ _ (c+1) 0 %[m2,⋯|nb] (by rw[Xf];exact f)
   split
   .exact aw h.1
   .exact aw h.2
def FY{j:Nat}{q:Option ZY}{R:ForInStep (Option ZY×ZY×Nat×Nat×Nat)->SortSt->Prop}(C:LC prog w A SI D N a b st)(m:ML a b out ia ib)(e:j+1<=out.size)
 (p:∀d r o,SG st d->dA a b r->R (.done (some r,o)) d) (s:∀d out ia ib g,SG st d->ML a b out ia ib->j+2<=out.size->R (.yield (none,out,ia,ib,g)) d):(SC prog w A SI) (loO a b (q,out,ia,ib,g)) R st:=by
 have u:=m.na;refine au (bU (bF (Q:=λx d=>SG st d/\((∃r o,x=(some r,o)/\dA a b r)\/∃out ia ib f bc,x=(none,out,ia,ib,f,bc)/\ML a b out ia ib/\j+2<=out.size))
  (λj2 x d=>SG st d/\∃out ia ib f bc,x=(none,out,ia,ib,f,bc)/\ML a b out ia ib/\j+1+j2<=out.size) (Xb _) %[SG.refl _,_,_,_,_,_,rfl,m|e] ?_ ?_) ?_)
 .intro j2 x i _ l %[c,out,ia,ib,f,bc,rfl,m|e];exact FX (C.of c) m ⋯ (λr o h=>%[c|.inl %[r,o,rfl|h]]) λout ia ib f bc h z=>%[%[c|.inr %[_,_,_,_,_,rfl,h|⋯]],c,_,_,_,_,_,rfl,h|z]
 .intro x i %[c,out,ia,ib,f,bc,rfl,m|e];exact%[c|.inr %[_,_,_,_,_,ρ,m|⋯]]
 .rintro x i ⟨c,⟨r,o,rfl,n⟩|⟨out,ia,ib,f,bc,rfl,m,e⟩⟩
  .exact aw (p _ r _ c n)
  .refine au (gF ?_);refine au (bU (bF (Q:=λx d=>SG st d/\((∃r o,x=(some r,o)/\dA a b r)\/∃out ia ib g f bc,x=(none,out,ia,ib,g,f,bc)/\ML a b out ia ib/\j+2<=out.size))
    (λj2 x d=>SG st d/\∃out ia ib g f bc,x=(none,out,ia,ib,g,f,bc)/\ML a b out ia ib/\j+2<=out.size) (Xb _) %[c,_,_,_,_,_,_,rfl,m|e] ?_ ?_) ?_)
   .intro j2 x i _ l %[c,out,ia,ib,g,f,bc,rfl,m|e];unfold loG;rw[<-apply_ite _];exact FW (C.of c) m ⋯ (λd r o sg h=>%[SG.trans c sg|.inl %[r,o,rfl|h]]) λd out ia ib g k k1 sg h z=>%[%[SG.trans c sg|.inr %[_,_,_,_,_,_,rfl,h|z]],SG.trans c sg,_,_,_,_,_,_,rfl,h|z]
   .simp_all
   .rintro x i ⟨c,⟨r,o,rfl,n⟩|⟨out,ia,ib,g,f,bc,rfl,m,e⟩⟩
    .exact aw (p _ r _ c n)
    .exact au (b8 (aw (s _ _ _ _ _ (c.set _) m e)))
def wv{Q:ZY->SortSt->Prop}(C:LC prog w A SI D N a b st)(v:1<=a.size)(l:1<=b.size)(h:∀r c,SG st c->dA a b r->Q r c):(SC prog w A SI) (nF a b) Q st:=by
 rw[Hg];refine au (gF (au (bo (C.DB l).1 ?_)));have i:=(show MI a b #[] 0 0 from List.Perm.refl _).takeB 1;rw[gG l]at i
 split
 .exact aw (h _ st (SG.refl _) i.done)
 rename_i n
 have n:=aX n
 split
 .exact aw (h _ st (SG.refl _) i.last)
 rename_i p
 have p:=aX p;refine au (du ?_);refine au (bU (bF (Q:=λx c=>SG st c/\∃r,x.1∣r/\dA a b r)
  (λj x c=>SG st c/\∃out ia ib g,x=(none,out,ia,ib,g)/\ML a b out ia ib/\j+1<=out.size) (Xb _) %[SG.refl _,_,_,_,_,rfl,%[i,⋯|⋯]|Zi _] ?_ ?_) ?_)
 .intro j x d _ y %[sg,out,ia,ib,g,rfl,m|f];exact FY (C.of sg) m f (λc r o e h=>%[SG.trans sg e,r,rfl|h]) λc out ia ib g e h z=>%[SG.trans sg e,_,_,_,_,rfl,h|z]
 .intro x d %[sg,out,ia,ib,g,rfl,m|f];have:=m.na;have q:=m.mi.length_eq;simp only[Z9,Zb,Yf]at q
  lia
 .rintro⟨B,x2⟩ d ⟨sg,r,s,u⟩;subst s;exact aw (h r d sg u)
end
abbrev MH(a b out:ZY)(na nb:Nat):Prop:=(b.toList.take nb++(a.toList.take na++out.reverse.toList)).Perm (a.toList++b.toList)
def xE(a out:ZY){k n:Nat}(h:k<=n):a.toList.take k++(out++(a.extract k n).reverse).reverse.toList=a.toList.take n++out.reverse.toList:=by
 rw[Array.reverse_append,Array.reverse_reverse,Xa,eR,<-Ze,<-List.take_add,Nat.add_sub_cancel' h]
def MH.takeA{a b out:ZY}{na nb k:Nat}(h:MH a b out na nb)(c:k<=na):MH a b (out++(a.extract k na).reverse) k nb:=by
 unfold MH;rw[xE _ _ c];exact h
def MH.takeB{a b out:ZY}{na nb k:Nat}(h:MH a b out na nb)(c:k<=nb):MH a b (out++(b.extract k nb).reverse) na k:=by
 refine(List.perm_append_comm_assoc _ _ _).trans ?_;rw[xE _ _ c];exact(List.perm_append_comm_assoc _ _ _).trans h
def iC{a:ZY}{i:Nat}(h:i<a.size)(out:ZY):out++(a.extract i (i+1)).reverse=out.push a[i]:=by
 rw[<-gG h,<-Array.empty_append (xs:=a.extract i (i+1)),gG h];rfl
def MH.first{a b out:ZY}{na nb:Nat}(h:MH a b out na nb):dA a b (b.extract 0 nb++a.extract 0 na++out.reverse):=by
 unfold dA;rw[Xa,Xa,eR,eR,Ze];exact h
def MH.done{a b out:ZY}{na nb:Nat}(h:MH a b out na nb):dA a b (a.extract 0 na++b.extract 0 nb++out.reverse):=by
 unfold dA;rw[Xa,Xa,eR,eR,Ze];exact(List.perm_append_comm_assoc _ _ _).trans h
section
variable{prog:Program}{w:World}{A:Around}{SI:Shared->Prop}{α β:Type}
structure MHS (a b out:ZY) (na nb:Nat):Prop where
 mh:MH a b out na nb
 pa:1<=na
 pb:2<=nb
 ma:na<=a.size
 mb:nb<=b.size
abbrev hi3(a b:ZY)(na nb:Nat)(out:ZY)(g k k1:Nat):StateT SortSt Sem (ForInStep (Option ZY×Nat×Nat×ZY×Nat×Nat×Nat)):=elem' a (na-1)>>= λe=>if(na-1==0)=true then pure (.done (some (a.extract 0 (na-1) ++b.extract 0 nb++(out.push e).reverse),na-1,nb,out.push e,g,k,k1))else if(decide (k<7)&&decide (k1<7))=true then pure (.done (none,na-1,nb,out.push e,g,k,k1))else pure (.yield (none,na-1,nb,out.push e,g,k,k1))
abbrev hi2(a b:ZY)(na nb:Nat)(out:ZY)(g k c:Nat):StateT SortSt Sem (ForInStep (Option ZY×Nat×Nat×ZY×Nat×Nat×Nat)):=elem' b (nb-1)>>= λe=>if(nb-1==1)=true then pure (.done (some (b.extract 0 (nb-1) ++a.extract 0 na++(out.push e).reverse),na,nb-1,out.push e,g,k,c))else elem' a (na-1)>>= λd=>fk true d b 0 (nb-1) (nb-1-1)>>= fun|some k1=>if nb-1-k1>0 then if(k1==1)=true then pure (.done (some (b.extract 0 k1++a.extract 0 na++(out.push e++(b.extract k1 (nb-1)).reverse).reverse),na,k1,out.push e++(b.extract k1 (nb-1)).reverse,g,k,nb-1-k1))else if(k1==0)=true then pure (.done (some (a.extract 0 na++b.extract 0 k1++(out.push e++(b.extract k1 (nb-1)).reverse).reverse),na,k1,out.push e++(b.extract k1 (nb-1)).reverse,g,k,nb-1-k1))else hi3 a b na k1 (out.push e++(b.extract k1 (nb-1)).reverse) g k (nb-1-k1)else hi3 a b na (nb-1) (out.push e) g k (nb-1-k1)|_=>pure (.done (some (a.extract 0 na++b.extract 0 (nb-1) ++(out.push e).reverse),na,nb-1,out.push e,g,k,c))
abbrev hi1(a b:ZY)(na nb:Nat)(out:ZY)(d c g:Nat):StateT SortSt Sem (ForInStep (Option ZY×Nat×Nat×ZY×Nat×Nat×Nat)):=cU g>>= λ_=>elem' b (nb-1)>>= λe=>fk false e a 0 na (na-1)>>= fun|some k=>if na-k>0 then if(k==0)=true then pure (.done (some (a.extract 0 k++b.extract 0 nb++(out++(a.extract k na).reverse).reverse),k,nb,out++(a.extract k na).reverse,g,na-k,c))else hi2 a b k nb (out++(a.extract k na).reverse) g (na-k) c else hi2 a b na nb out g (na-k) c|_=>pure (.done (some (a.extract 0 na++b.extract 0 nb++out.reverse),na,nb,out,g,d,c))
abbrev hiI(a b:ZY)(na nb:Nat)(out:ZY)(g c d:Nat):StateT SortSt Sem (ForInStep (Option ZY×Nat×Nat×ZY×Nat×Nat)):=elem' b (nb-1)>>= λf=>elem' a (na-1)>>= λh=>lt' f h>>= fun|some w=>if w=true then(elem' a (na-1)>>= λe=>if(na-1==0)=true then pure (.done (some (a.extract 0 (na-1) ++b.extract 0 nb++(out.push e).reverse),na-1,nb,out.push e,c+1,0))else if c+1>=g then pure (.done (none,na-1,nb,out.push e,c+1,0))else pure (.yield (none,na-1,nb,out.push e,c+1,0)))else(elem' b (nb-1)>>= λe=>if(nb-1==1)=true then pure (.done (some (b.extract 0 (nb-1) ++a.extract 0 na++(out.push e).reverse),na,nb-1,out.push e,0,d+1))else if d+1>=g then pure (.done (none,na,nb-1,out.push e,0,d+1))else pure (.yield (none,na,nb-1,out.push e,0,d+1)))|_=>pure (.done (some (a.extract 0 na++b.extract 0 nb++out.reverse),na,nb,out,c,d))
abbrev hiG(a b:ZY)(x:Option ZY×Nat×Nat×ZY×Nat×Nat×Nat):StateT SortSt Sem (ForInStep (Option ZY×Nat×Nat×ZY×Nat×Nat×Nat)):=
 if x.2.2.2.2.1>1 then hi1 a b x.2.1 x.2.2.1 x.2.2.2.1 x.2.2.2.2.2.1 x.2.2.2.2.2.2 (x.2.2.2.2.1-1)else hi1 a b x.2.1 x.2.2.1 x.2.2.2.1 x.2.2.2.2.2.1 x.2.2.2.2.2.2 x.2.2.2.2.1
abbrev hiE(x:Option ZY×Nat×Nat×ZY×Nat×Nat×Nat):StateT SortSt Sem (ForInStep (Option ZY×Nat×Nat×ZY×Nat)):=
 match x.1 with
 | some r=>pure (.done (some r,x.2.1,x.2.2.1,x.2.2.2.1,x.2.2.2.2.1))
 | none=>do
   cU (x.2.2.2.2.1+1)
   pure (.yield (none,x.2.1,x.2.2.1,x.2.2.2.1,x.2.2.2.2.1+1))
abbrev hiF(a b:ZY)(g:Nat)(x:Option ZY×Nat×Nat×ZY×Nat×Nat):StateT SortSt Sem (ForInStep (Option ZY×Nat×Nat×ZY×Nat)):=
 match x.1 with
 | some r=>pure (.done (some r,x.2.1,x.2.2.1,x.2.2.2.1,g))
 | none=>do
   rule "list.sort.gallop"
   let x<-forIn [0:a.size+b.size] (none,x.2.1,x.2.2.1,x.2.2.2.1,g+1,x.2.2.2.2.1,x.2.2.2.2.2) λ_ x=>hiG a b x
   hiE x
abbrev hiO(a b:ZY)(x:Option ZY×Nat×Nat×ZY×Nat):StateT SortSt Sem (ForInStep (Option ZY×Nat×Nat×ZY×Nat)):=do
 let y<-forIn [0:a.size+b.size] (none,x.2.1,x.2.2.1,x.2.2.2.1,0,0) λ_ y=>hiI a b y.2.1 y.2.2.1 y.2.2.2.1 x.2.2.2.2 y.2.2.2.2.1 y.2.2.2.2.2
 hiF a b x.2.2.2.2 y
abbrev hiR(x:Option ZY×Nat×Nat×ZY×Nat):StateT SortSt Sem ZY:=
 match x.1 with
 | some r=>pure r
 | none=>unsupported "internal:list.sort.merge-bound"
set_option smartUnfolding false in
def Hh(a b:ZY):nG a b=(do
 rule "list.sort.merge-hi"
 let e<-elem' a (a.size-1)
 if(a.size-1==0)=true then pure (a.extract 0 (a.size-1) ++b.extract 0 b.size++ #[e].reverse)
 else if(b.size==1)=true then pure (b.extract 0 b.size++a.extract 0 (a.size-1) ++ #[e].reverse)
 else do
  let s<-get
  let x<-forIn [0:a.size+b.size] (none,a.size-1,b.size,#[e],gallopOf s) λ_ x=>hiO a b x
  hiR x):=by
 rfl
variable{D:Keyed->Prop}{N:Keyed->Nat}{a b out:ZY}{na nb g k bc z:Nat}{st:SortSt}
def A5{k1:Nat}{R:ForInStep _->SortSt->Prop}(C:LC prog w A SI D N a b st)(m:MHS a b out (na+1) nb)(d:z<=out.size+1)
 (e:∀r o,dA a b r->R (.done (some r,o)) st) (f:∀na nb out g k k1,MHS a b out na nb->z<=out.size->R (.done (none,na,nb,out,g,k,k1)) st/\R (.yield (none,na,nb,out,g,k,k1)) st):(SC prog w A SI) (hi3 a b (na+1) nb out g k k1) R st:=by
 have%[j,p,l,s|n]:=m;refine au (bo (C.DA (i:=na) ⋯).1 ?_);have c:=j.takeA (Yd na);rw[iC ⋯]at c
 split
 .exact aw (e _ _ c.done)
 rename_i q
 have q:=aX q;have h:=f _ _ _ g k k1 %[c,⋯,l,⋯|n] (by rw[Xf];exact d)
 split
 .exact aw h.1
 .exact aw h.2
def A6{R:ForInStep (Option ZY×Nat×Nat×ZY×Nat×Nat×Nat)->SortSt->Prop}(C:LC prog w A SI D N a b st)(m:MHS a b out (na+1) (nb+1))(v:z<=out.size+2)
 (c:∀r o,dA a b r->R (.done (some r,o)) st) (h:∀na nb out g k k1,MHS a b out na nb->z<=out.size->R (.done (none,na,nb,out,g,k,k1)) st/\R (.yield (none,na,nb,out,g,k,k1)) st):(SC prog w A SI) (hi2 a b (na+1) (nb+1) out g k bc) R st:=by
 have%[u,j,y,l|B]:=m;have n:=C.DA (i:=na) ⋯;unfold hi2;rw[add_sub_cancel,add_sub_cancel];refine au (bo (C.DB (i:=nb) ⋯).1 ?_);have d:=u.takeB (Yd nb);rw[iC ⋯]at d
 split
 .exact aw (c _ _ d.first)
 rename_i q
 have q:=aX q;refine au (bo n.1 (au (eI C.c n.2 (λi hi=>%[_|C.DB ⋯]) ⋯ λk2 e=>?_)));dsimp only;have f:=d.takeB e
 split
 .split
  .exact aw (c _ _ f.first)
  rename_i p
  have p:=aX p
  split
  .exact aw (c _ _ f.done)
  rename_i s
  have s:=aX s;exact A5 C %[f,j,⋯,l|⋯] (by simp;lia) c h
 .exact A5 C %[d,j,⋯,l|⋯] (by rw[Xf];lia) c h
def FZ{p:Nat}{R:ForInStep (Option ZY×Nat×Nat×ZY×Nat×Nat×Nat)->SortSt->Prop}(C:LC prog w A SI D N a b st)(m:MHS a b out na nb)(s:z<=out.size+2)
 (d:∀c r o,SG st c->dA a b r->R (.done (some r,o)) c) (e:∀c na nb out g k k1,SG st c->MHS a b out na nb->z<=out.size->R (.done (none,na,nb,out,g,k,k1)) c/\R (.yield (none,na,nb,out,g,k,k1)) c):(SC prog w A SI) (hi1 a b na nb out p bc g) R st:=by
 have%[f,u,h,v|j]:=m;obtain⟨nb,rfl⟩:∃n,nb=n+1:=%[nb-1|⋯]
 have l:=C.DB (i:=nb) ⋯;unfold hi1;rw[add_sub_cancel,fR];refine au (b8 ?_);have sg:=(SG.refl st).set g;have d:=λr o=>d _ r o sg
 have e:=λna nb out g k k1=>e _ na nb out g k k1 sg
 have C:=C.of sg;refine au (bo l.1 (au (eI C.c l.2 (λi hi=>%[_|C.DA ⋯]) ⋯ λk y=>?_)));dsimp only
 split
 .have mk:=f.takeA y
  split
  .exact aw (d _ _ mk.done)
  rename_i q
  have q:=aX q;obtain⟨k,rfl⟩:∃n,k=n+1:=%[k-1|⋯]
  exact A6 C %[mk,⋯,h,⋯|j] (by simp;lia) d e
 .obtain⟨na,rfl⟩:∃n,na=n+1:=%[na-1|⋯]
  exact A6 C %[f,u,h,v|j] s d e
def F0{c:Nat}{R:ForInStep (Option ZY×Nat×Nat×ZY×Nat×Nat)->SortSt->Prop}(C:LC prog w A SI D N a b st)(m:MHS a b out na nb)(f:z<=out.size+1)
 (j:∀r o,dA a b r->R (.done (some r,o)) st) (l:∀na nb out c bc,MHS a b out na nb->z<=out.size->R (.done (none,na,nb,out,c,bc)) st/\R (.yield (none,na,nb,out,c,bc)) st):(SC prog w A SI) (hiI a b na nb out g c bc) R st:=by
 have%[p,s,u,v|y]:=m;obtain⟨na,rfl⟩:∃n,na=n+1:=%[na-1|⋯]
 obtain⟨nb,rfl⟩:∃n,nb=n+1:=%[nb-1|⋯]
 have d:=C.DA (i:=na) ⋯;have e:=C.DB (i:=nb) ⋯;unfold hiI;rw[add_sub_cancel,add_sub_cancel];refine au (bo e.1 (au (bo d.1 (au (ug C.c e.2 d.2 ?_)))));dsimp only
 split
 .refine au (bo d.1 ?_);have m2:=p.takeA (Yd na);rw[iC ⋯]at m2
  split
  .exact aw (j _ _ m2.done)
  rename_i q
  have q:=aX q;have h:=l _ _ _ (c+1) 0 %[m2,⋯,u,⋯|y] (by rw[Xf];exact f)
  split
  .exact aw h.1
  .exact aw h.2
 .refine au (bo e.1 ?_);have m2:=p.takeB (Yd nb);rw[iC ⋯]at m2
  split
  .exact aw (j _ _ m2.first)
  rename_i q
  have q:=aX q;have h:=l _ _ _ 0 (bc+1) %[m2,s,⋯,v|⋯] (by rw[Xf];exact f)
  split
  .exact aw h.1
  .exact aw h.2
def F1{j:Nat}{q:Option ZY}{R:ForInStep (Option ZY×Nat×Nat×ZY×Nat)->SortSt->Prop}(C:LC prog w A SI D N a b st)(m:MHS a b out na nb)(e:j+1<=out.size)
 (p:∀d r o,SG st d->dA a b r->R (.done (some r,o)) d) (s:∀d na nb out g,SG st d->MHS a b out na nb->j+2<=out.size->R (.yield (none,na,nb,out,g)) d):(SC prog w A SI) (hiO a b (q,na,nb,out,g)) R st:=by
 have u:=m.pa;have v:=m.ma;refine au (bU (bF (Q:=λx d=>SG st d/\((∃r o,x=(some r,o)/\dA a b r)\/∃na nb out f bc,x=(none,na,nb,out,f,bc)/\MHS a b out na nb/\j+2<=out.size))
  (λj2 x d=>SG st d/\∃na nb out f bc,x=(none,na,nb,out,f,bc)/\MHS a b out na nb/\j+1+j2<=out.size) (Xb _) %[SG.refl _,_,_,_,_,_,rfl,m|e] ?_ ?_) ?_)
 .intro j2 x i _ l %[c,na,nb,out,f,bc,rfl,m|e];exact F0 (C.of c) m ⋯ (λr o h=>%[c|.inl %[r,o,rfl|h]]) λna nb out f bc h z=>%[%[c|.inr %[_,_,_,_,_,rfl,h|⋯]],c,_,_,_,_,_,rfl,h|z]
 .intro x i %[c,na,nb,out,f,bc,rfl,m|e];exact%[c|.inr %[_,_,_,_,_,ρ,m|⋯]]
 .rintro x i ⟨c,⟨r,o,rfl,n⟩|⟨na,nb,out,f,bc,rfl,m,e⟩⟩
  .exact aw (p _ r _ c n)
  .refine au (gF ?_);refine au (bU (bF (Q:=λx d=>SG st d/\((∃r o,x=(some r,o)/\dA a b r)\/∃na nb out g f bc,x=(none,na,nb,out,g,f,bc)/\MHS a b out na nb/\j+2<=out.size))
    (λj2 x d=>SG st d/\∃na nb out g f bc,x=(none,na,nb,out,g,f,bc)/\MHS a b out na nb/\j+2<=out.size) (Xb _) %[c,_,_,_,_,_,_,rfl,m|e] ?_ ?_) ?_)
   .intro j2 x i _ l %[c,na,nb,out,g,f,bc,rfl,m|e];unfold hiG;rw[<-apply_ite _];exact FZ (C.of c) m ⋯ (λd r o sg h=>%[SG.trans c sg|.inl %[r,o,rfl|h]]) λd na nb out g k k1 sg h z=>%[%[SG.trans c sg|.inr %[_,_,_,_,_,_,rfl,h|z]],SG.trans c sg,_,_,_,_,_,_,rfl,h|z]
   .simp_all
   .rintro x i ⟨c,⟨r,o,rfl,n⟩|⟨na,nb,out,g,f,bc,rfl,m,e⟩⟩
    .exact aw (p _ r _ c n)
    .exact au (b8 (aw (s _ _ _ _ _ (c.set _) m e)))
def ww{Q:ZY->SortSt->Prop}(C:LC prog w A SI D N a b st)(E:1<=a.size)(G:1<=b.size)(h:∀r c,SG st c->dA a b r->Q r c):(SC prog w A SI) (nG a b) Q st:=by
 rw[Hh];obtain⟨f,p⟩:∃f,a.size=f+1:=%[a.size-1|⋯]
 rw[show a.size-1=f by lia];refine au (gF (au (bo (C.DA (i:=f) ⋯).1 ?_)));have n:=(show MH a b #[] (f+1) b.size by
  unfold MH;rw[<-p,<-Zb,<-Zb,take_length,take_length];simpa using List.perm_append_comm).takeA (Yd f)
 rw[iC ⋯]at n
 split
 .exact aw (h _ st (SG.refl _) n.done)
 rename_i s
 have s:=aX s
 split
 .exact aw (h _ st (SG.refl _) n.first)
 rename_i u
 have u:=aX u;refine au (du ?_);refine au (bU (bF (Q:=λx c=>SG st c/\∃r,x.1∣r/\dA a b r)
  (λj x c=>SG st c/\∃na nb out g,x=(none,na,nb,out,g)/\MHS a b out na nb/\j+1<=out.size) (Xb _) %[SG.refl _,_,_,_,_,rfl,%[n,⋯,⋯,⋯|⋯]|Zi _] ?_ ?_) ?_)
 .intro j x d _ H %[sg,na,nb,out,g,rfl,m|l];exact F1 (C.of sg) m l (λc r o e h=>%[SG.trans sg e,r,rfl|h]) λc na nb out g e h z=>%[SG.trans sg e,_,_,_,_,rfl,h|z]
 .intro x d %[sg,na,nb,out,g,rfl,m|l];have%[v,I,J,L|M]:=m;have q:=v.length_eq;simp only[Z9,Yj,Zb,Array.size_reverse]at q
  lia
 .rintro⟨O,x2⟩ d ⟨sg,r,y,B⟩;subst y;exact aw (h r d sg B)
end
def uh(i:Nat):mergeAt' i=(do
 let s<-get
 let(some (b,na,c),some (d,nb,_)):=((pendingOf s)[i]?,(pendingOf s)[i+1]?)|unsupported "internal:list.sort.pending"
 set (setPending s (((pendingOf s).setIfInBounds i (b,na+nb,c)).eraseIdxIfInBounds (i+1)))
 let some k<-fk false (<-elem' (arrOf s) d) (arrOf s) b na 0|return false
 let(b,na):=(b+k,na-k)
 if na==0 then return true
 let some nb<-fk true (<-elem' (arrOf s) (b+na-1)) (arrOf s) d nb (nb-1)|return false
 if nb==0 then return true
 let x:=(arrOf s).extract b d
 let y:=(arrOf s).extract d (d+nb)
 let merged<-if na<=nb then nF x y else nG x y
 modify λs=>setArr s (merged.toList.zipIdx.foldl (λa (p,j)=>a.setIfInBounds (b+j) p) (arrOf s))
 return (failedOf (<-get)).isNone):=rfl
def uk:∀m c o (a:ZY),o+c+ ~~~m<=a.size->
 ((m.zipIdx c).foldl (λa p=>a.setIfInBounds (o+p.2) p.1) a).toList=a.toList.take (o+c) ++m++a.toList.drop (o+c+ ~~~m)
 |[],c,o,a,_=>by simp
 | x::m,c,o,a,h=>by
   rw[List.zipIdx_cons,Y7];rw[Zr]at h;rw[uk m _ o _ (by rw[Array.size_setIfInBounds];lia),Array.toList_setIfInBounds];have b:o+c< ~~~a.toList:=by rw[Zb];lia
   rw[Zr,List.take_set,List.drop_set];rw[show o+(c+1)=o+c+1 by lia,show o+c+1+ ~~~m=o+c+(~~~m+1) by lia];have e:(a.toList.take (o+c+1)).set (o+c) x=a.toList.take (o+c) ++[x]:=by
    rw[List.take_succ_eq_append_getElem b];rw[List.set_append_right _ _ (by rw[Yj];lia)];rw[Yj,min_eq_left ⋯,sub_self];rfl
   rw[e];simp
section
variable{prog:Program}{w:World}{A:Around}{SI:Shared->Prop}{α β:Type}
def wx{D:Keyed->Prop}{N:Keyed->Nat}{i p J:Nat}{b X Y L2:List Keyed}{Q:Bool->SortSt->Prop}{st:SortSt}(c:Cmp prog w A SI (kindOf st) D N)(e:(arrOf st).toList=b++X++Y++L2)(L:X≠[])(M:Y≠[])
 (d:∀x∈(arrOf st).toList,D x) (O:(pendingOf st)[i]?∣(~~~b,~~~X,p)) (q:(pendingOf st)[i+1]?∣(~~~b+ ~~~X,~~~Y,J)) (z:failedOf st=none)
 (h:∀Z g,Z.Perm (X++Y)->(arrOf g).toList=b++Z++L2->kindOf g=kindOf st->failedOf g=none->pendingOf g=((pendingOf st).setIfInBounds i (~~~b,~~~X+ ~~~Y,p)).eraseIdxIfInBounds (i+1)->Q true g):(SC prog w A SI) (mergeAt' i) Q st:=by
 have T:0< ~~~X:=length_pos_iff.mpr L;have lY:0< ~~~Y:=length_pos_iff.mpr M;have sz:(arrOf st).size= ~~~b+ ~~~X+ ~~~Y+ ~~~L2:=by
  rw[<-Zb,e];simp only[Z9]
 have l:∀i,i<(arrOf st).size->∃x,(arrOf st)[i]?∣x/\D x:=λi hi=>%[(arrOf st)[i],by simp|d _ ∅]
 have sub:∀(u v i:Nat) (hi:i<((arrOf st).extract u v).size),((arrOf st).extract u v)[i]?∣((arrOf st).extract u v)[i]/\D ((arrOf st).extract u v)[i]:=λu v i hi=>%[Array.getElem?_eq_getElem hi|by rw[Array.getElem_extract];exact d _ ∅]
 rw[uh];refine au (du ?_);rw[O,q];dsimp only;have%[y,U|dy]:=l (~~~b+ ~~~X) ⋯;refine au (FV (au (bo U (au (eI c dy (λi hi=>l _ ⋯) T λk hk=>?_)))));dsimp only
 split
 .exact aw (h (X++Y) _ (List.Perm.refl _) (by show(arrOf st).toList=_;rw[e];simp) rfl z rfl)
 rename_i C
 have C:=aX C;have%[x,hx|dx]:=l (~~~b+k+(~~~X-k) -1) ⋯;refine au (bo hx (au (eI c dx (λi hi=>l _ ⋯) ⋯ λk2 B=>?_)));dsimp only
 split
 .exact aw (h (X++Y) _ (List.Perm.refl _) (by show(arrOf st).toList=_;rw[e];simp) rfl z rfl)
 rename_i E
 have E:=aX E;have ex:((arrOf st).extract (~~~b+k) (~~~b+ ~~~X)).toList=X.drop k:=by
  rw[eR,e,Ze,Ze,List.drop_append,List.drop_of_length_le ⋯,nil_append,Nat.add_sub_cancel_left,List.drop_append_of_le_length ⋯,X9 (by rw[Yf];lia),Zn (by rw[Yf];lia)]
 have G:((arrOf st).extract (~~~b+ ~~~X) (~~~b+ ~~~X+k2)).toList=Y.take k2:=by
  rw[mH,e,Ze,List.drop_append,List.drop_of_length_le (by rw[Z9];lia),nil_append,Z9,sub_self,drop_zero,X9 ⋯]
 have sx:=congrArg List.length ex;have sy:=congrArg List.length G;rw[Zb,Yf]at sx;rw[Zb,Yj]at sy;have H:∀(r:ZY) (f:SortSt),SG (setPending st (((pendingOf st).setIfInBounds i (~~~b,~~~X+ ~~~Y,p)).eraseIdxIfInBounds (i+1))) f->dA ((arrOf st).extract (~~~b+k) (~~~b+ ~~~X)) ((arrOf st).extract (~~~b+ ~~~X) (~~~b+ ~~~X+k2)) r->
  (SC prog w A SI) (do modify (λs=>setArr s (r.toList.zipIdx.foldl (λa (p,j)=>a.setIfInBounds (~~~b+k+j) p) (arrOf s)));let x<-get;pure (failedOf x).isNone) Q f:=λr f sg o=>by
  unfold dA at o;rw[ex,G]at o;refine au (b8 (au (du (aw ?_))));have m:failedOf f=none:=by rw[sg.2.2.2];exact z
  show Q (failedOf f).isNone _;rw[m];have I: ~~~r.toList=(~~~X-k) +k2:=by
   rw[o.length_eq,Z9,Yf,Yj,min_eq_left B]
  refine h (X.take k++r.toList++Y.drop k2) _ ?_ ?_ sg.1 m sg.2.2.1
  .refine(List.Perm.append_right _ (List.Perm.append_left _ o)).trans ?_;rw[<-Ze,X8,Ze,X8]
  .show(setArr f _|>arrOf).toList=_;have n:arrOf f=arrOf st:=sg.2.1;show((r.toList.zipIdx).foldl (λ(a:ZY) (p:Keyed×Nat)=>a.setIfInBounds (~~~b+k+p.2) p.1) (arrOf f)).toList=_;rw[uk _ 0 _ _ (by rw[I,n,sz];lia),n,e,I];have t1:(b++X++Y++L2).take (~~~b+k+0)=b++X.take k:=by
    rw[add_zero,Ze,Ze,List.take_append,Zn ⋯,Nat.add_sub_cancel_left,X9 ⋯]
   have t2:(b++X++Y++L2).drop (~~~b+k+0+(~~~X-k+k2))=Y.drop k2++L2:=by
    rw[show ~~~b+k+0+(~~~X-k+k2)= ~~~(b++X)+k2 by rw[Z9];lia,Ze,List.drop_append,List.drop_of_length_le ⋯,nil_append,Nat.add_sub_cancel_left,List.drop_append_of_le_length ⋯]
   rw[t1,t2];simp
 split
 .exact au (wv %[c,sub _ _ _|sub _ _ _] ⋯ ⋯ H)
 .exact au (ww %[c,sub _ _ _|sub _ _ _] ⋯ ⋯ H)
end
abbrev ky(N:Keyed->Nat)(a:ZY)(i:Nat):Nat:=N (a.getD i (Value.none,Value.none))
def A7(h:a[i]?∣x):ky N a i=N x:=by
 unfold ky
 simp_all
def uo(h:a[i]? =b[j]?):ky N a i=ky N b j:=by
 unfold ky
 simp_all
structure CR (st0 st:SortSt) (lo:Nat):Prop where
 kind:kindOf st=kindOf st0
 pend:pendingOf st=pendingOf st0
 fail:failedOf st=failedOf st0
 perm:(arrOf st).Perm (arrOf st0)
 same:∀i,i<lo->(arrOf st)[i]? =(arrOf st0)[i]?
def CR.refl(st:SortSt)(lo:Nat):CR st st lo:=%[rfl,rfl,rfl,Array.Perm.refl _|λ_ _=>rfl]
def CR.size{a st:SortSt}{lo:Nat}(h:CR a st lo):(arrOf st).size=(arrOf a).size:=h.perm.size_eq
def CR.rev{a st:SortSt}{lo i j:Nat}(h:CR a st lo)(hi:lo<=i)(b:j<=(arrOf st).size):CR a (setArr st (mirror (arrOf st) i j ((j-i)/2))) lo:=
 %[h.kind,h.pend,h.fail,(mirror_perm _ _ _ _).trans h.perm|λk c=>by
  rw[getElem?_mirror_all b,if_neg ⋯];exact h.same k c]
def wz(b:j<=a.size)(k:Nat):ky N (mirror a i j ((j-i)/2)) k=if i<=k/\k<j then ky N a (i+j-1-k)else ky N a k:=by
 split
 .rename_i h
  exact uo (by rw[getElem?_mirror_all b,if_pos h])
 .rename_i h
  exact uo (by rw[getElem?_mirror_all b,if_neg h])
abbrev Up(N:Keyed->Nat)(a:ZY)(lo n:Nat):Prop:=∀i j,i<=j->j<n->ky N a (lo+i)<=ky N a (lo+j)
abbrev Dn(N:Keyed->Nat)(a:ZY)(lo n:Nat):Prop:=∀i j,i<=j->j<n->ky N a (lo+j)<=ky N a (lo+i)
def Up.one(N:Keyed->Nat)(a:ZY)(lo:Nat):Up N a lo 1:=λi j b c=>by
 simp_all
def Up.step{lo n:Nat}(h:Up N a lo n)(d:1<=n)(f: ¬ ky N a (lo+n)<ky N a (lo+n-1)):Up N a lo (n+1):=λi j b g=>by
 by_cases e:j=n
 .subst e;by_cases c:i=j
  .exact c▸Zi _
  .have:=h i (j-1) ⋯ ⋯;rw[show lo+(j-1)=lo+j-1 by lia]at this
   lia
 .exact h i j b ⋯
def Dn.step{lo n:Nat}(h:Dn N a lo n)(d:1<=n)(f:ky N a (lo+n)<=ky N a (lo+n-1)):Dn N a lo (n+1):=λi j b g=>by
 by_cases e:j=n
 .subst e;by_cases c:i=j
  .exact c▸Zi _
  .have:=h i (j-1) ⋯ ⋯;rw[show lo+(j-1)=lo+j-1 by lia]at this
   lia
 .exact h i j b ⋯
def Dn.rev{lo n:Nat}(h:Dn N a lo n)(b:lo+n<=a.size):Up N (mirror a lo (lo+n) ((lo+n-lo)/2)) lo n:=λi j c d=>by
 rw[wz b,wz b,if_pos ⋯,if_pos ⋯];have:=h (n-1-j) (n-1-i) ⋯ ⋯
 grind
def Dn.same{lo n i j:Nat}(h:Dn N a lo n)(d:j<=a.size)(g:∀k b,i<=k->k<j->i<=b->b<j->ky N a k=ky N a b):Dn N (mirror a i j ((j-i)/2)) lo n:=by
 have e:∀k,ky N (mirror a i j _) k=ky N a k:=λk=>by
  rw[wz d]
  grind
 intro p q c f;rw[e,e];exact h p q c f
section
variable{prog:Program}{w:World}{A:Around}{SI:Shared->Prop}{α β:Type}
def nH{i j lo:Nat}{a st:SortSt}(c:Cmp prog w A SI (kindOf a) D N)(d:∀x∈(arrOf a).toList,D x)(r:CR a st lo)(hi:i<(arrOf a).size)(m:j<(arrOf a).size)
 (h:Q (some (decide (ky N (arrOf st) i<ky N (arrOf st) j))) st):(SC prog w A SI) (ltAt' i j) Q st:=by
 have f:=λx n=>d x ((Array.perm_iff_toList_perm.mp r.perm).mem_iff.mp n)
 have b:=r.size▸hi;have e:=r.size▸m;have g:=Array.getElem?_eq_getElem b;have l:=Array.getElem?_eq_getElem e;refine Dh (r.kind▸c) g l (f _ ∅) (f _ ∅) ?_;rw[A7 g,A7 l]at h;exact h
def sA{st:SortSt}(h:Q () (setArr st (mirror (arrOf st) i j ((j-i)/2)))):(SC prog w A SI) (reverseSlice' i j) Q st:=by
 exact b8 h
abbrev cuL(lo:Nat)(x:Option (Option Nat)×Nat):StateT SortSt Sem (ForInStep (Option (Option Nat)×Nat)):=do
 match<-ltAt' (lo+x.2) (lo+x.2-1)with
 | some w=>if w=true then pure (.done (none,x.2))else pure (.yield (none,x.2+1))
 | _=>pure (.done (some none,x.2))
abbrev cu3(lo nrem n:Nat):StateT SortSt Sem (Option Nat):=do
 reverseSlice' lo (lo+n)
 let x<-forIn [n:nrem] (none,n) λ_ x=>cuL lo x
 match x.1 with
 | some r=>pure r
 | none=>pure (some x.2)
abbrev cuM(lo:Nat)(x:Option (Option Nat)×Nat×Nat):StateT SortSt Sem (ForInStep (Option (Option Nat)×Nat×Nat)):=do
 match<-ltAt' (lo+x.2.1) (lo+x.2.1-1)with
 | some w=>
   if w=true then(if x.2.2>0 then(do
    reverseSlice' (lo+x.2.1-(x.2.2+1)) (lo+x.2.1)
    pure (.yield (none,x.2.1+1,0)))else pure (.yield (none,x.2.1+1,0)))
   else(do
    match<-ltAt' (lo+x.2.1-1) (lo+x.2.1)with
    | some w=>if w=true then pure (.done (none,x.2.1,x.2.2))else pure (.yield (none,x.2.1+1,x.2.2+1))
    | _=>pure (.done (some none,x.2.1,x.2.2)))
 | _=>pure (.done (some none,x.2.1,x.2.2))
abbrev cu2(lo nrem n:Nat):StateT SortSt Sem (Option Nat):=do
 rule "list.sort.descending-run"
 let x<-forIn [n+1:nrem] (none,n+1,0) λ_ x=>cuM lo x
 match x.1 with
 | some r=>pure r
 | none=>
   if x.2.2>0 then(do
    reverseSlice' (lo+x.2.1-(x.2.2+1)) (lo+x.2.1)
    cu3 lo nrem x.2.1)else cu3 lo nrem x.2.1
set_option smartUnfolding false in
def Hi(lo nrem:Nat):countRun' lo nrem=(do
 let x<-forIn [1:nrem] (none,1) λ_ x=>cuL lo x
 match x.1 with
 | some r=>pure r
 | none=>
   if(x.2==nrem)=true then pure (some x.2)
   else if x.2>1 then(do
    match<-ltAt' lo (lo+x.2-1)with
    | some w=>if w=true then pure (some x.2)else(do
      reverseSlice' lo (lo+x.2)
      cu2 lo nrem x.2)
    | _=>pure none)else cu2 lo nrem x.2):=by
 rw[countRun'_eq];rfl
variable{D:Keyed->Prop}{N:Keyed->Nat}{lo nrem n j:Nat}{Q:Option Nat->SortSt->Prop}{st st2:SortSt}
def A8{q:Option _}{R:ForInStep _->SortSt->Prop}(c:Cmp prog w A SI (kindOf st) D N)(d:∀x∈(arrOf st).toList,D x)(r:CR st st2 lo)(e:lo+nrem<=(arrOf st).size)(f:1<=j)(g:j<nrem)
 (a:ky N (arrOf st2) (lo+j)<ky N (arrOf st2) (lo+j-1)->R (.done (none,j)) st2) (b: ¬ ky N (arrOf st2) (lo+j)<ky N (arrOf st2) (lo+j-1)->R (.yield (none,j+1)) st2):(SC prog w A SI) (cuL lo (q,j)) R st2:=by
 refine au (nH c d r ⋯ ⋯ ?_);dsimp only;by_cases q:ky N (arrOf st2) (lo+j)<ky N (arrOf st2) (lo+j-1)
 .rw[Zf q,if_pos rfl];exact aw (a q)
 .rw[Zh q,if_neg ∅];exact aw (b q)
def A9(c:Cmp prog w A SI (kindOf st) D N)(d:∀x∈(arrOf st).toList,D x)(s:lo+nrem<=(arrOf st).size)(h:∀n a,CR st a lo->1<=n->n<=nrem->Up N (arrOf a) lo n->Q (some n) a)
 (r:CR st st2 lo) (n1:1<=n) (o:n<=nrem) (u:Dn N (arrOf st2) lo n):(SC prog w A SI) (cu3 lo nrem n) Q st2:=by
 refine au (sA ?_);have v:=r.rev (j:=lo+n) (Zi _) (by rw[r.size];lia);have g:=u.rev (by rw[r.size];lia);refine au (bU (bF (Q:=λx a=>CR st a lo/\∃n,x=(none,n)/\1<=n/\n<=nrem/\Up N (arrOf a) lo n)
  (λj x a=>CR st a lo/\x=(none,j)/\Up N (arrOf a) lo j) o %[v,rfl|g] ?_ ?_) ?_)
 .intro j x e i p %[f,rfl|b];have l:=Ye n1 i;exact A8 c d f s l p (λ_=>%[f,j,rfl,l,Yc p|b]) λq=>%[f,rfl|b.step l q]
 .intro x e %[f,rfl|b];exact%[f,nrem,ρ,Ye n1 o,Zi _|b]
 .intro x e %[f,m,rfl,y,m2|b];exact aw (h m e f y m2 b)
def F2{q:Option (Option Nat)}{k:Nat}{R:ForInStep (Option (Option Nat)×Nat×Nat)->SortSt->Prop}(c:Cmp prog w A SI (kindOf st) D N)(d:∀x∈(arrOf st).toList,D x)(r:CR st st2 lo)(B:lo+nrem<=(arrOf st).size)(v:k+1<=j)(C:j<nrem)
 (o:Dn N (arrOf st2) lo j) (p:∀i a,lo+j-(k+1)<=i->i<lo+j->lo+j-(k+1)<=a->a<lo+j->ky N (arrOf st2) i=ky N (arrOf st2) a)
 (y:R (.done (none,j,k)) st2) (g:∀k st2,CR st st2 lo->k<=j->Dn N (arrOf st2) lo (j+1)->(∀i a,lo+(j+1) -(k+1)<=i->i<lo+(j+1)->lo+(j+1) -(k+1)<=a->a<lo+(j+1)->ky N (arrOf st2) i=ky N (arrOf st2) a)->R (.yield (none,j+1,k)) st2):(SC prog w A SI) (cuM lo (q,j,k)) R st2:=by
 have one:∀st,∀i a,lo+(j+1) -(0+1)<=i->i<lo+(j+1)->lo+(j+1) -(0+1)<=a->a<lo+(j+1)->ky N (arrOf st) i=ky N (arrOf st) a:=λst i a h l z s=>by rw[show i=a by lia]
 refine au (nH c d r ⋯ ⋯ ?_);dsimp only;by_cases m:ky N (arrOf st2) (lo+j)<ky N (arrOf st2) (lo+j-1)
 .rw[Zf m,if_pos rfl];have b:=o.step ⋯ (Yc m);by_cases f:k>0
  .rw[if_pos f];exact au (sA (aw (g 0 _ (r.rev ⋯ (by rw[r.size];lia)) (Xb _) (b.same (by rw[r.size];lia) p) (one _))))
  .rw[if_neg f];exact aw (g 0 _ r (Xb _) b (one _))
 .rw[Zh m,if_neg ∅];refine au (nH c d r ⋯ ⋯ ?_);dsimp only;by_cases u:ky N (arrOf st2) (lo+j-1)<ky N (arrOf st2) (lo+j)
  .rw[Zf u,if_pos rfl];exact aw y
  .rw[Zh u,if_neg ∅];have all:∀i,lo+j-(k+1)<=i->i<lo+(j+1)->ky N (arrOf st2) i=ky N (arrOf st2) (lo+j-1):=λi h l=>by
    by_cases e:i=lo+j
    .lia
    .exact p _ _ h ⋯ ⋯ ⋯
   exact aw (g (k+1) _ r v (o.step ⋯ ⋯) λi a h l z s=>(all i ⋯ l).trans (all a ⋯ s).symm)
def Ba(c:Cmp prog w A SI (kindOf st) D N)(d:∀x∈(arrOf st).toList,D x)(p:lo+nrem<=(arrOf st).size)(h:∀n a,CR st a lo->1<=n->n<=nrem->Up N (arrOf a) lo n->Q (some n) a)
 (r:CR st st2 lo) (B:n<nrem) (s:Dn N (arrOf st2) lo (n+1)):(SC prog w A SI) (cu2 lo nrem n) Q st2:=by
 refine au (gF ?_);refine au (bU (bF (Q:=λx a=>CR st a lo/\∃m q,x=(none,m,q)/\q+1<=m/\m<=nrem/\Dn N (arrOf a) lo m/\(∀k f,lo+m-(q+1)<=k->k<lo+m->lo+m-(q+1)<=f->f<lo+m->ky N (arrOf a) k=ky N (arrOf a) f))
  (λj x a=>CR st a lo/\∃q,x=(none,j,q)/\q+1<=j/\Dn N (arrOf a) lo j/\(∀k f,lo+j-(q+1)<=k->k<lo+j->lo+j-(q+1)<=f->f<lo+j->ky N (arrOf a) k=ky N (arrOf a) f)) B %[r,0,rfl,Nat.le_add_left _ _,s|λk f H I J L=>by rw[show k=f by lia]] ?_ ?_) ?_)
 .intro j x l C v %[g,q,rfl,i,b|e];exact F2 c d g p i v b e %[g,j,q,rfl,i,Yc v,b|e] λk st2 r E s G=>%[r,k,rfl,Nat.succ_le_succ E,s|G]
 .intro x l %[g,q,rfl,i,b|e];exact%[g,nrem,q,ρ,i,Zi _,b|e]
 .intro x l %[g,m,q,rfl,u,y,b|e];have z:=Ye (Nat.le_add_left _ _) u;dsimp only;by_cases o:q>0
  .rw[if_pos o];exact au (sA (A9 c d p h (g.rev ⋯ (by rw[g.size];lia)) z y (b.same (by rw[g.size];lia) e)))
  .rw[if_neg o];exact A9 c d p h g z y b
def lO{lo nrem:Nat}{st:SortSt}(c:Cmp prog w A SI (kindOf st) D N)(d:∀x∈(arrOf st).toList,D x)(r:1<=nrem)(g:lo+nrem<=(arrOf st).size)
 (h:∀n a,CR st a lo->1<=n->n<=nrem->Up N (arrOf a) lo n->Q (some n) a):(SC prog w A SI) (countRun' lo nrem) Q st:=by
 rw[Hi];refine au (bU (bF (Q:=λx a=>a=st/\∃n,x=(none,n)/\1<=n/\n<=nrem/\Up N (arrOf st) lo n/\(n=nrem\/ky N (arrOf st) (lo+n)<ky N (arrOf st) (lo+n-1)))
  (λj x a=>a=st/\x=(none,j)/\Up N (arrOf st) lo j) r %[rfl,rfl|Up.one _ _ _] ?_ ?_) ?_)
 .intro j x a e f %[rfl,rfl|up];exact A8 c d (CR.refl _ lo) g e f (λq=>%[rfl,j,rfl,e,Yc f,up|.inr q]) λq=>%[rfl,rfl|up.step e q]
 .intro x a %[rfl,rfl|up];exact%[ρ,nrem,ρ,r,Zi _,up|.inl rfl]
 .intro x b %[G,n,rfl,n1,s,up|H];subst G;dsimp only;by_cases l:n=nrem
  .rw[if_pos (by simp[l])];exact aw (h n b (CR.refl _ _) n1 s up)
  rw[if_neg (by simp[l])];have u:n<nrem:=by lia
  by_cases v:n>1
  .rw[if_pos v];refine au (nH c d (CR.refl _ lo) ⋯ ⋯ ?_);dsimp only;by_cases y:ky N (arrOf b) lo<ky N (arrOf b) (lo+n-1)
   .rw[Zf y,if_pos rfl];exact aw (h n b (CR.refl _ _) n1 s up)
   .rw[Zh y,if_neg ∅];have all:∀i,i<n->ky N (arrOf b) (lo+i)=ky N (arrOf b) lo:=λi hi=>by
     have z:=up 0 i (Xb _) hi;have B:=up i (n-1) ⋯ ⋯;rw[show lo+(n-1)=lo+n-1 by lia]at B;rw[add_zero]at z
     lia
    have m:Dn N (arrOf b) lo n:=λi j o f=>by rw[all i ⋯,all j f];exact Zi _
    exact au (sA (Ba c d g h ((CR.refl b lo).rev (Zi _) ⋯) u ((m.step n1 ⋯).same ⋯ (λk p z B I J=>by
     have C:=all (k-lo) ⋯;have E:=all (p-lo) ⋯;rw[show lo+(k-lo)=k by lia]at C;rw[show lo+(p-lo)=p by lia]at E;rw[C,E]))))
  .rw[if_neg v];refine Ba c d g h (CR.refl b lo) u (Dn.step (λi j o f=>?_) n1 (Yc (H.resolve_left l)));rw[show i=j by lia];exact Zi _
end
section
variable{prog:Program}{w:World}{A:Around}{SI:Shared->Prop}{α β:Type}
def CR.move{a st:SortSt}{lo k l:Nat}(h:CR a st lo)(b:lo+k<(arrOf st).size)(c:l<=k):CR a (setArr st (bubble (arrOf st) (lo+k) (lo+k-(lo+l)))) lo:=
 %[h.kind,h.pend,h.fail,(bubble_perm _ _ _).trans h.perm|λi hi=>by
  rw[getElem?_bubble b _ ⋯,if_neg ⋯,if_neg ⋯];exact h.same i hi]
def xF(f:b<a.size)(g:d<=b)(k:Nat):ky N (bubble a b d) k=if k=b-d then ky N a b else if b-d<k/\k<=b then ky N a (k-1)else ky N a k:=by
 by_cases c:k=b-d
 .rw[if_pos c];exact uo (by rw[getElem?_bubble f d g,if_pos c])
 .rw[if_neg c];by_cases e:b-d<k/\k<=b
  .rw[if_pos e];exact uo (by rw[getElem?_bubble f d g,if_neg c,if_pos e])
  .rw[if_neg e];exact uo (by rw[getElem?_bubble f d g,if_neg c,if_neg e])
def qy{lo n ok:Nat}{f st:SortSt}(c:Cmp prog w A SI (kindOf f) D N)(d:∀x∈(arrOf f).toList,D x)(r:CR f st lo)(O:1<=ok)(T:ok<=n)(hs:lo+n<=(arrOf f).size)(up:Up N (arrOf st) lo ok)
 (h:∀a,CR f a lo->Up N (arrOf a) lo n->Q true a):(SC prog w A SI) (binarySort' lo n ok) Q st:=by
 rw[binarySort'_eq];rw[show max ok 1=ok by lia];refine au (bU (bF (Q:=λx a=>x=(none,())/\CR f a lo/\Up N (arrOf a) lo n) (λk x a=>x=(none,())/\CR f a lo/\Up N (arrOf a) lo k) T %[rfl,r|up] ?_ ?_) ?_)
 .intro k x b U hk %[rfl,m|up1];dsimp only;have pv:∀i,i<k->lo+i<(arrOf f).size:=λi hi=>by lia
  refine au (bU (bF (Q:=λx a=>a=b/\∃l,x.1=none/\x.2.1=l/\l<=k/\(∀i,i<l->ky N (arrOf b) (lo+i)<=ky N (arrOf b) (lo+k))/\(∀i,l<=i->i<k->ky N (arrOf b) (lo+k)<ky N (arrOf b) (lo+i)))
   (λj x a=>a=b/\∃l q,x=(none,l,q)/\l<=q/\q<=k/\q-l<=k-j/\(∀i,i<l->ky N (arrOf b) (lo+i)<=ky N (arrOf b) (lo+k))/\(∀i,q<=i->i<k->ky N (arrOf b) (lo+k)<ky N (arrOf b) (lo+i))) (Xb _)
   %[rfl,0,k,rfl,⋯,⋯,⋯,λi hi=>absurd hi (X1 _)|λi O h2=>by lia] ?_ ?_) ?_)
  .intro j x g _ Y %[rfl,l,q,rfl,C,o,hm,s|u];dsimp only;by_cases v:l>=q
   .rw[if_pos v];have e:l=q:=by lia
    subst e;exact aw %[rfl,l,rfl,rfl,o,s|u]
   .rw[if_neg v];refine au (nH c d m ⋯ ⋯ ?_);dsimp only;by_cases p:ky N (arrOf g) (lo+k)<ky N (arrOf g) (lo+(l+q)/2)
    .rw[Zf p,if_pos rfl];exact aw %[rfl,l,_,rfl,⋯,⋯,⋯,s|λi y B=>Zg p (up1 _ _ y B)]
    .rw[Zh p,if_neg ∅];exact aw %[rfl,_,q,rfl,⋯,⋯,⋯,λi y=>Ye (up1 i ((l+q)/2) ⋯ ⋯) ⋯|u]
  .intro x g %[rfl,l,q,rfl,C,o,hm,s|u];have e:l=q:=by lia
   subst e;exact%[ρ,l,ρ,ρ,o,s|u]
  .rintro⟨x1,x2,x3⟩ g ⟨e2,l,H,I,E,s,u⟩;subst e2;dsimp only at H I;subst H I;dsimp only;rw[moveDown'_eq];refine au (b8 (aw %[rfl,m.move (by rw[m.size];lia) E|?_]));have z:lo+k<(arrOf g).size:=by rw[m.size];lia
   intro i j G Y;rw[xF z ⋯,xF z ⋯];have ed:lo+k-(lo+k-(lo+x2))=lo+x2:=by lia
   rw[ed];by_cases y:lo+i=lo+x2
   .rw[if_pos y];by_cases B:lo+j=lo+x2
    .rw[if_pos B];exact Zi _
    .rw[if_neg B,if_pos ⋯];have:=u (j-1) ⋯ ⋯;rw[show lo+(j-1)=lo+j-1 by lia]at this
     lia
   .rw[if_neg y];by_cases J:lo+x2<lo+i/\lo+i<=lo+k
    .rw[if_pos J,if_neg ⋯,if_pos ⋯];have:=up1 (i-1) (j-1) ⋯ ⋯;rw[show lo+(j-1)=lo+j-1 by lia,show lo+(i-1)=lo+i-1 by lia]at this;exact this
    .rw[if_neg J];by_cases L:lo+j=lo+x2
     .rw[if_pos L];exact s i ⋯
     .rw[if_neg L];by_cases M:lo+x2<lo+j/\lo+j<=lo+k
      .rw[if_pos M];have:=up1 i (j-1) ⋯ ⋯;rw[show lo+(j-1)=lo+j-1 by lia]at this;exact this
      .rw[if_neg M];exact up1 i j G ⋯
 .intro x b %[rfl,m|up1];exact%[ρ,m|up1]
 .intro x b %[rfl,m|up1];exact aw (h b m up1)
def Di(h:Up N a 0 a.size):Srt N a.toList:=by
 refine List.pairwise_iff_getElem.mpr λi j hi b c=>?_
 have g:∀i hi,N a.toList[i]=ky N a (0+i):=λi hi=>(A7 ∅).symm
 rw[g,g];exact h i j ⋯ (b)
def wA{st:SortSt}(c:Cmp prog w A SI (kindOf st) D N)(d:∀x∈(arrOf st).toList,D x)(G:1<=(arrOf st).size)(l:(arrOf st).size<64)(B:pendingOf st= #[])(H:failedOf st=none)
 (h:∀a,(arrOf a).toList.Perm (arrOf st).toList->Srt N (arrOf a).toList->failedOf a=none->Q () a):(SC prog w A SI) sortRuns' Q st:=by
 rw[sortRuns'_eq];refine au (du ?_);dsimp only;have I:minRun' (arrOf st).size (arrOf st).size 0=(arrOf st).size:=by
  obtain⟨m,e⟩:∃m,(arrOf st).size=m+1:=%[_|(Nat.sub_add_cancel G).symm]
  rw[e]at l ⊢;rw[minRun'_succ,if_pos l,add_zero]
 rw[I];refine au (bU (bF (Q:=λx a=>x=(none,(arrOf st).size)/\(arrOf a).toList.Perm (arrOf st).toList/\Srt N (arrOf a).toList/\failedOf a=none/\(pendingOf a).size=1)
  (λj x a=>(j=0/\x=(none,0)/\a=st)\/(x=(none,(arrOf st).size)/\(arrOf a).toList.Perm (arrOf st).toList/\Srt N (arrOf a).toList/\failedOf a=none/\(pendingOf a).size=1)) (Xb _) (.inl %[rfl,rfl|rfl]) ?_ ?_) ?_)
 .rintro j x f _ J (⟨rfl,rfl,rfl⟩|⟨rfl,ok⟩)
  .dsimp only;rw[if_neg ⋯];refine au (lO c d ⋯ ⋯ λn g C n1 U o=>?_);dsimp only;have E:∀(b:SortSt) (n:Nat),n=(arrOf f).size->CR f b 0->Up N (arrOf b) 0 n->(pendingOf b).back? =none/\(arrOf b).toList.Perm (arrOf f).toList/\Srt N (arrOf b).toList/\failedOf b=none/\(pendingOf b).size=0:=λb n e r u=>by
    refine%[by rw[r.pend,B];rfl,Array.perm_iff_toList_perm.mp r.perm,Di (by rw[r.size,<-e];exact u),r.fail.trans H|by rw[r.pend,B];rfl]
   by_cases i:n<(arrOf f).size
   .rw[if_pos i];refine au (gF (au (qy c d C n1 ⋯ ⋯ o λb L p=>?_)));rw[if_neg ∅];refine au (du ?_);have%[q,s,v,y|z]:=E b _ ⋯ L p;rw[q];dsimp only;refine au (b8 (aw (.inr %[?_,s,v,y|?_])))
    .rw[zero_add,Nat.sub_zero,Nat.min_self]
    .show((pendingOf b).push _).size=1;rw[Xf,z]
   .rw[if_neg i];refine au (du ?_);have%[q,s,v,y|z]:=E g _ ⋯ C o;rw[q];dsimp only;refine au (b8 (aw (.inr %[?_,s,v,y|?_])))
    .rw[zero_add,show n=(arrOf f).size by lia]
    .rw[Xf,z]
  .dsimp only;rw[if_pos (Zi _)];exact aw %[rfl|ok]
 .rintro x f (⟨e,_⟩|ok)
  .lia
  .exact ok
 .intro x f %[rfl,M,O,T|Y];dsimp only;refine au (bU (bF (Q:=λx a=>x=(none,())/\a=f) (λj x a=>x=(none,())/\a=f) (Xb _) %[rfl|rfl] ?_ ?_) ?_)
  .intro j x g _ J %[rfl|rfl];refine au (du ?_);rw[if_pos ⋯];exact aw %[rfl|rfl]
  .rintro x g e;exact e
  .intro x g %[rfl|rfl];exact aw (h g M O T)
end
abbrev dv:List (List Keyed×Nat)->Nat->List (Nat×Nat×Nat)
 |[],_=>[]
 |(r,p)::t,o=>(o,~~~r,p)::dv t (o+ ~~~r)
abbrev bG(a:List (List Keyed×Nat)):List Keyed:=(a\1).flatten
def cj(a b:List _):bG (a++b)=bG a++bG b:=by simp[bG]
def bh(a:List Keyed×Nat)(b:List _):bG (a::b)=a.1++bG b:=by simp[bG]
def df:∀a b o,dv (a++b) o=dv a o++dv b (o+ ~~~(bG a))
 |[],b,o=>by simp[dv,bG]
 |(r,p)::t,b,o=>by
  rw[cons_append,dv,dv,df t b,bh,Z9,cons_append,Nat.add_assoc]
def eJ:∀a o,~~~(dv a o)= ~~~a
 |[],_=>rfl
 |(r,p)::t,o=>by rw[dv,Zr,Zr,eJ t]
structure RI (st0 st:SortSt) (rp:List (List Keyed×Nat)) (rest:List Keyed):Prop where
 kind:kindOf st=kindOf st0
 fail:failedOf st=none
 perm:(arrOf st).toList.Perm (arrOf st0).toList
 arr:(arrOf st).toList=bG rp++rest
 pend:(pendingOf st).toList=dv rp 0
 runs:∀r∈rp,r.1≠[]
def RI.size{a st:SortSt}{b:List _}{rest:List Keyed}(h:RI a st b rest):(arrOf st).size=(arrOf a).size:=by
 rw[<-Zb,<-Zb,h.perm.length_eq]
def RI.psize{a st:SortSt}{b:List _}{rest:List Keyed}(h:RI a st b rest):(pendingOf st).size= ~~~b:=by
 rw[<-Zb,h.pend,eJ]
section
variable{prog:Program}{w:World}{A:Around}{SI:Shared->Prop}{α β:Type}
def jO{D:Keyed->Prop}{N:Keyed->Nat}{f st:SortSt}{a b:List _}{X Y:List Keyed}{p m i:Nat}{rest:List Keyed}{Q:Bool->SortSt->Prop}(c:Cmp prog w A SI (kindOf f) D N)(d:∀x∈(arrOf f).toList,D x)
 (h:RI f st (a++(X,p)::(Y,m)::b) rest) (hi:i= ~~~a) (k:∀Z g,RI f g (a++(Z,p)::b) rest-> ~~~Z= ~~~X+ ~~~Y->Q true g):(SC prog w A SI) (mergeAt' i) Q st:=by
 subst hi;have e:=h.arr;rw[cj,bh,bh]at e;have u:(arrOf st).toList=bG a++X++Y++(bG b++rest):=by rw[e];simp
 have B:=λx n=>d x (h.perm.mem_iff.mp n)
 have l:=h.pend;rw[df,dv,dv,zero_add]at l;have pl:=eJ a 0;have C:=by
  have:(pendingOf st).toList[~~~a]?∣(~~~(bG a),~~~X,p):=by
   rw[l,Y9 ⋯,pl,sub_self];rfl
  simpa using this
 have E:=by
  have:(pendingOf st).toList[~~~a+1]?∣(~~~(bG a)+ ~~~X,~~~Y,m):=by
   rw[l,Y9 ⋯,pl,Nat.add_sub_cancel_left];rfl
  simpa using this
 have v:=h.runs (X,p) ∅;refine wx (h.kind▸c) u v (h.runs (Y,m) ∅) B C E h.fail λZ g y z G H o=>?_
 have s: ~~~Z= ~~~X+ ~~~Y:=by rw[y.length_eq,Z9]
 refine k Z g %[G.trans h.kind,H,?_,?_,?_|λr j=>?_] s
 .refine List.Perm.trans ?_ h.perm;rw[z,u];rw[show bG a++X++Y++(bG b++rest)=bG a++(X++Y) ++(bG b++rest) by simp];exact List.Perm.append_right _ (List.Perm.append_left _ y)
 .rw[z,cj,bh];simp
 .rw[o,Array.toList_eraseIdxIfInBounds,Array.toList_setIfInBounds,l,df,dv,zero_add];rw[List.set_append_right _ _ ⋯,pl,sub_self,List.set_cons_zero];rw[List.eraseIdx_append_of_length_le ⋯,pl,Nat.add_sub_cancel_left,List.eraseIdx_cons_succ,List.eraseIdx_cons_zero];rw[s,Nat.add_assoc]
 .rcases Xj j with j|j
  .exact h.runs r (Yr _ j)
  .rcases mem_cons.mp j with rfl|j
   .intro q;have n:=length_pos_iff.mpr v;dsimp only at q n;rw[q,length_nil]at s
    lia
   .exact h.runs r (by simp[j])
def CR.toRI{d b a:SortSt}{f:List _}{rest:List Keyed}{lo n:Nat}(h:RI d b f rest)(r:CR b a lo)(j: ~~~(bG f)=lo)(o:lo+n<=(arrOf b).size):
 ∃R c,RI d a f (R++c)/\ ~~~R=n:=by
 have l:=r.size;refine%[((arrOf a).toList.drop lo).take n,(arrOf a).toList.drop (lo+n),%[r.kind.trans h.kind,r.fail.trans h.fail,(Array.perm_iff_toList_perm.mp r.perm).trans h.perm,?_,r.pend▸h.pend|h.runs]|?_]
 .have e:(arrOf a).toList.take lo=bG f:=by
   have m:(arrOf a).toList.take lo=(arrOf b).toList.take lo:=by
    apply ext_getElem?;intro i;rw[List.getElem?_take,List.getElem?_take]
    split
    .rename_i hi
     have:=r.same i hi;simpa using this
    .rfl
   rw[m,h.arr,X9 ⋯,Zn ⋯]
  rw[<-e];have g:=X8 n ((arrOf a).toList.drop lo);rw[drop_drop]at g;rw[g,(X8 lo (arrOf a).toList)]
 grind
def lP{α:Type}(f:α->α):∀l x,(l++[x]).modify l.length f=l++[f x]
 |[],x=>rfl
 | y::l,x=>by
   rw[cons_append,Zr,List.modify_succ_cons,lP f l x,cons_append]
def jP{α:Type}(l:List α):l=[]\/∃a x,l=a++[x]:=by
 by_cases h:l=[]
 .exact .inl h
 .exact .inr %[l.dropLast,l.getLast h|(List.dropLast_concat_getLast h).symm]
def yT{α:Type}(l:List α)(h:1< ~~~l):∃a x y,l=a++x::y::[]:=by
 rcases jP l with rfl|⟨a,y,rfl⟩
 .simp at h
 .rcases jP a with rfl|⟨b,x,rfl⟩
  .simp at h
  .exact%[b,x,y|by simp]
def RI.pushed{a st:SortSt}{c:List _}{R rest:List Keyed}{lo m:Nat}(h:RI a st c (R++rest))(d: ~~~(bG c)=lo)(e: ~~~R=m)(f:1<=m):RI a (setPending st ((pendingOf st).push (lo,m,0))) (c++[(R,0)]) rest:=by
 refine%[h.kind,h.fail,h.perm,?_,?_|λr b=>?_]
 .rw[h.arr,cj,bh];simp[bG]
 .rw[toList_push,h.pend,df,dv,dv,zero_add,d,e]
 .rcases Xj b with b|b
  .exact h.runs r b
  .rw[Xk b]
   grind
def RI.powered{a st:SortSt}{b:List _}{rest:List Keyed}{X:List Keyed}{p:Nat}(d:Nat)(h:RI a st (b++[(X,p)]) rest):RI a (setPending st ((pendingOf st).modify ((pendingOf st).size-1) λx=>(x.fst,x.2.fst,d))) (b++[(X,d)]) rest:=by
 refine%[h.kind,h.fail,h.perm,?_,?_|λr c=>?_]
 .rw[h.arr,cj,cj,bh,bh]
 .rw[Array.toList_modify,h.psize,h.pend,df,df];rw[show(b++[(X,p)]).length-1= ~~~(dv b 0) by rw[eJ];simp];show List.modify (dv b 0++[_]) _ _=_;rw[lP];rfl
 .rcases Xj c with c|c
  .exact h.runs r (Yr _ c)
  .rw[Xk c];exact h.runs (X,p) ∅
abbrev srP(lo n:Nat):StateT SortSt Sem (ForInStep (Option Unit×Nat)):=do
 modify λs=>setPending s ((pendingOf s).push (lo,n,0))
 pure (.yield (none,lo+n))
abbrev sr1(size lo n:Nat):StateT SortSt Sem (ForInStep (Option Unit×Nat)):=do
 let s<-get
 match(pendingOf s).back? with
 | some (a,n1,_)=>do
   let x<-forIn [0:size] (none,()) λ_ _=>(do
    let s<-get
    match if(pendingOf s).size>1 then(pendingOf s)[(pendingOf s).size-2]? else none with
    | some (_,_,o)=>
      if o<=power' size (2*a+n1) (2*a+n1+n1+n) size then pure (.done (none,()))
      else(do
       let b<-mergeAt' ((pendingOf s).size-2)
       if(!b)=true then pure (.done (some (),()))else pure (.yield (none,())))
    | _=>pure (.done (none,())))
   match x.1 with
   | some r=>pure (.done (some r,lo))
   | none=>do
     modify λs=>setPending s ((pendingOf s).modify ((pendingOf s).size-1) λx=>(x.1,x.2.1,power' size (2*a+n1) (2*a+n1+n1+n) size))
     srP lo n
 | _=>srP lo n
abbrev srO(size:Nat)(x:Option Unit×Nat):StateT SortSt Sem (ForInStep (Option Unit×Nat)):=
 if x.2>=size then pure (.done (none,x.2))
 else do
  match<-countRun' x.2 (size-x.2)with
  | some n=>
    if n<minRun' size size 0 then(do
     rule "list.sort.binary-insertion"
     let b<-binarySort' x.2 (min (size-x.2) (minRun' size size 0)) n
     if(!b)=true then pure (.done (some (),x.2))else sr1 size x.2 (min (size-x.2) (minRun' size size 0)))
    else sr1 size x.2 n
  | _=>pure (.done (some (),x.2))
abbrev srT(size:Nat)(x:Option Unit×Nat):StateT SortSt Sem Unit:=
 match x.1 with
 | some r=>pure r
 | none=>do
   let x<-forIn [0:size] (none,()) λ_ _=>(do
    let s<-get
    if(pendingOf s).size<=1 then pure (.done (none,()))
    else(do
     let b<-mergeAt' (if Option.any (λx=>decide (x<(pendingOf s)[(pendingOf s).size-2+1]?.elim 0 λx=>x.2.1)) (if(pendingOf s).size-2>0 then Option.map (λx=>x.2.1) (pendingOf s)[(pendingOf s).size-2-1]? else none)=true then(pendingOf s).size-2-1 else(pendingOf s).size-2)
     if(!b)=true then pure (.done (some (),()))else pure (.yield (none,()))))
   match x.1 with
   | some r=>pure r
   | none=>pure ()
set_option smartUnfolding false in
def Hj:sortRuns'=(do
 let s<-get
 let x<-forIn [0:(arrOf s).size] (none,0) λ_ x=>srO (arrOf s).size x
 srT (arrOf s).size x):=by
 rw[sortRuns'_eq];rfl
def Bb{D:Keyed->Prop}{N:Keyed->Nat}{st m:SortSt}{v:List (List Keyed×Nat)}{R e:List Keyed}{lo n:Nat}{T:ForInStep (Option Unit×Nat)->SortSt->Prop}(c:Cmp prog w A SI (kindOf st) D N)(d:∀x∈(arrOf st).toList,D x)(o:RI st m v (R++e))(q: ~~~(bG v)=lo)(p: ~~~R=n)(J:1<=n)
 (L:∀a h,RI st h a e-> ~~~(bG a)=lo+n->T (.yield (none,lo+n)) h):(SC prog w A SI) (sr1 (arrOf st).size lo n) T m:=by
 refine au (du ?_);rcases jP v with y|⟨O,⟨U,Y⟩,y⟩
 .subst y;have B:(pendingOf m).back? =none:=by
   have:=o.psize;simp[Array.back?,this]
  rw[B];exact au (b8 (aw (L _ _ (o.pushed q p J) (by rw[cj,Z9,q,bh];simp[bG,p]))))
 .have B:(pendingOf m).back?∣(~~~(bG O),~~~U,Y):=by
   rw[<-Array.getLast?_toList,o.pend,y,df,dv,dv,zero_add];simp
  rw[B];refine au (bU (bF (Q:=λx h=>x=(none,())/\∃a,RI st h a (R++e)/\a≠[]/\ ~~~(bG a)=lo) (λj x h=>x=(none,())/\∃a,RI st h a _/\a≠[]/\ ~~~(bG a)=lo) (Xb _) %[rfl,v,o,by rw[y];simp|q] ?_ ?_) ?_)
  .intro j5 x f _ _ %[rfl,l,b,i|g];refine au (du ?_);by_cases C:(pendingOf f).size>1
   .have%[r,%[z|E],%[Y5|q5]|rfl]:=yT l (b.psize▸C);have s:(pendingOf f).size-2= ~~~r:=by rw[b.psize];simp
    have G:(pendingOf f)[(pendingOf f).size-2]?∣(~~~(bG r),~~~z,E):=by
     have:(pendingOf f).toList[~~~r]?∣(~~~(bG r),~~~z,E):=by
      rw[b.pend,df,Y9 (by rw[eJ];lia),eJ,sub_self,zero_add];rfl
     rw[s];simpa using this
    rw[if_pos C,G];dsimp only
    split
    .exact aw %[rfl,_,b,i|g]
    .refine au (jO c d b s λZ5 aa H I=>aw %[rfl,_,H,by simp|?_]);rw[<-g,cj,cj,bh,bh,bh];simp[bG,I]
   .rw[if_neg C];exact aw %[rfl,_,b,i|g]
  .intro x f %[rfl,l,b,i|g];exact%[ρ,l,b,i|g]
  .intro x f %[rfl,l,b,i|g];dsimp only;have%[r,%[z|E]|rfl]:=(jP l).resolve_left i;refine au (b8 (au (b8 (aw ?_))));have u:∀M,~~~(bG (r++[(z,M)]))=lo:=λM=>by
    rw[<-g,cj,cj,bh,bh]
   exact L _ _ ((b.powered _).pushed (u _) p J) (by rw[cj,Z9,u,bh];simp[bG,p])
def uq{D:Keyed->Prop}{N:Keyed->Nat}{Q:Unit->SortSt->Prop}{st:SortSt}(c:Cmp prog w A SI (kindOf st) D N)(d:∀x∈(arrOf st).toList,D x)(h2:1<=(arrOf st).size)(hp:pendingOf st= #[])(hf:failedOf st=none)
 (h:∀f,(arrOf f).toList.Perm (arrOf st).toList->failedOf f=none->Q () f):(SC prog w A SI) sortRuns' Q st:=by
 rw[Hj];refine au (du ?_);refine au (bU (bF (Q:=λx f=>∃e lo,x=(none,lo)/\RI st f e [])
  (λj x f=>∃e rest lo,x=(none,lo)/\RI st f e rest/\ ~~~(bG e)=lo/\j<=lo/\lo<=(arrOf st).size) (Xb _) %[[],_,0,rfl,%[rfl,hf,List.Perm.refl _,rfl,by rw[hp];rfl|λ_ h=>(nomatch h)],rfl,Zi _|Xb _] ?_ ?_) ?_)
 .intro j x u _ hj %[e,rest,lo,rfl,g,m,G|H];unfold srO;dsimp only;have s1:=g.size;by_cases B:lo>=(arrOf st).size
  .rw[if_pos B];have I:rest=[]:=by
    have:=congrArg List.length g.arr;rw[Z9,Zb,s1,m]at this;exact length_eq_zero_iff.mp ⋯
   subst I;exact aw %[e,lo,rfl|g]
  rw[if_neg B];have d1:∀x∈(arrOf u).toList,D x:=λx hx=>d x (g.perm.mem_iff.mp hx)
  have c1:Cmp prog w A SI (kindOf u) D N:=g.kind▸c;refine au (lO c1 d1 ⋯ ⋯ λn o r2 n1 n2 J=>?_);dsimp only;by_cases v:n<minRun' (arrOf st).size (arrOf st).size 0
  .rw[if_pos v];refine au (gF (au (qy c1 d1 r2 n1 ⋯ ⋯ J λL r3 ab=>?_)));rw[if_neg ∅];have%[R,y,s|z]:=CR.toRI (n:=min ((arrOf st).size-lo) (minRun' (arrOf st).size (arrOf st).size 0)) g r3 m ⋯;exact Bb c d s m z ⋯ λM f r l=>%[_,_,_,rfl,r,l,⋯|⋯]
  .rw[if_neg v];have%[R,y,s|z]:=CR.toRI (n:=n) g r2 m ⋯;exact Bb c d s m z ⋯ λM f r l=>%[_,_,_,rfl,r,l,⋯|⋯]
 .intro x u %[e,rest,lo,rfl,g,m,G|H];have I:rest=[]:=by
   have:=congrArg List.length g.arr;rw[Z9,Zb,g.size,m]at this;exact length_eq_zero_iff.mp ⋯
  subst I;exact%[e,lo,ρ|g]
 .intro x u %[e,lo,rfl|g];unfold srT;dsimp only;have O:∀(e:List (List Keyed×Nat)),(∀r∈e,r.1≠[])-> ~~~e<= ~~~(bG e):=by
   intro e
   induction e with
   | nil=>intro _;exact Xb _
   | cons r t ih=>
     intro hr;rw[bh,Zr,Z9];have:=length_pos_iff.mpr (hr r ∅);have:=ih λq hq=>hr q (by simp[hq])
     lia
  have l1: ~~~e<=(arrOf st).size:=by
   have a1:=O e g.runs;have a2:=congrArg List.length g.arr;rw[Zx,Zb,g.size]at a2
   lia
  refine au (bU (bF (Q:=λx f=>x=(none,())/\∃e,RI st f e []/\ ~~~e<=1) (λj x f=>x=(none,())/\∃e,RI st f e []/\ ~~~e<=max 1 ((arrOf st).size-j)) (Xb _) %[rfl,e,g|⋯] ?_ ?_) ?_)
  .intro j x o _ hj %[rfl,e,g|T];refine au (du ?_);by_cases U:(pendingOf o).size<=1
   .rw[if_pos U];exact aw %[rfl,e,g|g.psize▸U]
   rw[if_neg U];have ac:1< ~~~e:=by rw[<-g.psize];lia
   generalize C:(if Option.any _ _=true then(pendingOf o).size-2-1 else(pendingOf o).size-2)=i
   have hi:i+1< ~~~e:=by
    have E:∀(c:Prop) [Decidable c] (n:Nat),2<=n->(if c then n-2-1 else n-2) +1<n:=λc _ n hn=>by lia
    rw[<-C,<-g.psize];exact E _ _ ⋯
   clear C;obtain⟨a,X,p,Y,q,b,rfl,aa⟩:∃a X p Y q b,e=a++(X,p)::(Y,q)::b/\i= ~~~a:=by
    refine%[e.take i,e[i].1,e[i].2,e[i+1].1,e[i+1].2,e.drop (i+2),?_|by rw[Yj];lia];have t1:=(X8 i e).symm;rw[List.drop_eq_getElem_cons ⋯,List.drop_eq_getElem_cons ⋯]at t1;exact t1
   refine au (jO c d g aa λZ L s zl=>?_);rw[if_neg ∅];refine aw %[rfl,_,s|?_];simp only[Z9,Zr]at T hi ⊢
   lia
  .intro x o %[rfl,e,g|T];exact%[ρ,e,g|⋯]
  .intro x o %[rfl,e,g|T];exact aw (h o g.perm g.fail)
def sc_sortRuns{D:Keyed->Prop}{N:Keyed->Nat}{Q:Unit->SortSt->Prop}{st:SortSt}(c:Cmp prog w A SI (kindOf st) D N)(d:∀x∈(arrOf st).toList,D x)(g:1<=(arrOf st).size)(i:pendingOf st= #[])(j:failedOf st=none)
 (h:∀e,(arrOf e).toList.Perm (arrOf st).toList->((arrOf st).size<64->Srt N (arrOf e).toList)->failedOf e=none->Q () e):(SC prog w A SI) sortRuns' Q st:=by
 by_cases f:(arrOf st).size<64
 .exact wA c d g f i j λe a b=>h e a λ_=>b
 .exact uq c d g i j λe a=>h e a λl=>absurd l f
end
end _S
namespace _T
open PySem PySem.SetTable
def ur:∀k,∃q,5^(2^k)=1+2^(k+2)*(2*q+1)
 | 0=>%[0|rfl]
 | k+1=>by
   have%[q|e]:=ur k;refine%[q+2^k*(2*q+1)*(2*q+1)|?_];rw[pow_succ 2 k,Nat.pow_mul,e]
   grind
abbrev step(M i:Nat):Nat:=(i*5+1)%M
abbrev iter(M:Nat):Nat->Nat->Nat
 | 0,i=>i
 | n+1,i=>step M (iter M n i)
abbrev geo:Nat->Nat
 | 0=>0
 | n+1=>geo n*5+1
def sB:∀n,4*geo n+1=5^n
 | 0=>rfl
 | n+1=>by
   have:=sB n;rw[pow_succ,<-this,geo]
   lia
def jQ(M:Nat)(i:Nat):∀n,iter M n i%M=(5^n*i+geo n)%M
 | 0=>by simp[iter,geo]
 | n+1=>by
   rw[iter,step,Nat.mod_mod,geo,pow_succ];rw[add_mod,Nat.mul_mod,(jQ M i n),<-Nat.mul_mod,<-add_mod]
   congr 1
   grind
def nJ:∀(k i e:Nat),e<2^k->∃n,n<2^k/\iter (2^k) n i%2^k=e
 | 0,i,e,c=>%[0,by simp|by simp at c;subst c;simp[Nat.mod_one]]
 | k+1,i,e,c=>by
   have%[n,M|s]:=nJ k i (e%2^k) (mod_lt _ (Nat.two_pow_pos k));have d:∀n,iter (2^(k+1)) n i%2^(k+1)%2^k=iter (2^k) n i%2^k:=λn=>by
    rw[Nat.mod_mod_of_dvd _ (Nat.pow_dvd_pow 2 (Yd k)),<-Nat.mod_mod_of_dvd _ (Nat.pow_dvd_pow 2 (Yd k)),jQ,Nat.mod_mod_of_dvd _ (Nat.pow_dvd_pow 2 (Yd k)),jQ]
   have%[q|b]:=ur k;have w:geo (2^k)=2^k*(2*q+1):=by
    have g:=sB (2^k);rw[b,Nat.pow_add]at g;have:2^k*2^2*(2*q+1)=4*(2^k*(2*q+1)):=by
     rw[Nat.mul_right_comm];lia
    lia
   have f:∀n,iter (2^(k+1)) (n+2^k) i%2^(k+1)=(iter (2^(k+1)) n i+2^k)%2^(k+1):=λn=>by
    rw[jQ];have y:5^(n+2^k)*i+geo (n+2^k)=5^(2^k)*(5^n*i+geo n) +geo (2^k):=by
     have g1:=sB (n+2^k);have g2:=sB n
     grind
    rw[y,b,w];have z:2^(k+1)=2*2^k:=by rw[pow_succ];lia
    have j:2^(k+2)=2*2^(k+1):=by rw[pow_succ];lia
    have o:=jQ (2^(k+1)) i n
    generalize 5^n*i+geo n=v at o ⊢
    have A:(1+2^(k+2)*(2*q+1))*v+2^k*(2*q+1)=v+2^k+2^(k+1)*(2*((2*q+1)*v) +q):=by
     rw[Nat.add_mul,Nat.one_mul,j];have B:2*2^(k+1)*(2*q+1)*v=2^(k+1)*(2*((2*q+1)*v)):=by
      simp only[Nat.mul_assoc,Nat.mul_left_comm]
     have C:2^k*(2*q+1)=2^k+2^(k+1)*q:=by
      rw[z,Nat.mul_add,Nat.mul_one]
      lia
     rw[B,C,Nat.mul_add]
     lia
    rw[A,Nat.add_mul_mod_self_left,add_mod,<-o,<-add_mod]
   have l:=d n;rw[s]at l;have E:iter (2^(k+1)) n i%2^(k+1)<2^(k+1):=mod_lt _ (Nat.two_pow_pos _);have m:=f n;rw[add_mod,Nat.mod_eq_of_lt (by lia:2^k<2^(k+1))]at m;obtain⟨a,p⟩:∃a,a=iter (2^(k+1)) n i%2^(k+1):=%[_|rfl]
   rw[<-p]at l E m;have key:a=e\/(a+2^k)%2^(k+1)=e:=by
    have r:=Nat.div_add_mod a (2^k);have G:=Nat.div_add_mod e (2^k);have H:a/2^k<2:=Nat.div_lt_of_lt_mul ⋯;have I:e/2^k<2:=Nat.div_lt_of_lt_mul ⋯;rw[l]at r
    generalize a/2^k=u at r H
    generalize e/2^k=v at G I
    have J:u=0\/u=1:=by lia
    have L:v=0\/v=1:=by lia
    rcases J with rfl|rfl<;> rcases L with rfl|rfl
    .left;lia
    .right
     rw[Nat.mod_eq_of_lt ⋯]
     lia
    .right
     rw[show a+2^k=e+2^(k+1) by lia,Nat.add_mod_right,Nat.mod_eq_of_lt c]
    .left;lia
   rcases key with h|h
   .exact%[n,⋯|by rw[<-p,h]]
   .exact%[n+2^k,⋯|by rw[m,h]]
abbrev stand(t:SetTable)(h:Int):Nat->Probe
 | 0=>t.probeStart h
 | n+1=>t.advance (stand t h n)
abbrev way(t:SetTable)(h:Int)(n:Nat):Nat:=(stand t h n).j
abbrev aN(t:SetTable)(h:Int):Nat->Nat×Nat
 | 0=>(bits h%(t.mask+1),bits h)
 | r+1=>leap t.mask (aN t h r).1 (aN t h r).2
def lQ(t:SetTable)(h:Int):∀n,(stand t h n).dummy=none
 | 0=>rfl
 | n+1=>by
   have:=lQ t h n;show(t.advance _).dummy=none;unfold advance
   split
   .exact this
   .exact this
def Dj(m i:Nat):runEnd m i-i<=9:=by
 unfold runEnd
 split<;> lia
def yU(t:SetTable)(h:Int):∀r,∃n,n<=10*r/\∀d,d<=runEnd t.mask (aN t h r).1-(aN t h r).1->
 stand t h (n+d)=%[(aN t h r).1+d,runEnd t.mask (aN t h r).1-(aN t h r).1-d,(aN t h r).1,(aN t h r).2|none]:=by
 have a:∀n i b,stand t h n=%[i,runEnd t.mask i-i,i,b|none]->∀d,d<=runEnd t.mask i-i->stand t h (n+d)=%[i+d,runEnd t.mask i-i-d,i,b|none]:=by
  intro n i b e d
  induction d with
  | zero=>intro _;rw[add_zero,e];rfl
  | succ d c=>
    intro f;show t.advance (stand t h (n+d))=_;rw[c ⋯];unfold advance;rw[if_pos ⋯]
    grind
 intro r
 induction r with
 | zero=>exact%[0,Xb _|a 0 _ _ rfl]
 | succ r c=>
   have%[n,g|e]:=c;have j:=Dj t.mask (aN t h r).1;refine%[n+(runEnd t.mask (aN t h r).1-(aN t h r).1) +1,⋯|a _ _ _ ?_];show t.advance _=_;rw[e _ (Zi _)];unfold advance;rw[if_neg ⋯];rfl
def Dk(h:Int):bits h<2^64:=by
 unfold bits
 grind
def nK(t:SetTable)(h:Int):∀r,(aN t h r).2=bits h/32^r
 | 0=>by simp[aN]
 | r+1=>by
   show(aN t h r).2/32=_;rw[nK t h r,Nat.div_div_eq_div_mul,pow_succ]
def Bc(t:SetTable)(h:Int):∀r,(aN t h r).1<t.mask+1
 | 0=>mod_lt _ (succ_pos _)
 | r+1=>mod_lt _ (succ_pos _)
def jv(t:SetTable)(h:Int):∀m,(aN t h (12+m)).1=iter (t.mask+1) m (aN t h 12).1
 | 0=>rfl
 | m+1=>by
   show((aN t h (12+m)).1*5+1+(aN t h (12+m)).2/32)%(t.mask+1)=step _ _;rw[jv t h m,nK,Nat.div_div_eq_div_mul,<-pow_succ];have a:bits h/32^(12+m+1)=0:=by
    exact Nat.div_eq_of_lt (Zg (Dk h) (Ye (by decide:2^64<=32^13) (Nat.pow_le_pow_right (!1) ⋯)))
   rw[a,add_zero];rfl
def nM(a:t.mask+1=2^k)(h:Int)(e:Nat)(c:e<=t.mask):∃r,r<turns t.mask/\(aN t h r).1=e:=by
 have%[n,d|b]:=nJ k _ e ⋯;refine%[12+n,by unfold turns;lia|?_];rw[jv,a];rw[<-a]at b;have:iter (t.mask+1) n (aN t h 12).1<t.mask+1:=by rw[<-jv];exact Bc t h _
 rw[Nat.mod_eq_of_lt this]at b;exact a▸b
def wB(a:t.mask+1=2^k)(h:Int)(e:Nat)(b:e<=t.mask):∃n,n+10<=10*turns t.mask/\way t h n=e:=by
 have%[r,f|c]:=nM a h e b;have%[n,g|d]:=yU t h r;refine%[n,⋯|?_];have:=d 0 (Xb _);unfold way;rw[add_zero]at this;rw[this];exact c
def ut(o:t.dummies= #[]){hashAt:Nat->Int}:∀(fuel n m:Nat),n<=m->m<n+fuel->t.slot (way t h m)= .empty->
 ∃q,n<=q/\q<=m/\(∀j,n<=j->j<q->∃i,t.slot (way t h j)= .live i/\hashAt i≠h)/\
  ((t.slot (way t h q)= .empty/\probe.go t hashAt h fuel (stand t h n)∣.empty (way t h q) none)\/
   ∃i,t.slot (way t h q)= .live i/\hashAt i=h/\probe.go t hashAt h fuel (stand t h n)∣.candidate (way t h q) i (stand t h (q+1)))
 | 0,n,m,g,r,_=>by lia
 | fuel+1,n,m,g,r,p=>by
   have d:probe.go t hashAt h (fuel+1) (stand t h n)=(match t.slot (stand t h n).j with
    | .empty=>some _
    | .dummy=>probe.go t hashAt h fuel (t.advance {stand t h n with dummy:=some _})
    | .live i=>if hashAt i==h then some _ else probe.go t hashAt h fuel _):=rfl
   have l:(stand t h n).j=way t h n:=rfl;cases c:t.slot _ with
   | empty=>
     refine%[n,Zi _,g,λj a b=>by lia|.inl %[c|?_]];rw[d,l,c,lQ]
   | dummy=>
     exfalso;unfold slot at c;dsimp only at c
     split at c
     .lia
     .split at c
      .rename_i q
       rw[o]at q;simp[has]at q
      .lia
   | live i=>
     by_cases f:hashAt i=h
     .refine%[n,Zi _,g,λj a b=>by lia|.inr %[i,c,f|?_]];rw[d,l,c];dsimp only;rw[if_pos (by simp[f])];rfl
     .have s:n≠m:=λq=>by rw[q,p]at c;cases c
      have%[q,z,u,v|w]:=ut o fuel (n+1) m ⋯ ⋯ p;have y:probe.go t hashAt h (fuel+1) (stand t h n)=probe.go t hashAt h fuel (stand t h (n+1)):=by
       rw[d,l,c];dsimp only;rw[if_neg (by simp[f])];rfl
      refine%[q,⋯,u,λj a b=>?_|?_]
      .by_cases e:j=n
       .exact e▸%[i,c|f]
       .exact v j ⋯ b
      .exact y▸w
def nN(xs:Array Nat)(j:Nat)(d:∀a b (s:a<xs.size) (u:b<xs.size),a<b->xs[a]<xs[b]):∀(fuel lo hi:Nat),hi-lo<=fuel->lo<=hi->hi<=xs.size->(∀i (h:i<xs.size),i<lo->xs[i]<j)->(∀i (h:i<xs.size),hi<=i->j<=xs[i])->
 below.go xs j fuel lo hi<=xs.size/\(∀i (h:i<xs.size),i<below.go xs j fuel lo hi->xs[i]<j)/\(∀i (h:i<xs.size),below.go xs j fuel lo hi<=i->j<=xs[i])
 | 0,lo,hi,p,q,f,g,l=>by
   have e:lo=hi:=by lia
   subst e;exact%[f,g|l]
 | fuel+1,lo,hi,p,q,f,g,l=>by
   rw[below.go];by_cases c:lo<hi
   .rw[if_pos c];dsimp only;have n:(lo+hi)/2<xs.size:=by lia
    have r:xs.getD ((lo+hi)/2) j=xs[(lo+hi)/2]:=by simp[Array.getD,n]
    rw[r];by_cases m:xs[(lo+hi)/2]<j
    .rw[if_pos m];refine nN xs j d fuel _ hi ⋯ ⋯ f (λi h o=>?_) l;by_cases e:i=(lo+hi)/2
     .subst e;exact m
     .exact Nat.lt_trans (d i _ h n ⋯) m
    .rw[if_neg m];refine nN xs j d fuel lo _ ⋯ ⋯ ⋯ g (λi h o=>?_);by_cases e:i=(lo+hi)/2
     .subst e;lia
     .have:=d _ i n h ⋯
      lia
   .rw[if_neg c];have e:lo=hi:=by lia
    subst e;exact%[f,g|l]
abbrev Bd(xs:Array Nat):Prop:=∀a b c (d:b<xs.size),a<b->xs[a]<xs[b]
def jw(a:Bd xs)(j:Nat):below xs j<=xs.size/\(∀i (h:i<xs.size),i<below xs j->xs[i]<j)/\(∀i (h:i<xs.size),below xs j<=i->j<=xs[i]):=
 nN xs j a xs.size 0 xs.size ⋯ (Xb _) (Zi _) (λi h q=>absurd q (X1 _)) (λi h q=>by lia)
def Be(a:Bd xs)(h:xs[i]?∣j):below xs j=i:=by
 have%[f,c|d]:=jw a j;have%[hi|e]:=Array.getElem?_eq_some_iff.mp h;rcases Nat.lt_trichotomy i _ with q|q|q
 .have:=c i hi q
  lia
 .exact q.symm
 .have b:below xs j<xs.size:=by lia
  have:=d _ b (Zi _);have:=a _ i b hi q
  lia
def qz{t:SetTable}(a:Bd t.place)(h:t.place[i]?∣j):t.slot j= .live i:=by
 unfold slot;dsimp only;rw[Be a h,h];simp
def jx{t:SetTable}(a:Bd t.place)(b:t.dummies= #[])(j:Nat):(∃i,t.place[i]?∣j/\t.slot j= .live i)\/(j∉t.place.toList/\t.slot j= .empty):=by
 by_cases h:j∈t.place.toList
 .have%[i|hi]:=Xc h;have hi:=↑hi
  exact .inl %[i,hi|qz a hi]
 .refine .inr %[h|?_];unfold slot;rw[if_neg,if_neg]
  .rw[b];simp[has]
  .intro q;exact h (mem_toList_iff.mpr (Array.mem_of_getElem? ↑q))
def uu(h:t.mask=t'.mask)(x:Int):∀n,stand t x n=stand t' x n
 | 0=>by
   show t.probeStart x=t'.probeStart x;unfold probeStart;rw[h]
 | n+1=>by
   show t.advance _=t'.advance _;rw[uu h x n];unfold advance;rw[h]
def qA(h:t.mask=t'.mask)(x:Int)(n:Nat):way t x n=way t' x n:=by unfold way;rw[uu h]
structure WF (t:SetTable) (es:Array (Int×Value)):Prop where
 pow:∃k,t.mask+1=2^k
 big:7<=t.mask
 dum:t.dummies= #[]
 rise:Bd t.place
 inb:∀j∈t.place.toList,j<=t.mask
 size:t.place.size=es.size
 chain:∀(i j:Nat) h x,t.place[i]?∣j->es[i]?∣(h,x)->∃n,way t h n=j/\∀m,m<n->way t h m∈t.place.toList
def nodup_sub [DecidableEq c]:∀{l m:List c},l.Nodup->(∀x∈l,x∈m)-> ~~~l<= ~~~m
 |[],_,_,_=>Xb _
 | x::l,m,d,a=>by
   have%[f|g]:=nodup_cons.mp d;have b:=a x Zm;have h:=nodup_sub (m:=m.erase x) g λy i=>(List.mem_erase_of_ne (λe=>f (!2))).mpr (a y (Zk _ i))
   rw[List.length_erase_of_mem b]at h;have:=List.length_pos_of_mem b;rw[Zr]
   lia
def wC(W:WF t v)(R:t.place.size<=t.mask)(h:Int):∃m,m+10<=10*turns t.mask/\way t h m∉t.place.toList/\(∀q,q<m->way t h q∈t.place.toList):=by
 have%[k|l]:=W.pow;have ex:∃e,e<=t.mask/\e∉t.place.toList:=by
  refine Classical.byContradiction λb=>?_
  have: ~~~(List.range (t.mask+1))<= ~~~t.place.toList:=nodup_sub nodup_range λx o=>(λe c=>Classical.byContradiction λq=>b %[e,c|q]) x (by have:=mem_range.mp o;lia)
  rw[Yh,Zb]at this
  lia
 have%[e,c|f]:=ex;have%[n,p|hw]:=wB l h e c;have:∀d,∀n,n<=d->n+10<=10*turns t.mask->way t h n∉t.place.toList->∃m,m+10<=10*turns t.mask/\way t h m∉t.place.toList/\(∀q,q<m->way t h q∈t.place.toList):=by
  intro d
  induction d with
  | zero=>
    intro n r g i;have:n=0:=by lia
    subst this;exact%[0,g,i|λq j=>absurd j (X1 _)]
  | succ d s=>
    intro n r g i;by_cases a:∀q,q<n->way t h q∈t.place.toList
    .exact%[n,g,i|a]
    .have%[q|j]:=Classical.not_forall.mp a;have%[w|u]:=Classical.not_imp.mp j;exact s q ⋯ ⋯ u
 exact this n n (Zi _) p (hw▸f)
def jR(xs:Array a)(p:Nat)(x:a)(b:p<=xs.size):(insertAt xs p x).toList=xs.toList.take p++x::xs.toList.drop p:=by
 unfold insertAt;rw[Xa,toList_push,toList_extract,toList_extract,List.extract_eq_take_drop,List.extract_eq_take_drop];rw[drop_zero,Nat.sub_zero,Zn (l:=xs.toList.drop p) ∅];simp
def wD(xs:Array c)(x:c)(f:p<=xs.size)(i:Nat):(insertAt xs p x)[i]? =if i<p then xs[i]? else if i=p then some x else xs[i-1]? :=by
 have e:(insertAt xs p x)[i]? =(insertAt xs p x).toList[i]? :=by simp
 rw[e,jR xs p x f];have g: ~~~(xs.toList.take p)=p:=!2
 by_cases a:i<p
 .rw[if_pos a,Y8 ⋯,List.getElem?_take,if_pos a];simp
 .rw[if_neg a,Y9 ⋯,g];by_cases b:i=p
  .rw[if_pos b,b,sub_self];rfl
  .rw[if_neg b];obtain⟨d,h⟩:∃d,i-p=d+1:=%[i-p-1|⋯]
   rw[h,List.getElem?_cons_succ,getElem?_drop];rw[show p+d=i-1 by lia];simp
def iD(xs:Array a)(p:Nat)(x:a)(b:p<=xs.size):(insertAt xs p x).size=xs.size+1:=by
 rw[<-Zb,jR xs p x b,Z9,Zr,Yj,Yf,Zb]
 lia
def Bf(t:SetTable)(h:Int):∀n,(stand t h n).j+(stand t h n).more<=t.mask
 | 0=>by
   show bits h%(t.mask+1) +(runEnd t.mask _-bits h%(t.mask+1))<=t.mask;have:=mod_lt (bits h) (show 0<t.mask+1 from succ_pos _);unfold runEnd
   split<;> lia
 | n+1=>by
   have a:=Bf t h n;show(t.advance _).j+(t.advance _).more<=t.mask;unfold advance
   split
   .lia
   .dsimp only[leap];have:=mod_lt ((stand t h n).i*5+1+(stand t h n).perturb/32) (show 0<t.mask+1 from succ_pos _);unfold runEnd
    split<;> lia
def sC(t:SetTable)(h:Int)(n:Nat):way t h n<=t.mask:=by
 have:=Bf t h n;unfold way
 lia
def WF.put(W:WF t H)(Q:way t h m∉t.place.toList)(T:∀q,q<m->way t h q∈t.place.toList)(r f:Bool):
 (t.put (way t h m)).2=below t.place (way t h m)/\(t.put (way t h m)).1.mask=t.mask/\(t.put (way t h m)).1.place.size=t.place.size+1/\(t.put (way t h m)).1.led=t.led/\(t.put (way t h m)).1.plain=t.plain/\(t.put (way t h m)).1.moves=t.moves/\
  WF {(t.put (way t h m)).1 with led:=r,plain:=f} (insertAt H (t.put (way t h m)).2 (h,x)):=by
 have U:has t.dummies (way t h m)=false:=by rw[W.dum];simp[has]
 have Y:t.put (way t h m)=({t with place:=insertAt t.place (below t.place (way t h m)) (way t h m)},below t.place (way t h m)):=by
  unfold SetTable.put;dsimp only;rw[U];rfl
 rw[Y];have%[g,I|J]:=jw W.rise (way t h m)
 generalize hp:below t.place (way t h m)=p at g I J
 have w:p<=H.size:=by rw[<-W.size];exact g
 have s3:∀i (hi:i<t.place.size),p<=i->way t h m<t.place[i]:=λi hi q=>by
  have:=J i hi q;rcases Nat.eq_or_lt_of_le this with e|e
  .exact absurd (by rw[e];simp) Q
  .exact e
 have c:∀y,y∈(insertAt t.place p (way t h m)).toList↔y=way t h m\/y∈t.place.toList:=λy=>by
  rw[jR _ _ _ g,Yq,Yt];have:=X8 p t.place.toList
  constructor
  .rintro(q|q|q)
   .exact .inr (Yu q)
   .exact .inl q
   .exact .inr (List.mem_of_mem_drop q)
  .rintro(q|q)
   .exact .inr (.inl q)
   .rw[<-this]at q;rcases Xj q with q|q
    .exact .inl q
    .exact .inr (.inr q)
 refine%[ρ,ρ,iD _ _ _ g,ρ,ρ,ρ,W.pow,W.big,W.dum,?_,?_,?_|?_]
 .intro a b ha A B;have l:(insertAt t.place p (way t h m))[a]?∣(insertAt t.place p (way t h m))[a]:=by simp
  have d:(insertAt t.place p (way t h m))[b]?∣(insertAt t.place p (way t h m))[b]:=by simp
  show(insertAt t.place p (way t h m))[a]<(insertAt t.place p (way t h m))[b];rw[wD _ _ g]at l d;have aa:b<t.place.size+1:=(iD t.place p (way t h m) g)▸A;by_cases C:a<p
  .rw[if_pos C]at l;have%[u|E]:=Array.getElem?_eq_some_iff.mp l;rw[<-E];by_cases r:b<p
   .rw[if_pos r]at d;have%[f|v]:=Array.getElem?_eq_some_iff.mp d;exact v▸W.rise a b u f B
   .rw[if_neg r]at d;by_cases f:b=p
    .rw[if_pos f]at d;exact(Za d)▸I a u C
    .rw[if_neg f]at d;have%[v|G]:=Array.getElem?_eq_some_iff.mp d;exact G▸W.rise a (b-1) u v ⋯
  .rw[if_neg C]at l;have r: ¬ b<p:=by lia
   have f: ¬ b=p:=by lia
   rw[if_neg r,if_neg f]at d;have%[v|G]:=Array.getElem?_eq_some_iff.mp d;rw[<-G];by_cases u:a=p
   .rw[if_pos u]at l;exact(Za l)▸s3 (b-1) v ⋯
   .rw[if_neg u]at l;have%[E|a4]:=Array.getElem?_eq_some_iff.mp l;exact a4▸W.rise (a-1) (b-1) E v ⋯
 .intro y hy;rcases(c y).mp hy with q|q
  .rw[q];exact sC t h m
  .exact W.inb y q
 .rw[iD _ _ _ g,iD _ _ _ w,W.size]
 .intro i j h' L hi o;have M:∀n,way {t with place:=insertAt t.place p (way t h m),led:=r,plain:=f} h' n=way t h' n:=λn=>qA (t':=t) (by rfl) h' n
  have key:∃n,way t h' n=j/\∀q,q<n->way t h' q∈(insertAt t.place p (way t h m)).toList:=by
   rw[wD _ _ g]at hi;rw[wD _ _ w]at o;by_cases N:i<p
   .rw[if_pos N]at hi o;have%[n,n1|z]:=W.chain i j h' L hi o;exact%[n,n1|λq s=>(c _).mpr (.inr (z q s))]
   .rw[if_neg N]at hi o;by_cases O:i=p
    .rw[if_pos O]at hi o;cases hi;cases o;exact%[m,ρ|λq s=>(c _).mpr (.inr (T q s))]
    .rw[if_neg O]at hi o;have%[n,n1|z]:=W.chain (i-1) j h' L hi o;exact%[n,n1|λq s=>(c _).mpr (.inr (z q s))]
  have%[n,n1|z]:=key;exact%[n,by rw[M];exact n1|λq s=>by rw[M];exact z q s]
abbrev nb(t:SetTable)(h:Int):Nat->Nat
 | 0=>0
 | r+1=>nb t h r+(runEnd t.mask (aN t h r).1-(aN t h r).1) +1
def Bg(t:SetTable)(h:Int):∀r d,d<=runEnd t.mask (aN t h r).1-(aN t h r).1->
 stand t h (nb t h r+d)=%[(aN t h r).1+d,runEnd t.mask (aN t h r).1-(aN t h r).1-d,(aN t h r).1,(aN t h r).2|none]:=by
 have a:∀n i b,stand t h n=%[i,runEnd t.mask i-i,i,b|none]->∀d,d<=runEnd t.mask i-i->stand t h (n+d)=%[i+d,runEnd t.mask i-i-d,i,b|none]:=by
  intro n i b e d
  induction d with
  | zero=>intro _;rw[add_zero,e];rfl
  | succ d c=>
    intro f;show t.advance (stand t h (n+d))=_;rw[c ⋯];unfold advance;rw[if_pos ⋯]
    grind
 intro r
 induction r with
 | zero=>exact a 0 _ _ rfl
 | succ r c=>
   refine a _ _ _ ?_;show t.advance _=_;rw[c _ (Zi _)];unfold advance;rw[if_neg ⋯];rfl
def wE(t:SetTable)(h:Int)(r d:Nat)(a:d<=runEnd t.mask (aN t h r).1-(aN t h r).1):way t h (nb t h r+d)=(aN t h r).1+d:=by
 unfold way;rw[Bg t h r d a]
abbrev eS(owner:Array (Option Nat))(j:Nat):Bool:=(owner.getD j (some 0)).isSome
def qB(t:SetTable)(h:Int)(owner:Array (Option Nat)):∀(fuel r:Nat),(∃a,r<=a/\a<r+fuel/\eS owner (aN t h a).1=false)->(∀m,m<nb t h r->eS owner (way t h m)=true)->
 ∃j n,layClean.free t.mask owner fuel (aN t h r).1 (aN t h r).2∣j/\way t h n=j/\eS owner j=false/\∀m,m<n->eS owner (way t h m)=true
 | 0,r,⟨a,p,s,_⟩,_=>by lia
 | fuel+1,r,⟨a,p,s,g⟩,i=>by
   rw[layClean.free];have u:runEnd t.mask (aN t h r).1>=(aN t h r).1:=by unfold runEnd;split<;> lia
   have tk:∀k,(owner.getD ((aN t h r).1+k) (some 0)).isNone=!eS owner ((aN t h r).1+k):=λk=>by
    unfold eS;cases owner.getD ((aN t h r).1+k) (some 0)<;> rfl
   cases l:(List.range (runEnd t.mask (aN t h r).1+1-(aN t h r).1)).find? λk=>(owner.getD ((aN t h r).1+k) (some 0)).isNone with
   | some k=>
     have%[o,b,bs,c|v]:=List.find?_eq_some_iff_append.mp l;have d:k∈List.range (runEnd t.mask (aN t h r).1+1-(aN t h r).1):=by rw[c];simp
     have d:=mem_range.mp d;have w:b=List.range k:=by
      have y: ~~~b=k:=by
       have:(List.range (runEnd t.mask (aN t h r).1+1-(aN t h r).1))[~~~b]?∣k:=by rw[c];simp
       rw[getElem?_range (by have:=(Xi this).1;simpa using this)]at this;exact Za this
      have z:b=(List.range (runEnd t.mask (aN t h r).1+1-(aN t h r).1)).take k:=by
       rw[c,<-y];simp
      rw[z,List.take_range,min_eq_left ⋯]
     dsimp only;refine%[_,nb t h r+k,ρ,wE t h r k ⋯,?_|λm f=>?_]
     .rw[tk]at o;simpa using o
     .by_cases q:m<nb t h r
      .exact i m q
      .have:=v (m-nb t h r) (w▸mem_range.mpr ⋯);rw[tk]at this;rw[show m=nb t h r+(m-nb t h r) by lia,wE t h r _ ⋯];simpa using this
   | none=>
     have all:∀k,k<=runEnd t.mask (aN t h r).1-(aN t h r).1->eS owner ((aN t h r).1+k)=true:=λk d=>by
      have:=(List.find?_eq_none.mp l) k (mem_range.mpr ⋯);rw[tk]at this;simpa using this
     have A:r≠a:=λe=>by
      have:=all 0 (Xb _);rw[add_zero,e,g]at this;cases this
     dsimp only;exact qB t h owner fuel (r+1) %[a,⋯,⋯|g] λm f=>by
      by_cases q:m<nb t h r
      .exact i m q
      .have f:m<nb t h r+(runEnd t.mask (aN t h r).1-(aN t h r).1) +1:=f;rw[show m=nb t h r+(m-nb t h r) by lia,wE t h r _ ⋯];exact all _ ⋯
structure LO (t:SetTable) (hs:ZM) (owner:Array _):Prop where
 size:owner.size=t.mask+1
 own:∀j q,owner[j]?∣some q->∃h,hs[q]?∣h/\∃n,way t h n=j/\∀m,m<n->eS owner (way t h m)=true
 all:∀q,q< ~~~hs->∃j:Nat,owner[j]?∣some q
 one:∀(j j' q:Nat),owner[j]?∣some q->owner[j']?∣some q->j=j'
def fS(b:j<owner.size):eS owner j=true↔∃q,owner[j]?∣some q:=by
 unfold eS;have e:owner.getD j (some 0)=owner[j]:=!2
 rw[e];have a:owner[j]?∣owner[j]:=by simp
 rw[a];cases owner[j]with
 | none=>simp
 | some q=>simp
def LO.step(L:LO t f owner)(J:t.mask+1=2^k)(room: ~~~f<=t.mask)(h:Int):
 ∃j,layClean.free t.mask owner (turns t.mask) (bits h%(t.mask+1)) (bits h)∣j/\LO t (f++[h]) (owner.setIfInBounds j (some f.length)):=by
 have d:∀h n,way t h n<owner.size:=λh n=>by rw[L.size];have:=sC t h n;lia
 have ex:∃e,e<=t.mask/\eS owner e=false:=by
  refine Classical.byContradiction λv=>?_
  have all:∀e,e<t.mask+1->eS owner e=true:=λe c=>by
   cases q:eS owner e with
   | true=>rfl
   | false=>exact absurd %[e,⋯|q] v
  let g:Nat->Nat:=λe=>((owner[e]?).getD none).getD 0
  have w:∀e,e<t.mask+1->owner[e]?∣some (g e):=λe c=>by
   have%[q|o]:=(λe c=>(fS (L.size▸c)).mp (all e c)) e c;show owner[e]?∣some (((owner[e]?).getD none).getD 0);rw[o];rfl
  have nd:((List.range (t.mask+1)).map g).Nodup:=by
   rw[Yy,X4];refine Xd (λ{a b} M N A q=>A ?_) (nodup_iff_pairwise_ne.mp nodup_range);have E:=w b (mem_range.mp N);rw[<-q]at E;exact L.one a b _ (w a (mem_range.mp M)) E
  have:=nodup_sub nd λy O=>by
   have%[e,c|rfl]:=Xl O;have%[h',l|_]:=L.own e _ (w e (mem_range.mp c));exact mem_range.mpr (Xi l).1
  rw[Z6,Yh,Yh]at this
  lia
 have%[e,c|B]:=ex;have%[r,hr|o]:=nM J h e c;have%[j,n,Q,G,T|U]:=qB t h owner (turns t.mask) 0 %[r,Xb _,⋯|o▸B] (λm p=>absurd p (X1 _));refine%[j,Q|?_];have Y:j<owner.size:=G▸d h n;have nj:∀q,owner[j]? ≠some _:=λq e=>by
  have:=(fS Y).mpr %[q|e];rw[T]at this;cases this
 have get:∀i,(owner.setIfInBounds j (some f.length))[i]? =if j=i then some _ else owner[i]? :=λi=>by
  rw[Array.getElem?_setIfInBounds]
  split
  .first|rfl|simp
  .rfl
 have keep:∀i,eS owner i=true->i<owner.size->eS (owner.setIfInBounds j _) i=true:=λi hi H=>by
  have%[q|e]:=(fS H).mp hi;refine(fS (Array.size_setIfInBounds▸H)).mpr ?_;rw[get]
  split
  .exact%[_|ρ]
  .exact%[q|e]
 refine%[by rw[Array.size_setIfInBounds];exact L.size,λi q e=>?_,λq o=>?_|λi I q e s=>?_]
 .rw[get]at e
  split at e
  .rename_i C
   cases e;refine%[h,by simp,n,by rw[G,C]|λm p=>keep _ (U m p) (d h m)]
  .have%[h',l,n',e2|e3]:=L.own i q e;exact%[h',(Y8 (Xi l).1)▸l,n',e2|λm p=>keep _ (e3 m p) (d h' m)]
 .rw[Z9,Yi]at o;by_cases e:q= ~~~f
  .exact%[j|by rw[get,if_pos rfl,e]]
  .have%[i|hi]:=L.all q ⋯;refine%[i|?_];rw[get,if_neg]
   .exact hi
   .intro C;rw[<-C]at hi;exact nj q hi
 .have u:∀i,owner[i]?∣some f.length->False:=λi e=>by
   have%[h',l|_]:=L.own i _ e;have:=(Xi l).1
   lia
  rw[get]at e s
  split at e<;> split at s
  .lia
  .cases e;exact absurd s (λz=>u I z)
  .cases s;exact absurd e (λz=>u i z)
  .exact L.one i I q e s
def uw(c:t.mask+1=2^k)(a:Array Int)(room:a.size<=t.mask+1):∃owner,layClean t.mask a∣owner/\LO t a.toList owner:=by
 have d:∀rest done owner,LO t done owner-> ~~~(done++rest)<=t.mask+1->
  ∃b,rest.foldl (λacc h=>do
   let(owner,k)<-acc
   let j<-layClean.free t.mask owner (turns t.mask) (bits h%(t.mask+1)) (bits h)
   pure (owner.setIfInBounds j (some k),k+1)) (some (owner,~~~done))∣(b,~~~(done++rest))/\LO t (done++rest) b:=by
  intro rest
  induction rest with
  | nil=>intro done owner L _;exact%[owner,by simp|↑L]
  | cons h rest g=>
    intro done owner L i;simp only[Z9,Zr]at i;have%[j,f|l]:=L.step c ⋯ h;have%[b,e|L2]:=g _ _ l (!2);refine%[b,?_|↑L2];rw[Y7];have m:(do
     let(owner,k)<-(some (owner,~~~done))
     let j<-layClean.free t.mask owner (turns t.mask) (bits h%(t.mask+1)) (bits h)
     pure (owner.setIfInBounds j (some k),k+1))∣(owner.setIfInBounds j (some done.length),~~~(done++[h])):=by
     show(layClean.free t.mask owner _ _ _).bind _=_;rw[f];simp
    rw[m,e];simp
 have n:LO t [] (Array.replicate (t.mask+1) none):=%[by simp,λj q e=>by
  rw[Array.getElem?_replicate]at e
  split at e<;> simp at e,λq o=>absurd o (X1 _)|λj p q e _=>by
  rw[Array.getElem?_replicate]at e
  split at e<;> simp at e]
 have%[owner,e|L]:=d a.toList [] _ n (room);refine%[owner,?_|L];unfold layClean;rw[<-Array.foldl_toList];rw[show(0)= ~~~([]) from rfl,e];rfl
def ux(n:Nat):∀fuel k,3<=k->n<2^(k+fuel)->(2^k<=2*n\/k=3)->∃a,3<=a/\sizeAbove.go n fuel (2^k)=2^a/\n<2^a/\(2^a<=2*n\/a=3)
 | 0,k,b,c,d=>%[k,b,rfl,c|d]
 | fuel+1,k,b,c,d=>by
   rw[sizeAbove.go];by_cases h:2^k<=n
   .rw[if_pos h];have e:2^k*2=2^(k+1):=by rw[pow_succ]
    rw[e];exact ux n fuel _ ⋯ ((show k+1+fuel=k+(fuel+1) by lia)▸c) (.inl ⋯)
   .rw[if_neg h];exact%[k,b,ρ,⋯|d]
def wF(a:n<2^60):∃k,3<=k/\sizeAbove n=2^k/\n<2^k/\(2^k<=2*n\/k=3):=
 ux n 64 3 (Zi _) (Zg a (Nat.pow_le_pow_right (!1) ∅)) (.inr rfl)
def nO [DecidableEq c]:∀{l m:List c},l.Nodup->m.Nodup->(∀x,x∈l↔x∈m)->l.Perm m
 |[],m,_,_,h=>by
  cases m with
  | nil=>simp
  | cons x m=>exact absurd ((h x).mpr Zm) ∅
 | x::l,m,d,b,h=>by
   have%[f|g]:=nodup_cons.mp d;refine List.Perm.trans (List.Perm.cons x (nO g (b.erase x) λy=>?_)) (List.perm_cons_erase ((h x).mp Zm)).symm
   constructor
   .intro a;exact(List.mem_erase_of_ne (λe=>f (!2))).mpr ((h y).mp (Zk _ a))
   .intro a;rcases mem_cons.mp ((h y).mpr (List.mem_of_mem_erase a))with q|q
    .exact absurd q (λe=>by rw[e]at a;exact b.not_mem_erase a)
    .exact q
def laid_ok{t:SetTable}(hp:t.mask+1=2^k)(E:7<=t.mask)(c:Array (Int×Value))(room:c.size<=t.mask)(finger moves:Nat)(led plain:Bool):
 ∃t' d,laid t.mask finger moves led plain (c\1)∣(t',d)/\t'.mask=t.mask/\t'.led=led/\t'.plain=plain/\t'.moves=moves/\WF t' (d.filterMap (c[·]?))/\(d.filterMap (c[·]?)).toList.Perm c.toList:=by
 have%[owner,e|L]:=uw hp (c\1) (by rw[size_map];lia);have G:(c\1).toList.length=c.size:=by simp
 obtain⟨live,v⟩:∃live,(List.range (t.mask+1)).filterMap (λj=>(owner.getD j none).map (λq=>(j,q)))=live:=%[_|rfl]
 refine%[%[t.mask,(live\1).toArray,#[],finger,led,moves|plain],(live\2).toArray,by unfold laid;rw[e,<-v];rfl,ρ,ρ,ρ,ρ|?_];have gd:∀j q,owner.getD j none∣q↔owner[j]?∣some q:=λj q=>by
  rw[Array.getD_eq_getD_getElem?];cases owner[j]? with
  | none=>simp
  | some o=>simp
 have mem:∀j q,(j,q)∈live↔owner[j]?∣some q:=λj q=>by
  rw[<-v,mem_filterMap]
  constructor
  .rintro⟨H,ab,I⟩;have%[z,s|J]:=map_eq_some_iff.mp I;cases J;exact(gd j q).mp s
  .intro ho;have:j<owner.size:=by
    have%[f|_]:=Array.getElem?_eq_some_iff.mp ho;exact f
   refine%[j,mem_range.mpr (by rw[L.size]at this;exact this)|?_];rw[(gd j q).mpr ho];rfl
 have r:(live\1).Pairwise (·<·):=by
  rw[<-v,X4,List.pairwise_filterMap];refine List.Pairwise.imp (λ{a b} u x hx y M=>?_) List.pairwise_lt_range;have%[_,_|rfl]:=map_eq_some_iff.mp hx;have%[_,_|rfl]:=map_eq_some_iff.mp M;exact u
 have w:∀j q,(j,q)∈live->q<c.size:=λj q h=>by
  have%[h',s|_]:=L.own j q ((mem j q).mp h);have:=(Xi s).1
  lia
 have B:(live\2).Nodup:=by
  rw[Yy,X4];refine Xd (λ{a b} N E u g=>?_) (by rw[X4]at r;exact r);have f:=(mem a.1 a.2).mp N;have O:=(mem b.1 b.2).mp E;rw[<-g]at O;have:=L.one _ _ _ f O
  lia
 have C:(live\2).Perm (List.range c.size):=nO B nodup_range λq=>by
  constructor
  .intro g;have%[%[j|z],f|rfl]:=Xl g;exact mem_range.mpr (w j z f)
  .intro g;have%[j|Q]:=L.all q (G▸mem_range.mp g);exact Xm %[(j,q),(mem j q).mpr Q|rfl]
 have fm:∀(l:List Nat),(∀q∈l,q<c.size)->l.filterMap (c[·]?)=l.map (λq=>c.getD q (0,Value.none)):=by
  intro l
  induction l with
  | nil=>intro _;rfl
  | cons q l ih=>
    intro g;have f:=g q Zm;have s:c[q]?∣c.getD q (0,Value.none):=by simp[Array.getD,f]
    rw[Y1,s,Yo,ih λy M=>g y (Zk _ M)]
 have T:((live\2).toArray.filterMap (c[·]?)).toList=(live\2).map (λq=>c.getD q (0,Value.none)):=by
  rw[Array.toList_filterMap,List.toList_toArray];exact fm _ λq g=>by
   have%[%[j|z],f|rfl]:=Xl g;exact w j z f
 have er:c.toList=(List.range c.size).map (λq=>c.getD q (0,Value.none)):=by
  apply Zy
  .simp
  .intro i f O;have f:=↑f
   simp[Array.getD,f]
 refine%[%[%[k|hp],E,ρ,?_,λj Q=>?_,?_|λi j h x hi A=>?_]|?_]
 .intro a b N U u;have:=List.pairwise_iff_getElem.mp r a b (N) (U) u;simpa using this
 .have%[%[H|q],f|rfl]:=Xl Q;have:=(Array.getElem?_eq_some_iff.mp ((mem H q).mp f)).1;rw[L.size]at this
  lia
 .rw[<-Zb (xs:=Array.filterMap _ _),T];simp
 .have hi:(live\1)[i]?∣j:=↑hi
  have A:((live\2).toArray.filterMap (c[·]?)).toList[i]?∣(h,x):=↑A
  rw[T,Yp,Zl]at A;rw[Zl]at hi;cases Y:live[i]? with
  | none=>rw[Y]at hi;cases hi
  | some p=>
    have%[H|q]:=p;rw[Y]at hi A;cases hi;have hm:=Z8 Y;have%[h',s,n,n1|n2]:=L.own _ q ((mem _ q).mp hm);have g:=w _ q hm;have eh:h'=h:=by
     have J:(c\1).toList[q]?∣(c[q]).1:=by simp[g]
     rw[J]at s;have e3:c.getD q (0,Value.none)=c[q]:=by simp[Array.getD,g]
     simp only[Function.comp,map_some,e3,Option.some.injEq]at A;rw[A]at s;exact(Za s).symm
    subst eh;have wm:∀n,way {mask:=t.mask,place:=(live\1).toArray,dummies:= #[],finger:=finger,led:=led,moves:=moves,plain:=plain} h' n=way t h' n:=λn=>qA (t':=t) (by rfl) h' n
    refine%[n,by rw[wm];exact n1|λm aa=>?_];rw[wm];have%[z|I]:=(fS (by rw[L.size];have:=sC t h' m;lia)).mp (n2 m aa);exact Xm %[(way t h' m,z),(mem _ _).mpr I|rfl]
 .rw[T,er];exact C.map _
section
variable{prog:Program}{w:World}{K:Type}[DecidableEq K]{knd:KeyKind prog w K}{A:Around}{E:ZE}{s:Shared}
abbrev EL(knd:KeyKind prog w K)(h:Heap)(a:Array (Int×Value)):Prop:=∀(i:Nat) e,a[i]?∣e->∃r k,e=(tupleKeyHash knd k,Value.ref r)/\IsTupleKey knd h k r
def lR(g:IsTupleKey knd s.heap ks r)(h:Q false s):↥A (ofAClassStatement 8 (.ref r)) Q E s:=by
 have l:=g.typeIs;have%[o,c,n,m,_,p|hi]:=g;unfold ofAClassStatement;refine Z2 (wpAny_typeOf l (Z2 (Z3 (Z2 (wpAny_seqItems m p (Z2 ?_))))));rw[<-forIn_toList];refine wpAny_forIn_list _ (λrest r s'=>r=(none,())/\s'=s/\∃i,ItemsAre knd i rest) _ ?_ ?_ _ _ %[rfl,rfl,ks|hi]
 .intro x rest r s' %[rfl,rfl,i|d];cases d with
  | @cons k1 v f j q b=>
    have u:=knd.byValue _ _ q;have e:ofAClassStatement 7 x=pure false:=by
     cases x with
     | ref a=>simp[carriedByValue]at u
     | _=>first|rfl|lia|lia
    refine Z2 ?_;rw[e];exact Z3 (Z3 %[rfl,rfl,f|b])
 .intro r s' %[rfl,rfl|_];exact Z3 h
def wG(d:IsTupleKey knd s.heap ks r):∀(l:ZG),(∀y∈l,∃a c,y=Value.ref a/\IsTupleKey knd s.heap c a)->∀{Q:Bool->Shared->Prop},Q false s->↥A (searchCouldBeSeen (.ref r) l) Q E s:=by
 intro l g Q h;refine Z2 (wpAny_forIn_list _ (λrest x s'=>x=(none,())/\s'=s/\∀y∈rest,∃a c,y=Value.ref a/\IsTupleKey knd s.heap c a) _ ?_ ?_ _ _ %[rfl,rfl|g])
 .intro y rest x s' %[rfl,rfl|e];have%[a,c,rfl|b]:=e y Zm;have f:=λy i=>e y (Zk _ i)
  dsimp only
  split
  .exact Z3 %[rfl,rfl|f]
  .exact Z2 (wpAny_eqIsQuiet_tuple d (Z2 (wpAny_eqIsQuiet_tuple b (Z2 (lR d (Z2 (lR b (Z3 %[rfl,rfl|f]))))))))
 .intro x s' %[rfl,rfl|_];exact Z3 h
def sD(hu:A.units<cLine)(ho:s.heap.get? a∣o)(hd:o.data= .set u ep t)(W:WF t u)(room:t.place.size<=t.mask)(ac:t.mask<=9000)
 (el:EL knd s.heap u) (hk:IsTupleKey knd s.heap k r)
 (h1:(∃(i:Nat) (g:Addr),u[i]?∣(tupleKeyHash knd k,Value.ref g)/\IsTupleKey knd s.heap k g)->Q (.there none) s)
 (h2:∀m,way t (tupleKeyHash knd k) m∉t.place.toList->(∀q,q<m->way t (tupleKeyHash knd k) q∈t.place.toList)->(∀(i:Nat) g v,u[i]?∣(tupleKeyHash knd v,Value.ref g)->IsTupleKey knd s.heap v g->v≠k)->Q (.free (way t (tupleKeyHash knd k) m) false) s):
 ↥A (setSearch a (.ref r) (tupleKeyHash knd k) true) Q E s:=by
 generalize hh:tupleKeyHash knd k=h at h1 h2
 have hf:t.fits u.size=true:=by
  unfold fits fill;rw[W.dum];simp[W.size];exact W.size▸room
 have%[N,m1,m2|m3]:=wC W room h;have me:t.slot (way t h N)= .empty:=by
  rcases jx W.rise W.dum (way t h N)with⟨i,e,_⟩|⟨_,e⟩
  .exact absurd (mem_toList_iff.mpr (Array.mem_of_getElem? e)) m2
  .exact e
 have ag:t.gaveWay=false:=by
  have%[c|hc]:=W.pow;have hb:=W.big;have c0:c≠0:=λq=>by rw[q]at hc;lia
  have%[c'|rfl]:=Nat.exists_eq_succ_of_ne_zero c0;rw[pow_succ]at hc;unfold gaveWay;have:t.mask%2=1:=by lia
  simp[this]
 have O:∀(fuel n:Nat) (st:Option Probe),st.getD (t.probeStart h)=stand t h n->n<=N->N<n+fuel->(∀j,j<n->∀(i:Nat) g v,t.slot (way t h j)= .live i->u[i]?∣(tupleKeyHash knd v,Value.ref g)->IsTupleKey knd s.heap v g->v≠k)->
  ↥A (setSearchFrom a (.ref r) h true fuel st) Q E s:=by
  intro fuel
  induction fuel with
  | zero=>intro n st _ a1 a2;lia
  | succ fuel ih=>
    intro n st ai hn a0 T;unfold setSearchFrom;refine Z2 (wpAny_setState_of ho hd hf ?_);dsimp only;rw[ag];simp only[Zz,if_false];rw[ai]
    generalize al:SetTable.probe t _ h (stand t h n)=pr
    have l:SetTable.probe.go t (λi=>((u[i]?)\1).getD 0) h (10*turns t.mask) (stand t h n)=pr:=al;have%[q,q1,q2,q3|q4]:=ut (t:=t) W.dum (hashAt:=λi=>((u[i]?)\1).getD 0) (h:=h) (10*turns t.mask) n N hn ⋯ me;rcases q4 with⟨J,e2⟩|⟨i,J,e2,e3⟩
    .rw[e2]at l;subst l;have hq:q=N:=by
      rcases Nat.eq_or_lt_of_le q2 with z|z
      .exact z
      .have:=m3 q z;rcases jx W.rise W.dum (way t h q)with⟨i,_,U⟩|⟨z2,_⟩
       .rw[J]at U;cases U
       .exact absurd this z2
     subst hq;dsimp only;refine Z3 (h2 q m2 m3 λi g v p B C=>?_);subst C;rw[hh]at p;have hi:i<u.size:=(Array.getElem?_eq_some_iff.mp p).1;have hp:t.place[i]?∣t.place[i]'(W.size▸hi):=by simp
     have%[Y,c1|c2]:=W.chain i _ h _ hp p;have G:=qz W.rise hp;have an:Y<q:=by
      rcases Nat.lt_trichotomy Y q with z|z|z
      .exact z
      .rw[z,]at c1;rw[<-c1,me]at G;cases G
      .exact absurd (c2 q z) m2
     rw[<-c1]at G;by_cases aa:Y<n
     .exact T Y aa i g v G (hh▸p) B rfl
     .have%[H,U|ab]:=q3 Y ⋯ an;rw[G]at U;cases U;rw[p]at ab;exact ab rfl
    .rw[e3]at l;subst l;obtain⟨x0,p⟩:∃e,u[i]?∣e:=by
      have aq:t.place[i]?∣way t h q:=by
       rcases jx W.rise W.dum (way t h q)with⟨H,p1,I⟩|⟨_,I⟩
       .rw[J]at I;cases I;exact p1
       .rw[J]at I;cases I
      have:=(Array.getElem?_eq_some_iff.mp aq).1;exact%[u[i]'(W.size▸this)|by simp[<-W.size,this]]
     have%[g,v,rfl|B]:=el i x0 p;have a3:q<N:=Nat.lt_of_le_of_ne q2 λz=>by rw[z,me]at J;cases J
     have L:↥A (do
      let f<-holding [Value.ref g] (eqBool (Value.ref g) (Value.ref r))
      let x<-setState a
      if(true&&f)=true then pure (SetFound.there none)
      else match x.2.snd.sameMemory t.moves t.mask with
       | some same=>
         match if same=true then x.2.snd.slot (way t h q)else Slot.empty with
         | Slot.live H=>
           match x.fst[H]? with
           | some (_,y')=>do
             let b<-isSame y' (Value.ref g)
             let d<-pure (if b=true then some H else none)
             match d with
              | none=>do
                rule "set.search.anew"
                setSearchFrom a (Value.ref r) h true fuel none
              | some H=>
                if f=true then pure (SetFound.there (some H))
                else setSearchFrom a (Value.ref r) h true fuel (some (stand t h (q+1)))
           | none=>do
             let d<-pure none
             match d with
              | none=>do
                rule "set.search.anew"
                setSearchFrom a (Value.ref r) h true fuel none
              | some H=>
                if f=true then pure (SetFound.there (some H))
                else setSearchFrom a (Value.ref r) h true fuel (some (stand t h (q+1)))
         | x=>do
           let d<-pure none
           match d with
            | none=>do
              rule "set.search.anew"
              setSearchFrom a (Value.ref r) h true fuel none
            | some H=>
              if f=true then pure (SetFound.there (some H))
              else setSearchFrom a (Value.ref r) h true fuel (some (stand t h (q+1)))
       | x=>unsupported "set.changed-during-lookup:is-the-new-block-at-the-old-address") Q E s:=by
      refine Z2 (wpAny_holding (wpAny_eqBool_tuple hu B hk (Z2 (wpAny_setState_of ho hd hf ?_))));dsimp only;by_cases C:v=k
      .subst C;rw[Zf rfl];exact Z3 (h1 %[i,g,(by rw[p]at e2;exact e2)▸p|B])
      .rw[Zh C];have sm:t.sameMemory t.moves t.mask∣true:=by unfold sameMemory;rw[if_pos ∅]
       rw[sm];simp only[if_true];rw[J];dsimp only;rw[p];dsimp only;have same:isSame (Value.ref g) (Value.ref g)=pure true:=by
        unfold isSame;simp
       refine Z2 ?_;rw[same];refine Z3 ?_;simp only[if_true];refine Z2 (Z3 ?_);dsimp only;refine ih (q+1) _ rfl ⋯ ⋯ λj hj i2 r2 k2 s2 g2 t2=>?_
       by_cases ar:j<n
       .exact T j ar i2 r2 k2 s2 g2 t2
       .by_cases as:j=q
        .subst as;rw[J]at s2;cases s2;rw[p]at g2;have:g=r2:=by
          have:=Za g2;injection this with _ z
          injection z
         subst this;exact(B.inj t2)▸C
        .have%[i3,p1|I]:=q3 j ⋯ ⋯;rw[s2]at p1;cases p1;rw[g2]at I;intro z;rw[z]at I;exact I hh
     dsimp only;rw[p];dsimp only;by_cases M:(!t.led)=true
     .rw[if_pos M];refine Z2 (wG hk _ (λy hy=>?_) ?_)
      .have%[e,aR|rfl]:=Xl hy;have%[i2|hi2]:=Array.getElem?_of_mem ((Array.mem_filter.mp (mem_toList_iff.mp aR)).1);have%[r2,k2,rfl|aU]:=el i2 e hi2;exact%[r2,k2,ρ|aU]
      .exact L
     .rw[if_neg M];exact L
 exact O 100000 0 none rfl (Xb _) (by unfold turns at m1;lia) (λj hj=>absurd hj (X1 _))
end
structure IN (es:Array _) (t:SetTable) (led:Bool):Prop where
 wf:WF t es
 roomy:t.place.size*5<t.mask*3
 small:t.mask<=7\/t.mask+1<=8*es.size
 led:t.led=led
 plain:es.size≠0->t.plain=false
def IN.fits{a:Array _}{t:SetTable}{led:Bool}(I:IN a t led):t.fits a.size=true:=by
 unfold SetTable.fits fill;rw[I.wf.dum];have:=I.roomy;simp[I.wf.size];rw[<-I.wf.size]
 lia
def IN.fresh(finger moves:Nat)(led:Bool):IN #[] (SetTable.fresh finger moves led) led:=
 %[%[%[3|rfl],Zi _,rfl,λa b c=>absurd c (by simp[SetTable.fresh]),λj d=>by simp[SetTable.fresh]at d,rfl|λi j h x hi=>by simp[SetTable.fresh]at hi],show 0*5<7*3 from !1,.inl (Zi _),rfl|λq=>absurd rfl q]
section
variable{prog:Program}{w:World}{K:Type}[DecidableEq K]{knd:KeyKind prog w K}{A:Around}{E:ZE}{s:Shared}
def relay_w(e:s.heap.get? a∣o)(f:o.data= .set c B t)(j:t.fits c.size=true)(C:c.size<=n)(hw:n<=4000)
 (h:∀d t',d.toList.Perm c.toList->WF t' d->t'.led=t.led->t'.plain=t.plain->n<=t'.mask->t'.mask+1<=2*n\/t'.mask<=7->Q () (s>>>s.heap.update a (Obj.putSet d t'))):
 ↥A (setRelay a n) Q E s:=by
 have%[k,l,g,lt|m]:=wF (n:=n) ⋯;have G:8<=2^k:=Ye (by simp:8<=2^3) (Nat.pow_le_pow_right ∅ l);have i:2^k<=2*n\/2^k=8:=by
  rcases m with q|q
  .exact .inl q
  .exact .inr (by rw[q])
 have p:2^k<=8000:=by rcases i with q|q<;> lia
 let r:SetTable:={t with mask:=2^k-1}
 have%[t',b,u,H,v,y,I,W|P]:=laid_ok (t:=r) (k:=k) (by show 2^k-1+1=2^k;lia) (by show 7<=2^k-1;lia) c (by show c.size<=2^k-1;lia) t.finger _ t.led t.plain;have z:t.relaid (c\1) n∣(t',b):=by
  unfold relaid;rw[g];exact u
 have sz:(b.filterMap (c[·]?)).size=c.size:=by rw[<-Zb,P.length_eq,Zb]
 refine Z2 (wpAny_setState_of e f j ?_);dsimp only;rw[g,if_neg (by rw[PySem.sizeLine_eq];lia)];rw[z];refine Z2 ?_;show wpAny _ A (if((b.filterMap _).size != c.size)=true then _ else pure _) _ E s;rw[if_neg (by simp[sz])];exact Z3 (wpAny_storeSet_of e f (h _ t' P W v y ⋯ (by rcases i with q|q<;> lia)) (by rw[sz,PySem.sizeLine_eq];lia))
def Bh(e:s.heap.get? a∣o)(f:o.data= .set c j t)(g:t.fits c.size=true)(m:c.size<=1000)(n:c.size≠0)(d:t.plain=false)
 (h:∀b t',b.toList.Perm c.toList->IN b t' t.led->t'.plain=false->Q () (s>>>s.heap.update a (Obj.putSet b t'))):
 ↥A (setRelay a (grown c.size)) Q E s:=by
 have i:grown c.size=c.size*4:=by unfold grown;rw[if_neg ⋯]
 rw[i];refine relay_w e f g ⋯ ⋯ λb t' P W l p q m2=>?_
 have sz:b.size=c.size:=by rw[<-Zb,P.length_eq,Zb]
 exact h b t' P %[W,by rw[W.size,sz];lia,⋯,l|λ_=>p▸d] (p▸d)
def yV{led:Bool}(M:A.units<cLine)(p:s.heap.get? a∣o)(n:o.data= .set d ep t)(I:IN d t led)(hn:d.size+1<=1000)
 (el:EL knd s.heap d) (C:IsTupleKey knd s.heap k r) (hv:∀(s':Shared) (N:Bool->Shared->Prop),IsTupleKey knd s'.heap k r->N false s'->↥A (hashByValue 8 (.ref r)) N E s')
 (h1:(∃(i:Nat) (u:Addr),d[i]?∣(tupleKeyHash knd k,Value.ref u)/\IsTupleKey knd s.heap k u)->Q false {s with toks:=s.toks+(~~~k+1)})
 (O:(∀(i:Nat) (u:Addr) (G:List K),d[i]?∣(tupleKeyHash knd G,Value.ref u)->IsTupleKey knd s.heap G u->G≠k)->∀g t' H h',h'.get? a=some {o with data:= .set g H t'}->SameBut a s.heap h'->g.toList.Perm (d.toList++[(tupleKeyHash knd k,Value.ref r)])->IN g t' led->Q true {s with heap:=h',toks:=s.toks+(~~~k+1)}):
 ↥A (setAdd a (.ref r)) Q E s:=by
 unfold setAdd;refine wpAny_holding (Z2 (wpAny_pyHash_tuple M C ?_));unfold setAddHashed;refine wpAny_holding ?_;unfold setAddHashedIn;refine Z2 (wpAny_setState_of (s:={s with toks:=s.toks+(~~~k+1)}) p n I.fits ?_);dsimp only;have ns:byScan (Value.ref r) d=false:=rfl;rw[ns];simp only[Zz,if_false];have rm:=I.roomy;refine Z2 (sD (s:={s with toks:=s.toks+(~~~k+1)}) M p n I.wf ⋯ (by rcases I.small with q|q<;> lia) el C (λq=>?_) λm T m2 U=>?_)
 .exact Z3 (h1 q)
 .dsimp only;refine Z2 (wpAny_setState_of (s:={s with toks:=s.toks+(~~~k+1)}) p n I.fits ?_);dsimp only;have v:=I.wf;have%[p1,Y,p3,p4,p5,p6|Wp]:=v.put (x:=Value.ref r) T m2 t.led false;have%[_,_,_,_,_,_|Wq]:=v.put (x:=Value.ref r) T m2 (t.put (way t (tupleKeyHash knd k) m)).1.led (t.put (way t (tupleKeyHash knd k) m)).1.plain;have y:(t.put (way t (tupleKeyHash knd k) m)).2<=d.size:=by
   rw[p1,<-v.size];exact(jw v.rise _).1
  have e:(insertAt d (t.put (way t (tupleKeyHash knd k) m)).2 (tupleKeyHash knd k,Value.ref r)).size=d.size+1:=iD _ _ _ y;have h:(insertAt d (t.put (way t (tupleKeyHash knd k) m)).2 (tupleKeyHash knd k,Value.ref r)).toList.Perm (d.toList++[(tupleKeyHash knd k,Value.ref r)]):=by
   rw[jR _ _ _ y];have q:=X8 (t.put (way t (tupleKeyHash knd k) m)).2 d.toList;refine List.Perm.trans List.perm_middle ?_;rw[q];exact List.perm_append_comm (l₁:=[_])
  generalize aa:insertAt d _ _=c at Wp Wq e h
  have f:∀b:SetTable,WF b c->b.mask=t.mask->b.place.size=t.place.size+1->b.led=led->b.plain=false->
   ↥A (do storeSet a c b;if(!false&&b.tooFull)=true then do setRelay a (grown (d.size+1));pure true else pure true) Q E {s with toks:=s.toks+(~~~k+1)}:=λb z e1 e2 e3 e4=>by
   have g1:=by
    have q:=get?_update_self (Obj.putSet c b) p (by rw[putSet_of c b n];rfl);rwa[putSet_of c b n]at q
   have b1:=SameBut.update s.heap a (Obj.putSet c b);refine Z2 (wpAny_storeSet_of p n ?_ (e▸Ye hn (!1)));have J:b.tooFull=true↔b.mask*3<=b.place.size*5:=by
    unfold tooFull fill;rw[z.dum];simp
   by_cases hf:b.tooFull=true
   .rw[if_pos (by simp[hf])];have B:b.fits c.size=true:=by
     unfold SetTable.fits fill;rw[z.dum];simp[z.size];exact z.size▸(by rw[e1,e2];have:=v.big;lia)
    rw[<-e];refine Z2 (Bh g1 rfl B ⋯ ⋯ e4 λj L P3 I3 _=>Z3 ?_);have g2:=by
     have q:=get?_update_self (Obj.putSet j L) g1 (by rfl);rwa[putSet_of j L rfl]at q
    exact O U j L _ _ g2 (b1.trans (SameBut.update _ a _)) (P3.trans h) (by rw[e3]at I3;exact I3)
   .rw[if_neg (by simp[hf])];refine Z3 (O U c b _ _ g1 b1 h %[z,⋯,?_,e3|λ_=>e4]);rw[e1,e];rcases I.small with q|q
    .exact .inl q
    .exact .inr ⋯
  by_cases l:(t.put (way t (tupleKeyHash knd k) m)).1.plain=true
  .rw[if_pos l];exact Z2 (hv _ _ C (f _ Wp Y p3 I.led rfl))
  .rw[if_neg l];exact f _ Wq Y p3 (p4.trans I.led) ↑l
end
end _T
namespace _L
open PySem PySem.Spec PyProof.Rows _T
abbrev gH{a:Type}[DecidableEq a](ps:List (Addr×a))(p:Addr×a):List (Addr×a):=if p.2∈ps\2 then ps else ps++[p]
abbrev bj{a:Type}[DecidableEq a](l:List (Addr×a)):List (Addr×a):=l.foldl gH []
section
variable{κ:Type}[DecidableEq κ]
def Bi{ps:List _}{p q:Addr×κ}(h:q∈gH ps p):q∈ps\/q=p:=by
 unfold gH at h
 split at h
 .exact .inl h
 simp_all
def yW{ps:List (Addr×κ)}{p:Addr×κ}{k:κ}:k∈(gH ps p)\2↔k∈ps\2\/k=p.2:=by
 unfold gH;by_cases h:p.2∈ps\2
 .rw[if_pos h];exact%[.inl|λq=>q.elim id λe=>e▸h]
 .rw[if_neg h,Zd,Yq];simp
def wH{ps:List (Addr×κ)}{p:Addr×κ}(h:(ps\2).Nodup):((gH ps p)\2).Nodup:=by
 unfold gH
 split
 .exact h
 .rename_i a
  rw[Zd];exact mF h a
def xG:∀(l ps:List (Addr×κ)),(ps\2).Nodup->((l.foldl gH ps)\2).Nodup/\(∀k,k∈(l.foldl gH ps)\2↔k∈ps\2\/k∈l\2)/\(∀q∈l.foldl gH ps,q∈ps\/q∈l)
 |[],ps,h=>%[h,λk=>by simp|λq a=> .inl a]
 | p::l,ps,h=>by
   have%[b,c|d]:=xG l _ (wH h);rw[Y7];refine%[b,λk=>?_|λq a=>?_]
   .rw[c,yW,Yo,Yt]
    grind
   .rcases d q a with z|z
    .rcases Bi z with z|z
     .exact .inl z
     .exact .inr (z▸Zm)
    .exact .inr (Zk _ z)
def dO(l:List (Addr×κ)):((bj l)\2).Nodup:=(xG l [] Yz).1
def gJ(l:List (Addr×κ))(k:κ):k∈(bj l)\2↔k∈l\2:=by
 have:=(xG l [] Yz).2.1 k;simpa [bj]using this
def bx(l:List (Addr×κ)):∀q∈bj l,q∈l:=λq a=>by
 rcases(xG l [] Yz).2.2 q a with z|z
 .cases z
 .exact z
def sE(val:Nat->Addr×κ)(i:Nat):bj ((List.range (i+1)).map val)=gH (bj ((List.range i).map val)) (val i):=by
 unfold bj;rw[X6,Zd,foldl_append];rfl
end
section
variable{prog:Program}{w:World}{κ:Type}[DecidableEq κ]{knd:PySem.KeyKind prog w κ}{A:Around}{E:ZE}{s:Shared}{a:Addr}
abbrev nP(w:World)(knd:PySem.KeyKind prog w κ)(a:Addr)(ps:List (Addr×List κ))(h:Heap):Prop:=
 ∃o b c t,h.get? a∣o/\o.ExactSet/\o.data= .set b c t/\IN b t (!a8 w)/\b.toList.Perm (ps.map λp=>(tupleKeyHash knd p.2,Value.ref p.1))
def nP.keep(S:nP w knd a ps h)(k:∀o,h.get? a∣o->h'.get? a∣o):nP w knd a ps h':=by
 have%[o,b,c,t,d|r]:=S;exact%[o,b,c,t,k o d|r]
def mI(x:IsTupleKey knd h k r)(q:∀o,h.get? r∣o->h'.get? r∣o):IsTupleKey knd h' k r:=by
 have%[o,b,n,c|z]:=x;exact%[o,b,n,q o c|z]
def Bj(v:A.units<cLine)(y:nP w knd a ps s.heap)(tk:∀q∈ps,IsTupleKey knd s.heap q.2 q.1)(B:IsTupleKey knd s.heap p.2 p.1)(room: ~~~ps+1<=1000)
 (C:∀(s':Shared) (m:Bool->Shared->Prop),IsTupleKey knd s'.heap p.2 p.1->m false s'->↥A (hashByValue 8 (.ref p.1)) m E s')
 (n:∀h' b tk,SameBut a s.heap h'->nP w knd a (gH ps p) h'->s.toks<=tk->Q b {s with heap:=h',toks:=tk}):↥A (setAdd a (.ref p.1)) Q E s:=by
 have%[o,g,G,t,r,f,u,I|P]:=y;have hn:=by
  have:=P.length_eq;rw[Z6,Zb]at this;exact this
 have mem:∀i e,g[i]?∣e->∃q∈ps,e=(tupleKeyHash knd q.2,Value.ref q.1):=λi e h=>by
  have:=mem_toList_iff.mpr (Array.mem_of_getElem? h);have%[q,c|rfl]:=Xl (P.mem_iff.mp this);exact%[q,c|ρ]
 have H:EL knd s.heap g:=λi e h=>by
  have%[q,c|rfl]:=mem i e h;exact%[q.1,q.2,ρ|tk q c]
 refine yV v r u I ⋯ H B C (λ⟨i,J,e,L⟩=>?_) λd j t' l h' g' M N O=>?_
 .have%[q,c|T]:=mem i _ e;have U:J=q.1:=by injection T with _ z;injection z
  subst U;refine n s.heap false _ (SameBut.refl a s.heap) ?_ (le_add_right _ _);unfold gH;rw[if_pos (Xm %[q,c|(L.inj (tk q c)).symm])];exact%[o,g,G,t,r,f,u,I|P]
 .refine n h' true _ M ?_ (le_add_right _ _);unfold gH;rw[if_neg]
  .refine%[_,j,l,t',g',f,ρ,O|N.trans ?_];rw[Zd];exact P.append_right _
  .intro Y;have%[q,c|e]:=Xl Y;have:=P.mem_iff.mpr (Xm %[q,c|rfl]);have%[i|hi]:=Xc this;exact d i q.1 q.2 ↑hi (tk q c) e
end
section
variable{prog:Program}{w:World}{κ:Type}[DecidableEq κ]{knd:PySem.KeyKind prog w κ}{A:Around}{R:Result->Shared->Prop}{I:Addr}{fp wr:List Addr}{G:Array GenState->Array GenState->Prop}{n:Nat}{P:Nat->Value->Prop}{St:Nat->Shared->Prop}
def pI(W:WalksS prog w A.in1 I fp wr G n P St)(S:Addr)(r:S∉fp)(Q:A.in1.units<cLine)(val:Nat->Addr×List κ)(u:∀i v,i<n->P i v->v= .ref (val i).1)(U:List (List κ))(hU: ~~~U<=999)(C:∀i,i<n->(val i).2∈U)(c:∀i,i<n->(val i).1≠S/\(val i).1∉wr)
 (T:∀i,i<n->∀(s':Shared) (B:Bool->Shared->Prop) (Y:ZE),IsTupleKey knd s'.heap (val i).2 (val i).1->B false s'->↥A.in1 (hashByValue 8 (.ref (val i).1)) B Y s'):
 ∀(k i:Nat) (s:Shared),n-i=k->i<=n->St i s->nP w knd S (bj ((List.range i).map val)) s.heap->(∀j,j<n->IsTupleKey knd s.heap (val j).2 (val j).1)->
  (∀s',Moved (S::wr) G s s'->nP w knd S (bj ((List.range n).map val)) s'.heap->R (.ok (.ret .none)) s')->codeAny (model prog w) A (.builtin "set.update.loop" %[[.ref S,.ref I]|[]]) R s:=by
 have out:S∉wr:=λh=>r (W.sub _ h)
 have more:∀b∈wr,b∈S::wr:=λb y=>Zk _ y
 intro k
 induction k with
 | zero=>
   intro i s E hi st H tk d;have e:i=n:=by lia
   subst e;refine codeAny_builtin F.entry_set_update_loop ?_;rw[Around.under_plainId F.plain_set_update_loop _];show wpAny _ A.in1 (pyNext (.ref I)>>= _) _ _ s;refine Z2 (W.done s _ _ st λf l=>?_);show wpAny _ A.in1 (ret Value.none) _ _ f;exact Z3 (d f (l.mono more) (H.keep λo e=>l.heap S o out e))
 | succ k ih=>
   intro i s E hi st H tk d;have lt:i<n:=by lia
   refine codeAny_builtin F.entry_set_update_loop ?_;rw[Around.under_plainId F.plain_set_update_loop _];show wpAny _ A.in1 (pyNext (.ref I)>>= _) _ _ s;refine Z2 (W.item i s _ _ lt st λv f pv J l=>?_);obtain rfl:=u i v lt pv;have g:∀j,j<n->IsTupleKey knd f.heap (val j).2 (val j).1:=λj a=>mI (tk j a) λo e=>l.heap _ o (c j a).2 e
   have L:∀q∈bj ((List.range i).map val),IsTupleKey knd f.heap q.2 q.1:=λq hq=>by
    have%[j,a|rfl]:=Xl (bx _ q hq);exact g j (by have:=mem_range.mp a;lia)
   have room: ~~~(bj ((List.range i).map val))+1<=1000:=by
    have q:=nodup_sub (dO ((List.range i).map val)) (m:=U) λk E=>by
     have%[p,hp|rfl]:=Xl ((gJ _ k).mp E);have%[j,a|rfl]:=Xl hp;exact C j (by have:=mem_range.mp a;lia)
    rw[Z6]at q
    lia
   refine Z2 (wpAny_holding (Bj (p:=val i) Q (H.keep (h':=f.heap) λo e=>l.heap S o out e) L (g i lt) room (λs' B=>T i lt s' B _) λh2 b aa M N z=>Z3 %[plainId_quiet F.plain_set_update_loop _|ih (i+1) _ ⋯ lt (W.frame _ f _ _ J z λb y o e=>?_) (by rw[sE];exact N) (λj a=>mI (g j a) λo e=>(M.2 _ (c j a).1)▸e) λs3 m3 O=>?_]))
   .rw[M.2 b (λq:b=S=>r (q▸y))];exact e
   .refine d s3 (Moved.trans W.gtrans ((l.mono more).then_heap z λb o y e=>?_) m3) O;rw[M.2 b (λq:b=S=>y (q▸Zm))];exact e
end
section
variable{prog:Program}{w:World}{κ:Type}[DecidableEq κ]{knd:PySem.KeyKind prog w κ}{A:Around}{E:ZE}{s:Shared}
def pJ(hh:A.handled=none)(hu:A.units+16<cLine)(hl:s.heap.IsList l a)(hi:a.toList=ps.map λp=>Value.ref p.1)(tk:∀p∈ps,IsTupleKey knd s.heap p.2 p.1)(U:List (List κ))(hU: ~~~U<=999)(aa:∀p∈ps,p.2∈U)
 (hv:∀p∈ps,∀(B:Around) (s':Shared) (T:Bool->Shared->Prop) (E':ZE),IsTupleKey knd s'.heap p.2 p.1->T false s'->↥B (hashByValue 8 (.ref p.1)) T E' s')
 (hQ:∀(h':Heap) (tk:Nat),nP w knd ⇑s (bj ps) h'->(∀b o,s.heap.get? b∣o->h'.get? b∣o)->Q (.ref ⇑s) {s with heap:=h',toks:=tk}):
 ↥A (call (.type "set") [.ref l]) Q E s:=by
 have%[c,tl|aU]:=called_set.mro;have ab:=called_set.made;have a0:=called_set.sub;refine wpAny_call (codeAny_of_tree ?_);show wpAny _ _ (callAny (.type "set") _) _ _ _;refine Z3 %[Code.quiet_builtin _ (!0)|codeAny_builtin F.entry_type_call ?_];rw[Around.under_plain (weight_type_call_type "set" [.ref l] []) rfl];have a2:=called_set.notType;have a3:=called_set.canCreate;have a4:=PySem.F.typeCall_set_1 (.ref l)
 repeat any_goals first|assumption|wp_step
 refine codeAny_mono (t5 (.ref l) (E:=E) (Q₁:=λobj q=>obj= .ref ⇑s/\q=(s>>>s.heap.push (a9 w))) %[rfl|rfl]) λr q G=>?_
 cases r with
 | error e=>exact G
 | ok fl=>
   cases fl with
   | ret obj=>
     have%[rfl|rfl]:=G;have gS:(s.heap.push (a9 w)).get? ⇑s∣a9 w:=Zj _ rfl;have tS:Shared.TypeIs (s>>>s.heap.push (a9 w)) (.ref ⇑s) "set":=%[_,gS|rfl]
     have a5:=called_set.init.lookup;have a6:=called_set.init.bind (.ref ⇑s)
     repeat any_goals first|assumption|wp_step
     refine codeAny_mono (codeAny_call_builtin (R:=wants (λr u=>r= .none/\∃h' tk,u={s with heap:=h',toks:=tk}/\nP w knd ⇑s (bj ps) h'/\(∀b o,s.heap.get? b∣o->h'.get? b∣o)) E) called_set.init.plain F.entry_set_init (check_set_init_1 tS ?_)) λH u f=>?_
     .have%[ol,gl,cl,nl|dl]:=hl;have%[a1,z,ac|m]:=ol;simp only at cl dl;subst cl;subst dl;have ag:(s.heap.push (a9 w)).get? l=some {cls:= .type "list",dict:=z,data:= .seq a nl,slots:=m}:=Z7 _ gl;have a7:=PySem.F.sub_list_set;have bb:=PySem.F.sub_list_frozenset;have bc:(Value.type "list"==Value.type "dict")=false:=!1
      have I:(s.heap.push (a9 w)).IsList l a:=%[_,ag,rfl,nl|rfl]
      unfold Builtin.«set.__init__»;unfold noKeywords;unfold Builtin.Frozenset.updateFrom
      generalize ai:pyIter=PI
      wp_walk
      subst ai;refine wpAny_pyIter_list I (Z2 (wpAny_runValue ?_));have J:l<⇑s:=Zu gl;have h3:A.in1.in1.in1.handled=none:=by simp[hh]
      have Y:(s.heap.push (a9 w)).objs.size=⇑s+1:=Zq ..;have al:l≠(s.heap.push (a9 w)).objs.size:=by rw[Y];exact Zs (Yl J)
      have an:⇑s∉[(s.heap.push (a9 w)).objs.size,l]:=by
       rw[Y];simp only[Yt,X2,or_false,not_or];exact%[Zs (Ym _)|Yw J]
      have L:a.size= ~~~ps:=by rw[<-Zb,hi,Z6]
      have aq:A.in1.in1.in1.units<cLine:=by simp only[Around.in1];lia
      have g:∀i,i<a.size->∃p∈ps,ps[i]?∣p/\ps.getD i (0,[])=p:=λi h=>by
       have h':i< ~~~ps:=by lia
       exact%[ps[i],Ya h',by simp[h']|by simp[Zc,h']]
      refine pI (knd:=knd) ((Walks.list h3 _ l al a).toS) ⇑s an aq (λi=>ps.getD i (0,[])) (λi v d ar=>?_) U hU (λi d=>?_) (λi d=>?_) (λi d=>?_) (a.size-0) 0 _ ⋯ (Xb _)
       %[%[_,Zj _ rfl,rfl|rfl]|I.push _] %[_,#[],0,_,Z7 _ gS,%[rfl,rfl|rfl],rfl,IN.fresh 0 0 _|List.Perm.refl _] (λj d=>?_) ?_
      .have%[p,y,M|n]:=g i d;have:a.toList[i]?∣v:=by rw[getElem?_toList];exact ar
       rw[hi,Zl,M]at this;show v= .ref (ps.getD i (0,[])).1;rw[n];exact(Za this).symm
      .have%[p,y,M|n]:=g i d;show(ps.getD i (0,[])).2∈U;rw[n];exact aa p y
      .have%[p,y,M|n]:=g i d;have%[po,_,_,pg|_]:=tk p y;have N:=Zu pg;show(ps.getD i (0,[])).1≠_/\(ps.getD i (0,[])).1∉_;rw[n];refine%[Zs N|?_];simp only[Yt,X2,or_false,Y];exact Zs (Yl N)
      .have%[p,y,M|n]:=g i d;intro s' T E';show IsTupleKey knd s'.heap (ps.getD i (0,[])).2 (ps.getD i (0,[])).1->_->wpAny _ _ (hashByValue 8 (.ref (ps.getD i (0,[])).1)) _ _ _;rw[n];exact hv p y _ s' T E'
      .have%[p,y,M|n]:=g j d;show IsTupleKey knd _ (ps.getD j (0,[])).2 (ps.getD j (0,[])).1;rw[n];exact mI (tk p y) λo e=>Z7 _ (Z7 _ e)
      intro s3 m3 S3;have G:(List.range a.size).map (λi=>ps.getD i (0,[]))=ps:=by
       rw[L];apply Zy
       .simp
       .intro i h1 h2;simp[Zc,h2]
      rw[G]at S3;have%[h',g',d',as|aR]:=s3;have eg:g'=s.gens:=m3.gens;have ed:d'=s.drawn:=m3.drawn;have eo:aR=s.os:=m3.os;subst eg;subst ed;subst eo;refine Z3 ?_;show wpAny _ _ (ret Value.none) _ _ _;refine Z3 %[rfl,h',as,rfl,S3|λb o e=>?_];have O:=Zu e;refine m3.heap b o ?_ (Z7 _ (Z7 _ e));simp only[Yt,X2,or_false,not_or,Y];exact%[Zs O|Zs (Yl O)]
     .cases H with
      | error e=>exact f
      | ok C=>
        cases C with
        | ret r=>
          have%[rfl,h',tk,rfl,S3|k3]:=f
          repeat any_goals first|assumption|wp_step
          exact hQ _ _ S3 k3
        | _=>exact f.elim
   | _=>exact G.elim
end
open PySem PySem.Spec PyProof.Rows
section
variable{prog:Program}{w:World}{A:Around}{s:Shared}
def jf{a:Addr}{vs:ZG}{n:Nat}{kd:SortKind}{Nv:Value->Nat}{P:Fin->Shared->Prop}{E:ZE}(G:s.heap.get? a∣seqObj "list" vs.toArray n)(I: ~~~vs<=100000)
 (f:∀j:Heap,(∀b o,b≠a->s.heap.get? b∣o->j.get? b∣o)->2<= ~~~vs->∀Q:SortKind->Shared->Prop,Q kd (s>>>j)->↥A (keyKind' vs.toArray) Q E (s>>>j))
 (T:∀j:Heap,(∀b o,b≠a->s.heap.get? b∣o->j.get? b∣o)->_S.Cmp prog w A (λs'=>s'=(s>>>j)) kd (λx=>x.1∈vs) (λx=>Nv x.1))
 (h:∀out:ZG,out.Perm vs->(~~~vs<64->out.Pairwise (λx y=>Nv x<=Nv y))->P (.done (.ret .none)) (s>>>sortedHeap s.heap a vs out.toArray)):
 ↥A (Builtin.«list.sort» %[[.ref a]|[]]) P E s:=by
 rw[list_sort_plain];have M:a<⇑s:=Zu G;have g: ~~~vs<=sizeLine:=Ye I (!1);refine Z2 (listItems_at G rfl ?_);refine Z2 (listUpdate_at G rfl ?_ (g));obtain⟨J,B⟩:∃J,(s.heap.update a (Obj.mapSeq λ_=> #[])).get? a∣(seqObj "list" #[] J):=%[_|get?_update_seq G (λ_=> #[])]
 refine Z2 (seqEpoch_at B rfl ?_);refine Z2 (wpAny_newTuple ?_ (g));refine Z2 (wpAny_newList ?_);refine wpAny_holding ?_;have keep:∀b o,b≠a->s.heap.get? b∣o->(((s.heap.update a (Obj.mapSeq λ_=> #[])).push (seqObj "tuple" vs.toArray 0)).push (seqObj "list" #[] 0)).get? b∣o:=λb o U e=>
  Z7 _ (Z7 _ ((get?_update_other _ _ (Ne.symm U)).trans e))
 have d:(((s.heap.update a (Obj.mapSeq λ_=> #[])).push (seqObj "tuple" vs.toArray 0)).push (seqObj "list" #[] 0)).get? a∣(seqObj "list" #[] J):=by
  rw[Heap.get?_push_ne _ _ _ (by rw[size_push',Heap.size_update];exact Zs (Yl M)),Heap.get?_push_ne _ _ _ (by rw[Heap.size_update];exact Zs M)];exact B
 have f:=f _ keep;show ↥A _ P E {s with heap:=((s.heap.update a (Obj.mapSeq λ_=> #[])).push (seqObj "tuple" vs.toArray 0)).push (seqObj "list" #[] 0)};dsimp only;have L:vs.toArray.size= ~~~vs:=by simp
 have m:(vs.toArray.zip vs.toArray).toList=vs.map λv=>(v,v):=by
  rw[Array.toList_zip,List.toList_toArray];apply Zy
  .simp
  .intro i h1 p;simp
 have C:∀c:SortSt,(arrOf c).toList.Perm (vs.map λv=>(v,v))->(~~~vs<64->_S.Srt (λx=>Nv x.1) (arrOf c).toList)->P (.done (.ret .none)) (s>>>(sortedHeap s.heap a vs ((arrOf c)\2))):=by
  intro c u H;have N:∀x∈(arrOf c).toList,x.1=x.2:=λx z=>by
   have%[v,_|rfl]:=Xl (u.mem_iff.mp z);rfl
  have e:(arrOf c)\2=((arrOf c).toList\2).toArray:=by
   apply Array.ext';simp
  rw[e];refine h _ ?_ ?_
  .have:=u\2;rwa[Yp,show((λx:Keyed=>x.2) ∘ λv:Value=>(v,v))=id from rfl,map_id]at this
  .intro l;rw[X4];exact Xd (λ{x y} z Y q=>by rw[<-N x z,<-N y Y];exact q) (H l)
 by_cases p:vs.toArray.size<2
 .rw[if_pos p,if_pos p];refine Z2 (Z3 ?_);rw[StateT.run_pure];refine Z2 (Z3 ?_);dsimp only;refine Z2 (seqEpoch_at d rfl (Z2 (listUpdate_at d rfl ?_ (hsz2:=by rw[size_map];show(pairsOf vs).size<=_;rw[pairsOf_size,sizeLine_eq];omega))));simp only[bne_self_eq_false,Zz,if_false];refine Z3 (C _ (by rw[m]) λ_=>?_);rw[m]
  match vs,L,p with
  |[],_,_=>exact List.Pairwise.nil
  |[v],_,_=>exact List.pairwise_singleton _ _
  | v1::v2::r,h3,h4=>simp at h4;omega
 .rw[if_neg p,if_neg p];refine Z2 (f (by omega) _ ?_);refine Z2 (wpAny_mono (_S.sc_sortRuns (D:=λx=>x.1∈vs) (st:=SortSt.mk' kd (vs.toArray.zip vs.toArray) #[] 7 none) (T _ keep) (λx z=>?_) ?_ rfl rfl
   (Q:=λ_ c=>(arrOf c).toList.Perm (vs.map λv=>(v,v))/\failedOf c=none/\(~~~vs<64->_S.Srt (λx=>Nv x.1) (arrOf c).toList)) (λc a1 a2 a3=>%[?_,a3|λl=>a2 ?_]) _ rfl) ?_ λ_ _ e=>e.elim)
  .rw[m]at z;have%[v,hv|rfl]:=Xl z;exact hv
  .rw[<-Zb,m,Z6];omega
  .rwa[m]at a1
  .rwa[<-Zb,m,Z6]
  .rintro⟨⟨⟩,c⟩ s' ⟨rfl,u,O,H⟩;dsimp only at u O H ⊢;refine Z2 (seqEpoch_at d rfl (Z2 (listUpdate_at d rfl ?_ (hsz2:=?_))))
   .rw[O];simp only[bne_self_eq_false,Zz,if_false];exact Z3 (C c u H)
   .rw[size_map,<-Zb,u.length_eq,Z6];exact Nat.le_succ_of_le g
end
abbrev aO(x y:Str):Bool:=decide (x.cps.toList<y.cps.toList)
abbrev fG:ZC->ZC->Bool
 |[],[]=>false
 |[],_::_=>true
 | _::_,[]=>false
 | x::xs,y::ys=>if x=y then fG xs ys else aO x y
def cr(x:Str):aO x x=false:=Zh (List.lt_irrefl _)
def F3{x y:Str}(h:x.cps.toList=y.cps.toList):x=y:=by
 obtain⟨⟨l⟩⟩:=x
 simp_all
def dI{x y z:Str}(a:aO x y=true)(b:aO y z=true):aO x z=true:=Zf (List.lt_trans (Zo a) (Zo b))
def dg{x y:Str}(h:aO x y=false)(a:x≠y):aO y x=true:=by
 exact Zf (Classical.byContradiction λb=>a (F3 (List.le_antisymm b (of_decide_eq_false h))))
def xH:∀x,fG x x=false
 |[]=>rfl
 | x::xs=>by rw[fG,if_pos rfl];exact xH xs
def iW:∀{x y z:ZC},fG x y=true->fG y z=true->fG x z=true
 |[],[],z,b,a=>by cases b
 |[],y::ys,[],b,a=>by cases a
 |[],y::ys,z::zs,b,a=>rfl
 | x::xs,[],z,b,a=>by cases b
 | x::xs,y::ys,[],b,a=>by cases a
 | x::xs,y::ys,z::zs,b,a=>by
   rw[fG]at b a ⊢;by_cases d:x=y
   .rw[if_pos d]at b;subst d;by_cases c:x=z
    .rw[if_pos c]at a ⊢;exact iW b a
    .rw[if_neg c]at a ⊢;exact a
   .rw[if_neg d]at b;by_cases c:y=z
    .rw[if_pos c]at a;subst c;rw[if_neg d];exact b
    .rw[if_neg c]at a;have f:=dI b a;rw[if_neg (λe=>by rw[e,cr]at f;cases f)];exact f
def qC:∀{x y:ZC},fG x y=false->x≠y->fG y x=true
 |[],[],a,c=>absurd rfl c
 |[],y::ys,a,c=>by cases a
 | x::xs,[],a,c=>rfl
 | x::xs,y::ys,a,c=>by
   rw[fG]at a ⊢;by_cases b:x=y
   .rw[if_pos b]at a;rw[if_pos b.symm];exact qC a λe=>c (by rw[b,e])
   .rw[if_neg b]at a;rw[if_neg (Ne.symm b)];exact dg a b
abbrev iE(ks:List ZC)(k:ZC):Nat:=ks.countP λu=>fG u k
def mJ{ks:List ZC}{x y:ZC}(b:x∈ks):fG x y=decide (iE ks x<iE ks y):=by
 have up:∀(l:List ZC) p q,(∀u∈l,p u=true->q u=true)->l.countP p<=l.countP q:=λl p q h=>List.countP_mono_left h
 cases h:fG x y with
 | true=>
   symm
   refine Zf ?_;have c:∀l:List _,x∈l->l.countP (λu=>fG u x)<l.countP (λu=>fG u y):=by
    intro l
    induction l with
    | nil=>simp
    | cons u l d=>
      intro b;rw[countP_cons,countP_cons];have f:=up l (λu=>fG u x) _ λu _ a=>iW a h
      rcases mem_cons.mp b with e|e
      .subst e;rw[if_neg (by rw[xH];simp),if_pos h];omega
      .have:=d e;by_cases a:fG u x=true
       .rw[if_pos a,if_pos (iW a h)];omega
       .rw[if_neg a]
        split<;> omega
   exact c ks b
 | false=>
   symm
   refine Zh (Nat.not_lt.mpr (up ks _ _ λu _ a=>?_));by_cases e:x=y
   .exact e▸a
   .exact iW a (qC h e)
section
variable{prog:Program}{w:World}{A:Around}{s:Shared}{E:ZE}
nonrec abbrev yX(prog:Program)(w:World)(h:Heap)(zs:ZC)(r:Addr):Prop:=IsTupleKey (aH prog w) h (zs.map Sum.inr) r
def fT:∀{zs:ZC} {vs:ZG},ItemsAre (aH prog w) (zs.map Sum.inr) vs->StrsAre vs zs
 |[],_,h=>by cases h;exact .nil
 | z::zs,_,h=>by
   cases h with
   | cons a d=>
     have a:jc (Sum.inr z) _=true:=a;rcases bi a with⟨i,t,b,c⟩|⟨y,t,b,c⟩
     .cases b
     .cases b;subst c;exact .cons z t (fT d)
def Ei{b a:Bool}{Q:Bool->Shared->Prop}:∀(x y:ZC) (vs us:ZG) (i:Nat),StrsAre vs x->StrsAre us y->(~~~x= ~~~y)->a=false->Q (fG x y) s->PySem.W.KatLex prog w A b a Q (vs.zip us) i s
 |[],[],_,_,i,.nil,.nil,_,c,h=>c▸h
 | x::xs,y::ys,_,_,i,.cons _ t d,.cons _ u f,g,c,h=>by
   rw[List.zip_cons_cons];refine PySem.W.kat_cons (eqBool_str ?_);rw[fG]at h;by_cases e:x=y
   .subst e;rw[if_pos rfl]at h;rw[beq_self_eq_true];exact PySem.W.kat_yes (Ei xs ys _ _ _ d f ↑g c h)
   .rw[if_neg e]at h;rw[beq_eq_false_iff_ne.mpr e];refine PySem.W.kat_no ?_;cases j:(b&&i==0)with
    | true=>exact oneLt_str h
    | false=>exact PySem.W.kat_one _ _ (lt_str h)
def Dl{x y:ZC}{r q:Addr}{Q:Bool->Shared->Prop}{b:Bool}(d:yX prog w s.heap x r)(e:yX prog w s.heap y q)(f: ~~~x= ~~~y)(h:Q (fG x y) s):↥A (keyLt' (tuples' b) (.ref r) (.ref q)) Q E s:=by
 have%[ox,xs,nx,g,_,i|j]:=d;have%[o,ys,p,l,_,m|n]:=e;have a:=fT j;have c:=fT n;refine PySem.W.kat_lt g i l m (Ei x y _ _ 0 a c f ?_ h);have u:=bw a;have v:=bw c
 grind
end
def uy [DecidableEq d][DecidableEq i](g:d->i)(j:∀a b,g a=g b->a=b)(l:List (Addr×d)):bj (l.map λp=>(p.1,g p.2))=(bj l).map λp=>(p.1,g p.2):=by
 have m:∀(l ps:List _),(l.map λp=>(p.1,g p.2)).foldl gH (ps.map λp=>(p.1,g p.2))=(l.foldl gH ps).map λp=>(p.1,g p.2):=by
  intro l
  induction l with
  | nil=>intro ps;rfl
  | cons p l n=>
    intro ps;rw[Yo,Y7,Y7];have e:gH (ps.map λp=>(p.1,g p.2)) (p.1,g p.2)=(gH ps p).map λp=>(p.1,g p.2):=by
     unfold gH;have f:(g p.2∈(ps.map λp=>(p.1,g p.2))\2)↔p.2∈ps\2:=by
      rw[Yp]
      constructor
      .intro h;have%[q,c|e]:=Xl h;exact Xm %[q,c|j _ _ e]
      .intro h;have%[q,c|e]:=Xl h;exact Xm %[q,c|by show g q.2=g p.2;rw[e]]
     by_cases h:p.2∈ps\2
     .rw[if_pos h,if_pos (f.mpr h)]
     .rw[if_neg h,if_neg (λz=>h (f.mp z)),Zd];rfl
    rw[e];exact n _
 exact m l []
noncomputable abbrev Hk(p:Addr×ZC):Addr×List Key:=(p.1,p.2.map Sum.inr)
def mK:∀a b:ZC,a.map (Sum.inr:Str->Key)=b.map Sum.inr->a=b
 |[],[],_=>rfl
 |[],_::_,h=>by cases h
 | _::_,[],h=>by cases h
 | x::xs,y::ys,h=>by
   injection h with c d
   injection c with e
   rw[e,mK xs ys d]
section
#where
variable{S:Addr}
def nQ:∀{vs:ZG} {zs:ZC},StrsAre vs zs->ItemsAre (aH prog w) (zs.map Sum.inr) vs
 | _,_,.nil=> .nil
 | _,_,.cons x t h=> .cons (dD x t) (nQ h)
def Dm(c:zs≠[])(b:yX prog w s.heap zs r)(h:Q false s):↥A (hashByValue 8 (.ref r)) Q E s:=by
 have d:=b.typeIs;have%[o,a,n,e,_,f|hi]:=b;refine Z2 (wpAny_specialOf d F.slot_tuple_hash.lookup (Z2 (wpAny_seqItems e f (Z2 ?_))));rw[<-forIn_toList]
 match zs,a.toList,(fT hi),c with
 | z::zs,_,.cons _ t g,_=>
   exact Z2 (Z2 (Z3 (Z3 (Z3 (Z3 h)))))
abbrev kOf(ps:ZH):Value->ZC
 | .ref r=>((ps.find? λp=>p.1==r)\2).getD []
 | _=>[]
abbrev aOf:Value->Addr
 | .ref r=>r
 | _=>0
def jy(G:∀(E1:ZE) (R:ZG->Shared->Prop),(∀c vs,vs.Perm (ps.map λp=>Value.ref p.1)->(∀b o,s.heap.get? b∣o->c.heap.get? b∣o)->c.gens=s.gens->c.os=s.os->R vs c)->↥A.in1 (collect (.ref S)) R E1 s)(tk:∀p∈ps,yX prog w s.heap p.2 p.1)(M:∀p∈ps,~~~p.2=m)(m0:m≠0)(ai: ~~~ps<=1000)
 (hQ:∀(c s':Shared) (l:Addr) (ss:ZH) (n:Nat),ss.Perm ps->(∀b o,s.heap.get? b∣o->c.heap.get? b∣o)->c.gens=s.gens->c.os=s.os->(∀b o,c.heap.get? b∣o->s'.heap.get? b∣o)->s'.gens=c.gens->s'.os=c.os->⇑c<=l->s'.heap.get? l=some {cls:= .type "list",data:= .seq (ss.map λp=>Value.ref p.1).toArray n}->Q (.ref l) s'):
 ↥A (call (.builtin "sorted") [.ref S]) Q E s:=by
 have key:∀p∈ps,kOf ps (.ref p.1)=p.2:=λp g=>by
  show((ps.find? λq=>q.1==p.1)\2).getD []=p.2;cases j:ps.find? λq=>q.1==p.1 with
  | none=>
    have:=List.find?_eq_none.mp j p g;simp at this
  | some q=>
    have H:=List.mem_of_find?_eq_some j;have e:q.1=p.1:=by have:=List.find?_some j;simpa using this
    show q.2=p.2;have t1:=tk q H;rw[e]at t1;exact mK _ _ (t1.inj (tk p g))
 refine Calls.call_function_entry kind_sorted plain_sorted entry_sorted (args_sorted1 _) ?_;unfold Builtin.«sorted»;refine Z2 (m:=checkCount "sorted" 1 1 _) (Z3 ?_);refine Z2 (G _ _ λc vs N k1 g1 o1=>?_);have hl: ~~~vs= ~~~ps:=by rw[N.length_eq,Z6]
 have mem:∀v∈vs,∃p∈ps,v=Value.ref p.1:=λv B=>by
  have%[p,g|rfl]:=Xl (N.mem_iff.mp B);exact%[p,g|ρ]
 refine Z2 (wpAny_newList ?_ (by rw[sizeLine_eq];lia));have O:(c.heap.push (seqObj "list" vs.toArray 0)).get? ⇑c∣seqObj "list" vs.toArray 0:=Zj _ rfl;have r:∀p∈ps,∀i:Heap,(∀b o,b≠⇑c->(c.heap.push (seqObj "list" vs.toArray 0)).get? b∣o->i.get? b∣o)->yX prog w i p.2 p.1:=λp g i C=>by
  refine mI (tk p g) λo e=>?_
  have I:=k1 _ _ e;exact C _ _ (Zs (Zu I)) (Z7 _ I)
 refine Z2 (wpAny_holding (wpAny_call_entry slot_list_sort %[_,O|rfl] entry_list_sort (jf (s:=(c>>>c.heap.push (seqObj "list" vs.toArray 0))) (kd:=tuples' true) (Nv:=λv=>iE (ps\2) (kOf ps v)) O ⋯ (λi C al Q6 U=>?_) (λi C=>?_) λout p1 _=>%[_,rfl|?_]) (args_list_sort _)))
 .have tups:∀l:ZG,(∀v∈l,∃p∈ps,v=Value.ref p.1)->∃fs:ZG,KatTups i l fs/\ ~~~fs= ~~~l/\∀f∈fs,∃z t,f=Value.str z t:=by
   intro l
   induction l with
   | nil=>intro _;exact%[[],KatTups.nil,ρ|λf j=>by cases j]
   | cons v l ih=>
     intro B;have%[fs,Y,f2|f3]:=ih λu hu=>B u (Zk _ hu)
     have%[p,g|rfl]:=B v Zm;have%[o',d,n',g',c',d'|i']:=r p g i C;have h:=fT i';have aa:p.2≠[]:=λe=>by have:=M p g;rw[e]at this;exact m0 this.symm
     obtain⟨z,zs,ez⟩:∃z zs,p.2=z::zs:=by
      cases ab:p.2 with
      | nil=>exact absurd ab aa
      | cons z zs=>exact%[z,zs|ρ]
     rw[ez]at h;obtain⟨t',vr,ev⟩:∃t' vr,d.toList=Value.str z t'::vr:=by
      cases J:d.toList with
      | nil=>rw[J]at h;cases h
      | cons a b=>
        rw[J]at h;cases h with
        | cons _ t' _=>exact%[t',b|ρ]
     have e0:d[0]?∣Value.str z t':=by
      have:d.toList[0]?∣Value.str z t':=by rw[ev];rfl
      simpa using this
     exact⟨Value.str z t'::fs,KatTups.cons g' c' d' e0 Y,by simp[f2],λf j=>by
      rcases mem_cons.mp j with e|e
      .exact%[z,t'|e]
      .exact f3 f e⟩
  have%[fs,Y,f2|f3]:=tups vs mem;refine PySem.W.kat_kind (T:= .type "str") Y ⋯ (λf j=>?_) (!1) U;have%[z,t'|rfl]:=f3 f j;exact Looks.of_pure rfl
 .intro x y s' hx hy h;subst h;have%[p,g|ac]:=mem _ hx;have%[q,H|ag]:=mem _ hy;have%[x1|x2]:=x;have%[y1|y2]:=y;obtain rfl:x1=Value.ref p.1:=ac;obtain rfl:y1=Value.ref q.1:=ag;show ↥A.in1.in1 (keyLt' (tuples' true) (Value.ref p.1) (Value.ref q.1)) (λb s'=>b=decide (iE (ps\2) (kOf ps (Value.ref p.1))<iE (ps\2) (kOf ps (Value.ref q.1)))/\s'=(c>>>i)) (λ_ _=>False) (c>>>i);rw[key p g,key q H];refine Dl (s:=(c>>>i)) (r p g i C) (r q H i C) (by rw[M p g,M q H]) %[?_|rfl];exact mJ (Xm %[p,g|rfl])
 .have p3:out.Perm (ps.map λp=>Value.ref p.1):=p1.trans N;have oe:out=(out.map λv=>(aOf v,kOf ps v)).map λp=>Value.ref p.1:=by
   rw[Yp];refine(map_id out).symm.trans (Yn λv B=>?_);have%[p,g|rfl]:=Xl (p3.mem_iff.mp B);rfl
  obtain⟨n,gl⟩:∃n,(sortedHeap (c.heap.push (seqObj "list" vs.toArray 0)) ⇑c vs out.toArray).get? ⇑c∣seqObj "list" out.toArray n:=sortedHeap_at O;refine Z3 %[_,rfl|hQ c _ ⇑c (out.map λv=>(aOf v,kOf ps v)) n ?_ k1 g1 o1 (λb o' I=>?_) rfl rfl (Zi _) ?_]
  .have:=p3.map λv=>(aOf v,kOf ps v)
   rw[Yp]at this;refine this.trans ?_;have:(ps.map ((λv=>(aOf v,kOf ps v)) ∘ λp=>Value.ref p.1))=ps:=by
    refine(Yn λp g=>?_).trans (map_id ps);show(p.1,kOf ps (.ref p.1))=p;rw[key p g]
   rw[this]
  .have L:=Zu I;show(sortedHeap _ _ _ _).get? b=_;rw[sortedHeap_old (Zs L) (by rw[Zq];exact Yl L)];exact Z7 _ I
  .have e3:(seqObj "list" out.toArray n)=({cls:= .type "list",data:= .seq ((out.map λv=>(aOf v,kOf ps v)).map λp=>Value.ref p.1).toArray n}:Obj):=by
    rw[(congrArg List.toArray oe.symm)]
   exact gl.trans (congrArg some e3)
end
section
variable{X:Cx}{K:ZB}
abbrev nR(P:Program)(w:World)(a:Addr)(ps:ZH):HO:= .ext (nP w (aH P w) a (ps.map Hk))
abbrev aK(H:Hp)(ps:ZH):Prop:=∀p∈ps,p.2≠[]/\H p.1&&&p.2\3
def mL(I:Inv X pins f H s)(h:aK H ps):∀p∈ps,yX X.prog X.w s.heap p.2 p.1:=λp a=>by
 have%[_,its,b,o,c,d,n|e]:=I.hok p.1 _ (h p a).2;exact%[o,its.toArray,n,c,d,e|nQ (gj b)]
def sF:∀{ps:ZH} {us:ZG},aI (ps\0) us->us=ps.map λp=>Value.ref p.1
 |[],_,.nil=>rfl
 | _::_,_,.cons r t=>by
   cases r;rw[sF t];rfl
def mM:∀(ps:ZH),aI (ps\0) (ps.map λp=>Value.ref p.1)
 |[]=> .nil
 | _::ps=> .cons rfl (mM ps)
def yY(j:X.calm=true)(E:X.A.units+64<cLine):bW X (.type "set") (λxs H Q=>∃p ps,xs=[.ref p]/\SqL X.K H p (ps\0)/\aK H ps/\(∃U:List _,~~~U<=999/\∀q∈ps,q.2∈U)/\∀l,H l=none->Q (.ref l) (upd H l (nR X.prog X.w l (bj ps)))):=by
 intro pins s G H xs us Q I r h;have%[p,ps,rfl,m,g,%[U,J|d]|q]:=h;have%[u,rfl|n]:=cR r;cases n;have%[its,v,pl|L]:=I.list m;have w:=sF v;refine pJ (knd:=aH X.prog X.w) (I.ok.hd j) ⋯ pl.isList (ps:=ps.map Hk) (!2) (λi a=>?_) (U.map λz=>z.map Sum.inr) (!2) (λi a=>?_) (λi a B s' M N e f=>?_) λh' y S k=>?_
 .have%[b,c|rfl]:=Xl a;exact(mL I g) b c
 .have%[b,c|rfl]:=Xl a;exact Xm %[b.2,d b c|rfl]
 .have%[b,c|rfl]:=Xl a;exact Dm (g b c).1 e f
 .rw[(uy _ mK ps)]at S;refine%[.ref ⇑s,_,I.laid (o:=nR X.prog X.w ⇑s _) k (Zi _) %[S,?_|λO T A k1=>nP.keep A k1],ρ|q _ I.fresh];have%[o,_,_,_,C|_]:=S;exact%[o|C]
def sG(v:X.calm=true):bW X (.builtin "sorted") (λxs H Q=>∃a ps m,xs=[.ref a]/\H a∣nR X.prog X.w a ps/\aK H ps/\(∀p∈ps,~~~p.2=m)/\m≠0/\ ~~~ps<=1000/\
 ∀l (ss:List _),H l=none->ss.Perm ps->Q (.ref l) (upd H l (.lst (ss\0)))):=by
 intro pins s N H xs us Q I r h;have%[a,ps,m,rfl,w,y,z,A,c|q]:=h;have%[u,rfl|B]:=cR r;cases B;have%[%[o,d,O,t,C,e,E,J|P],_|_]:=(I.hok a _ w)
 have T:d.size= ~~~ps:=by
  have:=P.length_eq
  simp_all
 have pv:(d.toList\2).Perm (ps.map λp=>Value.ref p.1):=by
  have:=P\2;rw[Yp,Yp]at this;exact this
 refine jy (λU R G=>jM (I.ok.hd v) C e E (by show d.size<4096;lia) J.fits J.plain J.led λi vs L k1 g1 f _=>G i vs (L.trans pv) k1 g1 f) (mL I y) z A c λi s' l ss n j k1 g1 f k g o b M=>?_
 have I:=I.keptS k1 g1 f;refine%[.ref l,_,I.stoodS (o:= .lst _) (I.keptS k g o) b %[?_,ss.map _,n,mM ss|M],ρ|q l ss (I.hok.fresh b) j];rw[Z6,j.length_eq,sizeLine_eq]
 lia
def Bk{P:Program}(h:X.K=K)(c:X.prog=P)(hw:X.w=w)(a:X.calm=true)(b:bI k X.A):cp X (.type "set") (λxs H Q=>∃p ps,xs=[.ref p]/\SqL K H p (ps\0)/\aK H ps/\(∃U:List ZC,~~~U<=999/\∀q∈ps,q.2∈U)/\∀l,H l=none->Q (.ref l) (upd H l (nR P w l (bj ps)))):=by
 subst h;subst hw;exact⟨yY a b.units⟩
def qD{P:Program}(c:X.prog=P)(hw:X.w=w)(b:X.calm=true):cp X (.builtin "sorted") (λxs H Q=>∃a ps m,xs=[.ref a]/\H a∣nR P w a ps/\aK H ps/\(∀p∈ps,~~~p.2=m)/\m≠0/\ ~~~ps<=1000/\
 ∀(l:Addr) (ss:ZH),H l=none->ss.Perm ps->Q (.ref l) (upd H l (.lst (ss\0)))):=by
 subst hw;exact⟨sG b⟩
end
abbrev yZ(K:ZB)(a b:Addr):It:=⟨λi H=>∃xs ys x y,SqL K H a xs/\SqL K H b ys/\xs[i]?∣x/\ys[i]?∣y,
 λi H v c=>∃T x y,H T=none/\v= .ref T/\c=upd H T (.tup [x,y])/\(∀xs,SqL K H a xs->xs[i]?∣x)/\(∀ys,SqL K H b ys->ys[i]?∣y),
 λi H=>∃xs ys,SqL K H a xs/\SqL K H b ys/\i<= ~~~xs/\i<= ~~~ys/\(i= ~~~xs\/i= ~~~ys)⟩
def y3{P:Program}{K:ZB}(z TI TO i1 i2 l1 l2:Addr)(D:ZipApart z TI TO i1 i2 l1 l2):
 pA P w K (.Tuple elts kt tp) (yZ K l1 l2) [z,TI,TO,i1,i2] z (ZSt z TI TO i1 i2 (λi h=>h.IsListIter i1 l1 i) (λi h=>h.IsListIter i2 l2 i)) where
 mem:=by simp
 obj:=λi h st b hb=>by
  have%[hz,hTI,%[a,c|hTO],%[o1,e1,_|d1],o2,e2,_|d2]:=st
  grind
 keep:=λi h h' st k=>by
  have%[hz,hTI,%[a,c|hTO],%[o1,e1|r1],o2,e2|r2]:=st;exact%[k z ∅ _ hz,k TI ∅ _ hTI,%[a,c|k TO ∅ _ hTO],%[o1,k i1 ∅ _ e1|r1],o2,k i2 ∅ _ e2|r2]
 item:=by
  intro X hP hw hK hc i pins s σ H E I hf st hg;subst hP hw hK;have%[hz,hTI,%[a,c|hTO],h1|h2]:=st;have%[xs,ys,x,y,hq1,hq2,hx|hy]:=hg;have%[its1,rv1,pl1|hz1]:=I.list hq1;have%[its2,rv2,pl2|hz2]:=I.list hq2;have%[u1,hu1|ru1]:=rv1.get hx;have%[u2,hu2|ru2]:=rv2.get hy;refine wpAny_pyNext_zip_item D hz hTI hTO h1 h2 pl1.isList pl2.isList (x:=u1) (y:=u2) ↑hu1 ↑hu2 λh' a1 a2 a3 a4 a5 a6 hk=>%[_,rfl|wpAny_letOwnedTupleGo_zip (s:=(s>>>h')) a1 λh'' hz'' sb=>?_]
  replace sb:SameBut z h' h'':=sb;have turn1:Inv X pins σ H (s>>>h''):=by
   have nit:∀b v,H b∣v->b∉[z,TI,TO,i1,i2]:=λb v e hb=>by rw[(hf b hb).1]at e;cases e
   have kk:∀b o,b∉[z,TI,TO,i1,i2]->s.heap.get? b∣o->h''.get? b∣o:=λb o hb e=>by
    simp only[Yt,X2,or_false,not_or]at hb;exact(sb.2 b hb.1).trans (hk b o hb.1 hb.2.2.1 hb.2.2.2.1 hb.2.2.2.2 e)
   refine I.step (g':=s.gens) (d':=s.drawn) (ch:=[z,TI,TO,i1,i2]) (λb hb=>%[(hf b hb).2.2.2.1,(hf b hb).2.1,(hf b hb).2.2.2.2.1|(hf b hb).2.2.2.2.2]) (λb o _ _ hc e _=>kk b o hc e) (λb o _ _ hc e _=>%[o.slots|kk b o hc e]) (λ_ _ _ _ n=>n)
    (λb o hc e=>%[o|kk b o hc e]) (λ_ _ e=>e) (λ_ _ _ e=>e) (λb ps e=>%[#[]|by rw[e];simp]) (λm hm=>?_) (λb v e=>?_) I.bare
   .have%[o,es,ep,ho|r]:=hm;exact%[o,es,ep,kk _ o (λhb=>(hf _ hb).2.1 rfl) ho|r]
   .refine(I.hok b v e).stay (λc' v' hc' q=>kk c' v' ?_ q) (λ_ q=>q) λ_ _ q=>q
    rcases hc' with q'|q'
    .exact q'▸nit b v e
    .exact nit c' _ q'
  have Hn:H ⇑s=none:=I.fresh;have I2:Inv X pins σ (upd H ⇑s (.tup [x,y])) (s>>>h''):=by
   have nf:⇑s∉X.fs:=I.nofs (Zi _);refine%[turn1.ok,turn1.os,turn1.bare,?_,turn1.loc,turn1.cell,?_,?_,?_,?_|turn1.len]
   .refine%[turn1.base.keep,turn1.base.slot,λb o e n hx=>?_,turn1.base.there,λb xs e=>?_,λb o v e=>?_|λb ps e=>?_]
    .rw[aj ((λb o e=>Zs (Zg (Zu e) I.sz)) b o e)];exact turn1.base.free b o e n hx
    .rw[aj (ax (turn1.base.tups b xs e) Hn)];exact turn1.base.tups b xs e
    .rw[aj (ax (turn1.base.frzs b o v e) Hn)];exact turn1.base.frzs b o v e
    .have%[m|q]:=turn1.base.tbls b ps e;exact%[m|(aj (ax q Hn))▸q]
   .rw[aj (Zs I.lt)];exact turn1.free
   .intro x' c' e;have%[v'|q]:=I.cell x' c' e;rw[aj (Zs q.lt)];exact turn1.freeC x' c' e
   .intro p hp;have%[e,n|r]:=turn1.pin p hp;refine%[e,?_|r];rw[aj (Zs (Zu (I.pin p hp).1))];exact n
   .intro b v e;by_cases hb:b=⇑s
    .subst hb;rw[ae]at e;cases e;exact%[by show 2<=sizeLine;decide,[u1,u2],.cons ru1 (.cons ru2 .nil),_,((sb.2 _ (Yw (Zu hz))).trans a5),ρ,_|ρ]
    .rw[aj hb]at e;refine(turn1.hok b v e).stay (λ_ _ _ q=>q) (λc' q=>?_) λc' xs q=>?_
     .rw[aj (ax q Hn)];exact q
     .rw[aj (ax q Hn)];exact q
  refine%[.ref ⇑s,_,I2,ρ,%[_,x,y,Hn,ρ,ρ,λzs hzs=>(I.list_inj hzs hq1)▸hx|λzs hzs=>(I.list_inj hzs hq2)▸hy],%[hz'',(sb.2 _ D.TIz).trans (hk _ _ D.TIz D.TITO D.TIi1 D.TIi2 hTI),%[_,_|(sb.2 _ D.TOz).trans a2],?_|?_]|λb hb=>?_]
  .have%[o,e|r]:=a3;exact%[o,(sb.2 _ D.i1z).trans e|r]
  .have%[o,e|r]:=a4;exact%[o,(sb.2 _ D.i2z).trans e|r]
  .have:b<⇑s:=by
    simp only[Yt,X2,or_false]at hb;have%[o1,q1|_]:=h1;have%[o2,q2|_]:=h2;rcases hb with rfl|rfl|rfl|rfl|rfl
    .exact Zu hz
    .exact Zu hTI
    .exact Zu hTO
    .exact Zu q1
    .exact Zu q2
   rw[aj (Zs this)];exact(hf b hb).1
 done:=by
  intro X hP hw hK hc i pins s σ H E I hf st hg;subst hP hw hK;have%[hz,hTI,%[a,c|hTO],h1|h2]:=st;have%[xs,ys,hq1,hq2,g1,g2|g3]:=hg;have%[its1,rv1,pl1|hz1]:=I.list hq1;have%[its2,rv2,pl2|hz2]:=I.list hq2;have n1:= ~~~rv1;have n2:= ~~~rv2;refine wpAny_pyNext_zip_end (I.ok.hd hc) D hz hTI hTO h1 h2 pl1.isList pl2.isList (by
   rcases g3 with q|q
   .exact .inl (by simp;lia)
   .exact .inr (by simp;lia)) λh' hk=>%[rfl|?_]
  have nit:∀b v,H b∣v->b∉[z,TI,TO,i1,i2]:=λb v e hb=>by rw[(hf b hb).1]at e;cases e
  have kk:∀b o,b∉[z,TI,TO,i1,i2]->s.heap.get? b∣o->h'.get? b∣o:=λb o hb e=>by
   simp only[Yt,X2,or_false,not_or]at hb;exact hk b o hb.1 hb.2.2.1 hb.2.2.2.1 hb.2.2.2.2 e
  refine I.step (λb hb=>%[(hf b hb).2.2.2.1,(hf b hb).2.1,(hf b hb).2.2.2.2.1|(hf b hb).2.2.2.2.2]) (λb o _ _ hc e _=>kk b o hc e) (λb o _ _ hc e _=>%[o.slots|kk b o hc e]) (λ_ _ _ _ n=>n)
   (λb o hc e=>%[o|kk b o hc e]) (λ_ _ e=>e) (λ_ _ _ e=>e) (λb ps e=>%[#[]|by rw[e];simp]) (λm hm=>?_) (λb v e=>?_) I.bare
  .have%[o',es,ep,ho'|r]:=hm;exact%[o',es,ep,kk _ o' (λhb=>(hf _ hb).2.1 rfl) ho'|r]
  .refine(I.hok b v e).stay (λc' v' hc' q=>kk c' v' ?_ q) (λ_ q=>q) λ_ _ q=>q
   rcases hc' with q'|q'
   .exact q'▸nit b v e
   .exact nit c' _ q'
 self:=λ_ _ _ _ _ st h=>wpAny_pyIter_zip st.1 h
abbrev Ej(K:ZB)(d:TA):TI:=λe H R=>d e H λvs c=>∃a b,vs=[.ref a,.ref b]/\(∃xs,SqL K c a xs)/\(∃ys,SqL K c b ys)/\R (yZ K a b) c
section
variable{X:Cx}{K:ZB}{pos:Pos}
def Hl(J:X.K=K){L p:Pos}{a b:Expr}{A:TA}(M:Gl X "zip")(N:X.mg "zip"=none)(O:bd a=false)(m:bd b=false)(Q:QA X [a,b] A):
 QI X (.Tuple B kt L) (.Call (.Name "zip" p) [a,b] [] pos) (Ej K A):=by
 subst J
 constructor
 intro pins s T H R I h;refine Call_ (jp I M N boot_zip (PyProof.Rows.callWith_type1 (thP (Q.h pos pins s T H _ I h) λus c vs U d Y q1=>?_) (aB O) (by rw[aB m];rfl)));have%[n,r,e,%[xs|u],%[ys|v]|q]:=q1;subst e;have%[u1,u2,rfl,e1|e2]:=ip Y;cases e1;cases e2;have%[C,aa,f|ab]:=d.list u;have%[its2,ac,g|ag]:=d.list v;refine call_zip_2 f.isList g.isList λh1 E w y hi1 hi2 _ hk=>wpAny_pyIter_zip E ?_
 have ne:∀i j,i≠j->⇑c+i≠⇑c+j:=λi j h e=>h (Nat.add_left_cancel e)
 have na:∀i,n≠⇑c+i:=λi=>Zs (Zg (by have%[o,z|_]:=f.isList;exact Zu z) (le_add_right _ _))
 have nb:∀i,r≠⇑c+i:=λi=>Zs (Zg (by have%[o,z|_]:=g.isList;exact Zu z) (le_add_right _ _))
 refine%[⇑c+4,[⇑c+4,⇑c+2,⇑c+3,⇑c+0,⇑c+1],_,yZ X.K n r,U,ρ,(d.kept hk),
  y3 _ _ _ _ _ n r %[ne 2 4 (!1),ne 3 4 (!1),ne 0 4 (!1),ne 1 4 (!1),ne 2 3 (!1),ne 2 0 (!1),ne 2 1 (!1),ne 3 0 (!1),ne 3 1 (!1),ne 0 1 (!1),na 4,na 3,na 0,na 1,nb 4,nb 3,nb 0|nb 1],
  %[E,w,%[_,_|y],hi1|hi2],λb G=>?_|q]
 have l:⇑c<=b:=by
  simp only[Yt,X2,or_false]at G;rcases G with rfl|rfl|rfl|rfl|rfl<;> exact le_add_right _ _
 exact d.fpOk l (d.hok.fresh l)
end
open PySem PySem.Spec PySem.Calls PyProof.Rows PyProof.V PySem.W
abbrev Raw(h:Heap)(d:Addr)(a:Array DictEntry)(b:Nat):Prop:=∃o,h.get? d∣o/\o.ExactDict/\o.data= .dict a b
section
#where
variable{d it:Addr}{es:Array DictEntry}{ep i:Nat}
def Raw.ty(h:Raw s.heap d es ep):s.TypeIs (.ref d) "dict":=%[h.choose,h.choose_spec.1|h.choose_spec.2.1.1]
def Raw.lt(r:Raw h d es ep):d<h.objs.size:=Zu r.choose_spec.1
def Raw.up(r:Raw h d es ep)(e:∀o,h.get? d∣o->h'.get? d∣o):Raw h' d es ep:=%[r.choose,e _ r.choose_spec.1|r.choose_spec.2]
def Bl(lo:(d==sysModules)=false)(r:Raw s.heap d es ep)
 (h:Q (.ref ⇑s) {s with heap:=s.heap.push {cls:= .type "dict_keyiterator",data:= .fields #[.ref d,.int 0 0,.int es.size 0,.int ep 0]}}):↥A (pyIter (.ref d)) Q E s:=by
 have ty:=r.ty;have%[o,g,_|a]:=r;refine wpAny_pyIter_slot ty F.slot_dict_iter (wpAny_call_entry F.slot_dict_iter ty F.entry_dict_iter (Z2 (Z2 (wpAny_notOrdered_dict ty (Z3 ?_)))) (F.args_dict_iter_1 _));show wpAny _ _ (Builtin.Dict.showsAll d>>= _) _ _ s;unfold Builtin.Dict.showsAll;rw[if_neg (lo▸Zt)];refine Z2 (Z3 (Z2 (wpAny_dictEntries g a (Z2 (wpAny_dictEpoch g a (Z2 (wpAny_newObj_type (Z3 %[_,rfl,"dict_keyiterator",_,%[_,Zj _ rfl|rfl],F.slot_dict_keyiterator_next.lookup|?_]))))))));simpa [rawInt]using h
def Bm(k:s.heap.IsKeyIter it d i es.size ep)(r:Raw s.heap d es ep)(hi:i<es.size)
 (h:∀h',h'.IsKeyIter it d (i+1) es.size ep->SameBut it s.heap h'->Q (some es[i].key) (s>>>h')):↥A (pyNext (.ref it)) Q E s:=by
 have%[o,b,f|a]:=id k;have%[od,c,_|e]:=r;unfold pyNext;refine Z2 (wpAny_attempt (wpAny_callSpecial?_slot (name:=!"__next__") k.typeIs F.slot_dict_keyiterator_next (wpAny_call_entry F.slot_dict_keyiterator_next k.typeIs F.entry_dict_keyiterator_next ?_ (F.args_dict_keyiterator_next_1 _))));refine Z2 (Z3 (Z2 (Z2 (Z2 (wpAny_typeNameOfWhole_keyiter k.typeIs (Z3 (Z2 (wpAny_fieldsOf b a ?_))))))));rw[show Builtin.Dict_items.ownsTuple "dict_keyiterator"=false by decide];show wpAny _ _ (if(Value.ref d==Value.none)=true then _ else _) _ _ s;rw[if_neg (by exact Zt)];refine Z2 (Z3 (Z2 (wpAny_dictEntries c e ?_)));rw[if_neg ∅];refine Z2 (Z3 (Z2 (wpAny_dictEpoch c e ?_)));rw[if_neg ∅];refine Z3 ?_;simp only[if_false,Int.toNat_natCast,Array.getElem?_eq_getElem hi];refine Z2 (Z2 (wpAny_typeNameOfWhole_keyiter k.typeIs (Z3 (Z2 (wpAny_isOneOf_keyiter k.typeIs ?_)))));show wpAny _ _ (setField (.ref it) 1 (rawInt ((i:Int) +1))>>= _) _ _ s;refine Z2 (wpAny_setField b a ∅ ?_);have k2:(s.heap.update it (Obj.mapFields (·.setIfInBounds 1 (rawInt ((i:Int) +1))))).IsKeyIter it d (i+1) es.size ep:=
  %[_,get?_update_self _ b (Obj.isFreed_of_fields (Obj.data_mapFields a _)),(Obj.cls_mapFields ..).trans f|by rw[Obj.data_mapFields a];simp[rawInt]]
 exact Z2 (wpAny_holding (Z2 (wpAny_isOneOf_keyiter k2.typeIs (Z3 (Z3 %[_,rfl|Z3 (h _ k2 (SameBut.update ..))])))))
def Do(j:A.handled=none)(k:s.heap.IsKeyIter it d i es.size ep)(r:Raw s.heap d es ep)(hi:es.size<=i)
 (h:∀h',ExtBut it s.heap h'->Q none (s>>>h')):↥A (pyNext (.ref it)) Q E s:=by
 have%[o,c,l|e]:=id k;have%[od,f,_|g]:=r;unfold pyNext;refine Z2 (wpAny_attempt (wpAny_callSpecial?_slot (name:=!"__next__") k.typeIs F.slot_dict_keyiterator_next (wpAny_call_entry F.slot_dict_keyiterator_next k.typeIs F.entry_dict_keyiterator_next ?_ (F.args_dict_keyiterator_next_1 _))));refine Z2 (Z3 (Z2 (Z2 ?_)));refine Z2 (wpAny_typeNameOfWhole_keyiter k.typeIs (Z3 (Z2 (wpAny_fieldsOf c e ?_))));rw[show Builtin.Dict_items.ownsTuple "dict_keyiterator"=false by decide];show wpAny _ _ (if(Value.ref d==Value.none)=true then _ else _) _ _ s;rw[if_neg (by exact Zt)];refine Z2 (Z3 (Z2 (wpAny_dictEntries f g ?_)));rw[if_neg ∅];refine Z2 (Z3 (Z2 (wpAny_dictEpoch f g ?_)));rw[if_neg ∅];refine Z3 ?_;simp only[show ¬ ((i:Int)<0)from by lia,if_false,Int.toNat_natCast,Array.getElem?_eq_none hi];refine Z2 (Z2 (wpAny_typeNameOfWhole_keyiter k.typeIs (Z3 ?_)));show wpAny _ _ (setField (.ref it) 0 .none>>= _) _ _ s;refine Z2 (wpAny_setField c e ∅ (Z2 ?_));simp only[newExc,newTuple];refine Z2 (m:=firstArgMember _ _) (wpAny_of_eq (a:=Value.none) (by first|rfl|(simp only[firstArgMember];rfl)) (wpAny_newObj_type ?_ (by size_fits)));simp only[raiseNew];refine Z2 (wpAny_handled ?_);rw[show A.in1.handled=none from j];refine Z2 (Z3 (wpAny_throw ?_));refine Z2 (wpAny_isInstance (T:="StopIteration") (b:=true) %[_,Zj _ rfl|rfl] isSubtype_stop ?_);exact Z3 (h _ (((SameBut.update ..).extBut.push _).push _))
def Dp(lo:(d==sysModules)=false):KdlSrc prog w "dict" d d es.size (λi v=>∃h:i<es.size,v=es[i].key) (λh=>Raw h d es ep) where
 type:=λ_ r=>r.ty
 there:=λ_ r=>%[r.lt|r.lt]
 keep:=λ_ _ r hk=>r.up λo e=>hk d (.inl rfl) o e
 notList:=!1
 notTuple:=!1
 hint:=λ_ _ _ _ r hq=>kdl_hint_dict r.ty hq
 iter:=λA s hh r=>%[_,λi h=>h.IsKeyIter ⇑s d i es.size ep/\Raw h d es ep,(λ_ _ hq=>Bl lo r hq),{
  sub:=λb hb=>!2
  frame:=λ_ _ _ st hk=>%[st.1.at λo e=>hk _ ∅ o e|st.2.up λo e=>hk d ∅ o e]
  item:=λi s' Q E hi st hQ=>Bm st.1 st.2 hi λh' k' hs'=>hQ _ h' s'.toks %[hi|rfl] %[k'|st.2.up λo e=>hs'.extBut d o (Zs r.lt) e] λb o hb e=>hs'.extBut b o (λh=>hb (by simp[h])) e
  done:=λs' Q E st hQ=>Do hh st.1 st.2 (Zi _) λh' he'=>hQ h' s'.toks λb o hb e=>he' b o (λh=>hb (by simp[h])) e
  self:=λ_ _ _ _ st hQ=>wpAny_pyIter_keyiter st.1 hQ},%[_,Zj _ rfl,rfl|rfl]|r.up λo e=>Z7 _ e]
def uz{P:Nat->Value->Prop}{R:ZG->Shared->Prop}(K:KdlSrc prog w T r d n P l)(m:A.handled=none)(ok:l s.heap)(p:n<=sizeLine)
 (h:∀(h':Heap) (tk:Nat) (acc:ZK),(∀b o,s.heap.get? b∣o->h'.get? b∣o)->⇑s<=h'.objs.size->ItemsOf P acc n->R acc.toList {s with heap:=h',toks:=tk}):↥A (collect (.ref r)) R E s:=by
 have lt:=K.there _ ok;refine Z2 (wpAny_runValue (codeAny_builtin entry_proto_collect' (Z2 (wpAny_newObj_type (Z3 %[plainId_quiet F.plain_list_iadd _|codeAny_builtin entry_list_iadd' ?_])))));rw[Around.under_plainId F.plain_list_iadd _];have a:=kdl_extend (s:=(s>>>s.heap.push _))
  (R:=λq s'=>∃h' tk acc c,q= .ok (.ret (.ref ⇑s))/\s'={s with heap:=h',toks:=tk}/\(∀b o,s.heap.get? b∣o->h'.get? b∣o)/\h'.get? ⇑s=some {cls:= .type _,dict:=none,data:= .seq acc c,slots:= #[]}/\ItemsOf P acc n)
  K m (K.keep _ _ ok λb _ o e=>Z7 _ e) ⇑s (Yw lt.1) (Yw lt.2) _ 0 (Zj _ rfl)
  (λh' tk acc c g g' it=>%[h',tk,acc,c,rfl,rfl,λb o e=>g b o (Zs (Zu e)) (Z7 _ e),g'|it]) p
 refine wpAny_mono a (λj s' x=>?_) λe s' x=>?_
 .cases j with
  | done f=>
    have%[h',tk,acc,c,e,rfl,g,g'|it]:=x;cases e;exact Z2 (wpAny_load g' (Z3 (h h' tk acc g (Yc (Zu g')) it)))
  | again u=>
    refine%[x.1|codeAny_mono x.2 λq v y=>?_];have%[h',tk,acc,c,rfl,rfl,g,g'|it]:=y;exact Z2 (wpAny_load g' (Z3 (h h' tk acc g (Yc (Zu g')) it)))
 simp_all
def uA{R:ZG->Shared->Prop}(lo:(d==sysModules)=false)(f:A.handled=none)(r:Raw s.heap d es ep)(g:es.size<=sizeLine)
 (h:∀(h':Heap) (tk:Nat),(∀b o,s.heap.get? b∣o->h'.get? b∣o)->⇑s<=h'.objs.size->R (es.toList.map (·.key)) {s with heap:=h',toks:=tk}):↥A (collect (.ref d)) R E s:=by
 refine uz (Dp lo) f r g λh' tk acc l c a=>?_
 have e:acc.toList=es.toList.map (·.key):=by
  apply ext_getElem?;intro j;rw[Zl,getElem?_toList,getElem?_toList];by_cases m:j<es.size
  .have n:j<acc.size:=a.1▸m;have%[_|q]:=a.2 j acc[j] ∅
   simp_all
  .rw[Array.getElem?_eq_none (by rw[a.1];lia),Array.getElem?_eq_none ⋯];rfl
 rw[e];exact h h' tk l c
variable{S:Addr}
end
section
variable{X:Cx}{K:ZB}
def sH(hc:X.calm=true):bW X (.builtin "sorted") (λxs H Q=>∃a b ks m,xs=[.ref a]/\H a∣.dT b/\b\1=ks.map (λk:ZC=>k.map Sum.inr)/\(∀k∈ks,~~~k=m)/\m≠0/\ ~~~ks<=1000/\
 ∀(l:Addr) (ss:ZH),H l=none->aK H ss->(ss\2).Perm ks->Q (.ref l) (upd H l (.lst (ss\0)))):=by
 intro pins s T H xs us Q I r h;have%[a,b,ks,m,rfl,ha,c,U,Y,A|q]:=h;have%[u,rfl|ru]:=cR r;cases ru;have%[_,lo,xs,B,o,z,ep,g,ex,dt,he,_|_]:=DX I.hok ha;have C:∀{b:List (List Key×V)} {xs:List (List Key×Addr×Value)},KT H b xs->∀ks:List ZC,b\1=ks.map (λk:ZC=>k.map Sum.inr)->∃ps:ZH,ps\2=ks/\(xs.map λx=>Value.ref x.2.1)=(ps.map λp=>Value.ref p.1)/\∀p∈ps,H p.1&&&p.2\3:=by
  intro b xs B
  induction B with
  | nil=>
    intro ks c;cases ks with
    | nil=>exact%[[],ρ,ρ|λp d=>by cases d]
    | cons _ _=>cases c
  | @cons kv x b xs hx t ih=>
    intro ks c;cases ks with
    | nil=>cases c
    | cons k ks=>
      rw[Yo,Yo]at c;injection c with h1 h2
      have%[ps,j,E|G]:=ih ks h2;refine%[(x.2.1,k)::ps,by rw[Yo,j],by rw[Yo,Yo,E]|λp d=>?_];rcases mem_cons.mp d with e|e
      .rw[e];have:=hx.2.1;rw[h1,Yp]at this;exact this
      .exact G p e
 have%[ps,j,E|G]:=C B ks c;have v:∀p∈ps,p.2∈ks:=λp d=>by rw[<-j];exact Xm %[p,d|rfl]
 have ta:aK H ps:=λp d=>%[λe=>Y (by rw[<-U _ (v p d),e];rfl)|G p d]
 have aa: ~~~ps<=1000:=by rw[<-Z6 (f:=(·.2)),j];exact A
 have L:Raw s.heap a z ep:=%[o,g,ex|dt]
 have w:z.toList.map (·.key)=ps.map λp=>Value.ref p.1:=by
  rw[he,Yp,<-E];rfl
 have M:z.size<=sizeLine:=by
  have: ~~~(z.toList.map (·.key))= ~~~(ps.map λp=>Value.ref p.1):=by rw[w]
  rw[Z6,Z6,Zb]at this;rw[sizeLine_eq];lia
 refine jy (λE1 R hR=>uA lo (show X.A.in1.handled=none from I.ok.hd hc) L M λh' tk k ab=>?_) (mL I ta) (λp d=>U _ (v p d)) Y ⋯ λs1 s' l ss n N k1 g1 o1 k g o y gl=>?_
 .rw[w];exact hR _ _ (List.Perm.refl _) k rfl rfl
 .have O:Inv X pins T H s1:=I.keptS k1 g1 o1;have i:H l=none:=O.hok.fresh y;have J:Inv X pins T H s':=O.keptS k g o;refine%[.ref l,_,O.stoodS (o:= .lst (ss\0)) J y %[?_,ss.map (λp=>Value.ref p.1),n,mM ss|gl],ρ|q l ss i (λp d=>ta p (N.mem_iff.mp d)) (by rw[<-j];exact N.map _)];rw[Z6,N.length_eq,sizeLine_eq]
  lia
def y4(c:X.calm=true):cp X (.builtin "sorted") (λxs H Q=>∃a b ks m,xs=[.ref a]/\H a∣.dT b/\b\1=ks.map (λk:ZC=>k.map Sum.inr)/\(∀k∈ks,~~~k=m)/\m≠0/\ ~~~ks<=1000/\
 ∀(l:Addr) (ss:ZH),H l=none->aK H ss->(ss\2).Perm ks->Q (.ref l) (upd H l (.lst (ss\0)))):=⟨sH c⟩
def F4:QE X (.Dict [] [] pos) vT:=⟨Aq⟩
def iF(c:bI k X.A)(d:swapsWith a (some (.Subscript o i b)) pos.line X.env=pure false)(e:QE X a f)(g:QE X o h)(hi:QE X i ty):QS X (.Assign [.Subscript o i b] a pos) (qd h ty f):=
 ⟨CS (by have:=c.units;lia) g.h hi.h e.h d⟩
def kQ [DecidableEq c](a:List (c×V))(k:c)(v:V):(cE a k v)\1=if k∈a\1 then a\1 else a\1 ++[k]:=by
 unfold cE;have e:(a.any λb=>decide (b.1=k))=true↔k∈a\1:=by
  grind
 by_cases h:k∈a\1
 .rw[if_pos (e.mpr h),if_pos h,Yp];refine Yn λb _=>?_
  show(if b.1=k then(b.1,v)else b).1=b.1
  split<;> rfl
 .rw[if_neg (λz=>h (e.mp z)),if_neg h,Zd];rfl
end
structure uB (K:ZB) (mg:ZD) (x:Str):Prop where
 at_:mg x∣.ref (aJ mg x)
 cls:Cls K (aJ mg x)
structure uC (K:ZB) (mg:ZD) (x m qual:Str) (st:Stmt) (ps:ZC):Prop where
 ex:∃f fd,CB K (aJ mg x) m f/\Fun K m qual st f fd/\di K fd ps []
structure Bn (K:ZB) (mg:ZD) (x qual:Str) (st:Stmt) (ps:ZC):Prop where
 ex:∃f fd,Mk K (aJ mg x) f/\Fun K "__init__" qual st f fd/\di K fd ps []
structure y6 (P:Program) (w:World) (K:ZB) (mg:ZD) (base:Heap) (k:Nat) (x m:Str) (ps:ZC) (sp:Sp):Prop where
 ex:∃f fd,dR P w K mg base CX0 k f fd ps sp/\CB K (aJ mg x) m f/\di K fd ps []
structure Dq (P:Program) (w:World) (K:ZB) (mg:ZD) (base:Heap) (k:Nat) (x:Str) (ps:ZC) (sp:Sp):Prop where
 ex:∃f fd,dR P w K mg base CX0 k f fd ps sp/\Mk K (aJ mg x) f/\di K fd ps []
section
variable{P:Program}{w:World}{K:ZB}{mg:ZD}{base:Heap}{x m qual:Str}{st:Stmt}{N ps:ZC}{k:Nat}{sp:Sp}
def uC.cal(D:uC K mg x m qual st ps)(S:az N ps (ao st))
 (a:∀(H:Hp) (vs:List V) (Q:VK) (E:XK),sp vs H Q E-> ~~~vs= ~~~ps/\∀(f:Addr) (b:Value) (A:Around) (outer:List Env) (s:Shared),bI k (A.deeper (envOfC qual (ao st) ⇑s f b))->
  ∃t,PSs (eO CX0 P w K mg base N qual (ao st) f b A outer s H E).nox (bJ st) t/\t {nx:=λ_ c=>Q .non c,rt:=Q} (start N vs) H):y6 P w K mg base (k+1) x m ps sp:=by
 have%[f,d,e,F|g]:=D.ex;exact%[f,d,F.ok S (λv H Q E h=>(a H v Q E h).1) (λb A o s H v Q E r h=>(a H v Q E h).2 f b A o s r),e|g]
def Bn.cal(D:Bn K mg x qual st ps)(S:az N ps (ao st))
 (a:∀(H:Hp) (vs:List V) (Q:VK) (E:XK),sp vs H Q E-> ~~~vs= ~~~ps/\∀(f:Addr) (b:Value) (A:Around) (outer:List Env) (s:Shared),bI k (A.deeper (envOfC qual (ao st) ⇑s f b))->
  ∃t,PSs (eO CX0 P w K mg base N qual (ao st) f b A outer s H E).nox (bJ st) t/\t {nx:=λ_ c=>Q .non c,rt:=Q} (start N vs) H):Dq P w K mg base (k+1) x ps sp:=by
 have%[f,d,e,F|g]:=D.ex;exact%[f,d,F.ok S (λv H Q E h=>(a H v Q E h).1) (λb A o s H v Q E r h=>(a H v Q E h).2 f b A o s r),e|g]
end
section
variable{X:Cx}{K:ZB}{j k:Nat}{x m:Str}{ps:ZC}{sp:Sp}{p pos apos:Pos}{o e:Expr}{es:List Expr}{to te:TE}{t:TA}
def F5(C:y6 X.prog X.w X.K X.mg X.base j x m ps sp)(c:uB X.K X.mg x)(d:bI k X.A)(a:Nat.ble j k=true)
 (g:eval (.Call (.Attribute o m apos) [] [] pos) X.env=(do
  let b<-eval o X.env
  standAt apos.atName
  let(f,first)<-holding [b] (getMethod b m pl)
  callWith pos f first (backTo pos (starEach [] X.env)) (backToKw pos (keywordEach [] X.env)))) (h:QE X o to):QE X (.Call (.Attribute o m apos) [] [] pos) (xt (aJ X.mg x) m sp [] E0 to yq):=by
 have%[f,n,F,i|l]:=C.ex;exact⟨Ae h.h c.cls i F (d.mono (Yb a)) l .nil As g⟩
def Hm(C:Dq X.prog X.w X.K X.mg X.base j x ps sp)(c:uB X.K X.mg x)(g:bI k X.A)(h:Gl X x)(a:Nat.ble (j+1) k=true)(b:(x==("__debug__"))=false)(d:(e::es).any bd=false)(i:QA X (e::es) t):
 QE X (.Call (.Name x p) (e::es) [] pos) (xu (aJ X.mg x) sp [] E0 t):=by
 have%[f,q,F,l|n]:=C.ex;rw[Zw,X3]at d;exact⟨CD l F (g.mono (Yb a)) h c.at_ n .nil As i.h b (aB d.1) (dj d.2)⟩
def F6(h:X.K=K)(a:gu o=false)(b:QE X o to):QE X (.Attribute o f pos) (EV K to f):=by
 subst h;exact⟨EX b.h (fi a)⟩
def Dr(h:X.K=K)(c:fh a=false)(d:QE X o to)(g:QE X a i):QS X (.Assign [.Attribute o f b] a pos) (EW K to i f):=by
 subst h;exact⟨EY d.h g.h (iw c)⟩
end
structure GvT (K:ZB) (mg:ZD) (x:Str) (xs:List V):Prop where
 ex:∃a,mg x∣.ref a/\∀H,SqT K H a xs
def Bo{K:ZB}{h:Heap}{o:Obj}{its:ZK}{n:Nat}(X:K.In h)(G:h.Ns mainGlobals mg)(z:nsIn K mainGlobals x∣some (.ref a))
 (b:K.lookup a∣o) (c:o.cls= .type "tuple") (d:o.data= .seq its n) (e:its.size<=sizeLine) (r:aI xs its.toList):GvT K mg x xs:=
 %[a,mg_of X G z|λ_=> .inr %[o,its,n,b,c,d,e|r]]
def Ho{X:Cx}{K:ZB}{x:Str}(h:X.K=K)(g:GvT K X.mg x xs)(b:Gl X x)(c:(x==("__debug__":Str))=false):QE X (.Name x pos) (λ_ H Q=>∀a,(∀d,SqT K d a xs)->Q (.ref a) H):=by
 have%[a,e|f]:=g.ex;refine⟨λpins s i H Q I q=>Ea (v:= .ref a) %[.ref a,e|rfl] b c pins s i H Q I (q a f)⟩
def tryN{X:Cx}(c:∀e s,X.xe e s->False)(d:QSs X a g):QS X (.Try a [h] [] [] pos) g:=by
 refine⟨λpins s i H D I q=>wpAny_Try_except (wpAny_mono (d.h pins s i H D I q) (λf b q=>?_) λe b q=>(c e b q).elim)⟩;cases f with
 | next=>exact wpAny_execs_nil q
 | brk=>exact q
 | cont=>exact q
 | ret u=>exact q
section
variable{X:Cx}{K:ZB}
end
def nS(x y:Str):fG [x] [y]=aO x y:=by
 show(if x=y then false else aO x y)=aO x y
 split
 .rename_i e;rw[e,cr]
 .rfl
section
#where
variable{S:Addr}
def lS{ks:ZC}{Q:ZE}(h:∀(T:ZE) (R:ZG->Shared->Prop),(∀c us f,StrsAre us f->f.Perm ks->(∀b o,s.heap.get? b∣o->c.heap.get? b∣o)->c.gens=s.gens->c.os=s.os->R us c)->↥A.in1 (collect (.ref S)) R T s)(i: ~~~ks<=1000)
 (U:∀(c s':Shared) (l:Addr) (vs:ZG) (ss:ZC) (n:Nat),StrsAre vs ss->ss.Perm ks->(~~~ks<64->ss.Pairwise (λa b=>aO b a=false))->(∀b o,s.heap.get? b∣o->c.heap.get? b∣o)->c.gens=s.gens->c.os=s.os->(∀b o,c.heap.get? b∣o->s'.heap.get? b∣o)->s'.gens=c.gens->s'.os=c.os->⇑c<=l->s'.heap.get? l=some {cls:= .type "list",data:= .seq vs.toArray n}->Q (.ref l) s'):
 ↥A (call (.builtin "sorted") [.ref S]) Q E s:=by
 refine Calls.call_function_entry kind_sorted plain_sorted entry_sorted (args_sorted1 _) ?_;unfold Builtin.«sorted»;refine Z2 (m:=checkCount "sorted" 1 1 _) (Z3 ?_);refine Z2 (h _ _ λc us f d j k1 g1 Y=>?_);have i: ~~~us<=1000:=by rw[bw d,j.length_eq];exact i
 refine Z2 (wpAny_newList ?_ (by rw[sizeLine_eq];omega));have G:(c.heap.push (seqObj "list" us.toArray 0)).get? ⇑c∣seqObj "list" us.toArray 0:=Zj _ rfl;have e:∀v∈us,∃x t,v=Value.str x t/\[x]∈ks.map λz=>[z]:=λv g=>by
  have%[x,t|rfl]:=d.all v g;refine%[x,t,ρ|Xm %[x,j.mem_iff.mp ?_|ρ]];rw[<-d.strs];exact Xm %[_,g|rfl]
 refine Z2 (wpAny_holding (wpAny_call_entry slot_list_sort %[_,G|rfl] entry_list_sort (jf (s:=(c>>>c.heap.push (seqObj "list" us.toArray 0))) (kd:=oneType') (Nv:=λv=>iE (ks.map λz=>[z]) [strOf v]) G (by omega) (λH k6 I Q6 J=>?_) (λH k6=>?_) λout B p2=>%[_,rfl|?_]) (args_list_sort _)))
 .obtain⟨v1,C,r,rfl⟩:∃v1 C r,us=v1::C::r:=by
   match us,I with
   | v1::C::r,_=>exact%[v1,C,r|ρ]
  rw[keyKind_strs d];exact Z3 J
 .intro x y s' hx hy L;subst L;have%[x1|x2]:=x;have%[y1|y2]:=y;have%[a,t,rfl|M]:=e _ hx;have%[b,u,rfl|N]:=e _ hy;show ↥A.in1.in1 (keyLt' oneType' (.str a t) (.str b u)) (λr s'=>r=decide (iE (ks.map λz=>[z]) [a]<iE (ks.map λz=>[z]) [b])/\s'=(c>>>H)) (λ_ _=>False) (c>>>H);rw[keyLt'_oneType];refine oneLt_str %[?_|rfl];rw[<-mJ M,nS];rfl
 .obtain⟨n,gl⟩:∃n,(sortedHeap (c.heap.push (seqObj "list" us.toArray 0)) ⇑c us out.toArray).get? ⇑c∣seqObj "list" out.toArray n:=sortedHeap_at G;refine Z3 %[_,rfl|U c _ ⇑c out (out.map strOf) n (strsAre_map out (λv g=>d.all v (B.mem_iff.mp g))) ?_ ?_ k1 g1 Y (λb o' O=>?_) rfl rfl (Zi _) gl]
  .rw[<-d.strs]at j;exact(B.map _).trans j
  .intro l;rw[X4];refine Xd (λ{u v} hu g p=>?_) (p2 (by rwa[bw d,j.length_eq]));have%[a,t,rfl|M]:=e _ (B.mem_iff.mp hu);have%[b,t',rfl|N]:=e _ (B.mem_iff.mp g);show aO b a=false;rw[<-nS,mJ N];have p:iE (ks.map λz=>[z]) [a]<=iE (ks.map λz=>[z]) [b]:=p;exact Zh (by omega)
  .have q:=Zu O;show(sortedHeap _ _ _ _).get? b=_;rw[sortedHeap_old (Zs q) (by rw[Zq];exact Yl q)];exact Z7 _ O
end
def jS:∀{ks:ZC} {us:ZG},aI (ks\3) us->StrsAre us ks
 |[],_,.nil=> .nil
 | _::_,_,.cons r t=>by
   have%[t'|rfl]:=r;exact .cons _ _ (jS t)
def gK:∀{ks:ZC} {us:ZG},StrsAre us ks->aI (ks\3) us
 | _,_,.nil=> .nil
 | _,_,.cons _ t h=> .cons %[t|rfl] (gK h)
section
variable{X:Cx}{K:ZB}
def y8(h:X.K=K):cp X (.builtin "sorted") (λxs H Q=>∃a ks,xs=[.ref a]/\SqL K H a (ks\3)/\ ~~~ks<64/\∀l (ss:ZC),H l=none->ss.Perm ks->ss.Pairwise (λa b=>aO b a=false)->Q (.ref l) (upd H l (.lst (ss\3)))):=by
 subst h;refine⟨λpins s E H xs us Q I r h=>?_⟩;have%[a,ks,rfl,m,d|q]:=h;have%[u,rfl|p]:=cR r;cases p;have%[its,i,%[o,n,v,w,G|e]|J]:=I.list m;have L: ~~~its= ~~~ks:=by rw[<-i.length,Z6]
 refine lS (ks:=ks) (λM R y=>wpAny_collect_seq a (.inl rfl) v w e (λh' k=>?_) (!2)) (by omega) λN s' l vs ss n z j A k1 g1 B k g o c C=>?_
 .exact y _ _ _ (jS i) (.refl _) k rfl rfl
 .have f:=I.keptS k1 g1 B;refine%[.ref l,_,f.stoodS (o:= .lst _) (f.keptS k g o) c %[?_,vs,n,gK z|C],ρ|q l ss (f.hok.fresh c) j (A d)];rw[Z6,j.length_eq,sizeLine_eq];omega
def nT{w:World}(h:X.w=w)(p:X.calm=true):cp X (.builtin "sorted") (λxs H Q=>∃a ks,xs=[.ref a]/\H a∣d6 w a ks/\ ~~~ks<=1000/\∀l (ss:ZC),H l=none->ss.Perm ks->(~~~ks<64->ss.Pairwise (λa b=>aO b a=false))->Q (.ref l) (upd H l (.lst (ss\3)))):=by
 subst h;refine⟨λpins s E H xs us Q I r h=>?_⟩;have%[a,ks,rfl,v,e|q]:=h;have%[u,rfl|y]:=cR r;cases y;have%[S,_|_]:=(I.hok a _ v)
 refine lS (ks:=ks) (λG R z=>lN (I.ok.hd p) S λm vs ss f d k1 g1 i A=>z m vs ss f d k1 g1 i) e λm s' l vs ss n f d B k1 g1 i k g o c C=>?_
 have j:=I.keptS k1 g1 i;refine%[.ref l,_,j.stoodS (o:= .lst _) (j.keptS k g o) c %[?_,vs,n,gK f|C],ρ|q l ss (j.hok.fresh c) d B];rw[Z6,d.length_eq,sizeLine_eq];omega
def za(h:X.K=K):cp X (.builtin "sorted") (λxs H Q=>∃(a:Addr) (ps:ZH) (m:Nat),xs=[.ref a]/\SqL K H a (ps\0)/\aK H ps/\(∀p∈ps,~~~p.2=m)/\m≠0/\ ~~~ps<=1000/\
 ∀(l:Addr) (ss:ZH),H l=none->ss.Perm ps->Q (.ref l) (upd H l (.lst (ss\0)))):=by
 subst h;refine⟨λpins s J H xs us Q I r h=>?_⟩;have%[a,ps,m,rfl,i,j,v,w,c|q]:=h;have%[u,rfl|y]:=cR r;cases y;have%[its,z,%[o,n,A,B,L|d]|M]:=I.list i;have:=sF z;subst this;refine jy (λN R C=>wpAny_collect_seq a (.inl rfl) A B d (λh' k=>?_) (!2)) (mL I j) v w c λO s' l ss n f k1 g1 E k g o b G=>?_
 .exact C _ _ (List.Perm.refl _) k rfl rfl
 .have e:=I.keptS k1 g1 E;refine%[.ref l,_,e.stoodS (o:= .lst _) (e.keptS k g o) b %[?_,ss.map _,n,mM ss|G],ρ|q l ss (e.hok.fresh b) f];rw[Z6,f.length_eq,sizeLine_eq];omega
def dinT{k:Nat}{i o:Expr}{ty a:TE}{pos:Pos}(b:bI k X.A)(c:behindInMarks .In o=false)(hi:QE X i ty)(d:QE X o a):QT X (.Compare i [.In] [o] pos) (tB (Fk ty a)):=
 ⟨zP (Fo (by have:=b.units;omega) hi.h d.h) c⟩
end
def cn{X:Cx}{K:ZB}{a b:Expr}{c d:TE}{pos:Pos}(h:X.K=K)(e:mE b)(f:QE X a c)(g:QE X b d):QE X (.Subscript a b pos) (tOp (E8 K) c d):=by subst h;exact⟨Ai Fa f.h g.h e⟩
def wI(h:(env.blockKind== .function&&env.kindOf x==some .local&&b.line==pos.line&&!(a.names.any λ(n,k)=>n==x&&(k== .local||k== .cell)))=false):
 swapsWith (.ListComp c gens a pos) (some (.Name x b)) l env=pure false:=by
 show(pure (env.blockKind== .function&&env.kindOf x==some _&&b.line==pos.line&&!(a.names.any _)))=pure false;rw[h]
def Bp{X:Cx}(i:Nat)(e:X.N.Nodup)(hi:X.N[i]?∣x)(f:Loc X.env.scope x)(g:X.fn x=true\/X.env.scope.names.lookup x∣.local)
 (b:(X.env.blockKind== .function&&X.env.kindOf x==some .local&&h.line==pos.line&&!(a.names.any λ(n,k)=>n==x&&(k== .local||k== .cell)))=false) (j:QE X (.ListComp c gens a pos) l):
 QS X (.Assign [.Name x h] (.ListComp c gens a pos) d) (rG l (jd i)):=⟨zX e hi f j.h (wI b) g⟩
section
#where
end
section
variable(h:Heap)(l1 l2:Addr)
end
section
#where
variable{X:Cx}{K:ZB}{pos:Pos}
end
section
variable{X:Cx}{pos:Pos}
def kR(b:PassesOwn (model X.prog X.w) X.A X.env X.xe)(d:QT X c e)(f:QSs X a g):QS X (.While c a [] pos) (zY e g):=⟨zZ b d.h f.h⟩
def dw(a:bI k X.A)(b:Fj i)(c:QE X o d)(hi:QE X i ty):QE X (.Subscript o i pos) (An d ty):=⟨CQ (by have:=a.units;lia) c.h hi.h b⟩
#where
def Dt{P:Nat->Value->Prop}(val:Nat->Str)(a:∀i v,P i v->∃t,v= .str (val i) t):CmpOf prog w A .Gt P (λi j=>decide ((val j).cps.toList<(val i).cps.toList)):=λi j b c s Q E hi d h=>by
 have%[t|rfl]:=a i b hi;have%[u|rfl]:=a j c d;exact richCompare_gives (typeIs_str s _ t) (typeIs_str s _ u) PySem.F.slot_str_gt PySem.F.entry_str_gt (PySem.F.args_str_gt_2 _ _) (gives_str_gt _ _ t u) (λx=>nomatch x) h
def xI{P:Nat->Value->Prop}(val:Nat->Str)(a:∀i v,P i v->∃t,v= .str (val i) t):CmpOf prog w A .Lt P (λi j=>decide ((val i).cps.toList<(val j).cps.toList)):=λi j b c s Q E hi d h=>by
 have%[t|rfl]:=a i b hi;have%[u|rfl]:=a j c d;exact richCompare_gives (typeIs_str s _ t) (typeIs_str s _ u) PySem.F.slot_str_lt PySem.F.entry_str_lt (PySem.F.args_str_lt_2 _ _) (gives_str_lt _ _ t u) (λx=>nomatch x) h
def Bq{i:Nat}{v:Value}(h:(#[Value.str x t,Value.str y u]:ZK)[i]?∣v):∃t,v= .str (if i=0 then x else y) t:=by
 match i,h with
 | 0,h=>exact%[t|by simpa using h.symm]
 | 1,h=>exact%[u|by simpa using h.symm]
 | i+2,h=>simp at h
def uD(a:Nat->Nat->Bool):argBest a 1=if a 1 0=true then 1 else 0:=by simp[argBest]
def sI{x y:Str}(l:A.handled=none)
 (h:∀h' tk,(∀c o,s.heap.get? c∣o->h'.get? c∣o)->Q (if x.cps.toList<y.cps.toList then .str y u else .str x t) {s with heap:=h',toks:=tk}):
 ↥A (call (.builtin "max") [.str x t,.str y u]) Q E s:=by
 have j:(s.heap.push {cls:= .type _,data:= .seq #[.str x t,.str y u]}).IsTuple ⇑s _:=%[_,Zj _ rfl,rfl,0|rfl]
 refine call_max_two (wpAny_pyIter_tuple j ?_);have b:(s.heap.push {cls:= .type "tuple",data:= .seq #[.str x t,.str y u]}).objs.size=⇑s+1:=Zq ..;refine%[_,[_,⇑s],[_],_,_,_,_,ρ,Walks.tuple (A:=A.in1) l _ ⇑s (b▸Zs (Ym _)) _,
  %[%[_,Zj _ rfl,ρ|ρ]|j.push _],λc d=>?_,by simp,Dt _ (λ_ _=>Bq)|λv h' tk m n=>?_]
 .rw[Zq,b];rcases mem_cons.mp d with rfl|d
  .simp
  .rcases mem_cons.mp d with rfl|d
   .exact Yl (Ym _)
   .cases d
 .have f:=λc o e=>by
   refine n c o (λi=>?_) (Z7 _ (Z7 _ e));rcases mem_cons.mp i with p|i
   .have:=Zu e;rw[p,b]at this;exact Xg _ (Nat.lt_of_succ_lt this)
   .cases i
  have q:=h h' tk f;have a:(#[Value.str x t,Value.str y u])[argBest _ 1]?∣v:=m;rw[uD]at a;by_cases g:x.cps.toList<y.cps.toList
  .rw[if_pos (by simp[g])]at a;rw[if_pos g]at q;exact(show Value.str y u=v by simpa using a)▸q
  .rw[if_neg (by simp[g])]at a;rw[if_neg g]at q;exact(show Value.str x t=v by simpa using a)▸q
def sJ{x y:Str}(l:A.handled=none)
 (h:∀h' tk,(∀c o,s.heap.get? c∣o->h'.get? c∣o)->Q (if y.cps.toList<x.cps.toList then .str y u else .str x t) {s with heap:=h',toks:=tk}):
 ↥A (call (.builtin "min") [.str x t,.str y u]) Q E s:=by
 have j:(s.heap.push {cls:= .type _,data:= .seq #[.str x t,.str y u]}).IsTuple ⇑s _:=%[_,Zj _ rfl,rfl,0|rfl]
 refine call_min_two (wpAny_pyIter_tuple j ?_);have b:(s.heap.push {cls:= .type "tuple",data:= .seq #[.str x t,.str y u]}).objs.size=⇑s+1:=Zq ..;refine%[_,[_,⇑s],[_],_,_,_,_,ρ,Walks.tuple (A:=A.in1) l _ ⇑s (b▸Zs (Ym _)) _,
  %[%[_,Zj _ rfl,ρ|ρ]|j.push _],λc d=>?_,by simp,xI _ (λ_ _=>Bq)|λv h' tk m n=>?_]
 .rw[Zq,b];rcases mem_cons.mp d with rfl|d
  .simp
  .rcases mem_cons.mp d with rfl|d
   .exact Yl (Ym _)
   .cases d
 .have f:=λc o e=>by
   refine n c o (λi=>?_) (Z7 _ (Z7 _ e));rcases mem_cons.mp i with p|i
   .have:=Zu e;rw[p,b]at this;exact Xg _ (Nat.lt_of_succ_lt this)
   .cases i
  have q:=h h' tk f;have a:(#[Value.str x t,Value.str y u])[argBest _ 1]?∣v:=m;rw[uD]at a;by_cases g:y.cps.toList<x.cps.toList
  .rw[if_pos (by simp[g])]at a;rw[if_pos g]at q;exact(show Value.str y u=v by simpa using a)▸q
  .rw[if_neg (by simp[g])]at a;rw[if_neg g]at q;exact(show Value.str x t=v by simpa using a)▸q
def pK{l:Addr}{its:ZK}{val:Nat->Str}{Q:ZE}(n:A.handled=none)(f:s.heap.IsList l its)(g:0<its.size)(a:∀(i:Nat) v,its[i]?∣v->∃t,v= .str (val i) t)
 (h:∀v h' tk,its[argBest (λi j=>decide ((val i).cps.toList<(val j).cps.toList)) (its.size-1)]?∣v->(∀b o,s.heap.get? b∣o->h'.get? b∣o)->Q v {s with heap:=h',toks:=tk}):
 ↥A (call (.builtin "min") [.ref l]) Q E s:=by
 have c:l<⇑s:=by have%[_,e|_]:=f;exact Zu e
 refine call_min_walk (wpAny_pyIter_list f %[_,[⇑s,l],[⇑s],_,_,_,_,rfl,Walks.list (A:=A.in1) n _ l (Zs c) its,%[%[_,Zj _ rfl,rfl|rfl]|f.push _],λb d=>?_,g,xI val a|λv h' tk p q=>?_])
 .rw[Zq];rcases mem_cons.mp d with rfl|d
  .simp
  .rcases mem_cons.mp d with rfl|d
   .exact Yl c
   .cases d
 .refine h v h' tk p λb o e=>q b o (λm=>?_) (Z7 _ e)
  rcases mem_cons.mp m with r|m
  .exact absurd (r▸Zu e) (Xg _)
  .cases m
def nU(val:Nat->Str):∀k,argBest (λi j=>decide ((val i).cps.toList<(val j).cps.toList)) k<=k/\∀j,j<=k->aO (val j) (val (argBest (λi j=>decide ((val i).cps.toList<(val j).cps.toList)) k))=false
 | 0=>%[Zi _|λj b=>by rw[le_zero.mp b];exact cr _]
 | k+1=>by
   have%[g|d]:=nU val k;rw[argBest];by_cases c:aO (val (k+1)) (val (argBest (λi j=>decide ((val i).cps.toList<(val j).cps.toList)) k))=true
   .have a:=c;unfold aO at a;rw[if_pos a];refine%[Zi _|λj b=>?_];by_cases e:j=k+1
    .exact e▸cr _
    .cases f:aO _ _ with
     | false=>rfl
     | true=>have:=dI f c;rw[d j ⋯]at this;cases this
   .have a:=c;unfold aO at a;rw[if_neg a];refine%[⋯|λj b=>?_];by_cases e:j=k+1
    .lia
    .exact d j ⋯
end
section
variable{X:Cx}
def zb(b:X.calm=true):bW X (.builtin "max") (λxs H Q=>∃x y,xs=[.str x,.str y]/\Q (.str (if aO x y=true then y else x)) H):=by
 intro pins s c H xs us Q I r h;have%[x,y,rfl|q]:=h;have%[u,d,rfl,%[t|rfl],t'|rfl]:=ip r;refine sI (I.ok.hd b) λh' tk k=>%[_,H,I.kept k,?_|q]
 by_cases a:x.cps.toList<y.cps.toList
 .rw[if_pos a,if_pos (show aO x y=true from Zf a)];exact%[_|ρ]
 .rw[if_neg a,if_neg (show ¬ aO x y=true from λe=>a (Zo e))];exact%[_|ρ]
def zc(b:X.calm=true):bW X (.builtin "min") (λxs H Q=>∃x y,xs=[.str x,.str y]/\Q (.str (if aO y x=true then y else x)) H):=by
 intro pins s c H xs us Q I r h;have%[x,y,rfl|q]:=h;have%[u,d,rfl,%[t|rfl],t'|rfl]:=ip r;refine sJ (I.ok.hd b) λh' tk k=>%[_,H,I.kept k,?_|q]
 by_cases a:y.cps.toList<x.cps.toList
 .rw[if_pos a,if_pos (show aO y x=true from Zf a)];exact%[_|ρ]
 .rw[if_neg a,if_neg (show ¬ aO y x=true from λe=>a (Zo e))];exact%[_|ρ]
def zd(z:X.calm=true):bW X (.builtin "min") (λxs H Q=>∃(p:Addr) (ss:ZC),xs=[.ref p]/\SqL X.K H p (ss\3)/\0< ~~~ss/\∀m∈ss,(∀y∈ss,aO y m=false)->Q (.str m) H):=by
 intro pins s M H xs us Q I r h;have%[p,ss,rfl,A,N|q]:=h;have%[u,rfl|f]:=cR r;cases f;have%[its,g,B|O]:=I.list A;have a:= ~~~g;rw[Z6]at a;have C:its.toArray.size= ~~~ss:=by rw[Zp,a]
 have c:∀i v,its.toArray[i]?∣v->∃t,v=Value.str (ss.getD i Str.empty) t:=λi v e=>by
  have e:=↑e
  have hi:i< ~~~ss:=a▸(Xi e).1;have%[u,l|f]:=g.get (by rw[Zl,Z4 hi];rfl);rw[e]at l;have%[t|d]:=f;exact%[t|by rw[Za l,d,Zc,Z4 hi];rfl]
 refine pK (I.ok.hd z) B.isList ⋯ c λv h' tk n k=>?_
 have%[E|o]:=nU _ _;have%[t|d]:=c _ _ n
 generalize argBest _ _=b at E o n d
 have w:b< ~~~ss:=by lia
 have G:ss.getD b Str.empty=ss[b]:=by rw[Zc,Z4 w];rfl
 refine%[.str _,H,I.kept k,%[t|d]|q _ (G▸Ya w) λy J=>?_];have%[j,L|rfl]:=List.getElem_of_mem J;have:=o j ⋯;rwa[show ss.getD j Str.empty=ss[j] by rw[Zc,Z4 L];rfl]at this
def F7(a:X.calm=true):cp X (.builtin "max") (λxs H Q=>∃x y,xs=[.str x,.str y]/\Q (.str (if aO x y=true then y else x)) H):=⟨zb a⟩
def Br(a:X.calm=true):cp X (.builtin "min") (λxs H Q=>∃x y,xs=[.str x,.str y]/\Q (.str (if aO y x=true then y else x)) H):=⟨zc a⟩
def F8{K:ZB}(h:X.K=K)(a:X.calm=true):cp X (.builtin "min") (λxs H Q=>∃(p:Addr) (ss:ZC),xs=[.ref p]/\SqL K H p (ss\3)/\0< ~~~ss/\∀m∈ss,(∀y∈ss,aO y m=false)->Q (.str m) H):=by subst h;exact⟨zd a⟩
#where
def ze:typeLookup (.type "list") "keys"=pure none:=by rw[typeLookup_type,builtinLookup_eq_fast];kernel_rfl
def zf(l:s.heap.get? a∣o)(m:o.cls= .type "list")(f:o.data= .seq xs k)(n:o.dict=none)(r:A.handled=none)
 (h:∀h' tk,(∀b p,s.heap.get? b∣p->h'.get? b∣p)->Q none {s with heap:=h',toks:=tk}):↥A (getAttr? (.ref a) "keys") Q E s:=by
 have%[c,u,v|y]:=o;simp only at m f n;subst m f n;have%[z,g,d,tk|os]:=s;have q:∀i,(%[z,g,d,i|os]:Shared).TypeIs (.ref a) "list":=λ_=>%[_,l|rfl]
 have C:=sub_AttributeError;have G:=PySem.F.slot_list_getattribute.lookup;have H:=PySem.F.slot_list_getattribute.bind (.ref a);have I:=am_list_getattr_none;unfold getAttr? getAttrBy? getAttrBy
 repeat (any_goals (first|assumption|exact q _|((with_reducible show wpAny _ _ (call (Value.builtin "list.__getattribute__") _ _) _ _ _);refine call_meets PySem.F.slot_list_getattribute (q _) am_entry_list_getattribute (PySem.F.args_list_getattribute_2 _ _) (meets_getattribute_miss_list a xs k y "keys" _ ze (!1) (!1)) ⟨l,r,λh' i e j=>?_⟩)|wp_step))
 have%[t',J|L]:=j.there;have B:=j.keeps;show wpAny _ _ (getattributeRaised _ _ _ _ _ _ _) _ _ _;unfold getattributeRaised
 repeat (any_goals (first|assumption|wp_step))
 exact h _ _ B
def qF:entryFor table "dict.update.loop"=some Builtin.«dict.update.loop»:=entryFor_of_tree (by kernel_rfl)
def iX:plainId "dict.update.loop"=true:=!0
variable{R:Result->Shared->Prop}{I:Addr}{fp:List Addr}{wr:List Addr}{G:Array GenState->Array GenState->Prop}{n:Nat}{P:Nat->Value->Prop}{St:Nat->Shared->Prop}
variable{K:ZB}
end
def Du{b:Type}{a:List (b×V)}{vs:List (b×Value)}(r:KV a vs):aI (a\2) (vs\2):=by
 induction r with
 | nil=>exact .nil
 | cons h _ c=>exact .cons h.2 c
section
variable{X:Cx}{K:ZB}
abbrev Bs:V->List V->Hp->VK->Prop:=λx vs H Q=>asR x λa=>∃k y,vs=[kV k,y]/\∃b,H a∣.dK b/\ ~~~b<sizeLine/\(∀v,cD b k∣v->Q v H)/\(cD b k=none->Q y (upd H a (.dK (cE b k y))))
def Dv:MtM X "dict.setdefault" Bs:=by
 intro pins s J H x vs v us Q I p r h;have%[a,rfl,k,y,rfl,b,e,L,u|w]:=d9 h;cases p;have%[M,A,rfl,B|l]:=ip r;have%[z,m,vs,c|n]:=lI I.hok e;refine call_meetsIn PySem.F.slot_dict_setdefault n.typeIs PySem.F.entry_dict_setdefault (PySem.F.args_dict_setdefault_3 _ _ _) (kt_meets_setdefault _ a (lH B) m A) %[vs,n,~~~c▸z,λN hw=>?_|λO h' f C=>?_]
 .have q:=c.val k;cases d:cD b k with
  | none=>
    rw[fD.none_of (o:=valueAt vs k) (d▸q)]at hw;cases hw
  | some i=>
    have%[E,g|j]:=fD.some_of (d▸q);rw[g]at hw;exact(Za hw)▸%[i,H,I.tok _,j|u i d]
 .have d:cD b k=none:=by
   cases d:cD b k with
   | none=>rfl
   | some i=>
     have%[E,g|_]:=fD.some_of (d▸c.val k)
     grind
  exact%[y,_,jI I (e▸True.intro) C (let⟨q,_,_,G,_⟩:=f;%[q|G]) (mX (by have:=dU b k y;lia) m (c.put k l) f),l|w d]
def jT:MtQ X "dict.setdefault" Bs:=⟨Dv⟩
abbrev uE(v a:Addr):HO:= .ext λh=>h.IsValuesView v a
abbrev Bt:V->List V->Hp->VK->Prop:=λx vs H Q=>asR x λa=>vs=[]/\∃b,H a∣.dK b/\∀v,H v=none->Q (.ref v) (upd H v (uE v a))
def Dw:MtM X "dict.values" Bt:=by
 intro pins s w H x vs v us Q I i j h;have%[a,rfl,rfl,l,e|q]:=d9 h;cases i;have c:=j.zero;subst c;have%[z,m,vs,n|f]:=lI I.hok e;refine call_meetsIn PySem.F.slot_dict_values f.typeIs PySem.F.entry_dict_values (PySem.F.args_dict_values_1 _) (meets_dict_values _ a m) %[%[vs|f]|?_];have g:(s.heap.push {cls:= .type _,data:= .fields _}).IsValuesView ⇑s a:=%[_,Zj _ rfl,rfl|rfl]
 refine%[.ref ⇑s,_,I.laid (o:=uE ⇑s a) (λb u e=>Z7 _ e) (Zi _) %[g,?_|λy A p k1=>?_],ρ|q _ I.fresh]
 .have%[o,d|_]:=g;exact%[o|d]
 .have%[o,d|r]:=p;exact%[o,k1 _ d|r]
def Bu:MtQ X "dict.values" Bt:=⟨Dw⟩
def wJ(j:X.calm=true):bW X (.type "list") (λxs H Q=>∃(v a:Addr) (b:List (Key×V)),xs=[.ref v]/\H v∣uE v a/\H a∣.dK b/\∀l,H l=none->Q (.ref l) (upd H l (.lst (b\2)))):=by
 intro pins s N H xs us Q I r h;have%[v,a,b,rfl,m,n|q]:=h;have%[u,rfl|p]:=cR r;cases p;have%[z,O,vs,f|w]:=lI I.hok n;have g:=(I.hok _ _ m).1;have%[o,y,A,B|C]:=w;have E:s.heap.DictAt _ a vs A:=%[o,y,B|C]
 have G:= ~~~f;refine PySem.W.kdl_call (PySem.W.kdl_values) (I.ok.hd j) %[g|E] ⋯ λh' tk acc c keep J d=>?_
 have T: ~~~acc.toList= ~~~b:=by rw[Zb,d.1,G]
 refine%[.ref ⇑s,_,I.laid keep (Zi _) ?_,ρ|q _ I.fresh];have e:acc.toList=vs\2:=by
  refine Zy (!2) λi L U=>?_
  have%[k|M]:=d.2 i _ (Array.getElem?_eq_getElem L);have%[Y|e3]:=Xi M
  simp_all
 exact%[by rw[Z6];exact z,acc.toList,c,e▸Du f|J]
def Dx(c:X.calm=true):cp X (.type "list") (λxs H Q=>∃(v a:Addr) (b:List (Key×V)),xs=[.ref v]/\H v∣uE v a/\H a∣.dK b/\∀l,H l=none->Q (.ref l) (upd H l (.lst (b\2)))):=⟨wJ c⟩
end
def nV:∀{ss:ZC},z∈ss->∃j,ss[j]?∣z/\(∀m,m<j->∀y,ss[m]?∣y->y≠z)/\(z::ss.eraseIdx j).Perm ss
 | x::ss,h=>by
   by_cases e:x=z
   .exact%[0,by simp[e],λm b=>absurd b ⋯|by simp[e]]
   .have%[j,c,d|f]:=nV ((mem_cons.mp h).resolve_left λq=>e q.symm);refine%[j+1,c,λm b y a=>?_|?_]
    .cases m with
     | zero=>simp at a;exact a▸e
     | succ m=>exact d m ⋯ y (a)
    .exact(List.Perm.swap _ _ _).trans (f.cons _)
section
variable{X:Cx}{K:ZB}
abbrev F9:V->List V->Hp->VK->Prop:=λx vs H Q=>asR x λa=>∃k y,vs=[kV k,y]/\∃b,H a∣.dK b/\Q ((cD b k).getD y) H
def Ga:MtM X "dict.get" F9:=by
 intro pins s n H x vs v us Q I f g h;have%[a,rfl,k,y,rfl,b,e|q]:=d9 h;cases f;have%[o,i,rfl,j|l]:=ip g;have%[z,m,vs,c|d]:=lI I.hok e;exact call_meetsIn slot_dict_get d.typeIs PySem.F.entry_dict_get (PySem.F.args_dict_get_3 _ _ _) (meets_dict_get_default _ a (lH j) m i) %[_,d.mapOf,(cD b k).getD y,H,I.tok _,(c.val k).getD l|q]
def Bv:MtQ X "dict.get" F9:=⟨Ga⟩
abbrev isZ(z:Str):Value->Bool
 | .str x _=>x==z
 | _=>false
def qG(t:Tok)(r:aI (ss\3) its)(h: ~~~ss= ~~~its)(l:z∈ss):∃(j:Nat) (e:j<its.toArray.size),ss[j]?∣z/\(z::ss.eraseIdx j).Perm ss/\(∀y,y∈its.toArray->MeetsSeq.EqGives y (.str z t) (isZ z y))/\isZ z its.toArray[j]=true/\∀m (a:m<its.toArray.size),m<j->isZ z its.toArray[m]=false:=by
 have%[j,f,n|o]:=nV l;have b:∀m y,its[m]?∣y->∃x t,y=Value.str x t/\ss[m]?∣x:=λm y c=>by
  have a:m< ~~~ss:=h▸(Xi c).1;have%[u,i|p]:=r.get (by rw[Zl,Z4 a];rfl);rw[c]at i;have%[t|q]:=p;exact%[_,t,(Za i).trans q|Z4 a]
 have e:j< ~~~its:=h▸(Xi f).1;refine%[j,e,f,o,λy c=>?_,?_|λm a g=>?_]
 .have%[m|a]:=Xc ↑c;have%[x,t',rfl|_]:=b m y a;exact eqGives_str x z t' t
 .have%[x,t',ex|d]:=b j _ (Z4 e);rw[f]at d;show isZ z its[j]=true;rw[ex,<-Za d];exact beq_self_eq_true z
 .have%[x,t',ex|d]:=b m _ (Z4 a);show isZ z its[m]=false;rw[ex];exact beq_eq_false_iff_ne.mpr (n m g x d)
abbrev sK:V->List V->Hp->VK->Prop:=λx vs H Q=>asR x λl=>∃z,vs=[.str z]/\∃ss:ZC,H l<*ss\3/\z∈ss/\∀a,(z::a).Perm ss->Q .non (upd H l (.lst (a\3)))
def zg:MtM X "list.remove" sK:=by
 intro pins s A H x vs v us Q I c d h;have%[l,rfl,z,rfl,ss,a,f|q]:=d9 h;cases c;have%[u,rfl|g]:=d.one;have%[t|rfl]:=g;have%[i,its,n,r,b|e]:=I.lstM a;rw[Z6]at b i;have%[j,m,_,o,p,w|y]:=qG t r b f;refine call_meets F.slot_list_remove %[_,e|rfl] F.entry_list_remove (F.args_list_remove_2 _ _) (MeetsSeq.list_remove l its.toArray n _ _ p j m w y (!2)) %[e,.non,_,I.lset (its':=its.eraseIdx j) a e ?_ ?_ ?_,rfl|q _ o]
 .simp
 .rw[List.eraseIdx_eq_take_drop_succ,Zd,map_take,map_drop,<-List.eraseIdx_eq_take_drop_succ];exact r.eraseIdx j
 .have:=kH ss j;rw[Z6]
  lia
def Bw:MtQ X "list.remove" sK:=⟨zg⟩
end
def zh:typeLookup (.type "list_reverseiterator") "__len__"=pure none:=by kernel_rfl
def Bx:typeLookup (.type "list_reverseiterator") "__length_hint__"=pure (some (.builtin "list_reverseiterator.__length_hint__")):=by kernel_rfl
section
#where
def pL(hh:A.handled=none)(O:s.heap.IsRevIter I l ((a.size:Int) -1))(U:s.heap.IsList l a)(ne:l≠I)(hz:a.size<=sizeLine)
 (hQ:∀s' acc c,(∀b o,b≠I->s.heap.get? b∣o->s'.heap.get? b∣o)->s'.gens=s.gens->s'.os=s.os->s'.heap.get? ⇑s=some {cls:= .type "list",data:= .seq acc c}->acc.toList=a.toList.reverse->Q (.ref ⇑s) s'):
 ↥A (call (.type "list") [.ref I]) Q E s:=by
 have v:I<⇑s:=let⟨_,i,_⟩:=O;Zu i;have y:l<⇑s:=let⟨_,i,_⟩:=U;Zu i
 generalize p:s.heap.push {cls:=Value.type "list",data:=Data.seq #[]}=G
 have gz:G.objs.size=⇑s+1:=by rw[<-p,Zq]
 have z:∀b o,s.heap.get? b∣o->G.get? b∣o:=λb o e=>by rw[<-p];exact Z7 _ e
 have q:G.get? ⇑s=some {cls:=Value.type "list",data:=Data.seq #[]}:=by rw[<-p];exact Zj _ rfl
 refine callType_codes (Q₁:=λobj g=>obj= .ref ⇑s/\g=(s>>>G)) F.called_list (F.typeCall_list_1 (Value.ref I)) F.entry_list_init (code_list_new (Value.ref I) %[rfl|by rw[p]]) λobj g j=>?_
 have%[rfl|rfl]:=j;refine%[%[_,q|ρ],F.args_list_init_2 _ _|?_];show ↥A.in1.in1 (Builtin.«list.__init__» %[[.ref ⇑s,.ref I]|[]]) _ _ _;unfold Builtin.«list.__init__»;refine Z2 ?_;refine listItems_at (s:=(s>>>G)) q rfl ?_;refine Z2 (listUpdate_at (s:=(s>>>G)) q rfl ?_ (Xb _));have Y:=get?_update_self (Obj.mapSeq λ_=> #[]) q rfl;have f:∀b o,b≠⇑s->G.get? b∣o->(G.update ⇑s (Obj.mapSeq λ_=> #[])).get? b∣o:=λb o B e=>(get?_update_other _ _ (Ne.symm B)).trans e
 refine Z2 (wpAny_letGo ?_)
 generalize G.update ⇑s (Obj.mapSeq λ_=> #[])=h at Y f
 have C:I≠⇑s:=Zs v;have nl:l≠⇑s:=Zs y;have m:h.IsRevIter I l ((a.size:Int) -1):=O.at λo e=>f _ _ C (z _ _ e)
 have H:h.IsList l a:=let⟨o,i,r⟩:=U;%[o,f _ _ nl (z _ _ i)|r];have W:=Walks.listRev (prog:=prog) (w:=w) (A:=A.in1.in1) hh I l ne a;have n:(0<=a.size/\h.IsRevIter I l (↑(a).size-1-((0:Nat):Int))/\h.IsList l a):=%[Xb _,↑m|H]
 show ↥A.in1.in1 (Builtin.List.listExtendWith (.ref ⇑s) (.ref I) .none) _ _ (s>>>h);unfold Builtin.List.listExtendWith;have u:Shared.TypeIs (s>>>h) (.ref I) "list_reverseiterator":=m.typeIs;refine Z2 (wpAny_typeOf (T:="list_reverseiterator") u ?_);have n1:Builtin.List.listSameRef (.ref ⇑s) (.ref I)=false:=beq_eq_false_iff_ne.mpr (Ne.symm C);have n2:(Value.type "list_reverseiterator"==Value.type "list")=false:=!1
 have n3:(Value.type "list_reverseiterator"==Value.type "tuple")=false:=!1
 simp only[n1,n2,n3,Bool.or_false,Zz,if_false];refine Z2 (W.self 0 (s>>>h) _ _ n ?_);refine Z2 (wpAny_holding ?_);unfold Builtin.List.listLengthHint;refine Z2 (wpAny_specialOf (T:="list_reverseiterator") u zh ?_);show wpAny _ _ (specialOf (.ref I) (!"__length_hint__")>>= _) _ _ _;refine Z2 (wpAny_specialOf u Bx ?_)
 wp_delta
 refine Z2 (wpAny_isInstance (T:="list_reverseiterator") (b:=true) u (by rw[isSubtype_type];kernel_rfl) ?_);simp only[Bool.not_true,Zz,if_false];rw[if_pos (!0)];rw[if_neg (!1)];refine Z3 ?_;rw[if_neg (!0)];have J:⇑s∉[I,l]:=by
  simp only[Yt,X2,or_false,not_or];exact%[Ne.symm C|Ne.symm nl]
 refine Z3 %[plainId_quiet F.plain_extend_loop _|codeAny_extend_loopS W.toS hz _ J _ a.size 0 _ _ _ rfl (Xb _) n Y (ItemsOf.nil _) λs5 acc c5 L M d=>?_];refine%[ρ|hQ s5 acc c5 (λb o B e=>?_) L.gens L.os M ?_]
 .have nb:b≠⇑s:=Zs (Zu e);refine L.heap b o ?_ (f _ _ nb (z _ _ e));simp only[Yt,X2,or_false,not_or];exact%[nb|B]
 .apply ext_getElem?;intro k;have al: ~~~acc.toList=a.size:=Zb▸d.1;by_cases hk:k<a.size
  .have N:k<acc.size:=d.1▸hk;have:=d.2 k acc[k] ∅;rw[List.getElem?_reverse (hk),Zb,getElem?_toList,getElem?_toList,this];simp[N]
  .rw[Xh ⋯,Xh (by simp;lia)]
end
abbrev Gb(n:Nat)(a l:Addr)(m:Nat):HO:= .ext λh=>n<=a/\h.IsRevIter a l (m-1)
def zi{X:Cx}:bW X (.type "reversed") (λxs H Q=>∃(l:Addr) (ys:List V),xs=[.ref l]/\SqL X.K H l ys/\∀r,H r=none->Q (.ref r) (upd H r (Gb X.s₀.heap.objs.size r l ys.length))):=by
 intro pins s a H xs us Q I r h;have%[l,ys,rfl,c|q]:=h;have%[u,rfl|d]:=cR r;cases d;have%[its,f,pl|j]:=I.list c;refine call_reversed_list pl.isList ?_;have g:=I.hok.fresh (Zi _);have J:Inv X pins a H (s>>>(s.heap.push (revObj l (its.toArray.size-1)))):=I.keptS (λb o e=>Z7 _ e) rfl rfl;refine%[.ref ⇑s,_,I.stoodS (o:=Gb X.s₀.heap.objs.size ⇑s l ys.length) J (Zi _) %[%[I.sz|?_],%[_|Zj _ rfl]|λ_ _ ⟨i,x⟩ k=>%[i|x.at λo e=>k o e]],ρ|q _ g];rw[~~~f,<-Zp];exact%[_,Zj _ rfl,ρ|ρ]
def Inv.dropped{X:Cx}(I:Inv X pins j H s)(l:H a∣.ext i)(m:X.s₀.heap.objs.size<=a)(f:∀b o,b≠a->s.heap.get? b∣o->s'.heap.get? b∣o)(r:s'.gens=s.gens)(v:s'.os=s.os):Inv X pins j (drop H a) s':=by
 have ne:∀{b:Addr} {o:HO},H b∣o->(∀i,o≠ .ext i)->b≠a:=λe n z=>by
  grind
 have un:Un (frs X.stack) [a] H (drop H a) s.heap s'.heap:=by
  refine%[λb o e _ _ d=>f b o ↑d e,λb o e _ _ d=>%[o.slots|f b o ↑d e],λb o _ n _=>?_,λb o e d=>%[o|f b o ↑d e],λb xs e=>?_,λb o u e=>?_|λb ps e=>%[#[]|?_]]
  .unfold drop;split
   .rfl
   .exact n
  .rw[bM (ne e ∅)];exact e
  .rw[bM (ne e ∅)];exact e
  .rw[bM (ne e ∅)];simpa using e
 have g:HOk X.prog X.w (drop H a) s'.heap:=λb o e=>by
  have nb:b≠a:=λz=>by rw[z,fQ]at e;cases e
  rw[bM nb]at e;refine(I.hok b o e).stay (λc u h q=>f c u ?_ q) (λc q=>?_) λc xs q=>?_
  .rcases h with rfl|h
   .exact nb
   .exact ne h ∅
  .rw[bM (ne q ∅)];exact q
  .rw[bM (ne q ∅)];exact q
 exact I.call' v un g (by rw[r];exact I.bare) λb w=>by
  obtain rfl:b=a:=↑w
  refine%[.inr m,λz=>?_,λx c e z=>?_|λp y z=>?_]
  .have:=I.free;grind
  .have:=I.freeC x c e;grind
  .have:=(I.pin p y).2.1;rw[z,l]at this;cases this
def uF{X:Cx}(y:X.calm=true):bW X (.type "list") (λxs H Q=>∃(r l:Addr) (ys:List V),xs=[.ref r]/\H l<*ys/\H r∣Gb X.s₀.heap.objs.size r l ys.length/\∀p,drop H r p=none->p≠r->Q (.ref p) (upd (drop H r) p (.lst ys.reverse))):=by
 intro pins s L H xs us Q I r h;have%[a,l,ys,rfl,g,f|q]:=h;have%[u,rfl|A]:=cR r;cases A;have%[z,its,n,B,m|e]:=I.lstM g;have%[%[v|b]|_]:=I.hok a _ f;have i:l≠a:=λz=>by rw[z,f]at g;cases g
 have sz:its.toArray.size= ~~~ys:=!2
 refine pL (I.ok.hd y) (by rw[sz];exact b) %[_,e,rfl,n|rfl] i (by rw[sz];exact z) λs' acc c C E j G d=>?_
 have w:=I.dropped f v (λ_ _ _ e=>e) rfl rfl;have J:=I.dropped f v C E j;have lt:=let⟨_,j,_⟩:=b;Zu j;refine%[.ref ⇑s,_,w.stoodS (o:= .lst ys.reverse) J (Zi _) %[?_,acc.toList,c,?_|?_],ρ|q _ (w.hok.fresh (Zi _)) (Yw lt)]
 .rw[List.length_reverse];exact z
 .rw[d];exact B.reverse
 .exact G
abbrev uG(b:TE):TE:=λc H Q=>b c H λv a=>∃l ys,v= .ref l/\a l<*ys/\∀p,a p=none->Q (.ref p) (upd a p (.lst ys.reverse))
def By{X:Cx}(h:X.calm=true)(i:Gl X "reversed")(j:X.mg "reversed"=none)(a:Gl X "list")(b:X.mg "list"=none)(d:bd e=false)(m:QE X e n):
 QE X (.Call (.Name "list" o) [.Call (.Name "reversed" s) [e] [] u] [] w) (uG n):=by
 have y:QE X (.Call (.Name _ s) [e] [] u) _:=ctE ⟨zi⟩ i j PyProof.Rows.boot_reversed rfl rfl (by simp[d]) (paE d (⟨FT m.h⟩) ap);have z:=ctE (p:=o) (pos:=w) ⟨uF h⟩ a b boot_list rfl rfl rfl (paE rfl y ap);refine⟨FU z.h λB H Q q=>?_⟩;refine%[_,q|λv C ⟨l,ys,A,c,q⟩=>%[l,ys,by rw[A],SqL.of c|λr f=>?_]];refine%[r,l,ys,ρ,by rw[aj (ax c f)];exact c,ae|λp g _=>?_];rw[A2 f]at g ⊢;exact q p g
section
variable{X:Cx}
abbrev Gc:R2:=λx y H Q=>asR x λa=>asR y λb=>∃xs,H a<*xs/\H b<*[]/\Q (.bl (decide (xs≠[]))) H
def Gd(B:X.A.units+64<cLine):OpR X (compareOp .NotEq) Gc:=by
 intro pins s C H x y v u Q I l m h;have%[a,rfl|o]:=d9 h;have%[b,rfl,xs,p,w|q]:=d9 o;cases l;cases m;have%[z,its,n,r,g|e]:=I.lstM p;have%[E,its2,i,G,d|c]:=I.lstM w;obtain rfl:its2=[]:=length_eq_zero_iff.mp d.symm;by_cases f:xs=[]
 .subst f;obtain rfl:its=[]:=length_eq_zero_iff.mp g.symm;exact richCompare_meets_room (op:= .NotEq) %[_,e|rfl] %[_,c|rfl] PySem.F.slot_list_ne PySem.F.entry_list_ne (PySem.F.args_list_ne_2 _ _) (SeqAt.list_neAt a b #[] #[] n i none none #[] #[] rfl λ_=>true) %[e,c,λj h=>absurd h (X1 j),by simp,.bl _,H,I,rfl|q] ⋯
 .have A:its.toArray.size≠0:=by
   rw[Zp,<-g];exact λq=>f (length_eq_zero_iff.mp q)
  rw[Zf f]at q;exact richCompare_meets_room (op:= .NotEq) %[_,e|rfl] %[_,c|rfl] PySem.F.slot_list_ne PySem.F.entry_list_ne (PySem.F.args_list_ne_2 _ _) (SeqAt.list_ne_lengthsAt a b its.toArray #[] n i none none #[] #[] ↑A) %[e,c,by simp,.bl true,H,I,rfl|q] ⋯
def Ek(a:bI k X.A):OpQ X (compareOp .NotEq) Gc:=⟨Gd a.units⟩
#where
def eT(I:List i->j->Shared->Prop):∀(xs:List i) (b:j) (s:Shared),I xs b s->
 (∀x r b s,I (x::r) b s->↥A (f x b) (λy s'=>match y with| .done c=>Q c s'| .yield c=>I r c s') E s)->(∀b s,I [] b s->Q b s)->↥A (forIn xs b f) Q E s
 |[],b,s,h,_,a=>by
  exact Z3 (a b s h)
 | x::r,b,s,h,d,a=>by
   rw[forIn_cons];refine Z2 (wpAny_mono (d x r b s h) (λy s' g=>?_) λ_ _ e=>e);cases y with
   | done c=>exact Z3 g
   | yield c=>exact eT I r c s' g d a
def Bz:∀c {Q:Bool->Shared->Prop},(∀b∈c,∃d,bv w b d s.heap)->Q true s->↥A (setsQuiet c) Q E s:=by
 intro c Q h l;refine Z2 (eT (λr b s'=>(∀b∈r,∃d,bv w b d s.heap)/\b=(none,())/\s'=s) c _ s %[h,rfl|rfl] ?_ ?_)
 .intro x r b s' %[g,rfl|rfl];have%[d,o,m,G,t,ss,n,p,q,v,H,y,f,I,B,C|i]:=g x Zm;refine Z2 (wpAny_setEntries_of n q B (Z2 ?_));rw[<-forIn_toList];refine eT (λr b a=>(∀e∈r,∃z u,e=(hashStr w z,Value.str z u))/\b=(none,())/\a=s') m.toList _ _ %[f,rfl|rfl] ?_ ?_
  .intro e r b a %[j,rfl|rfl];have%[z,u|rfl]:=j e Zm;exact Z3 %[λe h=>j e (Zk _ h),rfl|rfl]
  .intro b a %[_,rfl|rfl];exact Z3 %[λe h=>g e (Zk _ h),rfl|rfl]
 .intro b s' %[_,rfl|rfl];exact Z3 l
abbrev hsE(w:World)(p:Str×Tok):Int×Value:=(hashStr w p.1,.str p.1 p.2)
def bv.texts{a:Addr}{h:Heap}{o:Obj}{c:Array (Int×Value)}(d:StrsAre (c.toList\2) ss)(g:ss.Perm ks)(f:∀e∈c.toList,∃z u,e=(hashStr w z,Value.str z u))(xs:List (Int×Value))(b:xs.Perm c.toList):∃zs:List (Str×Tok),xs=zs.map (hsE w)/\(zs\1).Perm ks:=by
 have all:∀l,(∀e∈l,∃z u,e=(hashStr w z,Value.str z u))->∃zs:List _,l=zs.map (hsE w):=λl=>by
  induction l with
  | nil=>exact λ_=>%[[]|rfl]
  | cons e l i=>
    intro h;have%[z,u|rfl]:=h e Zm;have%[zs|rfl]:=i λx b=>h x (Zk _ b)
    exact%[(z,u)::zs|ρ]
 have%[zs|rfl]:=all xs λe j=>f e (b.mem_iff.mp j)
 refine%[zs,ρ|?_];have%[ts,m|n]:=cq d (b.map _);have e:ts=zs\1:=by
  rw[<-m.strs,Yp,Yp];rfl
 exact e▸n.trans g
def qH{f:List Addr}{c:ZJ}{Q:Array (Int×Value)->Shared->Prop}(Y:bv w a ks s.heap)(hO:∀b∈f,∃js,bv w b js s.heap)(q:∀r,c∣r->r≠a/\bv w r [] s.heap)
 (hQ:∀(zs:List (Str×Tok)) (d:Drawn) (h':Heap),(zs\1).Perm ks->(∀b o,c≠some b->s.heap.get? b∣o->h'.get? b∣o)->(∀r,c∣r->bv w r [] h')->Q (zs.map (hsE w)).toArray {s with heap:=h',drawn:=d}):
 ↥A (setWalkUnseen a f c) Q E s:=by
 have%[o,i,ep,t,ss,ho,ab,hd,L,hp,ac,M,J,hf,N|j]:=id Y;have g:∀(xs:List _) d h',xs.Perm i.toList->(∀b o,c≠some b->s.heap.get? b∣o->h'.get? b∣o)->(∀r,c∣r->bv w r [] h')->Q xs.toArray {s with heap:=h',drawn:=d}:=λxs d h' hx v h2=>by
  have%[zs,rfl|hz]:=bv.texts (a:=a) (h:=h') (o:=o) L hp M xs hx;exact hQ zs d h' hz v h2
 have walk:↥A (setWalk a) Q E s:=by
  refine Z2 (wpAny_setState_of ho hd hf ?_);show wpAny _ _ (if a8 w=true then _ else _) _ _ _;by_cases O:a8 w=true
  .rw[if_pos O];refine Z2 (wpAny_askSetting (Z3 ?_));have:=g (pickOrder (w.params.setOrder a ep) i).toList s.drawn s.heap (qt _ _) (λ_ _ _ e=>e) λr e=>(q r e).2
   exact this
  .rw[if_neg O]
   split
   .exact Z2 (r9 i.size i.toList _ _ ∅ λys d p=>Z3 (g ys d s.heap p (λ_ _ _ e=>e) λr e=>(q r e).2))
   .refine Z2 ?_;show wpAny _ _ (if(!t.led&&decide _)=true then unsupported _ else pure ()) _ _ _;rw[j,show a8 w=false by simpa using O];refine Z3 (Z3 ?_);have:=g i.toList s.drawn s.heap (.refl _) (λ_ _ _ e=>e) λr e=>(q r e).2
    exact this
 refine Z2 (wpAny_setState_of ho hd hf ?_);show wpAny _ _ (if(a8 w||t.led&&t.plain||decide _)=true then _ else _) _ _ _;by_cases v:(a8 w||t.led&&t.plain||decide (i.size<=1))=true
 .rw[if_pos v];exact walk
 .rw[if_neg v];refine Z2 (Bz _ (λb J=>?_) ?_)
  .rcases mem_cons.mp J with e|e
   .exact e▸%[_|Y]
   .exact hO b e
  refine Z2 (wpAny_rule ?_);cases c with
  | none=>
    have:=g i.toList s.drawn s.heap (.refl _) (λ_ _ _ e=>e) λr e=>(q r e).2
    exact Z3 this
  | some r=>
    have%[ne,o2,T,ag,u,ai,l,y,m,B,U,C,G,H,I,aa|n]:=q r rfl;dsimp only;refine Z2 (wpAny_setState_of l m I ?_)
    split
    .refine Z2 (wpAny_storeSet_of l m ?_ (fits_of_scanBound H));have:=g i.toList s.drawn _ (.refl _) (λb o J e=>((SameBut.update s.heap r (Obj.putSet T {u with led:=u.led&&t.led,plain:=u.plain&&t.plain})).2 b λz=>J (by rw[z])).trans e) λr' e=>?_
     .exact Z3 this
     .cases e;exact(bv.stored (t':={u with led:=u.led&&t.led,plain:=u.plain&&t.plain}) l y m B U C G H I (by rw[(N λz=>v (by rw[z];simp)),Bool.and_false]) (by rw[n,j,Bool.and_self])).2
    .have:=g i.toList s.drawn s.heap (.refl _) (λ_ _ _ e=>e) λr e=>(q r e).2
     exact Z3 this
def Dy(h:jc (Sum.inr z) (Value.str y u)=true):y=z:=by
 rcases bi h with⟨i,t',a,b⟩|⟨c,t',a,b⟩
 .lia
 grind
def uH{ks:ZC}(i:s.heap.get? a∣o)(l:o.data= .set b H t)(c:∀e∈b.toList,∃z u,e=(hashStr w z,Value.str z u))(C:b.size<scanBound)(m:t.fits b.size=true)
 (n:∀r,(r=none->∀e∈b.toList,∀u,e.2≠ .str z u)->(∀j,r∣j->∃u,b.toList[j]?∣(hashStr w z,.str z u))->Q r s):↥A (setFind a (.str z tk) (hashStr w z)) Q E s:=by
 have p:ElemsOf (aH prog w) b.toList:=qq c;have d:(aH prog w).is (Sum.inr z) (.str z tk)=true:=dD z tk;refine Z2 (wpAny_setState_of i l m ?_);dsimp only;rw[byScan_of rfl C p];refine Z2 (wpAny_rule (Z2 (wpAny_setScan_of d i l m p ?_)));cases v:List.findIdx? _ b.toList with
 | some j=>
   have%[B,f|_]:=List.findIdx?_eq_some_iff_getElem.mp v;dsimp only;rw[zero_add];refine Z3 (n _ (λh=>(nomatch h)) λI e=>?_);cases e;have%[y,u|g]:=c _ (Ya B);rw[g]at f;rw[Dy (u:=u) f]at g;exact%[u|by rw[Z4 B,g]]
 | none=>
   refine Z3 (n none (λ_ e G u q=>?_) λj e=>(nomatch e));have:=List.findIdx?_eq_none_iff.mp v e G;rw[q,show(aH prog w).is (Sum.inr z) (Value.str z u)=true from dD z u]at this;cases this
def zj{t:SetTable}(h:t.fits n=true)(hi:i<n):(t.drop i).fits (n-1)=true/\(t.drop i).led=t.led/\(t.drop i).plain=t.plain:=by
 unfold SetTable.fits at h ⊢;rw[Zv,beq_iff_eq,decide_eq_true_eq]at h;unfold SetTable.drop;have:t.place[i]?∣t.place[i]:=by simp
 rw[this];refine%[?_,ρ|ρ];rw[Zv,beq_iff_eq,decide_eq_true_eq];unfold SetTable.fill at h ⊢;simp only[SetTable.eraseAt,SetTable.insertAt,size_append,Array.size_extract,Xf]
 lia
def wK(h:i<a.size):(SetTable.eraseAt a i).toList=a.toList.eraseIdx i:=by
 rw[List.eraseIdx_eq_take_drop_succ,SetTable.eraseAt,Xa,toList_extract,toList_extract,List.extract_eq_take_drop,List.extract_eq_take_drop];simp;exact Zn ∅
def uI{ks:ZC}(I:bv w a ks s.heap)(m:∀h' b,SameBut a s.heap h'->bv w a (ks.erase z) h'->Q b (s>>>h')):↥A (setDiscardHashed a (.str z tk) (hashStr w z)) Q E s:=by
 have%[o,c,ep,t,ss,h,n,j,d,J,p,f,L,v,y|g]:=id I;refine Z2 (uH (ks:=ks) h j f L v λr M N=>?_);cases r with
 | none=>
   have O:z∉ks:=λq=>by
    have%[u|l]:=(dX d).mpr (J.mem_iff.mpr q);have%[e,B|T]:=Xl l;exact M rfl e B u T
   rw[List.erase_of_not_mem O]at m;exact Z3 (m s.heap false (SameBut.refl a s.heap) I)
 | some i=>
   have%[u|l]:=N i rfl;have hi:i<c.size:=(Xi l).1;have C:((hashStr w z,Value.str z u)::(SetTable.eraseAt c i).toList).Perm c.toList:=by
    rw[wK hi];have:=gC (xs:=c.toList) (hi);rwa[(Xi l).2]at this
   have%[ts,G|U]:=cq d (C.map _);cases G with
   | cons _ _ G=>
   have%[Y,d2|d3]:=zj v hi;have H:(SetTable.eraseAt c i).size=c.size-1:=by
    rw[<-Zb,<-Zb,<-C.length_eq];simp
   refine Z2 (wpAny_setState_of h j v ?_);dsimp only;refine Z2 (wpAny_storeSet_of h j (Z2 (wpAny_point (Z3 (m _ true (SameBut.update s.heap a _) (bv.stored h n j G ((List.cons_perm_iff_perm_erase.mp (U.trans J)).2) (p.erase z) (λe B=>f e (C.mem_iff.mp (Zk _ B))) ?_ ?_ ?_ ?_).2)))) (fits_of_scanBound ?_))
   .lia
   .exact H▸Y
   .exact d3▸y ⋯
   .exact d2▸g
   .lia
end
def xJ(h:_T.WF t a)(b:a.size<=t.mask):t.fits a.size=true:=by
 unfold SetTable.fits SetTable.fill;rw[h.size,h.dum];simpa using b
section
#where
abbrev sL(w:World)(a:Addr)(n:Nat)(h:Heap):Prop:=∃o b t,h.get? a∣o/\o.ExactSet/\o.data= .set #[] b t/\t.place= #[]/\t.dummies= #[]/\t.led=(!a8 w)/\(∃k,t.mask+1=2^k)/\7<=t.mask/\n<=t.mask
def sL.fits{t:SetTable}(a:t.place= #[])(b:t.dummies= #[]):t.fits (#[]:Array (Int×Value)).size=true:=by
 unfold SetTable.fits SetTable.fill;rw[a,b];simp
def Dz{n:Nat}{Q:Unit->Shared->Prop}(a:s.heap.get? r∣a9 w)(f:n<=1000)(c:∀h',SameBut r s.heap h'->sL w r n h'->Q () (s>>>h')):↥A (setRoomFor r n) Q E s:=by
 have d:(SetTable.fresh 0 0 (!a8 w)).fits _=true:=sL.fits rfl rfl;refine Z2 (wpAny_setState_of a rfl d ?_);show wpAny _ _ (match(if(0+n)*5>=7*3 then some ((0+n)*2)else none)with|some x=>setRelay r x|_=>pure ()) _ _ _;by_cases h:(0+n)*5>=7*3
 .rw[if_pos h];refine _T.relay_w a rfl d ∅ ⋯ λb t' P W l p g m2=>c _ (SameBut.update s.heap r _) ?_
  obtain rfl:b= #[]:=by
   have:=P.length_eq;simpa using this
  have e:=by
   have q:=get?_update_self (Obj.putSet #[] t') a (by rfl);rwa[putSet_of #[] t' rfl]at q
  exact%[_,_,t',e,%[ρ,ρ|ρ],ρ,Array.eq_empty_of_size_eq_zero W.size,W.dum,l,W.pow,W.big|⋯]
 .rw[if_neg h];exact Z3 (c s.heap (SameBut.refl r s.heap) %[_,_,_,a,%[rfl,rfl|rfl],rfl,rfl,rfl,rfl,%[3|rfl],Zi 7|by show n<=7;lia])
def BA{ks:ZC}(M:bv w a ks s.heap)(N:s.heap.get? r∣a9 w)(ne:r≠a)(h1:1<= ~~~ks)(h2: ~~~ks<=1000)(O:∀h',SameBut r s.heap h'->bv w r ks h'->Q () (s>>>h')):↥A (setMerge r a) Q E s:=by
 have%[o,d,ep,t,ss,T,U,Y,n,G,z,B,hb,H,C|g]:=id M;have hn:d.size= ~~~ks:=by
  have q:=bw n;rw[Z6,Zb,G.length_eq]at q;exact q
 have pl:t.plain=false:=C ⋯;unfold setMerge;rw[if_neg ↑ne];refine Z2 (wpAny_setState_of T Y H ?_);dsimp only;rw[if_neg (λh:d.isEmpty=true=>by have:=Zo h;lia)];refine Z2 (Dz N ⋯ λh' sb ⟨o2,aa,u,i,v,j,I,J,L,k2,b2,m2⟩=>Z2 (wpAny_setState_of (s:=(s>>>h')) i j (sL.fits I J) ?_));dsimp only;have m:u.fill=0:=by unfold SetTable.fill;rw[I,J];rfl
 have put:∀(b:Array (Int×Value)) (t':SetTable),b.toList.Perm d.toList->t'.fits b.size=true->t'.plain=false->t'.led=(!a8 w)->↥A (storeSet r b t') Q E (s>>>h'):=λb t' P f p l=>by
  have sz:b.size=d.size:=by rw[<-Zb,P.length_eq,Zb]
  have%[ts,r1|r2]:=cq n (P\2);exact wpAny_storeSet_of (s:=(s>>>h')) i j (O _ (sb.trans (SameBut.update h' r _)) (bv.stored (w:=w) i v j r1 (r2.trans G) z (λe he=>B e (P.mem_iff.mp he)) ⋯ f p l).2) (fits_of_scanBound ⋯)
 unfold SetTable.road;rw[m,if_neg (!1)]
 split
 .exact put d _ (.refl _) H (by show(u.plain&&t.plain)=false;rw[pl,Bool.and_false]) (by show(u.led&&t.led)=_;rw[L,g,Bool.and_self])
 .have%[k|hk]:=k2;have%[t',c,e1,e2,e3,e4,e5,W|P]:=_T.laid_ok hk b2 d ⋯ u.finger u.moves _ _;have sz:(c.filterMap (d[·]?)).size=d.size:=by rw[<-Zb,P.length_eq,Zb]
  rw[e1];refine Z2 ?_;show wpAny _ A (if((c.filterMap _).size != d.size)=true then _ else pure _) _ E _;rw[if_neg (by simp[sz])];exact Z3 (put _ t' P (show t'.fits _=true from xJ W (by rw[sz,e2];lia)) (by rw[e4,pl,Bool.and_false]) (by rw[e3,L,g,Bool.and_self]))
 .rename_i y
  split at y<;> cases y
end
def bv.nd(S:bv w a ks h):ks.Nodup:=by
 have%[_,_,_,_,_,_,_,_,_,_,h|_]:=S;exact h
section
#where
def sM(c:bv w b f s.heap)(d:Q true s):↥A (Builtin.Frozenset.isAnySet (.ref b)) Q E s:=by
 have%[o,g,h,t,ss,e,a|_]:=c;exact Z2 (wpAny_isInstance (b:=true) %[o,e|a.1] (by kernel_rfl) (Z3 d))
def jU(d:bv w b e s.heap)(f:Q e.length s):↥A (Builtin.Frozenset.sizeOf b) Q E s:=by
 have%[o,u,v,t,ss,g,h,i,a,j,l,m,y,n,p|c]:=d;have r:=by
  have q:=bw a;rw[Z6,Zb,j.length_eq]at q;exact q
 exact Z2 (wpAny_setEntries_of g i n (Z3 (r▸f)))
def BB(M:bv w r ks s.heap)(N:bv w b O s.heap)(ne:r≠b)(big: ~~~O< ~~~ks)(al: ~~~ks<=900)
 (hQ:∀h' d ms,(∀c o,c≠r->s.heap.get? c∣o->h'.get? c∣o)->(∀x,x∈ms↔x∈ks/\x∉O)->bv w r ms h'->Q () {s with heap:=h',drawn:=d}):↥A (Builtin.Frozenset.differenceUpdate nm r (.ref b)) Q E s:=by
 unfold Builtin.Frozenset.differenceUpdate;rw[if_neg (by simpa using ne.symm)];refine Z2 (sM N ?_);rw[if_pos rfl];refine Z2 (Z3 (Z2 (jU N (Z2 (jU M ?_)))));rw[if_neg ⋯];have%[o,es,ep,t,ss,ho,an,hd,aq,hp,ar,as,hb,hf,aR|ai]:=id N;have y:∀(s':Shared) (Y:Nat->Shared->Prop),s'.heap.get? b∣o->Y ep s'->↥A (setEpoch b) Y E s':=λs' Y e q=>by
  unfold setEpoch;exact Z2 (wpAny_setState_of e hd hf (Z3 q))
 refine Z2 (y s _ ho (Z2 (wpAny_holding (Z2 (qH N (λc i=>%[ks|(Xk i)▸M]) (λ_ e=>(nomatch e)) λzs d h1 pz k1 _=>Z2 ?_)))));rw[<-forIn_toList];refine eT (λxs _ s'=>∃f rest h',zs=f++rest/\xs=rest.map (hsE w)/\s'={s with heap:=h',drawn:=d}/\(∀c o,c≠r->s.heap.get? c∣o->h'.get? c∣o)/\∃ms,bv w r ms h'/\∀x,x∈ms↔x∈ks/\x∉f\1) _ _ _
  %[[],zs,h1,rfl,rfl,rfl,λc o _ e=>k1 c o ∅ e,ks,M.keep λo e=>k1 r o ∅ e|by simp] ?_ ?_
 .intro x xs _ s' %[f,rest,h',T,ex,rfl,U,ms,S|g];cases rest with
  | nil=>cases ex
  | cons p rest=>
  rw[Yo]at ex;injection ex with aa ab
  subst aa;refine Z2 (wpAny_holding (uI (z:=p.1) (tk:=p.2) (s:={s with heap:=h',drawn:=d}) S λh2 bb sb S2=>Z2 ?_));unfold Builtin.Frozenset.unchanged;have B:∀c o,c≠r->s.heap.get? c∣o->h2.get? c∣o:=λc o i e=>(sb.2 c i).trans (U c o i e)
  refine Z2 (y {s with heap:=h2,drawn:=d} _ (B b o ne.symm ho) ?_);rw[if_neg ∅];refine Z3 (Z3 %[f++[p],rest,h2,by rw[T,Ze];rfl,ab,rfl,B,_,S2|λx=>?_]);rw[S.nd.mem_erase_iff,g,Zd,Yq,Yo,map_nil,Yv,not_or]
  constructor
  .exact λ⟨a,b,c⟩=>%[b,c|a]
  .exact λ⟨b,c,a⟩=>%[a,b|c]
 .intro _ s' %[f,rest,h',T,ex,rfl,U,ms,S|g];obtain rfl:rest=[]:=by
   cases rest with
   | nil=>rfl
   | cons p rest=>cases ex
  rw[Zx]at T;have g:∀x,x∈ms↔x∈ks/\x∉O:=λx=>by rw[g,<-T,pz.mem_iff]
  have ac: ~~~ms≠0:=λe=>by
   have:=_T.nodup_sub M.nd (m:=O) λx hx=>Decidable.byContradiction λq=>by
    have:=(g x).mpr %[hx|q];rw[length_eq_zero_iff.mp e]at this;cases this
   lia
  have sub:=_T.nodup_sub S.nd λx hx=>((g x).mp hx).1
  refine Z3 ?_;have%[o2,j,aU,t2,a0,n,C,u,h,G,H,I,a1,J,L|v]:=id S;have hn:=by
   have q:=bw h;rw[Z6,Zb,G.length_eq]at q;exact q
  refine Z2 (wpAny_setState_of n u J ?_);dsimp only
  split
  .rw[show SetTable.grown j.size=j.size*4 by unfold SetTable.grown;rw[if_neg ⋯]];refine _T.relay_w n u J ⋯ ⋯ λag t' P W l p m1 m2=>?_
   have sz:ag.size=j.size:=by rw[<-Zb,P.length_eq,Zb]
   have%[ts,r1|r2]:=cq h (P\2);exact hQ _ d ms (λc o i e=>((SameBut.update h' r _).2 c i).trans (U c o i e)) g (bv.stored n C u r1 (r2.trans G) H (λe he=>I e (P.mem_iff.mp he)) ⋯ (xJ W ⋯) (p▸L ⋯) (l▸v)).2
  .exact Z3 (hQ h' d ms U g S)
def uJ(a:Q (.ref ⇑s) (s>>>s.heap.push (a9 w))):↥A (newSet (.type "set")) Q E s:=by
 exact Z2 (Z2 (wpAny_askSetting (Z3 (wpAny_newObj_type a))))
def uK(d:bv w a ks s.heap)(e:Q (.type "set") s):↥A (Builtin.Frozenset.baseOf a) Q E s:=by
 have%[o,g,h,t,ss,f,c|_]:=d;exact Z2 (wpAny_isInstance (b:=true) %[o,f|c.1] (by kernel_rfl) (Z3 e))
def DC(n:bv w a ks s.heap)(B:bv w b H s.heap)(aa: ~~~ks<=900)
 (hQ:∀h' d ms,(∀c o,s.heap.get? c∣o->h'.get? c∣o)->(∀x,x∈ms↔x∈ks/\x∉H)->bv w ⇑s ms h'->Q (.ref ⇑s) {s with heap:=h',drawn:=d}):↥A (Builtin.Frozenset.difference nm a (.ref b)) Q E s:=by
 have lt:∀{c:Addr} {ls:ZC},bv w c ls s.heap->c≠⇑s:=λ{c ls} h=>by
  have%[o,_,_,_,_,T|_]:=h;exact Zs (Zu T)
 have I:∀c o,s.heap.get? c∣o->(s.heap.push (a9 w)).get? c∣o:=λc o e=>Z7 _ e
 have U:(s.heap.push (a9 w)).get? ⇑s∣a9 w:=Zj _ rfl;have Y:=n.keep λo e=>I a o e
 have O1:=B.keep λo e=>I b o e
 unfold Builtin.Frozenset.difference;dsimp only;refine Z2 (sM B ?_);rw[if_neg (!1)];refine Z2 (Z3 ?_);rw[if_neg ∅,if_pos rfl];refine Z2 (jU B (Z2 (jU n ?_)))
 generalize hG:s.heap.push (a9 w)=G at I U Y O1
 split
 .refine Z2 (wpAny_rule (Z2 ?_));unfold Builtin.Frozenset.copyOf;refine Z2 (uK n (Z2 (uJ ?_)));rw[hG];refine Z2 (Z3 (Z2 (BA (s:=(s>>>G)) Y U (Ne.symm (lt n)) ⋯ ⋯ λh1 sb R1=>Z3 ?_)));have k1:∀c o,s.heap.get? c∣o->h1.get? c∣o:=λc o e=>(sb.2 c (Zs (Zu e))).trans (I c o e)
  exact Z2 (Z3 (Z2 (wpAny_holding (BB (s:=(s>>>h1)) R1 (B.keep λo e=>k1 b o e) (Ne.symm (lt B)) ⋯ aa λi d ms k2 v M=>Z3 (hQ i d ms (λc o e=>k2 c o (Zs (Zu e)) (k1 c o e)) v M)))))
 .refine Z2 (uK n (Z2 (uJ ?_)));rw[hG];refine Z2 (Z3 ?_);have%[o,es,ep,t,ss,T,aU,hd,a0,hp,a1,a2,hb,hf,a3|aq]:=id Y;have J:∀(s':Shared) (Q':Nat->Shared->Prop),s'.heap.get? a∣o->Q' ep s'->↥A (setEpoch a) Q' E s':=λs' Q' e q=>by
   unfold setEpoch;exact Z2 (wpAny_setState_of e hd hf (Z3 q))
  refine Z2 (J (s>>>G) _ T ?_);rw[if_pos rfl];refine Z2 (wpAny_holding (Z2 (qH (s:=(s>>>G)) Y (λc y=>?_) (λr e=>⟨by cases e;exact Ne.symm (lt n),by cases e;exact bv.empty U⟩) λzs d h1 pz k1 r1=>Z2 ?_)))
  .simp only[Yt,X2,or_false]at y;rcases y with rfl|rfl
   .exact%[_|O1]
   .exact%[_|bv.empty U]
  rw[<-forIn_toList];refine eT (λxs _ s'=>∃f rest h',zs=f++rest/\xs=rest.map (hsE w)/\s'={s with heap:=h',drawn:=d}/\(∀c o,c≠⇑s->G.get? c∣o->h'.get? c∣o)/\∃ms,bv w ⇑s ms h'/\ ~~~ms<= ~~~f/\∀x,x∈ms↔x∈f\1/\x∉H) _ _ _
   %[[],zs,h1,rfl,rfl,rfl,(λc o y e=>k1 c o (λq=>y (Za q).symm) e),[],r1 _ rfl,Zi _|by simp] ?_ ?_
  .intro x xs _ s' %[f,rest,h',C,ex,rfl,g,ms,M,ml|v];cases rest with
   | nil=>cases ex
   | cons p rest=>
   rw[Yo]at ex;injection ex with ab L
   subst ab;have zl: ~~~zs= ~~~ks:=by rw[<-pz.length_eq,Z6]
   have pl: ~~~f< ~~~ks:=by rw[<-zl,C,Z9,Zr];lia
   rw[if_pos rfl];have l:∀(i:Heap) Qx,(∀c o,c≠⇑s->G.get? c∣o->i.get? c∣o)->Qx (.yield ⟨⟩) {s with heap:=i,drawn:=d}->↥A (Builtin.Frozenset.unchanged nm a ep>>= λ_=>pure (ForInStep.yield PUnit.unit)) Qx E {s with heap:=i,drawn:=d}:=λi Qx k2 q=>by
    refine Z2 ?_;unfold Builtin.Frozenset.unchanged;refine Z2 (J {s with heap:=i,drawn:=d} _ (k2 a o (lt n) T) ?_);rw[if_neg ∅];exact Z3 (Z3 q)
   have mem:∀x,x∈(f++[p])\1↔x∈f\1\/x=p.1:=λx=>by rw[Zd,Yq,Yo,map_nil,Yv]
   have%[o2,a4,a5,t2,a6,ac,ar,ag,m,N,as,O,ai,al,aR|an]:=id O1;refine Z2 (wpAny_holding (Z2 (uH (ks:=H) (z:=p.1) (tk:=p.2) (g b o2 (lt B) ac) ag O ai al λq q1 q2=>Z2 (Z3 ?_))));cases q with
   | none=>
     have hz:p.1∉H:=λz=>by
      have%[u|hu]:=(dX m).mpr (N.mem_iff.mpr z);have%[e,he|q3]:=Xl hu;exact q1 rfl e he u q3
     rw[if_pos (by rfl)];refine Z2 (jL (z:=p.1) (tk:=p.2) M (by rw[show scanBound=4096 from rfl];lia) λi bb sb M2=>Z3 ?_);have k2:=λc o y e=>(sb.2 c y).trans (g c o y e)
     refine l i _ k2 %[f++[p],rest,i,by rw[C,Ze];rfl,L,rfl,k2,_,M2,?_|λx=>?_]
     .rw[Z9,Yi]
      split
      .lia
      .rw[Z9,Yi];lia
     .rw[mem];by_cases hx:x=p.1
      .subst hx;refine%[λ_=>%[.inr rfl|hz]|λ_=>?_]
       split
       .rename_i h;exact h
       .exact Ys _ Zm
      .split
       .rw[v];exact%[λh=>%[.inl h.1|h.2]|λh=>%[h.1.resolve_right hx|h.2]]
       .rw[Yq,Yv,v];exact%[λh=>let h:=h.resolve_right hx;%[.inl h.1|h.2]|λh=> .inl %[h.1.resolve_right hx|h.2]]
   | some j=>
     have hz:p.1∈H:=by
      have%[u|hu]:=q2 j rfl;exact N.mem_iff.mp ((dX m).mp %[u|Xm %[_,Z8 hu|rfl]])
     rw[if_neg ∅];refine Z3 (l h' _ g %[f++[p],rest,h',by rw[C,Ze];rfl,L,rfl,g,ms,M,by rw[Z9];lia|λx=>?_]);rw[v,mem];refine%[λh=>%[.inl h.1|h.2]|λh=>%[h.1.resolve_right λe=>h.2 (e▸hz)|h.2]]
  .intro _ s' %[f,rest,h',C,ex,rfl,g,ms,M,ml|v];obtain rfl:rest=[]:=by
    cases rest with
    | nil=>rfl
    | cons p rest=>cases ex
   rw[Zx]at C;exact Z3 (Z3 (hQ h' d ms (λc o e=>g c o (Zs (Zu e)) (I c o e)) (λx=>by rw[v,<-C,pz.mem_iff]) M))
end
def sN:entryFor table "set.__sub__"=some Builtin.«frozenset.__sub__»:=entryFor_alias (id':="frozenset.__sub__") (by kernel_rfl) rfl (!0) (by kernel_rfl)
section
variable{X:Cx}
abbrev BC(w:World):R2:=λx y H Q=>asR x λa=>asR y λb=>∃ks c,H a∣d6 w a ks/\H b∣d6 w b c/\ ~~~ks<=900/\∀l ms,H l=none->(∀x,x∈ms↔x∈ks/\x∉c)->ms.Nodup->Q (.ref l) (upd H l (d6 w l ms))
def DD:OpR X (binaryOp .Sub) (BC X.w):=by
 intro pins s z H x y v u Q I j l h;have%[a,rfl|m]:=d9 h;have%[b,rfl,ks,A,n,p,e|q]:=d9 m;cases j;cases l;have%[S,_|_]:=(I.hok a _ n)
 have%[O,_|_]:=(I.hok b _ p)
 have f:∀{c:Addr} {ls:ZC},bv X.w c ls s.heap->s.TypeIs (.ref c) _:=λ{c ls} h=>by
  have%[o,B,C,t,ss,g,i|_]:=h;exact%[o,g|i.1]
 refine wpAny_binaryOp_same (f S) (f O) F.fills_set_sub F.slot_set_sub (wpAny_call_entry F.slot_set_sub (f S) sN (Z2 (Z2 (Z3 (Z3 (Z2 (Z2 (sM S (sM O (Z2 (Z3 (Z2 (DC S O e λh' d ms k r M=>Z3 %[_,rfl,by simp,.ref ⇑s,_,I.stoodS (o:=d6 X.w ⇑s ms) (I.keptS k rfl rfl) (Zi _) %[M,?_|λ_ _ w k1=>bv.keep w k1],rfl|q _ ms (I.hok.fresh (Zi _)) r M.nd])))))))))))) (F.args_set_sub_2 _ _));have%[o,_,_,_,_,g|_]:=M;exact%[o|g]
def Ge(h:X.w=w):OpQ X (binaryOp .Sub) (BC w):=by subst h;exact⟨DD⟩
end
def mO{X:Cx}(a:bI k X.A)(b:behindInMarks .NotIn o=false)(hi:QE X i ty)(c:QE X o d):QT X (.Compare i [.NotIn] [o] pos) (tB (rT ty d)):=
 ⟨zP (yA (by have:=a.units;lia) hi.h c.h) b⟩
open PySem PySem.Spec PyProof.Rows PySem.SeqAt
section
variable{X:Cx}
variable{K:ZB}{pos:Pos}
def af(i:Nat){x:Str}(h:(X.N[i]?,X.env.scope.names.lookup x,x==("__debug__":Str),x==("__classdict__":Str))=(some x,some .local,false,false)):QE X (.Name x pos) (md i):=by
 simp only[Prod.mk.injEq]at h;exact vn i h.1 (.inl h.2.1) h.2.2.1 h.2.2.2
def bY(i:Nat){x:Str}(h:(X.N[i]?,X.env.scope.names.lookup x,x==("__debug__":Str),x==("__classdict__":Str))=(some x,some .cell,false,false)):QE X (.Name x pos) (md i):=by
 simp only[Prod.mk.injEq]at h;exact vn i h.1 (.inr (.inl h.2.1)) h.2.2.1 h.2.2.2
def aS{mg:ZD}{j k:Nat}{x:Str}{ps:ZC}{sp:Sp}{p:Pos}{e:Expr}{a:List Expr}{t:TA}(C:Cal X.prog X.w K mg X.base j x ps sp)(b:bI k X.A)(h:(X.K,X.mg,X.env.kindOf x,Nat.ble j k,x==("__debug__":Str),(e::a).any bd)=(K,mg,some .globalImplicit,true,false,false))(c:QA X (e::a) t):QE X (.Call (.Name x p) (e::a) [] pos) (pX sp [] E0 t):=by
 simp only[Prod.mk.injEq]at h;have%[rfl,rfl|h]:=h;exact calE C b h.1 h.2.1 h.2.2.1 h.2.2.2 c
def Hq{mg:ZD}{j k:Nat}{x:Str}{ps:ZC}{sp:Sp}{p:Pos}{e:Expr}{a:List Expr}{t:TA}(C:Dq X.prog X.w K mg X.base j x ps sp)(c:uB K mg x)(b:bI k X.A)(h:(X.K,X.mg,X.env.kindOf x,Nat.ble (j+1) k,x==("__debug__":Str),(e::a).any bd)=(K,mg,some .globalImplicit,true,false,false))(d:QA X (e::a) t):QE X (.Call (.Name x p) (e::a) [] pos) (xu (aJ mg x) sp [] E0 t):=by
 simp only[Prod.mk.injEq]at h;have%[rfl,rfl|h]:=h;exact Hm C c b h.1 h.2.1 h.2.2.1 h.2.2.2 d
def uL{mg:ZD}{j k:Nat}{x m:Str}{ps:ZC}{sp:Sp}{a:Pos}{o:Expr}{b:TE}{pl:Sem Bool}(C:y6 X.prog X.w K mg X.base j x m ps sp)(c:uB K mg x)(e:bI k X.A)(h:(X.K,X.mg,Nat.ble j k)=(K,mg,true))
 (g:eval (.Call (.Attribute o m a) [] [] pos) X.env=(do
  let d<-eval o X.env
  standAt a.atName
  let(f,first)<-holding [d] (getMethod d m pl)
  callWith pos f first (backTo pos (starEach [] X.env)) (backToKw pos (keywordEach [] X.env)))) (i:QE X o b):QE X (.Call (.Attribute o m a) [] [] pos) (xt (aJ mg x) m sp [] E0 b yq):=by
 simp only[Prod.mk.injEq]at h;have%[rfl,rfl|h]:=h;exact F5 C c e h g i
def cbO{x:Str}{id:String}{r:List V->Hp->VK->Prop}{p:Pos}{e:Expr}{a:List Expr}{t:TA}(b:cp X (.builtin id) r)(c:X.mg x=none)(d:bootBuiltins x∣.builtin id)(h:(X.env.kindOf x,x==("__name__":Str),x==("__debug__":Str),(e::a).any bd)=(some .globalImplicit,false,false,false))(f:QA X (e::a) t):QE X (.Call (.Name x p) (e::a) [] pos) (tCB r t):=by
 simp only[Prod.mk.injEq]at h;exact cbE b h.1 c d h.2.1 h.2.2.1 h.2.2.2 f
def ctO{x:Str}{T:String}{r:List V->Hp->VK->Prop}{p:Pos}{e:Expr}{a:List Expr}{t:TA}(b:cp X (.type T) r)(c:X.mg x=none)(d:bootBuiltins x∣.type T)(h:(X.env.kindOf x,x==("__name__":Str),x==("__debug__":Str),(e::a).any bd)=(some .globalImplicit,false,false,false))(f:QA X (e::a) t):QE X (.Call (.Name x p) (e::a) [] pos) (tCB r t):=by
 simp only[Prod.mk.injEq]at h;exact ctE b h.1 c d h.2.1 h.2.2.1 h.2.2.2 f
def bmO{o e:Expr}{c:List Expr}{f:TE}{t:TA}{name:Str}{a b:Pos}{T id:String}{r:V->List V->Hp->VK->Prop}(g:PlainAttrs T)(slot:Slot T name id)(d:typeOf (.builtin id)=pure (.type "method_descriptor"))(i:MtQ X id r)
 (h:(X.K,gu o,(e::c).any bd,Nat.blt (e::c).length 30,a.endLine==b.line)=(K,false,false,true,true)) (j:QE X o f) (l:QA X (e::c) t):QE X (.Call (.Attribute o name a) (e::c) [] b) (tBM K T r f t):=by
 simp only[Prod.mk.injEq]at h;have%[rfl|h]:=h;exact bmE rfl g slot d i h.1 h.2.1 h.2.2.1 h.2.2.2 j l
def aP(i:Nat){x:Str}{e:Expr}{b:TE}{a:Pos}(c:X.N.Nodup)(h:(X.N[i]?,X.env.scope.names.lookup x,fh e)=(some x,some .local,false))(d:QE X e b):QS X (.Assign [.Name x a] e pos) (rG b (jd i)):=by
 simp only[Prod.mk.injEq]at h;exact nq i c h.1 (.inl h.2.1) (.inr h.2.1) h.2.2 d
def aT(i:Nat){x:Str}(a:X.N.Nodup)(h:(X.N[i]?,X.env.scope.names.lookup x)=(some x,some .local)):QG X (.Name x pos) (jd i):=by
 simp only[Prod.mk.injEq]at h;exact tU i a h.1 (.inl h.2) (.inr h.2)
#where
variable{x:Addr}{C:Addr}{name:Str}{v:Value}{ox:Obj}
variable{o:Expr}{value:Expr}{nm:Str}{ta:TE}{tv:TE}{pos':Pos}
variable{P:Program}{mg:ZD}{base:Heap}{x:Str}{qual:Str}{st:Stmt}{N:ZC}{ps:ZC}{k:Nat}{sp:Sp}
end
abbrev nW:V->Bool
 | .byt _=>false
 | .flt _=>false
 | _=>true
def eC(r:aI xs us)(h:j<us.toArray.size):∃x,xs[j]?∣x/\aV x us.toArray[j]:=by
 have l:=h;have a:j< ~~~xs:= ~~~r▸l;have%[u,b|c]:=r.get (i:=j) (x:=xs[j]) ∅
 simp_all
def qI{A:Around}{s:Shared}{x:V}{u v:Value}(e:nW x=true)(a:aV x u)(c:aV x v):EqAt A s u v true:=by
 cases x with
 | int i=>
   have%[t|rfl]:=a;have%[d|rfl]:=c;have:=EqAt.int_int (A:=A) (s:=s) i t i d;rwa[beq_self_eq_true]at this
 | str z=>
   have%[t|rfl]:=a;have%[d|rfl]:=c;have:=EqAt.str_str (A:=A) (s:=s) z t z d;rwa[beq_self_eq_true]at this
 | byt b=>cases e
 | flt b=>cases e
 | _=>cases a;cases c;exact EqAt.same _
abbrev uM(H:Hp)(x y:V):Prop:=(x=y/\nW x=true)\/∃a b xs,x= .ref a/\y= .ref b/\H a<*xs/\H b<*xs/\xs.all nW=true
def BD{xs:List V}(h:xs.all nW=true){j:Nat}{x:V}(e:xs[j]?∣x):nW x=true:=all_eq_true.mp h x (Z8 e)
section
#version
def nZ(I:Inv X pins σ H s){A:Around}(h:uM H x y)(n:A.units<cLine)(f:aV x u)(g:aV y v):EqAt A s u v true:=by
 rcases h with⟨rfl,d⟩|⟨a,b,xs,rfl,rfl,o,p,d⟩
 .exact qI d f g
 .cases f;cases g;by_cases e:a=b
  .subst e;exact EqAt.same _
  .have%[us,i,q|_]:=I.list (SqL.of o);have%[vs,l,r|_]:=I.list (SqL.of p);have c:=RcAt.lists (A:=A) (s:=s) (e:=λ_=>true) q.isList r.isList (by rw[Zp,Zp,<-i.length,<-l.length]) n λj w z=>by
    have%[x,ex|B]:=eC i w;have%[y,m|C]:=eC l z;rw[ex]at m;cases m;exact qI (BD d ex) B C
   rw[show(List.range us.toArray.size).all (λ_=>true)=true by simp]at c;exact EqAt.of_refs e c
end
section
variable{X:Cx}
nonrec abbrev Hr:R2:=λx y H Q=>∃a b xs ys,x= .ref a/\y= .ref b/\H a<*xs/\H b<*ys/\ ~~~xs= ~~~ys/\(∀(j:Nat) x y,xs[j]?∣x->ys[j]?∣y->uM H x y)/\Q (.bl true) H
def Gf(C:X.A.units+64<cLine):OpR X (compareOp .Eq) Hr:=by
 intro pins s E H x y v u Q I d f h;have%[a,b,xs,ys,rfl,rfl,g,i,l,m|q]:=h;cases d;cases f;have%[us,d,n|_]:=I.list (SqL.of g);have%[vs,f,o|_]:=I.list (SqL.of i);have c:=RcAt.lists (A:=X.A) (s:=s) (e:=λ_=>true) n.isList o.isList (by rw[Zp,Zp,<-d.length,<-f.length,l]) ⋯ λj p r=>by
  have%[x,ex|w]:=eC d p;have%[y,z|B]:=eC f r;exact nZ I (m j x y ex z) (by show X.A.units+1<cLine;lia) w B
 rw[show(List.range us.toArray.size).all (λ_=>true)=true by simp]at c;exact c _ _ _ _ %[.bl _,H,I,rfl|q]
def Hs(a:bI k X.A):OpQ X (compareOp .Eq) Hr:=⟨Gf a.units⟩
nonrec abbrev Ht:R2:=λx y H Q=>∃a b xs,x= .ref a/\y= .ref b/\H a<*xs/\H b<*[]/\Q (.bl (decide (xs=[]))) H
def Gg(p:X.A.units+64<cLine):OpR X (compareOp .Eq) Ht:=by
 intro pins s r H x y v u Q I d f h;have%[a,b,xs,rfl,rfl,m,n|q]:=h;cases d;cases f;have%[us,d,i|_]:=I.list (SqL.of m);have%[vs,f,l|_]:=I.list (SqL.of n);obtain rfl:vs=[]:=length_eq_zero_iff.mp f.length.symm;by_cases g:xs=[]
 .subst g;obtain rfl:us=[]:=length_eq_zero_iff.mp d.length.symm;have c:=RcAt.lists (A:=X.A) (e:=λ_=>true) i.isList l.isList rfl ⋯ λj o w=>absurd o (X1 _)
  exact c _ _ _ _ %[.bl _,H,I,rfl|q]
 .rw[Zh g]at q;have c:=RcAt.lists_lengths (A:=X.A) i.isList l.isList (by
   have: ~~~us≠0:= ~~~d▸λq=>g (length_eq_zero_iff.mp q)
   simpa using this) ⋯
  exact c _ _ _ _ %[.bl _,H,I,rfl|q]
def Hu(a:bI k X.A):OpQ X (compareOp .Eq) Ht:=⟨Gg a.units⟩
end
def n6:∀{zs:ZC} {its:ZG},aI (zs\3) its->ReadsAll h its (zs.map PyData.str) []
 |[],_,.nil=> .nil
 | z::zs,_,.cons r v=>by
   have%[t|rfl]:=r;exact .cons (.str _ _) (n6 v)
abbrev n8(p:Addr×ZC):PyData:= .tuple (p.2.map PyData.str)
def n9{X:Cx}(I:Inv X pins h H s):∀{ss:ZH} {its:ZG},aK H ss->aI (ss\0) its->∃a,ReadsAll s.heap its (ss.map n8) a
 |[],_,_,.nil=>%[_|.nil]
 | p::ss,_,t,.cons r v=>by
   cases r;have%[us,b,%[%[cls,i,data|j],c,d,n|e]|_]:=I.tuple (SqT.of (t p (Zm ..)).2);have%[bs|f]:=n9 I (λq g=>t q (Zk _ g)) v;exact%[_|.cons (.tuple c d e (n6 b)) f]
def wL(zs:ZC):PyData.showableAll (zs.map PyData.str)=true/\PyData.hasDictAll (zs.map PyData.str)=false/\PyData.depthAll (zs.map PyData.str)=0:=by
 induction zs with
 | nil=>exact%[ρ,ρ|ρ]
 | cons z zs a=>simp only[Yo,PyData.showableAll,PyData.hasDictAll,PyData.depthAll,a.1,a.2.1,a.2.2];exact%[ρ,ρ|ρ]
def wM{zs:ZC}(h:∀z∈zs,~~~z<=30/\∀c∈z.cps.toList,c<16^8):PyData.leavesShortAll 8 (zs.map PyData.str)=true/\PyData.weightAll (zs.map PyData.str)<=31* ~~~zs:=by
 induction zs with
 | nil=>exact%[ρ|Zi _]
 | cons z zs d=>
   have%[a|b]:=d λy e=>h y (Zk _ e)
   have%[l|c]:=h z (Zm ..);simp only[Yo,PyData.leavesShortAll,PyData.weightAll,PyData.weight,a,Zr,Bool.and_true];have: ~~~z=z.cps.size:=rfl;exact%[all_eq_true.mpr λx f=>Zf (c x f)|⋯]
def wN{ss:List _}(h:∀p∈ss,~~~p.2<=3/\∀z∈p.2,~~~z<=30/\∀c∈z.cps.toList,c<16^8):PyData.showableAll (ss.map n8)=true/\PyData.hasDictAll (ss.map n8)=false/\PyData.depthAll (ss.map n8)<=1/\PyData.leavesShortAll 8 (ss.map n8)=true/\PyData.weightAll (ss.map n8)<=94* ~~~ss:=by
 induction ss with
 | nil=>exact%[ρ,ρ,Xb _,ρ|Zi _]
 | cons p ss f=>
   have%[a,b,c,d|e]:=f λy g=>h y (Zk _ g)
   have%[l|z]:=h p (Zm ..);have%[i,j|m]:=wL p.2;have%[g1|g2]:=wM z;simp only[Yo,n8,PyData.showableAll,PyData.showable,PyData.hasDictAll,PyData.hasDict,PyData.depthAll,PyData.depth,PyData.leavesShortAll,PyData.leavesShort,PyData.weightAll,PyData.weight,i,j,m,g1,Zr];exact%[a,b,⋯,d|⋯]
section
#version
def BE{k:ZC}{x:V}{j:Nat}(h:(k\3)[j]?∣x):∃z,k[j]?∣z/\x= .str z:=by
 rw[Zl]at h;have%[z,e|rfl]:=map_eq_some_iff.mp h;exact%[z,e|ρ]
def uO{k l:ZC}(h:k\3=l\3):k=l:=(List.map_inj_right λ_ _=>V.str.inj).mp h
def BG(I:Inv X pins σ H s){A:Around}{a b:Addr}{k l:ZC}(g:H a&&&k\3)(f:H b&&&l\3)(q:A.units<cLine):EqAt A s (.ref a) (.ref b) (decide (k=l)):=by
 by_cases e:a=b
 .subst e;rw[g]at f;rw[Zf (uO (HO.tup.inj (Za f)))];exact EqAt.same _
 .have%[us,m,r|_]:=I.tuple (SqT.of g);have%[vs,n,v|_]:=I.tuple (SqT.of f);have d:=RcAt.tuples r v q λj o p=>by
   have%[x,ex|w]:=eC m o;have%[y,B|C]:=eC n p;have%[z,E|rfl]:=BE ex;have%[u,G|rfl]:=BE B;have:=Aj (A:=A.in1) (s:=s) w C rfl rfl;rw[show eqV _ _=decide (k[j]? =l[j]?) by rw[E,G];show(z==u)=_;by_cases c:z=u<;> simp[c]]at this;exact this
  rw[show((List.range _).all _&&us.toArray.size==vs.toArray.size)=decide (k=l) by
   rw[Zp,Zp,<-m.length,<-n.length,Bool.eq_iff_iff,Zv,all_eq_true,decide_eq_true_iff];refine%[λ⟨o,p⟩=>ext_getElem? λi=>?_|λh=>by lia]
   grind]at d
  exact EqAt.of_refs e d
end
section
variable{X:Cx}
nonrec abbrev xK:R2:=λx y H Q=>∃(a p:Addr) (k:ZC) (ws:ZH),x= .ref a/\y= .ref p/\H a&&&k\3/\H p∣.lst (ws\0)/\(∀t∈ws,H t.1&&&t.2\3)/\k∈ws\2/\Q (.bl false) H
open Classical in
def zk(f:X.A.units+64<cLine):OpR X (compareOp .NotIn) xK:=by
 intro pins s C H x y v u Q I g i h;have%[a,p,k,ws,rfl,rfl,l,m,hw,n|q]:=h;cases g;cases i;have%[us,r,pl|_]:=I.list (SqL.of m);have of:∀y∈us,∃t∈ws,y= .ref t.1:=λy c=>by
  have%[j,d|rfl]:=List.getElem_of_mem c;have%[x,ex|rr]:=eC r (d);rw[Zl]at ex;have%[t,b|rfl]:=map_eq_some_iff.mp ex;exact%[t,Z8 b|(rr)]
 refine notIn_listAt (λv=>decide (∃t∈ws,v= .ref t.1/\t.2=k)) pl.isList (λy c=>?_) %[.bl false,H,I,?_|q]
 .have%[t,b|rfl]:=of y ↑c;have:=BG I (A:=X.A.in1) (hw t b) l ⋯;rw[show decide _=decide (t.2=k)from ?_]
  .exact this
  .rw[Bool.eq_iff_iff,decide_eq_true_iff,decide_eq_true_iff];refine%[λ⟨t',o,w,z⟩=>?_|λh=>%[t,b,ρ|h]];have e:=hw t' o;rw[<-Value.ref.inj w,hw t b]at e;rw[<-z,uO (HO.tup.inj (Za e))]
 .have%[t,b|e]:=Xl n;have%[j|d]:=Xc b;have%[u,f|B]:=r.get (by rw[Zl,d];rfl);cases B;rw[show us.toArray.any _=true from ?_]
  .rfl
  .rw[List.any_toArray,any_eq_true];exact%[_,Z8 f|Zf %[t,b,ρ|e]]
def BH(a:bI k X.A):OpQ X (compareOp .NotIn) xK:=⟨zk a.units⟩
end
noncomputable abbrev Cx.tryV(X:Cx)(pn:ZF)(E:St->XK):Cx:={X with pn:=pn,xe:=λe s'=>∃pins a H s,Inv ({X with pn:=pn}) pins a H s/\CXO X.prog X.w X.stack H s (E a) e s'}
abbrev El(CX:CXT)(X:Cx)(E:St->XK):Prop:=∀pins (a:St) H s e s',Inv X pins a H s->CX X.stack H s (E a) e s'->X.xe e s'
def zo{X:Cx}:El (CXO X.prog X.w) (X.tryV pn E) E:=by
 intro pins a H s e s' I %[b,B,cls,c,d,rfl,F|q];exact%[pins,a,H,s,%[Hb I.ok _ _,I.os,I.bare,I.base,I.loc,I.cell,I.free,I.freeC,I.pin,I.hok|I.len],b,B,cls,c,d,ρ,F|q]
abbrev Em(K:ZB)(D:Addr)(E:St->XK)(len i:Nat)(e ts:TS):TS:=λDn f H=>e Dn f H/\∀b cls d c,E b cls d c->∃C,cls= .ref C/\subIn K (.ref C) (.ref D)∣true/\
 ∀a,~~~b=len->c a=none->ts (Dn.gone i) (b.set i (some (.ref a))) (upd c a (ExH a C d))
def DE{X:Cx}{D:Addr}(l:X.stack=X.env::X.outer)(hf:X.env.frame∣X.env.locals)(hN:X.N.Nodup)(hi:X.N[i]?∣n)
 (hk:X.env.kindOf n∣.local) (hl:X.env.scope.names.lookup n∣.local) (hg:Gl X x) (hm:X.mg x∣.ref D) (c:Cat X.K D) (m:∀pn,PSs (X.tryV pn E) L tb) (h:∀a,PSs (X.suiteX a) (M::o) ts)
 (ab:(x==("__debug__":Str))=false):
 PS X (.Try L [.ExceptHandler (some (.Name x p)) (some n) (M::o) N] [] [] pos) (Em X.K D E X.N.length i tb ts):=by
 intro pins s σ H Dn I %[h1|h2];refine wpAny_Try_except (wpAny_mono (m _ [] s σ H Dn (I.toPn _) h1) (λf s1 q=>?_) λe s1 q=>?_)
 .have q':=SP.ofPn q;cases f with
  | next=>exact wpAny_execs_nil q'
  | brk=>exact q'
  | cont=>exact q'
  | ret u=>exact q'
 .have%[ac,ag,H1,s2,I1,A,B,cls,dx,H',rfl,F|qE]:=q;have%[C,rfl,O|ai]:=h2 ag cls dx H' qE;refine xC (.inr rfl) (l▸I.ok.frames) hf (l▸F).up λha ua T=>sq ua λhb ub U=>?_
  have%[un|al]:=F.fly ub.1 (T.trans U);have J:=(I1.call' (s':=(s1>>>hb)) F.os un al F.bare λb z=>absurd z ∅).ofPn;have%[_,_,_,oe,vs,eb,an,a0,a1|_]:=id ub;refine wpAny_handleBy_cons (codeAny_handlers_test (e9 (J.toSuite A) hg hm (AU J.kIn c.ty c.ex c.cd eb an O (codeAny_handlers_suite_as (sq ub λhc uc aq=>?_))) ab)) (by intro q;cases q);have%[ar|Y]:=F.fly uc.1 ((T.trans U).trans aq);have%[_,_,_,oc,vc,ec,as,aR,aU|_]:=id uc;have aa:=I1.ofPn;refine jE (v:= .ref A) (aa.stood3 (λ_ z=>z) ((I1.call' (s':=(s1>>>hc)) F.os ar Y F.bare λb z=>absurd z ∅).ofPn) F.free F.new (ExH.ok ec as aR aU)) hN hi (.inl hl) rfl (λs4 J4=>wpAny_mono (h A pins s4 _ _ _ (J4.toSuite A) (ai A aa.len F.free)) (λf s5 q5=>?_) λ_ _ z=>z.elim) (.inr hl);have d:∀{g:St} {G:Hp} {Q:Unit->Shared->Prop},Inv (X.suiteX A) pins g G s5->(∀s',Inv X pins _ G s'->Q () s')->
   (X⁻¹) (do bindName X.env n _;unbindBehindTheSuite X.env n N) Q X.xe s5:=λj h5=>Dd (j.ofSuite I.ok) hN hi hk h5
  cases f with
  | next=>
    have%[g,G,j|w]:=q5;exact d j λs' y=>%[_,_,y|w]
  | brk=>
    have%[g,G,j|w]:=q5;exact d j λs' y=>%[_,_,y|w]
  | cont=>
    have%[g,G,j|w]:=q5;exact d j λs' y=>%[_,_,y|w]
  | ret u=>
    have%[v,g,G,j,r|w]:=q5;exact d j λs' y=>%[v,_,_,y,r|w]
def tryV{X:Cx}{D:Addr}(E:St->XK)(f:X.stack=X.env::X.outer)(m:X.env.frame∣X.env.locals)(o:X.N.Nodup)(hi:X.N[i]?∣n)
 (q:X.env.kindOf n∣.local) (r:X.env.scope.names.lookup n∣.local) (s:Gl X x) (u:X.mg x∣.ref D) (c:Cat X.K D) (j:(x==("__debug__":Str))=false) (d:∀pn,QSs (X.tryV pn E) g v) (b:∀a,QSs (X.suiteX a) (h::e) ts):
 QS X (.Try g [.ExceptHandler (some (.Name x p)) (some n) (h::e) l] [] [] pos) (Em X.K D E X.N.length i v ts):=
 ⟨DE f m o hi q r s u c (λpn=>(d pn).h) (λa=>(b a).h) j⟩
abbrev BI(sp:Sp)(E:St->XK)(t:TA):TE:=λa H Q=>t a H λvs b=>sp vs b Q (E a)
def Hv{X:Cx}(w:El (CXO X.prog X.w) X E)(C:AY X.prog X.w X.K X.mg X.base j x ps sp)(y:bI k X.A)(z:Gl X x)(c:Nat.ble j k=true)
 (d:(x==("__debug__":Str))=false) (g:(e::n).any bd=false) (A:QA X (e::n) t):QE X (.Call (.Name x p) (e::n) [] pos) (BI sp E t):=by
 rw[Zw,X3]at g;have%[f,M,F,B,G|J]:=C.ex;refine⟨λpins s i H Q I h=>wpAny_Call_Name_kw (e9 I z B (callWith_K I.ok.mod.kin G (thP (A.h pos pins s i H _ I h) λus l vs m a r q=>%[a.kIn|?_]) (aB g.1) (dj g.2)) d)⟩;have o:=r.append .nil;have v:sp (vs++[]) m Q (E i):=by rw[Zx];exact q
 refine wpAny_call (codeAny_mono (F.run X.A X.stack l m _ _ _ Q _ (y.mono (Yb c)) a.env0 (J l us a.kIn (~~~o▸F.len _ _ _ _ v)) o v) λr s' b=>?_);cases r with
 | error e=>exact w pins i m l e s' a b
 | ok L=>
   cases L with
   | ret u=>exact a.after b
   | next=>exact False.elim b
   | brk=>exact False.elim b
   | cont=>exact False.elim b
section
variable{P:Program}{w:World}{K:ZB}{mg:ZD}{base:Heap}{k:Nat}{f:Addr}{fd:FuncData}{ps:ZC}{sp:Sp}
def dR.frozen(F:dR P w K mg base CX0 k f fd ps sp):dR P w K mg base CX0 k f fd ps (λvs H Q E=>∃d a,~~~vs= ~~~ps/\H d∣.dK a/\∀o,sp vs (upd H d (.frz o (.dK a))) (λv L=>Q v (upd L d (.dK a))) E):=by
 refine%[λvs H Q E ⟨d,a,l,_⟩=>l|λA outer s H args us vs Q E M g B N ⟨d,a,_,C,O⟩=>?_];have%[o|T]:=(g.hok d _ C).there;have h:∀{b:Addr},H b=none->b≠d:=λe z=>by rw[z,C]at e;cases e
 have ne:∀{b:Addr} {u:HO},H b∣u->(∀q,u≠ .dK q)->b≠d:=λe n z=>by rw[z,C]at e;cases e;exact n _ rfl
 have st:∀{b:Addr} {u:HO},bV P w H s.heap b u->bV P w (upd H d (.frz o (.dK a))) s.heap b u:=λq=>q.stay (λ_ _ _ q=>q) (λc q=>(aj (ne q λ_ z=>nomatch z))▸q) λc xs q=>(aj (ne q λ_ z=>nomatch z))▸q
 have G:vP P w K mg base A outer s (upd H d (.frz o _)):=⟨g.frames,g.mod,λb i e=>%[(g.bs b i e).1|by rw[aj (h (g.bs b i e).2)];exact(g.bs b i e).2],g.bsz,g.funs,λb B=>by rw[aj (h (g.frf b B))];exact g.frf b B,λb u e=>by
  by_cases c:b=d
  .subst c;rw[ae]at e;cases e;exact%[T|st (g.hok b _ C)]
  .rw[aj c]at e;exact st (g.hok b u e),g.bare⟩
 refine codeAny_mono (F.run A outer s _ args us vs _ E M G B N (O o)) λr s' m=>?_
 cases r with
 | error e=>exact m
 | ok U=>
   cases U with
   | next=>exact m
   | brk=>exact m
   | cont=>exact m
   | ret u=>
     have%[v,I,Y,h2,j,J,h5|h6]:=m;have hf:=j.frzs d o _ ae;have p:∀{b:Addr} {u:HO},I b∣u->(∀o q,u≠ .frz o q)->b≠d:=λe n z=>by grind
     have y:∀{b:Addr} {u:HO},bV P w I s'.heap b u->bV P w (upd I d (.dK a)) s'.heap b u:=λq=>q.stay (λ_ _ _ q=>q) (λc q=>(aj (p q λ_ _ z=>nomatch z))▸q) λc xs q=>(aj (p q λ_ _ z=>nomatch z))▸q
     refine%[v,_,Y,h2,%[λb i e n=>j.keep b i e ((aj (h n))▸n),λb i e n=>j.slot b i e ((aj (h n))▸n),λb i e n hx=>?_,j.there,λb xs e=>?_,λb i u e=>?_|λb q e=>?_],λb u e=>?_,h5|h6]
     .rw[aj (h n)];exact j.free b i e ((aj (h n))▸n) hx
     .have n:=ne e λ_ z=>nomatch z
      rw[aj n];exact j.tups b xs ((aj n)▸e)
     .have n:=ne e λ_ z=>nomatch z
      rw[aj n];exact j.frzs b i u ((aj n)▸e)
     .have n:=ne e λ_ z=>nomatch z
      rw[aj n];exact j.tbls b q ((aj n)▸e)
     .by_cases c:b=d
      .subst c;rw[ae]at e;cases e;exact y (J b _ hf).2
      .rw[aj c]at e;exact y (J b u e)
end
abbrev Itk(d:Addr)(o:Obj)(a:List (Key×V)):It:=⟨λi H=>H d∣.frz o (.dK a)/\i< ~~~a,λi H x b=>b=H/\∃k v,a[i]?∣(k,v)/\x=kV k,λi H=>H d∣.frz o (.dK a)/\ ~~~a<=i⟩
abbrev BJ(c:TE):TI:=λe H R=>c e H λv b=>∃d o a,v= .ref d/\b d∣.frz o (.dK a)/\R (Itk d o a) b
def DF(h:jc k v=true):aV (kV k) v:=by
 rcases bi h with⟨i,t,rfl,rfl⟩|⟨x,t,rfl,rfl⟩
 .exact%[t|ρ]
 .exact%[t|ρ]
def Gh{a:List _}{vs:List _}(r:KV a vs){i:Nat}{k:Key}{v:V}(e:a[i]?∣(k,v)):∃u,vs[i]?∣(k,u)/\aV v u:=by
 induction r generalizing i with
 | nil=>cases e
 | @cons p q ps qs b t c=>
   cases i with
   | zero=>
     obtain rfl:p=(k,v):=Za e;exact%[q.2,by rw[show k=q.1 from b.1];rfl|b.2]
   | succ i=>exact c e
def oa(r:KV a vs): ~~~a= ~~~vs:=by
 induction r with
 | nil=>rfl
 | cons _ _ b=>simp_all
section
variable{P:Program}{w:World}{K:ZB}{tg:Expr}
def BK{X:Cx}(I:Inv X pins n H s)(e:H d∣.frz o (.dK a))(b:o.data= .dict f h):∃vs,KV a vs/\s.heap.DictAt (aH X.prog X.w) d vs h:=by
 have%[g,p,q,vs,r,u,i,j,g',l,c|m]:=I.hok d _ e;rw[g]at g';cases g';rw[b]at c;cases c;exact%[vs,r,_,f,g,l,b|m]
def BL(d it:Addr)(o:Obj)(kvs:List _):pA P w K tg (Itk d o kvs) [it] it (λi h=>∃es ep,o.data= .dict es ep/\h.IsKeyIter it d i kvs.length ep) where
 mem:=by simp
 obj:=λi h st b hb=>by
  have e:=↑hb
  subst e;have%[_,_,_,o,e,c|d]:=st;exact%[o,e|λv z=>by rw[d]at z;cases z]
 keep:=λi h h' ⟨es,ep,ho,st⟩ k=>%[es,ep,ho|st.at λo e=>k it ∅ o e]
 item:=by
  intro X hP hw hK hc i pins s σ H E I hf st hg;subst hP hw hK;have%[es,ep,ho|st]:=st;have%[hd|hi]:=hg;have%[vs,r|da]:=BK I hd ho;have ln:=oa r;have%[u,hu|ru]:=Gh r (Z4 hi);have%[f0,f1,f2,f3,f4|f5]:=hf it ∅;rw[ln]at st;refine wpAny_pyNext_dict_item st da hu λkey h' hk st' sb=>?_
  rw[<-ln]at st';have%[o',e,c|dd]:=id st';exact%[key,ρ|pT e c dd (!1) %[_,H,(I.turned (λb o hb e=>(sb.2 b hb).trans e) f0 f1 f3 f4 f5),DF hk,%[ρ,_,_,Z4 hi|ρ],%[es,ep,ho|st']|λb hb=>(hf b hb).1]]
 done:=by
  intro X hP hw hK hc i pins s σ H E I hf st hg;subst hP hw hK;have%[es,ep,ho|st]:=st;have%[hd|hi]:=hg;have%[vs,r|da]:=BK I hd ho;have ln:=oa r;have%[f0,f1,f2,f3,f4|f5]:=hf it ∅;rw[ln]at st;exact wpAny_pyNext_dict_end (I.ok.hd hc) st da (Xh ⋯) λh' eb=>%[rfl|I.turned (λb o hb e=>eb b o hb e) f0 f1 f3 f4 f5]
 self:=λ_ _ _ _ _ ⟨_,_,_,st⟩ h=>wpAny_pyIter_keyiter st h
def DG{X:Cx}(n:PE X l p):PI X tg l (BJ p):=by
 intro pins s u H R I h;refine thP (n pins s u H _ I h) λv c x y a z A=>?_
 have%[d,o,f,e,B|q]:=A;subst e;cases z;have%[g,N,C,vs,r,E,i,j,g',G,m|J]:=a.hok d _ B;have L:c.heap.DictAt _ d vs j:=%[E,i,g',G,m|J]
 rw[g]at g';cases g';refine wpAny_pyIter_dict C L %[⇑c,[⇑c],_,_,y,rfl,a.kept λb o e=>Z7 _ e,BL d _ o f,%[i,j,m,_,Zj _ rfl,rfl|by rw[oa r];rfl],λb M=>?_|q];have e:=↑M
 subst e;exact a.fpOk (Zi _) (a.hok.fresh (Zi _))
def Hw{X:Cx}(a:QE X l b):QI X tg l (BJ b):=⟨DG a.h⟩
variable{elts:List Expr}{kt:Nat}{tp:Pos}
end
section
variable{X:Cx}
abbrev Hx:V->List V->Hp->VK->Prop:=λx vs H Q=>asR x λa=>∃b,vs=[.ref b]/\∃c more,a≠b/\H a∣.dK c/\H b∣.dK more/\ ~~~c+ ~~~more<=sizeLine/\Q .non (upd H a (.dK (iu c more)))
def Gi:MtM X "dict.update" Hx:=by
 intro pins s B H x vs v us Q I m n h;have%[a,rfl,b,rfl,o,more,ne,g,p,i|q]:=d9 h;cases m;have%[u,rfl|r]:=n.one;cases r;have%[z,w,vs,d|j]:=lI I.hok g;have%[C,e,ms,c|f]:=lI I.hok p;exact call_meetsIn PySem.F.slot_dict_update j.typeIs PySem.F.entry_dict_update (PySem.F.args_dict_update_2 _ _) (meets_dict_update _ a b ne e) %[vs,ms,j,f,by rw[<-oa d,<-oa c];exact i|λh' l E y=>%[.non,_,jI I (g▸True.intro) y (let⟨q,_,_,A,_⟩:=l;%[q|A]) (mX (Ye (fF _ _) i) w (KV.merge c d) l),rfl|q]]
def BM:MtQ X "dict.update" Hx:=⟨Gi⟩
end
def Cal.imp{P:Program}{K:ZB}(C:Cal P w K mg base k x ps sp)(h:∀vs H Q E,a vs H Q E->sp vs H Q E):Cal P w K mg base k x ps a:=by
 have%[f,b,F|r]:=C.ex;exact%[f,b,F.imp h|r]
def Cal.frozen{P:Program}{K:ZB}(C:Cal P w K mg base k x ps sp):Cal P w K mg base k x ps (λvs H Q E=>sp vs H Q E\/∃d a,~~~vs= ~~~ps/\H d∣.dK a/\∀o,sp vs (upd H d (.frz o (.dK a))) (λv i=>Q v (upd i d (.dK a))) E):=by
 have%[f,j,F|r]:=C.ex;refine%[f,j,%[λvs H Q E h=>h.elim (F.len vs H Q E) (F.frozen.len vs H Q E)|λA outer s H args us vs Q E b c e g h=>h.elim (F.run A outer s H args us vs Q E b c e g) (F.frozen.run A outer s H args us vs Q E b c e g)]|r]
section
variable{X:Cx}
variable{prog:Program}{w:World}{A:Around}{R:Result->Shared->Prop}{I S:Addr}{fp wr:List Addr}{n:Nat}{P:Nat->Value->Prop}{St:Nat->Heap->Prop}{val:Nat->Int}{kn:Str}{d:Value}
variable{e:Expr}{v:Expr}{te:TE}{tv:TE}{p:Pos}{pos:Pos}{kpos:Pos}
variable{K:ZB}
variable{s:Shared}{E:ZE}
end
section
variable{X:Cx}
nonrec abbrev Hy:R2:=λx y H Q=>∃a b xs ys,x= .ref a/\y= .ref b/\H a<*xs/\H b<*ys/\ ~~~xs= ~~~ys/\(∀(j:Nat) (x y:V),xs[j]?∣x->ys[j]?∣y->uM H x y)/\Q (.bl false) H
def Gj(B:X.A.units+64<cLine):OpR X (compareOp .NotEq) Hy:=by
 intro pins s C H x y v u Q I d e h;have%[a,b,xs,ys,rfl,rfl,f,g,i,l|q]:=h;cases d;cases e;have%[us,d,m|_]:=I.list (SqL.of f);have%[vs,e,n|_]:=I.list (SqL.of g);have c:=RcNeAt.lists (A:=X.A) m.isList n.isList (by rw[Zp,Zp,<-d.length,<-e.length,i]) (by omega) λj o p=>by
  have%[x,ex|r]:=eC d o;have%[y,w|z]:=eC e p;exact nZ I (l j x y ex w) ⋯ r z
 rw[show(List.range us.toArray.size).all _=true by simp]at c;exact c _ _ _ _ %[.bl _,H,I,rfl|q]
def Hz{k:Nat}(a:bI k X.A):OpQ X (compareOp .NotEq) Hy:=⟨Gj a.units⟩
variable{pins:ZF}{σ:St}{H:Hp}{s:Shared}
end
def HA{X:Cx}{K:ZB}(h:X.K=K)(g:X.calm=true):cp X (.builtin "any") (λxs H Q=>∃(p:Addr) (bs:List Bool),xs=[.ref p]/\SqL K H p (bs.map V.bl)/\Q (.bl (bs.any id)) H):=by
 subst h;refine⟨λ{pins s C H xs us Q} I r h=>?_⟩;have%[p,bs,rfl,j|q]:=h;have%[u,rfl|l]:=cR r;cases l;have%[its,f,pl|E]:=I.list j;have m:p<⇑s:=by have%[o,n|_]:=pl.isList;exact Zu n
 have a: ~~~bs=its.toArray.size:=by rw[Zp,<-f.length,Z6]
 refine call_any_walk (wpAny_pyIter_list pl.isList ?_);refine%[⇑s,[⇑s,p],[⇑s],its.toArray.size,_,_,λi=>bs.getD i false,ρ,Walks.list (A:=X.A.in1) (I.ok.hd g) _ p (Zs m) its.toArray,%[%[_,Zj _ rfl,ρ|ρ]|pl.isList.push _],?_|?_]
 .intro i v s' w G y c;have%[b,d|rfl]:=rW f ↑y;have c:w (bs.getD i false) s':=c;rw[Zc,d]at c;exact wpAny_truthy_bool c
 .intro h' tk z;rw[<-a,show(List.range bs.length).any _=bs.any id by
   have e:(List.range bs.length).map (λi=>bs.getD i false)=bs:=Zy ∅ λi J B=>by simp[B]
   rw[show(List.range bs.length).any _=((List.range bs.length).map λi=>bs.getD i false).any id by rw[any_map];rfl,e]]
  exact%[.bl _,H,I.kept λb o e=>z b o (λd=>absurd (Xk d) (Zs (Zu e))) (Z7 _ e),ρ|q]
def HB{X:Cx}{K:ZB}{a:Expr}{b:TE}{pos e:Pos}{lo hi:Option Expr}{c d:TO}(_:X.K=K)(f:QE X a b)(g:QO X lo c)(h:QO X hi d):QE X (.Subscript a (.Slice lo hi none e) pos) (tSl Fp b c d):=⟨tK Fq f.h g.h h.h⟩
def valT{X:Cx}{a:Expr}{c:TE}(d:∀b,isTrue a X.env b=(do let v<-b;standAt a.pos;holding [v] (truthy v)))(e:QE X a c):QT X a (tB c):=⟨Ex e.h d⟩
abbrev pM(key:Nat->Str)(val:Nat->V)(n:Nat):List (Key×V):=(List.range n).foldl (λa j=>cE a (Sum.inr (key j)) (val j)) []
def kS(key:Nat->Str)(val:Nat->V)(n:Nat):pM key val (n+1)=cE (pM key val n) (Sum.inr (key n)) (val n):=by
 unfold pM;rw[X6,foldl_append];rfl
def og(key:Nat->Str)(val:Nat->V):∀n,~~~(pM key val n)<=n
 | 0=>Zi _
 | n+1=>by
   rw[kS];have:=dU (pM key val n) (Sum.inr (key n)) (val n);have:=og key val n
   lia
section
variable{prog:Program}{w:World}{A:Around}{R:Result->Shared->Prop}{I:Addr}{fp wr:List Addr}{G:Array GenState->Array GenState->Prop}{n:Nat}{P:Nat->Value->Prop}{St:Nat->Shared->Prop}
def wO(W:WalksS prog w A.in1 I fp wr G n P St)(d:Addr)(z:d∉fp)(B:Nat->Addr)(key:Nat->Str)(val:Nat->V)(O:∀i v,P i v->v= .ref (B i))(L:∀i,i<n->B i∉d::wr)(p:n<=sizeLine):
 ∀(k i:Nat) (j:Int) (s:Shared),n-i=k->i<=n->St i s->(∃vs,KV (pM key val i) vs/\s.heap.DictOf (aH prog w) d vs)->
  (∀i,i<n->∃a t u m,s.heap.get? (B i)∣a/\a.cls= .type "tuple"/\a.data= .seq #[.str (key i) t,u] m/\aV (val i) u)->
  (∀s',Moved (d::wr) G s s'->(∃vs,KV (pM key val n) vs/\s'.heap.DictOf (aH prog w) d vs)->R (.ok (.ret .none)) s')->codeAny (model prog w) A (.builtin "dict.update.loop" %[[.ref d,.ref I,.int j 0,.none]|[]]) R s:=by
 have out:d∉wr:=λh=>z (W.sub _ h)
 have more:∀b∈wr,b∈d::wr:=λb p=>Zk _ p
 have c:∀{h h':Heap} {vs:List (Key×Value)},(∀o,h.get? d∣o->h'.get? d∣o)->h.DictOf (aH prog w) d vs->h'.DictOf (aH prog w) d vs:=λk D=>by
  have%[o,Q,T,U|r]:=D;exact%[o,Q,T,k o U|r]
 intro k
 induction k with
 | zero=>
   intro i j s Y hi st C M f;have e:i=n:=by lia
   subst e;refine codeAny_builtin qF ?_;rw[Around.under_plainId iX _];show wpAny _ A.in1 (pyNext (.ref I)>>= _) _ _ s;refine Z2 (W.done s _ _ st λl y=>?_);show wpAny _ A.in1 (Builtin.Dict.addKeywords d []>>= _) _ _ l;refine Z2 (Z3 ?_);show wpAny _ A.in1 (ret Value.none) _ _ l;have%[vs,r|D]:=C;exact Z3 (f l (y.mono more) %[vs,r|c (λo e=>y.heap d o out e) D])
 | succ k ih=>
   intro i j s Y hi st C M f;have lt:i<n:=by lia
   refine codeAny_builtin qF ?_;rw[Around.under_plainId iX _];show wpAny _ A.in1 (pyNext (.ref I)>>= _) _ _ s;refine Z2 (W.item i s _ _ lt st λv l pv E y=>?_);obtain rfl:=O i v pv;have%[vs,r|D]:=C;have D1:=c (h':=l.heap) (λo e=>y.heap d o out e) D;have N:∀i,i<n->∃a t u m,l.heap.get? (B i)∣a/\a.cls= .type "tuple"/\a.data= .seq #[.str (key i) t,u] m/\aV (val i) u:=λi hi=>by
    have%[a,t,u,m,g|q]:=M i hi;exact%[a,t,u,m,y.heap _ _ (λh=>L i hi (more _ h)) g|q]
   have%[a,t,u,m,g,hc,hd|ru]:=N i lt;refine Z2 (wpAny_holding (Z2 (wpAny_tryCatch ?_)));refine Z2 (wpAny_typeOf %[_,g|hc] ?_);refine Z2 (wpAny_seqItems g hd (Z3 ?_));have vl: ~~~vs<=sizeLine:=by
    rw[<-r.length];exact Ye (og key val i) ⋯
   refine wpAny_holding (wpAny_dictSet_pairs (lE prog w (key i) t) D1 λh2 D2 H=>?_);refine Z3 %[plainId_quiet iX _|ih (i+1) _ _ ⋯ lt (W.frame _ l _ _ E (Yd _) λb p o e=>?_) %[_,by rw[kS];exact r.put _ ru|D2] (λi hi=>?_) λs3 m3 J=>?_]
   .rw[H.2 b (λq:b=d=>z (q▸p))];exact e
   .have%[a,t,u,m,g|q]:=N i hi;exact%[a,t,u,m,(H.2 _ (λq=>L i hi (by rw[q];exact Zm))).trans g|q]
   .refine f s3 (Moved.trans W.gtrans ((y.mono more).then_heap (Yd _) λb o p e=>?_) m3) J;rw[H.2 b (λq:b=d=>p (by rw[q];exact Zm))];exact e
end
section
#where
def kT{l:Addr}{o:Obj}{a:ZK}{c:Nat}{M:Nat->Addr}{key:Nat->Str}{val:Nat->V}{Q:ZE}(hh:A.handled=none)(hx:s.heap.get? l∣o)(N:o.cls= .type "list")(j:o.data= .seq a c)(hd:o.dict=none)(hb:a.size<=sizeLine)
 (hv:∀(i:Nat) v,a[i]?∣v->v= .ref (M i)) (hT:∀i,i<a.size->∃d t u m,s.heap.get? (M i)∣d/\d.cls= .type "tuple"/\d.data= .seq #[.str (key i) t,u] m/\aV (val i) u)
 (hQ:∀(h':Heap) (tk:Nat) vs,KV (pM key val a.size) vs->h'.DictOf (aH prog w) ⇑s vs->(∀b o,s.heap.get? b∣o->h'.get? b∣o)->Q (.ref ⇑s) {s with heap:=h',toks:=tk}):
 ↥A (call (.type "dict") [.ref l]) Q E s:=by
 refine callType_codes (Q₁:=λobj n=>obj= .ref ⇑s/\n={s with heap:=s.heap.push {cls:= .type "dict",data:= .dict #[]}}) PySem.F.kt_called_dict (PySem.F.kt_typeCall_dict_1 _) PySem.F.entry_dict_init (kt_code_dict_new _ %[rfl|rfl]) ?_;intro obj n %[rfl|rfl];have f:(s.heap.push {cls:= .type "dict",data:= .dict #[]}).DictOf (aH prog w) ⇑s []:=Heap.DictOf.new s.heap;have p:(s.heap.push {cls:= .type "dict",data:= .dict #[]}).get? l∣o:=Z7 _ hx;refine%[f.typeIs,PySem.F.args_dict_init_2 _ _|?_];unfold Builtin.«dict.__init__»;refine Z2 ?_;unfold Builtin.Dict.selfAndRest;refine Z2 (wpAny_notOrdered_dict f.typeIs ?_);show wpAny _ _ (pure (⇑s,[Value.ref l])) _ _ _;refine Z3 ?_;show wpAny _ _ (Builtin.Dict.updateFrom "dict.__init__" ⇑s (.ref l) [] .none) _ _ _;unfold Builtin.Dict.updateFrom;refine Z2 (wpAny_typeOf (T:="list") %[_,p|N] ?_);have h2:A.in1.in1.handled=none:=by simp[hh]
 refine Z2 (zf p N j hd h2 λH aa O=>?_);refine Z2 (wpAny_rule ?_);have y:H.IsList l a:=%[o,O _ _ p,N,c|j]
 refine Z2 (wpAny_pyIter_list y ?_);refine Z3 %[plainId_quiet iX _|?_];have z:∀b d,s.heap.get? b∣d->H.get? b∣d:=λb d e=>O _ _ (Z7 _ e)
 have B:=Zu hx;have d1:∃od I J,H.get? ⇑s∣od/\_:=let⟨od,I,J,g,r⟩:=f;%[od,I,J,O _ _ g|r];have h:⇑s<H.objs.size:=by have%[_,_,_,g|_]:=d1;exact Zu g
 refine wO ((Walks.list h2 _ l (Zs (Nat.lt_trans B h)) a).toS) ⇑s ?_ M key val hv (λi hi=>?_) hb a.size 0 0 _ ⋯ (Xb _) %[%[_,Zj _ rfl,rfl|rfl]|y.push _] %[[],.nil|?_] (λi hi=>?_) ?_
 .simp only[Yt,X2,or_false,not_or];exact%[Zs h|Yw B]
 .have%[d,t,u,m,g|_]:=hT i hi;have C:=Zu g;simp only[Yt,X2,or_false,not_or];exact%[Zs C|Zs (Nat.lt_trans C h)]
 .have%[od,I,J,g|r]:=d1;exact%[od,I,J,Z7 _ g|r]
 .have%[d,t,u,m,g|q]:=hT i hi;exact%[d,t,u,m,Z7 _ (z _ _ g)|q]
 .intro s3 L %[vs,r|dd];have%[h',g',d',U|Y]:=s3;have eg:g'=s.gens:=L.gens;have ed:d'=s.drawn:=L.drawn;have eo:Y=s.os:=L.os;subst eg;subst ed;subst eo;refine%[ρ|hQ h' U vs r dd λb d e=>?_];have G:=Zu e;refine L.heap b d ?_ (Z7 _ (z _ _ e));simp only[Yt,X2,or_false,not_or];exact%[Zs G|Zs (Nat.lt_trans G h)]
end
abbrev jV(ps:List (Addr×Str×V)):List (Key×V):=ps.foldl (λa q=>cE a (Sum.inr q.2.1) q.2.2) []
def qJ(ps:List _)(key:Nat->Str)(val:Nat->V)(b:∀i q,ps[i]?∣q->key i=q.2.1/\val i=q.2.2):pM key val ps.length=jV ps:=by
 have:∀n,n<= ~~~ps->pM key val n=jV (ps.take n):=λn=>by
  induction n with
  | zero=>intro _;rfl
  | succ n c=>
    intro h;have a:=Z4 (show n< ~~~ps by lia);have%[d|e]:=b n _ a;rw[kS,c ⋯,X7,a,d,e];unfold jV;rw[foldl_append];rfl
 simp_all
section
variable{X:Cx}{K:ZB}
def wP(E:X.calm=true):bW X (.type "dict") (λxs H Q=>∃p ps,xs=[.ref p]/\SqL X.K H p (ps\0)/\(∀q∈ps,H q.1&&&[.str q.2.1,q.2.2])/\∀l,H l=none->Q (.ref l) (upd H l (.dK (jV ps)))):=by
 intro pins s σ H xs us Q I r h;have%[p,ps,rfl,G,J|q]:=h;have%[u,rfl|f]:=cR r;cases f;have%[its,y,%[o,n,L,j,M|d]|z]:=I.list G;have c:= ~~~y;rw[Z6]at c z;have w:its.toArray.size= ~~~ps:=!2
 have N:∀(i:Nat) v,its.toArray[i]?∣v->v= .ref ((ps[i]?.map _).getD 0):=λi v e=>by
  have e:=↑e
  have hi:i< ~~~ps:=by rw[c];exact(Xi e).1
  have%[u,A|f]:=y.get (by rw[Zl,Z4 hi];rfl);rw[e]at A;rw[Za A,Z4 hi];exact f
 refine kT (key:=λi=>(ps[i]?.map (·.2.1)).getD Str.empty) (val:=λi=>(ps[i]?.map (·.2.2)).getD .non) (I.ok.hd E) L j d M ⋯ N (λi hi=>?_) λh' tk vs B O k=>?_
 .have hi:i< ~~~ps:=by lia
  rw[Z4 hi];have%[_,ts,rt,T,g,U,m|C]:=(I.hok _ _ (J _ (Ya hi)))
  have%[a,b,e,%[t|Y]|eb]:=ip rt;rw[e,Y]at C;exact%[T,t,b,m,g,U,C|eb]
 .rw[w,qJ ps _ _ (λi q e=>by rw[e];exact%[ρ|ρ])]at B;have hl: ~~~(jV ps)<=sizeLine:=by
   rw[<-qJ ps (λi=>(ps[i]?.map _).getD Str.empty) (λi=>(ps[i]?.map _).getD .non) (λi q e=>by rw[e];exact%[ρ|ρ])];exact Ye (og _ _ _) z
  refine%[.ref ⇑s,_,I.laid k (Zi _) (mX hl ?_ B O),ρ|q _ I.fresh];exact beq_eq_false_iff_ne.mpr (Ne.symm (Zs I.big))
def xM(h:X.K=K)(a:X.calm=true)(_:bI k X.A):cp X (.type "dict") (λxs H Q=>∃p ps,xs=[.ref p]/\SqL K H p (ps\0)/\(∀q∈ps,H q.1&&&[.str q.2.1,q.2.2])/\∀l,H l=none->Q (.ref l) (upd H l (.dK (jV ps)))):=by subst h;exact⟨wP a⟩
end
abbrev HC(d:TE):TE:=λe H Q=>d e H λv b=>∃(a:Addr) (ss:ZH),v= .ref a/\b a∣.lst (ss\0)/\aK b ss/\ ~~~ss<=200/\(∀p∈ss,~~~p.2<=3/\∀z∈p.2,~~~z<=30/\∀c∈z.cps.toList,c<16^8)/\∀z:Str,~~~z<=200000->Q (.str z) b
def HD{X:Cx}{e:Expr}{c:TE}{pos:Pos}(i:X.A.guards∣[])(O:X.A.units+64<cLine)(j:QE X e c):QE X (.FormattedValue e 114 none pos) (HC c):=by
 refine⟨λpins s l H Q I h=>?_⟩;refine wpAny_FormattedValue_repr (thP (j.h pins s l H _ I h) λu m v o b r ⟨a,ss,p,w,y,T,z,q⟩=>?_);subst p;cases r;have%[us,A,pl|_]:=b.list (SqL.of w);have%[%[cls,U,data|Y],B,C,n|E]:=pl.isList;have%[as|G]:=n9 b y A;have%[J,L,f3,M|f5]:=wN z;have len:=PyData.shown_le 8 (!1) (.list (ss.map n8)) (by simpa only[PyData.leavesShort]using M);simp only[PyData.weight]at len;have f: ~~~(PyData.shown (.list (ss.map n8)))<=200000:=by lia
 have g: ~~~(PyData.shown (.list (ss.map n8)))<=sizeLine:=Ye f (!1);refine pyReprObj_of_reads (h₀:=m.heap) (d:= .list (ss.map n8)) (.list B C E G) (by simpa only[PyData.showable]using J) (λx=>by simp only[PyData.hasDict,L]at x;cases x) i (by simp only[PyData.depth];lia) (λ_ _ x=>x) (λh' t tk k=>?_) g;exact formatField_str (λt' N=>%[.str _,o,(b.kept k).tok _,%[_|rfl]|q _ f]) g
abbrev BN:V->List V->Hp->VK->Prop:=λx vs H Q=>asR x λl=>∃z,vs=[.str z]/\∃ss:ZC,H l<*ss\3/\z∈ss/\∀j,ss[j]?∣z->Q .non (upd H l (.lst ((ss.eraseIdx j)\3)))
def zq{X:Cx}:MtQ X "list.remove" BN:=by
 refine⟨?_⟩;intro pins s A H x vs v us Q I c d h;have%[l,rfl,z,rfl,ss,a,f|q]:=d9 h;cases c;have%[u,rfl|g]:=d.one;have%[t|rfl]:=g;have%[i,its,n,r,b|e]:=I.lstM a;rw[Z6]at b i;have%[j,m,o,_,p,w|y]:=qG t r b f;refine call_meets F.slot_list_remove %[_,e|rfl] F.entry_list_remove (F.args_list_remove_2 _ _) (MeetsSeq.list_remove l its.toArray n (.str z t) (isZ z) p j m w y (by rw[Zp];lia)) %[e|?_];refine%[.non,_,I.lset (its':=its.eraseIdx j) a e ?_ ?_ ?_,ρ|q j o]
 .show its.toArray.eraseIdxIfInBounds j=(its.eraseIdx j).toArray;rw[List.eraseIdxIfInBounds_toArray]
 .rw[List.eraseIdx_eq_take_drop_succ,Zd,map_take,map_drop,<-List.eraseIdx_eq_take_drop_succ];exact r.eraseIdx j
 .have:=kH ss j;rw[Z6]
  lia
abbrev HE(K:ZB)(c:TE):TI:=λd H R=>c d H λx b=>asR x λa=>(∃xs,SqL K b a xs)/\R (Itl K a) b
def cV{X:Cx}{K:ZB}{g l:Expr}{f:TE}(h:X.K=K)(i:QE X l f):QI X g l (HE K f):=by
 subst h;refine⟨λpins s j H R I h=>thP (i.h pins s j H _ I h) λv c x m d n r=>?_⟩;have%[a,rfl,%[xs|u]|q]:=d9 r;cases n;have%[its,y,p|z]:=d.list u;exact wpAny_pyIter_list p.isList ⟨⇑c,[⇑c],_,_,m,rfl,d.kept (t':=c.toks) λb o e=>Z7 _ e,pU a _,%[_,Zj _ rfl,rfl|rfl],λb w=>by
  obtain rfl:b=⇑c:=↑w
  exact d.fpOk (Zi _) (d.hok.fresh (Zi _)),q⟩
def HF{X:Cx}:OpQ X (binaryOp .Add) Ff:=⟨Fg⟩
def Gk{X:Cx}{K:ZB}{e:Expr}{lo hi:Option Expr}{a:TE}{b c:TO}{d pos:Pos}(h:X.K=K)(f:QE X e a)(g:QO X lo b)(i:QO X hi c):QE X (.Subscript e (.Slice lo hi none d) pos) (tSl (Fc K) a b c):=by subst h;exact⟨tK CJ f.h g.h i.h⟩
def jz{X:Cx}:OpQ X (binaryOp .Add) DZ:=⟨vI⟩
open PySem
def HG{K:ZB}{z:Str}{H:Hp}:tyV K "str" (.str z) H=True:=eq_true rfl
def tyL{K:ZB}{l:Addr}{H:Hp}{xs:List V}(h:SqL K H l xs):tyV K "list" (.ref l) H:= .inl %[rfl,_|h]
def tyD{K:ZB}{l:Addr}{H:Hp}{a}(h:H l∣.dK a):tyV K "dict" (.ref l) H:= .inr (.inr (.inl %[rfl|.inl %[_|h]]))
def cH{v:Type}{K:ZB}{l D:Addr}{us:List v}{f:v->V}{c:St}{H:Hp}{g:TG}{w:TT}{z:TE}{A:Hp->Prop}(Pv:Nat->List V->St->Hp->Prop)(B:Pv 0 [] c H)(r:∀i ys c H,Pv i ys c H->H l<*us.map f)
 (C:∀i ys c H (hi:i< ~~~us),Pv i ys c H->g (f us[i]) c H λa s=>w a s λb d=>if b=true then z a d λy q=>CK D us.length i Pv ys a y q else CN us.length i Pv ys a d) (E:∀ys c H,Pv us.length ys c H->A H):
 ∃W:Nat->Nat->List V->St->Hp->Prop,(∃m,W 0 m [] c H)/\∀i m ys h j,W i m ys h j->((Itl K l).stop i j/\A j)\/
  ((Itl K l).go i j/\∀x u,(Itl K l).yld i j x u->g x h u λa s=>w a s λb d=>if b=true then z a d λy q=>∃zs o,q D<*zs/\ ~~~zs<sizeLine/\o<m/\W (i+1) o (ys++[y]) a (upd q D (.lst (zs++[y])))
    else∃o,o<m/\W (i+1) o ys a d):=
 cK (n:= ~~~us) Pv B (λi ys c H hi p=>%[_,f us[i],SqL.of (r _ _ _ _ p)|by simp[hi]]) (λys c H p=>%[_,SqL.of (r _ _ _ _ p)|by simp]) (λi ys c H hi p x u ⟨e,G⟩=>by
  subst e;have:=G _ (SqL.of (r _ _ _ _ p));rw[Zl,Z4 hi]at this;obtain rfl:f us[i]=x:=Za this;exact C i ys c _ hi p) E
def cZ{j:Type}{K:ZB}{a:Addr}{us:List j}{f:j->V}{b:St}{H:Hp}{g:TG}{l:TS}{D:ik}(Pv:Nat->St->Hp->Prop)(q:Pv 0 b H)(r:∀i b H,Pv i b H->H a<*us.map f)
 (s:∀i u b H,us[i]?∣u->Pv i b H->g (f u) b H λc h=>l {D with nx:=Pv (i+1),ct:=Pv (i+1),bk:=D.nx} c h) (v:∀b H,Pv us.length b H->D.nx b H):
 ∃W:Nat->Nat->St->Hp->Prop,(∃m,W 0 m b H)/\∀i m b H,W i m b H->
  ((Itl K a).stop i H/\D.nx b H)\/((Itl K a).go i H/\∃N:St->Hp->Prop,(∀d e,N d e->∃n,n<m/\W (i+1) n d e)/\∀x e,(Itl K a).yld i H x e->g x b e λc h=>l {D with nx:=N,ct:=N,bk:=D.nx} c h):=
 fK (xs:=us.map f) Pv q (λi b H _ p=>SqL.of (r i b H p)) (λi x b H o p=>by
  rw[Zl]at o;have%[u,w|rfl]:=map_eq_some_iff.mp o;exact s i u b H w p) (by rw[Z6];exact v)
end _L
namespace _C
open PySem _L
inductive cy (S:Str->Str->Prop):Str->Str->Prop
 | refl (x:Str):cy S x x
 | step {x y z:Str}:cy S x y->(S y z\/S z y)->cy S x z
def cy.trans{S:Str->Str->Prop}(h:cy S x y)(g:cy S y z):cy S x z:=by
 induction g with
 | refl=>exact h
 | step _ s a=>exact .step a s
def cy.one{S:Str->Str->Prop}(h:S x y\/S y x):cy S x y:= .step (.refl x) h
def cy.symm{S:Str->Str->Prop}(h:cy S x y):cy S y x:=by
 induction h with
 | refl=>exact .refl _
 | step _ s a=>exact(cy.one s.symm).trans a
def cy.mono{S R:Str->Str->Prop}(m:∀a b,S a b->R a b)(h:cy S x y):cy R x y:=by
 induction h with
 | refl=>exact .refl _
 | step _ s c=>exact .step c (s.imp (m _ _) (m _ _))
def cy.within{S:Str->Str->Prop}{p:Str->Prop}(w:∀a b,S a b->p a/\p b)(h:cy S x y)(c:p x):p y:=by
 induction h with
 | refl=>exact c
 | step _ s _=>
   rcases s with s|s
   .exact(w _ _ s).2
   .exact(w _ _ s).1
abbrev cz(S:Str->Str->Prop)(z r:Str):Prop:=cy S z r/\∀y,cy S z y->aO y r=false
def cz.one{S:Str->Str->Prop}(h:cz S z r)(g:cz S z a):r=a:=by
 by_cases e:r=a
 .exact e
 .have:=dg (g.2 _ h.1) e;rw[h.2 _ g.1]at this;cases this
structure bN (ls:ZC) (f r:Str->Str) (S:Str->Str->Prop):Prop where
 ws:∀a b,S a b->a∈ls/\b∈ls
 fin:∀z∈ls,f z∈ls
 rin:∀z∈ls,r z∈ls
 rf:∀z∈ls,r (f z)=r z
 fr:∀z∈ls,f (r z)=r z
 fix:∀z∈ls,f z=z->r z=z
 dec:∀z∈ls,f z≠z->aO (f z) z=true
 le:∀z∈ls,aO z (r z)=false
 cl:∀x∈ls,∀y∈ls,r x=r y↔cy S x y
def bN.rr{S:Str->Str->Prop}(F:bN ls f r S)(h:z∈ls):r (r z)=r z:=F.fix _ (F.rin z h) (F.fr z h)
def bN.conn{S:Str->Str->Prop}(F:bN ls f r S)(h:z∈ls):cy S z (r z):=(F.cl z h _ (F.rin z h)).mp (F.rr h).symm
def bN.least{S:Str->Str->Prop}(F:bN ls f r S){z:Str}(h:z∈ls):cz S z (r z):=by
 refine%[F.conn h|λy c=>?_];have a:=c.within F.ws h;rw[(F.cl z h y a).mpr c];exact F.le y a
def bN.start(ls:ZC):bN ls id id (λ_ _=>False):=by
 refine%[λ_ _ h=>h.elim,λz h=>h,λz h=>h,λ_ _=>rfl,λ_ _=>rfl,λ_ _ _=>rfl,λz _ h=>(h rfl).elim,λz _=>cr z|λx a y b=>%[λe=>?_|λc=>?_]]
 .rw[show x=y from e];exact .refl _
 .induction c with
  | refl=>rfl
  | step _ s _=>simp_all
def bN.join{S:Str->Str->Prop}(F:bN ls f r S){a b M m:Str}(p:a∈ls)(q:b∈ls)(A:M=if aO (r a) (r b)=true then r b else r a)(B:m=if aO (r b) (r a)=true then r b else r a):
 bN ls (λx=>if x=M then m else f x) (λx=>if r x=M then m else r x) (λx y=>S x y\/(x=a/\y=b)):=by
 have g:(M=r a/\m=r b)\/(M=r b/\m=r a):=by
  rw[A,B];cases e:aO _ _ with
  | true=>
    have:aO (r b) (r a)=false:=by
     cases i:aO _ _ with
     | false=>rfl
     | true=>have:=dI e i;rw[cr]at this;cases this
    exact this▸ .inr %[rfl|rfl]
  | false=>
    cases i:aO _ _ with
    | true=>exact .inl %[rfl|rfl]
    | false=>
      have:r a=r b:=by
       by_cases h:r a=r b
       .exact h
       .have:=dg e h;rw[i]at this;cases this
      exact this▸ .inl %[rfl|rfl]
 have lt:m≠M->aO m M=true:=by
  rw[A,B];cases e:aO _ _ with
  | true=>
    cases i:aO _ _ with
    | true=>intro h;exact(h rfl).elim
    | false=>intro _;exact e
  | false=>
    cases i:aO _ _ with
    | true=>intro _;exact i
    | false=>intro h;exact(h rfl).elim
 have Q:=F.rin a p;have T:=F.rin b q;have C:m∈ls:=by rcases g with⟨_,h⟩|⟨_,h⟩<;> rw[h]<;> assumption
 have E:r M=M:=by rcases g with⟨h,_⟩|⟨h,_⟩<;> rw[h]<;> apply F.rr<;> assumption
 have L:r m=m:=by rcases g with⟨_,h⟩|⟨_,h⟩<;> rw[h]<;> apply F.rr<;> assumption
 have N:cy (λx y=>S x y\/(x=a/\y=b)) M m:=by
  have G:cy (λx y=>S x y\/(x=a/\y=b)) _ _:=(((F.conn p).mono λ_ _=> .inl).symm.trans (.one (.inl (.inr %[rfl|rfl])))).trans ((F.conn q).mono λ_ _=> .inl);rcases g with⟨j,l⟩|⟨j,l⟩
  .rw[j,l];exact G
  .rw[j,l];exact G.symm
 have o:∀x∈ls,cy _ x (if r x=M then m else r x):=λx w=>by
  have c:=(F.conn w).mono (R:=λx y=>S x y\/(x=a/\y=b)) λ_ _=> .inl
  by_cases e:r x=M
  .rw[if_pos e];rw[e]at c;exact c.trans N
  .rw[if_neg e];exact c
 have H:(if r a=M then m else r a)=(if r b=M then m else r b):=by
  rcases g with⟨j,l⟩|⟨j,l⟩
  .rw[if_pos j.symm];by_cases e:r b=M
   .rw[if_pos e]
   .rw[if_neg e];exact l
  .rw[if_pos j.symm];by_cases e:r a=M
   .rw[if_pos e]
   .rw[if_neg e];exact l.symm
 refine%[λx y h=>?_,λz d=>?_,λz d=>?_,λz d=>?_,λz d=>?_,λz d h=>?_,λz d h=>?_,λz d=>?_|λx w y I=>%[λe=>?_|λc=>?_]]
 .rcases h with h|⟨rfl,rfl⟩
  .exact F.ws x y h
  .exact%[p|q]
 .split
  .exact C
  .exact F.fin z d
 .split
  .exact C
  .exact F.rin z d
 .by_cases e:z=M
  .rw[if_pos e,e,E,if_pos rfl,L]
   split<;> rfl
  .rw[if_neg e,F.rf z d]
 .by_cases e:r z=M
  .rw[if_pos e]
   split
   .rfl
   .exact(by rcases g with⟨_,h⟩|⟨_,h⟩<;> rw[h]<;> apply F.fr<;> assumption)
  .rw[if_neg e,if_neg e];exact F.fr z d
 .by_cases e:z=M
  .rw[if_pos e]at h;rw[e,E,if_pos rfl,<-e];exact h
  .rw[if_neg e]at h;rw[F.fix z d h,if_neg e]
 .by_cases e:z=M
  .rw[if_pos e]at h ⊢;rw[e]at h ⊢;exact lt h
  .rw[if_neg e]at h ⊢;exact F.dec z d h
 .by_cases e:r z=M
  .rw[if_pos e];cases i:aO z m with
   | false=>rfl
   | true=>
     have n:=F.le z d;rw[e]at n;by_cases em:m=M
     .rw[em]at i;rw[n]at i;cases i
     .have:=dI i (lt em);rw[n]at this;cases this
  .rw[if_neg e];exact F.le z d
 .have c:=(o x w)
  rw[e]at c;exact c.trans (o y I).symm
 .have ws:∀x y,(S x y\/(x=a/\y=b))->x∈ls/\y∈ls:=λx y h=>by
   rcases h with h|⟨rfl,rfl⟩
   .exact F.ws x y h
   .exact%[p|q]
  clear I
  induction c with
  | refl=>rfl
  | step c s O=>
    rename_i u v
    have J:=c.within ws w;rw[O];rcases s with(s|⟨rfl,rfl⟩)|(s|⟨rfl,rfl⟩)
    .rw[(F.cl u J v (F.ws u v s).2).mpr (.one (.inl s))]
    .exact H
    .rw[(F.cl u J v (F.ws v u s).1).mpr (.one (.inr s))]
    .exact H.symm
def bN.short{S:Str->Str->Prop}(F:bN ls f r S)(b:z∈ls):bN ls (λx=>if x=z then f (f z)else f x) r S:=by
 have d:f z≠z->aO (f _) z=true:=λh=>by
  have g:=F.dec z b h;by_cases e:f (f z)=f z
  .exact e▸g
  .exact dI (F.dec _ (F.fin z b) e) g
 refine%[F.ws,λx a=>?_,F.rin,λx a=>?_,λx a=>?_,λx a h=>?_,λx a h=>?_,F.le|F.cl]
 .split
  .exact F.fin _ (F.fin z b)
  .exact F.fin x a
 .by_cases e:x=z
  .rw[if_pos e,F.rf _ (F.fin z b),F.rf z b,e]
  .rw[if_neg e];exact F.rf x a
 .by_cases e:r x=z
  .rw[if_pos e];have:=F.fr x a
   simp_all
  .rw[if_neg e];exact F.fr x a
 .by_cases e:x=z
  .rw[if_pos e]at h;rw[e]at h ⊢;by_cases c:f z=z
   .exact F.fix z b c
   .have:=d c;rw[h,cr]at this;cases this
  .rw[if_neg e]at h;exact F.fix x a h
 .by_cases e:x=z
  .rw[if_pos e]at h ⊢;rw[e]at h ⊢;refine d λc=>h ?_
   rw[c,c]
  .rw[if_neg e]at h ⊢;exact F.dec x a h
def bN.done{S:Str->Str->Prop}(F:bN ls f r S)(a:z∈ls)(h:∀w∈ls,aO w z=true->f w=r w):f (f z)=r z:=by
 by_cases e:f z=z
 .rw[e,e];exact(F.fix z a e).symm
 .rw[h _ (F.fin z a) (F.dec z a e),F.rf z a]
abbrev Ed(ks:List ZC)(a b:Str):Prop:=∃z,[a,b,z]∈ks
inductive Rch (ks:List ZC):Str->Str->Prop
 | one {a b:Str}:Ed ks a b->Rch ks a b
 | more {a b c:Str}:Rch ks a b->Ed ks b c->Rch ks a c
def Rch.closed{R:Str->Prop}(a:∀y,Ed ks s y->R y)(h:∀x y,R x->Ed ks x y->R y)(r:Rch ks s y):R y:=by
 induction r with
 | one e=>exact a _ e
 | more _ e b=>exact h _ _ b e
def qK{ks:List _}{laid:ZC}(h:∀i x,laid[i]?∣x->∀y,Ed ks x y->y∈laid.take i){i:Nat}{x y:Str}(hi:laid[i]?∣x)(r:Rch ks x y):∃j,j<i/\laid[j]?∣y:=by
 have b:∀i y,y∈laid.take i->∃j,j<i/\laid[j]?∣y:=λi y d=>by
  have%[j|c]:=Xc d;have f:=(Xi c).1;rw[Yj]at f;exact%[j,⋯|by rwa[List.getElem?_take_of_lt ⋯]at c]
 refine r.closed (λy e=>b i y (h i x hi y e)) λa y ⟨j,m,c⟩ e=>?_
 have%[g,n|l]:=b j y (h j a c y e);exact%[g,⋯|l]
def DH{laid:ZC}(h:∀(i:Nat) x,laid[i]?∣x->∀y,Ed ks x y->y∈laid.take i){x:Str}(a:x∈laid): ¬ Rch ks x x:=by
 intro r;have%[i|hi]:=Xc a;have:∀n i:Nat,i<=n->laid[i]? ≠some x:=λn=>by
  induction n with
  | zero=>
    intro i hi e;have%[j,b|_]:=qK h e r
    lia
  | succ n c=>
    intro i hi e;have%[j,b|d]:=qK h e r;exact c j ⋯ d
 exact this i i (Zi _) hi
abbrev Wal:List ZC->Str->Str->Prop
 |[],a,b=>a=b
 | k::r,a,b=>∃c z,k=[a,c,z]/\Wal r c b
def Wal.app:∀{us vs:List ZC} {a:Str},Wal us a b->Wal vs b c->Wal (us++vs) a c
 |[],_,_,h,g=>h▸g
 | _::_,_,_,⟨d,z,e,h⟩,g=>%[d,z,e|h.app g]
abbrev Dst(ks:List ZC)(s:Str)(n:Nat)(x:Str):Prop:=∃us:List _,~~~us=n/\(∀k∈us,k∈ks)/\Wal us s x
def Dst.nil:Dst ks s 0 s:=%[[],rfl,λ_ h=>(nomatch h)|rfl]
def Dst.app(h:Dst ks s n x)(g:Dst ks x m y):Dst ks s (n+m) y:=by
 have%[us,d,a|b]:=h;have%[vs,g1,g2|g3]:=g;exact%[us++vs,!2,λk c=>(Xj c).elim (a k) (g2 k)|b.app g3]
def Ed.dst(e:Ed ks s x):Dst ks s 1 x:=by
 have%[z|e]:=e;exact%[[[s,x,z]],ρ,λk a=>(Xk a)▸e,x,z,ρ|ρ]
def Dst.last:∀{n:Nat} {s:Str},Dst ks s (n+1) x->∃y,Dst ks s n y/\Ed ks y x
 | n,s,⟨[],a,_,_⟩=>(nomatch a)
 | 0,s,⟨[k],_,b,c,z,e,h⟩=>%[s,.nil,z|by rw[<-h,<-e];exact b k Zm]
 | 0,s,⟨_::_::_,a,_,_⟩=>absurd a ∅
 | n+1,s,⟨k::r,a,b,c,z,e,h⟩=>by
   have%[y,d|f]:=Dst.last %[r,↑a,λk g=>b k (Zk _ g)|h];have:Ed ks s c:=%[z|e▸b k Zm]
   exact%[y,Nat.add_comm 1 n▸this.dst.app d|f]
def Rch.dst(h:Rch ks a b):∃n,Dst ks a (n+1) b:=by
 induction h with
 | one e=>exact%[0|e.dst]
 | more _ e c=>
   have%[n|h]:=c;exact%[n+1|h.app e.dst]
def Dst.rch:∀{n:Nat} {b:Str},Dst ks a (n+1) b->Rch ks a b
 | 0,b,h=>by
   have%[y,%[us,d,_|c]|e]:=h.last;rw[length_eq_zero_iff.mp d]at c;rw[c];exact .one e
 | n+1,b,h=>by
   have%[y,h|e]:=h.last;exact .more h.rch e
structure Lev (ks:List ZC) (st:Str) (rs:List (Str×Addr×ZC)) (d:Str->Nat) (k:Nat) (F:ZC):Prop where
 nd:(rs\1).Nodup
 by_:∀r∈rs,r.2.2∈ks/\∃p z,r.2.2=[p,r.1,z]/\((p=st/\d r.1=1)\/(p≠st/\p∈rs\1/\d r.1=d p+1))
 le:∀x∈rs\1,d x<=k
 edge:∀x,x∈F↔(k=0/\x=st)\/(1<=k/\x∈rs\1/\d x=k)
 all:∀n x,1<=n->n<=k->Dst ks st n x->x∈rs\1/\d x<=n
section
variable{ks:List ZC}{st:Str}{rs:List (Str×Addr×ZC)}{d:Str->Nat}{k:Nat}{F:ZC}
def Lev.nil:Lev ks st [] (λ_=>0) 0 [st]:=
 %[Yz,λ_ h=>(nomatch h),λ_ h=>(nomatch h),λx=>by simp|λn x a b=>by lia]
def Lev.dst(h:Lev ks st rs d k F)(a:x∈rs\1):1<=d x/\Dst ks st (d x) x:=by
 have:∀m x,x∈rs\1->d x<=m->1<=d x/\Dst ks st (d x) x:=λm=>by
  induction m with
  | zero=>
    intro x a l;have%[r,b|rfl]:=Xl a;obtain⟨_,p,z,_,⟨_,e⟩|⟨_,_,e⟩⟩:=h.by_ r b<;> lia
  | succ m g=>
    intro x a l;have%[r,b|rfl]:=Xl a;have%[c,p,z,i|q]:=h.by_ r b;rw[i]at c;have f:Ed ks p r.1:=%[z|c]
    rcases q with⟨rfl,e⟩|⟨_,j,e⟩
    .rw[e];exact%[Zi _|f.dst]
    .exact e▸%[⋯|(g p j ⋯).2.app f.dst]
 exact this _ x a (Zi _)
def Lev.min(h:Lev ks st rs d k F)(a:x∈rs\1)(g:Dst ks st (n+1) x):d x<=n+1:=by
 by_cases c:n+1<=k
 .exact(h.all _ x ⋯ c g).2
 .have:=h.le x a
  lia
def Lev.stop(h:Lev ks st rs d k []):∀{n:Nat},Dst ks st (n+1) x->x∈rs\1:=by
 have k1:=pos_of_ne_zero λc=>(nomatch (h.edge st).mpr (.inl %[c|rfl]))
 have:∀n x,Dst ks st (n+1) x->x∈rs.map _:=λn=>by
  induction n with
  | zero=>exact λx g=>(h.all 1 x (Zi _) k1 g).1
  | succ n a=>
    intro x g;have%[y,b|e]:=g.last;have q:=a y b;have l:=h.le y q;have ne:d y≠k:=λc=>(nomatch (h.edge y).mpr (.inr %[k1,q|c]))
    exact(h.all _ x ⋯ ⋯ ((h.dst q).2.app e.dst)).1
 exact λ{n}=>this n x
def Lev.step(h:Lev ks st rs d k F)(nd:((rs++new)\1).Nodup)(G:∀r∈new,r.2.2∈ks/\∃p z,p∈F/\r.2.2=[p,r.1,z])
 (v:∀x∈F,∀y,Ed ks x y->y∈(rs++new)\1):Lev ks st (rs++new) (λx=>if x∈new\1 then k+1 else d x) (k+1) (new\1):=by
 have o:=nd;rw[Zd,Yx]at o;have f:∀{x},x∈rs\1->x∉new\1:=λ{x} a b=>o.2.2 x a x b rfl
 have mem:∀{x},x∈(rs++new)\1↔x∈rs\1\/x∈new\1:=λ{x}=>by rw[Zd,Yq]
 have w:∀x∈(rs++new)\1,(if x∈new\1 then k+1 else d x)<=k+1:=λx l=>by
  by_cases c:x∈new\1
  .rw[if_pos c];exact Zi _
  .rw[if_neg c];have:=h.le x ((mem.mp l).resolve_right c);lia
 refine%[nd,λr H=>?_,w,λx=>?_|λn x n1 N g=>?_]
 .rcases Xj H with q|q
  .have%[u,p,z,e|g]:=h.by_ r q;refine%[u,p,z,e|?_];rw[if_neg (f (Xm %[r,q|rfl]))];refine g.imp_right λ⟨a,b,c⟩=>%[a,mem.mpr (.inl b)|?_]
   rw[if_neg (f b)];exact c
  .have%[u,p,z,I|e]:=G r q;have A:r.1∈new\1:=Xm %[r,q|rfl];refine%[u,p,z,e|?_];rw[if_pos A];rcases(h.edge p).mp I with⟨rfl,rfl⟩|⟨k1,b,c⟩
   .exact .inl %[rfl|rfl]
   .refine .inr %[λps=>?_,mem.mpr (.inl b)|by rw[if_neg (f b),c]];have:Ed ks st r.1:=%[z|by rw[<-ps,<-e];exact u]
    exact f (h.all 1 _ (Zi _) k1 this.dst).1 A
 .refine%[λl=> .inr %[⋯,mem.mpr (.inr l)|if_pos l]|λl=>?_];rcases l with⟨a,_⟩|⟨_,a,b⟩
  .lia
  .refine(mem.mp a).resolve_left λc=>?_
   rw[if_neg (f c)]at b;have:=h.le x c
   lia
 .have i:∀{m},1<=m->m<=k->Dst ks st m x->x∈(rs++new).map _/\(if x∈new.map _ then k+1 else d x)<=m:=λa b g=>by
   have%[s|B]:=h.all _ x a b g;exact%[mem.mpr (.inl s)|by rw[if_neg (f s)];exact B]
  by_cases c:n<=k
  .exact i n1 c g
  .obtain rfl:n=k+1:=by lia
   have j:x∈(rs++new).map _->x∈(rs++new).map _/\(if x∈new.map _ then k+1 else d x)<=k+1:=λa=>%[a|w x a]
   have%[y,C|e]:=g.last;by_cases J:k=0
   .subst J;have%[us,L,_|E]:=C;rw[length_eq_zero_iff.mp L]at E;exact j (v y ((h.edge y).mpr (.inl %[rfl|(E).symm])) x e)
   .have%[s|B]:=h.all k y ⋯ (Zi _) C;by_cases M:d y=k
    .exact j (v y ((h.edge y).mpr (.inr %[⋯,s|M])) x e)
    .exact j (i ⋯ ⋯ ((h.dst s).2.app e.dst)).1
end
structure Sho (ks:List _) (a b:Str) (us:List _):Prop where
 sub:∀k∈us,k∈ks
 wal:Wal us a b
 pos:0< ~~~us
 min:∀n,Dst ks a (n+1) b-> ~~~us<=n+1
def Sho.dst(h:Sho ks a b us):∃n,~~~us=n+1/\Dst ks a (n+1) b:=
 %[~~~us-1,by have:=h.pos;lia,us,by have:=h.pos;lia,h.sub|h.wal]
def Sho.rch(h:Sho ks a b us):Rch ks a b:=by
 have%[n,_|d]:=h.dst;exact d.rch
def BO{U:ZC}(h:∀x∈U,∃y∈U,Ed ks x y)(i:∀x,¬ Rch ks x x){x:Str}(j:x∈U):False:=by
 have:∀n,∃a p,~~~p=n/\(a::p).Nodup/\(∀y∈a::p,y∈U)/\∀y∈p,Rch ks y a:=λn=>by
  induction n with
  | zero=>exact%[x,[],ρ,by simp,↑j|λ_ h=>(nomatch h)]
  | succ n m=>
    have%[a,p,l,nd,d|r]:=m;have%[b,o|e]:=h a (d a Zm);have g:∀y∈a::p,Rch ks y b:=λy f=>by
     rcases mem_cons.mp f with rfl|q
     .exact .one e
     .exact .more (r y q) e
    refine%[b,a::p,!2,nodup_cons.mpr %[λc=>i b (g b c)|nd],λy f=>?_|g];rcases mem_cons.mp f with rfl|q
    .exact o
    .exact d y q
 have%[a,p,l,nd,d|_]:=this U.length;have:=_T.nodup_sub nd d;rw[Zr]at this
 lia
abbrev Let(rows:ZC)(c:Nat):Prop:=c≠46/\∃r∈rows,c∈r.cps.toList
abbrev zt(rows:ZC)(a b:Nat):Prop:=a≠46/\a≠b/\∃(i j:Nat) (r c:Str),rows[i]?∣r/\rows[i+1]?∣c/\r.cps[j]?∣a/\c.cps[j]?∣b
def fU:c∈cL rows↔Let rows c:=by
 unfold cL Let;rw[List.mem_filter,t9,List.mem_flatten,decide_eq_true_eq]
 constructor
 .rintro⟨⟨l,e,b⟩,a⟩;have%[r,d|rfl]:=Xl e;exact%[a,r,d|b]
 .rintro⟨a,r,d,b⟩;exact%[%[_,Xm %[r,d|ρ]|b]|a]
abbrev uM(rows d:ZC):Prop:=(∀c,Let rows c↔Let d c)/\∀a b,zt rows a b↔zt d a b
abbrev St(wd:Bool)(c d:Int):Prop:=c<=d+(if wd=true then 1 else 0)/\d<=c+(if wd=true then 1 else 2)
abbrev jW(wd:Bool)(b:ZM):Prop:=∃a:Nat,a< ~~~b/\(∀k c,b[k]?∣c->(k<a->c= -1)/\(a<=k->0<=c/\c<=7))/\∀k c d,b[k]?∣c->b[k+1]?∣d->a<=k->St wd c d
abbrev sg(a s:Int):Nat:=if a<0 then 46 else 97+((a*5+s)%26).toNat
def Gm(h:0<=a):hJ (sg a s)=true:=by
 unfold sg;rw[if_neg ⋯,kO]
 lia
def Gn(h:a<0):sg a s=46:=if_pos h
def BP(h:0<=a):sg a s≠46:=by
 unfold sg;rw[if_neg ⋯]
 lia
def Go(e:0<=a)(c:a<=7)(f:0<=b)(d:b<=7)(h:sg a s=sg b s):a=b:=by
 unfold sg at h;rw[if_neg ⋯,if_neg ⋯]at h;omega
abbrev iG(a:List ZM)(b:Int)(k:Nat):Str:=⟨(a.map λc=>sg (c.getD k 0) b).toArray⟩
abbrev drawn(a:List ZM)(hi:Nat)(b:Int):ZC:=(List.range hi).map (iG a b)
def fV(h:(drawn a hi c)[k]?∣z):k<hi/\z=iG a c k:=by
 unfold drawn at h;rw[Zl]at h;by_cases b:k<hi
 .rw[getElem?_range b]at h;exact%[b|(Za h).symm]
 simp_all
def kU{a:List ZM}{k j c:Nat}(h:(iG a d k).cps[j]?∣c):∃b,a[j]?∣b/\c=sg (b.getD k 0) d:=by
 have h:(a.map λc=>sg (c.getD k 0) d)[j]?∣c:=by simpa [iG]using h
 rw[Zl]at h;cases e:a[j]? with
 | none=>simp_all
 | some b=>rw[e]at h;exact%[b,ρ|(Za h).symm]
def dz{a:ZM}(b: ~~~a=hi)(c:k<hi):a[k]?∣a.getD k 0:=by
 simp_all
def uP{a:List ZM}{d:Int}{wd:Bool}(I:1<=hi)(J:hi<=40)(w:1<= ~~~a)(y: ~~~a<=40)(u:∀c∈a,~~~c=hi/\jW wd c):ci (drawn a hi d):=by
 have len: ~~~(drawn a hi d)=hi:=by unfold drawn;rw[Z6,Yh]
 have f:∀z∈drawn a hi d,∃k,k<hi/\z=iG a d k:=λz g=>by
  have%[k|e]:=Xc g;exact%[k|fV e]
 refine%[⋯,⋯,%[~~~a,w,y|λz g=>?_],λz g=>?_,λi r L A B j c M g1 g2 p=>?_|?_]
 .have%[k,_|rfl]:=f z g;simp[iG]
 .have%[k,h|rfl]:=f z g;rw[all_eq_true];intro c q;have%[j|C]:=Xc q;have%[b,s|rfl]:=kU (j:=j) ↑C;by_cases E:b.getD k 0<0
  .rw[Gn E];decide +kernel
  .unfold okc;rw[Gm ⋯,Bool.or_true]
 .have%[hi1|rfl]:=fV A;have%[hi2|rfl]:=fV B;have%[b,s|rfl]:=kU g1;have%[v,l|rfl]:=kU g2;rw[s]at l;cases l;have%[o,m,G,h|_]:=u b (Z8 s);by_cases H:i+1<m
  .rw[(h i _ (dz o hi1)).1 ⋯];rfl
  .exact absurd p (BP ((h _ _ (dz o hi2)).2 ⋯).1)
 .have n:0< ~~~a:=by lia
  have%[o,m,G,h|_]:=(u _ (Ya n))
  exact%[iG a d _,Xm %[hi-1,by rw[mem_range];lia|ρ],sg (a[0].getD (hi-1) 0) d,Xm %[a[0],Ya n|ρ]|BP ((h _ _ (dz o ⋯)).2 ⋯).1]
def uQ{i:Int}{wd:Bool}(s:∀c∈d,~~~c=hi/\jW wd c){c:Nat}:Let (drawn d hi i) c↔∃a:Int,0<=a/\a<=7/\(∃b∈d,a∈b)/\c=sg a i:=by
 constructor
 .rintro⟨l,r,u,m⟩;have%[k|e]:=Xc u;have%[h|rfl]:=fV e;have%[j|v]:=Xc m;have%[b,w|rfl]:=kU ↑v;have f:=Z8 w;have%[n,o,B,y|_]:=s b f;have g:=dz n h;have q:=y k _ g;have:o<=k:=by
   refine Nat.le_of_not_lt λz=>l ?_
   rw[q.1 z];rfl
  exact%[_,(q.2 this).1,(q.2 this).2,%[b,f|Z8 g]|ρ]
 .rintro⟨a,A,C,⟨b,f,p⟩,rfl⟩;have%[n|_]:=s b f;have%[k|h]:=Xc p;refine%[BP A,iG d i k,Xm %[k,by rw[mem_range];exact(n▸(Xi h).1)|ρ]|Xm %[b,f|?_]];rw[Zc,h];rfl
abbrev there(b:List ZM):ZM:=((List.range 8).filter λa:Nat=>b.any λc=>decide ((a:Int)∈c)).map λa:Nat=>a
def eK:a∈there c↔0<=a/\a<=7/\∃b∈c,a∈b:=by
 unfold there;rw[mem_map]
 constructor
 .rintro⟨n,f,rfl⟩;rw[List.mem_filter,mem_range,any_eq_true]at f;have%[g,b,d|e]:=f;exact%[⋯,⋯,b,d|Zo e]
 .rintro⟨h,i,b,d,e⟩;refine%[a.toNat,?_|⋯];rw[List.mem_filter,mem_range,any_eq_true];refine%[⋯,b,d|Zf ?_];rw[show a.toNat=a by lia];exact e
def uR(a:List _):(there a).Nodup:=by
 unfold there;rw[Yy,X4];refine(List.Pairwise.filter _ (nodup_iff_pairwise_ne.mp nodup_range)).imp λh e=>h ⋯
def BQ{a:List ZM}{hi:Nat}(i:1<=hi)(j:1<= ~~~a)(d:∀c∈a,~~~c=hi/\jW wd c):there a≠[]:=by
 have b:0< ~~~a:=by lia
 have%[e,f,l,h|_]:=d _ (Ya b);have g:=dz e (show hi-1<hi by lia);have q:=(h _ _ g).2 ⋯;exact List.ne_nil_of_mem (eK.mpr %[q.1,q.2,_,Ya b|Z8 g])
def kW(a:List _): ~~~(there a)<=8:=by
 unfold there;rw[Z6];exact Ye (Yg _ _) (Zi _)
abbrev dC(n:Str)(c:Nat):Str:=⟨(n.cps.toList++[46,c]).toArray⟩
def kX(h:dC n c=dC m d):n=m/\c=d:=by
 have e:=by
  have:=congrArg (λz=>z.cps.toList) h;simpa [dC]using this
 have q:=List.append_inj' e rfl;refine%[fj q.1|?_];have:=q.2;simpa using this
abbrev wQ(rows:ZC):Prop:=∃m:List _,~~~m<=26/\∀a b,zt rows a b->[sgn a,sgn b]∈m
abbrev wR(wd:Bool):List (Int×Int):=((List.range 7).map λi:Nat=>((i:Int),(i:Int) +1)) ++if wd=true then(List.range 7).map λi:Nat=>((i:Int) +1,(i:Int))else(List.range 6).map λi:Nat=>(i,i+2)
def zu(h:St wd c d)(c0:0<=c)(a:c<=7)(b:0<=d)(f:d<=7)(ne:c≠d):(c,d)∈wR wd:=by
 unfold St at h;unfold wR;rw[Yq];by_cases e:d=c+1
 .exact .inl (Xm %[c.toNat,mem_range.mpr ⋯|by rw[show c.toNat=c by lia,e]])
 .refine .inr ?_;cases wd
  .exact Xm %[c.toNat,mem_range.mpr ⋯|by rw[show c.toNat=c by lia,show d=c+2 by lia]]
  .exact Xm %[d.toNat,mem_range.mpr ⋯|by grind]
def BR{hi:Nat}{h:Int}{wd:Bool}(v:∀c∈d,~~~c=hi/\jW wd c):wQ (drawn d hi h):=by
 refine%[(wR wd).map λp=>[sgn (sg p.1 h),sgn (sg p.2 h)],?_|?_]
 .rw[Z6];cases wd<;> decide
 .intro a b %[n1,w,i,j,r,E,y,A,g1|g2];have%[hi1|rfl]:=fV y;have%[hi2|rfl]:=fV A;have%[l,n|rfl]:=kU g1;have%[o,f|rfl]:=kU g2;rw[n]at f;cases f;have%[g,B,G,m|C]:=v l (Z8 n);have q:=Nat.le_of_not_lt λz=>n1 (by rw[(m i _ (dz g hi1)).1 z];rfl)
  have s:=(m i _ (dz g hi1)).2 q;have u:=(m _ _ (dz g hi2)).2 ⋯;exact Xm %[(_,_),zu (C i _ _ (dz g hi1) (dz g hi2) q) s.1 s.2 u.1 u.2 (λe=>w (by rw[e]))|rfl]
end _C
namespace _K
open PySem _L _C
nonrec abbrev ZqS:=Lean.Syntax
nonrec def zqn:Lean.Name->Array ZqS->ZqS:= .node .none
nonrec def zqa:String->ZqS:= .atom .none
nonrec def zqi(s:String):ZqS:=Lean.mkIdent s.toName
nonrec def zqh:ZqS:=zqn `Lean.Parser.Term.hole #[zqa "_"]
nonrec def zqf(k:Nat)(b:ZqS):ZqS:=zqn `Lean.Parser.Term.fun #[zqa "fun",zqn `Lean.Parser.Term.basicFun #[zqn `null (Array.replicate k zqh),zqn `null #[],zqa "=>",b]]
nonrec def zqd(c:Char):ZqS:=Lean.Syntax.mkNumLit (toString (c.toNat-48))
nonrec def zqe(a:Array ZqS)(x:String):ZqS:=if x="r"then zqi "rfl"else if x="n"then a[0]! else if x="h"then a.back! else if x="_"then zqh else if x="f"then zqf 2 (zqi "rfl") else if x="g"then zqf 1 (zqi "rfl") else if ~~~x>1 then zqi x else zqn `Lean.Parser.Term.namedArgument #[zqa "(",zqi x,zqa ":=",zqi x,zqa ")"]
nonrec def zqx(r:Array ZqS):ZqS:=if r[0]!.isAtom then(if r[0]!.getAtomVal=""then zqf 3 r[1]! else r[1]!)else if r.size<2 then r[0]! else zqn `Lean.Parser.Term.app #[r[0]!,zqn `null (r.extract 1 r.size)]
nonrec def zqp(s t:String):Nat:=(s.splitOn t).head!.length
nonrec def zqs(t:String)(a:Array ZqS)(l:List Char)(k:List (List String×Array ZqS)):List Char×List (List String×Array ZqS):=
 let f:=k.head!
 let k:=k.tail
 let x:=f.1.headD ""
 let w:=f.1.tail
 let c:=l.headD ' '
 if f.1.isEmpty then(l,(k.head!.1,k.head!.2.push (zqx f.2))::k.tail)
 else if x="#"then(l.tail,(w,f.2.push (zqd c))::k)
 else if x="L"then(l,(["*"],#[zqa ""])::(w,f.2)::k)
 else if x="*"then
  if c.isDigit then(l.tail,(["r"],#[zqi "af",zqd c])::(w,f.2)::k)
  else if c='?'then(l.drop 2,(w,f.2.push a[l[1]!.toNat-48]!)::k)
  else
   let p:=zqp "~]`" c.toString
   let q:=if p<3 then 1 else 0
   let s:=((t.splitOn "|")[(74+84*p)*q+zqp "ABCDEFGHIJKLMNOPQRSTUVWXYZabcdefghijklmnopqrstuvwxyz!$%&'()*+,./:;<=>^_|}[0123456789" l[q]!.toString]!).splitOn " "
   (l.drop (q+1),(s.tail,#[zqi s.head!])::(w,f.2)::k)
 else(l,(w,f.2.push (zqe a x))::k)
nonrec def zqt(t:String)(a:Array ZqS)(l:List Char):Nat->ZqS
 |n=>(n.fold (λ_ _ s=>if ~~~s.2=1&&s.2.head!.1.isEmpty then s else zqs t a s.1 s.2) (l,[(["*"],#[zqa "1"])])).2.head!.2[1]!
nonrec def zqm(s:Lean.StrLit)(a:Array Lean.Term):Lean.MacroM Lean.Term:=
 return⟨zqt "paE r * *|ap|ay|ak * *|av *|opE * * *|aP # n r *|aS * h r *|aZ *|QSs.h *|bu * r * *|aT # n r|bY # r|ifS * * *|gsE r * *|cn K r f * *|bn|cm K r f * *|bP|cT *|cV K r *|cQ PassesOwn.never r r * * *|bT r *|aT # * r|cx|wT *|bL|aD.of *|cbO * T.a8 PySem.boot_len r *|cO K r|Z1|Z0|eP K r g *|dW|bz|dB * r r * L L L|cG|gB K r r r *|dq|bmO K plainAttrs_list PySem.F.slot_list_append PySem.F.type_list_append * r * *|c9|ju|i8 *|orW * *|dw h f * *|jK * r * *|iz *|ee|jt * *|eBl|kK *|cbO * T.ac boot_isinstance r *|gX K r|fM *|np * *|gW r T.aj r *|nq # n r * * r *|pD *|pC|cbO * T.a7 boot_sorted r *|gA|iF h r * * *|tT *|lM *|ctO * T.a6 boot_set r *|v5|ni *|v6 K r|gvE T.ao r r|nt|yI|qr K w r r r|ql|ctO * T.a5 boot_list r *|kR PassesOwn.never * *|AE|iA # n r * * r * r r * L L L|gvE T.aw r r|pjE * *|cB T|kL K r|af # r|uL * T.o_Ground h r r *|cbO * T.a0 boot_min r *|bmO K plainAttrs_str slot_str_join type_str_join * r * *|rZ K r|xz K r r T.ae r *|Dr K r r * *|C8 r r r * *|gvE T.ap r r|mO h r * *|rY|fJ T|cbO * T.a1 boot_max r *|Gk K r * * *|v4 * * r * * *|cbO * T.aa boot_all r *|AF K r r|FC K r *|kN w r r|noO|FQ *|gP T|F6 K r r *|d8 T|bmO K plainAttrs_dict slot_dict_get type_dict_get * r * *|Bv|c8 T|Ec r|G8 f * *|ctO * T.ah boot_int r *|Ee|tU # n r * *|ou T|tU # * r * *|orV * *|gvE T.ar r r|AH r T.af r r *|kf T|lj T|bmO K plainAttrs_list PySem.F.slot_list_extend PySem.F.type_list_extend * r * *|tV|qD P w r r r|Bk K P w r r r r h|A0 *|AZ|HB K r * * *|jz|eY T|Br r|gc T|HJ K r plainAttrs_list PySem.F.slot_list_append PySem.F.type_list_append * r r r r * *|bmO K plainAttrs_dict PySem.F.slot_dict_setdefault PySem.F.type_dict_setdefault * r * *|jT|rh T|gh T|bmO K plainAttrs_list PySem.F.slot_list_remove PySem.F.type_list_remove * r * *|nT w r r|eZ T|Eb|x6 T|ii T|ctO * T.am boot_dict r *|xM K r r h|Ek h|pj T|jo T|FB K r plainAttrs_list PySem.F.slot_list_clear PySem.F.type_list_clear * r r *|xx|yb T|uY T|G7 r|Bp # n r * * r *|sS T|valT g *|cbO * T.ak boot_any r *|HA K r r|gvE T.av r r|bmO K plainAttrs_str PySem.F.slot_str_split PySem.F.type_str_split * r * *|xy|gvE T.au r r|BW T|oC T|Hl K r r T.af r r *|jB T|gvE T.aq r r|gvE T.az r r|gvE T.aA r r|Ho K r T.t_LAYER_WORDS r r|Ho K r T.t_YEAR_WORDS r r|zF T|FE|zE T|B1 T|gvE T.ax r r|oH T|dinT h r * *|gvE T.ay r r|u8 T|zC T|y8 K r|wY T|sV T|vd T|mB T|za K r|HF|oJ T|kA T|u9 T|zA T|sY T|F7 r|lz T|mC T|Dx r|FB K r plainAttrs_dict PySem.F.slot_dict_values PySem.F.type_dict_values * r r *|Bu|pR T|w4 T|By r r T.a9 r T.a5 r *|vg T|Ca T|jC T|F8 K r r|Bw|Ge w r|tq T|oU T|FR b.ex *|FP * h r r r r *|C_Torn T|oZ T|G6 r r r r *|FD * * *|G5|bmO K plainAttrs_dict PySem.F.slot_dict_update PySem.F.type_dict_update * r * *|BM|BH h|Hw *|Hu h|zq|sZ T|zx T|vy T|Hq * T.o_Ground h r *|B2 T|lC T|zL T|kB T|Hz h|Hs h" (a.map (·.raw)) s.getString.toList 9999⟩
set_option hygiene false in
nonrec abbrev ZN:=List V
nonrec abbrev ZO:=List (Addr×List V)
local macro_rules|`(%[$s:str,$x,*|$y])=>zqm s (x.getElems.push y)|`(%[$s:str|$y])=>zqm s #[y]
local macro_rules|`(tactic|lk)=>do
 let x<-("br zR jH jG jF rG jd xp tB Cl tOr Ey zQ EC tOp tUn tC Es Et tCB pX yq Ac E3 E4 vG tBM CL tSl Ah rL At rI rI0 rU Fs Fu rEq rNe DZ Ax Ff Fh E7 E8 E9 Ay G3 v7 vR rS Cs zV EG Ef Eg HE Ej xt xu EV EW FJ qd Fk rT vS vT An Bs Bt F9 sK Gc BC uG rIn Fc Fp rR xw z1 C5 HG GH GI GJ".splitOn " ").toArray.mapM λs=>`(Lean.Parser.Tactic.simpLemma|↓$(Lean.mkIdent s.toName):ident)
 let y<-("nE Cy z7 ES GK GL GM List.getElem?_cons_zero List.getElem?_cons_succ List.set_cons_zero List.set_cons_succ Option.some.injEq V.int.injEq V.str.injEq V.bl.injEq V.ref.injEq V.ty.injEq List.cons.injEq reduceCtorEq and_true true_and and_false false_and or_false false_or or_true true_or exists_false exists_eq_left' exists_eq_left exists_eq_right exists_eq_right' exists_and_left exists_and_right exists_eq cons_append nil_append Zx exists_const and_assoc Int.zero_add Bool.not_true Bool.not_false Zz if_true if_false eq_self".splitOn " ").toArray.mapM λs=>`(Lean.Parser.Tactic.simpLemma|$(Lean.mkIdent s.toName):ident)
 `(tactic|simp only[$(x++y),*])
local macro_rules|`(!$n:ident)=>`(some (V.ref $n))
local macro_rules|`(-$n:ident)=>`(some (V.str $n))
local macro_rules|`(#[$n:num])=>`((show $n≤sizeLine by decide))|`(#[$x])=>`(paE rfl $x ap)|`(#[$x,$y,*])=>`(paE rfl $x #[$y,*])
local macro_rules|`(tactic|walk)=>`(tactic|refine⟨rfl,rfl,rfl,?_,rfl,?_,?_⟩<;>decide +kernel)
def zq0{P:List Value->Prop}(h:P []):∀u,~~~u=0->P u:=λu e=>by rw[List.length_eq_zero_iff.mp e];exact h
def zq1{n:Nat}{P:List Value->Prop}(h:∀a,∀u,~~~u=n->P (a::u)):∀u,~~~u=n+1->P u:=λu e=>by
 cases u with
 |nil=>cases e
 |cons a u=>exact h a u (Nat.succ.inj e)
local macro_rules|`(tactic|room)=>`(tactic|(intro _ _ _ _ _ _;(repeat(refine zq1 λ_=>?_));exact zq0 rfl))
set_option hygiene false in
local macro_rules|`($a⁻¹)=>`(eP (K:=K) rfl (λ_=>rfl) $a)
set_option hygiene false in
local macro_rules|`(↑$n:num)=>`(af $n rfl)|`(↑($x,$y))=>`(show bK _ _ _ $x $y=true from rfl)|`(↑[$x,*])=>`(show([$x,*]:ZC).Nodup from by decide)
set_option hygiene false in
local macro_rules|`($a*>$b)=>`(cn (K:=K) rfl (λ_ _=>rfl) $a $b)
set_option hygiene false in
local macro_rules|`($a>>$b)=>`(cm (K:=K) rfl (λ_ _=>rfl) $a $b)
set_option hygiene false in
local macro_rules|`(↥$n:num)=>`(Cal P w K mg base $n)
abbrev top(i:Nat):Stmt:=PySem.Challenge.pw_digbook_k32_the_least_order.main.body.getD i (.Pass %[0,0,0|0])
noncomputable section
nonrec abbrev fW:Stmt:=top 1
def bp:az ["ground","names","layer","word","one","other"] ["ground"] (ao fW):=by walk
nonrec abbrev hV:Stmt:=top 2
def dJ:az ["names","one","other","first","second"] ["names","one","other"] (ao hV):=by walk
nonrec abbrev eU:Stmt:=top 3
def ef:az ["names","layer"] ["names","layer"] (ao eU):=by walk
nonrec abbrev oh:Stmt:=top 4
def fz:az ["ground","names","groups","layer"] ["ground"] (ao oh):=by walk
nonrec abbrev hZ:Stmt:=top 5
def kY:az ["ground"] ["ground"] (ao hZ):=by walk
nonrec abbrev xN:Stmt:=top 6
def uS:az ["ground","names"] ["ground"] (ao xN):=by walk
nonrec abbrev fX:Stmt:=top 19
def jX:az ["found"] ["found"] (ao fX):=by walk
nonrec abbrev eV:Stmt:=top 20
def i9:az ["found"] ["found"] (ao eV):=by walk
nonrec abbrev qL:Stmt:=top 21
def jA:az ["found","side","groups","link"] ["found","side"] (ao qL):=by walk
nonrec abbrev iH:Stmt:=top 22
def be:az ["names","found","beneath","above","waits","name","ready","laid","least","link"] ["names","found"] (ao iH):=by walk
nonrec abbrev iI:Stmt:=top 23
def c6:az ["beneath","start","goal","reached","edge"] ["beneath","start","goal"] (ao iI):=by walk
nonrec abbrev lT:Stmt:=top 24
def eD:az ["beneath","edge","reached","further","name","link"] ["beneath","edge","reached"] (ao lT):=by walk
nonrec abbrev uT:Stmt:=top 25
def qM:az ["reached","start","goal","way"] ["reached","start","goal"] (ao uT):=by walk
nonrec abbrev h9:Stmt:=top 27
def bS:az ["names","found","beneath","shortest","name","way"] ["names","found"] (ao h9):=by walk
nonrec abbrev jY:Stmt:=top 28
def pN:az ["names","found"] ["names","found"] (ao jY):=by walk
nonrec abbrev iJ:Stmt:=top 29
def cb:az ["ground","found","torn_by"] ["ground"] (ao iJ):=by walk
nonrec abbrev xO:Stmt:=top 31
def jZ:az ["ground","found"] ["ground"] (ao xO):=by walk
nonrec abbrev qN:Stmt:=top 38
def wS:az ["thing"] ["thing"] (ao qN):=by walk
nonrec abbrev qO:Stmt:=top 39
def gM:az ["text","rows","number","row"] ["text"] (ao qO):=by walk
nonrec abbrev uU:Stmt:=top 40
def zv:az ["row"] ["row"] (ao uU):=by walk
nonrec abbrev iK:Stmt:=top 41
def my:az ["row","above"] ["row","above"] (ao iK):=by walk
nonrec abbrev j3:Stmt:=top 42
def pO:az ["rows"] ["rows"] (ao j3):=by walk
nonrec abbrev qP:Stmt:=top 43
def wU:az ["text"] ["text"] (ao qP):=by walk
nonrec abbrev oi:Stmt:=top 44
def dY:az ["text","rows","pairs","above","row"] ["text"] (ao oi):=by walk
nonrec abbrev eW:Stmt:=top 45
def ja:az ["above","row"] ["above","row"] (ao eW):=by walk
nonrec abbrev j4:Stmt:=top 54
def dP:az ["cuts","names","number","thing"] ["cuts"] (ao j4):=by walk
nonrec abbrev iL:Stmt:=top 55
def mz:az ["thing"] ["thing"] (ao iL):=by walk
nonrec abbrev uV:Stmt:=top 56
def zw:az ["thing"] ["thing"] (ao uV):=by walk
nonrec abbrev ic:Stmt:=top 57
def dL:az ["sayings","layers","number","thing"] ["sayings","layers"] (ao ic):=by walk
nonrec abbrev lU:Stmt:=top 58
def sO:az ["thing","layers"] ["thing","layers"] (ao lU):=by walk
nonrec abbrev ig:Stmt:=top 59
def kZ:az ["thing","texts"] ["thing","texts"] (ao ig):=by walk
nonrec abbrev qQ:Stmt:=top 60
def wV:az ["thing"] ["thing"] (ao qQ):=by walk
nonrec abbrev j6:Stmt:=top 61
def pP:az ["name","letter"] ["name","letter"] (ao j6):=by walk
nonrec abbrev lV:Stmt:=top 62
def eE:az ["cuts","layers","name","text"] ["cuts"] (ao lV):=by walk
nonrec abbrev iM:Stmt:=top 63
def cc:az ["cuts","ties","name","text","upper","lower"] ["cuts"] (ao iM):=by walk
nonrec abbrev fA:Stmt:=top 64
def cu:az ["sayings","ties","number","saying"] ["sayings"] (ao fA):=by walk
nonrec abbrev jh:Stmt:=top 66
def oj:az ["_law_script","_law_k"] ["_law_script","_law_k"] (ao jh):=by walk
nonrec abbrev lW:Stmt:=top 67
def gN:az ["_law_cell","_law_k","_law_one","_law_two"] ["_law_cell","_law_k"] (ao lW):=by walk
nonrec abbrev qR:Stmt:=top 68
def dM:az ["_law_script","_law_many","_law_found","_law_number","_law_k"] ["_law_script","_law_many"] (ao qR):=by walk
nonrec abbrev lZ:Stmt:=top 69
def bO:az ["_law_number","_law_size","_law_at","_law_names_here","_law_k","_law_signs","_law_j","_law_place"] ["_law_number"] (ao lZ):=by walk
nonrec abbrev j7:Stmt:=top 70
def bQ:az ["_law_number","_law_high","_law_wild","_law_air","_law_at","_law_signs","_law_k"] ["_law_number","_law_high","_law_wild"] (ao j7):=by walk
nonrec abbrev om:Stmt:=top 71
def uW:az ["_law_at","_law_shift"] ["_law_at","_law_shift"] (ao om):=by walk
nonrec abbrev qS:Stmt:=top 72
def db:az ["_law_row_here","_law_shift","_law_wild","_law_wide","_law_high","_law_columns","_law_rows","_law_k","_law_there"] ["_law_row_here","_law_shift","_law_wild"] (ao qS):=by walk
nonrec abbrev j8:Stmt:=top 73
def bC:az ["_law_one","_law_two","_law_layers","_law_torn_here","_law_layer","_law_at","_law_other","_law_there","_law_odd","_law_kind","_law_year"] ["_law_one","_law_two","_law_layers","_law_torn_here"] (ao j8):=by walk
nonrec abbrev j9:Stmt:=top 74
def aW:az ["_law_row_here","_law_names_here","_law_torn_here","_law_cuts","_law_layers","_law_k","_law_shift","_law_wild","_law_text","_law_there","_law_at","_law_many","_law_sayings"] ["_law_row_here"] (ao j9):=by walk
nonrec abbrev kb:Stmt:=top 75
def cW:az ["_law_sayings","_law_layers","_law_called_here","_law_turn","_law_saying_here","_law_least"] ["_law_sayings","_law_layers"] (ao kb):=by walk
nonrec abbrev l7:Stmt:=top 76
def bD:az ["_law_cuts","_law_sayings","_law_layers","_law_called_here","_law_found","_law_name","_law_text","_law_rows","_law_k","_law_upper","_law_lower","_law_number"] ["_law_cuts","_law_sayings","_law_layers"] (ao l7):=by walk
nonrec abbrev fY:Stmt:=top 77
def aL:az ["_law_tied","_law_least","_law_start","_law_there","_law_edge","_law_far","_law_ends"] ["_law_tied"] (ao fY):=by walk
nonrec abbrev jj:Stmt:=top 78
def iN:az ["_law_found","_law_tied","_law_least","_law_k"] ["_law_found","_law_tied","_law_least"] (ao jj):=by walk
nonrec abbrev oo:Stmt:=top 79
def fB:az ["_law_ground_here","_law_ring_told","e"] ["_law_ground_here"] (ao oo):=by walk
nonrec abbrev qT:Stmt:=top 80
def gO:az ["_law_tied","_law_called_here","_law_left","_law_found","_law_free"] ["_law_tied","_law_called_here"] (ao qT):=by walk
nonrec abbrev kc:Stmt:=top 81
def fH:az ["_law_script","_law_cuts","_law_sayings","_law_layers","_law_tied","_law_ground_here","_law_least","_law_told","_law_due_here","_law_found"] ["_law_script"] (ao kc):=by walk
nonrec abbrev ce:Stmt:=iU (top 53) 0
def eX:az ["self","cuts","sayings","layers"] ["self","cuts","sayings"] (ao ce):=by walk
nonrec abbrev pQ:Stmt:=iU (top 53) 1
def BS:az ["self"] ["self"] (ao pQ):=by walk
nonrec abbrev ck:Stmt:=iU (top 53) 2
def ke:az ["self"] ["self"] (ao ck):=by walk
nonrec abbrev cA:Stmt:=iU (top 53) 3
def lh:az ["self"] ["self"] (ao cA):=by walk
nonrec abbrev cX:Stmt:=iU (top 53) 4
def oq:az ["self"] ["self"] (ao cX):=by walk
nonrec abbrev dZ:Stmt:=iU (top 11) 0
end
def sP:az ["self","ring"] ["self","ring"] (ao dZ):=by walk
inductive ot (K:ZB)
 | mk (a:Addr) (ns:ZM) (k:Int):vs=[.ref a,.int k]->SqL K H a (ns\4)->0<=k->Q (.int (ns.getD k.toNat 0)) H->ot K vs H Q E0
inductive BT (K:ZB)
 | mk (a:Addr) (ns:ZM) (m:Int):vs=[.ref a,.int m]->SqL K H a (ns\4)-> ~~~ns<=1000->0<=m->m<=100->(∀l H' (xs:ZM),ah H H'->H l=none->H' l<*xs\4-> ~~~xs=m.toNat->(∀x∈xs,0<=x/\x<9973)->Q (.ref l) H')->BT K vs H Q E0
inductive qU
 | mk (n hi:Int) (wild:Bool):vs=[.int n,.int hi,.bl wild]->0<=n->1<=hi->hi<=7->(∀l H' (cs:ZM),ah H H'->H l=none->H' l<*cs\4-> ~~~cs=hi.toNat->jW wild cs->Q (.ref l) H')->qU vs H Q E0
inductive xP
 | mk (a s:Int):vs=[.int a,.int s]->0<=s->Q (.str (sgn (sg a s))) H->xP vs H Q E0
abbrev sQ(H:Hp)(a:List (Addr×ZM)):Prop:=∀p∈a,H p.1<*p.2\4
def sQ.up{H a:Hp}{b:List (Addr×ZM)}(h:sQ H b)(s:ah H a):sQ a b:=λp c=>s _ _ (h p c)
inductive BU (K:ZB)
 | mk (a:Addr) (xs:ZM) (sh:Int) (wd:Bool):vs=[.ref a,.int sh,.bl wd]->SqL K H a (xs\4)->(∀H',ah H H'->SqL K H' a (xs\4))-> ~~~xs=6->(∀x∈xs,0<=x/\x<9973)->0<=sh->(∀(T th:Addr) H' (cols:List ZM) (hi:Nat),ah H H'->H T=none->H th=none->T≠th->H' T&&&[.str (Str.join nl (drawn cols hi sh)),.ref th]->H' th<*(there cols)\4->1<=hi->hi<=7->1<= ~~~cols-> ~~~cols<=5->(∀c∈cols,~~~c=hi/\jW wd c)->Q (.ref T) H')->BU K vs H Q E0
inductive uX
 | mk (c k:Int):vs=[.int c,.int k]->0<=k->k<=100->(∀v,0<=v->v<2147483563->Q (.int v) H)->uX vs H Q E0
structure Txc (K:ZB) (mg:ZD):Prop where
 c_Torn:mg "Torn"=some (.ref (aJ mg "Torn"))
 c_DigError:mg "DigError"=some (.ref (aJ mg "DigError"))
 c_NoCut:mg "NoCut"=some (.ref (aJ mg "NoCut"))
 c_NoLayer:mg "NoLayer"=some (.ref (aJ mg "NoLayer"))
 c_NoRow:mg "NoRow"=some (.ref (aJ mg "NoRow"))
 c_NoDeed:mg "NoDeed"=some (.ref (aJ mg "NoDeed"))
 c_NoSaying:mg "NoSaying"=some (.ref (aJ mg "NoSaying"))
 c_NoGround:mg "NoGround"=some (.ref (aJ mg "NoGround"))
 x_Torn:AX K mg "Torn" "Torn.__init__" dZ ["self","ring"]
 f_Torn_ring:FI K (aJ mg "Torn") "ring"
 g_Torn_ring:De K (aJ mg "Torn") "ring"
 u_Torn_NoCut:subIn K (.ref (aJ mg "Torn")) (.ref (aJ mg "NoCut"))∣false
 u_Torn:subIn K (.ref (aJ mg "Torn")) (.ref (aJ mg "DigError"))∣true
 k_Torn_Torn:kitOne K (.ref (aJ mg "Torn")) (.ref (aJ mg "Torn"))∣true
 k_Torn_ValueError:kitOne K (.ref (aJ mg "Torn")) (.type "ValueError")∣true
 k_Torn_any2:kitAny K (.ref (aJ mg "Torn")) (([(aJ mg "NoCut"),(aJ mg "NoGround"),(aJ mg "NoSaying"),(aJ mg "NoDeed"),(aJ mg "NoRow"),(aJ mg "NoLayer")]).map Value.ref)∣false
 i_DigError:AO K (aJ mg "DigError")
 t_NoCut:Cat K (aJ mg "NoCut")
 t_DigError:Cat K (aJ mg "DigError")
 o_Ground:uB K mg "Ground"
 n_Ground_kept_cuts:fE K (aJ mg "Ground") "kept_cuts"
 n_Ground_kept_sayings:fE K (aJ mg "Ground") "kept_sayings"
 n_Ground_kept_layers:fE K (aJ mg "Ground") "kept_layers"
 n_Ground_kept_ties:fE K (aJ mg "Ground") "kept_ties"
 i_Ground:Bn K mg "Ground" "Ground.__init__" ce ["self","cuts","sayings"]
 m_Ground_sayings:uC K mg "Ground" "sayings" "Ground.sayings" ck ["self"]
 m_Ground_layers:uC K mg "Ground" "layers" "Ground.layers" cA ["self"]
 m_Ground_ties:uC K mg "Ground" "ties" "Ground.ties" cX ["self"]
 t_YEAR_WORDS:GvT K mg "YEAR_WORDS" [.str "since",.str "by"]
 t_LAYER_WORDS:GvT K mg "LAYER_WORDS" [.str "later",.str "same"]
structure Txt (K:ZB) (mg:ZD):Prop extends Txc K mg where
 a0:mg "min"=none
 a1:mg "max"=none
 a5:mg "list"=none
 a6:mg "set"=none
 a7:mg "sorted"=none
 a8:mg "len"=none
 a9:mg "reversed"=none
 aa:mg "all"=none
 ab:mg "str"=none
 ac:mg "isinstance"=none
 ae:mg "enumerate"=none
 af:mg "zip"=none
 ag:mg "tuple"=none
 ah:mg "int"=none
 ai:mg "bool"=none
 aj:mg "range"=none
 ak:mg "any"=none
 am:mg "dict"=none
 an:mg "ValueError"=none
 ao:Gv mg "LATER" (.int 0)
 ap:Gv mg "EARLIER" (.int 1)
 aq:Gv mg "LONGEST_NAME" (.int 8)
 ar:Gv mg "LETTERS" (.str "abcdefghijklmnopqrstuvwxyz")
 au:Gv mg "MOST_ROWS" (.int 40)
 av:Gv mg "MOST_SIGNS" (.int 40)
 aw:Gv mg "AIR" (.str ".")
 ax:Gv mg "MOST_CUTS" (.int 8)
 ay:Gv mg "MOST_SAYINGS" (.int 60)
 az:Gv mg "FIRST_YEAR" (.int (-9999))
 aA:Gv mg "LAST_YEAR" (.int 9999)
 aB:aM K mg "names_by_layer" fW ["ground"]
 aC:aM K mg "join_deposits" hV ["names","one","other"]
 aD:aM K mg "least_pointed_to" eU ["names","layer"]
 aE:aM K mg "deposits" oh ["ground"]
 aF:aM K mg "deposit_names" hZ ["ground"]
 aG:aM K mg "links" xN ["ground"]
 aH:aM K mg "links_by_later" fX ["found"]
 aI:aM K mg "links_by_earlier" eV ["found"]
 aJ:aM K mg "grouped" qL ["found","side"]
 aK:aM K mg "laid_in_turn" iH ["names","found"]
 aL:aM K mg "shortest_way" iI ["beneath","start","goal"]
 aN:aM K mg "next_edge" lT ["beneath","edge","reached"]
 aO:aM K mg "way_to" uT ["reached","start","goal"]
 aP:aM K mg "shortest_ring" h9 ["names","found"]
 aQ:aM K mg "never_laid" jY ["names","found"]
 aR:aM K mg "untorn_links" iJ ["ground"]
 aS:aM K mg "order" xO ["ground"]
 aT:aM K mg "is_name" qN ["thing"]
 aU:aM K mg "rows_of" qO ["text"]
 aV:aM K mg "is_row" uU ["row"]
 aW:aM K mg "lies_beneath" iK ["row","above"]
 aX:aM K mg "letters_in" j3 ["rows"]
 aY:aM K mg "letters" qP ["text"]
 aZ:aM K mg "meetings" oi ["text"]
 b0:aM K mg "meetings_between" eW ["above","row"]
 b1:aM K mg "check_cuts" j4 ["cuts"]
 b2:aM K mg "is_named_cut" iL ["thing"]
 b3:aM K mg "is_cut" uV ["thing"]
 b4:aM K mg "check_sayings" ic ["sayings","layers"]
 b5:aM K mg "is_saying" lU ["thing","layers"]
 b6:aM K mg "is_text_among" ig ["thing","texts"]
 b7:aM K mg "is_year" qQ ["thing"]
 b8:aM K mg "layer_name" j6 ["name","letter"]
 b9:aM K mg "layers_of" lV ["cuts"]
 ba:aM K mg "ties_of_cuts" iM ["cuts"]
 bb:aM K mg "ties_of_sayings" fA ["sayings"]
 bc:aM K mg "_law_cell_at" jh ["_law_script","_law_k"]
 bd:aM K mg "_law_mixed" lW ["_law_cell","_law_k"]
 be:aM K mg "_law_row" qR ["_law_script","_law_many"]
 bf:aM K mg "_law_names" lZ ["_law_number"]
 bg:aM K mg "_law_column" j7 ["_law_number","_law_high","_law_wild"]
 bh:aM K mg "_law_sign" om ["_law_at","_law_shift"]
 bi:aM K mg "_law_cut" qS ["_law_row_here","_law_shift","_law_wild"]
 bj:aM K mg "_law_saying" j8 ["_law_one","_law_two","_law_layers","_law_torn_here"]
 bm:aM K mg "_law_ground" j9 ["_law_row_here"]
 bn:aM K mg "_law_called" kb ["_law_sayings","_law_layers"]
 bo:aM K mg "_law_links" l7 ["_law_cuts","_law_sayings","_law_layers"]
 bp:aM K mg "_law_least_ring" fY ["_law_tied"]
 bq:aM K mg "_law_is_ring" jj ["_law_found","_law_tied","_law_least"]
 br:aM K mg "_law_torn" oo ["_law_ground_here"]
 bt:aM K mg "_law_due" qT ["_law_tied","_law_called_here"]
section
variable{P:Program}{w:World}{K:ZB}{mg:ZD}{base:Heap}
def bH{n:Nat}(h:n<=5000):n<=sizeLine:=Ye h (!1)
def aG{n:Nat}(h:n<=5000):n<sizeLine:=Nat.lt_of_le_of_lt h (!1)
def ah.upd{H:Hp}{p:Addr}{o:HO}(h:H p=none):ah H (upd H p o):=λb u e=>by rw[aj (ax e h)];exact e
def ah.set{H a:Hp}{p:Addr}{o:HO}(c:ah H a)(h:H p=none):ah H (_L.upd a p o):=λb u e=>by rw[aj (ax e h)];exact c b u e
def HI{b:Type}(xs:List b){i:Int}(d:0<=i)(e:i<(~~~xs:Int)):∃c,atI xs i∣c/\c∈xs:=by
 have%[j|rfl]:=Xe d;have a:j< ~~~xs:=by lia
 exact%[xs[j],cg (by simp[a])|Ya a]
def iO(xs:ZM){i:Int}(b:0<=i)(d:i<(~~~xs:Int)):∃c,atI (xs\4) i∣V.int c/\c∈xs:=by
 have%[j|rfl]:=Xe b;have a:j< ~~~xs:=by lia
 exact%[xs[j],cg (by simp[a])|Ya a]
def En:(gE.cps.toList.length:Int)=26:=!0
def fJ(T:Txt K mg):↥1 "_law_cell_at" ["_law_script","_law_k"] (ot K):=by
 .exists T.bc,oj,g,m,%[a,c,k,rfl,d,i|q];refine%[_,%["JDNK;1cdA0BEIR01QEIC"|0]|?_]
  show br _ _ _ [!a,some (.int k)] H;lk;refine%[_,.inl %[_,d|ρ]|bA (λb=>?_) λb=>?_]
  .have b:=Zo b;rw[Z6]at b;refine%[_,d,.int (c.getD k.toNat 0),?_|q];have%[j|rfl]:=Xe i;have l:j< ~~~c:=by lia
   exact cg (by simp[l])
  .have b: ¬ k<(~~~(c\4):Int):=↑b
   rw[Z6]at b;have e:c.getD k.toNat 0=0:=by
    rw[Zc,Xh ⋯];rfl
   rw[e]at q;exact q
def uY(T:Txt K mg):↥1 "_law_mixed" ["_law_cell","_law_k"] uX:=by
 .exists T.bd,gN,a,j,%[c,k,rfl,l,m|q];refine%[_,%["JDG2FSFoFaFaFS0CFoC1CCCDG3FSFaFo22FoFoC11CEIFSFo33C"|gN.nd]|?_]
  show br _ _ _ [some (.int c),some (.int k),none,none] H;refine am λn k1 _=>?_
  lk;refine%[!1,.inl %[!1|!1],.inr %[!1|!1],!1|k1 _ _ (am λo k2 _=>?_)];have b:=Int.emod_nonneg ((c%1000003+7919*k+1)*48271) (by decide:(2147483629:Int)≠0);have d:=Int.emod_lt_of_pos ((c%1000003+7919*k+1)*48271) (by decide:(0:Int)<2147483629)
  generalize (c%1000003+7919*k+1)*48271%2147483629=one at b d
  lk;refine%[.inl %[⋯|⋯],.inl %[!1|!1],.inr %[⋯|⋯],!1|k2 _ _ ?_];have e:=Int.emod_nonneg (one*one+104729*k*k) (by decide:(2147483587:Int)≠0);have g:=Int.emod_lt_of_pos (one*one+104729*k*k) (by decide:(0:Int)<2147483587)
  generalize (one*one+104729*k*k)%2147483587=i at e g
  lk;exact%[.inl %[⋯|⋯],!1|q _ ⋯ ⋯]
def zx(T:Txt K mg):↥2 "_law_row" ["_law_script","_law_many"] (BT K):=by
 .exists T.be,dM,aa,r,%[a,j,m,rfl,hs,hn,h0,h1|q];refine%[_,%["JDG2TBDG3CDV&A1BL4DNKYFS4CCEG3H~SA0AFaCFk4CBQENZwKYFSH~SA0ACBCC$K~B3CDWni2AFS3CBEG3Fk3CEWni2AFSH~2AH~SA0AFaCFS4~T~iACAF^cdA0BCBBA4BCBEI2",dM.nd|r]|?_]
  show br _ _ _ [!a,some (.int m),none,none,none] H;refine am λD1 k1 _=>?_
  lk;refine%[Xb _|λl B=>k1 _ _ (am λD2 k2 _=>?_)];have C:ah H (upd H l (.lst [])):=ah.upd B;lk;refine k2 _ _ (am λD3 k3 _=>aC λO hK=>?_);lk;refine%[⋯,⋯|hK _ _ (cC (λi G e=>∃(n:Int) (o:Option V) (xs:ZM),G=[!a,some (.int m),!l,some (.int n),o]/\ah H e/\e l<*xs\4/\ ~~~xs=i/\∀x∈xs,0<=x/\x<9973)
   %[_,none,[],ρ,C,ae,ρ|λ_ h=>nomatch h] ?_ ?_)]
  .intro i G e hi %[n,o,xs,rfl,u,c,z|d];have ab:i<100:=by lia
   have g:=u.seq hs;show br _ _ _ [!a,some (.int m),!l,some (.int n),some (.int (0+i))] e;rw[Int.zero_add];refine am λD4 k4 _=>?_
   have p:∀I:Int,D4.nx [!a,some (.int m),!l,some (.int I),some (.int i)] e:=λI=>k4 _ _ (aE λD5 U _=>by
    have put:∀v:Int,0<=v->v<9973->ah H (upd e l (.lst (xs\4++[.int v])))/\∃b:ZM,upd e l (.lst (xs\4++[.int v])) l<*b\4/\ ~~~b=i+1/\∀x∈b,0<=x/\x<9973:=λv Y v1=>
     ⟨ah.set u B,xs++[v],by rw[ae,Zd];rfl,by rw[Z9,z];rfl,λy hy=>by
      rcases Xj hy with q|q
      .exact d y q
      .rw[Xk q];exact%[Y|v1]⟩
    have len: ~~~(xs\4)<sizeLine:=by rw[Z6,z];exact aG ⋯
    have mx:∀x:Nat,(0:Int)<(if(x:Int) -1>1 then(x:Int) -1 else 1):=λx=>by split<;> lia
    lk;refine%[a,j,0,ρ,g,!1,_,ρ,!1|bA (λ_=>bA (λ_=>?g1) λ_=>?g2) λ_=>?g3]
    case g1=>
     have%[J,b,L,M|N]:=put (I%9973) ⋯ ⋯;exact%[tyL (SqL.of c),!1,_,c,len,%[!1|!1]|U _ _ %[_,_,b,ρ,J,L,M|N]]
    all_goals
     refine%[tyL (SqL.of c),_,.inl %[_,g|ρ],mx _,a,j,_,ρ,g,?_|?_]
     .have:=Int.emod_nonneg (i:Int) (Int.ne_of_gt (mx (j\4).length))
      lia
     refine%[_,_,ρ,⋯,⋯|λv Y v1=>%[_,ρ,!1,_,c,len|U _ _ ?_]];have%[J,b,L,M|N]:=put (v%9973) ⋯ ⋯;exact%[_,_,b,ρ,J,L,M|N])
   lk;exact%[!1|bA (λ_=>%[%[!1|!1],a,j,_,ρ,g,⋯|p _]) λ_=>p n]
  .intro G e %[n,o,xs,rfl,u,c,z|d];refine k3 _ _ ?_;lk;exact q l e xs u B c z d
def BV(a:0<=i)(c:i<26):atI gE.cps.toList i∣(97+i.toNat):=by
 have%[j|rfl]:=Xe a;have b:j<26:=by omega
 have all:∀j:Fin 26,gE.cps.toList[j.1]?∣(97+j.1):=!0
 exact cg (all %[j|b])
def ou(T:Txt K mg):↥1 "_law_sign" ["_law_at","_law_shift"] xP:=by
 .exists T.bh,uW,d,e,%[a,g,rfl,i|c];refine%[_,%["JDNK;0CEIhQEI~jhFSFaFo0C1C"|0]|?_]
  show br _ _ _ [some (.int a),some _] H;lk;unfold sg at c;refine bA (λb=>?_) λb=>?_
  .have b:=Zo b;rw[if_pos b]at c;exact c
  .have b: ¬ a<0:=↑b
   rw[if_neg b]at c;refine%[.inr %[by simp|by simp],!1,(!1),_,BV (by omega) (by omega)|c]
def sS(T:Txt K mg):↥1 "_law_column" ["_law_number","_law_high","_law_wild"] qU:=by
 .exists T.bg,bQ,ai,hr,%[n,hi,wd,rfl,n0,h1,h6|kk];refine%[_,%["JDG3FS0CDG4FSFk0CCDG0Fk0CDG5TBDV&A1BL6ENZwK;63$K;6F^1CEWni5A.CBDWni5A4BDG4~T~iACA~J~3ACAFa4RTACACARTACA.CB~k~lA2BBFS0CBBEG0Fk0CEI5"|bQ.nd]|?_]
  show br _ _ _ [some (.int n),some (.int hi),some (.bl wd),none,none,none,none] H;refine am λD1 k1 _=>?_
  lk;refine%[!1|k1 _ _ (am λD2 k2 _=>?_)];lk;refine%[%[!1|!1],!1|k2 _ _ (am λD3 k3 _=>?_)];lk;refine%[%[!1|!1]|k3 _ _ (am λD4 k4 _=>?_)];lk;refine%[Xb _|λL U=>k4 _ _ (am λD5 k5 r5=>aC λag hK=>?_)];lk;have J:∃a:Nat,(a:Int)=(if n%3<hi-1 then n%3 else hi-1):=by
   split
   .exact%[(n%3).toNat|by omega]
   .exact%[(hi-1).toNat|by omega]
  have%[a|ea]:=J;refine%[by omega,by omega|hK _ _ (cC (λi σ B=>∃(m b:Int) (o:Option V) (g:ZM),σ=[some (.int m),some (.int hi),some (.bl wd),some (.int (n%3)),some (.int b),!L,o]/\0<=b/\b<=7/\ah H B/\B L<*g\4/\ ~~~g=i/\
   (∀(k:Nat) (c:Int),g[k]?∣c->(k<a->c= -1)/\(a<=k->0<=c/\c<=7))/\∀(k:Nat) (c d:Int),g[k]?∣c->(g++[b])[k+1]?∣d->a<=k->St wd c d)
   %[_,_,none,[],ρ,by omega,by omega,ah.upd U,ae,ρ,(λk c e=>by simp at e)|λk c d e=>by simp at e] ?_ ?_)]
  .intro i σ B al %[m,b,o,g,rfl,a0,a7,Y,l,C,r|G];show jH _ _ _ _ [some (.int m),some (.int hi),some (.bl wd),some (.int (n%3)),some (.int b),!L,some (.int (0+i))] B;rw[Int.zero_add];have len: ~~~(g\4)<sizeLine:=by rw[Z6,C];exact aG (by omega)
   have put:∀v:Int,(i<a->v= -1)->(a<=i->0<=v/\v<=7)->∀(k:Nat) (c:Int),(g++[v])[k]?∣c->(k<a->c= -1)/\(a<=k->0<=c/\c<=7):=λv v1 v2 k c e=>by
    by_cases hk:k< ~~~g
    .rw[Y8 hk]at e;exact r k c e
    .have ek:k=i:=by
      have:=(Xi e).1;rw[Z9]at this;simp only[Zr,length_nil]at this;omega
     subst ek;rw[Y9 (by omega),C,sub_self]at e;cases e;exact%[v1|v2]
   refine aE λD6 k6 _=>?_
   lk;have M:∀v u:Int,(a<=i->v=b/\St wd v u)->∀(k:Nat) (c d:Int),(g++[v])[k]?∣c->(g++[v] ++[u])[k+1]?∣d->a<=k->St wd c d:=λv u q k c d I y hk=>by
    have an:k+1<= ~~~g+1:=by
     have:=(Xi y).1;simp only[Z9,Zr,length_nil]at this;omega
    by_cases h:k+1< ~~~g+1
    .rw[Y8 (by omega)]at I;rw[Y8 ↑h]at y;by_cases h':a<=i
     .rw[(q h').1]at y;exact G k c d I y hk
     .omega
    .have ek:k=i:=by omega
     subst ek;rw[Y9 (by omega),C,sub_self]at I;rw[Y9 (by simp;omega)]at y;simp[C]at I y;rw[<-I,<-y];exact(q hk).2
   have aa:∀_v:Int,¬ i<a->∀(m2 j:Int) (HH:Hp),0<=j->j<=7->St wd b j->ah (upd B L (.lst (g\4++[.int b]))) HH->D6.nx [some (.int m2),some (.int hi),some (.bl wd),some (.int (n%3)),some (.int j),!L,some (.int i)] HH:=λv hv m2 j HH b0 b7 st sh=>
    k6 _ _ %[m2,j,_,g++[b],rfl,b0,b7,(ah.set Y U).trans sh,by rw[sh L _ ae,Zd];rfl,by rw[Z9,C];rfl,put b (λz=>absurd z hv) λ_=>%[a0|a7]|M b j λ_=>%[rfl|st]]
   refine bA (λhA=>bA (λhB=>?g1) λhB=>?g2) λhA=>?g3
   case g1=>
    simp only[decide_eq_true_eq]at hA hB;have N:i<a:=by split at ea<;> omega
    exact%[tyL (SqL.of l),_,l,len|k6 _ _ %[m,b,_,g++[-1],ρ,a0,a7,ah.set Y U,by rw[ae,Zd];rfl,by rw[Z9,C];rfl,put (-1) (λ_=>rfl) λz=>absurd N (by omega)|M (-1) b λz=>absurd N (by omega)]]
   all_goals
    have ab: ¬ i<a:=by
     simp only[decide_eq_true_eq]at*
     split at ea<;> omega
    refine%[tyL (SqL.of l),_,l,len,#[2]|λp hp=>%[_,SqL.of ae,.int (if wd=true then -1 else 2),by cases wd<;> rfl,#[3]|λp1 ac=>%[!1,_,SqL.of ae|?_]]];have%[c,hc|O]:=iO [0,1,if wd=true then -1 else 2] (i:=m%3) (by omega) (by show m%3<3;omega);refine%[_,hc,c,ρ,%[!1|!1]|aa 0 ab _ _ _ ?_ ?_ ?_ ((ah.upd hp).trans (ah.upd ac))]
    rotate_left 2
    .unfold _C.St;simp only[Yt,X2,or_false]at O;cases wd<;> rcases O with rfl|rfl|rfl<;> simp<;>(split<;>(try split)<;> omega)
    all_goals(split<;>(simp)<;> omega)
  .intro σ B %[m,b,o,g,rfl,a0,a7,Y,l,C,r|G];refine k5 _ _ ?_;lk;exact kk L B g Y U l (by omega) %[a,by omega,r|λk c d I y=>G k c d I ((Y8 (Xi y).1)▸y)]
def uZ(xs:ZM){lo hi:Int}(c:0<=lo)(d:lo<=hi)(e:hi<= ~~~xs):vQ (xs\4) (some lo) (some hi)=((xs.drop lo.toNat).take (hi.toNat-lo.toNat))\4:=by
 unfold vQ;rw[Z6];have a:_H.sIx xs.length 0 (some lo)=lo.toNat:=by
  show(if lo<0 then _ else min lo.toNat xs.length)=_;rw[if_neg ⋯]
  lia
 have b:_H.sIx xs.length xs.length (some hi)=hi.toNat:=by
  show(if hi<0 then _ else min hi.toNat xs.length)=_;rw[if_neg ⋯]
  lia
 rw[a,b,map_take,map_drop]
def DI(a:Int)(b:ZM):inV (V.int a) (b\4)=decide (a∈b):=by
 unfold inV;rw[any_map]
 induction b with
 | nil=>rfl
 | cons c r d=>
   rw[Zw,d];show((c==a)||_)=_;by_cases h:c=a
   .subst h;simp
   .have:a≠c:=λe=>h e.symm
    simp[h,this]
def zy(a:ZM):(a\4).all fc=true:=by simp[fc]
def zA(T:Txt K mg):↥2 "_law_cut" ["_law_row_here","_law_shift","_law_wild"] (BU K):=by
 .exists T.bi,db,ch,hr,%[a,xs,v,d,rfl,hs,keep,b2,hb,s0|kk];have get:∀i:Int,0<=i->i<6->∃c,atI (xs\4) i∣V.int c/\0<=c/\c<9973:=λi h0 h1=>by
   have%[c,e|hm]:=iO xs h0 ⋯;exact%[c,e|hb c hm]
  have%[c0,g0,l0|u0]:=get 0 (!1) (!1);refine%[_,%["JDG3FaCFSR0CCD'4efFaCFSFkR0CCCD~45efjb?1U~U0<C<FaC3X0?2pH~5A0AM1AM2BDG6TBDV&AM4B~m7efEWni6A~K~LhAjb?3UM5X0?4pH~nAR0M2AM1BBBD~C8feb?5&ACB~o0?6ef/~6~7~8Ajb?7UM1X0?8pt=M10BM0EIuA~K~LhA6BA8B",db.nd,↑(["_law_number","_law_high","_law_wild"],[(1,4),(2,2)]),↑["_law_number","_law_high","_law_wild"],↑(["_law_column_here","_law_shift","_law_k"],[(1,1),(2,7)]),↑["_law_column_here","_law_shift","_law_k"],↑(["_law_at","_law_columns"],[(1,5)]),↑["_law_at","_law_columns"],↑(["_law_column_here","_law_at"],[(1,0)]),↑["_law_column_here","_law_at"]|hr]|?_]
  show br _ _ _ [!a,some (.int v),some (.bl d),none,none,none,none,none,none] H;refine am λD1 k1 _=>?_
  lk;refine%[_,hs,_,g0,c0,ρ,!1|k1 _ _ (am λD2 k2 _=>?_)];lk;refine%[_,hs,_,g0,c0,ρ,%[!1|!1],!1|k2 _ _ (am λD4 k4 _=>?_)];have w1:1<=1+c0%5:=by lia
  have w5:1+c0%5<=5:=by lia
  have i1:1<=1+c0/5%7:=by lia
  have i6:1+c0/5%7<=7:=by lia
  generalize cl:1+c0%5=wd at w1 w5
  generalize 1+c0/5%7=hi at i1 i6
  refine aF λI Y=>?_
  lk;refine%[_,hs|λp hp=>%[%[_|SqL.of ae]|Y _ _ λD hD=>?_]];rw[uZ xs (!1) ⋯ ⋯]at hD ⊢;have aR: ~~~((xs.drop (Int.toNat 1)).take ((1+wd).toNat-Int.toNat 1))=wd.toNat:=by
   rw[Yj,Yf,b2];rw[show(1+wd).toNat=wd.toNat+1 by lia];exact min_eq_left ⋯
  have aU:∀x∈(xs.drop (Int.toNat 1)).take ((1+wd).toNat-Int.toNat 1),0<=x/\x<9973:=λx hx=>hb x (List.mem_of_mem_drop (Yu hx))
  generalize (xs.drop (Int.toNat 1)).take ((1+wd).toNat-Int.toNat 1)=ys at aR aU hD ⊢
  have a0:ah H (upd H p (.lst (ys\4))):=ah.upd hp;have aa:upd H p (.lst (ys\4)) p<*ys\4:=ae
  generalize upd H p (.lst (ys\4))=b3 at a0 aa hD ⊢
  refine cK (J:=Itl K p) (n:=wd.toNat) (D:=D) (λi zs m j=>(∃o,m=[o,some (.int hi),some (.bl d)])/\ah b3 j/\j D<*zs/\∃b:List (Addr×ZM),zs=b\0/\ ~~~b=i/\sQ j b/\∀q∈b,q.1≠D/\ ~~~q.2=hi.toNat/\jW d q.2)
   %[%[none|rfl],ah.upd hD,ae,[],rfl,rfl,λq B=>(nomatch B)|λq B=>(nomatch B)]
   (λi _ _ j a1 g=>%[_,V.int (ys[i]'⋯),SqL.of (g.2.1 _ _ aa)|by simp[show i< ~~~ys by lia]]) (λ_ _ j g=>%[_,SqL.of (g.2.1 _ _ aa)|by simp[aR]]) ?_ ?_
  .intro i zs m j a1 %[%[o|rfl],M,a2,b,rfl,L,ab|N] x H2 %[e2|hx];subst e2;have a3:i< ~~~ys:=by lia
   have y:=hx _ (SqL.of (M _ _ aa));rw[Zl,Z4 a3]at y;obtain rfl:x=V.int ys[i]:=(Za y).symm;lk;refine%[_,_,_,ρ,(aU _ (Ya a3)).1,i1,i6|λl H3 b4 an a4 a5 a6 b5=>?_];have a7:l≠D:=λe=>by rw[e,a2]at a4;cases a4
   refine CK.mk a1 (an _ _ a2) (by rw[Z6,L];exact aG ⋯) %[%[_|rfl],ah.set (M.trans an) hD,ae,b++[(l,b4)],by rw[Zd];rfl,by rw[Z9,L];rfl,λq B=>?_|λq B=>?_]
   .rcases Xj B with z|z
    .rw[aj (N q z).1];exact an _ _ (ab q z)
    .rw[Xk z,aj a7];exact a5
   .rcases Xj B with z|z
    .exact N q z
    .rw[Xk z];exact%[a7,a6|b5]
  intro zs m H4 %[_,b6,bb,b,rfl,L,ab|N];have aq:ah H H4:=a0.trans b6;refine k4 _ _ (am λD5 k5 _=>?_);lk;refine%[Xb _|λR hR=>k5 _ _ (am λD6 k6 _=>aC λI Y=>?_)];lk;have cd: ~~~(b\2)=wd.toNat:=by rw[Z6];exact L
  refine%[⋯,⋯|Y _ _ (cC (λi m j=>∃o7,m=[!a,some (.int v),some (.bl d),some (.int wd),some (.int hi),!D,!R,o7,none]/\ah H4 j/\j R<*((List.range i).map (iG (b\2) v))\3)
   %[_,ρ,ah.upd hR|ae] ?_ ?_)]
  .intro i m H5 co %[o7,rfl,u|ac];show jF _ _ [!a,some (.int v),some (.bl d),some (.int wd),some (.int hi),!D,!R,some (.int (0+i)),none] H5;rw[Int.zero_add];refine aE λD8 k8 _=>?_
   lk;refine%[tyL (SqL.of ac)|aF λI Y=>?_];lk;have ag:=u _ _ bb;refine%[%[_|SqL.of ag]|Y _ _ λF hF=>?_];refine cK (J:=Itl K D) (n:=wd.toNat) (D:=F) (λq ts m j=>(∃o,m=[o,some (.int v),some (.int i)])/\ah H5 j/\j F<*ts/\ts=(((b.take q).map (λp=>sg (p.2.getD i 0) v)).map sgn)\3)
    %[%[none|rfl],ah.upd hF,ae|rfl]
    (λq _ _ j B g=>%[_,V.ref (b[q]'⋯).1,SqL.of (g.2.1 _ _ ag)|by simp[show q< ~~~b by lia]]) (λ_ _ j g=>%[_,SqL.of (g.2.1 _ _ ag)|by simp[L]]) ?_ ?_
   .intro q ts m j B %[%[o|rfl],M,ar|O] x H2 %[e2|hx];subst e2;have C:q< ~~~b:=by lia
    have y:=hx _ (SqL.of (M _ _ ag));rw[Zl,Z4 C]at y;obtain rfl:x=V.ref b[q].1:=(Za y).symm;have hm:=Ya C;lk;refine%[_,SqL.of (M _ _ (u _ _ (ab _ hm))),V.int (b[q].2.getD i 0),?_|?_]
    .refine cg ?_;rw[Zl,dz (N _ hm).2.1 ⋯];rfl
    refine%[_,_,ρ,s0|?_];refine CK.mk B ar (by rw[O,Z6,Z6,Z6,Yj];exact aG ⋯) %[%[_|rfl],ah.set M hF,ae|?_];rw[O,X7,Zd,Zd,Zd,Z4 C];rfl
   intro ts m H7 %[_,bc,b7|O];rw[Zn ⋯]at O;lk;refine%[(b.map λp=>sg (p.2.getD i 0) v).map sgn,by rw[<-O];exact SqL.of b7,?_,_,bc _ _ ac,by rw[Z6,Z6,Yh];exact aG ⋯|k8 _ _ %[_,ρ,ah.set (u.trans bc) hR|?_]]
   .rw[sk,Z6,Z6,show(!"").length=0 from rfl]
    lia
   .rw[ae,X6,Zd,Zd,show Txt.join (!"") ((b.map λp=>sg (p.2.getD i 0) v).map sgn)=Str.join (!"") ((b.map λp=>sg (p.2.getD i 0) v).map sgn)from StrLaws.glued_eq_join _ _,nC];have e:iG (b\2) v i=⟨(b.map λp=>sg (p.2.getD i 0) v).toArray⟩:=by
     unfold iG;rw[Yp];rfl
    rw[<-e];rfl
  .intro m H5 %[o7,rfl,u|ac];refine k6 _ _ (am λD7 k7 _=>aF λI Y=>?_);lk;refine%[!1,!1|Y _ _ λF hF=>?_];refine cK (J:=Itr 0 8) (n:=8) (D:=F) (λq ts m j=>(∃o,m=[o,!D])/\ah H5 j/\j F<*ts/\ts=(((List.range q).filter λa:Nat=>(b\2).any λc=>decide ((a:Int)∈c)).map λa:Nat=>(a:Int))\4)
    %[%[none|rfl],ah.upd hF,ae|rfl] (λq _ _ j B _=>B) (λ_ _ j _=>Zi _) ?_ ?_
   .intro q ts m j B %[%[o|rfl],M,ar|O] x H2 %[e2|e3];subst e2 e3;lk;refine aF λI Y=>?_
    lk;have ai:=M _ _ (u _ _ bb);refine%[%[_|SqL.of ai]|Y _ _ λG hG=>?_];refine cK (J:=Itl K D) (n:=wd.toNat) (D:=G) (λr zs m H3=>(∃o,m=[o,some (.int q)])/\ah H2 H3/\H3 G<*zs/\zs=(b.take r).map (λp=>V.bl (decide ((q:Int)∈p.2))))
     %[%[none|rfl],ah.upd hG,ae|rfl]
     (λr _ _ H3 bf g=>%[_,V.ref (b[r]'⋯).1,SqL.of (g.2.1 _ _ ai)|by simp[show r< ~~~b by lia]]) (λ_ _ H3 g=>%[_,SqL.of (g.2.1 _ _ ai)|by simp[L]]) ?_ ?_
    .intro r zs m H3 bf %[%[o|rfl],s3,b9|hz] x ct %[e2|hx];subst e2;have C:r< ~~~b:=by lia
     have y:=hx _ (SqL.of (s3 _ _ ai));rw[Zl,Z4 C]at y;obtain rfl:x=V.ref b[r].1:=(Za y).symm;have hm:=Ya C;lk;refine%[_,.inl (SqL.of (s3 _ _ (M _ _ (u _ _ (ab _ hm))))),ρ,zy _|?_];rw[DI];refine CK.mk bf b9 (by rw[hz,Z6,Yj];exact aG ⋯) %[%[_|rfl],ah.set s3 hG,ae|?_];rw[hz,X7,Zd,Z4 C];rfl
    intro zs m H3 %[_,s3,ca|hz];rw[Zn ⋯]at hz;have bl:=s3 _ _ ar;lk;refine%[b.map λp=>decide ((q:Int)∈p.2),by rw[Yp];exact SqL.of (by rw[ca,hz];rfl)|?_];rw[show((b.map λp=>decide ((q:Int)∈p.2)).any id)=(b\2).any λc=>decide ((q:Int)∈c) by rw[any_map,any_map];rfl];have bm: ~~~ts<sizeLine:=by
     rw[O,Z6,Z6];have:=Yg (λa:Nat=>(b\2).any λc=>decide ((a:Int)∈c)) (List.range q);rw[Yh]at this;exact aG ⋯
    refine bA (λhb=>?_) λhb=>?_
    .refine CK.mk B bl bm %[%[_|rfl],ah.set (M.trans s3) hF,ae|?_];rw[O,X6,Y2,Zd,Zd];rw[show List.filter (λa:Nat=>(b\2).any λc=>decide ((a:Int)∈c)) [q]=[q]from by rw[filter_cons,if_pos hb];rfl];rfl
    .refine CN.mk B %[%[_|rfl],M.trans s3,bl|?_];rw[O,X6,Y2,Zd,Zd];rw[show List.filter (λa:Nat=>(b\2).any λc=>decide ((a:Int)∈c)) [q]=[]from by rw[filter_cons,if_neg hb];rfl];simp
   intro ts m H6 %[_,as,bt|O];refine k7 _ _ ?_;lk;have U:∀c∈b\2,~~~c=hi.toNat/\jW d c:=λc hc=>by
    have%[p,hp|rfl]:=Xl hc;exact(N p hp).2
   have al:ci (drawn (b\2) hi.toNat v):=uP ⋯ ⋯ ⋯ ⋯ U;have b0:H5 R<*(drawn (b\2) hi.toNat v)\3:=ac;refine%[drawn (b\2) hi.toNat v,SqL.of (as _ _ b0),?_,#[2]|λp hp=>?_]
   .have:=al.sum;have:=al.high;rw[show(!"\n").length=1 from rfl]
    lia
   .have b1:ah H (upd H6 p (.tup [V.str (Txt.join (!"\n") (drawn (b\2) hi.toNat v)),V.ref F])):=(aq.trans (u.trans as)).trans (ah.upd hp);refine kk p F _ (b\2) hi.toNat b1 ((aq.trans (u.trans as)).free hp) ((aq.trans u).free hF) (λe=>by rw[e,bt]at hp;cases hp) ?_ ?_ ⋯ ⋯ ⋯ ⋯ U
    .rw[ae,show Txt.join (!"\n") (drawn (b\2) hi.toNat v)=Str.join (!"\n") (drawn (b\2) hi.toNat v)from StrLaws.glued_eq_join _ _];rfl
    .rw[ah.upd hp F _ bt,O];rfl
inductive qV
 | mk (z:Str):vs=[.str z]-> ~~~z<=1000->(∀H',ah H H'->Q (.bl (sj z)) H')->qV vs H Q E0
inductive oz
 | mk (row above:Str):vs=[.str row,.str above]-> ~~~row<=1000-> ~~~above<=1000->(∀H',ah H H'->Q (.bl (eQ row above)) H')->oz vs H Q E0
inductive jk (K:ZB)
 | mk (a rows):vs=[.ref a]->SqL K H a (rows\3)->(rows.map (·.length)).sum<=3000->(∀r∈rows,r.cps.toList.all okc=true)->(∀l H' ss,ah H H'->H l=none->H' l<*ss\3->ss.Perm (aA ((cL rows).map sgn))->PyProof.Rows.sortedS ss=true->Q (.ref l) H')->jk K vs H Q E0
inductive oA
 | mk (rows:ZC):vs=[.str (Str.join nl rows)]->ci rows->(∀l H',ah H H'->H l=none->H' l<*rows\3->Q (.ref l) H')->oA vs H Q E0
def iY(z:Str)(i:Nat)(c:Nat)(h:z.cps[i]?∣c):(z.cps.toList.take i++[c])=z.cps.toList.take (i+1):=by
 have h':z.cps.toList[i]?∣c:=↑h
 have%[a|e]:=Xi h';rw[List.take_succ_eq_append_getElem a,e]
def wW(c d:Nat):((⟨([c].toArray)⟩:Str)=⟨([d].toArray)⟩)↔c=d:=by
 simp
def li(c:Nat):((⟨([c].toArray)⟩)=!".")↔c=46:=wW c 46
def BW(T:Txt K mg):↥1 "is_row" ["row"] qV:=by
 .exists T.aV,zv,y,N,%[z,rfl,O|k];refine%[_,%["JEI%~V__CcdA0B~9(~W~XAjb?1~Y0X0?2p~ptY0~D(t=0~qB",0,↑(["sign"],[])|↑["sign"]]|?_];show jG _ _ [-z] H;lk;refine%[bH ⋯|bA (λl=>bA (λm=>?_) λm=>?_) λl=>?_]
  .refine aF λu B=>?_
   lk;refine B _ _ λD v=>?_
   refine cK (J:=Its z) (n:=z.cps.size) (D:=D) (λi ys d a=>(∃o,d=[o])/\ah H a/\a D<*ys/\ys=(z.cps.toList.take i).map (λc=>V.bl (okc c))) %[%[none|rfl],ah.upd v,ae|rfl]
    (λi _ _ _ hi _=>hi) (λ_ _ _ _=>Zi _) ?_ ?_
   .intro i ys d a hi %[%[o|rfl],p,q|g] x C %[G,c,I|rfl];subst G;have j: ~~~ys=i:=by
     rw[g,Z6,Yj];have: ~~~z.cps.toList=z.cps.size:=by simp
     lia
    have L:i<1000:=by
     have: ~~~z=z.cps.size:=rfl
     lia
    have put:∀b:Bool,b=okc c->CK D z.cps.size i (λi ys d a=>(∃o,d=[o])/\ah H a/\a D<*ys/\ys=(z.cps.toList.take i).map (λc=>V.bl (okc c))) ys [some (.str ⟨([c].toArray)⟩)] (.bl b) C:=λb M=>
     CK.mk hi q (j▸aG ⋯) %[%[_|rfl],ah.set p v,ae|by rw[M,g,<-iY z i c I,Zd];rfl]
    lk;refine bA (λr=>put true ?_) λr=>put _ ?_
    .have:=(li c).mp (Zo r);unfold okc;rw[Zf this,Bool.true_or]
    .have: ¬ c=46:=λe=>(λe=>r (Zf e)) ((li c).mpr e)
     unfold okc;rw[Zh this,Bool.false_or,Aw];rfl
   .intro ys d a %[_,p,q|g];lk;refine%[z.cps.toList.map okc,?_|?_]
    .have e:z.cps.toList.take z.cps.size=z.cps.toList:=by
      apply Zn;simp
     rw[e]at g;have:(z.cps.toList.map okc).map V.bl=ys:=by rw[g,Yp];rfl
     rw[this];exact SqL.of q
    .have e:sj z=(z.cps.toList.map okc).all id:=by
      unfold sj;rw[l,m,all_map]
      all_goals rfl
     exact e▸k a p
  .rw[Bool.not_eq_true]at m;have e:sj z=false:=by unfold sj;rw[m,Bool.and_false,Bool.false_and]
   rw[e]at k;exact k H (ah.refl H)
  .rw[Bool.not_eq_true]at l;have e:sj z=false:=by unfold sj;rw[l,Bool.false_and,Bool.false_and]
   rw[e]at k;exact k H (ah.refl H)
abbrev l8(p:Nat×Nat):Bool:=!decide (p.2=46)||decide (p.1=46)
def oB(x y:Str)(i c d:Nat)(b:x.cps[i]?∣c)(f:y.cps[i]?∣d):((List.zip x.cps.toList y.cps.toList).take i++[(c,d)])=(List.zip x.cps.toList y.cps.toList).take (i+1):=by
 have h:(List.zip x.cps.toList y.cps.toList)[i]?∣(c,d):=List.getElem?_zip_eq_some.mpr %[↑b|↑f];have%[a|e]:=Xi h;rw[List.take_succ_eq_append_getElem a,e]
def oC(T:Txt K mg):↥1 "lies_beneath" ["row","above"] oz:=by
 .exists T.aW,my,I,hr,%[row,a,rfl,L,M|k];refine%[_,%["JDNKvcdA0BcdA1BEIxQEI~W~XAjb?1~rA1A0BlOX0?2OX1?2mp~ptv1~D(tY0~DB",0,↑(["high","low"],[])|↑["high","low"]]|?_]
  show br _ _ _ [-row,-a] H;refine am λD1 k1 N=>?_
  lk;refine%[bH ⋯,bH ⋯|bA (λj=>?_) λj=>?_]
  .have j: ¬ ((~~~row:Int)= ~~~a):=↑j
   have e:eQ row a=false:=by
    unfold eQ;rw[Zh ⋯,Bool.false_and]
   rw[e]at k;exact N _ _ (k H (ah.refl H))
  .have j: ~~~row= ~~~a:=by
    have:(~~~row:Int)= ~~~a:=↑j
    lia
   refine k1 _ _ ?_;have u:row.cps.size=a.cps.size:=j;have v: ~~~(List.zip a.cps.toList row.cps.toList)=a.cps.size:=by rw[length_zip];simp[u]
   lk;refine aF λB O=>?_
   lk;refine O _ _ λD C=>?_
   refine cK (J:=Itz a row) (n:=a.cps.size) (D:=D) (λi ys l g=>(∃q r,l=[q,r])/\ah H g/\g D<*ys/\ys=((List.zip a.cps.toList row.cps.toList).take i).map (λp=>V.bl (l8 p))) %[%[none,none|rfl],ah.upd C,ae|rfl]
    (λi _ _ _ hi _=>%[hi|⋯]) (λ_ _ _ _=>%[Zi _,⋯|.inl rfl]) ?_ ?_
   .intro i ys l g hi %[%[q,r|rfl],y,z|m] x H2 %[c,d,TT,U,Y,G,rfl|rfl];have o: ~~~ys=i:=by rw[m,Z6,Yj,v];lia
    have aa:i<1000:=by
     have: ~~~a=a.cps.size:=rfl
     lia
    have put:∀b:Bool,b=l8 (c,d)->CK D a.cps.size i (λi ys l g=>(∃q r,l=[q,r])/\ah H g/\g D<*ys/\ys=((List.zip a.cps.toList row.cps.toList).take i).map (λp=>V.bl (l8 p))) ys [some (.str ⟨([c].toArray)⟩),some (.str ⟨([d].toArray)⟩)] (.bl b) (upd g TT (.tup [.str ⟨([c].toArray)⟩,.str ⟨([d].toArray)⟩])):=λb eb=>
     CK.mk hi (ah.upd G _ _ z) (o▸aG ⋯) %[%[_,_|rfl],ah.set (y.trans (ah.upd G)) C,ae|by rw[eb,m,<-oB a row i c d U Y,Zd];rfl]
    lk;refine%[_,SqT.of ae,ρ,_,_,ρ,_,_,ρ,ρ,ρ|?_];simp only[V.str.injEq,li];refine bA (λh=>put true ?_) λh=>%[⟨⟩|put _ ?_]
    .unfold l8;rw[h,Bool.true_or]
    .unfold l8;rw[Bool.not_eq_true]at h;rw[h,Bool.false_or]
   .intro ys l g %[_,y,z|m];lk;refine%[(List.zip a.cps.toList row.cps.toList).map l8,?_|?_]
    .have e:(List.zip a.cps.toList row.cps.toList).take a.cps.size=List.zip a.cps.toList row.cps.toList:=Zn ⋯;rw[e]at m;have:((List.zip a.cps.toList row.cps.toList).map l8).map V.bl=ys:=by rw[m,Yp];rfl
     rw[this];exact SqL.of z
    .have e:eQ row a=((List.zip a.cps.toList row.cps.toList).map l8).all id:=by
      unfold eQ;rw[Zf j,all_map,Bool.true_and];rfl
     exact e▸k g y
def zB(h:(rows.map (·.length)).sum<=3000):(Str.join (!"") rows).length<=3000:=by
 have:=StrLaws.join_length_le (!"") rows;rw[show(!"").length=0 from rfl]at this
 lia
def kf(T:Txt K mg):↥1 "letters_in" ["rows"] (jk K):=by
 .exists T.aX,pO,N,hr,%[a,rows,rfl,O,g,v|k];refine%[_,%["JEI*~ZA:|Ajb?1~Y~K~LhA0BX0?2/Kv0~D0BB",0,↑(["sign"],[])|↑["sign"]]|?_];show jG _ _ [!a] H;lk;refine aF λG U=>?_
  lk;refine%[rows,O,by rw[show(!"").length=0 from rfl];lia|?_];rw[show Txt.join (!"") rows=Str.join (!"") rows from StrLaws.glued_eq_join _ _];have j:=zB g;have b:=kP v;unfold cL at b k
  generalize Str.join (!"") rows=z at j b k ⊢
  refine U _ _ λD I=>?_
  refine cK (J:=Its z) (n:=z.cps.size) (D:=D) (λi ys y m=>(∃o,y=[o])/\ah H m/\m D<*ys/\ys=((z.cps.toList.take i).filter (λc=>decide (c≠46))).map (λc=>V.str (sgn c))) %[%[none|rfl],ah.upd I,ae|rfl]
   (λi _ _ _ hi _=>hi) (λ_ _ _ _=>Zi _) ?_ ?_
  .intro i ys y m hi %[%[o|rfl],r,u|d] x H2 %[Y,c,L|rfl];subst Y;have M: ~~~ys<=i:=by
    rw[d,Z6];have:=Yg (λc=>decide (c≠46)) (z.cps.toList.take i);rw[Yj]at this
    lia
   have aa:i<3000:=by
    have: ~~~z=z.cps.size:=rfl
    lia
   lk;simp only[li];refine bA (λB=>?_) λB=>?_
   .refine CK.mk hi u (aG ⋯) %[%[_|rfl],ah.set r I,ae|?_];rw[<-iY z i c L,Y2,Zd,d];have:decide (c≠46)=true:=↑B
    rw[filter_cons,this];rfl
   .refine CN.mk hi %[%[_|rfl],r,u|?_];rw[<-iY z i c L,Y2,Zd,d];have:decide (c≠46)=false:=↑B
    rw[filter_cons,this];simp
  .intro ys y m %[_,r,u|d];have e:z.cps.toList.take z.cps.size=z.cps.toList:=by
    apply Zn;simp
   rw[e]at d;lk;have ab:=Yg (λc=>decide (c≠46)) z.cps.toList;have ac: ~~~z.cps.toList= ~~~z:=by simp[Str.length]
   refine%[(z.cps.toList.filter (λc=>decide (c≠46))).map sgn,?_,by rw[Z6];lia|λS hS=>%[_,ae,?_|λl ss p hp C=>?_]]
   .rw[Yp];have:(z.cps.toList.filter (λc=>decide (c≠46))).map (V.str ∘ sgn)=ys:=by rw[d];rfl
    rw[this];exact SqL.of u
   .have:=nB b
    lia
   .have q:ah H (upd m S (d6 w S (aA ((z.cps.toList.filter (λc=>decide (c≠46))).map sgn)))):=r.trans (ah.upd hS);exact k l _ ss (q.trans (ah.upd p)) (q.free p) ae hp C
def lj(T:Txt K mg):↥2 "rows_of" ["text"] oA:=by
 .exists T.aU,gM,an,N,%[rows,rfl,a|k];have%[wd,w1,w2|hw]:=a.wide;have O:=a.text;have u:=a.split;refine%[_,%["JDNqgz!A0A?1BE+QDG1]A]B0AhBDV~MA1BlOL2OL3mDNZrKY2]CyqgH]DA3BE+QENZwK~B2C$qgH]EA3AR1F^2CBE+QDNKYcdAH~sA1BBCE+QEI1",gM.nd,(blE (v:= .ty "str") rfl T.ab boot_str rfl rfl rfl)|N]|?_]
  generalize Str.join nl rows=z at O u
  show br _ _ _ [-z,none,none,none] H;refine am λD1 k1 _=>?_
  lk;refine%[.type "str",.str z,true,by rfl|rV (k1 _ _ (am λD2 k2 _=>?_))];lk;refine%[!1,Ye (by lia: ~~~z+2<=5000) (!1)|λl hl=>k2 _ _ ?_];rw[show(!"\n")=nl from rfl,u];refine am λD3 k3 _=>aC λag hK=>?_
  lk;have U:ah H (upd H l (.lst (rows\3))):=ah.upd hl;refine%[_,SqL.of ae|hK _ _ (jN (λi L g=>∃Y o3,L=[-z,!l,Y,o3]/\ah H g/\g l<*rows\3) %[none,none,ρ,U|ae] (λi L g _ ⟨_,_,_,_,q⟩=>SqL.of q) ?_ ?_)]
  .intro i x TT L g y %[Y,o3,rfl,sm|j] hT;obtain⟨r,m,rfl⟩:∃r,rows[i]?∣r/\x=V.str r:=by
    rw[Zl]at y;cases e:rows[i]? with
    | none=>rw[e]at y;cases y
    | some r=>rw[e]at y;exact%[r,ρ|(Za y).symm]
   have ai:i< ~~~rows:=(Xi m).1;have al:=a.high;have B:ah H (upd g TT (.tup [.int i,.str r])):=sm.trans (ah.upd hT);have o:upd g TT (.tup [.int i,.str r]) l<*rows\3:=ah.upd hT _ _ j;have C:upd g TT (.tup [.int i,.str r]) TT&&&[.int i,.str r]:=ae
   generalize upd g TT (.tup [.int i,.str r])=HT at B o C
   have G: ~~~r<=1000:=by
    have: ~~~r=wd:=hw r (Z8 m)
    lia
   refine%[_,SqT.of C,ρ,_,_,ρ,_,_,ρ,ρ|?_];show br _ _ _ [-z,!l,some (.int i),-r] HT;refine am λD4 k4 _=>?_
   have go:∀p,ah HT p->D4.nx [-z,!l,some (.int i),-r] p:=by
    intro p b;refine k4 _ _ (aE λD5 k5 _=>?_);have I:∀M,ah HT M->D5.nx [-z,!l,some (.int i),-r] M:=λM n=>k5 _ _ %[_,_,rfl,B.trans n|n l _ o]
    lk;refine bA (λJ=>?_) λ_=>I _ b
    have J:0<(i:Int):=Zo J;obtain⟨d,rfl⟩:∃d,i=d+1:=%[i-1|⋯]
    have aa:d< ~~~rows:=by lia
    have ab:rows[d]?∣rows[d]:=by simp
    have e1:(((d+1:Nat):Int) -1)=(d:Int):=by lia
    refine%[_,SqL.of (b l _ o),.str rows[d],e1▸cg ∅,r,rows[d],ρ,G,?_|λM n=>%[_,ρ|?_]]
    .have:rows[d].length=wd:=hw _ (Ya aa)
     lia
    .rw[a.beneath ab m];exact rV (I _ (b.trans n))
   lk;rw[if_neg ⋯];refine%[r,ρ,G|λp b=>%[_,ρ|?_]];rw[a.row (Z8 m)];exact rV (go p b)
  .intro L g %[Y,o3,rfl,sm|j];refine k3 _ _ ?_;lk;refine%[l,rows,ρ,SqL.of j,by have:=a.sum;lia,a.sign|λl2 p ss b aq ac J ar=>%[_,.inl %[_,SqL.of ac|ρ]|?_]];rw[if_neg]
   .exact k l p (sm.trans b) hl (b l _ j)
   .intro h0;have h0:=Zo h0;rw[Z6]at h0;have:ss=[]:=length_eq_zero_iff.mp ⋯;rw[this]at J;have hm:=J.symm.eq_nil;have%[c|hc]:=List.exists_mem_of_ne_nil _ a.signs_ne;have:sgn c∈aA ((cL rows).map sgn):=aQ.mpr (Xm %[c,hc|rfl]);rw[hm]at this;cases this
abbrev d5(p:Nat×Nat):Option ZC:=if p.1≠46/\p.1≠p.2 then some [sgn p.1,sgn p.2]else none
abbrev oE(u r:Str):List ZC:=(List.zip u.cps.toList r.cps.toList).filterMap d5
def iP(H:Hp):aK H []:=λp a=>by cases a
def aY(h:aK H ps)(s:∀b z,H b&&&z->c b&&&z):aK c ps:=λp a=>%[(h p a).1|s _ _ (h p a).2]
def iZ(h:aK H ps)(a:q.2≠[])(b:H q.1&&&q.2\3):aK H (ps++[q]):=λp c=>by
 rcases Xj c with z|z
 .exact h p z
 .rw[Xk z];exact%[a|b]
def u4(a:aK H ps)(b:aK H qs):aK H (ps++qs):=λp c=>(Xj c).elim (a p) (b p)
inductive Eo
 | mk (u r:Str):vs=[.str u,.str r]-> ~~~u<=40-> ~~~r= ~~~u->(∀l H' ps,ah H H'->H l=none->H' l∣.lst (ps\0)->aK H' ps->ps\2=oE u r->Q (.ref l) H')->Eo vs H Q E0
inductive xQ
 | mk (rows:ZC):vs=[.str (Str.join nl rows)]->ci rows->(∀l H' ss,ah H H'->H l=none->H' l<*ss\3->ss.Perm (aA ((cL rows).map sgn))->PyProof.Rows.sortedS ss=true->Q (.ref l) H')->xQ vs H Q E0
def zC(T:Txt K mg):↥3 "letters" ["text"] xQ:=by
 .exists T.aY,wU,d,b,%[rows,rfl,a|e];refine%[_,%["JEIH~sAH~tA0BB",0|b],rows,ρ,a|λl r c u g=>%[l,rows,ρ,SqL.of g,by have:=a.sum;lia,a.sign|λi j ss m n o p q=>e i j ss (c.trans m) (c.free n) o p q]]
def jB(T:Txt K mg):↥1 "meetings_between" ["above","row"] Eo:=by
 .exists T.b0,ja,ab,hr,%[u,r,rfl,hu,ac|kk];have ag: ~~~u=u.cps.size:=rfl;have ai: ~~~r=r.cps.size:=rfl;refine%[_,%["JEIjb?1~rA0A1BlOX0?2OX1?2m/ZwKv0~D$Kv01uA0A1B",0,↑(["high","low"],[])|↑["high","low"]]|?_];show jG _ _ [-u,-r] H;lk;refine aF λaa hK=>?_
  lk;refine hK _ _ λD O=>?_
  refine cK (J:=Itz u r) (n:=u.cps.size) (D:=D) (λi ys U l=>(∃o1 o2,U=[o1,o2])/\ah H l/\l D<*ys/\ ~~~ys<=i/\∃ps:ZH,ys=ps\0/\aK l ps/\ps\2=((List.zip u.cps.toList r.cps.toList).take i).filterMap d5)
   %[%[none,none|rfl],ah.upd O,ae,Zi _,[],rfl,iP _|rfl] (λi _ _ _ hi _=>%[hi|⋯]) (λ_ _ _ _=>%[Zi _,⋯|.inl rfl]) ?_ ?_
  .intro i ys U l hi %[%[o1,o2|rfl],Y,hl,I,ps,L,m|j] x H2 %[c,d,TT,hc,hd,hT,rfl|rfl];have v:=ah.upd (o:= .tup [.str ⟨([c].toArray)⟩,.str ⟨([d].toArray)⟩]) hT;have nx:=oB u r i c d hc hd;have a:=v _ _ hl;have C:upd l TT (.tup [.str ⟨([c].toArray)⟩,.str ⟨([d].toArray)⟩]) TT&&&[.str ⟨([c].toArray)⟩,.str ⟨([d].toArray)⟩]:=ae;have g:aK (upd l TT (.tup [.str ⟨([c].toArray)⟩,.str ⟨([d].toArray)⟩])) ps:=λp G=>%[(m p G).1|v _ _ (m p G).2]
   have y:=Y.trans v
   generalize upd l TT (.tup [.str ⟨([c].toArray)⟩,.str ⟨([d].toArray)⟩])=HT at v a C g y
   refine%[_,SqT.of C,ρ,_,_,ρ,_,_,ρ,ρ|?_];show Cl _ _ [some (.str ⟨([c].toArray)⟩),some (.str ⟨([d].toArray)⟩)] HT _;lk;simp only[li,wW];have al:D≠TT:=λe=>by rw[e,C]at a;cases a
   refine bA (λM=>bA (λN=>?_) λN=>?_) λM=>?_
   .have M:c≠46:=↑M
    have N:c≠d:=↑N
    refine%[show 2<=sizeLine from !1|λp G=>?_];have B:=ah.upd (o:= .tup [V.str ⟨([c].toArray)⟩,V.str ⟨([d].toArray)⟩]) G;have an:p≠D:=λe=>by rw[e,a]at G;cases G
    refine CK.mk hi (B _ _ a) (aG ⋯) %[%[_,_|rfl],ah.set (y.trans B) O,ae,by rw[Z9,Yi];lia,ps++[(p,[sgn c,sgn d])],by rw[L,Zd];rfl,?_|?_]
    .have keep:∀b z,upd HT p _ b&&&z->upd _ D (.lst (ys++[V.ref p])) b&&&z:=λb z e=>by
      have:b≠D:=λe2=>by rw[e2,B _ _ a]at e;cases e
      rw[aj this];exact e
     exact aY (iZ (aY g λb z e=>B _ _ e) ∅ (by rw[ae];rfl)) keep
    .rw[Zd,j,<-nx,Y0];have:d5 (c,d)∣[sgn c,sgn d]:=if_pos %[M|N];rw[Y1,this];rfl
   .refine CN.mk hi %[%[_,_|rfl],y,a,⋯,ps,L,g|?_];rw[j,<-nx,Y0];have:d5 (c,d)=none:=if_neg λq=>q.2 ↑N
    rw[Y1,this];simp
   .refine CN.mk hi %[%[_,_|rfl],y,a,⋯,ps,L,g|?_];rw[j,<-nx,Y0];have:d5 (c,d)=none:=if_neg λq=>q.1 ↑M
    rw[Y1,this];simp
  .intro ys U l %[_,Y,hl,I,ps,L,m|j];rw[Zn (by rw[length_zip];simp;lia)]at j;exact kk D l ps Y O (by rw[hl,L]) m j
def BX{K:ZB}{xs ys:ZN}{g:TG}{q:TS}{D:ik}(Pv:Nat->St->Hp->Prop)(s:Pv 0 c H)(u: ~~~ys<= ~~~xs)(z:∀i c H,i<= ~~~ys->Pv i c H->SqL K H a xs/\SqL K H b ys)
 (A:∀i x y T c H,xs[i]?∣x->ys[i]?∣y->Pv i c H->H T=none->g (.ref T) c (upd H T (.tup [x,y])) λd j=>q {D with nx:=Pv (i+1),ct:=Pv (i+1),bk:=D.nx} d j) (B:∀c H,Pv ys.length c H->D.nx c H):
 ∃W:Nat->Nat->St->Hp->Prop,(∃m,W 0 m c H)/\∀i m c H,W i m c H->
  ((yZ K a b).stop i H/\D.nx c H)\/((yZ K a b).go i H/\∃N:St->Hp->Prop,(∀f h,N f h->∃r,r<m/\W (i+1) r f h)/\∀x h,(yZ K a b).yld i H x h->g x c h λd j=>q {D with nx:=N,ct:=N,bk:=D.nx} d j):=by
 refine%[λi m c H=>m= ~~~ys-i/\i<= ~~~ys/\Pv i c H,%[~~~ys,by simp,Xb _|s]|?_];intro i m c H %[rfl,hi|p];have%[l|n]:=z i c H hi p;by_cases o:i< ~~~ys
 .have C:xs[i]?∣xs[i]:=by simp[show i< ~~~xs by lia]
  have E:ys[i]?∣ys[i]:=by simp
  refine .inr %[%[xs,ys,_,_,l,n,C|E],Pv _,λf h G=>%[~~~ys-(i+1),⋯,rfl,o|G]|λv h y=>?_];have%[T,I,J,L,rfl,rfl,M|O]:=y;exact A i I J T c H (M xs l) (O ys n) p L
 .have e:i= ~~~ys:=by lia
  subst e;exact .inl %[%[xs,ys,l,n,⋯,Zi _|.inr rfl]|B c H p]
abbrev bg(rows:ZC)(i:Nat):List ZC:=(List.range i).flatMap λj=>oE (rows.getD j ⟨([].toArray)⟩) (rows.getD (j+1) ⟨([].toArray)⟩)
def kg(rows:ZC)(i:Nat):bg rows (i+1)=bg rows i++oE (rows.getD i ⟨([].toArray)⟩) (rows.getD (i+1) ⟨([].toArray)⟩):=by
 unfold bg;rw[X6,flatMap_append];simp
def wX(u r:Str): ~~~(oE u r)<= ~~~u:=by
 refine Ye (List.length_filterMap_le _ _) ?_;rw[length_zip];have: ~~~u.cps.toList= ~~~u:=by simp[Str.length]
 lia
def lq(h:k∈bg rows (~~~rows-1)):∃a b,k=[sgn a,sgn b]/\zt rows a b:=by
 have%[j,d|g]:=mem_flatMap.mp h;have f:∀j h,rows.getD j ⟨([].toArray)⟩=rows[j]:=λj h=>by simp[h]
 have d:=mem_range.mp d;have%[%[a|b],i|e]:=mem_filterMap.mp g;unfold d5 at e
 split at e
 .rename_i h
  have%[q|c]:=Xc i;rw[List.getElem?_zip_eq_some,f j ⋯,f _ ⋯]at c;exact%[a,b,(Za e).symm,h.1,h.2,j,q,rows[j],rows[j+1],Z4 _,Z4 _,by simpa using c.1|by simpa using c.2]
 .lia
def lu(g:ci rows)(h:zt rows a b):Let rows a/\Let rows b:=by
 have%[n1,l,i,j,r,c,d,f,g1|g2]:=h;refine%[%[n1,r,Z8 d|Z8 ↑g1],λe=>n1 (g.fall i r c d f j a b g1 g2 e),c,Z8 f|Z8 ↑g2]
def zD(rows:ZC)(h:rows≠[]):vQ (rows\3) (some 1) none=(rows.drop 1)\3:=by
 unfold vQ;rw[_H.sIx_none,show(some (1))∣((1:Nat):Int)from rfl,_H.sIx_nat,Z6,min_eq_left (length_pos_iff.mpr h),<-map_drop,<-map_take];rw[Zn (Yf▸Zi _)]
inductive xR
 | mk (rows:ZC):vs=[.str (Str.join nl rows)]->ci rows->wQ rows->(∀l H' ss,ah H H'->H l=none->H' l∣.lst (ss\0)->aK H' ss-> ~~~ss<=26->(∀t∈ss,∃a b,t.2=[sgn a,sgn b]/\Let rows a/\Let rows b)->(∀k,k∈ss\2↔k∈bg rows (~~~rows-1))->Q (.ref l) H')->xR vs H Q E0
def wY(T:Txt K mg):↥3 "meetings" ["text"] xR:=by
 refine T.aZ.cal dY (λH vs Q E h=>?_)
 .have%[rows,rfl,c,%[mm,ml|a2]|kk]:=h;refine%[ρ|λf bm A outer s hr=>?_];have%[wd,w1,w2|aa]:=c.wide;have hp:1<= ~~~rows:=c.pos;have bc:=c.high;have a3:rows≠[]:=length_pos_iff.mp hp;refine%[_,%["JDG1H~tA0BDG2TBDV]FA1A~U1<C~aBlOL3OL4mEW~u~v2AH]GA3A4BBEI*~wA:~xA2BB",dY.nd|hr]|?_]
  show br _ _ _ [some (.str (Str.join nl rows)),none,none,none,none] H;refine am λD1 k1 r1=>?_
  lk;refine%[rows,ρ,c|λR H1 s1 f1 hR=>k1 _ _ (am λD2 k2 r2=>?_)];lk;refine%[Xb _|λL hL=>k2 _ _ (am λD3 k3 r3=>aC λbf hK=>?_)];have s2:=ah.upd (o:= .lst []) hL;have G:=s2 _ _ hR;have I:upd H1 L (.lst []) L<*[]:=ae;have fL:H L=none:=s1.free hL;have ab:=s1.trans s2
  generalize upd H1 L (.lst [])=H2 at s2 G I ab
  lk;refine%[_,SqL.of G|λp hp=>?_];rw[zD rows a3];have s3:=ah.upd (o:= .lst ((rows.drop 1)\3)) hp;have J:=s3 _ _ G;have ac:=s3 _ _ I;have M:upd H2 p (.lst ((rows.drop 1)\3)) p<*(rows.drop 1)\3:=ae;have ag:=ab.trans s3;have a4:L≠R:=λe=>by rw[e,hR]at hL;cases hL
  have a5:p≠L:=λe=>by rw[e,I]at hp;cases hp
  generalize upd H2 p (.lst ((rows.drop 1)\3))=H3 at s3 J ac M ag
  refine%[%[_|SqL.of J],%[_|SqL.of M]|hK _ _ (BX (xs:=rows\3) (ys:=(rows.drop 1)\3) (λi σ l=>(∃o3 o4,σ=[some (.str (Str.join nl rows)),!R,!L,o3,o4])/\ah H l/\l R<*rows\3/\l p<*(rows.drop 1)\3/\
   ∃ps:ZH,l L∣.lst (ps\0)/\aK l ps/\ps\2=bg rows i/\ ~~~ps<=40*i) %[%[none,none|ρ],ag,J,M,[],ac,iP _,ρ|Xb _] (by rw[Z6,Z6,Yf];lia) (λi σ l _ q=>%[SqL.of q.2.2.1|SqL.of q.2.2.2.1]) ?_ ?_)]
  .intro i x y TT σ l hx hy %[%[o3,o4|rfl],sm,ai,al,ps,N,g,n|an] hT;rw[Zl]at hx hy;have%[u,hu|rfl]:=map_eq_some_iff.mp hx;have%[r,B|rfl]:=map_eq_some_iff.mp hy;rw[getElem?_drop,Nat.add_comm]at B;have bt:i+1< ~~~rows:=(Xi B).1;have ul: ~~~u=wd:=aa u (Z8 hu);have rl: ~~~r=wd:=aa r (Z8 B);have j:=ah.upd (o:= .tup [V.str u,V.str r]) hT;have aq:upd l TT (.tup [V.str u,V.str r]) TT&&&[V.str u,V.str r]:=ae;have ar:=j _ _ ai;have as:=j _ _ al;have v:=j _ _ N;have C:aK (upd l TT (.tup [V.str u,V.str r])) ps:=aY g λb z e=>j _ _ e
   have aR:=sm.trans j
   generalize upd l TT (.tup [V.str u,V.str r])=HT at j aq ar as v C aR
   refine%[_,SqT.of aq,ρ,_,_,ρ,_,_,ρ,ρ|?_];refine aE λD4 k4 r4=>?_
   lk;refine%[tyL (SqL.of v),u,r,ρ,⋯,⋯|λl4 H4 ps4 Y f4 h4 aU e4=>?_];have b0:l4≠L:=λe=>by rw[e,v]at f4;cases f4
   have bl: ~~~ps4<=40:=by
    have: ~~~(ps4\2)= ~~~(oE u r):=by rw[e4]
    rw[Z6]at this;have:=wX u r
    lia
   refine%[_,ρ,_,Y _ _ v,_,h4,by rw[Z6,Z6];exact bH ⋯|k4 _ _ ?_];have O:∀b z,H4 b&&&z->upd H4 L (.lst ((ps\0) ++ps4\0)) b&&&z:=λb z e=>by
    have:b≠L:=λe2=>by rw[e2,Y _ _ v]at e;cases e
    rw[aj this];exact e
   have a6:R≠L:=Ne.symm a4;refine%[%[_,_|ρ],λb u' e=>?_,(aj a6)▸Y _ _ ar,(aj a5)▸Y _ _ as,ps++ps4,by rw[ae,Zd],aY (u4 (aY C λb z e=>Y _ _ e) aU) O,?_|by rw[Z9];lia]
   .rw[aj (ax e fL)];exact Y _ _ (aR _ _ e)
   .rw[Zd,n,e4,kg];have g1:rows.getD i ⟨([].toArray)⟩=u:=by rw[Zc,hu];rfl
    have g2:rows.getD (i+1) ⟨([].toArray)⟩=r:=by rw[Zc,B];rfl
    rw[g1,g2]
  .intro σ l %[%[o3,o4|rfl],sm,ai,al,ps,N,g,n|an];rw[Z6,Yf]at n;refine k3 _ _ ?_;lk;have U:∀q∈ps,∃a b,q.2=[sgn a,sgn b]/\zt rows a b:=λq d=>lq (n▸Xm %[q,d|rfl])
   have a0:∀q∈ps,q.2∈mm:=λq d=>by
    have%[a,b,e|h]:=U q d;rw[e];exact a2 a b h
   refine%[ps,SqL.of N,g,%[mm,⋯|a0]|λl5 a7=>?_];have s5:=ah.upd (o:=nR P w l5 (bj ps)) a7;have bb: ~~~(bj ps)<=26:=by
    have:=_T.nodup_sub (dO ps) (m:=mm) λk hk=>by
     have%[q,d|rfl]:=Xl hk;exact a0 q (bx ps q d)
    rw[Z6]at this
    lia
   refine%[bj ps,ae,λq d=>%[(g q (bx ps q d)).1|s5 _ _ (g q (bx ps q d)).2],2,λq d=>?_,!1,⋯|λl6 ss a1 pm=>?_]
   .have%[a,b,e|_]:=U q (bx ps q d);rw[e];rfl
   have s6:=ah.upd (o:= .lst (ss\0)) a1;refine kk l6 _ ss ((sm.trans s5).trans s6) ((sm.trans s5).free a1) ae (λq d=>?_) (pm.length_eq▸bb) (λq d=>?_) λk=>?_
   .have:=g q (bx ps q (pm.mem_iff.mp d));exact%[this.1|s6 _ _ (s5 _ _ this.2)]
   .have%[a,b,e|h]:=U q (bx ps q (pm.mem_iff.mp d));exact%[a,b,e|lu c h]
   .rw[(pm.map _).mem_iff,gJ,n]
abbrev ei(z:Str):Bool:=(decide (1<=(~~~z:Int))&&decide ((~~~z:Int)<=8))&&z.cps.toList.all hJ
inductive oF
 | mk (z:Str):vs=[.str z]->ei z=true->(∀H',ah H H'->Q (.bl true) H')->oF vs H Q E0
inductive u5 (K:ZB)
 | mk (z:Str) (p:Addr) (ts:ZC):vs=[.str z,.ref p]->(SqL K H p (ts\3)\/SqT K H p (ts\3))->Q (.bl (decide (z∈ts))) H->u5 K vs H Q E0
inductive oG
 | mk (i:Int):vs=[.int i]-> -9999<=i->i<=9999->Q (.bl true) H->oG vs H Q E0
abbrev qW(ls:ZC)(vs:ZN):Prop:=
 (∃w a b:Str,vs=[.str w,.str a,.str b]/\(w="later"\/w="same")/\a∈ls/\b∈ls/\a≠b)\/
 ∃w a y,vs=[.str w,.str a,.int y]/\(w="since"\/w="by")/\a∈ls/\ -9999<=y/\y<=9999
inductive kh (K:ZB)
 | mk (t p xs ls):vs=[.ref t,.ref p]->H t&&&xs->SqL K H p (ls\3)->qW ls xs->Q (.bl true) H->kh K vs H Q E0
abbrev lnS(n z:Str):Str:=Str.empty++n++Str.ofString "."++z
inductive jm
 | mk (n z:Str):vs=[.str n,.str z]-> ~~~n<=100-> ~~~z<=100->Q (.str (lnS n z)) H->jm vs H Q E0
def ki(z:Str)(ts:ZC):inV (V.str z) (ts\3)=decide (z∈ts):=by
 unfold inV
 induction ts with
 | nil=>rfl
 | cons c r a=>
   show((c==z)||_)=_
   grind
def qX(ts:ZC):(ts\3).all fc=true:=by simp[fc]
def zE(T:Txt K mg):↥1 "is_name" ["thing"] oF:=by
 .exists T.aT,wS,y,N,%[z,rfl,B|k];refine%[_,%["JDNqgz!A0A?1BEIxQEI%~V__CcdA0B]H(~W~XAjb?2~Y0X0?3pt=0~qB",0,(blE (v:= .ty "str") rfl T.ab boot_str rfl rfl rfl),↑(["sign"],[])|↑["sign"]]|?_]
  show br _ _ _ [-z] H;have a:=B;unfold ei at a;rw[Zv,Zv]at a;have%[%[C|q]|b]:=a;have O: ~~~z<=8:=by have:=Zo q;lia
  lk;refine%[.type "str",.str z,true,by rfl|?_];lk;refine%[bH ⋯|?_];rw[if_pos C,if_pos q];refine aF λr G=>?_
  lk;refine G _ _ λD u=>?_
  refine cK (J:=Its z) (n:=z.cps.size) (D:=D) (λi ys l d=>(∃o,l=[o])/\ah H d/\d D<*ys/\ys=(z.cps.toList.take i).map (λc=>V.bl (hJ c))) %[%[none|rfl],ah.upd u,ae|rfl]
   (λi _ _ _ hi _=>hi) (λ_ _ _ _=>Zi _) ?_ ?_
  .intro i ys l d hi %[%[o|rfl],m,p|g] x U %[I,c,L|rfl];subst I;lk;have j: ~~~ys=i:=by
    rw[g,Z6,Yj];have: ~~~z.cps.toList=z.cps.size:=by simp
    lia
   have M:i<1000:=by
    have: ~~~z=z.cps.size:=rfl
    lia
   refine CK.mk hi p (j▸aG ⋯) %[%[_|rfl],ah.set m u,ae|?_];rw[Aw,g,<-iY z i c L,Zd]
   all_goals rfl
  .intro ys l d %[_,m,p|g];refine%[D,ρ,(z.cps.toList.map hJ),?_|?_]
   .have e:z.cps.toList.take z.cps.size=z.cps.toList:=by
     apply Zn;simp
    rw[e]at g;have:(z.cps.toList.map hJ).map V.bl=ys:=by rw[g,Yp];rfl
    rw[this];exact SqL.of p
   .have e:(z.cps.toList.map hJ).all id=true:=by
     rw[all_map];exact b
    rw[e];exact k d m
def cB(T:Txt K mg):↥1 "is_text_among" ["thing","texts"] (u5 K):=by
 .exists T.b6,kZ,a,c,%[z,p,ts,rfl,b|k];refine%[_,%["JEI%z!A0A?1B(t=01",0|(blE (v:= .ty "str") rfl T.ab boot_str rfl rfl rfl)]|?_];show jG _ _ [some _,some _] H;lk;refine%[.type _,.str z,true,by rfl|?_];rw[<-ki]at k;exact%[_,b,ρ,qX ts|k]
def zF(T:Txt K mg):↥1 "is_year" ["thing"] oG:=by
 .exists T.b7,wV,a,d,%[i,rfl,b,c|k];refine%[_,%["JDNZrqgz!A0A?1Bygz!A0A?2BEIxQEI~V__]I0]J",0,(blE (v:= .ty "int") rfl T.ah boot_int rfl rfl rfl)|(blE (v:= .ty "bool") rfl T.ai PyProof.Rows.boot_bool rfl rfl rfl)]|?_]
  show br _ _ _ [some (.int i)] H;lk;refine%[.type _,.int i,true,by rfl,.type _,.int i,false,by rfl|?_];rw[if_pos (Zf b),Zf c];exact k
def gP(T:Txt K mg):↥1 "layer_name" ["name","letter"] jm:=by
 .exists T.b8,pP,d,j,%[n,z,rfl,l,m|k];refine%[_,%["JEI~y~E~b0~Eh~E~b1~z"|0]|?_];show jG _ _ [-n,some _] H;lk;have e:∀a b:Str,~~~(a++b)= ~~~a+ ~~~b:=λa b=>size_append
  have g:Str.empty.length=0:=rfl;have i:(!".").length=1:=rfl;have c:∀k,k<=1000->k<=sizeLine:=λk o=>bH ⋯
  refine%[c _ ⋯,c _ ?_,c _ ?_,c _ ⋯,c _ ?_,c _ ?_|k]<;> simp only[e,g,i]<;> lia
def u8(T:Txt K mg):↥2 "is_saying" ["thing","layers"] (kh K):=by
 .exists T.b5,sO,m,c,%[t,p,xs,ls,rfl,l,e,ok|k];refine%[_,%["JDNZrqgz!A0A?1ByKvcdA0BCEIxQDNgH~FAP0CA]KBEI%H~FAP0CA1B%H~FAP0CA1B(tvP0CP0CQDNgH~FAP0CA]LBEI%H~FAP0CA1B(H]MAP0CBQEIx",0,(blE (v:= .ty "tuple") rfl T.ag boot_tuple rfl rfl rfl)|c]|?_]
  show br _ _ _ [!t,!p] H;lk;refine%[.type "tuple",.tup l,true,by rfl|?_];have st:=SqT.of (K:=K) l;rcases ok with⟨wd,a,b,rfl,hw,g,n,i⟩|⟨wd,a,y,rfl,hw,g,o,r⟩
  .have j:decide (wd∈([!"later",!"same"]:ZC))=true:=by rcases hw with rfl|rfl<;> decide
   lk;refine%[3,.inr %[_,st|ρ]|?_];rw[if_neg (!1)];refine%[_,st,_,ρ|λq d=>%[wd,q,[!"later",!"same"],ρ,.inr (d H),_,ρ|?_]];rw[j];lk;refine%[_,st,_,ρ,a,p,ls,ρ,.inl e,_,ρ|?_];rw[Zf g];lk;refine%[_,st,_,ρ,b,p,ls,ρ,.inl e,_,ρ|?_];rw[Zf n];lk;refine%[_,st,_,ρ,_,st,_,ρ,ρ|?_];rw[show(!decide (V.str a=V.str b))=true from by simp[i]];exact k
  .have j:decide (wd∈([!"later",!"same"]:ZC))=false:=by rcases hw with rfl|rfl<;> decide
   have u:decide (wd∈([!"since",!"by"]:ZC))=true:=by rcases hw with rfl|rfl<;> decide
   lk;refine%[3,.inr %[_,st|ρ]|?_];rw[if_neg (!1)];refine%[_,st,_,ρ|λq d=>%[wd,q,[!"later",!"same"],ρ,.inr (d H),_,ρ|?_]];rw[j];lk;refine%[_,st,_,ρ|λq d=>%[wd,q,[!"since",!"by"],ρ,.inr (d H),_,ρ|?_]];rw[u];lk;refine%[_,st,_,ρ,a,p,ls,ρ,.inl e,_,ρ|?_];rw[Zf g];lk;exact%[_,st,_,ρ,y,ρ,o,r|k]
abbrev nmC(b a k j:Nat):Nat:=97+(b+5*j*j+k*(if j=a then 1 else 0))%26
abbrev nmS(b a k s:Nat):Str:=⟨((List.range s).map (nmC b a k)).toArray⟩
def sU(b a k s:Nat): ~~~(nmS b a k s)=s:=by
 show((List.range s).map _).toArray.size=s;simp
def BY{b a k s:Nat}(e:1<=s)(f:s<=8):ei (nmS b a k s)=true:=by
 have all:∀i:Fin 26,hJ (97+i.1)=true:=!0
 unfold ei;rw[sU];simp only[Zv,decide_eq_true_eq,all_eq_true];refine%[%[⋯|⋯]|λc d=>?_];have%[j,_|rfl]:=Xl (show c∈(List.range s).map (nmC b a k)from d);exact all %[_|mod_lt _ (!1)]
def Gp{b a k c s s':Nat}(h:a<s)(h':a<s')(f:k<4)(d:c<4)(e:nmS b a k s=nmS b a c s'):k=c:=by
 have e:(List.range s).map (nmC b a k)=(List.range s').map (nmC b a c):=congrArg (λz:Str=>z.cps.toList) e;have e:=congrArg (·[a]?) e;simp only[Zl,getElem?_range h,getElem?_range h',map_some,Option.some.injEq,nmC,if_true]at e
 generalize b+5*a*a=m at e
 lia
def xS(b a k s:Nat)(h:a<s):Txt.slice (nmS b a k s) none (some ((a:Int) +1))=nmS b a k (a+1):=by
 rw[beq_iff_eq.mp (PyProof.Rows.slice_closes_toL (x:=nmS b a k s) (j:=(a:Int) +1) ⋯ (by rw[sU];lia))];refine fj ?_;show((((List.range s).map (nmC b a k)).drop 0).take ((a:Int) +1-0).toNat)=(List.range (a+1)).map (nmC b a k);rw[drop_zero,<-map_take,List.take_range,show min ((a:Int) +1-0).toNat s=a+1 by lia]
abbrev Nm4(ms:ZC):Prop:= ~~~ms=4/\ms.Nodup/\∀z∈ms,ei z=true
def BZ{b a:Nat}{s:Nat->Nat}(h:∀k<4,a<s k/\s k<=8):Nm4 ((List.range 4).map λk=>nmS b a k (s k)):=by
 refine%[by simp,?_|λz f=>?_]
 .rw[Yy,X4];refine Xd (λ{x y} c d e g=>e ?_) (nodup_iff_pairwise_ne.mp (nodup_range (n:=4)));rw[mem_range]at c d;exact Gp (h x c).1 (h y d).1 c d g
 .have%[k,i|rfl]:=Xl f;have:=h k (mem_range.mp i);exact BY ⋯ this.2
inductive B0
 | mk (n:Int):vs=[.int n]->0<=n->n<9973->(∀l H' (ms:ZC),ah H H'->H l=none->H' l<*ms\3->Nm4 ms->Q (.ref l) H')->B0 vs H Q E0
def u9(T:Txt K mg):↥1 "_law_names" ["_law_number"] B0:=by
 .exists T.bf,bO,aa,hr,%[n,rfl,n0,n1|O];have%[n|rfl]:=Xe n0;refine%[_,%["JDG1FaCFS0CDG2FSFk0C1DG3TBDV&ACBL4DG5TBDV&A1BL6DG7FaFaFk0CFoFoC66F]N4~k~lAtY62BEWni5A~jhFS7CBEWni3A~K~LhA5BBDNKYFSFk0CCCEG3TAR3CA~!R3C~a<Fa2CAR3CA~!R3C~a<Fa2CBQEI3"|bO.nd]|?_]
  show br _ _ _ [some (.int n),none,none,none,none,none,none,none] H;refine am λD1 k1 _=>?_
  lk;refine%[!1|k1 _ _ (am λD2 k2 _=>?_)];obtain⟨sz,es,s1,s8⟩:∃sz:Nat,1+(n:Int)%8=sz/\1<=sz/\sz<=8:=%[1+n%8,(by lia -verbose),(by lia -verbose)|(by lia -verbose)]
  rw[es];lk;refine%[%[!1|!1],(by lia -verbose)|k2 _ _ (am λD3 k3 _=>?_)];obtain⟨a,ea,C⟩:∃a:Nat,(n:Int)/8%sz=a/\a<sz:=%[n/8%sz,by simp|mod_lt _ (by lia -verbose)]
  rw[ea];lk;refine%[Xb _|λL G=>k3 _ _ (am λD4 k4 _=>aC λq I=>?_)];lk;refine%[!1,!1|I _ _ (cC (λi o r=>∃J y m d,o=[some (.int n),some (.int sz),some (.int a),!L,J,y,m,d]/\ah H r/\r L∣.lst (((List.range i).map λk=>nmS (n/64) a k sz)\3))
   %[_,_,_,_,ρ,ah.upd G|ae] ?_ ?_)]
  .intro i o u hi %[J,y,m,d,rfl,c|b];show br _ _ _ [some (.int n),some (.int sz),some (.int a),!L,some (.int (0+i)),y,m,d] u;rw[Int.zero_add];refine am λD5 z _=>?_
   lk;refine%[Xb _|λM U=>z _ _ (am λD6 k6 _=>aC λq I=>?_)];lk;refine%[(by lia -verbose),(by lia -verbose)|I _ _ (cC (λj o r=>∃m d,o=[some (.int n),some (.int sz),some (.int a),!L,some (.int i),!M,m,d]/\ah u r/\r M∣.lst (((List.range j).map λj=>sgn (nmC (n/64) a i j))\3))
    %[_,_,ρ,ah.upd U|ae] ?_ ?_)]
   .intro j o Y hj %[m,d,rfl,g|l];show br _ _ _ [some (.int n),some (.int sz),some (.int a),!L,some (.int i),!M,some (.int (0+j)),d] Y;rw[Int.zero_add];refine am λD7 N _=>?_
    lk;refine%[%[!1|!1],.inl %[!1|!1],.inr %[(by lia -verbose)|(by lia -verbose)],.inr %[by split<;> decide|by split<;> decide]|N _ _ (aE λD8 k8 _=>?_)];have e:(n:Int)/64+5*j*j+i*(if decide ((j:Int)=a)=true then 1 else 0)=((n/64+5*j*j+i*(if j=a then 1 else 0):Nat):Int):=by
     by_cases h:j=a
     .simp[h]
     .simp[h,show ¬ (j:Int)=a by lia -verbose]
    rw[e]
    generalize B:n/64+5*j*j+i*(if j=a then 1 else 0)=p
    lk;refine%[tyL (SqL.of l),!1,#[26],_,BV (by lia -verbose) (by lia -verbose),_,l,by rw[Z6,Z6,Yh];exact aG (by lia -verbose)|k8 _ _ %[_,_,ρ,ah.set g U|?_]];rw[ae,X6,Zd,Zd];have:97+((p:Int)%26).toNat=nmC (n/64) a i j:=by
     unfold nmC;rw[B]
     lia -verbose
    rw[this];rfl
   .intro o Y %[m,d,rfl,g|l];refine k6 _ _ (aE λD7 N _=>?_);lk;have v:=g _ _ b;have e:(List.range (Int.toNat sz)).map (λj=>sgn (nmC (n/64) a i j))=((List.range sz).map (nmC (n/64) a i)).map sgn:=by rw[Yp];rfl
    refine%[tyL (SqL.of v),((List.range sz).map (nmC (n/64) a i)).map sgn,SqL.of (by rw[<-e];simpa using l),?_,_,v,by rw[Z6,Z6,Yh];exact aG (by lia -verbose)|N _ _ %[_,_,_,_,ρ,ah.set (c.trans g) G|?_]]
    .rw[sk,Z6,Z6,Yh,show(!"").length=0 from rfl]
     lia -verbose
    .rw[ae,X6,Zd,Zd,show Txt.join (!"") (((List.range sz).map (nmC (n/64) a i)).map sgn)=Str.join (!"") (((List.range sz).map (nmC (n/64) a i)).map sgn)from StrLaws.glued_eq_join _ _,nC];rfl
  .intro o u %[J,y,m,d,rfl,c|b];refine k4 _ _ (am λD5 z _=>?_);have b:u L<*[.str (nmS (n/64) a 0 sz),.str (nmS (n/64) a 1 sz),.str (nmS (n/64) a 2 sz),.str (nmS (n/64) a 3 sz)]:=b;lk;have ll:∀k,~~~(nmS (n/64) a k sz)<=sizeLine:=λk=>by rw[sU];exact bH (by lia -verbose)
   refine%[%[!1|!1],!1|bA (λ_=>?_) λ_=>?_]
   .refine%[_,SqL.of b,_,ρ,_,SqL.of b,_,ρ,_,ρ,ll 1,_,SqL.of b,_,ρ,_,SqL.of b,_,ρ,_,ρ,ll 3,#[4]|λp B=>z _ _ ?_];rw[xS _ _ _ _ C,xS _ _ _ _ C];lk;exact O p _ ((List.range 4).map λk=>nmS (n/64) a k (if k%2=1 then a+1 else sz)) (c.trans (ah.upd B)) (c.free B) ae (BZ (s:=λk=>if k%2=1 then a+1 else sz) λk hk=>by split<;> exact%[(by lia -verbose)|(by lia -verbose)])
   .refine z _ _ ?_;lk;exact O L u ((List.range 4).map λk=>nmS (n/64) a k sz) c G b (BZ (s:=λ_=>sz) λk hk=>%[C|s8])
abbrev cf(H:Hp)(a:ZI):Prop:=∀p∈a,H p.1&&&[.str p.2.1,.str (Str.join nl p.2.2)]/\ei p.2.1=true/\ci p.2.2
def cf.up(h:cf H b)(s:ah H c):cf c b:=λp a=>%[s _ _ (h p a).1|(h p a).2]
inductive qY
 | mk (rows:ZC):vs=[.str (Str.join nl rows)]->ci rows->(∀H',ah H H'->Q (.bl true) H')->qY vs H Q E0
inductive va
 | mk (p:Addr×Str×ZC):vs=[.ref p.1]->cf H [p]->(∀H',ah H H'->Q (.bl true) H')->va vs H Q E0
abbrev cI(a:ZI):ZN:=a\0
inductive jn
 | mk (l cs):vs=[.ref l]->H l<*cI cs->cf H cs->(cs.map λp=>p.2.1).Nodup->1<= ~~~cs-> ~~~cs<=8->(∀H',ah H H'->Q .non H')->jn vs H Q E0
abbrev cF(H:Hp)(ls:ZC)(qs:ZO):Prop:=∀q∈qs,H q.1&&&q.2/\qW ls q.2
def cF.up(h:cF H ls qs)(s:ah H b):cF b ls qs:=λp a=>%[s _ _ (h p a).1|(h p a).2]
inductive fZ (K:ZB)
 | mk (l r ls qs):vs=[.ref l,.ref r]->H l∣.lst (qs\0)->H r<*ls\3->cF H ls qs-> ~~~qs<=60->(∀H',ah H H'->Q .non H')->fZ K vs H Q E0
def B1(T:Txt K mg):↥3 "is_cut" ["thing"] qY:=by
 .exists T.b3,zw,b,c,%[rows,rfl,a|k];refine%[_,(QSs.h (ak (tryN (λ_ _ h=>h) (av (bT rfl (aS (lj T) c rfl #[↑0]))))
   (av (aZ eBl))))|?_]
  show br _ _ _ [some (.str (Str.join nl rows))] H;lk;exact%[rows,ρ,a|λl d e g i=>k d e]
def oH(T:Txt K mg):↥4 "is_named_cut" ["thing"] va:=by
 .exists T.b2,mz,e,c,%[p,rfl,g|k];have%[b,i|a]:=g p (mem_singleton.mpr rfl);refine%[_,%["JEI%z!A0A?1B%tYcdA0BC%H]OAP0CB(H]PAP0CB",0,(blE (v:= .ty "tuple") rfl T.ag boot_tuple rfl rfl rfl)|c]|?_];show jG _ _ [some _] H;lk;refine%[.type _,.tup b,true,by rfl|?_];have st:=SqT.of (K:=K) b;refine%[2,.inr %[_,st|ρ],_,st,_,ρ,p.2.1,ρ,i|λm d=>?_];lk;exact%[_,SqT.of (d _ _ b),_,ρ,p.2.2,ρ,a|λj l=>k j (d.trans l)]
def sV(T:Txt K mg):↥5 "check_cuts" ["cuts"] jn:=by
 .exists T.b1,dP,ai,L,%[l,c,rfl,G,M,N,h1,h8|k];have y: ~~~(cI c)= ~~~c:=Z6 _;refine%[_,%["JDNZrqgz!A0A?1ByKYcdA0BCE+QDG1}EV~MA0BlOL2OL3mDNZrKY2]QrqgH]RA3By]SP3C1E+QE,x1P3C",dP.nd,(blE (v:= .ty "list") rfl T.a5 boot_list rfl rfl rfl)|L]|?_]
  show br _ _ _ [!l,none,none,none] H;refine am λD1 k1 _=>?_
  lk;refine%[.type "list",.lst G,true,by rfl|?_];lk;refine%[~~~c,.inl %[_,SqL.of G|y.symm]|?_];rw[if_neg (by simp only[decide_eq_true_eq];lia)];refine k1 _ _ (am λD2 k2 _=>?_);lk;refine λd O=>k2 _ _ (aE λD3 k3 _=>aC λag hK=>?_)
  lk;refine%[_,SqL.of (ah.upd O _ _ G)|hK _ _ (jN (λi I g=>∃U Y a,I=[!l,!d,U,Y]/\ah H g/\g d∣.dK a/\a\1=(c.take i).map λp=>Sum.inr p.2.1) %[none,none,[],ρ,ah.upd O,ae|ρ] (λi I g _ ⟨_,_,_,_,q,_⟩=>SqL.of (q _ _ G)) ?_ ?_)]
  .intro i x TT I g J %[U,Y,a,rfl,sm,z|m] hT;have hi:i< ~~~c:=y▸(Xi J).1;obtain⟨q,hq,rfl⟩:∃q,c[i]?∣q/\x=V.ref q.1:=by
    unfold cI at J;rw[Zl,Z4 hi]at J;exact%[c[i],Z4 hi|(Za J).symm]
   have b:ah H (upd g TT (.tup [.int i,.ref q.1])):=sm.trans (ah.upd hT);have B:upd g TT (.tup [.int i,.ref q.1]) TT&&&[.int i,.ref q.1]:=ae;have u:=ah.upd (o:= .tup [.int i,.ref q.1]) hT _ _ z
   generalize upd g TT (.tup [.int i,.ref q.1])=HT at b u B
   have n:=M q (Z8 hq);refine%[_,SqT.of B,ρ,_,_,ρ,_,_,ρ,ρ|?_];show br _ _ _ [!l,!d,some (.int i),some (.ref q.1)] HT;refine am λD4 k4 _=>?_
   lk;rw[if_neg (by simp only[decide_eq_true_eq];lia)];refine%[q,ρ,λp hp=>(Xk hp)▸%[b _ _ n.1|n.2]|λH2 C=>%[true,ρ|?_]];rw[if_neg ∅];have r:(Sum.inr q.2.1:Key)∉a\1:=by
    rw[m];intro hm;have%[q',aa|e]:=Xl hm;have e:q'.2.1=q.2.1:=Sum.inr.inj e;have%[j|hj]:=Xc aa;have ab:j<i:=by
     have:=(Xi hj).1;rw[Yj]at this
     lia
    rw[List.getElem?_take_of_lt ab]at hj;have n1:(c.map λp=>p.2.1)[j]?∣q.2.1:=by rw[Zl,hj,<-e];rfl
    have:=im N n1 (by rw[Zl,hq];rfl)
    lia
   refine%[_,SqT.of (C _ _ (b _ _ n.1)),_,ρ,_,dF.k (k:=Sum.inr q.2.1) (C _ _ u)|?_];have hv:cD a (Sum.inr q.2.1:Key)=none:=by
    cases e:cD a (Sum.inr q.2.1:Key)with
    | none=>rfl
    | some v=>exact absurd (CW e) r
   rw[hv,if_neg ∅];refine k4 _ _ (aE λD5 k5 _=>?_);lk;have ac: ~~~a=i:=by
    have:=congrArg List.length m;rw[Z6,Z6,Yj]at this
    lia
   refine%[_,SqT.of (C _ _ (b _ _ n.1)),_,ρ,_,ir.k (k:=Sum.inr q.2.1) (C _ _ u) (ac▸aG ⋯)|k5 _ _ %[_,_,_,ρ,ah.set (b.trans C) O,ae|?_]];rw[kQ,if_neg r,m,X7,Zd,hq];rfl
  .intro I g %[U,Y,a,rfl,sm,z|m];exact k3 _ _ (k g sm)
def mB(T:Txt K mg):↥3 "check_sayings" ["sayings","layers"] (fZ K):=by
 .exists T.b4,dL,z,B,%[l,r,ls,qs,rfl,g,j,m,C|k];refine%[_,%["JDNqgz!A0A?1BE+QEV~MA0BlOL2OL3mENZrKY2]TyqgH]UA3A1BE+Q",dL.nd,(blE (v:= .ty "list") rfl T.a5 boot_list rfl rfl rfl)|B]|?_]
  show br _ _ _ [!l,!r,none,none] H;refine am λN k1 _=>?_
  lk;refine%[.type "list",.lst g,true,by rfl|?_];lk;refine k1 _ _ (aE λO G _=>aC λy I=>?_);lk;refine%[_,SqL.of g|I _ _ (jN (λi e b=>∃n o,e=[!l,!r,n,o]/\ah H b) %[none,none,ρ|ah.refl H] (λi e b _ ⟨_,_,_,q⟩=>SqL.of (q _ _ g)) ?_ ?_)]
  .intro i x TT e b p %[n,o,rfl|u] J;have hi:i< ~~~qs:=(Z6 _)▸(Xi p).1;obtain⟨q,L,rfl⟩:∃q,qs[i]?∣q/\x=V.ref q.1:=by
    rw[Zl,Z4 hi]at p;exact%[qs[i],Z4 hi|(Za p).symm]
   have a:ah H (upd b TT (.tup [.int i,.ref q.1])):=u.trans (ah.upd J);have c:upd b TT (.tup [.int i,.ref q.1]) TT&&&[.int i,.ref q.1]:=ae
   generalize upd b TT (.tup [.int i,.ref q.1])=HT at a c
   have d:=m q (Z8 L);refine%[_,SqT.of c,ρ,_,_,ρ,_,_,ρ,ρ|?_];show jH _ _ _ _ [!l,!r,some (.int i),some (.ref q.1)] HT;refine aE λU M _=>?_
   lk;rw[if_neg ⋯];refine%[q.1,r,q.2,ls,ρ,a _ _ d.1,SqL.of (a _ _ j),d.2,true,ρ|?_];rw[if_neg ∅];exact M _ _ %[_,_,rfl|a]
  .intro e b %[n,o,rfl|u];exact G _ _ (k b u)
abbrev lyr(p:Addr×Str×ZC):ZC:=(aA ((cL p.2.2).map sgn)).map (lnS p.2.1)
inductive km
 | mk (l cs):vs=[.ref l]->H l<*cI cs->cf H cs-> ~~~cs<=4-> ~~~(cs.flatMap lyr)<=63->(∀r H' (ls:ZC),ah H H'->H r=none->H' r<*ls\3->ls.Perm (cs.flatMap lyr)->ls.Pairwise (λa b=>aO b a=false)->Q (.ref r) H')->km vs H Q E0
abbrev cP(ls:ZC)(k:ZC):Prop:=∃a b z,k=[a,b,z]/\a∈ls/\b∈ls
abbrev Sml(z:Str):Prop:= ~~~z<=30/\∀c∈z.cps.toList,c<16^8
abbrev zG(ls:ZC)(k:ZC):Prop:=cP ls k/\∀z∈k,Sml z
def vb(h:ei z=true):Sml z:=by
 unfold ei at h;rw[Zv,Zv]at h;refine%[⋯|λc a=>?_];have:=(kO.mp (all_eq_true.mp h.2 c a)).2
 lia
def Sml.app{a b:Str}(f:∀c∈a.cps.toList,c<16^8)(g:∀c∈b.cps.toList,c<16^8):∀c∈(a++b).cps.toList,c<16^8:=λc d=>by
 have e:(a++b).cps.toList=a.cps.toList++b.cps.toList:=Xa;rw[e]at d;exact(Xj d).elim (f c) (g c)
def DJ(h:c<1000):∀x∈(sgn c).cps.toList,x<16^8:=λx a=>by
 have e:=by simpa [sgn]using a
 lia
def lw{c:Nat}(h:ei n=true)(d:c<1000):Sml (lnS n (sgn c)):=by
 have e:∀a b:Str,~~~(a++b)= ~~~a+ ~~~b:=λa b=>size_append
 have l: ~~~n<=8:=by
  unfold ei at h
  grind
 refine%[?_|Sml.app (Sml.app (Sml.app (λc d=>(nomatch d)) (vb h).2) (!0)) (DJ d)];unfold lnS;rw[e,e,e,show Str.empty.length=0 from rfl,show(!".").length=1 from rfl,show(sgn c).length=1 from rfl]
 lia
def wZ(h:ci rows)(l:Let rows c):c<1000:=by
 have:=(kO.mp (kP h.sign c (fU.mpr l))).2
 lia
def DK(b:ei p.2.1=true)(d:ci p.2.2):∀z∈lyr p,Sml z:=λz e=>by
 have%[y,f|rfl]:=Xl e;have%[c,a|rfl]:=Xl (aQ.mp f);exact lw b (wZ d (fU.mp a))
def Gq(e:Sml a)(f:Sml b)(g:Sml c):∀z∈[a,b,c],Sml z:=λz d=>by
 simp only[Yt,X2,or_false]at d;rcases d with rfl|rfl|rfl
 .exact e
 .exact f
 .exact g
def DL(i:Nat)(h:i<=100):Sml (Str.empty++Str.ofString "#"++Str.ofString (toString (i:Int))):=by
 have all:∀j:Fin 101,Sml (Str.empty++Str.ofString "#"++Str.ofString (toString ((j.1)))):=by
  unfold Sml;decide +kernel
 exact all %[i|⋯]
def cP.three(h:cP ls k): ~~~k=3:=by
 have%[a,b,z,rfl|_]:=h;rfl
def cP.mono(h:cP ls k)(s:∀x∈ls,x∈ms):cP ms k:=by
 have%[a,b,z,e,c|d]:=h;exact%[a,b,z,e,s a c|s b d]
def xT(h:Let p.2.2 a):lnS p.2.1 (sgn a)∈lyr p:=
 Xm %[_,aQ.mpr (Xm %[a,fU.mpr h|rfl])|rfl]
abbrev fC(n:Str)(k:ZC):ZC:=k.map (lnS n) ++[n]
abbrev sW(i:Nat):Str:=Str.empty++Str.ofString "#"++Str.ofString (toString (i:Int))
abbrev bq(a:ZI):List ZC:=a.flatMap λp=>(bg p.2.2 (~~~p.2.2-1)).map (fC p.2.1)
abbrev iQ(i:Nat):ZN->Option ZC
 |[.str w,.str a,.str b]=>if w=Str.ofString "later" then some [a,b,sW i]else none
 | _=>none
abbrev cN(qs:ZO)(n:Nat):List ZC:=(List.range n).filterMap λj=>qs[j]?.bind λq=>iQ j q.2
def ko{a:List _}{i:Nat}{q:Addr×Str×ZC}(b:a[i]?∣q):bq (a.take (i+1))=bq (a.take i) ++(bg q.2.2 (~~~q.2.2-1)).map (fC q.2.1):=by
 unfold bq;rw[X7,b,flatMap_append];show _++([q].flatMap _)=_;rw[List.flatMap_singleton]
def eF(a:qs[i]?∣q):cN qs (i+1)=cN qs i++(iQ i q.2).toList:=by
 unfold cN;rw[X6,Y0];refine congrArg _ ?_;rw[Y1,a];rw[bind_some];cases iQ i q.2<;> rfl
inductive kq
 | mk (l cs):vs=[.ref l]->H l<*cI cs->cf H cs->(∀p∈cs,wQ p.2.2)-> ~~~cs<=4->(∀r H' ts,ah H H'->H r=none->H' r∣.lst (ts\0)->aK H' ts->(∀t∈ts,zG (cs.flatMap lyr) t.2)-> ~~~ts<=104->(∀k,k∈ts\2↔k∈bq cs)->Q (.ref r) H')->kq vs H Q E0
inductive kr
 | mk (l ls qs):vs=[.ref l]->H l∣.lst (qs\0)->cF H ls qs->(∀z∈ls,Sml z)-> ~~~qs<=63->(∀r H' ts,ah H H'->H r=none->H' r∣.lst (ts\0)->aK H' ts->(∀t∈ts,zG ls t.2)-> ~~~ts<= ~~~qs->ts\2=cN qs qs.length->Q (.ref r) H')->kr vs H Q E0
def kz{z:Str}(h:ei z=true): ~~~z<=8:=by
 unfold ei at h;rw[Zv,Zv]at h;have:=Zo h.1.2
 lia
def gQ{a:List Nat}{z:Str}(h:z∈aA (a.map sgn)):∃c∈a,z=sgn c:=by
 have:=aQ.mp h;have%[c,b|rfl]:=Xl this;exact%[c,b|ρ]
def vd(T:Txt K mg):↥4 "layers_of" ["cuts"] km:=by
 .exists T.b9,eE,ac,hr,%[l,e,rfl,hl,G,h8,ag|k];have m: ~~~(cI e)= ~~~e:=Z6 _;refine%[_,%["JDG1TBDVU0lO~m2efOL3mEW~u~v1Ajb?1UH]VA3BX0?2pH~cAM1A0BBEI*]WA1B",eE.nd,↑(["letter","name"],[(1,2)]),↑["letter","name"]|hr]|?_]
  show br _ _ _ [!l,none,none,none] H;refine am λD1 k1 _=>?_
  lk;refine%[Xb _|λL I=>k1 _ _ (am λD2 k2 _=>aC λn J=>?_)];lk;refine%[%[_|SqL.of (ah.upd I _ _ hl)]|J _ _ (fK (λi d a=>∃M N,d=[!l,!L,M,N]/\ah H a/\∃ms:ZC,a L<*ms\3/\ms.Perm ((e.take i).flatMap lyr)/\ ~~~ms<=26*i)
   %[none,none,ρ,ah.upd I,[],ae,List.Perm.refl _|Xb _] (λi d a _ ⟨_,_,_,q,_⟩=>SqL.of (q _ _ hl)) ?_ ?_)]
  .intro i x d a y %[M,N,rfl,p,ms,B,u|O];have hi:i< ~~~e:=m▸(Xi y).1;obtain⟨q,hq,rfl⟩:∃q,e[i]?∣q/\x=V.ref q.1:=by
    unfold cI at y;rw[Zl,Z4 hi]at y;exact%[e[i],Z4 hi|(Za y).symm]
   have b:=G q (Z8 hq);refine%[_,SqT.of (p _ _ b.1),ρ,_,_,ρ,_,_,ρ,ρ|aE λD3 k3 _=>?_];show jF _ _ [!l,!L,some (.str q.2.1),some (.str (Str.join nl q.2.2))] a;lk;refine%[tyL (SqL.of B)|aF λn J=>?_];lk;refine%[q.2.2,ρ,b.2.2|λl2 H2 ss s2 f2 h2 U q2=>?_];lk;refine%[%[_|SqL.of h2]|J _ _ λF hF=>?_];have ai: ~~~ss<=26:=U.length_eq▸nB λc hc=>kP b.2.2.sign c hc
   have one:∀z∈ss,~~~z=1:=λz hz=>by
    have%[c,_|rfl]:=gQ (U.mem_iff.mp hz);rfl
   refine cH (λj ts d a=>(∃o,d=[o,some (.str q.2.1)])/\ah H2 a/\a F<*ts/\ts=((ss.take j).map (lnS q.2.1))\3)
    %[%[none|rfl],ah.upd hF,ae|rfl] (λ_ _ _ a Y=>Y.2.1 _ _ h2) ?_ ?_
   .intro j ts d H4 hj %[%[o|rfl],C,aa|g];lk;refine%[_,_,ρ,by have:=kz b.2.1;lia,by rw[one _ (Ya hj)];decide|CK.mk hj aa (by rw[g,Z6,Z6,Yj];exact aG ⋯) %[%[_|ρ],ah.set C hF,ae|?_]];rw[g,X7,Zd,Zd,Z4 hj];rfl
   intro ts d H3 %[_,C,ab|g];rw[Zn (Zi _)]at g;lk;refine%[_,C _ _ (s2 _ _ B),_,ab,(by rw[g,Z6,Z6,Z6];exact bH ⋯)|k3 _ _ %[_,_,ρ,ah.set (p.trans (s2.trans C)) I,ms++ss.map (lnS q.2.1),?_,?_|?_]]
   .rw[ae,g,Zd]
   .rw[X7,hq,flatMap_append];refine u.append ?_;show List.Perm _ ([q].flatMap lyr);rw[List.flatMap_singleton];exact U.map _
   .rw[Z9,Z6]
    lia
  .intro d a %[M,N,rfl,p,ms,B,u|O];refine k2 _ _ ?_;lk;rw[m,Zn (Zi _)]at u;exact%[ms,SqL.of B,by rw[u.length_eq];lia|λr ss v p' q'=>k r _ ss (p.trans (ah.upd v)) (p.free v) ae (p'.trans u) q']
def oJ(T:Txt K mg):↥4 "ties_of_cuts" ["cuts"] kq:=by
 .exists T.ba,cc,a3,hr,%[l,B,rfl,hl,a0,a1,h8|k];have ag: ~~~(cI B)= ~~~B:=Z6 _;refine%[_,%["JDG1TBDVU0lOL2OL3mEVUH]XA3BlOL4OL5mEWni1AuAH~cA2A4BAH~cA2A5BA2BBEI1",cc.nd|hr]|?_]
  show br _ _ _ [!l,none,none,none,none,none] H;refine am λD1 k1 _=>?_
  lk;refine%[Xb _|λL hL=>k1 _ _ (am λD2 k2 _=>aC λai hK=>?_)];lk;refine%[%[_|SqL.of (ah.upd hL _ _ hl)]|hK _ _ (fK (λi C I=>∃o2 o3 J M,C=[!l,!L,o2,o3,J,M]/\ah H I/\∃ts:ZH,I L∣.lst (ts\0)/\aK I ts/\(∀t∈ts,zG (B.flatMap lyr) t.2)/\ ~~~ts<=26*i/\∀k,k∈ts\2↔k∈bq (B.take i))
   %[none,none,none,none,ρ,ah.upd hL,[],ae,iP _,λt ht=>(nomatch ht),Xb _|λk=>Iff.rfl] (λi C I _ ⟨_,_,_,_,_,q,_⟩=>SqL.of (q _ _ hl)) ?_ ?_)]
  .intro i x C I N %[o2,o3,J,M,rfl,sm,ts,hm,Y,aa,al|d];have hi:i< ~~~B:=by rw[<-ag];exact(Xi N).1
   obtain⟨q,hq,rfl⟩:∃q,B[i]?∣q/\x=V.ref q.1:=by
    unfold cI at N;rw[Zl,Z4 hi]at N;exact%[B[i],Z4 hi|(Za N).symm]
   have g:=a0 q (Z8 hq);refine%[_,SqT.of (sm _ _ g.1),ρ,_,_,ρ,_,_,ρ,ρ|?_];refine aE λD3 k3 _=>?_
   show vF _ _ _ _ [!l,!L,some (.str q.2.1),some (.str (Str.join nl q.2.2)),J,M] I;refine aC λai hK=>?_
   lk;have qm:=Z8 hq;refine%[q.2.2,ρ,g.2.2,a1 q qm|?_];intro l2 H2 ss s2 f2 h2 t2 a4 an all2;have a2:=kz g.2.1;have aq:l2≠L:=λe=>by rw[e,hm]at f2;cases f2
   have ar: ~~~(ss\0)= ~~~ss:=Z6 _;refine%[l2,ρ,%[_|SqL.of h2]|hK _ _ (fK (xs:=ss\0) (λj C n=>∃J M,C=[!l,!L,some (.str q.2.1),some (.str (Str.join nl q.2.2)),J,M]/\ah H n/\n l2∣.lst (ss\0)/\aK n ss/\∃c:ZH,n L∣.lst (c\0)/\aK n c/\(∀t∈c,zG (B.flatMap lyr) t.2)/\ ~~~c<=26*i+j/\c\2=ts\2 ++((ss.take j)\2).map (fC q.2.1))
    %[_,_,ρ,sm.trans s2,h2,t2,ts,s2 _ _ hm,aY Y λb z e=>s2 _ _ e,aa,⋯|(Zx _).symm] (λj C n _ ⟨_,_,_,_,q,_⟩=>SqL.of q) ?_ ?_)]
   .intro j x C n N %[J,M,rfl,ab,as,r,c,G,u,ac,v|m];have hj:j< ~~~ss:=ar▸(Xi N).1;rw[Zl,Z4 hj]at N;obtain rfl:x=V.ref ss[j].1:=(Za N).symm;have O:=Ya hj;have%[a,b,aR,la|lb]:=an _ O;have U:=(r _ O).2;rw[aR]at U;refine%[_,SqT.of U,ρ,_,_,ρ,_,_,ρ,ρ|aE λD4 k4 _=>?_];show jF _ _ [!l,!L,some (.str q.2.1),some (.str (Str.join nl q.2.2)),some (.str (sgn a)),some (.str (sgn b))] n;lk;refine%[tyL (SqL.of G),q.2.1,sgn a,ρ,⋯,(show 1<=100 by decide)|?_];refine%[q.2.1,sgn b,ρ,⋯,(show 1<=100 by decide)|?_];refine%[#[3]|λp hp=>?_];have sp:=ah.upd (o:= .tup [V.str (lnS q.2.1 (sgn a)),V.str (lnS q.2.1 (sgn b)),V.str q.2.1]) hp;have gp:upd n p (.tup [V.str (lnS q.2.1 (sgn a)),V.str (lnS q.2.1 (sgn b)),V.str q.2.1]) p=_:=ae
    generalize upd n p _=H4 at sp gp
    have aU:=sp _ _ G;have y:∀b z,H4 b&&&z->upd H4 L (.lst (c\0 ++[V.ref p])) b&&&z:=λb z e=>by
     have:b≠L:=λe2=>by rw[e2,aU]at e;cases e
     rw[aj this];exact e
    refine%[_,aU,by rw[Z6];exact Nat.lt_of_le_of_lt (show ~~~c<=10000 by lia) (!1)|k4 _ _ %[_,_,ρ,ah.set (ab.trans sp) hL,(aj aq)▸sp _ _ as,aY (aY r λb z e=>sp _ _ e) y,c++[(p,[lnS q.2.1 (sgn a),lnS q.2.1 (sgn b),q.2.1])],?_,?_,?_,?_|?_]]
    .rw[ae,Zd];rfl
    .exact aY (iZ (aY u λb z e=>sp _ _ e) ∅ gp) y
    .intro t ht;rcases Xj ht with z|z
     .exact ac t z
     .rw[Xk z];exact%[%[_,_,_,ρ,mem_flatMap.mpr %[q,qm|xT la]|mem_flatMap.mpr %[q,qm|xT lb]]|Gq (lw g.2.1 (wZ g.2.2 la)) (lw g.2.1 (wZ g.2.2 lb)) (vb g.2.1)]
    .rw[Z9,Yi];lia
    .rw[Zd,m,Ze,X7,Z4 hj,Zd,Zd];show _++(_++[_])=_++(_++[fC q.2.1 ss[j].2]);rw[aR];rfl
   .intro C n %[J,M,rfl,ab,as,r,c,G,u,ac,v|m];rw[ar]at v m;rw[Zn (Zi _)]at m;refine k3 _ _ %[_,_,_,_,rfl,ab,c,G,u,ac,⋯|λk=>?_];rw[m,ko hq,Yq,Yq,d,mem_map,mem_map];exact or_congr Iff.rfl (exists_congr λz=>and_congr_left λ_=>all2 z)
  .intro C I %[o2,o3,J,M,rfl,sm,ts,hm,Y,aa,al|d];refine k2 _ _ ?_;lk;rw[ag]at al d;rw[Zn (Zi _)]at d;exact k L I ts sm hL hm Y aa ⋯ d
def kA(T:Txt K mg):↥1 "ties_of_sayings" ["sayings"] kr:=by
 .exists T.bb,cu,ai,hr,%[l,ls,qs,rfl,hl,aa,r,al|k];have G: ~~~(qs\0)= ~~~qs:=Z6 _;refine%[_,%["JDG1TBDV~MA0BlOL2OL3mENKYP3ChEWni1AuAP3CAP3CA~y~Eh~E~b2~zBBQEI1"|cu.nd]|?_]
  show br _ _ _ [!l,none,none,none] H;refine am λD1 k1 _=>?_
  lk;refine%[Xb _|λL N=>k1 _ _ (am λD2 k2 _=>aC λac hK=>?_)];lk;refine%[_,SqL.of (ah.upd N _ _ hl)|hK _ _ (jN (λi O n=>∃o2 o3,O=[!l,!L,o2,o3]/\ah H n/\∃ts:ZH,n L∣.lst (ts\0)/\aK n ts/\(∀t∈ts,zG ls t.2)/\ ~~~ts<=i/\ts\2=cN qs i)
   %[none,none,ρ,ah.upd N,[],ae,iP _,λt ht=>(nomatch ht),Xb _|ρ] (λi O n _ ⟨_,_,_,q,_⟩=>SqL.of (q _ _ hl)) ?_ ?_)]
  .intro i x TT O n hx %[o2,o3,rfl,sm,ts,hm,u,g,v|d] hT;have hi:i< ~~~qs:=by rw[<-G];exact(Xi hx).1
   obtain⟨q,U,rfl⟩:∃q,qs[i]?∣q/\x=V.ref q.1:=by
    rw[Zl,Z4 hi]at hx;exact%[qs[i],Z4 hi|(Za hx).symm]
   have s0:=ah.upd (o:= .tup [.int i,.ref q.1]) hT;have j:ah H (upd n TT (.tup [.int i,.ref q.1])):=sm.trans s0;have I:upd n TT (.tup [.int i,.ref q.1]) TT&&&[.int i,.ref q.1]:=ae;have m:=s0 _ _ hm;have c:=aY u λb z e=>s0 _ _ e
   generalize upd n TT (.tup [.int i,.ref q.1])=HT at j I m c
   have J:=aa q (Z8 U);refine%[_,SqT.of I,ρ,_,_,ρ,_,_,ρ,ρ|?_];show jH _ _ _ _ [!l,!L,some (.int i),some (.ref q.1)] HT;refine aE λD4 k4 _=>?_
   lk;have st:=SqT.of (K:=K) (j _ _ J.1);have ag: ~~~(Str.ofString (toString (i:Int)))<=21:=by
    have e:=PySem.int_text_length_le10 (a:=(i:Int)) (k:=20) (!1) (by have:(i:Int).natAbs=i:=rfl;lia);rw[PySem.ofString_length];lia
   have e1:(Str.empty++Str.ofString "#").length=1:=!0
   have ea:∀a b:Str,~~~(a++b)= ~~~a+ ~~~b:=λa b=>size_append
   have add:∀a b:Str,a∈ls->b∈ls->iQ i q.2∣[a,b,sW i]->∀p,HT p=none->∃x,upd HT p (.tup [.str a,.str b,V.str (Str.empty++Str.ofString "#"++Str.ofString (toString (i:Int)))]) L<*x/\ ~~~x<sizeLine/\D4.nx [!l,!L,some (.int i),some (.ref q.1)] (upd (upd HT p (.tup [.str a,.str b,V.str (Str.empty++Str.ofString "#"++Str.ofString (toString (i:Int)))])) L (.lst (x++[V.ref p]))):=by
    intro a b Y mb ab p hp;have tn:=eF U;rw[ab,<-d]at tn;unfold sW at tn
    generalize hz:Str.empty++Str.ofString "#"++Str.ofString (toString (i:Int))=z at tn ⊢
    have sp:=ah.upd (o:= .tup [V.str a,V.str b,V.str z]) hp;have gp:upd HT p (.tup [V.str a,V.str b,V.str z]) p=_:=ae
    generalize upd HT p (.tup [V.str a,V.str b,V.str z])=H4 at sp gp
    have M:=sp _ _ m;have B:∀b z,H4 b&&&z->upd H4 L (.lst (ts\0 ++[V.ref p])) b&&&z:=λb z e=>by
     have:b≠L:=λe2=>by rw[e2,M]at e;cases e
     rw[aj this];exact e
    refine%[_,M,by rw[Z6];exact aG ⋯|k4 _ _ %[_,_,ρ,ah.set (j.trans sp) N,ts++[(p,[a,b,z])],?_,?_,?_,?_|?_]]
    .rw[ae,Zd];rfl
    .exact aY (iZ (aY c λb z e=>sp _ _ e) ∅ gp) B
    .intro t ht;rcases Xj ht with z|z
     .exact g t z
     .rw[Xk z];exact%[%[_,_,_,ρ,Y|mb]|Gq (r a Y) (r b mb) (hz▸DL i ⋯)]
    .rw[Z9,Yi];lia
    .rw[tn,Zd];rfl
   rcases J.2 with⟨wd,a,b,e,hw,Y,mb,_⟩|⟨wd,a,y,e,hw,_⟩
   .rw[e]at st;refine%[_,st,_,ρ,ρ|bA (λC=>?_) λC=>?_]
    .refine%[tyL (SqL.of m),_,st,_,ρ,_,st,_,ρ,bH ⋯,?_,bH (by rw[ea];lia),bH (by rw[ea];lia),#[3]|add a b Y mb (e▸if_pos (V.str.inj (Zo C)))];have:(i:Int).natAbs=i:=rfl
     lia
    .refine k4 _ _ %[_,_,rfl,j,ts,m,c,g,⋯|?_];rw[eF U,e,show iQ i [V.str wd,V.str a,V.str b]=none from if_neg λz=>C (Zf (by rw[z])),d];exact(Zx _).symm
   .rw[e]at st;refine%[_,st,_,ρ,ρ|?_];rw[if_neg (by rcases hw with rfl|rfl<;> decide)];refine k4 _ _ %[_,_,rfl,j,ts,m,c,g,⋯|?_];rw[eF U,e,d];exact(Zx _).symm
  .intro O n %[o2,o3,rfl,sm,ts,hm,u,g,v|d];refine k2 _ _ ?_;lk;rw[G]at v d;exact k L n ts sm N hm u g v d
structure GrF (mg:ZD) (H:Hp) (g c2 c3 c4:Addr) (qs:ZO) (ls:ZC) (ts:ZH):Prop where
 at_:∃dx c1,H g∣.ins (aJ mg "Ground") dx [("kept_cuts",.ref c1),("kept_sayings",.ref c2),("kept_layers",.ref c3),("kept_ties",.ref c4)]
 a2:H c2∣.lst (qs\0)
 a3:H c3<*ls\3
 a4:H c4∣.lst (ts\0)
 sa:cF H ls qs
 tu:aK H ts
def GrF.up(h:GrF mg H g a c d qs ls ts)(s:ah H f):GrF mg f g a c d qs ls ts:=by
 have%[i,j|l]:=h.at_;exact%[%[i,j|s _ _ l],s _ _ h.a2,s _ _ h.a3,s _ _ h.a4,h.sa.up s|aY h.tu λb z e=>s _ _ e]
inductive qZ (mg:ZD)
 | mk (g c2 c3 c4 qs ls ts):vs=[.ref g]->GrF mg H g c2 c3 c4 qs ls ts->(∀l,H l=none->Q (.ref l) (upd H l (.lst (ls\3))))->qZ mg vs H Q E0
inductive oK (mg:ZD)
 | mk (g c2 c3 c4 qs ls ts):vs=[.ref g]->GrF mg H g c2 c3 c4 qs ls ts->(∀l,H l=none->Q (.ref l) (upd H l (.lst (qs\0))))->oK mg vs H Q E0
inductive xV (mg:ZD)
 | mk (g c2 c3 c4 qs ls ts):vs=[.ref g]->GrF mg H g c2 c3 c4 qs ls ts->(∀l,H l=none->Q (.ref l) (upd H l (.lst (ts\0))))->xV mg vs H Q E0
inductive sX (mg:ZD)
 | mk (g l m dx cs qs):vs=[.ref g,.ref l,.ref m]->H g∣.ins (aJ mg "Ground") dx []->H l<*cI cs->H m∣.lst (qs\0)->cf H cs->(cs.map λp=>p.2.1).Nodup->1<= ~~~cs-> ~~~cs<=4->(∀p∈cs,wQ p.2.2)-> ~~~(cs.flatMap lyr)<=63->(∀ls,ls.Perm (cs.flatMap lyr)->cF H ls qs)-> ~~~qs<=30->(∀H' ls ts c2 c3 c4,(∀b o,b≠g->H b∣o->H' b∣o)->GrF mg H' g c2 c3 c4 qs ls ts->(∀t∈ts,zG ls t.2)->(∀z∈ls,Sml z)->(∀k,k∈ts\2↔k∈bq cs\/k∈cN qs qs.length)-> ~~~ts<=150->ls.Perm (cs.flatMap lyr)->ls.Pairwise (λa b=>aO b a=false)->Q .non H')->sX mg vs H Q E0
def B2(T:Txt K mg):Dq P w K mg base 6 "Ground" ["self","cuts","sayings"] (sX mg):=by
 .exists T.i_Ground,eX,a7,hr,%[g,l,m,d,u,qs,rfl,N,hl,hm,j,an,h1,h8,aq,ar,C,bb|k];refine%[_,%["JDWH]YA1BDG3H]ZA1BDWH]aA2A3BD~N0[~GA1BD~N0[~GA2BD~N03E~N0*]bAF]cH]dA1BH]eA2BB",eX.nd|hr]|?_]
  show br _ _ _ [!g,!l,!m,none] H;refine am λD1 k1 _=>?_
  lk;refine%[l,u,ρ,hl,j,an,h1,⋯|λH1 s1=>k1 _ _ (am λD2 k2 _=>?_)];lk;refine%[l,u,ρ,s1 _ _ hl,j.up s1,h8,ar|λr H2 ls s2 f2 h2 O q2=>k2 _ _ (am λD3 k3 _=>?_)];have U:=s1.trans s2;lk;refine%[m,r,ls,qs,ρ,U _ _ hm,h2,(C ls O).up U,⋯|λH3 s3=>k3 _ _ (am λD4 k4 _=>?_)];have v:=U.trans s3;have OC:=T.o_Ground.cls;have ac:∀z∈ls,Sml z:=λz hz=>by
   have%[p,y|hz]:=mem_flatMap.mp (O.mem_iff.mp hz);exact DK (j p y).2.1 (j p y).2.2 z hz
  have gl:l≠g:=λe=>by rw[e,N]at hl;cases hl
  have gm:m≠g:=λe=>by rw[e,N]at hm;cases hm
  have gr:r≠g:=λe=>by rw[e,s1 _ _ N]at f2;cases f2
  lk;refine%[_,.inl (SqL.of (v _ _ hl))|λa G=>%[_,_,_,ah.upd G _ _ (v _ _ N),OC,T.n_Ground_kept_cuts,(by show 0<1000;decide)|k4 _ _ (am λD5 k5 _=>?_)]];have as:a≠g:=λe=>by rw[e,v _ _ N]at G;cases G
  have aR:=ah.upd (o:= .lst (cI u)) G;have b4:∀b o,b≠g->H3 b∣o->upd (upd H3 a (.lst (cI u))) g (.ins (aJ mg "Ground") d (dE (!"kept_cuts") (V.ref a) [])) b∣o:=λb o c e=>by rw[aj c];exact aR _ _ e
  have g4:upd (upd H3 a (.lst (cI u))) g (.ins (aJ mg "Ground") d (dE (!"kept_cuts") (V.ref a) [])) g∣.ins (aJ mg "Ground") d [("kept_cuts",V.ref a)]:=ae;have a4:upd (upd H3 a (.lst (cI u))) g (.ins (aJ mg "Ground") d (dE (!"kept_cuts") (V.ref a) [])) a<*cI u:=by rw[aj as];exact ae
  generalize upd (upd H3 a (.lst (cI u))) g (.ins (aJ mg "Ground") d (dE (!"kept_cuts") (V.ref a) []))=H4 at b4 g4 a4
  have n4:∀b,H4 b=none->b≠g:=λb c e=>by rw[e,g4]at c;cases c
  lk;refine%[_,.inl (SqL.of (b4 _ _ gm (v _ _ hm)))|λi Y=>%[_,_,_,ah.upd Y _ _ g4,OC,T.n_Ground_kept_sayings,(by show 1<1000;decide)|k5 _ _ (am λD6 k6 _=>?_)]];have aa:=n4 i Y;have aU:=ah.upd (o:= .lst (qs\0)) Y;have b5:∀b o,b≠g->H4 b∣o->upd (upd H4 i (.lst (qs\0))) g (.ins (aJ mg "Ground") d (dE (!"kept_sayings") (V.ref i) [("kept_cuts",V.ref a)])) b∣o:=λb o c e=>(aj c)▸aU _ _ e
  have g5:upd (upd H4 i (.lst (qs\0))) g (.ins (aJ mg "Ground") d (dE (!"kept_sayings") (V.ref i) [("kept_cuts",V.ref a)])) g∣.ins (aJ mg "Ground") d [("kept_cuts",V.ref a),("kept_sayings",V.ref i)]:=by rw[ae];rfl
  have a5:upd (upd H4 i (.lst (qs\0))) g (.ins (aJ mg "Ground") d (dE (!"kept_sayings") (V.ref i) [("kept_cuts",V.ref a)])) i∣.lst (qs\0):=(aj aa)▸ae
  generalize upd (upd H4 i (.lst (qs\0))) g (.ins (aJ mg "Ground") d (dE (!"kept_sayings") (V.ref i) [("kept_cuts",V.ref a)]))=H5 at b5 g5 a5
  lk;refine%[_,_,_,g5,OC,T.n_Ground_kept_layers,(by show 2<1000;decide)|k6 _ _ (aE λD7 k7 _=>?_)];have b6:∀b o,b≠g->H5 b∣o->upd H5 g (.ins (aJ mg "Ground") d (dE (!"kept_layers") (V.ref r) [("kept_cuts",V.ref a),("kept_sayings",V.ref i)])) b∣o:=λb o c e=>(aj c)▸e
  have g6:upd H5 g (.ins (aJ mg "Ground") d (dE (!"kept_layers") (V.ref r) [("kept_cuts",V.ref a),("kept_sayings",V.ref i)])) g∣.ins (aJ mg "Ground") d [("kept_cuts",V.ref a),("kept_sayings",V.ref i),("kept_layers",V.ref r)]:=by rw[ae];rfl
  generalize upd H5 g (.ins (aJ mg "Ground") d (dE (!"kept_layers") (V.ref r) [("kept_cuts",V.ref a),("kept_sayings",V.ref i)]))=H6 at b6 g6
  have ag:∀b o,b≠g->H3 b∣o->H6 b∣o:=λb o c e=>b6 b o c (b5 b o c (b4 b o c e))
  have B:∀b o,b≠g->H b∣o->H6 b∣o:=λb o c e=>ag b o c (v _ _ e)
  have ai:cf H6 u:=λp y=>⟨B _ _ (λe=>by have:=(j p y).1;rw[e,N]at this;cases this) (j p y).1,(j p y).2⟩
  have n:cF H6 ls qs:=λq hq=>⟨B _ _ (λe=>by have:=(C ls O q hq).1;rw[e,N]at this;cases this) (C ls O q hq).1,(C ls O q hq).2⟩
  lk;refine%[l,u,ρ,B _ _ gl hl,ai,aq,h8|λt1 H7 ts s7 f7 h7 a0 ab bc a1=>?_];lk;refine%[m,ls,qs,ρ,s7 _ _ (B _ _ gm hm),n.up s7,ac,⋯|λt2 H8 us s8 f8 a2 a3 al bf a6=>?_];lk;have M:aK H8 (ts++us):=u4 (aY a0 λb z e=>s8 _ _ e) a3;have g8:=s8 _ _ (s7 _ _ g6);refine%[_,s8 _ _ h7,_,a2,by rw[Z6,Z6,PySem.sizeLine_eq];lia|λp y=>%[ts++us,Zd▸SqL.of ae,aY M λb z e=>ah.upd y _ _ e,3,?_,!1,by rw[Z9];lia|λc4 ss I J=>%[_,_,_,ah.upd I _ _ (ah.upd y _ _ g8),OC,T.n_Ground_kept_ties,(by show 3<1000;decide)|k7 _ _ ?_]]]
  .intro t ht;rcases Xj ht with z|z
   .exact(ab t z).1.three
   .exact(al t z).1.three
  .have b9:∀b o,b≠g->H8 b∣o->upd (upd (upd H8 p (.lst (ts\0 ++us\0))) c4 (.lst (ss\0))) g (.ins (aJ mg "Ground") d (dE (!"kept_ties") (V.ref c4) [("kept_cuts",V.ref a),("kept_sayings",V.ref i),("kept_layers",V.ref r)])) b∣o:=λb o c e=>(aj c)▸((ah.upd (o:= .lst (ts\0 ++us\0)) y).trans (ah.upd (o:= .lst (ss\0)) I)) _ _ e
   have L:∀b o,b≠g->H6 b∣o->_:=λb o c e=>b9 b o c (s8 _ _ (s7 _ _ e))
   refine k _ ls ss i r c4 (λb o c e=>L b o c (B b o c e)) %[%[d,a|?_],?_,?_,?_,?_|?_] (λt ht=>?_) ac (λk=>by rw[(J.map _).mem_iff,Zd,Yq,a1,a6]) (by rw[J.length_eq,Z9];lia) O q2
   .rw[ae];rfl
   .exact L _ _ aa (b6 _ _ aa a5)
   .exact L _ _ gr (ag _ _ gr (s3 _ _ h2))
   .rw[aj (λe=>by rw[e,ah.upd y _ _ g8]at I;cases I)];exact ae
   .exact λq hq=>⟨L _ _ (λe=>by have:=(n q hq).1;rw[e,g6]at this;cases this) (n q hq).1,(n q hq).2⟩
   .intro t ht;have:=M t (J.mem_iff.mp ht);exact%[this.1|b9 _ _ (λe=>by have q:=this.2;rw[e,g8]at q;cases q) this.2]
   .rcases Xj (J.mem_iff.mp ht)with z|z
    .exact%[(ab t z).1.mono λx=>O.mem_iff.mpr|(ab t z).2]
    .exact al t z
def d8(T:Txt K mg):y6 P w K mg base 1 "Ground" "layers" ["self"] (qZ mg):=by
 .exists T.m_Ground_layers,lh,b,m,%[g,c,d,e,qs,ls,ts,rfl,a|k];have%[n,o|i]:=a.at_;refine%[_,%["JEI[~GA~d0B"|0]|?_];show jG _ _ [some _] H;lk;exact%[_,_,_,i,T.o_Ground.cls,T.n_Ground_kept_layers,_,ρ,_,ρ,_,.inl (SqL.of a.a3)|λl j=>k l j]
def lz(T:Txt K mg):y6 P w K mg base 1 "Ground" "sayings" ["self"] (oK mg):=by
 .exists T.m_Ground_sayings,ke,b,m,%[g,c,d,e,qs,ls,ts,rfl,a|k];have%[n,o|i]:=a.at_;refine%[_,%["JEI[~GA~d0B"|0]|?_];show jG _ _ [some _] H;lk;exact%[_,_,_,i,T.o_Ground.cls,T.n_Ground_kept_sayings,_,ρ,_,ρ,_,.inl (SqL.of a.a2)|λl j=>k l j]
def pR(T:Txt K mg):y6 P w K mg base 1 "Ground" "ties" ["self"] (xV mg):=by
 .exists T.m_Ground_ties,oq,b,m,%[g,c,d,e,qs,ls,ts,rfl,a|k];have%[n,o|i]:=a.at_;refine%[_,%["JEI[~GA~d0B"|0]|?_];show jG _ _ [some _] H;lk;exact%[_,_,_,i,T.o_Ground.cls,T.n_Ground_kept_ties,_,ρ,_,ρ,_,.inl (SqL.of a.a4)|λl j=>k l j]
abbrev dN(H:Hp)(ys:List (Addr×Str×Int)):Prop:=∀p∈ys,H p.1&&&[.str p.2.1,.int p.2.2]/\0<=p.2.2/\p.2.2<=7
def dN.up(h:dN H ys)(s:ah H b):dN b ys:=λp a=>%[s _ _ (h p a).1|(h p a).2]
inductive q0
 | mk (one two:Int) (l:Addr) (torn:Bool) (ys:List (Addr×Str×Int)):vs=[.int one,.int two,.ref l,.bl torn]->H l∣.lst (ys\0)->dN H ys->1<= ~~~ys-> ~~~ys<=100->0<=one->0<=two->(∀(t:Addr) H' (xs:ZN),ah H H'->H t=none->H' t&&&xs->qW (ys.map λp=>p.2.1) xs->Q (.ref t) H')->q0 vs H Q E0
def sY(T:Txt K mg):↥1 "_law_saying" ["_law_one","_law_two","_law_layers","_law_torn_here"] q0:=by
 .exists T.bj,bC,ag,hr,%[one,d,l,g,ys,rfl,hl,U,y1,ac,o0,t0|k];have get:∀n:Int,0<=n->∃q,atI (ys\0) (n%(~~~ys:Int))∣V.ref q.1/\q∈ys:=λn hn=>by
   have h0:=Int.emod_nonneg n (show(~~~ys:Int)≠0 by lia);have h1:=Int.emod_lt_of_pos n (show(0:Int)<(~~~ys:Int) by lia)
   generalize n%(~~~ys:Int)=i at h0 h1
   have%[j|rfl]:=Xe h0;have hj:j< ~~~ys:=by lia
   exact%[ys[j],cg (by simp[hj])|Ya hj]
  have%[p,gp|mp]:=get one o0;have%[q,gq|mq]:=get d t0;have Y: ~~~(ys\0)= ~~~ys:=Z6 _;have G:(0:Int)<(~~~ys:Int):=by lia
  have pa:=U p mp;have qa:=U q mq;refine%[_,%["JD~OR2FS0cdA2BlOL4OL5mD~OR2FS1cdA2BlOL6OL7mDG8%3(tYFSFk1CCCDG9FSFk0CCDNZwK;9CwKv46$ZrKv57yg8DNZwK~B57$qg8EIuAhA6A4BQEIuAhA4A6BQDNZwKY9CwKv46$ZrKY57yg8EIuAhA4A6BQDG:FaF^CFoC5RTACA.CA.CACACA.CACACBFS1CDNKYFSFk1CCCEG:RTA.CACBFSFk1CCQEIuARTAhAhBFS0CA4A~H:B"|bC.nd]|?_]
  show br _ _ _ [some (.int one),some (.int d),!l,some (.bl g),none,none,none,none,none,none,none] H;refine am λD1 k1 _=>?_
  lk;refine%[~~~ys,.inl %[_,SqL.of hl|Y.symm],G,_,SqL.of hl,_,gp,_,ρ,_,SqT.of pa.1,ρ,_,_,ρ,_,_,ρ,ρ|k1 _ _ (am λD2 k2 _=>?_)];lk;refine%[~~~ys,.inl %[_,SqL.of hl|Y.symm],G,_,SqL.of hl,_,gq,_,ρ,_,SqT.of qa.1,ρ,_,_,ρ,_,_,ρ,ρ|k2 _ _ (am λD3 k3 _=>?_)];have I:∀v:Bool,D3.nx [some (.int one),some (.int d),!l,some (.bl g),some (.str p.2.1),some (.int p.2.2),some (.str q.2.1),some (.int q.2.2),some (.bl v),none,none] H:=by
   intro v;refine k3 _ _ (am λD4 k4 _=>?_);lk;refine%[%[!1|!1],!1|k4 _ _ (am λD5 k5 r5=>?_)];have b1:0<=one/64%8:=by lia
   have b2:one/64%8<8:=by lia
   generalize one/64%8=kind at b1 b2
   have%[ai,pn|pi]:=p;have%[al,u|qi]:=q;dsimp only at pa qa gp gq;have mem:∀{r:Addr×Str×Int},r∈ys->r.2.1∈ys.map λp=>p.2.1:=λ{r} hr=>Xm %[r,hr|rfl]
   have J:∀(z:Hp) (a b:Str),ah H z->a∈(ys.map λp=>p.2.1)->b∈(ys.map λp=>p.2.1)->a≠b->∀w:Str,w="later"\/w="same"->∀t,z t=none->Q (.ref t) (upd z t (.tup [.str w,.str a,.str b])):=λz a b sh ha hb aa w hw t y=>
    k t _ _ (sh.trans (ah.upd y)) (sh.free y) ae (.inl %[w,a,b,rfl,hw,ha,hb|aa])
   have m1:pn∈ys.map λp=>p.2.1:=mem mp
   have m2:u∈ys.map λp=>p.2.1:=mem mq
   have B:3<=sizeLine:=!1
   have rest:D5.nx [some (.int one),some (.int d),!l,some (.bl g),-pn,some (.int pi),-u,some (.int qi),some (.bl v),some (.int kind),none] H:=by
    refine k5 _ _ (am λD6 k6 r6=>?_);have M:∀z,ah H z->D6.nx [some (.int one),some (.int d),!l,some (.bl g),-pn,some (.int pi),-u,some (.int qi),some (.bl v),some (.int kind),none] z:=by
     intro z sh;refine k6 _ _ (am λD7 k7 _=>?_);lk;refine%[.inl %[!1|!1],#[8]|λp hp=>%[!1,_,SqL.of ae|?_]];have%[c,hc|N]:=iO [0,-20,-60,10,60,-200,110,0] (i:=d%8) ⋯ (by show d%8<8;lia);have O: -200<=c/\c<=110:=by
      simp only[Yt,X2,or_false]at N
      lia
     refine%[_,hc,c,ρ|k7 _ _ (am λD8 k8 _=>?_)];have s7:=sh.trans (ah.upd (o:= .lst [V.int 0,V.int (-20),V.int (-60),V.int 10,V.int 60,V.int (-200),V.int 110,V.int 0]) hp)
     generalize _L.upd z p _=H7 at s7
     have done:∀(yr:Int) H8,ah H H8-> -9999<=yr->yr<=9999->D8.nx [some (.int one),some (.int d),!l,some (.bl g),-pn,some (.int pi),-u,some (.int qi),some (.bl v),some (.int kind),some (.int yr)] H8:=by
      intro yr H8 s8 y0 y9;refine k8 _ _ ?_;lk;obtain⟨wd,ab,hw⟩:∃wd:Str,atI [V.str (!"since"),V.str (!"by")] (one%2)∣V.str wd/\(wd="since"\/wd="by"):=by
       rcases(show one%2=0\/one%2=1 by lia)with e|e<;> rw[e]
       .exact%[_,ρ|.inl rfl]
       .exact%[_,ρ|.inr rfl]
      refine%[#[2]|λp1 C=>%[!1,_,SqL.of ae,_,ab,B|λt y=>?_]];exact k t _ _ (s8.trans ((ah.upd C).trans (ah.upd y))) (s8.free ((ah.upd C).free y)) ae (.inr %[wd,pn,_,rfl,hw,m1,y0|y9])
     lk;refine%[%[!1|!1],!1|bA (λ_=>%[#[2]|λp1 C=>%[%[!1|!1],!1,_,SqL.of ae|?_]]) λ_=>done _ _ s7 ⋯ ⋯];have%[c,hc|N]:=iO [-9999,9999] (i:=d/240%2) ⋯ (by show d/240%2<2;lia);have O: -9999<=c/\c<=9999:=by
      simp only[Yt,X2,or_false]at N
      lia
     exact%[_,hc|done _ _ (s7.trans (ah.upd C)) O.1 O.2]
    lk;have sp:=ah.refl H;have R:=M H sp;refine bA (λ_=>bA (λm=>?_) λ_=>R) λ_=>R
    have m:pn≠u:=↑m
    have L:3<=sizeLine/\∀p,H p=none->D6.rt (.ref p) (upd H p (.tup [V.str (!"same"),V.str pn,V.str u])):=%[B|λt y=>r6 _ _ (J H pn u sp m1 m2 m _ (.inr rfl) t y)]
    exact bA (λ_=>L) λ_=>bA (λ_=>L) λ_=>R
   lk;refine bA (λ_=>bA (λm=>?_) λ_=>rest) λ_=>rest
   have m:pn≠u:=↑m
   have L1:3<=sizeLine/\∀p,H p=none->D5.rt (.ref p) (upd H p (.tup [V.str (!"later"),V.str u,V.str pn])):=%[B|λt y=>r5 _ _ (J H u pn (ah.refl H) m2 m1 (Ne.symm m) _ (.inl rfl) t y)]
   have L2:3<=sizeLine/\∀p,H p=none->D5.rt (.ref p) (upd H p (.tup [V.str (!"later"),V.str pn,V.str u])):=%[B|λt y=>r5 _ _ (J H pn u (ah.refl H) m1 m2 m _ (.inl rfl) t y)]
   exact bA (λ_=>bA (λ_=>bA (λ_=>L1) λ_=>L2) λ_=>L2) λ_=>bA (λ_=>bA (λ_=>bA (λ_=>L1) λ_=>L2) λ_=>L2) λ_=>rest
  lk;exact bA (λ_=>%[%[!1|!1],!1|I _]) λ_=>I _
structure Drn where
 name:Str
 cols:List ZM
 hi:Nat
 sh:Int
 wd:Bool
abbrev Drn.rows(d:Drn):ZC:=drawn d.cols d.hi d.sh
abbrev l9(d:Drn):Prop:=ei d.name=true/\1<=d.hi/\d.hi<=7/\1<= ~~~d.cols/\ ~~~d.cols<=5/\∀c∈d.cols,~~~c=d.hi/\jW d.wd c
def l9.cut(h:l9 d):ci d.rows:=uP h.2.1 (by have:=h.2.2.1;lia) h.2.2.2.1 (by have:=h.2.2.2.2.1;lia) h.2.2.2.2.2
abbrev f6(d:Drn):List (Str×Int):=(there d.cols).map λa=>(dC d.name (sg a d.sh),a)
abbrev dcs(ds:List (Addr×Drn)):ZI:=ds.map λp=>(p.1,p.2.name,p.2.rows)
inductive rc (K:ZB)
 | mk (a:Addr) (xs:ZM):vs=[.ref a]->SqL K H a (xs\4)->(∀H',ah H H'->SqL K H' a (xs\4))-> ~~~xs=86->(∀x∈xs,0<=x/\x<9973)->(∀(t l1 l2 l3:Addr) H' (ds:List (Addr×Drn)) (qs:ZO),ah H H'->H t=none->H l1=none->H l2=none->H l3=none->l1≠l2->l1≠l3->l2≠l3->H' t&&&[.ref l1,.ref l2,.ref l3]->H' l1<*cI (dcs ds)->H' l2∣.lst (qs\0)->H' l3∣.lst ((ds.flatMap λp=>(f6 p.2)\1)\3)->1<= ~~~ds-> ~~~ds<=4->(∀p∈ds,l9 p.2)->(ds.map λp=>p.2.name).Nodup->cf H' (dcs ds)->cF H' (ds.flatMap λp=>(f6 p.2)\1) qs-> ~~~qs<=30->1<= ~~~(ds.flatMap λp=>(f6 p.2)\1)/\ ~~~(ds.flatMap λp=>(f6 p.2)\1)<=32->Q (.ref t) H')->rc K vs H Q E0
def i4(h:H M<*xs):∀b z,H b&&&z->upd H M (.lst ys) b&&&z:=λb z e=>by
 rw[aj (λa=>by rw[a,h]at e;cases e)];exact e
def dN.keep(h:dN H ys)(t:∀b z,H b&&&z->c b&&&z):dN c ys:=λp a=>%[t _ _ (h p a).1|(h p a).2]
def cf.keep(h:cf H c)(t:∀b z,H b&&&z->d b&&&z):cf d c:=λp a=>%[t _ _ (h p a).1|(h p a).2]
def cF.keep(h:cF H ls qs)(t:∀b z,H b&&&z->c b&&&z):cF c ls qs:=λp a=>%[t _ _ (h p a).1|(h p a).2]
def cf.snoc(h:cf H a)(b:H q.1&&&[.str q.2.1,.str (Str.join nl q.2.2)]/\ei q.2.1=true/\ci q.2.2):cf H (a++[q]):=λp c=>by
 rcases Xj c with z|z
 .exact h p z
 .rw[Xk z];exact b
def dN.snoc(h:dN H ys)(a:H q.1&&&[.str q.2.1,.int q.2.2]/\0<=q.2.2/\q.2.2<=7):dN H (ys++[q]):=λp b=>by
 rcases Xj b with z|z
 .exact h p z
 .rw[Xk z];exact a
def zH(n:Str)(c:Nat):n++Str.ofString "."++sgn c=dC n c:=by
 refine fj ?_;show(n.cps++ ([46].toArray) ++ ([c].toArray)).toList=(n.cps.toList++[46,c]).toArray.toList;simp
def sZ(T:Txt K mg):↥3 "_law_ground" ["_law_row_here"] (rc K):=by
 .exists T.bm,aW,ew,hr,%[a,xs,rfl,hs,keep,b9,hb|kk];have get:∀i:Int,0<=i->i<86->∃c,atI (xs\4) i∣V.int c/\0<=c/\c<9973:=λi h0 h1=>by
   have%[c,e|hm]:=iO xs h0 ⋯;exact%[c,e|hb c hm]
  have%[c0,g0,l0|u0]:=get 0 (!1) (!1);refine%[_,%["JDG1H]fARM0CBD'2eftYFSRM0CCCDG3TBD'4efTBDV&AFaCFSFkRM0CCCBL5DG6FaFSFkRM0CCCFoC5DG7%M2(tY5FSFkRM0CCCD~OH]gA~UM0<FaCFoC5<FaCFoC5A6A7BlOL8OL9mDWni3AuAR15A8BBEVU9L:EWniM4AuAF~$F~$R15hH~nA~H:A6BA~H:BBDG;FSFkRM0CCCD~C<feb?1&A~H;BX0?2pH]hARM3FaCFoC0ARM3FaCFoC0AM1AM2BEIuA3A~H<Ajb?3UM4lOX0?4OX1?4mp0B",aW.nd,↑(["_law_k","_law_layers","_law_torn_here","_law_row_here"],[(1,4),(2,2),(3,0)]),↑["_law_k","_law_layers","_law_torn_here","_law_row_here"],↑(["_law_layer","_law_at"],[]),↑["_law_layer","_law_at"]|hr]|?_]
  have%[c1,g1,l1|u1]:=get 1 (!1) (!1);show br _ _ _ [!a,none,none,none,none,none,none,none,none,none,none,none,none] H;refine am λD1 k1 _=>?_
  lk;refine%[_,hs,_,g1,_,ρ,l1,u1|λLN Hn ms sn fn bl al=>k1 _ _ (am λD2 k2 _=>?_)];have keep:∀g,ah Hn g->SqL K g a (xs\4):=λg sm=>keep _ (sn.trans sm)
  lk;refine%[_,keep _ (ah.refl Hn),_,g0,c0,ρ,!1|k2 _ _ (am λex dn _=>?_)]
  generalize decide (c0%3=1)=u
  lk;refine%[Xb _|λv an=>dn _ _ (am λeu ca _=>?_)];have s1:=ah.upd (o:= .lst []) an;lk;refine%[Xb _|λL3 aU=>ca _ _ (am λD3 k3 _=>aC λaq hK=>?_)];have s2:=s1.trans (ah.upd (o:= .lst []) aU);have ey:LN≠v:=λe=>by rw[<-e,bl]at an;cases an
  have bm:v≠L3:=λe=>by rw[<-e,ae]at aU;cases aU
  lk;refine%[_,keep _ s2,_,g0,c0,ρ,%[!1|!1],!1|?_];refine%[⋯,⋯|hK _ _ (cC (λi L g=>∃o3 o4 o5 o6 o7 o8,L=[!a,!LN,some (.bl u),!v,!L3,o3,o4,o5,o6,o7,o8,none,none]/\ah Hn g/\∃(ds:List (Addr×Drn)) (ys:List (Addr×Str×Int)),~~~ds=i/\g v<*cI (dcs ds)/\g L3∣.lst (ys\0)/\dN g ys/\(ys\2)=(ds.flatMap λp=>f6 p.2)/\
   cf g (dcs ds)/\(∀p∈ds,l9 p.2)/\ds.map (λp=>p.2.name)=ms.take i)
   %[_,_,_,_,_,_,ρ,s2,[],[],ρ,by rw[aj bm];exact ae,ae,λp hp=>(nomatch hp),ρ,λp hp=>(nomatch hp),λp hp=>(nomatch hp)|ρ] ?_ ?_)]
  .intro i L H3 hi %[o3,o4,o5,o6,o7,o8,rfl,s3,ds,ys,bt,y,C,a0,O,b0,a1|b1];have hi3:i<4:=by lia
   show br _ _ _ [!a,!LN,some (.bl u),!v,!L3,some (.int (0+i)),o4,o5,o6,o7,o8,none,none] H3;rw[Int.zero_add];refine am λD4 k4 _=>?_
   have cd:i< ~~~ms:=by rw[al.1];exact hi3
   obtain⟨nm,ch,b2⟩:∃nm,ms[i]?∣nm/\ei nm=true:=%[_,Z4 cd|al.2.2 _ (Ya cd)]
   have a5:atI (ms\3) (i:Int)∣V.str nm:=cg (by rw[Zl,ch];rfl);lk;refine%[_,keep _ s3,_,g0,c0,ρ,%[!1|!1],!1,.inl %[!1|!1]|k4 _ _ (am λD5 k5 _=>?_)];have b3:0<=c0/12%26+3*(i:Int):=by lia
   generalize c0/12%26+3*(i:Int)=r at b3
   have M:=s3;have ar:∀m:Bool,D5.nx [!a,!LN,some (.bl u),!v,!L3,some (.int i),some (.int r),some (.bl m),o6,o7,o8,none,none] H3:=by
    intro m;refine k5 _ _ (am λD6 k6 _=>?_);lk;refine%[.inl %[!1|!1],.inl %[!1|!1],_,keep _ M|λp2 cl=>?_];rw[uZ xs ⋯ ⋯ ⋯];have co: ~~~((xs.drop (2+6*(i:Int)).toNat).take ((8+6*(i:Int)).toNat-(2+6*(i:Int)).toNat))=6:=by
     rw[Yj,Yf,b9];exact(by decide:∀i:Nat,i<4->min ((8+6*(i:Int)).toNat-(2+6*(i:Int)).toNat) (86-(2+6*(i:Int)).toNat)=6) i ⋯
    have cs:∀x∈(xs.drop (2+6*(i:Int)).toNat).take ((8+6*(i:Int)).toNat-(2+6*(i:Int)).toNat),0<=x/\x<9973:=λx hx=>hb x (List.mem_of_mem_drop (Yu hx))
    generalize (xs.drop (2+6*(i:Int)).toNat).take ((8+6*(i:Int)).toNat-(2+6*(i:Int)).toNat)=ws at co cs
    refine%[p2,ws,r,m,ρ,SqL.of ae,λg sm=>SqL.of (sm _ _ ae),co,cs,b3|λT5 th H5 d l U f5 dp n5 dr dt dx dy dK dT b4=>%[T5,ρ,_,SqT.of dr,ρ,_,_,ρ,_,_,ρ,ρ|k6 _ _ (am λD7 k7 _=>?_)]];have a2:ah H3 H5:=(ah.upd cl).trans U;have a6:l9 %[nm,d,l,r|m]:=%[b2,dx,dy,dK,dT|b4]
    have aa:H3 th=none:=(ah.upd cl).free dp;have dV:th≠v:=λe=>by rw[e,y]at aa;cases aa
    have d0:th≠L3:=λe=>by rw[e,C]at aa;cases aa
    lk;refine%[tyL (SqL.of (a2 _ _ y)),_,SqL.of (a2 _ _ (s3 _ _ bl)),_,a5,#[2]|λI d1=>?_];have s6:=ah.upd (o:= .tup [V.str nm,V.str (nl.join (drawn d l r))]) d1;have g6:upd H5 I (.tup [V.str nm,V.str (nl.join (drawn d l r))]) I=_:=ae;have ai:=s6 _ _ (a2 _ _ y)
    generalize upd H5 I (.tup [V.str nm,V.str (nl.join (drawn d l r))])=H6 at s6 g6 ai
    have a3:=a2.trans s6;refine%[_,ai,by rw[show(cI (dcs ds)).length= ~~~ds by unfold cI dcs;rw[Z6,Z6],bt];exact aG ⋯|k7 _ _ (aE λD8 k8 _=>aC λaq hK=>?_)];have tk:=i4 (ys:=cI (dcs ds) ++[V.ref I]) ai;have ct:ah Hn (upd H6 v (.lst (cI (dcs ds) ++[V.ref I]))):=ah.set (s3.trans a3) an;have cv:upd H6 v (.lst (cI (dcs ds) ++[V.ref I])) v<*cI (dcs (ds++[(I,%[nm,d,l,r|m])])):=by
     rw[ae];unfold cI dcs;rw[Zd,Zd];rfl
    have cM:upd H6 v (.lst (cI (dcs ds) ++[V.ref I])) L3∣.lst (ys\0):=by rw[aj (Ne.symm bm)];exact a3 _ _ C
    have b5:upd H6 v (.lst (cI (dcs ds) ++[V.ref I])) th<*(there d)\4:=by rw[aj dV];exact s6 _ _ dt
    have c2:cf (upd H6 v (.lst (cI (dcs ds) ++[V.ref I]))) (dcs (ds++[(I,%[nm,d,l,r|m])])):=by
     rw[show dcs (ds++[(I,%[nm,d,l,r|m])])=dcs ds++[(I,nm,drawn d l r)] by unfold dcs;rw[Zd];rfl];exact((b0.up a3).snoc %[g6,b2|a6.cut]).keep tk
    have c3:dN (upd H6 v (.lst (cI (dcs ds) ++[V.ref I]))) ys:=(a0.up a3).keep tk
    generalize upd H6 v (.lst (cI (dcs ds) ++[V.ref I]))=H7 at ct cv cM b5 c2 c3
    have ab: ~~~ys<=8*i:=by
     have e:=congrArg List.length O;rw[Z6,List.length_flatMap]at e;have:=si (f:=λp:Addr×Drn=> ~~~(f6 p.2)) (B:=8) (xs:=ds) λp _=>by
      unfold f6;rw[Z6];exact kW _
     lia
    lk;refine%[%[_|SqL.of b5]|hK _ _ (fK (xs:=(there d)\4) (λj L g=>∃o8,L=[!a,!LN,some (.bl u),!v,!L3,some (.int i),some (.int r),some (.bl m),some (.str (nl.join (drawn d l r))),!th,o8,none,none]/\ah Hn g/\g v<*cI (dcs (ds++[(I,%[nm,d,l,r|m])]))/\g th<*(there d)\4/\cf g (dcs (ds++[(I,%[nm,d,l,r|m])]))/\
     ∃zs:List (Addr×Str×Int),g L3∣.lst ((ys++zs)\0)/\dN g (ys++zs)/\zs\2=((there d).take j).map λa=>(dC nm (sg a r),a))
     %[_,ρ,ct,cv,b5,c2,[],by rw[Zx];exact cM,by rw[Zx];exact c3|ρ] (λj L g _ ⟨_,_,_,_,q,_⟩=>SqL.of q) ?_ ?_)]
    .intro j x L H8 hx %[o8,rfl,s8,as,a7,b6,zs,ac,b7|aR];have hj:j< ~~~(there d):=by have:=(Xi hx).1;rwa[Z6]at this
     rw[Zl,Z4 hj]at hx;obtain rfl:x=V.int (there d)[j]:=(Za hx).symm;have c4:=eK.mp (Ya hj);show jF _ _ [!a,!LN,some (.bl u),!v,!L3,some (.int i),some (.int r),some (.bl m),some (.str (nl.join (drawn d l r))),!th,some (.int (there d)[j]),none,none] H8;refine aE λD9 k9 _=>?_
     lk;have ev:=kz b2;have ea:∀a b:Str,~~~(a++b)= ~~~a+ ~~~b:=λa b=>size_append
     have e1:(!".").length=1:=rfl;have zl: ~~~zs<=j:=by
      have:=congrArg List.length aR;rw[Z6,Z6,Yj]at this
      lia
     have tl:=kW d;refine%[tyL (SqL.of ac),_,SqL.of (s8 _ _ bl),_,a5,_,ρ,bH ⋯,_,_,ρ,b3,_,ρ,bH (by rw[ea,show(sgn (sg (there d)[j] r)).length=1 from rfl];lia),#[2]|λp hp=>?_];rw[zH];have s9:=ah.upd (o:= .tup [V.str (dC nm (sg (there d)[j] r)),V.int (there d)[j]]) hp;have g9:upd H8 p (.tup [V.str (dC nm (sg (there d)[j] r)),V.int (there d)[j]]) p=_:=ae
     generalize upd H8 p (.tup [V.str (dC nm (sg (there d)[j] r)),V.int (there d)[j]])=H9 at s9 g9
     have c5:=s9 _ _ ac;have c7:=i4 (ys:=(ys++zs)\0 ++[V.ref p]) c5;refine%[_,c5,by rw[Z6,Z9];exact aG ⋯|k9 _ _ %[_,ρ,ah.set (s8.trans s9) (s1.free aU),by rw[aj bm];exact s9 _ _ as,by rw[aj d0];exact s9 _ _ a7,(b6.up s9).keep c7,zs++[(p,dC nm (sg (there d)[j] r),(there d)[j])],?_,?_|?_]]
     .rw[ae,<-Ze,Zd (l₂:=[(p,dC nm (sg (there d)[j] r),(there d)[j])])];rfl
     .rw[<-Ze];exact((b7.up s9).snoc %[g9,c4.1|c4.2.1]).keep c7
     .rw[Zd,aR,X7,Z4 hj,Zd];rfl
    .intro L H8 %[o8,rfl,s8,as,a7,b6,zs,ac,b7|aR];rw[Z6,Zn (Zi _)]at aR;refine k8 _ _ %[_,_,_,_,_,_,rfl,s8,ds++[(I,%[nm,d,l,r|m])],ys++zs,by rw[Z9,bt];rfl,as,ac,b7,?_,b6,λp hp=>?_|?_]
     .rw[Zd,O,aR,flatMap_append]
      congr 1
      rw[List.flatMap_singleton];rfl
     .rcases Xj hp with z|z
      .exact a1 p z
      .rw[Xk z];exact a6
     .rw[Zd,b1,X7,ch];rfl
   lk;exact bA (λ_=>%[_,keep _ M,_,g0,c0,rfl,%[!1|!1],!1|ar _]) λ_=>ar _
  .intro L H3 %[o3,o4,o5,o6,o7,o8,rfl,s3,ds,ys,bt,y,C,a0,O,b0,a1|b1];refine k3 _ _ (am λD4 k4 _=>?_);lk;refine%[_,keep _ s3,_,g0,c0,ρ,%[!1|!1],!1|k4 _ _ (am λD5 k5 _=>?_)];have m0:0<=c0/12%31:=by lia
   have d2:c0/12%31<=30:=by lia
   generalize c0/12%31=bb at m0 d2
   have d3:1<= ~~~ds:=by lia
   have d4: ~~~ds<=4:=by lia
   have ab: ~~~ys<=32/\1<= ~~~ys:=by
    have e:=congrArg List.length O;rw[Z6,List.length_flatMap]at e;have:=si (f:=λp:Addr×Drn=> ~~~(f6 p.2)) (B:=8) (xs:=ds) λp _=>by
     unfold f6;rw[Z6];exact kW _
    refine%[⋯|pos_of_ne_zero λz=>?_];have d7:ys=[]:=length_eq_zero_iff.mp z;rw[d7]at O;have da:0< ~~~ds:=by lia
    have hq:=a1 ds[0] (Ya da);have eb:=BQ hq.2.1 hq.2.2.2.1 hq.2.2.2.2.2;have%[a'|ec]:=List.exists_mem_of_ne_nil _ eb;have:(dC ds[0].2.name (sg a' ds[0].2.sh),a')∈ds.flatMap λp=>f6 p.2:=mem_flatMap.mpr %[ds[0],Ya da|Xm %[a',ec|rfl]]
    rw[<-O]at this;cases this
   have G:(ys.map λp=>p.2.1)=ds.flatMap λp=>(f6 p.2)\1:=by
    have e:=congrArg (List.map (·.1)) O;rw[Yp,List.map_flatMap]at e;exact e
   refine aF λaq hK=>?_
   lk;refine%[⋯,⋯|hK _ _ λL2 Y=>?_];have ed:L2≠v:=λe=>by rw[e,y]at Y;cases Y
   have ez:L2≠L3:=λe=>by rw[e,C]at Y;cases Y
   have eg:=ah.upd (o:= .lst []) Y;refine cK (J:=Itr 0 bb.toNat) (n:=bb.toNat) (D:=L2) (λi zs L g=>(∃o,L=[o,!L3,some (.bl u),!a])/\ah H3 g/\g L2<*zs/\∃qs:ZO,zs=(qs\0)/\ ~~~qs=i/\cF g (ys.map λp=>p.2.1) qs)
    %[%[none|rfl],eg,ae,[],rfl,rfl|λq hq=>(nomatch hq)] (λi _ _ g hi _=>hi) (λ_ _ g _=>Zi _) ?_ ?_
   .intro i zs L H4 eh %[%[o|rfl],M,ag,qs,rfl,dd|a4] x eH %[e2|e3];subst e2 e3;have%[x1,ej,ek|e0]:=get (26+2*(i:Int)) ⋯ ⋯;have%[x2,el,en|e4]:=get (27+2*(i:Int)) ⋯ ⋯;lk;refine%[.inl %[!1|!1],_,keep _ (s3.trans M),_,ej,.inl %[!1|!1],_,keep _ (s3.trans M),_,el|?_];refine%[x1,x2,L3,u,ys,ρ,M _ _ C,a0.up M,ab.2,⋯,ek,en|λt H5 eo U f5 h5 ep=>?_];have ai:=U _ _ ag;have de:=i4 (ys:=qs\0 ++[V.ref t]) ai;refine CK.mk eh ai (by rw[Z6];exact aG ⋯) %[%[_|rfl],ah.set (M.trans U) Y,ae,qs++[(t,eo)],by rw[Zd];rfl,by rw[Z9,dd];rfl|λq hq=>?_];rcases Xj hq with z|z
    .exact(((a4.up U).keep de) q z)
    .rw[Xk z];exact%[de _ _ h5|ep]
   .intro zs L H4 %[_,M,ag,qs,rfl,dd|a4];refine k5 _ _ ?_;lk;refine aF λaq hK=>?_
    lk;have bc:=M _ _ C;refine%[%[_|SqL.of bc]|hK _ _ λN hN=>?_];refine cH (λj ts L g=>(∃o1 o2,L=[o1,o2])/\ah H4 g/\g N<*ts/\ts=((ys.take j).map λp=>p.2.1)\3)
     %[%[none,none|rfl],ah.upd hN,ae|rfl] (λ_ _ _ g eq=>eq.2.1 _ _ bc) ?_ ?_
    .intro j ts L H6 hj %[%[o1,o2|rfl],U,er|ht];have es:=(a0 ys[j] (Ya hj)).1;refine%[_,SqT.of (U _ _ (M _ _ es)),ρ,_,_,ρ,_,_,ρ,ρ|?_];show At [some (.str ys[j].2.1),some (.int ys[j].2.2)] _ _;lk;refine CK.mk hj er (by rw[ht,Z6,Z6,Yj];exact aG ⋯) %[%[_,_|rfl],ah.set U hN,ae|?_];rw[ht,X7,Zd,Zd,Z4 hj];rfl
    intro ts L H5 %[_,U,et|ht];rw[Zn (Zi _),G]at ht;refine%[#[3]|λt dk=>?_];have st:=ah.upd (o:= .tup [V.ref v,V.ref L2,V.ref N]) dk;have dm:=s3.trans (M.trans (U.trans st));rw[G]at a4;have bf:=M _ _ y;refine kk t v L2 N _ ds qs (sn.trans dm) (sn.free ((s3.trans (M.trans U)).free dk)) (sn.free an) (sn.free (s3.free Y)) (sn.free ((s3.trans M).free hN)) (Ne.symm ed) (λe=>by rw[<-e,bf]at hN;cases hN) (λe=>by rw[<-e,ag]at hN;cases hN) ae (st _ _ (U _ _ bf)) (st _ _ (U _ _ ag)) (by rw[st _ _ et,ht]) d3 d4 a1 ?_ (b0.up (M.trans (U.trans st))) (a4.up (U.trans st)) ⋯ (by rw[<-G,Z6];exact%[ab.2|ab.1]);rw[b1];exact al.2.1.sublist (List.take_sublist _ _)
abbrev NmD(ls:ZC)(f:Str->Str):List (Key×V):=ls.map λz=>(Sum.inr z,V.str (f z))
def iR:∀{ls:ZC},z∈ls->cD (NmD ls f) (Sum.inr z)∣.str (f z)
 |[],h=>(nomatch h)
 | x::ls,h=>by
   by_cases e:x=z
   .subst e;exact dS rfl
   .rw[show NmD _ f=(Sum.inr x,V.str _)::NmD ls f from rfl,cS (λq=>e (Sum.inr.inj q))];exact iR (by rcases mem_cons.mp h with q|q;exact(e q.symm).elim;exact q)
def B3:((NmD ls f).any λa=>decide (a.1=(Sum.inr z:Key)))=true↔z∈ls:=by
 rw[any_eq_true]
 constructor
 .rintro⟨a,b,c⟩;have%[x,d|rfl]:=Xl b
  simp_all
 .intro h;exact%[_,Xm %[z,h|ρ]|Zf rfl]
def tf(h:z∈ls):cE (NmD ls f) (Sum.inr z) (.str v)=NmD ls (λx=>if x=z then v else f x):=by
 unfold cE;rw[if_pos (B3.mpr h)];unfold NmD;rw[Yp];refine Yn λx _=>?_
 show(if(Sum.inr x)=Sum.inr z then((Sum.inr x),V.str v)else(Sum.inr x,V.str _))=(Sum.inr x,V.str (if x=z then v else f x))
 by_cases e:x=z
 .rw[if_pos (congrArg _ e),if_pos e]
 .rw[if_neg (λq=>e (Sum.inr.inj q)),if_neg e]
def Gr(h:z∉ls):cE (NmD ls id) (Sum.inr z) (.str z)=NmD (ls++[z]) id:=by
 unfold cE;rw[if_neg (λq=>h (B3.mp q))];unfold NmD;rw[Zd];rfl
abbrev xW(ls:ZC)(z:Str):Nat:=iE (ls.map λu=>[u]) [z]
def oM(a:x∈ls)(h:aO x y=true):xW ls x<xW ls y:=by
 have:=mJ (ks:=ls.map λu=>[u]) (y:=[y]) (Xm %[x,a|rfl]);rw[nS,h]at this;exact Zo this.symm
abbrev bR(qs:ZO)(a b:Str):Prop:=∃q∈qs,q.2=[.str "same",.str a,.str b]
def i5{S R:Str->Str->Prop}(F:bN ls f r S)(h:∀a b,S a b↔R a b):bN ls f r R:=by
 rw[funext λa=>funext λb=>(propext (h a b)).symm];exact F
inductive B4
 | mk (d z ls f r S):vs=[.ref d,.str z]->H d∣.dK (NmD ls f)->bN ls f r S->z∈ls->Q (.str (r z)) H->B4 vs H Q E0
inductive xX
 | mk (d a b ls f r S):vs=[.ref d,.str a,.str b]->H d∣.dK (NmD ls f)->bN ls f r S->a∈ls->b∈ls-> ~~~ls<=5000->(∀f' r',bN ls f' r' (λx y=>S x y\/(x=a/\y=b))->Q .non (upd H d (.dK (NmD ls f'))))->xX vs H Q E0
def eY(T:Txt K mg):↥1 "least_pointed_to" ["names","layer"] B4:=by
 .exists T.aD,ef,n,g,%[d,z,ls,p,r,S,rfl,o,F,q|i];refine%[_,%["JD~AKvs011EG1s01EI1",ef.nd|g]|am λu k1 _=>⟨λm j e=>∃y,j=[some _,-y]/\e=H/\y∈ls/\r y=r z/\m=xW ls y,%[_,z,ρ,ρ,q,ρ|ρ],?_⟩]
  intro m j e %[y,rfl,rfl,a,b|rfl];lk;have g1:=by
   have:=dF.k (k:=Sum.inr y) o;rw[iR a]at this;exact this
  refine%[_,g1,ρ|bA (λh=>?_) λh=>?_]
  .have h:=↑h
   refine%[λc l=>c=[some _,some _]/\l=e,?_,_,g1,ρ|ρ];intro c l %[rfl|rfl];exact%[_,oM (F.fin y a) (F.dec y a h),p y,ρ,ρ,F.fin y a,(F.rf y a).trans b|ρ]
  .refine k1 _ _ ?_;rw[<-b,F.fix y a ↑h]at i;exact i
def mC(T:Txt K mg):↥2 "join_deposits" ["names","one","other"] xX:=by
 .exists T.aC,dJ,l,c,%[d,a,b,ls,p,r,S,rfl,e,F,g,i,m|n];refine%[_,%["JDG3H~%A0A1BDG4H~%A0A2BE,~J~&A3A4B0~T]iA3A4B",dJ.nd|c]|?_]
  show br _ _ _ [!d,-a,-b,none,none] H;refine am λq k1 _=>?_
  lk;refine%[d,a,ls,p,r,S,ρ,e,F,g|k1 _ _ (am λu k2 _=>?_)];lk;refine%[d,b,ls,p,r,S,ρ,e,F,i|k2 _ _ (aE λv o _=>?_)];lk;have J:=F.join g i rfl rfl;have j:(if aO (r a) (r b)=true then r b else r a)∈ls:=by
   split
   .exact F.rin b i
   .exact F.rin a g
  generalize (if aO (r a) (r b)=true then r b else r a)=M at J j
  refine%[_,ir.k (k:=Sum.inr M) e (by unfold NmD;rw[Z6,PySem.sizeLine_eq];lia)|o _ _ ?_];rw[tf j];exact n _ _ J
def oN{qs:ZO}{q:Addr×ZN}(c:qs[i]?∣q)(a b:Str):bR (qs.take (i+1)) a b↔bR (qs.take i) a b\/q.2=[.str "same",.str a,.str b]:=by
 unfold bR;rw[X7,c]
 simp_all
def gT{ls:ZC}(c:ls.Pairwise (λa b=>aO b a=false)){i:Nat}{z w:Str}(d:ls[i]?∣z)(hw:w∈ls)(h:aO w z=true):w∈ls.take i:=by
 rw[<-X8 i ls]at hw;rcases Xj hw with e|e
 .exact e
 .have%[hi|f]:=Xi d;have%[j,g|rfl]:=List.getElem_of_mem e;rw[List.getElem_drop]at h;rw[Yf]at g;by_cases l:j=0
  .subst l;rw[<-f]at h;simp only[add_zero]at h;rw[cr]at h;cases h
  .have:=List.pairwise_iff_getElem.mp c i (i+j) hi ⋯ ⋯
   grind
inductive ve (mg:ZD)
 | mk (g c2 c3 c4 qs ls ts):vs=[.ref g]->GrF mg H g c2 c3 c4 qs ls ts->ls.Nodup->ls.Pairwise (λa b=>aO b a=false)-> ~~~ls<=5000->(∀d H' r,ah H H'->H d=none->H' d∣.dK (NmD ls r)->(∀z∈ls,r z∈ls/\cz (bR qs) z (r z))->Q (.ref d) H')->ve mg vs H Q E0
def oO{H:Hp}{g b c d:Addr}{qs:List _}{ls:ZC}{ts:List _}{m:Str}{R:Prop}(h:GrF mg H g b c d qs ls ts)(e:m="layers"\/m="sayings"\/m="ties")(k:R):∃a fs,H g∣.ins (aJ mg "Ground") a fs/\List.lookup m fs=none/\R:=by
 have%[a,i|f]:=h.at_;exact⟨a,_,f,by rcases e with rfl|rfl|rfl<;> rfl,k⟩
def gc(T:Txt K mg):↥3 "names_by_layer" ["ground"] (ve mg):=by
 .exists T.aB,bp,aq,J,%[g,c2,c3,c4,qs,ls,ts,rfl,hg,nd,so,an|kk];have lm: ~~~(ls\3)= ~~~ls:=Z6 _;have qm: ~~~(qs\0)= ~~~qs:=Z6 _;refine%[_,%["JDG1}DVU~I~e0L2E,212DVU~I]j0lOL3OL4OL5mENKY3hEWH]kA1A4A5BQDVU~I~e0L2E,s1s1212EI1",bp.nd|J]|?_]
  show br _ _ _ [!g,none,none,none,none,none] H;refine am λD1 k1 _=>?_
  lk;intro d hd;refine k1 _ _ (am λD2 k2 _=>aC λL hK=>?_);have s1:=ah.upd (o:= .dK []) hd;have U:upd H d (.dK []) d∣.dK (NmD (ls.take 0) id):=ae
  generalize upd H d (.dK [])=H1 at s1 U
  lk;have aa:=hg.up s1;refine oO aa (.inl rfl) %[g,c2,c3,c4,qs,ls,ts,rfl,aa|λY M=>%[Y,rfl,%[_|SqL.of ae]|hK _ _ ?_]];have s2:=ah.upd (o:= .lst (ls\3)) M;have ab:upd H1 Y (.lst (ls\3)) Y=_:=ae;have n1:Y≠d:=λe=>by rw[e,U]at M;cases M
  have U:=s2 _ _ U
  generalize upd H1 Y (.lst (ls\3))=H2 at s2 ab U
  refine cZ (λi m j=>(∃n p u v,m=[!g,!d,n,p,u,v])/\ah H j/\j Y<*ls\3/\j d∣.dK (NmD (ls.take i) id))
   %[%[_,_,_,_|rfl],s1.trans s2,ab|U] (λi m j h=>h.2.2.1) ?_ ?_
  .intro i z m j B %[%[n,p,u,v|rfl],l,I|c];show qd _ _ _ _ [!g,!d,-z,p,u,v] j;refine aE λD3 k3 _=>?_
   lk;have zn:z∉ls.take i:=λhm=>by
    have h:=nd;rw[<-X8 i ls,Yx]at h;exact h.2.2 z hm z (Z8 (i:=0) ((getElem?_drop)▸B)) rfl
   refine%[_,ir.k (k:=Sum.inr z) c (by unfold NmD;rw[Z6,Yj,PySem.sizeLine_eq];lia)|k3 _ _ %[%[_,_,_,_|ρ],ah.set l hd,(aj n1).trans I|?_]];rw[ae,Gr zn,X7,B];rfl
  intro m H3 %[%[n,p,u,v|rfl],l,I|c];rw[Zn (Zi _)]at c;refine k2 _ _ (am λD4 k4 _=>aC λL hK=>?_);lk;have ac:=hg.up l;refine oO ac (.inr (.inl rfl)) %[g,c2,c3,c4,qs,ls,ts,rfl,ac|λl2 N=>%[l2,rfl,%[_|SqL.of ae]|hK _ _ ?_]];have s4:=ah.upd (o:= .lst (qs\0)) N;have ag:upd H3 l2 (.lst (qs\0)) l2=_:=ae;have n2:l2≠d:=λe=>by rw[e,c]at N;cases N
  have c:=s4 _ _ c;have ai:=l.trans s4
  generalize upd H3 l2 (.lst (qs\0))=H4 at s4 ag c ai
  refine cZ (λi m j=>(∃n p u v,m=[!g,!d,n,p,u,v])/\ah H j/\j l2∣.lst (qs\0)/\∃f r,j d∣.dK (NmD ls f)/\bN ls f r (bR (qs.take i)))
   %[%[_,_,_,_|rfl],ai,ag,id,id,c|i5 (bN.start ls) λa b=>%[λh=>h.elim|λ⟨q,hq,_⟩=>(nomatch hq)]] (λi m j h=>h.2.2.1) ?_ ?_
  .intro i q m j hq %[%[n,p,u,v|rfl],l,I,f,r,c|F];have%[q1|q2]:=hg.sa q (Z8 hq);have st:=l _ _ q1;have C:=oN hq;rcases q2 with⟨wd,a,b,e,hw,ha,hb,_⟩|⟨wd,a,y,e,hw,_⟩
   .rw[e]at st C;refine%[_,SqT.of st,ρ,_,_,ρ,_,_,ρ,_,_,ρ,ρ|?_];show jH _ _ _ _ [!g,!d,n,-wd,-a,-b] j;refine aE λD5 k5 _=>?_
    lk;refine bA (λh=>?_) λh=>?_
    .have h:wd=Str.ofString "same":=↑h
     refine%[d,a,b,ls,f,r,_,ρ,c,F,ha,hb,an|λf' r' F'=>k5 _ _ %[%[_,_,_,_|ρ],ah.set l hd,(aj n2).trans I,f',r',ae|i5 F' λx y=>?_]];rw[C,h];refine or_congr Iff.rfl %[λ⟨e1,e2⟩=>by rw[e1,e2]|λe=>?_];simp only[List.cons.injEq,V.str.injEq,and_true,true_and]at e;exact%[e.1.symm|e.2.symm]
    .have h:wd≠Str.ofString "same":=↑h
     refine k5 _ _ %[%[_,_,_,_|rfl],l,I,f,r,c|i5 F λx y=>?_];rw[C];refine%[.inl|λe=>e.resolve_right λe=>h ?_];simp only[List.cons.injEq,V.str.injEq]at e;exact e.1
   .rw[e]at st C;refine%[_,SqT.of st,ρ,_,_,ρ,_,_,ρ,_,_,ρ,ρ|?_];show jH _ _ _ _ [!g,!d,n,-wd,-a,some (.int y)] j;refine aE λD5 k5 _=>?_
    lk;rw[if_neg (by rcases hw with rfl|rfl<;> decide)];refine k5 _ _ %[%[_,_,_,_|rfl],l,I,f,r,c|i5 F λx z=>?_];rw[C];refine%[.inl|λe=>e.resolve_right λe=>?_];simp at e
  intro m H5 %[%[n,p,u,v|rfl],l,I,f,r,c|F];rw[Zn (Zi _)]at F;refine k4 _ _ (am λD6 k6 _=>aC λL hK=>?_);lk;have al:=hg.up l;refine oO al (.inl rfl) %[g,c2,c3,c4,qs,ls,ts,rfl,al|λl3 O=>%[l3,rfl,%[_|SqL.of ae]|hK _ _ ?_]];have s6:=ah.upd (o:= .lst (ls\3)) O;have n3:l3≠d:=λe=>by rw[e,c]at O;cases O
  have c:=s6 _ _ c;refine cZ (λi m j=>(∃n p u v,m=[!g,!d,n,p,u,v])/\ah H j/\j l3<*ls\3/\∃f,j d∣.dK (NmD ls f)/\bN ls f r (bR qs)/\∀z∈ls.take i,f z=r z)
   %[%[_,_,_,_|rfl],(l.trans s6),ae,f,c,F|λz B=>(nomatch B)] (λi m j h=>h.2.2.1) ?_ ?_
  .intro i z m j B %[%[n,p,u,v|rfl],l,I,f,c,F|G];have zm:=Z8 B;show qd _ _ _ _ [!g,!d,-z,p,u,v] j;refine aE λD7 k7 _=>?_
   lk;have get:=λy hy=>by
    have:=dF.k (k:=Sum.inr y) c;rw[iR hy]at this;exact this
   refine%[_,get z zm,_,get _ (F.fin z zm),_,ir.k (k:=Sum.inr z) c (by unfold NmD;rw[Z6,PySem.sizeLine_eq];lia)|k7 _ _ %[%[_,_,_,_|ρ],ah.set l hd,(aj n3).trans I,_,?_,F.short zm|λy hy=>?_]]
   .rw[ae,tf zm]
   .rw[X7,B]at hy;by_cases e:y=z
    .rw[if_pos e,e];exact F.done zm λw hw h=>G w (gT so B hw h)
    .rw[if_neg e];rcases Xj hy with h|h
     .exact G y h
     .exact(e (Xk h)).elim
  intro m H7 %[%[n,p,u,v|rfl],l,I,f,c,F|G];rw[Zn (Zi _)]at G;refine k6 _ _ ?_;lk;refine kk d H7 r l hd ?_ λz B=>%[F.rin z B|F.least B]
  rw[c];unfold NmD;rw[Yn λz B=>by rw[G z B]]
def HJ{X:Cx}{K:ZB}{T id:String}(h:X.K=K)(m:PlainAttrs T)(slot:Slot T name id)(i:typeOf (.builtin id)=pure (.type "method_descriptor"))(n:MtQ X id r)
 (b:attributeBase o name X.env (eval o X.env)=eval o X.env) (a:(e::g).any bd=false) (j:Nat.blt (e::g).length 30=true) (c:(d.endLine==f.line)=true) (p:QE X o q) (s:QA X (e::g) t):
 QE X (.Call (.Attribute o name d) (e::g) [] f) (tBM K T r q t):=by
 have l:=a;rw[Zw,X3]at l;refine⟨AA h m slot i n.h p.h s.h b ?_ c (aB l.1) (dj l.2)⟩;rw[rX a];have:decide (~~~(e::g)+ ~~~([]:List Keyword)+(if([]:List Keyword).isEmpty then 0 else 1)<30)=true:=Zf ((Nat.blt_eq.mp j));rw[this];rfl
abbrev grp(r:Str->Str)(xs:ZC):List (Str×ZC):=(xs.filter λz=>decide (r z=z)).map λz=>(z,xs.filter λx=>decide (r x=z))
def zI(h:∀z∈xs,r z=b z):grp r xs=grp b xs:=by
 unfold grp;rw[List.filter_congr λz a=>by rw[h z a]];refine Yn λz a=>?_
 rw[List.filter_congr λx c=>by rw[h x c]]
def DM(a:r z=z)(b:z∉xs)(c:∀x∈xs,r x∈xs):grp r (xs++[z])=grp r xs++[(z,[z])]:=by
 unfold grp;rw[Y2,Zd];refine congr (congrArg _ (Yn λw hw=>?_)) ?_
 .have:w≠z:=λe=>b (e▸(List.mem_filter.mp hw).1)
  rw[Y2,Y3 (by rw[a];simpa using this.symm),Y6,Zx]
 .rw[Y4 (by rw[a];simp),Y6];show [(z,_)]=_;rw[Y2,Y4 (by rw[a];simp),Y6,List.filter_eq_nil_iff.mpr λx d=>?_]
  .rfl
  .intro e;exact b ((Zo e)▸c x d)
def DN(a:r z≠z):grp r (xs++[z])=(grp r xs).map λp=>if p.1=r z then(p.1,p.2++[z])else p:=by
 unfold grp;rw[Y2,Y3 ↑a,Y6,Zx,Yp];refine Yn λw hw=>?_
 show(w,_)=if w=r z then(w,_)else(w,_)
 rw[Y2];by_cases e:w=r z
 .rw[if_pos e,Y4 (by simpa using e.symm),Y6]
 .rw[if_neg e,Y3 (by simpa using λq=>e q.symm),Y6,Zx]
def i7:y∈(grp r xs)\1↔y∈xs/\r y=y:=by
 unfold grp
 simp_all
def lA(h:xs.Nodup):((grp r xs)\1).Nodup:=by
 unfold grp;rw[Yp,show((λx=>x.1) ∘ λz=>(z,List.filter _ xs))=id from rfl,map_id];exact h.filter _
abbrev xY(S:Str->Str->Prop)(ls:ZC)(ds:List ZC):Prop:=∃r:Str->Str,(∀z∈ls,r z∈ls/\cz S z (r z))/\ds=(grp r ls)\2
def xY.one{S:Str->Str->Prop}(h:xY S ls ds)(g:xY S ls b):ds=b:=by
 have%[r,c|rfl]:=h;have%[d,g1|rfl]:=g;rw[zI λz a=>(c z a).2.one (g1 z a).2]
noncomputable abbrev Gs(a:Type):=List (Str×Addr×List a)
abbrev gD{a:Type}(b:Gs a):List (Key×V):=b.map λg=>(Sum.inr g.1,V.ref g.2.1)
def xZ:∀{a:Gs b},y∉a\1->cD (gD a) (Sum.inr y)=none
 |[],_=>rfl
 | g::a,h=>by
   rw[Yo,Yt,not_or]at h;rw[show gD _=(Sum.inr g.1,V.ref _)::gD a from rfl,cS (λq=>h.1 (Sum.inr.inj q).symm)];exact xZ h.2
def gU:∀{a:Gs d},cD (gD a) (Sum.inr y)∣v->∃g∈a,g.1=y/\v= .ref g.2.1
 |[],h=>(nomatch h)
 | g::a,h=>by
   rw[show gD _=(Sum.inr g.1,V.ref _)::gD a from rfl]at h;by_cases e:g.1=y
   .rw[dS (congrArg Sum.inr e)]at h;exact%[g,Zm,e|(Za h).symm]
   .rw[cS (λq=>e (Sum.inr.inj q))]at h;have%[g',b|c]:=gU h;exact%[g',Zk _ b|c]
def lB:∀{a:Gs b},g∈a->cD (gD a) (Sum.inr g.1)≠none
 | x::a,h,c=>by
   rw[show gD _=(Sum.inr x.1,V.ref _)::gD a from rfl]at c;by_cases e:x.1=g.1
   .rw[dS (congrArg Sum.inr e)]at c;cases c
   .rw[cS (λq=>e (Sum.inr.inj q))]at c;rcases mem_cons.mp h with q|q
    .exact e (by rw[q])
    .exact lB q c
abbrev mP(H:Hp)(a:ZH):Prop:=∀g∈a,H g.1<*g.2\3
def mP.up{H a:Hp}{b:List _}(h:mP H b)(s:ah H a):mP a b:=λg c=>s _ _ (h g c)
structure iS {α:Type} (f:α->V) (H0 H:Hp) (d:Addr) (gs:Gs α):Prop where
 at_:H d∣.dK (gD gs)
 la:∀g∈gs,H0 g.2.1=none/\H g.2.1<*g.2.2.map f
 nd:(gs.map (·.2.1)).Nodup
def DO{f:Type}{c:Gs f}(d:(c\1).Nodup){g h:Str×Addr×List f}(i:g∈c)(j:h∈c)(e:g.1=h.1):g=h:=by
 induction c with
 | nil=>cases i
 | cons x xs l=>
   rw[Yo,nodup_cons]at d;rcases mem_cons.mp i with a|a<;> rcases mem_cons.mp j with b|b
   .rw[a,b]
   .exact(d.1 (by rw[<-a,e];exact Xm %[_,b|rfl])).elim
   .exact(d.1 (by rw[<-b,<-e];exact Xm %[_,a|rfl])).elim
   .exact l d.2 a b
def B5{f:Type}{c:Gs f}(d:(c.map (·.2.1)).Nodup){g h:Str×Addr×List f}(i:g∈c)(j:h∈c)(e:g.2.1=h.2.1):g=h:=by
 induction c with
 | nil=>cases i
 | cons x xs l=>
   rw[Yo,nodup_cons]at d;rcases mem_cons.mp i with a|a<;> rcases mem_cons.mp j with b|b
   .rw[a,b]
   .exact(d.1 (by rw[<-a,e];exact Xm %[_,b|rfl])).elim
   .exact(d.1 (by rw[<-b,<-e];exact Xm %[_,a|rfl])).elim
   .exact l d.2 a b
abbrev pS{a:Type}(y:Str)(z:a)(b:Gs a):Gs a:=b.map λg=>if g.1=y then(g.1,g.2.1,g.2.2++[z])else g
def Gu(y:Str)(z:b)(a:Gs b):gD (pS y z a)=gD a:=by
 unfold pS gD;rw[Yp];refine Yn λg _=>?_
 show(Sum.inr (if g.1=y then(g.1,g.2.1,g.2.2++[z])else g).1,V.ref (if g.1=y then(g.1,g.2.1,g.2.2++[z])else g).2.1)=_
 split<;> rfl
def Gw(y:Str)(z:b)(a:Gs b):(pS y z a).map (·.2.1)=a.map (·.2.1):=by
 unfold pS;rw[Yp];refine Yn λg _=>?_
 show(if g.1=y then(g.1,g.2.1,g.2.2++[z])else g).2.1=_
 split<;> rfl
def Gx(y:Str)(z:b)(a:Gs b):(pS y z a).map (λg=>(g.1,g.2.2))=(a.map λg=>(g.1,g.2.2)).map λp=>if p.1=y then(p.1,p.2++[z])else p:=by
 unfold pS;rw[Yp,Yp];refine Yn λg _=>?_
 show((if g.1=y then(g.1,g.2.1,g.2.2++[z])else g).1,(if g.1=y then(g.1,g.2.1,g.2.2++[z])else g).2.2)=if g.1=y then(g.1,g.2.2++[z])else(g.1,g.2.2)
 split<;> rfl
def iS.up{a:Type}{f:a->V}{b H c:Hp}{d:Addr}{e:Gs a}(h:iS f b H d e)(s:ah H c):iS f b c d e:=%[s _ _ h.at_,λg i=>%[(h.la g i).1|s _ _ (h.la g i).2]|h.nd]
def iS.add{a:Type}{f:a->V}{l H:Hp}{d:Addr}{b:Gs a}(h:iS f l H d b)(m:(b\1).Nodup){g:Str×Addr×List a}(c:g∈b)(z:a):iS f l (upd H g.2.1 (.lst (g.2.2.map f++[f z]))) d (pS g.1 z b):=by
 refine%[?_,λg' j=>?_|by rw[Gw];exact h.nd]
 .rw[Gu,aj (λe=>by have:=(h.la g c).2;rw[<-e,h.at_]at this;cases this)];exact h.at_
 .have%[n,i|rfl]:=Xl j;by_cases e:n.1=g.1
  .rw[if_pos e];obtain rfl:=DO m i c e;refine%[(h.la _ c).1|?_];rw[ae,Zd];rfl
  .rw[if_neg e];refine%[(h.la _ i).1|?_];rw[aj (λq=>e (by rw[B5 h.nd i c q]))];exact(h.la _ i).2
def iS.new{l:Gs n}(h:iS f m H d l)(s:ah m H)(j:H e=none)(y:Str)(z:n)(o:y∉l\1):iS f m (upd (upd (upd H e (.lst [])) d (.dK (cE (gD l) (Sum.inr y) (.ref e)))) e (.lst [f z])) d (l++[(y,e,[z])]):=by
 refine%[?_,λg i=>?_|?_]
 .rw[aj (λq=>by rw[<-q,h.at_]at j;cases j),ae,mV _ (xZ o)];unfold gD;rw[Zd];rfl
 .rcases Xj i with i|i
  .refine%[(h.la g i).1|?_];have q:=(h.la g i).2;rw[aj (λc=>by rw[c,j]at q;cases q),aj (λc=>by rw[c,h.at_]at q;cases q),aj (λc=>by rw[c,j]at q;cases q)];exact q
  .rw[Xk i];exact%[s.free j|ae]
 .rw[Zd,Yx];refine%[h.nd,by simp|λa p b r c=>?_];have%[g,i|rfl]:=Xl p;have q:=(h.la g i).2
  simp_all
inductive x4 (mg:ZD)
 | mk (g c2 c3 c4 qs ls ts):vs=[.ref g]->GrF mg H g c2 c3 c4 qs ls ts->ls.Nodup->ls.Pairwise (λa b=>aO b a=false)-> ~~~ls<=5000->(∀l H' ss,ah H H'->H l=none->H' l∣.lst (ss\0)->mP H' ss->(∀s∈ss,H s.1=none)->xY (bR qs) ls (ss\2)-> ~~~ss<=5000->Q (.ref l) H')->x4 mg vs H Q E0
inductive Gy (mg:ZD)
 | mk (g c2 c3 c4 qs ls ts z):vs=[.ref g,.str z]->GrF mg H g c2 c3 c4 qs ls ts->ls.Nodup->ls.Pairwise (λa b=>aO b a=false)-> ~~~ls<=5000->z∈ls->(∀H' m,ah H H'->cz (bR qs) z m->Q (.str m) H')->Gy mg vs H Q E0
def w4(T:Txt K mg):↥4 "deposits" ["ground"] (x4 mg):=by
 .exists T.aE,fz,a2,C,%[g,c2,c3,c4,qs,ls,ts,rfl,hg,nd,so,al|kk];have lm: ~~~(ls\3)= ~~~ls:=Z6 _;refine%[_,%["JDG1H~'A0BDG2}DVU~I~e0L3EW~(i~)~*2As13ATBBA3BEI[]lA]m]n2B",fz.nd|C]|?_]
  show br _ _ _ [!g,none,none,none] H;refine am λD1 k1 _=>?_
  lk;refine%[g,c2,c3,c4,qs,ls,ts,ρ,hg,nd,so,al|λd H1 r s1 fd I C=>k1 _ _ (am λD2 k2 _=>?_)];lk;intro e fe;refine k2 _ _ (am λD3 k3 _=>aC λa1 hK=>?_);have an:d≠e:=λc=>by rw[c,fe]at I;cases I
  have s2:=ah.upd (o:= .dK []) fe;have ge:upd H1 e (.dK []) e∣.dK (gD ([]:Gs Str)):=ae;have I:=s2 _ _ I;have fe:=s1.free fe;have U:=s1.trans s2
  generalize upd H1 e (.dK [])=H2 at s2 ge I U
  lk;have aa:=hg.up U;refine oO aa (.inl rfl) %[g,c2,c3,c4,qs,ls,ts,rfl,aa|λl1 aq=>%[l1,rfl,%[_|SqL.of ae]|hK _ _ ?_]];have s3:=ah.upd (o:= .lst (ls\3)) aq;have J:upd H2 l1 (.lst (ls\3)) l1=_:=ae;have I:=s3 _ _ I;have ge:=s3 _ _ ge;have ab:=U.trans s3
  generalize upd H2 l1 (.lst (ls\3))=H3 at s3 J I ge ab
  have r2:∀z∈ls,r (r z)=r z:=λz L=>by
   have h:=(C z L)
   have h2:=(C _ h.1).2;exact h2.one %[.refl _|λy c=>h.2.2 y (h.2.1.trans c)]
  have ac:∀z∈ls,r z≠z->aO (r z) z=true:=λz L h=>dg ((C z L).2.2 z (.refl _)) h.symm
  obtain⟨M,ar,as,aR,Y,s0⟩:∃M:Hp,M e=none/\M d∣.dK (NmD ls r)/\M l1<*ls\3/\ah H M/\ah M H3:=by
   refine%[λa=>if a=e then none else H3 a,if_pos rfl,?_,?_,λa o h=>?_|λa o h=>?_]
   .exact(if_neg (λc=>an c)).trans I
   .exact(if_neg (λc=>by rw[c,ge]at J;cases J)).trans J
   .exact(if_neg (λc=>by rw[c,fe]at h;cases h)).trans (ab _ _ h)
   .have h:(if a=e then none else H3 a)∣o:=h
    split at h
    .cases h
    .exact h
  refine cZ (λi σ H'=>(∃o3,σ=[!g,!d,!e,o3])/\ah M H'/\∃u,iS V.str M H' e u/\u.map (λg=>(g.1,g.2.2))=grp r (ls.take i))
   %[%[_|rfl],s0,[],%[ge,λg hg=>(nomatch hg)|Yz]|rfl] (λi σ H' h=>h.2.1 _ _ aR) ?_ ?_
  .intro i z σ H' L %[%[o3|rfl],N,u,b|n];have zm:=Z8 L;have i1:i< ~~~ls:=(Xi L).1;show jF _ _ [!g,!d,!e,-z] H';refine aE λD4 k4 _=>?_
   lk;have get:=dF.k (k:=Sum.inr z) (N _ _ as);rw[iR zm]at get;have gk:u\1=(grp r (ls.take i))\1:=by rw[<-n,Yp];rfl
   have ag:(u\1).Nodup:=by rw[gk];exact lA (nd.sublist (List.take_sublist _ _))
   have gl: ~~~u<= ~~~ls:=by
    have:=_T.nodup_sub ag (m:=ls) λy hy=>by rw[gk,i7]at hy;exact Yu hy.1
    rw[Z6]at this;exact this
   have zn:z∉ls.take i:=λhm=>by
    have h:=nd;rw[<-X8 i ls,Yx]at h;exact h.2.2 z hm z (Z8 (i:=0) (by rw[getElem?_drop];exact L)) rfl
   have tk:ls.take (i+1)=ls.take i++[z]:=by rw[X7,L];rfl
   refine%[tyD (b.at_),_,get,#[0]|λp O=>%[Sum.inr (r z),ρ,gD u,?_,?_,λv hv=>?_|λhv=>?_]]
   .rw[aj (λc=>by rw[<-c,b.at_]at O;cases O)];exact b.at_
   .unfold gD;rw[Z6];exact aG ⋯
   .have%[q,B,e1|rfl]:=gU hv;have aU:q.1∈u\1:=Xm %[q,B|rfl];have ai:=aU;rw[gk,i7,e1]at ai;have rn:r z≠z:=λc=>zn (by exact c▸ai.1)
    have sp:=ah.upd (o:= .lst []) O;have hl:=sp _ _ (b.la q B).2;have G:=(b.up sp).add ag B z;have ml: ~~~q.2.2<= ~~~ls:=by
     have:(q.1,q.2.2)∈grp r (ls.take i):=n▸Xm %[q,B|rfl];have%[y,hy|c]:=Xl this;exact((Prod.mk.inj c).2)▸Ye (Yg _ _) (by rw[Yj];lia)
    refine%[tyL (SqL.of hl),_,ρ,_,hl,by rw[Z6];exact aG ⋯|k4 _ _ %[%[_|ρ],ah.set (N.trans sp) (b.la q B).1,_,G|?_]];rw[Gx,n,tk,DN rn,e1]
   .have nk:r z∉u\1:=λh=>by
     have%[q,B|c]:=Xl h;have:=lB B;rw[c,hv]at this;exact this rfl
    have rz:r z=z:=Decidable.byContradiction λc=>nk (by rw[gk,i7];exact%[gT so L (C z zm).1 (ac z zm c)|r2 z zm])
    have de:e≠p:=λq=>by rw[<-q,b.at_]at O;cases O
    rw[rz]at hv nk ⊢;have gp:upd (upd H' p (.lst [])) e (.dK (cE (gD u) (Sum.inr z) (.ref p))) p<*[]:=by rw[aj de.symm,ae]
    refine%[tyL (SqL.of gp),[],gp,(show 0<sizeLine by decide)|k4 _ _ %[%[_|ρ],ah.set (ah.set (N.trans (ah.upd O)) ar) (N.free O),_,b.new N O z z nk|?_]];rw[Zd,n,tk,DM rz zn λx hx=>?_]
    .rfl
    .have%[j|hj]:=List.mem_iff_getElem?.mp hx;have xm:=Yu hx;by_cases c:r x=x
     .rw[c];exact hx
     .have ji:j<i:=by have:=(Xi hj).1;rw[Yj]at this;lia
      rw[List.getElem?_take_of_lt ji]at hj;exact List.take_subset_take_left _ (Yc ji) (gT so hj (C x xm).1 (ac x xm c))
  intro σ H' %[%[o3|rfl],N,u,b|n];rw[Zn (Zi _)]at n;refine k3 _ _ ?_;lk;have gk:u\1=(grp r ls)\1:=by rw[<-n,Yp];rfl
  have gl: ~~~u<= ~~~ls:=by
   have:=_T.nodup_sub (l:=u\1) (gk▸lA nd) (m:=ls) λy hy=>by rw[gk,i7]at hy;exact hy.1
   rw[Z6]at this;exact this
  refine%[tyD (b.at_),%[_|b.at_]|λv fv=>%[e,ae,_,ah.upd fv _ _ b.at_|λl fl=>?_]];have sv:=ah.upd (o:=uE v e) fv;have sl:=ah.upd (o:= .lst ((gD u)\2)) fl;have a0:=N.trans (sv.trans sl);refine kk l _ (u\2) (Y.trans a0) ((Y.trans (N.trans sv)).free fl) ?_ (λs hs=>?_) (λs hs=>?_) %[r,C|?_] (by rw[Z6];lia)
  .rw[ae];unfold gD;rw[Yp,Yp];rfl
  .have%[q,B|rfl]:=Xl hs;exact sl _ _ (sv _ _ (b.la q B).2)
  .have%[q,B|rfl]:=Xl hs;exact Y.free (b.la q B).1
  .rw[<-n,Yp,Yp];rfl
structure cw (S:Str->Str->Prop) (ks0 ks:List _):Prop where
 nd:ks.Nodup
 mem:∀k,k∈ks↔∃a b z a' b',[a,b,z]∈ks0/\cz S a a'/\cz S b b'/\k=[a',b',z]
def cw.mm{S:Str->Str->Prop}{a ks ms:List ZC}(h:cw S a ks)(g:cw S a ms)(k:ZC):k∈ks↔k∈ms:=(h.mem k).trans (g.mem k).symm
def x5{ks ms:List ZC}(e:∀k,k∈ks↔k∈ms):Ed ks=Ed ms:=by
 funext a b;simp only[Ed,e]
def oP{ks ms:List ZC}(e:∀k,k∈ks↔k∈ms):Dst ks=Dst ms:=by
 funext a n b;simp only[Dst,e]
def oQ{ks ms:List ZC}(e:∀k,k∈ks↔k∈ms):Rch ks=Rch ms:=by
 funext a b;have q:∀{ks},Rch ks a b↔∃n,Dst ks a (n+1) b:=%[Rch.dst|λ⟨_,h⟩=>h.rch]
 rw[propext q,propext q,oP e]
abbrev dc(r:Str->Str):ZC->ZC
 |[a,b,z]=>[r a,r b,z]
 | k=>k
def oR{S:Str->Str->Prop}{c:List ZC}{ls:ZC}{r:Str->Str}(l:∀k∈c,cP ls k)(f:∀z∈ls,cz S z (r z))(k:ZC):k∈c.map (dc r)↔∃a b z g h,[a,b,z]∈c/\cz S a g/\cz S b h/\k=[g,h,z]:=by
 rw[mem_map]
 constructor
 .rintro⟨t,d,rfl⟩;have%[a,b,z,rfl,i|j]:=l t d;exact%[a,b,z,r a,r b,d,f a i,f b j|ρ]
 .rintro⟨a,b,z,g,h,d,m,n,rfl⟩;have%[x,y,u,e,i|j]:=l _ d;simp only[List.cons.injEq,and_true]at e;have%[rfl,rfl|rfl]:=e;exact%[_,d|by rw[<-(f a i).one m,<-(f b j).one n];rfl]
inductive vf (mg:ZD)
 | mk (g c2 c3 c4:Addr) (qs:ZO) (ls:ZC) (ts:ZH):vs=[.ref g]->GrF mg H g c2 c3 c4 qs ls ts->ls.Nodup->ls.Pairwise (λa b=>aO b a=false)-> ~~~ls<=5000-> ~~~ts<=150->(∀k∈ts\2,cP ls k)->(∀l H' ss,ah H H'->H l=none->H' l∣.lst (ss\0)->aK H' ss->cw (bR qs) (ts\2) (ss\2)-> ~~~ss<=150->Q (.ref l) H')->vf mg vs H Q E0
def x6(T:Txt K mg):↥4 "links" ["ground"] (vf mg):=by
 .exists T.aG,uS,aR,n,%[g,O,U,Y,qs,ls,ts,rfl,hg,nd,so,aa,aU,h3|kk];refine%[_,%["JD'1efH~'A0BEI*~wA:~xAjb?1U~I]o0lOX0?2OX1?2OX2?2mpuAsM30AsM31A2BBB",uS.nd,↑(["later","earlier","source","names"],[(3,1)]),↑["later","earlier","source","names"]|n]|?_]
  show br _ _ _ [!g,none] H;refine am λD1 k1 _=>?_
  lk;refine%[g,O,U,Y,qs,ls,ts,ρ,hg,nd,so,aa|λd H1 r s1 fd hd n=>k1 _ _ ?_];lk;refine aF λas hK=>?_
  lk;have u:=hg.up s1;refine oO u (.inr (.inr rfl)) %[g,O,U,Y,qs,ls,ts,rfl,u|λJ ab=>%[J,rfl,%[_|SqL.of ae]|hK _ _ λF hF=>?_]];have L:=ah.upd (o:= .lst (ts\0)) ab;have v:upd H1 J (.lst (ts\0)) J=_:=ae
  generalize upd H1 J (.lst (ts\0))=H2 at L v hF
  have ac:=L _ _ hd;have ag:=(u.up L).tu;refine cH (λj vs σ M=>(∃o1 o2 o3,σ=[o1,o2,o3,!d])/\ah H2 M/\M F<*vs/\∃ps:ZH,vs=ps\0/\aK M ps/\ps\2=((ts.take j)\2).map (dc r))
   %[%[none,none,none|rfl],ah.upd hF,ae,[],rfl,iP _|rfl] (λ_ _ _ M ai=>ai.2.1 _ _ v) ?_ ?_
  .intro j vs σ H4 hj %[%[o1,o2,o3|rfl],B,C,ps,N,i|c];have tj:=Ya hj;have%[a,b,z,e,ha|hb]:=h3 _ (Xm %[_,tj|rfl]);have st:=B _ _ (ag _ tj).2;rw[e]at st;have get:∀y∈ls,dF H4 d (.str y) (some (.str (r y))):=λy hy=>by
    have:=dF.k (k:=Sum.inr y) (B _ _ ac);rw[iR hy]at this;exact this
   refine%[_,SqT.of st,ρ,_,_,ρ,_,_,ρ,_,_,ρ,ρ|?_];show At [-a,-b,-z,!d] _ _;lk;refine%[_,get a ha,_,get b hb,#[3]|λp hp=>?_];have sp:=ah.upd (o:= .tup [V.str (r a),V.str (r b),V.str z]) hp;have gp:upd H4 p (.tup [V.str (r a),V.str (r b),V.str z]) p=_:=ae
   generalize upd H4 p (.tup [V.str (r a),V.str (r b),V.str z])=H5 at sp gp ⊢
   have keep:=i4 (ys:=vs++[V.ref p]) (sp _ _ C);have pl:=congrArg List.length c;rw[Z6,Z6,Z6,Yj]at pl;refine CK.mk hj (sp _ _ C) (by rw[N,Z6];exact aG ⋯) %[%[_,_,_|rfl],ah.set (B.trans sp) hF,ae,ps++[(p,[r a,r b,z])],by rw[N,Zd];rfl,aY (iZ (aY i λb z e=>sp _ _ e) ∅ gp) keep|?_];rw[Zd,c,X7,Z4 hj,Zd,Zd];show _++[_]=_++[dc r ts[j].2];rw[e];rfl
  intro vs σ H3 %[_,B,al,ps,N,i|c];rw[Zn (Zi _)]at c;have pl:=congrArg List.length c;rw[Z6,Z6,Z6]at pl;have p3:∀q∈ps,~~~q.2=3:=λq l=>by
   have:q.2∈ps\2:=Xm %[q,l|rfl];rw[c]at this;have%[k,hk|e]:=Xl this;have%[a,b,z,rfl|_]:=h3 k hk;rw[<-e];rfl
  refine%[F,ρ,ps,by rw[<-N];exact SqL.of al,i,%[ps\2,by rw[Z6];lia|λq l=>Xm %[q,l|ρ]]|λl5 an=>?_];have s5:=ah.upd (o:=nR P w l5 (bj ps)) an;have aq: ~~~(bj ps)<=150:=by
   have:=_T.nodup_sub (dO ps) (m:=ps\2) λk hk=>by
    have%[q,l|rfl]:=Xl hk;exact Xm %[q,bx ps q l|rfl]
   rw[Z6,Z6]at this
   lia
  refine%[bj ps,ae,λq l=>%[(i q (bx ps q l)).1|s5 _ _ (i q (bx ps q l)).2],3,λq l=>p3 q (bx ps q l),!1,⋯|λl6 ss G pm=>?_];have s6:=ah.upd (o:= .lst (ss\0)) G;have I:=s1.trans (L.trans (B.trans s5));have pk:(ss\2).Perm ((bj ps)\2):=pm.map _;refine kk l6 _ ss (I.trans s6) (I.free G) ae (λq l=>?_) %[pk.nodup_iff.mpr (dO ps)|λk=>?_] (by rw[pm.length_eq];exact aq)
  .have ar:=pm.mem_iff.mp l;have:=i q (bx ps q ar);exact%[this.1|s6 _ _ (s5 _ _ this.2)]
  .rw[pk.mem_iff,gJ,c];exact oR h3 (λz hz=>(n z hz).2) k
def B6{S:Str->Str->Prop}(c:ls.Pairwise (λa b=>aO b a=false))(h:∀z∈ls,r z∈ls/\cz S z (r z))(f:p∈grp r ls):p.2[0]?∣p.1:=by
 unfold grp at f;have%[z,i|rfl]:=Xl f;have%[j|l]:=List.mem_filter.mp i;have d:z∈ls.filter (λx=>decide (r x=z)):=List.mem_filter.mpr %[j|l];have c:=c.sublist (List.filter_sublist (p:=λx=>decide (r x=z)));have all:∀x∈ls.filter (λx=>decide (r x=z)),aO x z=false:=λx m=>by
  have%[n|o]:=List.mem_filter.mp m;rw[<-Zo o];exact(h x n).2.2 x (.refl _)
 show(ls.filter λx=>decide (r x=z))[0]?∣z
 generalize ls.filter (λx=>decide (r x=z))=g at all d c
 cases g with
 | nil=>cases d
 | cons y g=>
   rw[List.getElem?_cons_zero];rcases mem_cons.mp d with e|e
   .rw[e]
   .have a:=(List.pairwise_cons.mp c).1 z e;by_cases q:y=z
    .rw[q]
    .have:=dg (all y Zm) q;rw[a]at this;cases this
structure B7 (S:Str->Str->Prop) (ls ns:ZC):Prop where
 nd:ns.Nodup
 mem:∀x,x∈ns↔x∈ls/\cz S x x
 so:ns.Pairwise (λa b=>aO b a=false)
 ne:ls≠[]->ns≠[]
def Gz{S:Str->Str->Prop}{ls:ZC}{r:Str->Str}(b:∀z∈ls,r z∈ls/\cz S z (r z))(h:ls≠[]):(grp r ls)\1≠[]:=by
 have%[z|e]:=List.exists_mem_of_ne_nil _ h;have%[c|a]:=b z e;have f:cz S (r z) (r z):=%[a.1.symm.trans a.1|λy d=>a.2 y (a.1.trans d)]
 exact List.ne_nil_of_mem (i7.mpr %[c|(b _ c).2.one f])
def GA{r:Str->Str}{xs:ZC}(h:xs.Pairwise (λa b=>aO b a=false)):((grp r xs)\1).Pairwise (λa b=>aO b a=false):=by
 unfold grp;rw[Yp];show List.Pairwise _ (List.map (λz=>z) _);rw[List.map_id'];exact h.filter _
inductive rg (mg:ZD)
 | mk (g c2 c3 c4 qs ls ts):vs=[.ref g]->GrF mg H g c2 c3 c4 qs ls ts->ls.Nodup->ls.Pairwise (λa b=>aO b a=false)-> ~~~ls<=5000->(∀l H' ns,ah H H'->H l=none->H' l<*ns\3->B7 (bR qs) ls ns->Q (.ref l) H')->rg mg vs H Q E0
def c8(T:Txt K mg):↥5 "deposit_names" ["ground"] (rg mg):=by
 .exists T.aF,kY,M,a,%[g,v,y,B,qs,ls,ts,rfl,N,nd,e,i|O];refine%[_,%["JEIjb?1UH]pA0BX0?2pR0C",0,↑(["group"],[]),↑["group"]|a]|?_];show jG _ _ [!g] H;lk;refine aF λC U=>?_
  lk;refine%[g,v,y,B,qs,ls,ts,ρ,N,nd,e,i|λY H1 ss G f1 I la _ ⟨r,a,J⟩ aa=>%[Y,ρ,%[_|SqL.of I]|U _ _ λF l=>?_]];have sg: ~~~ss= ~~~(grp r ls):=by
   have:=congrArg List.length J;rwa[Z6,Z6]at this
  refine cH (λj vs m n=>(∃L,m=[L])/\ah H1 n/\n F<*vs/\vs=(((grp r ls).take j)\1)\3)
   %[%[none|rfl],ah.upd l,ae|rfl] (λ_ _ _ n o=>o.2.1 _ _ I) ?_ ?_
  .intro j vs m H4 p %[%[L|rfl],d,q|b];have u:j< ~~~(grp r ls):=by lia
   have e2:ss[j].2=(grp r ls)[j].2:=by
    have:=congrArg (λz=>z[j]?) J;simpa [p,u]using this
   lk;refine%[_,SqL.of (d _ _ (la _ (Ya p))),_,(show atI (ss[j].2\3) ((0:Nat):Int)∣_ from cg (by rw[Zl,e2,(B6 e a (Ya u))];rfl))|?_];refine CK.mk p q (by rw[b,Z6,Z6,Yj];exact aG ⋯) %[%[_|rfl],ah.set d l,ae|?_];rw[b,X7,Z4 u,Zd,Zd];rfl
  intro vs m H3 %[_,d,c|b];rw[Zn ⋯]at b;rw[b]at c;refine O F H3 _ (G.trans d) (G.free l) c %[lA nd,λx=>?_,GA e|Gz a];rw[i7];refine%[λh=>%[h.1|by have:=(a x h.1).2;rwa[h.2]at this]|λh=>%[h.1|(a x h.1).2.one h.2]]
abbrev GrB(H:Hp)(d:Addr)(ss:ZH)(i:Nat):Prop:=∃a,H d∣.dK a/\∀n,(∃l,cD a (Sum.inr n)∣.ref l/\H l∣.lst ((ss.filter λt=>decide (t.2[i]? =some n))\0))\/(cD a (Sum.inr n)=none/\∀t∈ss,t.2[i]? ≠some n)
def GrB.up(h:GrB H d ss i)(s:ah H e):GrB e d ss i:=by
 have%[c,f|g]:=h;exact%[c,s _ _ f|λn=>(g n).imp_left λ⟨l,a,b⟩=>%[l,a|s _ _ b]]
abbrev cY(H:Hp)(a:ZC)(ss:ZH):Prop:=∀t∈ss,H t.1&&&t.2\3/\cP a t.2
def cY.up(h:cY H b ss)(s:ah H c):cY c b ss:=λt a=>%[s _ _ (h t a).1|(h t a).2]
def GB(h:cP c k)(hi:i<2):∃n,k[i]?∣n/\n∈c:=by
 have%[a,b,z,rfl,d|e]:=h
 match i,hi with
 | 0,_=>exact%[a,ρ|d]
 | 1,_=>exact%[b,ρ|e]
inductive oS
 | mk (l:Addr) (i:Nat) (ns:ZC) (ss:List _):vs=[.ref l,.int i]->i<2->H l∣.lst (ss\0)->cY H ns ss-> ~~~ss<=150->(∀d H',ah H H'->H d=none->GrB H' d ss i->Q (.ref d) H')->oS vs H Q E0
inductive B8 (i:Nat)
 | mk (l ns ss):vs=[.ref l]->H l∣.lst (ss\0)->cY H ns ss-> ~~~ss<=150->(∀d H',ah H H'->H d=none->GrB H' d ss i->Q (.ref d) H')->B8 i vs H Q E0
def rh(T:Txt K mg):↥1 "grouped" ["found","side"] oS:=by
 .exists T.aJ,jA,ag,hr,%[l,i,ns,ss,rfl,hi,Y,aa,ai|kk];have al: ~~~(ss\0)= ~~~ss:=Z6 _;refine%[_,%["JDG2}DVU0L3EW~(i~)~*2AP31ATBBA3BEI2"|jA.nd]|?_]
  show br _ _ _ [!l,some (.int i),none,none] H;refine am λD1 k1 _=>?_
  lk;intro e fe;refine k1 _ _ (am λD2 k2 _=>aC λac hK=>?_);lk;have se:=ah.upd (o:= .dK []) fe;refine%[%[_|SqL.of (se _ _ Y)]|hK _ _ ?_];refine cZ (λj σ u=>(∃o3,σ=[!l,some (.int i),!e,o3])/\ah H u/\∃m,iS (λt:Addr×ZC=>V.ref t.1) H u e m/\(m\1).Nodup/\(∀g∈m,g.2.2=(ss.take j).filter λt=>decide (t.2[i]?∣g.1))/\∀n,n∈m\1↔∃t∈ss.take j,t.2[i]?∣n)
   %[%[_|rfl],se,[],%[ae,λg B=>(nomatch B)|Yz],Yz,λg B=>(nomatch B)|by simp] (λj σ u h=>h.2.1 _ _ Y) ?_ ?_
  .intro j t σ u I %[%[o3|rfl],J,m,d,gn,L|O];have tm:=Z8 I;have j1:j< ~~~ss:=(Xi I).1;have%[n,M|_]:=GB (aa t tm).2 hi;have tk:ss.take (j+1)=ss.take j++[t]:=by rw[X7,I];rfl
   show jF _ _ [!l,some (.int i),!e,some (.ref t.1)] u;refine aE λD4 k4 _=>?_
   lk;have gl: ~~~m<= ~~~ss:=by
    have:m\1 ⊆ ss.filterMap λt=>t.2[i]? :=λy hy=>by
     have%[t,I|e]:=(O y).mp hy;exact mem_filterMap.mpr %[t,Yu I|e]
    have:=_T.nodup_sub gn λx hx=>this hx
    rw[Z6]at this;exact Ye this (List.length_filterMap_le _ _)
   have st:=J _ _ (aa t tm).1;have C:∀(N:Gs (Addr×ZC)),(∀y,y∈N\1↔y∈m\1\/y=n)->∀y,y∈N\1↔∃t∈ss.take (j+1),t.2[i]?∣y:=λN h y=>by
    rw[h,O,tk]
    constructor
    .rintro(⟨t',h1,h2⟩|rfl)
     .exact%[t',Yr _ h1|h2]
     .exact%[t,Ys _ Zm|M]
    .rintro⟨t',h1,h2⟩;rcases Xj h1 with q|q
     .exact .inl %[t',q|h2]
     .rw[Xk q,M]at h2;exact .inr (Za h2).symm
   refine%[tyD (d.at_),_,SqT.of st,_,cg (show(t.2\3)[i]?∣.str n by rw[Zl,M];rfl),#[0]|λp G=>%[Sum.inr n,ρ,gD m,?_,?_,λv U=>?_|λU=>?_]]
   .rw[aj (λc=>by rw[<-c,d.at_]at G;cases G)];exact d.at_
   .unfold gD;rw[Z6];exact aG ⋯
   .have%[q,r,e1|rfl]:=gU U;have sp:=ah.upd (o:= .lst []) G;have Y:=sp _ _ (d.la q r).2;have ml: ~~~q.2.2<= ~~~ss:=by
     rw[L q r];exact Ye (Yg _ _) (by rw[Yj];lia)
    have ka:(pS q.1 t m)\1=m\1:=by
     unfold pS;rw[Yp];refine Yn λg _=>?_
     show(if g.1=q.1 then(g.1,g.2.1,g.2.2++[t])else g).1=_
     split<;> rfl
    refine%[tyL (SqL.of Y),_,ρ,_,Y,by rw[Z6];exact aG ⋯|k4 _ _ %[%[_|ρ],ah.set (J.trans sp) (d.la q r).1,_,((d.up sp).add gn r t),ka▸gn,λg B=>?_|C _ λy=>?_]]
    .unfold pS at B;have%[g0,h0|rfl]:=Xl B;rw[tk,Y2];by_cases c:g0.1=q.1
     .rw[if_pos c];show g0.2.2++[t]=_++List.filter (λt=>decide (t.2[i]?∣g0.1)) [t];rw[L g0 h0,Y4 (by rw[M,c,e1];simp),Y6]
     .rw[if_neg c,L g0 h0,Y3 (by rw[M,<-e1];simpa using λz=>c z.symm),Y6,Zx]
    .rw[ka];exact%[.inl|λh=>h.elim id λh=>by rw[h,<-e1];exact Xm %[q,r|ρ]]
   .have nk:n∉m\1:=λh=>by
     have%[q,r|c]:=Xl h;have:=lB r;rw[c,U]at this;exact this rfl
    have de:e≠p:=λq=>by rw[<-q,d.at_]at G;cases G
    have gp:upd (upd u p (.lst [])) e (.dK (cE (gD m) (Sum.inr n) (.ref p))) p<*[]:=by rw[aj de.symm,ae]
    refine%[tyL (SqL.of gp),[],gp,(show 0<sizeLine by decide)|k4 _ _ %[%[_|ρ],ah.set (ah.set (J.trans (ah.upd G)) fe) (J.free G),_,d.new J G n t nk,?_,λg B=>?_|C _ λy=>?_]]
    .rw[Zd,Yx];exact%[gn,by simp|λa ha b hb c=>nk (by rw[<-show b=n from Xk hb,<-c];exact ha)]
    .rw[tk,Y2];rcases Xj B with q|q
     .have c:g.1≠n:=λc=>nk (c▸Xm %[g,q|rfl])
      rw[L g q,Y3 (by rw[M];simpa using λz=>c z.symm),Y6,Zx]
     .rw[Xk q];show [t]=_++List.filter (λt=>decide (t.2[i]?∣n)) [t];rw[Y4 (by rw[M];simp),Y6,List.filter_eq_nil_iff.mpr λt' ab c=>nk ((O n).mpr %[t',ab|Zo c])];rfl
    .rw[Zd,Yq,Yo,map_nil,Yv]
  .intro σ u %[%[o3|rfl],J,m,d,gn,L|O];rw[Zn (Zi _)]at L O;refine k2 _ _ ?_;lk;refine kk e u J fe %[_,d.at_|λn=>?_];cases U:cD (gD m) (Sum.inr n)with
   | none=>
     refine .inr %[rfl|λt I c=>?_];have%[q,r|c]:=Xl ((O n).mpr %[t,I|c]);have:=lB r;rw[c,U]at this;exact this rfl
   | some v=>
     have%[q,r,e1|rfl]:=gU U;refine .inl %[_,rfl|?_];rw[(d.la q r).2,L q r,e1]
def gh(T:Txt K mg):↥2 "links_by_later" ["found"] (B8 0):=by
 .exists T.aH,jX,d,e,%[l,c,ss,rfl,g,a,b|i];exact%[_,%["JEIH~+A0A>B",0|e],l,0,c,ss,ρ,by simp,g,a,b|i]
def jC(T:Txt K mg):↥2 "links_by_earlier" ["found"] (B8 1):=by
 .exists T.aI,i9,d,e,%[l,c,ss,rfl,g,a,b|i];exact%[_,%["JEIH~+A0A~PB",0|e],l,1,c,ss,ρ,by simp,g,a,b|i]
structure ReB (ss:ZH) (rs:Gs Str):Prop where
 nd:(rs\1).Nodup
 sub:∀r∈rs,r.2∈ss/\r.2.2[1]?∣r.1
def ReB.len(h:ReB ss a): ~~~a<= ~~~ss:=by
 have:=_T.nodup_sub h.nd (m:=ss.filterMap λt=>t.2[1]?) λx b=>by
  have%[r,c|rfl]:=Xl b;exact mem_filterMap.mpr %[r.2|h.sub r c]
 rw[Z6]at this;exact Ye this (List.length_filterMap_le _ _)
def ReB.snoc(h:ReB ss d)(e:(a,[p,y,z])∈ss)(f:y∉d\1):ReB ss (d++[(y,a,[p,y,z])]):=by
 refine%[?_|λr g=>?_]
 .rw[Zd,Yx];exact%[h.nd,by simp|λa i b j c=>f (by rw[<-show b=y from Xk j,<-c];exact i)]
 .rcases Xj g with q|q
  .exact h.sub r q
  .rw[Xk q];exact%[e|ρ]
abbrev eA(d:Addr)(H a:Hp):Prop:=∀b o,b≠d->H b∣o->a b∣o
def eA.trans(h:eA d H c)(g:eA d c a):eA d H a:=λb o n e=>g b o n (h b o n e)
def eA.of(h:ah H a):eA d H a:=λb o _ e=>h b o e
def GrB.x(h:GrB H b ss i)(s:eA d H f)(n:b≠d)(m:H d∣.dK o):GrB f b ss i:=by
 have%[e,g|j]:=h;exact%[e,s _ _ n g|λn=>(j n).imp_left λ⟨l,a,b⟩=>%[l,a|s _ _ (λc=>by lia) b]]
def cY.x(h:cY H e ss)(s:eA d H f)(g:H d∣.dK i):cY f e ss:=λt a=>%[s _ _ (λc=>by have b:=(h t a).1;grind) (h t a).1|(h t a).2]
def GrB.get(h:GrB f b ss i)(s:eA d f H)(nb:b≠d)(q:∀xs,f d≠some (.lst xs))(r:H p=none)(n:Str):∃e a,upd H p (.lst []) b∣.dK e/\(cD e (Sum.inr n)).getD (.ref p)= .ref a/\upd H p (.lst []) a∣.lst ((ss.filter λt=>decide (t.2[i]? =some n))\0)/\(a=p\/∃o,f a∣o):=by
 have%[e,m|u]:=h;have sp:=ah.upd (o:= .lst []) r;rcases u n with⟨l,g,j⟩|⟨g,v⟩
 .exact%[e,l,sp _ _ (s _ _ nb m),by rw[g];rfl,sp _ _ (s _ _ (λc=>q _ (c▸j)) j)|.inr %[_|j]]
 .refine%[e,p,sp _ _ (s _ _ nb m),by rw[g];rfl,?_|.inl rfl];rw[List.filter_eq_nil_iff.mpr λt y c=>v t y (Zo c)];exact ae
inductive x8
 | mk (b e d:Addr) (ns F:ZC) (ss:List _) (rs:Gs Str):vs=[.ref b,.ref e,.ref d]->b≠d->GrB H b ss 0->cY H ns ss-> ~~~ss<=150->H e<*F\3->H d∣.dK (gD rs)->ReB ss rs->(∀g H' new,eA d H H'->H g=none->H' g<*(new\1)\3->H' d∣.dK (gD (rs++new))->ReB ss (rs++new)->(∀r∈new,∃p∈F,r.2.2[0]?∣p)->(∀x∈F,∀y,Ed (ss\2) x y->y∈(rs++new)\1)->Q (.ref g) H')->x8 vs H Q E0
def vg(T:Txt K mg):↥1 "next_edge" ["beneath","edge","reached"] x8:=by
 .exists T.aN,eD,a7,hr,%[b,e,d,ns,F,ss,B,rfl,ai,hb,al,bb,he,hd,a1|kk];have Fm: ~~~(F\3)= ~~~F:=Z6 _;have ed:e≠d:=λc=>by rw[c,hd]at he;cases he
  refine%[_,%["JDG3TBDVU1L4EVU~f~g0A4ATBBL5EN~QP5~P2D,52P5~PEWni3AP5~PBQEI3",eD.nd|hr]|?_]
  show br _ _ _ [!b,!e,!d,none,none,none] H;refine am λD1 k1 _=>?_
  lk;refine%[#[0]|λg fg=>k1 _ _ (am λD2 k2 _=>aC λan hK=>?_)];have gd:g≠d:=λc=>by rw[c,hd]at fg;cases fg
  have s1:=ah.upd (o:= .lst []) fg;have gg:upd H g (.lst []) g<*(([]:Gs Str)\1)\3:=ae
  generalize upd H g (.lst [])=H1 at s1 gg
  lk;refine%[%[_|SqL.of (s1 _ _ he)]|hK _ _ ?_];refine cZ (λi Y H'=>(∃o4 o5,Y=[!b,!e,!d,!g,o4,o5])/\eA d H H'/\∃new:Gs Str,H' g<*(new\1)\3/\H' d∣.dK (gD (B++new))/\ReB ss (B++new)/\(∀r∈new,∃p∈F,r.2.2[0]?∣p)/\∀x∈F.take i,∀y,Ed (ss\2) x y->y∈(B++new)\1)
   %[%[_,_|rfl],eA.of s1,[],gg,by rw[Zx];exact s1 _ _ hd,by rw[Zx];exact a1,λr hr=>(nomatch hr)|λx hx=>(nomatch hx)] (λi Y H' h=>h.2.1 _ _ ed he) ?_ ?_
  .intro i n Y H' hn %[%[o4,o5|rfl],sm,new,hg,l,L,ac|m];have tk:F.take (i+1)=F.take i++[n]:=by rw[X7,hn];rfl
   show vF _ _ _ _ [!b,!e,!d,!g,-n,o5] H';refine aE λD3 k3 _=>aC λan hK=>?_
   lk;refine%[tyD (sm _ _ ai hb.choose_spec.1),#[0]|λp hp=>?_];have%[a2,a,aq,a3,M|a4]:=hb.get sm ai (λxs c=>by rw[hd]at c;cases c) hp n;have ag:a≠g:=by
    rcases a4 with rfl|⟨o,ho⟩
    .exact λc=>by rw[c,hg]at hp;cases hp
    .exact λc=>by rw[c,fg]at ho;cases ho
   have ad:a≠d:=λc=>by
    have:=M;rw[c,aj (λc=>by rw[c,hp]at l;cases l),l]at this;cases this
   have sp:=ah.upd (o:= .lst []) hp;have hg:=sp _ _ hg;have l:=sp _ _ l;have sm:=sm.trans (eA.of sp)
   generalize upd H' p (.lst [])=H2 at aq M sp hg l sm ⊢
   generalize ar:(ss.filter λt=>decide (t.2[0]?∣n))=ts at M
   have tm: ~~~(ts\0)= ~~~ts:=Z6 _;have a5:∀t∈ts,t∈ss/\∃y z,t.2=[n,y,z]:=λt ht=>by
    rw[<-ar]at ht;have%[h1|h2]:=List.mem_filter.mp ht;have%[x,y,z,e|_]:=(al t h1).2;have h2:=Zo h2;rw[e]at h2;exact%[h1,y,z|by rw[e,show x=n from Za h2]]
   refine%[Sum.inr n,ρ,a2,aq,a,a3,%[_|SqL.of M]|hK _ _ ?_];refine cZ (λj Y U=>(∃o5,Y=[!b,!e,!d,!g,-n,o5])/\eA d H U/\U a∣.lst (ts\0)/\∃new:Gs Str,U g<*(new\1)\3/\U d∣.dK (gD (B++new))/\ReB ss (B++new)/\(∀r∈new,∃p∈F,r.2.2[0]?∣p)/\(∀x∈F.take i,∀y,Ed (ss\2) x y->y∈(B++new)\1)/\∀t∈ts.take j,∀y,t.2[1]?∣y->y∈(B++new)\1)
    %[%[_|rfl],sm,M,new,hg,l,L,ac,m|λt ht=>(nomatch ht)] (λj Y U h=>h.2.2.1) ?_ ?_
   .intro j t Y U ht %[%[o5|rfl],N,O,new,aa,I,C,G,u|ab];have%[as,y,z|et]:=a5 t (Z8 ht);have J:=(al.x N hd t as).1;rw[et]at J;have a6:ts.take (j+1)=ts.take j++[t]:=by rw[X7,ht];rfl
    show jH _ _ _ _ [!b,!e,!d,!g,-n,some (.ref t.1)] U;refine aE λD4 k4 _=>?_
    lk;refine%[_,SqT.of J,_,ρ,_,dF.k (k:=Sum.inr y) I|?_];have aR:∀(nw:Gs Str),(∀x∈(B++new)\1,x∈(B++nw)\1)->y∈(B++nw)\1->(∀x∈F.take i,∀y,Ed (ss\2) x y->y∈(B++nw)\1)/\∀t∈ts.take (j+1),∀y,t.2[1]?∣y->y∈(B++nw)\1:=λnw mono hy=>by
     refine%[λx hx y h=>mono y (u x hx y h)|λt' aU y' h=>?_];rw[a6]at aU;rcases Xj aU with q|q
     .exact mono y' (ab t' q y' h)
     .rw[Xk q,et]at h;rw[<-show y=y' from Za h];exact hy
    cases hv:cD (gD (B++new)) (Sum.inr y)with
    | some v=>
      rw[if_neg ∅];have%[q,hq,e1|_]:=gU hv;have%[n1|n2]:=aR new (λ_ h=>h) (by rw[<-e1];exact Xm %[q,hq|rfl]);exact k4 _ _ %[%[_|rfl],N,O,new,aa,I,C,G,n1|n2]
    | none=>
      rw[if_pos (by rfl)];have hy:y∉(B++new)\1:=λh=>by
       have%[q,hq|c]:=Xl h;have:=lB hq;rw[c,hv]at this;exact this rfl
      have ln:=C.len;have nl: ~~~new<=150:=by rw[Z9]at ln;lia
      refine%[_,SqT.of J,_,ρ,_,ir.k (k:=Sum.inr y) I (by unfold gD;rw[Z6];exact aG ⋯)|?_];rw[mV _ hv];have e1:gD (B++new) ++[(Sum.inr y,V.ref t.1)]=gD (B++(new++[(y,t.1,[n,y,z])])):=by
       unfold gD;rw[<-Ze,Zd (l₂:=[_])];rfl
      rw[e1];have u1:∀c o,c≠d->U c∣o->upd U d (.dK (gD (B++(new++[(y,t.1,[n,y,z])])))) c∣o:=λc o h e=>(aj h)▸e
      have a0:=u1 _ _ gd aa;have R:=C.snoc (p:=n) (y:=y) (z:=z) (a:=t.1) (et▸as) hy;rw[Ze]at R;have%[n1|n2]:=aR (new++[(y,t.1,[n,y,z])]) (λx hx=>by rw[<-Ze,Zd];exact Yr _ hx) (by rw[<-Ze,Zd];exact Ys _ Zm);refine%[tyL (SqL.of a0),_,SqT.of (u1 _ _ (λc=>by rw[c,I]at J;cases J) J),_,ρ,_,a0,by rw[Z6,Z6];exact aG ⋯|k4 _ _ %[%[_|ρ],λc o h e=>?_,(aj ag).trans (u1 _ _ ad O),_,?_,(aj gd.symm).trans ae,R,?_,n1|n2]]
      .rw[aj (ax e fg)];exact u1 _ _ h (N _ _ h e)
      .rw[ae,Zd,Zd];rfl
      .intro r hr;rcases Xj hr with q|q
       .exact G r q
       .rw[Xk q];exact%[n,Z8 hn|ρ]
   .intro Y U %[%[o5|rfl],N,O,new,aa,I,C,G,u|ab];rw[Zn (Zi _)]at ab;refine k3 _ _ %[%[_,_|rfl],N,new,aa,I,C,G|λx hx y ⟨z,hy⟩=>?_];rw[tk]at hx;rcases Xj hx with q|q
    .exact u x q y %[z|hy]
    .rw[Xk q]at hy;have%[t,ht|et]:=Xl hy;exact ab t (ar▸List.mem_filter.mpr %[ht|by rw[et];simp]) y (by rw[et];rfl)
  .intro Y H' %[%[o4,o5|rfl],sm,new,hg,l,L,ac|m];rw[Zn (Zi _)]at m;refine k2 _ _ ?_;lk;exact kk g H' new sm fg hg l L ac m
def rj{b:Bool}(h: ¬ (not b)=true):b=true:=by
 cases b
 .exact absurd rfl h
 .rfl
def w6{a:Gs Str}{y:Str}(h:y∈a\1):∃r∈a,r.1=y/\cD (gD a) (Sum.inr y)∣.ref r.2.1:=by
 cases d:cD (gD a) _ with
 | none=>
   have%[q,b|c]:=Xl h;have:=lB b;rw[c,d]at this;exact(this rfl).elim
 | some v=>
   have%[q,b,e|rfl]:=gU d;exact%[q,b,e|ρ]
inductive B9
 | mk (d st goal ns F ss rs dd k):vs=[.ref d,.str st,.str goal]->H d∣.dK (gD rs)->ReB ss rs->Lev (ss\2) st rs dd k F->k<=200->cY H ns ss->goal∈rs\1->(∀l H' (ws:List _),ah H H'->H l=none->H' l∣.lst (ws\0)->(∀t∈ws,t∈ss)->Wal (ws\2) st goal-> ~~~ws=dd goal->Q (.ref l) H')->B9 vs H Q E0
def Ca(T:Txt K mg):↥1 "way_to" ["reached","start","goal"] B9:=by
 .exists T.aO,qM,aa,j,%[d,st,a,ns,F,ss,C,i,k,rfl,hd,G,l,hk,I,n|kk];refine%[_,%["JDG3TAs02BD~AKvPR3.C>1EWni3As0PR3.C>BEI]q3",qM.nd|j]|?_]
  show br _ _ _ [!d,-st,-a,none] H;refine am λD1 k1 _=>?_
  lk;have%[r,J,e1|hv]:=w6 n;have get:=dF.k (k:=Sum.inr a) hd;rw[hv]at get;refine%[_,get,#[1]|λb fw=>k1 _ _ (am λD2 k2 _=>?_)];have s1:=ah.upd (o:= .lst [V.ref r.2.1]) fw;have gw:upd H b (.lst [V.ref r.2.1]) b∣.lst (([]:ZH).reverse\0 ++[V.ref r.2.1]):=ae
  generalize upd H b (.lst [V.ref r.2.1])=H1 at s1 gw
  refine⟨λm σ u=>σ=[!d,-st,-a,!b]/\ah H u/\∃(us:ZH) (r:Str×Addr×ZC),r∈C/\m=i r.1/\u b∣.lst (us.reverse\0 ++[.ref r.2.1])/\(∀t∈us,t∈ss)/\Wal (us\2) r.1 a/\ ~~~us+m=i a,%[_,rfl,s1,[],r,J,rfl,gw,λt h=>(nomatch h),e1|by rw[e1];simp],?_⟩;intro m σ H2 %[rfl,v,us,r,j,rfl,hw,y,B|hl];have%[ab,p,z,L|hp]:=l.by_ r j;have e:=(G.sub r j).1;have g:=v _ _ (I _ e).1;rw[L]at g;have gl:=l.le a n;lk;refine%[_,SqL.of hw,_,mT _ _,_,ρ,_,SqT.of g,_,ρ,ρ|bA (λh=>?_) λh=>?_]
  .have h:p≠st:=↑h
   have%[_,M|ac]:=hp.resolve_left λc=>h c.1
   have%[r',N,O|U]:=w6 M;have get:=dF.k (k:=Sum.inr p) (v _ _ hd);rw[U]at get;refine⟨λY u=>∃m',m'<i r.1/\Y=[!d,-st,-a,!b]/\ah H u/\∃(us:ZH) (r:Str×Addr×ZC),r∈C/\m'=i r.1/\u b∣_/\(∀t∈us,t∈ss)/\Wal (us\2) r.1 a/\ ~~~us+m'=i a,λ_ _ h=>h,tyL (SqL.of hw),_,SqL.of hw,_,mT _ _,_,rfl,_,SqT.of g,_,rfl,_,get,_,hw,by rw[Z9,Z6,List.length_reverse,Yi];exact aG ⋯,_,?_,rfl,ah.set v fw,r.2::us,r',N,rfl,?_,?_,?_,?_⟩
   .rw[O];lia
   .rw[ae,List.reverse_cons,Zd];rfl
   .intro t ht;rcases mem_cons.mp ht with q|q
    .exact q▸e
    .exact y t q
   .exact%[r.1,z,L.trans (by rw[O])|B]
   .rw[Zr,O];lia
  .have h:p=st:=↑h
   refine k2 _ _ ?_;lk;refine%[_,hw|λq fq=>kk q _ (r.2::us) (v.trans (ah.upd fq)) (v.free fq) ?_ (λt ht=>?_) %[r.1,z,L.trans (by rw[h])|B] (by rw[Zr];lia)]
   .rw[ae,List.reverse_append,<-List.map_reverse,List.reverse_reverse];rfl
   .rcases mem_cons.mp ht with q|q
    .exact q▸e
    .exact y t q
inductive vh
 | mk (b st goal ns ss):vs=[.ref b,.str st,.str goal]->GrB H b ss 0->cY H ns ss-> ~~~ss<=150->(∀H',ah H H'-> ¬ Rch (ss\2) st goal->Q .non H')->(∀l H' (ws:List _),ah H H'->H l=none->H' l∣.lst (ws\0)->(∀t∈ws,t∈ss)->Sho (ss\2) st goal (ws\2)-> ~~~ws<=200->Q (.ref l) H')->vh vs H Q E0
abbrev HK(H:Hp)(b d:Addr)(st c:Str)(ss:ZH)(m:Nat)(g:_L.St)(f:Hp):Prop:=∃e F a h k,g=[!b,-st,-c,!d,!e]/\ah H f/\f e<*F\3/\f d∣.dK (gD a)/\ReB ss a/\Lev (ss\2) st a h k F/\k<= ~~~a+1/\(F≠[]->k<= ~~~a)/\m=2*(150-a.length) +F.length.min 1
def oU(T:Txt K mg):↥2 "shortest_way" ["beneath","start","goal"] vh:=by
 .exists T.aL,c6,aR,G,%[b,st,i,ns,ss,rfl,hb,I,ag,kn|ky];refine%[_,%["JDG3}DG4TA1BD~AZwK~BcdA4BC$~Q23EG4H]rA0A4A3BDN~Q23EI)QEIH]sA3A1A2B",c6.nd|G]|?_]
  show br _ _ _ [!b,-st,-i,none,none] H;refine am λD1 k1 _=>?_
  lk;intro d fd;refine k1 _ _ (am λD2 k2 _=>?_);have ai:b≠d:=λc=>by
   have%[aU,O|_]:=hb;rw[c,fd]at O;cases O
  have s1:=ah.upd (o:= .dK []) fd;have B:upd H d (.dK []) d∣.dK (gD ([]:Gs Str)):=ae
  generalize upd H d (.dK [])=H1 at s1 B
  lk;refine%[#[1]|λe fe=>k2 _ _ (am λD3 k3 _=>?_)];have s2:=ah.upd (o:= .lst [V.str st]) fe;have U:upd H1 e (.lst [V.str st]) e<*[st]\3:=ae;have B:=s2 _ _ B;have Y:=s1.trans s2
  generalize upd H1 e (.lst [V.str st])=H2 at Y U B
  refine%[HK H b d st i ss,%[_,e,[st],[],_,_,ρ,Y,U,B,%[Yz|λ_ h=>(nomatch h)],.nil,by simp,λ_=>Zi _|ρ]|?_];intro m σ H3 %[e,F,C,dd,k,rfl,J,U,B,L,j,hk,al|rfl];have fm: ~~~(F\3)= ~~~F:=Z6 _;have get:=dF.k (k:=Sum.inr i) B;have rl:=L.len;have M:i∈C\1↔(cD (gD C) (Sum.inr i)).isSome=true:=by
   refine%[λh=>?_|λh=>?_]
   .have%[r,_,_|e]:=w6 h;rw[e];rfl
   .have%[v|hv]:=isSome_iff_exists.mp h;have%[q,hq,c|_]:=gU hv;exact c▸Xm %[q,hq|rfl]
  lk;have aa:(i∉C\1->F=[])->D3.nx [!b,-st,-i,!d,!e] H3:=λh=>by
   refine k3 _ _ (am λD4 k4 r4=>?_);lk;refine%[_,get|bA (λq=>?_) λq=>?_]
   .have q:i∉C\1:=λc=>by rw[M.mp c]at q;cases q
    refine r4 _ _ (kn H3 J λr=>q ?_);have%[n|hn]:=r.dst;rw[h q]at j;exact j.stop hn
   .have q:i∈C\1:=M.mpr (rj q);refine k4 _ _ ?_;lk;refine%[d,st,i,ns,F,ss,C,dd,k,ρ,B,L,j,⋯,I.up J,q|λl H' ws s' fl hl ab an wl=>ky l H' ws (J.trans s') (J.free fl) hl ab %[λk hk=>?_,an,?_|λn hn=>?_] (by rw[wl];have:=j.le _ q;lia)]
    .have%[t,ht|rfl]:=Xl hk;exact Xm %[t,ab t ht|rfl]
    .rw[Z6,wl];exact(j.dst q).1
    .rw[Z6,wl];exact j.min q hn
  refine%[_,.inl %[_,SqL.of U|ρ]|bA (λh=>?_) λh=>aa λ_=>?_]
  .have h:0< ~~~F:=by
    rw[fm]at h;have:=Zo h
    lia
   refine%[_,get|bA (λq=>⟨λaq H'=>∃m',m'<2*(150-C.length) +F.length.min 1/\HK H b d st i ss m' aq H',λ_ _ h=>h,b,e,d,ns,F,ss,C,ρ,ai,hb.up J,I.up J,ag,U,B,L,λg H4 new sx fg hg ar u as N=>?_⟩) λq=>aa λc=>absurd (M.mpr (rj q)) c];have ln:=u.len;rw[Z9]at ln;have ac:F.length.min 1=1:=Nat.min_eq_right h;have kF:=al λc=>by rw[c]at h;cases h
   refine%[_,?_,g,new\1,C++new,_,_,ρ,(λc o ec=>sx c o (λz=>by rw[z,fd]at ec;cases ec) (J _ _ ec)),hg,ar,u,j.step u.nd (λr G=>?_) N,?_,λnn=>?_|ρ]
   .rw[ac,Z9,Z6];cases new with
    | nil=>simp
    | cons a r=>
      rw[Zr]at ln ⊢;have:(~~~r+1).min 1<=1:=Nat.min_le_right _ _
      lia
   .have%[O|h2]:=u.sub r (Ys _ G);have%[p,hp|h3]:=as r G;have%[x,y,z,e|_]:=(I r.2 O).2;rw[e]at h2 h3;exact%[Xm %[_,O|ρ],p,z,hp|by rw[e,show x=p from Za h3,show y=r.1 from Za h2]]
   .rw[Z9];lia
   .cases new with
    | nil=>exact absurd rfl nn
    | cons a r=>rw[Z9,Zr];lia
  .cases F with
   | nil=>rfl
   | cons x F=>exact absurd (Zf (by rw[fm,Zr];lia)) h
abbrev VD(ls:ZC)(g:Str->V):List (Key×V):=ls.map λz=>(Sum.inr z,g z)
def oV:∀{ls:ZC},z∈ls->cD (VD ls g) (Sum.inr z)∣g z
 | x::ls,h=>by
   by_cases e:x=z
   .subst e;exact dS rfl
   .rw[show VD _ g=(Sum.inr x,g x)::VD ls g from rfl,cS (λq=>e (Sum.inr.inj q))];exact oV ((mem_cons.mp h).resolve_left λq=>e q.symm)
def x9:∀{ls:ZC},z∉ls->cD (VD ls g) (Sum.inr z)=none
 |[],_=>rfl
 | x::ls,h=>by
   rw[Yt,not_or]at h;rw[show VD _ g=(Sum.inr x,g x)::VD ls g from rfl,cS (λq=>h.1 (Sum.inr.inj q).symm)];exact x9 h.2
def GC(h:z∈ls):cE (VD ls g) (Sum.inr z) v=VD ls (λx=>if x=z then v else g x):=by
 unfold cE;rw[if_pos (by rw[iq,oV h];rfl)];unfold VD;rw[Yp];refine Yn λx _=>?_
 show(if(Sum.inr x)=Sum.inr z then((Sum.inr x),v)else(Sum.inr x,g x))=(Sum.inr x,if x=z then v else g x)
 by_cases e:x=z
 .rw[if_pos (congrArg _ e),if_pos e]
 .rw[if_neg (λq=>e (Sum.inr.inj q)),if_neg e]
abbrev cnt(ss:ZH)(L:ZC)(n:Str):Nat:=ss.countP λt=>decide (t.2[0]?∣n)&&t.2[1]?.all λy=>decide (y∉L)
def DP(ss:List _)(n:Str):cnt ss [] n= ~~~(ss.filter λt=>decide (t.2[0]?∣n)):=by
 unfold cnt;rw[<-List.countP_eq_length_filter]
 simp_all
def Cb(h:cnt ss L m=0)(e:Ed (ss\2) m y):y∈L:=by
 have%[z|a]:=e;have%[t,b|c]:=Xl a;have:=List.countP_eq_zero.mp h t b
 simp_all
def vk(b:m∉L):∀ss:ZH,cnt ss L n=cnt ss (L++[m]) n+(ss.filter λt=>decide (t.2[1]?∣m)).countP λt=>decide (t.2[0]?∣n)
 |[]=>rfl
 | t::ss=>by
   have c:=vk (n:=n) b ss;unfold cnt at c ⊢;rw[countP_cons,countP_cons,c];cases d:t.2[1]? with
   | none=>rw[Y3 ⋯];simp only[Option.all_none];lia
   | some y=>
     by_cases e:y=m
     .subst e;rw[Y4 (by rw[d];simp),countP_cons];by_cases a:t.2[0]?∣n
      .simp[a,b];lia
      .simp[a]
     .rw[Y3 (by rw[d];simpa using e)];by_cases a:t.2[0]?∣n
      .by_cases f:y∈L
       .simp[f]
       .simp[a,f,e];lia
      .simp[a]
abbrev oW(ks:List ZC)(a L:ZC):Prop:=∀i x,L[i]?∣x->∀y∈a,y∉L.take i->(∀z,Ed ks y z->z∈L.take i)->aO y x=false
def GD{H:Hp}{f L:ZC}{ss:ZH}(c:cY H f ss){y:Str}(h:∀z,Ed (ss\2) y z->z∈L):cnt ss L y=0:=by
 refine List.countP_eq_zero.mpr λt d q=>?_
 have%[_,a,b,z,e|_]:=c t d;rw[e]at q;simp only[Zv]at q;have g:a=y:=Za (Zo q.1);exact Zo q.2 (h b %[z|by rw[<-g,<-e];exact Xm %[t,d|rfl]])
structure HL (ss:ZH) (ns L R:ZC):Prop where
 nd:(L++R).Nodup
 mem:∀x,x∈L++R↔x∈ns/\cnt ss L x=0
 ord:∀(i:Nat) x,L[i]?∣x->∀y,Ed (ss\2) x y->y∈L.take i
 lst:oW (ss\2) ns L
abbrev HM(f:Hp)(l m b a w e ld:Addr)(d:ZC)(ss:ZH)(k:Nat)(g:_L.St)(c:Hp):Prop:=∃(h i j:Option V) (L R:ZC),g=[!l,!m,!b,!a,!w,h,!e,!ld,i,j]/\ah f c/\c w∣.dK (VD d λn=> .int (cnt ss L n))/\c e<*R\3/\c ld<*L\3/\HL ss d L R/\k= ~~~d-L.length
inductive ya
 | mk (l m ns ss):vs=[.ref l,.ref m]->H l<*ns\3->ns.Nodup-> ~~~ns<=63->H m∣.lst (ss\0)->cY H ns ss-> ~~~ss<=150->(∀r H' (L:ZC),ah H H'->H' r<*L\3->L.Nodup->(∀x∈L,x∈ns)->(∀i x,L[i]?∣x->∀y,Ed (ss\2) x y->y∈L.take i)->(∀x∈ns,x∉L->∃y,Ed (ss\2) x y/\y∈ns/\y∉L)->oW (ss\2) ns L->H r=none->Q (.ref r) H')->ya vs H Q E0
def eZ(T:Txt K mg):↥3 "laid_in_turn" ["names","found"] ya:=by
 .exists T.aK,be,c7,hr,%[l,m,d,ss,rfl,hl,nn,nl,hm,aa,b0|kk];have nm: ~~~(d\3)= ~~~d:=Z6 _;refine%[_,%["JDG2H~,A1BDG3H]tA1BD'4ef}DVU0L5E,cdA~f~g2A5ATBBBM45D~C6feb?1U0X0?2/KYsM10C0DG7TBD~AK~BcdA6BCDG8~J]uA6BDW~.]v6A8BDWni7A8BEVU~f~g3A8ATBBL9D,F^sM4P9>CM4P9>ENKYsM4P9>CEWni6AP9>BQEI7",be.nd,↑(["name","waits"],[(1,4)]),↑["name","waits"]|hr]|?_]
  show br _ _ _ [!l,!m,none,none,none,none,none,none,none,none] H;refine am λD1 k1 _=>?_
  lk;refine%[m,d,ss,ρ,hm,aa,b0|λb H1 s1 fb hb=>k1 _ _ (am λD2 k2 _=>?_)];lk;refine%[m,d,ss,ρ,s1 _ _ hm,aa.up s1,b0|λa H2 s2 fa ha=>k2 _ _ (am λD3 k3 _=>?_)];have N:=s1.trans s2;have hb:=hb.up s2;lk;intro w fw;refine k3 _ _ (am λD4 k4 _=>aC λa1 hK=>?_);have s3:=ah.upd (o:= .dK []) fw;have gw:upd H2 w (.dK []) w∣.dK (VD (d.take 0) λn=> .int (cnt ss [] n)):=ae
  generalize upd H2 w (.dK [])=H3 at s3 gw
  have ch:=N.trans s3;lk;refine%[%[_|SqL.of (ch _ _ hl)]|hK _ _ ?_];have cl:b≠w:=λc=>by
   have%[ab,h1|_]:=hb;rw[c,fw]at h1;cases h1
  have co:a≠w:=λc=>by
   have%[ab,h1|_]:=ha;rw[c,fw]at h1;cases h1
  have b1:∀xs,H2 w≠some (.lst xs):=λxs c=>by rw[fw]at c;cases c
  refine cZ (λi M v=>(∃o5,M=[!l,!m,!b,!a,!w,o5,none,none,none,none])/\ah H2 v/\v w∣.dK (VD (d.take i) λn=> .int (cnt ss [] n)))
   %[%[_|rfl],s3|gw] (λi M v h=>h.2.1 _ _ (N _ _ hl)) ?_ ?_
  .intro i n M v hn %[%[o5|rfl],sm|hw];have i1:i< ~~~d:=(Xi hn).1;show qd _ _ _ _ [!l,!m,!b,!a,!w,-n,none,none,none,none] v;refine aE λD5 k5 _=>?_
   lk;refine%[tyD (sm _ _ hb.choose_spec.1),#[0]|λp hp=>?_];have%[ab,al,cs,ai,O|b2]:=hb.get (eA.of sm) cl b1 hp n;have sp:=ah.upd (o:= .lst []) hp;refine%[Sum.inr n,ρ,ab,cs,_,by rw[ai];exact .inl %[_,SqL.of O|ρ],_,ir.k (k:=Sum.inr n) (sp _ _ hw) (by unfold VD;rw[Z6,Yj];exact aG ⋯)|k5 _ _ %[%[_|ρ],ah.set (sm.trans sp) fw|?_]];have zn:n∉d.take i:=λhm=>by
    have h:=nn;rw[<-X8 i d,Yx]at h;exact h.2.2 n hm n (Z8 (i:=0) (by rw[getElem?_drop];exact hn)) rfl
   rw[ae,mV _ (x9 zn),Z6,<-DP,X7,hn];unfold VD;rw[Zd];rfl
  .intro M v %[%[o5|rfl],sm|hw];rw[Zn (Zi _)]at hw;refine k4 _ _ (am λD5 k5 _=>aF λa1 hK=>?_);lk;have b3:=sm _ _ (N _ _ hl);refine%[%[_|SqL.of b3]|hK _ _ λG ac=>?_];refine cH (λj vs M H3=>(∃o1,M=[o1,!w])/\ah v H3/\H3 G<*vs/\vs=((d.take j).filter λn=>decide (cnt ss [] n=0))\3)
    %[%[none|rfl],ah.upd ac,ae|rfl] (λ_ _ _ H3 ct=>ct.2.1 _ _ b3) ?_ ?_
   .intro j vs M H4 hj %[%[o1|rfl],I,b4|hv];have get:=dF.k (k:=Sum.inr d[j]) (I _ _ hw);rw[oV (Ya hj)]at get;lk;refine%[_,get,ρ|bA (λh=>?_) λh=>?_]
    .have h:cnt ss [] d[j]=0:=↑h
     refine CK.mk hj b4 (by rw[hv,Z6];have:=Yg (λn=>decide (cnt ss [] n=0)) (d.take j);rw[Yj]at this;exact aG ⋯) %[%[_|rfl],ah.set I ac,ae|?_];rw[hv,X7,Z4 hj,Y2,Zd];show _=_++(List.filter _ [d[j]])\3;rw[Y4 ↑h];rfl
    .have h:cnt ss [] d[j]≠0:=↑h
     refine CN.mk hj %[%[_|rfl],I,b4|?_];rw[hv,X7,Z4 hj,Y2,Zd];show _=_++(List.filter _ [d[j]])\3;rw[Y3 ↑h];simp
   intro vs M H3 %[_,I,an|hv];rw[Zn (Zi _)]at hv;rw[hv]at an;refine k5 _ _ (am λD6 k6 _=>?_);have U:=I _ _ hw;have a3:=sm.trans I;have a4:w≠G:=λc=>by rw[<-c,hw]at ac;cases ac
   have a5:=sm.free ac;lk;refine%[#[0]|λld fld=>k6 _ _ (am λD7 k7 _=>?_)];have s4:=ah.upd (o:= .lst []) fld;have a6:upd H3 ld (.lst []) ld<*([]:ZC)\3:=ae;have b5:w≠ld:=λc=>by rw[<-c,U]at fld;cases fld
   have a7:G≠ld:=λc=>by rw[<-c,an]at fld;cases fld
   have bb:=s4 _ _ U;have bc:=s4 _ _ an;have bf:=a3.trans s4;have fld:=a3.free fld
   generalize upd H3 ld (.lst [])=H4 at s4 a6 bb bc bf
   refine%[HM H2 l m b a w G ld d ss,%[_,o5,none,none,[],_,ρ,bf,bb,bc,a6,%[nn.filter _,λx=>by simp,λi x e=>by simp at e|λi x e=>by simp at e]|ρ]|?_];clear bf bb bc a6 an U hw hv I a3 sm;intro k M H5 %[o5,o8,o9,L,R,rfl,sm,hw,hR,hL,r|rfl];have Rm: ~~~(R\3)= ~~~R:=Z6 _;have da: ~~~L+ ~~~R<= ~~~d:=by
    rw[<-Z9];exact _T.nodup_sub r.nd λx hx=>((r.mem x).mp hx).1
   lk;refine%[~~~R,.inl %[_,SqL.of hR|Rm.symm]|bA (λh=>?_) λh=>?_]
   .have h:0< ~~~R:=by have:=Zo h;lia
    refine⟨λcv v=>∃m',m'< ~~~d-L.length/\HM H2 l m b a w G ld d ss m' cv v,λ_ _ h=>h,R,SqL.of hR,h,λx hx cM=>%[tyL (SqL.of hR),R,hR,hx|λR1 pm=>?_]⟩;have u1:=ah.set (o:= .lst (R1\3)) sm a5;have bl:upd H5 G (.lst (R1\3)) G=_:=ae;have bm:upd H5 G (.lst (R1\3)) w=_:=(aj a4).trans hw;have aq:upd H5 G (.lst (R1\3)) ld=_:=(aj a7.symm).trans hL
    generalize upd H5 G (.lst (R1\3))=H6 at u1 bl bm aq ⊢
    refine%[tyL (SqL.of aq),_,aq,by rw[Z6];exact aG ⋯|aE λdd c0 _=>aC λa1 hK=>?_];have u2:=ah.set (o:= .lst (L\3++[.str x])) u1 fld;have ar:upd H6 ld (.lst (L\3++[.str x])) ld<*(L++[x])\3:=by rw[ae,Zd];rfl
    have as:upd H6 ld (.lst (L\3++[.str x])) w=_:=(aj b5).trans bm;have aR:upd H6 ld (.lst (L\3++[.str x])) G=_:=(aj a7).trans bl
    generalize upd H6 ld (.lst (L\3++[.str x]))=H7 at u2 ar as aR ⊢
    lk;refine%[tyD (u2 _ _ ha.choose_spec.1),#[0]|λp hp=>?_];have%[ab,al,ai,c1,O|b2]:=ha.get (eA.of u2) co b1 hp x;have bt:∀{c:Addr} {o:HO},H7 c∣o->H2 c=none->al≠c:=λ{c o} h1 h2=>by
     rcases b2 with rfl|⟨o',ho⟩
     .exact λz=>by rw[z,h1]at hp;cases hp
     .exact λz=>by rw[z,h2]at ho;cases ho
    have c2:=bt as fw;have c3:=bt aR a5;have all:=bt ar fld;have sp:=ah.upd (o:= .lst []) hp;have U:=sp _ _ as;have b6:=sp _ _ aR;have b7:=sp _ _ ar;have u3:=u2.trans sp
    generalize upd H7 p (.lst [])=H8 at ai O U b6 b7 u3 ⊢
    clear u1 u2 as aR ar bm bl aq hp sp
    generalize b9:(ss.filter λt=>decide (t.2[1]?∣x))=ts at O
    have tm: ~~~(ts\0)= ~~~ts:=Z6 _;have xL:x∉L:=λc=>(nodup_append.mp r.nd).2.2 x c x hx rfl
    have pr:(L++[x] ++R1).Perm (L++R):=by
     rw[Ze];exact pm.append_left L
    have f0:∀n,cnt ss L n=cnt ss (L++[x]) n+(ts.drop 0).countP λt=>decide (t.2[0]?∣n):=λn=>by rw[drop_zero,<-b9];exact vk xL ss
    have c4:∀t∈ts,∃n z,t.2=[n,x,z]/\n∈d/\H t.1&&&[n,x,z]\3:=λt ht=>by
     rw[<-b9]at ht;have%[h1|h2]:=List.mem_filter.mp ht;have%[h3,n,y,z,e,hn|_]:=aa t h1;have h2:=Zo h2;rw[e]at h2 h3;obtain rfl:y=x:=Za h2;exact%[n,z,e,hn|h3]
    refine%[Sum.inr x,ρ,ab,ai,al,c1,%[_|SqL.of O]|hK _ _ ?_];refine cZ (λj M v=>(∃o9,M=[!l,!m,!b,!a,!w,o5,!G,!ld,-x,o9])/\ah H2 v/\v al∣.lst (ts\0)/\v w∣.dK (VD d λn=> .int ((cnt ss (L++[x]) n+(ts.drop j).countP λt=>decide (t.2[0]? =some n):Nat):Int))/\v ld<*(L++[x])\3/\∃Rj:ZC,v G<*Rj\3/\(L++[x] ++Rj).Nodup/\∀y,y∈L++[x] ++Rj↔y∈d/\cnt ss (L++[x]) y+((ts.drop j).countP λt=>decide (t.2[0]?∣y))=0)
     %[%[_|rfl],u3,O,by rw[U];exact congrArg (λg=>some (HO.dK (VD d g))) (funext λn=>by rw[f0 n]),b7,R1,b6,pr.nodup_iff.mpr r.nd|λy=>by rw[<-f0,pr.mem_iff];exact r.mem y] (λj M v h=>h.2.2.1) ?_ ?_
    .intro j t M v ht %[%[o9|rfl],aU,B,J,Y,Rj,C,rn|rz];have jl:=(Xi ht).1;have%[n,z,et,hn|u]:=c4 t (Z8 ht);have u:=aU _ _ (N _ _ u);have dr:ts.drop j=t::ts.drop (j+1):=by rw[List.drop_eq_getElem_cons jl,(Xi ht).2]
     rw[dr]at J rz;have get:=dF.k (k:=Sum.inr n) J;rw[oV hn]at get;have de:=(nodup_append.mp rn)
     have rl: ~~~Rj<= ~~~d:=by
      have:=_T.nodup_sub rn λy hy=>((rz y).mp hy).1
      rw[Z9]at this
      lia
     show br _ _ _ [!l,!m,!b,!a,!w,o5,!G,!ld,-x,some (.ref t.1)] v;refine am λdk c5 _=>?_
     lk;have one:∀y,(t::ts.drop (j+1)).countP (λt=>decide (t.2[0]?∣y))=((ts.drop (j+1)).countP λt=>decide (t.2[0]?∣y)) +if y=n then 1 else 0:=λy=>by
      rw[countP_cons,et];by_cases c:y=n
      .rw[if_pos c,if_pos (by rw[c];simp)]
      .rw[if_neg c,if_neg (by simpa using λq=>c q.symm)]
     refine%[_,SqT.of u,_,ρ,_,get,_,ρ,_,SqT.of u,_,ρ,_,ir.k (k:=Sum.inr n) J (by unfold VD;rw[Z6];exact aG ⋯)|c5 _ _ (aE λdm ca _=>?_)];rw[GC hn];have e1:(λy=>if y=n then V.int (((cnt ss (L++[x]) n+(t::ts.drop (j+1)).countP λt=>decide (t.2[0]?∣n):Nat):Int) -1)else V.int ((cnt ss (L++[x]) y+(t::ts.drop (j+1)).countP λt=>decide (t.2[0]?∣y):Nat):Int))=λy=>V.int ((cnt ss (L++[x]) y+(ts.drop (j+1)).countP λt=>decide (t.2[0]?∣y):Nat):Int):=funext λy=>by
      rw[one,one];by_cases c:y=n
      .rw[if_pos c,c,if_pos rfl]
       congr 1
       lia
      .rw[if_neg c,if_neg c];rfl
     rw[e1];have v1:=ah.set (o:= .dK (VD d λy=>V.int ((cnt ss (L++[x]) y+(ts.drop (j+1)).countP λt=>decide (t.2[0]?∣y):Nat):Int))) aU fw;have a0:upd v w (.dK (VD d λy=>V.int ((cnt ss (L++[x]) y+(ts.drop (j+1)).countP λt=>decide (t.2[0]?∣y):Nat):Int))) w=_:=ae;have ag:∀c o,c≠w->v c∣o->upd v w (.dK (VD d λy=>V.int ((cnt ss (L++[x]) y+(ts.drop (j+1)).countP λt=>decide (t.2[0]?∣y):Nat):Int))) c∣o:=λc o h e=>(aj h)▸e
     generalize upd v w (.dK (VD d λy=>V.int ((cnt ss (L++[x]) y+(ts.drop (j+1)).countP λt=>decide (t.2[0]?∣y):Nat):Int)))=H9 at v1 a0 ag
     have u:=ag _ _ (λc=>by rw[c,J]at u;cases u) u;have B:=ag _ _ c2 B;have Y:=ag _ _ b5.symm Y;have C:=ag _ _ a4.symm C;have get:=dF.k (k:=Sum.inr n) a0;rw[oV hn]at get;have cd:n∉L++[x] ++Rj:=λc=>by
      have:=((rz n).mp c).2;rw[one,if_pos rfl]at this
      lia
     have a2:∀y,y≠n->(y∈L++[x] ++Rj↔y∈d/\cnt ss (L++[x]) y+((ts.drop (j+1)).countP λt=>decide (t.2[0]?∣y))=0):=λy c=>by
      rw[rz y,one,if_neg c];rfl
     lk;refine%[_,SqT.of u,_,ρ,_,get,ρ|bA (λh=>?_) λh=>?_]
     .have h:cnt ss (L++[x]) n+((ts.drop (j+1)).countP λt=>decide (t.2[0]?∣n))=0:=by
       have:=V.int.inj (Zo h)
       lia
      have tr:t.1≠G:=λc=>by rw[c,C]at u;cases u
      refine%[tyL (SqL.of C),_,SqT.of u,_,ρ,_,C,by rw[Z6];exact aG ⋯|ca _ _ %[%[_|ρ],ah.set v1 a5,(aj c3).trans B,(aj a4).trans a0,(aj a7.symm).trans Y,Rj++[n],by rw[ae,Zd];rfl,?_|λy=>?_]]
      .rw[<-Ze,Yx];exact%[rn,by simp|λa ha b hb c=>cd (by rw[<-Xk hb,<-c];exact ha)]
      .rw[<-Ze,Yq,Yv];by_cases c:y=n
       .rw[c];exact%[λ_=>%[hn|h]|λ_=> .inr rfl]
       .rw[<-a2 y c];exact%[λq=>q.resolve_right c|.inl]
     .refine ca _ _ %[%[_|rfl],v1,B,a0,Y,Rj,C,rn|λy=>?_];by_cases c:y=n
      .rw[c];exact%[λq=>absurd q cd|λq=>absurd (Zf (congrArg (λi:Nat=>V.int i) q.2)) h]
      .exact a2 y c
    .intro M v %[%[o9|rfl],aU,B,J,Y,Rj,C,rn|rz];rw[List.drop_length]at J rz;refine c0 _ _ %[_,?_,o5,_,o9,L++[x],Rj,rfl,aU,J,C,Y,%[rn,rz,λi y hi y' e=>?_|λi y hi z hz nz e=>?_]|rfl]
     .rw[Z9,Yi]
      lia
     .by_cases il:i< ~~~L
      .rw[Y8 il]at hi;rw[X9 (Yc il)];exact r.ord i y hi y' e
      .have ie:i= ~~~L:=by
        have:=(Xi hi).1;rw[Z9,Yi]at this
        lia
       subst ie;rw[Y9 (Zi _),sub_self,List.getElem?_cons_zero]at hi;obtain rfl:=Za hi;rw[X9 (Zi _),take_length];exact Cb ((r.mem x).mp (Ys _ hx)).2 e
     .by_cases il:i< ~~~L
      .rw[Y8 il]at hi;rw[X9 (Yc il)]at nz e;exact r.lst i y hi z hz nz e
      .have ie:i= ~~~L:=by
        have:=(Xi hi).1;rw[Z9,Yi]at this
        lia
       subst ie;rw[Y9 (Zi _),sub_self,List.getElem?_cons_zero]at hi;obtain rfl:=Za hi;rw[X9 (Zi _),take_length]at nz e;exact cM z ((Xj ((r.mem z).mpr %[hz|GD aa e])).resolve_left nz)
   .refine k7 _ _ ?_;lk;have R0:R=[]:=by
     cases R with
     | nil=>rfl
     | cons x R=>exact absurd (Zf (by rw[Zr];lia)) h
    subst R0;have mem:=r.mem;have nd:=r.nd;rw[Zx]at mem nd;refine kk ld H5 L (N.trans sm) hL nd (λx hx=>((mem x).mp hx).1) r.ord (λx hx nx=>?_) r.lst (N.free fld);have:cnt ss L x≠0:=λc=>nx ((mem x).mpr %[hx|c])
    have%[t,ht|q]:=List.countP_pos_iff.mp (pos_of_ne_zero this);have%[a,b,z,e,_|hb]:=(aa t ht).2;rw[e]at q;simp only[Zv]at q;exact%[b,%[z|by rw[<-(Za (Zo q.1)),<-e];exact Xm %[t,ht|ρ]],hb|Zo q.2]
inductive vm
 | mk (l m ns ss):vs=[.ref l,.ref m]->H l<*ns\3->ns.Nodup-> ~~~ns<=63->H m∣.lst (ss\0)->cY H ns ss-> ~~~ss<=150->(∀r H' (us:ZC),ah H H'->H' r<*us\3->(∀x∈ns,Rch (ss\2) x x->x∈us)->Q (.ref r) H')->vm vs H Q E0
structure oX (H:Hp) (ks:List ZC) (ss:ZH) (r:Addr) (ws:ZH) (x:Str):Prop where
 at_:H r∣.lst (ws\0)
 sub:∀t∈ws,t∈ss
 sho:Sho ks x x (ws\2)
 len: ~~~ws<=200
def oX.up(h:oX H ks ss r ws x)(s:ah H a):oX a ks ss r ws x:=%[s _ _ h.at_,h.sub,h.sho|h.len]
inductive vo
 | mk (l m ns ss):vs=[.ref l,.ref m]->H l<*ns\3->ns.Nodup-> ~~~ns<=63->H m∣.lst (ss\0)->cY H ns ss-> ~~~ss<=150->(∀H',ah H H'->(∀x,¬ Rch (ss\2) x x)->Q .non H')->(∀r H' ws x,ah H H'->H r=none->oX H' (ss\2) ss r ws x->(∀y n,Dst (ss\2) y (n+1) y-> ~~~ws<=n+1)->Q (.ref r) H')->vo vs H Q E0
def tq(T:Txt K mg):↥4 "never_laid" ["names","found"] vm:=by
 .exists T.aQ,pN,C,G,%[l,m,a,ss,rfl,n,I,nl,J,g,i|M];refine%[_,%["JEI*~/AF]w:|A0B:|AH~:A0A1BBB",0|G]|?_];show jG _ _ [!l,!m] H;lk;refine%[a,SqL.of n,⋯|λp N=>?_];have b:=ah.upd (o:=d6 w p (aA a)) N;have y:upd H p (d6 w p (aA a)) p=_:=ae
  generalize upd H p (d6 w p (aA a))=H1 at b y ⊢
  refine%[l,m,a,ss,ρ,b _ _ n,I,nl,b _ _ J,g.up b,i|λr H2 L z O U Y j _ _ _=>?_];have Ll:=_T.nodup_sub U Y;refine%[r,ρ,L,SqL.of O,⋯|λq fq=>?_];have B:=ah.upd (o:=d6 w q (aA L)) fq;have fl:=_T.nodup_sub (bE a) λx d=>aQ.mp d
  refine%[_,(B _ _ (z _ _ y)),_,ae,⋯|λu ms fu e mn=>%[ms,ae,?_|λv us fv pu _=>?_]]
  .have:=_T.nodup_sub mn λx d=>aQ.mp ((e x).mp d).1
   lia
  .refine M v _ us (b.trans (z.trans (B.trans ((ah.upd fu).trans (ah.upd fv))))) ae λx d rx=>?_
   rw[pu.mem_iff,e];exact%[aQ.mpr d|λc=>DH j (aQ.mp c) rx]
def vp{d:ZC}{ss:ZH}(h:∀t∈ss,cP d t.2){x y:Str}(r:Rch (ss\2) x y):x∈d:=by
 induction r with
 | one e=>
   have%[z|g]:=e;have%[t,i|f]:=Xl g;have%[a,b,c,e,j|_]:=h t i;rw[e]at f;exact((List.cons.inj f).1)▸j
 | more _ _ l=>exact l
def ii(T:Txt K mg):↥5 "shortest_ring" ["names","found"] vo:=by
 .exists T.aP,bS,ag,hr,%[l,m,O,ss,rfl,hl,nn,nl,hm,c,z,kn|ky];refine%[_,%["JDG2H~,A1BDG3)DVUH]xA0A1BL4DG5H]yA2A4A4BENZwK~R5)$ZrK~;3)yK;cdA5BcdA3BEG35QEI3",bS.nd|hr]|?_]
  show br _ _ _ [!l,!m,none,none,none,none] H;refine am λD1 k1 _=>?_
  lk;refine%[m,O,ss,ρ,hm,c,z|λb H1 U fb hb=>k1 _ _ (am λD2 k2 _=>?_)];lk;refine k2 _ _ (am λD3 k3 _=>aC λac hK=>?_);lk;refine%[l,m,O,ss,ρ,U _ _ hl,nn,nl,U _ _ hm,c.up U,z|λr H2 us s2 G I=>%[r,ρ,%[_|SqL.of G]|hK _ _ ?_]];have g:=U.trans s2;refine cZ (λi Y o=>(∃v o4 o5,Y=[!l,!m,!b,some v,o4,o5]/\((v= .non/\∀x∈us.take i,¬ Rch (ss\2) x x)\/∃q ws x,v= .ref q/\H q=none/\oX o (ss\2) ss q ws x/\∀y∈us.take i,∀n,Dst (ss\2) y (n+1) y-> ~~~ws<=n+1))/\ah H2 o)
   %[%[_,_,_,rfl|.inl %[rfl|λx hx=>(nomatch hx)]]|λ_ _ e=>e] (λi Y o h=>h.2 _ _ G) ?_ ?_
  .intro i n Y o hn %[%[v,o4,o5,rfl|J]|j];have tk:us.take (i+1)=us.take i++[n]:=by rw[X7,hn];rfl
   show br _ _ _ [!l,!m,!b,some v,-n,o5] o;refine am λD4 k4 _=>?_
   lk;refine%[b,n,n,O,ss,ρ,hb.up (s2.trans j),c.up (g.trans j),z,λH3 B nr=>k4 _ _ (aE λD5 k5 _=>?_)|λq H3 ws B L C sub rr rl=>k4 _ _ (aE λD5 k5 _=>?_)]
   .lk;rw[if_neg ∅];refine k5 _ _ %[%[v,_,_,rfl|J.imp (λh=>%[h.1|λx hx=>?_]) λ⟨q,ws,x,e,L,C,p⟩=>%[q,ws,x,e,L,C.up B|λy a m d=>?_]]|j.trans B]
    .rw[tk]at hx;rcases Xj hx with h'|h'
     .exact h.2 x h'
     .rw[Xk h'];exact nr
    .rw[tk]at a;rcases Xj a with h'|h'
     .exact p y h' m d
     .rw[Xk h']at d;exact(nr d.rch).elim
   .lk;rw[if_pos ∅];have wl:∀zs:ZH,~~~(zs\0)= ~~~zs:=λzs=>Z6 _
    have u:=λm d=>by
     have:=rr.min m d;rwa[Z6]at this
    have put:(∀y∈us.take i,∀m,Dst (ss\2) y (m+1) y-> ~~~ws<=m+1)->D5.nx [!l,!m,!b,!q,-n,!q] H3:=λp=>k5 _ _ ⟨%[_,_,_,rfl|.inr ⟨q,ws,n,rfl,(g.trans j).free L,%[C,sub,rr|rl],λy a m d=>by
     rw[tk]at a;rcases Xj a with h'|h'
     .exact p y h' m d
     .rw[Xk h']at d;exact u m d⟩],j.trans B⟩
    rcases J with⟨rfl,aa⟩|⟨q',M,x',rfl,ab,N,p⟩
    .rw[if_pos ∅];exact put λy a m d=>(aa y a d.rch).elim
    .rw[if_neg ∅];refine%[_,.inl %[_,SqL.of C|(wl ws).symm],_,.inl %[_,SqL.of (B _ _ N.at_)|(wl M).symm]|bA (λlt=>put λy a m d=>?_) λlt=>k5 _ _ %[%[_,_,_,ρ|.inr %[q',M,x',ρ,ab,N.up B|λy a m d=>?_]]|j.trans B]]
     .have:=p y a m d;have:=Zo lt
      lia
     .rw[tk]at a;rcases Xj a with h'|h'
      .exact p y h' m d
      .rw[Xk h']at d;have:=u m d
       lia
  .intro Y o %[%[v,o4,o5,rfl|J]|j];rw[Zn (Zi _)]at J;refine k3 _ _ ?_;lk;rcases J with⟨rfl,h⟩|⟨q,ws,x,rfl,L,C,p⟩
   .exact kn o (g.trans j) λx rx=>h x (I x (vp (λt ht=>(c t ht).2) rx) rx) rx
   .exact ky q o ws x (g.trans j) L C λy n d=>p y (I y (vp (λt ht=>(c t ht).2) d.rch) d.rch) n d
abbrev HN(ws:ZH):Prop:=∀p∈ws,~~~p.2<=3/\∀z∈p.2,Sml z
inductive tt (C:Addr)
 | mk (a r:Addr) (ws:ZH):vs=[.ref a,.ref r]->H r∣.lst (ws\0)->aK H ws-> ~~~ws<=200->HN ws->H a∣ExO a C none->(∀l d,H l=none->H d=none->d≠l->Q .non (upd (upd (upd H l (.lst (ws\0))) a (ExO a C (some d))) d (.xd [("ring",.ref l)])))->tt C vs H Q E0
def C_Torn(T:Txt K mg):FO P w K mg base 1 "Torn" ["self","ring"] (tt (aJ mg "Torn")):=by
 refine T.x_Torn.cal sP (by intro a b c d h;have%[_,_,_,rfl|_]:=h;rfl) (λf m A outer s H vs Q E n g h=>?_)
 .have%[a,r,ws,rfl,i,o,p,u,j|q]:=h;refine%[_,(QSs.h (ak (bT rfl (FS (C:=aJ mg "Torn") n rfl T.c_DigError T.i_DigError rfl rfl %[_|ρ] #[↑0,A0 (pjE dW (pjE (HD g.gd g.units ↑1) AZ))]))
   (av (He (C:=aJ mg "Torn") T.f_Torn_ring rfl ↑0 (ctO (kL (K:=K) rfl) T.a5 boot_list rfl #[↑1])))))|?_]
  show br _ _ _ [!a,!r] H;lk;have y:(Str.empty++Str.ofString "torn by the ring ").length=17:=!0
  refine%[by rw[PySem.sizeLine_eq];lia,r,ws,ρ,i,o,p,u|λz B=>%[z,ρ,by rw[strLen_append,PySem.sizeLine_eq];lia,by rw[strLen_append,PySem.sizeLine_eq];lia,by simp,%[_|j]|?_]];refine%[r,ρ,_,.inl (SqL.of i)|λl b=>%[a,ρ,ah.upd b _ _ j|λd c v=>?_]];have dl:d≠l:=λe=>by rw[e,ae]at c;cases c
  rw[aj dl]at c;exact q l d b c dl
def w8{C r:Addr}{ws:ZH}{H c:Hp}{y:_L.St}{D:ik}{t:TA}{E:XK}(m:ah H c)(I:c r∣.lst (ws\0))(J:aK c ws)(f: ~~~ws<=200)(L:HN ws)(M:∀Q:ZN->Hp->Prop,Q [.ref r] c->t y c Q)
 (k:∀d l g,ah H g->ah c g->H d=none->H l=none->d≠l->g d∣.xd [("ring",.ref l)]->g l∣.lst (ws\0)->E (.ref C) (some d) g):
 sw C (wt C (tt C) t) (λa A=>∃d,A a∣ExO a C (some d)/\H a=none/\E (.ref C) (some d) (drop A a)) D y c:=by
 refine M _ %[by simp|λx q=>?_];have B:=ah.upd (o:=ExO x C none) q;refine%[x,r,ws,ρ,B _ _ I,aY J λb z e=>B _ _ e,f,L,ae|λl d f n h=>?_];have s:l≠x:=λe=>by rw[e,ae]at f;cases f
 have p:d≠x:=λe=>by rw[e,ae]at n;cases n
 have i:c l=none:=by rw[aj s]at f;exact f
 have j:c d=none:=by rw[aj p]at n;exact n
 have v:∀b,b≠x->b≠l->b≠d->drop (upd (upd (upd (upd c x (ExO x C none)) l (.lst (ws\0))) x (ExO x C (some d))) d (.xd [("ring",.ref l)])) x b=c b:=λb n1 N O=>by
  rw[bM n1,aj O,aj n1,aj N,aj n1]
 have G:ah c (drop (upd (upd (upd (upd c x (ExO x C none)) l (.lst (ws\0))) x (ExO x C (some d))) d (.xd [("ring",.ref l)])) x):=λb u e=>by
  rw[v b (ax e q) (ax e i) (ax e j)];exact e
 refine%[ρ,x,d,ρ,?_,d,?_,m.free q|k d l _ (m.trans G) G (m.free j) (m.free i) h ?_ ?_]
 .rw[aj p.symm,ae]
 .rw[aj p.symm,ae]
 .rw[bM p,ae]
 .rw[bM s,aj h.symm,aj s,ae]
def jD{S:Str->Str->Prop}(h:cz S z m)(c:cy S z x):cz S x m:=%[c.symm.trans h.1|λy d=>h.2 y (c.trans d)]
def iT(h:cF H ls qs)(a b:Str)(s:bR qs a b):a∈ls/\b∈ls:=by
 have%[q,d|e]:=s;rcases(h q d).2 with⟨wd,x,y,c,_,f,g,_⟩|⟨wd,x,y,c,_⟩
 .rw[c]at e;simp only[List.cons.injEq,V.str.injEq,and_true]at e;rw[<-e.2.1,<-e.2.2];exact%[f|g]
 .rw[c]at e;simp at e
structure jb (mg:ZD) (H:Hp) (g:Addr) (qs:ZO) (ls:ZC) (ts:ZH):Prop where
 gr:∃c2 c3 c4,GrF mg H g c2 c3 c4 qs ls ts
 nd:ls.Nodup
 so:ls.Pairwise (λa b=>aO b a=false)
 ll: ~~~ls<=63
 tl: ~~~ts<=150
 t3:∀k∈ts\2,cP ls k
 sm:∀k∈ts\2,∀z∈k,Sml z
 lm:∀z∈ls,Sml z
def jb.up(h:jb mg H g qs ls ts)(s:ah H a):jb mg a g qs ls ts:=by
 have%[b,c,d|e]:=h.gr;exact%[%[b,c,d|e.up s],h.nd,h.so,h.ll,h.tl,h.t3,h.sm|h.lm]
def jb.ends(h:jb mg H g qs ls ts)(f:cw (bR qs) (ts\2) lk)(i:k∈lk):∃a b z,k=[a,b,z]/\(a∈ls/\cz (bR qs) a a)/\b∈ls/\cz (bR qs) b b:=by
 have%[q,r,s|j]:=h.gr;have%[a,b,z,l,m,n,c,d|rfl]:=(f.mem k).mp i;have%[x,y,u,e,o|p]:=h.t3 _ n;simp only[List.cons.injEq,and_true]at e;have%[rfl,rfl|rfl]:=e;have ws:=iT j.sa;exact%[l,m,z,ρ,%[c.1.within ws o|jD c c.1],d.1.within ws p|jD d d.1]
def jb.short(h:jb mg H g qs ls ts)(d:cw (bR qs) (ts\2) lk)(f:k∈lk): ~~~k<=3/\∀z∈k,Sml z:=by
 have%[o,p,q|i]:=h.gr;have%[a,b,z,r,s,c,j,l|rfl]:=(d.mem k).mp f;have%[x,y,u,e,m|n]:=h.t3 _ c;simp only[List.cons.injEq,and_true]at e;have%[rfl,rfl|rfl]:=e;have ws:=iT i.sa;exact%[Zi _|Gq (h.lm _ (j.1.within ws m)) (h.lm _ (l.1.within ws n)) (h.sm _ c z ∅)]
def jb.names(h:jb mg H g qs ls ts)(d:cw (bR qs) (ts\2) lk)(c:B7 (bR qs) ls f):∀k∈lk,cP f k:=λk i=>by
 have%[a,b,z,e,j|l]:=h.ends d i;exact%[a,b,z,e,(c.mem a).mpr j|(c.mem b).mpr l]
def jb.ties(h:jb mg H g qs ls ts)(c:cw (bR qs) (ts\2) lk):∀k∈lk,cP ls k:=λk d=>by
 have%[a,b,z,e,f|i]:=h.ends c d;exact%[a,b,z,e,f.1|i.1]
def oY(a:aK H ss)(h:∀k∈ss\2,cP b k):cY H b ss:=λt q=>%[(a t q).2|h _ (Xm %[t,q|rfl])]
inductive ro (mg:ZD)
 | mk (g:Addr) (qs:ZO) (ls:ZC) (ts:ZH):vs=[.ref g]->jb mg H g qs ls ts->(∀lk,cw (bR qs) (ts\2) lk->∀x,¬ Rch lk x x)->(∀l H' ns (ss:ZH),ah H H'->H' l∣.lst (ss\0)->cY H' ns ss-> ~~~ss<=150->cw (bR qs) (ts\2) (ss\2)->Q (.ref l) H')->ro mg vs H Q E0
def _root_._C.Sho.same{ks ms us:List ZC}{a b:Str}(h:Sho ks a b us)(e:∀k,k∈ks↔k∈ms):Sho ms a b us:=%[λk c=>(e k).mp (h.sub k c),h.wal,h.pos|by rw[<-oP e];exact h.min]
structure Cc (H:Hp) (lk:List ZC) (d l:Addr) (ws:ZH) (x:Str):Prop where
 ad:H d∣.xd [("ring",.ref l)]
 al:H l∣.lst (ws\0)
 tu:aK H ws
 sho:Sho lk x x (ws\2)
 min:∀y n,Dst lk y (n+1) y-> ~~~ws<=n+1
 len: ~~~ws<=200
inductive tz (mg:ZD) (vs:ZN) (H:Hp) (Q:VK) (E:XK):Prop
 | mk (g:Addr) (qs:ZO) (ls:ZC) (ts:ZH) (lk:List ZC) (us:ZN):vs=[.ref g]->jb mg H g qs ls ts->cw (bR qs) (ts\2) lk->(∃x,Rch lk x x)->(∀d l H' ws x,ah H H'->H d=none->H l=none->d≠l->Cc H' lk d l ws x->E (.ref (aJ mg "Torn")) (some d) H')->tz mg vs H Q E
def oZ(T:Txt K mg):↥6 "untorn_links" ["ground"] (ro mg):=by
 .exists T.aR,cb,C,d,%[g,qs,ls,ts,rfl,a,G|I];have%[i,j,n|o]:=a.gr;have U:=a.ll;refine%[_,%["JDG1H~<A0BDG2H~=AH~hA0BA1BDNK~R2)E+QEI1",cb.nd|d]|?_]
  show br _ _ _ [!g,none,none] H;refine am λY k1 _=>?_
  lk;refine%[g,i,j,n,qs,ls,ts,ρ,o,a.nd,a.so,⋯,a.tl,a.t3|λm H1 ss p fm q J lk u=>k1 _ _ (am λD2 k2 _=>?_)];lk;refine%[g,i,j,n,qs,ls,ts,ρ,o.up p,a.nd,a.so,⋯|λl H2 v e fl L c=>?_];have y:=oY J (a.names lk c);refine%[l,m,v,ss,ρ,L,c.nd,?_,e _ _ q,y.up e,u,λz B _=>k2 _ _ (am λD3 M _=>?_)|λr z ws x B _ N _=>(G _ lk x N.sho.rch).elim]
  .have:=_T.nodup_sub c.nd λx O=>((c.mem x).mp O).1
   lia
  .lk;rw[if_neg ∅];refine M _ _ ?_;lk;have b:=e.trans B;exact I m z v ss (p.trans b) (b _ _ q) (y.up b) u lk
def e7(T:Txt K mg):AY P w K mg base 7 "untorn_links" ["ground"] (tz mg):=by
 have%[_,_,b|_]:=T.x_Torn.ini;refine T.aR.calX cb (λH vs Q E h=>?_)
 .have%[g,qs,ls,ts,lk,us,rfl,a,y,%[x0|o]|kk]:=h;refine%[ρ|λf aa A outer s p=>?_];have%[L,M,N|O]:=a.gr;have ll:=a.ll;refine%[_,%["JDG1H~<A0BDG2H~=AH~hA0BA1BDNK~R2)E]z]!]$A2BQEI1",cb.nd|p]|?_]
  show br _ _ _ [!g,none,none] H;refine am λD1 k1 _=>?_
  lk;refine%[g,L,M,N,qs,ls,ts,ρ,O,a.nd,a.so,⋯,a.tl,a.t3|λm H1 ss U fm hm z i sl=>k1 _ _ (am λD2 k2 _=>?_)];have e:=i.mm y;rw[<-oQ e]at o;lk;refine%[g,L,M,N,qs,ls,ts,ρ,O.up U,a.nd,a.so,⋯|λl H2 ns u fl hl v=>?_];have la:=oY z (a.names i v);have B:=U.trans u;refine%[l,m,ns,ss,ρ,hl,v.nd,?_,u _ _ hm,la.up u,sl,λY C nr=>(nr _ o).elim|λr Y ws x C _ j mn=>k2 _ _ (am λD3 k3 _=>?_)]
  .have:=_T.nodup_sub v.nd λx G=>((v.mem x).mp G).1
   lia
  .lk;rw[if_pos ∅];have I:=B.trans C;have inl:∀t∈ws,t.2∈ss\2:=λt c=>Xm %[t,j.sub t c|rfl]
   have n:aK Y ws:=λt c=>%[(z t (j.sub t c)).1|C _ _ (u _ _ (z t (j.sub t c)).2)]
   refine w8 I j.at_ n j.len (λt c=>a.short i (inl t c)) (λQ q=>?_) λd l H4 s4 s5 hd J dl G hL=>kk d l H4 ws x s4 hd J dl %[G,hL,λt c=>%[(n t c).1|s5 _ _ (n t c).2],j.sho.same e,by rw[<-oP e];exact mn|j.len]
   lk;exact q
structure rq (ks:List ZC) (ns L:ZC):Prop where
 nd:L.Nodup
 mem:∀x,x∈L↔x∈ns
 ord:∀(i:Nat) x,L[i]?∣x->∀y,Ed ks x y->y∈L.take i
 lst:oW ks ns L
def rq.one{ks:List ZC}{m ms L M:ZC}(h:rq ks m L)(g:rq ks ms M)(e:∀x,x∈m↔x∈ms):L=M:=by
 have len: ~~~L= ~~~M:=Nat.le_antisymm (_T.nodup_sub h.nd λx d=>(g.mem x).mpr ((e x).mp ((h.mem x).mp d))) (_T.nodup_sub g.nd λx d=>(h.mem x).mpr ((e x).mpr ((g.mem x).mp d)));have fresh:∀{L:ZC},L.Nodup->∀{i:Nat} {x:Str},L[i]?∣x->x∉L.take i:=λ{L} nd {i x} d c=>by
  rw[<-X8 i L,Yx]at nd;exact nd.2.2 x c x (Z8 (i:=0) (by rw[getElem?_drop];exact d)) rfl
 have step:∀i,i<= ~~~L->L.take i=M.take i:=λi=>by
  induction i with
  | zero=>exact λ_=>rfl
  | succ i f=>
    intro hi;have f:=f ⋯;obtain⟨x,d⟩:∃x,L[i]?∣x:=%[_|Z4 ⋯]
    obtain⟨y,j⟩:∃y,M[i]?∣y:=%[_|Z4 ⋯]
    have q:x=y:=by
     by_cases c:x=y
     .exact c
     .have a:=g.lst i y j x ((e x).mp ((h.mem x).mp (Z8 d))) (f▸fresh h.nd d) λz l=>f▸h.ord i x d z l
      have b:=h.lst i x d y ((e y).mpr ((g.mem y).mp (Z8 j))) (f▸fresh g.nd j) λz l=>f▸g.ord i y j z l
      have:=dg a c;rw[b]at this;cases this
    rw[X7,X7,f,d,j,q]
 have:=step L.length (Zi _);rwa[Zn (Zi _),Zn ⋯]at this
inductive vq (mg:ZD)
 | mk (g:Addr) (qs:ZO) (ls:ZC) (ts:ZH) (lk:List ZC):vs=[.ref g]->jb mg H g qs ls ts->cw (bR qs) (ts\2) lk->(∀x,¬ Rch lk x x)->(∀r H' ns L,ah H H'->H r=none->H' r<*L\3->B7 (bR qs) ls ns->rq lk ns L->Q (.ref r) H')->vq mg vs H Q E0
def yb(T:Txt K mg):↥7 "order" ["ground"] (vq mg):=by
 .exists T.aS,jZ,G,p,%[g,qs,ls,ts,lk,rfl,i,j,q|I];have%[J,M,N|O]:=i.gr;have ll:=i.ll;refine%[_,%["JDG1H]%A0BEIH~:AH~hA0BA1B",jZ.nd|p]|?_]
  show br _ _ _ [!g,none] H;refine am λD1 k1 _=>?_
  lk;refine%[g,qs,ls,ts,ρ,i,λY h'=>by rw[oQ (h'.mm j)];exact q|λl H1 ns ss B hl la sl m=>k1 _ _ ?_];have e:=m.mm j;rw[<-oQ e]at q;lk;refine%[g,J,M,N,qs,ls,ts,ρ,O.up B,i.nd,i.so,⋯|λn H2 ms u fn hn d=>?_];have ml:=_T.nodup_sub d.nd λx v=>((d.mem x).mp v).1
  have o:=B.trans u;refine%[n,l,ms,ss,ρ,hn,d.nd,⋯,u _ _ hl,λt C=>%[u _ _ (la t C).1|i.names m d _ (Xm %[t,C|ρ])],sl|λr H3 L s3 hL Ln Ls z all lo fr=>?_];refine I r H3 ms L (o.trans s3) (o.free fr) hL d %[Ln,λx=>%[Ls x|λv=>Decidable.byContradiction λc=>?_],by rw[<-x5 e];exact z|by unfold oW;rw[<-x5 e];exact lo];refine BO (U:=ms.filter λy=>decide (y∉L)) (λy hy=>?_) q (List.mem_filter.mpr %[v|Zf c]);have%[a|b]:=List.mem_filter.mp hy;have%[y',e,m1|m2]:=all y a (Zo b);exact%[y',List.mem_filter.mpr %[m1|Zf m2]|e]
def tD(T:Txt K mg):AY P w K mg base 8 "order" ["ground"] (tz mg):=by
 have e7:=e7 (P:=P) (w:=w) (base:=base) T;refine T.aS.calX jZ (λH vs Q E h=>?_)
 .have%[g,qs,ls,ts,lk,us,rfl,c,d,e|i]:=h;refine%[ρ|λf b A outer s a=>?_];refine%[_,(QSs.h (ak (aP 1 jZ.nd rfl (Hc (C9 λ_ _ _ h=>h) e7 a rfl rfl rfl rfl #[↑0]))
   (av (aZ (aS (eZ T) a rfl #[aS (c8 T) a rfl #[↑0],↑1])))))|?_]
  show br _ _ _ [!g,none] H;refine am λj k1 _=>?_
  lk;exact%[g,qs,ls,ts,lk,us,ρ,c,d,e|i]
def xa{S:Str->Str->Prop}{P:Str->Prop}{x y:Str}(h:cy S x y)(e:P x)(d: ¬ P y):∃a b,(S a b\/S b a)/\P a/\ ¬ P b/\cy S x a:=by
 induction h with
 | refl=>exact(d e).elim
 | @step y z c s f=>
   by_cases p:P y
   .exact%[y,z,s,p,d|c]
   .exact f p
structure Rnd (ls:ZC) (S:Str->Str->Prop) (f:Str->Str) (r:Nat):Prop where
 con:∀z∈ls,cy S z (f z)
 dn:∀z∈ls,aO z (f z)=false
 cnt:∀m∈ls,cz S m m->(∀z∈ls,cy S m z->f z=m)\/r+1<= ~~~(ls.filter λz=>decide (f z=m))
def Rnd.nil{ls:ZC}{S:Str->Str->Prop}:Rnd ls S id 0:=%[λz _=> .refl z,λz _=>cr z|λm a _=> .inr (List.length_pos_of_mem (List.mem_filter.mpr %[a|Zf rfl]))]
structure Mid (ls:ZC) (S T:Str->Str->Prop) (f g:Str->Str):Prop where
 con:∀z∈ls,cy S z (g z)
 le:∀z∈ls,aO (f z) (g z)=false
 don:∀a b,T a b->aO (f a) (g b)=false/\aO (f b) (g a)=false
def eL{x y z:Str}(b:aO y x=false)(a:aO z y=false):aO z x=false:=by
 cases h:aO z x
 .rfl
 .by_cases e:y=x
  .rw[e,h]at a;cases a
  .rw[dI h (dg b e)]at a;cases a
def Mid.step{ls:ZC}{S T:Str->Str->Prop}{f g:Str->Str}{a b:Str}(h:Mid ls S T f g)(ws:∀x y,S x y->x∈ls/\y∈ls)(s:S a b)(sub:∀x y,T x y->S x y){v:Str}(j:v=if aO (g b) (g a)=true then g b else g a):
 Mid ls S (λx y=>T x y\/(x=a/\y=b)) f (λx=>if x=b then v else if x=a then v else g x):=by
 have%[l|m]:=ws _ _ s;have v1:aO (g a) v=false:=by
  rw[j];split
  .cases q:aO (g a) (g b)
   .rfl
   .rename_i c;have:=dI c q;rw[cr]at this;cases this
  .exact cr _
 have n:aO (g b) v=false:=by
  rw[j];split
  .exact cr _
  .rename_i c;simpa using c
 have o:cy S a v:=by
  rw[j];split
  .exact(cy.one (.inl s)).trans (h.con b m)
  .exact h.con a l
 have d:∀x∈ls,aO (g x) (if x=b then v else if x=a then v else g x)=false:=λx _=>by
  split
  .rename_i e;rw[e];exact n
  .split
   .rename_i e;rw[e];exact v1
   .exact cr _
 refine%[λz i=>?_,λz i=>eL (d z i) (h.le z i)|λx y t=>?_]
 .split
  .rename_i e;rw[e];exact(cy.one (.inr s)).trans o
  .split
   .rename_i e;rw[e];exact o
   .exact h.con z i
 .rcases t with t|⟨rfl,rfl⟩
  .have%[p|r]:=ws _ _ (sub _ _ t);exact%[eL (d y r) (h.don x y t).1|eL (d x p) (h.don x y t).2]
  .refine%[?_|?_]
   .rw[if_pos rfl];exact eL v1 (h.le x l)
   .rw[if_pos (rfl:x=x),ite_self];exact eL n (h.le y m)
def Rnd.step{ls:ZC}{S:Str->Str->Prop}{f g:Str->Str}{r:Nat}(h:Rnd ls S f r)(nd:ls.Nodup)(ws:∀x y,S x y->x∈ls/\y∈ls)(M:Mid ls S S f g):Rnd ls S g (r+1):=by
 refine%[M.con,λz d=>eL (M.le z d) (h.dn z d)|λm n p=>?_];have i:∀{y},cy S m y->aO m y=false->y=m:=λ{y} c l=>by
  by_cases q:y=m
  .exact q
  .have:=dg (p.2 _ c) q;rw[l]at this;cases this
 have j:∀z∈ls,f z=m->g z=m:=λz d e=>by
  have c:=h.con z d;have l:=M.le z d;rw[e]at c l;exact i (c.symm.trans (M.con z d)) l
 rcases h.cnt m n p with q|q
 .exact .inl λz d c=>j z d (q z d c)
 .by_cases all:∀z∈ls,cy S m z->f z=m
  .exact .inl λz d c=>j z d (all z d c)
  .obtain⟨z,d,c,ne⟩:∃z,z∈ls/\cy S m z/\f z≠m:=by
    simp only[Classical.not_forall]at all;have%[z,d,c|ne]:=all;exact%[z,d,c|ne]
   have B:f m=m:=i (h.con m n) (h.dn m n);have%[a,b,s,u,C|ca]:=xa (P:=λx=>f x=m) c B ne;have v:b∈ls:=s.elim (λs=>(ws _ _ s).2) λs=>(ws _ _ s).1
   have E:g b=m:=i ((ca.trans (.one s)).trans (M.con b v)) (by
    rcases s with s|s
    .have:=(M.don a b s).1;rwa[u]at this
    .have:=(M.don b a s).2;rwa[u]at this)
   have:=_T.nodup_sub (l:=b::ls.filter λz=>decide (f z=m)) (m:=ls.filter λz=>decide (g z=m)) (nodup_cons.mpr %[λh=>C (Zo (List.mem_filter.mp h).2)|nd.sublist List.filter_sublist]) λx o=>by
    rcases mem_cons.mp o with rfl|o
    .exact List.mem_filter.mpr %[v|Zf E]
    .have%[A|G]:=List.mem_filter.mp o;exact List.mem_filter.mpr %[A|Zf (j x A (Zo G))]
   rw[Zr]at this;exact .inr ⋯
def Cd{ls:ZC}{S:Str->Str->Prop}(ws:∀x y,S x y->x∈ls/\y∈ls):∀(n:Nat) {z:Str},xW ls z<=n->z∈ls->∃m,cz S z m:=λn=>by
 induction n with
 | zero=>
   intro z f a;refine%[z,.refl z|λy c=>?_];cases q:aO y z
   .rfl
   .have:=oM (c.within ws a) q
    lia
 | succ n g=>
   intro z f a;by_cases all:∀y,cy S z y->aO y z=false
   .exact%[z,.refl z|all]
   .simp only[Classical.not_forall]at all;have%[y,c|q]:=all;have b:=c.within ws a;have:=oM b ↑q;have%[m|e]:=g ⋯ b;exact%[m,c.trans e.1|λu d=>e.2 u (c.symm.trans d)]
def Rnd.done{ls:ZC}{S:Str->Str->Prop}{f:Str->Str}(h:Rnd ls S f ls.length)(ws:∀x y,S x y->x∈ls/\y∈ls){z:Str}(b:z∈ls):f z∈ls/\cz S z (f z):=by
 have%[m|a]:=Cd ws _ (Zi _) b;have d:=a.1.within ws b;have e:f z=m:=by
  rcases h.cnt m d %[.refl m|λy c=>a.2 y (a.1.trans c)]with q|q
  .exact q z b a.1.symm
  .have:=Yg (λz=>decide (f z=m)) ls
   lia
 rw[e];exact%[d|a]
def GE{h:Str->V}{z:Str}{v:V}{ls:ZC}(a:z∉ls):cE (ls.map λz=>((Sum.inr z:Key),h z)) (Sum.inr z) v=(ls.map λz=>((Sum.inr z:Key),h z)) ++[(Sum.inr z,v)]:=by
 unfold cE;rw[if_neg];rw[any_eq_true];rintro⟨e,b,c⟩;have%[x,d|rfl]:=Xl b;exact a (Sum.inr.inj (Zo c)▸d)
def tE{h:Str->V}:∀{ms ls:ZC},(ls++ms).Nodup->(ms.map λz=>((Sum.inr z:Key),h z)).foldl (λacc a=>cE acc a.1 a.2) (ls.map λz=>((Sum.inr z:Key),h z))=(ls++ms).map λz=>((Sum.inr z:Key),h z)
 |[],ls,_=>by simp
 | m::ms,ls,nd=>by
   have nm:m∉ls:=λq=>(nodup_append.mp nd).2.2 m q m Zm rfl
   rw[Yo,Y7,GE nm,show(ls.map λz=>((Sum.inr z:Key),h z)) ++[(Sum.inr m,h m)]=(ls++[m]).map λz=>((Sum.inr z:Key),h z) by simp,tE ↑nd];simp
def vt{h:Str->V}{ls:ZC}(nd:ls.Nodup){ps:List (Addr×Str×V)}(e:ps\2=ls.map λz=>(z,h z)):jV ps=ls.map λz=>((Sum.inr z:Key),h z):=by
 have a:=congrArg (List.map λq:Str×V=>((Sum.inr q.1:Key),q.2)) e;rw[Yp,Yp]at a;rw[show jV ps=(ps.map ((λq:Str×V=>((Sum.inr q.1:Key),q.2)) ∘ (·.2))).foldl (λacc b=>cE acc b.1 b.2) [] by rw[List.foldl_map];rfl,a];exact tE (ls:=[]) ↑nd
inductive rA
 | mk (l m:Addr) (ls:ZC) (qs:ZO):vs=[.ref l,.ref m]->H l∣.lst (qs\0)->H m<*ls\3->cF H ls qs->ls.Nodup-> ~~~ls<=63->(∀d H' f,ah H H'->H d=none->H' d∣.dK (NmD ls f)->(∀z∈ls,f z∈ls/\cz (bR qs) z (f z))->Q (.ref d) H')->rA vs H Q E0
def kB(T:Txt K mg):↥1 "_law_called" ["_law_sayings","_law_layers"] rA:=by
 .exists T.bn,cW,al,hr,%[l,m,ls,qs,rfl,hl,hm,sa,nd,an|kk];have qm: ~~~(qs\0)= ~~~qs:=Z6 _;have lm: ~~~(ls\3)= ~~~ls:=Z6 _;have ws:=iT sa;refine%[_,%["JDG2~>~^Ajb?1U1X0?2puA0A0BBDV&AcdA1BBL3EVU0L4ENKYP4ChDG5~J~&As2P4CAs2P4CBD,52P4CE,52P4CQEI2",cW.nd,↑(["_law_layer"],[]),↑["_law_layer"]|hr]|?_]
  show br _ _ _ [!l,!m,none,none,none,none] H;refine am λD1 k1 _=>?_
  lk;refine aF λL hK=>?_
  lk;refine%[%[_|SqL.of hm]|hK _ _ λF hF=>?_];refine cH (λj vs u B=>(∃o1,u=[o1])/\ah H B/\B F<*vs/\∃ps:List (Addr×Str×V),vs=ps\0/\ps\2=(ls.take j).map (λz=>(z,V.str z))/\∀q∈ps,B q.1&&&[.str q.2.1,q.2.2])
   %[%[none|rfl],ah.upd hF,ae,[],rfl,rfl|λq I=>(nomatch I)] (λ_ _ _ B ab=>ab.2.1 _ _ hm) ?_ ?_
  .intro j vs u H4 hj %[%[o1|rfl],s3,aa,ps,hv,C|U];lk;refine%[#[2]|λp hp=>?_];have r:=ah.upd (o:= .tup [V.str ls[j],V.str ls[j]]) hp;have gp:upd H4 p (.tup [V.str ls[j],V.str ls[j]]) p=_:=ae
   generalize upd H4 p (.tup [V.str ls[j],V.str ls[j]])=H6 at r gp ⊢
   have keep:=i4 (ys:=vs++[V.ref p]) (r _ _ aa);have pl:=congrArg List.length C;rw[Z6,Z6,Yj]at pl;refine CK.mk hj (r _ _ aa) (by rw[hv,Z6];exact aG ⋯) %[%[_|rfl],ah.set (s3.trans r) hF,ae,ps++[(p,ls[j],V.str ls[j])],by rw[hv,Zd];rfl,by rw[Zd,C,X7,Z4 hj,Zd];rfl|λq I=>?_];rcases Xj I with h|h
   .exact keep _ _ (r _ _ (U q h))
   .rw[Xk h];exact keep _ _ gp
  intro vs u H3 %[_,s3,ac,ps,hv,C|U];rw[Zn (Zi _)]at C;refine%[F,ρ,ps,by rw[<-hv];exact SqL.of ac,U|λd hd=>k1 _ _ (am λD2 k2 _=>aC λL hK=>?_)];rw[show jV ps=NmD ls id from vt nd C];have s4:=s3.trans (ah.upd (o:= .dK (NmD ls id)) hd);have gd:upd H3 d (.dK (NmD ls id)) d=_:=ae;have fd:=s3.free hd
  generalize upd H3 d (.dK (NmD ls id))=H4 at s4 gd
  lk;refine%[~~~ls,.inl %[_,SqL.of (s4 _ _ hm)|lm.symm],⋯,⋯|hK _ _ (cC (λi u B=>∃N O J f,u=[!l,!m,!d,N,O,J]/\ah H B/\B d∣.dK (NmD ls f)/\Rnd ls (bR qs) f i)
   %[_,_,_,id,ρ,s4,gd|.nil] ?_ ?_)]
  .intro i u H5 hi %[N,O,J,f,rfl,s5,Y|R];show vF _ _ _ _ [!l,!m,!d,some (.int (0+i)),O,J] H5;refine aE λD6 k6 _=>aC λL hK=>?_
   lk;have ag:=s5 _ _ hl;refine%[%[_|SqL.of ag]|hK _ _ (cZ (λj u B=>∃N O J g,u=[!l,!m,!d,N,O,J]/\ah H B/\B d∣.dK (NmD ls g)/\Mid ls (bR qs) (bR (qs.take j)) f g)
    %[_,_,_,f,ρ,s5,Y,R.con,λz _=>cr _|λa b ⟨q,I,_⟩=>(nomatch I)] (λj u B ⟨_,_,_,_,_,q,_⟩=>q _ _ hl) ?_ ?_)]
   .intro j q u H6 I %[N,O,J,g,rfl,r,n|M];have%[q1|q2]:=sa q (Z8 I);have st:=SqT.of (K:=K) (r _ _ q1);have G:=oN I;show jH _ _ _ _ [!l,!m,!d,N,some (.ref q.1),J] H6;refine aE λD7 k7 _=>?_
    lk;rcases q2 with⟨wd,a,b,e,hw,ha,hb,_⟩|⟨wd,a,y,e,hw,_⟩
    .rw[e]at st G;refine%[_,st,_,ρ,ρ|bA (λh=>?_) λh=>?_]
     .have h:wd=Str.ofString "same":=↑h
      subst h;have get:∀y∈ls,dF H6 d (.str y) (some (.str (g y))):=λy hy=>by
       have:=dF.k (k:=Sum.inr y) n;rw[iR hy]at this;exact this
      have ai:bR qs a b:=%[q,Z8 I|e]
      refine%[_,st,_,ρ,_,get a ha,_,st,_,ρ,_,get b hb,_,ρ,_,ρ|?_]
      generalize hv:(if aO (g b) (g a)=true then g b else g a)=v
      have hn: ~~~(NmD ls g)<sizeLine:=by unfold NmD;rw[Z6];exact aG ⋯
      have ne:q.1≠d:=λc=>by have:=r _ _ q1;rw[c,n]at this;cases this
      have P1:=ir.k (k:=Sum.inr a) (v:= .str v) n hn;rw[tf ha]at P1;refine%[_,st,_,ρ,_,P1,_,SqT.of ((aj ne).trans ((r _ _ q1).trans (by rw[e]))),_,ρ|?_];have P2:=ir.k (k:=Sum.inr b) (v:= .str v) (H:=upd H6 d (.dK (NmD ls λx=>if x=a then v else g x))) ae (by unfold NmD;rw[Z6];exact aG ⋯);rw[tf hb,xj]at P2;refine%[_,P2|k7 _ _ %[_,_,_,_,ρ,ah.set r fd,ae|?_]];have M2:=M.step ws ai (λx y ⟨p,hp,e⟩=>%[p,Yu hp|e]) hv.symm;refine%[M2.con,M2.le|λx y t=>M2.don x y (((G x y).mp t).imp id λe=>?_)];simp only[List.cons.injEq,V.str.injEq,and_true,true_and]at e;exact%[e.1.symm|e.2.symm]
     .have h:wd≠Str.ofString "same":=↑h
      refine k7 _ _ %[_,_,_,g,rfl,r,n,M.con,M.le|λx y t=>M.don x y (((G x y).mp t).resolve_right λe=>h ?_)];simp only[List.cons.injEq,V.str.injEq]at e;exact e.1
    .rw[e]at st G;refine%[_,st,_,ρ,ρ|?_];rw[if_neg (by rcases hw with rfl|rfl<;> decide)];refine k7 _ _ %[_,_,_,g,rfl,r,n,M.con,M.le|λx y t=>M.don x y (((G x y).mp t).resolve_right λe=>?_)];simp at e
   .intro u H6 %[N,O,J,g,rfl,r,n|M];rw[Zn (Zi _)]at M;exact k6 _ _ %[_,_,_,g,rfl,r,n|R.step nd ws M]
  .intro u H5 %[N,O,J,f,rfl,s5,Y|R];refine k2 _ _ ?_;lk;exact kk d H5 f s5 fd Y λz hz=>R.done ws hz
def Ce{u r:Str}{g:TG}{o:TS}{D:ik}{a:St}{H:Hp}(Pv:Nat->St->Hp->Prop)(s:Pv 0 a H)(z:r.cps.size=u.cps.size)
 (A:∀i c d T a H,u.cps[i]?∣c->r.cps[i]?∣d->Pv i a H->H T=none->g (.ref T) a (upd H T (.tup [.str ⟨([c].toArray)⟩,.str ⟨([d].toArray)⟩])) λb l=>o {D with nx:=Pv (i+1),ct:=Pv (i+1),bk:=D.nx} b l) (n:∀a H,Pv u.cps.size a H->D.nx a H):
 ∃W:Nat->Nat->St->Hp->Prop,(∃m,W 0 m a H)/\∀i m a H,W i m a H->
  ((Itz u r).stop i H/\D.nx a H)\/((Itz u r).go i H/\∃N:St->Hp->Prop,(∀f h,N f h->∃q,q<m/\W (i+1) q f h)/\∀x h,(Itz u r).yld i H x h->g x a h λb l=>o {D with nx:=N,ct:=N,bk:=D.nx} b l):=by
 refine%[λi m a H=>m=u.cps.size-i/\i<=u.cps.size/\Pv i a H,%[u.cps.size,by simp,Xb _|s]|?_];intro i m a H %[rfl,hi|p];by_cases j:i<u.cps.size
 .refine .inr %[%[j|⋯],Pv (i+1),λf h B=>%[u.cps.size-(i+1),⋯,rfl,j|B]|λv h y=>?_];have%[c,d,TT,C,n,E,rfl|rfl]:=y;exact A i c d TT a H C n p E
 .have e:i=u.cps.size:=by lia
  subst e;exact .inl %[%[Zi _,⋯|.inl rfl]|n a H p]
abbrev dQ(a:List (List Key×V))(m:ZC->Prop):Prop:=∃ks:List ZC,a\1=ks.map (λk=>k.map Sum.inr)/\ks.Nodup/\∀k,k∈ks↔m k
def vv{c:List (List Key×V)}{m j:ZC->Prop}(h:dQ c m)(k:ZC)(v:V)(f:∀z,j z↔m z\/z=k):dQ (cE c (k.map Sum.inr) v) j:=by
 have%[ks,g,l|i]:=h;have n:(k.map (Sum.inr:Str->Key))∈c\1↔k∈ks:=by
  rw[g,mem_map]
  constructor
  .rintro⟨z,p,e⟩;rw[<-mK _ _ e];exact p
  .intro d;exact%[k,d|ρ]
 by_cases d:k∈ks
 .refine%[ks,by rw[kQ,if_pos (n.mpr d)];exact g,l|λz=>?_];rw[i,f]
  constructor
  .exact .inl
  .rintro(e|e)
   .exact e
   .rw[e];exact(i k).mp d
 .refine%[ks++[k],by rw[kQ,if_neg (λq=>d (n.mp q)),g,Zd];rfl,?_|λz=>?_]
  .rw[Yx];exact%[l,by simp|λa o b r e=>by rw[Xk r]at e;rw[e]at o;exact d o]
  .rw[Yq,i,Yv,f]
def eM{a:List (List Key×V)}{m b:ZC->Prop}(h:dQ a m)(e:∀k,m k↔b k):dQ a b:=by
 have%[ks,c,d|f]:=h;exact%[ks,c,d|λk=>(f k).trans (e k)]
def yc{a:List (List Key×V)}{m:ZC->Prop}{B:List ZC}(h:dQ a m)(s:∀k,m k->k∈B): ~~~a<= ~~~B:=by
 have%[ks,b,c|d]:=h;have:=_T.nodup_sub c (m:=B) λk e=>s k ((d k).mp e)
 have l:=congrArg List.length b;rw[Z6,Z6]at l
 lia
def vw{rows:ZC}{i n:Nat}(h:i<=n){k:ZC}(a:k∈bg rows i):k∈bg rows n:=by
 unfold bg at a ⊢;have%[j,b|e]:=mem_flatMap.mp a;exact mem_flatMap.mpr %[j,mem_range.mpr (Zg (mem_range.mp b) h)|e]
def DQ{l:List (Nat×Nat)}{j:Nat}{k:ZC}(h:k∈(l.take j).filterMap d5):k∈l.filterMap d5:=by
 have%[p,a|e]:=mem_filterMap.mp h;exact mem_filterMap.mpr %[p,Yu a|e]
def GF{a:ZI}{i:Nat}{k:ZC}(h:k∈bq (a.take i)):k∈bq a:=by
 have%[p,b|e]:=mem_flatMap.mp h;exact mem_flatMap.mpr %[p,Yu b|e]
def DR{p:Nat×Nat}{k:ZC}(h:d5 p∣k):[p].filterMap d5=[k]:=by rw[Y1,h];rfl
def DS{p:Nat×Nat}(h:d5 p=none):[p].filterMap d5=[]:=by rw[Y1,h];rfl
def rB(n:Str):Str.empty++n=n:=fj (by show(([].toArray) ++n.cps).toList=_;simp)
def yd(n z:Str):n++Str.ofString "."++z=lnS n z:=by unfold lnS;rw[rB]
inductive rC
 | mk (l m u:Addr) (cs:ZI) (qs:ZO) (ls:ZC) (ks0:List ZC):vs=[.ref l,.ref m,.ref u]->H l<*cI cs->H m∣.lst (qs\0)->H u<*ls\3->cf H cs->cF H ls qs->ls.Nodup-> ~~~ls<=63-> ~~~qs<=60->(∀p∈cs,∀a,Let p.2.2 a->lnS p.2.1 (sgn a)∈ls)-> ~~~ks0<=150->(∀k∈ks0,cP ls k)->(∀k,k∈ks0↔k∈bq cs\/k∈cN qs qs.length)->(∀r H' (ss:ZH),ah H H'->H r=none->H' r∣.lst (ss\0)->aK H' ss->cw (bR qs) ks0 (ss\2)-> ~~~ss<=150->Q (.ref r) H')->rC vs H Q E0
def vy(T:Txt K mg):↥2 "_law_links" ["_law_cuts","_law_sayings","_law_layers"] rC:=by
 .exists T.bo,bD,c4,hr,%[l,m,u,cs,qs,ls,U,rfl,hl,hm,hu,co,bm,nd,ct,c5,bt,b0,tok,a3|kk];have b1: ~~~(cI cs)= ~~~cs:=Z6 _;have cv: ~~~(qs\0)= ~~~qs:=Z6 _;refine%[_,(QSs.h (ak (aP 3 bD.nd rfl (aS (kB T) hr rfl #[↑1,↑2]))
   (ak (aP 4 bD.nd rfl F4)
   (ak (cQ PassesOwn.never rfl rfl (cV (K:=K) rfl ↑0) (gB (K:=K) rfl rfl rfl (gsE rfl (aT 5 bD.nd rfl) (gsE rfl (aT 6 bD.nd rfl) dq)))
   (ak (aP 7 bD.nd rfl (bmO (K:=K) plainAttrs_str PySem.F.slot_str_split PySem.F.type_str_split xy rfl ↑6 #[dW]))
    (av (cQ PassesOwn.never rfl rfl (gW rfl T.aj rfl #[(opE nt (cbO (cO (K:=K) rfl) T.a8 PySem.boot_len rfl #[↑7]) ay)]) (aT 8 bD.nd rfl)
    (av (cQ PassesOwn.never rfl rfl (AH rfl T.af rfl rfl #[(↑7>>↑8),(↑7>>(opE bL ↑8 ay))]) (gB (K:=K) rfl rfl rfl (gsE rfl (aT 9 bD.nd rfl) (gsE rfl (aT 10 bD.nd rfl) dq)))
     (av (ifS (wT (jt (bu ee rfl ↑9 dW) (fM (bu ee rfl ↑9 ↑10))))
      (av (iF hr rfl eBl ↑4 (iz #[(dw hr (λ_ _=>rfl) ↑3 (opE jz (opE jz ↑5 dW) ↑9)),(dw hr (λ_ _=>rfl) ↑3 (opE jz (opE jz ↑5 dW) ↑10)),↑5])))
      bn))))))))
   (ak (cQ PassesOwn.never rfl rfl (gW rfl T.aj rfl #[(cbO (cO (K:=K) rfl) T.a8 PySem.boot_len rfl #[↑1])]) (aT 11 bD.nd rfl)
   (av (ifS (bu cx rfl ((↑1>>↑11)*>ay) dW)
    (av (iF hr rfl eBl ↑4 (iz #[(dw hr (λ_ _=>rfl) ↑3 ((↑1>>↑11)*>ay)),(dw hr (λ_ _=>rfl) ↑3 ((↑1>>↑11)*>ay)),opE jz dW (ctO ⟨rK⟩ T.ab boot_str rfl #[↑11])])))
    bn)))
   (av (aZ (cbO (y4 rfl) T.a7 boot_sorted rfl #[↑4]))))))))|?_]
  show br _ _ _ [!l,!m,!u,none,none,none,none,none,none,none,none,none] H;refine am λD0 k0 _=>?_
  lk;refine%[m,u,ls,qs,ρ,hm,hu,bm,nd,ct|λd H0 g s0 fd a4 lg=>k0 _ _ (am λD1 k1 _=>?_)];have get:∀{H':Hp},H' d∣.dK (NmD ls g)->∀y∈ls,dF H' d (.str y) (some (.str (g y))):=λ{H'} e y hy=>by
   have:=dF.k (k:=Sum.inr y) e;rw[iR hy]at this;exact this
  lk;intro L hL;refine k1 _ _ (am λD2 k2 _=>aC λag hK=>?_);lk;have s1:=ah.upd (o:= .dT []) hL;have nL:L≠d:=λe=>by rw[e,a4]at hL;cases hL
  have a2:∀X:List ZC,(∀t∈X,t∈U)->∀k,k∈X.map (dc g)->k∈U.map (dc g):=λX h k hk=>by
   have%[t,ht|e]:=Xl hk;exact Xm %[t,h t ht|e]
  have kl: ~~~(U.map (dc g))<=150:=by rw[Z6];exact b0
  refine%[%[_|SqL.of (s1 _ _ (s0 _ _ hl))]|hK _ _ (fK (λi σ H'=>∃o5 o6 o7 o8 o9 C,σ=[!l,!m,!u,!d,!L,o5,o6,o7,o8,o9,C,none]/\ah H0 H'/\∃G,H' L∣.dT G/\dQ G λk=>k∈(bq (cs.take i)).map (dc g))
   %[_,_,_,_,_,_,ρ,s1,[],ae,[],ρ,Yz|λk=>Iff.rfl] (λi σ H' _ ⟨_,_,_,_,_,_,_,q,_⟩=>SqL.of (q _ _ (s0 _ _ hl))) ?_ ?_)]
  .intro i x σ H1 hx %[o5,o6,o7,o8,o9,C,rfl,sm,G,al|an];have hi:i< ~~~cs:=by rw[<-b1];exact(Xi hx).1
   obtain⟨q,hq,rfl⟩:∃q,cs[i]?∣q/\x=V.ref q.1:=by
    unfold cI at hx;rw[Zl,Z4 hi]at hx;exact%[cs[i],Z4 hi|(Za hx).symm]
   have a5:=Z8 hq;have ab:=co q a5;have a6:∀S:List ZC,(∀k∈S,k∈bg q.2.2 (~~~q.2.2-1))->∀k∈bq (cs.take i) ++S.map (fC q.2.1),k∈U:=λS hS k hk=>by
    refine(a3 k).mpr (.inl ?_);rcases Xj hk with e|e
    .exact GF e
    .have%[z,hz|rfl]:=Xl e;exact mem_flatMap.mpr %[q,a5|Xm %[z,hS z hz|rfl]]
   have b2:=kz ab.2.1;have ar:=bt q a5;refine%[_,SqT.of (sm _ _ (s0 _ _ ab.1)),ρ,_,_,ρ,_,_,ρ,ρ|?_];have B:=ko hq;obtain⟨⟨a,n,rows⟩,e⟩:∃z,z=q:=%[q|rfl]
   subst e;have%[_,_|J]:=ab;have J:ci rows:=J;have ar:∀a,Let rows a->lnS n (sgn a)∈ls:=ar;have a6:∀S:List ZC,(∀k∈S,k∈bg rows (~~~rows-1))->∀k∈bq (cs.take i) ++S.map (fC n),k∈U:=a6;have B:bq (cs.take (i+1))=bq (cs.take i) ++(bg rows (~~~rows-1)).map (fC n):=B;have b2: ~~~n<=8:=b2;have%[wd,w1,w2|b3]:=J.wide;have cM:=J.text;have b4:=J.split;have c7:=J.high;have da:=J.pos;show br _ _ _ [!l,!m,!u,!d,!L,-n,some (.str (Str.join nl rows)),o7,o8,o9,C,none] H1
   generalize Str.join nl rows=z at cM b4
   refine am λD3 k3 _=>?_
   lk;refine%[!1,Ye (by lia: ~~~z+2<=5000) (!1)|λR hR=>k3 _ _ ?_];rw[show(!"\n")=nl from rfl,b4];have sR:=ah.upd (o:= .lst (rows\3)) hR;have gR:upd H1 R (.lst (rows\3)) R=_:=ae;have b5:=sR _ _ al;have b6:=sm.trans sR;have c0:R≠L:=λe=>by rw[e,al]at hR;cases hR
   generalize upd H1 R (.lst (rows\3))=dd at sR gR b5 b6
   refine aE λD4 k4 _=>aC λag hK=>?_
   lk;have en:((~~~rows:Int) -1).toNat= ~~~rows-1:=by lia
   refine%[~~~rows,.inl %[_,SqL.of gR|by simp],⋯,⋯|?_];rw[en];refine hK _ _ (cC (λj σ H2=>∃o8 o9 C,σ=[!l,!m,!u,!d,!L,-n,-z,!R,o8,o9,C,none]/\ah H0 H2/\H2 R<*rows\3/\∃G,H2 L∣.dT G/\dQ G λk=>k∈(bq (cs.take i) ++(bg rows j).map (fC n)).map (dc g))
    %[_,_,_,rfl,b6,gR,G,b5|eM an λk=>by rw[show bg rows 0=[]from rfl,map_nil,Zx]] ?_ ?_)
   .intro j σ H2 hj %[o8,o9,C,rfl,I,as,M,O|N];have hj:j< ~~~rows-1:=hj;show vF _ _ _ _ [!l,!m,!u,!d,!L,-n,-z,!R,some (.int ((0:Int) +(j:Int))),o9,C,none] H2;rw[Int.zero_add];refine aE λD5 k5 _=>aC λag hK=>?_
    lk;obtain⟨v,hv⟩:∃v,rows[j]?∣v:=%[rows[j]|by simp[show j< ~~~rows by lia]]
    obtain⟨r,aa⟩:∃r,rows[j+1]?∣r:=%[rows[j+1]|by simp[show j+1< ~~~rows by lia]]
    have ul:v.cps.size=wd:=b3 v (Z8 hv);have rl:r.cps.size=wd:=b3 r (Z8 aa);have aU:atI (rows\3) (j:Int)∣.str v:=cg (by rw[Zl,hv];rfl);have aR:atI (rows\3) ((j:Int) +1)∣.str r:=cg (j:=j+1) (by rw[Zl,aa];rfl);have g1:rows.getD j ⟨([].toArray)⟩=v:=by rw[Zc,hv];rfl
    have g2:rows.getD (j+1) ⟨([].toArray)⟩=r:=by rw[Zc,aa];rfl
    have b7:bg rows (j+1)=bg rows j++(List.zip v.cps.toList r.cps.toList).filterMap d5:=by rw[kg,g1,g2];rfl
    refine%[_,SqL.of as,_,aU,_,SqL.of as,_,aR,v,ρ,r,ρ|hK _ _ (Ce (λt σ H3=>∃o9 C,σ=[!l,!m,!u,!d,!L,-n,-z,!R,some (.int (j:Int)),o9,C,none]/\ah H0 H3/\H3 R<*rows\3/\∃G,H3 L∣.dT G/\dQ G λk=>k∈(bq (cs.take i) ++(bg rows j++((List.zip v.cps.toList r.cps.toList).take t).filterMap d5).map (fC n)).map (dc g))
     %[_,_,ρ,I,as,M,O|eM N λk=>by rw[List.take_zero,List.filterMap_nil,Zx]] ⋯ ?_ ?_)]
    .intro t c e TT σ H3 hc he %[o9,C,rfl,a7,bb,Y,bc|ac] hT;have sT:=ah.upd (o:= .tup [.str ⟨([c].toArray)⟩,.str ⟨([e].toArray)⟩]) hT;have b9:upd H3 TT (.tup [.str ⟨([c].toArray)⟩,.str ⟨([e].toArray)⟩]) TT&&&[.str ⟨([c].toArray)⟩,.str ⟨([e].toArray)⟩]:=ae;have ai:=a7.trans sT;have a0:=sT _ _ bb;have a1:=sT _ _ bc
     generalize upd H3 TT (.tup [.str ⟨([c].toArray)⟩,.str ⟨([e].toArray)⟩])=HT at b9 ai a0 a1
     refine%[_,SqT.of b9,ρ,_,_,ρ,_,_,ρ,ρ|?_];show jH _ _ _ _ [!l,!m,!u,!d,!L,-n,-z,!R,some (.int (j:Int)),some (.str ⟨([c].toArray)⟩),some (.str ⟨([e].toArray)⟩),none] HT;refine aE λD6 k6 _=>?_
     have nx:=oB v r t c e hc he;have stay:d5 (c,e)=none->dQ Y λk=>k∈(bq (cs.take i) ++(bg rows j++((List.zip v.cps.toList r.cps.toList).take (t+1)).filterMap d5).map (fC n)).map (dc g):=λe=>eM ac λk=>by
      rw[<-nx,Y0,DS e,Zx]
     lk;simp only[li,wW];have c1:∀k∈bg rows j++((List.zip v.cps.toList r.cps.toList).take t).filterMap d5,k∈bg rows (~~~rows-1):=λk hk=>by
      rcases Xj hk with e|e
      .exact vw ⋯ e
      .refine vw (i:=j+1) ⋯ ?_;rw[b7];exact Ys _ (DQ e)
     refine bA (λh1=>bA (λh2=>?_) λh2=>?_) λh1=>?_
     .have h2:c≠e:=↑h2
      have h1:c≠46:=↑h1
      have ed:(!".").length=1:=rfl;have l1: ~~~n+(!".").length<=sizeLine:=bH ⋯;have l2:∀c:Nat,(n++Str.ofString ".").length+ ~~~(⟨([c].toArray)⟩:Str)<=sizeLine:=λc=>bH (by
       have e:(n++Str.ofString ".").length= ~~~n+(!".").length:=size_append;have e1: ~~~(⟨([c].toArray)⟩:Str)=1:=rfl
       lia)
      have%[lc|le]:=lu J (a:=c) (b:=e) %[h1,h2,j,t,v,r,hv,aa,hc|he];have ca:=ai _ _ a4;rw[yd,yd];refine%[l1,l2 c,_,get ca _ (ar c lc),l1,l2 e,_,get ca _ (ar e le),#[3]|λp hp=>?_];have sp:=ah.upd (o:= .tup [V.str (g (lnS n (sgn c))),V.str (g (lnS n (sgn e))),V.str n]) hp;have c2:=yc ac (a2 _ (a6 _ c1));refine%[_,ir.t (k:=(dc g (fC n [sgn c,sgn e])).map Sum.inr) (sp _ _ a1) (by rw[ae];rfl) (by rw[PySem.sizeLine_eq];lia)|k6 _ _ %[_,_,ρ,λb o e=>by rw[aj (ax e hL)];exact sp _ _ (ai _ _ e),(aj c0).trans (sp _ _ a0),_,ae|vv ac _ _ λk=>?_]];rw[<-nx,Y0,DR (if_pos %[h1|h2]),<-Ze,Zd (f:=fC n),<-Ze,Zd,Yq];exact or_congr Iff.rfl Yv
     .exact k6 _ _ %[_,_,rfl,ai,a0,Y,a1|stay (if_neg λq=>q.2 ↑h2)]
     .exact k6 _ _ %[_,_,rfl,ai,a0,Y,a1|stay (if_neg λq=>q.1 ↑h1)]
    .intro σ H3 %[o9,C,rfl,a7,bb,Y,bc|ac];rw[Zn (l:=List.zip v.cps.toList r.cps.toList) (by rw[length_zip];simp;lia),<-b7]at ac;exact k5 _ _ %[_,_,_,rfl,a7,bb,Y,bc|ac]
   .intro σ H2 %[o8,o9,C,rfl,I,as,M,O|N];rw[<-B]at N;exact k4 _ _ %[_,_,_,_,_,_,rfl,I,M,O|N]
  .intro σ H1 %[o5,o6,o7,o8,o9,C,rfl,sm,G,al|an];rw[b1,Zn (Zi _)]at an;refine k2 _ _ (am λD3 k3 _=>aC λag hK=>?_);lk;have cd:=s0 _ _ hm;refine%[~~~qs,.inl %[_,SqL.of (sm _ _ cd)|cv.symm],⋯,⋯|?_];rw[Int.toNat_natCast];refine hK _ _ (cC (λi σ H2=>∃bf,σ=[!l,!m,!u,!d,!L,o5,o6,o7,o8,o9,C,bf]/\ah H0 H2/\∃G,H2 L∣.dT G/\dQ G λk=>k∈(bq cs++cN qs i).map (dc g))
    %[_,rfl,sm,G,al|eM an λk=>by rw[show cN qs 0=[]from rfl,Zx]] ?_ ?_)
   .intro i σ H2 hi %[bf,rfl,I,M,O|N];have hi:i< ~~~qs:=hi;show jH _ _ _ _ [!l,!m,!u,!d,!L,o5,o6,o7,o8,o9,C,some (.int ((0:Int) +(i:Int)))] H2;rw[Int.zero_add];refine aE λD4 k4 _=>?_
    obtain⟨q,hq⟩:∃q,qs[i]?∣q:=%[qs[i]|Z4 hi]
    have aq:atI (qs\0) (i:Int)∣.ref q.1:=cg (by rw[Zl,hq];rfl);have ab:=bm q (Z8 hq);have st:=SqT.of (K:=K) (I _ _ (s0 _ _ ab.1));have sl:=SqL.of (K:=K) (I _ _ cd);have B:=eF hq;lk;rcases ab.2 with⟨wd,a,b,e,hw,ha,hb,_⟩|⟨wd,a,y,e,hw,_⟩
    .rw[e]at st B;refine%[_,sl,_,aq,_,ρ,_,st,_,ρ,ρ|bA (λbl=>?_) λbl=>?_]
     .rw[show iQ i [V.str wd,V.str a,V.str b]∣[a,b,sW i]from if_pos (V.str.inj (Zo bl))]at B;have c3: ~~~(Str.ofString (toString (i:Int)))<=21:=by
       have e:=PySem.int_text_length_le10 (a:=(i:Int)) (k:=20) (!1) (by have:(i:Int).natAbs=i:=rfl;lia);rw[PySem.ofString_length];lia
      have e1:(!"#").length=1:=!0
      have ch:(i:Int).natAbs.log2<1920:=Nat.lt_of_le_of_lt (Nat.log2_le_self _) (by have:(i:Int).natAbs=i:=rfl;lia);have cl:=I _ _ a4;refine%[_,sl,_,aq,_,ρ,_,st,_,ρ,_,get cl a ha,_,sl,_,aq,_,ρ,_,st,_,ρ,_,get cl b hb,ch,bH ⋯,#[3]|λp hp=>?_];rw[show Str.ofString "#"++Str.ofString (toString (i:Int))=sW i from by unfold sW;rw[rB]];have sp:=ah.upd (o:= .tup [V.str (g a),V.str (g b),V.str (sW i)]) hp;have c2:=yc N (a2 _ λt ht=>(a3 t).mpr ((Xj ht).imp id λh=>?_))
      .refine%[_,ir.t (k:=(dc g [a,b,sW i]).map Sum.inr) (sp _ _ O) (by rw[ae];rfl) (by rw[PySem.sizeLine_eq];lia)|k4 _ _ %[_,ρ,λb o e=>by rw[aj (ax e hL)];exact sp _ _ (I _ _ e),_,ae|vv N _ _ λk=>?_]];rw[B,<-Ze,Zd,Yq];exact or_congr Iff.rfl Yv
      .have%[j,hj|e]:=mem_filterMap.mp h;exact mem_filterMap.mpr %[j,mem_range.mpr (by have:=mem_range.mp hj;lia)|e]
     .rw[show iQ i [V.str wd,V.str a,V.str b]=none from if_neg λz=>bl (Zf (by rw[z]))]at B;refine k4 _ _ %[_,rfl,I,M,O|?_];rw[B];exact eM N λk=>by rw[Option.toList_none,Zx]
    .rw[e]at st B;refine%[_,sl,_,aq,_,ρ,_,st,_,ρ,ρ|?_];rw[if_neg (by rcases hw with rfl|rfl<;> decide)];refine k4 _ _ %[_,rfl,I,M,O|?_];rw[B];exact eM N λk=>by show _↔_∈List.map _ (_++(_++[]));rw[Zx]
   .intro σ H2 %[bf,rfl,I,M,O|N];refine k3 _ _ ?_;lk;have%[ks,q1,q2|q3]:=N;have q3:∀k,k∈ks↔k∈U.map (dc g):=λk=>by
     refine(q3 k).trans ?_;dsimp only;rw[mem_map,mem_map];exact exists_congr λt=>and_congr_left λ_=>by rw[a3,Yq]
    have lk:=oR tok (λz hz=>(lg z hz).2);have de: ~~~ks<=150:=by
     have:=_T.nodup_sub q2 (m:=U.map (dc g)) λk hk=>(q3 k).mp hk
     lia
    have h3:∀k∈ks,~~~k=3:=λk hk=>by
     have%[a,b,z,a',b',_,_,_|rfl]:=(lk k).mp ((q3 k).mp hk);rfl
    refine%[M,O,ks,q1,3,h3,!1,⋯|λr ss aa ta pm=>?_];have s2:=ah.upd (o:= .lst (ss\0)) aa;exact kk r _ ss (s0.trans (I.trans s2)) (s0.free (I.free aa)) ae (aY ta λb z e=>s2 _ _ e) %[pm.nodup_iff.mpr q2|λk=>by rw[pm.mem_iff,q3,lk]] (by have:=pm.length_eq;rw[Z6]at this;lia)
def Dst.first{ks:List ZC}{a b:Str}{n:Nat}(h:Dst ks a (n+1) b):∃c,Ed ks a c/\Dst ks c n b:=by
 have%[us,d,f|g]:=h;cases us with
 | nil=>cases d
 | cons k r=>
   have%[c,z,e|h]:=g;exact%[c,%[z|by rw[<-e];exact f k Zm],r,↑d,λk i=>f k (Zk _ i)|h]
structure Bfs (ks:List ZC) (st:Str) (T F:ZC) (k:Nat):Prop where
 lv:∀x∈T,∃m,m<=k/\Dst ks st m x
 fr:∀x∈F,Dst ks st k x
 key:∀n,1<=n->Dst ks st n st->∃x∈F,∃j,1<=j/\Dst ks x j st/\k+j<=n
def Bfs.nil{ks:List ZC}{st:Str}:Bfs ks st [st] [st] 0:=
 %[λx a=>%[0,Zi _|by rw[Xk a];exact .nil],λx a=>by rw[Xk a];exact .nil|λn h d=>%[st,mem_singleton.mpr rfl,n,h,d|⋯]]
def Bfs.step{ks:List ZC}{st:Str}{T F r f:ZC}{k:Nat}(h:Bfs ks st T F k)(A:∀x∈F,¬ Ed ks x st)(s:∀y,y∈f↔(∃x∈F,Ed ks x y)/\y∉T)(B:∀y,y∈r->y∈T\/y∈f):Bfs ks st r f (k+1):=by
 have u:∀x∈f,Dst ks st (k+1) x:=λy l=>by
  have%[x,g|e]:=((s y).mp l).1;exact(h.fr x g).app e.dst
 refine%[λy l=>?_,u|λn=>?_]
 .rcases B y l with q|q
  .have%[m,C|d]:=h.lv y q;exact%[m,⋯|d]
  .exact%[k+1,Zi _|u y q]
 .induction n using Nat.strongRecOn with
  | _ n E=>
    intro n1 d;have%[x,g,j,N,G|O]:=h.key n n1 d;obtain⟨j,rfl⟩:∃i,j=i+1:=%[j-1|⋯]
    have%[y,e|o]:=Dst.first G
    have H:1<=j:=pos_of_ne_zero λz=>by
     subst z;have%[us,I,_|v]:=o;rw[length_eq_zero_iff.mp I]at v;rw[show y=st from v]at e;exact A x g e
    by_cases q:y∈T
    .have%[m,C|J]:=h.lv y q;have%[L,p,M,a,b|c]:=E (m+j) ⋯ ⋯ (J.app o);exact%[L,p,M,a,b|⋯]
    .exact%[y,(s y).mpr %[%[x,g|e]|q],j,H,o|⋯]
abbrev e8(ks:List ZC)(S:Str->Prop)(v:V):Prop:=(v= .non/\∀x,S x->∀n,1<=n-> ¬ Dst ks x n x)\/∃n:Nat,v= .int n/\1<=n/\(∃y,Dst ks y n y)/\∀x,S x->∀m,1<=m->Dst ks x m x->n<=m
def e8.more{ks:List ZC}{S c:Str->Prop}{v:V}{st:Str}(h:e8 ks S v)(f:∀n,1<=n->Dst ks st n st->∃m:Nat,v= .int m/\m<=n)(g:∀x,c x->S x\/x=st):e8 ks c v:=by
 rcases h with⟨rfl,h⟩|⟨n,rfl,n1,y,h⟩
 .refine .inl %[rfl|λx b m a d=>?_];rcases g x b with q|rfl
  .exact h x q m a d
  .have%[_,e|_]:=f m a d;cases e
 .refine .inr %[n,rfl,n1,y|λx b m a d=>?_];rcases g x b with q|rfl
  .exact h x q m a d
  .have%[i,e|j]:=f m a d;have:=V.int.inj e
   lia
def e8.found{ks:List ZC}{S b:Str->Prop}{v:V}{st:Str}{T F:ZC}{k:Nat}(h:e8 ks S v)(B:Bfs ks st T F k){x:Str}(c:x∈F)(e:Ed ks x st)(lt:∀n:Nat,v= .int n->k<n)(f:∀x,b x->S x\/x=st):e8 ks b (.int (k+1:Nat)):=by
 refine .inr %[k+1,rfl,⋯,%[st|(B.fr x c).app e.dst]|λy g m a d=>?_];rcases f y g with q|rfl
 .rcases h with⟨_,h⟩|⟨n,rfl,_,_,h⟩
  .exact(h y q m a d).elim
  .have:=h y q m a d;have:=lt n rfl
   lia
 .have%[_,_,j,i,_|l]:=B.key m a d
  lia
def pc{t:TT}{b:_L.St}{H:Hp}{Q:Bool->Hp->Prop}(h:∀K:Bool->Hp->Prop,(∀a,Q true a->K true a)->(∀a,Q false a->K false a)->t b H K):t b H Q:=h Q (λ_ q=>q) λ_ q=>q
def Cf{y:Str}:∀{T:ZC},(cD (T.map λz=>((Sum.inr z:Key),V.bl true)) (Sum.inr y)).isSome=decide (y∈T)
 |[]=>rfl
 | x::T=>by
   by_cases e:x=y
   .subst e;rw[Yo,dS rfl];simp
   .rw[Yo,cS (λq=>e (Sum.inr.inj q)),Cf];have:y≠x:=λq=>e q.symm
    simp[this]
abbrev fs3(k:ZC):Str:=k.getD 0 Str.empty
abbrev sn3(k:ZC):Str:=k.getD 1 Str.empty
inductive vz
 | mk (r:Addr) (ns:ZC) (ss:ZH):vs=[.ref r]->H r∣.lst (ss\0)->cY H ns ss-> ~~~ns<=60-> ~~~ss<=150->(∀H' v,ah H H'->e8 (ss\2) (λ_=>True) v->Q v H')->vz vs H Q E0
def lC(T:Txt K mg):↥1 "_law_least_ring" ["_law_tied"] vz:=by
 .exists T.bp,aL,cM,hr,%[r,ns,ss,rfl,ar,ai,c0,a3|kk];have sm: ~~~(ss\0)= ~~~ss:=Z6 _;refine%[_,%["JDG1)DVU*~ZA:|Ajb?1U0X0?2pP0CBBL2D'3ef]&]'2x](D'4efTA2BDG5CE~AZwK~_M4TB$ZrK~;1)yK;51DG5Fa5CD~C6feb?3U0X0?4/K=P0CM1P0CENK=26DG15E'4efTBD'4ef*~ZA:|Ajb?5U6X0?6/~Q0M10BBEW])]*M3A~>~^Ajb?7UM4X0?8puA0AxBBBEI1",aL.nd,↑(["_law_link"],[]),↑["_law_link"],↑(["_law_link","_law_edge"],[(1,4)]),↑["_law_link","_law_edge"],↑(["_law_end","_law_there"],[(1,3)]),↑["_law_end","_law_there"],↑(["_law_end"],[]),↑["_law_end"]|hr]|?_]
  show br _ _ _ [!r,none,none,none,none,none,none] H;refine am λD1 k1 _=>?_
  lk;refine k1 _ _ (am λD2 k2 _=>aC λaa hK=>?_);lk;refine aF λb6 b7=>?_
  lk;refine%[%[_|SqL.of ar]|b7 _ _ λF hF=>?_];refine cH (λj vs u B=>(∃o1,u=[o1])/\ah H B/\B F<*vs/\vs=((ss.take j).map λt=>fs3 t.2)\3)
   %[%[none|rfl],ah.upd hF,ae|rfl] (λ_ _ _ B O=>O.2.1 _ _ ar) ?_ ?_
  .intro j vs u H4 U %[%[o1|rfl],s3,b9|g];have%[q1,a,b,z,e|_]:=ai ss[j] (Ya U);lk;refine%[_,SqT.of (s3 _ _ q1),V.str (fs3 ss[j].2),by rw[e];rfl|CK.mk U b9 (by rw[g,Z6,Z6,Yj];exact aG ⋯) %[%[_|ρ],ah.set s3 hF,ae|?_]];rw[g,X7,Z4 U,Zd,Zd];rfl
  intro vs u H1 %[_,s1,ca|g];rw[Zn (Zi _)]at g;subst g;lk;have mem:∀t∈ss,fs3 t.2∈ns/\sn3 t.2∈ns:=λt J=>by
   have%[_,a,b,z,e,ha|hb]:=ai t J;rw[e];exact%[ha|hb]
  have cd: ~~~(aA (ss.map λt=>fs3 t.2))<64:=by
   have:=_T.nodup_sub (bE (ss.map λt=>fs3 t.2)) (m:=ns) λx I=>by
    have%[t,J|rfl]:=Xl (aQ.mp I);exact(mem t J).1
   lia
  refine%[_,SqL.of ca,by rw[Z6];lia|λl fl=>%[_,ae,cd|λm us fm pm _=>%[%[_|SqL.of ae]|hK _ _ ?_]]];have s2:=s1.trans ((ah.upd (o:=d6 w l (aA (ss.map λt=>fs3 t.2))) fl).trans (ah.upd (o:= .lst (us\3)) fm));have hm:upd (upd H1 l (d6 w l (aA (ss.map λt=>fs3 t.2)))) m (.lst (us\3)) m=_:=ae
  generalize upd (upd H1 l (d6 w l (aA (ss.map λt=>fs3 t.2)))) m (.lst (us\3))=H2 at s2 hm
  have um: ~~~(us\3)= ~~~us:=Z6 _;have ed:∀{x y},Ed (ss\2) x y↔∃t∈ss,fs3 t.2=x/\sn3 t.2=y:=λ{x y}=>by
   constructor
   .rintro⟨z,hz⟩;have%[t,J|e]:=Xl hz;exact%[t,J,by rw[e];rfl|by rw[e];rfl]
   .rintro⟨t,J,rfl,rfl⟩;have%[_,a,b,z,e|_]:=ai t J;exact%[z|Xm %[t,J|by rw[e];rfl]]
  have ch:=s2 _ _ ar;refine cZ (λi u B=>(∃v o2 o3 o4 o5 o6,u=[!r,some v,o2,o3,o4,o5,o6]/\e8 (ss\2) (λx=>x∈us.take i) v)/\ah H2 B)
   %[%[_,_,_,_,_,_,rfl|.inl %[rfl|λx I=>(nomatch I)]]|λ_ _ e=>e] (λi u B h=>h.2 _ _ hm) ?_ ?_
  .intro i st u H3 cl %[%[v,o2,o3,o4,o5,o6,rfl|lr]|s3];have tk:∀x,x∈us.take (i+1)->x∈us.take i\/x=st:=λx I=>by
    rw[X7,cl]at I;exact(Xj I).imp id Xk
   show br _ _ _ [!r,some v,-st,o3,o4,o5,o6] H3;refine am λD3 k3 _=>?_
   lk;intro p fp;refine%[ae,[(Sum.inr st,.bl true)],ρ,(by decide:1<=15)|k3 _ _ (am λD4 k4 _=>?_)];have s4:=ah.upd (o:= .dK [(Sum.inr st,.bl true)]) fp;rw[xj];have hp:upd H3 p (.dK [(Sum.inr st,.bl true)]) p=_:=ae;rw[show iu [] [((Sum.inr st:Key),V.bl true)]=[(Sum.inr st,.bl true)]from rfl]
   generalize upd H3 p (.dK [(Sum.inr st,.bl true)])=H4 at s4 hp
   lk;refine%[#[1]|λe fe=>k4 _ _ (am λD5 k5 _=>?_)];lk;refine k5 _ _ ?_;have s5:=s4.trans (ah.upd (o:= .lst [.str st]) fe);have hp:=ah.upd (o:= .lst [.str st]) fe _ _ hp;have he:upd H4 e (.lst [.str st]) e=_:=ae
   generalize upd H4 e (.lst [.str st])=H5 at s5 hp he
   refine⟨λm u B=>∃(v':V) (e:Addr) (o6:Option V) (k:Nat) (T F:ZC),u=[!r,some v',-st,!p,!e,some (.int k),o6]/\ah H3 B/\B p∣.dK (T.map λz=>(Sum.inr z,V.bl true))/\B e<*F\3/\T.Nodup/\(∀x∈T,x∈st::ns)/\m=2*(70-T.length) +F.length.min 1/\((v'=v/\Bfs (ss\2) st T F k)\/(F=[]/\e8 (ss\2) (λx=>x∈us.take (i+1)) v')),
    %[_,v,e,_,0,[st],[st],rfl,s5,hp,he,by simp,by simp,rfl|.inl %[rfl|.nil]],?_⟩
   intro m u H6 %[v',e,o6,k,T,F,rfl,s6,co,a4,Tn,Ts,rfl|a5];have c1: ~~~T<=61:=by
    have:=_T.nodup_sub Tn Ts;rw[Zr]at this
    lia
   refine pc λKt hT hF=>?_
   lk;refine%[#[0]|λq fq=>%[_,ah.upd fq _ _ a4,ae|?_]];have s7:=s6.trans (ah.upd (o:= .lst []) fq);have as:=ah.upd (o:= .lst []) fq _ _ co;have a6:=ah.upd (o:= .lst []) fq _ _ a4
   generalize upd H6 q (.lst [])=H7 at s7 as a6
   have done:e8 (ss\2) (λx=>x∈us.take (i+1)) v'->Kt false H7:=λh=>hF _ (by
    rw[if_neg ∅];exact%[%[v',_,_,_,_,_,ρ|h]|s3.trans s7])
   have go:F≠[]->v'=v->Bfs (ss\2) st T F k->(∀n:Nat,v= .int n->k<n)->Kt true H7:=by
    rintro Fn rfl BF lt;refine hT _ ?_;rw[if_pos rfl];refine%[_,λ_ _ h=>h|?_];refine am λD6 k6 _=>?_
    lk;refine k6 _ _ (am λD7 k7 _=>aF λaa hK=>?_);lk;have a7:=s7 _ _ (s3 _ _ ch);have cs:=s2.trans (s3.trans s7);refine%[%[_|SqL.of a7]|hK _ _ λG hG=>?_];refine cH (λj vs u B=>(∃o1,u=[o1,!e])/\ah H7 B/\B G<*vs/\vs=(((ss.take j).filter λt=>decide (fs3 t.2∈F)).map λt=>sn3 t.2)\3)
     %[%[none|rfl],ah.upd hG,ae|rfl] (λ_ _ _ B O=>O.2.1 _ _ a7) ?_ ?_
    .intro j vs u H9 U %[%[o1|rfl],s8,bb|g];have%[q1,a,b,z,ez|_]:=ai ss[j] (Ya U);have bc:=SqT.of (K:=K) (s8 _ _ (cs _ _ q1));have bf:(ss.take (j+1)).filter (λt=>decide (fs3 t.2∈F))=(ss.take j).filter (λt=>decide (fs3 t.2∈F)) ++if fs3 ss[j].2∈F then [ss[j]]else []:=by
      rw[X7,Z4 U,Y2];refine congrArg _ ?_;show List.filter _ [ss[j]]=_;rw[filter_cons];simp only[decide_eq_true_eq,Y6]
     lk;refine%[_,bc,V.str (fs3 ss[j].2),by rw[ez];rfl,_,.inl (SqL.of (s8 _ _ a6)),ρ,by simp[fc]|?_];rw[ki];refine bA (λh=>%[_,bc,V.str (sn3 ss[j].2),by rw[ez];rfl|CK.mk U bb (by rw[g,Z6,Z6];exact aG (Ye (Yg _ _) (by rw[Yj];lia))) %[%[_|rfl],ah.set s8 hG,ae|?_]]) λh=>CN.mk U %[%[_|rfl],s8,bb|?_]
     .rw[g,bf,if_pos (Zo h),Zd,Zd];rfl
     .rw[g,bf,if_neg (λc=>h (Zf c)),Zx]
    intro vs u H8 %[_,s8,al|g];rw[Zn (Zi _)]at g;subst g;refine k7 _ _ ?_;refine aE λD8 k8 _=>?_
    have em:∀y,y∈(ss.filter λt=>decide (fs3 t.2∈F)).map (λt=>sn3 t.2)↔∃x∈F,Ed (ss\2) x y:=λy=>by
     rw[mem_map]
     constructor
     .rintro⟨t,J,rfl⟩;have%[h1|h2]:=List.mem_filter.mp J;exact%[_,Zo h2|ed.mpr %[t,h1,ρ|ρ]]
     .rintro⟨x,I,h⟩;have%[t,J,rfl|rfl]:=ed.mp h;exact%[t,List.mem_filter.mpr %[J|Zf I]|ρ]
    have el: ~~~((ss.filter λt=>decide (fs3 t.2∈F)).map λt=>sn3 t.2)<=150:=by
     rw[Z6];exact Ye (Yg _ _) a3
    have aR:∀y∈(ss.filter λt=>decide (fs3 t.2∈F)).map (λt=>sn3 t.2),y∈ns:=λy hy=>by
     have%[t,J|rfl]:=Xl hy;exact(mem t (List.mem_filter.mp J).1).2
    generalize (ss.filter λt=>decide (fs3 t.2∈F)).map (λt=>sn3 t.2)=L at em el aR al
    refine pc (t:=xp (tOp (Ay K) (md 2) (md 6))) λKt hT hF=>?_
    lk;refine%[_,.inl (SqL.of al),ρ,by simp[fc]|?_];rw[ki];have bl:=s7.trans s8;by_cases c:st∈L
    .rw[Zf c];refine hT _ ?_;rw[if_pos rfl];lk;refine%[#[0]|λq fq=>k8 _ _ %[_,?_,.int (k+1:Nat),q,_,k+1,T,[],ρ,bl.trans (ah.upd fq),ah.upd fq _ _ (s8 _ _ as),ae,Tn,Ts,ρ|.inr %[ρ|?_]]]
     .have:1<= ~~~F:=length_pos_iff.mpr Fn;show 2*(70-T.length) +0<2*(70-T.length) +F.length.min 1;rw[show F.length.min 1=1 from Nat.min_eq_right this]
      lia
     .have%[x,I|h]:=(em st).mp c;exact lr.found BF I h lt tk
    .rw[Zh c];refine hF _ ?_;rw[if_neg ∅];refine am λD9 k9 _=>?_
     lk;refine aF λaa hK=>?_
     lk;refine%[%[_|SqL.of al]|hK _ _ λM hM=>?_];have bm:=s8 _ _ as;refine cH (λj vs u B=>(∃o1,u=[o1,!p])/\ah H8 B/\B M<*vs/\vs=((L.take j).filter λy=>decide (y∉T))\3)
      %[%[none|rfl],ah.upd hM,ae|rfl] (λ_ _ _ B O=>O.2.1 _ _ al) ?_ ?_
     .intro j vs u bt U %[%[o1|rfl],s9,b0|g];have b1:(L.take (j+1)).filter (λy=>decide (y∉T))=(L.take j).filter (λy=>decide (y∉T)) ++if L[j]∉T then [L[j]]else []:=by
       rw[X7,Z4 U,Y2];refine congrArg _ ?_;show List.filter _ [L[j]]=_;rw[filter_cons];simp only[decide_eq_true_eq,Y6]
      lk;refine%[_,dF.k (k:=Sum.inr L[j]) (s9 _ _ bm)|?_];rw[Cf];refine bA (λh=>CK.mk U b0 (by rw[g,Z6];exact aG (Ye (Yg _ _) (by rw[Yj];lia))) %[%[_|rfl],ah.set s9 hM,ae|?_]) λh=>CN.mk U %[%[_|rfl],s9,b0|?_]
      .rw[g,b1,if_pos ↑h,Zd];rfl
      .rw[g,b1,if_neg ↑h,Zx]
     intro vs u H9 %[_,s9,ct|g];rw[Zn (Zi _)]at g;subst g;have b2:∀y,y∈aA (L.filter λy=>decide (y∉T))↔y∈L/\y∉T:=λy=>by rw[aQ,List.mem_filter,decide_eq_true_eq]
     have f9: ~~~(aA (L.filter λy=>decide (y∉T)))<=60:=by
      have:=_T.nodup_sub (bE (L.filter λy=>decide (y∉T))) (m:=ns) λx I=>aR x ((b2 x).mp I).1
      lia
     refine%[M,ρ,_,SqL.of ct,by have:=Yg (λy=>decide (y∉T)) L;lia|λl fl=>%[_,ae,⋯|λq C fq aU _=>k9 _ _ ?_]];have a0:=s9.trans ((ah.upd (o:=d6 w l (aA (L.filter λy=>decide (y∉T)))) fl).trans (ah.upd (o:= .lst (C\3)) fq));have hq:upd (upd H9 l (d6 w l (aA (L.filter λy=>decide (y∉T))))) q (.lst (C\3)) q=_:=ae
     generalize upd (upd H9 l (d6 w l (aA (L.filter λy=>decide (y∉T))))) q (.lst (C\3))=bt at a0 hq
     have Fm:∀y,y∈C↔(∃x∈F,Ed (ss\2) x y)/\y∉T:=λy=>by rw[aU.mem_iff,b2,em]
     have Fd:C.Nodup:=aU.nodup_iff.mpr (bE _);have Fl: ~~~C<=60:=by rw[aU.length_eq];exact f9
     have ab:=a0 _ _ bm;refine aE λc2 cv _=>?_
     lk;refine%[tyD (ab)|aF λaa hK=>?_];lk;refine%[%[_|SqL.of hq]|hK _ _ λN hN=>?_];refine cH (λj vs u B=>(∃o1,u=[o1])/\ah bt B/\B N<*vs/\∃ps:List (Addr×Str×V),vs=ps\0/\ps\2=(C.take j).map (λz=>(z,V.bl true))/\∀q∈ps,B q.1&&&[.str q.2.1,q.2.2])
      %[%[none|rfl],ah.upd hN,ae,[],rfl,rfl|λq hq=>(nomatch hq)] (λ_ _ _ B O=>O.2.1 _ _ hq) ?_ ?_
     .intro j vs u a1 U %[%[o1|rfl],an,b3,ps,g,ac|a2];lk;refine%[#[2]|λa fa=>?_];have s6:=ah.upd (o:= .tup [V.str C[j],V.bl true]) fa;have gp:upd a1 a (.tup [V.str C[j],V.bl true]) a=_:=ae
      generalize upd a1 a (.tup [V.str C[j],V.bl true])=c3 at s6 gp ⊢
      have keep:=i4 (ys:=vs++[V.ref a]) (s6 _ _ b3);have pl:=congrArg List.length ac;rw[Z6,Z6,Yj]at pl;refine CK.mk U (s6 _ _ b3) (by rw[g,Z6];exact aG ⋯) %[%[_|rfl],ah.set (an.trans s6) hN,ae,ps++[(a,C[j],V.bl true)],by rw[g,Zd];rfl,by rw[Zd,ac,X7,Z4 U,Zd];rfl|λq hq=>?_];rcases Xj hq with h|h
      .exact keep _ _ (s6 _ _ (a2 q h))
      .rw[Xk h];exact keep _ _ gp
     intro vs u b4 %[_,an,b5,ps,g,ac|a2];rw[Zn (Zi _)]at ac;refine%[N,ρ,ps,by rw[<-g];exact SqL.of b5,a2|λd fd=>?_];rw[vt (h:=λ_=>V.bl true) Fd ac];have aq:=an.trans (ah.upd (o:= .dK (C.map λz=>(Sum.inr z,V.bl true))) fd);have gd:upd b4 d (.dK (C.map λz=>(Sum.inr z,V.bl true))) d=_:=ae;have ag:=aq _ _ ab;have Y:=aq _ _ hq;have ne:p≠d:=λc=>by rw[<-c,an _ _ ab]at fd;cases fd
     generalize upd b4 d (.dK (C.map λz=>(Sum.inr z,V.bl true)))=a1 at aq gd ag Y
     have TF:(T++C).Nodup:=nodup_append.mpr %[Tn,Fd|λa ha b hb e=>((Fm b).mp hb).2 (e▸ha)];refine%[d,ρ,_,_,ne,ag,gd,by rw[Z6,Z6];exact bH ⋯|cv _ _ ?_];rw[show iu (T.map λz=>((Sum.inr z:Key),V.bl true)) (C.map λz=>(Sum.inr z,V.bl true))=_ from tE TF];have qp:q≠p:=λc=>by rw[c,ag]at Y;cases Y
     refine k8 _ _ %[_,?_,v',q,_,k+1,T++C,C,rfl,?_,ae,(aj qp).trans Y,TF,λx I=>?_,rfl|.inl %[rfl|BF.step (λx I h=>c ((em st).mpr %[x,I|h])) Fm λy hy=>Xj hy]]
     .have:1<= ~~~F:=length_pos_iff.mpr Fn;rw[show F.length.min 1=1 from Nat.min_eq_right this,Z9];have:=Nat.min_le_right C.length 1;have:=Nat.min_le_left C.length 1;show 2*(70-(~~~T+ ~~~C)) +min C.length 1<_
      lia
     .exact λb o hb=>by rw[aj (ax hb fp)];exact aq _ _ (a0 _ _ (bl _ _ hb))
     .rcases Xj I with h|h
      .exact Ts x h
      .exact Zk _ (aR x ((em x).mpr ((Fm x).mp h).1))
   refine bA (λh1=>?_) λh1=>?_
   .have Fn:F≠[]:=↑h1
    have%[rfl|BF]:=a5.resolve_right λh=>Fn h.1
    rcases lr with⟨rfl,h⟩|⟨n,rfl,n1,y,h⟩
    .rw[if_pos ∅];exact go Fn rfl BF λn e=>by cases e
    .rw[if_neg ∅];refine%[_,ρ|?_];by_cases c:(k:Int)<n
     .rw[Zf c];exact go Fn rfl BF λm e=>by have:=V.int.inj e;lia
     .rw[Zh c];refine done (e8.more (.inr %[n,rfl,n1,y|h]) (λm m1 d=>%[n,rfl|?_]) tk);have%[_,_,j,_,_|le]:=BF.key m m1 d
      lia
   .have Fn:F=[]:=↑h1
    subst Fn;rcases a5 with⟨rfl,BF⟩|⟨_,h⟩
    .exact done (lr.more (λn n1 d=>by have%[x,I|_]:=BF.key n n1 d;cases I) tk)
    .exact done h
  .intro u H3 %[%[v,o2,o3,o4,o5,o6,rfl|lr]|s3];rw[Zn (Zi _)]at lr;refine k2 _ _ ?_;lk;have all:∀x n,1<=n->Dst (ss\2) x n x->x∈us:=λx n n1 d=>by
    obtain⟨n,rfl⟩:∃i,n=i+1:=%[n-1|⋯]
    have%[c,e|_]:=Dst.first d
    have%[t,J,rfl|_]:=ed.mp e;exact pm.mem_iff.mpr (aQ.mpr (Xm %[t,J|rfl]))
   refine kk H3 v (s2.trans s3) ?_;rcases lr with⟨rfl,h⟩|⟨n,rfl,n1,y,h⟩
   .exact .inl %[rfl|λx _ n n1 d=>h x (all x n n1 d) n n1 d]
   .exact .inr %[n,rfl,n1,y|λx _ m m1 d=>h x (all x m m1 d) m m1 d]
def tF{b:Str}:∀{us:List ZC} {a:Str},Wal us a b->∀i,i< ~~~us->∃p q z,us[i]?∣[p,q,z]/\(i=0->p=a)/\(∀k,us[i+1]?∣k->k[0]?∣q)/\(i+1= ~~~us->q=b)
 |[],_,_,_,h=>absurd h (X1 _)
 | k::r,a,⟨c,z,e,w⟩,0,_=>by
   refine%[a,c,z,by rw[e];rfl,λ_=>rfl,λd h'=>?_|λh'=>?_]
   .match r,w,h' with
    | k2::n,⟨o,s,f,_⟩,h'=>
      rw[<-Za (show some k2∣d from h'),f];rfl
   .match r,w,h' with
    |[],w,_=>exact w
    | _::_,_,h'=>exact absurd h' ∅
 | k::r,a,⟨c,z,e,w⟩,i+1,h=>by
   have%[p,q,g,j,_,l|m]:=tF w i ↑h;exact%[p,q,g,j,λh=>absurd h ⋯,l|λh=>m ↑h]
def zJ{ws:ZH}{x:Str}(w:Wal (ws\2) x x){k:Nat}(g:k< ~~~ws):∃t∈ws,∃p q z b d,ws[k].2=[p,q,z]/\t.2=[b,p,d]/\atI (ws\0) ((k:Int) -1)∣.ref t.1:=by
 have u: ~~~(ws\2)= ~~~ws:=Z6 _;have a:∀(i:Nat) (h:i< ~~~ws) l,(ws\2)[i]?∣l->ws[i].2=l:=λi h l e=>by
  rw[Zl,Z4 h]at e;exact Za e
 have%[p,q,z,j,n,_|_]:=tF w k ⋯;have m:=a k g _ j;cases k with
 | zero=>
   have%[b,o,d,g1,_,_|r]:=tF w (~~~ws-1) ⋯;have f:=a (~~~ws-1) ⋯ _ g1;rw[r ⋯,<-n rfl]at f;refine%[_,Ya (show ~~~ws-1< ~~~ws by lia),p,q,z,b,d,m,f|?_];obtain⟨ys,y,rfl⟩:∃ys y,ws=ys++[y]:=%[ws.dropLast,ws.getLast (by intro c;rw[c]at g;exact absurd g (X1 _))|(List.dropLast_concat_getLast _).symm]
   rw[Zd,show((0:Nat):Int) -1= -1 from rfl,List.map_singleton,mT];simp
 | succ k=>
   have%[b,o,d,g1,_,g3|_]:=tF w k ⋯;have f:=a k ⋯ _ g1;have s:=g3 _ j;rw[<-Za s]at f;refine%[_,Ya (show k< ~~~ws by lia),p,q,z,b,d,m,f|?_];rw[show((k+1:Nat):Int) -1=(k:Nat) by lia];exact cg (by rw[Zl,Z4 (show k< ~~~ws by lia)];rfl)
inductive rD
 | mk (l m:Addr) (ns:ZC) (ws ss:ZH) (x:Str):vs=[.ref l,.ref m,.int (~~~ws:Int)]->H l∣.lst (ws\0)->aK H ws-> ~~~ws<=200->H m∣.lst (ss\0)->cY H ns ss->Sho (ss\2) x x (ws\2)->Q (.bl true) H->rD vs H Q E0
def jo(T:Txt K mg):↥1 "_law_is_ring" ["_law_found","_law_tied","_law_least"] rD:=by
 .exists T.bq,iN,J,L,%[l,m,M,ws,ss,x,rfl,a,y,B,N,j,b|O];have C: ~~~(ws\0)= ~~~ws:=Z6 _;refine%[_,%["JDNZrqgz!A0A?1ByKvcdA0B2EIxQDV&AcdA0BBL3ENZrqgz!AR03A?2BrK]+R031yKvPR03CPR0F^3CCEIxQEIx",iN.nd,(blE (v:= .ty "list") rfl T.a5 boot_list rfl rfl rfl),(blE (v:= .ty "tuple") rfl T.ag boot_tuple rfl rfl rfl)|L]|?_]
  show br _ _ _ [!l,!m,some (.int ws.length),none] H;refine am λD1 k1 _=>?_
  lk;refine%[.type "list",.lst a,true,by rfl|rV %[~~~ws,.inl %[_,SqL.of a|C.symm]|?_]];rw[if_neg ∅];refine k1 _ _ (am λD2 k2 _=>aC λG U=>?_);lk;refine%[~~~ws,.inl %[_,SqL.of a|C.symm],⋯,⋯|U _ _ ?_];rw[Int.toNat_natCast];refine cC (λi n e=>(∃o,n=[!l,!m,some (.int ws.length),o])/\e=H) %[%[_|rfl]|rfl] ?_ ?_
  .intro i n e hi %[%[o|rfl]|rfl];show jH _ _ _ _ [!l,!m,some (.int ws.length),some (.int (0+i))] e;rw[Int.zero_add];refine aE λD3 Y _=>?_
   lk;have%[t',r,p,q,z,p',z',e1,e2|ea]:=zJ b.wal hi;have c:=Ya hi;have u:atI (ws\0) (i:Int)∣.ref ws[i].1:=cg (by rw[Zl,Z4 hi];rfl);have g:=(y _ c).2;have I:=(y _ r).2;have d:=b.sub _ (Xm %[_,c|rfl]);rw[e1]at g d;rw[e2]at I;refine%[_,SqL.of a,_,u,.type "tuple",.tup g,true,by rfl|rV %[_,SqL.of a,_,u,_,_,_,ss,ρ,ρ,g,N,λt ht=>(j t ht).1,d,_,ρ|rV %[_,SqL.of a,_,u,_,ρ,_,SqT.of g,_,ρ,_,SqL.of a,_,ea,_,ρ,_,SqT.of I,_,ρ|?_]]];exact%[ρ|by rw[if_neg ∅];exact Y _ _ %[%[_|ρ]|ρ]]
  .intro n e %[%[o|rfl]|rfl];refine k2 _ _ ?_;lk;exact O
def kC(n:Str)(c:Nat):lnS n (sgn c)=dC n c:=by
 refine fj ?_;show(([].toArray) ++n.cps++ ([46].toArray) ++ ([c].toArray)).toList=(n.cps.toList++[46,c]).toArray.toList;simp
def tG:x∈lyr p↔∃c,Let p.2.2 c/\x=dC p.2.1 c:=by
 unfold lyr;rw[mem_map]
 constructor
 .rintro⟨z,b,rfl⟩;have%[c,a|rfl]:=gQ b;exact%[c,fU.mp a|kC _ _]
 .rintro⟨c,a,rfl⟩;exact%[sgn c,aQ.mpr (Xm %[c,fU.mpr a|ρ])|kC _ _]
def pd(h:l9 d):x∈(f6 d)\1↔∃c,Let d.rows c/\x=dC d.name c:=by
 unfold f6 Drn.rows;rw[Yp,mem_map]
 constructor
 .rintro⟨a,i,rfl⟩;have%[e,f|g]:=eK.mp i;exact%[sg a d.sh,(uQ h.2.2.2.2.2).mpr %[a,e,f,g|ρ]|ρ]
 .rintro⟨c,g,rfl⟩;have%[a,e,f,b|rfl]:=(uQ h.2.2.2.2.2).mp g;exact%[a,eK.mpr %[e,f|b]|ρ]
def pf:∀{xs:List s},(xs.map nm).Nodup->(∀p∈xs,(f p).Nodup)->(∀p∈xs,∀x∈f p,∃c,x=dC (nm p) c)->(xs.flatMap f).Nodup
 |[],_,_,_=>Yz
 | p::xs,h,l,i=>by
   rw[Yo,nodup_cons]at h;rw[List.flatMap_cons,Yx];refine%[l p Zm,pf h.2 (λq g=>l q (Zk _ g)) (λq g=>i q (Zk _ g))|λa m b n e=>?_];have%[q,g|j]:=mem_flatMap.mp n;have%[c|o]:=i p Zm a m;have%[d|r]:=i q (Zk _ g) b j;have:=(kX (o.symm.trans (e.trans r))).1;exact h.1 (Xm %[q,g|this.symm])
def zK(p:Addr×Str×ZC):(lyr p).Nodup:=by
 unfold lyr;rw[Yy,X4];refine Xd (λ{x y} e f a b=>?_) (nodup_iff_pairwise_ne.mp (bE ((cL p.2.2).map sgn)));have%[c,_|rfl]:=gQ e;have%[d,_|rfl]:=gQ f;rw[kC,kC]at b;exact a (by rw[(kX b).2])
def xc(d:Drn):((f6 d)\1).Nodup:=by
 unfold f6;rw[Yp,Yy,X4];refine Xd (λ{x y} b c a e=>?_) (nodup_iff_pairwise_ne.mp (uR d.cols));have%[f,g|_]:=eK.mp b;have%[h,i|_]:=eK.mp c;exact a (Go f g h i (kX e).2)
def qW.mono(h:qW ls xs)(s:∀x∈ls,x∈ms):qW ms xs:=by
 rcases h with⟨w,a,b,e,c,d,f,g⟩|⟨w,a,y,e,c,d,f⟩
 .exact .inl %[w,a,b,e,c,s _ d,s _ f|g]
 .exact .inr %[w,a,y,e,c,s _ d|f]
def xg{d:ZI}{ls:ZC}(h:ls.Perm (d.flatMap lyr)){x:Str}:x∈ls↔∃p∈d,∃c,Let p.2.2 c/\x=dC p.2.1 c:=by
 rw[h.mem_iff,mem_flatMap]
 constructor
 .rintro⟨p,a,b⟩;exact%[p,a|tG.mp b]
 .rintro⟨p,a,b⟩;exact%[p,a|tG.mpr b]
def rE(h:∀p∈ds,l9 p.2):x∈(ds.flatMap λp=>(f6 p.2)\1)↔∃p∈dcs ds,∃c,Let p.2.2 c/\x=dC p.2.1 c:=by
 rw[mem_flatMap];unfold dcs
 constructor
 .rintro⟨p,a,b⟩;exact%[_,Xm %[p,a|ρ]|(pd (h p a)).mp b]
 .rintro⟨q,d,b⟩;have%[p,a|rfl]:=Xl d;exact%[p,a|(pd (h p a)).mpr b]
def vA{ds:List (Addr×Drn)}(h:∀p∈ds,l9 p.2)(a:(ds.map λp=>p.2.name).Nodup):(ds.flatMap λp=>(f6 p.2)\1).Nodup:=
 pf (nm:=λp:Addr×Drn=>p.2.name) a (λp _=>xc p.2) λp b x d=>by
  have%[c,_|e]:=(pd (h p b)).mp d;exact%[c|e]
def kD{a:ZI}(b:(a.map λp=>p.2.1).Nodup){ls:ZC}(h:ls.Perm (a.flatMap lyr)):ls.Nodup:=by
 rw[h.nodup_iff];exact pf (nm:=λp:Addr×Str×ZC=>p.2.1) b (λp _=>zK p) λp f x d=>by
  have%[c,_|e]:=tG.mp d;exact%[c|e]
structure lD (H:Hp) (cs:ZI) (qs:ZO):Prop where
 ca:cf H cs
 nd:(cs.map λp=>p.2.1).Nodup
 p1:1<= ~~~cs
 p3: ~~~cs<=4
 few:∀p∈cs,wQ p.2.2
 ly: ~~~(cs.flatMap lyr)<=63
 sa:∀ls:ZC,ls.Perm (cs.flatMap lyr)->cF H ls qs
 q20: ~~~qs<=30
def lD.up(h:lD H a qs)(s:ah H b):lD b a qs:=
 %[h.ca.up s,h.nd,h.p1,h.p3,h.few,h.ly,λls p=>(h.sa ls p).up s|h.q20]
inductive ph (K:ZB)
 | mk (a:Addr) (ns:ZM):vs=[.ref a]->SqL K H a (ns\4)->CV H-> ~~~ns<=63->(∀H',Q (.bl true) H')->ph K vs H Q E0
def DT{R:Hp->Prop}(j:H g=none)(i:H c=none)(n:H a<*cI h)(r:H b∣.lst (qs\0))(p:lD H h qs)
 (k:∀d ls ts,ah H d->jb mg d g qs ls ts->ls.Perm (h.flatMap lyr)->(∀k,k∈ts\2↔k∈bq h\/k∈cN qs qs.length)->R d):
 sX mg [.ref g,.ref a,.ref b] (upd (upd H c (.own g)) g (.ins (aJ mg "Ground") c [])) (λv s=>v= .non/\R s) E0:=by
 have f:ah H (upd (upd H c (.own g)) g (.ins (aJ mg "Ground") c [])):=λb o e=>by
  rw[aj (ax e j),aj (ax e i)];exact e
 refine%[g,a,b,c,h,qs,ρ,ae,f _ _ n,f _ _ r,p.ca.up f,p.nd,p.p1,p.p3,p.few,p.ly,λls q=>(p.sa ls q).up f,p.q20|λd ls ts u y z A B tk C E G pl I=>%[ρ|k d ls ts (λb o e=>A b o (ax e j) (f _ _ e)) %[%[u,y,z|B],kD p.nd pl,I,by rw[pl.length_eq];exact p.ly,G,λk l=>?_,λk l=>?_|C] pl E]]<;> have%[t,m|rfl]:=Xl l
 .exact(tk t m).1
 .exact(tk t m).2
def xh{X:Cx}{mg:ZD}{x:Str}{p:Pos}(e:X.mg=mg)(b:Gl X x)(c:mg x∣.ref (aJ mg x))(a:(x==("__debug__":Str))=false):QE X (.Name x p) (tC (.ref (aJ mg x))):=by
 subst e;exact clsE b c a
inductive vB (mg:ZD)
 | mk (g:Addr) (qs:ZO) (ls:ZC) (ts:ZH) (lk:List ZC):vs=[.ref g]->jb mg H g qs ls ts->cw (bR qs) (ts\2) lk->(∃x,Rch lk x x)->(∀l H' ws x,ah H H'->H l=none->H' l∣.lst (ws\0)->aK H' ws->Sho lk x x (ws\2)-> ~~~ws<=200->(∀y n,Dst lk y (n+1) y-> ~~~ws<=n+1)->Q (.ref l) H')->vB mg vs H Q E0
def pj(T:Txt K mg):↥9 "_law_torn" ["_law_ground_here"] (vB mg):=by
 have tD:=tD (P:=P) (w:=w) (base:=base) T;refine T.br.cal fB (λH vs Q E h=>?_)
 .have%[g,qs,ls,ts,lk,rfl,L,u,M|N]:=h;refine%[ρ|λf I A outer s J=>?_]
  let O:_L.St->XK:=λn c d m=>n=[!g,some .non,none]/\c= .ref (aJ mg "Torn")/\∃b l ws x,d∣b/\ah H m/\H b=none/\H l=none/\b≠l/\Cc m lk b l ws x
  refine%[_,%["JDG1)D?1EI1",fB.nd|(tryV (i:=2) O rfl rfl fB.nd rfl rfl rfl rfl T.c_DigError T.t_DigError rfl (λ_=>
   (av (bT rfl (Hv zo tD J rfl rfl rfl rfl #[↑0]))))
   (λ_=>(av (ifS (wT (jt ((cbE (A1 (K:=K) rfl) rfl T.ac boot_isinstance rfl rfl rfl #[↑2,(xh (mg:=mg) rfl rfl T.c_Torn rfl)])⁻¹) (fM ((cbE (A1 (K:=K) rfl) rfl T.ac boot_isinstance rfl rfl rfl #[↑2,(blE (v:= .ty "ValueError") rfl T.an PyProof.Rows.Boot.«ValueError» rfl rfl rfl)])⁻¹))))
    (av (ifS (i8 ((cbE (A1 (K:=K) rfl) rfl T.ac boot_isinstance rfl rfl rfl #[↑2,(iz #[(xh (mg:=mg) rfl rfl T.c_NoCut rfl),(xh (mg:=mg) rfl rfl T.c_NoGround rfl),(xh (mg:=mg) rfl rfl T.c_NoSaying rfl),(xh (mg:=mg) rfl rfl T.c_NoDeed rfl),(xh (mg:=mg) rfl rfl T.c_NoRow rfl),(xh (mg:=mg) rfl rfl T.c_NoLayer rfl)])])⁻¹))
     (av (aP 1 fB.nd rfl (Hd T.g_Torn_ring rfl ↑2)))
     bn))
    bn))))]|?_]
  show br _ _ _ [!g,none,none] H;refine am λD1 k1 r1=>?_
  lk;refine k1 _ _ (am λD2 k2 r2=>?_);refine%[?_|?_]
  .lk;unfold BI;lk;exact%[g,qs,ls,ts,lk,[],ρ,L,u,M|λd l m ws x s' U Y dl j=>%[ρ,ρ,d,l,ws,x,ρ,s',U,Y,dl|j]]
  .intro n c d m %[rfl,rfl,b,l,ws,x,rfl,sm,aa,fl,ab|j];refine%[_,ρ,T.u_Torn|λa _ ha=>?_];have y:upd m a (ExH a (aJ mg "Torn") (some b)) a∣ExH a (aJ mg "Torn") (some b):=ae;have q:=ah.upd (o:=ExH a (aJ mg "Torn") (some b)) ha;have r:=sm.trans q;show jH _ _ _ _ [!g,some .non,!a] _
   generalize upd m a (ExH a (aJ mg "Torn") (some b))=H1 at y q r
   have B:=q _ _ j.ad;have hL:=q _ _ j.al;have e:∀z,ah H1 z->TyX K z (.ref a) (.ref (aJ mg "Torn")):=λz C=> .ex %[_,C _ _ y|.inr %[b,_,rfl|C _ _ B]] T.x_Torn.is
   refine aE λD3 k3 r3=>?_
   lk;refine%[_,e _ (ah.refl _),true,.inl T.k_Torn_Torn|?_];rw[if_pos rfl];refine%[_,e _ (ah.refl _),true,T.k_Torn_ValueError|?_];rw[if_pos rfl];refine%[#[6]|λp hp=>?_];have sp:=ah.upd (o:= .tup [V.ref (aJ mg "NoCut"),V.ref (aJ mg "NoGround"),V.ref (aJ mg "NoSaying"),V.ref (aJ mg "NoDeed"),V.ref (aJ mg "NoRow"),V.ref (aJ mg "NoLayer")]) hp;refine%[_,e _ sp,false,.inr %[_,ae|T.k_Torn_any2]|?_];rw[if_pos (show(not false)=true from rfl)];simp only[AV];lk;refine%[b,sp _ _ y,_,sp _ _ B,.ref l,by rfl|?_];refine k3 _ _ (k2 [!g,!l,none] _ ?_);lk;exact N l _ ws x (r.trans sp) fl (sp _ _ hL) (λt G=>%[(j.tu t G).1|sp _ _ (q _ _ (j.tu t G).2)]) j.sho j.len j.min
structure rF (ks:List ZC) (ns U L:ZC):Prop where
 nd:(L++U).Nodup
 so:U.Pairwise (λa b=>aO b a=false)
 mem:∀x,x∈L++U↔x∈ns
 ord:∀(i:Nat) x,L[i]?∣x->∀y,Ed ks x y->y∈L.take i
 lst:oW ks ns L
abbrev dh(ss:ZH)(U:ZC)(x:Str):Bool:=ss.all λt=>!(decide (fs3 t.2=x)&&decide (sn3 t.2∈U))
def pq{f:ZC}{ss:ZH}(h:∀k∈ss\2,cP f k){U:ZC}{x:Str}:dh ss U x=true↔∀y,Ed (ss\2) x y->y∉U:=by
 unfold dh;rw[all_eq_true]
 constructor
 .intro q y %[z|g] i;have%[t,d|e]:=Xl g;have:=q t d;rw[e]at this;simp[fs3,sn3,i]at this
 .intro q t d;have%[a,b,z,e|_]:=h t.2 (Xm %[t,d|rfl]);rw[e];by_cases c:a=x
  .have:=q b %[z|by rw[<-c,<-e];exact Xm %[t,d|rfl]];simp[fs3,sn3,this]
  .simp[fs3,sn3,c]
def rF.free{a U L:ZC}{ss:ZH}(_:rF (ss\2) a U L)(b:∀k∈ss\2,cP a k)(d:∀x,¬ Rch (ss\2) x x)(h:U≠[]):U.filter (dh ss U)≠[]:=λc=>by
 have%[x|f]:=List.exists_mem_of_ne_nil U h;refine BO (U:=U) (λy g=>?_) d f;refine Classical.byContradiction λq=>?_
 have:y∈U.filter (dh ss U):=List.mem_filter.mpr %[g|(pq b).mpr λz e i=>q %[z,i|e]];rw[c]at this;cases this
def rF.step{l U L:ZC}{ss:ZH}(h:rF (ss\2) l U L)(r:∀k∈ss\2,cP l k){x:Str}{j:Nat}(m:(U.filter (dh ss U))[0]?∣x)(H:U[j]?∣x):rF (ss\2) l (U.eraseIdx j) (L++[x]):=by
 have I:=Z8 m;have%[J|s]:=List.mem_filter.mp I;have s:=(pq r).mp s;have%[M,N,_|O]:=nV J;have Q:=(nodup_append.mp h.nd).2.1;obtain rfl:=im Q N H;have A:(L++[x] ++U.eraseIdx M).Perm (L++U):=by
  rw[Ze];exact O.append_left L
 have g:∀y,y∈l->y∉L->y∈U:=λy a b=>(Xj ((h.mem y).mpr a)).resolve_left b
 have lt:∀{i:Nat} {y:Str},(L++[x])[i]?∣y->(L[i]?∣y/\(L++[x]).take i=L.take i)\/(y=x/\(L++[x]).take i=L):=λ{i y} e=>by
  rcases Nat.lt_or_ge i L.length with c|c
  .rw[Y8 c]at e;exact .inl %[e|X9 ⋯]
  .rw[Y9 c]at e;have:i-L.length=0:=by
    have:=(Xi e).1;simp at this
    lia
   rw[this]at e;have T:i= ~~~L:=by lia
   exact .inr %[(Za e).symm|by rw[T,X9 (Zi _),take_length]]
 refine%[A.nodup_iff.mpr h.nd,h.so.sublist (List.eraseIdx_sublist ..),λy=>by rw[A.mem_iff];exact h.mem y,λi y e z B=>?_|λi y e z C o all=>?_]
 .rcases lt e with⟨a,b⟩|⟨rfl,b⟩
  .rw[b];exact h.ord i y a z B
  .rw[b];have%[u|E]:=B;have%[_,b',_,G,_|Y]:=r _ E;simp only[List.cons.injEq,and_true]at G;refine Decidable.byContradiction λn=>s z %[u|E] (g z (G.2.1▸Y) n)
 .rcases lt e with⟨a,b⟩|⟨rfl,b⟩
  .rw[b]at o all;exact h.lst i y a z C o all
  .rw[b]at o all;have d:z∈U.filter (dh ss U):=List.mem_filter.mpr %[g z C o|(pq r).mpr λq eq hq=>(nodup_append.mp h.nd).2.2 q (all q eq) q hq rfl];have v:=h.so.sublist (List.filter_sublist (p:=dh ss U))
   revert m d v
   generalize U.filter (dh ss U)=F
   intro m d v;cases F with
   | nil=>cases d
   | cons f F=>
     obtain rfl:f=y:=Za m;rcases mem_cons.mp d with rfl|d
     .exact cr _
     .exact(List.pairwise_cons.mp v).1 z d
inductive ye
 | mk (m d:Addr) (o:Obj) (ls:ZC) (f:Str->Str) (ss:ZH):vs=[.ref m,.ref d]->H m∣.lst (ss\0)->cY H (ls.map f) ss-> ~~~ss<=150->H d∣.frz o (.dK (NmD ls f))-> ~~~ls<=60->(∀x,¬ Rch (ss\2) x x)->(∀r H' L,ah H H'->H r=none->H' r<*L\3->rq (ss\2) (ls.map f) L->Q (.ref r) H')->ye vs H Q E0
abbrev HP(H:Hp)(m d a r:Addr)(c:ZC)(ss:ZH)(k:Nat)(e:_L.St)(b:Hp):Prop:=∃(f:Option V) (U L:ZC),e=[!m,!d,!a,!r,f]/\ah H b/\b a<*U\3/\b r<*L\3/\rF (ss\2) c U L/\ ~~~U<=60/\ ~~~L+ ~~~U<=60/\k= ~~~U
def xi(T:Txt K mg):↥1 "_law_due" ["_law_tied","_law_called_here"] ye:=by
 .exists T.bt,gO,b1,hr,%[m,d,o,ls,fn,ss,rfl,hm,al,bt,hd,b2,nr|kk];have ti:∀k∈ss\2,cP (ls.map fn) k:=λk hk=>by
   have%[t,ht|rfl]:=Xl hk;exact(al t ht).2
  have dl: ~~~(NmD ls fn)= ~~~ls:=Z6 _;refine%[_,%["JD'2ef*~/A:|Ajb?1],M1X0?2psM10BBDG3TBD~AK~_M2TBD~C4feb?3UM2~o0?4ef/K].jb?5UM1X0?6/ZwKYP0CM1$K=P0CM20TBM0DWni3AR4CBEW~.]/M2AR4CBEI3",gO.nd,↑(["_law_layer","_law_called_here"],[(1,1)]),↑["_law_layer","_law_called_here"],↑(["_law_one","_law_tied","_law_left"],[(1,0),(2,2)]),↑["_law_one","_law_tied","_law_left"],↑(["_law_link","_law_one","_law_left"],[(1,0),(2,2)]),↑["_law_link","_law_one","_law_left"]|hr]|?_]
  show br _ _ _ [!m,!d,none,none,none] H;refine am λD1 k1 _=>?_
  lk;refine aF λan hK=>?_
  unfold BJ;lk;refine%[_,_,hd|hK _ _ λF hF=>?_];refine cK (J:=Itk d o (NmD ls fn)) (n:= ~~~ls) (D:=F) (λj vs v g=>(∃M,v=[M,!d])/\ah H g/\g F<*vs/\vs=((ls.take j).map fn)\3)
   %[%[none|rfl],ah.upd hF,ae|rfl] (λj _ _ g y b=>%[b.2.1 _ _ hd|by rw[dl];exact y]) (λ_ _ g b=>%[b.2.1 _ _ hd|by rw[dl];exact Zi _]) ?_ ?_
  .intro j vs v H3 y %[%[M|rfl],s3,N|B] x H4 %[e2,kx,vx,C|rfl];subst e2;unfold NmD at C;rw[Zl,Z4 y]at C;obtain rfl:Sum.inr ls[j]=kx:=congrArg (·.1) (Za C);lk;refine%[_,.inl %[_,Sum.inr ls[j],.inr %[o|s3 _ _ hd],ρ|(iR (Ya y)).symm]|CK.mk y N (by rw[B,Z6,Z6,Yj];exact aG ⋯) %[%[_|ρ],ah.set s3 hF,ae|?_]];rw[B,X7,Z4 y,Zd,Zd];rfl
  intro vs v H1 %[_,s1,a4|B];rw[Zn (Zi _)]at B;subst B;lk;have b3: ~~~(aA (ls.map fn))<= ~~~ls:=by
   have:=_T.nodup_sub (bE (ls.map fn)) (m:=ls.map fn) λx C=>aQ.mp C
   rwa[Z6]at this
  refine%[_,SqL.of a4,by rw[Z6];lia|λl fl=>%[_,ae,⋯|λa us fa pm so=>k1 _ _ (am λD2 k2 _=>?_)]];have ul: ~~~us<=60:=by rw[pm.length_eq];lia
  have un:us.Nodup:=pm.nodup_iff.mpr (bE _);have um:∀x,x∈us↔x∈ls.map fn:=λx=>by rw[pm.mem_iff,aQ]
  have t1:=(ah.upd (o:=d6 w l (aA (ls.map fn))) fl).trans (ah.upd (o:= .lst (us\3)) fa);have s2:=s1.trans t1;have ha:upd (upd H1 l (d6 w l (aA (ls.map fn)))) a (.lst (us\3)) a=_:=ae;have a5:=s1.free ((ah.upd (o:=d6 w l (aA (ls.map fn))) fl).free fa)
  generalize upd (upd H1 l (d6 w l (aA (ls.map fn)))) a (.lst (us\3))=H2 at s2 ha
  lk;refine%[#[0]|λr fr=>k2 _ _ (am λD3 k3 _=>?_)];have s3:=s2.trans (ah.upd (o:= .lst []) fr);have ac:=ah.upd (o:= .lst []) fr _ _ ha;have ag:upd H2 r (.lst []) r<*([]:ZC)\3:=ae;have ar:a≠r:=λc=>by rw[<-c,ha]at fr;cases fr
  have aq:=s2.free fr
  generalize upd H2 r (.lst [])=H3 at s3 ac ag
  refine%[HP H m d a r (ls.map fn) ss,
   %[_,none,us,[],ρ,s3,ac,ag,%[un,so ⋯,um,λi x e=>by simp at e|λi x e=>by simp at e],ul,↑ul|ρ]|?_]
  clear s3 ac ag s2 ha fr;intro k v H5 %[o4,U,L,rfl,sm,hU,hL,ok,b4,b0|rfl];lk;refine%[#[0]|λp hp=>%[_,ah.upd hp _ _ hU,ae|bA (λh=>?_) λh=>?_]]
  .have u0:U≠[]:=λc=>by rw[c]at h;exact absurd h (!1)
   have sp:=ah.upd (o:= .lst []) hp;have O:=sm.trans sp;have I:=sp _ _ hU;have ai:=sp _ _ hL
   generalize upd H5 p (.lst [])=H6 at O I ai ⊢
   refine⟨λa6 g=>∃m',m'< ~~~U/\HP H m d a r (ls.map fn) ss m' a6 g,λ_ _ h=>h,?_⟩;refine aF λan hK=>?_
   lk;have Um: ~~~(U\3)= ~~~U:=Z6 _;refine%[%[_|SqL.of I]|hK _ _ λF hF=>?_];refine cH (λj vs v g=>(∃M,v=[M,!m,!a])/\ah H6 g/\g F<*vs/\vs=((U.take j).filter (dh ss U))\3)
    %[%[none|rfl],ah.upd hF,ae|rfl] (λ_ _ _ g b=>b.2.1 _ _ I) ?_ ?_
   .intro j vs v H8 y %[%[M|rfl],Y,N|B];lk;refine aF λa7 bc=>?_
    lk;have ab:=Y _ _ (O _ _ hm);refine%[%[_|SqL.of ab]|bc _ _ λG hG=>?_];refine cK (J:=Itl K m) (n:= ~~~ss) (D:=G) (λi vs v g=>(∃M,v=[M,some (.str U[j]),!a])/\ah H8 g/\g G<*vs/\ ~~~vs<=i/\(vs=[]↔dh (ss.take i) U U[j]=true))
     %[%[none|rfl],ah.upd hG,ae,Zi _,λ_=>rfl|λ_=>rfl] (λi _ _ g hi b=>%[_,V.ref ss[i].1,SqL.of (b.2.1 _ _ ab)|by simp[hi]]) (λ_ _ g b=>%[_,SqL.of (b.2.1 _ _ ab)|by simp]) ?_ ?_
    .intro i us v H9 hi %[%[o2|rfl],s9,as,hl|u] x bf %[e3|C];subst e3;have aR:=C _ (SqL.of (s9 _ _ ab));rw[Zl,Z4 hi]at aR;obtain rfl:x=V.ref ss[i].1:=(Za aR).symm;have%[q1,aa,bb,zz,e|_]:=al ss[i] (Ya hi);have z:=O.trans (Y.trans s9);have st:=SqT.of (K:=K) (z _ _ q1);have aU:dh (ss.take (i+1)) U U[j]=(dh (ss.take i) U U[j]&&!(decide (aa=U[j])&&decide (bb∈U))):=by
      unfold dh;rw[X7,Z4 hi,List.all_append];simp[e,fs3,sn3]
     rw[e]at st;lk;have no: ¬(aa=U[j]/\bb∈U)->CN ss.length i (λi vs v g=>(∃M,v=[M,some (.str U[j]),!a])/\ah H8 g/\g G<*vs/\ ~~~vs<=i/\(vs=[]↔dh (ss.take i) U U[j]=true)) us [some (.ref ss[i].1),some (.str U[j]),!a] bf:=λc=>by
      refine CN.mk hi %[%[_|rfl],s9,as,⋯|?_];rw[aU,u,show(decide (aa=U[j])&&decide (bb∈U))=false by simpa using c];simp
     refine%[_,st,_,ρ,ρ|bA (λc1=>%[_,st,_,ρ,_,.inl (SqL.of (s9 _ _ (Y _ _ I))),ρ,?_|bA (λc2=>?_) λc2=>?_]) λc1=>?_]
     .exact qX U
     .have c1:aa=U[j]:=↑c1
      have c2:bb∈U:=by rw[ki]at c2;exact Zo c2
      refine CK.mk hi as (aG ⋯) %[%[_|rfl],ah.set s9 hG,ae,by rw[Z9];exact Nat.succ_le_succ hl|?_];rw[aU,show(decide (aa=U[j])&&decide (bb∈U))=true by simp[c1,c2]];simp
     .refine no λc=>c2 ?_
      rw[ki];exact Zf c.2
     .exact no λc=>c1 (by simp[c.1])
    .intro us v H9 %[_,s9,bl,_|u];rw[Zn (Zi _)]at u;refine%[#[0]|λq hq=>%[_,_,_,ρ,ρ,ah.upd hq _ _ bl,ae,_,ρ|?_]];have z:=s9.trans (ah.upd (o:= .lst []) hq);have vl: ~~~((U.take j).filter (dh ss U))<=60:=by
      have:=Yg (dh ss U) (U.take j);rw[Yj]at this
      lia
     refine bA (λc=>?_) λc=>?_
     .have c:=u.mp (Zo c);refine CK.mk y (z _ _ N) (by rw[B,Z6];exact aG ⋯) %[%[_|rfl],ah.set (Y.trans z) hF,ae|?_];rw[B,X7,Z4 y,Y2,Zd];show _=_++(List.filter _ [U[j]])\3;rw[Y4 c];rfl
     .have c: ¬ dh ss U U[j]=true:=λq=>c (Zf (u.mpr q))
      refine CN.mk y %[%[_|rfl],Y.trans z,z _ _ N|?_];rw[B,X7,Z4 y,Y2,Zd];show _=_++(List.filter _ [U[j]])\3;rw[Y3 c];simp
   intro vs v H7 %[_,Y,a1|B];rw[Zn (Zi _)]at B;subst B;lk;have f0:0< ~~~(U.filter (dh ss U)):=length_pos_iff.mpr (ok.free ti nr u0);obtain⟨x,C⟩:∃x,(U.filter (dh ss U))[0]?∣x:=%[_|Z4 f0]
   have a0:atI ((U.filter (dh ss U))\3) 0∣.str x:=cg (j:=0) (by rw[Zl,C];rfl);have a2:=Y _ _ ai;have bm:=Y _ _ I;have Fr:F≠r:=λc=>by rw[c,ai]at hF;cases hF
   have s8:=ah.set (o:= .lst (L\3++[.str x])) (O.trans Y) aq;have a3:upd H7 r (.lst (L\3++[.str x])) a=_:=(aj ar).trans bm;refine%[tyL (SqL.of a2),_,SqL.of a1,_,a0,_,a2,by rw[Z6];exact aG ⋯,tyL (SqL.of a3),_,SqL.of ((aj Fr).trans a1),_,a0|?_];have xU:=(List.mem_filter.mp (Z8 C)).1;refine%[x,ρ,U,a3,xU|λj y=>?_];have jl:=(Xi y).1;have el: ~~~(U.eraseIdx j)= ~~~U-1:=List.length_eraseIdx_of_lt jl;refine%[~~~U-1,⋯,!F,U.eraseIdx j,L++[x],ρ,ah.set s8 a5,ae,?_,ok.step ti C y,⋯,by rw[Z9,el,Yi];lia|el.symm];rw[aj ar.symm,ae,Zd];rfl
  .have u0:U=[]:=↑h
   refine k3 _ _ ?_;lk;rw[u0]at ok;have e:=ok.mem;simp only[Zx]at e;exact kk r _ L (sm.trans (ah.upd hp)) aq (ah.upd hp _ _ hL) %[by have:=ok.nd;rwa[Zx]at this,e,ok.ord|ok.lst]
inductive Cg
 | mk (m d:Addr) (ls:ZC) (f:Str->Str) (ss:ZH):vs=[.ref m,.ref d]->H m∣.lst (ss\0)->cY H (ls.map f) ss-> ~~~ss<=150->H d∣.dK (NmD ls f)-> ~~~ls<=60->(∀x,¬ Rch (ss\2) x x)->(∀r H' L,ah H H'->H r=none->H' r<*L\3->rq (ss\2) (ls.map f) L->Q (.ref r) H')->Cg vs H Q E0
def zL(T:Txt K mg):↥1 "_law_due" ["_law_tied","_law_called_here"] Cg:=by
 refine(xi T).frozen.imp λvs H Q E zqw=>?_;have%[m,d,ls,f,ss,i,j,lk,q,h,r,s|u]:=zqw;refine  .inr %[d,_,by rw[i];rfl,h|λo=>?_]
 have ne:∀{b:Addr} {l:HO},H b∣l->l≠ .dK (NmD ls f)->b≠d:=λe n c=>n (by rw[c,h]at e;exact(Za e).symm)
 refine%[m,d,o,ls,f,ss,i,(aj (ne j ∅)).trans j,λt a=>%[(aj (ne (lk t a).1 ∅)).trans (lk t a).1|(lk t a).2],q,ae,r,s|λt y L v g a ok=>?_];have p:t≠d:=λc=>by rw[c,ae]at g;cases g
 rw[aj p]at g;refine u t _ L (λc o e=>?_) g (by rw[aj p];exact a) ok;by_cases z:c=d
 .rw[z]at e ⊢;rw[h]at e;rw[ae];exact e
 .rw[aj z];exact v c o (by rw[aj z];exact e)
def vC:∀(c:ZI),(∀p∈c,wQ p.2.2)->∃ks:List ZC,~~~ks<=26* ~~~c/\∀k,k∈ks↔k∈bq c
 |[],_=>%[[],by simp|λk=>Iff.rfl]
 | p::c,h=>by
   have%[ks,l|e]:=vC c λq g=>h q (Zk _ g)
   have%[m,n|i]:=h p Zm;refine%[(m.filter λk=>decide (k∈bg p.2.2 (~~~p.2.2-1))).map (fC p.2.1) ++ks,?_|λk=>?_]
   .have:=Yg (λk=>decide (k∈bg p.2.2 (~~~p.2.2-1))) m;rw[Z9,Z6,Zr]
    lia
   .rw[Yq,e k,show bq (p::c)=(bg p.2.2 (~~~p.2.2-1)).map (fC p.2.1) ++bq c from rfl,Yq];refine or_congr %[λq=>?_|λq=>?_] Iff.rfl<;> have%[f,d|rfl]:=Xl q
    .exact Xm %[f,Zo (List.mem_filter.mp d).2|rfl]
    .refine Xm %[f,List.mem_filter.mpr %[?_|Zf d]|rfl];have%[a,b,rfl|j]:=lq d;exact i a b j
def DU{H:Hp}{g:ZI}{qs:ZO}{f:ZC}(p:lD H g qs)(n:cF H f qs)(d:∀p∈g,∀a,Let p.2.2 a->lnS p.2.1 (sgn a)∈f):
 ∃ks:List ZC,~~~ks<=150/\(∀k∈ks,cP f k)/\∀k,k∈ks↔k∈bq g\/k∈cN qs qs.length:=by
 have%[ks,l|e]:=vC g p.few;refine%[ks++cN qs qs.length,?_,λk o=>?_|λk=>by rw[Yq,e]]
 .have:=List.length_filterMap_le (λj=>qs[j]?.bind λq=>iQ j q.2) (List.range qs.length);rw[Yh]at this;have:=p.p3;have:=p.q20;rw[Z9];unfold cN
  lia
 .rcases Xj o with h|h
  .have%[c,i|h]:=mem_flatMap.mp ((e k).mp h);have%[B,m|rfl]:=Xl h;have%[a,b,rfl|r]:=lq m;have%[s|u]:=lu (p.ca c i).2.2 r;exact%[_,_,_,ρ,d c i a s|d c i b u]
  .have%[j,_|h]:=mem_filterMap.mp h;have%[q,v|h]:=Option.bind_eq_some_iff.mp h;rcases(n q (Z8 v)).2 with⟨w,a,b,e,_,z,A,_⟩|⟨w,a,y,e,_⟩<;> rw[e]at h
   .change (if w=Str.ofString "later" then some [a,b,sW j]else none)∣k at h
    split at h
    .exact%[a,b,_,(Za h).symm,z|A]
    .cases h
   .cases h
def GG{f:Addr}{fd:FuncData}(F:Fun K "law" "law" kc f fd)(T:Txt K mg):dR P w K mg base CX0 12 f fd ["_law_script"] (ph K):=by
 refine F.ok fH (by intro a b c d h;have%[_,_,rfl|_]:=h;rfl) (λb6 A outer s H vs Q E G h=>?_)
 .have%[a,ns,rfl,hs,ho,hn|kk]:=h;refine%[_,%["JD~OH]:AH];A0ACBBlOL1OL2OL3mDG4H]<A1A2A3BDG5]=]>A1A2BDG6H]^A4BDNK~R6)DG7H~|A5BDNqgH~}A7A4A6BEIxQDW~[~07EIH~}AH~|A5BA4A6BQDG8H]_A4AH]|A2A3BBDG9H~1A5BDNZrqgz!A9A?1ByK]}98EIxQDW~[~09EIt][H~1A5B8",fH.nd,(blE (v:= .ty "list") rfl T.a5 boot_list rfl rfl rfl)|G]|?_]
  show br _ _ _ [!a,none,none,none,none,none,none,none,none,none] H;refine am λD1 k1 _=>?_
  lk;refine%[a,ns,86,ρ,hs,⋯,!1,!1|λl0 H0 xs s0 f0 h0 hx hb=>?_];refine%[l0,xs,ρ,SqL.of h0,λH' sm=>SqL.of (sm _ _ h0),hx,hb|λt l1 l2 l3 H1 ds qs s1 ft f1 f2 f3 b7 b9 ca ht h1 h2 h3 d1 d3 J ab aq u hq a6=>?_];have nm:((dcs ds).map λp=>p.2.1).Nodup:=by
   unfold dcs;rw[Yp];exact ab
  have dl: ~~~(dcs ds)= ~~~ds:=by unfold dcs;rw[Z6]
  have sub:∀ls:ZC,ls.Perm ((dcs ds).flatMap lyr)->∀x,x∈ls↔x∈(ds.flatMap λp=>(f6 p.2)\1):=λls pl x=>by rw[xg pl,rE J]
  have ar:∀p∈dcs ds,wQ p.2.2:=λp hp=>by
   unfold dcs at hp;have%[d,hd|rfl]:=Xl hp;exact BR (J d hd).2.2.2.2.2
  have ac: ~~~((dcs ds).flatMap lyr)<=32:=by
   have:=_T.nodup_sub (kD nm (.refl _)) λx hx=>(sub _ (.refl _) x).mp hx
   lia
  have P1:lD H1 (dcs ds) qs:=%[aq,nm,⋯,⋯,ar,⋯,λls p q as=>%[(u q as).1|(u q as).2.mono λx=>(sub ls p x).mpr]|⋯]
  have B:∀p∈dcs ds,∀a,Let p.2.2 a->lnS p.2.1 (sgn a)∈(ds.flatMap λp=>(f6 p.2)\1):=λp hp a ha=>(rE J).mpr %[p,hp,a,ha|kC _ _]
  have nn:=vA J ab
  generalize (ds.flatMap λp=>(f6 p.2)\1)=C at h3 u sub B nn a6
  generalize dcs ds=cs at h1 P1 sub B ac
  clear aq ar J ab dl nm d1 d3 ho s0 f0 hs hx hb;have%[a7,aR,aU|ag]:=DU P1 u B;lk;refine%[_,SqT.of ht,ρ,_,_,ρ,_,_,ρ,_,_,ρ,ρ|k1 _ _ (am λD2 k2 _=>?_)];have:=P1.q20;lk;refine%[l1,l2,l3,cs,qs,C,a7,ρ,h1,h2,h3,P1.ca,u,nn,⋯,⋯,B,aR,aU,ag|λr H2 ss s2 _ a0 tu lk sl=>k2 _ _ (am λD3 k3 _=>?_)];lk;refine λg dx fg a1 bb=>DT fg a1 (s2 _ _ h1) (s2 _ _ h2) (P1.up s2) λH3 ls ts s3 gr pl tm=>k3 _ _ (am λD4 k4 _=>?_)
  have N:=s2.trans s3;have h2:=N _ _ h2;have h3:=N _ _ h3;have O:=s3 _ _ a0;have u:=u.up N;have tu:aK H3 ss:=λt ht=>%[(tu t ht).1|s3 _ _ (tu t ht).2]
  have lk:cw (bR qs) (ts\2) (ss\2):=%[lk.nd|λk=>by simp only[tm,<-ag];exact lk.mem k]
  have sub:=sub ls pl;have bc:∀k∈ss\2,cP C k:=λk hk=>(gr.ties lk k hk).mono λx=>(sub x).mp
  have la:=oY tu bc;have ll: ~~~ls<=32:=by rw[pl.length_eq];exact ac
  clear tm aR aU ag h1 P1 B ac pl s2 s3 N a0 fg a1 bb;lk;refine%[r,C,ss,ρ,O,la,⋯,sl|λH4 v s4 lr=>k4 _ _ (am λD5 k5 r5=>?_)];lk;rcases lr with⟨rfl,no⟩|⟨n,rfl,n1,⟨y,dy⟩,mn⟩
  .rw[if_neg ∅];have nr:∀x,¬ Rch (ss\2) x x:=λx c=>by
    have%[n|d]:=c.dst;exact no x trivial _ (succ_pos n) d
   refine k5 _ _ (am λD6 k6 _=>?_);lk;refine%[l2,l3,C,qs,ρ,s4 _ _ h2,s4 _ _ h3,u.up s4,nn,⋯|λd H5 f s5 cd bf hf=>?_];have I:=s4.trans s5;have ms:∀x,x∈C.map f↔x∈ls/\cz (bR qs) x x:=λx=>by
    rw[mem_map]
    constructor
    .rintro⟨z,hz,rfl⟩;have%[a|b]:=hf z hz;exact%[(sub _).mpr a|jD b b.1]
    .rintro⟨a,b⟩;have a:=(sub x).mp a;exact%[x,a|(hf x a).2.one b]
   refine%[r,d,C,f,ss,ρ,I _ _ O,λt ht=>%[((la.up I) t ht).1|?_],sl,bf,⋯,nr|λq H6 L s6 fq hq ok=>k6 _ _ (am λD7 k7 _=>?_)]
   .have%[a,b,z,e,ha|hb]:=gr.ends lk (Xm %[t,ht|rfl]);exact%[a,b,z,e,(ms a).mpr ha|(ms b).mpr hb]
   have ai:=I.trans s6;lk;refine%[g,qs,ls,ts,_,ρ,gr.up ai,lk,nr|λo H7 ch M s7 fo U hn bl=>k7 _ _ (am λD8 k8 _=>?_)];obtain rfl:=ok.one bl λx=>(ms x).trans (hn.mem x).symm
   have cl:=ai.trans s7;lk;have al:∀{H':Hp} (j:Nat) (x y:V),(L\3)[j]?∣x->(L\3)[j]?∣y->uM H' x y:=λ{H'} j x y ex ey=> .inl %[Za (ex.symm.trans ey)|by
    rw[Zl]at ex;have%[t,_|rfl]:=map_eq_some_iff.mp ex;rfl]
   have bm:=s7 _ _ hq;refine%[.type "list",.lst U,true,by rfl|rV %[o,q,_,_,ρ,ρ,U,bm,ρ,al,false,ρ|rV (k8 _ _ (am λD9 k9 _=>?_))]];lk;refine%[tyL (SqL.of U),%[_|U]|k9 _ _ ?_];have s8:ah H6 (upd H7 o (.lst [])):=ah.set s7 fo;have a2:=s8 _ _ hq;have a3:=ai.trans s8
   generalize upd H7 o (.lst [])=H8 at s8 a2 a3
   lk;refine%[g,qs,ls,ts,_,ρ,gr.up a3,lk,nr|λo' H9 b5 M s9 co bt b0 a4=>?_];obtain rfl:=ok.one a4 λx=>(ms x).trans (b0.mem x).symm
   exact%[o',q,_,_,ρ,ρ,bt,s9 _ _ a2,ρ,al|kk _]
  .rw[if_pos ∅];obtain⟨n,rfl⟩:∃i,n=i+1:=%[n-1|⋯]
   have wn:∀{ws:ZH} {x:Str},Sho (ss\2) x x (ws\2)->(∀y n,Dst (ss\2) y (n+1) y-> ~~~ws<=n+1)-> ~~~ws=n+1:=λ{ws x} Y mw=>by
    have%[m,e|d]:=Y.dst;rw[Z6]at e;have:=mn x trivial (m+1) ⋯ d;have:=mw y n dy
    lia
   refine%[g,qs,ls,ts,_,ρ,gr.up s4,lk,%[y|dy.rch]|λl H5 ws x s5 fl hl tw Y a5 mw=>?_];have I:=s4.trans s5;refine%[l,r,C,ws,ss,x,by rw[wn Y mw],hl,tw,a5,I _ _ O,la.up I,Y,true,ρ|rV %[tyL (SqL.of hl),l,ρ,%[_|hl]|?_]];have s6:ah H3 (upd H5 l (.lst [])):=λb o hb=>by rw[aj (ax (s4 _ _ hb) fl)];exact I _ _ hb
   exact%[g,qs,ls,ts,_,ρ,gr.up s6,lk,%[y|dy.rch]|λl' H7 b1 x' s7 _ b2 b3 aa an b4=>%[l',r,C,b1,ss,x',by rw[wn aa b4],b2,b3,an,(s6.trans s7) _ _ O,la.up (s6.trans s7),aa|r5 _ _ (kk _)]]
end
abbrev dfm:= @Fz
abbrev gvm:= @G4
def all_mk{l:PySem.W.OpenLaw}{w:World}{K:ZB}{h:Heap}{mg:ZD}{fa aj:Addr}(X:K.In h)(G:h.Ns mainGlobals mg)(hfa:mg "law"=some (.ref fa))
 {b7 ay:ZJ} {b8:ZL} {b9 az a0 a1 ak a2:Value}
 (F:Txc K mg->Txt K mg)
 (ca:nsIn K mainGlobals "law"=some (some (.ref aj))) (cb:K.lookup aj=some %[b9,b7,.func (fnOf "law" "law" (cJ kc) (bJ kc) (ao kc) .none az a0 a1 ay ak a2)|b8]) (cc:codeIn K ak "law"=true) (cd:keepIn K (.ref aj)=true)
 {aa ac ad a3 a4 a5 a6 a7:Addr}
 {ae:Addr} {cf cg:ZJ} {ch:ZL} {ci cj cl a8 cm:Value}
 (al:nsIn K mainGlobals "Torn"=some (some (.ref aa)))
 (a9:nsIn K mainGlobals "DigError"=some (some (.ref ac)))
 (ba:nsIn K mainGlobals "NoCut"=some (some (.ref ad)))
 (bb:nsIn K mainGlobals "NoLayer"=some (some (.ref a3)))
 (bc:nsIn K mainGlobals "NoRow"=some (some (.ref a4)))
 (bd:nsIn K mainGlobals "NoDeed"=some (some (.ref a5)))
 (be:nsIn K mainGlobals "NoSaying"=some (some (.ref a6)))
 (bf:nsIn K mainGlobals "NoGround"=some (some (.ref a7)))
 (bg:findIn K (.ref aa) "__getattribute__"=some (some (.builtin "BaseException.__getattribute__")))
 (bh:findIn K (.ref aa) "__getattr__"=some none)
 (bi:subIn K (.ref aa) (.type "BaseException")∣true)
 (am:hasDictIn K aa=true)
 (cn:findIn K (.ref aa) "__class__"=some (some (.builtin "object.__class__")))
 (co:specialIn K (.builtin "object.__class__") "__get__"=some (some (.builtin "getset_descriptor.__get__")))
 (cp:takesIn K (.builtin "object.__class__")∣true)
 (cq:mroIn K aa (.type "object")∣true)
 (e7:findIn K (.ref aa) "__init__"=some (some (.ref ae)))
 (an:K.lookup ae=some %[.type "function",cf,.func (fnOf "__init__" "Torn.__init__" (cJ dZ) (bJ dZ) (ao dZ) .none ci cj cl cg a8 cm)|ch])
 (bj:codeIn K a8 "Torn.__init__"=true)
 (bk:keepIn K (.ref ae)=true)
 (bl:exK K aa ae=true)
 (cr:keepIn K (.ref aa)=true)
 (cs:findIn K (.ref aa) "__setattr__"=some (some (.builtin "object.__setattr__")))
 (bm:sr K aa=true)
 (bn:findIn K (.ref aa) "ring"=some none)






 (ct:subIn K (.ref aa) (.ref ad)∣false)
 (cu:subIn K (.ref aa) (.ref ac)∣true)
 (cv:kitOne K (.ref aa) (.ref aa)∣true)
 (cw:kitOne K (.ref aa) (.type "ValueError")∣true)
 (cx:kitAny K (.ref aa) [.ref ad,.ref a7,.ref a6,.ref a5,.ref a4,.ref a3]∣false)
 (cy:specialIn K (.ref ac) "__getattribute__"=some (some (.builtin "type.__getattribute__")))
 (cz:readsIn K ac (.type "type")=true)
 (c0:findCls K (.ref ac) (.type "type") "__init__"=some (.val (.builtin "ValueError.__init__")))
 (c1:typeIn K (.ref ad)∣.type "type")
 (c2:subIn K (.ref ad) (.type "BaseException")∣true)
 (bo:(K.lookup ad).any (λo=>match o.data with| .cls _=>true|_=>false)=true)
 (c3:typeIn K (.ref ac)∣.type "type")
 (c4:subIn K (.ref ac) (.type "BaseException")∣true)
 (bp:(K.lookup ac).any (λo=>match o.data with| .cls _=>true|_=>false)=true)
 {ab:Addr}
 (bq:nsIn K mainGlobals "Ground"=some (some (.ref ab)))
 (c5:plainGet K ab Str.empty=true)
 (c6:hasDictIn K ab=true)
 (c7:plainOver K ab=true)
 (c8:findIn K (.ref ab) "__setattr__"=some (some (.builtin "object.__setattr__")))
 (c9:findIn K (.ref ab) "kept_cuts"=some none)
 (da:findIn K (.ref ab) "kept_sayings"=some none)
 (db:findIn K (.ref ab) "kept_layers"=some none)
 (dc:findIn K (.ref ab) "kept_ties"=some none)
 {af:Addr} {dd de:ZJ} {df:ZL} {dg dh di dj br dk:Value}
 (dl:findIn K (.ref ab) "__init__"=some (some (.ref af)))
 (bs:K.lookup af=some %[dg,dd,.func (fnOf "__init__" "Ground.__init__" (cJ ce) (bJ ce) (ao ce) .none dh di dj de br dk)|df])
 (bt:codeIn K br "Ground.__init__"=true)
 (bu:keepIn K (.ref af)=true)
 (dm:isFn K (.ref af)=true)
 (dn:makesIn K ab=true)
 (dp:keepIn K (.ref ab)=true)
 {ag:Addr} {dq dr:ZJ} {ds:ZL} {dt du dv dw bv dx:Value}
 (dy:findIn K (.ref ab) "sayings"=some (some (.ref ag)))
 (bw:K.lookup ag=some %[dt,dq,.func (fnOf "sayings" "Ground.sayings" (cJ ck) (bJ ck) (ao ck) .none du dv dw dr bv dx)|ds])
 (bx:codeIn K bv "Ground.sayings"=true)
 (ap:keepIn K (.ref ag)=true)
 (dz:isFn K (.ref ag)=true)
 {ah:Addr} {d0 d1:ZJ} {d2:ZL} {d3 d4 d5 d6 bz d7:Value}
 (d8:findIn K (.ref ab) "layers"=some (some (.ref ah)))
 (b0:K.lookup ah=some %[d3,d0,.func (fnOf "layers" "Ground.layers" (cJ cA) (bJ cA) (ao cA) .none d4 d5 d6 d1 bz d7)|d2])
 (b1:codeIn K bz "Ground.layers"=true)
 (aq:keepIn K (.ref ah)=true)
 (d9:isFn K (.ref ah)=true)
 {ai:Addr} {ea eb:ZJ} {ec:ZL} {ed ee ef eg b2 eh:Value}
 (ei:findIn K (.ref ab) "ties"=some (some (.ref ai)))
 (b3:K.lookup ai=some %[ed,ea,.func (fnOf "ties" "Ground.ties" (cJ cX) (bJ cX) (ao cX) .none ee ef eg eb b2 eh)|ec])
 (b4:codeIn K b2 "Ground.ties"=true)
 (ar:keepIn K (.ref ai)=true)
 (ej:isFn K (.ref ai)=true)
 {b5:Addr} {au:Obj} {av:ZK} {ek:Nat}
 (el:nsIn K mainGlobals "YEAR_WORDS"=some (some (.ref b5)))
 (em:K.lookup b5∣au)
 (en:au.cls= .type "tuple")
 (eo:au.data= .seq av ek)
 (ep:av.size<=sizeLine)
 (eq:aI [.str "since",.str "by"] av.toList)
 {b6:Addr} {aw:Obj} {ax:ZK} {er:Nat}
 (es:nsIn K mainGlobals "LAYER_WORDS"=some (some (.ref b6)))
 (et:K.lookup b6∣aw)
 (eu:aw.cls= .type "tuple")
 (ev:aw.data= .seq ax er)
 (ew:ax.size<=sizeLine)
 (ex:aI [.str "later",.str "same"] ax.toList)
 :∃fd:FuncData,(∀(s:Shared) (v:Value),BindsTo s fd %[[v]|[]] [("_law_script",v)])/\∀base:Heap,K.In base->base.Ns mainGlobals mg->dR l.prog w K mg base CX0 12 fa fd ["_law_script"] (ph K):=by
 have e:=hfa.symm.trans (mg_of X G ca);cases e;have ey:=eB (mg_of X G al);subst ey;have ez:=eB (mg_of X G a9);subst ez;have e0:=eB (mg_of X G ba);subst e0;have e1:=eB (mg_of X G bb);subst e1;have e2:=eB (mg_of X G bc);subst e2;have e3:=eB (mg_of X G bd);subst e3;have e4:=eB (mg_of X G be);subst e4;have e5:=eB (mg_of X G bf);subst e5;have e6:=eB (mg_of X G bq);subst e6;have T:Txt K mg:=F %[mg_of X G al,
  mg_of X G a9,
  mg_of X G ba,
  mg_of X G bb,
  mg_of X G bc,
  mg_of X G bd,
  mg_of X G be,
  mg_of X G bf,
  %[mg_of X G al,%[bg,bh,bi,am,cn,co,cp|cq],ae,_,%[bl,by rw[an];rfl|cr],dG an bj bk|(dG an bj bk).binds (by room)],
  %[cs,bm,bn|am],
  %[bg,bh,bi,bn|am],
  ct,
  cu,
  cv,
  cw,
  cx,
  %[cy,cz|c0],
  %[c1,c2|bo],
  %[c3,c4|bp],
  %[mg_of X G bq,c5,c6,c7|c8],
  c9,
  da,
  db,
  dc,
  %[af,_,%[dn,dl,dm|dp],dG bs bt bu|(dG bs bt bu).binds (by room)],
  %[ag,_,%[dy,dz|ap],dG bw bx ap|(dG bw bx ap).binds (by room)],
  %[ah,_,%[d8,d9|aq],dG b0 b1 aq|(dG b0 b1 aq).binds (by room)],
  %[ai,_,%[ei,ej|ar],dG b3 b4 ar|(dG b3 b4 ar).binds (by room)],
  Bo X G el em en eo ep eq|
  Bo X G es et eu ev ew ex]
 exact%[fnOf "law" "law" (cJ kc) (bJ kc) (ao kc) .none az a0 a1 ay ak a2,λs v=> .of_eq rfl|λbase _ _=>GG (dG (st:=kc) cb cc cd) T]
def walk{l:PySem.W.OpenLaw}{q:Program}{b:ZC}{j:(Str->Option Value)->Heap->Prop}{e:World->Heap->Prop}{d:DefRec}{K:Params->ZB}(m:l.most∣63)(c:d.params.defaults=[])
 (o:∀(w:World) (h:Heap),e w h->(K w.params).In h)
 (F:∀(w:World) (mg:ZD) (g:Addr) (h:Heap),(K w.params).In h->h.Ns mainGlobals mg->mg d.name∣.ref g->
  ∃i:FuncData,(∀(s:Shared) (u:Value),BindsTo s i %[[u]|[]] [("_law_script",u)])/\∀base:Heap,(K w.params).In base->base.Ns mainGlobals mg->dR l.prog w (K w.params) mg base CX0 12 g i ["_law_script"] (ph (K w.params))):
 PySem.W.WalkO q b j e l.row.toRowW d [] (λf vs=>PySem.call f vs):=
 _L.walk_of (n:=63) (k:=12) (x:="_law_script") (CX:=λ_=>CX0) (sp:=λw=>ph (K w.params)) m (!1) c %[rfl,!1,!1|rfl] o F (λ_ _ a p r v y=>%[a,p,rfl,y,v,r|λ_=>rfl]) λ_ _ _ _ _ z=>z
end _K
end
open PySem PySem.W PyProof.Rows
set_option maxRecDepth 100000 in
theorem PySem.Challenge.cw_digbook_k32_the_least_order_holds : PySem.Challenge.rw_digbook_k32_the_least_order.Holds := by
 w_on;o_law;k_head;(case hw=>w_witness2)
 k_fill
 refine _K.walk (l:=PySem.Challenge.rw_digbook_k32_the_least_order) rfl rfl (λw h Y=>PySem.W.kIn_of Y) ?F
 case F=>
  intro w mg fa h KX G hmg;apply _K.all_mk KX G hmg
  (case F=>
   intro C
   constructor
   exact C
   all_goals first|exact PySem.W.mg_none_of KX G (by k_is)|(refine' _K.gvm KX G ?z ?r;(case z=>k_is);(case r=>exact⟨_,rfl⟩))|(refine' _K.dfm KX G ?a ?l ?c ?k ?b;(case a=>k_is);(case l=>k_is);(case c=>k_is);(case k=>k_is);(case b=>intro _ _ _ _ _ _;(repeat(refine _K.zq1 λ_=>?_));exact _K.zq0 rfl)))
  any_goals k_is
  (case bl|bm|bo|bp=>kernel_rfl)
  any_goals first|kit_is|rfl|decide|exact .cons ⟨_,rfl⟩ (.cons ⟨_,rfl⟩ (.nil))
