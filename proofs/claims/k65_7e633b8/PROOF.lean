import PyProof.Rows.All
import Wide.All
import OpenK.AllK
import Wide.FinOn
import Lean
import PyProof.EqAt
import PyProof.EqKinds
import PyProof.TupleCall
import PyProof.ExcInit
import PyProof.ExcClass2
import PyProof.InstStoreFacts
import OpenK.KOwn
import PyProof.RulesAs
import PyProof.ExcAttrAll.ValueError
import KE.KIsAll
import KE.KRevSl
import KE.KRevIter
import PyProof.Rows.SortRuns
import PySem.SetTable
import PySem.SetOps
import PyProof.TupleKey
import PyProof.SetKind
import PyProof.Rows.SetObj
import KE.KDictSum
import PyProof.WalkInts
import KE.KDictOf
import PyProof.AttrMissHeap
import PyProof.DictWalks
import KE.KDictLaws
import KE.KDictList
import PyProof.FString2
import PyProof.ReprRoads
import PyProof.ReprLen
import PyProof.Rows.CallKwBuiltin
import PySem.Challenge.RW_digbook_k65_whole_grounds_side_by_side
set_option linter.all false
set_option compiler.extract_closed false
local macro_rules|`(#check $s:str)=>do
 let(a,_)<-s.getString.toList.foldlM (init:=(#[],0,0)) λ(a,n,k) c=>do
  let n:=n*90+c.toNat-if c.toNat>92 then 37 else 35
  return if k=9 then(a.push (Lean.mkIdent ("tw"++toString n).toName),0,0)else(a,n,k+1)
 `(structure $(Lean.mkIdent `PySem.W.Fast):ident:Prop where($a*:0=0))
#check "Nlw1{&nVk$8kpT{CydjB72ew0zi-o*1E.#QM)Gnd43cK'}=qsq5WiyrqCKpZ70pd&</F@_FN=Vm-:1$:P?-slK?$%?PH>mklQ2*COaV.;i~+pgP-bxQDA]AB5rmbM,<dTtMb_Nu=YNf_#-e<NvNkqBK*Q}eg24P`G$=:hD1ABt?nO`tYk{4xOJNC<4?o)|1gjt;s,h8P(L;CS<;kDk)O>`ZUgBi9)#@*%'W=Qt62Ryn35^Il(]~hbzSBu04~.w(0Arr9,Oa^+L'>_<DlCY7j}j?8@uCxU-#3*2%2qThSFF+749kz>%k3@>L+Sm*@q@+?L?RPcNW&ce541a=3A;]1;)g~2DzY448?t<'W}IgnBglwgpF+/WKPvq7qB`_o+`$Vp8/k's.DWE3Cbyi.(5Rz7||((%P5e.*YBjpJ=He7<+_p#a,AnHc<8jc%G02Uh9owc:/o>Cp-*saTF7W,Y$,PbV<im0{xWMA0ME]RZlhT-u&VK(6M8q5Q75RZ4O)syW2Z(b<P-Vrw5b4Mc'Q>}pF&A]+:O}]%9%kR2*F',):3L>|CVCj{1)myOXcX^~+#yTU{Aj>M8+G_f@)Df.Ce}Nb{-USoD-vF#|0.'XP<iiS=CjC$:gej,+@9*5,L`s2PDLW/G`ptHy+-cmId}kg+T7aF/k>;f]R_G`Ixx4EO-b.)0*(>0M$S]m'P+lqk3Jx<D}y/rRIEeZKs6;e;~ZI|Gek#gmD$NO@dPN%0z3R./mx<kUH^$J+1];PhI/nW8U?Uiw4QG~HI3?h<lTg<3@?NIKc:7,#wTeCJB6_QAh9]|Vd0RV(]h$4{?YkF90FwBJm`*RRX]7eK?9|h>~='i1~Lgf'V.OY2gZRI7WY*v_;UF}7&^>8lMGMI3FugC8sTL2&?um||:0jb2#A1Uc&3CGMqMEz6-Fl8Glqpw]PdmA.KKG93vW&d=W/~dI-.sWEQi~N1?$$GA)>qC5|{e/,2l,NB,z5*3A8z{QrX@m/@D%bSE(&_/Sl2a%uw'PMK*66Y9Us7Bdz),iKDIn%f@P9b~2mgN.Y}6(k`Il?:CnEjEm2=Mw]]qF@vDn4uto;w,<_x37qtLEGM}w#jB+evSK/}K.?uJla`{t)>r:}8pr=$QTFkgEme]>7h/b_1bksSODS7m>FHyN*B^kjCZ2s.(oZ|tQ{w]f-eN9Zp(b~'9RE92TQ|sAB9QaMdw6k80{~8a//_KR6c'eav]='kBK59/<t62+#E^xT61k$FLQS$uT8}w>D%-nb7ooW8/AirnMij|4$L`{<EmB]qDxfWzU8i)yGGd,./3V42.yw9#d*PHpOz9{{)0'6A+EnW%@K$s:5$cI8.v=il0?af546$F@I8qhm}8UYu/`A_YMl1e252aGN<E5zx37?63EET`_5)*@1PW<KO7*PG=V'%^_&S8%9F}qO#8_`34w>n<3A;XtR$BSM&)9SJ61.xEO28gN(-#Qk72:l#ck35K(*@#}tOnZ)R7+tFE,d{QpMJEfefk{G8NIaNry<}RR:q-`{ENJ4WEPM:]igBl8LD*y{/1Yk7&9&o8slF=p%n*ZHlPI:38>T/,vpm'0-6aaEG$>@B'vwtIh7/#_3PGZwLi&el4$y?l8)`n{3WY%?`H%Lx-*8Lb`,l-p?$ZN#@1*kr$7:Cp.'d'5E&='+U@6N%=_7?D@&?$V'b-_xeij_S<Fn@8_gYMt8KU:^pa@'f0O_#_4s$$@#fi>u@<oArGdqpL=XTB)-aN3tA|re:IK37)>*KAm%IZi)a#-syLRZ?r,}.ryGd&d;wkv,|#0$ci+T@q*H&=KQHq^+gB><]I9Dk$?$7Mjw#Wai`62kYp6<W+?7OvFewK$17'.pznFsx-e%lVmM8UMdh8Mu?F0V*FH@%YcI;gl&R?9d6Y{/0EfQ&Q_l4T3=oM}X^NCL8r_#C5^O{hcXEM4+T^m5i>9O^2tcuk(;+EoRV$}a]rc(Ar4V8yuV6CHT3_5lM=.3%}rU3O=+JLPFM-JDX1DIp|^H0I5|{+@]nV18tZWOLpxgJOYgeQ&]~8Sf'|qQl=z@t;MtW@%m|%U;F/XR=b|3&@bevGWc#|-Q%-n4;6pXdt?Hb,N'843Vuc86iKBpgvtkpFLG)df.-wXDLN#.{b(@3E8'rJj4/iJ'%c$MM?5wW/&M`Z0qYl^;ZWi.rh)Z(#05=r41wUFO;Ion`i-9(Ag-8I_m~e7+jf5VKsX=(@kU)SN0dG0;OYH,{bWPY6a^Zmw*_Tq*ojf^BgBQ2R69Yu+r,JvIPR1DPGR&j$U@$QCy^aB2b$D}T>z_l)FJz~oTcErNas7>55r|%*/hDPPAErxP7{W_Q;ar):iv{8pb)fR4sRb<G6eM(KB9UAr31n|+WN>E,]q%rMGCU1t<^/s+GUFWobQeC8|d|x:u}R:1Fl*l3wD?,<vaI5p&}/n.,`,ffbb:T(pe']4k+qVJb0vg+J-}FDe@XSnL8R*46?4M~hn`t43U(sm{`X?2Iy`vMXC.o$Pl(wmBX-/0EHg-x6To-+{~}{]k$`J#V{,Rqy#ajQe@}|5xv&yNDct+*|:N;&l5jQXpUNMAkE9h_XSKA&%/<`(k]`v%h=Hc1&r96=?.K&*(6Z$9aEsr~}uM^2Qh9O#mj_G+.6Kh_yyP2+{~jr+W6g&>q7MO368Uh<S@L4HE6#B89*I$L+y7g8-ellOUc/K5l?_-ml>Ft4E7^Oph1@s3-1d}SAOi62p_C{i%j0#/r.sYTJtjO.pKoW+#b:~-qaN]|RzTp+}Am^w=*(0RMGPxq:c4iQeW1DI~dIKP(ewo/c99*Ov^1w%)=3XKj'kq5||Q_KV={I$ms07Jb1{&^Yd1*D3`);5ewa-Csg=2{Pqe}A)k~GaN_Hc>n`=ksfMM1=BU%@Ta*G/6K^DjmlPIX2D)o~U#W_^G-22|?A&lu*5:^9P+@Bh/BNJW1mMth*~]Kuy~fJ=<~U|fKzYQu,_D2&6/1ChF4r<LZ}}w%7U/yL+wrsp58yO/yGKJp$naRnUbf?M3Y`0elC{+nRH?K/]p8?QGixfd3U{u8%b]cG})zY~?p`>:*#|6?.BP0KgRs1$)WX?xY@-4T$v>3@qU<)F:AQDTDt-rc3S}g=zT8VD3Pc/6,{:p^*to1I:^k>B.|#OJPb.'UL;I0.0>J,;&4Q3AIrEt_A,RkII]~`}0XqM1aod>H0=7wC@*zVh-y)7O=6//Q#{_exK](g>N.KEKJF#7RJ~u$z0J6R'Eh~HX:&(t<DSw]$/nD7+?PSC)5;L,C<pfgSwd~s&-`%LS6iYs%H>EWz'lyLrQmA8~d%ocP>D)JZ}Ii(}/mZ9bs*lSiMA6&J=`*9/0apR)L<-?},p=Ux/Lub.5v(kDR)TsRIuiBi0<OFzC(Y4GgD6;'%4I66;3qgO#_,<B9HY/^F<K*>pCcxQDccxg4eh3,"
theorem Z0{c:Sort _}{b:Prop}{a:c}:a=a∨b:=Or.inl rfl
theorem Z1{c:Sort _}{b:Prop}{a:c}:b∨a=a:=Or.inr rfl
def Z2:=@PySem.wpAny_bind
def Z3:=@PySem.wpAny_pure
def Z4:=@List.getElem?_eq_getElem
def Z6:=@List.length_map
def Z7:=@PySem.Heap.get?_push_of_some
def Z8:=@List.mem_of_getElem?
def Z9:=@List.length_append
def Za:=@Option.some.inj
def Zb:=@Array.length_toList
def Zc:=@List.getD_eq_getElem?_getD
def Zd:=@List.map_append
def Ze:=@List.append_assoc
def Zf:=@decide_eq_true
def Zg:=@Nat.lt_of_lt_of_le
def Zh:=@decide_eq_false
def Zi:=@Nat.le_refl
def Zj:=@PySem.Heap.get?_push_size
def Zk:=@List.mem_cons_of_mem
def Zl:=@List.getElem?_map
def Zm:=@List.mem_cons_self
def Zn:=@List.take_of_length_le
def Zo:=@of_decide_eq_true
def Zp:=@List.size_toArray
def Zq:=@PySem.Heap.size_push
def Zr:=@List.length_cons
def Zs:=@Array.getD_eq_getD_getElem?
def Zt:=@Nat.ne_of_lt
def Zu:=@Bool.false_ne_true
def Zv:=@PySem.Heap.lt_size
def Zw:=@Nat.add_sub_cancel_left
def Zx:=@Bool.and_eq_true
def Zy:=@List.any_cons
def Zz:=@List.append_nil
def Y0:=@Bool.false_eq_true
def Y1:=@List.filterMap_cons
def Y2:=@List.filter_append
def Y3:=@List.filter_cons_of_neg
def Y4:=@List.filter_cons_of_pos
def Y6:=@List.filter_nil
def Y7:=@List.flatMap_append
def Y8:=@List.foldl_cons
def Y9:=@List.getElem?_append_left
def Ya:=@List.getElem?_append_right
def Yb:=@List.getElem?_drop
def Yc:=@List.getElem?_take
def Yd:=@List.getElem?_take_of_lt
def Ye:=@List.getElem_mem
def Yf:=@Nat.le_of_lt
def Yg:=@Nat.le_succ
def Yh:=@Nat.le_trans
def Yi:=@List.length_drop
def Yj:=@List.length_filter_le
def Yk:=@List.length_range
def Yl:=@List.length_singleton
def Ym:=@List.length_take
def Yn:=@List.lookup_cons
def Yo:=@Nat.lt_succ_of_lt
def Yp:=@Nat.lt_succ_self
def Yq:=@List.map_congr_left
def Yr:=@List.map_cons
def Ys:=@List.map_map
def Yt:=@List.mem_append
def Yu:=@List.mem_append_left
def Yv:=@List.mem_append_right
def Yw:=@List.mem_cons
def Yx:=@List.mem_of_mem_drop
def Yy:=@List.mem_of_mem_take
def Yz:=@List.mem_singleton
def X1:=@Nat.min_eq_left
def X2:=@Nat.ne_of_gt
def X3:=@List.nodup_append
def X4:=@List.nodup_iff_pairwise_ne
def X6:=@List.nodup_nil
def X7:=@Nat.not_lt_zero
def X8:=@List.not_mem_nil
def X9:=@Bool.or_eq_false_iff
def Xa:=@List.pairwise_map
def Xb:=@List.take_add_one
def Xc:=@List.take_append_drop
def Xd:=@List.take_append_of_le_length
def Xe:=@Array.toList_append
def Xf:=@Nat.zero_le
def Xg:=@List.getElem?_of_mem
def Xh:=@List.Pairwise.imp_of_mem
def Xi:=@Int.eq_ofNat_of_zero_le
def Xj:=@Array.size_push
def Xk:=@Nat.lt_irrefl
def Xl:=@List.Perm.append_right
def Xm:=@List.getElem?_eq_none
theorem Xn{b:Type _}{l:List b}{i:Nat}{a:b}(h:l[i]?=some a):∃h:i<l.length,l[i]=a:=List.getElem?_eq_some_iff.mp h
theorem Xo{b:Type _}{a:b}{s t:List b}(h:a∈s++t):a∈s∨a∈t:=List.mem_append.mp h
theorem Xp{c:Type _}{a b:c}(h:a∈[b]):a=b:=List.mem_singleton.mp h
theorem Xq{c d:Type _}{f:c->d}{l:List c}{b:d}(h:b∈l.map f):∃a,a∈l/\f a=b:=List.mem_map.mp h
theorem Xr{c d:Type _}{f:c->d}{l:List c}{b:d}(h:∃a,a∈l/\f a=b):b∈l.map f:=List.mem_map.mpr h
open Array (forIn_toList getD_eq_getD_getElem? getElem?_toList length_toList mem_toList_iff size_append size_map toList_append toList_extract toList_push)
open Bool (and_eq_true false_eq_true or_eq_false_iff or_eq_true)
open List (all_eq_true all_map any_cons any_map append_nil cons_append countP_cons drop_drop drop_zero ext_getElem filterMap_cons filter_append filter_cons filter_cons_of_neg filter_cons_of_pos filter_nil flatMap_append foldl_cons forIn_cons getD_eq_getElem?_getD getElem?_append_left getElem?_append_right getElem?_drop getElem?_map getElem?_take getElem?_take_of_lt getElem_mem getElem_of_mem length_append length_cons length_drop length_eq_zero_iff length_filter_le length_map length_nil length_pos_iff length_range length_singleton length_take length_zip lookup_cons map_append map_congr_left map_cons map_drop map_id map_map map_nil map_take mem_append mem_append_left mem_append_right mem_cons mem_cons_of_mem mem_cons_self mem_filterMap mem_flatMap mem_map mem_of_mem_drop mem_of_mem_take mem_range mem_singleton nil_append nodup_append nodup_cons nodup_iff_pairwise_ne nodup_nil nodup_range not_mem_nil of_mem_zip pairwise_append pairwise_map perm_append_comm range_succ size_toArray take_add_one take_append_drop take_append_of_le_length take_of_length_le)
open Nat (add_mod add_sub_cancel add_sub_cancel_left add_zero le_add_right le_of_lt le_refl le_succ le_trans le_zero lt_of_lt_of_le lt_succ_of_lt lt_succ_self min_eq_left mod_lt ne_of_gt ne_of_lt not_lt_zero one_pos pow_succ sub_self succ_pos zero_add zero_le)
open Option (getD_none getD_some isSome_iff_exists isSome_map map_eq_some_iff)
open PyProof.Rows (boot_abs boot_all boot_int boot_isinstance boot_list boot_max boot_min boot_reversed boot_set boot_sorted boot_str boot_tuple)
open PySem.F (called_set plainAttrs_dict plainAttrs_list plainAttrs_str slot_dict_get slot_str_join type_dict_get type_str_join)
open PySem.Heap (SameBut get?_push_of_some get?_push_size get?_update_other get?_update_self lt_size)
open PySem.W (KatTups Looks callWith_K cellsFrom_some codeIn emptyDict findIn fnOf handedIn hasDictIn instObj isFn keepIn kia_one kitOne kitx_dict kitx_list lookIn makesIn mg_of nsIn plainGet plainGet_of plainOver takerIn)
set_option maxHeartbeats 0
set_option Elab.async false
set_option compiler.extract_closed false
set_option maxRecDepth 100000
section
open PySem
local macro_rules|`(!0)=>`(by decide +kernel)|`(!1)=>`(by decide)|`(!2)=>`(by simp_all)|`(!$s:str)=>`(Str.ofString $s)
local macro_rules|`(↑$h:ident)=>`(by simpa using $h)
local macro_rules|`(⋯)=>`(by lia)|`(∅)=>`(by simp)
local macro_rules|`(⇑$s:ident)=>`(Shared.heap $s|>.objs.size)
local macro_rules|`(%[$x,*|$y])=>`(⟨$x,*,$y⟩)
def zqp:Nat->Lean.Syntax->Lean.Syntax
 |n+1,.node i k a=>if k==`«term%[_|_]»then .node i `Lean.Parser.Tactic.rcasesPat.tuple #[.atom i "⟨",.node i `null (a[1]!.getArgs.push (.atom i ",")|>.push a[3]!|>.map λx=>if x.isAtom then x else .node i `Lean.Parser.Tactic.rcasesPatLo #[.node i `Lean.Parser.Tactic.rcasesPatMed #[.node i `null #[zqp n x]],.node i `null #[]]),.atom i "⟩"]else .node i `Lean.Parser.Tactic.rcasesPat.ignore #[.atom i "_"]
 |_,x=>.node .none `Lean.Parser.Tactic.rcasesPat.one #[x]
local macro_rules|`(tactic|have $p:term:=$h)=>if p.raw.isOfKind `«term%[_|_]»then`(tactic|obtain $(⟨zqp 99 p⟩):rcasesPat:=$h)else Lean.Macro.throwUnsupported
local macro_rules|`(tactic|intro $p*)=>if p.any (·.raw.isOfKind `«term%[_|_]»)then do
  let q:=p.map λx=>(⟨.node .none `Lean.Parser.Tactic.rintroPat.one #[zqp 99 x]⟩:Lean.TSyntax `rintroPat)
  `(tactic|rintro $q*)else Lean.Macro.throwUnsupported
set_option hygiene false in
local macro_rules|`(command|$d:declaration)=>do
 let x:=d.raw[1]
 let b:=x.isOfKind `Lean.Parser.Command.definition
 if x.isOfKind `Lean.Parser.Command.inductive&&x[2][1].isNone&&x[3].isNone then
  let y:=(<-`(inductive q(vs:ZM)(H:Hp)(Q:VK)(E0:XK):Prop)).raw[1][2]
  return d.raw.setArg 1 (x.setArg 2 (y.setArg 0 (Lean.mkNullNode (x[2][0].getArgs++y[0].getArgs))))
 if d.raw[0].getArgs.all (·.isNone)&&(b||x.isOfKind `Lean.Parser.Command.abbrev)then return if b then d.raw.setArg 1 (.node .none `Lean.Parser.Command.theorem #[.atom .none "theorem",x[1],.node .none `Lean.Parser.Command.declSig #[x[2][0],x[2][1][0]],x[3]])else .node .none `Lean.Parser.Command.declaration #[d.raw[0].setArg 4 (Lean.mkNullNode #[.node .none `Lean.Parser.Command.noncomputable #[.atom .none "noncomputable"]]),.node .none `Lean.Parser.Command.definition #[.atom .none "def",x[1],x[2],x[3],Lean.mkNullNode]]
 Lean.Macro.throwUnsupported
set_option hygiene false in
local macro_rules|`(↥$a:ident)=>`(wpAny (model prog w) $a)
set_option hygiene false in
local macro_rules|`(command|#where)=>`(variable{prog:Program}{w:World}{A:Around}{E:ZD}{s:Shared})
nonrec abbrev ZA:=PySem.W.Frag
nonrec abbrev ZB:=List PySem.Str
nonrec abbrev ZC:=PySem.Str->Option PySem.Value
nonrec abbrev ZD:=PySem.Value->PySem.Shared->Prop
nonrec abbrev ZE:=List (PySem.Addr×PySem.Obj)
nonrec abbrev ZF:=List PySem.Value
nonrec abbrev ZG:=List (PySem.Addr×List PySem.Str)
nonrec abbrev ZH:=List (PySem.Addr×PySem.Str×List PySem.Str)
nonrec abbrev ZI:=Option PySem.Addr
nonrec abbrev ZJ:=Array PySem.Value
nonrec abbrev ZK:=Array (Option PySem.Value)
nonrec abbrev ZL:=List Int
set_option genSizeOf false
set_option genInjectivity false
set_option bootstrap.genMatcherCode false
namespace L2
open PySem PySem.Spec PyProof.Rows
noncomputable abbrev Key:=Sum Int Str
abbrev jI:Key->Value->Bool
 | .inl k,v=>Value.isInt k v
 | .inr x,v=>Value.isStrOf x v
abbrev keyH(w:World):Key->Int
 | .inl k=>hashInt k
 | .inr x=>hashStr w x
def bd:∀{k:Key} {v:Value},jI k v=true->(∃i t,k=Sum.inl i/\v=Value.int i t)\/(∃x t,k=Sum.inr x/\v=Value.str x t)
 | .inl i,v,h=>by
   have%[t|e]:=Value.isInt_shape h;exact .inl %[i,t,rfl|e]
 | .inr x,v,h=>by
   have%[t|e]:=Value.isStrOf_shape h;exact .inr %[x,t,rfl|e]
def zj(i:Int)(t:Tok):jI (.inl i) (.int i t)=true:=by simp[jI,Value.isInt]
def dN(x:Str)(t:Tok):jI (.inr x) (.str x t)=true:=by simp[jI,Value.isStrOf]
def FK(a b:Int):decide ((Sum.inl a:Key)=Sum.inl b)=(a==b):=by
 by_cases e:a=b
 .subst e;simp
 simp_all
def FL(a b:Str):decide ((Sum.inr a:Key)=Sum.inr b)=decide (a=b):=by
 simp
abbrev aQ(prog:Program)(w:World):PySem.KeyKind prog w Key where
 is:=jI
 hash:=keyH w
 inj:=λv a b ha hb=>by
  rcases bd ha with⟨i,t,rfl,rfl⟩|⟨x,t,rfl,rfl⟩
  .rcases bd hb with⟨j,u,rfl,e⟩|⟨y,u,rfl,e⟩
   .injection e with e1 _;rw[e1]
   .exact nomatch e
  .rcases bd hb with⟨j,u,rfl,e⟩|⟨y,u,rfl,e⟩
   .exact nomatch e
   .injection e with e1 _;rw[e1]
 byValue:=λk v h=>by
  rcases bd h with⟨i,t,rfl,rfl⟩|⟨x,t,rfl,rfl⟩<;> rfl
 pyHash:=λhv h=>by
  rcases bd hv with⟨i,t,rfl,rfl⟩|⟨x,t,rfl,rfl⟩
  .exact wpAny_pyHash_int h
  .exact wpAny_pyHash_str h
 eqBool:=λhu hv h=>by
  rcases bd hu with⟨i,t,rfl,rfl⟩|⟨x,t,rfl,rfl⟩
  .rcases bd hv with⟨j,u,rfl,rfl⟩|⟨y,u,rfl,rfl⟩
   .rw[FK]at h;exact wpAny_eqBool_int h
   .exact SeqAt.EqAt.int_str i t y u _ _ _ _ h
  .rcases bd hv with⟨j,u,rfl,rfl⟩|⟨y,u,rfl,rfl⟩
   .exact SeqAt.EqAt.str_int x t j u _ _ _ _ h
   .rw[FL]at h;exact wpAny_eqBool_str h
 «strs»:=λk x t v h=>by
  rcases bd h with⟨i,u,rfl,e⟩|⟨y,u,rfl,e⟩
  .exact nomatch e
  .injection e with e1 _
   subst e1;cases v<;> rfl
def uK(prog:Program)(w:World)(i:Int)(t:Tok):(aQ prog w).is (.inl i) (.int i t)=true:=zj i t
def uL(prog:Program)(w:World)(x:Str)(t:Tok):(aQ prog w).is (.inr x) (.str x t)=true:=dN x t
set_option genInjectivity true in
inductive V where
 | non|bl (b:Bool)|int (i:Int)|str (x:Str)|byt (b:Array UInt8)|flt (b:UInt64)|ref (a:Addr)|ty (n:String)
 deriving DecidableEq
abbrev aZ:V->Value->Prop
 | .non,u=>u=Value.none
 | .bl b,u=>u=Value.bool b
 | .int i,u=>∃t,u=Value.int i t
 | .str x,u=>∃t,u=Value.str x t
 | .byt b,u=>∃t,u=Value.bytes b t
 | .flt b,u=>∃t,u=Value.float b t
 | .ref a,u=>u=Value.ref a
 | .ty n,u=>u=Value.type n
nonrec abbrev aK:List V->ZF->Prop:=Paired aZ
def aK.length{xs:List V}{us:ZF}(r:aK xs us):xs.length=us.length:=Paired.length r
def aK.get:∀{xs:List V} {us:ZF} {i:Nat} {x:V},aK xs us->xs[i]? =some x->∃u,us[i]? =some u/\aZ x u
 | _,_,_,_,.nil,e=>by simp at e
 | _,_,0,_,.cons r _,e=>by simp at e;subst e;exact%[_,rfl|r]
 | _,_,i+1,x,.cons _ t,e=>by
   have%[u,a|b]:=aK.get t (e);exact%[u,a|b]
def aK.append:∀{xs ys:List V} {us ws:ZF},aK xs us->aK ys ws->aK (xs++ys) (us++ws)
 | _,_,_,_,.nil,s=>s
 | _,_,_,_,.cons r t,s=> .cons r (aK.append t s)
def aK.take:∀{xs:List V} {us:ZF} n,aK xs us->aK (xs.take n) (us.take n)
 | _,_,0,_=> .nil
 | _,_,_+1,.nil=> .nil
 | _,_,n+1,.cons r t=> .cons r (aK.take n t)
def aK.drop:∀{xs:List V} {us:ZF} n,aK xs us->aK (xs.drop n) (us.drop n)
 | _,_,0,r=>r
 | _,_,_+1,.nil=> .nil
 | _,_,n+1,.cons _ t=>aK.drop n t
abbrev f9:Option V->Option Value->Prop
 | some v,some u=>aZ v u
 | none,none=>True
 | _,_=>False
abbrev KV{a:Type}:List (a×V)->List (a×Value)->Prop:=Paired λp q=>p.1=q.1/\aZ p.2 q.2
abbrev kV:Key->V
 | .inl i=> .int i
 | .inr x=> .str x
set_option genInjectivity true in
inductive HO where
 | lst (xs:List V)
 | tup (xs:List V)
 | dK (kvs:List (Key×V))|dT (kvs:List (List Key×V))
 | set (S:Int->Bool) (n:Nat)
 | ins (C dx:Addr) (fs:List (Str×V))
 | own (x:Addr)
 | xd (fs:List (Str×V))
 | met (f x:Addr)
 | rng (lo hi:Int)
 | frz (o:Obj) (u:HO)
 | tbl (ps:ZJ)
 | ext (φ:Heap->Prop)
noncomputable abbrev Hp:=Addr->Option HO
abbrev upd(H:Hp)(a:Addr)(o:HO):Hp:=λb=>if b=a then some o else H b
def aa:upd H a o a=some o:=by unfold upd;rw[if_pos rfl]
def am{H:Hp}{a b:Addr}{o:HO}(h:b≠a):upd H a o b=H b:=by unfold upd;rw[if_neg h]
def HK{H:Hp}(h:H a=some o)(h':H b=some u)(d:o≠u):a≠b:=by
 intro e;subst e;rw[h]at h';exact d (Za h')
def ay{H:Hp}{a b:Addr}{o:HO}(h:H a=some o)(h':H b=none):a≠b:=by
 lia
section
variable(P:Program)(w:World)
abbrev bX(H:Hp)(h:Heap)(a:Addr):HO->Prop
 | .lst xs=>xs.length<=sizeLine/\∃(its:ZF) (n:Nat),aK xs its/\h.get? a=some {cls:= .type "list",data:= .seq its.toArray n}
 | .tup xs=>xs.length<=sizeLine/\∃its:ZF,aK xs its/\IsTup h a its.toArray
 | .dK b=>b.length<=sizeLine/\(a==sysModules)=false/\∃vs,KV b vs/\h.DictOf (aQ P w) a vs
 | .dT b=>b.length<=sizeLine/\(a==sysModules)=false/\∃xs:List (List Key×Addr×Value),
  Paired (λ(p:List Key×V) (q:List Key×Addr×Value)=>p.1=q.1/\H q.2.1=some (.tup (p.1.map kV))/\aZ p.2 q.2.2) b xs/\
  ∃o es j,h.get? a=some o/\o.ExactDict/\o.data= .dict es j/\es.toList=xs.map (entryOfKey (tupleKind (aQ P w)))/\(xs.map (·.1)).Nodup
 | .set S n=>h.SetOf (intKind P w) a S n
 | .ins C d fs=>H d=some (.own a)/\fs.length<=1000/\d≠a/\h.get? a=some (instObj C d)/\
  ∃c,h.Ns1 d c/\(∀f,f9 (fs.lookup f) (c f))/\PySem.Within c (fs.map (·.1))
 | .own _=>∃o,h.get? a=some o
 | .xd fs=>∃c,h.Ns1 a c/\∀f,f9 (fs.lookup f) (c f)
 | .rng lo hi=>∃t u v,h.get? a=some {cls:= .type "range",data:= .fields #[.int lo t,.int hi u,.int 1 v]}
 | .frz o u=>h.get? a=some o/\bX H h a u
 | .tbl ps=>h.get? a=some {cls:= .none,data:= .fields ps}
 | .met f x=>h.get? a=some (PySem.W.methodObj (.ref f) (.ref x))
 | .ext e=>e h/\(∃o,h.get? a=some o)/\∀g i,e g->(∀o,g.get? a=some o->i.get? a=some o)->e i
abbrev HOk(H:Hp)(h:Heap):Prop:=∀a o,H a=some o->bX P w H h a o
end
section
variable{P:Program}{w:World}{H H':Hp}{h h':Heap}{a:Addr}{o:HO}
def bX.lt(x:bX P w H h a o):a<h.objs.size:=by
 cases o with
 | lst xs=>have%[_,_,_,_|e]:=x;exact Zv e
 | tup xs=>have%[_,_,_|p]:=x;exact p.lt
 | dK b=>have%[_,_,_,_,o,_,_,e|_]:=x;exact Zv e
 | dT b=>have%[_,_,_,_,o,_,_,e|_]:=x;exact Zv e
 | set S n=>have%[o,_,_,_,e|_]:=x;exact Zv e
 | ins C c fs=>have%[_,_,_,e|_]:=x;exact Zv e
 | own y=>have%[_|e]:=x;exact Zv e
 | xd fs=>have%[_,%[_,_,_,e|_]|_]:=x;exact Zv e
 | rng lo hi=>have%[_,_,_|e]:=x;exact Zv e
 | frz d u=>have%[e|_]:=x;exact Zv e
 | tbl ps=>exact Zv (x)
 | met f y=>exact Zv (x)
 | ext g=>have%[_,%[_|e]|_]:=x;exact Zv e
def Paired.mapP{F G:c->d->Prop}:∀{l₁:List c} {l₂:List d},Paired F l₁ l₂->(∀a b,F a b->G a b)->Paired G l₁ l₂
 | _,_,.nil,_=> .nil
 | _,_,.cons r t,f=> .cons (f _ _ r) (Paired.mapP t f)
def bX.stay(x:bX P w H h a o)(k:∀b u,(b=a\/H b=some (.own a))->h.get? b=some u->h'.get? b=some u)
 (s:∀b,H b=some (.own a)->H' b=some (.own a)) (A:∀b xs,H b=some (.tup xs)->H' b=some (.tup xs)):bX P w H' h' a o:=by
 induction o with
 | lst xs=>have%[z,its,n,r|e]:=x;exact%[z,its,n,r|k _ _ (.inl rfl) e]
 | tup xs=>have%[z,its,r,g,e|c]:=x;exact%[z,its,r,g,k _ _ (.inl rfl) e|c]
 | dK j=>have%[z,y,vs,r,g,es,i,e|c]:=x;exact%[z,y,vs,r,g,es,i,k _ _ (.inl rfl) e|c]
 | dT j=>
   have%[z,y,xs,r,g,es,i,e|c]:=x;exact%[z,y,xs,Paired.mapP r λp q z=>%[z.1,A _ _ z.2.1|z.2.2],g,es,i,k _ _ (.inl rfl) e|c]
 | set S n=>have%[g,es,i,t,e|c]:=x;exact%[g,es,i,t,k _ _ (.inl rfl) e|c]
 | ins C G fs=>
   have%[d,z,ne,e,l,%[m,es,i,B|c]|r]:=x;exact%[s _ d,z,ne,k _ _ (.inl rfl) e,l,%[m,es,i,k _ _ (.inr d) B|c]|r]
 | own y=>have%[g|e]:=x;exact%[g|k _ _ (.inl rfl) e]
 | xd fs=>have%[l,%[m,es,i,e|c]|r]:=x;exact%[l,%[m,es,i,k _ _ (.inl rfl) e|c]|r]
 | rng lo hi=>have%[t,u,v|e]:=x;exact%[t,u,v|k _ _ (.inl rfl) e]
 | frz g u E=>have%[e|q]:=x;exact%[k _ _ (.inl rfl) e|E q]
 | tbl ps=>
   exact k a _ (.inl rfl) x
 | met f y=>
   exact k a _ (.inl rfl) x
 | ext I=>have%[p,%[o|e]|st]:=x;exact%[st _ _ p λo q=>k _ _ (.inl rfl) q,%[o|k _ _ (.inl rfl) e]|st]
def HOk.lt(x:HOk P w H h)(e:H a=some o):a<h.objs.size:=(x a o e).lt
def HOk.fresh(x:HOk P w H h)(e:h.objs.size<=a):H a=none:=by
 cases q:H a with
 | none=>rfl
 | some u=>exact absurd (Zg (x.lt q) e) (Xk _)
def HOk.kept(x:HOk P w H h)(k:∀b u,h.get? b=some u->h'.get? b=some u):HOk P w H h':=λa o e=>
 (x a o e).stay (λb u _ q=>k b u q) (λ_ q=>q) λ_ _ q=>q
def HOk.laid(x:HOk P w H h)(k:∀b u,h.get? b=some u->h'.get? b=some u)(g:h.objs.size<=a)(new:bX P w (upd H a o) h' a o):HOk P w (upd H a o) h':=λb u e=>by
 have d:=x.fresh g;by_cases f:b=a
 .subst f;rw[aa]at e;grind
 .rw[am f]at e;exact(x b u e).stay (λc v _ q=>k c v q) (λc q=>(am (ay q d))▸q) λc xs q=>(am (ay q d))▸q
end
abbrev Rd(H:Hp)(a:Addr)(u:HO):Prop:=H a=some u\/∃o,H a=some (.frz o u)
def Rd.ok{P:Program}{w:World}{H:Hp}{h:Heap}{a:Addr}{u:HO}(r:Rd H a u)(x:HOk P w H h):bX P w H h a u:=by
 rcases r with r|⟨o,r⟩
 .exact x a u r
 .have%[_|q]:=x a _ r;exact q
abbrev Mut:Option HO->Prop
 | some (.lst _)=>True
 | some (.dK _)=>True
 | some (.dT _)=>True
 | some (.set _ _)=>True
 | some (.ins _ _ _)=>True
 | some (.ext _)=>True
 | _=>False
section
variable{P:Program}{w:World}{H:Hp}{h h':Heap}{x e:Addr}{o':HO}
def HOk.write(ok:HOk P w H h)(g:Mut (H x))(m:e=x\/H e=some (.own x))(k:∀b u,b≠e->h.get? b=some u->h'.get? b=some u)(i:∃u,h'.get? e=some u)
 (new:bX P w (upd H x o') h' x o'):HOk P w (upd H x o') h':=λb u q=>by
 have d:∀c y,H c=some (.own y)->c≠x:=λc y r z=>by subst z;rw[r]at g;exact g
 have f:∀c xs,H c=some (.tup xs)->c≠x:=λc xs r z=>by subst z;rw[r]at g;exact g
 by_cases j:b=x
 .subst j;rw[aa]at q;grind
 .rw[am j]at q;by_cases a:b=e
  .have l:H b=some (.own x):=by
    rcases m with z|z
    .exact absurd (a.trans z) j
    .exact a▸z
   rw[q]at l;cases l;have%[v|n]:=i;exact%[v|a▸n]
  .refine(ok b u q).stay (λc v o r=>k c v ?_ r) (λc r=>(am (d c b r))▸r) λc xs r=>(am (f c xs r))▸r
   grind
end
structure Un (fs ex:List Addr) (H H':Hp) (h h':Heap):Prop where
 keep:∀b o,h.get? b=some o->H b=none->b∉fs->b∉ex->h'.get? b=some o
 slot:∀b o,h.get? b=some o->H b=none->b∈fs->b∉ex->∃sl,h'.get? b=some {o with slots:=sl}
 free:∀b o,h.get? b=some o->H b=none->b∉ex->H' b=none
 there:∀b o,h.get? b=some o->b∉ex->∃o',h'.get? b=some o'
 tups:∀b xs,H b=some (.tup xs)->H' b=some (.tup xs)
 frzs:∀b o u,H b=some (.frz o u)->H' b=some (.frz o u)
 tbls:∀b ps,H b=some (.tbl ps)->∃more,H' b=some (.tbl (ps++more))
section
variable{fs fs' ex ex':List Addr}{H H1 H2:Hp}{h h1 h2 h':Heap}{a x e:Addr}{o:HO}
def Un.any(u:Un fs ex H H1 h h1)(q:h.get? b=some c)(n:H b=none)(d:b∉ex):∃g,h1.get? b=some {c with slots:=g}:=by
 by_cases f:b∈fs
 .exact u.slot b c q n f d
 .exact%[c.slots|u.keep b c q n f d]
def Un.trans(a:Un fs ex H H1 h h1)(b:Un fs ex H1 H2 h1 h2):Un fs ex H H2 h h2 where
 keep:=λc ob q n hc hx=>b.keep c ob (a.keep c ob q n hc hx) (a.free c ob q n hx) hc hx
 slot:=λc ob q n hc hx=>by
  have%[sl|e1]:=a.slot c ob q n hc hx;have%[sl'|e2]:=b.slot c _ e1 (a.free c ob q n hx) hc hx;exact%[sl'|e2]
 free:=λc ob q n hx=>by
  have%[o'|e1]:=a.there c ob q hx;exact b.free c o' e1 (a.free c ob q n hx) hx
 there:=λc ob q hx=>by
  have%[o'|e1]:=a.there c ob q hx;exact b.there c o' e1 hx
 tups:=λc xs q=>b.tups c xs (a.tups c xs q)
 frzs:=λc ob xs q=>b.frzs c ob xs (a.frzs c ob xs q)
 tbls:=λc ps q=>by
  have%[m1|e1]:=a.tbls c ps q;have%[m2|e2]:=b.tbls c _ e1;exact%[m1++m2|by rw[e2,Array.append_assoc]]
def Un.kept(k:∀b u,h.get? b=some u->h'.get? b=some u):Un fs ex H H h h':=
 %[λb c q _ _ _=>k b c q,λb c q _ _ _=>%[c.slots|k b c q],λ_ _ _ n _=>n,λb c q _=>%[c|k b c q],λ_ _ q=>q,λ_ _ _ q=>q|λ_ ps q=>%[#[]|by rw[q];simp]]
def Un.refl:Un fs ex H H h h:=Un.kept λ_ _ q=>q
def Un.laid(k:∀b u,h.get? b=some u->h'.get? b=some u)(hp:h.objs.size<=a)(hn:H a=none):Un fs ex H (upd H a o) h h' where
 keep:=λb u q _ _ _=>k b u q
 slot:=λb u q _ _ _=>%[u.slots|k b u q]
 free:=λb u q n _=>(am (Zt (Zg (Zv q) hp)))▸n
 there:=λb u q _=>%[u|k b u q]
 tups:=λb xs q=>(am (ay q hn))▸q
 frzs:=λb u xs q=>(am (ay q hn))▸q
 tbls:=λb ps q=>%[#[]|by rw[am (ay q hn),q];simp]
def Un.write(f:Mut (H x))(l:e=x\/H e=some (.own x))(k:∀b u,b≠e->h.get? b=some u->h'.get? b=some u)(i:∃u,h'.get? e=some u):Un fs ex H (upd H x o) h h':=by
 have j:∀b,H b=none->b≠x:=λb n z=>by subst z;rw[n]at f;exact f
 have g:∀b,H b=none->b≠e:=λb n z=>by
  simp_all
 have c:∀b u,H b=some u-> ¬ Mut (some u)->b≠x:=λb u q m z=>!2
 refine%[λb u q n _ _=>k b u (g b n) q,λb u q n _ _=>%[u.slots|k b u (g b n) q],λb u q n _=>(am (j b n))▸n,λb u q _=>?_,
  λb xs q=>(am (c b _ q λz=>z))▸q,λb u xs q=>(am (c b _ q λz=>z))▸q|λb ps q=>%[#[]|by rw[am (c b _ q λz=>z),q];simp]]
 by_cases d:b=e
 .simp_all
 .exact%[u|k b u d q]
end
abbrev trk(h:Heap)(H:Hp):List Addr:=(List.range h.objs.size).filter λa=>(H a).isSome
abbrev zk(h:Heap)(H:Hp):Heap:=PySem.W.hideAll h (trk h H)
def zo(h:Heap)(H:Hp):(zk h H).objs.size=h.objs.size:=PySem.W.hideAll_size _ _
def A3(e:h.get? b=some o)(n:H b=none):(zk h H).get? b=some o:=
 PySem.W.hideAll_get _ e λa=>by
  have q:=(List.mem_filter.mp a).2;rw[n]at q;simp at q
def Dy(e:(zk h H).get? b=some o):h.get? b=some o/\H b=none:=by
 have a:=PySem.W.of_hideAll _ e;refine%[a|?_];cases q:H b with
 | none=>rfl
 | some x=>
   have z:(zk h H).get? b=none:=PySem.W.hideAll_none _ (List.mem_filter.mpr %[mem_range.mpr (Zv a)|by simp[q]])
   grind
abbrev Dz(g h:Heap)(L:Addr):ZE:=(List.range h.objs.size).filterMap λa=>if a=L\/(g.get? a).isSome=true then none else(h.get? a).map λo=>(a,o)
abbrev rest(g h:Heap)(L d:Addr):ZE:=(Dz g h L).filter λp=>decide (p.1≠d)
structure Mod (K:ZA) (mg:ZC) (base:Heap):Prop where
 kin:K.In base
 glob:base.Ns mainGlobals mg
 blt:∃mb,base.Ns builtinsNs mb/\∀x:Str,x≠"__name__"->mb x=bootBuiltins x
 nolimit:base.NoLimit
structure Cx where
 prog:Program
 w:World
 K:ZA
 mg:Str->Option Value
 base:Heap
 A:Around
 N:ZB
 s₀:Shared
 H₀:Hp
 env:Env
 outer:List Env
 stack:List Env
 ex:List Addr
 fn:Str->Bool
 calm:Bool
 pn:ZE
 xe:Value->Shared->Prop
abbrev frs(l:List Env):List Addr:=l.filterMap (·.frame)
noncomputable abbrev Cx.fs(X:Cx):List Addr:=frs X.outer
abbrev Vis(a:Scope)(x:Str):Prop:=a.names.lookup x=some .local\/a.names.lookup x=some .cell\/a.names.lookup x=some .free
abbrev Loc(a:Scope)(x:Str):Prop:=a.names.lookup x=some .local\/a.names.lookup x=some .cell
abbrev Look(env:Env)(h:Heap)(m:ZC)(x:Str)(u:Value):Prop:=
 (env.kindOf x=some .local/\m x=some u)\/((env.kindOf x=some .cell\/env.kindOf x=some .free)/\∃c,env.cells.lookup x=some c/\h.IsCell c (some u))
structure Cx.Ok (X:Cx):Prop where
 mod:Mod X.K X.mg X.base
 kind:X.env.scope.kind= .function
 glob:X.env.globals=mainGlobals
 blt:X.env.builtins=builtinsNs
 above:X.s₀.heap.objs.size<=X.env.locals
 inj:∀x y c,X.env.cells.lookup x=some c->X.env.cells.lookup y=some c->x=y
 has:∀x,(X.env.kindOf x=some .cell\/X.env.kindOf x=some .free)->∃c,X.env.cells.lookup x=some c
 cab:∀x c,X.fn x=true->X.env.cells.lookup x=some c->X.s₀.heap.objs.size<=c
 hd:X.calm=true->X.A.handled=none
 frames:X.A.frames=some X.stack
 stk:X.stack=X.outer\/(X.stack=X.env::X.outer/\X.env.frame=some X.env.locals)
 exf:∀b∈X.ex,b≠X.env.locals/\∀x c,X.env.cells.lookup x=some c->c≠b
 bs:∀b o,X.base.get? b=some o->X.s₀.heap.get? b=some o/\X.H₀ b=none
 bsz:X.base.objs.size<=X.s₀.heap.objs.size
 noex:∀b o,X.base.get? b=some o->b∉X.ex
 exfs:∀b∈X.ex,b∉X.fs
 funs:X.s₀.heap.FunFrames X.base X.outer
 frf:∀b∈X.fs,X.H₀ b=none
structure Inv (X:Cx) (pins:List _) (σ:List _) (H:Hp) (s:Shared):Prop where
 ok:X.Ok
 os:s.os=X.s₀.os
 bare:AllBare s.gens
 base:Un X.fs X.ex X.H₀ H X.s₀.heap s.heap
 loc:∃m,s.heap.Ns X.env.locals m/\∀(i:Nat) x v,X.N[i]? =some x->σ[i]? =some (some v)->Vis X.env.scope x->∃u,aZ v u/\Look X.env s.heap m x u
 cell:∀x c,X.env.cells.lookup x=some c->∃v,s.heap.IsCell c v
 free:H X.env.locals=none
 freeC:∀x c,X.env.cells.lookup x=some c->H c=none
 pin:∀p∈X.pn++pins,s.heap.get? p.1=some p.2/\H p.1=none/\p.1≠X.env.locals/\p.1∉X.fs/\∀v,p.2.data≠ .cell v
 hok:HOk X.prog X.w H s.heap
 len:σ.length=X.N.length
section
variable{X:Cx}{pins:ZE}{σ:List (Option V)}{H H':Hp}{s:Shared}{h':Heap}
def Cx.Ok.nofr(ok:X.Ok)(e:X.base.get? b=some o):b∉X.fs:=λa=>by
 have:=(ok.funs.mem a).1
 grind
def Inv.bs(I:Inv X pins σ H s):∀b o,X.base.get? b=some o->s.heap.get? b=some o/\H b=none:=λb o e=>
 %[I.base.keep b o (I.ok.bs b o e).1 (I.ok.bs b o e).2 (I.ok.nofr e) (I.ok.noex b o e)|I.base.free b o (I.ok.bs b o e).1 (I.ok.bs b o e).2 (I.ok.noex b o e)]
def Inv.bk(I:Inv X pins σ H s):∀b o,X.base.get? b=some o->s.heap.get? b=some o:=λb o e=>(I.bs b o e).1
def Inv.mod(I:Inv X pins σ H s):Mod X.K X.mg X.base:=I.ok.mod
def Inv.kIn(I:Inv X pins σ H s):X.K.In s.heap:=I.ok.mod.kin.keeps I.bk
def Inv.lt(I:Inv X pins σ H s):X.env.locals<⇑s:=let⟨_,a,_⟩:=I.loc;a.lt
def Inv.sz(I:Inv X pins σ H s):X.s₀.heap.objs.size<=⇑s:=Yh I.ok.above (Yf I.lt)
def Inv.nofs(I:Inv X pins σ H s)(h:⇑s<=a):a∉X.fs:=λb=>by
 have%[_,o,c|_]:=I.ok.funs.mem b;exact absurd (Zg (Zv c) (Yh I.sz h)) (Xk _)
def Inv.cne(I:Inv X pins σ H s):∀x c,X.env.cells.lookup x=some c->c≠X.env.locals:=λx c e z=>by
 have%[v,o,d|f]:=I.cell x c e;have%[m,%[g,es,h,a,b|_]|_]:=I.loc
 grind
def Inv.funs(I:Inv X pins σ H s):s.heap.FunFrames X.base X.outer:=by
 have all:∀l,(∀b∈frs l,b∈X.fs)->X.s₀.heap.FunFrames X.base l->s.heap.FunFrames X.base l:=by
  intro l
  induction l with
  | nil=>intro _ _;trivial
  | cons env r g=>
    intro f h;have%[i,%[L,o,a,j,m|n]|p]:=h;have c:=f L (by unfold frs;rw[Y1,a];exact Zm);have%[q|e]:=I.base.slot L o m (I.ok.frf L c) c λz=>I.ok.exfs L z c
    exact%[i,%[L,_,a,j,e|n]|g (λb d=>f b (by unfold frs;rw[Y1,a];exact Zk _ d)) p]
 exact all X.outer (λ_ d=>d) I.ok.funs
def Inv.stack(I:Inv X pins σ H s):s.heap.FunFrames X.base X.stack:=by
 rcases I.ok.stk with e|⟨e,a⟩
 .exact e▸I.funs
 .rw[e];have%[m,b|_]:=I.loc;exact .cons (by rw[I.ok.kind];decide) a b (Heap.get?_none_of_le (Yh I.ok.bsz I.ok.above)) I.funs
def Inv.stkSub(I:Inv X pins σ H s):∀b∈frs X.stack,b∈X.env.locals::X.fs:=λb a=>by
 rcases I.ok.stk with e|⟨e,c⟩
 .rw[e]at a;exact Zk _ a
 .rw[e]at a;unfold frs at a;rw[Y1,c]at a;exact a
def Inv.stkFree(I:Inv X pins σ H s):∀b∈frs X.stack,H b=none:=λb a=>by
 rcases mem_cons.mp (I.stkSub b a)with e|a
 .exact e▸I.free
 .have%[_,o,c|_]:=I.ok.funs.mem a;exact I.base.free b o c (I.ok.frf b a) λz=>I.ok.exfs b z a
def Inv.step{d':Drawn}{ch:List Addr}(I:Inv X pins σ H s)
 (f:∀b∈ch,(b∈X.ex\/X.s₀.heap.objs.size<=b)/\b≠X.env.locals/\(∀x c,X.env.cells.lookup x=some c->c≠b)/\∀p∈X.pn++pins,p.1≠b)
 (keep:∀b o,b≠X.env.locals->b∉X.fs->b∉ch->s.heap.get? b=some o->H b=none->h'.get? b=some o)
 (slot:∀b o,b≠X.env.locals->b∈X.fs->b∉ch->s.heap.get? b=some o->H b=none->∃E,h'.get? b=some {o with slots:=E}) (free:∀b o,b∉ch->s.heap.get? b=some o->H b=none->H' b=none)
 (there:∀b o,b∉ch->s.heap.get? b=some o->∃A,h'.get? b=some A)
 (tups:∀b xs,H b=some (.tup xs)->H' b=some (.tup xs)) (frzs:∀b o u,H b=some (.frz o u)->H' b=some (.frz o u)) (tbls:∀b ps,H b=some (.tbl ps)->∃more,H' b=some (.tbl (ps++more)))
 (Q:∀m,s.heap.Ns X.env.locals m->h'.Ns X.env.locals m) (G:HOk X.prog X.w H' h') (T:AllBare g'):
 Inv X pins σ H' {s with heap:=h',gens:=g',drawn:=d',toks:=t'}:=by
 have B:∀b o,X.s₀.heap.get? b=some o->b≠X.env.locals:=λb o e=>Zt (Zg (Zv e) I.ok.above)
 have j:∀b o,X.s₀.heap.get? b=some o->b∉X.ex->b∉ch:=λb o e a w=>by
  rcases(f b w).1 with z|z
  .exact a z
  .exact absurd (Zg (Zv e) z) (Xk _)
 have g:∀x c,X.env.cells.lookup x=some c->∀v,s.heap.IsCell c v->h'.IsCell c v:=λx c e v ⟨o,y,J⟩=>by
  have h:=λz=>(f c z).2.2.1 x c e rfl
  by_cases M:c∈X.fs
  .have%[E|q]:=slot c o (I.cne x c e) M h y (I.freeC x c e);exact%[_,q|J]
  .exact%[o,keep c o (I.cne x c e) M h y (I.freeC x c e)|J]
 refine%[I.ok,I.os,T,%[λb o e n w a=>?_,λb o e n w a=>?_,λb o e n a=>?_,λb o e a=>?_,λb xs e=>tups b xs (I.base.tups b xs e),λb o xs e=>frzs b o xs (I.base.frzs b o xs e)|λb ps e=>?_],?_,λx c e=>?_,?_,λx c e=>?_,λp N=>?_,G|I.len]
 .exact keep b o (B b o e) w (j b o e a) (I.base.keep b o e n w a) (I.base.free b o e n a)
 .have%[E|t]:=I.base.slot b o e n w a;have%[L|C]:=slot b _ (B b o e) w (j b o e a) t (I.base.free b o e n a);exact%[L|C]
 .have%[A|t]:=I.base.there b o e a;exact free b A (j b o e a) t (I.base.free b o e n a)
 .have%[A|t]:=I.base.there b o e a;exact there b A (j b o e a) t
 .have%[U|t]:=I.base.tbls b ps e;have%[m2|C]:=tbls b _ t;exact%[U++m2|by rw[C,Array.append_assoc]]
 .have%[m,Y|hl]:=I.loc;refine%[m,Q m Y|λi x v t C e3=>?_];have%[u,r|l]:=hl i x v t C e3;refine%[u,r|?_];rcases l with l|⟨k,c,e,z⟩
  .exact .inl l
  .exact .inr %[k,c,e|g x c e _ z]
 .have%[v|z]:=I.cell x c e;exact%[v|g x c e v z]
 .have%[m,%[o,_,_,y|_]|_]:=I.loc;exact free _ o (λz=>(f _ z).2.1 rfl) y I.free
 .have%[v,o,y|J]:=I.cell x c e;exact free c o (λz=>(f c z).2.2.1 x c e rfl) y (I.freeC x c e)
 .have%[e,n,ne,O|d]:=I.pin p N;have h:=λz=>(f p.1 z).2.2.2 p N rfl
  exact%[keep p.1 p.2 ne O h e n,free p.1 p.2 h e n,ne,O|d]
def Inv.un{t':Nat}(I:Inv X pins σ H s)(u:Un X.fs [] H H' s.heap h')(c:HOk X.prog X.w H' h'):Inv X pins σ H' {s with heap:=h',toks:=t'}:=by
 have%[m,%[o,es,p,h|r]|_]:=id I.loc;have%[q|i]:=u.any h I.free ∅;exact I.step (ch:=[]) (λ_ z=>nomatch z) (λb o _ d _ e n=>u.keep b o e n d ∅) (λb o _ d _ e n=>u.slot b o e n d ∅) (λb o _ e n=>u.free b o e n ∅) (λb o _ e=>u.there b o e ∅) u.tups u.frzs u.tbls (λt j=>by
  have%[v,f,g,a|l]:=j;rw[h]at a;cases a;exact%[_,f,g,i|l]) c I.bare
def Inv.call{d':Drawn}{ch:List Addr}(I:Inv X pins σ H s)(u:Un (frs X.stack) ch H H' s.heap h')(g:HOk X.prog X.w H' h')(q:AllBare g')
 (d:∀b∈ch,(b∈X.ex\/X.s₀.heap.objs.size<=b)/\b≠X.env.locals/\(∀x c,X.env.cells.lookup x=some c->c≠b)/\∀p∈X.pn++pins,p.1≠b):
 Inv X pins σ H' {s with heap:=h',gens:=g',drawn:=d',toks:=t'}:=by
 have%[m,%[o,es,y,l|r]|_]:=id I.loc;have%[A|h]:=u.any l I.free λz=>(d _ z).2.1 rfl
 exact I.step d (λb o h t a e n=>u.keep b o e n (λz=>(mem_cons.mp (I.stkSub b z)).elim h t) a) (λb o _ _ a e n=>u.any e n a) (λb o a e n=>u.free b o e n a) (λb o a e=>u.there b o e a) u.tups u.frzs u.tbls (λB v=>by
  have%[C,i,j,f|w]:=v;rw[l]at f;cases f;exact%[_,i,j,h|w]) g q
def Inv.turned{a:Addr}(I:Inv X pins σ H s)(k:∀b o,b≠a->s.heap.get? b=some o->h'.get? b=some o)(A:H a=none)(g:a≠X.env.locals)
 (h:a∈X.ex\/X.s₀.heap.objs.size<=a) (i:∀x c,X.env.cells.lookup x=some c->c≠a) (j:∀p∈X.pn++pins,p.1≠a):Inv X pins σ H {s with heap:=h',toks:=t'}:=by
 have f:∀b u,H b=some u->b≠a:=λb u e z=>by lia
 refine I.step (ch:=[a]) (λb l=>?_) (λb o _ _ d e _=>k b o (λz=>d (by simp[z])) e) (λb o _ _ d e _=>%[o.slots|k b o (λz=>d (by simp[z])) e]) (λ_ _ _ _ n=>n)
  (λb o d e=>%[o|k b o (λz=>d (by simp[z])) e]) (λ_ _ e=>e) (λ_ _ _ e=>e) (λb ps e=>%[#[]|by rw[e];simp]) (λm t=>?_) (λb u e=>?_) I.bare
 .have e:=↑l
  subst e;exact%[h,g,i|j]
 .have%[o,es,w,y|r]:=t;exact%[o,es,w,k _ o (Ne.symm g) y|r]
 .refine(I.hok b u e).stay (λc v d q=>k c v ?_ q) (λ_ q=>q) λ_ _ q=>q
  rcases d with z|z
  .exact z▸f b u e
  .exact f c _ z
def Inv.tok(I:Inv X pins σ H s)(t:Nat):Inv X pins σ H {s with toks:=t}:=I.un Un.refl I.hok
def Inv.kept(I:Inv X pins σ H s)(k:∀b u,s.heap.get? b=some u->h'.get? b=some u):Inv X pins σ H {s with heap:=h',toks:=t'}:=I.un (Un.kept k) (I.hok.kept k)
def Inv.laid{a:Addr}{o:HO}{t':Nat}(I:Inv X pins σ H s)(k:∀b u,s.heap.get? b=some u->h'.get? b=some u)(c:⇑s<=a)(new:bX X.prog X.w (upd H a o) h' a o):
 Inv X pins σ (upd H a o) {s with heap:=h',toks:=t'}:=I.un (Un.laid k c (I.hok.fresh c)) (I.hok.laid k c new)
def Inv.write(I:Inv X pins σ H s)(c:Mut (H x))(d:e=x\/H e=some (.own x))(k:∀b u,b≠e->s.heap.get? b=some u->h'.get? b=some u)(a:∃u,h'.get? e=some u)
 (new:bX X.prog X.w (upd H x o) h' x o):Inv X pins σ (upd H x o) {s with heap:=h',toks:=t'}:=I.un (Un.write c d k a) (I.hok.write c d k a new)
def Inv.pins_of(I:Inv X pins σ H s)(h:∀p∈a,s.heap.get? p.1=some p.2/\H p.1=none/\p.1≠X.env.locals/\p.1∉X.fs/\∀v,p.2.data≠ .cell v):Inv X a σ H s:=
 %[I.ok,I.os,I.bare,I.base,I.loc,I.cell,I.free,I.freeC,λp b=>(Xo b).elim (λz=>I.pin p (Yu _ z)) (h p),I.hok|I.len]
def ei{N:ZB}(c:N.Nodup){i j:Nat}{x:Str}(a:N[i]? =some x)(b:N[j]? =some x):i=j:=by
 have%[f|d]:=Xn a;have%[g|e]:=Xn b;exact(List.getElem_inj c).mp (d.trans e.symm)
def zq{A:Around}{E:ZD}{i:Nat}{x:Str}{v:V}{u:Value}{Q:Unit->Shared->Prop}(I:Inv X pins σ H s)(hN:X.N.Nodup)(hi:X.N[i]? =some x)(w:Loc X.env.scope x)(r:aZ v u)
 (h:∀s',Inv X pins (σ.set i (some v)) H s'->(∃a,SameBut a s.heap s'.heap/\(a=X.env.locals\/X.env.cells.lookup x=some a))->Q () s') (hf:X.fn x=true\/X.env.scope.names.lookup x=some .local):wpAny M A (storeName X.env x u) Q E s:=by
 have%[m,hn|hl]:=id I.loc;have G:i<σ.length:=I.len▸(Xn hi).1;have cne:=I.cne;have g:∀{a:Addr} {h':Heap},(∃o,s.heap.get? a=some o/\H a=none)->SameBut a s.heap h'->HOk X.prog X.w H h':=λ{a h'} ha f b ob e=>by
  have%[_,_|B]:=ha;refine(I.hok b ob e).stay (λc w' t q=>(f.2 c ?_).trans q) (λ_ q=>q) λ_ _ q=>q
  rintro rfl;rcases t with rfl|t
  .rw[B]at e;cases e
  .rw[B]at t;cases t
 rcases w with J|J
 .refine wpAny_storeName_local J hn (λh' ac f=>?_) (by rw[I.ok.kind];rfl);have%[oL,_,_,ae|_]:=id hn;refine h _ %[I.ok,I.os,I.bare,%[λb o e n L w=>?_,λb o e n L w=>?_,I.base.free,λb o e w=>?_,I.base.tups,I.base.frzs|I.base.tbls],%[_,ac|λj y v' l C e3=>?_],λy c e=>?_,I.free,I.freeC,λp hp=>?_,g %[oL,ae|I.free] f|by simpa using I.len] %[_,f|.inl rfl]
  .exact(f.2 b (Zt (Zg (Zv e) I.ok.above))).trans (I.base.keep b o e n L w)
  .have%[sl|l]:=I.base.slot b o e n L w;exact%[sl|(f.2 b (Zt (Zg (Zv e) I.ok.above))).trans l]
  .have%[o'|l]:=I.base.there b o e w;exact%[o'|(f.2 b (Zt (Zg (Zv e) I.ok.above))).trans l]
  .by_cases N:j=i
   .subst N;rw[hi]at l;cases l;rw[List.getElem?_set_self G]at C;cases C;exact%[u,r|.inl %[J|by simp]]
   .rw[List.getElem?_set_ne (Ne.symm N)]at C;have%[u',r'|q]:=hl j y v' l C e3;refine%[u',r'|?_];rcases q with⟨k,e⟩|⟨k,c,e,z⟩
    .refine .inl %[k|?_];have:y≠x:=λe=>N (ei hN l (e▸hi))
     simp[this,e]
    .exact .inr %[k,c,e|z.sameBut f (cne y c e)]
  .have%[w'|z]:=I.cell y c e;exact%[w'|z.sameBut f (cne y c e)]
  .have%[e,n,ne,nf|d]:=I.pin p hp;exact%[(f.2 p.1 ne).trans e,n,ne,nf|d]
 .have O:X.fn x=true:=by
   rcases hf with z|z
   .exact z
   .rw[z]at J;cases J
  have%[c|t]:=I.ok.has x (.inl J);have%[w'|z]:=I.cell x c t;refine wpAny_storeName_cell I.ok.kind J t z (λh' T f=>?_);have%[oc,U|Y]:=id z;refine h _ %[I.ok,I.os,I.bare,%[λb o e n L w=>?_,λb o e n L w=>?_,I.base.free,λb o e w=>?_,I.base.tups,I.base.frzs|I.base.tbls],%[m,hn.sameBut f (Ne.symm (cne x c t))|λj y v' l C e3=>?_],λy c' e=>?_,I.free,I.freeC,λp hp=>?_,g %[oc,U|I.freeC x c t] f|by simpa using I.len] %[c,f|.inr t]
  .exact(f.2 b (Zt (Zg (Zv e) (I.ok.cab x c O t)))).trans (I.base.keep b o e n L w)
  .have%[sl|l]:=I.base.slot b o e n L w;exact%[sl|(f.2 b (Zt (Zg (Zv e) (I.ok.cab x c O t)))).trans l]
  .have%[o'|l]:=I.base.there b o e w;exact%[o'|(f.2 b (Zt (Zg (Zv e) (I.ok.cab x c O t)))).trans l]
  .by_cases N:j=i
   .subst N;rw[hi]at l;cases l;rw[List.getElem?_set_self G]at C;cases C;exact%[u,r|.inr %[.inl J,c,t|T]]
   .rw[List.getElem?_set_ne (Ne.symm N)]at C;have%[u',r'|q]:=hl j y v' l C e3;refine%[u',r'|?_];rcases q with q|⟨k,c',e,z'⟩
    .exact .inl q
    .refine .inr %[k,c',e|z'.sameBut f ?_];rintro rfl;exact N (ei hN l (I.ok.inj _ _ _ e t▸hi))
  .by_cases ab:c'=c
   .subst ab;exact%[_|T]
   .have%[w2|z2]:=I.cell y c' e;exact%[w2|z2.sameBut f ab]
  .have%[e,n,ne,nf|d]:=I.pin p hp;refine%[(f.2 p.1 ?_).trans e,n,ne,nf|d];intro q;rw[q,U]at e;exact d w' ((Za e)▸Y)
def oh(I:Inv X pins σ H s)(a:X.N.Nodup)(hi:X.N[i]? =some x)(b:Loc X.env.scope x)(r:aZ v u)
 (h:∀s',Inv X pins (σ.set i (some v)) H s'->Q () s') (c:X.fn x=true\/X.env.scope.names.lookup x=some .local):wpAny M A (storeName X.env x u) Q E s:=
 zq I a hi b r (λs' d _=>h s' d) c
def Inv.call'(I:Inv X pins σ H s)(e:s'.os=s.os)(u:Un (frs X.stack) ch H H' s.heap s'.heap)(a:HOk X.prog X.w H' s'.heap)(f:AllBare s'.gens)
 (d:∀b∈ch,(b∈X.ex\/X.s₀.heap.objs.size<=b)/\b≠X.env.locals/\(∀x c,X.env.cells.lookup x=some c->c≠b)/\∀p∈X.pn++pins,p.1≠b):Inv X pins σ H' s':=by
 have%[h',g',d',t'|g]:=s';subst e;exact I.call u a f d
end
noncomputable abbrev XK:=Value->ZI->Hp->Prop
noncomputable abbrev St:=List (Option V)
noncomputable abbrev VK:=V->Hp->Prop
noncomputable abbrev TE:=St->Hp->VK->Prop
noncomputable abbrev TT:=St->Hp->(Bool->Hp->Prop)->Prop
noncomputable abbrev TA:=St->Hp->(List V->Hp->Prop)->Prop
structure kq where
 nx:St->Hp->Prop
 rt:VK
 bk:St->Hp->Prop:=λ_ _=>False
 ct:St->Hp->Prop:=λ_ _=>False
noncomputable abbrev TS:=kq->St->Hp->Prop
abbrev EP(X:Cx)(pins:ZE)(b:St)(Q:VK)(u:Value)(s':Shared):Prop:=∃v a,Inv X pins b a s'/\aZ v u/\Q v a
abbrev TP(X:Cx)(pins:ZE)(c:St)(Q:Bool->Hp->Prop)(b:Bool)(s':Shared):Prop:=∃a,Inv X pins c a s'/\Q b a
abbrev AP(X:Cx)(pins:ZE)(b:St)(Q:List V->Hp->Prop)(us:ZF)(s':Shared):Prop:=∃vs a,Inv X pins b a s'/\aK vs us/\Q vs a
abbrev SP(X:Cx)(pins:ZE)(D:kq)(f:Flow)(s':Shared):Prop:=
 match f with
 | .next=>∃a b,Inv X pins a b s'/\D.nx a b
 | .brk=>∃a b,Inv X pins a b s'/\D.bk a b
 | .cont=>∃a b,Inv X pins a b s'/\D.ct a b
 | .ret u=>∃v a b,Inv X pins a b s'/\aZ v u/\D.rt v b
abbrev PE(X:Cx)(e:Expr)(t:TE):Prop:=
 ∀pins s (a:St) H Q,Inv X pins a H s->t a H Q->wpAny (model X.prog X.w) X.A (eval e X.env) (EP X pins a Q) X.xe s
abbrev PT(X:Cx)(e:Expr)(t:TT):Prop:=
 ∀pins s (a:St) H Q,Inv X pins a H s->t a H Q->wpAny (model X.prog X.w) X.A (isTrue e X.env (eval e X.env)) (TP X pins a Q) X.xe s
abbrev PW(X:Cx)(e:Expr)(t:TT):Prop:=
 ∀a pins s (b:St) H Q,Inv X pins b H s->t b H Q->wpAny (model X.prog X.w) X.A (isTrue e X.env a) (TP X pins b Q) X.xe s
def PW.pt{X:Cx}(h:PW X e t):PT X e t:=h _
abbrev PA(X:Cx)(es:List Expr)(t:TA):Prop:=
 ∀pos pins s (a:St) H Q,Inv X pins a H s->t a H Q->wpAny (model X.prog X.w) X.A (spliced (backTo pos (starEach es X.env))) (AP X pins a Q) X.xe s
abbrev PS(X:Cx)(st:Stmt)(t:TS):Prop:=
 ∀pins s (a:St) H D,Inv X pins a H s->t D a H->wpAny (model X.prog X.w) X.A (exec st X.env) (SP X pins D) X.xe s
abbrev PSs(X:Cx)(st:List Stmt)(t:TS):Prop:=
 ∀pins s (a:St) H D,Inv X pins a H s->t D a H->wpAny (model X.prog X.w) X.A (execs st X.env) (SP X pins D) X.xe s
def thn{b:Type}{t:Sem b}{Q c:b->Shared->Prop}{M:Model}{A:Around}{E:ZD}{s:Shared}(h:wpAny M A t Q E s)(d:∀a s,Q a s->c a s):wpAny M A t c E s:=wpAny_mono h d λ_ _ x=>x
def thP{c d:Type}{t:Sem c}{X:Cx}{pins:ZE}{e:St}{R:d->c->Prop}{Q:d->Hp->Prop}{f:c->Shared->Prop}{M:Model}{A:Around}{E:ZD}{s:Shared}(h:wpAny M A t (λa s=>∃v b,Inv X pins e b s/\R v a/\Q v b) E s)(g:∀a s v b,Inv X pins e b s->R v a->Q v b->f a s):wpAny M A t f E s:=wpAny_mono h (λa s ⟨v,b,i,r,q⟩=>g a s v b i r q) λ_ _ x=>x
def thT{c:Type}{t:Sem c}{X:Cx}{pins:ZE}{d:St}{Q:c->Hp->Prop}{e:c->Shared->Prop}{M:Model}{A:Around}{E:ZD}{s:Shared}(h:wpAny M A t (λa s=>∃b,Inv X pins d b s/\Q a b) E s)(f:∀a s b,Inv X pins d b s->Q a b->e a s):wpAny M A t e E s:=wpAny_mono h (λa s ⟨b,i,q⟩=>f a s b i q) λ_ _ x=>x
section
variable{X:Cx}
abbrev asI(x:V)(f:Int->Prop):Prop:=match x with| .int i=>f i|_=>False
abbrev asB(x:V)(f:Bool->Prop):Prop:=match x with| .bl i=>f i|_=>False
abbrev asR(x:V)(f:Addr->Prop):Prop:=match x with| .ref i=>f i|_=>False
def HL:asI (.int i) f=f i:=rfl
def HM:asB (.bl i) f=f i:=rfl
def HN:asR (.ref i) f=f i:=rfl
def iQ{x:V}{f:Int->Prop}(h:asI x f):∃i,x= .int i/\f i:=by
 cases x<;> first|exact⟨_,rfl,h⟩|exact h.elim
def qY{x:V}{f:Bool->Prop}(h:asB x f):∃i,x= .bl i/\f i:=by
 cases x<;> first|exact⟨_,rfl,h⟩|exact h.elim
def eX{x:V}{f:Addr->Prop}(h:asR x f):∃i,x= .ref i/\f i:=by
 cases x<;> first|exact⟨_,rfl,h⟩|exact h.elim
def HP:asI x f=∃i,x= .int i/\f i:=propext %[iQ|λ⟨_,e,q⟩=>by subst e;exact q]
def HQ:asB x f=∃i,x= .bl i/\f i:=propext %[qY|λ⟨_,e,q⟩=>by subst e;exact q]
def HR:asR x f=∃i,x= .ref i/\f i:=propext %[eX|λ⟨_,e,q⟩=>by subst e;exact q]
abbrev qv:Nat->TE
 | 0,some v::_,H,Q=>Q v H
 | i+1,_::a,H,Q=>qv i a H Q
 | _,_,_,_=>False
def FM:qv 0 (some v::a) H Q=Q v H:=rfl
def FN:qv (i+1) (o::a) H Q=qv i a H Q:=rfl
def A4:∀{i:Nat} {a:St},qv i a H Q->∃v,a[i]? =some (some v)/\Q v H
 | 0,some v::_,h=>%[v,rfl|h]
 | 0,none::_,h=>h.elim
 | 0,[],h=>h.elim
 | _+1,[],h=>h.elim
 | i+1,_::a,h=>A4 (i:=i) h
abbrev tC(v:V):TE:=λ_ H Q=>Q v H
def A5(j:X.N[i]? =some x)(n:Vis X.env.scope x)(d:(x==("__debug__":Str))=false)(f:(x==("__classdict__":Str))=false):PE X (.Name x pos) (qv i):=by
 intro pins s o H Q I h;have%[v,e|h]:=A4 h;have%[m,p|q]:=I.loc;have%[u,r|l]:=q i x v j e n;have fin:EP X pins o Q u s:=%[v,H,I,r|h]
 rcases l with⟨b,t⟩|⟨b,c,g,a⟩
 .exact wpAny_Name (wpAny_loadName_local I.ok.kind b p t fin) d
 .rcases b with b|b
  .exact wpAny_Name (wpAny_loadName_cell I.ok.kind b g a fin) d
  .exact wpAny_Name (wpAny_loadName_free I.ok.kind b g a fin f) d
def FO{i j pos}:PE X (.Constant (.int i) j pos) (tC (.int i)):=λ_ _ _ H _ I h=>wpAny_Constant_int %[.int i,H,I.tok _,%[_|rfl]|h]
def HS{b j pos}:PE X (.Constant (.bool b) j pos) (tC (.bl b)):=λ_ _ _ H _ I h=>Constant_bool %[.bl b,H,I,rfl|h]
def FP{j pos}:PE X (.Constant .none j pos) (tC .non):=λ_ _ _ H _ I h=>Constant_none %[.non,H,I,rfl|h]
def FQ{x j pos}:PE X (.Constant (.str x) j pos) (tC (.str x)):=λ_ _ _ H _ I h=>Calls.Constant_str %[.str x,H,I.tok _,%[_|rfl]|h]
abbrev Gl(X:Cx)(x:Str):Prop:=X.env.kindOf x=some .globalImplicit
def tf(I:Inv X pins d H s)(a:Gl X x)(b:X.mg x=some u)(h:Q u s)
 (c:(x==("__debug__":Str))=false):wpAny (model X.prog X.w) X.A (eval (.Name x pos) X.env) Q E s:=
 Calls.Name_function_global I.ok.kind a (Calls.loadGlobal_global (I.ok.glob▸I.mod.glob.keeps I.bk) b h) c
def jW(I:Inv X pins i H s)(a:Gl X x)(b:X.mg x=none)(c:bootBuiltins x=some u)(h:Q u s)
 (d:x≠"__name__":=by decide) (e:(x==("__debug__":Str))=false:=by decide):wpAny (model X.prog X.w) X.A (eval (.Name x pos) X.env) Q E s:=by
 have%[j,f|g]:=I.mod.blt;exact Calls.Name_function_global I.ok.kind a (Calls.loadGlobal_builtin (I.ok.glob▸I.mod.glob.keeps I.bk) b (I.ok.blt▸f.keeps I.bk) ((g x d).trans c) h) e
def DC(a:Gl X x)(b:X.mg x=some u)(r:aZ v u)(c:(x==("__debug__":Str))=false):PE X (.Name x pos) (tC v):=
 λ_ _ _ H _ I h=>tf I a b %[v,H,I,r|h] c
def DD(a:Gl X x)(b:X.mg x=none)(c:bootBuiltins x=some u)(r:aZ v u)(d:x≠"__name__")(e:(x==("__debug__":Str))=false):PE X (.Name x pos) (tC v):=
 λ_ _ _ H _ I h=>jW I a b c %[v,H,I,r|h] d e
variable{a b:Expr}{ta tb:TE}{pos:Pos}
abbrev PC(X:Cx)(op:CmpOp)(a b:Expr)(t:TE):Prop:=
 ∀pins s (e:St) H Q,Inv X pins e H s->t e H Q->
  (wpAny (model X.prog X.w) X.A) (eval a X.env) (λv c=>wpAny (model X.prog X.w) X.A (eval b X.env) (λu d=>wpAny (model X.prog X.w) X.A (compareOp op v u) (EP X pins e Q) X.xe d) X.xe c) X.xe s
def HU(b:Expr)(h:op≠ .In)(e:op≠ .NotIn):behindInMarks op b=false:=by
 have c:(op==CmpOp.In)=false:=by lia
 have d:(op==CmpOp.NotIn)=false:=by lia
 cases b<;> simp[behindInMarks,c,d]
abbrev tB(t:TE):TT:=λd H Q=>t d H λx e=>asB x λc=>Q c e
def A6{op:CmpOp}(h:PC X op a b t)(e:behindInMarks op b=false):PT X (.Compare a [op] [b] pos) (tB t):=by
 intro pins s f H Q I hw;refine wpAny_isTrue_Compare1 (thn (h pins s f H _ I hw) λv m e=>thn e λu n g=>thn g λc o ⟨x,i,j,l,q1⟩=>?_) e;have%[d,rfl|q]:=qY q1;cases l;exact wpAny_truthy_bool %[i,j|q]
variable{tA tB':TT}{rest:List Expr}
abbrev DE(t u:TT):TT:=λd H Q=>t d H λc e=>if c=true then u d e Q else Q false e
abbrev tOr(t u:TT):TT:=λd H Q=>t d H λc e=>if c=true then Q true e else u d e Q
abbrev FR(t:TT):TT:=λd H Q=>t d H λc e=>Q (!c) e
def DF(d:PT X a tA):PW X (.BoolOp .And [a] pos) tA:=by
 intro g pins s f H Q I h;refine isTrue_and (thn (d pins s f H Q I h) λc i e=>?_);cases c with
 | true=>exact isTrue_and_nil e
 | false=>exact e
def FS(d:PT X a tA):PW X (.BoolOp .Or [a] pos) tA:=by
 intro g pins s f H Q I h;refine isTrue_or (thn (d pins s f H Q I h) λc i e=>?_);cases c with
 | false=>exact isTrue_or_nil e
 | true=>exact e
def FT(g:PT X a tA)(i:PW X (.BoolOp .And (b::rest) pos) tB'):PW X (.BoolOp .And (a::b::rest) pos) (DE tA tB'):=by
 intro j pins s d H Q I h;refine isTrue_and (thT (g pins s d H _ I h) λc l e f q1=>?_);cases c with
 | true=>exact i j pins l d e Q f q1
 | false=>exact%[e,f|q1]
def HV(g:PT X a tA)(i:PW X (.BoolOp .Or (b::rest) pos) tB'):PW X (.BoolOp .Or (a::b::rest) pos) (tOr tA tB'):=by
 intro j pins s d H Q I h;refine isTrue_or (thT (g pins s d H _ I h) λc l e f q1=>?_);cases c with
 | true=>exact%[e,f|q1]
 | false=>exact i j pins l d e Q f q1
def FU(c:PT X a tA):PT X (.UnaryOp .Not a pos) (FR tA):=by
 intro pins s d H Q I h;exact isTrue_not (c pins s d H _ I h)
abbrev A7(ta tb:TE):TE:=λd H Q=>ta d H λx e=>asB x λc=>if c=true then tb d e Q else Q (.bl false) e
abbrev FV(ta tb:TE):TE:=λd H Q=>ta d H λx e=>asB x λc=>if c=true then Q (.bl true) e else tb d e Q
def FW{op}(h:PE X a t):PE X (.BoolOp op [a] pos) t:=λpins s c H Q I hw=>BoolOp_one (h pins s c H Q I hw)
def FX(g:PE X a ta)(i:PE X (.BoolOp .And (b::rest) pos) tb):PE X (.BoolOp .And (a::b::rest) pos) (A7 ta tb):=by
 intro pins s d H Q I h;refine BoolOp_and (thP (g pins s d H _ I h) λv j x e f l q1=>?_);have%[c,rfl|q1]:=qY q1;cases l;refine wpAny_truthy_bool ?_;cases c with
 | true=>exact i pins j d e Q f q1
 | false=>exact%[.bl false,e,f,rfl|q1]
def HW(g:PE X a ta)(i:PE X (.BoolOp .Or (b::rest) pos) tb):PE X (.BoolOp .Or (a::b::rest) pos) (FV ta tb):=by
 intro pins s d H Q I h;refine BoolOp_or (thP (g pins s d H _ I h) λv j x e f l q1=>?_);have%[c,rfl|q1]:=qY q1;cases l;refine wpAny_truthy_bool ?_;cases c with
 | false=>exact i pins j d e Q f q1
 | true=>exact%[.bl true,e,f,rfl|q1]
abbrev tIf(t:TT)(ta tb:TE):TE:=λd H Q=>t d H λc e=>if c=true then ta d e Q else tb d e Q
def A8{c:Expr}(j:PT X c tA)(l:PE X a ta)(m:PE X b tb):PE X (.IfExp c a b pos) (tIf tA ta tb):=by
 intro pins s e H Q I h;refine wpAny_IfExp (thT (j pins s e H _ I h) λd f g i q1=>?_);cases d with
 | true=>exact l pins f e g Q i q1
 | false=>exact m pins f e g Q i q1
end
abbrev SqL(K:ZA)(H:Hp)(a:Addr)(xs:List V):Prop:=
 Rd H a (.lst xs)\/
  ∃o its n,K.lookup a=some o/\o.cls= .type "list"/\o.dict=none/\o.data= .seq its n/\its.size<=sizeLine/\aK xs its.toList
abbrev SqT(K:ZA)(H:Hp)(a:Addr)(xs:List V):Prop:=
 Rd H a (.tup xs)\/
  ∃o its n,K.lookup a=some o/\o.cls= .type "tuple"/\o.data= .seq its n/\its.size<=sizeLine/\aK xs its.toList
abbrev absV:Value->Option V
 | .none=>some .non
 | .bool b=>some (.bl b)
 | .int i _=>some (.int i)
 | .str x _=>some (.str x)
 | .bytes b _=>some (.byt b)
 | .float b _=>some (.flt b)
 | .ref a=>some (.ref a)
 | .type n=>some (.ty n)
 | _=>none
def aZ.abs(r:aZ x u):absV u=some x:=by
 cases x with
 | non=>cases r;rfl
 | bl _=>cases r;rfl
 | int _=>have%[t|rfl]:=r;rfl
 | str _=>have%[t|rfl]:=r;rfl
 | byt _=>have%[t|rfl]:=r;rfl
 | flt _=>have%[t|rfl]:=r;rfl
 | ref _=>cases r;rfl
 | ty _=>cases r;rfl
def aZ.inj(r:aZ x u)(q:aZ y u):x=y:=Za (r.abs.symm.trans q.abs)
def aK.inj:∀{xs ys:List V} {us:ZF},aK xs us->aK ys us->xs=ys
 | _,_,_,.nil,.nil=>rfl
 | _,_,_,.cons r t,.cons a t'=>by rw[r.inj a,aK.inj t t']
section
variable{X:Cx}{pins:ZE}{σ:St}{H:Hp}{s:Shared}
variable{a:Addr}{xs ys:List V}
def SqL.of{K:ZA}(h:H a=some (.lst xs)):SqL K H a xs:= .inl (.inl h)
def SqT.of{K:ZA}(h:H a=some (.tup xs)):SqT K H a xs:= .inl (.inl h)
def Inv.list(I:Inv X pins σ H s)(h:SqL X.K H a xs):∃its:ZF,aK xs its/\PlainL s.heap a its.toArray/\xs.length<=sizeLine:=by
 rcases h with h|⟨o,its,n,b,c,d,f,g,r⟩
 .have%[z,its,n,r|e]:=h.ok I.hok;exact%[its,r,%[_,n,e,rfl,rfl|rfl]|z]
 .refine%[its.toList,r,%[o,n,I.kIn a o b,c,d|f]|?_];have e:=r.length
  simp_all
def Inv.tuple(I:Inv X pins σ H s)(h:SqT X.K H a xs):∃its:ZF,aK xs its/\IsTup s.heap a its.toArray/\xs.length<=sizeLine:=by
 rcases h with h|⟨o,its,n,b,c,d,f,r⟩
 .have%[z,its,r|p]:=h.ok I.hok;exact%[its,r,p|z]
 .refine%[its.toList,r,%[o,I.kIn a o b,c,n|d]|?_];have e:=r.length;simp only[Zb]at e
  lia
def Inv.list_inj(I:Inv X pins σ H s)(h:SqL X.K H a xs)(h':SqL X.K H a ys):xs=ys:=by
 have%[its,r,%[o,n,e,_,_|d]|_]:=I.list h;have%[its',c,%[g,i,b,_,_|d']|_]:=I.list h';rw[e]at b;cases b;rw[d]at d';injection d' with f _
 have:=congrArg Array.toList f;subst this;exact r.inj c
def Inv.tuple_inj(I:Inv X pins σ H s)(h:SqT X.K H a xs)(h':SqT X.K H a ys):xs=ys:=by
 have%[its,r,%[o,e,_,n|d]|_]:=I.tuple h;have%[its',c,%[g,b,_,i|d']|_]:=I.tuple h';rw[e]at b;cases b;rw[d]at d';injection d' with f _
 have:=congrArg Array.toList f;subst this;exact r.inj c
end
noncomputable abbrev Cx.wish(X:Cx)(E:ZD):Cx:={X with xe:=E}
noncomputable abbrev Cx.nox(X:Cx):Cx:=X.wish λ_ _=>False
def Cx.Ok.wish{X:Cx}(ok:X.Ok)(E:ZD):(X.wish E).Ok:=
 %[ok.mod,ok.kind,ok.glob,ok.blt,ok.above,ok.inj,ok.has,ok.cab,ok.hd,ok.frames,ok.stk,ok.exf,ok.bs,ok.bsz,ok.noex,ok.exfs,ok.funs|ok.frf]
def Cx.Ok.unwish{X:Cx}{E:ZD}(ok:(X.wish E).Ok):X.Ok:=
 %[ok.mod,ok.kind,ok.glob,ok.blt,ok.above,ok.inj,ok.has,ok.cab,ok.hd,ok.frames,ok.stk,ok.exf,ok.bs,ok.bsz,ok.noex,ok.exfs,ok.funs|ok.frf]
section
variable{X:Cx}{pins:ZE}{σ:St}{H:Hp}{s:Shared}
variable{E:ZD}
def Inv.wish(I:Inv X pins σ H s)(E:ZD):Inv (X.wish E) pins σ H s:=%[I.ok.wish E,I.os,I.bare,I.base,I.loc,I.cell,I.free,I.freeC,I.pin,I.hok|I.len]
def Inv.unwish(I:Inv (X.wish E) pins σ H s):Inv X pins σ H s:=%[I.ok.unwish,I.os,I.bare,I.base,I.loc,I.cell,I.free,I.freeC,I.pin,I.hok|I.len]
def SP.unwish{D:kq}{f:Flow}{s':Shared}(h:SP (X.wish E) pins D f s'):SP X pins D f s':=by
 cases f with
 | next=>have%[a,b,I|q]:=h;exact%[a,b,I.unwish|q]
 | brk=>have%[a,b,I|q]:=h;exact%[a,b,I.unwish|q]
 | cont=>have%[a,b,I|q]:=h;exact%[a,b,I.unwish|q]
 | ret u=>have%[v,a,b,I,r|q]:=h;exact%[v,a,b,I.unwish,r|q]
def PSs.nox{st:List Stmt}(h:PSs X.nox st t):PSs X st t:=λpins s σ H D I hw=>
 wpAny_mono (h pins s σ H D (I.wish _) hw) (λ_ _ q=>q.unwish) λ_ _ z=>False.elim z
end
section
variable{X:Cx}{st:Stmt}{rest:List Stmt}{t u:TS}{e:Expr}{te:TE}{pos:Pos}
abbrev A9:TS:=λD a H=>D.nx a H
abbrev bq(t u:TS):TS:=λD a H=>t {D with nx:=u D} a H
def DG:PSs X [] A9:=λ_ _ a H _ I h=>wpAny_execs_nil %[a,H,I|h]
def Ba(b:PS X st t)(c:PSs X rest u):PSs X (st::rest) (bq t u):=by
 intro pins s d H D I h;refine wpAny_execs_cons (thn (b pins s d H _ I h) λf g q=>?_);cases f with
 | next=>
   have%[a,i,j|q]:=q;exact c pins g a i D j q
 | ret v=>exact q
 | brk=>exact q
 | cont=>exact q
def DH(a:PS X st t):PSs X [st] t:=by
 intro pins s b H D I h;refine wpAny_execs_cons (thn (a pins s b H D I h) λf c q=>?_);cases f with
 | next=>exact wpAny_execs_nil q
 | ret v=>exact q
 | brk=>exact q
 | cont=>exact q
def Inv.quiet{pins:List _}{a:St}{H:Hp}{s:Shared}(I:Inv X pins a H s):interactive X.env=false:=by simp[interactive,I.ok.kind]
abbrev kr(te:TE):TS:=λD a H=>te a H λ_ b=>D.nx a b
def DI(b:PE X e te)(c:swapsWith e none pos.line X.env=pure false):PS X (.Expr e pos) (kr te):=by
 intro pins s a H D I h;exact wpAny_Expr_any (thP (b pins s a H _ I h) λv g x d f i q1=>%[a,d,f|q1]) I.quiet c
abbrev jX(te:TE):TS:=λD a H=>te a H D.rt
def FY(b:PE X e te):PS X (.Return (some e) pos) (jX te):=by
 intro pins s a H D I h;exact wpAny_Return_some (thP (b pins s a H _ I h) λv g x c d f q1=>%[x,a,c,d,f|q1])
abbrev nE(c:TT)(t u:TS):TS:=λD a H=>c a H λb d=>if b=true then t D a d else u D a d
def HX{c:Expr}{a b:List Stmt}(l:PT X c m)(n:PSs X a t)(o:PSs X b u):PS X (.If c a b pos) (nE m t u):=by
 intro pins s f H D I h;refine wpAny_If (thT (l pins s f H _ I h) λd g i j q1=>?_);cases d with
 | true=>exact n pins g f i D j q1
 | false=>exact o pins g f i D j q1
abbrev Bb:TS:=λ_ _ _=>False
def Bc:PS X st Bb:=λ_ _ _ _ _ _ h=>h.elim
end
noncomputable abbrev TG:=V->St->Hp->(St->Hp->Prop)->Prop
noncomputable abbrev TGs:=List V->St->Hp->(St->Hp->Prop)->Prop
abbrev PG(X:Cx)(a:Expr)(t:TG):Prop:=
 ∀pins s (c:St) H v u Q,Inv X pins c H s->aZ v u->t v c H Q->
  (wpAny (model X.prog X.w) X.A) (assign a X.env u) (λ_ s'=>∃b d,Inv X pins b d s'/\Q b d) X.xe s
abbrev PGs(X:Cx)(ts:List Expr)(t:TGs):Prop:=
 ∀pins s (b:St) H vs us Q,Inv X pins b H s->aK vs us->t vs b H Q->
  (wpAny (model X.prog X.w) X.A) (assignInOrder ((assignEach ts X.env).map (·.2)) us) (λ_ s'=>∃a c,Inv X pins a c s'/\Q a c) X.xe s
section
variable{X:Cx}{pos:Pos}
abbrev jJ(i:Nat):TG:=λv a H Q=>Q (a.set i (some v)) H
def DJ(a:X.N.Nodup)(hi:X.N[i]? =some x)(b:Loc X.env.scope x)(c:X.fn x=true\/X.env.scope.names.lookup x=some .local):PG X (.Name x pos) (jJ i):=by
 intro pins s e H v u Q I r h;exact wpAny_assign_Name (oh I a hi b r (λs' d=>%[_,H,d|h]) c)
abbrev FZ:TGs:=λvs a H Q=>vs=[]/\Q a H
abbrev Bd(t:TG)(u:TGs):TGs:=λvs b H Q=>∃v r,vs=v::r/\t v b H λa c=>u r a c Q
def DK:PGs X [] FZ:=by
 intro pins s a H vs us Q I r h;have%[e|h]:=h;exact assignInOrder_nil %[a,H,I|h]
def Be{e:Expr}{u:TGs}(b:PG X e t)(c:PGs X es u)
 (d:(assignEach (e::es) X.env).map (·.2)=assign e X.env::(assignEach es X.env).map (·.2)):PGs X (e::es) (Bd t u):=by
 intro pins s f H vs us Q I r h;have%[v,m,g|h]:=h;subst g;cases r with
 | cons r rr=>
   rw[d];exact assignInOrder_cons (thn (b pins s f H _ _ _ I r h) λ_ i ⟨a,j,l,q1⟩=>c pins i a j _ _ Q l rr q1)
abbrev Bf(K:ZA)(n:Nat)(t:TGs):TG:=λv b H Q=>asR v λa=>∃xs,SqT K H a xs/\xs.length=n/\t xs b H Q
def F0(f:X.calm=true)(h:PGs X es t)
 (g:(assignEach es X.env).length=n) (c:(assignEach es X.env).findIdx? (·.1)=none):PG X (.Tuple es k pos) (Bf X.K n t):=by
 intro pins s i H v u Q I r hw;have%[a,j,xs,l,m|hw]:=eX hw;clear ‹Bf _ _ _ _ _ _ _›;subst j;cases r;have%[its,d,p|w]:=I.tuple l;exact assign_Tuple_tuple (I.ok.hd f) p (by simp[g,<-m,d.length]) c λh' q=>h pins _ i H xs _ Q (I.kept λb o e=>q b o (Zt (Zv e)) e) (d) hw
abbrev ti(b:TE)(g:TG):TS:=λD a H=>b a H λx c=>g x a c D.nx
def F1{a e:Expr}{g:TG}(c:PE X e d)(f:PG X a g)(i:swapsWithSole [a] e pos.line X.env=pure false)(hw:swappedStores [a] e X.env=pure none)
 (j:(assignEach [a] X.env).map (·.2)=[assign a X.env]):PS X (.Assign [a] e pos) (ti d g):=by
 intro pins s b H D I h;refine wpAny_Assign_stores (thP (c pins s b H _ I h) λv l x m n o q1=>?_) i hw;rw[j];exact thn (f pins l b m x v _ n o q1) λ_ p q=>q
def Bg{i:Nat}{x:Str}{e:Expr}(b:X.N.Nodup)(hi:X.N[i]? =some x)(c:Loc X.env.scope x)(d:PE X e f)(g:swapsWith e (some (.Name x a)) pos.line X.env=pure false)(j:X.fn x=true\/X.env.scope.names.lookup x=some .local):
 PS X (.Assign [.Name x a] e pos) (ti f (jJ i)):=by
 intro pins s l H D I h;exact wpAny_Assign_Name (thP (d pins s l H _ I h) λv q y m n o q1=>oh n b hi c o (λr p=>%[_,m,p|q1]) j) g
end
section
variable{X:Cx}{pos:Pos}
abbrev Bh(c:TT)(h:TS):TS:=λD a H=>∃W:Nat->St->Hp->Prop,(∃m,W m a H)/\∀m a H,W m a H->
 c a H λb e=>if b=true then∃N:St->Hp->Prop,(∀d f,N d f->∃g,g<m/\W g d f)/\h {D with nx:=N,ct:=N,bk:=D.nx} a e else D.nx a e
def Bi(u:PassesOwn (model X.prog X.w) X.A X.env X.xe)(C:PT X c E)(G:PSs X e J):PS X (.While c e [] pos) (Bh E J):=by
 intro pins s L H D I h;have%[W,%[M|O]|g]:=h;refine wpAny_While (codeAny_whileLoop (λn s'=>∃i w,Inv X pins i w s'/\W n i w) ?_ M %[L,H,I|O]);intro n Q %[d,y,T|U];refine wpAny_passesOwn u (thT (C pins Q d y _ T (g n d y U)) λb Y z A l=>?_);cases b with
 | true=>
   have%[N,B|l]:=l;refine wpAny_passesOwn u (thn (G pins Y d z _ A l) λf s3 m=>?_);cases f with
   | next=>
     have%[a,j,o|p]:=m;have%[q,r|t]:=B a j p;exact%[q,r,a,j,o|t]
   | cont=>
     have%[a,j,o|p]:=m;have%[q,r|t]:=B a j p;exact%[q,r,a,j,o|t]
   | brk=>exact m
   | ret v=>exact m
 | false=>
   exact wpAny_execs_nil %[d,z,A|l]
end
structure It where
 go:Nat->Hp->Prop
 yld:Nat->Hp->V->Hp->Prop
 stop:Nat->Hp->Prop
abbrev nF(X:Cx)(pins:ZE)(H:Hp)(b:Addr):Prop:=
 H b=none/\b≠X.env.locals/\b∉X.fs/\(b∈X.ex\/X.s₀.heap.objs.size<=b)/\(∀x c,X.env.cells.lookup x=some c->c≠b)/\∀p∈X.pn++pins,p.1≠b
def Inv.fpOk{X:Cx}(I:Inv X pins h H s)(a:⇑s<=b)(d:f b=none):nF X pins f b:=by
 refine%[d,X2 (Zg I.lt a),I.nofs a,.inr (Yh I.sz a),λx c e z=>?_|λp g z=>?_]
 .have%[v|q]:=I.cell x c e;exact absurd (Zg q.lt (z▸a)) (Xk _)
 .exact absurd (Zg (Zv (I.pin p g).1) (z▸a)) (Xk _)
structure oi (P:Program) (w:World) (K:ZA) (tg:Expr) (J:It) (fp:List Addr) (it:Addr) (tn:Nat->Heap->Prop):Prop where
 mem:it∈fp
 obj:∀i h,tn i h->∀b∈fp,∃o,h.get? b=some o/\∀v,o.data≠ .cell v
 keep:∀i h h',tn i h->(∀b∈fp,∀o,h.get? b=some o->h'.get? b=some o)->tn i h'
 item:∀(X:Cx),X.prog=P->X.w=w->X.K=K->X.calm=true->∀i (pins:ZE) s (σ:St) H (E:ZD),Inv X pins σ H s->(∀b∈fp,nF X pins H b)->tn i s.heap->J.go i H->
  wpAny (model P w) X.A (pyNext (.ref it)) (λr s1=>∃u,r=some u/\
   wpAny (model P w) X.A (letOwnedTupleGo tg (.ref it) u) (λ_ s2=>∃x H',Inv X pins σ H' s2/\aZ x u/\J.yld i H x H'/\tn (i+1) s2.heap/\∀b∈fp,H' b=none) E s1) E s
 done:∀X,X.prog=P->X.w=w->X.K=K->X.calm=true->∀i pins s (σ:St) H E,Inv X pins σ H s->(∀b∈fp,nF X pins H b)->tn i s.heap->J.stop i H->
  wpAny (model P w) X.A (pyNext (.ref it)) (λr s1=>r=none/\Inv X pins σ H s1) E s
 self:∀A i s Q E,tn i s.heap->Q (.ref it) s->wpAny (model P w) A (pyIter (.ref it)) Q E s
noncomputable abbrev TI:=St->Hp->(It->Hp->Prop)->Prop
abbrev PIE(X:Cx)(pins:ZE)(h:St)(i:Expr)(R:It->Hp->Prop)(a:Value)(d:Shared):Prop:=
 ∃e f g J c,a= .ref e/\Inv X pins h c d/\oi X.prog X.w X.K i J f e g/\g 0 d.heap/\(∀b∈f,nF X pins c b)/\R J c
abbrev PI(X:Cx)(b cf:Expr)(c:TI):Prop:=
 ∀pins s (a:St) H R,Inv X pins a H s->c a H R->
  (wpAny (model X.prog X.w) X.A) (eval cf X.env) (λv d=>wpAny (model X.prog X.w) X.A (pyIter v) (PIE X pins a b R) X.xe d) X.xe s
def qZ(b:s.heap.get? c=some o)(d:o.cls= .type n)(e:o.data= .fields vs)
 (f:["enumerate","zip","dict_itemiterator","dict_reverseitemiterator","odict_iterator","itertools.zip_longest","itertools.pairwise"].contains n=false) (a:Q () s):wpAny M A (letOwnedTupleGo g (.ref c) u) Q E s:=by
 cases g<;> first
  | exact Z3 a
  |(cases u<;> first
   | exact Z3 a
   |(refine Z2 (wpAny_load b ?_)
     rw[d,e];show wpAny M A (if(["enumerate","zip","dict_itemiterator","dict_reverseitemiterator","odict_iterator","itertools.zip_longest","itertools.pairwise"].contains n&&vs[0]? ==some _)=true then _ else _) Q E s;rw[if_neg (by intro h;rw[f,Bool.false_and]at h;cases h)];exact Z3 a))
abbrev Itl(K:ZA)(a:Addr):It:=
 ⟨λi H=>∃xs x,SqL K H a xs/\xs[i]? =some x,λi H x b=>b=H/\∀xs,SqL K H a xs->xs[i]? =some x,λi H=>∃xs,SqL K H a xs/\xs.length<=i⟩
abbrev Itt(K:ZA)(a:Addr):It:=
 ⟨λi H=>∃xs x,SqT K H a xs/\xs[i]? =some x,λi H x b=>b=H/\∀xs,SqT K H a xs->xs[i]? =some x,λi H=>∃xs,SqT K H a xs/\xs.length<=i⟩
abbrev Itr(lo:Int)(n:Nat):It:=%[λi _=>i<n,λi H x a=>a=H/\x= .int (lo+i)|λi _=>n<=i]
def zt{P:Program}{K:ZA}(a it:Addr):oi P w K tg (Itl K a) [it] it (λi h=>h.IsListIter it a i) where
 mem:=by simp
 obj:=λi h st b hb=>by
  have e:=↑hb
  subst e;have%[o,e,c|d]:=st;exact%[o,e|λv z=>by rw[d]at z;cases z]
 keep:=λi h h' st k=>st.at λo e=>k it ∅ o e
 item:=by
  intro X hP hw hK hc i pins s σ H E I hf st hg;subst hP hw hK;have%[xs,x,hq|hx]:=hg;have%[its,rv,p|hz]:=I.list hq;have%[u,hu|ru]:=rv.get hx;have%[f0,f1,f2,f3,f4|f5]:=hf it ∅;refine wpAny_pyNext_list_item st p.isList ↑hu λh' st' sb=>?_
  have%[o,e,c|d]:=id st';exact%[u,rfl|qZ e c d (!1) %[x,H,(I.turned (λb o hb e=>(sb.2 b hb).trans e) f0 f1 f3 f4 f5),ru,%[rfl|λys hy=>(I.list_inj hy hq)▸hx],st'|λb hb=>(hf b hb).1]]
 done:=by
  intro X hP hw hK hc i pins s σ H E I hf st hg;subst hP hw hK;have%[xs,hq|hx]:=hg;have%[its,rv,p|hz]:=I.list hq;have%[f0,f1,f2,f3,f4|f5]:=hf it ∅;have hl:=rv.length;exact wpAny_pyNext_list_end (I.ok.hd hc) st p.isList (by simp;lia) λh' eb=>%[rfl|I.turned (λb o hb e=>eb b o hb e) f0 f1 f3 f4 f5]
 self:=λ_ _ _ _ _ st h=>wpAny_pyIter_listiter st h
def wE{P:Program}{K:ZA}(a it:Addr):oi P w K tg (Itt K a) [it] it (λi h=>h.IsTupleIter it a i) where
 mem:=by simp
 obj:=λi h st b hb=>by
  have e:=↑hb
  subst e;have%[o,e,c|d]:=st;exact%[o,e|λv z=>by rw[d]at z;cases z]
 keep:=λi h h' st k=>st.at λo e=>k it ∅ o e
 item:=by
  intro X hP hw hK hc i pins s σ H E I hf st hg;subst hP hw hK;have%[xs,x,hq|hx]:=hg;have%[its,rv,p|hz]:=I.tuple hq;have%[u,hu|ru]:=rv.get hx;have%[f0,f1,f2,f3,f4|f5]:=hf it ∅;refine wpAny_pyNext_tuple_item st (p) ↑hu λh' st' sb=>?_
  have%[o,e,c|d]:=id st';exact%[u,rfl|qZ e c d (!1) %[x,H,(I.turned (λb o hb e=>(sb.2 b hb).trans e) f0 f1 f3 f4 f5),ru,%[rfl|λys hy=>(I.tuple_inj hy hq)▸hx],st'|λb hb=>(hf b hb).1]]
 done:=by
  intro X hP hw hK hc i pins s σ H E I hf st hg;subst hP hw hK;have%[xs,hq|hx]:=hg;have%[its,rv,p|hz]:=I.tuple hq;have%[f0,f1,f2,f3,f4|f5]:=hf it ∅;have hl:=rv.length;exact wpAny_pyNext_tuple_end (I.ok.hd hc) st (p) (by simp;lia) λh' eb=>%[rfl|I.turned (λb o hb e=>eb b o hb e) f0 f1 f3 f4 f5]
 self:=λ_ _ _ _ _ st h=>wpAny_pyIter_tupleiter st h
def wF{P:Program}{K:ZA}(it:Addr)(lo:Int)(n:Nat):oi P w K tg (Itr lo n) [it] it (λi h=>IsRangeIter h it (lo+(i:Nat)*1) ((n:Int) -(i:Nat)) 1) where
 mem:=by simp
 obj:=λi h st b hb=>by
  simp_all
 keep:=λi h h' st k=>k it ∅ _ st
 item:=by
  intro X hP hw hK hc i pins s σ H E I hf st hg;subst hP hw hK;have%[f0,f1,f2,f3,f4|f5]:=hf it ∅;refine(Walks.range (prog:=X.prog) (w:=X.w) (I.ok.hd hc) it lo 1 n).item i s _ _ hg st λv h' tk hv st' kk=>?_
  have%[t|rfl]:=hv;refine%[_,rfl|qZ st' rfl rfl (!1) %[.int _,H,(I.turned (λb o hb e=>kk b o ↑hb e) f0 f1 f3 f4 f5),%[t|?_],%[rfl|rfl],st'|λb hb=>(hf b hb).1]];rw[Int.mul_one]
 done:=by
  intro X hP hw hK hc i pins s σ H E I hf st hg;have%[f0,f1,f2,f3,f4|f5]:=hf it ∅;exact wpAny_pyNext_range_end (I.ok.hd hc) st (by have:n<=i:=hg;lia) λh' eb=>%[rfl|I.turned (λb o hb e=>eb b o hb e) f0 f1 f3 f4 f5]
 self:=λ_ _ _ _ _ st h=>wpAny_pyIter_rangeiter st h
section
variable{X:Cx}{tg:Expr}
def Bj{R:It->Hp->Prop}{lo hi:Int}(I:Inv X pins c H s)(d: -(2^62)<=lo)(f:lo<2^62)(g: -(2^62)<=hi)(h:hi<2^62)
 (q:R (Itr lo (hi-lo).toNat) H):wpAny (model X.prog X.w) X.A (pyIter (.ref ⇑s)) (PIE X pins c tg R) E {s with heap:=s.heap.push {cls:= .type "range",data:= .fields #[.int lo t,.int hi u,.int 1 v]},toks:=tk}:=by
 refine wpAny_pyIter_range (IsRange.new ..) (small_one d f g h) ?_;have a:Inv X pins c H {s with heap:=s.heap.push {cls:= .type "range",data:= .fields #[.int lo t,.int hi u,.int 1 v]},toks:=tk}:=I.kept λb o e=>Z7 _ e
 refine%[(s.heap.push _).objs.size,[(s.heap.push _).objs.size],_,_,H,rfl,
  a.kept λb o e=>Z7 _ e,wF _ lo _,?_,λb i=>?_|q]
 .have j:lo+((0:Nat))*1=lo:=by simp
  have l:(((hi-lo).toNat)) -((0:Nat))=Builtin.Range.rangeSize lo hi 1:=by rw[rangeSize_one];split<;> lia
  rw[j,l];exact Zj _ rfl
 .have e:b=(s.heap.push {cls:= .type "range",data:= .fields #[.int lo t,.int hi u,.int 1 v]}).objs.size:=↑i
  subst e;exact a.fpOk (Zi _) (a.hok.fresh (Zi _))
abbrev Bk(a:TA):TI:=λb H R=>a b H λvs c=>∃j:Int,vs=[.int j]/\ -(2^62)<=j/\j<2^62/\R (Itr 0 j.toNat) c
def zu{a:Expr}(b:Gl X "range")(c:X.mg "range"=none)(d:PA X [a] f)(g:starEach [a] X.env=[(false,eval a X.env)]):PI X tg (.Call (.Name "range" p) [a] [] pos) (Bk f):=by
 intro pins s i H R I h;refine Call_ (jW I b c boot_range (PyProof.Rows.callWith_type1 (thP (d pos pins s i H _ I h) λus o vs u l m q1=>?_) g rfl));have%[j,e,q1,n|q]:=q1;subst e;cases m with
 | cons r rr=>
   cases rr;have%[t|rfl]:=r;exact call_range_1 (Bj l ⋯ ⋯ q1 n ↑q)
abbrev Bl(f:TI)(g:TG)(h:TS):TS:=λD a H=>f a H λJ j=>∃W:Nat->Nat->St->Hp->Prop,(∃m,W 0 m a j)/\∀i m a H,W i m a H->
 (J.stop i H/\D.nx a H)\/(J.go i H/\∃N:St->Hp->Prop,(∀b c,N b c->∃e,e<m/\W (i+1) e b c)/\∀x c,J.yld i H x c->g x a c λd l=>h {D with nx:=N,ct:=N,bk:=D.nx} d l)
abbrev tq(a:List Addr)(h:Heap):ZE:=a.filterMap λb=>(h.get? b).map λo=>(b,o)
def eY(a:b∈c)(e:h.get? b=some o):(b,o)∈tq c h:=mem_filterMap.mpr %[b,a|by rw[e];rfl]
def zv(a:p∈tq c h):p.1∈c/\h.get? p.1=some p.2:=by
 have%[b,d|e]:=mem_filterMap.mp a;cases q:h.get? b with
 | none=>simp_all
 | some o=>
   rw[q]at e;have f:=Za e;subst f;exact%[d|q]
def Inv.pinned(I:Inv X pins g H s)(h:∀b∈a,nF X pins H b)(i:∀b∈a,∃o,s.heap.get? b=some o/\∀v,o.data≠ .cell v):Inv X (pins++tq a s.heap) g H s:=
 I.pins_of λp j=>(Xo j).elim (λz=>I.pin p (Yv _ z)) λz=>by
  have%[c|e]:=zv z;have%[l,m,n|_]:=h p.1 c;have%[o,f|d]:=i p.1 c;rw[e]at f;cases f;exact%[e,l,m,n|d]
def Inv.unpinned(I:Inv X (pins++pl) a H s):Inv X pins a H s:=I.pins_of λp b=>I.pin p (Yv _ (Yu _ b))
def F2(A:PassesOwn (model X.prog X.w) X.A X.env X.xe)(hc:X.calm=true)(hi:PI X tg cf wi)(hg:PG X tg g)(c:PSs X B tb)
 (hs:∀x,foldedSetIterable cf X.env x=pure x):PS X (.For tg cf B [] pos) (Bl wi g tb):=by
 intro pins s σ H D I h;refine wpAny_For (thn (hi pins s σ H _ I h) λv s1 h1=>thn h1 λac s2 h2=>?_) hs;have%[it,M,tn,J,H2,e,I2,T,Q,f2,W,%[m0|w0]|C]:=h2;subst e;have j:∀{w:Hp},(∀b∈M,w b=none)->∀b∈M,nF X pins w b:=λhn b c=>%[hn b c|(f2 b c).2]
 refine codeAny_forLoop_any (λn s'=>∃i l w,Inv X pins l w s'/\tn i s'.heap/\(∀b∈M,w b=none)/\W i n l w) ?_ m0 %[0,σ,H2,I2,Q,λb c=>(f2 b c).1|w0];intro n s3 %[i,p,O,I3,E,G|w3];rcases C i n p O w3 with⟨stop,qn⟩|⟨go,N,hN,step⟩
 .refine wpAny_passesOwn A (thn (T.done X rfl rfl rfl hc i pins s3 p O X.xe I3 (j G) E stop) λr s4 ⟨U,I4⟩=>?_);subst U;exact wpAny_execs_nil %[p,O,I4|qn]
 .refine wpAny_passesOwn A (thn (T.item X rfl rfl rfl hc i pins s3 p O X.xe I3 (j G) E go) λr s4 ⟨u,U,h4⟩=>?_);subst U;refine wpAny_passesOwn A (thn h4 λ_ s5 ⟨x,H5,I5,r5,y5,z,Y⟩=>wpAny_passesOwn A (thn (hg _ s5 p H5 x u _ (I5.pinned (j Y) (T.obj _ _ z)) r5 (step x H5 y5)) λ_ s6 ⟨ab,H6,I6,q6⟩=>wpAny_passesOwn A (thn (c _ s6 ab H6 _ I6 q6) λf s7 y=>?_)));have again:∀{a:St} {q:Hp},Inv X _ a q s7->N a q->∃m,m<n/\∃i l w,Inv X pins l w s7/\tn i s7.heap/\(∀b∈M,w b=none)/\W i m l w:=λ{a q} t L=>by
   have%[m',hm|w7]:=hN a q L;refine%[m',hm,i+1,a,q,t.unpinned,T.keep _ _ _ z λb c o e=>(t.pin _ (Yv _ (Yv _ (eY c e)))).1,λb c=>?_|w7];have%[o,e|d]:=T.obj _ _ z b c;exact(t.pin _ (Yv _ (Yv _ (eY c e)))).2.1
  cases f with
  | next=>have%[a,q,t|L]:=y;exact again t L
  | cont=>have%[a,q,t|L]:=y;exact again t L
  | brk=>have%[a,q,t|y]:=y;exact%[a,q,t.unpinned|y]
  | ret v=>have%[x7,a,q,t,r7|y]:=y;exact%[x7,a,q,t.unpinned,r7|y]
end
def bz{K:ZA}{g:TG}{l:TS}{D:kq}(Pv:Nat->St->Hp->Prop)(o:Pv 0 b H)(r:∀i b H,i<=xs.length->Pv i b H->SqL K H a xs)
 (s:∀i x b H,xs[i]? =some x->Pv i b H->g x b H λc h=>l {D with nx:=Pv (i+1),ct:=Pv (i+1),bk:=D.nx} c h) (t:∀b H,Pv xs.length b H->D.nx b H):
 ∃W:Nat->Nat->St->Hp->Prop,(∃m,W 0 m b H)/\∀i m b H,W i m b H->
  ((Itl K a).stop i H/\D.nx b H)\/((Itl K a).go i H/\∃N:St->Hp->Prop,(∀d f,N d f->∃n,n<m/\W (i+1) n d f)/\∀x f,(Itl K a).yld i H x f->g x b f λc h=>l {D with nx:=N,ct:=N,bk:=D.nx} c h):=by
 refine%[λi m b H=>m=xs.length-i/\i<=xs.length/\Pv i b H,%[xs.length,by simp,Xf _|o]|?_];intro i m b H %[rfl,hi|p];have q:=r i b H hi p;by_cases j:i<xs.length
 .refine .inr %[%[xs,xs[i],q|by simp],Pv _,λd f u=>%[xs.length-(i+1),⋯,rfl,j|u]|λx f y=>?_];have%[e|y]:=y;subst e;exact s i x b _ (y xs q) p
 .have e:i=xs.length:=by lia
  subst e;exact .inl %[%[xs,q|Zi _]|t b H p]
def gc{lo:Int}{g:TG}{j:TS}{D:kq}(Pv:Nat->St->Hp->Prop)(o:Pv 0 a H)
 (q:∀i a H,i<n->Pv i a H->g (.int (lo+i)) a H λb h=>j {D with nx:=Pv (i+1),ct:=Pv (i+1),bk:=D.nx} b h) (r:∀a H,Pv n a H->D.nx a H):
 ∃W:Nat->Nat->St->Hp->Prop,(∃m,W 0 m a H)/\∀i m a H,W i m a H->
  ((Itr lo n).stop i H/\D.nx a H)\/((Itr lo n).go i H/\∃N:St->Hp->Prop,(∀c d,N c d->∃l,l<m/\W (i+1) l c d)/\∀x d,(Itr lo n).yld i H x d->g x a d λb h=>j {D with nx:=N,ct:=N,bk:=D.nx} b h):=by
 refine%[λi m a H=>m=n-i/\i<=n/\Pv i a H,%[n,by simp,Xf _|o]|?_];intro i m a H %[rfl,hi|p];by_cases f:i<n
 .refine .inr %[f,Pv _,λc d s=>%[n-(i+1),⋯,rfl,f|s]|λx d y=>?_];have%[e|y]:=y;subst e y;exact q i a _ f p
 .have e:i=n:=by lia
  subst e;exact .inl %[Zi _|r a H p]
noncomputable abbrev R2:=V->V->Hp->VK->Prop
abbrev OpR(X:Cx)(f:Value->Value->Sem Value)(r:R2):Prop:=
 ∀pins s (a:St) H x y v u Q,Inv X pins a H s->aZ x v->aZ y u->r x y H Q->
  (wpAny (model X.prog X.w) X.A) (f v u) (EP X pins a Q) X.xe s
abbrev UnR(X:Cx)(f:Value->Sem Value)(r:V->Hp->VK->Prop):Prop:=
 ∀pins s (a:St) H x v Q,Inv X pins a H s->aZ x v->r x H Q->
  (wpAny (model X.prog X.w) X.A) (f v) (EP X pins a Q) X.xe s
abbrev ck(X:Cx)(f:Value)(r:List V->Hp->VK->Prop):Prop:=
 ∀pins s (a:St) H xs us Q,Inv X pins a H s->aK xs us->r xs H Q->
  (wpAny (model X.prog X.w) X.A) (call f us) (EP X pins a Q) X.xe s
abbrev TruR(X:Cx)(r:V->Hp->(Bool->Hp->Prop)->Prop):Prop:=
 ∀pins s (a:St) H x v Q,Inv X pins a H s->aZ x v->r x H Q->
  (wpAny (model X.prog X.w) X.A) (truthy v) (TP X pins a Q) X.xe s
abbrev tOp(r:R2)(b c:TE):TE:=λa H Q=>b a H λx d=>c a d λy e=>r x y e Q
abbrev tUn(r:V->Hp->VK->Prop)(a:TE):TE:=λb H Q=>a b H λx c=>r x c Q
abbrev rI(C:Int->Int->Prop)(g:Int->Int->V):R2:=λx y H Q=>asI x λi=>asI y λj=>C i j/\Q (g i j) H
abbrev rI0(g:Int->Int->V):R2:=λx y H Q=>asI x λi=>asI y λj=>Q (g i j) H
abbrev rU(g:Int->V):V->Hp->VK->Prop:=λx H Q=>asI x λi=>Q (g i) H
section
variable{X:Cx}{a b c:Expr}{ta tb tc:TE}{pos:Pos}
def F3(m:PE X a ta)(n:PE X b tb){pins:List _}{s:Shared}{d:St}{H:Hp}{R:V->V->Hp->Prop}(I:Inv X pins d H s)
 (h:ta d H λx l=>tb d l λy e=>R x y e) {Q:ZD} {f:Value->Value->Sem Value}
 (o:∀v u j x y e,Inv X pins d e j->aZ x v->aZ y u->R x y e->wpAny (model X.prog X.w) X.A (f v u) Q X.xe j):
 (wpAny (model X.prog X.w) X.A) (eval a X.env) (λv g=>wpAny (model X.prog X.w) X.A (eval b X.env) (λu i=>wpAny (model X.prog X.w) X.A (f v u) Q X.xe i) X.xe g) X.xe s:=by
 exact thP (m pins s d H _ I h) λv p x l q r q1=>thP (n pins p d l _ q q1) λu j y e t w z=>o v u j x y e t r w z
def HY{r:R2}(d:OpR X (binaryOp op) r)(e:PE X a ta)(f:PE X b tb):PE X (.BinOp a op b pos) (tOp r ta tb):=by
 intro pins s g H Q I h;exact wpAny_BinOp (F3 e f I h λv u i x y j l m n q=>d pins i g j x y v u Q l m n q)
def HZ(e:UnR X (unaryOp op) r)(f:PE X a ta):PE X (.UnaryOp op a pos) (tUn r ta):=by
 intro pins s d H Q I h;exact UnaryOp_ (thP (f pins s d H _ I h) λv g x i j l q1=>e pins g d i x v Q j l q1)
def opI{f:Value->Value->Sem Value}{C:Int->Int->Prop}{g:Int->Int->Int}
 (rule:∀i j t u s Q E,C i j->Q (.int (g i j) s.toks) {s with toks:=s.toks+1}->wpAny (model X.prog X.w) X.A (f (.int i t) (.int j u)) Q E s):
 OpR X f (rI C λi j=> .int (g i j)):=by
 intro pins s n H x y v u Q I d e h;have%[i,rfl|l]:=iQ h;have%[j,rfl,m|q]:=iQ l;have%[t|rfl]:=d;have%[t'|rfl]:=e;exact rule i j t t' s _ _ m %[.int _,H,I.tok _,%[_|rfl]|q]
def Ia{g:Int->Int->Int}
 (rule:∀(i j:Int) (t u:Tok) (s:Shared) (Q:ZD) (E:ZD),Q (.int (g i j) s.toks) {s with toks:=s.toks+1}->wpAny (model X.prog X.w) X.A (f (.int i t) (.int j u)) Q E s):
 OpR X f (rI0 λi j=> .int (g i j)):=by
 intro pins s m H x y v u Q I d e h;have%[i,rfl|l]:=iQ h;have%[j,rfl|q]:=iQ l;have%[t|rfl]:=d;have%[t'|rfl]:=e;exact rule i j t t' s _ _ %[.int _,H,I.tok _,%[_|rfl]|q]
def F4{g:Int->Int->Bool}
 (rule:∀(i j:Int) (t u:Tok) (s:Shared) (Q:ZD) (E:ZD),Q (.bool (g i j)) s->wpAny (model X.prog X.w) X.A (f (.int i t) (.int j u)) Q E s):
 OpR X f (rI0 λi j=> .bl (g i j)):=by
 intro pins s m H x y v u Q I d e h;have%[i,rfl|l]:=iQ h;have%[j,rfl|q]:=iQ l;have%[t|rfl]:=d;have%[t'|rfl]:=e;exact rule i j t t' s _ _ %[.bl _,H,I,rfl|q]
abbrev Ib(i j:Int):Prop:=0<j/\j<1073741824
abbrev Bm(i j:Int):Prop:=(-(2^64)<i/\i<2^64)\/(-(2^64)<j/\j<2^64)
def Bm.ok{i j:Int}(h:Bm i j):IntMulOk i j:=by
 rcases h with⟨d,e⟩|⟨d,e⟩
 .exact .of_left (intBits_le_64 d e)
 .exact .of_right (intBits_le_64 d e)
def F5:OpR X (binaryOp .Add) (rI0 λi j=> .int (i+j)):=Ia λ_ _ _ _ _ _ _ q=>add_int q
def F6:OpR X (binaryOp .Sub) (rI0 λi j=> .int (i-j)):=Ia λ_ _ _ _ _ _ _ q=>sub_int q
def Bn:OpR X (binaryOp .Mult) (rI Bm λi j=> .int (i*j)):=opI λ_ _ _ _ _ _ _ d q=>mul_int q d.ok
def DL:OpR X (binaryOp .FloorDiv) (rI Ib λi j=> .int (i/j)):=opI λi j _ _ _ _ _ d q=>by
 have e:(0:Int)<j:=d.1;have f:j<1073741824:=d.2;exact floordiv_int ⋯ (by rw[Int.fdiv_eq_ediv_of_nonneg i ⋯];exact q) (.inl (PyProof.noPylong_small ⋯))
def F7:OpR X (binaryOp .Mod) (rI (λ_ j=>0<j) λi j=> .int (i%j)):=opI λi j _ _ _ _ _ d q=>by
 have e:(0:Int)<j:=d;exact mod_int' ⋯ (by rw[Int.fmod_eq_emod_of_nonneg i ⋯];exact q)
def unI{g:Int->Int}
 (rule:∀(i:Int) (t:Tok) (s:Shared) (Q:ZD) (E:ZD),Q (.int (g i) s.toks) {s with toks:=s.toks+1}->wpAny (model X.prog X.w) X.A (f (.int i t)) Q E s):
 UnR X f (rU λi=> .int (g i)):=by
 intro pins s e H x v Q I d h;have%[i,rfl|q]:=iQ h;have%[t|rfl]:=d;exact rule i t s _ _ %[.int _,H,I.tok _,%[_|rfl]|q]
def F8:UnR X (unaryOp .USub) (rU λi=> .int (-i)):=unI λ_ _ _ _ _ q=>neg_int q
end
abbrev F9:V->V->Bool
 | .non,.non=>true| .non,.int _=>true| .int _,.non=>true| .non,.bl _=>true| .bl _,.non=>true| .non,.str _=>true| .str _,.non=>true
 | .int _,.int _=>true| .bl _,.bl _=>true| .str _,.str _=>true| .byt _,.byt _=>true
 | .int _,.str _=>true| .str _,.int _=>true| .bl _,.str _=>true| .str _,.bl _=>true
 | _,_=>false
def zqD:(F9 .non .non=true)/\(∀j,F9 .non (.int j)=true)/\(∀i,F9 (.int i) .non=true)/\(∀j,F9 .non (.bl j)=true)/\(∀i,F9 (.bl i) .non=true)/\(∀j,F9 .non (.str j)=true)/\(∀i,F9 (.str i) .non=true)/\(∀i j,F9 (.int i) (.int j)=true)/\(∀i j,F9 (.bl i) (.bl j)=true)/\(∀i j,F9 (.str i) (.str j)=true)/\(∀i j,F9 (.byt i) (.byt j)=true)/\(∀i j,F9 (.int i) (.str j)=true)/\(∀i j,F9 (.str i) (.int j)=true)/\(∀i j,F9 (.bl i) (.str j)=true)/\(∀i j,F9 (.str i) (.bl j)=true):=by and_intros<;> intros<;> rfl
abbrev rEq:R2:=λx y H Q=>F9 x y=true/\Q (.bl (decide (x=y))) H
abbrev rNe:R2:=λx y H Q=>F9 x y=true/\Q (.bl (!decide (x=y))) H
def xZ:decide (V.int i=V.int j)=(i==j):=by
 rw[Bool.eq_iff_iff];simp
def Bo:decide (V.bl i=V.bl j)=(i==j):=by
 rw[Bool.eq_iff_iff];simp
def x4:decide (V.str i=V.str j)=(i==j):=by
 rw[Bool.eq_iff_iff];simp
def x5:decide (V.byt i=V.byt j)=(i.toList==j.toList):=by
 rw[Bool.eq_iff_iff]
 simp_all
section
variable{X:Cx}{a b c:Expr}{ta tb tc:TE}{pos:Pos}
def aV(I:Inv X pins d H s)(q:Q (.bl k) H)(e:k=f):EP X pins d Q (.bool f) s:=by
 subst e;exact%[.bl k,H,I,rfl|q]
def Ic:OpR X (compareOp .Eq) rEq:=by
 intro pins s g H x y v u Q I f d h;have%[e|q]:=h;cases x with
 | non=>
   cases f;cases y with
   | non=>cases d;exact PySem.EqNone.eq_none_none (aV I q ∅)
   | bl j=>cases d;exact PySem.EqNone.eq_none_bool (aV I q ∅)
   | int j=>have%[t'|rfl]:=d;exact PySem.EqNone.eq_none_int (aV I q ∅)
   | str j=>have%[t'|rfl]:=d;exact PySem.EqNone.eq_none_str (aV I q ∅)
   | _=>exact absurd (show false=true from e) Zu
 | bl i=>
   cases f;cases y with
   | non=>cases d;exact PySem.EqNone.eq_bool_none (aV I q ∅)
   | bl j=>cases d;exact eq_bool (aV I q Bo)
   | str j=>have%[t'|rfl]:=d;exact PySem.EqMixed.eq_bool_str (aV I q ∅)
   | _=>exact absurd (show false=true from e) Zu
 | int i=>
   have%[t|rfl]:=f;cases y with
   | non=>cases d;exact PySem.EqNone.eq_int_none (aV I q ∅)
   | int j=>have%[t'|rfl]:=d;exact eq_int (aV I q xZ)
   | str j=>have%[t'|rfl]:=d;exact PySem.EqMixed.eq_int_str (aV I q ∅)
   | _=>exact absurd (show false=true from e) Zu
 | str i=>
   have%[t|rfl]:=f;cases y with
   | non=>cases d;exact PySem.EqNone.eq_str_none (aV I q ∅)
   | bl j=>cases d;exact PySem.EqMixed.eq_str_bool (aV I q ∅)
   | int j=>have%[t'|rfl]:=d;exact PySem.EqMixed.eq_str_int (aV I q ∅)
   | str j=>have%[t'|rfl]:=d;exact eq_str (aV I q x4)
   | _=>exact absurd (show false=true from e) Zu
 | byt i=>
   have%[t|rfl]:=f;cases y with
   | byt j=>have%[t'|rfl]:=d;exact PySem.W.eq_bytes (aV I q x5)
   | _=>exact absurd (show false=true from e) Zu
 | _=>cases y<;> exact absurd (show false=true from e) Zu
def Ie:OpR X (compareOp .NotEq) rNe:=by
 intro pins s g H x y v u Q I f d h;have%[e|q]:=h;cases x with
 | non=>
   cases f;cases y with
   | non=>cases d;exact PySem.EqNone.ne_none_none (aV I q ∅)
   | bl j=>cases d;exact PySem.EqNone.ne_none_bool (aV I q ∅)
   | int j=>have%[t'|rfl]:=d;exact PySem.EqNone.ne_none_int (aV I q ∅)
   | str j=>have%[t'|rfl]:=d;exact PySem.EqNone.ne_none_str (aV I q ∅)
   | _=>exact absurd (show false=true from e) Zu
 | bl i=>
   cases f;cases y with
   | non=>cases d;exact PySem.EqNone.ne_bool_none (aV I q ∅)
   | bl j=>cases d;exact ne_bool (aV I q (congrArg not Bo))
   | str j=>have%[t'|rfl]:=d;exact PySem.EqMixed.ne_bool_str (aV I q ∅)
   | _=>exact absurd (show false=true from e) Zu
 | int i=>
   have%[t|rfl]:=f;cases y with
   | non=>cases d;exact PySem.EqNone.ne_int_none (aV I q ∅)
   | int j=>have%[t'|rfl]:=d;exact ne_int (aV I q (congrArg not xZ))
   | str j=>have%[t'|rfl]:=d;exact PySem.EqMixed.ne_int_str (aV I q ∅)
   | _=>exact absurd (show false=true from e) Zu
 | str i=>
   have%[t|rfl]:=f;cases y with
   | non=>cases d;exact PySem.EqNone.ne_str_none (aV I q ∅)
   | bl j=>cases d;exact PySem.EqMixed.ne_str_bool (aV I q ∅)
   | int j=>have%[t'|rfl]:=d;exact PySem.EqMixed.ne_str_int (aV I q ∅)
   | str j=>have%[t'|rfl]:=d;exact ne_str (aV I q (congrArg not x4))
   | _=>exact absurd (show false=true from e) Zu
 | byt i=>
   have%[t|rfl]:=f;cases y with
   | byt j=>have%[t'|rfl]:=d;exact PySem.W.ne_bytes (aV I q (congrArg not x5))
   | _=>exact absurd (show false=true from e) Zu
 | _=>cases y<;> exact absurd (show false=true from e) Zu
def Ig:OpR X (compareOp .Lt) (rI0 λi j=> .bl (decide (i<j))):=F4 λ_ _ _ _ _ _ _ q=>lt_int q
def Ih:OpR X (compareOp .LtE) (rI0 λi j=> .bl (decide (i<=j))):=F4 λ_ _ _ _ _ _ _ q=>le_int q
def Ii:OpR X (compareOp .Gt) (rI0 λi j=> .bl (decide (j<i))):=F4 λ_ _ _ _ _ _ _ q=>gt_int q
def zw:OpR X (compareOp .In) (λx y H Q=>∃i j,x= .str i/\y= .str j/\Q (.bl (!(Builtin.Str.occurrences j i 0 j.length 1).isEmpty)) H):=by
 intro pins s f H x y v u Q I d e h;have%[i,j,rfl,rfl|q]:=h;have%[t|rfl]:=d;have%[t'|rfl]:=e;exact in_str (aV I q rfl)
def Ga:OpR X (compareOp .Is) (λx y H Q=>y= .non/\Q (.bl (decide (x= .non))) H):=by
 intro pins s f H x y v u Q I d e h;have%[rfl|q]:=h;cases e;refine is_none_gen (aV I q ?_);cases x<;> first
  | lia
  |(have%[t|rfl]:=d;rfl)
def DM:OpR X (compareOp .IsNot) (λx y H Q=>y= .non/\Q (.bl (!decide (x= .non))) H):=by
 intro pins s f H x y v u Q I d e h;have%[rfl|q]:=h;cases e;refine isnot_none_gen (aV I q ?_);cases x<;> first
  | lia
  |(have%[t|rfl]:=d;rfl)
def OpR.or(h:OpR X f r)(h':OpR X f i):OpR X f (λx y H Q=>r x y H Q\/i x y H Q):=by
 intro pins s d H x y v u Q I e g q;rcases q with q|q
 .exact h pins s d H x y v u Q I e g q
 .exact h' pins s d H x y v u Q I e g q
def nomark(b:Expr)(h:op≠ .In)(f:op≠ .NotIn):behindInMarks op b=false:=by
 have d:(op==CmpOp.In)=false:=by lia
 have e:(op==CmpOp.NotIn)=false:=by lia
 cases b<;> simp[behindInMarks,d,e]
def DN{r:R2}(d:OpR X (compareOp op) r)(e:PE X a ta)(f:PE X b tb)(g:behindInMarks op b=false):PE X (.Compare a [op] [b] pos) (tOp r ta tb):=by
 intro pins s i H Q I h;exact wpAny_Compare1 (F3 e f I h λv u j x y l m n o q=>d pins j i l x y v u Q m n o q) g
abbrev Bp(t:TE):TT:=λd H Q=>t d H λx e=>asB x λk=>Q k e
def DO(f:OpR X (compareOp op) r)(g:PE X a ta)(i:PE X b tb)(j:behindInMarks op b=false):PT X (.Compare a [op] [b] pos) (Bp (tOp r ta tb)):=by
 intro pins s d H Q I h;refine wpAny_isTrue_Compare1 (thP (g pins s d H _ I h) λv l x m n o q1=>thP (i pins l d m _ n q1) λu p y q t w A=>
  thP (f pins p d q x y v u _ t o w A) λc G z B C E e=>?_) j
 have%[k,rfl|e]:=qY e;cases E;exact wpAny_truthy_bool %[B,C|e]
abbrev wG(r f:R2)(ta tb tc:TE):TE:=λd H Q=>ta d H λx g=>tb d g λy h=>r x y h λz e=>asB z λk=>
 (if k=true then tc d e λi j=>f y i j Q else Q (.bl false) e)
def Bq(n:OpR X (compareOp op) r)(i:OpR X (compareOp e) o)(p:PE X a ta)(q:PE X b tb)(t:PE X c tc)
 (w:lastMarks [op,e] [b,c]=false):PE X (.Compare a [op,e] [b,c] pos) (wG r o ta tb tc):=by
 intro pins s f H Q I h;refine Compare_chain (thP (p pins s f H _ I h) λv A x B C E q1=>chain_link (thP (q pins A f B _ C q1) λu G y J L j M=>
  thP (n pins G f J x y v u _ L E j M) λd N z l m O g=>?_)) w
 have%[k,rfl|g]:=qY g;cases O;refine wpAny_truthy_bool ?_;cases k with
 | false=>exact ite_ff %[.bl false,l,m,rfl|g]
 | true=>exact ite_tt (chain_last (thP (t pins N f l _ m g) λT U Y H4 I4 r4 q4=>i pins U f H4 y Y u T Q I4 j r4 q4))
abbrev Br(K:ZA)(x:V)(H:Hp)(k:Bool):Prop:=
 match x with
 | .non=>k=false
 | .bl b=>k=b
 | .int i=>k=(i != 0)
 | .str y=>y.length<=sizeLine/\k=((y.length:Int) != 0)
 | .byt y=>y.size<=sizeLine/\k=((y.size:Int) != 0)
 | .ref p=>(∃xs,SqL K H p xs/\k=!xs.isEmpty)\/(∃xs,SqT K H p xs/\k=!xs.isEmpty)\/∃d,H p=some (.dK d)/\k=!d.isEmpty
 | _=>False
def wH{e:Type}{d:List (e×V)}{vs:List _}(r:KV d vs):(!vs.isEmpty)=!d.isEmpty:=by
 cases r<;> rfl
def oj(r:aK xs its):(!its.toArray.isEmpty)=!xs.isEmpty:=by
 cases r<;> simp
def tw:sizeLine<2^63:=!1
def Gb:TruR X (λx H Q=>∃k,Br X.K x H k/\Q k H):=by
 intro pins s w H x v Q I j h;have%[k,e|q]:=h;have z:=tw;have A:sizeLine=16777216:=sizeLine_eq;cases x with
 | non=>
   cases j;have d:k=false:=e;subst d;exact truthy_none %[H,I|q]
 | bl b=>
   cases j;have d:k=b:=e;subst d;exact wpAny_truthy_bool %[H,I|q]
 | int i=>
   have%[t|rfl]:=j;have d:k=(i != 0):=e;subst d;exact PySem.P.truthy_int %[H,I|q]
 | str y=>
   have%[t|rfl]:=j;obtain⟨o,d⟩:y.length<=sizeLine/\k=((y.length:Int) != 0):=e;subst d;exact PySem.P.truthy_str ⋯ %[H,I.tok _|q]
 | byt y=>
   have%[t|rfl]:=j;obtain⟨o,d⟩:y.size<=sizeLine/\k=((y.size:Int) != 0):=e;subst d;exact PySem.W.truthy_bytes ⋯ %[H,I.tok _|q]
 | ref p=>
   cases j;have d:(∃xs,SqL X.K H p xs/\k=!xs.isEmpty)\/(∃xs,SqT X.K H p xs/\k=!xs.isEmpty)\/∃f,H p=some (.dK f)/\k=!f.isEmpty:=e;rcases d with⟨xs,l,d⟩|⟨xs,l,d⟩|⟨f,l,d⟩
   .subst d;have%[its,r,pl|n]:=I.list l;have g:=r.length;exact wpAny_truthy_list pl.isList (by simp only[Zp];lia) %[H,I.tok _|(oj r)▸q]
   .subst d;have%[its,r,pl|n]:=I.tuple l;have g:=r.length;exact truthy_tuple pl (by simp only[Zp];lia) %[H,I.tok _|(oj r)▸q]
   .subst d;obtain⟨n,u,vs,r,m⟩:f.length<=sizeLine/\(p==sysModules)=false/\∃vs,KV f vs/\s.heap.DictOf (aQ X.prog X.w) p vs:=I.hok p _ l;have g:f.length=vs.length:=Paired.length r;exact wpAny_truthy_dict u m ⋯ %[H,I.tok _|(wH r)▸q]
 | _=>exact(show False from e).elim
def Bs(g:PE X a ta)(i:∀d,isTrue a X.env d=(do let v<-d;standAt a.pos;holding [v] (truthy v))):
 PT X a (λe H Q=>ta e H λx f=>∃k,Br X.K x f k/\Q k f):=by
 intro pins s e H Q I h;exact isTrue_plain (thP (g pins s e H _ I h) λv j x l m n q1=>Gb pins j e l x v Q m n q1) (i _)
def wI:OpR X (binaryOp .Add) (λx y H Q=>∃i j,x= .str i/\y= .str j/\i.length+j.length<=sizeLine/\Q (.str (i++j)) H):=by
 intro pins s g H x y v u Q I d e h;have%[i,j,rfl,rfl,f|q]:=h;have%[t|rfl]:=d;have%[t'|rfl]:=e;exact add_str (λt' tk=>%[.str _,H,I.tok _,%[_|rfl]|q]) f
def du(r:aK [x] us):∃u,us=[u]/\aZ x u:=by
 cases r with
 | cons d e=>cases e;exact%[_,rfl|d]
def kz(r:aK [x,y] us):∃u d,us=[u,d]/\aZ x u/\aZ y d:=by
 cases r with
 | cons e f=>
   cases f with
   | cons g h=>cases h;exact%[_,_,rfl,e|g]
def Bt:ck X (.builtin "abs") (λxs H Q=>∃i,xs=[.int i]/\Q (.int (if i<0 then -i else i)) H):=by
 intro pins s d H xs us Q I r h;have%[i,rfl|q]:=h;have%[u,rfl,t|rfl]:=du r;exact call_abs_int λu tk=>%[.int _,H,I.tok _,%[_|rfl]|q]
def zx(e:X.calm=true):ck X (.builtin "max") (λxs H Q=>∃i j,xs=[.int i,.int j]/\Q (.int (if j>i then j else i)) H):=by
 intro pins s f H xs us Q I r h;have%[i,j,rfl|q]:=h;have%[u,g,rfl,%[t|rfl],t'|rfl]:=kz r;refine max_two_ints (I.ok.hd e) λh' tk k=>%[_,H,I.kept k,?_|q]
 by_cases d:j>i
 .rw[if_pos d,if_pos d];exact%[_|rfl]
 .rw[if_neg d,if_neg d];exact%[_|rfl]
def zy(e:X.calm=true):ck X (.builtin "min") (λxs H Q=>∃i j,xs=[.int i,.int j]/\Q (.int (if j<i then j else i)) H):=by
 intro pins s f H xs us Q I r h;have%[i,j,rfl|q]:=h;have%[u,g,rfl,%[t|rfl],t'|rfl]:=kz r;refine min_two_ints (I.ok.hd e) λh' tk k=>%[_,H,I.kept k,?_|q]
 by_cases d:j<i
 .rw[if_pos d,if_pos d];exact%[_|rfl]
 .rw[if_neg d,if_neg d];exact%[_|rfl]
def zA:ck X (.type "int") (λxs H Q=>(∃i,xs=[.int i]/\Q (.int i) H)\/∃k,xs=[.bl k]/\Q (.int (if k then 1 else 0)) H):=by
 intro pins s e H xs us Q I r h;rcases h with⟨i,rfl,q⟩|⟨k,rfl,q⟩
 .have%[u,rfl,t|rfl]:=du r;exact call_int_int %[.int i,H,I,%[_|rfl]|q]
 .have%[u,rfl|d]:=du r;cases d;exact call_int_bool %[.int _,H,I.tok _,%[_|rfl]|q]
abbrev DP(K:ZA)(x:V)(H:Hp)(n:Nat):Prop:=
 match x with
 | .str y=>y.length<=sizeLine/\n=y.length
 | .byt y=>y.size<=sizeLine/\n=y.size
 | .ref p=>(∃xs,SqL K H p xs/\n=xs.length)\/∃xs,SqT K H p xs/\n=xs.length
 | _=>False
def Bu:ck X (.builtin "len") (λxs H Q=>∃x n,xs=[x]/\DP X.K x H n/\Q (.int n) H):=by
 intro pins s o H xs us Q I r h;have%[x,n,rfl,e|q]:=h;have%[u,rfl|g]:=du r;have v:=sizeLine_eq;cases x with
 | str y=>
   have%[t|rfl]:=g;obtain⟨l,f⟩:y.length<=sizeLine/\n=y.length:=e;subst f;exact len_str ⋯ %[.int _,H,I.tok _,%[_|rfl]|q]
 | byt y=>
   have%[t|rfl]:=g;obtain⟨l,f⟩:y.size<=sizeLine/\n=y.size:=e;subst f;exact PySem.W.len_bytes ⋯ %[.int _,H,I.tok _,%[_|rfl]|q]
 | ref p=>
   cases g;have f:=e;rcases f with⟨xs,i,f⟩|⟨xs,i,f⟩
   .subst f;have%[its,j,pl|m]:=I.list i;have d:=j.length;exact Calls.call_len_list pl.isList (by simp only[Zp];lia) %[.int xs.length,H,I.tok _,%[_|by simp only[Zp];rw[d]]|q]
   .subst f;have%[its,j,pl|m]:=I.tuple i;have d:=j.length;exact len_tuple pl (by simp only[Zp];lia) %[.int xs.length,H,I.tok _,%[_|by simp only[Zp];rw[d]]|q]
 | _=>exact(e).elim
end
structure wJ (h:Heap) (x dx C:Addr) (mA:ZC):Prop where
 obj:h.get? x=some (instObj C dx)
 ns:h.Ns1 dx mA
 ne:dx≠x
def zB{h:Heap}{c:ZC}(n:h.Ns1 f c):∃d,h.get? f=some d/\∀name,lookIn name d=some (c name):=by
 have%[o,es,p,g,i,j,_|l]:=n;refine%[o,g|λname=>?_];have e:=l name;unfold nsFind findBy at e;rw[<-Array.find?_toList]at e;unfold lookIn;rw[i];dsimp only
 split
 .rename_i y q
  rw[q]at e;exact congrArg some e
 .rename_i q
  rw[q]at e;have a:es.toList.any (·.refKey)=false:=by
   rw[List.any_eq_false];intro y m;have%[z,t|b]:=j y (mem_toList_iff.mp m);simp[DictEntry.refKey,b]
  rw[if_neg (a▸Zu)];exact congrArg some e
def wJ.look(I:wJ h x b C c):∃a,PySem.W.InstAt h x (instObj C b) C (some a)/\∀name,lookIn name a=some (c name):=
 let⟨a,d,e⟩:=zB I.ns
 %[a,%[I.obj,rfl,rfl|d]|e]
section
#where
variable{K:ZA}{x dx C f:Addr}{mA:ZC}{name:Str}{v:Value}
def DQ(X:K.In s.heap)(I:wJ s.heap x dx C mA)(c:plainGet K C name=true)(d:hasDictIn K C=true)
 (e:findIn K (.ref C) name=some none) (g:mA name=some v) (a:handedIn v=true) (h:Q v {s with toks:=s.toks+1}):
 ↥A (getAttr (.ref x) name b) Q E s:=by
 have%[j,J|i]:=I.look;exact PySem.W.get_value X J (plainGet_of c).1 (PySem.W.findObj_own d e rfl (by rw[i,g])) a h
def Bv(X:K.In s.heap)(I:wJ s.heap x dx C mA)(a:plainGet K C name=true)
 (b:findIn K (.ref C) name=some (some (.ref f))) (c:isFn K (.ref f)=true) (d:mA name=none) (h:Q (.ref f,[.ref x]) s):
 ↥A (getMethod (.ref x) name pl) Q E s:=by
 have%[e,J|g]:=I.look;exact PySem.W.method_fn X J (plainGet_of a).1 (plainGet_of a).2 b (beq_iff_eq.mp c) (by show(lookIn name e).map _=some false;rw[g,d];rfl) h
def DR(X:K.In s.heap)(I:wJ s.heap x dx C mA)
 (j:findIn K (.ref C) "__setattr__"=some (some (.builtin "object.__setattr__"))) (l:plainOver K C=true) (m:takerIn K C name=some none) (n:hasDictIn K C=true)
 (hw:PySem.Within mA o) (p:o.length<=sizeLine)
 (h:∀h',wJ h' x dx C (λy=>if y=name then some v else mA y)->SameBut dx s.heap h'->Q () {s with heap:=h',toks:=s.toks+2}):
 ↥A (setAttr (.ref x) name v) Q E s:=by
 have%[u,J|z]:=I.look;refine PySem.W.set_plain X J j (PySem.W.osa_open X J l m λb=>?_);have%[B,q|d]:=PySem.W.any_some n;refine Z2 (Z3 (Z2 (Z2 (wpAny_loadPart I.obj (Z2 (Looks.here (PySem.W.looks_clsIn X q) ?_))))));rw[d];refine Z3 (Z2 (Z3 (Z2 (wpAny_nsSet1 I.ns λh' a c=>?_))));have%[G,r,t,e,g|i]:=a.count (PySem.Within.cons name v hw);exact Z2 (wpAny_lookBehind e (g▸pastItsLine_dict (Yh i (!2))) (Z3 (h _ %[(c.2 _ (Ne.symm I.ne)).trans I.obj,a|I.ne] c)))
def Bw{R:Result->Shared->Prop}(X:K.In s.heap)(b:makesIn K C=true)
 (hi:findIn K (.ref C) "__init__"=some (some (.ref f))) (c:PySem.W.typeIn K (.ref f)=some (.type "function"))
 (h:codeAny (model prog w) (A.under (.builtin "type.__call__" %[.ref C::vs|a])) (.call (.ref f) %[.ref (⇑s+1)::vs|a]) (PySem.W.InitBack (⇑s+1) R)
  {s with heap:=(s.heap.push emptyDict).push (instObj C ⇑s)}):
 codeAny (model prog w) A (.call (.ref C) %[vs|a]) R s:=by
 exact PySem.W.make_core (PySem.W.makes_of X b) (PySem.W.looks_findIn X hi) (λself=>PySem.W.bind_fn X self c) (.inl rfl) h
end
abbrev dO(f:Str)(v:V):List (Str×V)->List (Str×V)
 |[]=>[(f,v)]
 |(g,x)::r=>if g=f then(g,v)::r else(g,x)::dO f v r
def mP(f g:Str)(v:V):∀fs,(dO f v fs).lookup g=if g=f then some v else fs.lookup g
 |[]=>by
  show List.lookup g [(f,v)]=_;by_cases h:g=f
  .have a:=beq_iff_eq.mpr h;simp only[List.lookup,a,if_pos h]
  .have a:=beq_eq_false_iff_ne.mpr h;simp only[List.lookup,a,if_neg h]
 |(k,x)::r=>by
  rw[show dO f v _=(if k=f then(k,v)::r else(k,x)::dO f v r)from rfl];by_cases b:k=f
  .rw[if_pos b];by_cases h:g=k
   .have a:=beq_iff_eq.mpr h;simp only[List.lookup,a,if_pos (h.trans b)]
   .have a:=beq_eq_false_iff_ne.mpr h;simp only[List.lookup,a,if_neg (λe:g=f=>h (e.trans b.symm))]
  .rw[if_neg b];by_cases h:g=k
   .have a:=beq_iff_eq.mpr h;simp only[List.lookup,a,if_neg (λe=>b (h.symm.trans e))]
   .have a:=beq_eq_false_iff_ne.mpr h;simp only[List.lookup,a];exact(mP f g v r)
def lZ(f:Str)(v:V):∀fs:List (Str×V),f∈(dO f v fs).map (·.1)/\∀g,g∈fs.map (·.1)->g∈(dO f v fs).map (·.1)
 |[]=>%[by simp[dO]|λg h=>by simp at h]
 |(k,x)::r=>by
  have%[a|b]:=lZ f v r;rw[show dO f v _=(if k=f then(k,v)::r else(k,x)::dO f v r)from rfl]
  grind
def mQ(f:Str)(v:V):∀fs,(dO f v fs).length<=fs.length+1
 |[]=>by simp[dO]
 |(k,x)::r=>by
  have a:=mQ f v r;rw[show dO f v _=(if k=f then(k,v)::r else(k,x)::dO f v r)from rfl];by_cases b:k=f
  .simp_all
  simp_all
def f9.some_of(r:f9 (some v) o):∃u,o=some u/\aZ v u:=by
 cases o with
 | none=>exact(r).elim
 | some u=>exact%[u,rfl|r]
def f9.none_of(r:f9 none o):o=none:=by
 cases o with
 | none=>rfl
 | some u=>exact(r).elim
def zC(r:aZ v u):handedIn u=true:=by
 cases v with
 | non=>cases(r);rfl
 | bl b=>cases(r);rfl
 | int i=>have%[t|e]:=(r);cases e;rfl
 | str x=>have%[t|e]:=(r);cases e;rfl
 | byt b=>have%[t|e]:=(r);cases e;rfl
 | flt b=>have%[t|e]:=(r);cases e;rfl
 | ref a=>cases(r);rfl
 | ty n=>cases(r);rfl
section
variable{P:Program}{w:World}{H H':Hp}{h h':Heap}{a C dx:Addr}{fs fs':List (Str×V)}
def nS(c:HOk P w H h)(e:H a=some (.ins C dx fs)):∃b,wJ h a dx C b/\(∀f,f9 (fs.lookup f) (b f))/\PySem.Within b (fs.map (·.1))/\fs.length<=1000/\H dx=some (.own a):=by
 have%[d,z,ne,g,b,n,r|q]:=(c a _ e)
 exact%[b,%[g,n|ne],r,q,z|d]
end
structure Cls (K:ZA) (C:Addr):Prop where
 pg:plainGet K C Str.empty=true
 hd:hasDictIn K C=true
 po:plainOver K C=true
 sa:findIn K (.ref C) "__setattr__"=some (some (.builtin "object.__setattr__"))
def Cls.get{K:ZA}{C:Addr}(c:Cls K C)(f:Str):plainGet K C f=true:=c.pg
abbrev fX(K:ZA)(C:Addr)(f:Str):Prop:=findIn K (.ref C) f=some none
def fX.taker{K:ZA}{C:Addr}{f:Str}(n:fX K C f):takerIn K C f=some none:=by
 unfold takerIn;rw[n];rfl
structure DS (K:ZA) (C:Addr) (m:Str) (f:Addr):Prop where
 at_:findIn K (.ref C) m=some (some (.ref f))
 fn:isFn K (.ref f)=true
 kp:keepIn K (.ref f)=true
section
variable{X:Cx}{pins:ZE}{σ:St}{H:Hp}{s:Shared}
variable{a C dx:Addr}{fs:List (Str×V)}{f:Str}{v:V}{A:Around}{E:ZD}
def wK(I:Inv X pins σ H s)(e:H a=some (.ins C dx fs))(c:Cls X.K C)(n:fX X.K C f)(l:fs.lookup f=some v)
 (h:∀u s',Inv X pins σ H s'->aZ v u->Q u s'):wpAny (model X.prog X.w) A (getAttr (.ref a) f b) Q E s:=by
 have%[i,O,r,_,_|_]:=nS I.hok e;have%[u,g|d]:=f9.some_of (l▸r f);exact DQ I.kIn O (c.get f) c.hd n g (zC d) (h u _ (I.tok _) d)
def wL(I:Inv X pins σ H s)(e:H a=some (.ins C dx fs))(c:Cls X.K C)(k:DS X.K C m g)(l:fs.lookup m=none)
 (h:Q (.ref g,[.ref a]) s):wpAny (model X.prog X.w) A (getMethod (.ref a) m pl) Q E s:=by
 have%[b,O,r,_,_|_]:=nS I.hok e;exact Bv I.kIn O (c.get m) k.at_ k.fn (f9.none_of (l▸r m)) h
def wM(I:Inv X pins σ H s)(e:H a=some (.ins C dx fs))(c:Cls X.K C)(n:fX X.K C f)(G:fs.length<1000)(l:aZ y u)
 (h:∀s',Inv X pins σ (upd H a (.ins C dx (dO f y fs))) s'->Q () s'):wpAny (model X.prog X.w) A (setAttr (.ref a) f u) Q E s:=by
 have%[m,O,r,i,_|j]:=nS I.hok e;refine DR I.kIn O c.sa c.po n.taker c.hd i (by rw[Z6,sizeLine_eq];lia) λh' d p=>h _ (I.write (e▸True.intro) (.inr j) (λb q t z=>(p.2 b t).trans z) (let⟨o,_,_,w,_⟩:=d.ns;%[o|w]) %[(am O.ne)▸j,?_,O.ne,d.obj,_,d.ns,λg=>?_|λg B=>?_])
 .have:=mQ f y fs;lia
 .rw[mP];by_cases q:g=f
  .rw[if_pos q,if_pos q];exact l
  .rw[if_neg q,if_neg q];exact r g
 .by_cases q:g=f
  .exact q▸(lZ f y fs).1
  .refine(lZ f y fs).2 g (i g λz=>B ?_);show(if g=f then some u else m g)=none;rw[if_neg q];exact z
def Inv.made(I:Inv X pins σ H s):Inv X pins σ (upd (upd H ⇑s (.own (⇑s+1))) (⇑s+1) (.ins C ⇑s []))
 {s with heap:=(s.heap.push emptyDict).push (instObj C ⇑s)}:=by
 have c:(s.heap.push emptyDict).get? ⇑s=some emptyDict:=Zj s.heap rfl;have d:=by
  have:=Zj (s.heap.push emptyDict) (o:=instObj C ⇑s) rfl;rwa[Zq]at this
 refine(I.laid (o:= .own (⇑s+1)) (t':=s.toks) (λb u q=>Z7 _ q) (Zi _) %[_|c]).laid (λb u q=>Z7 _ q) (Nat.le_of_eq (Zq _ _)) ?_;have ne:⇑s≠⇑s+1:=Zt (Yp _);refine%[by rw[am ne,aa],Xf _,ne,d,λ_=>none,(Heap.Ns1.of_empty %[emptyDict,#[],_,c,rfl,(λe g=>absurd g ∅)|λ_=>rfl]).at λo q=>Z7 _ q,λ_=>True.intro|λy h=>absurd rfl h]
def DT(c:attributeBase e f env (eval e env)=eval e env)
 (h:↥A (eval e env) (λo b=>↥A (getAttr o f true) Q E b) E s):↥A (eval (.Attribute e f pos) env) Q E s:=
 Attribute_any_ h (by rw[arm_eval_Attribute,c])
end
abbrev Gc(K:ZA)(c:TE)(f:Str):TE:=λd H Q=>c d H λx b=>∃a C e fs v,x= .ref a/\b a=some (.ins C e fs)/\Cls K C/\fX K C f/\fs.lookup f=some v/\Q v b
abbrev Gd(K:ZA)(e g:TE)(f:Str):TS:=λD b H=>g b H λy h=>e b h λx c=>∃a C d fs,x= .ref a/\c a=some (.ins C d fs)/\Cls K C/\fX K C f/\fs.length<1000/\
 D.nx b (upd c a (.ins C d (dO f y fs)))
section
variable{X:Cx}{o e value:Expr}{f:Str}{pos pos' tpos:Pos}{ta tv:TE}
def Ge(b:PE X e ta)(d:attributeBase e f X.env (eval e X.env)=eval e X.env):PE X (.Attribute e f pos) (Gc X.K ta f):=by
 intro pins s g H Q I h;refine DT d (thP (b pins s g H _ I h) λu w x i j m ⟨a,C,y,fs,v,ex,p,c,n,l,q⟩=>?_);subst ex;obtain rfl:u=Value.ref a:=m;exact wK j p c n l λz A r t=>%[v,i,r,t|q]
def Gf(d:PE X o ta)(g:PE X value tv)(i:swapsWith value (some (.Attribute o f pos')) pos.line X.env=pure false):PS X (.Assign [.Attribute o f pos'] value pos) (Gd X.K ta tv f):=by
 intro pins s b H D I h;refine plainObj_wpAny_Assign_Attribute (thP (g pins s b H _ I h) λu j y m p r q=>thP (d pins j b m _ p q) λt E x G v w ⟨a,C,J,fs,ex,z,c,n,l,A⟩=>?_) i;subst ex;obtain rfl:t=Value.ref a:=w;exact wM v z c n l r λL B=>%[b,_,B|A]
end
section
variable{X:Cx}{pins:ZE}{σ:St}{H:Hp}{s:Shared}
variable{A:Around}{E:ZD}{Q:ZD}{c:Value}{b:Bool}
inductive jY (K:ZA) (H:Hp):V->Value->Prop where
 | non:jY K H .non (.type "NoneType")
 | bl (x:Bool):jY K H (.bl x) (.type "bool")
 | int (i:Int):jY K H (.int i) (.type "int")
 | str (x:Str):jY K H (.str x) (.type "str")
 | flt (x:UInt64):jY K H (.flt x) (.type "float")
 | lst {a:Addr} {xs:List V} (e:H a=some (.lst xs)):jY K H (.ref a) (.type "list")
 | frz {a:Addr} {o:Obj} {xs:List V} (e:H a=some (.frz o (.lst xs))):jY K H (.ref a) (.type "list")
 | tup {a:Addr} {xs:List V} (e:H a=some (.tup xs)):jY K H (.ref a) (.type "tuple")
 | dK {a:Addr} {kvs:List _} (e:H a=some (.dK kvs)):jY K H (.ref a) (.type "dict")
 | dT {a:Addr} {kvs:List _} (e:H a=some (.dT kvs)):jY K H (.ref a) (.type "dict")
 | ins {a C dx:Addr} {fs:List _} (e:H a=some (.ins C dx fs)) (cl:Cls K C) (ha:findIn K (.ref C) "__class__"=some (some (.builtin "object.__class__")))
  (hn:PySem.W.specialIn K (.builtin "object.__class__") "__get__"=some (some (.builtin "getset_descriptor.__get__"))) (htk:PySem.W.takesIn K (.builtin "object.__class__")=some true)
  (hm:PySem.W.mroIn K C (.type "object")=some true):jY K H (.ref a) (.ref C)
def zD(I:Inv X pins σ H s)(d:aZ x u)(ty:jY X.K H x t)(e:kitOne X.K t c=some b)(h:∀tk,Q (.bool b) {s with toks:=tk}):
 wpAny (model X.prog X.w) A (call (.builtin "isinstance") [u,c]) Q E s:=by
 cases ty with
 | non=>cases(d);exact kia_one PySem.W.kitx_none I.kIn True.intro e (λz=>nomatch z) h
 | bl y=>cases(d);exact kia_one PySem.W.kitx_bool I.kIn True.intro e (λz=>nomatch z) h
 | int i=>have%[t|q]:=(d);cases q;exact kia_one PySem.W.kitx_int I.kIn True.intro e (λz=>nomatch z) h
 | str y=>have%[t|q]:=(d);cases q;exact kia_one PySem.W.kitx_str I.kIn True.intro e (λz=>nomatch z) h
 | flt y=>have%[t|q]:=(d);cases q;exact kia_one PySem.W.kitx_float I.kIn True.intro e (λz=>nomatch z) h
 | @lst a xs f=>
   cases(d);have%[_,_,n,_|g]:=(I.hok a _ f)
   exact kia_one kitx_list I.kIn %[_,g|rfl] e (λz=>nomatch z) h
 | @frz a L xs f=>
   cases(d);have%[_,_,_,n,_|g]:=(I.hok a _ f)
   exact kia_one kitx_list I.kIn %[_,g|rfl] e (λz=>nomatch z) h
 | @tup a xs f=>
   cases(d);have%[_,_,_|p]:=(I.hok a _ f)
   have%[o,g,j|_]:=p;exact kia_one PySem.W.kitx_tuple I.kIn %[o,g|j] e (λz=>nomatch z) h
 | @dK a l f=>
   cases(show u=Value.ref a from d);have%[_,_,vs,_|p]:=(I.hok a _ f)
   have%[o,es,v,g,j|_]:=p;exact kia_one kitx_dict I.kIn %[o,g|j.1] e (λz=>nomatch z) h
 | @dT a l f=>
   cases(show u=Value.ref a from d);have%[_,_,xs,_,o,es,v,g,j|_]:=(I.hok a _ f)
   exact kia_one kitx_dict I.kIn %[o,g|j.1] e (λz=>nomatch z) h
 | @ins a C M fs f r w B m G=>
   cases(d);have%[N,O|_]:=nS I.hok f;have%[T,J|_]:=O.look;exact kia_one (PySem.W.kitx_own (r.get _) r.hd w B m G) I.kIn J e (λz=>nomatch z) h
end
structure cn (k:Nat) (A:Around):Prop where
 hd:A.handled=none
 dp:A.depth+3*k+5<recursionLimit
 un:A.units+16*k+200<cLine
 gd:A.guards=some []
def cn.mono(r:cn k A)(h:j<=k):cn j A:=%[r.hd,by have:=r.dp;lia,by have:=r.un;lia|r.gd]
def cn.deeper(r:cn (k+1) A)(env:Env):cn k (A.deeper env):=
 %[r.hd,by have:=r.dp;show A.depth+1+3*k+5<_;lia,by have:=r.un;show A.units+3+16*k+200<_;lia|r.gd]
def wN{A:Around}:(A.under (.builtin "type.__call__" %[.ref C::us|a])).depth=A.depth+1:=by
 first|rfl|lia
def wO{A:Around}:(A.under (.builtin "type.__call__" %[.ref C::us|a])).units=A.units+1:=by
 first|rfl|lia
def cn.make(r:cn (k+1) A)(C:Addr)(us:ZF)(a:List (Str×Value)):cn k (A.under (.builtin "type.__call__" %[.ref C::us|a])):=
 %[r.hd,by have:=r.dp;rw[wN];lia,by have:=r.un;rw[wO];lia|r.gd]
def cn.depth(r:cn k A):A.depth<recursionLimit:=by have:=r.dp;lia
def cn.units(r:cn k A):A.units+64<cLine:=by have:=r.un;lia
abbrev zE:TA:=λ_ H Q=>Q [] H
abbrev Bx(b:TE)(c:TA):TA:=λa H Q=>b a H λx d=>c a d λxs e=>Q (x::xs) e
section
variable{X:Cx}{e:Expr}{es:List Expr}{te:TE}{t:TA}{pos:Pos}
def Gg:PA X [] zE:=λ_ _ _ _ H Q I h=>Calls.spliced_nil %[[],H,I,.nil|h]
def DU(b:PE X e te)(c:PA X es t)(d:starEach (e::es) X.env=(false,eval e X.env)::starEach es X.env):PA X (e::es) (Bx te t):=by
 intro pos pins s a H Q I h;rw[d];show wpAny _ _ (spliced ((false,eval e X.env)::backTo pos _)) _ _ s;exact Calls.spliced_cons (thP (b pins s a H _ I h) λu f x g i j q1=>thP (c pos pins f a g _ i q1) λus p xs l m n o=>%[x::xs,l,m,.cons j n|o])
abbrev Gh(t:TA):TE:=λb H Q=>t b H λxs a=>xs.length<=sizeLine/\∀p,a p=none->Q (.ref p) (upd a p (.tup xs))
abbrev Gi(t:TA):TE:=λb H Q=>t b H λxs a=>xs.length<=sizeLine/\∀p,a p=none->Q (.ref p) (upd a p (.lst xs))
def Gj{d}(h:PA X es t):PE X (.Tuple es d pos) (Gh t):=by
 intro pins s f H Q I g;refine wpAny_Tuple_spliced (thP (h pos pins s f H _ I g) λus a xs i c r ⟨z,q⟩=>%[r.length▸z|?_]);have j:=c.hok.fresh (Zi _);refine%[.ref ⇑a,upd i ⇑a _,c.laid (λb u e=>Z7 _ e) (Zi _) ?_,rfl|q _ j];exact%[z,us,r,_,Zj _ rfl,rfl,_|rfl]
def Gk(h:PA X es t):PE X (.List es pos) (Gi t):=by
 intro pins s d H Q I f;refine wpAny_List_spliced (thP (h pos pins s d H _ I f) λus a xs g c r ⟨z,q⟩=>%[r.length▸z|?_]);have i:=c.hok.fresh (Zi _);refine%[.ref ⇑a,upd g ⇑a _,c.laid (λb u e=>Z7 _ e) (Zi _) ?_,rfl|q _ i];exact%[z,us,0,r|Zj _ rfl]
end
noncomputable abbrev Sp:=List V->Hp->VK->XK->Prop
noncomputable abbrev CXT:=List Env->Hp->Shared->XK->Value->Shared->Prop
structure wP (P:Program) (w:World) (K:ZA) (mg:ZC) (base:Heap) (A:Around) (outer:List Env) (s:Shared) (H:Hp):Prop where
 frames:A.frames=some outer
 mod:Mod K mg base
 bs:∀b o,base.get? b=some o->s.heap.get? b=some o/\H b=none
 bsz:base.objs.size<=⇑s
 funs:s.heap.FunFrames base outer
 frf:∀b∈frs outer,H b=none
 hok:HOk P w H s.heap
 bare:AllBare s.gens
abbrev CE(outer:List Env)(P:Program)(w:World)(H:Hp)(s:Shared)(Q:VK)(u:Value)(s':Shared):Prop:=
 ∃v a,s'.os=s.os/\AllBare s'.gens/\Un (frs outer) [] H a s.heap s'.heap/\HOk P w a s'.heap/\aZ v u/\Q v a
abbrev CR(CX:CXT)(outer:List Env)(P:Program)(w:World)(H:Hp)(s:Shared)(Q:VK)(E:XK)(r:Result)(s':Shared):Prop:=
 match r with
 | .ok (.ret u)=>CE outer P w H s Q u s'
 | .ok _=>False
 | .error e=>CX outer H s E e s'
structure eL (P:Program) (w:World) (K:ZA) (mg:ZC) (base:Heap) (CX:CXT) (k:Nat) (f:Addr) (fd:FuncData) (ps:ZB) (sp:Sp):Prop where
 len:∀vs H Q E,sp vs H Q E->vs.length=ps.length
 run:∀A outer s H args us vs Q E,cn k A->wP P w K mg base A outer s H->BindsTo s fd args (ps.zip us)->aK vs us->sp vs H Q E->
  codeAny (model P w) A (.call (.ref f) args) (CR CX outer P w H s Q E) s
def eL.imp{P:Program}{K:ZA}(F:eL P w K mg base CX k f b ps sp)
 (h:∀vs H Q E,a vs H Q E->sp vs H Q E):eL P w K mg base CX k f b ps a:=
 %[λvs H Q E q=>F.len vs H Q E (h _ _ _ _ q)|λA outer s H args us vs Q E c d e g i=>F.run A outer s H args us vs Q E c d e g (h _ _ _ _ i)]
def wP.make{P:Program}{K:ZA}(e:wP P w K mg base A outer s H)(C:Addr)(us:ZF)(a:List (Str×Value)):
 wP P w K mg base (A.under (.builtin "type.__call__" %[.ref C::us|a])) outer s H:=⟨by first|exact e.frames|lia,e.mod,e.bs,e.bsz,e.funs,e.frf,e.hok,e.bare⟩
section
variable{X:Cx}{pins:ZE}{σ:St}{H:Hp}{s s':Shared}
def Inv.env0(I:Inv X pins σ H s):wP X.prog X.w X.K X.mg X.base X.A X.stack s H:=
 %[I.ok.frames,I.ok.mod,I.bs,Yh I.ok.bsz I.sz,I.stack,I.stkFree,I.hok|I.bare]
def Inv.after(I:Inv X pins σ H s)(h:CE X.stack X.prog X.w H s Q u s'):EP X pins σ Q u s':=by
 have%[v,f,os,a,un,c,r|q]:=h;have%[i,g,d,t|e]:=s';obtain rfl:e=s.os:=os;exact%[v,f,I.call un c a (λb z=>absurd z ∅),r|q]
end
abbrev uM(sp:Sp)(dvs:List V)(E:XK)(t:TA):TE:=λa H Q=>t a H λvs b=>sp (vs++dvs) b Q E
abbrev x6(C:Addr)(m:Str)(sp:Sp)(dvs:List V)(E:XK)(d:TE)(t:TA):TE:=λb H Q=>d b H λx c=>∃a e fs,x= .ref a/\c a=some (.ins C e fs)/\fs.lookup m=none/\
 t b c λvs f=>sp (x::(vs++dvs)) f Q E
abbrev x8(C:Addr)(sp:Sp)(dvs:List V)(E:XK)(t:TA):TE:=λc H Q=>t c H λvs b=>∀x a,b x=none->b a=none->a≠x->
 sp (.ref x::(vs++dvs)) (upd (upd b a (.own x)) x (.ins C a [])) (λv d=>v= .non/\Q (.ref x) d) E
abbrev fN(K:ZA)(a:FuncData)(ps:ZB)(ds:ZF):Prop:=
 ∀s us,K.In s.heap->(us++ds).length=ps.length->BindsTo s a %[us|[]] (ps.zip (us++ds))
def fN.all{K:ZA}(h:∀us:ZF,us.length=ps.length->bindArgs b %[us|[]]=pure (ps.zip us)):fN K b ps []:=λs us _ a=>by
 rw[Zz]at a ⊢;exact .of_eq (h us a)
abbrev jZ(CX:CXT)(X:Cx)(E:XK):Prop:=∀pins (a:St) H s e s',Inv X pins a H s->CX X.stack H s E e s'->X.xe e s'
section
variable{X:Cx}{CX:CXT}{k:Nat}{f C:Addr}{fd:FuncData}{ps:ZB}{sp:Sp}{dvs:List V}{ds:ZF}{E:XK}{x m:Str}{p pos apos:Pos}{e o:Expr}{es:List Expr}{ta:TE}{t:TA}
def By(F:eL X.prog X.w X.K X.mg X.base CX k f fd ps sp)(d:cn k X.A)(g:fN X.K fd ps ds)(i:aK dvs ds)(j:jZ CX X E)
 (I:Inv X pins b H s) (r:aK vs us) (h:sp (vs++dvs) H Q E):wpAny (model X.prog X.w) X.A (call (.ref f) us) (EP X pins b Q) X.xe s:=by
 have c:=r.append i;refine wpAny_call (codeAny_mono (F.run X.A X.stack s H _ _ _ Q E d I.env0 (g s us I.kIn (c.length▸F.len _ _ _ _ h)) c h) λr s' a=>?_);cases r with
 | error e=>exact j pins b H s e s' I a
 | ok l=>
   cases l with
   | ret u=>exact I.after a
   | next=>exact False.elim a
   | brk=>exact False.elim a
   | cont=>exact False.elim a
def DV(F:eL X.prog X.w X.K X.mg X.base CX k f fd ps sp)(d:cn k X.A)(g:Gl X x)(i:X.mg x=some (.ref f))(j:keepIn X.K (.ref f)=true)(l:fN X.K fd ps ds)(n:aK dvs ds)(u:jZ CX X E)
 (v:PA X (e::es) t) (a:(x==("__debug__":Str))=false) (w:starEach (e::es) X.env=(false,eval e X.env)::starEach es X.env) (b:(backTo pos (starEach es X.env)).any (·.1)=false):
 PE X (.Call (.Name x p) (e::es) [] pos) (uM sp dvs E t):=by
 intro pins s y H Q I h;exact wpAny_Call_Name_kw (tf I g i (callWith_K I.ok.mod.kin j (thP (v pos pins s y H _ I h) λus z vs A c r q=>%[c.kIn|By F d l n u c r q]) w b) a)
def Bz(i:PE X o ta)(c:Cls X.K C)(d:DS X.K C m f)(F:eL X.prog X.w X.K X.mg X.base CX k f fd ps sp)(j:cn k X.A)(n:fN X.K fd ps ds)(r:aK dvs ds)(v:jZ CX X E)
 (w:eval (.Call (.Attribute o m apos) [] [] pos) X.env=(do
  let g<-eval o X.env
  standAt apos.atName
  let(f,first)<-holding [g] (getMethod g m pl)
  callWith pos f first (backTo pos (starEach [] X.env)) (backToKw pos (keywordEach [] X.env)))):
 PE X (.Call (.Attribute o m apos) [] [] pos) (x6 C m sp dvs E ta zE):=by
 intro pins s y H Q I h;refine PySem.W.methodCall_KW (thP (i pins s y H _ I h) λu B x G b z ⟨a,J,fs,ex,A,l,q⟩=>?_) w;subst ex;obtain rfl:u=Value.ref a:=z;exact wL b A c d l (PySem.W.callWith_K0 b.kIn d.kp (By (us:=[.ref a]) (vs:=[.ref a]) F j n r v b (.cons rfl .nil) q))
structure Mk (K:ZA) (C f:Addr):Prop where
 makes:makesIn K C=true
 init:findIn K (.ref C) "__init__"=some (some (.ref f))
 fn:isFn K (.ref f)=true
 kp:keepIn K (.ref C)=true
def BA(M:Mk X.K C f)(F:eL X.prog X.w X.K X.mg X.base CX k f fd ps sp)(j:cn (k+1) X.A)(l:fN X.K fd ps ds)(n:aK dvs ds)
 (q:jZ CX X E) (I:Inv X pins d H s) (r:aK vs us)
 (h:∀x b,H x=none->H b=none->b≠x->sp (.ref x::(vs++dvs)) (upd (upd H b (.own x)) x (.ins C b [])) (λv w=>v= .non/\Q (.ref x) w) E):
 (wpAny (model X.prog X.w) X.A) (call (.ref C) us) (EP X pins d Q) X.xe s:=by
 have g:=h (⇑s+1) ⇑s (I.hok.fresh (Yg _)) (I.hok.fresh (Zi _)) (Zt (Yp _));have c:=Inv.made (C:=C) I;have i:aK (V.ref (⇑s+1)::(vs++dvs)) _:= .cons rfl (r.append n);have y:=by
  have e:=i.length;rw[F.len _ _ _ _ g]at e;exact e.symm
 refine wpAny_call (Bw I.kIn M.makes M.init (beq_iff_eq.mp M.fn) (codeAny_mono (F.run _ X.stack _ _ _ _ _ _ E (j.make C us [])
  (c.env0.make C us []) (l _ _ c.kIn y) i g) λr s' a=>?_))
 cases r with
 | error e=>exact q pins d _ _ e s' c a
 | ok z=>
   cases z with
   | ret u=>
     have%[v,A,B,G,J|L]:=c.after a;subst J;exact%[G,V.ref _,A,B,rfl|L]
   | next=>exact False.elim a
   | brk=>exact False.elim a
   | cont=>exact False.elim a
def DW(M:Mk X.K C f)(F:eL X.prog X.w X.K X.mg X.base CX k f fd ps sp)(d:cn (k+1) X.A)(g:Gl X x)(i:X.mg x=some (.ref C))(j:fN X.K fd ps ds)(l:aK dvs ds)(n:jZ CX X E)
 (u:PA X (e::es) t) (a:(x==("__debug__":Str))=false) (v:starEach (e::es) X.env=(false,eval e X.env)::starEach es X.env) (b:(backTo pos (starEach es X.env)).any (·.1)=false):
 PE X (.Call (.Name x p) (e::es) [] pos) (x8 C sp dvs E t):=by
 intro pins s w H Q I h;exact wpAny_Call_Name_kw (tf I g i (callWith_K I.ok.mod.kin M.kp (thP (u pos pins s w H _ I h) λus y vs z c r q=>%[c.kIn|BA M F d j l n c r q]) v b) a)
end
section
variable{X:Cx}{CX:CXT}{k:Nat}{f C:Addr}{fd:FuncData}{ps ks:ZB}{sp:Sp}{E:XK}{x m:Str}{p pos apos kpos:Pos}{e o:Expr}{es:List Expr}{kws:List Keyword}{te ta:TE}{t tk:TA}{nm:Option Str}
variable{g:ZF->ZF->ZF}{gV:List V->List V->List V}
end
structure ax (N P:ZB) (sc:Scope):Prop where
 kind:sc.kind= .function
 co:sc.isCoroutine=false
 gen:sc.isGenerator=false
 nd:N.Nodup
 pre:N.take P.length=P
 par:∀x∈P,sc.names.lookup x=some .local\/sc.names.lookup x=some .cell
 nofree:∀y∈sc.names,y.2≠ .free
def q0{kindOf:Str->Option NameKind}:∀{binds:List (Str×Value)} {m:ZC},(∀v,(x,v)∉binds)->bindL kindOf binds m x=m x
 |[],_,_=>rfl
 |(n,v)::r,m,h=>by
  unfold bindL;rw[q0 λw hw=>h w (Zk _ hw)]
  split
  .have:x≠n:=by rintro rfl;exact h v Zm
   simp[this]
  .rfl
def rg{kindOf:Str->Option NameKind}:∀{binds:List (Str×Value)} {m:ZC},(∀v,(x,v)∉binds)->bindC kindOf binds m x=m x
 |[],_,_=>rfl
 |(n,v)::r,m,h=>by
  unfold bindC;rw[rg λw hw=>h w (Zk _ hw)]
  split
  .rfl
  .have:x≠n:=by rintro rfl;exact h v Zm
   simp[this]
def rh{kindOf:Str->Option NameKind}{x:Str}:∀{P:ZB} {vs:ZF} {i:Nat} {m:ZC},P.Nodup->P[i]? =some x->vs[i]? =some v->kindOf x=some .local->
 bindL kindOf (P.zip vs) m x=some v
 |[],_,_,_,_,h,_,_=>by simp at h
 | _::_,[],_,_,_,_,h,_=>by simp at h
 | p::P,w::vs,0,m,nd,a,b,c=>by
   simp at a b;subst a;subst b;show bindL kindOf ((p,w)::P.zip vs) m p=_;unfold bindL;rw[q0 λv d=>(nodup_cons.mp nd).1 (of_mem_zip d).1,if_pos c];simp
 | p::P,w::vs,i+1,m,nd,a,b,c=>by
   show bindL kindOf ((p,w)::P.zip vs) m x=_;exact rh (nodup_cons.mp nd).2 (a) (b) c
def rj{kindOf:Str->Option NameKind}{x:Str}:∀{P:ZB} {vs:ZF} {i:Nat} {m:ZC},P.Nodup->P[i]? =some x->vs[i]? =some v->kindOf x≠some .local->
 bindC kindOf (P.zip vs) m x=some v
 |[],_,_,_,_,h,_,_=>by simp at h
 | _::_,[],_,_,_,_,h,_=>by simp at h
 | p::P,w::vs,0,m,nd,a,b,c=>by
   simp at a b;subst a;subst b;show bindC kindOf ((p,w)::P.zip vs) m p=_;unfold bindC;rw[rg λv d=>(nodup_cons.mp nd).1 (of_mem_zip d).1,if_neg c];simp
 | p::P,w::vs,i+1,m,nd,a,b,c=>by
   show bindC kindOf ((p,w)::P.zip vs) m x=_;exact rj (nodup_cons.mp nd).2 (a) (b) c
abbrev start(N:ZB)(vs:List V):St:=vs.map some++List.replicate (N.length-vs.length) none
abbrev tz(CX:CXT)(P:Program)(w:World)(K:ZA)(mg:ZC)(base:Heap)(N:ZB)(qual:Str)(scope:Scope)(f:Addr)(cd:Value)(A:Around)(outer:List Env)(s:Shared)(H:Hp)(E:XK):Cx where
 prog:=P
 w:=w
 K:=K
 mg:=mg
 base:=base
 A:=A.deeper (envOfC qual scope ⇑s f cd)
 N:=N
 s₀:=s
 H₀:=H
 env:=envOfC qual scope ⇑s f cd
 outer:=outer
 stack:=envOfC qual scope ⇑s f cd::outer
 ex:=[]
 calm:=true
 fn:=λ_=>true
 pn:=[]
 xe:=λe s'=>wpAny (model P w) (A.deeper (envOfC qual scope ⇑s f cd)) (leaving (envOfC qual scope ⇑s f cd) e) (λ_ s''=>CX outer H s E e s'') (λe' s''=>CX outer H s E e' s'') s'
def uN{a:Scope}{n:Nat}{x:Str}(h:a.names.lookup x=some .cell):∃c,(cellsFrom n a.names []).lookup x=some c:=by
 exact isSome_iff_exists.mp (cellsFrom_some a.names n [] (.inl h))
def zF{P:Program}{K:ZA}
 (S:ax N ps a) (I:A.handled=none) (g:wP P w K mg base A outer s H) (Q:vs.length=ps.length) (r:aK vs us)
 (x:InCallC s ⇑s (bindL (envOfC d a ⇑s f B).kindOf (ps.zip us) λ_=>none) (cellsFrom (⇑s+1) a.names []) (bindC (envOfC d a ⇑s f B).kindOf (ps.zip us) λ_=>none) J):
 Inv (tz CX P w K mg base N d a f B A outer s H E) [] (start N vs) H J:=by
 have L:ps.length<=N.length:=by have:=congrArg List.length S.pre;rw[Ym]at this;lia
 have%[t,tk,rfl|C]:=x.done;have l:∀b,b∉(tz CX P w K mg base N d a f B A outer s H E).ex:=λb z=>absurd (show b∈([])from z) ∅
 refine%[%[g.mod,S.kind,rfl,rfl,Zi _,λy z c t j=>?_,λy m=>?_,λy c _ h=>?_,λ_=>I,Around.frames_deeper g.frames,.inr %[rfl|rfl],λb z=>absurd z (l b),g.bs,g.bsz,λb _ _=>l b,λb z=>absurd z (l b),g.funs|g.frf],
  rfl,g.bare,Un.kept C,%[_,x.toInCall.ns|λi y v t j T=>?_],λy c h=>%[_|x.cell y c h],g.hok.fresh (Zi _),λy c h=>?_,λp n=>absurd (show p∈([])from n) ∅,g.hok.kept C|?_]
 .exact name_of_addr x.apart (PySem.mem_of_lookup t) (PySem.mem_of_lookup j)
 .rcases m with m|m
  .exact uN m
  .exact absurd rfl (S.nofree _ (PySem.mem_of_lookup m))
 .exact Yf (x.above y c (PySem.mem_of_lookup h))
 .have hi:i<vs.length:=by
   unfold start at j;by_cases hi:i<vs.length
   .exact hi
   .rw[Ya ↑hi]at j;rw[List.getElem?_replicate]at j
    split at j<;> cases j
  have M:vs[i]? =some v:=by
   unfold start at j;rw[Y9 ↑hi,Zl]at j
   simp_all
  have%[u,G|O]:=r.get M;have n:ps[i]? =some y:=by
   rw[<-S.pre,Yd ⋯];exact t
  have o:ps.Nodup:=S.pre▸S.nd.sublist (List.take_sublist _ _);refine%[u,O|?_];rcases S.par y (Z8 n)with k|k
  .exact .inl %[k|rh o n G k]
  .have%[c|e]:=uN k;refine .inr %[.inl k,c,e|?_];have q:=x.cell y c e;rw[rj o n G (by show a.names.lookup y≠_;rw[k];decide)]at q;exact q
 .exact g.hok.fresh (Yf (x.above y c (PySem.mem_of_lookup h)))
 .unfold start;show _=N.length;rw[Z9,Z6,List.length_replicate]
  lia
def Ij{P:Program}{K:ZA}{T kV z U d ct oc:Value}
 (lk:K.lookup f=some %[oc,od,.func (fnOf name c g i a T kV z U an d ct)|ab]) (G:codeIn K d c=true) (S:ax N ps a)
 (len:∀vs H Q E,sp vs H Q E->vs.length=ps.length)
 (l:∀(A:Around) (outer:List Env) (s:Shared) (H:Hp) (vs:List V) (Q:VK) (E:XK),cn k (A.deeper (envOfC c a ⇑s f d))->sp vs H Q E->
  ∃t,PSs (tz CX P w K mg base N c a f d A outer s H E) i t/\t {nx:=λ_ j=>Q .non j,rt:=Q} (start N vs) H):
 eL P w K mg base CX (k+1) f (fnOf name c g i a T kV z U an d ct) ps sp:=by
 refine%[len|λA outer s H args us vs Q E L B hb r C=>?_];have Y:=B.mod.kin.keeps λb o e=>(B.bs b o e).1
 have M:=B.mod.nolimit.keeps λb o e=>(B.bs b o e).1
 have m:∀y∈ps.zip us,a.names.lookup y.1=some _\/(a.names.lookup y.1=some _/\((cellsFrom (⇑s+1) a.names []).lookup y.1).isSome=true):=λ⟨n,v⟩ hy=>by
  rcases S.par n (of_mem_zip hy).1 with q|q
  .exact .inl q
  .exact .inr %[q|cellsFrom_some _ _ _ (.inl q)]
 refine codeAny_call_function L.depth (Y _ _ lk) rfl S.co S.gen rfl (PySem.W.codeRec_of Y G) (hb _ _ _ _ (wpAny_newFunctionEnv_cells S.kind m λenv he s1 x=>?_));subst he;refine%[M.keeps x.toInCall.keep|codeAny_func ?_];have%[t,ht|hq]:=l A outer s H vs Q E (L.deeper _) C;have I:Inv (tz CX P w K mg base N c a f d A outer s H E) [] _ H s1:=zF S L.hd B (len _ _ _ _ C) r x;refine wpAny_mono (ht [] s1 _ H _ I hq) (λfl s' p=>?_) λe s' p=>p
 have fin:∀{h:St} {j:Hp} {v:V} {u:Value},Inv (tz CX P w K mg base N c a f d A outer s H E) [] h j s'->aZ v u->Q v j->CE outer P w H s Q u s':=
  λ{h j v u} J O q=>%[v,j,J.os,J.bare,J.base,J.hok,O|q]
 cases fl with
 | ret u=>
   have%[v,h,j,J,O|q]:=p;exact fin J O q
 | next=>
   have%[h,j,J|q]:=p;exact fin (v:=V.non) J rfl q
 | brk=>
   have%[_,_,_|q]:=p
   simp_all
 | cont=>
   have%[_,_,_|q]:=p;exact False.elim q
section
variable{X:Cx}{x:Str}{p pos:Pos}{e:Expr}{es:List Expr}{t:TA}{id T:String}{r:List V->Hp->VK->Prop}
abbrev tCB(r:List V->Hp->VK->Prop)(t:TA):TE:=λa H Q=>t a H λvs b=>r vs b Q
def BB(d:ck X (.builtin id) r)(f:Gl X x)(g:X.mg x=none)(i:bootBuiltins x=some (.builtin id))(j:PA X (e::es) t)(l:x≠"__name__")(a:(x==("__debug__":Str))=false)
 (m:starEach (e::es) X.env=(false,eval e X.env)::starEach es X.env) (b:(backTo pos (starEach es X.env)).any (·.1)=false):PE X (.Call (.Name x p) (e::es) [] pos) (tCB r t):=by
 intro pins s c H Q I h;exact wpAny_Call_Name_kw (jW I f g i (PyProof.Rows.callWith_builtin1 (thP (j pos pins s c H _ I h) λus n vs o q u q1=>d pins n c o vs us Q q u q1) m b) l a)
def zG(d:ck X (.type T) r)(f:Gl X x)(g:X.mg x=none)(i:bootBuiltins x=some (.type T))(j:PA X (e::es) t)(l:x≠"__name__")(a:(x==("__debug__":Str))=false)
 (m:starEach (e::es) X.env=(false,eval e X.env)::starEach es X.env) (b:(backTo pos (starEach es X.env)).any (·.1)=false):PE X (.Call (.Name x p) (e::es) [] pos) (tCB r t):=by
 intro pins s c H Q I h;exact wpAny_Call_Name_kw (jW I f g i (PyProof.Rows.callWith_type1 (thP (j pos pins s c H _ I h) λus n vs o q u q1=>d pins n c o vs us Q q u q1) m b) l a)
end
end L2
namespace HT
open PySem PyProof.Rows
section
open PySem.SeqAt
open PySem.AutoSeq1 (wpAny_loadPart')
open PySem.MeetsSeq PySem.MeetsSeq2 PySem.MeetsSeq3
end
section
#where
abbrev sIx(n d:Nat):Option Int->Nat
 | none=>d
 | some v=>if v<0 then(v+n).toNat else min v.toNat n
def sIx_none(n d:Nat):sIx n d none=d:=rfl
def sIx_nat(n d k:Nat):sIx n d (some k)=min k n:=by
 show(if k<0 then((k:Int) +n).toNat else min _ n)=min k n;rw[if_neg ⋯,Int.toNat_natCast]
end
end HT
namespace L2
open PySem PySem.Spec PyProof.Rows
noncomputable abbrev TO:=St->Hp->(Option Int->Hp->Prop)->Prop
abbrev PO(X:Cx)(e:Option Expr)(t:TO):Prop:=
 ∀pins s (a:St) H Q,Inv X pins a H s->t a H Q->
  (wpAny (model X.prog X.w) X.A) (evalPart e X.env) (λu s'=>∃o b,Inv X pins a b s'/\IsPart u o/\Q o b) X.xe s
abbrev tD:TO:=λ_ H Q=>Q none H
abbrev BC(t:TE):TO:=λa H Q=>t a H λx b=>asI x λi=>Q (some i) b
section
variable{X:Cx}{e:Expr}{te:TE}{lo hi:Option Expr}{tl th:TO}{pos p2:Pos}
def DZ:PO X none tD:=by
 intro pins s a H Q I h;exact Z3 %[none,H,I,.none|h]
def D0(h:PE X e te):PO X (some e) (BC te):=by
 intro pins s a H Q I hw;refine thP (h pins s a H _ I hw) λu f x b c d q1=>?_
 have%[i,rfl|q]:=iQ q1;have%[t|rfl]:=d;exact%[some i,b,c,.int i t|q]
abbrev SlR(X:Cx)(r:V->Option Int->Option Int->Hp->VK->Prop):Prop:=
 ∀pins s (a:St) H x v b c lo hi d Q,Inv X pins a H s->aZ x v->s.heap.IsSliceOf d b c .none->IsPart b lo->IsPart c hi->r x lo hi H Q->
  ∃T id,typeLookup (.type T) "__getitem__"=pure (some (.builtin id))/\s.TypeIs v T/\(wpAny (model X.prog X.w) X.A) (getItem v (.ref d)) (EP X pins a Q) X.xe s
abbrev tSl(r:V->Option Int->Option Int->Hp->VK->Prop)(te:TE)(tl th:TO):TE:=λa H Q=>te a H λx b=>tl a b λl c=>th a c λu d=>r x l u d Q
def uO(c:SlR X r)(d:PE X e te)(f:PO X lo tl)(g:PO X hi th):PE X (.Subscript e (.Slice lo hi none p2) pos) (tSl r te tl th):=by
 intro pins s a H Q I h;refine Subscript_ (thP (d pins s a H _ I h) λv i x j m n q1=>wpAny_Slice (thP (f pins i a j _ m q1) λo p l t w pl y=>thP (g pins p a t _ w y) λz A u B C E G=>Z3 ?_));have%[T,id,J,L|M]:=c pins _ a B x v o z l u ⇑A Q (C.kept λb N q=>Z7 _ q) n (Heap.IsSliceOf.new ..) pl E G;exact tail_any L J M (by with_unfolding_all rfl)
abbrev tE(xs:List V)(lo hi:Option Int):List V:=(xs.drop (HT.sIx xs.length 0 lo)).take (HT.sIx xs.length xs.length hi-HT.sIx xs.length 0 lo)
def uP(xs:List V)(lo hi:Option Int):(tE xs lo hi).length<=xs.length:=by
 unfold tE;rw[Ym,Yi]
 lia
end
abbrev ixN(n:Nat)(i:Int):Option Nat:=if 0<=i then(if i<n then some i.toNat else none)else if -n<=i then some (i+n).toNat else none
abbrev atI{a:Type}(xs:List a)(i:Int):Option a:=(ixN xs.length i).bind λj=>xs[j]?
def Ea(h:ixN n i=some j):seqIndex? i n=some j/\j<n/\ -(n:Int)<=i/\i<n:=by
 unfold ixN at h;by_cases b:0<=i
 .rw[if_pos b]at h;by_cases a:i<n
  .rw[if_pos a]at h;exact%[by rw[seqIndex_of b a,(Za h)],⋯,⋯|a]
  simp_all
 .rw[if_neg b]at h;by_cases a: -n<=i
  .rw[if_pos a]at h;exact%[by rw[seqIndex_neg ⋯ a,(Za h)],⋯,a|⋯]
  .rw[if_neg a]at h;cases h
def tF{a:Type}{xs:List a}{i:Int}{v:a}(h:atI xs i=some v):∃j,seqIndex? i xs.length=some j/\xs[j]? =some v/\j<xs.length/\ -xs.length<=i/\i<xs.length:=by
 unfold atI at h;cases e:ixN xs.length i with
 | none=>simp_all
 | some j=>
   rw[e]at h;have%[b,c,d|f]:=Ea e;exact%[j,b,h,c,d|f]
def cO{a:Type}{xs:List a}{j:Nat}{v:a}(h:xs[j]? =some v):atI xs j=some v:=by
 have b:=(Xn h).1;have e:ixN xs.length j=some j:=by
  unfold ixN
  simp_all
 unfold atI;exact e▸h
def kA(xs:List a)(v:a):atI (xs++[v]) (-1)=some v:=by
 have b:(xs++[v]).length=xs.length+1:=by simp
 have e:ixN (xs++[v]).length (-1)=some xs.length:=by
  unfold ixN;rw[b,if_neg (!1),if_pos ⋯]
  congr 1
  lia
 unfold atI
 simp_all
abbrev kC(b:Expr):Prop:=∀o i,subscripted b false o i=operate [o,i] (getItem o i)
abbrev IxR(X:Cx)(r:R2):Prop:=
 ∀b a pins s (c:St) H x y v u Q,Inv X pins c H s->aZ x v->aZ y u->r x y H Q->
  subscripted a false v u=operate [v,u] (getItem v u)->wpAny (model X.prog X.w) X.A (subscriptTail b a v u) (EP X pins c Q) X.xe s
abbrev MtR(X:Cx)(id:String)(r:V->List V->Hp->VK->Prop):Prop:=
 ∀pins s (a:St) H x xs v us Q,Inv X pins a H s->aZ x v->aK xs us->r x xs H Q->
  (wpAny (model X.prog X.w) X.A) (call (.builtin id) (v::us)) (EP X pins a Q) X.xe s
section
variable{X:Cx}{a b:Expr}{ta tb:TE}{pos:Pos}
def IxR.or(h:IxR X r)(h':IxR X j):IxR X (λx y H Q=>r x y H Q\/j x y H Q):=by
 intro c d pins s e H x y v u Q I f g q i;rcases q with q|q
 .exact h c d pins s e H x y v u Q I f g q i
 .exact h' c d pins s e H x y v u Q I f g q i
def x9(c:IxR X r)(d:PE X a ta)(e:PE X b tb)(f:kC b):PE X (.Subscript a b pos) (tOp r ta tb):=by
 intro pins s g H Q I h;exact Subscript_ (F3 d e I h λv u i x y j l m n q=>c a b pins i g j x y v u Q l m n q (f _ _))
abbrev Eb(K:ZA):R2:=λx y H Q=>asR x λp=>asI y λi=>∃xs,SqL K H p xs/\∃v,atI xs i=some v/\Q v H
abbrev Ec(K:ZA):R2:=λx y H Q=>asR x λp=>asI y λi=>∃xs,SqT K H p xs/\∃v,atI xs i=some v/\Q v H
abbrev Ee:R2:=λx y H Q=>∃z i c,x= .str z/\y= .int i/\z.length<=sizeLine/\atI z.cps.toList i=some c/\Q (.str ⟨#[c]⟩) H
def yb:IxR X (Eb X.K):=by
 intro d e pins s A H x y v u Q I B C h m;have%[p,rfl|f]:=eX h;have%[i,rfl,xs,E,z,G|q]:=iQ f;cases B;have%[t|rfl]:=C;have%[its,r,pl|N]:=I.list E;have%[j,c,f,O,J|L]:=tF G;have%[w,n|g]:=r.get f;have M:=r.length;have T:=tw;have fin:EP X pins A Q w s:=%[z,H,I,g|q]
 by_cases o:0<=i
 .have l:=by
   rw[seqIndex_of o L]at c;exact Za c
  exact item_listR pl.isList o ⋯ (by rw[l];simpa using n) fin m
 .have l:(i+its.toArray.size).toNat=j:=by
   rw[seqIndex_neg ⋯ J]at c;rw[Zp,<-M];exact Za c
  exact subscriptTail_builtinR pl.isList.typeIs slot_list_getitem.lookup
   (wpAny_getItem_list_neg pl.isList ⋯ (!2) ⋯ (by rw[l];simpa using n) %[rfl|fin]) m
def BD:IxR X (Ec X.K):=by
 intro c d pins s g H x y v u Q I l m h n;have%[p,rfl|e]:=eX h;have%[i,rfl,xs,o,z,A|q]:=iQ e;cases l;have%[t|rfl]:=m;have%[its,r,pl|E]:=I.tuple o;have%[j,B,e,G,J|L]:=tF A;have%[w,C|f]:=r.get e;have M:=tw;have fin:EP X pins g Q w s:=%[z,H,I,f|q]
 exact subscriptTail_builtinR pl.typeIs slot_tuple_getitem.lookup
  (getItem_tuple pl ⋯ ⋯ (by rw[Zp,<-r.length];exact B) ↑C %[rfl|fin]) n
def BE:IxR X Ee:=by
 intro d e pins s A H x y v u Q I g l h m;have%[z,i,c,rfl,rfl,B,n|q]:=h;have%[t|rfl]:=g;have%[t'|rfl]:=l;have%[j,f,o,C,p|r]:=tF n;have w:z.cps.toList.length=z.length:=by simp[Str.length]
 rw[w]at f p r;have E:=tw;exact tail_any (typeIs_str s z t) slot_str_getitem.lookup (getItem_str (by
  lia) (by rw[f];simpa using o) %[.str _,H,I.tok _,%[_|rfl]|q]) m
abbrev rIx(K:ZA):R2:=λx y H Q=>Eb K x y H Q\/Ec K x y H Q\/Ee x y H Q
def Gn:IxR X (rIx X.K):=yb.or (BD.or BE)
def tG(lo hi:Option Int)(n:Nat):(sliceBounds lo hi none n).1=((HT.sIx n 0 lo:Nat):Int)/\(sliceBounds lo hi none n).2.1=((HT.sIx n n hi:Nat):Int)/\(sliceBounds lo hi none n).2.2=1:=by
 refine%[?_,?_|rfl]
 .cases lo with
  | none=>simp[sliceBounds,HT.sIx]
  | some i=>
    simp only[sliceBounds,HT.sIx,getD_none,show(1:Int)>0 by decide,if_true];by_cases h:i<0
    .simp only[h,if_true]<;> lia
    .simp only[h,if_false]<;> lia
 .cases hi with
  | none=>simp[sliceBounds,HT.sIx]
  | some i=>
    simp only[sliceBounds,HT.sIx,getD_none,show(1:Int)>0 by decide,if_true];by_cases h:i<0
    .simp only[h,if_true]<;> lia
    .simp only[h,if_false]<;> lia
def qw(its:ZF)(lo hi:Option Int):slicePick its.toArray lo hi none=((its.drop (HT.sIx its.length 0 lo)).take (HT.sIx its.length its.length hi-HT.sIx its.length 0 lo)).toArray:=by
 have%[c,d|e]:=tG lo hi its.toArray.size;unfold slicePick;rw[c,d,e];simp only[sliceRange_one,pick_run]<;> rfl
abbrev Go(K:ZA):V->Option Int->Option Int->Hp->VK->Prop:=λx lo hi H Q=>∃a xs,x= .ref a/\SqL K H a xs/\∀p,H p=none->Q (.ref p) (upd H p (.lst (tE xs lo hi)))
def Ef:SlR X (Go X.K):=by
 intro pins s l H x v m n lo hi o Q I e f pl g h;have%[a,xs,rfl,i|q]:=h;cases e;have%[its,r,d|j]:=I.list i;have c:=r.length;refine%["list",_,slot_list_getitem.lookup,d.isList.typeIs|wpAny_getItem_list_slice d.isList f pl g .none ∅ ?_ (!2)];rw[qw,<-c];refine%[.ref ⇑s,_,I.laid (λb p q=>Z7 _ q) (Zi _) ?_,rfl|q _ (I.hok.fresh (Zi _))];exact%[Yh (uP xs lo hi) j,_,0,(r.drop _).take _|Zj _ rfl]
abbrev gi:V->Bool
 | .non=>true
 | .bl _=>true
 | .int _=>true
 | .str _=>true
 | _=>false
abbrev eqV:V->V->Bool
 | .non,.non=>true
 | .bl a,.bl b=>a==b
 | .bl a,.int b=>(if a then 1 else 0)==b
 | .int a,.bl b=>a==(if b then 1 else 0)
 | .int a,.int b=>a==b
 | .str a,.str b=>a==b
 | _,_=>false
def Gp(d:aZ y u)(c:aZ x v)(f:gi y=true)(e:gi x=true):SeqAt.EqAt A s u v (eqV y x):=by
 cases y with
 | non=>
   cases d;cases x with
   | non=>cases c;exact SeqAt.EqAt.same _
   | bl b=>cases c;exact SeqAt.EqAt.none_bool b
   | int b=>have%[t|rfl]:=c;exact SeqAt.EqAt.none_int b t
   | str b=>have%[t|rfl]:=c;exact SeqAt.EqAt.none_str b t
   | _=>exact absurd (show false=true from e) Zu
 | bl a=>
   cases d;cases x with
   | non=>cases c;exact SeqAt.EqAt.bool_none a
   | bl b=>cases c;exact SeqAt.EqAt.bool_bool a b
   | int b=>have%[t|rfl]:=c;exact SeqAt.EqAt.bool_int a b t
   | str b=>have%[t|rfl]:=c;exact SeqAt.EqAt.bool_str a b t
   | _=>exact absurd (show false=true from e) Zu
 | int a=>
   have%[t'|rfl]:=d;cases x with
   | non=>cases c;exact SeqAt.EqAt.int_none a t'
   | bl b=>cases c;exact SeqAt.EqAt.int_bool a t' b
   | int b=>have%[t|rfl]:=c;exact SeqAt.EqAt.int_int a t' b t
   | str b=>have%[t|rfl]:=c;exact SeqAt.EqAt.int_str a t' b t
   | _=>exact absurd (show false=true from e) Zu
 | str a=>
   have%[t'|rfl]:=d;cases x with
   | non=>cases c;exact SeqAt.EqAt.str_none a t'
   | bl b=>cases c;exact SeqAt.EqAt.str_bool a t' b
   | int b=>have%[t|rfl]:=c;exact SeqAt.EqAt.str_int a t' b t
   | str b=>have%[t|rfl]:=c;exact SeqAt.EqAt.str_str a t' b t
   | _=>exact absurd (show false=true from e) Zu
 | _=>exact absurd (show false=true from f) Zu
abbrev eqU(x:V)(u:Value):Bool:=match u with
 | .none=>eqV .non x
 | .bool b=>eqV (.bl b) x
 | .int i _=>eqV (.int i) x
 | .str z _=>eqV (.str z) x
 | _=>false
def BF(r:aZ y u)(f:gi y=true):eqU x u=eqV y x:=by
 cases y with
 | non=>cases r;rfl
 | bl b=>cases r;rfl
 | int i=>have%[t|rfl]:=r;rfl
 | str z=>have%[t|rfl]:=r;rfl
 | _=>exact absurd (show false=true from f) Zu
def kD:∀{xs:List V} {us:ZF},aK xs us->xs.all gi=true->us.any (eqU x)=xs.any λy=>eqV y x
 | _,_,.nil,_=>rfl
 | y::xs,u::us,.cons r t,f=>by
   rw[List.all_cons,Zx]at f;rw[Zy,Zy,BF r f.1,kD t f.2]
def iR(d:aZ x v)(e:gi x=true):∀{xs:List V} {us:ZF},aK xs us->xs.all gi=true->∀u∈us,SeqAt.EqAt A s u v (eqU x u)
 | _,_,.nil,_=>λu c=>by cases c
 | y::xs,u::us,.cons r t,f=>λg c=>by
   rw[List.all_cons,Zx]at f;rcases mem_cons.mp c with rfl|c
   .rw[BF r f.1];exact Gp r d f.1 e
   .exact iR d e t f.2 g c
abbrev inV(x:V)(xs:List V):Bool:=xs.any λy=>eqV y x
abbrev rIn(K:ZA)(c:Bool):R2:=λx y H Q=>∃p xs,y= .ref p/\(SqL K H p xs\/SqT K H p xs)/\gi x=true/\xs.all gi=true/\Q (.bl (if c then !inV x xs else inV x xs)) H
def zH:OpR X (compareOp .In) (rIn X.K false):=by
 intro pins s i H x y v u Q I d f h;have%[p,xs,rfl,c,e,fs|q]:=h;cases f;rcases c with c|c
 .have%[its,r,pl|g]:=I.list c;refine SeqAt.in_listAt _ pl.isList (λw hw=>iR d e r fs w ↑hw) %[.bl _,H,I,rfl|?_];rw[show its.toArray.any _=its.any (eqU x) by simp,kD r fs];exact q
 .have%[its,r,pl|g]:=I.tuple c;refine SeqAt.in_tupleAt _ pl (λw hw=>iR d e r fs w ↑hw) %[.bl _,H,I,rfl|?_];rw[show its.toArray.any _=its.any (eqU x) by simp,kD r fs];exact q
def tH:OpR X (compareOp .NotIn) (rIn X.K true):=by
 intro pins s i H x y v u Q I d f h;have%[p,xs,rfl,c,e,fs|q]:=h;cases f;rcases c with c|c
 .have%[its,r,pl|g]:=I.list c;refine SeqAt.notIn_listAt _ pl.isList (λw hw=>iR d e r fs w ↑hw) %[.bl _,H,I,rfl|?_];rw[show its.toArray.any _=its.any (eqU x) by simp,kD r fs];exact q
 .have%[its,r,pl|g]:=I.tuple c;refine SeqAt.notIn_tupleAt _ pl (λw hw=>iR d e r fs w ↑hw) %[.bl _,H,I,rfl|?_];rw[show its.toArray.any _=its.any (eqU x) by simp,kD r fs];exact q
def tJ:OpR X (compareOp .NotIn) (λx y H Q=>∃i j,x= .str i/\y= .str j/\Q (.bl (!(!(Builtin.Str.occurrences j i 0 j.length 1).isEmpty))) H):=by
 intro pins s e H x y v u Q I c d h;have%[i,j,rfl,rfl|q]:=h;have%[t|rfl]:=c;have%[t'|rfl]:=d;exact notIn_str %[.bl _,H,I,rfl|q]
def tK:ck X (.type "list") (λxs H Q=>∃p ys,xs=[.ref p]/\(SqL X.K H p ys\/SqT X.K H p ys)/\∀l,H l=none->Q (.ref l) (upd H l (.lst ys))):=by
 intro pins s y H xs us Q I r h;have%[p,ys,rfl,f|q]:=h;have%[u,rfl|z]:=du r;cases z;have fin:∀its,aK ys its->ys.length<=sizeLine->∀h' d,(∀b w,s.heap.get? b=some w->h'.get? b=some w)->
  h'.get? ⇑s=some _->EP X pins y Q _ {s with heap:=h'}:=λits c g h' d i e=>
  %[.ref ⇑s,_,I.laid i (Zi _) (show bX X.prog X.w _ h' _ (.lst ys)from%[g,its,d,c|e]),rfl|q _ (I.hok.fresh (Zi _))]
 rcases f with f|f
 .have%[its,c,pl|g]:=I.list f;have j:=c.length;have%[o,m,t,n|v]:=pl.isList;exact call_list_seq p (.inl rfl) m t v (λh' d i e=>fin its c g h' d i e) (by simp only[Zp]<;> lia)
 .have%[its,c,pl|g]:=I.tuple f;have j:=c.length;have%[o,m,t,n|v]:=pl;exact call_list_seq p (.inr rfl) m t v (λh' d i e=>fin its c g h' d i e) (by simp only[Zp]<;> lia)
abbrev tyV(K:ZA)(T:String)(x:V)(H:Hp):Prop:=match x with
 | .str _=>T="str"
 | .int _=>T="int"
 | .ref p=>(T="list"/\∃xs,SqL K H p xs)\/(T="tuple"/\∃o,K.lookup p=some o/\o.cls= .type "tuple"/\o.dict=none)\/
  (T="dict"/\((∃c,H p=some (.dK c))\/∃c,H p=some (.dT c)))\/(T="set"/\∃S n,H p=some (.set S n))
 | _=>False
def BG(I:Inv X pins q H s)(r:aZ x v)(ty:tyV X.K T x H):
 s.TypeIs v T/\∀a,v= .ref a->∃j,s.heap.get? a=some j/\j.dict=none:=by
 cases x with
 | str z=>
   have%[t|rfl]:=r;cases(show T="str" from ty);exact%[typeIs_str s z t|λ_ e=>nomatch e]
 | int i=>
   have%[t|rfl]:=r;cases(show T="int" from ty);exact%[typeIs_int s i t|λ_ e=>nomatch e]
 | ref p=>
   cases r;rcases ty with⟨rfl,xs,l⟩|⟨rfl,o,d,m,f⟩|⟨rfl,d⟩|⟨rfl,S,n,d⟩
   .have%[its,_,pl|_]:=I.list l;refine%[pl.isList.typeIs|λa e=>?_];cases e;have%[o,n,e,c,f|_]:=pl;exact%[o,e|f]
   .refine%[%[o,I.kIn p o d|m]|λa e=>?_];cases e;exact%[o,I.kIn _ o d|f]
   .have z:∃o,s.heap.get? p=some o/\o.ExactDict:=by
     rcases d with⟨g,d⟩|⟨g,d⟩
     .have%[_,_,_,_,o,_,_,e,ex|_]:=I.hok p _ d;exact%[o,e|ex]
     .have%[_,_,_,_,o,_,_,e,ex|_]:=I.hok p _ d;exact%[o,e|ex]
    have%[o,e|ex]:=z;refine%[%[o,e|ex.1]|λa h=>?_];cases h;exact%[o,e|ex.2.1]
   .have%[o,_,_,_,e,ex|_]:=I.hok p _ d;refine%[%[o,e|ex.1]|λa h=>?_];cases h;exact%[o,e|ex.2.1]
 | _=>exact False.elim ty
abbrev Eg(K:ZA)(T:String)(r:V->List V->Hp->VK->Prop)(d:TE):TE:=λe H Q=>d e H λx c=>tyV K T x c/\r x [] c Q
abbrev tBM(K:ZA)(T:String)(r:V->List V->Hp->VK->Prop)(e:TE)(t:TA):TE:=λc H Q=>e c H λx d=>tyV K T x d/\t c d λxs f=>r x xs f Q
variable{o e:Expr}{es:List Expr}{to:TE}{t:TA}{name:Str}{apos cpos:Pos}{T id:String}{r:V->List V->Hp->VK->Prop}
def Gq(l:PlainAttrs T)(slot:Slot T name id)(f:typeOf (.builtin id)=pure (.type "method_descriptor"))(m:MtR X id r)(n:PE X o to)
 (c:attributeBase o name X.env (eval o X.env)=eval o X.env) (d:(apos.endLine==cpos.line)=true):PE X (.Call (.Attribute o name apos) [] [] cpos) (Eg X.K T r to):=by
 intro pins s g H Q I h;refine wpAny_Call_method0_late c d (thP (n pins s g H _ I h) λv p x q i j ⟨ty,q1⟩=>?_);have%[u|w]:=BG i j ty;exact%[T,id,l,slot,f,u,w|Calls.callWith_builtin rfl (PySem.evalArgs_none (m pins p g q x [] v [] Q i j .nil q1))]
def Ik(p:PlainAttrs T)(slot:Slot T name id)(i:typeOf (.builtin id)=pure (.type "method_descriptor"))(q:MtR X id r)(u:PE X o to)(w:PA X (e::es) t)
 (d:attributeBase o name X.env (eval o X.env)=eval o X.env)
 (g:((backTo cpos (starEach (e::es) X.env)).all (λx=>!x.1)&&(backToKw cpos (keywordEach [] X.env)).all (λx=>x.1.isSome)
  && decide ((e::es).length+([]:List Keyword).length+(if([]:List Keyword).isEmpty then 0 else 1)<30))=true)
 (f:(apos.endLine==cpos.line)=true) (y:starEach (e::es) X.env=(false,eval e X.env)::starEach es X.env) (c:(backTo cpos (starEach es X.env)).any (·.1)=false):
 PE X (.Call (.Attribute o name apos) (e::es) [] cpos) (tBM X.K T r to t):=by
 intro pins s j H Q I h;refine wpAny_Call_method_late d g f rfl (thP (u pins s j H _ I h) λv z x A l m ⟨ty,q1⟩=>?_);have%[B|C]:=BG l m ty;refine%[T,id,p,slot,i,B,C|?_];have n:=w cpos pins z j A _ l q1;rw[y]at n ⊢;exact Calls.callWith_builtin (by show(false||(backTo cpos _).any _)=false;rw[c]<;> rfl) (Calls.evalArgs_plain (thn n λus E ⟨vs,G,J,L,M⟩=>q pins E j G x vs v us Q J m L M))
end
abbrev MtM(X:Cx)(id:String)(r:V->List V->Hp->VK->Prop):Prop:=
 ∀pins s (a:St) H x xs v us Q,Inv X pins a H s->aZ x v->aK xs us->r x xs H Q->
  (wpAny (model X.prog X.w) X.A) (call (.builtin id) (v::us)) (EP X pins a Q) X.xe s
def aK.one:∀{x:V} {us:ZF},aK [x] us->∃u,us=[u]/\aZ x u
 | _,_,.cons r .nil=>%[_,rfl|r]
def aK.zero:∀{us:ZF},aK [] us->us=[]
 | _,.nil=>rfl
def aK.dropLast{xs:List V}{us:ZF}(h:aK xs us):aK xs.dropLast us.dropLast:=by
 induction h with
 | nil=>exact .nil
 | cons r t a=>
   cases t with
   | nil=>exact .nil
   | cons q t'=>exact .cons r a
def aK.eraseIdx:∀{xs:List V} {us:ZF} i,aK xs us->aK (xs.eraseIdx i) (us.eraseIdx i)
 | _,_,_,.nil=> .nil
 | _,_,0,.cons _ t=>t
 | _,_,i+1,.cons r t=> .cons r (aK.eraseIdx i t)
def aK.reverse(h:aK xs us):aK xs.reverse us.reverse:=by
 induction h with
 | nil=>exact .nil
 | cons r t a=>rw[List.reverse_cons,List.reverse_cons];exact aK.append a (.cons r .nil)
def aK.rep(h:aK xs us):∀k:Nat,aK (List.replicate k xs).flatten (List.replicate k us).flatten
 | 0=> .nil
 | k+1=>by
   exact aK.append h (aK.rep h k)
def rq:∀(l:List a) (i:Nat),(l.eraseIdx i).length<=l.length
 |[],_=>Zi _
 | _::_,0=>Yg _
 | _::r,i+1=>Nat.succ_le_succ (rq r i)
def rA(its:ZF):∀k acc,
 List.foldl (λa x2=>a++x2) acc.toArray (List.replicate k its.toArray)=(acc++(List.replicate k its).flatten).toArray
 | 0,acc=>by simp
 | k+1,acc=>by
   have e:acc.toArray++its.toArray=(acc++its).toArray:=by simp
   have b:(acc++its) ++(List.replicate k its).flatten=acc++(List.replicate (k+1) its).flatten:=by
    rw[List.replicate_succ,List.flatten_cons,Ze]
   rw[<-b,<-rA its k _,<-e,List.replicate_succ,Y8]
section
variable{X:Cx}{pins:ZE}{σ:St}{H:Hp}{s:Shared}
variable{l b:Addr}{xs ys zs:List V}
def Inv.lset{its its':ZF}{n:Nat}{f:ZJ->ZJ}{t':Nat}(I:Inv X pins σ H s)(a:H l=some (.lst xs))
 (e:s.heap.get? l=some {cls:= .type "list",data:= .seq its.toArray n}) (c:f its.toArray=its'.toArray) (d:aK ys its') (g:ys.length<=sizeLine):
 Inv X pins σ (upd H l (.lst ys)) {s with heap:=s.heap.update l (Obj.mapSeq f),toks:=t'}:=by
 have q:=PySem.IsL.update e f;rw[c]at q;refine I.write (a▸trivial) (.inl rfl) (λj u h i=>(get?_update_other s.heap _ (Ne.symm h)).trans i) %[_|q] ?_;exact%[g,its',_,d|q]
def Inv.lnew(I:Inv X pins σ H s)(a:aK ys its)(c:ys.length<=sizeLine):
 Inv X pins σ (upd H ⇑s (.lst ys)) {s with heap:=s.heap.push {cls:= .type "list",data:= .seq its.toArray},toks:=t'}:=
 I.laid (λ_ _ q=>Z7 _ q) (Zi _) %[c,its,0,a|Zj _ rfl]
def Inv.fresh(I:Inv X pins σ H s):H ⇑s=none:=I.hok.fresh (Zi _)
def Inv.lstM(I:Inv X pins σ H s)(a:H l=some (.lst xs)):xs.length<=sizeLine/\∃its n,aK xs its/\xs.length=its.length/\s.heap.get? l=some {cls:= .type "list",data:= .seq its.toArray n}:=by
 have%[z,its,n,r|e]:=I.hok l _ a;exact%[z,its,n,r,r.length|e]
def uQ{n:Nat}(h:n<=sizeLine):Builtin.List.listTooLong n=false:=by
 unfold Builtin.List.listTooLong
 simp_all
end
section
variable{X:Cx}
abbrev tL:V->List V->Hp->VK->Prop:=λx vs H Q=>asR x λl=>∃y,vs=[y]/\∃xs,H l=some (.lst xs)/\xs.length<sizeLine/\Q .non (upd H l (.lst (xs++[y])))
def rB:MtM X "list.append" tL:=by
 intro pins s f H x vs v us Q I b c h;have%[l,rfl,y,rfl,xs,a,g|q]:=eX h;cases b;have%[u,rfl|d]:=c.one;have%[z,its,n,r,i|e]:=I.lstM a;refine call_meets F.slot_list_append %[_,e|rfl] F.entry_list_append (F.args_list_append_2 _ _) (PySem.list_append l its.toArray n u (!2)) %[e,.non,_,I.lset a e ∅ (r.append (.cons d .nil)) ?_,rfl|q];rw[Z9,Yl]
 lia
abbrev tM:V->List V->Hp->VK->Prop:=λx vs H Q=>∃l b xs zs,x= .ref l/\vs=[.ref b]/\H l=some (.lst xs)/\H b=some (.lst zs)/\xs.length+zs.length<=sizeLine/\Q .non (upd H l (.lst (xs++zs)))
def zI:MtM X "list.extend" tM:=by
 intro pins s w H x vs v us Q I f g h;have%[l,b,xs,zs,rfl,rfl,d,i,y|q]:=h;cases f;have%[u,rfl|j]:=g.one;cases j;have%[z,its,n,r,A|e]:=I.lstM d;have%[B,its2,m,o,p|t]:=I.lstM i;have c:its.toArray.size+its2.toArray.size<=sizeLine:=!2
 have a: ¬ (!its.toArray.isEmpty&&Builtin.List.listTooLong (its.toArray.size+its2.toArray.size))=true:=by
  rw[uQ c,Bool.and_false];exact Zu
 refine call_meets F.slot_list_extend %[_,e|rfl] F.entry_list_extend (F.args_list_extend_2 _ _)
  (AutoSeq1.list_extend_list_list_0 l its.toArray n b its2.toArray m a ⋯ ⋯) %[e,t,.non,_,I.lset d e ∅ (r.append o) ?_,rfl|q]
 simp_all
abbrev Il:V->List V->Hp->VK->Prop:=λx vs H Q=>∃l xs y,x= .ref l/\vs=[]/\H l=some (.lst xs)/\xs[xs.length-1]? =some y/\Q y (upd H l (.lst xs.dropLast))
def Gr:MtM X "list.pop" Il:=by
 intro pins s j H x vs v us Q I d f h;have%[l,xs,y,rfl,rfl,c,g|q]:=h;cases d;have a:=f.zero;subst a;have%[z,its,n,r,m|e]:=I.lstM c;have%[u,o|i]:=r.get g;have b:its.toArray[its.toArray.size-1]? =some u:=by
  simp_all
 refine call_meets F.slot_list_pop %[_,e|rfl] F.entry_list_pop (F.args_list_pop_1 _) (MeetsSeq.list_pop_last l its.toArray n u b (!2)) %[e,y,_,I.lset c e ?_ r.dropLast ?_,i|q]
 .simp
 .rw[List.length_dropLast]
  lia
abbrev Gu:R2:=λx y H Q=>∃l b xs zs,x= .ref l/\y= .ref b/\H l=some (.lst xs)/\H b=some (.lst zs)/\xs.length+zs.length<=sizeLine/\∀p,H p=none->Q (.ref p) (upd H p (.lst (xs++zs)))
def Gw:OpR X (binaryOp .Add) Gu:=by
 intro pins s o H x y v u Q I a c h;have%[l,b,xs,zs,rfl,rfl,d,f,p|q]:=h;cases a;cases c;have%[z,its,n,r,t|e]:=I.lstM d;have%[w,its2,A,g,i|j]:=I.lstM f;refine PySem.P.add_list e j ?_ (by rw[Zp,Zp];lia);have m:its.toArray++its2.toArray=(its++its2).toArray:=by simp
 rw[m];exact%[.ref _,_,I.lnew (r.append g) (by rw[Z9];lia),rfl|q _ I.fresh]
abbrev Gx:R2:=λx y H Q=>∃l k xs,x= .ref l/\y= .int k/\H l=some (.lst xs)/\ -(2^63)<=k/\k<2^63/\xs.length*k.toNat<=sizeLine/\
 ∀p,H p=none->Q (.ref p) (upd H p (.lst (List.replicate k.toNat xs).flatten))
def Eh(xs:List a)(k:Nat):(List.replicate k xs).flatten.length=k*xs.length:=by
 simp
def Gy:OpR X (binaryOp .Mult) Gx:=by
 intro pins s E H x y v u Q I o p h;have%[l,k,xs,rfl,rfl,w,A,B,j|q]:=h;cases o;have%[t|rfl]:=p;have%[z,its,n,r,C|e]:=I.lstM w;have c:its.toArray.size*k.toNat<=sizeLine:=by rw[Zp,<-C];exact j
 have d: ¬ its.toArray.size*k.toNat>(2^63-1)/8:=by
  have:sizeLine<=(2^63-1)/8:=!1
  lia
 have f: ¬ (!Builtin.List.listFitsIndex k)=true:=by
  rw[fitsIndex_both A B];exact Zu
 have b: ¬ Builtin.List.listTooLong (its.toArray.size*k.toNat)=true:=by
  rw[uQ c];exact Zu
 have g:List.foldl (λi x2=>i++x2) #[] (List.replicate (if its.toArray.isEmpty=true then 0 else k.toNat) its.toArray)=(List.replicate k.toNat its).flatten.toArray:=by
  have G:∀m,List.foldl (λi x2=>i++x2) #[] (List.replicate m its.toArray)=(List.replicate m its).flatten.toArray:=λm=>by
   have:=rA its m []
   simp_all
  cases its with
  | nil=>simp
  | cons a J=>simp_all
 refine wpAny_binaryOp_repeat_ref (!1) %[_,e|rfl] (λs'=>typeIs_int s' k t) noFill_list_mul F.fills_int_mul F.slot_int_rmul repeat_list F.slot_int_index.lookup
  (call_meets F.slot_int_rmul (typeIs_int s k t) F.entry_int_rmul (F.args_int_rmul_2 _ _) (int___rmul___int_list k t l its.toArray n)
   %[e,rfl,%[_,e|rfl]|call_meets F.slot_list_mul %[_,e|rfl] F.entry_list_mul (F.args_list_mul_2 _ _) (AutoListH.list___mul___list_int_3 l its.toArray n k t f d b) %[e|?_]])
 rw[g];exact%[.ref _,_,I.lnew (r.rep k.toNat) (by rw[Eh,Nat.mul_comm];exact j),rfl|q _ I.fresh]
end
section
#where
end
section
variable{X:Cx}
end
section
variable{κ:Type}[DecidableEq κ]
abbrev bH(a:List (κ×V))(k:κ):Option V:=(a.find? λb=>decide (b.1=k)).map (·.2)
abbrev cX(a:List (κ×V))(k:κ)(v:V):List (κ×V):=
 if(a.any λb=>decide (b.1=k))=true then a.map (λb=>if b.1=k then(b.1,v)else b)else a++[(k,v)]
def eZ{p:κ×V}{r:List _}{k:κ}(e:p.1=k):bH (p::r) k=some p.2:=by simp[bH,e]
def dC{p:κ×V}{r:List _}{k:κ}(e: ¬ p.1=k):bH (p::r) k=bH r k:=by simp[bH,e]
def iS(k:κ):∀a,(a.any λb=>decide (b.1=k))=(bH a k).isSome
 |[]=>rfl
 | p::r=>by
   rw[Zy];by_cases e:p.1=k
   .simp only[eZ e,Zf e,Bool.true_or,Option.isSome_some]
   .rw[dC e,Zh e,Bool.false_or];exact iS k r
def fO(a:List _)(k:κ)(v:V):(cX a k v).length<=a.length+1:=by
 unfold cX
 split
 .simp
 simp_all
def gj{k:κ}(v:V)(h:bH a k=none):cX a k v=a++[(k,v)]:=by
 unfold cX;rw[iS,h];exact if_neg (!1)
def f9.isSome_eq(r:f9 o u):o.isSome=u.isSome:=by
 cases o with
 | none=>cases u with
   | none=>rfl
   | some _=>exact(r).elim
 | some _=>cases u with
   | none=>exact(r).elim
   | some _=>rfl
def f9.getD{o:Option V}{u:Option Value}{d:V}{d':Value}(r:f9 o u)(a:aZ d d'):aZ (o.getD d) (u.getD d'):=by
 cases o with
 | none=>cases u with
   | none=>exact a
   | some _=>exact(r).elim
 | some _=>cases u with
   | none=>exact(r).elim
   | some _=>exact r
def KV.val{vs:List (κ×Value)}(r:KV a vs)(k:κ):f9 (bH a k) (valueAt vs k):=by
 induction r with
 | nil=>exact True.intro
 | @cons p q ps qs h t f=>
   have%[d|g]:=h;by_cases e:p.1=k
   .have c:=d.symm.trans e;have b:valueAt (q::qs) k=some q.2:=by simp[valueAt,c]
    rw[eZ e,b];exact g
   .have c: ¬ q.1=k:=λz=>e (d.trans z)
    have b:valueAt (q::qs) k=valueAt qs k:=by simp[valueAt,c]
    rw[dC e,b];exact f
def KV.any(r:KV a vs)(k:κ):(a.any λb=>decide (b.1=k))=vs.any λb=>decide (b.1=k):=by
 induction r with
 | nil=>rfl
 | cons h t c=>simp_all
def KV.repl(r:KV c vs)(k:κ)(d:aZ y u):
 KV (c.map λa=>if a.1=k then(a.1,y)else a) (vs.map λa=>if a.1=k then(a.1,u)else a):=by
 induction r with
 | nil=>exact .nil
 | @cons p q ps qs h t f=>
   rw[Yr,Yr];refine .cons ?_ f;have%[b|g]:=h;by_cases e:p.1=k
   .rw[if_pos e,if_pos (b.symm.trans e)];exact%[b|d]
   .rw[if_neg e,if_neg (λz=>e (b.trans z))];exact%[b|g]
def KV.put(r:KV a vs)(k:κ)(b:aZ y u):KV (cX a k y) (stored vs k u):=by
 unfold cX stored;rw[r.any k];by_cases e:(vs.any λc=>decide (c.1=k))=true
 .rw[if_pos e,if_pos e];exact r.repl k b
 .rw[if_neg e,if_neg e];exact Paired.snoc r %[rfl|b]
def KV.length{a:List (κ×V)}{vs:List _}(r:KV a vs):a.length=vs.length:=Paired.length r
end
def mR{P:Program}(r:aZ (kV k) u):(aQ P w).is k u=true:=by
 cases k with
 | inl i=>have%[t|e]:=(r);subst e;exact uK P w i t
 | inr x=>have%[t|e]:=(r);subst e;exact uL P w x t
def rC{P:Program}:∀{ks:List Key} {us:ZF},aK (ks.map kV) us->ItemsAre (aQ P w) ks us
 |[],_,r=>by cases r;exact .nil
 | k::ks,_,r=>by
   cases r with
   | cons h t=>exact .cons (mR h) (rC t)
noncomputable abbrev KT(H:Hp):List (List Key×V)->List (List Key×Addr×Value)->Prop:=Paired λp q=>p.1=q.1/\H q.2.1=some (.tup (p.1.map kV))/\aZ p.2 q.2.2
def KT.val{a:List (List Key×V)}{xs:List (List Key×Addr×Value)}(r:KT H a xs)(k:List Key):f9 (bH a k) ((atKey xs k).map (·.2)):=by
 induction r with
 | nil=>exact True.intro
 | @cons p q ps qs h t f=>
   have%[d,_|g]:=h;by_cases e:p.1=k
   .have c:=d.symm.trans e;have b:atKey (q::qs) k=some q.2:=by simp[atKey,c]
    rw[eZ e,b];exact g
   .have c: ¬ q.1=k:=λz=>e (d.trans z)
    have b:atKey (q::qs) k=atKey qs k:=by simp[atKey,c]
    rw[dC e,b];exact f
def KT.repl(r:KT H b xs)(k:List Key)(f:aZ y u):
 KT H (b.map λc=>if c.1=k then(c.1,y)else c) (xs.map (putAt k u)):=by
 induction r with
 | nil=>exact .nil
 | @cons p q ps qs h t g=>
   rw[Yr,Yr];refine .cons ?_ g;have%[a,d|i]:=h;unfold putAt;by_cases e:p.1=k
   .rw[if_pos e,if_pos (a.symm.trans e)];exact%[a,d|f]
   .rw[if_neg e,if_neg (λz=>e (a.trans z))];exact%[a,d|i]
def KT.put(r:KT H a xs)(k:List Key)(d:H b=some (.tup (k.map kV)))(c:aZ y u):
 KT H (cX a k y) (storedH xs k b u):=by
 have e:(a.any λf=>decide (f.1=k))=(atKey xs k).isSome:=by
  rw[iS,(r.val k).isSome_eq,isSome_map]
 unfold cX storedH;rw[e];by_cases q:(atKey xs k).isSome=true
 .rw[if_pos q,if_pos q];exact r.repl k c
 .rw[if_neg q,if_neg q];exact Paired.snoc r %[rfl,d|c]
def KT.keeps(r:KT H a xs)(c:∀b ys,H b=some (.tup ys)->d b=some (.tup ys)):KT d a xs:=
 Paired.mapP r λ_ _ z=>%[z.1,c _ _ z.2.1|z.2.2]
section
variable{P:Program}{w:World}{H:Hp}{h:Heap}{a:Addr}
def Fs(ok:HOk P w H h)(e:Rd H a u):bX P w H h a u:=e.ok ok
def om(ok:HOk P w H h)(e:Rd H a (.dK b)):b.length<=sizeLine/\(a==sysModules)=false/\∃vs,KV b vs/\h.DictOf (aQ P w) a vs:=
 Fs ok e
def mS(ok:HOk P w H h)(e:H a=some (.dK b)):b.length<=sizeLine/\(a==sysModules)=false/\∃vs,KV b vs/\h.DictOf (aQ P w) a vs:=om ok (.inl e)
def oo(ok:HOk P w H h)(e:H a=some (.tup (ks.map kV))):(tupleKind (aQ P w)).is h ks a:=by
 have%[_,its,r,o,b,c,n|d]:=(ok a _ e)
 exact%[o,its.toArray,n,b,c,d|rC r]
def rD(ok:HOk P w H h)(e:Rd H a (.dT b)):b.length<=sizeLine/\(a==sysModules)=false/\
 ∃xs,KT H b xs/\h.DictOfH (tupleKind (aQ P w)) a xs:=by
 have%[z,y,xs,r,o,es,d,f,g,i,j|n]:=(Fs ok e)
 refine%[z,y,xs,r,o,es,d,f,g,i,j,λx c=>?_|n];have all:∀{l:List _} {m:List _},KT H l m->∀x∈m,(tupleKind (aQ P w)).is h x.1 x.2.1:=by
  intro l m q
  induction q with
  | nil=>simp
  | @cons p q ps qs u t s=>
    intro x c;rcases mem_cons.mp c with e|c
    .exact oo ok (!2)
    .exact s x c
 exact all r x c
def Im(ok:HOk P w H h)(e:H a=some (.dT b)):b.length<=sizeLine/\(a==sysModules)=false/\
 ∃xs,KT H b xs/\h.DictOfH (tupleKind (aQ P w)) a xs:=rD ok (.inl e)
end
abbrev cP(H:Hp)(a:Addr)(y:V)(r:Option V):Prop:=
 (∃c k,Rd H a (.dK c)/\y=kV k/\r=bH c k)\/∃c k b,Rd H a (.dT c)/\y= .ref b/\H b=some (.tup (k.map kV))/\r=bH c k
abbrev jD(H:Hp)(a:Addr)(y v:V)(d:Hp):Prop:=
 (∃c k,H a=some (.dK c)/\y=kV k/\c.length<sizeLine/\d=upd H a (.dK (cX c k v)))\/
 ∃c k b,H a=some (.dT c)/\y= .ref b/\H b=some (.tup (k.map kV))/\c.length<sizeLine/\d=upd H a (.dT (cX c k v))
def cP.k{k:Key}(e:H a=some (.dK b)):cP H a (kV k) (bH b k):= .inl %[b,k,.inl e,rfl|rfl]
def jD.k{k:Key}(e:H a=some (.dK b))(c:b.length<sizeLine):jD H a (kV k) v (upd H a (.dK (cX b k v))):= .inl %[b,k,e,rfl,c|rfl]
section
variable{X:Cx}{pins:ZE}{σ:St}{H:Hp}{s:Shared}
variable{a:Addr}{y v:V}{u r:Value}{o:Option V}{A:Around}{E:ZD}
def Inv.big(I:Inv X pins σ H s):sysModules<⇑s:=by
 exact Nat.lt_trans (!1) ((I.mod.glob.keeps I.bk).lt)
def zJ(t:A.units+1<cLine)(I:Inv X pins σ H s)(g:cP H a y (some v))(q:aZ y u)(h:∀f s',Inv X pins σ H s'->aZ v f->Q f s'):
 wpAny (model X.prog X.w) A (getItem (.ref a) u) Q E s:=by
 rcases g with⟨i,k,e,j,l⟩|⟨i,k,b,e,j,w,l⟩
 .subst j;have%[z,B,vs,c|m]:=om I.hok e;have%[f,hw|d]:=f9.some_of (l▸c.val k);exact wpAny_getItem_of (mR q) m.mapOf hw (h f _ (I.tok _) d)
 .subst j;cases(q);have%[z,B,xs,c|m]:=rD I.hok e;have%[f,hw|d]:=f9.some_of (l▸c.val k);have%[p,C|n]:=map_eq_some_iff.mp hw;refine wpAny_getItem_heap (tupleKind_room_in1 t) (oo I.hok w) m C ?_;rw[n];exact h f _ (I.tok _) d
def d_in(n:A.units+1<cLine)(I:Inv X pins σ H s)(g:cP H a y o)(m:aZ y u)(h:∀s',Inv X pins σ H s'->Q (.bool o.isSome) s'):
 wpAny (model X.prog X.w) A (compareOp .In u (.ref a)) Q E s:=by
 rcases g with⟨d,k,e,f,l⟩|⟨d,k,b,e,f,p,l⟩
 .subst f;have%[z,i,vs,c|j]:=om I.hok e;refine wpAny_in_of (mR m) i j.mapOf ?_;rw[<-(c.val k).isSome_eq,<-l];exact h _ (I.tok _)
 .subst f;cases(m);have%[z,i,xs,c|j]:=rD I.hok e;refine wpAny_in_heap (tupleKind_room_in1 n) (oo I.hok p) i j ?_;have q:=(c.val k).isSome_eq;rw[isSome_map]at q;rw[<-q,<-l];exact h _ (I.tok _)
def Ei(n:A.units+1<cLine)(I:Inv X pins σ H s)(g:cP H a y o)(m:aZ y u)(h:∀s',Inv X pins σ H s'->Q (.bool (!o.isSome)) s'):
 wpAny (model X.prog X.w) A (compareOp .NotIn u (.ref a)) Q E s:=by
 rcases g with⟨d,k,e,f,l⟩|⟨d,k,b,e,f,p,l⟩
 .subst f;have%[z,i,vs,c|j]:=om I.hok e;refine wpAny_notIn_of (mR m) i j.mapOf ?_;rw[<-(c.val k).isSome_eq,<-l];exact h _ (I.tok _)
 .subst f;cases(m);have%[z,i,xs,c|j]:=rD I.hok e;refine wpAny_notIn_heap (tupleKind_room_in1 n) (oo I.hok p) i j ?_;have q:=(c.val k).isSome_eq;rw[isSome_map]at q;rw[<-q,<-l];exact h _ (I.tok _)
def nU(I:Inv X pins σ H s)(d:Mut (H a))(e:SameBut a s.heap h')(f:∃q,h'.get? a=some q)(new:bX X.prog X.w (upd H a c) h' a c):
 Inv X pins σ (upd H a c) {s with heap:=h',toks:=t'}:=
 I.write d (.inl rfl) (λb q g z=>(e.2 b g).trans z) f new
def wQ{P:Program}(z:b.length<=sizeLine)(d:(a==sysModules)=false)(c:KV b vs)(e:h'.DictOf (aQ P w) a vs):
 bX P w f h' a (.dK b):=%[z,d,vs,c|e]
def zK(M:A.units+1<cLine)(I:Inv X pins σ H s)(g:jD H a y v N)(C:aZ y u)(G:aZ v r)(h:∀s',Inv X pins σ N s'->Q () s'):
 wpAny (model X.prog X.w) A (setItem (.ref a) u r) Q E s:=by
 rcases g with⟨d,k,e,m,l,n⟩|⟨d,k,b,e,m,J,l,n⟩
 .subst m n;have%[z,p,vs,f|t]:=mS I.hok e;have O:vs.length<=sizeLine:=f.length▸z;have w:(cX d k v).length<=sizeLine:=by have:=fO d k v;lia
  exact wpAny_setItem_pairs (mR C) t λh' i B=>h _ (nU I (e▸True.intro) B (let⟨q,_,_,j,_⟩:=i;%[q|j]) (wQ w p (f.put k G) i))
 .subst m n;cases(C);have%[z,p,xs,f|t]:=Im I.hok e;have O:xs.length<=sizeLine:=(Paired.length f)▸z;have w:(cX d k v).length<=sizeLine:=by have:=fO d k v;lia
  refine wpAny_setItem_heap (tupleKind_room_in1 M) (oo I.hok J) t λh' i B=>h _ ?_
  have%[q,es,T,j,U,Y,h4,_|h5]:=i;refine nU I (e▸True.intro) B %[q|j] %[w,p,_,(f.put k J G).keeps λc ys L=>?_,q,es,T,j,U,Y,h4|h5];rw[am (HK L e (λz=>nomatch z))];exact L
end
section
variable{X:Cx}{pins:ZE}{σ:St}{H:Hp}{s:Shared}
variable{a:Addr}{kvs:List (Key×V)}{k:Key}{u:Value}{A:Around}{E:ZD}
end
abbrev Gz(i:Expr):Prop:=∀a b,subscripted i false a b=operate [a,b] (getItem a b)
def Ej{T id:String}
 (l:typeLookup (.type T) "__getitem__"=pure (some (.builtin id))) (m:Gz a)
 (h:↥A (eval c env) (λo e=>↥A (eval a env) (λi b=>b.TypeIs o T/\↥A (getItem o i) Q E b) E e) E s):
 ↥A (eval (.Subscript c a pos) env) Q E s:=by
 refine Subscript_ (wpAny_mono h (λo e g=>wpAny_mono g (λi b d=>?_) λ_ _ x=>x) λ_ _ x=>x);have%[n|d]:=d;refine Z2 (Z2 (wpAny_specialOf n l ?_));have fin:↥A (subscripted a false o i) (λr f=>↥A (letTemporaryGo c o r>>= λ_=>pure r) Q E f) E b:=by
  rw[m o i];exact wpAny_operating (wpAny_mono d (λr f j=>Z2 (wpAny_letTemporaryGo (Z3 j))) λ_ _ x=>x)
 first
  | exact Z3 (Z2 fin)
  | lia
  | lia
def mT{X:Cx}(I:Inv X pins f H s)(g:cP H a y o):s.TypeIs (.ref a) "dict":=by
 rcases g with⟨c,k,e,_,_⟩|⟨c,k,b,e,_,_,_⟩
 .have%[_,_,vs,_|d]:=om I.hok e;exact d.typeIs
 .have%[_,_,xs,_|d]:=rD I.hok e;exact d.typeIs
def uR{X:Cx}(I:Inv X pins i H s)(g:cP H a y o):
 ∀b,Value.ref a= .ref b->∃c,s.heap.get? b=some c/\c.dict=none:=λb q=>by
 cases q;rcases g with⟨d,k,e,_,_⟩|⟨d,k,b,e,_,_,_⟩
 .have%[_,_,vs,_,c,_,_,f,h|_]:=om I.hok e;exact%[c,f|h.2.1]
 .have%[_,_,xs,_,c,_,_,f,h|_]:=rD I.hok e;exact%[c,f|h.2.1]
abbrev BH(d ty:TE):TE:=λb H Q=>d b H λx e=>ty b e λy c=>∃a v,x= .ref a/\cP c a y (some v)/\Q v c
abbrev GA(ty d:TE):TE:=λb H Q=>ty b H λy e=>d b e λx c=>∃a o,x= .ref a/\cP c a y o/\Q (.bl o.isSome) c
abbrev tN(ty d:TE):TE:=λb H Q=>ty b H λy e=>d b e λx c=>∃a o,x= .ref a/\cP c a y o/\Q (.bl (!o.isSome)) c
abbrev ot(d ty e:TE):TS:=λD b H=>e b H λv f=>d b f λx g=>ty b g λy h=>∃a c,x= .ref a/\jD h a y v c/\D.nx b c
section
variable{X:Cx}{o i e value:Expr}{pos pos' tpos:Pos}{td ty tv:TE}
def Ek(f:X.A.units+1<cLine)(j:PE X o td)(hi:PE X i ty)(l:Gz i):PE X (.Subscript o i pos) (BH td ty):=by
 intro pins s c H Q I h;refine Ej PySem.F.slot_dict_getitem.lookup l (thP (j pins s c H _ I h) λu m x n p q q1=>thP (hi pins m c n _ p q1) λA B y r d t ⟨a,v,ex,g,w⟩=>?_);subst ex;obtain rfl:u=Value.ref a:=q;exact%[mT d g|zJ f d g t λC E z b=>%[v,r,z,b|w]]
def GB(c:X.A.units+1<cLine)(hi:PE X i ty)(d:PE X o td):PC X .In i o (GA ty td):=by
 intro pins s b H Q I h;refine thP (hi pins s b H _ I h) λw f y j l m q1=>thP (d pins f b j _ l q1) λu z x n p q ⟨a,r,ex,g,t⟩=>?_
 subst ex;obtain rfl:u=Value.ref a:=q;exact d_in c p g m λA v=>%[.bl r.isSome,n,v,rfl|t]
def zL(c:X.A.units+1<cLine)(hi:PE X i ty)(d:PE X o td):PC X .NotIn i o (tN ty td):=by
 intro pins s b H Q I h;refine thP (hi pins s b H _ I h) λv f y j l m q1=>thP (d pins f b j _ l q1) λu w x n p q ⟨a,z,ex,g,r⟩=>?_
 subst ex;obtain rfl:u=Value.ref a:=q;exact Ei c p g m λA t=>%[.bl _,n,t,rfl|r]
def El(c:X.A.units+1<cLine)(d:PE X o td)(hi:PE X i ty)(f:PE X value tv)(j:swapsWith value (some (.Subscript o i pos')) pos.line X.env=pure false):
 PS X (.Assign [.Subscript o i pos'] value pos) (ot td ty tv):=by
 intro pins s b H D I h;refine wpAny_Assign_Subscript (thP (f pins s b H _ I h) λr l v m n p q1=>thP (d pins l b m _ n q1) λu q x t w z A=>thP (hi pins q b t _ w A) λL M y N B C ⟨a,E,ex,g,G⟩=>?_) j;subst ex;obtain rfl:u=Value.ref a:=z;exact zK c B g C p λO J=>%[b,E,J|G]
end
def BI{P:Program}(h:Heap)(a:sysModules<h.objs.size):bX P w H (h.push {cls:= .type "dict",data:= .dict #[]}) h.objs.size (.dK []):=
 %[Xf _,beq_eq_false_iff_ne.mpr (Ne.symm (Zt a)),[],.nil|Heap.DictOf.new h]
abbrev wR:TE:=λ_ H Q=>∀p,H p=none->Q (.ref p) (upd H p (.dK []))
section
variable{X:Cx}{pos:Pos}
def BJ:PE X (.Dict [] [] pos) wR:=λpins s a H Q I h=>
 wpAny_Dict_empty %[.ref ⇑s,_,I.laid (λ_ _ q=>Z7 _ q) (Zi _) (BI s.heap I.big),rfl|h _ (I.hok.fresh (Zi _))]
end
abbrev l7(a more:List (Key×V)):List (Key×V):=more.foldl (λacc b=>cX acc b.1 b.2) a
def KV.merge:∀{more:List _} {rs:List _} {a:List _} {vs:List _},KV more rs->KV a vs->KV (l7 a more) (merged vs rs):=by
 intro more rs a vs r
 induction r generalizing a vs with
 | nil=>intro q;exact q
 | @cons p q ps qs h t b=>
   intro c;have e:KV (cX a p.1 p.2) (stored vs q.1 q.2):=by
    have:=c.put p.1 h.2;exact h.1▸this
   exact b e
def jK:∀more a,(l7 a more).length<=a.length+more.length
 |[],a=>by show a.length<=a.length+0;lia
 | p::r,a=>by
   have b:=jK r (cX a p.1 p.2);have c:=fO a p.1 p.2;show(l7 _ r).length<=_
   grind
structure M1 (X:Cx) (o:Expr) (m:Str) (apos:Pos) (e:Expr) (cpos:Pos):Prop where
 base:attributeBase o m X.env (eval o X.env)=eval o X.env
 few:((backTo cpos (starEach [e] X.env)).all (λx=>!x.1)&&(backToKw cpos (keywordEach [] X.env)).all (λx=>x.1.isSome)
  && decide (([e]).length+([]:List Keyword).length+(if([]:List Keyword).isEmpty then 0 else 1)<30))=true
 line:(apos.endLine==cpos.line)=true
 trees:backTo cpos (starEach [e] X.env)=[(false,eval e X.env)]
structure M2 (X:Cx) (o:Expr) (m:Str) (apos:Pos) (e f:Expr) (cpos:Pos):Prop where
 base:attributeBase o m X.env (eval o X.env)=eval o X.env
 few:((backTo cpos (starEach [e,f] X.env)).all (λx=>!x.1)&&(backToKw cpos (keywordEach [] X.env)).all (λx=>x.1.isSome)
  && decide (([e,f]).length+([]:List Keyword).length+(if([]:List Keyword).isEmpty then 0 else 1)<30))=true
 line:(apos.endLine==cpos.line)=true
 trees:backTo cpos (starEach [e,f] X.env)=[(false,eval e X.env),(false,eval f X.env)]
section
variable{X:Cx}{pins:ZE}{σ:St}{H:Hp}{s:Shared}
variable{a:Addr}{y d:V}{u r:Value}{o:Option V}{A:Around}{E:ZD}
end
section
variable{X:Cx}{o e f:Expr}{apos cpos:Pos}{td ty tx:TE}
end
section
variable{X:Cx}{pins:ZE}{σ:St}{H:Hp}{s:Shared}
variable{a:Addr}{kvs:List (Key×V)}{A:Around}{E:ZD}
end
section
variable{X:Cx}{pins:ZE}{σ:St}{H:Hp}{s:Shared}
variable{a:Addr}{y:V}{u:Value}{A:Around}{E:ZD}
end
end L2
namespace Att
open PySem PySem.W PySem.Calls PyProof.Rows
def nG{P:Params}:∀(c:ZL) (vs:ZF),WellAll P h vs (c.map WData.int)->IntsAre vs c:=by
 intro c
 induction c with
 | nil=>
   intro vs w;cases w;exact .nil
 | cons n c d=>
   intro vs w;cases w with
   | cons a b=>
     cases a;exact .cons _ _ (d _ b)
def zM{l:OpenLaw}(o:l.most=some n){P:Params}
 (b:l.row.toRowW.claim.pre args=true) (j:WellAll P h e args):
 ∃a vs c,e=[Value.ref a]/\args=[WData.list (c.map WData.int)]/\h.get? a=some {cls:= .type "list",data:= .seq vs.toArray}/\IntsAre vs c/\c.length<=n:=by
 have m:l.pre.holds [] _=true:=(pre_splitW b).2;have%[d,r,rfl,p|q]:=hasAllW_cons ((pre_splitW b).1);obtain rfl:=hasAllW_nil q;have%[xs,rfl|s]:=hasW_list p;have%[c|rfl]:=items_int s;have f:c.length<=n:=by
  unfold OpenLaw.pre at m;have i:=by
   have i:=(holds_andW m).1;rw[o]at i;exact i
  have w:=condW_of i (w_not (w_lt w_lit (w_len_list (w_arg rfl))))
  grind
 cases j with
 | cons t u=>
   cases u;cases t with
   | list v g=>exact%[_,_,c,rfl,rfl,v,nG c _ g|f]
def zN(l:OpenLaw)(args:List WData):l.row.toRowW.claim.post args (.bool true) args=true:=
 postW_of
  (by first|rfl|simp|lia)
  (w_eq_bool (w_res rfl) w_lit) rfl
def attach_call{l:OpenLaw}{n:Nat}{q:Program}
 (H:l.most=some n) (t:d.params.defaults=[])
 (call:∀(w:World) (s₀ b:Shared) (mg u:ZC) (h:Addr) (o:Obj) (v p c:Value) (a:Addr) (vs:ZF) (s:ZL),
  Ground q e [] I w s₀ mg u b.heap->J w b.heap->
  b.heap.get? h=some o->o.data= .func (docDef d.name d.params d.body d.scope v p c)->b.heap.CodeRec p d.name->mg d.name=some (.ref h)->
  b.heap.get? a=some {cls:= .type "list",data:= .seq vs.toArray}->IntsAre vs s->s.length<=n->b.gens= #[]->
  codeAny (model l.prog w) callerA (.call (.ref h) %[[.ref a]|[]]) (λr s'=>r= .ok (.ret (.bool true))/\OldK b.heap s'.heap/\s'.os=b.os/\AllBare s'.gens) b):
 WalkO q e I J l.row.toRowW d [] (λf vs=>PySem.call f vs):=by
 intro w s₀ b mg u G Y h o v p c L kV M N y B z O args C as i E Q A T;obtain rfl:L= .none:=Dflts.none B t;obtain rfl:kV= .none:=Dflts.noKw B;have%[a,vs,s,rfl,rfl,j,g|m]:=zM H i A;refine enter_call (codeAny_mono (call w s₀ b mg u h o v p c a vs s G Y M (fd_plain N) y z j g m O) λr s' U=>?_);have%[rfl,h2,h3|h4]:=U;exact%[.inl %[.bool true,.bool true,[],rfl,λ_=>rfl,.bool true,zN l _|λ_=>%[List.Pairwise.nil|λ_ hm=>(nomatch hm)]],h2,h3|h4]
section
#where
variable{K:Frag}
end
end Att
namespace L2
open PySem PySem.Spec PyProof.Rows
def rE:∀{vs:ZF} {a:ZL},IntsAre vs a->aK (a.map V.int) vs
 | _,_,.nil=> .nil
 | _,_,.cons n t h=> .cons %[t|rfl] (rE h)
abbrev Em(H:Hp):Prop:=∀b,H b=none\/∃o xs,H b=some (.frz o (.lst xs))
def law_call{P:Program}{K:ZA}{mg G:ZC}{vs:ZF}
 (T:K.In c.heap) (p:c.heap.Ns mainGlobals mg) (g:c.heap.Ns builtinsNs G) (I:∀x:Str,x≠"__name__"->G x=bootBuiltins x) (t:c.heap.NoLimit) (hg:c.gens= #[])
 (J:c.heap.get? a=some {cls:= .type "list",data:= .seq vs.toArray}) (hi:IntsAre vs L) (U:L.length<=sizeLine) (hr:cn k callerA)
 (F:∀base:Heap,K.In base->base.Ns mainGlobals mg->eL P w K mg base CX k Y fd [x] sp) (l:∀(s:Shared) (u:Value),BindsTo s fd %[[u]|[]] [(x,u)])
 (M:∀H:Hp,Em H->SqL K H a (L.map V.int)->sp [.ref a] H (λv _=>v= .bl true) λ_ _ _=>False)
 (N:∀H e s',CX [] H c (λ_ _ _=>False) e s'->False):
 codeAny (model P w) callerA (.call (.ref Y) %[[.ref a]|[]]) (λr s'=>r= .ok (.ret (.bool true))/\OldK c.heap s'.heap/\s'.os=c.os/\AllBare s'.gens) c:=by
 have rv:=rE hi;have j:∀H,Em H->SqL K H a (L.map V.int)->HOk P w H c.heap->(∀b,H b≠none->b=a)->(H a≠none->K.lookup a=none)->
  codeAny (model P w) callerA (.call (.ref Y) %[[.ref a]|[]]) (λr s'=>r= .ok (.ret (.bool true))/\OldK c.heap s'.heap/\s'.os=c.os/\AllBare s'.gens) c:=by
  intro H hO hS y hA hK;have f:∀{b:Addr} {o:Obj},c.heap.get? b=some o->H b=none->(zk c.heap H).get? b=some o:=λe n=>A3 e n
  have O:∀{b:Addr} {o:Obj} {es:Array DictEntry} {E:Nat},c.heap.get? b=some o->o.data= .dict es E->H b=none:=λ{b o es E} e d=>by
   grind
  have i:∀{b:Addr} {m:ZC},c.heap.Ns b m->(zk c.heap H).Ns b m:=λ{b m} ⟨o,es,E,e,d,r⟩=>%[o,es,E,f e (O e d),d|r]
  have A:=λb o e=>f (T b o e) (by
   grind)
  refine codeAny_mono ((F _ A (i p)).run callerA [] c H _ _ [.ref a] _ _ hr %[rfl,%[A,i p,%[G,i g|I]|let⟨mc,h1,h2⟩:=t;%[mc,i h1|h2]],λb o e=>Dy e,Nat.le_of_eq (zo _ _),trivial,λb g=>absurd (show b∈([])from g) ∅,y|.of_eq hg] (l c _) (.cons rfl .nil) (M H hO hS)) λr s' h=>?_
  cases r with
  | error e=>exact(N H e s' h).elim
  | ok fl=>
    cases fl with
    | next=>exact False.elim h
    | brk=>exact False.elim h
    | cont=>exact False.elim h
    | ret u=>
      have%[v,H',os,B,un,C,r'|q]:=h;subst q;obtain rfl:u=Value.bool true:=r';refine%[rfl,OldK.of_keep λb o e=>?_,os|B];cases q:H b with
      | none=>exact un.keep b o e q (by intro z;exact absurd (show b∈([])from z) ∅) ∅
      | some u=>
        rcases hO b with z|⟨ob,xs,z⟩
        .rw[q]at z;cases z
        .have%[e1|_]:=y b _ z;have%[e2|_]:=C b _ (un.frzs b ob _ z);rw[e]at e1;cases e1;exact e2
 cases Q:K.lookup a with
 | some o=>
   have e:=T a o Q;rw[J]at e;cases e;refine j _ (λ_=> .inl rfl) (.inr %[_,vs.toArray,_,Q,rfl,rfl,rfl,by rw[Zp,hi.length];exact U|rv]) (λb u z=>!2) (λb z=>absurd rfl z) λz=>absurd rfl z
 | none=>
   refine j (λb=>if b=a then some (.frz {cls:= .type "list",data:= .seq vs.toArray} _)else none) (λb=>?_) (.inl (.inr %[{cls:= .type _,data:= .seq vs.toArray}|if_pos rfl])) (λb u z=>?_) (λb z=>?_) λ_=>Q
   .by_cases g:b=a
    .exact .inr %[_,_|if_pos g]
    .exact .inl (if_neg g)
   .by_cases g:b=a
    .have z':=(if_pos g).symm.trans z;cases z';subst g;exact%[J,by rw[Z6];exact U,vs,_,rv|J]
    simp_all
   .by_cases g:b=a
    .exact g
    .exact absurd (if_neg g) z
def walk_of{l:PySem.W.OpenLaw}{I:(Str->Option Value)->Heap->Prop}{C:World->Heap->Prop}{d:DefRec}{K:Params->ZA}{CX:World->CXT}{sp:World->Sp}{x:Str}
 (J:l.most=some n) (p:n<=sizeLine) (r:d.params.defaults=[]) (L:cn k callerA)
 (M:∀(w:World) (h:Heap),C w h->(K w.params).In h)
 (F:∀(w:World) (mg:ZC) (j:Addr) (h:Heap),(K w.params).In h->h.Ns mainGlobals mg->mg d.name=some (.ref j)->
  ∃t:FuncData,(∀(s:Shared) (u:Value),BindsTo s t %[[u]|[]] [(x,u)])/\
   ∀base:Heap,(K w.params).In base->base.Ns mainGlobals mg->eL l.prog w (K w.params) mg base (CX w) k j t [x] (sp w))
 (y:∀(w:World) (H:Hp) (a:Addr) (m:ZL),m.length<=n->Em H->SqL (K w.params) H a (m.map V.int)->sp w [.ref a] H (λv _=>v= .bl true) λ_ _ _=>False)
 (z:∀(w:World) (H:Hp) (s:Shared) (e:Value) (s':Shared),CX w [] H s (λ_ _ _=>False) e s'->False):
 PySem.W.WalkO q A I C l.row.toRowW d [] (λf vs=>PySem.call f vs):=by
 refine Att.attach_call J r λw s₀ g mg mb j o pm cd N a vs m G Y ho hd O B i c b Q=>?_
 have E:=M w _ Y;have%[t,T|U]:=F w mg j _ E G.T.g B;exact law_call E G.T.g G.T.b G.T.builtins G.T.nolimit Q i c (Yh b p) L U T (λH hO hS=>y w H a m b hO hS) λH e s'=>z w H g e s'
abbrev kE(s:Stmt)(j:Nat):Stmt:=match s with
 | .ClassDef _ _ _ a _ _ _ _ _ _ _=>a.getD j (.Pass %[0,0,0|0])
 | _=> .Pass %[0,0,0|0]
abbrev df(s:Stmt):Arguments:=match s with
 | .FunctionDef _ a _ _ _ _ _ _ _ _=>a
 | _=>{posonlyargs:=[],args:=[],vararg:=none,kwonlyargs:=[],kw_defaults:=[],kwarg:=none,defaults:=[]}
abbrev b8(s:Stmt):List Stmt:=match s with
 | .FunctionDef _ _ b _ _ _ _ _ _ _=>b
 | _=>[]
abbrev ar(s:Stmt):Scope:=match s with
 | .FunctionDef _ _ _ _ _ _ a _ _ _=>a
 | _=>{kind:= .function,names:=[],isGenerator:=false,isCoroutine:=false}
noncomputable abbrev CX0:CXT:=λ_ _ _ _ _ _=>False
noncomputable abbrev E0:XK:=λ_ _ _=>False
def BK{X:Cx}:jZ CX0 X E0:=λ_ _ _ _ _ _ _ h=>h.elim
structure Fun (K:ZA) (x qual:Str) (st:Stmt) (f:Addr) (fd:FuncData):Prop where
 ex:∃oc od kV doc pm an cdv ct osl,
  fd=fnOf x qual (df st) (b8 st) (ar st) .none kV doc pm an cdv ct/\K.lookup f=some %[oc,od,.func fd|osl]/\codeIn K cdv qual=true
 kp:keepIn K (.ref f)=true
section
variable{P:Program}{w:World}{K:ZA}{mg:ZC}{base:Heap}
def Fun.ok{x a:Str}{st:Stmt}{f:Addr}{g:FuncData}{N ps:ZB}{k:Nat}{sp:Sp}(F:Fun K x a st f g)(S:ax N ps (ar st))(len:∀vs H Q E,sp vs H Q E->vs.length=ps.length)
 (c:∀b (A:Around) (outer:List Env) s H (vs:List V) Q E,cn k (A.deeper (envOfC a (ar st) ⇑s f b))->sp vs H Q E->
  ∃t,PSs (tz CX0 P w K mg base N a (ar st) f b A outer s H E).nox (b8 st) t/\t {nx:=λ_ i=>Q .non i,rt:=Q} (start N vs) H):eL P w K mg base CX0 (k+1) f g ps sp:=by
 have%[n,o,kV,j,p,r,b,ct,l,rfl,lk|d]:=F.ex;refine Ij lk d S len λA outer s H vs Q E m e=>?_
 have%[t,h|q]:=c b A outer s H vs Q E m e;exact%[t,h.nox|q]
def Fun.binds{st:Stmt}(F:Fun K x c st f g)
 (h:∀(kV a d:Value) (e:ZI) (b ct:Value) (us:ZF),us.length=ps.length->bindArgs (fnOf x c (df st) (b8 st) (ar st) .none kV a d e b ct) %[us|[]]=pure (ps.zip us)):fN K g ps []:=by
 have%[l,m,kV,a,d,e,b,ct,i,rfl,lk|j]:=F.ex;exact .all (h kV a d e b ct)
def e7{st:Stmt}{kV d e b ct:Value}(l:K.lookup f=some %[i,j,.func (fnOf x a (df st) (b8 st) (ar st) .none kV d e h b ct)|g])
 (c:codeIn K b a=true) (k:keepIn K (.ref f)=true):Fun K x a st f (fnOf x a (df st) (b8 st) (ar st) .none kV d e h b ct):=%[%[i,j,kV,d,e,h,b,ct,g,rfl,l|c]|k]
end
section
variable{X:Cx}
def pv(i:Nat)(b:X.N[i]? =some x)(c:Vis X.env.scope x)(d:(x==("__debug__":Str))=false)
 (a:(x==("__classdict__":Str))=false):PE X (.Name x pos) (qv i):=A5 b c d a
end
def GC{A B:Prop}(h:B):if false=true then A else B:=by
 simp_all
def bG{c A B:Prop}[Decidable c](a:c->A)(b: ¬ c->B):if c then A else B:=by
 simp_all
abbrev ah(H a:Hp):Prop:=∀b o,H b=some o->a b=some o
def ah.refl(H:Hp):ah H H:=λ_ _ h=>h
def ah.trans{H d e:Hp}(a:ah H d)(b:ah d e):ah H e:=λc o h=>b c o (a c o h)
def ah.free{H a:Hp}(e:ah H a){l:Addr}(h:a l=Option.none):H l=Option.none:=by
 cases q:H l with
 | none=>rfl
 | some o=>
   rw[e l o q]at h;cases h
def ah.seq{K:ZA}(e:ah H b)(h:SqL K H a xs):SqL K b a xs:=by
 rcases h with(h|⟨o,h⟩)|h
 .exact .inl (.inl (e _ _ h))
 .exact .inl (.inr %[o|e _ _ h])
 .exact .inr h
section
variable{X:Cx}
end
section
variable{κ:Type}[DecidableEq κ]
def En{a:List (κ×V)}(h:bH a k=some v):k∈a.map (·.1):=by
 have q:(a.any λb=>decide (b.1=k))=true:=by
  rw[iS,h]
  all_goals rfl
 simp_all
def nV:∀{l:List κ} {k:κ},l.Nodup-> ¬ k∈l->(l++[k]).Nodup
 |[],k,_,_=>by simp
 | a::r,k,h,b=>by
   have%[c|d]:=nodup_cons.mp h;refine nodup_cons.mpr %[λm=>?_|nV d λm=>b (mem_cons.mpr (Or.inr m))];rcases Xo m with q|q
   .exact c q
   .exact b (mem_cons.mpr (Or.inl (Xp q).symm))
end
abbrev ou(env:Env):List (Str×NameKind)->List (Str×Addr)->List (Str×Addr)
 |[],acc=>acc
 |(n,k)::r,acc=>ou env r (if k= .free then(n,(env.cells.lookup n).getD 0)::acc else acc)
def oz:∀(names:List (Str×NameKind)) (acc:List (Str×Addr)),(∀y∈names,y.2= .free->∃c,env.cells.lookup y.1=some c)->
 (forIn names acc λx r=>match x with
  |(name,kind)=>if(kind==NameKind.free)=true then do let a<-cellOf env name;pure (ForInStep.yield ((name,a)::r))else pure (ForInStep.yield r):Sem (List (Str×Addr)))=pure (ou env names acc)
 |[],acc,_=>rfl
 |(n,k)::r,acc,h=>by
  have d:=λacc=>oz r acc λy f=>h y (Zk _ f)
  rw[forIn_cons];by_cases b:k= .free
  .subst b;have%[c|e]:=h _ Zm rfl;have g:cellOf env n=pure c:=by unfold cellOf;rw[e]
   simp only[beq_self_eq_true,if_true,g,pure_bind];rw[d];show _=pure (ou env r _);rw[if_pos rfl,e]
   all_goals rfl
  .have i:(k==NameKind.free)=false:=↑b
   simp only[i,Y0,if_false,pure_bind];rw[d];show _=pure (ou env r _);rw[if_neg b]
def Eo(h:∀y∈a.names,y.2= .free->∃c,env.cells.lookup y.1=some c):closureFor a env=pure (ou env a.names []):=by
 unfold closureFor;simp only[bind_pure];exact(oz a.names [] h)
def uS:∀(names:List (Str×NameKind)) (acc:List (Str×Addr)),(∀y∈names,y.2= .free->∃c,env.cells.lookup y.1=some c)->
 (∀y d,acc.lookup y=some d->env.cells.lookup y=some d)->(ou env names acc).lookup x=some c->env.cells.lookup x=some c
 |[],acc,_,a,e=>a x c e
 |(n,k)::r,acc,h,a,e=>by
  refine uS r _ (λy b=>h y (Zk _ b)) (λy d q=>?_) e;by_cases f:k= .free
  .rw[if_pos f,Yn]at q;have%[g|i]:=h _ Zm f;cases b:y==n with
   | true=>
     simp_all
   | false=>rw[b]at q;exact a y d q
  .rw[if_neg f]at q;exact a y d q
def oC:∀(names:List (Str×NameKind)) (acc:List (Str×Addr)),(∃c,acc.lookup x=some c)->∃c,(ou env names acc).lookup x=some c
 |[],_,h=>h
 |(n,k)::r,acc,h=>by
  refine oC r _ ?_;by_cases a:k= .free
  .rw[if_pos a,Yn];cases b:x==n with
   | true=>exact%[_|rfl]
   | false=>exact h
  .rw[if_neg a];exact h
def oE:∀(names:List (Str×NameKind)) (acc:List (Str×Addr)),(x,NameKind.free)∈names->∃c,(ou env names acc).lookup x=some c
 |[],_,h=>by simp at h
 |(n,k)::r,acc,h=>by
  rcases mem_cons.mp h with e|h
  .refine oC r _ ?_
   simp_all
  .exact oE r _ h
abbrev bQ(X:Cx)(a:Scope)(d:ZB)(b:Shared)(c:Hp)(e:List Addr):Cx:=
 {X with
  N:=d
  s₀:=b
  H₀:=c
  env:=compEnvC a (cellsFrom (⇑b+1) a.names (ou X.env a.names [])) ⇑b X.env
  outer:=X.stack
  stack:=X.stack
  ex:=e
  fn:=λx=>decide (a.names.lookup x=some .cell)
  pn:=[]
  xe:=λ_ _=>False}
structure aA (X:Cx) (scope:Scope) (N':ZB) (cap:List (Nat×Nat)):Prop where
 kind:scope.kind= .function
 cell:∀y∈scope.names,y.2= .cell->scope.names.lookup y.1=some .cell
 loc:∀y∈scope.names,y.2= .local->scope.names.lookup y.1=some .local
 free:∀y∈scope.names,y.2= .free->X.env.kindOf y.1=some .cell\/X.env.kindOf y.1=some .free
 capt:∀p∈cap,∃x,N'[p.1]? =some x/\X.N[p.2]? =some x/\scope.names.lookup x=some .free
abbrev rF(n:Nat)(a:List (Nat×Nat))(b:St):St:=(List.range n).map λj=>(a.lookup j).bind λi=>(b[i]?).join
def mU:∀{l:List _} {j i:Nat},l.lookup j=some i->(j,i)∈l
 |[],_,_,h=>by simp at h
 |(a,b)::r,j,i,h=>by
  rw[Yn]at h;cases c:j==a with
  | true=>
    simp_all
  | false=>rw[c]at h;exact Zk _ (mU h)
def mV{env:Env}{names:List (Str×NameKind)}{x:Str}{k:NameKind}(h:(names.map λ(n,k)=>if(k==NameKind.free&&env.scope.kind== .function&&env.kindOf n==some .cell)then(n,NameKind.cell)else(n,k)).lookup x=some k)
 (a:k= .cell\/k= .free):(x,NameKind.free)∈names\/(x,NameKind.cell)∈names:=by
 have m:=PySem.mem_of_lookup h
 grind
def eS:∀names n acc,cellsFrom n names acc=cellsFrom n names [] ++acc
 |[],_,_=>rfl
 |(x,k)::r,n,acc=>by
  unfold cellsFrom
  split
  .rw[eS r _ _,eS r _ [(x,n)],Ze];rfl
  .exact eS r n acc
def l8:∀{names:List (Str×NameKind)} {n:Nat},(x,c)∈cellsFrom n names []->(x,NameKind.cell)∈names
 |[],_,h=>nomatch h
 |(y,k)::r,n,h=>by
  unfold cellsFrom at h
  split at h
  .rw[eS]at h;rcases Xo h with q|q
   .exact Zk _ (l8 q)
   grind
  .exact Zk _ (l8 h)
def mW(h:(cellsFrom n names acc).lookup x=some c):(x,c)∈cellsFrom n names []\/((cellsFrom n names []).lookup x=none/\acc.lookup x=some c):=by
 rw[eS,List.lookup_append]at h;cases e:(cellsFrom n names []).lookup x with
 | none=>rw[e]at h;exact .inr %[rfl|h]
 | some d=>
   rw[e]at h;have:=↑h
   exact this▸ .inl (PySem.mem_of_lookup e)
def kH{env:Env}:∀{names:List (Str×NameKind)} {x:Str},names.lookup x=some .free->
 (names.map λ(n,k)=>if(k==NameKind.free&&env.scope.kind== .function&&env.kindOf n==some .cell)then(n,NameKind.cell)else(n,k)).lookup x=some .cell\/
 (names.map λ(n,k)=>if(k==NameKind.free&&env.scope.kind== .function&&env.kindOf n==some .cell)then(n,NameKind.cell)else(n,k)).lookup x=some .free
 |[],_,h=>by simp at h
 |(n,k)::r,x,h=>by
  have c:= @kH env r x;simp only[Yr];cases a:x==n with
  | true=>
    rw[Yn,a]at h;have d:=Za h;subst d;by_cases b:((NameKind.free==NameKind.free)&&env.scope.kind== .function&&env.kindOf n==some .cell)=true
    .rw[if_pos b,Yn,a];exact .inl rfl
    .rw[if_neg b,Yn,a];exact .inr rfl
  | false=>
    rw[Yn,a]at h;by_cases b:(k==NameKind.free&&env.scope.kind== .function&&env.kindOf n==some .cell)=true
    .rw[if_pos b,Yn,a];exact(c h)
    .rw[if_neg b,Yn,a];exact(c h)
section
variable{X:Cx}{pins:ZE}{σ:St}{H:Hp}{s:Shared}
def Inv.kindL(I:Inv X pins σ H s)(h:X.env.kindOf x=some .cell\/X.env.kindOf x=some .free):∃c,X.env.cells.lookup x=some c:=I.ok.has x h
def Inv.block{a:Scope}{C:ZB}{fp:List Addr}{f:Heap}{tk:Nat}(S:aA X a C n)(I:Inv X pins σ H s)(O:∀b∈fp,nF X pins H b)(J:∀b∈fp,b<⇑s)
 (hn:f.Ns ⇑s (λ_=>none)) (A:∀b u,s.heap.get? b=some u->f.get? b=some u) (nc:CellsOk f (⇑s+1) (cellsFrom (⇑s+1) a.names [])):
 Inv (bQ X a C s H fp) [] (rF C.length n σ) H {s with heap:=f,toks:=tk}:=by
 have h:∀x c,(ou X.env a.names []).lookup x=some c->X.env.cells.lookup x=some c:=λx c e=>uS a.names [] (λy hy hk=>I.kindL (S.free y hy hk)) (λ_ _ q=>by simp at q) e
 have o:∀x c,(cellsFrom (⇑s+1) a.names (ou X.env a.names [])).lookup x=some c->((x,c)∈cellsFrom (⇑s+1) a.names []/\f.IsCell c none/\⇑s+1<=c)\/(X.env.cells.lookup x=some c/\c<⇑s):=λx c e=>by
  rcases mW e with q|⟨_,q⟩
  .exact .inl %[q|nc.empty x c q]
  .have q':=h x c q;have%[v,G,L|_]:=I.cell x c q';exact .inr %[q'|Zv L]
 refine%[%[I.ok.mod,S.kind,I.ok.glob,I.ok.blt,Zi _,λx y c h1 h2=>?_,λx hx=>?_,λx c hq e=>?_,I.ok.hd,I.ok.frames,.inl rfl,λb g=>%[?_|λx c e=>?_],I.bs,
  Yh I.ok.bsz I.sz,λb u e g=>?_,λb g Q=>?_,I.stack|I.stkFree],rfl,I.bare,Un.kept A,%[_,hn|λj x v e1 e2 e3=>?_],λx c e=>?_,I.hok.fresh (Zi _),λx c e=>?_,λp hp=>?_,I.hok.kept A|?_]
 .rcases o x c h1 with⟨q1,_,q2⟩|⟨q1,q2⟩<;> rcases o y c h2 with⟨r1,_,r2⟩|⟨r1,r2⟩
  .exact name_of_addr nc.apart q1 r1
  .exact absurd r2 (Nat.not_lt_of_le (Yh (Yg _) q2))
  .exact absurd q2 (Nat.not_lt_of_le (Yh (Yg _) r2))
  .exact I.ok.inj x y c q1 r1
 .have:(x,NameKind.free)∈a.names\/(x,NameKind.cell)∈a.names:=by
   rcases hx with q|q
   .exact mV q (.inl rfl)
   .exact mV q (.inr rfl)
  refine isSome_iff_exists.mp (cellsFrom_some a.names _ _ ?_);rcases this with q|q
  .exact .inr (isSome_iff_exists.mpr (oE a.names [] q))
  .exact .inl (S.cell _ q rfl)
 .rcases mW e with q|⟨q,_⟩
  .have:=(nc.empty x c q).2;show ⇑s<=c
   lia
  .have:=cellsFrom_some a.names (⇑s+1) [] (.inl (Zo hq));rw[q]at this;cases this
 .exact Zt (J b g)
 .rcases o x c e with⟨_,_,q⟩|⟨q,_⟩
  .exact λz=>absurd (J b g) (Nat.not_lt_of_le (Yh (Yg _) (z▸q)))
  .exact(O b g).2.2.2.2.1 x c q
 .rcases(O b g).2.2.2.1 with z|z
  .exact I.ok.noex b u e z
  .exact absurd (Zg (Zv e) (Yh I.ok.bsz z)) (Xk _)
 .rcases mem_cons.mp (I.stkSub b Q)with z|z
  .exact(O b g).2.1 z
  .exact(O b g).2.2.1 z
 ·
  have hj:∃i,n.lookup j=some i/\σ[i]? =some (some v):=by
   have t:((List.range C.length).map _)[j]? =some _:=e2;rw[Zl]at t;cases hr:(List.range C.length)[j]? with
   | none=>rw[hr]at t;cases t
   | some j'=>
     rw[hr]at t;have ab:j'=j:=by
      have:=Xn hr;have%[h1|h2]:=this;simpa using h2.symm
     subst ab;have B:((n.lookup j').bind _)=some v:=Za t;cases T:n.lookup j' with
     | none=>rw[T]at B;cases B
     | some i=>
       rw[T]at B;refine%[i,rfl|?_];have U:(σ[i]?).join=some v:=B;cases Q:σ[i]? with
       | none=>rw[Q]at U;cases U
       | some w=>rw[Q]at U;have:w=some v:=U;rw[this]
  have%[i,T|hi]:=hj;have%[y,n1,n2|Y]:=S.capt _ (mU T);have ac:=Za (n1.symm.trans e1);subst ac;have M:=S.free _ (PySem.mem_of_lookup Y) rfl;have%[m,hm|hl]:=I.loc;have%[u,r|l]:=hl i y v n2 hi (by rcases M with q|q;exact .inr (.inl q);exact .inr (.inr q));refine%[u,r|.inr %[?_|?_]]
  .exact kH Y
  .rcases l with⟨k,_⟩|⟨_,c,E,hv⟩
   .rcases M with q|q
    .rw[k]at q;cases q
    .rw[k]at q;cases q
   .have%[c'|N]:=oE a.names [] (PySem.mem_of_lookup Y);have:=h y c' N;rw[E]at this;have e5:=Za this;subst e5;have%[G,L|hd]:=hv;refine%[c,?_,G,A c G L|hd];show(cellsFrom _ _ _).lookup y=some c;rw[eS,List.lookup_append];cases e6:(cellsFrom _ a.names []).lookup y with
    | none=>simpa using N
    | some d=>
      have:=S.cell _ (l8 (PySem.mem_of_lookup e6)) rfl;rw[Y]at this;cases this
 .rcases o x c e with⟨_,q,_⟩|⟨q,_⟩
  .exact%[none|q]
  .have%[v,G,L|hd]:=I.cell x c q;exact%[v,G,A c G L|hd]
 .rcases o x c e with⟨_,_,q⟩|⟨q,_⟩
  .exact I.hok.fresh ⋯
  .exact I.freeC x c q
 .exact absurd (show p∈([])from hp) ∅
 .show(rF C.length n σ).length=C.length;unfold rF;rw[Z6,Yk]
end
abbrev PTs(X:Cx)(a:List Expr)(t:TT):Prop:=
 ∀pins s (b:St) H Q,Inv X pins b H s->t b H Q->
  (wpAny (model X.prog X.w) X.A) (forIn a true λc r=>if r=true then do let ok<-isTrue c X.env (eval c X.env);pure (ForInStep.yield ok)else pure (ForInStep.yield r)) (TP X pins b Q) X.xe s
abbrev uT:TT:=λ_ H Q=>Q true H
def Ep{X:Cx}:PTs X [] uT:=λ_ _ _ H _ I h=>wpAny_tests_nil %[H,I|h]
def Er{X:Cx}(h:PT X c t):PTs X [c] t:=λpins s a H Q I q=>wpAny_tests_one (h pins s a H Q I q)
abbrev rG(q:TI)(n:Nat)(f:List (Nat×Nat))(g:TG)(r:TT)(s:TE):TE:=λh H Q=>q h H λJ j=>∀D,j D=none->∃W:Nat->Nat->List V->St->Hp->Prop,
 (∃m,W 0 m [] (rF n f h) (upd j D (.lst [])))/\∀i m ys c d,W i m ys c d->(J.stop i d/\Q (.ref D) d)\/
  (J.go i d/\∀x l,J.yld i d x l->g x c l λa t=>r a t λb o=>if b=true then s a o λy p=>∃zs e,p D=some (.lst zs)/\zs.length<sizeLine/\e<m/\W (i+1) e (ys++[y]) a (upd p D (.lst (zs++[y])))
   else∃e,e<m/\W (i+1) e ys a o)
def Es{code:Value}
 (j:∀h',h'.Ns ⇑s (λ_=>none)->(∀b u,s.heap.get? b=some u->h'.get? b=some u)->CellsOk h' (⇑s+1) (cellsFrom (⇑s+1) a.names [])->
  Q (newEnv a ⇑s d (cellsFrom (⇑s+1) a.names f) g h code (some env) c) {s with heap:=h'}):wpAny M A (newFunctionEnv a d f [] g h code (some env) c) Q E s:=by
 refine Z2 (wpAny_alloc (Z2 (wpAny_layCells _ (λname kind i=>by lia) _ _ _ _ ?_)));have ok:=cellsFrom_ok a.names (s.heap.push {cls:= .type "dict",data:= .dict #[]}) (⇑s+1) [] %[λ_ _ l=>(nomatch l)|List.Pairwise.nil] ∅;rw[Zq]at ok;rw[Zq ..];exact Z2 (Z3 (Z3 (j _ ((Heap.Ns.new s.heap _).keeps (pushCells_keeps _ _)) (λb u e=>pushCells_keeps _ _ b u (Z7 _ e)) ok)))
def rH{X:Cx}{a:Scope}(S:aA X a N' a1)(hc:X.calm=true)(hi:PI X tg cf wi)
 (hg:∀L M A,PG (bQ X a N' L M A) tg g) (ht:∀L M A,PTs (bQ X a N' L M A) a2 tc) (he:∀L M A,PE (bQ X a N' L M A) a3 te)
 (hs:∀x,foldedSetIterable cf X.env x=pure x) (I:Inv X pins σ H s) (h:rG wi N'.length a1 g tc te σ H Q)
 (a4:∀(D C:Addr) (O:Hp) (s6:Shared) (fl:Flow) (m:ZC),s6.heap.Ns C m->nF X pins O C->(∀h',SameBut C s6.heap h'->Inv X pins σ O {s6 with heap:=h'})->Q (.ref D) O->compPost (model X.prog X.w) X.A X.xe use QQ (.ref D) C (.ok fl) s6):
 (wpAny (model X.prog X.w) X.A) (comprehension (.ListComp a3 [%[tg,cf,a2|0]] a pos) a X.env b7 (newList []) false (eval cf X.env) use) QQ X.xe s:=by
 refine wpAny_comprehension_free (use:=use) rfl hs (Eo (λy hy hk=>I.kindL (S.free y hy hk))) S.kind S.loc (thn (hi pins s σ H _ I h) λv s1 h1=>thn h1 λb9 l h2=>?_);have%[it,A,tn,J,H2,e,I2,T,a5,f2|R]:=h2;subst e;refine wpAny_newObj_type (Es λU Y N ab=>?_);dsimp only at Y N ab ⊢;have I3:Inv X pins σ (upd H2 ⇑l (.lst [])) {l with heap:=l.heap.push {cls:= .type "list",data:= .seq ([]:ZF).toArray}}:=I2.lnew (its:=[]) (t':=l.toks) .nil (Xf _);have hD:H2 ⇑l=none:=I2.fresh;have aj:∀b∈A,b<⇑l:=λb j=>by have%[o,ho|_]:=T.obj 0 _ a5 b j;exact Zv ho
 generalize aq:({l with heap:=l.heap.push {cls:= .type "list",data:= .seq ([]:ZF).toArray}}:Shared)=B at I3
 have G:B.heap=l.heap.push {cls:= .type "list",data:= .seq ([]:ZF).toArray}:=by rw[<-aq]
 have a6:⇑B=⇑l+1:=by rw[G,Zq]
 have f3:∀b∈A,nF X pins (upd H2 ⇑l (.lst [])) b:=λb j=>%[(am (Zt (aj b j)))▸(f2 b j).1|(f2 b j).2]
 have%[W,%[m0|w0]|a7]:=R _ hD;have ae:∀b u,B.heap.get? b=some u->U.get? b=some u:=G▸N;have I4:Inv (bQ X a N' B (upd H2 ⇑l (.lst [])) A) [] (rF N'.length a1 σ) (upd H2 ⇑l (.lst [])) {B with heap:=U,toks:=B.toks}:=I3.block S f3 (λb j=>a6▸Yo (aj b j)) (G▸Y) ae (G▸ab);have bb:tn 0 U:=T.keep _ _ _ a5 λb j o e=>ae b o (G▸Z7 _ e)
 have ca:(bQ X a N' B (upd H2 ⇑l (.lst [])) A).env=compEnvC a _ ⇑B X.env:=rfl;have ag:∀{H':Hp},(∀b∈A,H' b=none)->∀b∈A,nF _ [] H' b:=λhn b j=>
  %[hn b j,(I4.ok.exf b j).1,I4.ok.exfs b j,.inl j,(I4.ok.exf b j).2|λp hp=>absurd (show p∈([]:ZE)from hp) ∅]
 have al:codeAny (model X.prog X.w) X.A (.compLoop (.ListComp a3 [%[tg,cf,a2|0]] a pos) 0 (.ref it) (.ref ⇑l) (bQ X a N' B (upd H2 ⇑l (.lst [])) A).env)
  (compPost (model X.prog X.w) X.A X.xe use QQ (.ref ⇑l) ⇑B) {B with heap:=U,toks:=B.toks}:=by
  refine codeAny_loop rfl (λn s'=>∃i ys bc H',Inv _ [] bc H' s'/\tn i s'.heap/\(∀b∈A,H' b=none)/\W i n ys bc H') ?_ m0 %[0,[],_,_,I4,bb,λb j=>(f3 b j).1|w0];intro n s5 %[i,ys,ai,O,I5,bf,bl|w5];show wpAny _ X.A _ _ _ s5;refine wpAny_noted ?_;rw[compTurn_list];refine Z2 (wpAny_standAt (Z2 ?_));rcases a7 i n ys ai O w5 with⟨stop,q⟩|⟨go,step⟩
  .refine thn (T.done (bQ X a N' B (upd H2 ⇑l (.lst [])) A) rfl rfl rfl hc i [] s5 ai O _ I5 (ag bl) bf stop) λr s6 ⟨hr,I6⟩=>?_
   subst hr;refine Z3 ?_;have%[m6,bp|_]:=I6.loc;refine a4 ⇑l ⇑B O s6 _ m6 bp (I2.fpOk (a6▸Yg _) I6.free) (λh' sb=>?_) q;have u6:Un (frs X.stack) A (upd H2 ⇑l (.lst [])) O B.heap s6.heap:=I6.base;have as:∀b u,B.heap.get? b=some u->b≠⇑B:=λb u e=>Zt (Zv e)
   have u7:Un (frs X.stack) A (upd H2 ⇑l (.lst [])) O B.heap h':=%[λb u e n j hx=>(sb.2 b (as b u e)).trans (u6.keep b u e n j hx),λb u e n j hx=>by
    have%[sl|q]:=u6.slot b u e n j hx;exact%[sl|(sb.2 b (as b u e)).trans q],u6.free,λb u e hx=>by
    have%[o'|q]:=u6.there b u e hx;exact%[o'|(sb.2 b (as b u e)).trans q],u6.tups,u6.frzs|u6.tbls]
   have bt:HOk X.prog X.w O h':=λb u e=>by
    have bm:∀c w,O c=some w->c≠⇑B:=λc w q z=>by
     have:O ⇑B=none:=I6.free;rw[z,this]at q;cases q
    refine(I6.hok b u e).stay (λc w bU q=>(sb.2 c ?_).trans q) (λ_ q=>q) λ_ _ q=>q
    rcases bU with z|z
    .exact z▸bm b u e
    .exact bm c _ z
   exact I2.call' (s':={s6 with heap:=h'}) (ch:=A) (by show s6.os=l.os;rw[I6.os,<-aq];rfl) ((Un.laid (λb u e=>G▸Z7 _ e) (Zi _) hD).trans u7) bt I6.bare λb j=>%[(f2 b j).2.2.2.1,(f2 b j).2.1,(f2 b j).2.2.2.2.1|(f2 b j).2.2.2.2.2]
  .refine thn (T.item (bQ X a N' B (upd H2 ⇑l (.lst [])) A) rfl rfl rfl hc i [] s5 ai O _ I5 (ag bl) bf go) λr s6 ⟨u,hr,h6⟩=>?_
   subst hr;refine Z2 (thn h6 λ_ s7 ⟨x,H7,I7,r7,y7,a0,b0⟩=>?_);have ac:∀{α:Type} {t:Sem α} {Q1:α->Shared->Prop} {E2:ZD} {s':Shared},(wpAny (model X.prog X.w) X.A) t Q1 (λ_ _=>False) s'->(wpAny (model X.prog X.w) X.A) t Q1 E2 s':=λh=>wpAny_mono h (λ_ _ q=>q) λ_ _ f=>f.elim
   have an:∀{E:St} {H8:Hp} {s8:Shared},Inv (bQ X a N' B (upd H2 ⇑l (.lst [])) A) ([] ++tq A s7.heap) E H8 s8->
    Inv _ [] E H8 s8/\tn (i+1) s8.heap/\∀b∈A,H8 b=none:=λ{E H8 s8} I8=>by
    refine%[I8.unpinned,T.keep _ _ _ a0 λb j o e=>(I8.pin (b,o) (Yv _ (Yv _ (eY j e)))).1|λb j=>?_];have%[o,e|d]:=T.obj _ _ a0 b j;exact(I8.pin (b,o) (Yv _ (Yv _ (eY j e)))).2.1
   refine Z2 (ac (thn (hg B _ A _ s7 ai H7 x u _ (I7.pinned (ag b0) (T.obj _ _ a0)) r7 (step x H7 y7)) λ_ s8 ⟨E,H8,I8,q8⟩=>Z2 (ac (thT (ht B _ A _ s8 E H8 _ I8 q8) λb s9 H9 I9 q9=>?_))));cases b with
   | false=>
     have%[m',hm|w9]:=(q9)
     have%[J1,J2|J3]:=an I9;exact Z3 %[rfl,m',hm,i+1,ys,E,H9,J1,J2,J3|w9]
   | true=>
     have q9:=(q9:te E H9 λy O=>∃zs m',O ⇑l=some (.lst zs)/\zs.length<sizeLine/\m'<n/\W (i+1) m' (ys++[y]) E _)
     refine Z2 (Z2 (ac (thP (he B _ A _ s9 E H9 _ I9 q9) λu2 b1 y bn b2 b3 ⟨zs,m',hz,hl,hm,b4⟩=>Z2 (ac (thP (rB _ b1 E bn (.ref ⇑l) [y] (.ref ⇑l) [u2] (λv H'=>v= .non/\H'=upd bn ⇑l (.lst (zs++[y]))) b2 rfl (.cons b3 .nil) %[_,rfl,_,hz,hl,rfl|rfl]) λu3 cb v3 cd b5 cl ⟨co,b6⟩=>?_)))));subst b6;have%[J1,J2|J3]:=an b5;exact Z3 (Z3 %[rfl,m',hm,i+1,ys++[y],E,_,J1,J2,J3|b4])
 subst aq;exact(codeAny_compStart_list al (T.self _ 0 _ _ _ bb al))
def Et{X:Cx}(S:aA X a e f)(n:X.calm=true)(hi:PI X l cf o)
 (p:∀b c d,PG (bQ X a e b c d) l g) (r:∀b c d,PTs (bQ X a e b c d) i t) (u:∀b c d,PE (bQ X a e b c d) j v)
 (w:∀x,foldedSetIterable cf X.env x=pure x):
 PE X (.ListComp j [%[l,cf,i|0]] a pos) (rG o e.length f g t v):=by
 intro pins s B H Q I h;exact rH S n hi p r u w I h λD C y E G m z _ k q=>%[m,z|λh' A=>%[.ref D,y,k h' A,rfl|q]]
abbrev Its(z:Str):It:=⟨λi _=>i<z.cps.size,λi H x a=>a=H/\∃c,z.cps[i]? =some c/\x= .str ⟨#[c]⟩,λi _=>z.cps.size<=i⟩
def wS{P:Program}{K:ZA}(it:Addr)(z:Str)(t:Tok):oi P w K tg (Its z) [it] it (λi h=>h.IsStrIter it "str_ascii_iterator" z t i) where
 mem:=by simp
 obj:=λi h st b hb=>by
  have e:=↑hb
  subst e;have%[o,e,c|d]:=st;exact%[o,e|λv z=>by lia]
 keep:=λi h h' st k=>by
  have%[o,e|r]:=st;exact%[o,k it ∅ o e|r]
 item:=by
  intro X hP hw hK hc i pins s σ H E I hf st hg;have hlt:i<z.cps.size:=hg;have%[f0,f1,f2,f3,f4|f5]:=hf it ∅;refine wpAny_pyNext_ascii_item st (c:=z.cps[i]) ∅ λh' st' sb=>?_
  have%[o,e,c|d]:=id st';exact%[_,rfl|qZ e c d (!1) %[.str _,H,(I.turned (λb o hb e=>(sb.2 b hb).trans e) f0 f1 f3 f4 f5),%[_|rfl],%[rfl,_,by simp|rfl],st'|λb hb=>(hf b hb).1]]
 done:=by
  intro X hP hw hK hc i pins s σ H E I hf st hg;have hle:z.cps.size<=i:=hg;have%[f0,f1,f2,f3,f4|f5]:=hf it ∅;exact wpAny_pyNext_ascii_end (I.ok.hd hc) st (by simp[hle]) λh' eb=>%[rfl|I.turned (λb o hb e=>eb b o hb e) f0 f1 f3 f4 f5]
 self:=λ_ _ _ _ _ st h=>wpAny_pyIter_striter_ascii st h
def zO{P:Program}{K:ZA}(it:Addr)(z:Str)(t:Tok):oi P w K tg (Its z) [it] it (λi h=>h.IsStrIter it "str_iterator" z t i) where
 mem:=by simp
 obj:=λi h st b hb=>by
  have e:=↑hb
  subst e;have%[o,e,c|d]:=st;exact%[o,e|λv z=>by rw[d]at z;cases z]
 keep:=λi h h' st k=>by
  have%[o,e|r]:=st;exact%[o,k it ∅ o e|r]
 item:=by
  intro X hP hw hK hc i pins s σ H E I hf st hg;have hlt:i<z.cps.size:=hg;have%[f0,f1,f2,f3,f4|f5]:=hf it ∅;refine wpAny_pyNext_wide_item st (c:=z.cps[i]) ∅ λh' st' sb=>?_
  have%[o,e,c|d]:=id st';exact%[_,rfl|qZ e c d (!1) %[.str _,H,(I.turned (λb o hb e=>(sb.2 b hb).trans e) f0 f1 f3 f4 f5),%[_|rfl],%[rfl,_,by simp|rfl],st'|λb hb=>(hf b hb).1]]
 done:=by
  intro X hP hw hK hc i pins s σ H E I hf st hg;have hle:z.cps.size<=i:=hg;have%[f0,f1,f2,f3,f4|f5]:=hf it ∅;exact wpAny_pyNext_wide_end (I.ok.hd hc) st (by simp[hle]) λh' eb=>%[rfl|I.turned (λb o hb e=>eb b o hb e) f0 f1 f3 f4 f5]
 self:=λ_ _ _ _ _ st h=>wpAny_pyIter_striter_wide st h
abbrev CK(D:Addr)(n i:Nat)(Pv:Nat->List V->St->Hp->Prop)(ys:List V)(b:St)(y:V)(H:Hp):Prop:=
 ∃zs a,H D=some (.lst zs)/\zs.length<sizeLine/\a<n-i/\(a=n-(i+1)/\i+1<=n/\Pv (i+1) (ys++[y]) b (upd H D (.lst (zs++[y]))))
abbrev CN(n i:Nat)(Pv:Nat->List V->St->Hp->Prop)(ys:List V)(b:St)(H:Hp):Prop:=∃a,a<n-i/\(a=n-(i+1)/\i+1<=n/\Pv (i+1) ys b H)
def CK.mk{Pv:Nat->List V->St->Hp->Prop}(hi:i<n)(a:H D=some (.lst zs))(b:zs.length<sizeLine)(p:Pv (i+1) (ys++[y]) c (upd H D (.lst (zs++[y])))):CK D n i Pv ys c y H:=
 %[zs,n-(i+1),a,b,⋯,rfl,hi|p]
def CN.mk{Pv:Nat->List V->St->Hp->Prop}(hi:i<n)(p:Pv (i+1) ys a H):CN n i Pv ys a H:=%[n-(i+1),⋯,rfl,hi|p]
def bh{J:It}{g:TG}{u:TT}{v:TE}{w:Hp->Prop}(Pv:Nat->List V->St->Hp->Prop)(z:Pv 0 [] c H)(s:∀i ys c H,i<n->Pv i ys c H->J.go i H)(d:∀ys c H,Pv n ys c H->J.stop n H)
 (A:∀i ys c H,i<n->Pv i ys c H->∀x f,J.yld i H x f->g x c f λa t=>u a t λb h=>if b=true then v a h λy r=>CK D n i Pv ys a y r else CN n i Pv ys a h) (B:∀ys c H,Pv n ys c H->w H):
 ∃W:Nat->Nat->List V->St->Hp->Prop,(∃m,W 0 m [] c H)/\∀i m ys j l,W i m ys j l->(J.stop i l/\w l)\/
  (J.go i l/\∀x f,J.yld i l x f->g x j f λa t=>u a t λb h=>if b=true then v a h λy r=>∃zs o,r D=some (.lst zs)/\zs.length<sizeLine/\o<m/\W (i+1) o (ys++[y]) a (upd r D (.lst (zs++[y])))
   else∃o,o<m/\W (i+1) o ys a h):=by
 refine%[λi m ys c H=>m=n-i/\i<=n/\Pv i ys c H,%[n,by simp,Xf _|z]|?_];intro i m ys c H %[rfl,hi|p];by_cases q:i<n
 .exact .inr %[s i ys c H q p|λx f y=>A i ys c H q p x f y]
 .have e:i=n:=by lia
  subst e;exact .inl %[d ys c H p|B ys c H p]
def yd:∀{bs:List Bool} {us:ZF} {i:Nat} {v:Value},aK (bs.map V.bl) us->us[i]? =some v->∃b,bs[i]? =some b/\v= .bool b
 |[],_,_,_,r,e=>by cases r;simp at e
 | b::bs,_,i,v,r,e=>by
   cases r with
   | cons a c=>
     cases(a);cases i with
     | zero=>simp at e;exact%[b,rfl|e.symm]
     | succ i=>
       have%[d,f|g]:=yd c (e);exact%[d,f|g]
def oF(bs:List Bool):(List.range bs.length).all (λi=>bs.getD i false)=bs.all id:=by
 have e:(List.range bs.length).map (λi=>bs.getD i false)=bs:=by
  apply ext_getElem
  .simp
  .intro i a b
   simp_all
 have:(List.range bs.length).all (λi=>bs.getD i false)=((List.range bs.length).map λi=>bs.getD i false).all id:=by rw[all_map];rfl
 rw[this,e]
def BL{X:Cx}(g:X.calm=true):ck X (.builtin "all") (λxs H Q=>∃(p:Addr) (bs:List Bool),xs=[.ref p]/\SqL X.K H p (bs.map V.bl)/\Q (.bl (bs.all id)) H):=by
 intro pins s z H xs us Q I r h;have%[p,bs,rfl,j|q]:=h;have%[u,rfl|l]:=du r;cases l;have%[its,d,pl|A]:=I.list j;have m:X.A.in1.handled=none:=I.ok.hd g;have a:bs.length=its.toArray.size:=by rw[Zp,<-d.length,Z6]
 refine call_all_walk (wpAny_pyIter_list pl.isList %[⇑s,[⇑s,p],[⇑s],its.toArray.size,_,_,λi=>bs.getD i false,rfl,Walks.list m _ p (Zt (by have%[o,n|_]:=pl.isList;exact Zv n)) its.toArray,%[%[_,Zj _ rfl,rfl|rfl]|pl.isList.push _],?_|?_])
 .intro i v s' t B w c;have%[b,f|rfl]:=yd d ↑w;have e:bs.getD i false=b:=!2
  have c:t (bs.getD i false) s':=c;rw[e]at c;exact wpAny_truthy_bool c
 .intro h' tk y;rw[<-a,oF];refine%[.bl _,H,I.kept λb o e=>y b o ?_ (Z7 _ e),rfl|q];have:=Zv e;intro f;exact absurd (Xp f) (Zt this)
abbrev GD:V->Option Int->Option Int->Hp->VK->Prop:=λx lo hi H Q=>∃z,x= .str z/\z.length<=sizeLine/\Q (.str (Txt.slice z lo hi)) H
def GE{X:Cx}:SlR X GD:=by
 intro pins s g H x v m n lo hi o Q I e a pl c h;have%[z,rfl,f|q]:=h;have%[t|rfl]:=e;refine%["str",_,F.slot_str_getitem.lookup,typeIs_str _ _ _|?_];have fin:∀l u,(Txt.slice z l u).length<=sizeLine:=λl u=>Yh (Txt.slice_le z _ _) f
 cases pl with
 | none=>
   cases c with
   | none=>exact wpAny_getItem_str_slice (l:=none) (u:=none) (st:=none) a rfl (post_val_or_str %[fin _ _|λt' k=>%[.str (Txt.slice z _ _),H,I.tok k,%[_|rfl]|q]])
   | int j b=>exact wpAny_getItem_str_slice (l:=none) (u:=some (j,b)) (st:=none) a rfl (post_val_or_str %[fin _ _|λt' k=>%[.str (Txt.slice z _ _),H,I.tok k,%[_|rfl]|q]])
 | int i d=>
   cases c with
   | none=>exact wpAny_getItem_str_slice (l:=some (i,d)) (u:=none) (st:=none) a rfl (post_val_or_str %[fin _ _|λt' k=>%[.str (Txt.slice z _ _),H,I.tok k,%[_|rfl]|q]])
   | int j b=>exact wpAny_getItem_str_slice (l:=some (i,d)) (u:=some (j,b)) (st:=none) a rfl (post_val_or_str %[fin _ _|λt' k=>%[.str (Txt.slice z _ _),H,I.tok k,%[_|rfl]|q]])
def gU:∀{ss:ZB} {us:ZF},aK (ss.map V.str) us->StrsAre us ss
 |[],_,r=>by cases r;exact .nil
 | x::ss,_,r=>by
   cases r with
   | cons a b=>
     have%[t|e]:=a;subst e;exact .cons x t (gU b)
def rJ:∀{ss:ZB} {us:ZF},StrsAre us ss->aK (ss.map V.str) us
 | _,_,.nil=> .nil
 | _,_,.cons x t h=> .cons %[t|rfl] (rJ h)
abbrev ye(K:ZA):V->List V->Hp->VK->Prop:=λx vs H Q=>∃z l ss,x= .str z/\vs=[.ref l]/\SqL K H l (ss.map V.str)/\(ss.map (·.length)).sum+ss.length*z.length<=16777216/\Q (.str (Txt.join z ss)) H
def Eu{X:Cx}:MtM X "str.join" (ye X.K):=by
 intro pins s e H x vs v us Q I a b h;have%[z,l,ss,rfl,rfl,c,hw|q]:=h;have%[t|rfl]:=a;have%[u,rfl|d]:=b.one;cases d;have%[its,r,pl|f]:=I.list c;exact PyProof.Rows.join_list pl.isList (gU r) hw λt' k=>%[.str _,H,I.tok k,%[_|rfl]|q]
def BM{X:Cx}:ck X (.builtin "isinstance") (λxs H Q=>∃x n t b,xs=[x,.ty n]/\jY X.K H x t/\kitOne X.K t (.type n)=some b/\Q (.bl b) H):=by
 intro pins s d H xs us Q I r h;have%[x,n,t,b,rfl,ty,e|q]:=h;have%[u,f,rfl,c|a]:=kz r;cases(a);exact zD I c ty e λtk=>%[.bl b,H,I.tok tk,rfl|q]
def rK(z:Str)(c i:Nat):Builtin.Str.subAt z ⟨#[c]⟩ i=decide (z.cps[i]? =some c):=by
 unfold Builtin.Str.subAt;have b:(⟨#[c]⟩:Str).length=1:=rfl;rw[b];by_cases hi:i<z.cps.size
 .have e:z.cps.extract i (i+1)= #[z.cps[i]]:=by
   apply Array.ext
   .simp;lia
   .intro j d a;simp at a;subst a;simp
  rw[e,Array.getElem?_eq_getElem hi];by_cases f:z.cps[i]=c
  .subst f;simp
  simp_all
 .have e:z.cps.extract i (i+1)= #[]:=by
   apply Array.ext
   .simp;lia
   .intro j d a;simp at a
  rw[e,Array.getElem?_eq_none ⋯];simp
def BN(z:Str)(c:Nat):(!(Builtin.Str.occurrences z ⟨#[c]⟩ 0 z.length 1).isEmpty)=decide (c∈z.cps.toList):=by
 rcases StrLaws.occ_head z _ 1 (Zi _)with⟨e,d⟩|⟨i,r,e,f,_⟩
 .rw[e];refine(Zh λg=>?_).symm;have%[j,h|l]:=List.mem_iff_getElem.mp g;have a:=↑h
  refine d j %[?_|?_]
  .show j+1<=z.cps.size;lia
  .rw[rK];exact Zf (by rw[Array.getElem?_eq_getElem a];simpa using l)
 .rw[e];refine(Zf ?_).symm;have b:=f.2;rw[rK]at b;have:=Array.mem_of_getElem? (Zo b);simpa using this
section
variable{X:Cx}
nonrec abbrev Ft:R2:=λx y H Q=>∃i j,x= .str i/\y= .str j/\i.length+j.length<=sizeLine/\Q (.str (i++j)) H
nonrec abbrev BO:R2:=λx y H Q=>rI Bm (λi j=> .int (i*j)) x y H Q\/Gx x y H Q
def Ev:OpR X (binaryOp .Mult) BO:=Bn.or Gy
nonrec abbrev GF:R2:=rEq
def GG:OpR X (compareOp .Eq) GF:=Ic
nonrec abbrev GH:R2:=rNe
def GI:OpR X (compareOp .NotEq) GH:=Ie
nonrec abbrev Io:R2:=λx y H Q=>∃i j,x= .str i/\y= .str j/\Q (.bl (!(Builtin.Str.occurrences j i 0 j.length 1).isEmpty)) H
nonrec abbrev Ew(K:ZA):R2:=λx y H Q=>Io x y H Q\/rIn K false x y H Q
def GJ:OpR X (compareOp .In) (Ew X.K):=zw.or zH
abbrev Ex(K:ZA)(c:TE):TI:=λd H R=>c d H λx b=>(∃a,x= .ref a/\(∃xs,SqL K b a xs)/\R (Itl K a) b)\/(∃a,x= .ref a/\(∃xs,SqT K b a xs)/\R (Itt K a) b)\/∃z,x= .str z/\R (Its z) b
def GK(n:PE X l r):PI X B l (Ex X.K r):=by
 intro pins s u H R I h;refine thP (n pins s u H _ I h) λv d x g f i q1=>?_
 have c:∀b∈[⇑d],nF X pins g b:=λb w=>by
  have e:b=⇑d:=↑w
  subst e;exact f.fpOk (Zi _) (f.hok.fresh (Zi _))
 rcases q1 with⟨a,e,⟨xs,j⟩,q⟩|⟨a,e,⟨xs,j⟩,q⟩|⟨z,e,q⟩
 .subst e;cases i;have%[its,y,p|A]:=f.list j;exact wpAny_pyIter_list p.isList %[⇑d,[⇑d],_,_,g,rfl,f.kept (t':=d.toks) λb o e=>Z7 _ e,zt a _,%[_,Zj _ rfl,rfl|rfl],c|q]
 .subst e;cases i;have%[its,y,p|A]:=f.tuple j;exact wpAny_pyIter_tuple (p) %[⇑d,[⇑d],_,_,g,rfl,f.kept λb o e=>Z7 _ e,wE a _,%[_,Zj _ rfl,rfl|rfl],c|q]
 .subst e;have%[t|rfl]:=i;cases m:z.cps.all _ with
  | true=>
    exact wpAny_pyIter_ascii m %[⇑d,[⇑d],_,_,g,rfl,f.kept λb o e=>Z7 _ e,wS _ z t,%[_,Zj _ rfl,rfl|rfl],c|q]
  | false=>
    exact wpAny_pyIter_wide m %[⇑d,[⇑d],_,_,g,rfl,f.kept λb o e=>Z7 _ e,zO _ z t,%[_,Zj _ rfl,rfl|rfl],c|q]
end
abbrev bF(c:Scope)(N:ZB)(a:Scope)(d:ZB)(b:List (Nat×Nat)):Bool:=
 decide (a.kind= .function)&&a.names.all (λy=>(decide (y.2≠ .cell)||decide (a.names.lookup y.1=some .cell))&&(decide (y.2≠ .local)||decide (a.names.lookup y.1=some .local))&&(decide (y.2≠ .free)||decide (c.names.lookup y.1=some .cell)||decide (c.names.lookup y.1=some .free)))&&
  b.all λp=>match d[p.1]? with
   | some x=>decide (N[p.2]? =some x)&&decide (a.names.lookup x=some .free)
   | none=>false
def aA.of{X:Cx}(h:bF X.env.scope X.N a g c=true):aA X a g c:=by
 unfold bF at h;rw[Zx,Zx,all_eq_true,all_eq_true]at h;have%[%[i|d]|j]:=h;refine%[Zo i,λy b f=>?_,λy b f=>?_,λy b l=>?_|λp m=>?_]
 .have:=d y b;simp only[Zx,or_eq_true,decide_eq_true_eq]at this;exact this.1.1.resolve_left λq=>q f
 .have:=d y b;simp only[Zx,or_eq_true,decide_eq_true_eq]at this;exact this.1.2.resolve_left λq=>q f
 .have:=d y b;simp only[Zx,or_eq_true,decide_eq_true_eq]at this;rcases this.2 with(q|q)|q
  .exact absurd l q
  .exact .inl q
  .exact .inr q
 .have:=j p m;cases e:g[p.1]? with
  | none=>simp_all
  | some x=>
    rw[e]at this;simp only[Zx,decide_eq_true_eq]at this;exact%[x,rfl,this.1|this.2]
structure Gv (mg:ZC) (x:Str) (v:V):Prop where
 ex:∃u,mg x=some u/\aZ v u
def Fu{X:Cx}(g:Gv X.mg x v)(a:Gl X x)(b:(x==("__debug__":Str))=false):PE X (.Name x pos) (tC v):=by
 have%[u,h|r]:=g.ex;exact DC a h r b
structure Cal (P:Program) (w:World) (K:ZA) (mg:ZC) (base:Heap) (k:Nat) (x:Str) (ps:ZB) (sp:Sp):Prop where
 ex:∃f fd,eL P w K mg base CX0 k f fd ps sp/\mg x=some (.ref f)/\keepIn K (.ref f)=true/\fN K fd ps []
structure aJ (K:ZA) (mg:ZC) (x:Str) (st:Stmt) (ps:ZB):Prop where
 ex:∃f fd,Fun K x x st f fd/\mg x=some (.ref f)/\fN K fd ps []
def aJ.cal{P:Program}{K:ZA}{st:Stmt}(D:aJ K mg x st ps)(S:ax N ps (ar st))
 (a:∀(H:Hp) (vs:List V) (Q:VK) (E:XK),sp vs H Q E->vs.length=ps.length/\∀(f:Addr) (b:Value) (A:Around) (outer:List Env) (s:Shared),cn k (A.deeper (envOfC x (ar st) ⇑s f b))->
  ∃t,PSs (tz CX0 P w K mg base N x (ar st) f b A outer s H E).nox (b8 st) t/\t {nx:=λ_ c=>Q .non c,rt:=Q} (start N vs) H):Cal P w K mg base (k+1) x ps sp:=by
 have%[f,d,F,e|g]:=D.ex;exact%[f,d,F.ok S (λv H Q E h=>(a H v Q E h).1) (λb A o s H v Q E r h=>(a H v Q E h).2 f b A o s r),e,F.kp|g]
def GL{X:Cx}(C:Cal X.prog X.w X.K X.mg X.base j x ps sp)(d:cn k X.A)(g:Gl X x)(h:jZ CX0 X E0)(i:PA X (e::es) t)(a:j<=k)
 (b:(x==("__debug__":Str))=false) (l:starEach (e::es) X.env=(false,eval e X.env)::starEach es X.env) (c:(backTo pos (starEach es X.env)).any (·.1)=false):
 PE X (.Call (.Name x p) (e::es) [] pos) (uM sp [] E0 t):=by
 have%[f,q,F,m,n|o]:=C.ex;exact DV F (d.mono a) g m n o .nil h i b l c
def GM{K:ZA}{h:Heap}{st:Stmt}{kV e g d ct:Value}(X:K.In h)(G:h.Ns mainGlobals mg)
 (a:nsIn K mainGlobals x=some (some (.ref f))) (l:K.lookup f=some %[m,n,.func (fnOf x x (df st) (b8 st) (ar st) .none kV e g i d ct)|j]) (c:codeIn K d x=true) (k:keepIn K (.ref f)=true)
 (b:∀(kV e g:Value) (i:ZI) (d ct:Value) (us:ZF),us.length=ps.length->bindArgs (fnOf x x (df st) (b8 st) (ar st) .none kV e g i d ct) %[us|[]]=pure (ps.zip us)):aJ K mg x st ps:=
 %[f,_,e7 l c k,mg_of X G a|(e7 l c k).binds b]
def Ip{K:ZA}{h:Heap}(X:K.In h)(G:h.Ns mainGlobals mg)(a:nsIn K mainGlobals x=some (some u))(r:aZ v u):Gv mg x v:=%[u,mg_of X G a|r]
def l9(h:∀nx:St->Hp->Prop,(∀a b,u D a b->nx a b)->t {D with nx:=nx} c H):bq t u D c H:=h _ λ_ _ x=>x
def aB(h:∀a:It->Hp->Prop,(∀J f,(∃W:Nat->Nat->St->Hp->Prop,(∃m,W 0 m b f)/\∀i m b H,W i m b H->
 (J.stop i H/\D.nx b H)\/(J.go i H/\∃N:St->Hp->Prop,(∀c d,N c d->∃j,j<m/\W (i+1) j c d)/\∀x d,J.yld i H x d->g x b d λe l=>n {D with nx:=N,ct:=N,bk:=D.nx} e l))->a J f)->o b H a):Bl o g n D b H:=h _ λ_ _ x=>x
def aF(h:∀c:It->Hp->Prop,(∀J j,(∀D,j D=none->∃W:Nat->Nat->List V->St->Hp->Prop,
 (∃m,W 0 m [] (rF n l o) (upd j D (.lst [])))/\∀i m ys d e,W i m ys d e->(J.stop i e/\Q (.ref D) e)\/
  (J.go i e/\∀x p,J.yld i e x p->g x d p λa s=>t a s λb q=>if b=true then u a q λy r=>∃zs f,r D=some (.lst zs)/\zs.length<sizeLine/\f<m/\W (i+1) f (ys++[y]) a (upd r D (.lst (zs++[y])))
   else∃f,f<m/\W (i+1) f ys a q))->c J j)->v o H c):rG v n l g t u o H Q:=h _ λ_ _ x=>x
section
variable{X:Cx}{K:ZA}
def GN(h:X.K=K):OpR X (compareOp .In) (Ew K):=by subst h;exact GJ
def ixK(h:X.K=K):IxR X (rIx K):=by subst h;exact Gn
def zP(h:X.K=K):ck X (.builtin "len") (λxs H Q=>∃x n,xs=[x]/\DP K x H n/\Q (.int n) H):=by subst h;exact Bu
def zQ(h:X.K=K)(a:X.calm=true):ck X (.builtin "all") (λxs H Q=>∃(p:Addr) (bs:List Bool),xs=[.ref p]/\SqL K H p (bs.map V.bl)/\Q (.bl (bs.all id)) H):=by subst h;exact BL a
def zR(h:X.K=K):ck X (.builtin "isinstance") (λxs H Q=>∃x n t b,xs=[x,.ty n]/\jY K H x t/\kitOne K t (.type n)=some b/\Q (.bl b) H):=by subst h;exact BM
def wU(h:X.K=K):ck X (.type "list") (λxs H Q=>∃p ys,xs=[.ref p]/\(SqL K H p ys\/SqT K H p ys)/\∀l,H l=none->Q (.ref l) (upd H l (.lst ys))):=by subst h;exact tK
def BP(h:X.K=K):MtR X "str.join" (ye K):=by subst h;exact Eu
def zS(h:X.K=K)(d:PE X a e)(f:∀b,isTrue a X.env b=(do let v<-b;standAt a.pos;holding [v] (truthy v))):PT X a (λg H Q=>e g H λx c=>∃k,Br K x c k/\Q k c):=by subst h;exact Bs d f
def Ey(h:X.K=K)(a:PE X l b):PI X c l (Ex K b):=by subst h;exact GK a
variable{o e:Expr}{es:List Expr}{to:TE}{t:TA}{name:Str}{apos cpos:Pos}{T id:String}{r:V->List V->Hp->VK->Prop}
def Ez(h:X.K=K)(d:PlainAttrs T)(slot:Slot T name id)(c:typeOf (.builtin id)=pure (.type "method_descriptor"))(f:MtR X id r)(g:PE X o to)
 (a:attributeBase o name X.env (eval o X.env)=eval o X.env) (b:(apos.endLine==cpos.line)=true):PE X (.Call (.Attribute o name apos) [] [] cpos) (Eg K T r to):=by
 subst h;exact Gq d slot c f g a b
def BQ(h:X.K=K)(g:PlainAttrs T)(slot:Slot T name id)(f:typeOf (.builtin id)=pure (.type "method_descriptor"))(i:MtR X id r)(j:PE X o to)(l:PA X (e::es) t)
 (b:attributeBase o name X.env (eval o X.env)=eval o X.env)
 (d:((backTo cpos (starEach (e::es) X.env)).all (λx=>!x.1)&&(backToKw cpos (keywordEach [] X.env)).all (λx=>x.1.isSome)
  && decide ((e::es).length+([]:List Keyword).length+(if([]:List Keyword).isEmpty then 0 else 1)<30))=true)
 (c:(apos.endLine==cpos.line)=true) (m:starEach (e::es) X.env=(false,eval e X.env)::starEach es X.env) (a:(backTo cpos (starEach es X.env)).any (·.1)=false):
 PE X (.Call (.Attribute o name apos) (e::es) [] cpos) (tBM K T r to t):=by
 subst h;exact Ik g slot f i j l b d c m a
end
structure wV (z TI TO i1 i2:Addr):Prop where
 TIz:TI≠z
 TOz:TO≠z
 i1z:i1≠z
 i2z:i2≠z
 TITO:TI≠TO
 TIi1:TI≠i1
 TIi2:TI≠i2
 TOi1:TO≠i1
 TOi2:TO≠i2
 i12:i1≠i2
section
#where
variable{z TI TO i1 i2:Addr}{fp1 fp2:List Addr}{n1 n2 i:Nat}{P1 P2:Nat->Value->Prop}{St1 St2:Nat->Heap->Prop}
def BR{Q:ZD}(D1:Draws prog w A i1 fp1 n1 P1 St1)(D2:Draws prog w A i2 fp2 n2 P2 St2)(D:wV z TI TO i1 i2)(O:∀b∈fp1,b≠z/\b≠TO/\b≠i2)(m2:∀b∈fp2,b≠z/\b≠TO/\b≠i1)
 (T:IsZip s.heap z TI TO .none) (ac:IsPair s.heap TI (.ref i1) (.ref i2)) (ae:IsPair s.heap TO a b) (h1:St1 i s.heap) (h2:St2 i s.heap) (l1:i<n1) (l2:i<n2)
 (hQ:∀x y h' tk,P1 i x->P2 i y->IsZip h' z TI TO (rawInt ⇑s)->IsPair h' TO x y->St1 (i+1) h'->St2 (i+1) h'->IsPair h' ⇑s x y->
  (∀c o,c≠z->c≠TO->c≠i1->c≠i2->s.heap.get? c=some o->h'.get? c=some o)->Q (.ref ⇑s) {s with heap:=h',toks:=tk}):
 ↥A (Builtin.«zip.__next__» %[[.ref z]|[]]) (λfin s'=>∃v,fin= .done (.ret v)/\Q v s') E s:=by
 have r:∀{k h h' c},(∀b∈fp1,b≠c)->SameBut c h h'->St1 k h->St1 k h':=λhc sb st=>D1.frame _ _ _ st λb d o e=>(sb.2 b (hc b d)).trans e
 have t:∀{k h h' c},(∀b∈fp2,b≠c)->SameBut c h h'->St2 k h->St2 k h':=λhc sb st=>D2.frame _ _ _ st λb d o e=>(sb.2 b (hc b d)).trans e
 show wpAny _ _ (field (.ref z) 2>>= _) _ _ _;refine Z2 (wpAny_field T rfl (x:= .bool false) rfl ?_);show wpAny _ _ (field (.ref z) 3>>= _) _ _ _;refine Z2 (wpAny_field T rfl (x:= .ref TI) rfl (Z2 (wpAny_seqItems ac rfl ?_)));show wpAny _ _ (Builtin.SmallTypes.ownedTupleIsFree (.ref z)>>= _) _ _ _;refine Z2 ?_;unfold Builtin.SmallTypes.ownedTupleIsFree;refine Z2 (wpAny_field T rfl (x:= .none) rfl (Z3 ?_));simp only[if_true];refine Z2 (wpAny_rule (Z2 (wpAny_field T rfl (x:= .ref TO) rfl (Z2 (wpAny_setField_rec T ∅ λg1 L n=>?_)))));replace L:IsZip g1 z TI TO .ellipsis:=L;refine Z2 ?_;simp only[List.zipIdx_cons,List.zipIdx_nil,forIn_cons,List.forIn_nil];refine Z2 (Z2 (wpAny_onRaise ?_));show wpAny _ _ (Builtin.SmallTypes.nextOf (.ref i1)>>= _) _ _ _;refine Z2 (D1.item i _ _ _ l1 (r (λb d=>(O b d).1) n h1) λx g2 ag px ai f=>Z3 ?_);replace f:SameBut i1 g1 g2:=f;have H:IsPair g2 TO a b:=(f.2 _ D.TOi1).trans ((n.2 _ D.TOz).trans ae);refine Z2 (wpAny_seqItems H rfl (Z2 (wpAny_updateSeq_pair (s:={s with heap:=g2,toks:=ag}) H λg3 p g=>?_)));replace p:IsPair g3 TO x b:=p;replace g:SameBut TO g2 g3:=g;refine Z2 (wpAny_letGo (Z3 (Z2 (Z2 (wpAny_onRaise ?_)))));show wpAny _ _ (Builtin.SmallTypes.nextOf (.ref i2)>>= _) _ _ _;refine Z2 (D2.item i _ _ _ l2 (t (λb d=>(m2 b d).2.1) g (t (λb d=>(m2 b d).2.2) f (t (λb d=>(m2 b d).1) n h2))) λy g4 u py aj j=>Z3 ?_);replace j:SameBut i2 g3 g4:=j;have I:IsPair g4 TO x b:=(j.2 _ D.TOi2).trans p;refine Z2 (wpAny_seqItems I rfl (Z2 (wpAny_updateSeq_pair (s:={s with heap:=g4,toks:=u}) I λq m l=>?_)));replace m:IsPair q TO x y:=m;replace l:SameBut TO g4 q:=l;refine Z2 (wpAny_letGo (Z3 (Z3 (Z2 (wpAny_seqItems m rfl (Z2 (wpAny_newTuple ?_)))))));have U:q.objs.size=⇑s:=by rw[l.1,j.1,g.1,f.1,n.1]
 have Y:IsZip q z TI TO .ellipsis:=(l.2 _ D.TOz.symm).trans ((j.2 _ D.i2z.symm).trans ((g.2 _ D.TOz.symm).trans ((f.2 _ D.i1z.symm).trans L)));have al:∀c o,c≠z->c≠TO->c≠i1->c≠i2->s.heap.get? c=some o->q.get? c=some o:=λc o M c2 c3 c4 e=>
  (l.2 c c2).trans ((j.2 c c4).trans ((g.2 c c2).trans ((f.2 c c3).trans ((n.2 c M).trans e))))
 have J:z<q.objs.size:=Zv Y;refine Z2 (Z2 (wpAny_setField_rec (s:={s with heap:=q.push {cls:= .type "tuple",data:= .seq #[x,y]},toks:=u}) (Z7 _ Y) ∅ λg7 N B=>?_));replace N:IsZip g7 z TI TO (rawInt q.objs.size):=N;replace B:SameBut z (q.push _) g7:=B;refine wpAny_setField_rec (s:={s with heap:=g7,toks:=u}) N ∅ λg8 C G=>?_
 replace C:IsZip g8 z TI TO (rawInt q.objs.size):=C;replace G:SameBut z g7 g8:=G;have up:∀c o,c≠z->q.get? c=some o->g8.get? c=some o:=λc o M e=>(G.2 c M).trans ((B.2 c M).trans (Z7 _ e))
 have ab:=(G.2 _ (X2 J)).trans ((B.2 _ (X2 J)).trans (Zj _ rfl));rw[U]at C ab;refine Z3 %[_,rfl|?_];rw[U];exact hQ x y g8 u px py C (up _ _ D.TOz m) (D1.frame _ _ _ (r (λb d=>(O b d).2.1) l (r (λb d=>(O b d).2.2) j (r (λb d=>(O b d).2.1) g ai))) λb d o e=>up b o (O b d).1 e) (D2.frame _ _ _ (t (λb d=>(m2 b d).2.1) l aj) λb d o e=>up b o (m2 b d).1 e) ab λc o M c2 c3 c4 e=>up c o M (al c o M c2 c3 c4 e)
def BS(J:Draws prog w A i1 fp1 n1 P1 St1)(D2:Draws prog w A i2 fp2 n2 P2 St2)(D:wV z TI TO i1 i2)(m1:∀b∈fp1,b≠z/\b≠TO/\b≠i2)(m2:∀b∈fp2,b≠z/\b≠TO/\b≠i1)
 (y:IsZip s.heap z TI TO .none) (L:IsPair s.heap TI (.ref i1) (.ref i2)) (M:IsPair s.heap TO a b) (h1:St1 i s.heap) (h2:St2 i s.heap) (l1:i<=n1) (l2:i<=n2) (ab:i=n1\/i=n2)
 (hE:∀h' e tk,(∀c o,c≠z->c≠TO->c≠i1->c≠i2->s.heap.get? c=some o->h'.get? c=some o)->(∃o,h'.get? e=some o/\o.cls= .type "StopIteration")->E (.ref e) {s with heap:=h',toks:=tk}):
 ↥A (Builtin.«zip.__next__» %[[.ref z]|[]]) Q E s:=by
 have N:∀{k h h' c},(∀b∈fp1,b≠c)->SameBut c h h'->St1 k h->St1 k h':=λO T st=>J.frame _ _ _ st λb j o e=>(T.2 b (O b j)).trans e
 have t:∀{k h h' c},(∀b∈fp2,b≠c)->SameBut c h h'->St2 k h->St2 k h':=λO T st=>D2.frame _ _ _ st λb j o e=>(T.2 b (O b j)).trans e
 show wpAny _ _ (field (.ref z) 2>>= _) _ _ _;refine Z2 (wpAny_field y rfl (x:= .bool false) rfl ?_);show wpAny _ _ (field (.ref z) 3>>= _) _ _ _;refine Z2 (wpAny_field y rfl (x:= .ref TI) rfl (Z2 (wpAny_seqItems L rfl ?_)));show wpAny _ _ (Builtin.SmallTypes.ownedTupleIsFree (.ref z)>>= _) _ _ _;refine Z2 ?_;unfold Builtin.SmallTypes.ownedTupleIsFree;refine Z2 (wpAny_field y rfl (x:= .none) rfl (Z3 ?_));simp only[if_true];refine Z2 (wpAny_rule (Z2 (wpAny_field y rfl (x:= .ref TO) rfl (Z2 (wpAny_setField_rec y ∅ λg1 n l=>?_)))));replace n:IsZip g1 z TI TO .ellipsis:=n;refine Z2 ?_;simp only[List.zipIdx_cons,List.zipIdx_nil,forIn_cons,List.forIn_nil];refine Z2 (Z2 (wpAny_onRaise ?_));show wpAny _ _ (Builtin.SmallTypes.nextOf (.ref i1)>>= _) _ _ _;have B:St1 i g1:=N (λb j=>(m1 b j).1) l h1;by_cases c1:i<n1
 .have e2:i=n2:=by lia
  refine Z2 (J.item i _ _ _ c1 B λx g2 u px ae d=>Z3 ?_);replace d:SameBut i1 g1 g2:=d;have r:IsPair g2 TO a b:=(d.2 _ D.TOi1).trans ((l.2 _ D.TOz).trans M);refine Z2 (wpAny_seqItems r rfl (Z2 (wpAny_updateSeq_pair (s:={s with heap:=g2,toks:=u}) r λg3 ac f=>?_)));replace f:SameBut TO g2 g3:=f;refine Z2 (wpAny_letGo (Z3 (Z2 (Z2 (wpAny_onRaise ?_)))));show wpAny _ _ (Builtin.SmallTypes.nextOf (.ref i2)>>= _) _ _ _;refine Z2 (D2.done _ _ _ (e2▸t (λb j=>(m2 b j).2.1) f (t (λb j=>(m2 b j).2.2) d (t (λb j=>(m2 b j).1) l h2))) λI e p U=>?_);replace p:Heap.ExtBut i2 g3 I:=p;have%[Y,g|m]:=U;have C:IsZip I z TI TO .ellipsis:=p _ _ D.i2z.symm ((f.2 _ D.TOz.symm).trans ((d.2 _ D.i1z.symm).trans n));have v:e≠z:=λx=>by subst x;rw[C]at g;cases g;simp at m
  refine wpAny_setField_rec (s:={s with heap:=I,toks:=u}) C ∅ λg5 _ q=>?_
  replace q:SameBut z I g5:=q;exact hE g5 e u (λc o G d2 d3 d4 x=>(q.2 c G).trans (p c o d4 ((f.2 c d2).trans ((d.2 c d3).trans ((l.2 c G).trans x))))) %[Y,(q.2 e v).trans g|m]
 .have e1:i=n1:=by lia
  refine Z2 (J.done _ _ _ (e1▸B) λg2 e d U=>?_);replace d:Heap.ExtBut i1 g1 g2:=d;have%[Y,g|m]:=U;have H:=d _ _ D.i1z.symm n;have v:e≠z:=λx=>by subst x;rw[H]at g;cases g;simp at m
  refine wpAny_setField_rec (s:={s with heap:=g2}) H ∅ λg3 _ f=>?_
  replace f:SameBut z g2 g3:=f;exact hE g3 e s.toks (λc o G _ d3 _ x=>(f.2 c G).trans (d c o d3 ((l.2 c G).trans x))) %[Y,(f.2 e v).trans g|m]
end
abbrev Itz(x y:Str):It:=⟨λi _=>i<x.cps.size/\i<y.cps.size,λi H v a=>∃c d T,x.cps[i]? =some c/\y.cps[i]? =some d/\H T=none/\v= .ref T/\a=upd H T (.tup [.str ⟨#[c]⟩,.str ⟨#[d]⟩]),
 λi _=>i<=x.cps.size/\i<=y.cps.size/\(i=x.cps.size\/i=y.cps.size)⟩
abbrev ZSt(z TI TO c d:Addr)(e f:Nat->Heap->Prop)(i:Nat)(h:Heap):Prop:=IsZip h z TI TO .none/\IsPair h TI (.ref c) (.ref d)/\(∃a b,IsPair h TO a b)/\e i h/\f i h
def jr(prog:Program)(w:World)(x:Str)(t:Tok)(a:Addr):∀A,A.handled=none->
 Draws prog w A a [a] x.cps.size (λi v=>∃c u,x.cps[i]? =some c/\v= .str ⟨#[c]⟩ u) (λi h=>h.IsStrIter a (strIterType x) x t i):=by
 intro A b;unfold strIterType;cases d:x.cps.all _ with
 | true=>exact Draws.strAscii b a x t
 | false=>exact Draws.strWide b a x t
def BT{P:Program}{K:ZA}(z TI TO i1 i2:Addr)(x y:Str)(t u:Tok)(D:wV z TI TO i1 i2):
 oi P w K (.Tuple elts kt tp) (Itz x y) [z,TI,TO,i1,i2] z (ZSt z TI TO i1 i2 (λi h=>h.IsStrIter i1 (strIterType x) x t i) (λi h=>h.IsStrIter i2 (strIterType y) y u i)) where
 mem:=by simp
 obj:=λi h st b hb=>by
  have%[hz,hTI,%[a,c|hTO],%[o1,e1,_|d1],o2,e2,_|d2]:=st
  grind
 keep:=λi h h' st k=>by
  have%[hz,hTI,%[a,c|hTO],%[o1,e1|r1],o2,e2|r2]:=st;exact%[k z ∅ _ hz,k TI ∅ _ hTI,%[a,c|k TO ∅ _ hTO],%[o1,k i1 ∅ _ e1|r1],o2,k i2 ∅ _ e2|r2]
 item:=by
  intro X hP hw hK hc i pins s σ H E I hf st hg;subst hP hw hK;have%[hz,hTI,%[a,c|hTO],h1|h2]:=st;obtain⟨g1,g2⟩:i<x.cps.size/\i<y.cps.size:=hg;have hT:s.TypeIs (.ref z) "zip":=%[_,hz|rfl]
  have hh:X.A.in1.handled=none:=I.ok.hd hc;unfold pyNext;refine Z2 (wpAny_attempt (wpAny_callSpecial?_slot (name:=!"__next__") hT F.slot_zip_next (wpAny_call_entry F.slot_zip_next hT F.entry_zip_next
   (BR (jr _ _ x t i1 _ hh) (jr _ _ y u i2 _ hh) D (λb hb=>(show b=i1 by simpa using hb)▸%[D.i1z,Ne.symm D.TOi1|D.i12]) (λb hb=>(show b=i2 by simpa using hb)▸%[D.i2z,Ne.symm D.TOi2|Ne.symm D.i12]) hz hTI hTO h1 h2 g1 g2 λv1 v2 h' tk p1 p2 a1 a2 a3 a4 a5 hk=>Z3 ?_) (F.args_zip_next_1 _))))
  have%[c1,u1,e1|rfl]:=p1;have%[c2,u2,e2|rfl]:=p2;refine%[_,rfl|wpAny_letOwnedTupleGo_zip (s:={s with heap:=h',toks:=tk}) a1 λh'' hz'' sb=>?_];replace sb:SameBut z h' h'':=sb;have turn1:Inv X pins σ H {s with heap:=h'',toks:=tk}:=by
   have nit:∀b v,H b=some v->b∉[z,TI,TO,i1,i2]:=λb v e hb=>by rw[(hf b hb).1]at e;cases e
   have kk:∀b o,b∉[z,TI,TO,i1,i2]->s.heap.get? b=some o->h''.get? b=some o:=λb o hb e=>by
    simp only[Yw,X8,or_false,not_or]at hb;exact(sb.2 b hb.1).trans (hk b o hb.1 hb.2.2.1 hb.2.2.2.1 hb.2.2.2.2 e)
   refine I.step (g':=s.gens) (d':=s.drawn) (ch:=[z,TI,TO,i1,i2]) (λb hb=>%[(hf b hb).2.2.2.1,(hf b hb).2.1,(hf b hb).2.2.2.2.1|(hf b hb).2.2.2.2.2]) (λb o _ _ hc e _=>kk b o hc e) (λb o _ _ hc e _=>%[o.slots|kk b o hc e]) (λ_ _ _ _ n=>n)
    (λb o hc e=>%[o|kk b o hc e]) (λ_ _ e=>e) (λ_ _ _ e=>e) (λb ps e=>%[#[]|by rw[e];simp]) (λm hm=>?_) (λb v e=>?_) I.bare
   .have%[o,es,ep,ho|r]:=hm;exact%[o,es,ep,kk _ o (λhb=>(hf _ hb).2.1 rfl) ho|r]
   .refine(I.hok b v e).stay (λc' v' hc' q=>kk c' v' ?_ q) (λ_ q=>q) λ_ _ q=>q
    rcases hc' with q'|q'
    .exact q'▸nit b v e
    .exact nit c' _ q'
  have Hn:H ⇑s=none:=I.fresh;have I2:Inv X pins σ (upd H ⇑s (.tup [.str ⟨#[c1]⟩,.str ⟨#[c2]⟩])) {s with heap:=h'',toks:=tk}:=by
   have nf:⇑s∉X.fs:=I.nofs (Zi _);refine%[turn1.ok,turn1.os,turn1.bare,?_,turn1.loc,turn1.cell,?_,?_,?_,?_|turn1.len]
   .refine%[turn1.base.keep,turn1.base.slot,λb o e n hx=>?_,turn1.base.there,λb xs e=>?_,λb o v e=>?_|λb ps e=>?_]
    .rw[am ((λb o e=>Zt (Zg (Zv e) I.sz)) b o e)];exact turn1.base.free b o e n hx
    .rw[am (ay (turn1.base.tups b xs e) Hn)];exact turn1.base.tups b xs e
    .rw[am (ay (turn1.base.frzs b o v e) Hn)];exact turn1.base.frzs b o v e
    .have%[m|q]:=turn1.base.tbls b ps e;exact%[m|(am (ay q Hn))▸q]
   .rw[am (Zt I.lt)];exact turn1.free
   .intro x' c' e;have%[v'|q]:=I.cell x' c' e;rw[am (Zt q.lt)];exact turn1.freeC x' c' e
   .intro p hp;have%[e,n|r]:=turn1.pin p hp;refine%[e,?_|r];rw[am (Zt (Zv (I.pin p hp).1))];exact n
   .intro b v e;by_cases hb:b=⇑s
    .subst hb;rw[aa]at e;cases e;exact%[by show 2<=sizeLine;decide,[.str _ u1,.str _ u2],.cons %[_|rfl] (.cons %[_|rfl] .nil),_,((sb.2 _ (X2 (Zv hz))).trans a5),rfl,_|rfl]
    .rw[am hb]at e;refine(turn1.hok b v e).stay (λ_ _ _ q=>q) (λc' q=>?_) λc' xs q=>?_
     .rw[am (ay q Hn)];exact q
     .rw[am (ay q Hn)];exact q
  refine%[.ref ⇑s,_,I2,rfl,%[c1,c2,_,e1,e2,Hn,rfl|rfl],%[hz'',(sb.2 _ D.TIz).trans (hk _ _ D.TIz D.TITO D.TIi1 D.TIi2 hTI),%[_,_|(sb.2 _ D.TOz).trans a2],?_|?_]|λb hb=>?_]
  .have%[o,e|r]:=a3;exact%[o,(sb.2 _ D.i1z).trans e|r]
  .have%[o,e|r]:=a4;exact%[o,(sb.2 _ D.i2z).trans e|r]
  .have:b<⇑s:=by
    simp only[Yw,X8,or_false]at hb;have%[o1,q1|_]:=h1;have%[o2,q2|_]:=h2;rcases hb with rfl|rfl|rfl|rfl|rfl
    .exact Zv hz
    .exact Zv hTI
    .exact Zv hTO
    .exact Zv q1
    .exact Zv q2
   rw[am (Zt this)];exact(hf b hb).1
 done:=by
  intro X hP hw hK hc i pins s σ H E I hf st hg;have%[hz,hTI,%[a,c|hTO],h1|h2]:=st;obtain⟨g1,g2,g3⟩:i<=x.cps.size/\i<=y.cps.size/\(i=x.cps.size\/i=y.cps.size):=hg;have hT:s.TypeIs (.ref z) "zip":=%[_,hz|rfl]
  have hh:=I.ok.hd hc;refine Z2 (wpAny_attempt (wpAny_callSpecial?_slot hT F.slot_zip_next (wpAny_call_entry F.slot_zip_next hT F.entry_zip_next
   (BS (jr _ _ x t i1 _ hh) (jr _ _ y u i2 _ hh) D (λb hb=>(show b=i1 by simpa using hb)▸%[D.i1z,Ne.symm D.TOi1|D.i12]) (λb hb=>(show b=i2 by simpa using hb)▸%[D.i2z,Ne.symm D.TOi2|Ne.symm D.i12]) hz hTI hTO h1 h2 g1 g2 g3 λh' e tk hk he=>?_) (F.args_zip_next_1 _))))
  have%[o,ho|hco]:=he;refine Z2 (wpAny_isInstance %[o,ho|hco] isSubtype_stop (Z3 %[rfl|?_]));have nit:∀b v,H b=some v->b∉[z,TI,TO,i1,i2]:=λb v e hb=>by rw[(hf b hb).1]at e;cases e
  have kk:∀b o,b∉[z,TI,TO,i1,i2]->s.heap.get? b=some o->h'.get? b=some o:=λb o hb e=>by
   simp only[Yw,X8,or_false,not_or]at hb;exact hk b o hb.1 hb.2.2.1 hb.2.2.2.1 hb.2.2.2.2 e
  refine I.step (λb hb=>%[(hf b hb).2.2.2.1,(hf b hb).2.1,(hf b hb).2.2.2.2.1|(hf b hb).2.2.2.2.2]) (λb o _ _ hc e _=>kk b o hc e) (λb o _ _ hc e _=>%[o.slots|kk b o hc e]) (λ_ _ _ _ n=>n)
   (λb o hc e=>%[o|kk b o hc e]) (λ_ _ e=>e) (λ_ _ _ e=>e) (λb ps e=>%[#[]|by rw[e];simp]) (λm hm=>?_) (λb v e=>?_) I.bare
  .have%[o',es,ep,ho'|r]:=hm;exact%[o',es,ep,kk _ o' (λhb=>(hf _ hb).2.1 rfl) ho'|r]
  .refine(I.hok b v e).stay (λc' v' hc' q=>kk c' v' ?_ q) (λ_ q=>q) λ_ _ q=>q
   rcases hc' with q'|q'
   .exact q'▸nit b v e
   .exact nit c' _ q'
 self:=λ_ _ _ _ _ st h=>wpAny_pyIter_zip st.1 h
abbrev bg:Expr->Bool
 | .Starred _ _=>true
 | _=>false
def aG(h:bg e=false):starEach (e::es) env=(false,eval e env)::starEach es env:=by
 cases e<;> first|rfl|cases(show true=false from h)
def dP(h:bg e=false):assignEach (e::es) env=(false,assign e env)::assignEach es env:=by
 cases e<;> first|rfl|cases(show true=false from h)
def gW:∀{es:List Expr},es.any bg=false->(backTo pos (starEach es env)).any (·.1)=false
 |[],_=>rfl
 | e::es,h=>by
   rw[Zy,X9]at h;rw[aG h.1];have:=gW (pos:=pos) (env:=env) h.2;cases es with
   | nil=>rfl
   | cons b a=>
     simp only[backTo]at this ⊢;simpa using this
def tO:∀{es:List Expr},es.any bg=false->(backTo pos (starEach es env)).all (λx=>!x.1)=true
 |[],_=>rfl
 | e::es,h=>by
   rw[Zy,X9]at h;rw[aG h.1];have:=tO (pos:=pos) (env:=env) h.2;cases es with
   | nil=>rfl
   | cons b a=>
     simp only[backTo]at this ⊢;simpa using this
def j3:∀{es:List Expr},es.any bg=false->(assignEach es env).length=es.length/\(assignEach es env).findIdx? (·.1)=none
 |[],_=>%[rfl|rfl]
 | e::es,h=>by
   rw[Zy,X9]at h;rw[dP h.1];have a:=j3 (env:=env) h.2;refine%[by rw[Zr,Zr,a.1]|?_];rw[List.findIdx?_cons,a.2];rfl
abbrev gX:Expr->Bool
 | .ListComp _ _ _ _=>true
 | .SetComp _ _ _ _=>true
 | .DictComp _ _ _ _ _=>true
 | _=>false
def kI(h:gX e=false):swapsWith e t l env=pure false:=by
 cases e<;> first|rfl|cases(show true=false from h)
abbrev wW:Expr->Bool
 | .Tuple _ _ _=>true
 | _=>false
def wX(h:wW e=false):swappedStores [t] e env=pure none:=by
 cases e with
 | Tuple _ _ _=>cases(show true=false from h)
 | _=>cases t<;> rfl
abbrev gY:Expr->Bool
 | .Call _ _ _ _=>true
 | _=>false
def fP(h:gY o=false):attributeBase o a env w=w:=by
 cases o<;> first|rfl|cases(show true=false from h)
abbrev oG:Expr->Bool
 | .Set _ _ _=>true
 | _=>false
def md(h:oG e=false)(x:Value):foldedSetIterable e env x=pure x:=by
 cases e<;> first|rfl|cases(show true=false from h)
structure QE (X:Cx) (e:Expr) (t:TE):Prop where
 h:PE X e t
structure QT (X:Cx) (e:Expr) (t:TT):Prop where
 h:PT X e t
structure QW (X:Cx) (e:Expr) (t:TT):Prop where
 h:PW X e t
structure QA (X:Cx) (es:List Expr) (t:TA):Prop where
 h:PA X es t
structure QS (X:Cx) (st:Stmt) (t:TS):Prop where
 h:PS X st t
structure QSs (X:Cx) (st:List Stmt) (t:TS):Prop where
 h:PSs X st t
structure QG (X:Cx) (e:Expr) (t:TG):Prop where
 h:PG X e t
structure QGs (X:Cx) (es:List Expr) (t:TGs):Prop where
 h:PGs X es t
structure QI (X:Cx) (tg cf:Expr) (wi:TI):Prop where
 h:PI X tg cf wi
structure QO (X:Cx) (e:Option Expr) (t:TO):Prop where
 h:PO X e t
structure QTs (X:Cx) (ifs:List Expr) (t:TT):Prop where
 h:PTs X ifs t
structure OpQ (X:Cx) (f:Value->Value->Sem Value) (r:R2):Prop where
 h:OpR X f r
structure cJ (X:Cx) (f:Value) (r:List V->Hp->VK->Prop):Prop where
 h:ck X f r
structure MtQ (X:Cx) (id:String) (r:V->List V->Hp->VK->Prop):Prop where
 h:MtR X id r
section
variable{X:Cx}{K:ZA}{pos:Pos}
def az{i j}:QE X (.Constant (.int i) j pos) (tC (.int i)):=⟨FO⟩
def eBl{b j}:QE X (.Constant (.bool b) j pos) (tC (.bl b)):=⟨HS⟩
def qx{j}:QE X (.Constant .none j pos) (tC .non):=⟨FP⟩
def dI{x j}:QE X (.Constant (.str x) j pos) (tC (.str x)):=⟨FQ⟩
def vn(i:Nat)(b:X.N[i]? =some x)(c:Vis X.env.scope x)(d:(x==("__debug__":Str))=false)(a:(x==("__classdict__":Str))=false):QE X (.Name x pos) (qv i):=⟨A5 b c d a⟩
def gvE(g:Gv X.mg x v)(a:Gl X x)(b:(x==("__debug__":Str))=false):QE X (.Name x pos) (tC v):=⟨Fu g a b⟩
def blE(a:Gl X x)(b:X.mg x=none)(c:bootBuiltins x=some u)(r:aZ v u)(f:(x==("__name__":Str))=false)(d:(x==("__debug__":Str))=false):QE X (.Name x pos) (tC v):=
 ⟨DD a b c r (λe=>by lia) d⟩
def ao:QA X [] zE:=⟨Gg⟩
def paE(a:bg e=false)(b:QE X e c)(d:QA X es t):QA X (e::es) (Bx c t):=⟨DU b.h d.h (aG a)⟩
def calE(C:Cal X.prog X.w X.K X.mg X.base j x ps sp)(d:cn k X.A)(f:Gl X x)(a:Nat.ble j k=true)
 (b:(x==("__debug__":Str))=false) (c:(e::es).any bg=false) (g:QA X (e::es) t):
 QE X (.Call (.Name x p) (e::es) [] pos) (uM sp [] E0 t):=by
 rw[Zy,X9]at c;exact⟨GL C d f BK g.h (Nat.le_of_ble_eq_true a) b (aG c.1) (gW c.2)⟩
def cbE{id:String}(c:cJ X (.builtin id) r)(d:Gl X x)(f:X.mg x=none)(g:bootBuiltins x=some (.builtin id))(i:(x==("__name__":Str))=false)(a:(x==("__debug__":Str))=false)
 (b:(e::es).any bg=false) (h:QA X (e::es) t):QE X (.Call (.Name x p) (e::es) [] pos) (tCB r t):=by
 rw[Zy,X9]at b;exact⟨BB c.h d f g h.h (λe=>by lia) a (aG b.1) (gW b.2)⟩
def ctE(c:cJ X (.type T) r)(d:Gl X x)(f:X.mg x=none)(g:bootBuiltins x=some (.type T))(i:(x==("__name__":Str))=false)(a:(x==("__debug__":Str))=false)
 (b:(e::es).any bg=false) (h:QA X (e::es) t):QE X (.Call (.Name x p) (e::es) [] pos) (tCB r t):=by
 rw[Zy,X9]at b;exact⟨zG c.h d f g h.h (λe=>by lia) a (aG b.1) (gW b.2)⟩
def bmE{T id:String}(h:X.K=K)(i:PlainAttrs T)(slot:Slot T name id)(d:typeOf (.builtin id)=pure (.type "method_descriptor"))(j:MtQ X id r)
 (b:gY o=false) (a:(e::es).any bg=false) (f:Nat.blt (e::es).length 30=true) (c:(apos.endLine==cpos.line)=true) (l:QE X o m) (n:QA X (e::es) t):
 QE X (.Call (.Attribute o name apos) (e::es) [] cpos) (tBM K T r m t):=by
 have g:=a;rw[Zy,X9]at g;refine⟨BQ h i slot d j.h l.h n.h (fP b) ?_ c (aG g.1) (gW g.2)⟩;rw[tO a];have:decide ((e::es).length+([]:List Keyword).length+(if([]:List Keyword).isEmpty then 0 else 1)<30)=true:=Zf ((Nat.blt_eq.mp f));rw[this];rfl
def Iq{T id:String}(h:X.K=K)(d:PlainAttrs T)(slot:Slot T name id)(c:typeOf (.builtin id)=pure (.type "method_descriptor"))(e:MtQ X id r)
 (a:gY o=false) (b:(apos.endLine==cpos.line)=true) (f:QE X o g):QE X (.Call (.Attribute o name apos) [] [] cpos) (Eg K T r g):=⟨Ez h d slot c e.h f.h (fP a) b⟩
def rL(b:Gl X "range")(c:X.mg "range"=none)(d:bg a=false)(e:QA X [a] f):QI X g (.Call (.Name "range" p) [a] [] pos) (Bk f):=⟨zu b c e.h (aG d)⟩
def cQ(h:X.K=K)(a:QE X l b):QI X c l (Ex K b):=⟨Ey h a.h⟩
section
variable{a b c:Expr}{ta tb tc:TE}{op op':CmpOp}{r r':R2}
def wY(e:OpQ X (compareOp op) r)(d:OpQ X (compareOp op') r')(f:lastMarks [op,op'] [b,c]=false)(g:QE X a ta)(h:QE X b tb)(i:QE X c tc):QE X (.Compare a [op,op'] [b,c] pos) (wG r r' ta tb tc):=⟨Bq e.h d.h g.h h.h i.h f⟩
def j6(d:OpQ X (compareOp op) r)(e:behindInMarks op b=false)(f:QE X a ta)(g:QE X b tb):QE X (.Compare a [op] [b] pos) (tOp r ta tb):=⟨DN d.h f.h g.h e⟩
def bN(d:OpQ X (compareOp op) r)(e:behindInMarks op b=false)(f:QE X a ta)(g:QE X b tb):QT X (.Compare a [op] [b] pos) (Bp (tOp r ta tb)):=⟨DO d.h f.h g.h e⟩
def opE{op:Operator}(d:OpQ X (binaryOp op) r)(e:QE X a ta)(f:QE X b tb):QE X (.BinOp a op b pos) (tOp r ta tb):=⟨HY d.h e.h f.h⟩
def qy(d:QE X a ta):QE X (.UnaryOp .USub a pos) (tUn (rU λi=> .int (-i)) ta):=⟨HZ F8 d.h⟩
def ixE(h:X.K=K)(d:kC b)(e:QE X a ta)(f:QE X b tb):QE X (.Subscript a b pos) (tOp (rIx K) ta tb):=⟨x9 (ixK h) e.h f.h d⟩
def noO:QO X none tD:=⟨DZ⟩
def mX(h:QE X a ta):QO X (some a) (BC ta):=⟨D0 h.h⟩
def tP{op}(h:QE X a ta):QE X (.BoolOp op [a] pos) ta:=⟨FW h.h⟩
def qz{rest:List Expr}(d:QE X a ta)(e:QE X (.BoolOp .And (b::rest) pos) tb):QE X (.BoolOp .And (a::b::rest) pos) (A7 ta tb):=⟨FX d.h e.h⟩
def orV{rest:List Expr}(d:QE X a ta)(e:QE X (.BoolOp .Or (b::rest) pos) tb):QE X (.BoolOp .Or (a::b::rest) pos) (FV ta tb):=⟨HW d.h e.h⟩
def dq(h:QA X es t):QE X (.List es pos) (Gi t):=⟨Gk h.h⟩
def gZ{d}(h:QA X es t):QE X (.Tuple es d pos) (Gh t):=⟨Gj h.h⟩
def iU:QE X (.Dict [] [] pos) wR:=⟨BJ⟩
variable{tA tB':TT}{rest:List Expr}
def ifE(d:QT X c tA)(e:QE X a ta)(f:QE X b tb):QE X (.IfExp c a b pos) (tIf tA ta tb):=⟨A8 d.h e.h f.h⟩
def oH(d:QT X a tA):QT X (.UnaryOp .Not a pos) (FR tA):=⟨FU d.h⟩
def kJ(d:QT X a tA):QW X (.BoolOp .And [a] pos) tA:=⟨DF d.h⟩
def oI(d:QT X a tA):QW X (.BoolOp .Or [a] pos) tA:=⟨FS d.h⟩
def oJ(d:QT X a tA)(e:QW X (.BoolOp .And (b::rest) pos) tB'):QW X (.BoolOp .And (a::b::rest) pos) (DE tA tB'):=⟨FT d.h e.h⟩
def orW(d:QT X a tA)(e:QW X (.BoolOp .Or (b::rest) pos) tB'):QW X (.BoolOp .Or (a::b::rest) pos) (tOr tA tB'):=⟨HV d.h e.h⟩
def wT(h:QW X a tA):QT X a tA:=⟨PW.pt h.h⟩
def jE(h:X.K=K)(f:∀d,isTrue a X.env d=(do let v<-d;standAt a.pos;holding [v] (truthy v)))(g:QE X a ta):QT X a (λi H Q=>ta i H λx e=>∃k,Br K x e k/\Q k e):=⟨zS h g.h f⟩
def j7:QTs X [] uT:=⟨Ep⟩
def mY(h:QT X c tA):QTs X [c] tA:=⟨Er h.h⟩
end
def dL(S:aA X c e f)(l:X.calm=true)(m:oG cf=false)(hi:QI X j cf n)
 (o:∀a b d,QG (bQ X c e a b d) j g) (p:∀a b d,QTs (bQ X c e a b d) h q) (r:∀a b d,QE (bQ X c e a b d) i s):
 QE X (.ListComp i [%[j,cf,h|0]] c pos) (rG n e.length f g q s):=⟨Et S l hi.h (λa b d=>(o a b d).h) (λa b d=>(p a b d).h) (λa b d=>(r a b d).h) (md m)⟩
def bE:QSs X [] A9:=⟨DG⟩
def ak{st:Stmt}{rest:List Stmt}(a:QS X st t)(b:QSs X rest u):QSs X (st::rest) (bq t u):=⟨Ba a.h b.h⟩
def av{st:Stmt}(a:QS X st t):QSs X [st] t:=⟨DH a.h⟩
def ifS(d:QT X c e)(f:QSs X a t)(g:QSs X b u):QS X (.If c a b pos) (nE e t u):=⟨HX d.h f.h g.h⟩
def aR(a:QE X e b):QS X (.Return (some e) pos) (jX b):=⟨FY a.h⟩
def hC{st:Stmt}:QS X st Bb:=⟨Bc⟩
def dz(c:PassesOwn (model X.prog X.w) X.A X.env X.xe)(d:X.calm=true)(e:oG cf=false)(hi:QI X b cf f)(h:QG X b g)(i:QSs X a j):
 QS X (.For b cf a [] pos) (Bl f g j):=⟨F2 c d hi.h h.h i.h (md e)⟩
def oK(i:Nat)(b:X.N.Nodup)(hi:X.N[i]? =some x)(c:Loc X.env.scope x)(d:X.fn x=true\/X.env.scope.names.lookup x=some .local)(f:gX e=false)(g:QE X e h):
 QS X (.Assign [.Name x a] e pos) (ti h (jJ i)):=⟨Bg b hi c g.h (kI f) d⟩
def bY(a:gX e=false)(b:QE X e c):QS X (.Expr e pos) (kr c):=⟨DI b.h (kI a)⟩
def BU(c:gX e=false)(hw:wW e=false)(a:bg b=false)(d:QE X e f)(h:QG X b g):QS X (.Assign [b] e pos) (ti f g):=
 ⟨F1 d.h h.h (kI c) (wX hw) (by rw[dP a];rfl)⟩
def yf(i:Nat)(a:X.N.Nodup)(hi:X.N[i]? =some x)(b:Loc X.env.scope x)(c:X.fn x=true\/X.env.scope.names.lookup x=some .local):QG X (.Name x pos) (jJ i):=⟨DJ a hi b c⟩
def cU:QGs X [] FZ:=⟨DK⟩
def gsE(a:bg e=false)(b:QG X e t)(c:QGs X es u):QGs X (e::es) (Bd t u):=⟨Be b.h c.h (by rw[dP a];rfl)⟩
def fK(b:X.K=K)(c:X.calm=true)(a:es.any bg=false)(h:QGs X es t):QG X (.Tuple es k pos) (Bf K es.length t):=by
 subst b;exact⟨F0 c h.h (j3 a).1 (j3 a).2⟩
def uU:OpQ X (binaryOp .Sub) (rI0 λi j=> .int (i-j)):=⟨F6⟩
def BV:OpQ X (binaryOp .Mult) BO:=⟨Ev⟩
def cm:OpQ X (binaryOp .Mod) (rI (λ_ j=>0<j) λi j=> .int (i%j)):=⟨F7⟩
def eF:OpQ X (binaryOp .FloorDiv) (rI Ib λi j=> .int (i/j)):=⟨DL⟩
def eA:OpQ X (compareOp .Eq) GF:=⟨GG⟩
def fh:OpQ X (compareOp .NotEq) GH:=⟨GI⟩
def zT:OpQ X (compareOp .Lt) (rI0 λi j=> .bl (decide (i<j))):=⟨Ig⟩
def zU:OpQ X (compareOp .LtE) (rI0 λi j=> .bl (decide (i<=j))):=⟨Ih⟩
def uV:OpQ X (compareOp .Gt) (rI0 λi j=> .bl (decide (j<i))):=⟨Ii⟩
def Fv:OpQ X (compareOp .Is) (λx y H Q=>y= .non/\Q (.bl (decide (x= .non))) H):=⟨Ga⟩
def mf:OpQ X (compareOp .IsNot) (λx y H Q=>y= .non/\Q (.bl (!decide (x= .non))) H):=⟨DM⟩
def wZ(h:X.K=K):OpQ X (compareOp .In) (Ew K):=⟨GN h⟩
nonrec abbrev yg:R2:=λx y H Q=>∃i j,x= .str i/\y= .str j/\Q (.bl (!(!(Builtin.Str.occurrences j i 0 j.length 1).isEmpty))) H
nonrec abbrev yh(K:ZA):R2:=λx y H Q=>yg x y H Q\/rIn K true x y H Q
def EA(h:X.K=K):OpQ X (compareOp .NotIn) (yh K):=by subst h;exact⟨tJ.or tH⟩
def cc(h:X.K=K):cJ X (.builtin "len") (λxs H Q=>∃x n,xs=[x]/\DP K x H n/\Q (.int n) H):=⟨zP h⟩
def BW(h:X.K=K)(a:X.calm=true):cJ X (.builtin "all") (λxs H Q=>∃(p:Addr) (bs:List Bool),xs=[.ref p]/\SqL K H p (bs.map V.bl)/\Q (.bl (bs.all id)) H):=⟨zQ h a⟩
def Fw(a:X.calm=true):cJ X (.builtin "max") (λxs H Q=>∃i j,xs=[.int i,.int j]/\Q (.int (if j>i then j else i)) H):=⟨zx a⟩
def Ir(a:X.calm=true):cJ X (.builtin "min") (λxs H Q=>∃i j,xs=[.int i,.int j]/\Q (.int (if j<i then j else i)) H):=⟨zy a⟩
def kK(h:X.K=K):cJ X (.builtin "isinstance") (λxs H Q=>∃x n t b,xs=[x,.ty n]/\jY K H x t/\kitOne K t (.type n)=some b/\Q (.bl b) H):=⟨zR h⟩
def Fx:cJ X (.type "int") (λxs H Q=>(∃i,xs=[.int i]/\Q (.int i) H)\/∃k,xs=[.bl k]/\Q (.int (if k then 1 else 0)) H):=⟨zA⟩
def fY(h:X.K=K):cJ X (.type "list") (λxs H Q=>∃p ys,xs=[.ref p]/\(SqL K H p ys\/SqT K H p ys)/\∀l,H l=none->Q (.ref l) (upd H l (.lst ys))):=⟨wU h⟩
def bi:MtQ X "list.append" tL:=⟨rB⟩
def uW:MtQ X "list.extend" tM:=⟨zI⟩
def tQ(h:X.K=K):MtQ X "str.join" (ye K):=⟨BP h⟩
end
open PySem PySem.Spec PyProof.Rows PySem.SeqAt
section
variable{X:Cx}{pins:ZE}{σ:St}{H:Hp}{s:Shared}
variable{h':Heap}{tk:Nat}{fp:List Addr}
def Inv.moved(I:Inv X pins σ H s)(c:∀b∈fp,nF X pins H b)(d:∀b o,b∉fp->s.heap.get? b=some o->h'.get? b=some o):Inv X pins σ H {s with heap:=h',toks:=tk}:=by
 have f:∀b v,H b=some v->b∉fp:=λb v e a=>by rw[(c b a).1]at e;cases e
 refine I.step (λb a=>%[(c b a).2.2.2.1,(c b a).2.1,(c b a).2.2.2.2.1|(c b a).2.2.2.2.2]) (λb o _ _ g e _=>d b o g e) (λb o _ _ g e _=>%[o.slots|d b o g e]) (λ_ _ _ _ n=>n)
  (λb o g e=>%[o|d b o g e]) (λ_ _ e=>e) (λ_ _ _ e=>e) (λb ps e=>%[#[]|by rw[e];simp]) (λm l=>?_) (λb v e=>?_) I.bare
 .have%[o,es,p,t|r]:=l;exact%[o,es,p,d _ o (λa=>(c _ a).2.1 rfl) t|r]
 .refine(I.hok b v e).stay (λj u h q=>d j u ?_ q) (λ_ q=>q) λ_ _ q=>q
  rcases h with i|i
  .exact i▸f b v e
  .exact f j _ i
def Inv.stood(I:Inv X pins σ H s)(J:Inv X pins σ H {s with heap:=h',toks:=tk})(c:⇑s<=a)(new:bX X.prog X.w (upd H a o) h' a o):Inv X pins σ (upd H a o) {s with heap:=h',toks:=tk}:=by
 have d:=I.hok.fresh c;refine%[J.ok,J.os,J.bare,?_,J.loc,J.cell,?_,?_,?_,?_|J.len]
 .refine%[J.base.keep,J.base.slot,λb o e n j=>?_,J.base.there,λb xs e=>?_,λb o v e=>?_|λb ps e=>?_]
  .rw[am ((λb o e=>Zt (Zg (Zg (Zv e) I.sz) c)) b o e)];exact J.base.free b o e n j
  .rw[am (ay (J.base.tups b xs e) d)];exact J.base.tups b xs e
  .rw[am (ay (J.base.frzs b o v e) d)];exact J.base.frzs b o v e
  .have%[m|q]:=J.base.tbls b ps e;exact%[m|(am (ay q d))▸q]
 .rw[am (Zt (Zg I.lt c))];exact J.free
 .intro g f e;have%[l|q]:=I.cell g f e;rw[am (Zt (Zg q.lt c))];exact J.freeC g f e
 .intro p h;have%[e,n|r]:=J.pin p h;refine%[e,?_|r];rw[am (Zt (Zg (Zv (I.pin p h).1) c))];exact n
 .intro b v e;by_cases i:b=a
  .subst i;rw[aa]at e;cases e;exact new
  .rw[am i]at e;refine(J.hok b v e).stay (λ_ _ _ q=>q) (λf q=>?_) λf xs q=>?_
   .rw[am (ay q d)];exact q
   .rw[am (ay q d)];exact q
end
abbrev w4:V->List V->Hp->VK->Prop:=λx vs H Q=>∃z y,x= .str z/\vs=[.str y]/\1<=y.length/\z.length+2<=sizeLine/\∀l,H l=none->Q (.ref l) (upd H l (.lst ((Txt.split z y).map V.str)))
def rN:∀ss k,aK (ss.map V.str) (strsFrom k ss)
 |[],_=> .nil
 | _::r,k=> .cons %[_|rfl] (rN r _)
def BX{X:Cx}:MtM X "str.split" w4:=by
 intro pins s l H x vs v us Q I f g h;have%[z,y,rfl,rfl,m,n|q]:=h;have%[t|rfl]:=f;have%[o,rfl|i]:=g.one;have%[u|rfl]:=i;have b:(y.length==0)=false:=by simp;lia
 have j:=split_le z y;by_cases c:(decide (z.length<y.length)||decide (Builtin.Str.strKind z<Builtin.Str.strKind y))=true
 .have e:Txt.split z y=[z]:=if_pos c;rw[e]at q;exact call_meets F.slot_str_split (typeIs_str _ _ _) F.entry_str_split (F.args_str_split_2 _ _) (meets_str_split_cannot_occur z y t u c) %[.ref _,_,I.lnew (ys:=[.str z]) (.cons %[_|rfl] .nil) (by show 1<=sizeLine;decide),rfl|q _ I.fresh]
 .have d:=Bool.eq_false_iff.mpr c;by_cases c2:(Builtin.Str.occurrences z y 0 z.length (z.length+1)).isEmpty=true
  .have e:Txt.split z y=[z]:=(if_neg c).trans (if_pos c2);rw[e]at q;exact call_meets F.slot_str_split (typeIs_str _ _ _) F.entry_str_split (F.args_str_split_2 _ _) (meets_str_split_not_found z y t u d b c2) %[.ref _,_,I.lnew (ys:=[.str z]) (.cons %[_|rfl] .nil) (by show 1<=sizeLine;decide),rfl|q _ I.fresh]
  .have e:Txt.split z y=Builtin.Str.partsBetween z _ y.length:=(if_neg c).trans (if_neg c2);have a:(Builtin.Str.partsBetween z (Builtin.Str.occurrences z y 0 z.length (z.length+1)) y.length).length<=sizeLine:=by rw[<-e];lia
   refine call_meets F.slot_str_split (typeIs_str _ _ _) F.entry_str_split (F.args_str_split_2 _ _) (meets_str_split_sep z y t u d b (Bool.eq_false_iff.mpr c2) ⋯ a) ?_;rw[<-e]at a ⊢;exact%[.ref _,_,I.lnew (rN _ _) (by rw[Z6];exact a),rfl|q _ I.fresh]
def yi{X:Cx}:MtQ X "str.split" w4:=⟨BX⟩
abbrev Ite(K:ZA)(a:Addr)(xs:List V):It:=⟨λi H=>SqL K H a xs/\i<xs.length,λi H v b=>∃x T,xs[i]? =some x/\H T=none/\v= .ref T/\b=upd H T (.tup [.int i,x]),λi H=>SqL K H a xs/\xs.length<=i⟩
abbrev ESt(e c a:Addr)(i:Nat)(h:Heap):Prop:=(∃b,IsEnum h e c i b)/\h.IsListIter c a i
def zV{P:Program}{K:ZA}(e it a:Addr)(xs:List V)(hne:e≠it):oi P w K (.Tuple elts kt tp) (Ite K a xs) [e,it] e (ESt e it a) where
 mem:=by simp
 obj:=λi h st b hb=>by
  have%[%[old|he],o1,e1,_|d1]:=st;simp only[Yw,X8,or_false]at hb;rcases hb with rfl|rfl
  .exact%[_,he|λv q=>nomatch q]
  .exact%[o1,e1|λv q=>by rw[d1]at q;cases q]
 keep:=λi h h' st k=>by
  have%[%[old|he],o1,e1|r1]:=st;exact%[%[old|k e ∅ _ he],o1,k it ∅ _ e1|r1]
 item:=by
  intro X hP hw hK hc i pins s σ H E I hf st hg;subst hP hw hK;have%[%[old|he]|hit]:=st;obtain⟨hq,hi⟩:SqL X.K H a xs/\i<xs.length:=hg;have%[its,rv,p|hz]:=I.list hq;have%[u,hu|ru]:=rv.get (i:=i) (x:=xs[i]) ∅;refine wpAny_pyNext_enum_item he hit p.isList ↑hu hne λh1 he1 hit1 ht1 hz1 hk1=>%[_,rfl|wpAny_letOwnedTupleGo_enum he1 λh2 he2 sb2=>?_]
  replace sb2:SameBut e h1 h2:=sb2;have elt:=Zv he;have kk:∀b o,b∉[e,it]->s.heap.get? b=some o->h2.get? b=some o:=λb o hb q=>by
   simp only[Yw,X8,or_false,not_or]at hb;exact(sb2.2 b hb.1).trans (hk1 b o hb.1 hb.2 q)
  have J:Inv X pins σ H {s with heap:=h2,toks:=s.toks+1}:=I.moved hf kk;have I2:Inv X pins σ (upd H ⇑s (.tup [.int i,xs[i]])) _:=
   I.stood J (Zi _) %[by show 2<=sizeLine;decide,[.int i s.toks,u],.cons %[_|rfl] (.cons ru .nil),_,((sb2.2 _ (X2 elt)).trans ht1),rfl,_|rfl]
  refine%[.ref ⇑s,_,I2,rfl,%[xs[i],_,by simp,I.fresh,rfl|rfl],%[%[u|he2]|?_]|λb hb=>?_]
  .have%[o,q|r]:=hit1;exact%[o,(sb2.2 _ (Ne.symm hne)).trans q|r]
  .have:b<⇑s:=by
    simp only[Yw,X8,or_false]at hb;rcases hb with rfl|rfl
    .exact elt
    .exact(by have%[o,q|_]:=hit;exact Zv q)
   rw[am (Zt this)];exact(hf b hb).1
 done:=by
  intro X hP hw hK hc i pins s σ H E I hf st hg;subst hP hw hK;have%[%[old|he]|hit]:=st;obtain⟨hq,hi⟩:SqL X.K H a xs/\xs.length<=i:=hg;have%[its,rv,p|hz]:=I.list hq;have hl:=rv.length;refine wpAny_pyNext_enum_end (I.ok.hd hc) he hit p.isList (by simp;lia) λh1 xb=>%[rfl|I.moved hf λb o hb q=>?_]
  simp only[Yw,X8,or_false,not_or]at hb;exact xb b o hb.2 q
 self:=λA i s Q E st h=>by
  have%[%[old|he]|hit]:=st;exact wpAny_pyIter_enum he h
abbrev Fy(K:ZA)(c:TA):TI:=λd H R=>c d H λvs b=>∃a xs,vs=[.ref a]/\SqL K b a xs/\R (Ite K a xs) b
section
variable{X:Cx}{K:ZA}{pos:Pos}
def yj(m:X.K=K)(n:Gl X "enumerate")(o:X.mg "enumerate"=none)(r:bg a=false)(t:QA X [a] v):
 QI X (.Tuple g G J) (.Call (.Name "enumerate" p) [a] [] pos) (Fy K v):=by
 subst m
 constructor
 intro pins s w H R I h;refine Call_ (jW I n o boot_enumerate (PyProof.Rows.callWith_type1 (thP (t.h pos pins s w H _ I h) λus d vs y c z q1=>?_) (aG r) rfl));have%[l,xs,e,A|q]:=q1;subst e;have%[u,rfl|B]:=du z;cases B;have%[its,L,p|M]:=c.list A;refine call_enumerate_list p.isList λN i f C E=>wpAny_pyIter_enum i %[⇑d+1,[⇑d+1,⇑d],ESt _ ⇑d l,Ite X.K l xs,y,rfl,(c.kept E),zV _ _ _ _ (Nat.succ_ne_self _),%[%[_|i]|f],λb j=>?_|q]
 simp only[Yw,X8,or_false]at j;rcases j with rfl|rfl
 .exact c.fpOk (Yg _) (c.hok.fresh (Yg _))
 .exact c.fpOk (Zi _) (c.hok.fresh (Zi _))
end
section
variable(h:Heap)(x y:Str)(t u:Tok)
noncomputable abbrev zs1:Heap:=h.push {cls:= .type (strIterType x),data:= .fields #[.str x t,.int 0 0]}
noncomputable abbrev zs2:Heap:=(zs1 h x t).push {cls:= .type (strIterType y),data:= .fields #[.str y u,.int 0 0]}
noncomputable abbrev zs3:Heap:=(zs2 h x y t u).push {cls:= .type "tuple",data:= .seq #[.ref h.objs.size,.ref (zs1 h x t).objs.size]}
noncomputable abbrev zs4:Heap:=(zs3 h x y t u).push {cls:= .type "tuple",data:= .seq #[.none,.none]}
noncomputable abbrev zs5:Heap:=(zs4 h x y t u).push {cls:= .type "zip",data:= .fields #[.none,.bool false,.bool false,.ref (zs2 h x y t u).objs.size,.ref (zs3 h x y t u).objs.size]}
end
def nH(x y:Str)(t u:Tok):
 Meets (Builtin.«zip.__new__» %[[.type "zip",.str x t,.str y u]|[]]) (λ_ R s=>R (.ok (.ret (.ref (zs4 s.heap x y t u).objs.size))) {s with heap:=zs5 s.heap x y t u}):=
 .of_wp λprog w A R s b=>by
  have%[c,g,d,tk|os]:=s;have a:=PySem.sub_zip
  wp_walk using wpAny_pyIter_strU (x:=x) (t:=t),wpAny_pyIter_strU (x:=y) (t:=u)
  exact%[_,rfl|b]
section
#where
def oM
 (h:∀h',IsZip h' (⇑s+4) (⇑s+2) (⇑s+3) .none->IsPair h' (⇑s+2) (.ref ⇑s) (.ref (⇑s+1))->IsPair h' (⇑s+3) .none .none->
  h'.IsStrIter ⇑s (strIterType x) x t 0->h'.IsStrIter (⇑s+1) (strIterType y) y u 0->(∀c o,s.heap.get? c=some o->h'.get? c=some o)->Q (.ref (⇑s+4)) {s with heap:=h'}):
 ↥A (call (.type "zip") [.str x t,.str y u]) Q E s:=by
 refine callType_new F.called_zip (!1) (F.typeCall_zip_2 _ _) (F.newCall_zip_2 _ _) (λobj=>F.args_object_init_3 obj _ _) F.entry_zip_new (nH x y t u) ?_;have n1:(zs1 s.heap x t).objs.size=⇑s+1:=Zq ..;have a:(zs2 s.heap x y t u).objs.size=⇑s+2:=by rw[Zq,n1]
 have b:(zs3 s.heap x y t u).objs.size=⇑s+3:=by rw[Zq,a]
 have e:(zs4 s.heap x y t u).objs.size=⇑s+4:=by rw[Zq,b]
 have f:∀c o,(zs4 s.heap x y t u).get? c=some o->(zs5 s.heap x y t u).get? c=some o:=λ_ _ q=>Z7 _ q
 have g:∀c o,(zs3 s.heap x y t u).get? c=some o->(zs5 s.heap x y t u).get? c=some o:=λc o q=>f c o (Z7 _ q)
 have i:∀c o,(zs2 s.heap x y t u).get? c=some o->(zs5 s.heap x y t u).get? c=some o:=λc o q=>g c o (Z7 _ q)
 have k2:∀c o,(zs1 s.heap x t).get? c=some o->(zs5 s.heap x y t u).get? c=some o:=λc o q=>i c o (Z7 _ q)
 have k1:∀c o,s.heap.get? c=some o->(zs5 s.heap x y t u).get? c=some o:=λc o q=>k2 c o (Z7 _ q)
 have d:(zs5 s.heap x y t u).get? (zs4 s.heap x y t u).objs.size=some _:=Zj _ rfl;have j:(zs5 s.heap x y t u).get? (zs3 s.heap x y t u).objs.size=some _:=f _ _ (Zj _ rfl);have l:(zs5 s.heap x y t u).get? (zs2 s.heap x y t u).objs.size=some _:=g _ _ (Zj _ rfl);have m:=i _ _ (Zj _ rfl);show _/\_;rw[a,b,e]at d;rw[n1,a]at l;rw[b]at j;rw[n1]at m;rw[e];exact%[%[_,d|rfl]|h _ d l j %[_,(k2 _ _ (Zj _ rfl)),rfl|rfl] %[_,m,rfl|rfl] k1]
end
abbrev Fz(a:TA):TI:=λb H R=>a b H λvs c=>∃x y,vs=[.str x,.str y]/\R (Itz x y) c
section
variable{X:Cx}{K:ZA}{pos:Pos}
def FA(v:Gl X "zip")(w:X.mg "zip"=none)(z:bg a=false)(f:bg b=false)(A:QA X [a,b] B):
 QI X (.Tuple n L M) (.Call (.Name "zip" p) [a,b] [] pos) (Fz B):=by
 constructor
 intro pins s C H R I h;refine Call_ (jW I v w boot_zip (PyProof.Rows.callWith_type1 (thP (A.h pos pins s C H _ I h) λus c vs E g G q1=>?_) (aG z) (by rw[aG f];rfl)));have%[x,y,e|q]:=q1;subst e;have%[N,O,rfl,%[t|rfl],u|rfl]:=kz G;refine oM λQ o l m hi1 hi2 J=>wpAny_pyIter_zip o ?_
 have ne:∀i j,i≠j->⇑c+i≠⇑c+j:=λi j h e=>h (Nat.add_left_cancel e)
 refine%[⇑c+4,[⇑c+4,⇑c+2,⇑c+3,⇑c+0,⇑c+1],_,Itz x y,E,rfl,(g.kept J),
  BT _ _ _ _ _ x y t u %[ne 2 4 (!1),ne 3 4 (!1),ne 0 4 (!1),ne 1 4 (!1),ne 2 3 (!1),ne 2 0 (!1),ne 2 1 (!1),ne 3 0 (!1),ne 3 1 (!1)|ne 0 1 (!1)],
  %[o,l,%[_,_|m],hi1|hi2],λb r=>?_|q]
 have d:⇑c<=b:=by
  simp only[Yw,X8,or_false]at r;rcases r with rfl|rfl|rfl|rfl|rfl<;> exact le_add_right _ _
 exact g.fpOk d (g.hok.fresh d)
end
inductive D where
 | non|bl (b:Bool)|int (i:Int)|str (x:Str)|lst (ds:List D)|tup (ds:List D)
section
variable{K:ZA}{H H':Hp}
def ah.seqT(e:ah H H')(h:SqT K H a xs):SqT K H' a xs:=by
 rcases h with(h|⟨o,h⟩)|h
 .exact .inl (.inl (e _ _ h))
 .exact .inl (.inr %[o|e _ _ h])
 .exact .inr h
end
section
variable{X:Cx}{pins:ZE}{σ:St}{H:Hp}{s:Shared}
end
def w6{X:Cx}(G:X.N.Nodup)(t:X.N[i]? =some x)(J:Loc X.env.scope x)(L:X.fn x=true\/X.env.scope.names.lookup x=some .local)
 (u:swapsWith (.ListComp l [%[w,cf,p|0]] a pos) (some (.Name x A)) f.line X.env=pure true) (S:aA X a r y) (M:X.calm=true) (N:∀x,foldedSetIterable cf X.env x=pure x) (hi:PI X w cf O)
 (Q:∀c d j,PG (bQ X a r c d j) w g) (T:∀c d j,PTs (bQ X a r c d j) p U) (Y:∀c d j,PE (bQ X a r c d j) l te):
 PS X (.Assign [.Name x A] (.ListComp l [%[w,cf,p|0]] a pos) f) (ti (rG O r.length y g U te) (jJ i)):=by
 intro pins s σ H D I h;refine Z2 (wpAny_standAt ?_);show wpAny _ _ (swapsWith (.ListComp l _ a pos) (some (.Name x A)) f.line X.env>>= _) _ _ _;rw[u];refine Z2 (Z3 (Z2 (Z2 (rH S M hi Q T Y N I h λD' C H5 s6 fl m hn j k q=>?_))));have%[o,es,ep,B,hd|hr]:=id hn;have I7:=(k s6.heap (SameBut.refl _ _)).pinned (λb n=>(Xp n)▸j) λb n=>by
  rw[Xp n];exact%[o,B|λv z=>by lia]
 refine wpAny_assign_Name (oh I7 G t J (v:= .ref D') rfl (λs8 E=>%[m,%[o,es,ep,((E.pin _ (Yv _ (Yv _ (eY (mem_singleton.mpr rfl) B)))).1),hd|hr]|λh' sb=>Z3 (Z3 %[_,H5,(E.unpinned).moved (λb n=>(Xp n)▸j) λb o' n e=>(sb.2 b (λz=>n (mem_singleton.mpr z))).trans e|q])]) L)
def zW(h:(env.blockKind== .function&&env.kindOf x==some .local&&b.line==pos.line&&!(a.names.any λ(n,k)=>n==x&&(k== .local||k== .cell)))=true):
 swapsWith (.ListComp c gens a pos) (some (.Name x b)) l env=pure true:=by
 show(pure (env.blockKind== .function&&env.kindOf x==some _&&b.line==pos.line&&!(a.names.any _)))=pure true;rw[h]
def iV{X:Cx}(i:Nat)(q:X.N.Nodup)(f:X.N[i]? =some x)(r:Loc X.env.scope x)(s:X.fn x=true\/X.env.scope.names.lookup x=some .local)
 (h:(X.env.blockKind== .function&&X.env.kindOf x==some .local&&t.line==pos.line&&!(c.names.any λ(n,k)=>n==x&&(k== .local||k== .cell)))=true) (S:aA X c e j) (u:X.calm=true) (v:oG cf=false) (hi:QI X o cf w)
 (y:∀a b d,QG (bQ X c e a b d) o g) (z:∀a b d,QTs (bQ X c e a b d) l A) (B:∀a b d,QE (bQ X c e a b d) m C):
 QS X (.Assign [.Name x t] (.ListComp m [%[o,cf,l|0]] c pos) p) (ti (rG w e.length j g A C) (jJ i)):=
 ⟨w6 q f r s (zW h) S u (md v) hi.h (λa b d=>(y a b d).h) (λa b d=>(z a b d).h) (λa b d=>(B a b d).h)⟩
section
variable{X:Cx}{pins:ZE}{σ:St}{H:Hp}{s:Shared}
end
section
variable{X:Cx}{K:ZA}
end
def bR:Slot "set_iterator" "__next__" "set_iterator.__next__":=
 .of (owner:="set_iterator") (n:="__next__") (by rw[typeLookup_type,builtinLookup_eq_fast];kernel_rfl) (!0) (!0) (!0) (by first|exact .inl (!0)|exact .inr ∅) (by kernel_rfl)
def gu:entryFor table "set_iterator.__next__"=some Builtin.«set_iterator.__next__»:=entryFor_of_tree (by kernel_rfl)
def iF(a:Value):argsOk "set_iterator.__next__" %[[a]|[]]:=by kernel_rfl
def qC:entryFor table "set.__iter__"=some Builtin.«frozenset.__iter__»:=entryFor_alias (id':="frozenset.__iter__") (by kernel_rfl) rfl (!0) (by kernel_rfl)
def qD(t:SetTable)(n:Nat):(t.orStandIn n).led=t.led:=by unfold SetTable.orStandIn;split<;> rfl
def xa(t:SetTable)(es:Array _)(h:Int)(x:Value):(layNew t es h x).2.1.led=t.led:=by
 unfold layNew;cases t.freeSlot h with
 | none=>rfl
 | some p=>
   exact qD _ _
def tR(t:SetTable)(es:Array _)(n:Nat):(relayAll t es n).2.1.led=t.led:=by
 unfold relayAll;cases a:t.relaid _ n with
 | none=>rfl
 | some p=>
   have%[t'|c]:=p;simp only
   split
   .simp only[SetTable.relaid,SetTable.laid]at a;cases b:SetTable.layClean _ _ with
    | none=>rw[b]at a;cases a
    | some e=>rw[b]at a;injection a with a;injection a with d f;rw[<-d]
   .rfl
def oN(t:SetTable)(es:Array _)(n:Nat)(c:t.plain=false):(relayAll t es n).2.1.plain=false:=by
 unfold relayAll;cases a:t.relaid _ n with
 | none=>rfl
 | some p=>
   have%[t'|d]:=p;simp only
   split
   .simp only[SetTable.relaid,SetTable.laid]at a;cases b:SetTable.layClean _ _ with
    | none=>rw[b]at a;cases a
    | some f=>rw[b]at a;injection a with a;injection a with e g;exact e▸c
   .rfl
abbrev aT(w:World):Bool:=w.params.followText "set-order"
abbrev br(w:World)(a:Addr)(ks:ZB)(h:Heap):Prop:=
 ∃o es b t ss,h.get? a=some o/\o.ExactSet/\o.data= .set es b t/\StrsAre (es.toList.map (·.2)) ss/\ss.Perm ks/\ks.Nodup/\(∀e∈es.toList,∃z u,e=(hashStr w z,.str z u))/\es.size<scanBound/\t.fits es.size=true/\(es.size≠0->t.plain=false)/\t.led=!aT w
def rO(h:∀e∈l,∃z u,e=(hashStr w z,.str z u)):ElemsOf (aQ prog w) l:=λe a=>by
 have%[z,u|rfl]:=h e a;exact%[%[Sum.inr z,dN z u|rfl]|rfl]
def eB:∀{vs:ZF} {ss:ZB} {z:Str},StrsAre vs ss->((∃u,Value.str z u∈vs)↔z∈ss)
 | _,_,z,.nil=>by simp
 | _,_,z,.cons x t h=>by
   have b:=eB (z:=z) h
   constructor
   .rintro⟨u,a⟩;rcases mem_cons.mp a with e|e
    .injection e with c _;exact c▸Zm
    .exact Zk _ (b.mp %[u|e])
   .intro d;rcases mem_cons.mp d with e|e
    .exact e▸%[t|Zm]
    .have%[u|a]:=b.mpr e;exact%[u|Zk _ a]
def iW:∀{vs ws:ZF} {ss ts:ZB},StrsAre vs ss->StrsAre ws ts->StrsAre (vs++ws) (ss++ts)
 | _,_,_,_,.nil,h=>h
 | _,_,_,_,.cons x t h,h'=> .cons x t (iW h h')
def bA:∀{vs:ZF} {ss:ZB},StrsAre vs ss->vs.length=ss.length
 | _,_,.nil=>rfl
 | _,_,.cons x t h=>by rw[Zr,Zr,bA h]
def cq(h:StrsAre vs ss)(p:ws.Perm vs):∃ts,StrsAre ws ts/\ts.Perm ss:=by
 refine%[ws.map strOf,strsAre_map ws λv a=>h.all v (p.mem_iff.mp a)|?_];have:=p.map strOf;rwa[h.strs]at this
section
#where
variable{a:Addr}
def br.stored{h:Heap}{o:Obj}{es b:Array (Int×Value)}{t t':SetTable}(i:h.get? a=some o)(c:o.ExactSet)(d:o.data= .set es f t)(j:StrsAre (b.toList.map (·.2)) ss)(l:ss.Perm ks)(m:ks.Nodup)
 (n:∀e∈b.toList,∃z u,e=(hashStr w z,.str z u)) (p:b.size<scanBound) (r:t'.fits b.size=true) (v:t'.plain=false) (y:t'.led=!aT w):
 (h.update a (Obj.putSet b t')).get? a=some {o with data:= .set b (f+1) t'}/\br w a ks (h.update a (Obj.putSet b t')):=by
 have g:=by
  have q:=get?_update_self (Obj.putSet b t') i (by rw[putSet_of b t' d];rfl);rwa[putSet_of b t' d]at q
 exact%[g,_,b,f+1,t',ss,g,c,rfl,j,l,m,n,p,r,λ_=>v|y]
def uX{g:Bool->Sem Unit}(N:∀(b:Bool) (h:Shared) (q:Unit->Shared->Prop),q () h->↥A (g b) q E h){m:Bool}{R:Option Bool->Shared->Prop}(r:s.heap.get? a=some o)(i:o.ExactSet)(v:o.data= .set es Y t)
 (y:StrsAre (c.toList.map (·.2)) ss) (B:ss.Perm ks) (C:ks.Nodup) (G:∀e∈c.toList,∃z u,e=(hashStr w z,.str z u)) (j:c.size<scanBound) (O:d.fits c.size=true) (H:d.plain=false) (I:d.led=!aT w)
 (J:∀h',SameBut a s.heap h'->br w a ks h'->R (some true) {s with heap:=h'}):
 ↥A (do
  storeSet a c d
  if(!m&&d.tooFull)=true then do
   g (relayAll d c (SetTable.grown c.size)).2.2
   storeSet a (relayAll d c (SetTable.grown c.size)).1 (relayAll d c (SetTable.grown c.size)).2.1
   pure (some true)
  else pure (some true)) R E s:=by
 have%[g1|Q]:=br.stored r i v y B C G j O H I;have M:=SameBut.update s.heap a (Obj.putSet c d);refine Z2 (wpAny_storeSet_of r v ?_ (fits_of_scanBound j))
 split
 .have p:=relayAll_perm d c (SetTable.grown c.size);have f:=relayAll_fits d c (SetTable.grown c.size);have l:=tR d c (SetTable.grown c.size);have pl:=oN d c (SetTable.grown c.size) H
  generalize relayAll d c _=L at p f l pl ⊢
  have%[n,t3|gv]:=L;have z:n.size=c.size:=by rw[<-Zb,p.length_eq,Zb]
  have%[ts,q1|T]:=cq y (p.map _);exact Z2 (N _ _ _ (Z2 (wpAny_storeSet_of g1 rfl (Z3 (J _ (M.trans (SameBut.update _ a _)) (br.stored g1 i rfl q1 (T.trans B) C (λe U=>G e (p.mem_iff.mp U)) (by rw[z];exact j) f pl (l.trans I)).2)) (fits_of_scanBound (by rw[z];exact j)))))
 .exact Z3 (J _ M Q)
def kL{ks:ZB}(hS:br w a ks s.heap)(r:ks.length+1<scanBound)
 (hQ:∀h' b,SameBut a s.heap h'->br w a (if z∈ks then ks else ks++[z]) h'->Q b {s with heap:=h'}):↥A (setAddHashed a (.str z tk) (hashStr w z)) Q E s:=by
 have%[o,es,ep,t,ss,C,v,G,g,hp,H,h,hb,hf,ab|c]:=hS;have hn:es.size=ks.length:=by
  have q:=bA g;rw[Z6,Zb,hp.length_eq]at q;exact q
 have hE:ElemsOf (aQ prog w) es.toList:=rO h;have I:(aQ prog w).is (Sum.inr z) (.str z tk)=true:=dN z tk;unfold setAddHashed setAddHashedIn;refine wpAny_holding (Z2 (wpAny_setState_of C G hf ?_));dsimp only;rw[byScan_of (knd:=aQ prog w) rfl hb hE];simp only[↓reduceIte];unfold setAddByScan;refine Z2 (Z2 (wpAny_rule (Z2 (wpAny_setScan_of I C G hf hE ?_))));have J:(∃e∈es.toList,(aQ prog w).is (Sum.inr z) e.2=true)↔z∈ks:=by
  rw[<-hp.mem_iff,<-eB g]
  constructor
  .rintro⟨e,l,q⟩;have%[y,u|rfl]:=h e l;have q:jI (Sum.inr z) (Value.str y u)=true:=q;rcases bd q with⟨i,t',q1,m⟩|⟨y',t',q1,m⟩
   .cases m
   .cases q1;exact%[u|Xr ⟨_,l,by injection m with e1 _;rw[e1]⟩]
  .rintro⟨u,hu⟩;have%[e,l|q]:=Xq hu;exact%[e,l|q▸dN z u]
 cases hr:List.findIdx? _ es.toList with
 | some j=>
   have%[hj,ac|_]:=List.findIdx?_eq_some_iff_getElem.mp hr;have hz:=J.mp %[es.toList[j],Ye hj|ac];have q:=hQ s.heap false (SameBut.refl a s.heap) ((if_pos hz)▸%[o,es,ep,t,ss,C,v,G,g,hp,H,h,hb,hf,ab|c]);exact Z3 (Z3 q)
 | none=>
   have hz:z∉ks:=λq=>by
    have%[e,l|m]:=J.mpr q;have:=List.findIdx?_eq_none_iff.mp hr e l;rw[m]at this;cases this
   rw[if_neg hz]at hQ;have M:=layNew_perm t es (hashStr w z) (.str z tk);have lf:=layNew_fits t es (hashStr w z) (.str z tk);have ll:=xa t es (hashStr w z) (.str z tk)
   generalize hL:layNew t es _ _=L at M lf ll
   have%[B,t1,ai|ag]:=L;rw[toList_push]at M;have d:∀b f Q',Q' () f->↥A (match b with|true=>rule "set.scan.the-table-gave-way"|false=>pure ()) Q' E f:=λb f Q' q=>by
    cases b
    .exact Z3 q
    .exact wpAny_rule q
   have n:∀e∈B.toList,∃z u,e=(hashStr w z,.str z u):=λe l=>by
    rcases Xo (M.mem_iff.mp l)with q|q
    .exact h e q
    .rw[Xp q];exact%[z,tk|rfl]
   have q1:StrsAre ((es.toList++[(hashStr w z,Value.str z tk)]).map (·.2)) (ss++[z]):=by
    rw[Zd];exact iW g (.cons z tk .nil)
   have%[ts,m|q3]:=cq q1 (M.map _);have N:=q3.trans (hp.append_right _);have p:=nV H hz;have ae:B.size=es.size+1:=by rw[<-Zb,M.length_eq,Z9,Zb];rfl
   have O:B.size<scanBound:=by rw[ae,hn];exact r
   have fin:∀h',SameBut a s.heap h'->br w a _ h'->↥A _ Q E _:=λh' T U=>Z3 (hQ h' true T U)
   refine Z2 (d _ _ _ ?_);cases Y:t1.plain with
   | true=>
     exact Z2 (Z3 (uX d C v G m N p n O (SetTable.fits_plain_off lf) rfl (ll.trans c) λh' T U=>fin h' T U))
   | false=>
     exact uX d C v G m N p n O lf Y (ll.trans c) λh' T U=>fin h' T U
def uY(d:br w a ks s.heap)(c:ks.length+1<scanBound)
 (e:∀h' b,SameBut a s.heap h'->br w a (if z∈ks then ks else ks++[z]) h'->Q b {s with heap:=h',toks:=s.toks+1}):↥A (setAdd a (.str z tk)) Q E s:=by
 exact wpAny_holding (Z2 (wpAny_pyHash_str (kL d c e)))
end
abbrev nJ(ks:ZB)(z:Str):ZB:=if z∈ks then ks else ks++[z]
abbrev aO(ss:ZB):ZB:=ss.foldl nJ []
def BY(ks:ZB)(z:Str):(nJ ks z).length<=ks.length+1:=by
 unfold nJ;split
 .lia
 .exact Z9▸Zi _
def BZ:y∈nJ ks z↔y∈ks\/y=z:=by
 unfold nJ;by_cases h:z∈ks
 .rw[if_pos h]
  simp_all
 .rw[if_neg h,Yt,Yz]
def xc(h:ks.Nodup):(nJ ks z).Nodup:=by
 unfold nJ;by_cases a:z∈ks
 .rw[if_pos a];exact h
 .rw[if_neg a];exact nV h a
def uZ:∀{ss ks:ZB} {y:Str},y∈ss.foldl nJ ks↔y∈ks\/y∈ss
 |[],ks,y=>by simp
 | z::r,ks,y=>by
   rw[Y8,uZ,BZ,Yw]
   grind
def oO:∀{ss ks:ZB},ks.Nodup->(ss.foldl nJ ks).Nodup
 |[],_,h=>h
 | z::r,ks,h=>by
   rw[Y8];exact oO (xc h)
def bx:y∈aO ss↔y∈ss:=by unfold aO;rw[uZ];simp
def fi(ss:ZB):(aO ss).Nodup:=oO X6
def u8:∀(ss ks:ZB),(ss.foldl nJ ks).length<=ks.length+ss.length
 |[],ks=>by simp
 | z::r,ks=>by
   have a:=u8 r (nJ ks z);have b:=BY ks z;rw[Y8,Zr]
   lia
def br.keep(S:br w a ks h)(k:∀o,h.get? a=some o->h'.get? a=some o):br w a ks h':=by
 have%[o,es,b,t,ss,c|r]:=S;exact%[o,es,b,t,ss,k o c|r]
def va(val:Nat->Str)(i:Nat):aO ((List.range (i+1)).map val)=nJ (aO ((List.range i).map val)) (val i):=by
 unfold aO;rw[range_succ,Zd,List.foldl_append];rfl
section
variable{prog:Program}{w:World}{A:Around}{R:Result->Shared->Prop}{I:Addr}{fp wr:List Addr}{G:Array GenState->Array GenState->Prop}{n:Nat}{P:Nat->Value->Prop}{St:Nat->Shared->Prop}
def qE(W:WalksS prog w A.in1 I fp wr G n P St)(S:Addr)(c:S∉fp)(val:Nat->Str)(d:∀i v,P i v->∃t,v= .str (val i) t)(a:n+1<scanBound):
 ∀(k i:Nat) (s:Shared),n-i=k->i<=n->St i s->br w S (aO ((List.range i).map val)) s.heap->
  (∀s',Moved (S::wr) G s s'->br w S (aO ((List.range n).map val)) s'.heap->R (.ok (.ret .none)) s')->codeAny (model prog w) A (.builtin "set.update.loop" %[[.ref S,.ref I]|[]]) R s:=by
 have out:S∉wr:=λh=>c (W.sub _ h)
 have more:∀b∈wr,b∈S::wr:=λb a=>Zk _ a
 intro k
 induction k with
 | zero=>
   intro i s u hi st j fin;have e:i=n:=by lia
   subst e;refine codeAny_builtin F.entry_set_update_loop ?_;rw[Around.under_plainId F.plain_set_update_loop _];show wpAny _ A.in1 (pyNext (.ref I)>>= _) _ _ s;refine Z2 (W.done s _ _ st λf g=>?_);show wpAny _ A.in1 (ret Value.none) _ _ f;exact Z3 (fin f (g.mono more) (j.keep λo e=>g.heap S o out e))
 | succ k y=>
   intro i s u hi st j fin;have lt:i<n:=by lia
   refine codeAny_builtin F.entry_set_update_loop ?_;rw[Around.under_plainId F.plain_set_update_loop _];show wpAny _ A.in1 (pyNext (.ref I)>>= _) _ _ s;refine Z2 (W.item i s _ _ lt st λv f pv l g=>?_);have%[t|rfl]:=d i v pv;have room:(aO ((List.range i).map val)).length+1<scanBound:=by
    have q:=u8 ((List.range i).map val) [];rw[Z6,Yk]at q;unfold aO;simp only[length_nil,zero_add]at q
    lia
   refine Z2 (wpAny_holding (uY (j.keep (h':=f.heap) λo e=>g.heap S o out e) room λC b r m=>Z3 %[plainId_quiet F.plain_set_update_loop _|y (i+1) _ ⋯ lt (W.frame _ f _ _ l (Yg _) λb a o e=>?_) (by rw[va];exact m) λz B p=>?_]))
   .rw[r.2 b (λq:b=S=>c (q▸a))];exact e
   .refine fin z (Moved.trans W.gtrans ((g.mono more).then_heap (Yg _) λb o a e=>?_) B) p;rw[r.2 b (λq:b=S=>a (q▸Zm))];exact e
end
section
#where
noncomputable abbrev aU(w:World):Obj:={cls:= .type "set",dict:=none,data:= .set #[] 0 (.fresh 0 0 (!aT w))}
def vb(a:Value)(h:Q₁ (.ref ⇑s) {s with heap:=s.heap.push (aU w)}):
 codeAny (model prog w) A (.call (.builtin "set.__new__") %[[.type "set",a]|[]]) (wants Q₁ E) s:=by
 refine codeAny_of_tree ?_;show wpAny _ A.in1 _ _ _ s;refine Z2 (wpAny_of_eq (PySem.F.newCall_set_1 a) (Z3 %[plainId_quiet PySem.F.plain_set_new _|codeAny_builtin PySem.F.entry_set_new ?_]));unfold Builtin.«set.__new__» Builtin.Frozenset.newClass;have b:=sub_set_self;have%[c,g,d,tk|os]:=s;dsimp only
 wp_walk
 refine wpAny_askSetting (Z3 ?_);dsimp only;simp only[newObj];exact Z2 (wpAny_alloc (Z3 (Z3 h)))
def br.empty(e:h.get? a=some (aU w)):br w a [] h:=
 %[_,#[],0,_,[],e,%[rfl,rfl|rfl],rfl,.nil,.nil,X6,λe b=>by simp at b,!1,rfl,λq=>absurd rfl q|rfl]
def vc:∀{vs:ZF} {ss:ZB},StrsAre vs ss->∀(i:Nat) v,vs[i]? =some v->∃t,v= .str (ss.getD i (!"")) t
 | _,_,.nil,i,v,h=>by simp at h
 | _,_,.cons x t a,0,v,h=>by simp at h;exact%[t|by rw[<-h];rfl]
 | _,_,.cons x t a,i+1,v,h=>by
   have%[u|e]:=vc a i v (h);exact%[u|by rw[e];rfl]
def xf(ss:ZB):(List.range ss.length).map (λi=>ss.getD i (!""))=ss:=by
 apply ext_getElem
 .simp
 .intro i a b
  simp_all
def qF(hh:A.handled=none)(hl:s.heap.IsList l a)(hi:StrsAre a.toList ss)(hb:a.size+1<scanBound)
 (hQ:∀(h':Heap) (tk:Nat),br w ⇑s (aO ss) h'->(∀b o,s.heap.get? b=some o->h'.get? b=some o)->Q (.ref ⇑s) {s with heap:=h',toks:=tk}):
 ↥A (call (.type "set") [.ref l]) Q E s:=by
 have%[c,tl|T]:=called_set.mro;have B:=called_set.made;have U:=called_set.sub;refine wpAny_call (codeAny_of_tree ?_);show wpAny _ _ (callAny (.type "set") _) _ _ _;refine Z3 %[Code.quiet_builtin _ (!0)|codeAny_builtin F.entry_type_call ?_];rw[Around.under_plain (weight_type_call_type "set" [.ref l] []) rfl];have ac:=called_set.notType;have ae:=called_set.canCreate;have ag:=PySem.F.typeCall_set_1 (.ref l)
 repeat any_goals first|assumption|wp_step
 refine codeAny_mono (vb (.ref l) (E:=E) (Q₁:=λobj g=>obj= .ref ⇑s/\g={s with heap:=s.heap.push (aU w)}) %[rfl|rfl]) λr g C=>?_
 cases r with
 | error e=>exact C
 | ok fl=>
   cases fl with
   | ret obj=>
     have%[rfl|rfl]:=C;have Y:(s.heap.push (aU w)).get? ⇑s=some (aU w):=Zj _ rfl;have tS:Shared.TypeIs {s with heap:=s.heap.push (aU w)} (.ref ⇑s) "set":=%[_,Y|rfl]
     have ai:=called_set.init.lookup;have aj:=called_set.init.bind (.ref ⇑s)
     repeat any_goals first|assumption|wp_step
     refine codeAny_mono (codeAny_call_builtin (R:=wants (λr h=>r= .none/\∃h' tk,h={s with heap:=h',toks:=tk}/\br w ⇑s (aO ss) h'/\(∀b o,s.heap.get? b=some o->h'.get? b=some o)) E) called_set.init.plain F.entry_set_init (check_set_init_1 tS ?_)) λn h d=>?_
     .have%[ol,gl,cl,nl|dl]:=hl;have%[ab,j,G|f]:=ol;simp only at cl dl;subst cl;subst dl;have H:(s.heap.push (aU w)).get? l=some {cls:= .type "list",dict:=j,data:= .seq a nl,slots:=f}:=Z7 _ gl;have al:=PySem.F.sub_list_set;have an:=PySem.F.sub_list_frozenset;have aq:(Value.type "list"==Value.type "dict")=false:=!1
      have p:(s.heap.push (aU w)).IsList l a:=%[_,H,rfl,nl|rfl]
      unfold Builtin.«set.__init__»;unfold noKeywords;unfold Builtin.Frozenset.updateFrom
      generalize I:pyIter=PI
      wp_walk
      subst I;refine wpAny_pyIter_list p (Z2 (wpAny_runValue ?_));have q:l<⇑s:=Zv gl;have h3:A.in1.in1.in1.handled=none:=by simp[hh]
      have J:(s.heap.push (aU w)).objs.size=⇑s+1:=Zq ..;have L:l≠(s.heap.push (aU w)).objs.size:=by rw[J];exact Zt (Yo q)
      have M:⇑s∉[(s.heap.push (aU w)).objs.size,l]:=by
       rw[J];simp only[Yw,X8,or_false,not_or];exact%[Zt (Yp _)|X2 q]
      have t:a.size=ss.length:=by rw[<-Zb];exact bA hi
      refine qE ((Walks.list h3 _ l L a).toS) ⇑s M (λi=>ss.getD i (!"")) (λi v hv=>vc hi i v (by rw[getElem?_toList];exact hv)) hb (a.size-0) 0 _ ⋯ (Xf _)
       %[%[_,Zj _ rfl,rfl|rfl]|p.push _] (br.empty (Z7 _ Y)) ?_
      intro s3 y z;rw[t,xf]at z;have%[h',g',d',N|O]:=s3;have eg:g'=s.gens:=y.gens;have ed:d'=s.drawn:=y.drawn;have eo:O=s.os:=y.os;subst eg;subst ed;subst eo;refine Z3 ?_;show wpAny _ _ (ret Value.none) _ _ _;refine Z3 %[rfl,h',N,rfl,z|λb o e=>?_];have u:=Zv e;refine y.heap b o ?_ (Z7 _ (Z7 _ e));simp only[Yw,X8,or_false,not_or,J];exact%[Zt u|Zt (Yo u)]
     .cases n with
      | error e=>exact d
      | ok m=>
        cases m with
        | ret r=>
          have%[rfl,h',tk,rfl,z|k3]:=d
          repeat any_goals first|assumption|wp_step
          exact hQ _ _ z k3
        | _=>exact d.elim
   | _=>exact C.elim
end
section
variable{X:Cx}{K:ZA}
abbrev j8(w:World)(a:Addr)(ks:ZB):HO:= .ext (br w a ks)
def B0(b:X.calm=true):ck X (.type "set") (λxs H Q=>∃p ss,xs=[.ref p]/\SqL X.K H p (ss.map V.str)/\ss.length<=4000/\∀l,H l=none->Q (.ref l) (upd H l (j8 X.w l (aO ss)))):=by
 intro pins s j H xs us Q I r h;have%[p,ss,rfl,c,m|q]:=h;have%[u,rfl|d]:=du r;cases d;have%[its,e,pl|n]:=I.list c;have a:=gU e;have f:its.toArray.size=ss.length:=bA a;refine qF (I.ok.hd b) pl.isList (a) (by rw[f];show ss.length+1<4096;lia) λh' tk S k=>%[.ref ⇑s,_,I.laid (o:=j8 X.w ⇑s _) k (Zi _) %[S,?_|λt v g k1=>g.keep k1],rfl|q _ I.fresh]
 have%[o,_,_,_,_,i|_]:=S;exact%[o|i]
def B3(h:X.K=K)(hw:X.w=w)(a:X.calm=true):cJ X (.type "set") (λxs H Q=>∃p ss,xs=[.ref p]/\SqL K H p (ss.map V.str)/\ss.length<=4000/\∀l,H l=none->Q (.ref l) (upd H l (j8 w l (aO ss)))):=by subst h;subst hw;exact⟨B0 a⟩
end
def hJ:∀{xs:List a} {i:Nat} (h:i<xs.length),(xs[i]::xs.eraseIdx i).Perm xs
 | x::r,0,_=>by simp
 | x::r,i+1,h=>by
   exact(List.Perm.swap _ _ _).trans (.cons _ (hJ ↑h))
section
#where
def zX(a:n≠0)(h:∀i d,i<n->Q i {s with drawn:=d}):↥A (choose b n) Q E s:=by
 intro c p _;exact%[a|h _ _ (mod_lt _ (Nat.pos_of_ne_zero a))]
def tT:∀(n:Nat) (xs:List b) (s:Shared) (Q:List b->Shared->Prop),xs.length<=n->(∀ys d,ys.Perm xs->Q ys {s with drawn:=d})->↥A (drawOrder n xs) Q E s
 | 0,xs,s,Q,a,h=>by
   have e:=length_eq_zero_iff.mp (le_zero.mp a);subst e;exact Z3 (h [] s.drawn .nil)
 | n+1,[],s,Q,a,h=>Z3 (h [] s.drawn .nil)
 | n+1,x::r,s,Q,a,h=>by
   unfold drawOrder;refine Z2 (zX ∅ λi d hi=>?_);rw[(Z4 hi)];exact Z2 (tT n _ _ _ (by rw[List.length_eraseIdx];simp only[hi];simp_all) λys c p=>Z3 (h _ c ((List.Perm.cons _ p).trans (hJ hi))))
end
def yk(next:Nat->Nat):∀(fuel k:Nat) (left:List a) (out:Array a),left.length<=fuel->(pickOrder.go next fuel k left out).toList.Perm (out.toList++left)
 | 0,k,left,out,h=>by
   have e:=length_eq_zero_iff.mp (le_zero.mp h);subst e;rw[Zz];exact .refl _
 | fuel+1,k,[],out,h=>by
   unfold pickOrder.go;simp
 | fuel+1,k,x::r,out,h=>by
   unfold pickOrder.go;have hi:next k%(x::r).length<(x::r).length:=mod_lt _ ∅;rw[Z4 hi];refine(yk next fuel _ _ _ (by rw[List.length_eraseIdx];simp_all)).trans ?_;rw[toList_push,Ze];exact(List.Perm.refl _).append (hJ hi)
def rP(next:Nat->Nat)(xs:Array a):(pickOrder next xs).toList.Perm xs.toList:=by
 have:=yk next xs.size 0 xs.toList #[] ∅;simpa [pickOrder]using this
def rQ(p j:Nat):SetTable.below #[p] j=if p<j then 1 else 0:=by
 unfold SetTable.below;simp only[Zp,Zr];unfold SetTable.below.go;simp
 split<;>(rfl)
def xg(j:Nat):SetTable.below #[] j=0:=rfl
def rR{a:Type}{xs:Array a}(h:xs.size=1):∃p,xs= #[p]:=by
 obtain⟨l⟩:=xs
 match l,h with
 |[p],_=>exact%[p|rfl]
abbrev SIt(w:World)(I S T:Addr)(o:Obj)(es:Array (Int×Value))(b:Nat)(t:SetTable)(a:ZF)(i:Nat)(h:Heap):Prop:=
 h.get? S=some o/\∃first,h.get? I=some {cls:= .type "set_iterator",dict:=none,data:= .fields #[first,rawInt i,.ref S,rawInt es.size,rawInt b],slots:= #[]}/\
  ((aT w=true/\first=rawInt 0/\a=(pickOrder (w.params.setOrder S b) es).toList.map (·.2))\/
   (aT w=false/\first= .ref T/\T≠I/\∃ps:List Nat,h.get? T=some {cls:= .type "tuple",data:= .seq (ps.map λ(i:Nat)=>rawInt i).toArray}/\ps.length=a.length/\∀(j p:Nat),ps[j]? =some p->∃e,es[p]? =some e/\a[j]? =some e.2)\/
   (aT w=false/\es.size<=1/\a=es.toList.map (·.2)/\(i=0->first=rawInt 0)/\(i=1->∃p:Nat,t.place[0]? =some p/\first=rawInt (p+1))))
def SIt.is{w:World}{I S T:Addr}{o:Obj}{es:Array _}{b:Nat}{t:SetTable}{a:ZF}{i:Nat}{s:Shared}(h:SIt w I S T o es b t a i s.heap):s.TypeIs (.ref I) "set_iterator":=by
 have%[_,f,c|_]:=h;exact%[_,c|rfl]
section
#where
variable{I S T:Addr}{o:Obj}{es:Array (Int×Value)}{ep:Nat}{t:SetTable}{ord:ZF}
def xh{i:Nat}{v:Value}{Q:Option Value->Shared->Prop}(y:o.data= .set es ep t)(h:t.fits es.size=true)(z:t.led=!aT w)(j:S≠I)(st:SIt w I S T o es ep t ord i s.heap)(f:ord[i]? =some v)(hn:ord.length=es.size)
 (U:∀h',SIt w I S T o es ep t ord (i+1) h'->SameBut I s.heap h'->Q (some v) {s with heap:=h'}):↥A (pyNext (.ref I)) Q E s:=by
 have hT:=st.is;have%[g,first,N|m]:=st;unfold pyNext;refine Z2 (wpAny_attempt (wpAny_callSpecial?_slot (name:=!"__next__") hT bR (wpAny_call_entry bR hT gu ?_ (iF _))));unfold Builtin.«set_iterator.__next__»;refine Z2 (m:=slotArgs _ _ _) (Z3 ?_);refine Z2 (wpAny_fieldsOf N rfl ?_);show wpAny _ _ (setEntries S>>= _) _ _ _;refine Z2 (wpAny_setEntries_of g y h ?_);rw[if_neg ∅];rcases m with⟨c,rfl,B⟩|⟨c,rfl,C,ps,G,Y,H⟩|⟨c,h1,B,f0,f1⟩
 .show wpAny _ _ (setNext S 0 i ep>>= _) _ _ _;refine Z2 ?_;unfold setNext;refine Z2 (wpAny_setState_of g y h ?_);refine Z2 (Z2 (wpAny_askSetting (Z3 ?_)));show wpAny _ _ (if aT w=true then _ else _) _ _ _;rw[if_pos c];dsimp only;rw[if_neg (show ¬ ((ep != ep)=true) by simp)];refine Z2 ?_;unfold setWalk;refine Z2 (wpAny_setState_of g y h ?_);refine Z2 (Z2 (wpAny_askSetting (Z3 ?_)));show wpAny _ _ (if aT w=true then _ else _) _ _ _;rw[if_pos c];refine Z2 (wpAny_askSetting (Z3 (Z3 ?_)));have d:(pickOrder (w.params.setOrder S ep) es)[i]?.map (·.2)=some v:=by
   rw[B]at f;simpa using f
  cases u:(pickOrder (w.params.setOrder S ep) es)[i]? with
  | none=>rw[u]at d;cases d
  | some e=>
    rw[u]at d;have J:e.2=v:=↑d
    show wpAny _ _ (match((pickOrder (w.params.setOrder S ep) es)[i]?).map λe=>(e.2,0)with|some (x,next)=>_|none=>_) _ _ _;rw[u];refine Z2 (wpAny_setField_rec N ∅ λg1 b a=>?_);refine Z2 (wpAny_setField_rec (s:={s with heap:=g1}) b ∅ λg2 l n=>?_);rw[J];have L:SameBut I s.heap g2:=a.trans n;refine Z3 %[v,rfl|Z3 (U g2 %[(L.2 S j).trans g,_,l|.inl %[c,rfl|B]] L)]
 .refine Z2 (wpAny_seqItems G rfl ?_);have hi:i<ord.length:=(Xn f).1;have ab:i<ps.length:=by lia
  have%[e,O|ac]:=H i ps[i] ∅;have J:e.2=v:=by rw[ac]at f;exact Za f
  have M:(ps.map λ(i:Nat)=>rawInt i).toArray[(i:Int).toNat]? =some (rawInt ps[i]):=by simp[ab]
  dsimp only;rw[M];show wpAny _ _ (setNextDrawn S ps[i] ep>>= _) _ _ _;refine Z2 ?_;unfold setNextDrawn;refine Z2 (wpAny_setState_of g y h ?_);dsimp only;rw[if_neg (show ¬ ((ep != ep)=true) by simp),O];refine Z3 ?_;refine Z2 (wpAny_setField_rec N ∅ λg1 b a=>?_);rw[J];exact Z3 %[v,rfl|Z3 (U g1 %[(a.2 S j).trans g,_,b|.inr (.inl %[c,rfl,C,ps,(a.2 T C).trans G,Y|H])] a)]
 .have hi:i<ord.length:=(Xn f).1;have i0:i=0:=by lia
  subst i0;have f0:=f0 rfl;subst f0;have e1:es.size=1:=by lia
  have pz:t.place.size=1:=by
   simp only[SetTable.fits,Zx,beq_iff_eq,decide_eq_true_eq]at h;rw[h.1,e1]
  have%[p|u]:=rR pz;obtain⟨e,O⟩:∃e,es[0]? =some e:=%[es[0]|by simp]
  have J:e.2=v:=by
   rw[B]at f;have:(es[0]?).map (·.2)=some v:=↑f
   rw[O]at this;simpa using this
  show wpAny _ _ (setNext S 0 0 ep>>= _) _ _ _;refine Z2 ?_;unfold setNext;refine Z2 (wpAny_setState_of g y h ?_);show wpAny _ _ (if aT w=true then _ else _) _ _ _;rw[if_neg (by rw[c];decide)];dsimp only
  split
  .rename_i r
   change (!t.plain&&decide (es.size>1))=true at r;rw[e1]at r;simp at r
  .refine Z2 (m:=(if(!t.led&&!es.isEmpty)=true then unsupported "set:maker-not-led" else pure ())) ?_;rw[z,c];refine Z3 ?_;rw[u,rQ];simp only[X7,↓reduceIte,O];refine Z3 ?_;show wpAny _ _ (setField (.ref I) 0 (rawInt ((p+1:Nat):Int))>>= _) _ _ _;refine Z2 (wpAny_setField_rec N ∅ λg1 b a=>Z2 (wpAny_setField_rec (s:={s with heap:=g1}) b ∅ λg2 l n=>?_));rw[J];have L:SameBut I s.heap g2:=a.trans n;exact Z3 %[v,rfl|Z3 (U g2 %[(L.2 S j).trans g,_,l|.inr (.inr %[c,⋯,B,λq=>by lia|λ_=>%[p,by rw[u];rfl|rfl]])] L)]
def vd{c:Type}{Q:c->Shared->Prop}(d:A.handled=none)(f:∀h' e,(∀b o,s.heap.get? b=some o->h'.get? b=some o)->(∃o,h'.get? e=some o/\o.cls= .type "StopIteration")->E (.ref e) {s with heap:=h'}):
 ↥A (newExc (.type "StopIteration") []>>= λe=>(raiseNew e)) Q E s:=by
 refine Z2 ?_;refine Z2 (wpAny_newObj_type ?_ (by size_fits));refine Z2 (wpAny_of_eq (a:=Value.none) (by first|rfl|lia) (wpAny_newObj_type (wpAny_raiseNew_none d (f _ _ (λb o e=>Z7 _ (Z7 _ e)) %[_,Zj _ rfl|rfl])) (by size_fits)))
def zY{i:Nat}{Q:Option Value->Shared->Prop}(hh:A.handled=none)(u:o.data= .set es ep t)(h:t.fits es.size=true)(l:t.led=!aT w)(st:SIt w I S T o es ep t ord i s.heap)(hi:i=ord.length)(hn:ord.length=es.size)
 (hQ:∀h',(∀b o,b≠I->s.heap.get? b=some o->h'.get? b=some o)->Q none {s with heap:=h'}):↥A (pyNext (.ref I)) Q E s:=by
 have U:=st.is;have%[y,first,z|m]:=st;have G:A.in1.handled=none:=hh;have fin:∀(g:Heap) (Y:Fin->Shared->Prop),SameBut I s.heap g->↥A.in1 (newExc (.type "StopIteration") []>>= λe=>(raiseNew e:Sem Fin)) Y (λe s'=>↥A (do
  if(<-isInstance e (.type "StopIteration"))then pure none else throw e) Q E s') {s with heap:=g}:=λg Y sb=>by
  refine vd G λh' e k ⟨oe,he,hc⟩=>?_
  refine Z2 (wpAny_isInstance (T:="StopIteration") (b:=true) %[oe,he|hc] isSubtype_stop (Z3 (hQ h' λb o n q=>k b o ((sb.2 b n).trans q))))
 unfold pyNext;refine Z2 (wpAny_attempt (wpAny_callSpecial?_slot (name:=!"__next__") U bR (wpAny_call_entry bR U gu ?_ (iF _))));unfold Builtin.«set_iterator.__next__»;refine Z2 (m:=slotArgs _ _ _) (Z3 ?_);refine Z2 (wpAny_fieldsOf z rfl ?_);show wpAny _ _ (setEntries S>>= _) _ _ _;refine Z2 (wpAny_setEntries_of y u h ?_);rw[if_neg ∅];rcases m with⟨j,rfl,eo⟩|⟨j,rfl,ab,ps,H,ac,ae⟩|⟨j,h1,eo,J,L⟩
 .show wpAny _ _ (setNext S 0 i ep>>= _) _ _ _;refine Z2 ?_;unfold setNext;refine Z2 (wpAny_setState_of y u h ?_);refine Z2 (Z2 (wpAny_askSetting (Z3 ?_)));show wpAny _ _ (if aT w=true then _ else _) _ _ _;rw[if_pos j];dsimp only;rw[if_neg (show ¬ ((ep != ep)=true) by simp)];refine Z2 ?_;unfold setWalk;refine Z2 (wpAny_setState_of y u h (Z2 (Z2 (wpAny_askSetting (Z3 ?_)))));show wpAny _ _ (if aT w=true then _ else _) _ _ _;rw[if_pos j];refine Z2 (wpAny_askSetting (Z3 (Z3 ?_)));have B:(pickOrder (w.params.setOrder S ep) es)[i]? =none:=by
   rw[Array.getElem?_eq_none_iff,hi,eo,Z6,Zb];exact Zi _
  show wpAny _ _ (match((pickOrder (w.params.setOrder S ep) es)[i]?).map λe=>(e.2,0)with|some (x,next)=>_|none=>_) _ _ _;rw[B];show wpAny _ _ (setField (.ref I) 2 .none>>= _) _ _ _;exact Z2 (wpAny_setField_rec z ∅ λg1 _ c=>fin g1 _ c)
 .show wpAny _ _ (seqItems? (.ref T)>>= _) _ _ _;refine Z2 (wpAny_seqItems H rfl ?_);have r:(ps.map λ(i:Nat)=>rawInt i).toArray[(i:Int).toNat]? =none:=by simp;lia
  dsimp only;rw[r];exact Z2 (wpAny_setField_rec z ∅ λg1 M c=>Z2 (wpAny_setField_rec M ∅ λg2 _ N=>fin g2 _ (c.trans N)))
 .have done:∀slot:Nat,first=rawInt slot->SetTable.below t.place slot=es.size->↥A.in1 (setNext S slot i ep) (λa s'=>a=none/\s'=s) (λ_ _=>False) s:=by
   intro slot _ n;unfold setNext;refine Z2 (wpAny_setState_of y u h ?_);show wpAny _ _ (if aT w=true then _ else _) _ _ _;rw[if_neg (by rw[j];decide)];dsimp only
   split
   .rename_i d
    change (!t.plain&&decide (es.size>1))=true at d;have:decide (es.size>1)=false:=Zh ⋯;rw[this,Bool.and_false]at d;cases d
   .refine Z2 (m:=(if(!t.led&&!es.isEmpty)=true then unsupported "set:maker-not-led" else pure ())) ?_;rw[l,j];refine Z3 ?_;rw[n,show es[es.size]? =none by simp];exact Z3 %[rfl|rfl]
  have go:∀slot:Nat,first=rawInt slot->SetTable.below t.place slot=es.size->↥A.in1 (setNext S slot i ep>>= λa=>match a with
   | some (x,next)=>(do
     setField (.ref I) 0 (rawInt ↑(next))
     setField (.ref I) 1 (rawInt (↑(i)+1))
     ret x)
   | none=>(do
     setField (.ref I) 2 .none
     let e<-newExc (.type "StopIteration") []
     raiseNew e)) (λfin s'=>∃v,fin=Fin.done (Flow.ret v)/\↥A (pure (some v)) Q E s') (λe s'=>↥A (do
   if(<-isInstance e (.type "StopIteration"))then pure none else throw e) Q E s') s:=by
   intro slot e n;refine Z2 (wpAny_mono (done slot e n) (λa s' ⟨C,e2⟩=>?_) λ_ _ f=>f.elim);subst C;subst e2;exact Z2 (wpAny_setField_rec z ∅ λg1 _ c=>fin g1 _ c)
  have pz:=by
   simp only[SetTable.fits,Zx,beq_iff_eq,decide_eq_true_eq]at h;exact h.1
  by_cases e0:es.size=0
  .have i0:i=0:=by lia
   subst i0;have J:=J rfl;subst J;refine go 0 rfl ?_;have:t.place= #[]:=Array.eq_empty_of_size_eq_zero ⋯;rw[this,xg,e0]
  .have C:es.size=1:=by lia
   have i1:i=1:=by lia
   subst i1;have%[p,B|L]:=L rfl;subst L;refine go (p+1) rfl ?_;have%[p'|O]:=rR (by rw[pz,C]:t.place.size=1);rw[O]at B ⊢;have:p'=p:=↑B
   subst this;rw[rQ,if_pos (Yp _),C]
end
def iG:Slot "set_iterator" "__iter__" "set_iterator.__iter__":=
 .of (owner:="set_iterator") (n:="__iter__") (by rw[typeLookup_type,builtinLookup_eq_fast];kernel_rfl) (!0) (!0) (!0) (by first|exact .inl (!0)|exact .inr ∅) (by kernel_rfl)
def mj:entryFor table "set_iterator.__iter__"=some Builtin.«dict_keyiterator.__iter__»:=entryFor_alias (id':="dict_keyiterator.__iter__") (by kernel_rfl) rfl (!0) (by kernel_rfl)
def nK(a:Value):argsOk "set_iterator.__iter__" %[[a]|[]]:=by kernel_rfl
def tU:typeLookup (.type "set") "__len__"=pure (some (.builtin "set.__len__")):=by kernel_rfl
section
#where
variable{I S T:Addr}{o:Obj}{es:Array (Int×Value)}{ep:Nat}{t:SetTable}{ord:ZF}
def zZ(hh:A.handled=none)(hd:o.data= .set es ep t)(hf:t.fits es.size=true)(hled:t.led=!aT w)(hSI:S≠I)(hn:ord.length=es.size):
 Walks prog w A I [I,S,T] [I] ord.length (λi v=>ord[i]? =some v) (λi h=>SIt w I S T o es ep t ord i h) where
 sub:=by simp
 frame:=λi h h' st k=>by
  have%[hS,first,hI|m]:=st;refine⟨k S ∅ _ hS,first,k I ∅ _ hI,?_⟩;rcases m with m|⟨bt,e,hTI,ps,hTt,r⟩|m
  .exact .inl m
  .exact .inr (.inl %[bt,e,hTI,ps,k T ∅ _ hTt|r])
  .exact .inr (.inr m)
 item:=λi s Q E hi st hQ=>xh (v:=ord[i]) hd hf hled hSI st ∅ hn λh' st' sb=>hQ _ h' s.toks ∅ st' λb o' hb e=>(sb.2 b (λq=>hb (by simp[q]))).trans e
 done:=λs Q E st hQ=>zY hh hd hf hled st rfl hn λh' k=>hQ h' s.toks λb o' hb e=>k b o' (λq=>hb (by simp[q])) e
 self:=λi s Q E st hQ=>by
  have hT:=st.is;exact wpAny_pyIter_slot hT iG (wpAny_call_entry iG hT mj (Z3 %[_,rfl,"set_iterator",_,hT,bR.lookup|hQ]) (nK _))
def z5(f:s.heap.get? S=some o)(y:o.ExactSet)(z:o.data= .set es ep t)(hb:es.size<scanBound)(B:t.fits es.size=true)(C:es.size≠0->t.plain=false)(M:t.led=!aT w)
 (hQ:∀(I T:Addr) (ord:ZF) (h':Heap) d,(∀b o,s.heap.get? b=some o->h'.get? b=some o)->⇑s<=I->S≠I->(T=S\/⇑s<=T)->T<h'.objs.size->I<h'.objs.size->ord.length=es.size->
  SIt w I S T o es ep t ord 0 h'->ord.Perm (es.toList.map (·.2))->Q (.ref I) {s with heap:=h',drawn:=d}):↥A (pyIter (.ref S)) Q E s:=by
 have N:s.TypeIs (.ref S) "set":=%[o,f|y.1]
 have l:S<⇑s:=Zv f;refine wpAny_pyIter_slot N F.slot_set_iter (wpAny_call_entry F.slot_set_iter N qC ?_ (F.args_set_iter_1 _));unfold Builtin.«frozenset.__iter__»;refine Z2 (m:=Builtin.Frozenset.slot0 _ _) (Z2 (m:=slotArgs _ _ _) (Z3 (Z3 ?_)));refine Z2 (m:=Builtin.Frozenset.sizeOf S) (Z2 (wpAny_setEntries_of f z B (Z3 ?_)));refine Z2 (m:=setDrawn S) ?_;unfold setDrawn;refine Z2 (wpAny_setState_of f z B (Z2 (Z2 (wpAny_askSetting (Z3 (Z3 ?_))))));have fin:∀(first:Value) (a:Shared) (T:Addr) (ord:ZF),a.heap.get? S=some o->(∃d c,a={s with heap:=c,drawn:=d})->(∀b o,s.heap.get? b=some o->a.heap.get? b=some o)->T<⇑a->⇑s<=⇑a->(T=S\/⇑s<=T)->ord.Perm (es.toList.map (·.2))->
  ((aT w=true/\first=rawInt 0/\ord=(pickOrder (w.params.setOrder S ep) es).toList.map (·.2))\/(aT w=false/\first= .ref T/\∃ps:List Nat,a.heap.get? T=some {cls:= .type "tuple",data:= .seq (ps.map λ(i:Nat)=>rawInt i).toArray}/\ps.length=ord.length/\∀(j p:Nat),ps[j]? =some p->∃e,es[p]? =some e/\ord[j]? =some e.2)\/(aT w=false/\es.size<=1/\ord=es.toList.map (·.2)/\first=rawInt 0))->ord.length=es.size->
  ↥A.in1 (do ret (<-newFields "set_iterator" [first,rawInt 0,.ref S,rawInt es.size,rawInt (<-setEpoch S)])) (λfin s'=>∃v,fin=Fin.done (Flow.ret v)/\∃O r,s'.TypeIs v O/\typeLookup (.type O) "__next__"=pure (some r)/\Q v s') (λe s'=>E e s') a:=by
  intro first a T ord c %[d,g1|e1] k1 U sl G q1 m hn
  subst e1;refine Z2 (wpAny_setEpoch_of c z B (Z2 (wpAny_newObj_type ?_)));have Y:(g1.push {cls:= .type "set_iterator",data:= .fields #[first,rawInt 0,.ref S,rawInt es.size,rawInt ep]}).get? g1.objs.size=some _:=Zj _ rfl;refine Z3 %[_,rfl,"set_iterator",_,%[_,Y|rfl],bR.lookup|hQ g1.objs.size T ord _ d (λb o' e=>Z7 _ (k1 b o' e)) sl (Zt (Zv c)) G (by rw[Zq];exact Yo U) (by rw[Zq];exact Yp _) hn ?_ q1];refine⟨Z7 _ c,first,Y,?_⟩;rcases m with m|⟨g,e,ps,H,r⟩|⟨g,J,eo,e⟩
  .exact .inl m
  .exact .inr (.inl %[g,e,Zt U,ps,Z7 _ H|r])
  .exact .inr (.inr %[g,J,eo,λ_=>e|λq=>absurd q ∅])
 have lst:(es.toList.map (·.2)).length=es.size:=by rw[Z6,Zb]
 by_cases g:aT w=true
 .show wpAny _ _ (if(!aT w&&_)=true then _ else _) _ _ _;rw[g,Bool.not_true,Bool.false_and,if_neg ∅];refine Z2 (Z3 ?_);have n:=(rP (w.params.setOrder S ep) es).map (·.2);exact fin (rawInt 0) s S _ f %[s.drawn,s.heap|rfl] (λ_ _ e=>e) l (Zi _) (.inl rfl) n (.inl %[g,rfl|rfl]) (by rw[n.length_eq,lst])
 .have u:aT w=false:=↑g
  show wpAny _ _ (if(!aT w&&(!t.plain&&decide (es.size>1)))=true then _ else _) _ _ _;by_cases c:es.size>1
  .rw[u,C ⋯,Zf c];refine Z2 (tT es.size _ _ _ ∅ λps d h=>Z2 (wpAny_newTuple ?_ (by rw[Z6,h.length_eq,Yk];exact fits_of_scanBound hb)));have lt:∀p∈ps,p<es.size:=λp q=>mem_range.mp (h.mem_iff.mp q)
   have er:(List.range es.size).map (λp=>((es[p]?).map (·.2)).getD .none)=es.toList.map (·.2):=by
    apply ext_getElem
    .simp
    .intro i q1 q2;simp at q1;simp[q1]
   have n:(ps.map (λp=>((es[p]?).map (·.2)).getD .none)).Perm (es.toList.map (·.2)):=er▸h.map _;refine fin _ _ ⇑s _ (Z7 _ f) %[d,_|rfl] (λb o' e=>Z7 _ e) (by rw[Zq];exact Yp _) (by rw[Zq];exact Yg _) (.inr (Zi _)) n
    (.inr (.inl %[u,rfl,ps,Zj _ rfl,by rw[Z6]|λj p q=>?_])) (by rw[n.length_eq,lst])
   have L:=lt p (Z8 q);exact%[es[p],by simp|by simp[q,L]]
  .rw[u,Zh c];simp only[Bool.and_false,Y0];exact fin (rawInt 0) s S _ f %[s.drawn,s.heap|rfl] (λ_ _ e=>e) l (Zi _) (.inl rfl) (List.Perm.refl _) (.inr (.inr %[u,⋯,rfl|rfl])) lst
def kM(hh:A.handled=none)(u:s.heap.get? S=some r)(a:r.ExactSet)(v:r.data= .set g aq t0)(y:g.size<scanBound)(z:t0.fits g.size=true)(B:g.size≠0->t0.plain=false)(c:t0.led=!aT w)
 (hQ:∀s' vs,vs.Perm (g.toList.map (·.2))->(∀b o,s.heap.get? b=some o->s'.heap.get? b=some o)->s'.gens=s.gens->s'.os=s.os->⇑s<=⇑s'->Q vs s'):↥A (collect (.ref S)) Q E s:=by
 unfold collect;refine Z2 (wpAny_runValue (codeAny_builtin F.entry_proto_collect ?_));rw[Around.under_plainId F.plain_proto_collect _];show wpAny _ A.in1 (newList []>>= λl=>again (.builtin "list.__iadd__" %[[l,.ref S]|[]])) _ _ s;refine Z2 (wpAny_newObj_type (Z3 %[plainId_quiet F.plain_list_iadd _|codeAny_builtin F.entry_list_iadd ?_]));rw[Around.under_plainId F.plain_list_iadd _];have i:S<⇑s:=Zv u;show wpAny _ A.in1 (Builtin.List.listExtendWith (.ref ⇑s) (.ref S) (.ref ⇑s)) _ _ _;unfold Builtin.List.listExtendWith
 generalize O:s.heap.push {cls:= .type "list",data:= .seq ([]:ZF).toArray}=G
 have gS:G.get? S=some r:=by rw[<-O];exact Z7 _ u
 have gz:G.objs.size=⇑s+1:=by rw[<-O,Zq]
 have gL:G.get? ⇑s=some {cls:= .type "list",data:= .seq ([]:ZF).toArray}:=O▸Zj _ rfl;have tS:Shared.TypeIs {s with heap:=G} (.ref S) "set":=%[r,gS|a.1]
 refine Z2 (wpAny_typeOf (T:="set") tS ?_);have n1:Builtin.List.listSameRef (.ref ⇑s) (.ref S)=false:=by
  show(⇑s==S)=false;exact beq_eq_false_iff_ne.mpr (X2 i)
 have n2:(Value.type "set"==Value.type "list")=false:=!1
 have n3:(Value.type "set"==Value.type "tuple")=false:=!1
 simp only[n1,n2,n3,Bool.or_false,Y0,if_false];refine Z2 (z5 (s:={s with heap:=G}) gS a v y z B c λI T ord h d k1 U ab ac as a0 hn st q1=>?_);replace k1:∀b o,G.get? b=some o->h.get? b=some o:=k1;replace U:G.objs.size<=I:=U;have ae:h.get? S=some r:=k1 _ _ gS;refine Z2 (wpAny_holding ?_);unfold Builtin.List.listLengthHint;have m:Shared.TypeIs {s with heap:=h,drawn:=d} (.ref S) "set":=%[r,ae|a.1]
 refine Z2 (wpAny_specialOf (T:="set") m tU ?_)
 wp_delta
 refine Z2 (wpAny_isInstance (T:="set") (b:=true) m (by rw[isSubtype_type];kernel_rfl) ?_);show wpAny _ A.in1 (typeOf (.ref S)>>= _) _ _ _;refine Z2 (wpAny_typeOf (T:="set") m (Z3 ?_));rw[if_pos (!1)];refine Z2 (wpAny_rule ?_);have C:h.get? ⇑s=some {cls:= .type "list",data:= .seq ([]:ZF).toArray}:=k1 _ _ gL;refine Z2 ?_;unfold Builtin.List.listTouch;refine Z2 (listUpdate_at (s:={s with heap:=h,drawn:=d}) C rfl ?_ (Xf _) (by show 1<=sizeLine+1;lia));have H:=get?_update_self (Obj.mapSeq (·.push Value.none)) C rfl;refine listUpdate_at (xs:= #[Value.none]) (n:=1) (s:={s with heap:=h.update ⇑s (Obj.mapSeq _),drawn:=d}) H rfl ?_ (!1) (by show 0<=sizeLine+1;lia);have ag:=get?_update_self (Obj.mapSeq (·.pop)) H rfl;have J:∀b o,b≠⇑s->h.get? b=some o->((h.update ⇑s (Obj.mapSeq (·.push Value.none))).update ⇑s (Obj.mapSeq (·.pop))).get? b=some o:=λb o Y e=>(get?_update_other _ _ (Ne.symm Y)).trans ((get?_update_other _ _ (Ne.symm Y)).trans e)
 have ai:=Zt (Zg (by rw[gz];exact Yp _) U);have neT:⇑s≠T:=by
  rcases ac with e|e
  .exact e▸X2 i
  .exact Zt (Zg (gz▸Yp _) e)
 have L:⇑s∉[I,S,T]:=by
  simp only[Yw,X8,or_false,not_or];exact%[ai,X2 i|neT]
 have aj:ord.length<=sizeLine:=hn▸fits_of_scanBound y;have W:=zZ (prog:=prog) (A:=A.in1) (T:=T) (hh) v z c ab hn;have al:=W.frame 0 h _ st λb Y M e=>J b M (λq=>L (q▸Y)) e
 refine Z3 %[plainId_quiet F.plain_extend_loop _|codeAny_extend_loopS W.toS aj _ L _ ord.length 0 _ _ _ rfl (Xf _) al ag (ItemsOf.nil _) λs5 acc c5 m5 N f=>?_];refine Z2 (wpAny_load N (Z3 ?_));have ea:acc.toList=ord:=by
  apply List.ext_getElem?;intro j;by_cases hj:j<ord.length
  .have an:j<acc.size:=f.1▸hj;have:=f.2 j acc[j] ∅;rw[this];simp[an]
  .have l1:acc.toList.length=ord.length:=f.1;rw[Xm ⋯,Xm (l:=ord) ⋯]
 rw[ea];refine hQ s5 ord q1 (λb M e=>?_) m5.gens m5.os (Yf (Zv N));have p:=Zv e;refine m5.heap b M ?_ (J b M (Zt p) (k1 b M (O▸Z7 _ e)));simp only[Yw,X8,or_false,not_or];exact%[Zt p|Zt (Zg p (Yh (gz▸Yg _) U))]
def mZ(f:A.handled=none)(h:br w S ks s.heap)
 (i:∀s' vs ss,StrsAre vs ss->ss.Perm ks->(∀b o,s.heap.get? b=some o->s'.heap.get? b=some o)->s'.gens=s.gens->s'.os=s.os->⇑s<=⇑s'->Q vs s'):↥A (collect (.ref S)) Q E s:=by
 have%[o,es,ep,t,ss,j,c,l,d,m,n,p,q,r,e|a]:=h;refine kM f j c l q r e a λs' vs pv k g os sz=>?_
 have%[ts,u|v]:=cq d pv;exact i s' vs ts u (v.trans m) k g os sz
end
section
variable{X:Cx}{pins:ZE}{σ:St}{H:Hp}{s s':Shared}
def Inv.keptS(I:Inv X pins σ H s)(k:∀b o,s.heap.get? b=some o->s'.heap.get? b=some o)(c:s'.gens=s.gens)(a:s'.os=s.os):Inv X pins σ H s':=by
 have%[h',g',d',t'|d]:=s';replace a:d=s.os:=a;subst c;subst a;refine I.step (ch:=[]) (λb f=>absurd f ∅) (λb o _ _ _ e _=>k b o e) (λb o _ _ _ e _=>%[o.slots|k b o e]) (λ_ _ _ _ n=>n) (λb o _ e=>%[o|k b o e]) (λ_ _ e=>e) (λ_ _ _ e=>e) (λb ps e=>%[#[]|by rw[e];simp]) (λm g=>?_) (λb v e=>?_) I.bare
 .have%[o,es,h,a|r]:=g;exact%[o,es,h,k _ o a|r]
 .exact(I.hok b v e).stay (λi j _ q=>k i j q) (λ_ q=>q) λ_ _ q=>q
def Inv.stoodS(I:Inv X pins σ H s)(J:Inv X pins σ H s')(c:⇑s<=a)(new:bX X.prog X.w (upd H a o) s'.heap a o):Inv X pins σ (upd H a o) s':=by
 have d:=I.hok.fresh c;refine%[J.ok,J.os,J.bare,?_,J.loc,J.cell,?_,?_,?_,?_|J.len]
 .refine%[J.base.keep,J.base.slot,λb o e n j=>?_,J.base.there,λb xs e=>?_,λb o v e=>?_|λb ps e=>?_]
  .rw[am ((λb o e=>Zt (Zg (Zg (Zv e) I.sz) c)) b o e)];exact J.base.free b o e n j
  .rw[am (ay (J.base.tups b xs e) d)];exact J.base.tups b xs e
  .rw[am (ay (J.base.frzs b o v e) d)];exact J.base.frzs b o v e
  .have%[m|q]:=J.base.tbls b ps e;exact%[m|(am (ay q d))▸q]
 .rw[am (Zt (Zg I.lt c))];exact J.free
 .intro g f e;have%[l|q]:=I.cell g f e;rw[am (Zt (Zg q.lt c))];exact J.freeC g f e
 .intro p h;have%[e,n|r]:=J.pin p h;refine%[e,?_|r];rw[am (Zt (Zg (Zv (I.pin p h).1) c))];exact n
 .intro b v e;by_cases i:b=a
  .subst i;rw[aa]at e;cases e;exact new
  .rw[am i]at e;refine(J.hok b v e).stay (λ_ _ _ q=>q) (λf q=>?_) λf xs q=>?_
   .rw[am (ay q d)];exact q
   .rw[am (ay q d)];exact q
end
section
#where
variable{S:Addr}
def xi(r:A.handled=none)(t:br w S ks s.heap)(f:ks.length<64)
 (u:∀(s':Shared) (l:Addr) (vs:ZF) (ss:ZB) (n:Nat),StrsAre vs ss->ss.Perm ks->sortedS ss=true->(∀b o,s.heap.get? b=some o->s'.heap.get? b=some o)->s'.gens=s.gens->s'.os=s.os->⇑s<=l->s'.heap.get? l=some {cls:= .type "list",data:= .seq vs.toArray n}->Q (.ref l) s'):
 ↥A (call (.builtin "sorted") [.ref S]) Q E s:=by
 refine Calls.call_function_entry kind_sorted plain_sorted entry_sorted (args_sorted1 _) ?_;unfold Builtin.«sorted»;refine Z2 (m:=checkCount "sorted" 1 1 _) (Z3 ?_);refine Z2 (mZ (show A.in1.handled=none from r) t λc vs ss q1 i k1 g1 v g=>?_);have y:vs.length<64:=by rw[bA q1,i.length_eq];exact f
 refine Z2 (wpAny_newList ?_ (by rw[sizeLine_eq];lia));have h:(c.heap.push (seqObj "list" vs.toArray 0)).get? ⇑c=some (seqObj "list" vs.toArray 0):=Zj _ rfl;refine Z2 (wpAny_holding (wpAny_call_entry slot_list_sort %[_,h|rfl] entry_list_sort (list_sort_treeK (s:={c with heap:=c.heap.push (seqObj "list" vs.toArray 0)}) strKind_oneLt h q1.keysOf (λj p rest e=>keyKind_strs (by rw[<-e];exact q1)) y λa z B=>%[_,rfl|?_]) (args_list_sort _)));have%[ts,C,G|H]:=sorted_out_str q1 z B;obtain⟨n,I⟩:∃n,(sortedHeap (c.heap.push (seqObj "list" vs.toArray 0)) ⇑c vs ((arrOf a).map (·.2))).get? ⇑c=some (seqObj "list" ((arrOf a).map (·.2)) n):=sortedHeap_at h;refine Z3 %[_,rfl|u _ ⇑c ((arrOf a).map (·.2)).toList ts n C (G.trans i) H (λb J e=>?_) g1 v g ?_]
 rotate_left
 .show _=some (seqObj "list" ((arrOf a).map (·.2)).toList.toArray n);rw[Array.toArray_toList];exact I
 have q:=k1 b J e;have d:=Zv q;show(sortedHeap _ _ _ _).get? b=_;rw[sortedHeap_old (Zt d) (by rw[Zq];exact Yo d)];exact Z7 _ q
end
section
variable{X:Cx}{K:ZA}
def tV(d:X.calm=true):ck X (.builtin "sorted") (λxs H Q=>∃a ks,xs=[.ref a]/\H a=some (j8 X.w a ks)/\ks.length<64/\∀l ss,H l=none->ss.Perm ks->sortedS ss=true->Q (.ref l) (upd H l (.lst (ss.map V.str)))):=by
 intro pins s t H xs us Q I r h;have%[a,ks,rfl,e,f|q]:=h;have%[u,rfl|i]:=du r;cases i;have%[S,_|_]:=(I.hok a _ e)
 refine xi (I.ok.hd d) S f λs' l vs ss n j c m k g o b p=>%[.ref l,_,I.stoodS (o:= .lst _) (I.keptS k g o) b %[?_,vs,n,rJ j|p],rfl|q l ss (I.hok.fresh b) c m]
 rw[Z6,c.length_eq,sizeLine_eq]
 lia
def z6(h:X.w=w)(b:X.calm=true):cJ X (.builtin "sorted") (λxs H Q=>∃a ks,xs=[.ref a]/\H a=some (j8 w a ks)/\ks.length<64/\∀l ss,H l=none->ss.Perm ks->sortedS ss=true->Q (.ref l) (upd H l (.lst (ss.map V.str)))):=by subst h;exact⟨tV b⟩
end
def ap{D:kq}(h:∀c:kq,(∀a b,u D a b->c.nx a b)->(∀v b,D.rt v b->c.rt v b)->t c d H):bq t u D d H:=h _ (λ_ _ x=>x) λ_ _ x=>x
def aI{t:TS}{D:kq}(h:∀c:kq,(∀a b,D.nx a b->c.nx a b)->(∀v b,D.rt v b->c.rt v b)->t c d H):t D d H:=h _ (λ_ _ x=>x) λ_ _ x=>x
def kO{K:ZA}{xs:List V}{g:TG}{j:TS}{D:kq}(Pv:Nat->St->Hp->Prop)(n:Pv 0 b H)(o:∀i b H,i<=xs.length->Pv i b H->SqL K H a xs)
 (r:∀i x T b H,xs[i]? =some x->Pv i b H->H T=none->g (.ref T) b (upd H T (.tup [.int i,x])) λc h=>j {D with nx:=Pv (i+1),ct:=Pv (i+1),bk:=D.nx} c h) (s:∀b H,Pv xs.length b H->D.nx b H):
 ∃W:Nat->Nat->St->Hp->Prop,(∃m,W 0 m b H)/\∀i m b H,W i m b H->
  ((Ite K a xs).stop i H/\D.nx b H)\/((Ite K a xs).go i H/\∃N:St->Hp->Prop,(∀d f,N d f->∃l,l<m/\W (i+1) l d f)/\∀x f,(Ite K a xs).yld i H x f->g x b f λc h=>j {D with nx:=N,ct:=N,bk:=D.nx} c h):=by
 refine%[λi m b H=>m=xs.length-i/\i<=xs.length/\Pv i b H,%[xs.length,by simp,Xf _|n]|?_];intro i m b H %[rfl,hi|p];have q:=o i b H hi p;by_cases lt:i<xs.length
 .refine .inr %[%[q|lt],Pv _,λd f t=>%[xs.length-(i+1),⋯,rfl,lt|t]|λv f y=>?_];have%[x,T,e,u,rfl|rfl]:=y;exact r i x T b _ e p u
 .have e:i=xs.length:=by lia
  subst e;exact .inl %[%[q|Zi _]|s b H p]
section
variable{X:Cx}{K:ZA}{pos:Pos}{a b:Expr}{ta tb:TE}
def cH:OpQ X (binaryOp .Add) (rI0 λi j=> .int (i+j)):=⟨F5⟩
def fj:OpQ X (binaryOp .Mult) (rI Bm λi j=> .int (i*j)):=⟨Bn⟩
def dQ(h:X.K=K)(c:kC b)(d:QE X a ta)(e:QE X b tb):QE X (.Subscript a b pos) (tOp (Eb K) ta tb):=by subst h;exact⟨x9 yb d.h e.h c⟩
def ixSE(c:kC b)(d:QE X a ta)(e:QE X b tb):QE X (.Subscript a b pos) (tOp Ee ta tb):=⟨x9 BE d.h e.h c⟩
end
end L2
namespace Cut
open PySem L2 PyProof.Rows
abbrev hV:Str:="abcdefghijklmnopqrstuvwxyz"
abbrev iX(c:Nat):Bool:=decide (c∈hV.cps.toList)
abbrev okc(c:Nat):Bool:=decide (c=46)||iX c
abbrev nl:Str:="\n"
def Iu:nl=⟨#[10]⟩:=rfl
def mo:iX c=true↔97<=c/\c<=122:=by
 have e:hV.cps.toList=(List.range 26).map (·+97):=!0
 unfold iX;rw[decide_eq_true_iff,e,mem_map]
 constructor
 .rintro⟨i,h,rfl⟩;have:=mem_range.mp h
  lia
 .rintro⟨a,b⟩;exact%[c-97,mem_range.mpr ⋯|⋯]
def GO(h:okc c=true):c≠10:=by
 intro e;subst e
 revert h
 decide +kernel
structure bJ (rows:ZB):Prop where
 pos:1<=rows.length
 high:rows.length<=40
 wide:∃wd,1<=wd/\wd<=40/\∀r∈rows,r.cps.size=wd
 sign:∀r∈rows,r.cps.toList.all okc=true
 fall:∀i r r',rows[i]? =some r->rows[i+1]? =some r'->∀(j c c':Nat),r.cps[j]? =some c->r'.cps[j]? =some c'->c'=46->c=46
 some':∃r∈rows,∃c∈r.cps.toList,c≠46
def jt{x y:Str}(h:x.cps.toList=y.cps.toList):x=y:=by
 obtain⟨⟨l⟩⟩:=x
 simp_all
def gA(sep x y:Str)(r:ZB):(Str.join sep (x::y::r)).cps.toList=x.cps.toList++sep.cps.toList++(Str.join sep (y::r)).cps.toList:=by
 show((x.cps++sep.cps) ++(Str.join sep _).cps).toList=_;rw[Xe,Xe]
def B4 [DecidableEq f]:∀{a b x y:List f},c∉a->c∉b->a++c::x=b++c::y->a=b/\x=y
 |[],[],_,_,_,_,h=>%[rfl|(List.cons.inj h).2]
 |[],b::bs,_,_,_,d,h=>absurd (((List.cons.inj h).1)▸Zm) d
 | a::as,[],_,_,e,_,h=>absurd (((List.cons.inj h).1)▸Zm) e
 | a::as,b::bs,x,y,e,d,h=>by
   have%[g|i]:=List.cons.inj h;have%[j|l]:=B4 (λq=>e (Zk _ q)) (λq=>d (Zk _ q)) i;exact%[by rw[g,j]|l]
def ve{c:Nat}:∀{ps qs:ZB},ps≠[]->qs≠[]->(∀p∈ps,c∉p.cps.toList)->(∀q∈qs,c∉q.cps.toList)->(Str.join ⟨#[c]⟩ ps).cps.toList=(Str.join ⟨#[c]⟩ qs).cps.toList->ps=qs
 |[],_,h,_,_,_,_=>absurd rfl h
 | _,[],_,h,_,_,_=>absurd rfl h
 |[p],[q],_,_,_,_,e=>by rw[jt (show p.cps.toList=q.cps.toList from e)]
 |[p],q::f::qs,_,_,a,_,e=>by
  rw[gA]at e;refine absurd ?_ (a p Zm);rw[show p.cps.toList=(Str.join _ [p]).cps.toList from rfl,e];simp
 | p::g::ps,[q],_,_,_,b,e=>by
   rw[gA]at e;refine absurd ?_ (b q Zm);rw[show q.cps.toList=(Str.join _ [q]).cps.toList from rfl,<-e];simp
 | p::g::ps,q::f::qs,_,_,a,b,e=>by
   rw[gA,gA,Ze,Ze]at e;have%[i|j]:=B4 (a p Zm) (b q Zm) e;rw[jt i,ve ∅ ∅ (λx d=>a x (Zk _ d)) (λx d=>b x (Zk _ d)) j]
def xj(a:rows≠[])(h:∀r∈rows,10∉r.cps.toList):Txt.split (Str.join nl rows) nl=rows:=by
 have e:=StrLaws.join_split (Str.join nl rows) nl;rw[Iu]at e ⊢;refine ve ?_ a (StrLaws.split_free _ 10) h (by rw[e]);intro q;have:=split_pos (Str.join ⟨#[10]⟩ rows) ⟨#[10]⟩
 simp_all
def bJ.nonl(h:bJ rows):∀r∈rows,10∉r.cps.toList:=λr a b=>by
 have:=all_eq_true.mp (h.sign r a) 10 b;exact GO this rfl
def bJ.split(h:bJ rows):Txt.split (Str.join nl rows) nl=rows:=
 xj (λe=>by have:=h.pos;simp_all) h.nonl
def tW:∀{xs:List b},(∀x∈xs,f x<=B)->(xs.map f).sum<=xs.length*B
 |[],_=>by simp
 | x::r,h=>by
   have c:=tW λy a=>h y (Zk _ a)
   have d:=h x Zm;rw[Yr,List.sum_cons,Zr,Nat.succ_mul]
   lia
def bJ.sum(h:bJ rows):(rows.map (·.length)).sum<=1600:=by
 have%[wd,_,c|a]:=h.wide;have:=tW (f:=λr:Str=>r.length) λr b=>by have:=a r b;show r.cps.size<=40;lia
 have:=h.high
 grind
def bJ.text(h:bJ rows):(Str.join nl rows).length<=2000:=by
 have a:=StrLaws.join_length_le nl rows;have b:=h.sum;have c:=h.high;have d:nl.length=1:=rfl
 lia
abbrev sgn(c:Nat):Str:=⟨#[c]⟩
def oP{a:List Nat}(h:∀c∈a,iX c=true):(aO (a.map sgn)).length<=26:=by
 have b:∀x∈aO _,x∈hV.cps.toList.map sgn:=λx d=>by
  have%[c,f|e]:=Xq (bx.mp d);exact Xr %[c,Zo (h c f)|e]
 have:=List.Nodup.length_le_of_subset (fi _) b;rw[Z6]at this;have e:hV.cps.toList.length=26:=!0
 lia
abbrev dg(rows:ZB):List Nat:=(Str.join (!"") rows).cps.toList.filter (λc=>decide (c≠46))
def vf:∀(rows:ZB),(Str.join (!"") rows).cps.toList=(rows.map (·.cps.toList)).flatten
 |[]=>rfl
 |[x]=>by simp[Str.join]
 | x::y::r=>by
   have e:(!"").cps.toList=[]:=rfl;rw[gA,vf _,e,Zz];simp
def mr(h:∀r∈rows,r.cps.toList.all okc=true):∀c∈dg rows,iX c=true:=λc a=>by
 unfold dg at a;rw[List.mem_filter,vf]at a;have%[b|d]:=a;have%[l,e|f]:=List.mem_flatten.mp b;have%[r,g|rfl]:=Xq e;have:=all_eq_true.mp (h r g) c f;unfold okc at this;rw[or_eq_true]at this;rcases this with q|q
 .exact absurd (Zo q) (Zo d)
 .exact q
def bJ.signs_ne(h:bJ rows):dg rows≠[]:=by
 have%[r,b,c,d|a]:=h.some';have:c∈dg rows:=by
  unfold dg;rw[List.mem_filter,vf];exact%[List.mem_flatten.mpr %[_,Xr %[r,b|rfl]|d]|Zf a]
 grind
abbrev tX(z:Str):Bool:=(decide (1<=(z.length:Int))&&decide ((z.length:Int)<=40))&&z.cps.toList.all okc
abbrev fk(row a:Str):Bool:=decide (row.length=a.length)&&(List.zip a.cps.toList row.cps.toList).all λp=>!decide (p.2=46)||decide (p.1=46)
def bJ.row(h:bJ rows)(a:r∈rows):tX r=true:=by
 have%[wd,c,d|b]:=h.wide;have e:r.length=wd:=b r a;unfold tX;rw[h.sign r a,e,Zf ⋯,Zf ⋯];rfl
def bJ.beneath(h:bJ rows)(c:rows[i]? =some r)(d:rows[i+1]? =some a):fk a r=true:=by
 have%[wd,m,n|e]:=h.wide;have f:r.length=wd:=e r (Z8 c);have g:a.length=wd:=e a (Z8 d);unfold fk;rw[Zf (g.trans f.symm),Bool.true_and,all_eq_true];intro p l;have%[j|b]:=Xg l;rw[List.getElem?_zip_eq_some]at b;have:=h.fall i r a c d j p.1 p.2 (by simpa using b.1) (by simpa using b.2)
 grind
def join_signs(a:List Nat):(Str.join (!"") (a.map sgn))=⟨a.toArray⟩:=by
 refine jt ?_;rw[vf,Ys];show((a.map (λc=>[c])).flatten)=a
 induction a with
 | nil=>rfl
 | cons c r b=>simp_all
def yo:∀a:List Nat,((a.map sgn).map (λx=>x.length)).sum=a.length
 |[]=>rfl
 | c::r=>by
   rw[Yr,Yr,List.sum_cons,yo r,Zr];show 1+r.length=r.length+1
   lia
end Cut
namespace Cut
open PySem L2
end Cut
namespace L2
open PySem PySem.Spec PyProof.Rows
abbrev Up(B:Heap)(l:List Env)(e:Addr)(cls:Value)(b:ZI)(d:Option Value)(h:Heap):Prop:=
 B.StaysIn h/\B.get? e=none/\h.FunFrames B l/\∃a vs,h.get? e=some a/\a.cls=cls/\a.dict=b/\a.data= .fields vs/\1<vs.size/\
  match d with
  | none=>vs[1]? =some .none
  | some f=>∃T c ts,vs[1]? =some (.ref T)/\B.get? T=none/\T≠e/\h.get? T=some c/\c.data= .fields ts/\ts[3]? =some f
section
variable{M:Model}{A:Around}{E:ZD}{s:Shared}{B:Heap}{env:Env}{outer:List Env}{L e:Addr}{cls:Value}{dct:ZI}{Q:Unit->Shared->Prop}
end
section
variable{P:Program}{w:World}{H:Hp}{h:Heap}{a:Addr}{o:HO}
def bX.there(x:bX P w H h a o):∃b,h.get? a=some b:=by
 cases o with
 | lst xs=>have%[_,_,_,_|e]:=x;exact%[_|e]
 | tup xs=>have%[_,_,_,b,e|_]:=x;exact%[_|e]
 | dK c=>have%[_,_,_,_,o,_,_,e|_]:=x;exact%[_|e]
 | dT c=>have%[_,_,_,_,o,_,_,e|_]:=x;exact%[_|e]
 | set S n=>have%[o,_,_,_,e|_]:=x;exact%[_|e]
 | ins C d fs=>have%[_,_,_,e|_]:=x;exact%[_|e]
 | own y=>have%[_|e]:=x;exact%[_|e]
 | xd fs=>have%[_,%[_,_,_,e|_]|_]:=x;exact%[_|e]
 | rng lo hi=>have%[_,_,_|e]:=x;exact%[_|e]
 | frz b u=>have%[e|_]:=x;exact%[_|e]
 | tbl ps=>exact%[_|(x)]
 | met f y=>exact%[_|(x)]
 | ext g=>have%[_,%[_|e]|_]:=x;exact%[_|e]
end
section
variable{P:Program}{w:World}{l:List Env}{H H':Hp}{s s':Shared}{ea:Addr}{B h':Heap}{cls:Value}{dx:ZI}{fl fl':Option Value}
end
section
variable{P:Program}{w:World}{K:ZA}{mg:ZC}{base:Heap}{N:ZB}{qual:Str}{scope:Scope}{f:Addr}{cd:Value}{A:Around}{outer:List Env}{s₀:Shared}{H₀:Hp}{E:XK}
end
section
variable{prog:Program}{w:World}{A:Around}{E:ZD}{h:Heap}{g:Array GenState}{d:Drawn}{t:Nat}{os:OsState}
variable{nm q:Str}{C N:Addr}{bs bm bmB:ZF}{hdct:Bool}{sn:ZB}{sub:ZF}{ab:Bool}{col:Option Bool}{dd:ZI}{k0 k1 k2 k3 k5:Option Value}{B newId initId:String}
end
section
#where
variable{K:ZA}{x C:Addr}{name:Str}{v:Value}{ox:Obj}{od:Option Obj}
end
section
variable{X:Cx}{C f:Addr}
end
section
variable{X:Cx}{pins:ZE}{σ:St}{H:Hp}{s s':Shared}
end
section
variable{X:Cx}{C D f:Addr}{x nm:Str}{p pos pos' apos:Pos}{e o value:Expr}{es:List Expr}{t:TA}{ta tv:TE}{r:List V->Hp->VK->Prop}
end
abbrev GP(b:TE):TE:=λc H Q=>b c H λv a=>(∃i:Int,v= .int i/\i.natAbs<2^64/\Q (.str (toString i)) a)\/∃y:Str,v= .str y/\y.length<=sizeLine/\Q (.str y) a
abbrev oQ:List TE->Str->TE
 |[],out=>λa H Q=>out.length<=sizeLine/\Q (.str out) H
 | t::ts,out=>λa H Q=>t a H λv b=>∃y:Str,v= .str y/\(out++y).length<=sizeLine/\oQ ts (out++y) a b Q
inductive PJ (X:Cx):List Expr->List TE->Prop
 | nil:PJ X [] []
 | cons {e:Expr} {es:List Expr} {t:TE} {ts:List TE}:PE X e t->PJ X es ts->PJ X (e::es) (t::ts)
section
variable{X:Cx}{e v1 v2:Expr}{rest:List Expr}{te t1 t2:TE}{ts:List TE}{pos:Pos}
def GQ(c:PE X e te):PE X (.FormattedValue e (-1) none pos) (GP te):=by
 intro pins s d H Q I h;refine FormattedValue_plain (thP (c pins s d H _ I h) λu j v a b r q=>?_);rcases q with⟨i,rfl,hi,q⟩|⟨y,rfl,f,q⟩
 .have%[t|rfl]:=(show∃t,u=Value.int i t from r)
  have g:i.natAbs.log2<1920:=by
   by_cases z:i.natAbs=0
   .rw[z];decide
   .exact(Nat.log2_lt z).mpr (Zg hi (Nat.pow_le_pow_right (!1) ∅))
  exact formatField_int_small g %[V.str (toString i),a,b.tok _,%[_|rfl]|q]
 .have%[t|rfl]:=(r)
  exact formatField_str (λt' tk=>%[.str y,a,b.tok _,%[_|rfl]|q]) f
def B5(h:PJ X es ts):∀(out:Str) (pins:ZE) (s:Shared) (a:St) (H:Hp) (Q:VK),Inv X pins a H s->oQ ts out a H Q->
 (wpAny (model X.prog X.w) X.A) (joinParts out (evalEach es X.env)) (EP X pins a Q) X.xe s:=by
 induction h with
 | nil=>exact λout pins s a H Q I ⟨b,q⟩=>joinParts_nil %[.str out,H,I.tok _,%[_|rfl]|q] b
 | cons c _ d=>
   intro out pins s a H Q I q;refine joinParts_cons (thP (c pins s a H _ I q) λu f v g i r ⟨y,j,b,q1⟩=>?_);subst j;have%[t|rfl]:=(r)
   exact%[b|d _ pins f a g Q i q1]
def EB(h:PJ X (v1::v2::rest) ts):PE X (.JoinedStr (v1::v2::rest) pos) (oQ ts Str.empty):=λpins s a H Q I q=>
 JoinedStr_many (B5 h _ pins s a H Q I q)
end
section
variable{X:Cx}{k:Nat}{f C:Addr}{fd:FuncData}{ps:ZB}{sp:Sp}{x:Str}{p pos cpos:Pos}{e:Expr}{es:List Expr}{te:TE}{t:TA}
end
abbrev drop(H:Hp)(a:Addr):Hp:=λb=>if b=a then none else H b
def rS:drop H a a=none:=by unfold drop;rw[if_pos rfl]
def dh(h:b≠a):drop H a b=H b:=by unfold drop;rw[if_neg h]
section
variable{X:Cx}{pins:ZE}{σ:St}{H:Hp}{s s':Shared}
end
section
variable{M:Model}{A:Around}{E:ZD}{s:Shared}{K:ZA}{D C e:Addr}{oe:Obj}{b:Bool}{Q:Bool->Shared->Prop}
end
section
variable{X:Cx}{pins pins' pn:ZE}{σ:St}{H:Hp}{s:Shared}{E:ZD}
end
section
#where
variable{K:ZA}{x C:Addr}{name:Str}{v:Value}{ox:Obj}{od:Option Obj}
end
section
#where
variable{K:ZA}{x C:Addr}{ox:Obj}{od:Option Obj}
end
section
variable{X:Cx}{pins:ZE}{σ:St}{H:Hp}{s:Shared}
end
abbrev cI(mg:ZC)(x:Str):Addr:=match mg x with
 | some (.ref C)=>C
 | _=>0
def EC(h:mg x=some (.ref C)):cI mg x=C:=by unfold cI;rw[h]
section
variable{P:Program}{w:World}{K:ZA}{mg:ZC}{base:Heap}{x qual:Str}{st:Stmt}{N ps:ZB}{k:Nat}{sp:Sp}
end
section
variable{X:Cx}{K:ZA}{pos:Pos}
def GR(a:QE X e b):QE X (.FormattedValue e (-1) none pos) (GP b):=⟨GQ a.h⟩
def FB:PJ X [] []:= .nil
def pjE(a:QE X e t)(h:PJ X es ts):PJ X (e::es) (t::ts):= .cons a.h h
def FC{rest:List Expr}(h:PJ X (v1::a::rest) ts):QE X (.JoinedStr (v1::a::rest) pos) (oQ ts Str.empty):=⟨EB h⟩
end
abbrev cw(z:Str):Str:=⟨z.cps.toList.reverse.toArray⟩
def vg(z:Str):(cw z).length=z.length:=by
 show z.cps.toList.reverse.toArray.size=z.cps.size;simp
def z7(z:Str):cw (cw z)=z:=by
 obtain⟨⟨l⟩⟩:=z;simp[cw]
def j9:Slot "reversed" "__init__" "object.__init__":=
 .of (owner:="object") (n:="__init__") (by rw[typeLookup_type,builtinLookup_eq_fast];kernel_rfl) (!0) (!0) (!0) (by first|exact .inl (!0)|exact .inr (!0)) (by rw[isSubtype_type];kernel_rfl)
def nL:TypeCalled "reversed" "reversed.__new__" "object.__init__":=
 %[!0,!0,%[_,_|PySem.F.mro_reversed],PySem.F.made_reversed,!0,by rw[isSubtype_type];kernel_rfl|j9]
noncomputable abbrev ED(z:Str)(t:Tok)(i:Int):Obj:={cls:= .type "reversed",data:= .fields #[.str z t,rawInt i]}
def vh:typeLookup (.type "str") "__reversed__"=pure none:=by rw[typeLookup_type,builtinLookup_eq_fast];kernel_rfl
section
#where
def EE(b:z.length<=sizeLine)(h:∀tk,Q (.done (.ret (.ref ⇑s))) {s with heap:=s.heap.push (ED z t ((z.length:Int) -1)),toks:=tk}):
 ↥A (Builtin.«reversed.__new__» %[[.type "reversed",.str z t]|[]]) Q E s:=by
 unfold Builtin.«reversed.__new__»;refine Z2 (wpAny_of_eq (PySem.newClass_reversed _) ?_)
 try dsimp only
 refine Z2 (wpAny_of_eq (a:=()) (by first|rfl|kernel_rfl) ?_);refine Z2 (wpAny_of_eq (a:=()) (by first|rfl|kernel_rfl) ?_)
 try dsimp only
 refine Z2 (wpAny_specialOf (typeIs_str _ _ _) vh ?_)
 try dsimp only
 refine Z2 (wpAny_of_eq (a:=true) (by first|rfl|kernel_rfl) ?_);simp only[Bool.not_true,Y0,if_false];refine Z2 (len_str (by rw[PySem.sizeLine_eq]at b;lia) ?_);refine Z2 (wpAny_of_eq (a:=some (z.length:Int)) (by first|rfl|kernel_rfl) ?_);dsimp only;refine Z2 ?_;show wpAny _ _ (newObj (.type "reversed") (.fields #[.str z t,rawInt ((z.length:Int) -1)])) _ _ _;exact wpAny_newObj_type (Z3 (h _)) (by first|size_fits|trivial|(simp[sizeOk];done))
def z8(a:z.length<=sizeLine)(h:∀tk,Q (.ref ⇑s) {s with heap:=s.heap.push (ED z t ((z.length:Int) -1)),toks:=tk}):
 ↥A (call (.type "reversed") [.str z t]) Q E s:=by
 refine callType_new nL (!1) (PySem.F.typeCall_reversed_1 _) (PySem.F.newCall_reversed_1 _) (λobj=>PySem.F.args_object_init_2 obj _) PySem.F.entry_reversed_new
  (S:=λ_ R s=>z.length<=sizeLine/\∀tk,R (.ok (.ret (.ref ⇑s))) {s with heap:=s.heap.push (ED z t ((z.length:Int) -1)),toks:=tk}) (λprog w A R s ⟨a,h⟩=>EE a h) ?_
 exact%[a|λtk=>%[%[_,Zj _ rfl|rfl]|h tk]]
end
def mv:Manifest.owners.lookup (String.ofList ['d','e','s','r','e','v','e','r'].reverse)=some Manifest.sig_reversed:=by kernel_rfl
def cY:Slot "reversed" "__next__" "reversed.__next__":=
 .of (owner:="reversed") (n:="__next__") (by rw[typeLookup_type,builtinLookup_eq_fast];kernel_rfl) (!0) (!0) (!0) (by first|exact .inl (!0)|exact .inr (!0)) (by rw[isSubtype_type];kernel_rfl)
def iY:entryFor table "reversed.__next__"=some Builtin.«reversed.__next__»:=entryFor_of_tree (by kernel_rfl)
def jL(a:Value):argsOk "reversed.__next__" %[[a]|[]]:=by
 unfold argsOk;rw[signature?_of (id:="reversed.__next__") (n:=['_','_','t','x','e','n','_','_']) (o:=['d','e','s','r','e','v','e','r']) (by kernel_rfl) mv];kernel_rfl
abbrev dt(h:Heap)(a:Addr)(z:Str)(t:Tok)(i:Int):Prop:=∃o,h.get? a=some o/\o.cls= .type "reversed"/\o.data= .fields #[.str z t,rawInt i]
section
#where
def dt.typeIs(x:dt s.heap a z t i):s.TypeIs (.ref a) "reversed":=let⟨o,b,c,_⟩:=x;%[o,b|c]
def B6{z:Str}{i:Nat}{c:Nat}{Q:Option Value->Shared->Prop}(b:dt s.heap g z t (i:Int))(j:z.cps[i]? =some c)(l:z.length<=sizeLine)
 (m:∀h' u tk,dt h' g z t ((i:Int) -1)->SameBut g s.heap h'->Q (some (.str ⟨#[c]⟩ u)) {s with heap:=h',toks:=tk}):↥A (pyNext (.ref g)) Q E s:=by
 have%[o,f,h|d]:=id b;unfold pyNext;refine Z2 (wpAny_attempt (wpAny_callSpecial?_slot (name:=!"__next__") b.typeIs cY (wpAny_call_entry cY b.typeIs iY ?_ (jL _))));unfold Builtin.«reversed.__next__»;refine Z2 (wpAny_of_eq (a:=(Value.ref g,[])) rfl ?_)
 try dsimp only
 refine Z2 (wpAny_field f d (x:= .str z t) rfl ?_);refine Z2 (wpAny_field f d (x:=rawInt (i:Int)) rfl ?_);show wpAny _ _ (if(i:Int)<0 then _ else _) _ _ s;rw[if_neg ⋯];show wpAny _ _ (specialOf (.str z t) (!"__getitem__")>>= _) _ _ s;refine Z2 (wpAny_specialOf (typeIs_str _ _ _) slot_str_getitem.lookup ?_);simp only[Option.isNone_some,Y0,if_false];have hi:i<z.length:=(Array.getElem?_eq_some_iff.mp j).1;rw[PySem.sizeLine_eq]at l;have e:seqIndex? (i:Int) z.length=some i:=by
  have:=PySem.StrLaws.seqIndex_nonneg (i:=(i:Int)) (n:=z.length) ⋯ ⋯;simpa using this
 refine Z2 (wpAny_mkInt (Z2 (wpAny_attempt (PyProof.Rows.getItem_str (c:=c) (by
  have p:decide ((i:Int)< -(2^63:Int))=false:=Zh ⋯;have q:decide ((i:Int)>=2^63)=false:=Zh ⋯;rw[p,q]<;> rfl) (by rw[e];exact j) ?_))))
 refine Z2 (wpAny_field f d (x:=rawInt (i:Int)) rfl ?_);refine Z2 (wpAny_setField f d ∅ ?_);refine Z3 %[_,rfl|Z3 (m _ _ _ ?_ (SameBut.update ..))];exact%[_,get?_update_self _ f (Obj.isFreed_of_fields (Obj.data_mapFields d _)),(Obj.cls_mapFields ..).trans h|by rw[Obj.data_mapFields d];simp]
def EF(l:A.handled=none)(d:dt s.heap c z t (-1))
 (q:∀h',(∀b o,b≠c->s.heap.get? b=some o->h'.get? b=some o)->Q none {s with heap:=h'}):↥A (pyNext (.ref c)) Q E s:=by
 have%[o,h,r|i]:=id d;unfold pyNext;refine Z2 (wpAny_attempt (wpAny_callSpecial?_slot (name:=!"__next__") d.typeIs cY (wpAny_call_entry cY d.typeIs iY ?_ (jL _))));unfold Builtin.«reversed.__next__»;refine Z2 (wpAny_of_eq (a:=(Value.ref c,[])) rfl ?_)
 try dsimp only
 refine Z2 (wpAny_field h i (x:= .str z t) rfl ?_);refine Z2 (wpAny_field h i (x:=rawInt (-1)) rfl ?_);show wpAny _ _ (if(-1:Int)<0 then _ else _) _ _ s;rw[if_pos (!1)];refine Z2 (wpAny_rule ?_);refine Z2 ?_;show wpAny _ _ (do setField (.ref c) 1 (rawInt (-1));setField (.ref c) 0 .none) _ _ _;refine Z2 (wpAny_setField h i ∅ ?_);have f:=Obj.data_mapFields i (·.setIfInBounds 1 (rawInt (-1)));have j:=get?_update_self (Obj.mapFields (·.setIfInBounds 1 (rawInt (-1)))) h (Obj.isFreed_of_fields f);refine wpAny_setField j f ∅ ?_;have p:∀b g,b≠c->s.heap.get? b=some g->((s.heap.update c (Obj.mapFields (·.setIfInBounds 1 (rawInt (-1))))).update c (Obj.mapFields (·.setIfInBounds 0 Value.none))).get? b=some g:=λb g n e=>by
  rw[get?_update_other _ _ (Ne.symm n),get?_update_other _ _ (Ne.symm n)];exact e
 generalize ((s.heap.update c (Obj.mapFields (·.setIfInBounds 1 (rawInt (-1))))).update c (Obj.mapFields (·.setIfInBounds 0 Value.none)))=u at p
 refine Z2 ?_;show wpAny _ _ (newExc (.type "StopIteration") []>>= _) _ _ _;refine Z2 ?_;simp only[newExc,newTuple];refine Z2 (wpAny_newObj_type ?_ (by size_fits));refine Z2 (m:=firstArgMember _ _) (wpAny_of_eq (a:=Value.none) (by first|rfl|(simp only[firstArgMember];rfl)) ?_);refine wpAny_newObj_type ?_ (by size_fits);simp only[raiseNew];refine Z2 (wpAny_handled ?_)
 first|rw[show A.in1.handled=none from l]|rw[l]
 refine Z2 (Z3 (wpAny_throw ?_));refine Z2 (wpAny_isInstance (T:="StopIteration") (b:=true) %[_,Zj _ rfl|rfl] isSubtype_stop ?_);exact Z3 (q _ λb g n e=>Z7 _ (Z7 _ (p b g n e)))
end
def jM:Slot "reversed" "__iter__" "reversed.__iter__":=
 .of (owner:="reversed") (n:="__iter__") (by rw[typeLookup_type,builtinLookup_eq_fast];kernel_rfl) (!0) (!0) (!0) (by first|exact .inl (!0)|exact .inr (!0)) (by rw[isSubtype_type];kernel_rfl)
def qG(a:Value):argsOk "reversed.__iter__" %[[a]|[]]:=by
 unfold argsOk;rw[signature?_of (id:="reversed.__iter__") (n:=['_','_','r','e','t','i','_','_']) (o:=['d','e','s','r','e','v','e','r']) (by kernel_rfl) mv];kernel_rfl
def oR:entryFor table "reversed.__iter__"=some Builtin.«dict_keyiterator.__iter__»:=
 entryFor_alias (id':="dict_keyiterator.__iter__") (by kernel_rfl) (by first|rfl|decide +kernel|(unfold String.splitOn;simp +decide [String.splitOnAux])) (!0) (by kernel_rfl)
def dt.at(x:dt h a z t i)(e:∀o,h.get? a=some o->h'.get? a=some o):dt h' a z t i:=let⟨o,b,r⟩:=x;%[o,e _ b|r]
def rT(hh:A.handled=none)(I:Addr)(z:Str)(t:Tok)(hz:z.length<=sizeLine):
 Walks prog w A I [I] [I] z.length (λi v=>∃c u,z.cps[z.length-1-i]? =some c/\v= .str ⟨#[c]⟩ u) (λi h=>i<=z.length/\dt h I z t ((z.length:Int) -1-(i:Int))) where
 sub:=λb hb=>hb
 frame:=λ_ _ _ x hk=>%[x.1|x.2.at λo e=>hk I ∅ o e]
 item:=λi s Q E hi x hQ=>by
  have e:(z.length:Int) -1-(i:Int)=((z.length-1-i:Nat):Int):=by lia
  have hit:=x.2;rw[e]at hit;have hl:z.length-1-i<z.cps.size:=by show _<z.length;lia
  have hx:z.cps[z.length-1-i]? =some (z.cps[z.length-1-i]'hl):=Array.getElem?_eq_getElem hl;refine B6 hit hx hz λh' u tk hit' hs'=>?_
  have e2:((z.length-1-i:Nat):Int) -1=(z.length:Int) -1-((i+1:Nat):Int):=by lia
  rw[e2]at hit';exact hQ _ h' tk %[_,u,hx|rfl] %[hi|hit'] λb o hb eo=>hs'.extBut b o (λh=>hb (by simp[h])) eo
 done:=λs Q E x hQ=>by
  have e:(z.length:Int) -1-(z.length:Int)= -1:=by lia
  have hit:=x.2;rw[e]at hit;exact EF hh hit λh' he'=>hQ h' s.toks λb o hb eo=>he' b o (λh=>hb (by simp[h])) eo
 self:=λi s Q E x hQ=>by
  refine wpAny_pyIter_slot x.2.typeIs jM (wpAny_call_entry jM x.2.typeIs oR ?_ (qG _));show wpAny _ _ (ret (.ref I)) _ _ s;exact Z3 %[_,rfl,"reversed",_,x.2.typeIs,cY.lookup|hQ]
def z9:typeLookup (.type "reversed") "__len__"=pure none:=by rw[typeLookup_type,builtinLookup_eq_fast];kernel_rfl
def fZ:Slot "reversed" "__length_hint__" "reversed.__length_hint__":=
 .of (owner:="reversed") (n:="__length_hint__") (by rw[typeLookup_type,builtinLookup_eq_fast];kernel_rfl) (!0) (!0) (!0) (by first|exact .inl (!0)|exact .inr (!0)) (by rw[isSubtype_type];kernel_rfl)
def oS:entryFor table "reversed.__length_hint__"=some Builtin.«reversed.__length_hint__»:=entryFor_of_tree (by kernel_rfl)
def qH(a:Value):argsOk "reversed.__length_hint__" %[[a]|[]]:=by
 unfold argsOk;rw[signature?_of (id:="reversed.__length_hint__") (n:=['_','_','t','n','i','h','_','h','t','g','n','e','l','_','_']) (o:=['d','e','s','r','e','v','e','r']) (by kernel_rfl) mv];kernel_rfl
def Aa(k:Int)(t:Tok):asInt? (.int k t)=pure (some k):=by first|rfl|(unfold asInt?;rfl)
section
#where
def B7(c:dt s.heap I z t ((z.length:Int) -1))(f:z.length<=sizeLine)(h:∀tk,Q (decide (z.length≠0)) {s with toks:=tk}):
 ↥A (Builtin.List.listLengthHint (.ref I)) Q E s:=by
 have%[o,d,g|e]:=id c;unfold Builtin.List.listLengthHint;refine Z2 (wpAny_specialOf c.typeIs z9 ?_);show wpAny _ _ (specialOf (.ref I) (!"__length_hint__")>>= _) _ _ _;refine Z2 (wpAny_specialOf c.typeIs fZ.lookup ?_)
 wp_delta
 refine Z2 (wpAny_isInstance (T:="reversed") (b:=true) c.typeIs (by rw[isSubtype_type];kernel_rfl) ?_);simp only[Bool.not_true,Y0,if_false];rw[if_neg (!0)];refine Z2 (wpAny_rule ?_);refine Z2 (wpAny_of_eq (fZ.bind (.ref I)) ?_);dsimp only;refine Z2 (wpAny_attempt (wpAny_call_entry fZ c.typeIs oS ?_ (qH _)));unfold Builtin.«reversed.__length_hint__»;refine Z2 (wpAny_of_eq (a:=Value.ref I) (by first|rfl|kernel_rfl) ?_);refine Z2 (wpAny_field d e (x:= .str z t) rfl ?_);rw[if_neg ∅];rw[PySem.sizeLine_eq]at f;show wpAny _ _ (call (.builtin "len") [.str z t]>>= _) _ _ _;refine Z2 (len_str ⋯ ?_);refine Z2 (wpAny_of_eq (a:=some (z.length:Int)) (by first|rfl|kernel_rfl) ?_);dsimp only;refine Z2 (wpAny_field d e (x:=rawInt ((z.length:Int) -1)) rfl ?_);show wpAny _ _ (if(z.length:Int)<(z.length:Int) -1+1 then _ else retInt ((z.length:Int) -1+1)) _ _ _;rw[if_neg ⋯];have i:(z.length:Int) -1+1=(z.length:Int):=by lia
 rw[i];unfold retInt;refine Z2 (wpAny_mkInt (Z3 %[_,rfl|?_]));show wpAny _ _ (asInt? (.int (z.length:Int) _)>>= _) _ _ _
 generalize m:(z.length:Int)=k
 rw[Aa,pure_bind];dsimp only;rw[if_neg (by rw[fitsIndex_both ⋯ ⋯];decide),if_neg ⋯];have j:Builtin.List.listTooLong k.toNat=false:=by
  unfold Builtin.List.listTooLong;rw[PySem.sizeLine_eq];exact Zh ⋯
 rw[j,if_neg (!1)];have l:(k != 0)=decide (z.length≠0):=by
  by_cases q:z.length=0
  .have:k=0:=by lia
   simp[this,q]
  .have:k≠0:=by lia
   simp[this,q]
 refine Z3 ?_;rw[l];exact h _
end
def yp:∀{us:ZF} {ss:ZB},us.length=ss.length->(∀(j:Nat) (v:Value) (x:Str),us[j]? =some v->ss[j]? =some x->∃u,v=Value.str x u)->StrsAre us ss
 |[],[],_,_=> .nil
 | v::us,x::ss,a,h=>by
   have%[u|rfl]:=h 0 v x rfl rfl;exact .cons x u (yp ↑a λj b c d e=>h (j+1) b c ↑d ↑e)
 |[],_::_,a,_=>by simp at a
 | _::_,[],a,_=>by simp at a
section
#where
def vk(hh:A.handled=none)(J:dt s.heap I z t ((z.length:Int) -1))(L:z.length<=sizeLine)(hp:1<=z.length)
 (hQ:∀s' vs,StrsAre vs ((z.cps.toList.reverse).map λc=>(⟨#[c]⟩:Str))->(∀b o,b≠I->s.heap.get? b=some o->s'.heap.get? b=some o)->s'.gens=s.gens->s'.os=s.os->Q vs s'):
 ↥A (collect (.ref I)) Q E s:=by
 have%[M,f,g|N]:=id J;unfold collect;refine Z2 (wpAny_runValue (codeAny_builtin F.entry_proto_collect ?_));rw[Around.under_plainId F.plain_proto_collect _];show wpAny _ A.in1 (newList []>>= λl=>again (.builtin "list.__iadd__" %[[l,.ref I]|[]])) _ _ s;refine Z2 (wpAny_newObj_type (Z3 %[plainId_quiet F.plain_list_iadd _|codeAny_builtin F.entry_list_iadd ?_]));rw[Around.under_plainId F.plain_list_iadd _];have h:I<⇑s:=Zv f;show wpAny _ A.in1 (Builtin.List.listExtendWith (.ref ⇑s) (.ref I) (.ref ⇑s)) _ _ _;unfold Builtin.List.listExtendWith
 generalize O:s.heap.push {cls:= .type "list",data:= .seq ([]:ZF).toArray}=G
 have gS:G.get? I=some M:=by rw[<-O];exact Z7 _ f
 have gL:G.get? ⇑s=some {cls:= .type "list",data:= .seq ([]:ZF).toArray}:=by rw[<-O];exact Zj _ rfl
 have d:dt G I z t ((z.length:Int) -1):=%[M,gS,g|N]
 have tS:Shared.TypeIs {s with heap:=G} (.ref I) "reversed":=%[M,gS|g]
 refine Z2 (wpAny_typeOf (T:="reversed") tS ?_);have n1:Builtin.List.listSameRef (.ref ⇑s) (.ref I)=false:=by
  show(⇑s==I)=false;exact beq_eq_false_iff_ne.mpr (X2 h)
 have n2:(Value.type "reversed"==Value.type "list")=false:=!1
 have n3:(Value.type "reversed"==Value.type "tuple")=false:=!1
 simp only[n1,n2,n3,Bool.or_false,Y0,if_false];have W:=rT (prog:=prog) (w:=w) (A:=A.in1) (show A.in1.handled=none from hh) I z t L;have i:0<=z.length/\dt G I z t ((z.length:Int) -1-((0:Nat):Int)):=%[Xf _|↑d]
 refine Z2 (W.self 0 {s with heap:=G} _ _ i ?_);refine Z2 (wpAny_holding ?_);refine B7 (s:={s with heap:=G}) d L λtk=>?_
 rw[Zf (show z.length≠0 by lia),if_pos (!1)];refine Z2 (wpAny_rule ?_);refine Z2 ?_;unfold Builtin.List.listTouch;refine Z2 (listUpdate_at (s:={s with heap:=G,toks:=tk}) gL rfl ?_ (Xf _) (by show 1<=sizeLine+1;lia));have m:=get?_update_self (Obj.mapSeq (·.push Value.none)) gL rfl;refine listUpdate_at (xs:= #[Value.none]) (n:=1) (s:={s with heap:=G.update ⇑s (Obj.mapSeq (·.push Value.none)),toks:=tk}) m rfl ?_ (by show 1<=sizeLine;decide) (by show 0<=sizeLine+1;lia);have U:=get?_update_self (Obj.mapSeq (·.pop)) m rfl;have p:∀b o,b≠⇑s->G.get? b=some o->((G.update ⇑s (Obj.mapSeq (·.push Value.none))).update ⇑s (Obj.mapSeq (·.pop))).get? b=some o:=λb o C e=>(get?_update_other _ _ (Ne.symm C)).trans ((get?_update_other _ _ (Ne.symm C)).trans e)
 have Y:⇑s≠I:=X2 h;have r:⇑s∉[I]:=by simp;exact Y
 have ab:=W.frame 0 G ((G.update ⇑s (Obj.mapSeq (·.push Value.none))).update ⇑s (Obj.mapSeq (·.pop))) i λb C H e=>p b H (λq=>r (q▸C)) e
 refine Z3 %[plainId_quiet F.plain_extend_loop _|codeAny_extend_loopS W.toS L _ r _ z.length 0 _ _ _ rfl (Xf _) ab U (ItemsOf.nil _) λs5 acc c5 m5 ac a=>?_];show wpAny _ A (load ⇑s>>= _) _ _ s5;refine Z2 (wpAny_load ac (Z3 ?_));refine hQ s5 acc.toList (yp ?_ λj v x e1 e2=>?_) (λb H nb e=>?_) m5.gens m5.os
 .rw[Zb,a.1];simp[Str.length]
 .have hj:acc[j]? =some v:=↑e1
  have%[c,u,ec|rfl]:=a.2 j v hj;refine%[u|?_];have ae:j<z.length:=by
   have:=(Array.getElem?_eq_some_iff.mp hj).1;rw[a.1]at this;exact this
  have y:j<z.cps.toList.length:=by simpa [Str.length]using ae
  rw[Zl,List.getElem?_reverse y]at e2;have ag:z.cps.toList[z.cps.toList.length-1-j]? =some c:=by
   rw[getElem?_toList,Zb];exact ec
  rw[ag]at e2;cases e2;rfl
 .have B:=Zv e;refine m5.heap b H ?_ (p b H (Zt B) (by rw[<-O];exact Z7 _ e));simp only[Yw,X8,or_false,not_or];exact%[Zt B|nb]
end
abbrev xk(n:Nat)(a:Addr)(z:Str):HO:= .ext λh=>n<=a/\∃t,dt h a z t (z.length-1)
def xk.ok{P:Program}(b:n<=a)(x:dt h a z t ((z.length:Int) -1)):bX P w H h a (xk n a z):=
 %[%[b,t|x],let⟨o,c,_⟩:=x;%[o|c]|λ_ _ ⟨b,t,x⟩ k=>%[b,t|x.at λo e=>k o e]]
def B8{X:Cx}:ck X (.type "reversed") (λxs H Q=>∃z,xs=[V.str z]/\z.length<=1000/\∀r,H r=none->Q (.ref r) (upd H r (xk X.s₀.heap.objs.size r z))):=by
 intro pins s a H xs us Q I r h;have%[z,rfl,f|q]:=h;have%[u,rfl|c]:=du r;have%[t|rfl]:=(show∃t,u=Value.str z t from c)
 refine z8 (by rw[PySem.sizeLine_eq];lia) λtk=>?_
 have d:H ⇑s=none:=I.hok.fresh (Zi _);have J:Inv X pins a H {s with heap:=s.heap.push (ED z t ((z.length:Int) -1)),toks:=tk}:=I.keptS (λb o e=>Z7 _ e) rfl rfl;exact%[.ref ⇑s,_,I.stoodS J (Zi _) (xk.ok (t:=t) I.sz %[_,Zj _ rfl,rfl|rfl]),rfl|q _ d]
def EG{X:Cx}(j:X.calm=true):MtR X "str.join" (λx ys H Q=>∃I z,x= .str Str.empty/\ys=[V.ref I]/\H I=some (xk X.s₀.heap.objs.size I z)/\1<=z.length/\z.length<=1000/\Q (.str (cw z)) (drop H I)):=by
 intro pins s E H x ys v us Q I N O h;have%[a,z,rfl,rfl,m,T,z2|q]:=h;have%[tx|rfl]:=(show∃t,v=Value.str Str.empty t from N)
 have%[u,rfl|U]:=du O;cases U;have%[%[Y,t|f]|_]:=I.hok a _ m;have G:X.A.handled=none:=I.ok.hd j;have L:z.length<=sizeLine:=by rw[PySem.sizeLine_eq];lia
 refine wpAny_call (codeAny_call_builtin F.slot_str_join.plain F.entry_str_join (F.slot_str_join.check _ _ _ _ _ _ _ _ (typeIs_str _ _ _) (F.args_str_join_2 _ _) ?_));rw[PySem.join_tree_other];refine Z2 (wpAny_typeOf f.typeIs ?_);show wpAny _ X.A.in1 ((pyIter (.ref a)).tryCatch _>>= λit=>collect it>>= λi=>PySem.joinTail Str.empty i) _ _ s;have W:=rT (prog:=X.prog) (w:=X.w) (A:=X.A.in1) (show X.A.in1.handled=none from G) a z t L;refine Z2 (wpAny_tryCatch (W.self 0 s _ _ %[Xf _|↑f] ?_));refine Z2 (vk (show X.A.in1.handled=none from G) f L T λs' vs hs B hg ho=>?_);have%[l,hv|M]:=strsAre_values hs;rw[hv];have d:JoinOk Str.empty (l.map (·.1))=true:=by
  rw[M];refine joinOk_of ?_;rw[Ys];have e1:((z.cps.toList.reverse).map ((λx:Str=>x.length) ∘ λc=>(⟨#[c]⟩:Str))).sum=z.length:=by
   rw[show((λx:Str=>x.length) ∘ λc=>(⟨#[c]⟩:Str))=λ_=>1 from rfl];rw[List.map_const',List.sum_replicate_nat];simp[Str.length]
  rw[e1,show Str.empty.length=0 from rfl]
  lia
 unfold JoinOk at d;rw[Bool.not_eq_true']at d;have g:Gives (PySem.joinTail Str.empty (strValues l)) (joinMade Str.empty l):=by
  have C:=gives_joinTail Str.empty l d;cases l with
  | nil=>exact C
  | cons p r=>cases r with
    | nil=>exact C
    | cons q r'=>exact C
 refine g X.prog X.w X.A (wants (EP X pins E Q) X.xe) s' (post_join l %[joinFit_length d|λt' k=>?_]);have ne:∀{b:Addr} {o:HO},H b=some o->(∀φ,o≠ .ext φ)->b≠a:=λe n z=>by
  rw[z,m]at e;cases e;exact n _ rfl
 have un:Un (frs X.stack) [a] H (drop H a) s.heap s'.heap:=by
  refine%[λb o e _ _ y=>B b o ↑y e,λb o e _ _ y=>%[o.slots|B b o ↑y e],λb o _ n _=>?_,λb o e y=>%[o|B b o ↑y e],λb xs e=>?_,λb o u e=>?_|λb ps e=>%[#[]|?_]]
  .unfold drop;split
   .rfl
   .exact n
  .rw[dh (ne e ∅)];exact e
  .rw[dh (ne e ∅)];exact e
  .rw[dh (ne e ∅)];simpa using e
 have d:HOk X.prog X.w (drop H a) s'.heap:=λb o e=>by
  have nb:b≠a:=λz=>by rw[z,rS]at e;cases e
  rw[dh nb]at e;refine(I.hok b o e).stay (λc u j q=>B c u ?_ q) (λc q=>?_) λc xs q=>?_
  .rcases j with rfl|j
   .exact nb
   .exact ne j ∅
  .rw[dh (ne q ∅)];exact q
  .rw[dh (ne q ∅)];exact q
 have J:Inv X pins E (drop H a) s':=I.call' (s':=s') (ch:=[a]) ho un d (by rw[hg];exact I.bare) λb hb=>by
  obtain rfl:b=a:=↑hb
  refine%[.inr Y,λz=>?_,λx c e z=>?_|λp hp z=>?_]
  .have:=I.free;rw[<-z,m]at this;cases this
  .have:=I.freeC x c e;rw[z,m]at this;cases this
  .have:=(I.pin p hp).2.1;rw[z,m]at this;cases this
 have ej:Txt.join Str.empty (l.map (·.1))=cw z:=by
  rw[M];refine(StrLaws.glued_eq_join _ _).trans ?_;exact Cut.join_signs z.cps.toList.reverse
 rw[ej];exact%[.str (cw z),drop H a,J.tok _,%[_|rfl]|q]
def Iv{X:Cx}:cJ X (.type "reversed") (λxs H Q=>∃z,xs=[V.str z]/\z.length<=1000/\∀r,H r=none->Q (.ref r) (upd H r (xk X.s₀.heap.objs.size r z))):=⟨B8⟩
def B9{X:Cx}(a:X.calm=true):MtQ X "str.join" (λx ys H Q=>∃I z,x= .str Str.empty/\ys=[V.ref I]/\H I=some (xk X.s₀.heap.objs.size I z)/\1<=z.length/\z.length<=1000/\Q (.str (cw z)) (drop H I)):=⟨EG a⟩
abbrev clo(c:TE):TE:=λd H Q=>∃a:VK,c d H a/\∀v b,a v b->Q v b
def Ca{X:Cx}(h:PE X e b):PE X e (clo b):=λpins s c H Q I ⟨d,q,k⟩=>
 thP (h pins s c H d I q) λ_ _ v a f r z=>%[v,a,f,r|k v a z]
def Cb{X:Cx}(h:PE X e t)(k:∀a H Q,t' a H Q->t a H Q):PE X e t':=λpins s a H Q I q=>h pins s a H Q I (k a H Q q)
def vm(h:H r=none):drop (upd H r o) r=H:=by
 funext b;unfold drop upd
 simp_all
abbrev vo(a:TE):TE:=λb H Q=>a b H λv c=>∃z,v= .str z/\1<=z.length/\z.length<=1000/\Q (.str (cw z)) c
def Cc{X:Cx}(f:X.calm=true)(g:Gl X "reversed")(h:X.mg "reversed"=none)(a:(apos.endLine==cpos.line)=true)(b:bg e=false)(i:QE X e c):
 QE X (.Call (.Attribute (.Constant (.str Str.empty) j l) "join" apos) [.Call (.Name "reversed" m) [e] [] n] [] cpos) (vo c):=by
 have o:QE X (.Call (.Name "reversed" m) [e] [] n) _:=ctE Iv g h boot_reversed rfl rfl (by simp[b]) (paE b (⟨Ca i.h⟩:QE X e (clo c)) ao);have p:=bmE (X:=X) (K:=X.K) (apos:=apos) (cpos:=cpos) rfl plainAttrs_str slot_str_join type_str_join (B9 f) rfl rfl rfl a (dI (x:=Str.empty) (j:=j) (pos:=l)) (paE rfl o ao);refine⟨Cb p.h λw H Q q=>?_⟩;refine%[by trivial,_,q|λv y ⟨z,s,t,d,q⟩=>%[z,by rw[s],d|λr u=>%[r,z,rfl,rfl,aa,t,d|?_]]];rw[vm u];exact q
section
variable{X:Cx}{K:ZA}{pos:Pos}
end
end L2
namespace SBig
open PySem PyProof.Rows
section
variable(prog:Program)(w:World)(A:Around)(SI:Shared->Prop)
abbrev SC{a:Type}(m:StateT SortSt Sem a)(Q:a->SortSt->Prop)(st:SortSt):Prop:=
 ∀s,SI s->↥A (m.run st) (λr s'=>SI s'/\Q r.1 r.2) (λ_ _=>False) s
nonrec abbrev ZY:=Array Keyed
abbrev Cmp(a:SortKind)(D:Keyed->Prop)(N:Keyed->Nat):Prop:=
 ∀x y s,D x->D y->SI s->↥A (keyLt' a x.1 y.1) (λb s'=>b=decide (N x<N y)/\SI s') (λ_ _=>False) s
end
section
variable{prog:Program}{w:World}{A:Around}{SI:Shared->Prop}{α β:Type}
def aw{st:SortSt}(h:Q a st):(SC prog w A SI) (pure a) Q st:=λs b=>by
 exact Z3 %[b|h]
def au{st:SortSt}(h:(SC prog w A SI) m (λa b=>(SC prog w A SI) (f a) Q b) st):(SC prog w A SI) (m>>= f) Q st:=λs c=>by
 exact Z2 (wpAny_mono (h s c) (λr s' h'=>h'.2 s' h'.1) λ_ _ e=>e)
def bP{st:SortSt}(h:(SC prog w A SI) m Q st)(c:∀a b,Q a b->d a b):(SC prog w A SI) m d st:=λs f=>
 wpAny_mono (h s f) (λr s' h'=>%[h'.1|c _ _ h'.2]) λ_ _ e=>e
def f6{st:SortSt}(h:Q st st):(SC prog w A SI) get Q st:=λs a=>by
 exact Z3 %[a|h]
def cF{st:SortSt}(h:Q ⟨⟩ (f st)):(SC prog w A SI) (modify f) Q st:=λs a=>by
 exact Z3 %[a|h]
def GS{st:SortSt}(h:Q ⟨⟩ x):(SC prog w A SI) (set x) Q st:=λs a=>by
 exact Z3 %[a|h]
def yq{st:SortSt}(h:∀s,SI s->↥A m (λa s'=>SI s'/\Q a st) (λ_ _=>False) s):(SC prog w A SI) (liftM m:StateT SortSt Sem α) Q st:=λs b=>by
 exact Z2 (wpAny_mono (h s b) (λa s' h'=>Z3 h') λ_ _ e=>e)
def ju{st:SortSt}(h:Q () st):(SC prog w A SI) (liftM (rule t):StateT SortSt Sem Unit) Q st:=yq λs a=>wpAny_rule %[a|h]
def bB{st:SortSt}(I:Nat->β->SortSt->Prop)(j:a<=b)(p:I a c st)
 (l:∀i x st,a<=i->i<b->I i x st->(SC prog w A SI) (f i x) (λr g=>match r with| .done y=>Q y g| .yield y=>I (i+1) y g) st) (m:∀x st,I b x st->Q x st):(SC prog w A SI) (forIn [a:b] c f) Q st:=by
 have q:∀d i x st,i+d=b->a<=i->I i x st->(SC prog w A SI) (forIn (List.range' i d 1) x f) Q st:=by
  intro d
  induction d with
  | zero=>
    intro i x st e _ h;subst e;exact aw (m x st h)
  | succ d n=>
    intro i x st e o h;rw[List.range'_succ,forIn_cons];refine au (bP (l i x st o ⋯ h) λr g h'=>?_);cases r with
    | done y=>exact aw h'
    | yield y=>exact n _ y g ⋯ ⋯ h'
 simp_all
def bj{st:SortSt}(a:xs[i]? =some x)(h:Q x st):(SC prog w A SI) (elem' xs i) Q st:=by
 rw[elem'_eq,a];exact aw h
def vp{st:SortSt}(c:Cmp prog w A SI (kindOf st) D N)(d:D x)(f:D y)(h:Q (some (decide (N x<N y))) st):(SC prog w A SI) (lt' x y) Q st:=by
 refine au (f6 (au (yq (λs g=>wpAny_attempt (wpAny_mono (c x y s d f g) (λb s' ⟨i,a⟩=>?_) λ_ _ e=>e.elim)))));subst i;exact%[a|aw h]
def EH{st:SortSt}(c:Cmp prog w A SI (kindOf st) D N)(hi:(arrOf st)[i]? =some x)(a:(arrOf st)[j]? =some y)(b:D x)(d:D y)
 (h:Q (some (decide (N x<N y))) st):(SC prog w A SI) (ltAt' i j) Q st:=by
 exact au (f6 (au (bj hi (au (bj a (vp c b d h))))))
end
abbrev fQ:Bool->Keyed->ZY->Nat->Nat->Nat->StateT SortSt Sem (Option Nat):=sortPriv% PySem.Builtin.gallop
section
variable{prog:Program}{w:World}{A:Around}{SI:Shared->Prop}{α β:Type}
abbrev bZ(N:Keyed->Nat)(left:Bool)(a x:Keyed):Bool:=if left then decide (N x<N a)else !decide (N a<N x)
def Ab{D:Keyed->Prop}{N:Keyed->Nat}{left:Bool}{a x:Keyed}{b:ZY}{i:Nat}{Q:Option Bool->SortSt->Prop}{st:SortSt}(c:Cmp prog w A SI (kindOf st) D N)(d:D a)(f:b[i]? =some x)(e:D x)
 (h:Q (some (bZ N left a x)) st):(SC prog w A SI) (do let x<-elem' b i;if left=true then lt' x a else do let y<-lt' a x;pure (y.map (!·))) Q st:=by
 refine au (bj f ?_);cases left with
 | true=>
   exact vp c e d h
 | false=>
   exact au (vp c d e (aw h))
abbrev ga0(left:Bool)(a:Keyed)(b:ZY)(base i:Nat):StateT SortSt Sem (Option Bool):=do
 let x<-elem' b (base+i)
 if left=true then lt' x a else do
  let y<-lt' a x
  pure (y.map (!·))
abbrev gaM(f:Nat->StateT SortSt Sem (Option Bool))(x:Option (Option Nat)×Nat×Nat):StateT SortSt Sem (ForInStep (Option (Option Nat)×Nat×Nat)):=
 if x.2.1>=x.2.2 then pure (.done (none,x.2.1,x.2.2))else do
  match<-f (x.2.1+(x.2.2-x.2.1)/2)with
  | some w=>if w=true then pure (.yield (none,x.2.1+(x.2.2-x.2.1)/2+1,x.2.2))else pure (.yield (none,x.2.1,x.2.1+(x.2.2-x.2.1)/2))
  | _=>pure (.done (some none,x.2.1,x.2.2))
abbrev ga3(f:Nat->StateT SortSt Sem (Option Bool))(n lo hi:Nat):StateT SortSt Sem (Option Nat):=do
 let x<-forIn [0:n] (none,lo,hi) λ_ x=>gaM f x
 match x.1 with
 | some r=>pure r
 | none=>pure (some x.2.2)
abbrev ga1(f:Nat->StateT SortSt Sem (Option Bool))(n a:Nat)(x:Option (Option Nat)×Nat×Nat):StateT SortSt Sem (ForInStep (Option (Option Nat)×Nat×Nat)):=
 if x.2.2>=n-a then pure (.done (none,x.2.1,x.2.2))else do
  match<-f (a+x.2.2)with
  | some w=>if(!w)=true then pure (.done (none,x.2.1,x.2.2))else pure (.yield (none,x.2.2,2*x.2.2+1))
  | _=>pure (.done (some none,x.2.1,x.2.2))
abbrev ga2(f:Nat->StateT SortSt Sem (Option Bool))(a:Nat)(x:Option (Option Nat)×Nat×Nat):StateT SortSt Sem (ForInStep (Option (Option Nat)×Nat×Nat)):=
 if x.2.2>=a+1 then pure (.done (none,x.2.1,x.2.2))else do
  match<-f (a-x.2.2)with
  | some w=>if w=true then pure (.done (none,x.2.1,x.2.2))else pure (.yield (none,x.2.2,2*x.2.2+1))
  | _=>pure (.done (some none,x.2.1,x.2.2))
set_option smartUnfolding false in
def Iw(left:Bool)(b:Keyed)(c:ZY)(base n a:Nat):fQ left b c base n a=(do
 match<-ga0 left b c base a with
 | some w=>
   if w=true then(do
    let x<-forIn [0:n] (none,0,1) λ_ x=>ga1 (ga0 left b c base) n a x
    match x.1 with
    | some r=>pure r
    | none=>ga3 (ga0 left b c base) n (a+x.2.1+1) (a+min x.2.2 (n-a)))
   else(do
    let x<-forIn [0:n] (none,0,1) λ_ x=>ga2 (ga0 left b c base) a x
    match x.1 with
    | some r=>pure r
    | none=>ga3 (ga0 left b c base) n (a+1-min x.2.2 (a+1)) (a-x.2.1))
 | _=>pure none):=rfl
def Cd{f:Nat->StateT SortSt Sem (Option Bool)}{n lo hi:Nat}{Q:Option Nat->SortSt->Prop}{a:SortSt}{P:Nat->Bool}(ask:∀(i:Nat) (R:Option Bool->SortSt->Prop),i<n->R (some (P i)) a->(SC prog w A SI) (f i) R a)(c:∀i j,i<=j->j<n->P j=true->P i=true)
 (s:lo<=hi) (t:hi<=n) (u:∀i,i<lo->P i=true) (v:∀i,hi<=i->i<n->P i=false)
 (h:∀k,k<=n->(∀i,i<k->P i=true)->(∀i,k<=i->i<n->P i=false)->Q (some k) a):(SC prog w A SI) (ga3 f n lo hi) Q a:=by
 refine au (bP (bB (Q:=λx b=>b=a/\∃k,x=(none,k,k)/\k<=n/\(∀i,i<k->P i=true)/\(∀i,k<=i->i<n->P i=false))
  (λj x b=>b=a/\∃l k,x=(none,l,k)/\l<=k/\k-l<=n-j/\k<=n/\(∀i,i<l->P i=true)/\(∀i,k<=i->i<n->P i=false)) (Xf _) %[rfl,_,_,rfl,s,⋯,t,u|v] ?_ ?_) ?_)
 .intro j x b _ B %[rfl,l,k,rfl,p,y,d,e|g];unfold gaM;dsimp only;by_cases m:l>=k
  .rw[if_pos m];obtain rfl:l=k:=by lia
   exact aw %[rfl,l,rfl,d,e|g]
  .rw[if_neg m];have o:l+(k-l)/2<k:=by lia
   refine au (ask _ _ ⋯ ?_);dsimp only;cases q:P _ with
   | true=>
     exact aw %[rfl,_,_,rfl,o,⋯,d,λi hi=>c i _ ⋯ ⋯ q|g]
   | false=>
     refine aw %[rfl,_,_,rfl,⋯,⋯,⋯,e|λi hi r=>?_];cases z:P i with
     | false=>rfl
     | true=>rw[c _ i hi r z]at q;cases q
 .intro x b %[rfl,l,k,rfl,p,y,d,e|g];obtain rfl:l=k:=by lia
  exact%[rfl,l,rfl,d,e|g]
 .intro x b %[rfl,k,rfl,d,e|g];exact aw (h k d e g)
def eT{D:Keyed->Prop}{N:Keyed->Nat}{left:Bool}{r:Keyed}{s:ZY}{base n a:Nat}{Q:Option Nat->SortSt->Prop}{st:SortSt}(c:Cmp prog w A SI (kindOf st) D N)(E:D r)
 (G:∀i,i<n->∃x,s[base+i]? =some x/\D x) (P:Nat->Bool) (H:∀i x,i<n->s[base+i]? =some x->P i=bZ N left r x) (b:∀i j,i<=j->j<n->P j=true->P i=true) (z:a<n)
 (h:∀k,k<=n->(∀i,i<k->P i=true)->(∀i,k<=i->i<n->P i=false)->Q (some k) st):(SC prog w A SI) (fQ left r s base n a) Q st:=by
 have ask:∀(i:Nat) (R:Option Bool->SortSt->Prop),i<n->R (some (P i)) st->(SC prog w A SI) (ga0 left r s base i) R st:=λi R hi I=>by
  have%[x,B|J]:=G i hi;exact Ab c E B J ((H i x hi B)▸I)
 rw[Iw];refine au (ask a _ z ?_);dsimp only;cases C:P a with
 | true=>
   rw[if_pos rfl];refine au (bP (bB (Q:=λx e=>e=st/\∃l o,x=(none,l,o)/\l<o/\a+l<n/\P (a+l)=true/\(n-a<=o\/(a+o<n/\P (a+o)=false)))
    (λj x e=>e=st/\∃l o,x=(none,l,o)/\l<o/\a+l<n/\P (a+l)=true/\j<o) (Xf _) %[rfl,0,1,rfl,one_pos,z,C|one_pos] ?_ ?_) ?_)
   .intro j x e _ L %[rfl,l,o,rfl,f,d,m|t];unfold ga1;dsimp only;by_cases g:o>=n-a
    .rw[if_pos g];exact aw %[rfl,l,o,rfl,f,d,m|.inl g]
    .rw[if_neg g];have p:a+o<n:=by lia
     refine au (ask _ _ p ?_);dsimp only;cases q:P (a+o)with
     | true=>
       rw[if_neg ∅];exact aw %[rfl,o,_,rfl,⋯,p,q|⋯]
     | false=>
       rw[if_pos ∅];exact aw %[rfl,l,o,rfl,f,d,m|.inr %[p|q]]
   .intro x e %[rfl,l,o,rfl,f,d,m|t];exact%[rfl,l,o,rfl,f,d,m|.inl ⋯]
   .intro x v %[rfl,l,o,rfl,f,d,m|p];refine Cd ask b ⋯ ⋯ (λi hi=>b i _ ⋯ d m) (λi hi u=>?_) h;rcases p with p|⟨p,q⟩
    .lia
    .cases y:P i with
     | false=>rfl
     | true=>rw[b _ i ⋯ u y]at q;cases q
 | false=>
   rw[if_neg ∅];refine au (bP (bB (Q:=λx e=>e=st/\∃l o,x=(none,l,o)/\l<o/\l<=a/\P (a-l)=false/\(a+1<=o\/(o<=a/\P (a-o)=true)))
    (λj x e=>e=st/\∃l o,x=(none,l,o)/\l<o/\l<=a/\P (a-l)=false/\j<o) (Xf _) %[rfl,0,1,rfl,one_pos,Xf _,C|one_pos] ?_ ?_) ?_)
   .intro j x e _ L %[rfl,l,o,rfl,f,d,m|t];unfold ga2;dsimp only;by_cases g:o>=a+1
    .rw[if_pos g];exact aw %[rfl,l,o,rfl,f,d,m|.inl g]
    .rw[if_neg g];have p:o<=a:=by lia
     refine au (ask _ _ ⋯ ?_);dsimp only;cases q:P (a-o)with
     | false=>
       rw[if_neg ∅];exact aw %[rfl,o,_,rfl,⋯,p,q|⋯]
     | true=>
       rw[if_pos rfl];exact aw %[rfl,l,o,rfl,f,d,m|.inr %[p|q]]
   .intro x e %[rfl,l,o,rfl,f,d,m|t];exact%[rfl,l,o,rfl,f,d,m|.inl ⋯]
   .intro x v %[rfl,l,o,rfl,f,d,m|p];refine Cd ask b ⋯ ⋯ (λi hi=>?_) (λi hi u=>?_) h
    .rcases p with p|⟨p,q⟩
     .lia
     .exact b i _ ⋯ ⋯ q
    .cases y:P i with
     | false=>rfl
     | true=>rw[b _ i ⋯ u y]at m;cases m
end
abbrev oU:ZY->ZY->StateT SortSt Sem ZY:=sortPriv% PySem.Builtin.mergeLo
abbrev oV:ZY->ZY->StateT SortSt Sem ZY:=sortPriv% PySem.Builtin.mergeHi
abbrev cZ:Nat->StateT SortSt Sem Unit:=sortPriv% PySem.Builtin.setMinGallop
def gC(g:Nat):cZ g=modify (λs=>SortSt.mk' (kindOf s) (arrOf s) (pendingOf s) g (failedOf s)):=rfl
abbrev Srt(N:Keyed->Nat)(l:List Keyed):Prop:=l.Pairwise λx y=>N x<=N y
def Srt.drop{N:Keyed->Nat}{l:List Keyed}(h:Srt N l)(k:Nat):Srt N (l.drop k):=List.Pairwise.sublist (List.drop_sublist _ _) h
def Srt.le{N:Keyed->Nat}{l:List Keyed}(h:Srt N l){i j:Nat}{x y:Keyed}(a:i<=j)(b:l[i]? =some x)(c:l[j]? =some y):N x<=N y:=by
 rcases Nat.eq_or_lt_of_le a with e|e
 .simp_all
 .have%[d|g]:=Xn b;have%[f|m]:=Xn c;have:=List.pairwise_iff_getElem.mp h i j d f e
  simp_all
def bT{l:List Keyed}{k:Nat}{y:Keyed}(h:y∈l.drop k):∃j,k<=j/\j<l.length/\l[j]? =some y:=by
 have%[i|hi]:=Xg h;rw[Yb]at hi;exact%[k+i,⋯,(Xn hi).1|hi]
def m7{l:List Keyed}{i k:Nat}{x:Keyed}(h:x∈(l.drop i).take k):∃j,j<k/\l[i+j]? =some x:=by
 have%[j|a]:=Xg h;rw[Yc]at a
 split at a
 .rw[Yb]at a;exact%[j,by assumption|a]
 .lia
def Srt.drop_le{N:Keyed->Nat}{l:List Keyed}(h:Srt N l){i:Nat}{x y:Keyed}(a:l[i]? =some x)(b:y∈l.drop i):N x<=N y:=by
 have%[j,c,_|e]:=bT b;exact h.le c a e
structure MI (N:Keyed->Nat) (A B out:List Keyed) (ia ib:Nat):Prop where
 perm:(out++A.drop ia++B.drop ib).Perm (A++B)
 srt:Srt N out
 ca:∀x∈out,∀y∈A.drop ia,N x<=N y
 cb:∀x∈out,∀y∈B.drop ib,N x<=N y
def MI.zero(N:Keyed->Nat)(A B:List Keyed):MI N A B [] 0 0:=%[by simp,List.Pairwise.nil,λ_ h=>(nomatch h)|λ_ h=>(nomatch h)]
def MI.takeA{N:Keyed->Nat}{A B out:List Keyed}{b d:Nat}(h:MI N A B out b d)(g:Srt N A)(k:Nat)(f:∀x∈(A.drop b).take k,∀y∈B.drop d,N x<=N y):MI N A B (out++(A.drop b).take k) (b+k) d:=by
 have e:A.drop b=(A.drop b).take k++A.drop (b+k):=drop_drop▸(Xc k _).symm;have%[i,_|j]:=pairwise_append.mp (e▸g.drop b);refine%[?_,pairwise_append.mpr %[h.srt,i|λx a y c=>h.ca x a y (Yy c)],λx a y c=>?_|λx a y c=>?_]
 .have p:=h.perm;rw[e]at p;rwa[<-Ze]at p
 .rcases Xo a with a|a
  .exact h.ca x a y (e▸Yv _ c)
  .exact j x a y c
 .rcases Xo a with a|a
  .exact h.cb x a y c
  .exact f x a y c
def MI.takeB{N:Keyed->Nat}{A B out:List Keyed}{d b:Nat}(h:MI N A B out d b)(g:Srt N B)(k:Nat)(f:∀x∈(B.drop b).take k,∀y∈A.drop d,N x<=N y):MI N A B (out++(B.drop b).take k) d (b+k):=by
 have e:B.drop b=(B.drop b).take k++B.drop (b+k):=drop_drop▸(Xc k _).symm;have%[i,_|j]:=pairwise_append.mp (e▸g.drop b);refine%[?_,pairwise_append.mpr %[h.srt,i|λx a y c=>h.cb x a y (Yy c)],λx a y c=>?_|λx a y c=>?_]
 .have p:=h.perm;rw[e]at p;refine List.Perm.trans ?_ p;rw[Ze,Ze,Ze];refine List.Perm.append_left _ ?_;rw[<-Ze,<-Ze];exact Xl _ perm_append_comm
 .rcases Xo a with a|a
  .exact h.ca x a y c
  .exact f x a y c
 .rcases Xo a with a|a
  .exact h.cb x a y (e▸Yv _ c)
  .exact j x a y c
abbrev c6(N:Keyed->Nat)(A B r:List Keyed):Prop:=Srt N r/\r.Perm (A++B)
def MI.done{N:Keyed->Nat}{A B out:List Keyed}{a b:Nat}(h:MI N A B out a b)(e:Srt N A)(f:Srt N B)(g:∀x∈A.drop a,∀y∈B.drop b,N x<=N y):c6 N A B (out++A.drop a++B.drop b):=
 %[pairwise_append.mpr %[pairwise_append.mpr %[h.srt,e.drop a|h.ca],f.drop b|λx c y d=>(Xo c).elim (λq=>h.cb x q y d) λq=>g x q y d]|h.perm]
def MI.last{N:Keyed->Nat}{A B out:List Keyed}{a b:Nat}(h:MI N A B out a b)(e:Srt N A)(f:Srt N B)(g:∀y∈B.drop b,∀x∈A.drop a,N y<=N x):c6 N A B (out++B.drop b++A.drop a):=by
 refine%[pairwise_append.mpr %[pairwise_append.mpr %[h.srt,f.drop b|h.cb],e.drop a|λx c y d=>(Xo c).elim (λq=>h.ca x q y d) λq=>g x q y d]|List.Perm.trans ?_ h.perm];rw[Ze,Ze];exact List.Perm.append_left _ perm_append_comm
def kP{l:List Keyed}{i:Nat}{x:Keyed}(h:l[i]? =some x):(l.drop i).take 1=[x]:=by
 have%[a|e]:=Xn h;rw[List.drop_eq_getElem_cons a,e];rfl
def MI.oneA{N:Keyed->Nat}{A B out:List Keyed}{a b:Nat}{x:Keyed}(h:MI N A B out a b)(e:Srt N A)(d:A[a]? =some x)(c:∀y∈B.drop b,N x<=N y):MI N A B (out++[x]) (a+1) b:=by
 have:=h.takeA e 1 (by rw[kP d];intro z f;rw[Xp f];exact c);rwa[kP d]at this
def MI.oneB{N:Keyed->Nat}{A B out:List Keyed}{a b:Nat}{x:Keyed}(h:MI N A B out a b)(e:Srt N B)(d:B[b]? =some x)(c:∀y∈A.drop a,N x<=N y):MI N A B (out++[x]) a (b+1):=by
 have:=h.takeB e 1 (by rw[kP d];intro z f;rw[Xp f];exact c);rwa[kP d]at this
def oW(a:ZY)(i j:Nat):(a.extract i j).toList=(a.toList.drop i).take (j-i):=by
 simp
def nW(a:ZY)(i:Nat):(a.extract i a.size).toList=a.toList.drop i:=by
 rw[oW,Zn]
 simp_all
abbrev SG(st a:SortSt):Prop:=kindOf a=kindOf st/\arrOf a=arrOf st/\pendingOf a=pendingOf st/\failedOf a=failedOf st
def SG.refl(st:SortSt):SG st st:=%[rfl,rfl,rfl|rfl]
def SG.set{st a:SortSt}(h:SG st a)(g:Nat):SG st (SortSt.mk' (kindOf a) (arrOf a) (pendingOf a) g (failedOf a)):=h
section
variable{prog:Program}{w:World}{A:Around}{SI:Shared->Prop}{α β:Type}
def aX{a:ZY}{i:Nat}(h:i<a.size):a[i]? =some a[i]/\a.toList[i]? =some a[i]:=%[by simp|by simp]
def tY(a:ZY)(i k:Nat):(a.extract i (i+k)).toList=(a.toList.drop i).take k:=by
 simp
def rV{N:Keyed->Nat}{a:ZY}{b:Nat}{c d:Keyed}(g:Srt N a.toList){i j:Nat}(m:i<=j)(f:b+j<a.size)(h:bZ N false c (a.getD (b+j) d)=true):bZ N false c (a.getD (b+i) d)=true:=by
 have e:∀i hi,a.getD (b+i) d=a[b+i]:=λi hi=>by simp[hi]
 rw[e j f]at h;rw[e i ⋯];have l:=g.le (i:=b+i) ⋯ (aX ⋯).2 (aX f).2;unfold bZ at h ⊢
 grind
def rW{N:Keyed->Nat}{a:ZY}{b:Nat}{c d:Keyed}(g:Srt N a.toList){i j:Nat}(m:i<=j)(f:b+j<a.size)(h:bZ N true c (a.getD (b+j) d)=true):bZ N true c (a.getD (b+i) d)=true:=by
 have e:∀i hi,a.getD (b+i) d=a[b+i]:=λi hi=>by simp[hi]
 rw[e j f]at h;rw[e i ⋯];have l:=g.le (i:=b+i) ⋯ (aX ⋯).2 (aX f).2;unfold bZ at h ⊢
 grind
def Ix{N:Keyed->Nat}{a:ZY}{c n k:Nat}{b d:Keyed}(f:∀i,i<k->bZ N false b (a.getD (c+i) d)=true)(g:∀i,k<=i->i<n->bZ N false b (a.getD (c+i) d)=false):
 (∀i x,i<k->a[c+i]? =some x->N x<=N b)/\∀i x,k<=i->i<n->a[c+i]? =some x->N b<N x:=by
 refine%[λi x hi e=>?_|λi x hi h e=>?_]
 .have:=f i hi;rw[Zs,e]at this;unfold bZ at this;simpa using this
 .have:=g i hi h;rw[Zs,e]at this;unfold bZ at this;simpa using this
def Iy{N:Keyed->Nat}{a:ZY}{c n k:Nat}{b d:Keyed}(f:∀i,i<k->bZ N true b (a.getD (c+i) d)=true)(g:∀i,k<=i->i<n->bZ N true b (a.getD (c+i) d)=false):
 (∀i x,i<k->a[c+i]? =some x->N x<N b)/\∀i x,k<=i->i<n->a[c+i]? =some x->N b<=N x:=by
 refine%[λi x hi e=>?_|λi x hi h e=>?_]
 .have:=f i hi;rw[Zs,e]at this;unfold bZ at this;simpa using this
 .have:=g i hi h;rw[Zs,e]at this;unfold bZ at this;simpa using this
structure ML (N:Keyed->Nat) (a b out:ZY) (ia ib:Nat):Prop where
 mi:MI N a.toList b.toList out.toList ia ib
 na:ia+1<a.size
 nb:ib<b.size
abbrev lo3(a b out:ZY)(c d g k k1:Nat):StateT SortSt Sem (ForInStep (Option ZY×ZY×Nat×Nat×Nat×Nat×Nat)):=elem' a c>>= λe=>if(c+1+1==a.size)=true then pure (.done (some (out.push e++b.extract d b.size++a.extract (c+1) a.size),out.push e,c+1,d,g,k,k1))else if(decide (k<7)&&decide (k1<7))=true then pure (.done (none,out.push e,c+1,d,g,k,k1))else pure (.yield (none,out.push e,c+1,d,g,k,k1))
abbrev lo2(a b out:ZY)(d c g k f:Nat):StateT SortSt Sem (ForInStep (Option ZY×ZY×Nat×Nat×Nat×Nat×Nat)):=elem' b c>>= λe=>if(c+1==b.size)=true then pure (.done (some (out.push e++a.extract d a.size++b.extract (c+1) b.size),out.push e,d,c+1,g,k,f))else elem' a d>>= λh=>fQ true h b (c+1) (b.size-(c+1)) 0>>= fun|some k1=>if k1>0 then if(c+1+k1==b.size)=true then pure (.done (some (out.push e++b.extract (c+1) (c+1+k1) ++a.extract d a.size++b.extract (c+1+k1) b.size),out.push e++b.extract (c+1) (c+1+k1),d,c+1+k1,g,k,k1))else lo3 a b (out.push e++b.extract (c+1) (c+1+k1)) d (c+1+k1) g k k1 else lo3 a b (out.push e) d (c+1) g k k1|_=>pure (.done (some (out.push e++a.extract d a.size++b.extract (c+1) b.size),out.push e,d,c+1,g,k,f))
abbrev lo1(a b out:ZY)(c d h f g:Nat):StateT SortSt Sem (ForInStep (Option ZY×ZY×Nat×Nat×Nat×Nat×Nat)):=cZ g>>= λ_=>elem' b d>>= λe=>fQ false e a c (a.size-c) 0>>= fun|some k=>if k>0 then if(c+k+1==a.size)=true then pure (.done (some (out++a.extract c (c+k) ++b.extract d b.size++a.extract (c+k) a.size),out++a.extract c (c+k),c+k,d,g,k,f))else if(c+k==a.size)=true then pure (.done (some (out++a.extract c (c+k) ++a.extract (c+k) a.size++b.extract d b.size),out++a.extract c (c+k),c+k,d,g,k,f))else lo2 a b (out++a.extract c (c+k)) (c+k) d g k f else lo2 a b out c d g k f|_=>pure (.done (some (out++a.extract c a.size++b.extract d b.size),out,c,d,g,h,f))
abbrev loI(a b out:ZY)(c d g f h:Nat):StateT SortSt Sem (ForInStep (Option ZY×ZY×Nat×Nat×Nat×Nat)):=elem' b d>>= λi=>elem' a c>>= λj=>lt' i j>>= fun|some w=>if w=true then(elem' b d>>= λe=>if(d+1==b.size)=true then pure (.done (some (out.push e++a.extract c a.size++b.extract (d+1) b.size),out.push e,c,d+1,0,h+1))else if h+1>=g then pure (.done (none,out.push e,c,d+1,0,h+1))else pure (.yield (none,out.push e,c,d+1,0,h+1)))else(elem' a c>>= λe=>if(c+1+1==a.size)=true then pure (.done (some (out.push e++b.extract d b.size++a.extract (c+1) a.size),out.push e,c+1,d,f+1,0))else if f+1>=g then pure (.done (none,out.push e,c+1,d,f+1,0))else pure (.yield (none,out.push e,c+1,d,f+1,0)))|_=>pure (.done (some (out++a.extract c a.size++b.extract d b.size),out,c,d,f,h))
abbrev loG(a b:ZY):Option ZY×ZY×Nat×Nat×Nat×Nat×Nat->StateT SortSt Sem (ForInStep (Option ZY×ZY×Nat×Nat×Nat×Nat×Nat)):=λx=>
 if x.2.2.2.2.1>1 then lo1 a b x.2.1 x.2.2.1 x.2.2.2.1 x.2.2.2.2.2.1 x.2.2.2.2.2.2 (x.2.2.2.2.1-1)else lo1 a b x.2.1 x.2.2.1 x.2.2.2.1 x.2.2.2.2.2.1 x.2.2.2.2.2.2 x.2.2.2.2.1
abbrev loE(x:Option ZY×ZY×Nat×Nat×Nat×Nat×Nat):StateT SortSt Sem (ForInStep (Option ZY×ZY×Nat×Nat×Nat)):=
 match x.1 with
 | some r=>pure (.done (some r,x.2.1,x.2.2.1,x.2.2.2.1,x.2.2.2.2.1))
 | none=>do
   cZ (x.2.2.2.2.1+1)
   pure (.yield (none,x.2.1,x.2.2.1,x.2.2.2.1,x.2.2.2.2.1+1))
abbrev loF(a b:ZY)(g:Nat)(x:Option ZY×ZY×Nat×Nat×Nat×Nat):StateT SortSt Sem (ForInStep (Option ZY×ZY×Nat×Nat×Nat)):=
 match x.1 with
 | some r=>pure (.done (some r,x.2.1,x.2.2.1,x.2.2.2.1,g))
 | none=>do
   rule "list.sort.gallop"
   let x<-forIn [0:a.size+b.size] (none,x.2.1,x.2.2.1,x.2.2.2.1,g+1,x.2.2.2.2.1,x.2.2.2.2.2) λ_ x=>loG a b x
   loE x
abbrev loO(a b:ZY):Option ZY×ZY×Nat×Nat×Nat->StateT SortSt Sem (ForInStep (Option ZY×ZY×Nat×Nat×Nat)):=λx=>do
 let y<-forIn [0:a.size+b.size] (none,x.2.1,x.2.2.1,x.2.2.2.1,0,0) λ_ y=>loI a b y.2.1 y.2.2.1 y.2.2.2.1 x.2.2.2.2 y.2.2.2.2.1 y.2.2.2.2.2
 loF a b x.2.2.2.2 y
abbrev loR(x:Option ZY×ZY×Nat×Nat×Nat):StateT SortSt Sem ZY:=
 match x.1 with
 | some r=>pure r
 | none=>unsupported "internal:list.sort.merge-bound"
set_option smartUnfolding false in
def Iz(a b:ZY):oU a b=(do
 rule "list.sort.merge-lo"
 let e<-elem' b 0
 if(1==b.size)=true then pure (#[e] ++a.extract 0 a.size++b.extract 1 b.size)
 else if(0+1==a.size)=true then pure (#[e] ++b.extract 1 b.size++a.extract 0 a.size)
 else do
  let s<-get
  let x<-forIn [0:a.size+b.size] (none,#[e],0,1,gallopOf s) λ_ x=>loO a b x
  loR x):=by
 rfl
def SG.trans{s t u:SortSt}(h:SG s t)(k:SG t u):SG s u:=%[k.1.trans h.1,k.2.1.trans h.2.1,k.2.2.1.trans h.2.2.1|k.2.2.2.trans h.2.2.2]
structure LC (prog:Program) (w:World) (A:Around) (SI:Shared->Prop) (D:Keyed->Prop) (N:Keyed->Nat) (a b:ZY) (st:SortSt):Prop where
 c:Cmp prog w A SI (kindOf st) D N
 hA:Srt N a.toList
 hB:Srt N b.toList
 DA:∀{i:Nat} (hi:i<a.size),D a[i]
 DB:∀{i:Nat} (hi:i<b.size),D b[i]
 fd:∀(out:ZY) (ia ib:Nat),MI N a.toList b.toList out.toList ia ib->(a.size<=ia\/b.size<=ib)->c6 N a.toList b.toList (out++a.extract ia a.size++b.extract ib b.size).toList
 fl:∀(out:ZY) (ia ib:Nat),MI N a.toList b.toList out.toList ia ib->ia+1=a.size->c6 N a.toList b.toList (out++b.extract ib b.size++a.extract ia a.size).toList
def LC.of{D:Keyed->Prop}{N:Keyed->Nat}{a b:ZY}{s t:SortSt}(C:LC prog w A SI D N a b s)(h:SG s t):LC prog w A SI D N a b t:={C with c:=h.1▸C.c}
variable{D:Keyed->Prop}{N:Keyed->Nat}{a b out:ZY}{ia ib g k bc z:Nat}{st:SortSt}
def Ce{k1:Nat}{R:ForInStep _->SortSt->Prop}(C:LC prog w A SI D N a b st)(m:MI N a.toList b.toList out.toList ia ib)(na:ia+1<a.size)(nb:ib<b.size)(c:∀y∈b.toList.drop ib,N (a[ia]'⋯)<=N y)(p:z<=out.size+1)
 (j:∀r o,c6 N a.toList b.toList r.toList->R (.done (some r,o)) st) (l:∀out ia ib g k k1,ML N a b out ia ib->z<=out.size->R (.done (none,out,ia,ib,g,k,k1)) st/\R (.yield (none,out,ia,ib,g,k,k1)) st):(SC prog w A SI) (lo3 a b out ia ib g k k1) R st:=by
 have%[n|d]:=aX (a:=a) (i:=ia) ⋯;refine au (bj n ?_);have e:=MI.oneA m C.hA d c;rw[<-toList_push]at e;by_cases f:ia+1+1=a.size
 .rw[if_pos (by simp[f])];exact aw (j _ _ (C.fl _ _ _ e f))
 rw[if_neg (by simp[f])];have h:=l _ _ _ g k k1 (ML.mk e ⋯ nb) (!2)
 split
 .exact aw h.1
 .exact aw h.2
def Cf{R:ForInStep (Option ZY×ZY×Nat×Nat×Nat×Nat×Nat)->SortSt->Prop}(C:LC prog w A SI D N a b st)(m:MI N a.toList b.toList out.toList ia ib)(na:ia+1<a.size)(nb:ib<b.size)(h:∀y∈a.toList.drop ia,N b[ib]<=N y)(T:z<=out.size+2)
 (d:∀r o,c6 N a.toList b.toList r.toList->R (.done (some r,o)) st) (u:∀out ia ib g k k1,ML N a b out ia ib->z<=out.size->R (.done (none,out,ia,ib,g,k,k1)) st/\R (.yield (none,out,ia,ib,g,k,k1)) st):(SC prog w A SI) (lo2 a b out ia ib g k bc) R st:=by
 have%[H|l]:=aX (a:=b) (i:=ib) nb;have%[I|n]:=aX (a:=a) (i:=ia) ⋯;unfold lo2;refine au (bj H ?_);have f:=MI.oneB m C.hB l h;rw[<-toList_push]at f;by_cases v:ib+1=b.size
 .rw[if_pos (by simp[v])];exact aw (d _ _ (C.fd _ _ _ f (.inr ⋯)))
 rw[if_neg (by simp[v])];refine au (bj I ?_);refine au (eT C.c (C.DA ⋯) (λi hi=>%[b[ib+1+i]'⋯,(aX ⋯).1|C.DB ⋯]) (λi=>bZ N true (a[ia]'⋯) (b.getD (ib+1+i) b[ib]))
  (λi x hi p=>by rw[Zs,p];rfl) (λi U q hi J=>rW C.hB q ⋯ J) ⋯ λk2 L M O=>?_)
 dsimp only;have B:=Iy M O;have c:∀y∈b.toList.drop (ib+1+k2),N (a[ia]'⋯)<=N y:=λy s=>by
  have%[j,Y,Q|e]:=bT s;rw[Zb]at Q;exact B.2 (j-(ib+1)) y ⋯ ⋯ (by rw[show ib+1+(j-(ib+1))=j by lia];simpa using e)
 have t:=f.takeB C.hB k2 (λx p y s=>by
  have%[i,hi|e]:=m7 p;exact Yh (Yf (B.1 i x hi ↑e)) (C.hA.drop_le n s))
 by_cases E:k2>0
 .rw[if_pos E];rw[<-tY,<-Xe]at t;by_cases G:ib+1+k2=b.size
  .rw[if_pos (by simp[G])];exact aw (d _ _ (C.fd _ _ _ t (.inr ⋯)))
  rw[if_neg (by simp[G])];exact Ce C t na ⋯ c (by simp;lia) d u
 .rw[if_neg E];obtain rfl:k2=0:=by lia
  exact Ce C f na ⋯ c (by rw[Xj];lia) d u
def GT{E:Nat}{R:ForInStep (Option ZY×ZY×Nat×Nat×Nat×Nat×Nat)->SortSt->Prop}(C:LC prog w A SI D N a b st)(m:ML N a b out ia ib)(G:z<=out.size+2)
 (l:∀c r o,SG st c->c6 N a.toList b.toList r.toList->R (.done (some r,o)) c) (u:∀c out ia ib g k k1,SG st c->ML N a b out ia ib->z<=out.size->R (.done (none,out,ia,ib,g,k,k1)) c/\R (.yield (none,out,ia,ib,g,k,k1)) c):(SC prog w A SI) (lo1 a b out ia ib E bc g) R st:=by
 have d:=m.nb;have n:=m.na;have%[H|p]:=aX (a:=b) (i:=ib) d;unfold lo1;rw[gC];refine au (cF ?_);have sg:=(SG.refl st).set g;refine au (bj H ?_);refine au (eT (C.of sg).c (C.DB d) (λi hi=>%[a[ia+i]'⋯,(aX ⋯).1|C.DA ⋯]) (λi=>bZ N false b[ib] (a.getD (ia+i) b[ib]))
  (λi x hi q=>by rw[Zs,q];rfl) (λi O s hi I=>rV C.hA s ⋯ I) ⋯ λk Q J L=>?_)
 dsimp only;have v:=Ix J L;have mk:=m.mi.takeA C.hA k (λx q y t=>by
  have%[i,hi|e]:=m7 q;exact Yh (v.1 i x hi ↑e) (C.hB.drop_le p t))
 have f:∀y∈a.toList.drop (ia+k),N b[ib]<=N y:=λy t=>by
  have%[j,T,M|e]:=bT t;rw[Zb]at M;exact Yf (v.2 (j-ia) y ⋯ ⋯ (by rw[show ia+(j-ia)=j by lia];simpa using e))
 by_cases h:k>0
 .rw[if_pos h];rw[<-tY,<-Xe]at mk;by_cases q1:ia+k+1=a.size
  .rw[if_pos (by simp[q1])];exact aw (l _ _ _ sg (C.fl _ _ _ mk q1))
  rw[if_neg (by simp[q1])];by_cases B:ia+k=a.size
  .rw[if_pos (by simp[B])];exact aw (l _ _ _ sg (C.fd _ _ _ mk (.inl ⋯)))
  rw[if_neg (by simp[B])];exact Cf (C.of sg) mk ⋯ d f (by simp;lia) (λr o=>l _ r o sg) λout ia ib g k k1=>u _ out ia ib g k k1 sg
 .rw[if_neg h];obtain rfl:k=0:=by lia
  exact Cf (C.of sg) m.mi n d f G (λr o=>l _ r o sg) λout ia ib g k k1=>u _ out ia ib g k k1 sg
def GU{e:Nat}{R:ForInStep (Option ZY×ZY×Nat×Nat×Nat×Nat)->SortSt->Prop}(C:LC prog w A SI D N a b st)(m:ML N a b out ia ib)(p:z<=out.size+1)
 (s:∀r o,c6 N a.toList b.toList r.toList->R (.done (some r,o)) st) (t:∀out ia ib e bc,ML N a b out ia ib->z<=out.size->R (.done (none,out,ia,ib,e,bc)) st/\R (.yield (none,out,ia,ib,e,bc)) st):(SC prog w A SI) (loI a b out ia ib g e bc) R st:=by
 have l:=m.na;have d:=m.nb;have f:ia<a.size:=by lia
 have%[u|i]:=aX f;have%[v|j]:=aX d;refine au (bj v (au (bj u (au (vp C.c (C.DB d) (C.DA f) ?_)))));dsimp only;by_cases c:N b[ib]<N a[ia]
 .rw[Zf c,if_pos rfl];refine au (bj v ?_);have m2:=m.mi.oneB C.hB j λy n=>Yh (Yf c) (C.hA.drop_le i n)
  rw[<-toList_push]at m2;by_cases q:ib+1=b.size
  .rw[if_pos (by simp[q])];exact aw (s _ _ (C.fd _ _ _ m2 (.inr ⋯)))
  rw[if_neg (by simp[q])];have h:=t _ _ _ 0 (bc+1) %[m2,l|⋯] (by rw[Xj];exact p)
  split
  .exact aw h.1
  .exact aw h.2
 .rw[Zh c,if_neg ∅];refine au (bj u ?_);have m2:=m.mi.oneA C.hA i λy n=>Yh (Nat.le_of_not_lt c) (C.hB.drop_le j n)
  rw[<-toList_push]at m2;by_cases q:ia+1+1=a.size
  .rw[if_pos (by simp[q])];exact aw (s _ _ (C.fl _ _ _ m2 q))
  rw[if_neg (by simp[q])];have h:=t _ _ _ (e+1) 0 %[m2,⋯|d] (by rw[Xj];exact p)
  split
  .exact aw h.1
  .exact aw h.2
def GV{j:Nat}{q:Option ZY}{R:ForInStep (Option ZY×ZY×Nat×Nat×Nat)->SortSt->Prop}(C:LC prog w A SI D N a b st)(m:ML N a b out ia ib)(e:j+1<=out.size)
 (p:∀d r o,SG st d->c6 N a.toList b.toList r.toList->R (.done (some r,o)) d) (s:∀d out ia ib g,SG st d->ML N a b out ia ib->j+2<=out.size->R (.yield (none,out,ia,ib,g)) d):(SC prog w A SI) (loO a b (q,out,ia,ib,g)) R st:=by
 have t:=m.na;refine au (bP (bB (Q:=λx d=>SG st d/\((∃r o,x=(some r,o)/\c6 N a.toList b.toList r.toList)\/∃out ia ib f bc,x=(none,out,ia,ib,f,bc)/\ML N a b out ia ib/\j+2<=out.size))
  (λj2 x d=>SG st d/\∃out ia ib f bc,x=(none,out,ia,ib,f,bc)/\ML N a b out ia ib/\j+1+j2<=out.size) (Xf _) %[SG.refl _,_,_,_,_,_,rfl,m|e] ?_ ?_) ?_)
 .intro j2 x i _ l %[c,out,ia,ib,f,bc,rfl,m|e];exact GU (C.of c) m ⋯ (λr o h=>%[c|.inl %[r,o,rfl|h]]) λout ia ib f bc h z=>%[%[c|.inr %[_,_,_,_,_,rfl,h|⋯]],c,_,_,_,_,_,rfl,h|z]
 .intro x i %[c,out,ia,ib,f,bc,rfl,m|e];exact%[c|.inr %[_,_,_,_,_,rfl,m|⋯]]
 .rintro x i ⟨c,⟨r,o,rfl,n⟩|⟨out,ia,ib,f,bc,rfl,m,e⟩⟩
  .exact aw (p _ r _ c n)
  .refine au (ju ?_);refine au (bP (bB (Q:=λx d=>SG st d/\((∃r o,x=(some r,o)/\c6 N a.toList b.toList r.toList)\/∃out ia ib g f bc,x=(none,out,ia,ib,g,f,bc)/\ML N a b out ia ib/\j+2<=out.size))
    (λj2 x d=>SG st d/\∃out ia ib g f bc,x=(none,out,ia,ib,g,f,bc)/\ML N a b out ia ib/\j+2<=out.size) (Xf _) %[c,_,_,_,_,_,_,rfl,m|e] ?_ ?_) ?_)
   .intro j2 x i _ l %[c,out,ia,ib,g,f,bc,rfl,m|e];unfold loG;rw[<-apply_ite _];exact GT (C.of c) m ⋯ (λd r o sg h=>%[SG.trans c sg|.inl %[r,o,rfl|h]]) λd out ia ib g k k1 sg h z=>%[%[SG.trans c sg|.inr %[_,_,_,_,_,_,rfl,h|z]],SG.trans c sg,_,_,_,_,_,_,rfl,h|z]
   .simp_all
   .rintro x i ⟨c,⟨r,o,rfl,n⟩|⟨out,ia,ib,g,f,bc,rfl,m,e⟩⟩
    .exact aw (p _ r _ c n)
    .exact au (cF (aw (s _ _ _ _ _ (c.set _) m e)))
def xo{D:Keyed->Prop}{N:Keyed->Nat}{a b:ZY}{Q:ZY->SortSt->Prop}{st:SortSt}(c:Cmp prog w A SI (kindOf st) D N)(t:Srt N a.toList)(u:Srt N b.toList)(I:∀x∈a.toList,D x)(J:∀x∈b.toList,D x)
 (ha:1<=a.size) (hb:1<=b.size) (L:∀x y,b.toList[0]? =some x->a.toList[0]? =some y->N x<=N y) (M:∀y∈b.toList,∀x∈a.toList.drop (a.size-1),N y<=N x)
 (h:∀r d,SG st d->c6 N a.toList b.toList r.toList->Q r d):(SC prog w A SI) (oU a b) Q st:=by
 have O:∀{i:Nat} (hi:i<a.size),D a[i]:=λhi=>I _ ∅
 have T:∀{i:Nat} (hi:i<b.size),D b[i]:=λhi=>J _ ∅
 have G:∀(out:ZY) (ia ib:Nat),MI N a.toList b.toList out.toList ia ib->(a.size<=ia\/b.size<=ib)->c6 N a.toList b.toList (out++a.extract ia a.size++b.extract ib b.size).toList:=λout ia ib m q=>by
  rw[Xe,Xe,nW,nW];refine m.done t u λx v y l=>?_
  rcases q with q|q
  .have%[j,U,B|_]:=bT v;rw[Zb]at B
   lia
  .have%[j,U,B|_]:=bT l;rw[Zb]at B
   lia
 have H:∀(out:ZY) (ia ib:Nat),MI N a.toList b.toList out.toList ia ib->ia+1=a.size->c6 N a.toList b.toList (out++b.extract ib b.size++a.extract ia a.size).toList:=λout ia ib m q=>by
  rw[Xe,Xe,nW,nW];exact m.last t u λy l x v=>M y (Yx l) x ((show a.size-1=ia by lia)▸v)
 rw[Iz];refine au (ju ?_);have%[Y|n]:=aX (a:=b) (i:=0) ⋯;refine au (bj Y ?_);have C:MI N a.toList b.toList #[b[0]].toList 0 1:=(MI.zero N a.toList b.toList).oneB u n λy l=>by
  have%[ea|p]:=aX (a:=a) (i:=0) ⋯;exact Yh (L _ _ n p) (t.drop_le p l)
 by_cases q1:1=b.size
 .rw[if_pos (by simp[<-q1])];exact aw (h _ st (SG.refl _) (G _ _ _ C (.inr ⋯)))
 rw[if_neg (by simp;lia)];by_cases E:0+1=a.size
 .rw[if_pos (by simp[<-E])];exact aw (h _ st (SG.refl _) (H _ _ _ C E))
 rw[if_neg (by simp at E ⊢;lia)];refine au (f6 ?_);refine au (bP (bB (Q:=λx d=>SG st d/\∃r,x.1=some r/\c6 N a.toList b.toList r.toList)
  (λj x d=>SG st d/\∃out ia ib g,x=(none,out,ia,ib,g)/\ML N a b out ia ib/\j+1<=out.size) (Xf _) %[SG.refl _,_,_,_,_,rfl,%[C,⋯|⋯]|Zi _] ?_ ?_) ?_)
 .intro j x e _ hj %[sg,out,ia,ib,g,rfl,m|s];exact GV (LC.of %[c,t,u,O,T,G|H] sg) m s (λd r o f h=>%[SG.trans sg f,r,rfl|h]) λd out ia ib g f h z=>%[SG.trans sg f,_,_,_,_,rfl,h|z]
 .intro x e %[sg,out,ia,ib,g,rfl,m|s];have:=m.na;have:=m.nb;have q:=m.mi.perm.length_eq;simp only[Z9,Zb]at q
  lia
 .intro x e %[sg,r,hr|gd];have%[x1|x2]:=x;subst hr;exact aw (h r e sg gd)
end
def Srt.take{N:Keyed->Nat}{l:List Keyed}(h:Srt N l)(k:Nat):Srt N (l.take k):=List.Pairwise.sublist (List.take_sublist _ _) h
def bC{l:List Keyed}{k:Nat}{x:Keyed}(h:x∈l.take k):∃j,j<k/\j<l.length/\l[j]? =some x:=by
 have%[j|a]:=Xg h;rw[Yc]at a
 split at a
 .exact%[j,by assumption,(Xn a).1|a]
 .lia
def yr{l:List Keyed}{i k:Nat}{x:Keyed}(h:x∈(l.take k).drop i):∃j,i<=j/\j<k/\j<l.length/\l[j]? =some x:=by
 have%[j,a,b|e]:=bT h;rw[Yc]at e
 split at e
 .exact%[j,a,by assumption,(Xn e).1|e]
 .lia
structure MH (N:Keyed->Nat) (A B O:List Keyed) (na nb:Nat):Prop where
 perm:(A.take na++B.take nb++O).Perm (A++B)
 srt:Srt N O
 ca:∀x∈A.take na,∀y∈O,N x<=N y
 cb:∀x∈B.take nb,∀y∈O,N x<=N y
def MH.zero(N:Keyed->Nat)(A B:List Keyed):MH N A B [] A.length B.length:=%[by simp,List.Pairwise.nil,λ_ _ _ h=>(nomatch h)|λ_ _ _ h=>(nomatch h)]
def MH.takeA{N:Keyed->Nat}{A B O:List Keyed}{na nb:Nat}(h:MH N A B O na nb)(d:Srt N A)(k:Nat)(f:k<=na)(c:∀y∈(A.take na).drop k,∀x∈B.take nb,N x<=N y):MH N A B ((A.take na).drop k++O) k nb:=by
 have e:=by
  have:=(Xc k (A.take na)).symm;rw[List.take_take,X1 f]at this;exact this
 have%[_,g|i]:=pairwise_append.mp (e▸d.take na);refine%[?_,pairwise_append.mpr %[g,h.srt|λx b y a=>h.ca x (Yx b) y a],λx b y a=>?_|λx b y a=>?_]
 .refine List.Perm.trans ?_ h.perm;rw[<-Ze];refine Xl _ ?_;rw (occs:= .pos [2]) [e];rw[Ze,Ze];exact List.Perm.append_left _ perm_append_comm
 .rcases Xo a with a|a
  .exact i x b y a
  .exact h.ca x (e▸Yu _ b) y a
 .rcases Xo a with a|a
  .exact c y a x b
  .exact h.cb x b y a
def MH.takeB{N:Keyed->Nat}{A B O:List Keyed}{na nb:Nat}(h:MH N A B O na nb)(d:Srt N B)(k:Nat)(f:k<=nb)(c:∀y∈(B.take nb).drop k,∀x∈A.take na,N x<=N y):MH N A B ((B.take nb).drop k++O) na k:=by
 have e:=by
  have:=(Xc k (B.take nb)).symm;rw[List.take_take,X1 f]at this;exact this
 have%[_,g|i]:=pairwise_append.mp (e▸d.take nb);refine%[?_,pairwise_append.mpr %[g,h.srt|λx b y a=>h.cb x (Yx b) y a],λx b y a=>?_|λx b y a=>?_]
 .refine List.Perm.trans ?_ h.perm;rw[<-Ze];refine Xl _ ?_;rw (occs:= .pos [2]) [e];rw[Ze]
 .rcases Xo a with a|a
  .exact c y a x b
  .exact h.ca x b y a
 .rcases Xo a with a|a
  .exact i x b y a
  .exact h.cb x (e▸Yu _ b) y a
def kQ{l:List Keyed}{k:Nat}{x:Keyed}(h:l[k]? =some x):(l.take (k+1)).drop k=[x]:=by
 have%[a|e]:=Xn h;rw[List.take_succ_eq_append_getElem a,e,List.drop_append_of_le_length (by rw[Ym];lia),List.drop_of_length_le (by rw[Ym];lia)];rfl
def MH.oneA{N:Keyed->Nat}{A B O:List Keyed}{na nb:Nat}{x:Keyed}(h:MH N A B O (na+1) nb)(c:Srt N A)(b:A[na]? =some x)(a:∀y∈B.take nb,N y<=N x):MH N A B (x::O) na nb:=by
 have:=h.takeA c na (by omega) (by rw[kQ b];intro z d;rw[Xp d];exact a);rwa[kQ b]at this
def MH.oneB{N:Keyed->Nat}{A B O:List Keyed}{na nb:Nat}{x:Keyed}(h:MH N A B O na (nb+1))(c:Srt N B)(b:B[nb]? =some x)(a:∀y∈A.take na,N y<=N x):MH N A B (x::O) na nb:=by
 have:=h.takeB c nb (by omega) (by rw[kQ b];intro z d;rw[Xp d];exact a);rwa[kQ b]at this
def MH.done{N:Keyed->Nat}{A B O:List Keyed}{na nb:Nat}(h:MH N A B O na nb)(c:Srt N A)(d:Srt N B)(e:∀x∈A.take na,∀y∈B.take nb,N x<=N y):c6 N A B (A.take na++B.take nb++O):=
 %[pairwise_append.mpr %[pairwise_append.mpr %[c.take na,d.take nb|e],h.srt|λx a y b=>(Xo a).elim (λq=>h.ca x q y b) λq=>h.cb x q y b]|h.perm]
def MH.first{N:Keyed->Nat}{A B O:List Keyed}{na nb:Nat}(h:MH N A B O na nb)(c:Srt N A)(d:Srt N B)(e:∀y∈B.take nb,∀x∈A.take na,N y<=N x):c6 N A B (B.take nb++A.take na++O):=
 %[pairwise_append.mpr %[pairwise_append.mpr %[d.take nb,c.take na|e],h.srt|λx a y b=>(Xo a).elim (λq=>h.cb x q y b) λq=>h.ca x q y b]|List.Perm.trans (Xl _ perm_append_comm) h.perm]
def EI(a:ZY)(k:Nat):(a.extract 0 k).toList=a.toList.take k:=by simp
def yv(a:ZY)(i k:Nat):(a.extract i k).toList=(a.toList.take k).drop i:=by
 rw[oW,List.drop_take]
def Srt.take_le{N:Keyed->Nat}{l:List Keyed}(h:Srt N l){i:Nat}{x y:Keyed}(a:l[i]? =some x)(b:y∈l.take (i+1)):N y<=N x:=by
 have%[j,c,_|e]:=bC b;exact h.le (by omega) e a
def kR(out:ZY)(x:Keyed):(out.push x).reverse.toList=x::out.reverse.toList:=by simp
def yw(out p:ZY):(out++p.reverse).reverse.toList=p.toList++out.reverse.toList:=by simp
section
variable{prog:Program}{w:World}{A:Around}{SI:Shared->Prop}{α β:Type}
structure MHS (N:Keyed->Nat) (a b out:ZY) (na nb:Nat):Prop where
 mh:MH N a.toList b.toList out.reverse.toList na nb
 pa:1<=na
 pb:2<=nb
 ma:na<=a.size
 mb:nb<=b.size
abbrev hi3(a b:ZY)(na nb:Nat)(out:ZY)(g k k1:Nat):StateT SortSt Sem (ForInStep (Option ZY×Nat×Nat×ZY×Nat×Nat×Nat)):=elem' a (na-1)>>= λe=>if(na-1==0)=true then pure (.done (some (a.extract 0 (na-1) ++b.extract 0 nb++(out.push e).reverse),na-1,nb,out.push e,g,k,k1))else if(decide (k<7)&&decide (k1<7))=true then pure (.done (none,na-1,nb,out.push e,g,k,k1))else pure (.yield (none,na-1,nb,out.push e,g,k,k1))
abbrev hi2(a b:ZY)(na nb:Nat)(out:ZY)(g k c:Nat):StateT SortSt Sem (ForInStep (Option ZY×Nat×Nat×ZY×Nat×Nat×Nat)):=elem' b (nb-1)>>= λe=>if(nb-1==1)=true then pure (.done (some (b.extract 0 (nb-1) ++a.extract 0 na++(out.push e).reverse),na,nb-1,out.push e,g,k,c))else elem' a (na-1)>>= λd=>fQ true d b 0 (nb-1) (nb-1-1)>>= fun|some k1=>if nb-1-k1>0 then if(k1==1)=true then pure (.done (some (b.extract 0 k1++a.extract 0 na++(out.push e++(b.extract k1 (nb-1)).reverse).reverse),na,k1,out.push e++(b.extract k1 (nb-1)).reverse,g,k,nb-1-k1))else if(k1==0)=true then pure (.done (some (a.extract 0 na++b.extract 0 k1++(out.push e++(b.extract k1 (nb-1)).reverse).reverse),na,k1,out.push e++(b.extract k1 (nb-1)).reverse,g,k,nb-1-k1))else hi3 a b na k1 (out.push e++(b.extract k1 (nb-1)).reverse) g k (nb-1-k1)else hi3 a b na (nb-1) (out.push e) g k (nb-1-k1)|_=>pure (.done (some (a.extract 0 na++b.extract 0 (nb-1) ++(out.push e).reverse),na,nb-1,out.push e,g,k,c))
abbrev hi1(a b:ZY)(na nb:Nat)(out:ZY)(d c g:Nat):StateT SortSt Sem (ForInStep (Option ZY×Nat×Nat×ZY×Nat×Nat×Nat)):=cZ g>>= λ_=>elem' b (nb-1)>>= λe=>fQ false e a 0 na (na-1)>>= fun|some k=>if na-k>0 then if(k==0)=true then pure (.done (some (a.extract 0 k++b.extract 0 nb++(out++(a.extract k na).reverse).reverse),k,nb,out++(a.extract k na).reverse,g,na-k,c))else hi2 a b k nb (out++(a.extract k na).reverse) g (na-k) c else hi2 a b na nb out g (na-k) c|_=>pure (.done (some (a.extract 0 na++b.extract 0 nb++out.reverse),na,nb,out,g,d,c))
abbrev hiI(a b:ZY)(na nb:Nat)(out:ZY)(g c d:Nat):StateT SortSt Sem (ForInStep (Option ZY×Nat×Nat×ZY×Nat×Nat)):=elem' b (nb-1)>>= λf=>elem' a (na-1)>>= λh=>lt' f h>>= fun|some w=>if w=true then(elem' a (na-1)>>= λe=>if(na-1==0)=true then pure (.done (some (a.extract 0 (na-1) ++b.extract 0 nb++(out.push e).reverse),na-1,nb,out.push e,c+1,0))else if c+1>=g then pure (.done (none,na-1,nb,out.push e,c+1,0))else pure (.yield (none,na-1,nb,out.push e,c+1,0)))else(elem' b (nb-1)>>= λe=>if(nb-1==1)=true then pure (.done (some (b.extract 0 (nb-1) ++a.extract 0 na++(out.push e).reverse),na,nb-1,out.push e,0,d+1))else if d+1>=g then pure (.done (none,na,nb-1,out.push e,0,d+1))else pure (.yield (none,na,nb-1,out.push e,0,d+1)))|_=>pure (.done (some (a.extract 0 na++b.extract 0 nb++out.reverse),na,nb,out,c,d))
abbrev hiG(a b:ZY)(x:Option ZY×Nat×Nat×ZY×Nat×Nat×Nat):StateT SortSt Sem (ForInStep (Option ZY×Nat×Nat×ZY×Nat×Nat×Nat)):=
 if x.2.2.2.2.1>1 then hi1 a b x.2.1 x.2.2.1 x.2.2.2.1 x.2.2.2.2.2.1 x.2.2.2.2.2.2 (x.2.2.2.2.1-1)else hi1 a b x.2.1 x.2.2.1 x.2.2.2.1 x.2.2.2.2.2.1 x.2.2.2.2.2.2 x.2.2.2.2.1
abbrev hiE(x:Option ZY×Nat×Nat×ZY×Nat×Nat×Nat):StateT SortSt Sem (ForInStep (Option ZY×Nat×Nat×ZY×Nat)):=
 match x.1 with
 | some r=>pure (.done (some r,x.2.1,x.2.2.1,x.2.2.2.1,x.2.2.2.2.1))
 | none=>do
   cZ (x.2.2.2.2.1+1)
   pure (.yield (none,x.2.1,x.2.2.1,x.2.2.2.1,x.2.2.2.2.1+1))
abbrev hiF(a b:ZY)(g:Nat)(x:Option ZY×Nat×Nat×ZY×Nat×Nat):StateT SortSt Sem (ForInStep (Option ZY×Nat×Nat×ZY×Nat)):=
 match x.1 with
 | some r=>pure (.done (some r,x.2.1,x.2.2.1,x.2.2.2.1,g))
 | none=>do
   rule "list.sort.gallop"
   let x<-forIn [0:a.size+b.size] (none,x.2.1,x.2.2.1,x.2.2.2.1,g+1,x.2.2.2.2.1,x.2.2.2.2.2) λ_ x=>hiG a b x
   hiE x
abbrev hiO(a b:ZY)(x:Option ZY×Nat×Nat×ZY×Nat):StateT SortSt Sem (ForInStep (Option ZY×Nat×Nat×ZY×Nat)):=do
 let y<-forIn [0:a.size+b.size] (none,x.2.1,x.2.2.1,x.2.2.2.1,0,0) λ_ y=>hiI a b y.2.1 y.2.2.1 y.2.2.2.1 x.2.2.2.2 y.2.2.2.2.1 y.2.2.2.2.2
 hiF a b x.2.2.2.2 y
abbrev hiR(x:Option ZY×Nat×Nat×ZY×Nat):StateT SortSt Sem ZY:=
 match x.1 with
 | some r=>pure r
 | none=>unsupported "internal:list.sort.merge-bound"
set_option smartUnfolding false in
def IA(a b:ZY):oV a b=(do
 rule "list.sort.merge-hi"
 let e<-elem' a (a.size-1)
 if(a.size-1==0)=true then pure (a.extract 0 (a.size-1) ++b.extract 0 b.size++ #[e].reverse)
 else if(b.size==1)=true then pure (b.extract 0 b.size++a.extract 0 (a.size-1) ++ #[e].reverse)
 else do
  let s<-get
  let x<-forIn [0:a.size+b.size] (none,a.size-1,b.size,#[e],gallopOf s) λ_ x=>hiO a b x
  hiR x):=by
 rfl
structure HC (prog:Program) (w:World) (A:Around) (SI:Shared->Prop) (D:Keyed->Prop) (N:Keyed->Nat) (a b:ZY) (st:SortSt):Prop where
 c:Cmp prog w A SI (kindOf st) D N
 hA:Srt N a.toList
 hB:Srt N b.toList
 DA:∀{i:Nat} (hi:i<a.size),D a[i]
 DB:∀{i:Nat} (hi:i<b.size),D b[i]
 fd:∀(out:ZY) (na nb:Nat),MH N a.toList b.toList out.reverse.toList na nb->(na=0\/nb=0)->c6 N a.toList b.toList (a.extract 0 na++b.extract 0 nb++out.reverse).toList
 ff:∀(out:ZY) (na nb:Nat),MH N a.toList b.toList out.reverse.toList na nb->nb=1->c6 N a.toList b.toList (b.extract 0 nb++a.extract 0 na++out.reverse).toList
def HC.of{D:Keyed->Prop}{N:Keyed->Nat}{a b:ZY}{s t:SortSt}(C:HC prog w A SI D N a b s)(h:SG s t):HC prog w A SI D N a b t:={C with c:=h.1▸C.c}
variable{D:Keyed->Prop}{N:Keyed->Nat}{a b out:ZY}{na nb g k bc z:Nat}{st:SortSt}
def Cg{k1:Nat}{R:ForInStep _->SortSt->Prop}(C:HC prog w A SI D N a b st)(m:MH N a.toList b.toList out.reverse.toList (na+1) nb)(t:na+1<=a.size)(j:2<=nb)(l:nb<=b.size)(c:∀y∈b.toList.take nb,N y<=N (a[na]'⋯))(n:z<=out.size+1)
 (p:∀r o,c6 N a.toList b.toList r.toList->R (.done (some r,o)) st) (q:∀na nb out g k k1,MHS N a b out na nb->z<=out.size->R (.done (none,na,nb,out,g,k,k1)) st/\R (.yield (none,na,nb,out,g,k,k1)) st):(SC prog w A SI) (hi3 a b (na+1) nb out g k k1) R st:=by
 have%[s|d]:=aX (a:=a) (i:=na) ⋯;refine au (bj s ?_);have e:=MH.oneA m C.hA d c;rw[<-kR]at e;by_cases f:na=0
 .rw[if_pos (by simp[f])];exact aw (p _ _ (C.fd _ _ _ e (.inl f)))
 rw[if_neg (by simp[f])];have h:=q _ _ _ g k k1 (MHS.mk e ⋯ j ⋯ l) (by rw[Xj];exact n)
 split
 .exact aw h.1
 .exact aw h.2
def Ch{R:ForInStep (Option ZY×Nat×Nat×ZY×Nat×Nat×Nat)->SortSt->Prop}(C:HC prog w A SI D N a b st)(m:MH N a.toList b.toList out.reverse.toList (na+1) (nb+1))(H:na+1<=a.size)(pb:1<=nb)(mb:nb+1<=b.size)(l:∀y∈a.toList.take (na+1),N y<=N b[nb])(hz:z<=out.size+2)
 (d:∀r o,c6 N a.toList b.toList r.toList->R (.done (some r,o)) st) (I:∀na nb out g k k1,MHS N a b out na nb->z<=out.size->R (.done (none,na,nb,out,g,k,k1)) st/\R (.yield (none,na,nb,out,g,k,k1)) st):(SC prog w A SI) (hi2 a b (na+1) (nb+1) out g k bc) R st:=by
 have%[O|n]:=aX (a:=b) (i:=nb) ⋯;have%[Q|p]:=aX (a:=a) (i:=na) ⋯;unfold hi2;rw[add_sub_cancel,add_sub_cancel];refine au (bj O ?_);have f:=MH.oneB m C.hB n l;rw[<-kR]at f;by_cases q:nb=1
 .rw[if_pos (by simp[q])];exact aw (d _ _ (C.ff _ _ _ f q))
 rw[if_neg (by simp[q])];refine au (bj Q ?_);refine au (eT C.c (C.DA ⋯) (λi hi=>%[b[0+i]'⋯,(aX ⋯).1|C.DB ⋯]) (λi=>bZ N true (a[na]'⋯) (b.getD (0+i) b[nb]))
  (λi x hi s=>by rw[Zs,s];rfl) (λi i' t hi T=>rW C.hB t ⋯ T) ⋯ λk2 u U Y=>?_)
 dsimp only;have J:=Iy U Y;have c:∀y∈b.toList.take k2,N y<=N (a[na]'⋯):=λy v=>by
  have%[j,B,L|e]:=bC v;exact Yf (J.1 j y B ↑e)
 have h:=f.takeB C.hB k2 u (λy v x s=>by
  have%[i,B,L,h3|e]:=yr v;exact Yh (C.hA.take_le p s) (J.2 i y B L ↑e))
 by_cases M:nb-k2>0
 .rw[if_pos M];rw[<-yv,<-yw]at h;by_cases E:k2=1
  .rw[if_pos (by simp[E])];exact aw (d _ _ (C.ff _ _ _ h E))
  rw[if_neg (by simp[E])];by_cases G:k2=0
  .rw[if_pos (by simp[G])];exact aw (d _ _ (C.fd _ _ _ h (.inr G)))
  rw[if_neg (by simp[G])];exact Cg C h H ⋯ ⋯ c (by simp;lia) d I
 .rw[if_neg M];obtain rfl:k2=nb:=by lia
  exact Cg C f H ⋯ ⋯ c (by rw[Xj];lia) d I
def GW{H:Nat}{R:ForInStep (Option ZY×Nat×Nat×ZY×Nat×Nat×Nat)->SortSt->Prop}(C:HC prog w A SI D N a b st)(m:MHS N a b out na nb)(I:z<=out.size+2)
 (h:∀c r o,SG st c->c6 N a.toList b.toList r.toList->R (.done (some r,o)) c) (v:∀c na nb out g k k1,SG st c->MHS N a b out na nb->z<=out.size->R (.done (none,na,nb,out,g,k,k1)) c/\R (.yield (none,na,nb,out,g,k,k1)) c):(SC prog w A SI) (hi1 a b na nb out H bc g) R st:=by
 have%[B,U,Y,J|E]:=m;obtain⟨nb,rfl⟩:∃n,nb=n+1:=%[nb-1|⋯]
 have%[L|l]:=aX (a:=b) (i:=nb) ⋯;unfold hi1;rw[add_sub_cancel,gC];refine au (cF ?_);have sg:=(SG.refl st).set g;refine au (bj L ?_);refine au (eT (C.of sg).c (C.DB ⋯) (λi hi=>%[a[0+i]'⋯,(aX ⋯).1|C.DA ⋯]) (λi=>bZ N false b[nb] (a.getD (0+i) b[nb]))
  (λi x hi p=>by rw[Zs,p];rfl) (λi i' q hi M=>rV C.hA q ⋯ M) ⋯ λk O Q T=>?_)
 dsimp only;have s:=Ix Q T;simp only[zero_add]at s;have mk:=B.takeA C.hA k O (λy t x p=>by
  have%[i,u,G,h3|e]:=yr t;exact Yh (C.hB.take_le l p) (Yf (s.2 i y u G ↑e)))
 have d:∀y∈a.toList.take k,N y<=N b[nb]:=λy t=>by
  have%[j,u,G|e]:=bC t;exact s.1 j y u ↑e
 by_cases f:na-k>0
 .rw[if_pos f];rw[<-yv,<-yw]at mk;by_cases q1:k=0
  .rw[if_pos (by simp[q1])];exact aw (h _ _ _ sg (C.fd _ _ _ mk (.inl q1)))
  rw[if_neg (by simp[q1])];obtain⟨k,rfl⟩:∃n,k=n+1:=%[k-1|⋯]
  exact Ch (C.of sg) mk ⋯ ⋯ E d (by simp;lia) (λr o=>h _ r o sg) λna nb out g k k1=>v _ na nb out g k k1 sg
 .rw[if_neg f];obtain rfl:k=na:=by lia
  obtain⟨k,rfl⟩:∃n,k=n+1:=%[k-1|⋯]
  exact Ch (C.of sg) B J ⋯ E d I (λr o=>h _ r o sg) λna nb out g k k1=>v _ na nb out g k k1 sg
def GX{d:Nat}{R:ForInStep (Option ZY×Nat×Nat×ZY×Nat×Nat)->SortSt->Prop}(C:HC prog w A SI D N a b st)(m:MHS N a b out na nb)(l:z<=out.size+1)
 (p:∀r o,c6 N a.toList b.toList r.toList->R (.done (some r,o)) st) (s:∀na nb out d bc,MHS N a b out na nb->z<=out.size->R (.done (none,na,nb,out,d,bc)) st/\R (.yield (none,na,nb,out,d,bc)) st):(SC prog w A SI) (hiI a b na nb out g d bc) R st:=by
 have%[t,B,E,G|H]:=m;obtain⟨na,rfl⟩:∃n,na=n+1:=%[na-1|⋯]
 obtain⟨nb,rfl⟩:∃n,nb=n+1:=%[nb-1|⋯]
 have%[u|e]:=aX (a:=a) (i:=na) ⋯;have%[v|f]:=aX (a:=b) (i:=nb) ⋯;unfold hiI;rw[add_sub_cancel,add_sub_cancel];refine au (bj v (au (bj u (au (vp C.c (C.DB ⋯) (C.DA ⋯) ?_)))));dsimp only;by_cases c:N b[nb]<N a[na]
 .rw[Zf c,if_pos rfl];refine au (bj u ?_);have m2:=t.oneA C.hA e λy j=>Yh (C.hB.take_le f j) (Yf c)
  rw[<-kR]at m2;by_cases q:na=0
  .rw[if_pos (by simp[q])];exact aw (p _ _ (C.fd _ _ _ m2 (.inl q)))
  rw[if_neg (by simp[q])];have h:=s _ _ _ (d+1) 0 %[m2,⋯,E,⋯|H] (by rw[Xj];exact l)
  split
  .exact aw h.1
  .exact aw h.2
 .rw[Zh c,if_neg ∅];refine au (bj v ?_);have m2:=t.oneB C.hB f λy j=>Yh (C.hA.take_le e j) (Nat.le_of_not_lt c)
  rw[<-kR]at m2;by_cases q:nb=1
  .rw[if_pos (by simp[q])];exact aw (p _ _ (C.ff _ _ _ m2 q))
  rw[if_neg (by simp[q])];have h:=s _ _ _ 0 (bc+1) %[m2,B,⋯,G|⋯] (by rw[Xj];exact l)
  split
  .exact aw h.1
  .exact aw h.2
def GY{j:Nat}{q:Option ZY}{R:ForInStep (Option ZY×Nat×Nat×ZY×Nat)->SortSt->Prop}(C:HC prog w A SI D N a b st)(m:MHS N a b out na nb)(e:j+1<=out.size)
 (p:∀d r o,SG st d->c6 N a.toList b.toList r.toList->R (.done (some r,o)) d) (s:∀d na nb out g,SG st d->MHS N a b out na nb->j+2<=out.size->R (.yield (none,na,nb,out,g)) d):(SC prog w A SI) (hiO a b (q,na,nb,out,g)) R st:=by
 have t:=m.pa;have u:=m.ma;refine au (bP (bB (Q:=λx d=>SG st d/\((∃r o,x=(some r,o)/\c6 N a.toList b.toList r.toList)\/∃na nb out f bc,x=(none,na,nb,out,f,bc)/\MHS N a b out na nb/\j+2<=out.size))
  (λj2 x d=>SG st d/\∃na nb out f bc,x=(none,na,nb,out,f,bc)/\MHS N a b out na nb/\j+1+j2<=out.size) (Xf _) %[SG.refl _,_,_,_,_,_,rfl,m|e] ?_ ?_) ?_)
 .intro j2 x i _ l %[c,na,nb,out,f,bc,rfl,m|e];exact GX (C.of c) m ⋯ (λr o h=>%[c|.inl %[r,o,rfl|h]]) λna nb out f bc h z=>%[%[c|.inr %[_,_,_,_,_,rfl,h|⋯]],c,_,_,_,_,_,rfl,h|z]
 .intro x i %[c,na,nb,out,f,bc,rfl,m|e];exact%[c|.inr %[_,_,_,_,_,rfl,m|⋯]]
 .rintro x i ⟨c,⟨r,o,rfl,n⟩|⟨na,nb,out,f,bc,rfl,m,e⟩⟩
  .exact aw (p _ r _ c n)
  .refine au (ju ?_);refine au (bP (bB (Q:=λx d=>SG st d/\((∃r o,x=(some r,o)/\c6 N a.toList b.toList r.toList)\/∃na nb out g f bc,x=(none,na,nb,out,g,f,bc)/\MHS N a b out na nb/\j+2<=out.size))
    (λj2 x d=>SG st d/\∃na nb out g f bc,x=(none,na,nb,out,g,f,bc)/\MHS N a b out na nb/\j+2<=out.size) (Xf _) %[c,_,_,_,_,_,_,rfl,m|e] ?_ ?_) ?_)
   .intro j2 x i _ l %[c,na,nb,out,g,f,bc,rfl,m|e];unfold hiG;rw[<-apply_ite _];exact GW (C.of c) m ⋯ (λd r o sg h=>%[SG.trans c sg|.inl %[r,o,rfl|h]]) λd na nb out g k k1 sg h z=>%[%[SG.trans c sg|.inr %[_,_,_,_,_,_,rfl,h|z]],SG.trans c sg,_,_,_,_,_,_,rfl,h|z]
   .simp_all
   .rintro x i ⟨c,⟨r,o,rfl,n⟩|⟨na,nb,out,g,f,bc,rfl,m,e⟩⟩
    .exact aw (p _ r _ c n)
    .exact au (cF (aw (s _ _ _ _ _ (c.set _) m e)))
def xp{D:Keyed->Prop}{N:Keyed->Nat}{a b:ZY}{Q:ZY->SortSt->Prop}{st:SortSt}(c:Cmp prog w A SI (kindOf st) D N)(s:Srt N a.toList)(v:Srt N b.toList)(O:∀x∈a.toList,D x)(T:∀x∈b.toList,D x)
 (ha:1<=a.size) (hb:1<=b.size) (U:∀x y,b.toList[0]? =some x->a.toList[0]? =some y->N x<=N y) (Y:∀y∈b.toList,∀x∈a.toList.drop (a.size-1),N y<=N x)
 (h:∀r d,SG st d->c6 N a.toList b.toList r.toList->Q r d):(SC prog w A SI) (oV a b) Q st:=by
 have DA:∀{i:Nat} (hi:i<a.size),D a[i]:=λhi=>O _ ∅
 have DB:∀{i:Nat} (hi:i<b.size),D b[i]:=λhi=>T _ ∅
 have H:∀(out:ZY) (na nb:Nat),MH N a.toList b.toList out.reverse.toList na nb->(na=0\/nb=0)->c6 N a.toList b.toList (a.extract 0 na++b.extract 0 nb++out.reverse).toList:=λout na nb m q=>by
  rw[Xe,Xe,EI,EI];refine m.done s v λx B y t=>?_
  rcases q with q|q
  .have%[j,I|_]:=bC B
   lia
  .have%[j,I|_]:=bC t
   lia
 have J:∀(out:ZY) (na nb:Nat),MH N a.toList b.toList out.reverse.toList na nb->nb=1->c6 N a.toList b.toList (b.extract 0 nb++a.extract 0 na++out.reverse).toList:=λout na nb m q=>by
  rw[Xe,Xe,EI,EI];refine m.first s v λy t x B=>?_
  have%[j,I,h2|e]:=bC t;have%[i,_,h4|e']:=bC B;have j0:j=0:=by lia
  subst j0;have%[L|f]:=aX (a:=a) (i:=0) ⋯;exact Yh (U _ _ e f) (s.le (Xf _) f e')
 rw[IA];refine au (ju ?_);obtain⟨l,C⟩:∃l,a.size=l+1:=%[a.size-1|⋯]
 have%[L|f]:=aX (a:=a) (i:=l) ⋯;rw[show a.size-1=l by lia];refine au (bj L ?_);have E:MH N a.toList b.toList #[a[l]].reverse.toList l b.size:=by
  have z:=MH.zero N a.toList b.toList;rw[Zb,Zb,C]at z;exact z.oneA s f λy t=>Y y (Yy t) _ (by
   rw[show a.size-1=l by lia];exact Z8 (i:=0) (by rw[Yb];exact f))
 by_cases q1:l=0
 .rw[if_pos (by simp[q1])];exact aw (h _ st (SG.refl _) (H _ _ _ E (.inl q1)))
 rw[if_neg (by simp[q1])];by_cases G:b.size=1
 .rw[if_pos (by simp[G])];exact aw (h _ st (SG.refl _) (J _ _ _ E G))
 rw[if_neg (by simp[G])];refine au (f6 ?_);refine au (bP (bB (Q:=λx d=>SG st d/\∃r,x.1=some r/\c6 N a.toList b.toList r.toList)
  (λj x d=>SG st d/\∃na nb out g,x=(none,na,nb,out,g)/\MHS N a b out na nb/\j+1<=out.size) (Xf _) %[SG.refl _,_,_,_,_,rfl,%[E,⋯,⋯,⋯|⋯]|Zi _] ?_ ?_) ?_)
 .intro j x n _ hj %[sg,na,nb,out,g,rfl,m|u];exact GY (HC.of %[c,s,v,DA,DB,H|J] sg) m u (λd r o p h=>%[SG.trans sg p,r,rfl|h]) λd na nb out g p h z=>%[SG.trans sg p,_,_,_,_,rfl,h|z]
 .intro x n %[sg,na,nb,out,g,rfl,m|u];have:=m.pa;have:=m.pb;have:=m.ma;have:=m.mb;have q:=m.mh.perm.length_eq;simp only[Z9,Ym,Zb,Array.size_reverse]at q
  lia
 .intro x n %[sg,r,M|gd];have%[x1|x2]:=x;dsimp only at M;subst M;exact aw (h r n sg gd)
end
def vq(i:Nat):mergeAt' i=(do
 let s<-get
 let(some (b,na,c),some (d,nb,_)):=((pendingOf s)[i]?,(pendingOf s)[i+1]?)|unsupported "internal:list.sort.pending"
 set (setPending s (((pendingOf s).setIfInBounds i (b,na+nb,c)).eraseIdxIfInBounds (i+1)))
 let some k<-fQ false (<-elem' (arrOf s) d) (arrOf s) b na 0|return false
 let(b,na):=(b+k,na-k)
 if na==0 then return true
 let some nb<-fQ true (<-elem' (arrOf s) (b+na-1)) (arrOf s) d nb (nb-1)|return false
 if nb==0 then return true
 let x:=(arrOf s).extract b d
 let y:=(arrOf s).extract d (d+nb)
 let merged<-if na<=nb then oU x y else oV x y
 modify λs=>setArr s (merged.toList.zipIdx.foldl (λa (p,j)=>a.setIfInBounds (b+j) p) (arrOf s))
 return (failedOf (<-get)).isNone):=rfl
def vt:∀m c o (a:ZY),o+c+m.length<=a.size->
 ((m.zipIdx c).foldl (λa p=>a.setIfInBounds (o+p.2) p.1) a).toList=a.toList.take (o+c) ++m++a.toList.drop (o+c+m.length)
 |[],c,o,a,_=>by simp
 | x::m,c,o,a,h=>by
   rw[List.zipIdx_cons,Y8];rw[Zr]at h;rw[vt m _ o _ (by rw[Array.size_setIfInBounds];lia),Array.toList_setIfInBounds];have b:o+c<a.toList.length:=by rw[Zb];lia
   rw[Zr,List.take_set,List.drop_set];rw[show o+(c+1)=o+c+1 by lia,show o+c+1+m.length=o+c+(m.length+1) by lia];have e:(a.toList.take (o+c+1)).set (o+c) x=a.toList.take (o+c) ++[x]:=by
    rw[List.take_succ_eq_append_getElem b];rw[List.set_append_right _ _ (by rw[Ym];lia)];rw[Ym,X1 ⋯,sub_self];rfl
   rw[e];simp
section
variable{prog:Program}{w:World}{A:Around}{SI:Shared->Prop}{α β:Type}
def xq{D:Keyed->Prop}{N:Keyed->Nat}{i p p2:Nat}{b X Y L2:List Keyed}{Q:Bool->SortSt->Prop}{st:SortSt}(c:Cmp prog w A SI (kindOf st) D N)(e:(arrOf st).toList=b++X++Y++L2)(M:Srt N X)(O:Srt N Y)(nX:X≠[])(nY:Y≠[])
 (dX:∀x∈X,D x) (dY:∀x∈Y,D x) (hp:(pendingOf st)[i]? =some (b.length,X.length,p)) (aj:(pendingOf st)[i+1]? =some (b.length+X.length,Y.length,p2)) (hf:failedOf st=none)
 (h:∀Z t,Srt N Z->Z.Perm (X++Y)->(arrOf t).toList=b++Z++L2->kindOf t=kindOf st->failedOf t=none->pendingOf t=((pendingOf st).setIfInBounds i (b.length,X.length+Y.length,p)).eraseIdxIfInBounds (i+1)->Q true t):(SC prog w A SI) (mergeAt' i) Q st:=by
 have lX:0<X.length:=length_pos_iff.mpr nX;have lY:0<Y.length:=length_pos_iff.mpr nY;have sz:(arrOf st).size=b.length+X.length+Y.length+L2.length:=by
  rw[<-Zb,e];simp only[Z9]
 have E:∀(j:Nat) (d:j<X.length),(arrOf st)[b.length+j]? =some X[j]:=λj d=>by
  have:(arrOf st).toList[b.length+j]? =some X[j]:=by
   rw[e,Ze,Ze,Ya ⋯,Zw,Y9 d];simp[d]
  simpa using this
 have G:∀(j:Nat) (d:j<Y.length),(arrOf st)[b.length+X.length+j]? =some Y[j]:=λj d=>by
  have:(arrOf st).toList[b.length+X.length+j]? =some Y[j]:=by
   rw[e,Ze,Ya (by rw[Z9];lia),Z9,Zw,Y9 d];simp[d]
  simpa using this
 have DX:∀(j:Nat) (d:j<X.length),D X[j]:=λj d=>dX _ (Ye d)
 have DY:∀(j:Nat) (d:j<Y.length),D Y[j]:=λj d=>dY _ (Ye d)
 have u:∀(i j:Nat) (hi:i<=j) (d:j<X.length),N (X[i]'⋯)<=N X[j]:=λi j hi d=>M.le hi ∅ ∅
 have z:∀(i j:Nat) (hi:i<=j) (d:j<Y.length),N (Y[i]'⋯)<=N Y[j]:=λi j hi d=>O.le hi ∅ ∅
 rw[vq];refine au (f6 ?_);rw[hp,aj];dsimp only;refine au (GS ?_);have eb:=G 0 lY;rw[add_zero]at eb;refine au (bj eb ?_);refine au (eT c (DY 0 lY) (λi hi=>%[_,E i hi|DX i hi]) (λi=>bZ N false Y[0] (X.getD i Y[0])) (λi x hi f=>by
  rw[E i hi]at f;cases f;rw[Zc,Z4 hi];rfl) (λi j H d I=>?_) lX λk hk p1 p2=>?_)
 .rw[Zc,Z4 d]at I;rw[Zc,Z4 ⋯];have:=u i j H d;unfold bZ at I ⊢;simp only[Y0,if_false,Bool.not_eq_true',decide_eq_false_iff_not,getD_some]at I ⊢
  lia
 have g1:∀(j:Nat) (d:j<X.length),j<k->N X[j]<=N Y[0]:=λj d m=>by
  have:=p1 j m;rw[Zc,Z4 d]at this;unfold bZ at this;simpa using this
 have g2:∀(j:Nat) (d:j<X.length),k<=j->N Y[0]<N X[j]:=λj d m=>by
  have:=p2 j m d;rw[Zc,Z4 d]at this;unfold bZ at this;simpa using this
 dsimp only;by_cases q1:X.length-k=0
 .rw[if_pos (by simp[q1])];refine aw (h (X++Y) _ (pairwise_append.mpr %[M,O|λx f y n=>?_]) (List.Perm.refl _) (by show(arrOf st).toList=_;rw[e];simp) rfl hf rfl);have%[j,d|rfl]:=getElem_of_mem f;have%[o,l|rfl]:=getElem_of_mem n;exact Yh (g1 j d ⋯) (z 0 o (Xf _) l)
 rw[if_neg ↑q1];have el:=E (X.length-1) ⋯;rw[show b.length+k+(X.length-k) -1=b.length+(X.length-1) by lia];refine au (bj el ?_);refine au (eT c (DX _ ⋯) (λi hi=>%[_,G i hi|DY i hi]) (λi=>bZ N true (X[X.length-1]'⋯) (Y.getD i Y[0])) (λi x hi f=>by
  rw[G i hi]at f;cases f;rw[Zc,Z4 hi];rfl) (λi j H d I=>?_) ⋯ λk2 T p3 p4=>?_)
 .rw[Zc,Z4 d]at I;rw[Zc,Z4 ⋯];have:=z i j H d;unfold bZ at I ⊢;simp only[if_true,decide_eq_true_eq,getD_some]at I ⊢
  lia
 have g3:∀(j:Nat) (d:j<Y.length),j<k2->N Y[j]<N (X[X.length-1]'⋯):=λj d m=>by
  have:=p3 j m;rw[Zc,Z4 d]at this;unfold bZ at this;simpa using this
 have g4:∀(j:Nat) (d:j<Y.length),k2<=j->N (X[X.length-1]'⋯)<=N Y[j]:=λj d m=>by
  have:=p4 j m d;rw[Zc,Z4 d]at this;unfold bZ at this;simpa using this
 dsimp only;by_cases q2:k2=0
 .rw[if_pos (by simp[q2])];refine aw (h (X++Y) _ (pairwise_append.mpr %[M,O|λx f y n=>?_]) (List.Perm.refl _) (by show(arrOf st).toList=_;rw[e];simp) rfl hf rfl);have%[j,d|rfl]:=getElem_of_mem f;have%[o,l|rfl]:=getElem_of_mem n;exact Yh (u j (X.length-1) ⋯ ⋯) (g4 o l ⋯)
 rw[if_neg ↑q2];have ex:((arrOf st).extract (b.length+k) (b.length+X.length)).toList=X.drop k:=by
  rw[oW,e,Ze,Ze,List.drop_append,List.drop_of_length_le ⋯,nil_append,Zw,List.drop_append_of_le_length ⋯,Xd (by rw[Yi];lia),Zn (by rw[Yi];lia)]
 have L:((arrOf st).extract (b.length+X.length) (b.length+X.length+k2)).toList=Y.take k2:=by
  rw[tY,e,Ze,List.drop_append,List.drop_of_length_le (by rw[Z9];lia),nil_append,Z9,sub_self,drop_zero,Xd ⋯]
 have sx:((arrOf st).extract (b.length+k) (b.length+X.length)).size=X.length-k:=by rw[<-Zb,ex,Yi]
 have sy:((arrOf st).extract (b.length+X.length) (b.length+X.length+k2)).size=k2:=by rw[<-Zb,L,Ym,X1 T]
 have fin:∀(r:ZY) (g:SortSt),SG (setPending st (((pendingOf st).setIfInBounds i (b.length,X.length+Y.length,p)).eraseIdxIfInBounds (i+1))) g->c6 N (X.drop k) (Y.take k2) r.toList->
  (SC prog w A SI) (do modify (λs=>setArr s (r.toList.zipIdx.foldl (λa (p,j)=>a.setIfInBounds (b.length+k+j) p) (arrOf s)));let x<-get;pure (failedOf x).isNone) Q g:=λr g sg J=>by
  refine au (cF (au (f6 (aw ?_))));have U:failedOf g=none:=by rw[sg.2.2.2];exact hf
  show Q (failedOf g).isNone _;rw[U];have lr:r.toList.length=(X.length-k) +k2:=by
   rw[J.2.length_eq,Z9,Yi,Ym,X1 T]
  refine h (X.take k++r.toList++Y.drop k2) _ ?_ ?_ ?_ sg.1 U sg.2.2.1
  .have mem:∀y∈r.toList,(∃(j:Nat) (d:j<X.length),k<=j/\y=X[j])\/∃(j:Nat) (d:j<Y.length),j<k2/\y=Y[j]:=λy n=>by
    rcases Xo (J.2.mem_iff.mp n)with q|q
    .have%[j,v,h2|e]:=bT q;have%[d|e]:=Xn e;exact .inl %[j,d,v|e.symm]
    .have%[j,v,h2|e]:=bC q;have%[d|e]:=Xn e;exact .inr %[j,d,v|e.symm]
   refine pairwise_append.mpr %[pairwise_append.mpr %[M.take k,J.1|λx f y n=>?_],O.drop k2|λx f y n=>?_]
   .have%[j,v,h2|e]:=bC f;have%[d|rfl]:=Xn e;rcases mem y n with⟨o,l,h3,rfl⟩|⟨o,l,h3,rfl⟩
    .exact u j o ⋯ l
    .exact Yh (g1 j d v) (z 0 o (Xf _) l)
   .have%[j,v,h2|e]:=bT n;have%[d|rfl]:=Xn e;rcases Xo f with f|f
    .have%[o,h3,h4|e']:=bC f;have%[l|rfl]:=Xn e';exact Yh (u o (X.length-1) ⋯ ⋯) (g4 j d v)
    .rcases mem x f with⟨o,l,h3,rfl⟩|⟨o,l,h3,rfl⟩
     .exact Yh (u o (X.length-1) ⋯ ⋯) (g4 j d v)
     .exact z o j ⋯ d
  .have p1:(X.take k++r.toList++Y.drop k2).Perm (X.take k++(X.drop k++Y.take k2) ++Y.drop k2):=Xl _ (List.Perm.append_left _ J.2);refine p1.trans ?_;rw[<-Ze,Xc,Ze,Xc]
  .show(setArr g _|>arrOf).toList=_;have ab:arrOf g=arrOf st:=sg.2.1;show((r.toList.zipIdx).foldl (λ(a:ZY) (p:Keyed×Nat)=>a.setIfInBounds (b.length+k+p.2) p.1) (arrOf g)).toList=_;rw[vt _ 0 _ _ (by rw[lr,ab,sz];lia),ab,e,lr];have t1:(b++X++Y++L2).take (b.length+k+0)=b++X.take k:=by
    rw[add_zero,Ze,Ze,List.take_append,Zn ⋯,Zw,Xd ⋯]
   have t2:(b++X++Y++L2).drop (b.length+k+0+(X.length-k+k2))=Y.drop k2++L2:=by
    rw[show b.length+k+0+(X.length-k+k2)=(b++X).length+k2 by rw[Z9];lia,Ze,List.drop_append,List.drop_of_length_le ⋯,nil_append,Zw,List.drop_append_of_le_length ⋯]
   rw[t1,t2];simp
 have B:∀x y,((arrOf st).extract (b.length+X.length) (b.length+X.length+k2)).toList[0]? =some x->((arrOf st).extract (b.length+k) (b.length+X.length)).toList[0]? =some y->N x<=N y:=λx y f n=>by
  rw[L,Yc,if_pos ⋯,Z4 lY]at f;rw[ex,Yb,Z4 (by omega)]at n;cases f;cases n;exact Yf (g2 _ ⋯ ⋯)
 have C:∀y∈((arrOf st).extract (b.length+X.length) (b.length+X.length+k2)).toList,∀x∈((arrOf st).extract (b.length+k) (b.length+X.length)).toList.drop (((arrOf st).extract (b.length+k) (b.length+X.length)).size-1),N y<=N x:=λy n x f=>by
  rw[L]at n;rw[sx,ex,drop_drop]at f;have%[j,v,h2|e1]:=bC n;have%[d|rfl]:=Xn e1;have%[o,h3,h4|e2]:=bT f;have%[l|rfl]:=Xn e2;have:o=X.length-1:=by lia
  subst this;exact Yf (g3 j d v)
 have ac:Srt N ((arrOf st).extract (b.length+k) (b.length+X.length)).toList:=by exact ex▸M.drop k
 have ae:Srt N ((arrOf st).extract (b.length+X.length) (b.length+X.length+k2)).toList:=L▸O.take k2;have ag:∀x∈((arrOf st).extract (b.length+k) (b.length+X.length)).toList,D x:=λx f=>dX x (by rw[ex]at f;exact Yx f)
 have ai:∀x∈((arrOf st).extract (b.length+X.length) (b.length+X.length+k2)).toList,D x:=λx f=>dY x (by rw[L]at f;exact Yy f)
 have gg:∀(r:ZY) (g:SortSt),SG (setPending st (((pendingOf st).setIfInBounds i (b.length,X.length+Y.length,p)).eraseIdxIfInBounds (i+1))) g->c6 N ((arrOf st).extract (b.length+k) (b.length+X.length)).toList ((arrOf st).extract (b.length+X.length) (b.length+X.length+k2)).toList r.toList->
  (SC prog w A SI) (do modify (λs=>setArr s (r.toList.zipIdx.foldl (λa (p,j)=>a.setIfInBounds (b.length+k+j) p) (arrOf s)));let x<-get;pure (failedOf x).isNone) Q g:=λr g sg J=>fin r g sg (by rw[ex,L]at J;exact J)
 by_cases q3:X.length-k<=k2
 .rw[if_pos q3];exact au (xo c ac ae ag ai (by rw[sx];lia) (by rw[sy];lia) B C gg)
 .rw[if_neg q3];exact au (xp c ac ae ag ai (by rw[sx];lia) (by rw[sy];lia) B C gg)
end
abbrev ky(N:Keyed->Nat)(a:ZY)(i:Nat):Nat:=N (a.getD i (Value.none,Value.none))
def Ci(h:a[i]? =some x):ky N a i=N x:=by
 unfold ky
 simp_all
def vv(h:a[i]? =b[j]?):ky N a i=ky N b j:=by
 unfold ky
 simp_all
structure CR (st0 st:SortSt) (lo:Nat):Prop where
 kind:kindOf st=kindOf st0
 pend:pendingOf st=pendingOf st0
 fail:failedOf st=failedOf st0
 perm:(arrOf st).Perm (arrOf st0)
 same:∀i,i<lo->(arrOf st)[i]? =(arrOf st0)[i]?
def CR.refl(st:SortSt)(lo:Nat):CR st st lo:=%[rfl,rfl,rfl,Array.Perm.refl _|λ_ _=>rfl]
def CR.size{a st:SortSt}{lo:Nat}(h:CR a st lo):(arrOf st).size=(arrOf a).size:=h.perm.size_eq
def CR.rev{a st:SortSt}{lo i j:Nat}(h:CR a st lo)(hi:lo<=i)(b:j<=(arrOf st).size):CR a (setArr st (mirror (arrOf st) i j ((j-i)/2))) lo:=
 %[h.kind,h.pend,h.fail,(mirror_perm _ _ _ _).trans h.perm|λk c=>by
  rw[getElem?_mirror_all b,if_neg ⋯];exact h.same k c]
def xt(b:j<=a.size)(k:Nat):ky N (mirror a i j ((j-i)/2)) k=if i<=k/\k<j then ky N a (i+j-1-k)else ky N a k:=by
 split
 .rename_i h
  exact vv (by rw[getElem?_mirror_all b,if_pos h])
 .rename_i h
  exact vv (by rw[getElem?_mirror_all b,if_neg h])
abbrev Up(N:Keyed->Nat)(a:ZY)(lo n:Nat):Prop:=∀i j,i<=j->j<n->ky N a (lo+i)<=ky N a (lo+j)
abbrev Dn(N:Keyed->Nat)(a:ZY)(lo n:Nat):Prop:=∀i j,i<=j->j<n->ky N a (lo+j)<=ky N a (lo+i)
def Up.one(N:Keyed->Nat)(a:ZY)(lo:Nat):Up N a lo 1:=λi j b c=>by
 simp_all
def Up.step{lo n:Nat}(h:Up N a lo n)(d:1<=n)(f: ¬ ky N a (lo+n)<ky N a (lo+n-1)):Up N a lo (n+1):=λi j b g=>by
 by_cases e:j=n
 .subst e;by_cases c:i=j
  .exact c▸Zi _
  .have:=h i (j-1) ⋯ ⋯;rw[show lo+(j-1)=lo+j-1 by lia]at this
   lia
 .exact h i j b ⋯
def Dn.step{lo n:Nat}(h:Dn N a lo n)(d:1<=n)(f:ky N a (lo+n)<=ky N a (lo+n-1)):Dn N a lo (n+1):=λi j b g=>by
 by_cases e:j=n
 .subst e;by_cases c:i=j
  .exact c▸Zi _
  .have:=h i (j-1) ⋯ ⋯;rw[show lo+(j-1)=lo+j-1 by lia]at this
   lia
 .exact h i j b ⋯
def Dn.rev{lo n:Nat}(h:Dn N a lo n)(b:lo+n<=a.size):Up N (mirror a lo (lo+n) ((lo+n-lo)/2)) lo n:=λi j c d=>by
 rw[xt b,xt b,if_pos ⋯,if_pos ⋯];have:=h (n-1-j) (n-1-i) ⋯ ⋯
 grind
def Dn.same{lo n i j:Nat}(h:Dn N a lo n)(d:j<=a.size)(g:∀k b,i<=k->k<j->i<=b->b<j->ky N a k=ky N a b):Dn N (mirror a i j ((j-i)/2)) lo n:=by
 have e:∀k,ky N (mirror a i j _) k=ky N a k:=λk=>by
  rw[xt d]
  grind
 intro p q c f;rw[e,e];exact h p q c f
section
variable{prog:Program}{w:World}{A:Around}{SI:Shared->Prop}{α β:Type}
def oX{i j lo:Nat}{a st:SortSt}(c:Cmp prog w A SI (kindOf a) D N)(d:∀x∈(arrOf a).toList,D x)(r:CR a st lo)(hi:i<(arrOf a).size)(m:j<(arrOf a).size)
 (h:Q (some (decide (ky N (arrOf st) i<ky N (arrOf st) j))) st):(SC prog w A SI) (ltAt' i j) Q st:=by
 have f:=λx n=>d x ((Array.perm_iff_toList_perm.mp r.perm).mem_iff.mp n)
 have b:=r.size▸hi;have e:=r.size▸m;have%[g|o]:=aX b;have%[l|p]:=aX e;refine EH (r.kind▸c) g l (f _ ∅) (f _ ∅) ?_;rw[Ci g,Ci l]at h;exact h
def tZ{st:SortSt}(h:Q () (setArr st (mirror (arrOf st) i j ((j-i)/2)))):(SC prog w A SI) (reverseSlice' i j) Q st:=by
 exact cF h
abbrev cuL(lo:Nat)(x:Option (Option Nat)×Nat):StateT SortSt Sem (ForInStep (Option (Option Nat)×Nat)):=do
 match<-ltAt' (lo+x.2) (lo+x.2-1)with
 | some w=>if w=true then pure (.done (none,x.2))else pure (.yield (none,x.2+1))
 | _=>pure (.done (some none,x.2))
abbrev cu3(lo nrem n:Nat):StateT SortSt Sem (Option Nat):=do
 reverseSlice' lo (lo+n)
 let x<-forIn [n:nrem] (none,n) λ_ x=>cuL lo x
 match x.1 with
 | some r=>pure r
 | none=>pure (some x.2)
abbrev cuM(lo:Nat)(x:Option (Option Nat)×Nat×Nat):StateT SortSt Sem (ForInStep (Option (Option Nat)×Nat×Nat)):=do
 match<-ltAt' (lo+x.2.1) (lo+x.2.1-1)with
 | some w=>
   if w=true then(if x.2.2>0 then(do
    reverseSlice' (lo+x.2.1-(x.2.2+1)) (lo+x.2.1)
    pure (.yield (none,x.2.1+1,0)))else pure (.yield (none,x.2.1+1,0)))
   else(do
    match<-ltAt' (lo+x.2.1-1) (lo+x.2.1)with
    | some w=>if w=true then pure (.done (none,x.2.1,x.2.2))else pure (.yield (none,x.2.1+1,x.2.2+1))
    | _=>pure (.done (some none,x.2.1,x.2.2)))
 | _=>pure (.done (some none,x.2.1,x.2.2))
abbrev cu2(lo nrem n:Nat):StateT SortSt Sem (Option Nat):=do
 rule "list.sort.descending-run"
 let x<-forIn [n+1:nrem] (none,n+1,0) λ_ x=>cuM lo x
 match x.1 with
 | some r=>pure r
 | none=>
   if x.2.2>0 then(do
    reverseSlice' (lo+x.2.1-(x.2.2+1)) (lo+x.2.1)
    cu3 lo nrem x.2.1)else cu3 lo nrem x.2.1
set_option smartUnfolding false in
def IB(lo nrem:Nat):countRun' lo nrem=(do
 let x<-forIn [1:nrem] (none,1) λ_ x=>cuL lo x
 match x.1 with
 | some r=>pure r
 | none=>
   if(x.2==nrem)=true then pure (some x.2)
   else if x.2>1 then(do
    match<-ltAt' lo (lo+x.2-1)with
    | some w=>if w=true then pure (some x.2)else(do
      reverseSlice' lo (lo+x.2)
      cu2 lo nrem x.2)
    | _=>pure none)else cu2 lo nrem x.2):=by
 rw[countRun'_eq];rfl
variable{D:Keyed->Prop}{N:Keyed->Nat}{lo nrem n j:Nat}{Q:Option Nat->SortSt->Prop}{st st2:SortSt}
def Cj{q:Option _}{R:ForInStep _->SortSt->Prop}(c:Cmp prog w A SI (kindOf st) D N)(d:∀x∈(arrOf st).toList,D x)(r:CR st st2 lo)(e:lo+nrem<=(arrOf st).size)(f:1<=j)(g:j<nrem)
 (a:ky N (arrOf st2) (lo+j)<ky N (arrOf st2) (lo+j-1)->R (.done (none,j)) st2) (b: ¬ ky N (arrOf st2) (lo+j)<ky N (arrOf st2) (lo+j-1)->R (.yield (none,j+1)) st2):(SC prog w A SI) (cuL lo (q,j)) R st2:=by
 refine au (oX c d r ⋯ ⋯ ?_);dsimp only;by_cases q:ky N (arrOf st2) (lo+j)<ky N (arrOf st2) (lo+j-1)
 .rw[Zf q,if_pos rfl];exact aw (a q)
 .rw[Zh q,if_neg ∅];exact aw (b q)
def Ck(c:Cmp prog w A SI (kindOf st) D N)(d:∀x∈(arrOf st).toList,D x)(s:lo+nrem<=(arrOf st).size)(h:∀n a,CR st a lo->1<=n->n<=nrem->Up N (arrOf a) lo n->Q (some n) a)
 (r:CR st st2 lo) (n1:1<=n) (o:n<=nrem) (t:Dn N (arrOf st2) lo n):(SC prog w A SI) (cu3 lo nrem n) Q st2:=by
 refine au (tZ ?_);have u:=r.rev (j:=lo+n) (Zi _) (by rw[r.size];lia);have g:=t.rev (by rw[r.size];lia);refine au (bP (bB (Q:=λx a=>CR st a lo/\∃n,x=(none,n)/\1<=n/\n<=nrem/\Up N (arrOf a) lo n)
  (λj x a=>CR st a lo/\x=(none,j)/\Up N (arrOf a) lo j) o %[u,rfl|g] ?_ ?_) ?_)
 .intro j x e i p %[f,rfl|b];have l:=Yh n1 i;exact Cj c d f s l p (λ_=>%[f,j,rfl,l,Yf p|b]) λq=>%[f,rfl|b.step l q]
 .intro x e %[f,rfl|b];exact%[f,nrem,rfl,Yh n1 o,Zi _|b]
 .intro x e %[f,m,rfl,v,m2|b];exact aw (h m e f v m2 b)
def GZ{q:Option (Option Nat)}{k:Nat}{R:ForInStep (Option (Option Nat)×Nat×Nat)->SortSt->Prop}(c:Cmp prog w A SI (kindOf st) D N)(d:∀x∈(arrOf st).toList,D x)(r:CR st st2 lo)(z:lo+nrem<=(arrOf st).size)(u:k+1<=j)(B:j<nrem)
 (o:Dn N (arrOf st2) lo j) (p:∀i a,lo+j-(k+1)<=i->i<lo+j->lo+j-(k+1)<=a->a<lo+j->ky N (arrOf st2) i=ky N (arrOf st2) a)
 (v:R (.done (none,j,k)) st2) (g:∀k st2,CR st st2 lo->k<=j->Dn N (arrOf st2) lo (j+1)->(∀i a,lo+(j+1) -(k+1)<=i->i<lo+(j+1)->lo+(j+1) -(k+1)<=a->a<lo+(j+1)->ky N (arrOf st2) i=ky N (arrOf st2) a)->R (.yield (none,j+1,k)) st2):(SC prog w A SI) (cuM lo (q,j,k)) R st2:=by
 have one:∀st,∀i a,lo+(j+1) -(0+1)<=i->i<lo+(j+1)->lo+(j+1) -(0+1)<=a->a<lo+(j+1)->ky N (arrOf st) i=ky N (arrOf st) a:=λst i a h l y s=>by rw[show i=a by lia]
 refine au (oX c d r ⋯ ⋯ ?_);dsimp only;by_cases m:ky N (arrOf st2) (lo+j)<ky N (arrOf st2) (lo+j-1)
 .rw[Zf m,if_pos rfl];have b:=o.step ⋯ (Yf m);by_cases f:k>0
  .rw[if_pos f];exact au (tZ (aw (g 0 _ (r.rev ⋯ (by rw[r.size];lia)) (Xf _) (b.same (by rw[r.size];lia) p) (one _))))
  .rw[if_neg f];exact aw (g 0 _ r (Xf _) b (one _))
 .rw[Zh m,if_neg ∅];refine au (oX c d r ⋯ ⋯ ?_);dsimp only;by_cases t:ky N (arrOf st2) (lo+j-1)<ky N (arrOf st2) (lo+j)
  .rw[Zf t,if_pos rfl];exact aw v
  .rw[Zh t,if_neg ∅];have all:∀i,lo+j-(k+1)<=i->i<lo+(j+1)->ky N (arrOf st2) i=ky N (arrOf st2) (lo+j-1):=λi h l=>by
    by_cases e:i=lo+j
    .lia
    .exact p _ _ h ⋯ ⋯ ⋯
   exact aw (g (k+1) _ r u (o.step ⋯ ⋯) λi a h l y s=>(all i ⋯ l).trans (all a ⋯ s).symm)
def Cl(c:Cmp prog w A SI (kindOf st) D N)(d:∀x∈(arrOf st).toList,D x)(p:lo+nrem<=(arrOf st).size)(h:∀n a,CR st a lo->1<=n->n<=nrem->Up N (arrOf a) lo n->Q (some n) a)
 (r:CR st st2 lo) (z:n<nrem) (s:Dn N (arrOf st2) lo (n+1)):(SC prog w A SI) (cu2 lo nrem n) Q st2:=by
 refine au (ju ?_);refine au (bP (bB (Q:=λx a=>CR st a lo/\∃m q,x=(none,m,q)/\q+1<=m/\m<=nrem/\Dn N (arrOf a) lo m/\(∀k f,lo+m-(q+1)<=k->k<lo+m->lo+m-(q+1)<=f->f<lo+m->ky N (arrOf a) k=ky N (arrOf a) f))
  (λj x a=>CR st a lo/\∃q,x=(none,j,q)/\q+1<=j/\Dn N (arrOf a) lo j/\(∀k f,lo+j-(q+1)<=k->k<lo+j->lo+j-(q+1)<=f->f<lo+j->ky N (arrOf a) k=ky N (arrOf a) f)) z %[r,0,rfl,Nat.le_add_left _ _,s|λk f G H I J=>by rw[show k=f by lia]] ?_ ?_) ?_)
 .intro j x l B u %[g,q,rfl,i,b|e];exact GZ c d g p i u b e %[g,j,q,rfl,i,Yf u,b|e] λk st2 r C s E=>%[r,k,rfl,Nat.succ_le_succ C,s|E]
 .intro x l %[g,q,rfl,i,b|e];exact%[g,nrem,q,rfl,i,Zi _,b|e]
 .intro x l %[g,m,q,rfl,t,v,b|e];have y:=Yh (Nat.le_add_left _ _) t;dsimp only;by_cases o:q>0
  .rw[if_pos o];exact au (tZ (Ck c d p h (g.rev ⋯ (by rw[g.size];lia)) y v (b.same (by rw[g.size];lia) e)))
  .rw[if_neg o];exact Ck c d p h g y v b
def vw{lo nrem:Nat}{st:SortSt}(c:Cmp prog w A SI (kindOf st) D N)(d:∀x∈(arrOf st).toList,D x)(p:1<=nrem)(g:lo+nrem<=(arrOf st).size)
 (h:∀n a,CR st a lo->1<=n->n<=nrem->Up N (arrOf a) lo n->Q (some n) a):(SC prog w A SI) (countRun' lo nrem) Q st:=by
 rw[IB];refine au (bP (bB (Q:=λx a=>a=st/\∃n,x=(none,n)/\1<=n/\n<=nrem/\Up N (arrOf st) lo n/\(n=nrem\/ky N (arrOf st) (lo+n)<ky N (arrOf st) (lo+n-1)))
  (λj x a=>a=st/\x=(none,j)/\Up N (arrOf st) lo j) p %[rfl,rfl|Up.one _ _ _] ?_ ?_) ?_)
 .intro j x a e f %[rfl,rfl|up];exact Cj c d (CR.refl _ lo) g e f (λq=>%[rfl,j,rfl,e,Yf f,up|.inr q]) λq=>%[rfl,rfl|up.step e q]
 .intro x a %[rfl,rfl|up];exact%[rfl,nrem,rfl,p,Zi _,up|.inl rfl]
 .intro x b %[C,n,rfl,n1,r,up|E];subst C;dsimp only;by_cases q1:n=nrem
  .rw[if_pos (by simp[q1])];exact aw (h n b (CR.refl _ _) n1 r up)
  rw[if_neg (by simp[q1])];have s:n<nrem:=by lia
  by_cases t:n>1
  .rw[if_pos t];refine au (oX c d (CR.refl _ lo) ⋯ ⋯ ?_);dsimp only;by_cases u:ky N (arrOf b) lo<ky N (arrOf b) (lo+n-1)
   .rw[Zf u,if_pos rfl];exact aw (h n b (CR.refl _ _) n1 r up)
   .rw[Zh u,if_neg ∅];have all:∀i,i<n->ky N (arrOf b) (lo+i)=ky N (arrOf b) lo:=λi hi=>by
     have v:=up 0 i (Xf _) hi;have y:=up i (n-1) ⋯ ⋯;rw[show lo+(n-1)=lo+n-1 by lia]at y;rw[add_zero]at v
     lia
    have l:Dn N (arrOf b) lo n:=λi j m f=>by rw[all i ⋯,all j f];exact Zi _
    exact au (tZ (Cl c d g h ((CR.refl b lo).rev (Zi _) ⋯) s ((l.step n1 ⋯).same ⋯ (λk o v y G H=>by
     have z:=all (k-lo) ⋯;have B:=all (o-lo) ⋯;rw[show lo+(k-lo)=k by lia]at z;rw[show lo+(o-lo)=o by lia]at B;rw[z,B]))))
  .rw[if_neg t];refine Cl c d g h (CR.refl b lo) s (Dn.step (λi j m f=>?_) n1 (Yf (E.resolve_left q1)));rw[show i=j by lia];exact Zi _
end
section
variable{prog:Program}{w:World}{A:Around}{SI:Shared->Prop}{α β:Type}
def CR.move{a st:SortSt}{lo k l:Nat}(h:CR a st lo)(b:lo+k<(arrOf st).size)(c:l<=k):CR a (setArr st (bubble (arrOf st) (lo+k) (lo+k-(lo+l)))) lo:=
 %[h.kind,h.pend,h.fail,(bubble_perm _ _ _).trans h.perm|λi hi=>by
  rw[getElem?_bubble b _ ⋯,if_neg ⋯,if_neg ⋯];exact h.same i hi]
def yx(f:b<a.size)(g:d<=b)(k:Nat):ky N (bubble a b d) k=if k=b-d then ky N a b else if b-d<k/\k<=b then ky N a (k-1)else ky N a k:=by
 by_cases c:k=b-d
 .rw[if_pos c];exact vv (by rw[getElem?_bubble f d g,if_pos c])
 .rw[if_neg c];by_cases e:b-d<k/\k<=b
  .rw[if_pos e];exact vv (by rw[getElem?_bubble f d g,if_neg c,if_pos e])
  .rw[if_neg e];exact vv (by rw[getElem?_bubble f d g,if_neg c,if_neg e])
def Ac{lo n ok:Nat}{f st:SortSt}(c:Cmp prog w A SI (kindOf f) D N)(d:∀x∈(arrOf f).toList,D x)(r:CR f st lo)(M:1<=ok)(O:ok<=n)(hs:lo+n<=(arrOf f).size)(up:Up N (arrOf st) lo ok)
 (h:∀a,CR f a lo->Up N (arrOf a) lo n->Q true a):(SC prog w A SI) (binarySort' lo n ok) Q st:=by
 rw[binarySort'_eq];rw[show max ok 1=ok by lia];refine au (bP (bB (Q:=λx a=>x=(none,())/\CR f a lo/\Up N (arrOf a) lo n) (λk x a=>x=(none,())/\CR f a lo/\Up N (arrOf a) lo k) O %[rfl,r|up] ?_ ?_) ?_)
 .intro k x b T hk %[rfl,m|up1];dsimp only;have pv:∀i,i<k->lo+i<(arrOf f).size:=λi hi=>by lia
  refine au (bP (bB (Q:=λx a=>a=b/\∃l,x.1=none/\x.2.1=l/\l<=k/\(∀i,i<l->ky N (arrOf b) (lo+i)<=ky N (arrOf b) (lo+k))/\(∀i,l<=i->i<k->ky N (arrOf b) (lo+k)<ky N (arrOf b) (lo+i)))
   (λj x a=>a=b/\∃l q,x=(none,l,q)/\l<=q/\q<=k/\q-l<=k-j/\(∀i,i<l->ky N (arrOf b) (lo+i)<=ky N (arrOf b) (lo+k))/\(∀i,q<=i->i<k->ky N (arrOf b) (lo+k)<ky N (arrOf b) (lo+i))) (Xf _)
   %[rfl,0,k,rfl,⋯,⋯,⋯,λi hi=>absurd hi (X7 _)|λi M h2=>by lia] ?_ ?_) ?_)
  .intro j x g _ U %[rfl,l,q,rfl,B,o,Y,s|t];dsimp only;by_cases u:l>=q
   .rw[if_pos u];have e:l=q:=by lia
    subst e;exact aw %[rfl,l,rfl,rfl,o,s|t]
   .rw[if_neg u];refine au (oX c d m ⋯ ⋯ ?_);dsimp only;by_cases p:ky N (arrOf g) (lo+k)<ky N (arrOf g) (lo+(l+q)/2)
    .rw[Zf p,if_pos rfl];exact aw %[rfl,l,_,rfl,⋯,⋯,⋯,s|λi v z=>Zg p (up1 _ _ v z)]
    .rw[Zh p,if_neg ∅];exact aw %[rfl,_,q,rfl,⋯,⋯,⋯,λi v=>Yh (up1 i ((l+q)/2) ⋯ ⋯) ⋯|t]
  .intro x g %[rfl,l,q,rfl,B,o,Y,s|t];have e:l=q:=by lia
   subst e;exact%[rfl,l,rfl,rfl,o,s|t]
  .rintro⟨x1,x2,x3⟩ g ⟨e2,l,G,H,C,s,t⟩;subst e2;dsimp only at G H;subst G H;dsimp only;rw[moveDown'_eq];refine au (cF (aw %[rfl,m.move (by rw[m.size];lia) C|?_]));have y:lo+k<(arrOf g).size:=by rw[m.size];lia
   intro i j E U;rw[yx y ⋯,yx y ⋯];have ed:lo+k-(lo+k-(lo+x2))=lo+x2:=by lia
   rw[ed];by_cases v:lo+i=lo+x2
   .rw[if_pos v];by_cases z:lo+j=lo+x2
    .rw[if_pos z];exact Zi _
    .rw[if_neg z,if_pos ⋯];have:=t (j-1) ⋯ ⋯;rw[show lo+(j-1)=lo+j-1 by lia]at this
     lia
   .rw[if_neg v];by_cases I:lo+x2<lo+i/\lo+i<=lo+k
    .rw[if_pos I,if_neg ⋯,if_pos ⋯];have:=up1 (i-1) (j-1) ⋯ ⋯;rw[show lo+(j-1)=lo+j-1 by lia,show lo+(i-1)=lo+i-1 by lia]at this;exact this
    .rw[if_neg I];by_cases J:lo+j=lo+x2
     .rw[if_pos J];exact s i ⋯
     .rw[if_neg J];by_cases L:lo+x2<lo+j/\lo+j<=lo+k
      .rw[if_pos L];have:=up1 i (j-1) ⋯ ⋯;rw[show lo+(j-1)=lo+j-1 by lia]at this;exact this
      .rw[if_neg L];exact up1 i j E ⋯
 .intro x b %[rfl,m|up1];exact%[rfl,m|up1]
 .intro x b %[rfl,m|up1];exact aw (h b m up1)
end
section
variable{prog:Program}{w:World}{A:Around}{SI:Shared->Prop}
end
abbrev dD:List (List Keyed×Nat)->Nat->List (Nat×Nat×Nat)
 |[],_=>[]
 |(r,p)::t,o=>(o,r.length,p)::dD t (o+r.length)
abbrev bw(a:List (List Keyed×Nat)):List Keyed:=(a.map (·.1)).flatten
def ce(a b:List _):bw (a++b)=bw a++bw b:=by simp[bw]
def aW(a:List Keyed×Nat)(b:List _):bw (a::b)=a.1++bw b:=by simp[bw]
def dv:∀a b o,dD (a++b) o=dD a o++dD b (o+(bw a).length)
 |[],b,o=>by simp[dD,bw]
 |(r,p)::t,b,o=>by
  rw[cons_append,dD,dD,dv t b,aW,Z9,cons_append,Nat.add_assoc]
def eU:∀a o,(dD a o).length=a.length
 |[],_=>rfl
 |(r,p)::t,o=>by rw[dD,Zr,Zr,eU t]
structure RI (N:Keyed->Nat) (st0 st:SortSt) (rp:List (List Keyed×Nat)) (rest:List Keyed):Prop where
 kind:kindOf st=kindOf st0
 fail:failedOf st=none
 perm:(arrOf st).toList.Perm (arrOf st0).toList
 arr:(arrOf st).toList=bw rp++rest
 pend:(pendingOf st).toList=dD rp 0
 runs:∀r∈rp,r.1≠[]/\Srt N r.1
def RI.size{N:Keyed->Nat}{a st:SortSt}{b:List _}{rest:List Keyed}(h:RI N a st b rest):(arrOf st).size=(arrOf a).size:=by
 rw[<-Zb,<-Zb,h.perm.length_eq]
def RI.psize{N:Keyed->Nat}{a st:SortSt}{b:List _}{rest:List Keyed}(h:RI N a st b rest):(pendingOf st).size=b.length:=by
 rw[<-Zb,h.pend,eU]
section
variable{prog:Program}{w:World}{A:Around}{SI:Shared->Prop}{α β:Type}
def kS{D:Keyed->Prop}{N:Keyed->Nat}{f st:SortSt}{a b:List _}{X Y:List Keyed}{p o i:Nat}{rest:List Keyed}{Q:Bool->SortSt->Prop}(c:Cmp prog w A SI (kindOf f) D N)(d:∀x∈(arrOf f).toList,D x)
 (h:RI N f st (a++(X,p)::(Y,o)::b) rest) (hi:i=a.length) (k:∀Z g,RI N f g (a++(Z,p)::b) rest->Z.length=X.length+Y.length->Q true g):(SC prog w A SI) (mergeAt' i) Q st:=by
 subst hi;have e:=h.arr;rw[ce,aW,aW]at e;have m:(arrOf st).toList=bw a++X++Y++(bw b++rest):=by rw[e];simp
 have v:=λx j=>d x (h.perm.mem_iff.mp j)
 have n:=h.pend;rw[dv,dD,dD,zero_add]at n;have pl:=eU a 0;have q1:=by
  have:(pendingOf st).toList[a.length]? =some ((bw a).length,X.length,p):=by
   rw[n,Ya ⋯,pl,sub_self];rfl
  simpa using this
 have C:=by
  have:(pendingOf st).toList[a.length+1]? =some ((bw a).length+X.length,Y.length,o):=by
   rw[n,Ya ⋯,pl,Zw];rfl
  simpa using this
 have s:=h.runs (X,p) ∅;have y:=h.runs (Y,o) ∅;refine xq (h.kind▸c) m s.2 y.2 s.1 y.1 (λx j=>v x (by rw[m];simp[j])) (λx j=>v x (by rw[m];simp[j])) q1 C h.fail λZ g E z B G H t=>?_
 have u:Z.length=X.length+Y.length:=by rw[z.length_eq,Z9]
 refine k Z g %[G.trans h.kind,H,?_,?_,?_|λr l=>?_] u
 .refine List.Perm.trans ?_ h.perm;rw[B,m];rw[show bw a++X++Y++(bw b++rest)=bw a++(X++Y) ++(bw b++rest) by simp];exact Xl _ (List.Perm.append_left _ z)
 .rw[B,ce,aW];simp
 .rw[t,Array.toList_eraseIdxIfInBounds,Array.toList_setIfInBounds,n,dv,dD,zero_add];rw[List.set_append_right _ _ ⋯,pl,sub_self,List.set_cons_zero];rw[List.eraseIdx_append_of_length_le ⋯,pl,Zw,List.eraseIdx_cons_succ,List.eraseIdx_cons_zero];rw[u,Nat.add_assoc]
 .rcases Xo l with l|l
  .exact h.runs r (Yu _ l)
  .rcases mem_cons.mp l with rfl|l
   .refine%[λq=>?_|E];have j:=length_pos_iff.mpr s.1;dsimp only at q j;rw[q,length_nil]at u
    lia
   .exact h.runs r (by simp[l])
def Ad{N:Keyed->Nat}{a:ZY}{lo n:Nat}(h:Up N a lo n)(f:lo+n<=a.size):Srt N ((a.toList.drop lo).take n):=by
 refine List.pairwise_iff_getElem.mpr λi j hi c d=>?_
 have b:j<n:=by grind
 have g:∀i hi,i<n->N ((a.toList.drop lo).take n)[i]=ky N a (lo+i):=λi hi e=>by
  refine(Ci ?_).symm
  simp_all
 rw[g i hi ⋯,g j c b];exact h i j ⋯ b
def CR.toRI{N:Keyed->Nat}{d b a:SortSt}{f:List _}{rest:List Keyed}{lo n:Nat}(h:RI N d b f rest)(r:CR b a lo)(j:(bw f).length=lo)(up:Up N (arrOf a) lo n)(o:lo+n<=(arrOf b).size):
 ∃R c,RI N d a f (R++c)/\R.length=n/\Srt N R:=by
 have l:=r.size;refine%[((arrOf a).toList.drop lo).take n,(arrOf a).toList.drop (lo+n),%[r.kind.trans h.kind,r.fail.trans h.fail,(Array.perm_iff_toList_perm.mp r.perm).trans h.perm,?_,r.pend▸h.pend|h.runs],?_|Ad up ⋯]
 .have e:(arrOf a).toList.take lo=bw f:=by
   have m:(arrOf a).toList.take lo=(arrOf b).toList.take lo:=by
    apply List.ext_getElem?;intro i;rw[Yc,Yc]
    split
    .rename_i hi
     have:=r.same i hi;simpa using this
    .rfl
   rw[m,h.arr,Xd ⋯,Zn ⋯]
  rw[<-e];have g:=Xc n ((arrOf a).toList.drop lo);rw[drop_drop]at g;rw[g,(Xc lo (arrOf a).toList)]
 grind
def m8{α:Type}(f:α->α):∀l x,(l++[x]).modify l.length f=l++[f x]
 |[],x=>rfl
 | y::l,x=>by
   rw[cons_append,Zr,List.modify_succ_cons,m8 f l x,cons_append]
def kU{α:Type}(l:List α):l=[]\/∃a x,l=a++[x]:=by
 by_cases h:l=[]
 .exact .inl h
 .exact .inr %[l.dropLast,l.getLast h|(List.dropLast_concat_getLast h).symm]
def Ae{α:Type}(l:List α)(h:1<l.length):∃a x y,l=a++x::y::[]:=by
 rcases kU l with rfl|⟨a,y,rfl⟩
 .simp at h
 .rcases kU a with rfl|⟨b,x,rfl⟩
  .simp at h
  .exact%[b,x,y|by simp]
def RI.pushed{N:Keyed->Nat}{a st:SortSt}{c:List _}{R rest:List Keyed}{lo m:Nat}(h:RI N a st c (R++rest))(d:(bw c).length=lo)(e:R.length=m)(f:1<=m)(g:Srt N R):RI N a (setPending st ((pendingOf st).push (lo,m,0))) (c++[(R,0)]) rest:=by
 refine%[h.kind,h.fail,h.perm,?_,?_|λr b=>?_]
 .rw[h.arr,ce,aW];simp[bw]
 .rw[toList_push,h.pend,dv,dD,dD,zero_add,d,e]
 .rcases Xo b with b|b
  .exact h.runs r b
  .rw[Xp b]
   grind
def RI.powered{N:Keyed->Nat}{a st:SortSt}{b:List _}{rest:List Keyed}{X:List Keyed}{p:Nat}(d:Nat)(h:RI N a st (b++[(X,p)]) rest):RI N a (setPending st ((pendingOf st).modify ((pendingOf st).size-1) λx=>(x.fst,x.2.fst,d))) (b++[(X,d)]) rest:=by
 refine%[h.kind,h.fail,h.perm,?_,?_|λr c=>?_]
 .rw[h.arr,ce,ce,aW,aW]
 .rw[Array.toList_modify,h.psize,h.pend,dv,dv];rw[show(b++[(X,p)]).length-1=(dD b 0).length by rw[eU];simp];show List.modify (dD b 0++[_]) _ _=_;rw[m8];rfl
 .rcases Xo c with c|c
  .exact h.runs r (Yu _ c)
  .rw[Xp c];exact h.runs (X,p) ∅
abbrev srP(lo n:Nat):StateT SortSt Sem (ForInStep (Option Unit×Nat)):=do
 modify λs=>setPending s ((pendingOf s).push (lo,n,0))
 pure (.yield (none,lo+n))
abbrev sr1(size lo n:Nat):StateT SortSt Sem (ForInStep (Option Unit×Nat)):=do
 let s<-get
 match(pendingOf s).back? with
 | some (a,n1,_)=>do
   let x<-forIn [0:size] (none,()) λ_ _=>(do
    let s<-get
    match if(pendingOf s).size>1 then(pendingOf s)[(pendingOf s).size-2]? else none with
    | some (_,_,o)=>
      if o<=power' size (2*a+n1) (2*a+n1+n1+n) size then pure (.done (none,()))
      else(do
       let b<-mergeAt' ((pendingOf s).size-2)
       if(!b)=true then pure (.done (some (),()))else pure (.yield (none,())))
    | _=>pure (.done (none,())))
   match x.1 with
   | some r=>pure (.done (some r,lo))
   | none=>do
     modify λs=>setPending s ((pendingOf s).modify ((pendingOf s).size-1) λx=>(x.1,x.2.1,power' size (2*a+n1) (2*a+n1+n1+n) size))
     srP lo n
 | _=>srP lo n
abbrev srO(size:Nat)(x:Option Unit×Nat):StateT SortSt Sem (ForInStep (Option Unit×Nat)):=
 if x.2>=size then pure (.done (none,x.2))
 else do
  match<-countRun' x.2 (size-x.2)with
  | some n=>
    if n<minRun' size size 0 then(do
     rule "list.sort.binary-insertion"
     let b<-binarySort' x.2 (min (size-x.2) (minRun' size size 0)) n
     if(!b)=true then pure (.done (some (),x.2))else sr1 size x.2 (min (size-x.2) (minRun' size size 0)))
    else sr1 size x.2 n
  | _=>pure (.done (some (),x.2))
abbrev srT(size:Nat)(x:Option Unit×Nat):StateT SortSt Sem Unit:=
 match x.1 with
 | some r=>pure r
 | none=>do
   let x<-forIn [0:size] (none,()) λ_ _=>(do
    let s<-get
    if(pendingOf s).size<=1 then pure (.done (none,()))
    else(do
     let b<-mergeAt' (if Option.any (λx=>decide (x<(pendingOf s)[(pendingOf s).size-2+1]?.elim 0 λx=>x.2.1)) (if(pendingOf s).size-2>0 then Option.map (λx=>x.2.1) (pendingOf s)[(pendingOf s).size-2-1]? else none)=true then(pendingOf s).size-2-1 else(pendingOf s).size-2)
     if(!b)=true then pure (.done (some (),()))else pure (.yield (none,()))))
   match x.1 with
   | some r=>pure r
   | none=>pure ()
set_option smartUnfolding false in
def IC:sortRuns'=(do
 let s<-get
 let x<-forIn [0:(arrOf s).size] (none,0) λ_ x=>srO (arrOf s).size x
 srT (arrOf s).size x):=by
 rw[sortRuns'_eq];rfl
def Cm{D:Keyed->Prop}{N:Keyed->Nat}{st m:SortSt}{v:List (List Keyed×Nat)}{R e:List Keyed}{lo n:Nat}{T:ForInStep (Option Unit×Nat)->SortSt->Prop}(c:Cmp prog w A SI (kindOf st) D N)(d:∀x∈(arrOf st).toList,D x)(o:RI N st m v (R++e))(q:(bw v).length=lo)(p:R.length=n)(s:Srt N R)(J:1<=n)
 (L:∀a h,RI N st h a e->(bw a).length=lo+n->T (.yield (none,lo+n)) h):(SC prog w A SI) (sr1 (arrOf st).size lo n) T m:=by
 refine au (f6 ?_);rcases kU v with y|⟨O,⟨U,Y⟩,y⟩
 .subst y;have B:(pendingOf m).back? =none:=by
   have:=o.psize;simp[Array.back?,this]
  rw[B];exact au (cF (aw (L _ _ (o.pushed q p J s) (by rw[ce,Z9,q,aW];simp[bw,p]))))
 .have B:(pendingOf m).back? =some ((bw O).length,U.length,Y):=by
   rw[<-Array.getLast?_toList,o.pend,y,dv,dD,dD,zero_add];simp
  rw[B];refine au (bP (bB (Q:=λx h=>x=(none,())/\∃a,RI N st h a (R++e)/\a≠[]/\(bw a).length=lo) (λj x h=>x=(none,())/\∃a,RI N st h a _/\a≠[]/\(bw a).length=lo) (Xf _) %[rfl,v,o,by rw[y];simp|q] ?_ ?_) ?_)
  .intro j5 x f _ _ %[rfl,l,b,i|g];refine au (f6 ?_);by_cases C:(pendingOf f).size>1
   .have%[r,%[z|E],%[Y5|q5]|rfl]:=Ae l (b.psize▸C);have t:(pendingOf f).size-2=r.length:=by rw[b.psize];simp
    have G:(pendingOf f)[(pendingOf f).size-2]? =some ((bw r).length,z.length,E):=by
     have:(pendingOf f).toList[r.length]? =some ((bw r).length,z.length,E):=by
      rw[b.pend,dv,Ya (by rw[eU];lia),eU,sub_self,zero_add];rfl
     rw[t];simpa using this
    rw[if_pos C,G];dsimp only
    split
    .exact aw %[rfl,_,b,i|g]
    .refine au (kS c d b t λZ5 ab H I=>aw %[rfl,_,H,by simp|?_]);rw[<-g,ce,ce,aW,aW,aW];simp[bw,I]
   .rw[if_neg C];exact aw %[rfl,_,b,i|g]
  .intro x f %[rfl,l,b,i|g];exact%[rfl,l,b,i|g]
  .intro x f %[rfl,l,b,i|g];dsimp only;have%[r,%[z|E]|rfl]:=(kU l).resolve_left i;refine au (cF (au (cF (aw ?_))));have u:∀M,(bw (r++[(z,M)])).length=lo:=λM=>by
    rw[<-g,ce,ce,aW,aW]
   exact L _ _ ((b.powered _).pushed (u _) p J s) (by rw[ce,Z9,u,aW];simp[bw,p])
def sc_sortRuns{D:Keyed->Prop}{N:Keyed->Nat}{Q:Unit->SortSt->Prop}{st:SortSt}(c:Cmp prog w A SI (kindOf st) D N)(d:∀x∈(arrOf st).toList,D x)(h2:1<=(arrOf st).size)(hp:pendingOf st= #[])(hf:failedOf st=none)
 (h:∀f,(arrOf f).toList.Perm (arrOf st).toList->Srt N (arrOf f).toList->failedOf f=none->Q () f):(SC prog w A SI) sortRuns' Q st:=by
 rw[IC];refine au (f6 ?_);refine au (bP (bB (Q:=λx f=>∃e lo,x=(none,lo)/\RI N st f e [])
  (λj x f=>∃e rest lo,x=(none,lo)/\RI N st f e rest/\(bw e).length=lo/\j<=lo/\lo<=(arrOf st).size) (Xf _) %[[],_,0,rfl,%[rfl,hf,List.Perm.refl _,rfl,by rw[hp];rfl|λ_ h=>(nomatch h)],rfl,Zi _|Xf _] ?_ ?_) ?_)
 .intro j x u _ hj %[e,rest,lo,rfl,g,m,L|M];unfold srO;dsimp only;have s1:=g.size;by_cases C:lo>=(arrOf st).size
  .rw[if_pos C];have O:rest=[]:=by
    have:=congrArg List.length g.arr;rw[Z9,Zb,s1,m]at this;exact length_eq_zero_iff.mp ⋯
   subst O;exact aw %[e,lo,rfl|g]
  rw[if_neg C];have d1:∀x∈(arrOf u).toList,D x:=λx hx=>d x (g.perm.mem_iff.mp hx)
  have c1:Cmp prog w A SI (kindOf u) D N:=g.kind▸c;refine au (vw c1 d1 ⋯ ⋯ λn o r2 n1 n2 E=>?_);dsimp only;by_cases v:n<minRun' (arrOf st).size (arrOf st).size 0
  .rw[if_pos v];refine au (ju (au (Ac c1 d1 r2 n1 ⋯ ⋯ E λT r3 U=>?_)));rw[if_neg ∅];have%[R,y,s,z|B]:=CR.toRI g r3 m U ⋯;exact Cm c d s m z B ⋯ λab f r l=>%[_,_,_,rfl,r,l,⋯|⋯]
  .rw[if_neg v];have%[R,y,s,z|B]:=CR.toRI g r2 m E ⋯;exact Cm c d s m z B ⋯ λab f r l=>%[_,_,_,rfl,r,l,⋯|⋯]
 .intro x u %[e,rest,lo,rfl,g,m,L|M];have O:rest=[]:=by
   have:=congrArg List.length g.arr;rw[Z9,Zb,g.size,m]at this;exact length_eq_zero_iff.mp ⋯
  subst O;exact%[e,lo,rfl|g]
 .intro x u %[e,lo,rfl|g];unfold srT;dsimp only;have ac:∀(e:List (List Keyed×Nat)),(∀r∈e,r.1≠[]/\Srt N r.1)->e.length<=(bw e).length:=by
   intro e
   induction e with
   | nil=>intro _;exact Xf _
   | cons r t ih=>
     intro I;rw[aW,Zr,Z9];have:=length_pos_iff.mpr (I r ∅).1;have:=ih λq hq=>I q (by simp[hq])
     lia
  have l1:e.length<=(arrOf st).size:=by
   have a1:=ac e g.runs;have a2:=congrArg List.length g.arr;rw[Zz,Zb,g.size]at a2
   lia
  refine au (bP (bB (Q:=λx f=>x=(none,())/\∃e,RI N st f e []/\e.length<=1) (λj x f=>x=(none,())/\∃e,RI N st f e []/\e.length<=max 1 ((arrOf st).size-j)) (Xf _) %[rfl,e,g|⋯] ?_ ?_) ?_)
  .intro j x o _ hj %[rfl,e,g|J];refine au (f6 ?_);by_cases hz:(pendingOf o).size<=1
   .rw[if_pos hz];exact aw %[rfl,e,g|g.psize▸hz]
   rw[if_neg hz];have ag:1<e.length:=by rw[<-g.psize];lia
   generalize G:(if Option.any _ _=true then(pendingOf o).size-2-1 else(pendingOf o).size-2)=i
   have hi:i+1<e.length:=by
    have H:∀(c:Prop) [Decidable c] (n:Nat),2<=n->(if c then n-2-1 else n-2) +1<n:=λc _ n hn=>by lia
    rw[<-G,<-g.psize];exact H _ _ ⋯
   clear G;obtain⟨a,X,p,Y,q,b,rfl,ae⟩:∃a X p Y q b,e=a++(X,p)::(Y,q)::b/\i=a.length:=by
    refine%[e.take i,e[i].1,e[i].2,e[i+1].1,e[i+1].2,e.drop (i+2),?_|by rw[Ym];lia];have t1:=(Xc i e).symm;rw[List.drop_eq_getElem_cons ⋯,List.drop_eq_getElem_cons ⋯]at t1;exact t1
   refine au (kS c d g ae λZ T s zl=>?_);rw[if_neg ∅];refine aw %[rfl,_,s|?_];simp only[Z9,Zr]at J hi ⊢
   lia
  .intro x o %[rfl,e,g|J];exact%[rfl,e,g|⋯]
  .intro x o %[rfl,e,g|J];refine aw (h o g.perm ?_ g.fail);rw[g.arr,Zz]
   match e,J,g.runs with
   |[],_,_=>exact List.Pairwise.nil
   |[r],_,I=>
    rw[aW];simp only[bw,map_nil,List.flatten_nil,Zz];exact(I r ∅).2
end
end SBig
namespace STab
open PySem PySem.SetTable
def vy:∀k,∃q,5^(2^k)=1+2^(k+2)*(2*q+1)
 | 0=>%[0|rfl]
 | k+1=>by
   have%[q|e]:=vy k;refine%[q+2^k*(2*q+1)*(2*q+1)|?_];rw[pow_succ 2 k,Nat.pow_mul,e]
   grind
abbrev step(M i:Nat):Nat:=(i*5+1)%M
abbrev cf(M:Nat):Nat->Nat->Nat
 | 0,i=>i
 | n+1,i=>step M (cf M n i)
abbrev geo:Nat->Nat
 | 0=>0
 | n+1=>geo n*5+1
def t7:∀n,4*geo n+1=5^n
 | 0=>rfl
 | n+1=>by
   have:=t7 n;rw[pow_succ,<-this,geo]
   lia
def kW(M:Nat)(i:Nat):∀n,cf M n i%M=(5^n*i+geo n)%M
 | 0=>by simp[cf,geo]
 | n+1=>by
   rw[cf,step,Nat.mod_mod,geo,pow_succ];rw[add_mod,Nat.mul_mod,(kW M i n),<-Nat.mul_mod,<-add_mod]
   congr 1
   grind
def oY:∀(k i e:Nat),e<2^k->∃n,n<2^k/\cf (2^k) n i%2^k=e
 | 0,i,e,c=>%[0,by simp|by simp at c;subst c;simp[Nat.mod_one]]
 | k+1,i,e,c=>by
   have%[n,L|t]:=oY k i (e%2^k) (mod_lt _ (Nat.two_pow_pos k));have d:∀n,cf (2^(k+1)) n i%2^(k+1)%2^k=cf (2^k) n i%2^k:=λn=>by
    rw[Nat.mod_mod_of_dvd _ (Nat.pow_dvd_pow 2 (Yg k)),<-Nat.mod_mod_of_dvd _ (Nat.pow_dvd_pow 2 (Yg k)),kW,Nat.mod_mod_of_dvd _ (Nat.pow_dvd_pow 2 (Yg k)),kW]
   have%[q|b]:=vy k;have w:geo (2^k)=2^k*(2*q+1):=by
    have g:=t7 (2^k);rw[b,Nat.pow_add]at g;have:2^k*2^2*(2*q+1)=4*(2^k*(2*q+1)):=by
     rw[Nat.mul_right_comm];lia
    lia
   have f:∀n,cf (2^(k+1)) (n+2^k) i%2^(k+1)=(cf (2^(k+1)) n i+2^k)%2^(k+1):=λn=>by
    rw[kW];have y:5^(n+2^k)*i+geo (n+2^k)=5^(2^k)*(5^n*i+geo n) +geo (2^k):=by
     have g1:=t7 (n+2^k);have g2:=t7 n
     grind
    rw[y,b,w];have z:2^(k+1)=2*2^k:=by rw[pow_succ];lia
    have j:2^(k+2)=2*2^(k+1):=by rw[pow_succ];lia
    have p:=kW (2^(k+1)) i n
    generalize 5^n*i+geo n=v at p ⊢
    have A:(1+2^(k+2)*(2*q+1))*v+2^k*(2*q+1)=v+2^k+2^(k+1)*(2*((2*q+1)*v) +q):=by
     rw[Nat.add_mul,Nat.one_mul,j];have B:2*2^(k+1)*(2*q+1)*v=2^(k+1)*(2*((2*q+1)*v)):=by
      simp only[Nat.mul_assoc,Nat.mul_left_comm]
     have C:2^k*(2*q+1)=2^k+2^(k+1)*q:=by
      rw[z,Nat.mul_add,Nat.mul_one]
      lia
     rw[B,C,Nat.mul_add]
     lia
    rw[A,Nat.add_mul_mod_self_left,add_mod,<-p,<-add_mod]
   have l:=d n;rw[t]at l;have E:cf (2^(k+1)) n i%2^(k+1)<2^(k+1):=mod_lt _ (Nat.two_pow_pos _);have m:=f n;rw[add_mod,Nat.mod_eq_of_lt (by lia:2^k<2^(k+1))]at m;obtain⟨a,r⟩:∃a,a=cf (2^(k+1)) n i%2^(k+1):=%[_|rfl]
   rw[<-r]at l E m;have o:a=e\/(a+2^k)%2^(k+1)=e:=by
    have s:=Nat.div_add_mod a (2^k);have G:=Nat.div_add_mod e (2^k);have q1:a/2^k<2:=Nat.div_lt_of_lt_mul ⋯;have H:e/2^k<2:=Nat.div_lt_of_lt_mul ⋯;rw[l]at s
    generalize a/2^k=u at s q1
    generalize e/2^k=v at G H
    have I:u=0\/u=1:=by lia
    have J:v=0\/v=1:=by lia
    rcases I with rfl|rfl<;> rcases J with rfl|rfl
    .left;lia
    .right
     rw[Nat.mod_eq_of_lt ⋯]
     lia
    .right
     rw[show a+2^k=e+2^(k+1) by lia,Nat.add_mod_right,Nat.mod_eq_of_lt c]
    .left;lia
   rcases o with h|h
   .exact%[n,⋯|by rw[<-r,h]]
   .exact%[n+2^k,⋯|by rw[m,h]]
abbrev stand(t:SetTable)(h:Int):Nat->Probe
 | 0=>t.probeStart h
 | n+1=>t.advance (stand t h n)
abbrev way(t:SetTable)(h:Int)(n:Nat):Nat:=(stand t h n).j
abbrev aL(t:SetTable)(h:Int):Nat->Nat×Nat
 | 0=>(bits h%(t.mask+1),bits h)
 | r+1=>leap t.mask (aL t h r).1 (aL t h r).2
def m9(t:SetTable)(h:Int):∀n,(stand t h n).dummy=none
 | 0=>rfl
 | n+1=>by
   have:=m9 t h n;show(t.advance _).dummy=none;unfold advance
   split
   .exact this
   .exact this
def EJ(m i:Nat):runEnd m i-i<=9:=by
 unfold runEnd
 split<;> lia
def Af(t:SetTable)(h:Int):∀r,∃n,n<=10*r/\∀d,d<=runEnd t.mask (aL t h r).1-(aL t h r).1->
 stand t h (n+d)=%[(aL t h r).1+d,runEnd t.mask (aL t h r).1-(aL t h r).1-d,(aL t h r).1,(aL t h r).2|none]:=by
 have a:∀n i b,stand t h n=%[i,runEnd t.mask i-i,i,b|none]->∀d,d<=runEnd t.mask i-i->stand t h (n+d)=%[i+d,runEnd t.mask i-i-d,i,b|none]:=by
  intro n i b e d
  induction d with
  | zero=>intro _;rw[add_zero,e];rfl
  | succ d c=>
    intro f;show t.advance (stand t h (n+d))=_;rw[c ⋯];unfold advance;rw[if_pos ⋯]
    grind
 intro r
 induction r with
 | zero=>exact%[0,Xf _|a 0 _ _ rfl]
 | succ r c=>
   have%[n,g|e]:=c;have j:=EJ t.mask (aL t h r).1;refine%[n+(runEnd t.mask (aL t h r).1-(aL t h r).1) +1,⋯|a _ _ _ ?_];show t.advance _=_;rw[e _ (Zi _)];unfold advance;rw[if_neg ⋯];rfl
def EK(h:Int):bits h<2^64:=by
 unfold bits
 grind
def oZ(t:SetTable)(h:Int):∀r,(aL t h r).2=bits h/32^r
 | 0=>by simp[aL]
 | r+1=>by
   show(aL t h r).2/32=_;rw[oZ t h r,Nat.div_div_eq_div_mul,pow_succ]
def Cn(t:SetTable)(h:Int):∀r,(aL t h r).1<t.mask+1
 | 0=>mod_lt _ (succ_pos _)
 | r+1=>mod_lt _ (succ_pos _)
def kb(t:SetTable)(h:Int):∀m,(aL t h (12+m)).1=cf (t.mask+1) m (aL t h 12).1
 | 0=>rfl
 | m+1=>by
   show((aL t h (12+m)).1*5+1+(aL t h (12+m)).2/32)%(t.mask+1)=step _ _;rw[kb t h m,oZ,Nat.div_div_eq_div_mul,<-pow_succ];have a:bits h/32^(12+m+1)=0:=by
    exact Nat.div_eq_of_lt (Zg (EK h) (Yh (by decide:2^64<=32^13) (Nat.pow_le_pow_right (!1) ⋯)))
   rw[a,add_zero];rfl
def pc(a:t.mask+1=2^k)(h:Int)(e:Nat)(c:e<=t.mask):∃r,r<turns t.mask/\(aL t h r).1=e:=by
 have%[n,d|b]:=oY k _ e ⋯;refine%[12+n,by unfold turns;lia|?_];rw[kb,a];rw[<-a]at b;have:cf (t.mask+1) n (aL t h 12).1<t.mask+1:=by rw[<-kb];exact Cn t h _
 rw[Nat.mod_eq_of_lt this]at b;exact a▸b
def xu(a:t.mask+1=2^k)(h:Int)(e:Nat)(b:e<=t.mask):∃n,n+10<=10*turns t.mask/\way t h n=e:=by
 have%[r,f|c]:=pc a h e b;have%[n,g|d]:=Af t h r;refine%[n,⋯|?_];have:=d 0 (Xf _);unfold way;rw[add_zero]at this;rw[this];exact c
def vz(o:t.dummies= #[]){hashAt:Nat->Int}:∀(fuel n m:Nat),n<=m->m<n+fuel->t.slot (way t h m)= .empty->
 ∃q,n<=q/\q<=m/\(∀j,n<=j->j<q->∃i,t.slot (way t h j)= .live i/\hashAt i≠h)/\
  ((t.slot (way t h q)= .empty/\probe.go t hashAt h fuel (stand t h n)=some (.empty (way t h q) none))\/
   ∃i,t.slot (way t h q)= .live i/\hashAt i=h/\probe.go t hashAt h fuel (stand t h n)=some (.candidate (way t h q) i (stand t h (q+1))))
 | 0,n,m,g,r,_=>by lia
 | fuel+1,n,m,g,r,p=>by
   have d:probe.go t hashAt h (fuel+1) (stand t h n)=(match t.slot (stand t h n).j with
    | .empty=>some _
    | .dummy=>probe.go t hashAt h fuel (t.advance {stand t h n with dummy:=some _})
    | .live i=>if hashAt i==h then some _ else probe.go t hashAt h fuel _):=rfl
   have l:(stand t h n).j=way t h n:=rfl;cases c:t.slot _ with
   | empty=>
     refine%[n,Zi _,g,λj a b=>by lia|.inl %[c|?_]];rw[d,l,c,m9]
   | dummy=>
     exfalso;unfold slot at c;dsimp only at c
     split at c
     .lia
     .split at c
      .rename_i q
       rw[o]at q;simp[has]at q
      .lia
   | live i=>
     by_cases f:hashAt i=h
     .refine%[n,Zi _,g,λj a b=>by lia|.inr %[i,c,f|?_]];rw[d,l,c];dsimp only;rw[if_pos (by simp[f])];rfl
     .have s:n≠m:=λq=>by rw[q,p]at c;cases c
      have%[q,q1,u,v|w]:=vz o fuel (n+1) m ⋯ ⋯ p;have y:probe.go t hashAt h (fuel+1) (stand t h n)=probe.go t hashAt h fuel (stand t h (n+1)):=by
       rw[d,l,c];dsimp only;rw[if_neg (by simp[f])];rfl
      refine%[q,⋯,u,λj a b=>?_|?_]
      .by_cases e:j=n
       .exact e▸%[i,c|f]
       .exact v j ⋯ b
      .exact y▸w
def pd(xs:Array Nat)(j:Nat)(d:∀a b (s:a<xs.size) (t:b<xs.size),a<b->xs[a]<xs[b]):∀(fuel lo hi:Nat),hi-lo<=fuel->lo<=hi->hi<=xs.size->(∀i (h:i<xs.size),i<lo->xs[i]<j)->(∀i (h:i<xs.size),hi<=i->j<=xs[i])->
 below.go xs j fuel lo hi<=xs.size/\(∀i (h:i<xs.size),i<below.go xs j fuel lo hi->xs[i]<j)/\(∀i (h:i<xs.size),below.go xs j fuel lo hi<=i->j<=xs[i])
 | 0,lo,hi,p,q,f,g,l=>by
   have e:lo=hi:=by lia
   subst e;exact%[f,g|l]
 | fuel+1,lo,hi,p,q,f,g,l=>by
   rw[below.go];by_cases c:lo<hi
   .rw[if_pos c];dsimp only;have n:(lo+hi)/2<xs.size:=by lia
    have r:xs.getD ((lo+hi)/2) j=xs[(lo+hi)/2]:=by simp[Array.getD,n]
    rw[r];by_cases m:xs[(lo+hi)/2]<j
    .rw[if_pos m];refine pd xs j d fuel _ hi ⋯ ⋯ f (λi h o=>?_) l;by_cases e:i=(lo+hi)/2
     .subst e;exact m
     .exact Nat.lt_trans (d i _ h n ⋯) m
    .rw[if_neg m];refine pd xs j d fuel lo _ ⋯ ⋯ ⋯ g (λi h o=>?_);by_cases e:i=(lo+hi)/2
     .subst e;lia
     .have:=d _ i n h ⋯
      lia
   .rw[if_neg c];have e:lo=hi:=by lia
    subst e;exact%[f,g|l]
abbrev Co(xs:Array Nat):Prop:=∀a b c (d:b<xs.size),a<b->xs[a]<xs[b]
def kc(a:Co xs)(j:Nat):below xs j<=xs.size/\(∀i (h:i<xs.size),i<below xs j->xs[i]<j)/\(∀i (h:i<xs.size),below xs j<=i->j<=xs[i]):=
 pd xs j a xs.size 0 xs.size ⋯ (Xf _) (Zi _) (λi h q=>absurd q (X7 _)) (λi h q=>by lia)
def Cp(a:Co xs)(h:xs[i]? =some j):below xs j=i:=by
 have%[f,c|d]:=kc a j;have%[hi|e]:=Array.getElem?_eq_some_iff.mp h;rcases Nat.lt_trichotomy i _ with q|q|q
 .have:=c i hi q
  lia
 .exact q.symm
 .have b:below xs j<xs.size:=by lia
  have:=d _ b (Zi _);have:=a _ i b hi q
  lia
def rX{t:SetTable}(a:Co t.place)(h:t.place[i]? =some j):t.slot j= .live i:=by
 unfold slot;dsimp only;rw[Cp a h,h];simp
def ke{t:SetTable}(a:Co t.place)(b:t.dummies= #[])(j:Nat):(∃i,t.place[i]? =some j/\t.slot j= .live i)\/(j∉t.place.toList/\t.slot j= .empty):=by
 by_cases h:j∈t.place.toList
 .have%[i|hi]:=Xg h;have hi:=↑hi
  exact .inl %[i,hi|rX a hi]
 .refine .inr %[h|?_];unfold slot;rw[if_neg,if_neg]
  .rw[b];simp[has]
  .intro q;exact h (mem_toList_iff.mpr (Array.mem_of_getElem? ↑q))
def vA(h:t.mask=t'.mask)(x:Int):∀n,stand t x n=stand t' x n
 | 0=>by
   show t.probeStart x=t'.probeStart x;unfold probeStart;rw[h]
 | n+1=>by
   show t.advance _=t'.advance _;rw[vA h x n];unfold advance;rw[h]
def rY(h:t.mask=t'.mask)(x:Int)(n:Nat):way t x n=way t' x n:=by unfold way;rw[vA h]
structure WF (t:SetTable) (es:Array (Int×Value)):Prop where
 pow:∃k,t.mask+1=2^k
 big:7<=t.mask
 dum:t.dummies= #[]
 rise:Co t.place
 inb:∀j∈t.place.toList,j<=t.mask
 size:t.place.size=es.size
 chain:∀(i j:Nat) h x,t.place[i]? =some j->es[i]? =some (h,x)->∃n,way t h n=j/\∀m,m<n->way t h m∈t.place.toList
def nodup_sub [DecidableEq c]:∀{l m:List c},l.Nodup->(∀x∈l,x∈m)->l.length<=m.length
 |[],_,_,_=>Xf _
 | x::l,m,d,a=>by
   have%[f|g]:=nodup_cons.mp d;have b:=a x Zm;have h:=nodup_sub (m:=m.erase x) g λy i=>(List.mem_erase_of_ne (λe=>f (!2))).mpr (a y (Zk _ i))
   rw[List.length_erase_of_mem b]at h;have:=List.length_pos_of_mem b;rw[Zr]
   lia
def xv(W:WF t es)(R:t.place.size<=t.mask)(h:Int):∃m,m+10<=10*turns t.mask/\way t h m∉t.place.toList/\(∀q,q<m->way t h q∈t.place.toList):=by
 have%[k|l]:=W.pow;have ex:∃e,e<=t.mask/\e∉t.place.toList:=by
  refine Classical.byContradiction λb=>?_
  have:(List.range (t.mask+1)).length<=t.place.toList.length:=nodup_sub nodup_range λx o=>(λe c=>Classical.byContradiction λq=>b %[e,c|q]) x (by have:=mem_range.mp o;lia)
  rw[Yk,Zb]at this
  lia
 have%[e,c|f]:=ex;have%[n,p|hw]:=xu l h e c;have:∀d,∀n,n<=d->n+10<=10*turns t.mask->way t h n∉t.place.toList->∃m,m+10<=10*turns t.mask/\way t h m∉t.place.toList/\(∀q,q<m->way t h q∈t.place.toList):=by
  intro d
  induction d with
  | zero=>
    intro n r g i;have:n=0:=by lia
    subst this;exact%[0,g,i|λq j=>absurd j (X7 _)]
  | succ d s=>
    intro n r g i;by_cases a:∀q,q<n->way t h q∈t.place.toList
    .exact%[n,g,i|a]
    .have%[q|j]:=Classical.not_forall.mp a;have%[q1|u]:=Classical.not_imp.mp j;exact s q ⋯ ⋯ u
 exact this n n (Zi _) p (hw▸f)
def kX(xs:Array a)(p:Nat)(x:a)(b:p<=xs.size):(insertAt xs p x).toList=xs.toList.take p++x::xs.toList.drop p:=by
 unfold insertAt;rw[Xe,toList_push,toList_extract,toList_extract,List.extract_eq_take_drop,List.extract_eq_take_drop];rw[drop_zero,Nat.sub_zero,Zn (l:=xs.toList.drop p) ∅];simp
def xw(xs:Array c)(x:c)(f:p<=xs.size)(i:Nat):(insertAt xs p x)[i]? =if i<p then xs[i]? else if i=p then some x else xs[i-1]? :=by
 have e:(insertAt xs p x)[i]? =(insertAt xs p x).toList[i]? :=by simp
 rw[e,kX xs p x f];have g:(xs.toList.take p).length=p:=!2
 by_cases a:i<p
 .rw[if_pos a,Y9 ⋯,Yc,if_pos a];simp
 .rw[if_neg a,Ya ⋯,g];by_cases b:i=p
  .rw[if_pos b,b,sub_self];rfl
  .rw[if_neg b];obtain⟨d,h⟩:∃d,i-p=d+1:=%[i-p-1|⋯]
   rw[h,List.getElem?_cons_succ,Yb];rw[show p+d=i-1 by lia];simp
def iZ(xs:Array a)(p:Nat)(x:a)(b:p<=xs.size):(insertAt xs p x).size=xs.size+1:=by
 rw[<-Zb,kX xs p x b,Z9,Zr,Ym,Yi,Zb]
 lia
def Cq(t:SetTable)(h:Int):∀n,(stand t h n).j+(stand t h n).more<=t.mask
 | 0=>by
   show bits h%(t.mask+1) +(runEnd t.mask _-bits h%(t.mask+1))<=t.mask;have:=mod_lt (bits h) (show 0<t.mask+1 from succ_pos _);unfold runEnd
   split<;> lia
 | n+1=>by
   have a:=Cq t h n;show(t.advance _).j+(t.advance _).more<=t.mask;unfold advance
   split
   .lia
   .dsimp only[leap];have:=mod_lt ((stand t h n).i*5+1+(stand t h n).perturb/32) (show 0<t.mask+1 from succ_pos _);unfold runEnd
    split<;> lia
def t8(t:SetTable)(h:Int)(n:Nat):way t h n<=t.mask:=by
 have:=Cq t h n;unfold way
 lia
def WF.put(W:WF t es)(Q:way t h m∉t.place.toList)(T:∀q,q<m->way t h q∈t.place.toList)(r f:Bool):
 (t.put (way t h m)).2=below t.place (way t h m)/\(t.put (way t h m)).1.mask=t.mask/\(t.put (way t h m)).1.place.size=t.place.size+1/\(t.put (way t h m)).1.led=t.led/\(t.put (way t h m)).1.plain=t.plain/\(t.put (way t h m)).1.moves=t.moves/\
  WF {(t.put (way t h m)).1 with led:=r,plain:=f} (insertAt es (t.put (way t h m)).2 (h,x)):=by
 have U:has t.dummies (way t h m)=false:=by rw[W.dum];simp[has]
 have Y:t.put (way t h m)=({t with place:=insertAt t.place (below t.place (way t h m)) (way t h m)},below t.place (way t h m)):=by
  unfold SetTable.put;dsimp only;rw[U];rfl
 rw[Y];have%[g,I|J]:=kc W.rise (way t h m)
 generalize hp:below t.place (way t h m)=p at g I J
 have w:p<=es.size:=by rw[<-W.size];exact g
 have s3:∀i (hi:i<t.place.size),p<=i->way t h m<t.place[i]:=λi hi q=>by
  have:=J i hi q;rcases Nat.eq_or_lt_of_le this with e|e
  .exact absurd (by rw[e];simp) Q
  .exact e
 have c:∀y,y∈(insertAt t.place p (way t h m)).toList↔y=way t h m\/y∈t.place.toList:=λy=>by
  rw[kX _ _ _ g,Yt,Yw];have:=Xc p t.place.toList
  constructor
  .rintro(q|q|q)
   .exact .inr (Yy q)
   .exact .inl q
   .exact .inr (Yx q)
  .rintro(q|q)
   .exact .inr (.inl q)
   .rw[<-this]at q;rcases Xo q with q|q
    .exact .inl q
    .exact .inr (.inr q)
 refine%[rfl,rfl,iZ _ _ _ g,rfl,rfl,rfl,W.pow,W.big,W.dum,?_,?_,?_|?_]
 .intro a b ha A B;have l:(insertAt t.place p (way t h m))[a]? =some (insertAt t.place p (way t h m))[a]:=by simp
  have d:(insertAt t.place p (way t h m))[b]? =some (insertAt t.place p (way t h m))[b]:=by simp
  show(insertAt t.place p (way t h m))[a]<(insertAt t.place p (way t h m))[b];rw[xw _ _ g]at l d;have ab:b<t.place.size+1:=(iZ t.place p (way t h m) g)▸A;by_cases C:a<p
  .rw[if_pos C]at l;have%[u|E]:=Array.getElem?_eq_some_iff.mp l;rw[<-E];by_cases r:b<p
   .rw[if_pos r]at d;have%[f|v]:=Array.getElem?_eq_some_iff.mp d;exact v▸W.rise a b u f B
   .rw[if_neg r]at d;by_cases f:b=p
    .rw[if_pos f]at d;exact(Za d)▸I a u C
    .rw[if_neg f]at d;have%[v|G]:=Array.getElem?_eq_some_iff.mp d;exact G▸W.rise a (b-1) u v ⋯
  .rw[if_neg C]at l;have r: ¬ b<p:=by lia
   have f: ¬ b=p:=by lia
   rw[if_neg r,if_neg f]at d;have%[v|G]:=Array.getElem?_eq_some_iff.mp d;rw[<-G];by_cases u:a=p
   .rw[if_pos u]at l;exact(Za l)▸s3 (b-1) v ⋯
   .rw[if_neg u]at l;have%[E|a4]:=Array.getElem?_eq_some_iff.mp l;exact a4▸W.rise (a-1) (b-1) E v ⋯
 .intro y hy;rcases(c y).mp hy with q|q
  .rw[q];exact t8 t h m
  .exact W.inb y q
 .rw[iZ _ _ _ g,iZ _ _ _ w,W.size]
 .intro i j h' L hi o;have M:∀n,way {t with place:=insertAt t.place p (way t h m),led:=r,plain:=f} h' n=way t h' n:=λn=>rY (t':=t) (by rfl) h' n
  have H:∃n,way t h' n=j/\∀q,q<n->way t h' q∈(insertAt t.place p (way t h m)).toList:=by
   rw[xw _ _ g]at hi;rw[xw _ _ w]at o;by_cases N:i<p
   .rw[if_pos N]at hi o;have%[n,n1|z]:=W.chain i j h' L hi o;exact%[n,n1|λq s=>(c _).mpr (.inr (z q s))]
   .rw[if_neg N]at hi o;by_cases O:i=p
    .rw[if_pos O]at hi o;cases hi;cases o;exact%[m,rfl|λq s=>(c _).mpr (.inr (T q s))]
    .rw[if_neg O]at hi o;have%[n,n1|z]:=W.chain (i-1) j h' L hi o;exact%[n,n1|λq s=>(c _).mpr (.inr (z q s))]
  have%[n,n1|z]:=H;exact%[n,by rw[M];exact n1|λq s=>by rw[M];exact z q s]
abbrev nb(t:SetTable)(h:Int):Nat->Nat
 | 0=>0
 | r+1=>nb t h r+(runEnd t.mask (aL t h r).1-(aL t h r).1) +1
def Cr(t:SetTable)(h:Int):∀r d,d<=runEnd t.mask (aL t h r).1-(aL t h r).1->
 stand t h (nb t h r+d)=%[(aL t h r).1+d,runEnd t.mask (aL t h r).1-(aL t h r).1-d,(aL t h r).1,(aL t h r).2|none]:=by
 have a:∀n i b,stand t h n=%[i,runEnd t.mask i-i,i,b|none]->∀d,d<=runEnd t.mask i-i->stand t h (n+d)=%[i+d,runEnd t.mask i-i-d,i,b|none]:=by
  intro n i b e d
  induction d with
  | zero=>intro _;rw[add_zero,e];rfl
  | succ d c=>
    intro f;show t.advance (stand t h (n+d))=_;rw[c ⋯];unfold advance;rw[if_pos ⋯]
    grind
 intro r
 induction r with
 | zero=>exact a 0 _ _ rfl
 | succ r c=>
   refine a _ _ _ ?_;show t.advance _=_;rw[c _ (Zi _)];unfold advance;rw[if_neg ⋯];rfl
def xx(t:SetTable)(h:Int)(r d:Nat)(a:d<=runEnd t.mask (aL t h r).1-(aL t h r).1):way t h (nb t h r+d)=(aL t h r).1+d:=by
 unfold way;rw[Cr t h r d a]
abbrev fo(owner:Array (Option Nat))(j:Nat):Bool:=(owner.getD j (some 0)).isSome
def rZ(t:SetTable)(h:Int)(owner:Array (Option Nat)):∀(fuel r:Nat),(∃a,r<=a/\a<r+fuel/\fo owner (aL t h a).1=false)->(∀m,m<nb t h r->fo owner (way t h m)=true)->
 ∃j n,layClean.free t.mask owner fuel (aL t h r).1 (aL t h r).2=some j/\way t h n=j/\fo owner j=false/\∀m,m<n->fo owner (way t h m)=true
 | 0,r,⟨a,o,p,_⟩,_=>by lia
 | fuel+1,r,⟨a,o,p,f⟩,g=>by
   rw[layClean.free];have s:runEnd t.mask (aL t h r).1>=(aL t h r).1:=by unfold runEnd;split<;> lia
   have tk:∀k,(owner.getD ((aL t h r).1+k) (some 0)).isNone=!fo owner ((aL t h r).1+k):=λk=>by
    unfold fo;cases owner.getD ((aL t h r).1+k) (some 0)<;> rfl
   cases i:(List.range (runEnd t.mask (aL t h r).1+1-(aL t h r).1)).find? λk=>(owner.getD ((aL t h r).1+k) (some 0)).isNone with
   | some k=>
     have%[l,as,bs,b|u]:=List.find?_eq_some_iff_append.mp i;have c:k∈List.range (runEnd t.mask (aL t h r).1+1-(aL t h r).1):=by rw[b];simp
     have c:=mem_range.mp c;have v:as=List.range k:=by
      have w:as.length=k:=by
       have:(List.range (runEnd t.mask (aL t h r).1+1-(aL t h r).1))[as.length]? =some k:=by rw[b];simp
       rw[List.getElem?_range (by have:=(Xn this).1;simpa using this)]at this;exact Za this
      have y:as=(List.range (runEnd t.mask (aL t h r).1+1-(aL t h r).1)).take k:=by
       rw[b,<-w];simp
      rw[y,List.take_range,X1 ⋯]
     dsimp only;refine%[_,nb t h r+k,rfl,xx t h r k ⋯,?_|λm d=>?_]
     .rw[tk]at l;simpa using l
     .by_cases q:m<nb t h r
      .exact g m q
      .have:=u (m-nb t h r) (v▸mem_range.mpr ⋯);rw[tk]at this;rw[show m=nb t h r+(m-nb t h r) by lia,xx t h r _ ⋯];simpa using this
   | none=>
     have all:∀k,k<=runEnd t.mask (aL t h r).1-(aL t h r).1->fo owner ((aL t h r).1+k)=true:=λk c=>by
      have:=(List.find?_eq_none.mp i) k (mem_range.mpr ⋯);rw[tk]at this;simpa using this
     have z:r≠a:=λe=>by
      have:=all 0 (Xf _);rw[add_zero,e,f]at this;cases this
     dsimp only;exact rZ t h owner fuel (r+1) %[a,⋯,⋯|f] λm d=>by
      by_cases q:m<nb t h r
      .exact g m q
      .have d:m<nb t h r+(runEnd t.mask (aL t h r).1-(aL t h r).1) +1:=d;rw[show m=nb t h r+(m-nb t h r) by lia,xx t h r _ ⋯];exact all _ ⋯
structure LO (t:SetTable) (hs:ZL) (owner:Array _):Prop where
 size:owner.size=t.mask+1
 own:∀j q,owner[j]? =some (some q)->∃h,hs[q]? =some h/\∃n,way t h n=j/\∀m,m<n->fo owner (way t h m)=true
 all:∀q,q<hs.length->∃j:Nat,owner[j]? =some (some q)
 one:∀(j j' q:Nat),owner[j]? =some (some q)->owner[j']? =some (some q)->j=j'
def gE(b:j<owner.size):fo owner j=true↔∃q,owner[j]? =some (some q):=by
 unfold fo;have e:owner.getD j (some 0)=owner[j]:=!2
 rw[e];have a:owner[j]? =some owner[j]:=by simp
 rw[a];cases owner[j]with
 | none=>simp
 | some q=>simp
def LO.step(L:LO t f owner)(J:t.mask+1=2^k)(room:f.length<=t.mask)(h:Int):
 ∃j,layClean.free t.mask owner (turns t.mask) (bits h%(t.mask+1)) (bits h)=some j/\LO t (f++[h]) (owner.setIfInBounds j (some f.length)):=by
 have d:∀h n,way t h n<owner.size:=λh n=>by rw[L.size];have:=t8 t h n;lia
 have ex:∃e,e<=t.mask/\fo owner e=false:=by
  refine Classical.byContradiction λv=>?_
  have all:∀e,e<t.mask+1->fo owner e=true:=λe c=>by
   cases q:fo owner e with
   | true=>rfl
   | false=>exact absurd %[e,⋯|q] v
  let g:Nat->Nat:=λe=>((owner[e]?).getD none).getD 0
  have w:∀e,e<t.mask+1->owner[e]? =some (some (g e)):=λe c=>by
   have%[q|o]:=(λe c=>(gE (L.size▸c)).mp (all e c)) e c;show owner[e]? =some (some (((owner[e]?).getD none).getD 0));rw[o];rfl
  have nd:((List.range (t.mask+1)).map g).Nodup:=by
   rw[X4,Xa];refine Xh (λ{a b} M N A q=>A ?_) (nodup_iff_pairwise_ne.mp nodup_range);have E:=w b (mem_range.mp N);rw[<-q]at E;exact L.one a b _ (w a (mem_range.mp M)) E
  have:=nodup_sub nd λy O=>by
   have%[e,c|rfl]:=Xq O;have%[h',l|_]:=L.own e _ (w e (mem_range.mp c));exact mem_range.mpr (Xn l).1
  rw[Z6,Yk,Yk]at this
  lia
 have%[e,c|B]:=ex;have%[r,hr|o]:=pc J h e c;have%[j,n,Q,G,T|U]:=rZ t h owner (turns t.mask) 0 %[r,Xf _,⋯|o▸B] (λm p=>absurd p (X7 _));refine%[j,Q|?_];have Y:j<owner.size:=G▸d h n;have nj:∀q,owner[j]? ≠some _:=λq e=>by
  have:=(gE Y).mpr %[q|e];rw[T]at this;cases this
 have get:∀i,(owner.setIfInBounds j (some f.length))[i]? =if j=i then some _ else owner[i]? :=λi=>by
  rw[Array.getElem?_setIfInBounds]
  split
  .first|rfl|simp
  .rfl
 have keep:∀i,fo owner i=true->i<owner.size->fo (owner.setIfInBounds j _) i=true:=λi hi H=>by
  have%[q|e]:=(gE H).mp hi;refine(gE (Array.size_setIfInBounds▸H)).mpr ?_;rw[get]
  split
  .exact%[_|rfl]
  .exact%[q|e]
 refine%[by rw[Array.size_setIfInBounds];exact L.size,λi q e=>?_,λq o=>?_|λi I q e s=>?_]
 .rw[get]at e
  split at e
  .rename_i C
   cases e;refine%[h,by simp,n,by rw[G,C]|λm p=>keep _ (U m p) (d h m)]
  .have%[h',l,n',e2|e3]:=L.own i q e;exact%[h',(Y9 (Xn l).1)▸l,n',e2|λm p=>keep _ (e3 m p) (d h' m)]
 .rw[Z9,Yl]at o;by_cases e:q=f.length
  .exact%[j|by rw[get,if_pos rfl,e]]
  .have%[i|hi]:=L.all q ⋯;refine%[i|?_];rw[get,if_neg]
   .exact hi
   .intro C;rw[<-C]at hi;exact nj q hi
 .have u:∀i,owner[i]? =some (some f.length)->False:=λi e=>by
   have%[h',l|_]:=L.own i _ e;have:=(Xn l).1
   lia
  rw[get]at e s
  split at e<;> split at s
  .lia
  .cases e;exact absurd s (λz=>u I z)
  .cases s;exact absurd e (λz=>u i z)
  .exact L.one i I q e s
def vB(c:t.mask+1=2^k)(a:Array Int)(room:a.size<=t.mask+1):∃owner,layClean t.mask a=some owner/\LO t a.toList owner:=by
 have d:∀rest done owner,LO t done owner->(done++rest).length<=t.mask+1->
  ∃b,rest.foldl (λacc h=>do
   let(owner,k)<-acc
   let j<-layClean.free t.mask owner (turns t.mask) (bits h%(t.mask+1)) (bits h)
   pure (owner.setIfInBounds j (some k),k+1)) (some (owner,done.length))=some (b,(done++rest).length)/\LO t (done++rest) b:=by
  intro rest
  induction rest with
  | nil=>intro done owner L _;exact%[owner,by simp|↑L]
  | cons h rest g=>
    intro done owner L i;simp only[Z9,Zr]at i;have%[j,f|l]:=L.step c ⋯ h;have%[b,e|L2]:=g _ _ l (!2);refine%[b,?_|↑L2];rw[Y8];have m:(do
     let(owner,k)<-(some (owner,done.length))
     let j<-layClean.free t.mask owner (turns t.mask) (bits h%(t.mask+1)) (bits h)
     pure (owner.setIfInBounds j (some k),k+1))=some (owner.setIfInBounds j (some done.length),(done++[h]).length):=by
     show(layClean.free t.mask owner _ _ _).bind _=_;rw[f];simp
    rw[m,e];simp
 have n:LO t [] (Array.replicate (t.mask+1) none):=%[by simp,λj q e=>by
  rw[Array.getElem?_replicate]at e
  split at e<;> simp at e,λq o=>absurd o (X7 _)|λj p q e _=>by
  rw[Array.getElem?_replicate]at e
  split at e<;> simp at e]
 have%[owner,e|L]:=d a.toList [] _ n (room);refine%[owner,?_|L];unfold layClean;rw[<-Array.foldl_toList];rw[show(0)=([]).length from rfl,e];rfl
def vC(n:Nat):∀fuel k,3<=k->n<2^(k+fuel)->(2^k<=2*n\/k=3)->∃a,3<=a/\sizeAbove.go n fuel (2^k)=2^a/\n<2^a/\(2^a<=2*n\/a=3)
 | 0,k,b,c,d=>%[k,b,rfl,c|d]
 | fuel+1,k,b,c,d=>by
   rw[sizeAbove.go];by_cases h:2^k<=n
   .rw[if_pos h];have e:2^k*2=2^(k+1):=by rw[pow_succ]
    rw[e];exact vC n fuel _ ⋯ ((show k+1+fuel=k+(fuel+1) by lia)▸c) (.inl ⋯)
   .rw[if_neg h];exact%[k,b,rfl,⋯|d]
def xy(a:n<2^60):∃k,3<=k/\sizeAbove n=2^k/\n<2^k/\(2^k<=2*n\/k=3):=
 vC n 64 3 (Zi _) (Zg a (Nat.pow_le_pow_right (!1) ∅)) (.inr rfl)
def pf [DecidableEq c]:∀{l m:List c},l.Nodup->m.Nodup->(∀x,x∈l↔x∈m)->l.Perm m
 |[],m,_,_,h=>by
  cases m with
  | nil=>simp
  | cons x m=>exact absurd ((h x).mpr Zm) ∅
 | x::l,m,d,b,h=>by
   have%[f|g]:=nodup_cons.mp d;refine List.Perm.trans (List.Perm.cons x (pf g (b.erase x) λy=>?_)) (List.perm_cons_erase ((h x).mp Zm)).symm
   constructor
   .intro a;exact(List.mem_erase_of_ne (λe=>f (!2))).mpr ((h y).mp (Zk _ a))
   .intro a;rcases mem_cons.mp ((h y).mpr (List.mem_of_mem_erase a))with q|q
    .exact absurd q (λe=>by rw[e]at a;exact b.not_mem_erase a)
    .exact q
def laid_ok{t:SetTable}(hp:t.mask+1=2^k)(C:7<=t.mask)(es:Array (Int×Value))(room:es.size<=t.mask)(finger moves:Nat)(led plain:Bool):
 ∃t' c,laid t.mask finger moves led plain (es.map (·.1))=some (t',c)/\t'.mask=t.mask/\t'.led=led/\t'.plain=plain/\t'.moves=moves/\WF t' (c.filterMap (es[·]?))/\(c.filterMap (es[·]?)).toList.Perm es.toList:=by
 have%[owner,e|L]:=vB hp (es.map (·.1)) (by rw[size_map];lia);have E:(es.map (·.1)).toList.length=es.size:=by simp
 obtain⟨live,u⟩:∃live,(List.range (t.mask+1)).filterMap (λj=>(owner.getD j none).map (λq=>(j,q)))=live:=%[_|rfl]
 refine%[%[t.mask,(live.map (·.1)).toArray,#[],finger,led,moves|plain],(live.map (·.2)).toArray,by unfold laid;rw[e,<-u];rfl,rfl,rfl,rfl,rfl|?_];have gd:∀j q,owner.getD j none=some q↔owner[j]? =some (some q):=λj q=>by
  rw[Zs];cases owner[j]? with
  | none=>simp
  | some o=>simp
 have mem:∀j q,(j,q)∈live↔owner[j]? =some (some q):=λj q=>by
  rw[<-u,mem_filterMap]
  constructor
  .rintro⟨G,ab,H⟩;have%[w,r|I]:=map_eq_some_iff.mp H;cases I;exact(gd j q).mp r
  .intro ho;have:j<owner.size:=by
    have%[d|_]:=Array.getElem?_eq_some_iff.mp ho;exact d
   refine%[j,mem_range.mpr (by rw[L.size]at this;exact this)|?_];rw[(gd j q).mpr ho];rfl
 have g:(live.map (·.1)).Pairwise (·<·):=by
  rw[<-u,Xa,List.pairwise_filterMap];refine List.Pairwise.imp (λ{a b} s x hx y J=>?_) List.pairwise_lt_range;have%[_,_|rfl]:=map_eq_some_iff.mp hx;have%[_,_|rfl]:=map_eq_some_iff.mp J;exact s
 have v:∀j q,(j,q)∈live->q<es.size:=λj q h=>by
  have%[h',r|_]:=L.own j q ((mem j q).mp h);have:=(Xn r).1
  lia
 have A:(live.map (·.2)).Nodup:=by
  rw[X4,Xa];refine Xh (λ{a b} M C s f=>?_) (by rw[Xa]at g;exact g);have d:=(mem a.1 a.2).mp M;have N:=(mem b.1 b.2).mp C;rw[<-f]at N;have:=L.one _ _ _ d N
  lia
 have B:(live.map (·.2)).Perm (List.range es.size):=pf A nodup_range λq=>by
  constructor
  .intro f;have%[%[j|w],d|rfl]:=Xq f;exact mem_range.mpr (v j w d)
  .intro f;have%[j|O]:=L.all q (E▸mem_range.mp f);exact Xr %[(j,q),(mem j q).mpr O|rfl]
 have fm:∀(l:List Nat),(∀q∈l,q<es.size)->l.filterMap (es[·]?)=l.map (λq=>es.getD q (0,Value.none)):=by
  intro l
  induction l with
  | nil=>intro _;rfl
  | cons q l ih=>
    intro f;have d:=f q Zm;have r:es[q]? =some (es.getD q (0,Value.none)):=by simp[Array.getD,d]
    rw[Y1,r,Yr,ih λy J=>f y (Zk _ J)]
 have Q:((live.map (·.2)).toArray.filterMap (es[·]?)).toList=(live.map (·.2)).map (λq=>es.getD q (0,Value.none)):=by
  rw[Array.toList_filterMap,List.toList_toArray];exact fm _ λq f=>by
   have%[%[j|w],d|rfl]:=Xq f;exact v j w d
 have er:es.toList=(List.range es.size).map (λq=>es.getD q (0,Value.none)):=by
  apply ext_getElem
  .simp
  .intro i d N;have d:=↑d
   simp[Array.getD,d]
 refine%[%[%[k|hp],C,rfl,?_,λj O=>?_,?_|λi j h x hi z=>?_]|?_]
 .intro a b M T s;have:=List.pairwise_iff_getElem.mp g a b (M) (T) s;simpa using this
 .have%[%[G|q],d|rfl]:=Xq O;have:=(Array.getElem?_eq_some_iff.mp ((mem G q).mp d)).1;rw[L.size]at this
  lia
 .rw[<-Zb (xs:=Array.filterMap _ _),Q];simp
 .have hi:(live.map (·.1))[i]? =some j:=↑hi
  have z:((live.map (·.2)).toArray.filterMap (es[·]?)).toList[i]? =some (h,x):=↑z
  rw[Q,Ys,Zl]at z;rw[Zl]at hi;cases U:live[i]? with
  | none=>rw[U]at hi;cases hi
  | some p=>
    have%[G|q]:=p;rw[U]at hi z;cases hi;have hm:=Z8 U;have%[h',r,n,n1|n2]:=L.own _ q ((mem _ q).mp hm);have f:=v _ q hm;have eh:h'=h:=by
     have I:(es.map (·.1)).toList[q]? =some (es[q]).1:=by simp[f]
     rw[I]at r;have e3:es.getD q (0,Value.none)=es[q]:=by simp[Array.getD,f]
     simp only[Function.comp,Option.map_some,e3,Option.some.injEq]at z;rw[z]at r;exact(Za r).symm
    subst eh;have wm:∀n,way {mask:=t.mask,place:=(live.map (·.1)).toArray,dummies:= #[],finger:=finger,led:=led,moves:=moves,plain:=plain} h' n=way t h' n:=λn=>rY (t':=t) (by rfl) h' n
    refine%[n,by rw[wm];exact n1|λm Y=>?_];rw[wm];have%[w|H]:=(gE (by rw[L.size];have:=t8 t h' m;lia)).mp (n2 m Y);exact Xr %[(way t h' m,w),(mem _ _).mpr H|rfl]
 .rw[Q,er];exact B.map _
section
variable{prog:Program}{w:World}{K:Type}[DecidableEq K]{knd:KeyKind prog w K}{A:Around}{E:ZD}{s:Shared}
abbrev EL(knd:KeyKind prog w K)(h:Heap)(es:Array (Int×Value)):Prop:=∀(i:Nat) e,es[i]? =some e->∃r k,e=(tupleKeyHash knd k,Value.ref r)/\IsTupleKey knd h k r
def ng(g:IsTupleKey knd s.heap ks r)(h:Q false s):↥A (ofAClassStatement 8 (.ref r)) Q E s:=by
 have l:=g.typeIs;have%[o,c,n,m,_,p|hi]:=g;unfold ofAClassStatement;refine Z2 (wpAny_typeOf l (Z2 (Z3 (Z2 (wpAny_seqItems m p (Z2 ?_))))));rw[<-forIn_toList];refine wpAny_forIn_list _ (λrest r s'=>r=(none,())/\s'=s/\∃i,ItemsAre knd i rest) _ ?_ ?_ _ _ %[rfl,rfl,ks|hi]
 .intro x rest r s' %[rfl,rfl,i|d];cases d with
  | @cons k1 u f j q b=>
    have t:=knd.byValue _ _ q;have e:ofAClassStatement 7 x=pure false:=by
     cases x with
     | ref a=>simp[carriedByValue]at t
     | _=>first|rfl|lia|lia
    refine Z2 ?_;rw[e];exact Z3 (Z3 %[rfl,rfl,f|b])
 .intro r s' %[rfl,rfl|_];exact Z3 h
def xz(d:IsTupleKey knd s.heap ks r):∀(l:ZF),(∀y∈l,∃a c,y=Value.ref a/\IsTupleKey knd s.heap c a)->∀{Q:Bool->Shared->Prop},Q false s->↥A (searchCouldBeSeen (.ref r) l) Q E s:=by
 intro l g Q h;refine Z2 (wpAny_forIn_list _ (λrest x s'=>x=(none,())/\s'=s/\∀y∈rest,∃a c,y=Value.ref a/\IsTupleKey knd s.heap c a) _ ?_ ?_ _ _ %[rfl,rfl|g])
 .intro y rest x s' %[rfl,rfl|e];have%[a,c,rfl|b]:=e y Zm;have f:=λy i=>e y (Zk _ i)
  dsimp only
  split
  .exact Z3 %[rfl,rfl|f]
  .exact Z2 (wpAny_eqIsQuiet_tuple d (Z2 (wpAny_eqIsQuiet_tuple b (Z2 (ng d (Z2 (ng b (Z3 %[rfl,rfl|f]))))))))
 .intro x s' %[rfl,rfl|_];exact Z3 h
def t9(hu:A.units<cLine)(ho:s.heap.get? a=some o)(hd:o.data= .set es ep t)(W:WF t es)(room:t.place.size<=t.mask)(ac:t.mask<=9000)
 (el:EL knd s.heap es) (hk:IsTupleKey knd s.heap k r)
 (h1:(∃(i:Nat) (g:Addr),es[i]? =some (tupleKeyHash knd k,Value.ref g)/\IsTupleKey knd s.heap k g)->Q (.there none) s)
 (h2:∀m,way t (tupleKeyHash knd k) m∉t.place.toList->(∀q,q<m->way t (tupleKeyHash knd k) q∈t.place.toList)->(∀(i:Nat) g u,es[i]? =some (tupleKeyHash knd u,Value.ref g)->IsTupleKey knd s.heap u g->u≠k)->Q (.free (way t (tupleKeyHash knd k) m) false) s):
 ↥A (setSearch a (.ref r) (tupleKeyHash knd k) true) Q E s:=by
 generalize hh:tupleKeyHash knd k=h at h1 h2
 have hf:t.fits es.size=true:=by
  unfold fits fill;rw[W.dum];simp[W.size];exact W.size▸room
 have%[M,m1,m2|m3]:=xv W room h;have me:t.slot (way t h M)= .empty:=by
  rcases ke W.rise W.dum (way t h M)with⟨i,e,_⟩|⟨_,e⟩
  .exact absurd (mem_toList_iff.mpr (Array.mem_of_getElem? e)) m2
  .exact e
 have ae:t.gaveWay=false:=by
  have%[c|hc]:=W.pow;have hb:=W.big;have c0:c≠0:=λq=>by rw[q]at hc;lia
  have%[c'|rfl]:=Nat.exists_eq_succ_of_ne_zero c0;rw[pow_succ]at hc;unfold gaveWay;have:t.mask%2=1:=by lia
  simp[this]
 have N:∀(fuel n:Nat) (st:Option Probe),st.getD (t.probeStart h)=stand t h n->n<=M->M<n+fuel->(∀j,j<n->∀(i:Nat) g u,t.slot (way t h j)= .live i->es[i]? =some (tupleKeyHash knd u,Value.ref g)->IsTupleKey knd s.heap u g->u≠k)->
  ↥A (setSearchFrom a (.ref r) h true fuel st) Q E s:=by
  intro fuel
  induction fuel with
  | zero=>intro n st _ a1 a2;lia
  | succ fuel ih=>
    intro n st ag hn a3 O;unfold setSearchFrom;refine Z2 (wpAny_setState_of ho hd hf ?_);dsimp only;rw[ae];simp only[Y0,if_false];rw[ag]
    generalize ai:SetTable.probe t _ h (stand t h n)=pr
    have l:SetTable.probe.go t (λi=>((es[i]?).map (·.1)).getD 0) h (10*turns t.mask) (stand t h n)=pr:=ai;have%[q,q1,q2,q3|q4]:=vz (t:=t) W.dum (hashAt:=λi=>((es[i]?).map (·.1)).getD 0) (h:=h) (10*turns t.mask) n M hn ⋯ me;rcases q4 with⟨I,e2⟩|⟨i,I,e2,e3⟩
    .rw[e2]at l;subst l;have hq:q=M:=by
      rcases Nat.eq_or_lt_of_le q2 with z|z
      .exact z
      .have:=m3 q z;rcases ke W.rise W.dum (way t h q)with⟨i,_,T⟩|⟨z2,_⟩
       .rw[I]at T;cases T
       .exact absurd this z2
     subst hq;dsimp only;refine Z3 (h2 q m2 m3 λi g u p v B=>?_);subst B;rw[hh]at p;have hi:i<es.size:=(Array.getElem?_eq_some_iff.mp p).1;have hp:t.place[i]? =some (t.place[i]'(W.size▸hi)):=by simp
     have%[U,c1|c2]:=W.chain i _ h _ hp p;have C:=rX W.rise hp;have aj:U<q:=by
      rcases Nat.lt_trichotomy U q with z|z|z
      .exact z
      .rw[z,]at c1;rw[<-c1,me]at C;cases C
      .exact absurd (c2 q z) m2
     rw[<-c1]at C;by_cases Y:U<n
     .exact O U Y i g u C (hh▸p) v rfl
     .have%[G,T|ab]:=q3 U ⋯ aj;rw[C]at T;cases T;rw[p]at ab;exact ab rfl
    .rw[e3]at l;subst l;obtain⟨x0,p⟩:∃e,es[i]? =some e:=by
      have al:t.place[i]? =some (way t h q):=by
       rcases ke W.rise W.dum (way t h q)with⟨G,p1,H⟩|⟨_,H⟩
       .rw[I]at H;cases H;exact p1
       .rw[I]at H;cases H
      have:=(Array.getElem?_eq_some_iff.mp al).1;exact%[es[i]'(W.size▸this)|by simp[<-W.size,this]]
     have%[g,u,rfl|v]:=el i x0 p;have a4:q<M:=Nat.lt_of_le_of_ne q2 λz=>by rw[z,me]at I;cases I
     have J:↥A (do
      let f<-holding [Value.ref g] (eqBool (Value.ref g) (Value.ref r))
      let x<-setState a
      if(true&&f)=true then pure (SetFound.there none)
      else match x.2.snd.sameMemory t.moves t.mask with
       | some same=>
         match if same=true then x.2.snd.slot (way t h q)else Slot.empty with
         | Slot.live G=>
           match x.fst[G]? with
           | some (_,y')=>do
             let b<-isSame y' (Value.ref g)
             let d<-pure (if b=true then some G else none)
             match d with
              | none=>do
                rule "set.search.anew"
                setSearchFrom a (Value.ref r) h true fuel none
              | some G=>
                if f=true then pure (SetFound.there (some G))
                else setSearchFrom a (Value.ref r) h true fuel (some (stand t h (q+1)))
           | none=>do
             let d<-pure none
             match d with
              | none=>do
                rule "set.search.anew"
                setSearchFrom a (Value.ref r) h true fuel none
              | some G=>
                if f=true then pure (SetFound.there (some G))
                else setSearchFrom a (Value.ref r) h true fuel (some (stand t h (q+1)))
         | x=>do
           let d<-pure none
           match d with
            | none=>do
              rule "set.search.anew"
              setSearchFrom a (Value.ref r) h true fuel none
            | some G=>
              if f=true then pure (SetFound.there (some G))
              else setSearchFrom a (Value.ref r) h true fuel (some (stand t h (q+1)))
       | x=>unsupported "set.changed-during-lookup:is-the-new-block-at-the-old-address") Q E s:=by
      refine Z2 (wpAny_holding (wpAny_eqBool_tuple hu v hk (Z2 (wpAny_setState_of ho hd hf ?_))));dsimp only;by_cases B:u=k
      .subst B;rw[Zf rfl];exact Z3 (h1 %[i,g,(by rw[p]at e2;exact e2)▸p|v])
      .rw[Zh B];have sm:t.sameMemory t.moves t.mask=some true:=by unfold sameMemory;rw[if_pos ∅]
       rw[sm];simp only[if_true];rw[I];dsimp only;rw[p];dsimp only;have same:isSame (Value.ref g) (Value.ref g)=pure true:=by
        unfold isSame;simp
       refine Z2 ?_;rw[same];refine Z3 ?_;simp only[if_true];refine Z2 (Z3 ?_);dsimp only;refine ih (q+1) _ rfl ⋯ ⋯ λj hj i2 r2 k2 s2 g2 t2=>?_
       by_cases an:j<n
       .exact O j an i2 r2 k2 s2 g2 t2
       .by_cases aq:j=q
        .subst aq;rw[I]at s2;cases s2;rw[p]at g2;have:g=r2:=by
          have:=Za g2;injection this with _ z
          injection z
         subst this;exact(v.inj t2)▸B
        .have%[i3,p1|H]:=q3 j ⋯ ⋯;rw[s2]at p1;cases p1;rw[g2]at H;intro z;rw[z]at H;exact H hh
     dsimp only;rw[p];dsimp only;by_cases L:(!t.led)=true
     .rw[if_pos L];refine Z2 (xz hk _ (λy hy=>?_) ?_)
      .have%[e,as|rfl]:=Xq hy;have%[i2|hi2]:=Array.getElem?_of_mem ((Array.mem_filter.mp (mem_toList_iff.mp as)).1);have%[r2,k2,rfl|a0]:=el i2 e hi2;exact%[r2,k2,rfl|a0]
      .exact J
     .rw[if_neg L];exact J
 exact N 100000 0 none rfl (Xf _) (by unfold turns at m1;lia) (λj hj=>absurd hj (X7 _))
end
structure IN (es:Array _) (t:SetTable) (led:Bool):Prop where
 wf:WF t es
 roomy:t.place.size*5<t.mask*3
 small:t.mask<=7\/t.mask+1<=8*es.size
 led:t.led=led
 plain:es.size≠0->t.plain=false
def IN.fits{es:Array _}{t:SetTable}{led:Bool}(I:IN es t led):t.fits es.size=true:=by
 unfold SetTable.fits fill;rw[I.wf.dum];have:=I.roomy;simp[I.wf.size];rw[<-I.wf.size]
 lia
def IN.fresh(finger moves:Nat)(led:Bool):IN #[] (SetTable.fresh finger moves led) led:=
 %[%[%[3|rfl],Zi _,rfl,λa b c=>absurd c (by simp[SetTable.fresh]),λj d=>by simp[SetTable.fresh]at d,rfl|λi j h x hi=>by simp[SetTable.fresh]at hi],show 0*5<7*3 from !1,.inl (Zi _),rfl|λq=>absurd rfl q]
section
variable{prog:Program}{w:World}{K:Type}[DecidableEq K]{knd:KeyKind prog w K}{A:Around}{E:ZD}{s:Shared}
def relay_w(d:s.heap.get? a=some o)(e:o.data= .set es y t)(i:t.fits es.size=true)(z:es.size<=n)(hw:n<=4000)
 (h:∀c t',c.toList.Perm es.toList->WF t' c->t'.led=t.led->t'.plain=t.plain->n<=t'.mask->t'.mask+1<=2*n\/t'.mask<=7->Q () {s with heap:=s.heap.update a (Obj.putSet c t')}):
 ↥A (setRelay a n) Q E s:=by
 have%[k,j,f,lt|le]:=xy (n:=n) ⋯;have B:8<=2^k:=Yh (by simp:8<=2^3) (Nat.pow_le_pow_right ∅ j);have g:2^k<=2*n\/2^k=8:=by
  rcases le with q|q
  .exact .inl q
  .exact .inr (by rw[q])
 have l:2^k<=8000:=by rcases g with q|q<;> lia
 let m:SetTable:={t with mask:=2^k-1}
 have%[t',b,p,C,r,u,G,W|P]:=laid_ok (t:=m) (k:=k) (by show 2^k-1+1=2^k;lia) (by show 7<=2^k-1;lia) es (by show es.size<=2^k-1;lia) t.finger _ t.led t.plain;have v:t.relaid (es.map (·.1)) n=some (t',b):=by
  unfold relaid;rw[f];exact p
 have sz:(b.filterMap (es[·]?)).size=es.size:=by rw[<-Zb,P.length_eq,Zb]
 refine Z2 (wpAny_setState_of d e i ?_);dsimp only;rw[f,if_neg (by rw[PySem.sizeLine_eq];lia)];rw[v];refine Z2 ?_;show wpAny _ A (if((b.filterMap _).size != es.size)=true then _ else pure _) _ E s;rw[if_neg (by simp[sz])];exact Z3 (wpAny_storeSet_of d e (h _ t' P W r u ⋯ (by rcases g with q|q<;> lia)) (by rw[sz,PySem.sizeLine_eq];lia))
def Cs(d:s.heap.get? a=some o)(e:o.data= .set es i t)(f:t.fits es.size=true)(j:es.size<=1000)(m:es.size≠0)(c:t.plain=false)
 (h:∀b t',b.toList.Perm es.toList->IN b t' t.led->t'.plain=false->Q () {s with heap:=s.heap.update a (Obj.putSet b t')}):
 ↥A (setRelay a (grown es.size)) Q E s:=by
 have g:grown es.size=es.size*4:=by unfold grown;rw[if_neg ⋯]
 rw[g];refine relay_w d e f ⋯ ⋯ λb t' P W l p n m2=>?_
 have sz:b.size=es.size:=by rw[<-Zb,P.length_eq,Zb]
 exact h b t' P %[W,by rw[W.size,sz];lia,⋯,l|λ_=>p▸c] (p▸c)
def Ag{led:Bool}(J:A.units<cLine)(n:s.heap.get? a=some o)(l:o.data= .set es ep t)(I:IN es t led)(hn:es.size+1<=1000)
 (el:EL knd s.heap es) (z:IsTupleKey knd s.heap k r) (hv:∀(s':Shared) (L:Bool->Shared->Prop),IsTupleKey knd s'.heap k r->L false s'->↥A (hashByValue 8 (.ref r)) L E s')
 (h1:(∃(i:Nat) (p:Addr),es[i]? =some (tupleKeyHash knd k,Value.ref p)/\IsTupleKey knd s.heap k p)->Q false {s with toks:=s.toks+(k.length+1)})
 (M:(∀(i:Nat) (p:Addr) (B:List K),es[i]? =some (tupleKeyHash knd B,Value.ref p)->IsTupleKey knd s.heap B p->B≠k)->∀f t' C h',h'.get? a=some {o with data:= .set f C t'}->SameBut a s.heap h'->f.toList.Perm (es.toList++[(tupleKeyHash knd k,Value.ref r)])->IN f t' led->Q true {s with heap:=h',toks:=s.toks+(k.length+1)}):
 ↥A (setAdd a (.ref r)) Q E s:=by
 unfold setAdd;refine wpAny_holding (Z2 (wpAny_pyHash_tuple J z ?_));unfold setAddHashed;refine wpAny_holding ?_;unfold setAddHashedIn;refine Z2 (wpAny_setState_of (s:={s with toks:=s.toks+(k.length+1)}) n l I.fits ?_);dsimp only;have ns:byScan (Value.ref r) es=false:=rfl;rw[ns];simp only[Y0,if_false];have rm:=I.roomy;refine Z2 (t9 (s:={s with toks:=s.toks+(k.length+1)}) J n l I.wf ⋯ (by rcases I.small with q|q<;> lia) el z (λq=>?_) λm N m2 O=>?_)
 .exact Z3 (h1 q)
 .dsimp only;refine Z2 (wpAny_setState_of (s:={s with toks:=s.toks+(k.length+1)}) n l I.fits ?_);dsimp only;have u:=I.wf;have%[p1,T,U,p4,p5,p6|Y]:=u.put (x:=Value.ref r) N m2 t.led false;have%[_,_,_,_,_,_|Wq]:=u.put (x:=Value.ref r) N m2 (t.put (way t (tupleKeyHash knd k) m)).1.led (t.put (way t (tupleKeyHash knd k) m)).1.plain;have v:(t.put (way t (tupleKeyHash knd k) m)).2<=es.size:=by
   rw[p1,<-u.size];exact(kc u.rise _).1
  have d:(insertAt es (t.put (way t (tupleKeyHash knd k) m)).2 (tupleKeyHash knd k,Value.ref r)).size=es.size+1:=iZ _ _ _ v;have g:(insertAt es (t.put (way t (tupleKeyHash knd k) m)).2 (tupleKeyHash knd k,Value.ref r)).toList.Perm (es.toList++[(tupleKeyHash knd k,Value.ref r)]):=by
   rw[kX _ _ _ v];have q:=Xc (t.put (way t (tupleKeyHash knd k) m)).2 es.toList;refine List.Perm.trans List.perm_middle ?_;rw[q];exact perm_append_comm (l₁:=[_])
  generalize ab:insertAt es _ _=c at Y Wq d g
  have e:∀b:SetTable,WF b c->b.mask=t.mask->b.place.size=t.place.size+1->b.led=led->b.plain=false->
   ↥A (do storeSet a c b;if(!false&&b.tooFull)=true then do setRelay a (grown (es.size+1));pure true else pure true) Q E {s with toks:=s.toks+(k.length+1)}:=λb W2 e1 e2 e3 e4=>by
   have g1:=by
    have q:=get?_update_self (Obj.putSet c b) n (by rw[putSet_of c b l];rfl);rwa[putSet_of c b l]at q
   have b1:=SameBut.update s.heap a (Obj.putSet c b);refine Z2 (wpAny_storeSet_of n l ?_ (d▸Yh hn (!1)));have G:b.tooFull=true↔b.mask*3<=b.place.size*5:=by
    unfold tooFull fill;rw[W2.dum];simp
   by_cases hf:b.tooFull=true
   .rw[if_pos (by simp[hf])];have y:b.fits c.size=true:=by
     unfold SetTable.fits fill;rw[W2.dum];simp[W2.size];exact W2.size▸(by rw[e1,e2];have:=u.big;lia)
    rw[<-d];refine Z2 (Cs g1 rfl y ⋯ ⋯ e4 λh H P3 I3 _=>Z3 ?_);have g2:=by
     have q:=get?_update_self (Obj.putSet h H) g1 (by rfl);rwa[putSet_of h H rfl]at q
    exact M O h H _ _ g2 (b1.trans (SameBut.update _ a _)) (P3.trans g) (by rw[e3]at I3;exact I3)
   .rw[if_neg (by simp[hf])];refine Z3 (M O c b _ _ g1 b1 g %[W2,⋯,?_,e3|λ_=>e4]);rw[e1,d];rcases I.small with q|q
    .exact .inl q
    .exact .inr ⋯
  by_cases j:(t.put (way t (tupleKeyHash knd k) m)).1.plain=true
  .rw[if_pos j];exact Z2 (hv _ _ z (e _ Y T U I.led rfl))
  .rw[if_neg j];exact e _ Wq T U (p4.trans I.led) ↑j
end
end STab
namespace L2
open PySem PySem.Spec PyProof.Rows STab
abbrev hW{a:Type}[DecidableEq a](ps:List (Addr×a))(p:Addr×a):List (Addr×a):=if p.2∈ps.map (·.2)then ps else ps++[p]
abbrev be{a:Type}[DecidableEq a](l:List (Addr×a)):List (Addr×a):=l.foldl hW []
section
variable{κ:Type}[DecidableEq κ]
def Ct{ps:List _}{p q:Addr×κ}(h:q∈hW ps p):q∈ps\/q=p:=by
 unfold hW at h
 split at h
 .exact .inl h
 simp_all
def Ah{ps:List (Addr×κ)}{p:Addr×κ}{k:κ}:k∈(hW ps p).map (·.2)↔k∈ps.map (·.2)\/k=p.2:=by
 unfold hW;by_cases h:p.2∈ps.map (·.2)
 .rw[if_pos h];exact%[.inl|λq=>q.elim id λe=>e▸h]
 .rw[if_neg h,Zd,Yt];simp
def xA{ps:List (Addr×κ)}{p:Addr×κ}(h:(ps.map (·.2)).Nodup):((hW ps p).map (·.2)).Nodup:=by
 unfold hW
 split
 .exact h
 .rename_i a
  rw[Zd];exact nV h a
def yy:∀(l ps:List (Addr×κ)),(ps.map (·.2)).Nodup->((l.foldl hW ps).map (·.2)).Nodup/\(∀k,k∈(l.foldl hW ps).map (·.2)↔k∈ps.map (·.2)\/k∈l.map (·.2))/\(∀q∈l.foldl hW ps,q∈ps\/q∈l)
 |[],ps,h=>%[h,λk=>by simp|λq a=> .inl a]
 | p::l,ps,h=>by
   have%[b,c|d]:=yy l _ (xA h);rw[Y8];refine%[b,λk=>?_|λq a=>?_]
   .rw[c,Ah,Yr,Yw]
    grind
   .rcases d q a with z|z
    .rcases Ct z with z|z
     .exact .inl z
     .exact .inr (z▸Zm)
    .exact .inr (Zk _ z)
def d9(l:List (Addr×κ)):((be l).map (·.2)).Nodup:=(yy l [] X6).1
def ic(l:List (Addr×κ))(k:κ):k∈(be l).map (·.2)↔k∈l.map (·.2):=by
 have:=(yy l [] X6).2.1 k;simpa [be]using this
def bv(l:List (Addr×κ)):∀q∈be l,q∈l:=λq a=>by
 rcases(yy l [] X6).2.2 q a with z|z
 .cases z
 .exact z
def uc(val:Nat->Addr×κ)(i:Nat):be ((List.range (i+1)).map val)=hW (be ((List.range i).map val)) (val i):=by
 unfold be;rw[range_succ,Zd,List.foldl_append];rfl
end
section
variable{prog:Program}{w:World}{κ:Type}[DecidableEq κ]{knd:PySem.KeyKind prog w κ}{A:Around}{E:ZD}{s:Shared}{a:Addr}
abbrev ph(w:World)(knd:PySem.KeyKind prog w κ)(a:Addr)(ps:List (Addr×List κ))(h:Heap):Prop:=
 ∃o es b t,h.get? a=some o/\o.ExactSet/\o.data= .set es b t/\IN es t (!aT w)/\es.toList.Perm (ps.map λp=>(tupleKeyHash knd p.2,Value.ref p.1))
def ph.keep(S:ph w knd a ps h)(k:∀o,h.get? a=some o->h'.get? a=some o):ph w knd a ps h':=by
 have%[o,es,b,t,c|r]:=S;exact%[o,es,b,t,k o c|r]
def nZ(x:IsTupleKey knd h k r)(q:∀o,h.get? r=some o->h'.get? r=some o):IsTupleKey knd h' k r:=by
 have%[o,b,n,c|z]:=x;exact%[o,b,n,q o c|z]
def Cu(u:A.units<cLine)(v:ph w knd a ps s.heap)(tk:∀q∈ps,IsTupleKey knd s.heap q.2 q.1)(y:IsTupleKey knd s.heap p.2 p.1)(room:ps.length+1<=1000)
 (B:∀(s':Shared) (l:Bool->Shared->Prop),IsTupleKey knd s'.heap p.2 p.1->l false s'->↥A (hashByValue 8 (.ref p.1)) l E s')
 (m:∀h' b tk,SameBut a s.heap h'->ph w knd a (hW ps p) h'->s.toks<=tk->Q b {s with heap:=h',toks:=tk}):↥A (setAdd a (.ref p.1)) Q E s:=by
 have%[o,es,C,t,n,f,r,I|P]:=v;have Y:=by
  have:=P.length_eq;rw[Z6,Zb]at this;exact this
 have mem:∀i e,es[i]? =some e->∃q∈ps,e=(tupleKeyHash knd q.2,Value.ref q.1):=λi e g=>by
  have:=mem_toList_iff.mpr (Array.mem_of_getElem? g);have%[q,c|rfl]:=Xq (P.mem_iff.mp this);exact%[q,c|rfl]
 have G:EL knd s.heap es:=λi e g=>by
  have%[q,c|rfl]:=mem i e g;exact%[q.1,q.2,rfl|tk q c]
 refine Ag u n r I ⋯ G y B (λ⟨i,H,e,J⟩=>?_) λd h t' j h' g' L M N=>?_
 .have%[q,c|O]:=mem i _ e;have T:H=q.1:=by injection O with _ z;injection z
  subst T;refine m s.heap false _ (SameBut.refl a s.heap) ?_ (le_add_right _ _);unfold hW;rw[if_pos (Xr %[q,c|(J.inj (tk q c)).symm])];exact%[o,es,C,t,n,f,r,I|P]
 .refine m h' true _ L ?_ (le_add_right _ _);unfold hW;rw[if_neg]
  .refine%[_,h,j,t',g',f,rfl,N|M.trans ?_];rw[Zd];exact P.append_right _
  .intro U;have%[q,c|e]:=Xq U;have:=P.mem_iff.mpr (Xr %[q,c|rfl]);have%[i|hi]:=Xg this;exact d i q.1 q.2 ↑hi (tk q c) e
end
section
variable{prog:Program}{w:World}{κ:Type}[DecidableEq κ]{knd:PySem.KeyKind prog w κ}{A:Around}{R:Result->Shared->Prop}{I:Addr}{fp wr:List Addr}{G:Array GenState->Array GenState->Prop}{n:Nat}{P:Nat->Value->Prop}{St:Nat->Shared->Prop}
def qI(W:WalksS prog w A.in1 I fp wr G n P St)(S:Addr)(l:S∉fp)(N:A.in1.units<cLine)(val:Nat->Addr×List κ)(r:∀i v,i<n->P i v->v= .ref (val i).1)(U:List (List κ))(hU:U.length<=999)(z:∀i,i<n->(val i).2∈U)(c:∀i,i<n->(val i).1≠S/\(val i).1∉wr)
 (O:∀i,i<n->∀(s':Shared) (y:Bool->Shared->Prop) (Q:ZD),IsTupleKey knd s'.heap (val i).2 (val i).1->y false s'->↥A.in1 (hashByValue 8 (.ref (val i).1)) y Q s'):
 ∀(k i:Nat) (s:Shared),n-i=k->i<=n->St i s->ph w knd S (be ((List.range i).map val)) s.heap->(∀j,j<n->IsTupleKey knd s.heap (val j).2 (val j).1)->
  (∀s',Moved (S::wr) G s s'->ph w knd S (be ((List.range n).map val)) s'.heap->R (.ok (.ret .none)) s')->codeAny (model prog w) A (.builtin "set.update.loop" %[[.ref S,.ref I]|[]]) R s:=by
 have out:S∉wr:=λh=>l (W.sub _ h)
 have more:∀b∈wr,b∈S::wr:=λb t=>Zk _ t
 intro k
 induction k with
 | zero=>
   intro i s B hi st C tk fin;have e:i=n:=by lia
   subst e;refine codeAny_builtin F.entry_set_update_loop ?_;rw[Around.under_plainId F.plain_set_update_loop _];show wpAny _ A.in1 (pyNext (.ref I)>>= _) _ _ s;refine Z2 (W.done s _ _ st λd g=>?_);show wpAny _ A.in1 (ret Value.none) _ _ d;exact Z3 (fin d (g.mono more) (C.keep λo e=>g.heap S o out e))
 | succ k T=>
   intro i s B hi st C tk fin;have lt:i<n:=by lia
   refine codeAny_builtin F.entry_set_update_loop ?_;rw[Around.under_plainId F.plain_set_update_loop _];show wpAny _ A.in1 (pyNext (.ref I)>>= _) _ _ s;refine Z2 (W.item i s _ _ lt st λv d pv E g=>?_);obtain rfl:=r i v lt pv;have f:∀j,j<n->IsTupleKey knd d.heap (val j).2 (val j).1:=λj a=>nZ (tk j a) λo e=>g.heap _ o (c j a).2 e
   have H:∀q∈be ((List.range i).map val),IsTupleKey knd d.heap q.2 q.1:=λq Y=>by
    have%[j,a|rfl]:=Xq (bv _ q Y);exact f j (by have:=mem_range.mp a;lia)
   have room:(be ((List.range i).map val)).length+1<=1000:=by
    have q:=nodup_sub (d9 ((List.range i).map val)) (m:=U) λk B=>by
     have%[p,hp|rfl]:=Xq ((ic _ k).mp B);have%[j,a|rfl]:=Xq hp;exact z j (by have:=mem_range.mp a;lia)
    rw[Z6]at q
    lia
   refine Z2 (wpAny_holding (Cu (p:=val i) N (C.keep (h':=d.heap) λo e=>g.heap S o out e) H (f i lt) room (λs' y=>O i lt s' y _) λh2 b ab J L u=>Z3 %[plainId_quiet F.plain_set_update_loop _|T (i+1) _ ⋯ lt (W.frame _ d _ _ E u λb t o e=>?_) (by rw[uc];exact L) (λj a=>nZ (f j a) λo e=>(J.2 _ (c j a).1)▸e) λs3 m3 M=>?_]))
   .rw[J.2 b (λq:b=S=>l (q▸t))];exact e
   .refine fin s3 (Moved.trans W.gtrans ((g.mono more).then_heap u λb o t e=>?_) m3) M;rw[J.2 b (λq:b=S=>t (q▸Zm))];exact e
end
section
variable{prog:Program}{w:World}{κ:Type}[DecidableEq κ]{knd:PySem.KeyKind prog w κ}{A:Around}{E:ZD}{s:Shared}
def qJ(hh:A.handled=none)(hu:A.units+16<cLine)(hl:s.heap.IsList l a)(hi:a.toList=ps.map λp=>Value.ref p.1)(tk:∀p∈ps,IsTupleKey knd s.heap p.2 p.1)(U:List (List κ))(hU:U.length<=999)(ab:∀p∈ps,p.2∈U)
 (hv:∀p∈ps,∀(B:Around) (s':Shared) (O:Bool->Shared->Prop) (E':ZD),IsTupleKey knd s'.heap p.2 p.1->O false s'->↥B (hashByValue 8 (.ref p.1)) O E' s')
 (hQ:∀(h':Heap) (tk:Nat),ph w knd ⇑s (be ps) h'->(∀b o,s.heap.get? b=some o->h'.get? b=some o)->Q (.ref ⇑s) {s with heap:=h',toks:=tk}):
 ↥A (call (.type "set") [.ref l]) Q E s:=by
 have%[c,tl|a1]:=called_set.mro;have ac:=called_set.made;have a2:=called_set.sub;refine wpAny_call (codeAny_of_tree ?_);show wpAny _ _ (callAny (.type "set") _) _ _ _;refine Z3 %[Code.quiet_builtin _ (!0)|codeAny_builtin F.entry_type_call ?_];rw[Around.under_plain (weight_type_call_type "set" [.ref l] []) rfl];have a4:=called_set.notType;have a5:=called_set.canCreate;have a6:=PySem.F.typeCall_set_1 (.ref l)
 repeat any_goals first|assumption|wp_step
 refine codeAny_mono (vb (.ref l) (E:=E) (Q₁:=λobj q=>obj= .ref ⇑s/\q={s with heap:=s.heap.push (aU w)}) %[rfl|rfl]) λr q C=>?_
 cases r with
 | error e=>exact C
 | ok fl=>
   cases fl with
   | ret obj=>
     have%[rfl|rfl]:=C;have gS:(s.heap.push (aU w)).get? ⇑s=some (aU w):=Zj _ rfl;have tS:Shared.TypeIs {s with heap:=s.heap.push (aU w)} (.ref ⇑s) "set":=%[_,gS|rfl]
     have a7:=called_set.init.lookup;have bb:=called_set.init.bind (.ref ⇑s)
     repeat any_goals first|assumption|wp_step
     refine codeAny_mono (codeAny_call_builtin (R:=wants (λr t=>r= .none/\∃h' tk,t={s with heap:=h',toks:=tk}/\ph w knd ⇑s (be ps) h'/\(∀b o,s.heap.get? b=some o->h'.get? b=some o)) E) called_set.init.plain F.entry_set_init (check_set_init_1 tS ?_)) λG t f=>?_
     .have%[ol,gl,cl,nl|dl]:=hl;have%[a3,y,ae|m]:=ol;simp only at cl dl;subst cl;subst dl;have ag:(s.heap.push (aU w)).get? l=some {cls:= .type "list",dict:=y,data:= .seq a nl,slots:=m}:=Z7 _ gl;have bc:=PySem.F.sub_list_set;have bf:=PySem.F.sub_list_frozenset;have bl:(Value.type "list"==Value.type "dict")=false:=!1
      have H:(s.heap.push (aU w)).IsList l a:=%[_,ag,rfl,nl|rfl]
      unfold Builtin.«set.__init__»;unfold noKeywords;unfold Builtin.Frozenset.updateFrom
      generalize ai:pyIter=PI
      wp_walk
      subst ai;refine wpAny_pyIter_list H (Z2 (wpAny_runValue ?_));have I:l<⇑s:=Zv gl;have h3:A.in1.in1.in1.handled=none:=by simp[hh]
      have T:(s.heap.push (aU w)).objs.size=⇑s+1:=Zq ..;have aj:l≠(s.heap.push (aU w)).objs.size:=by rw[T];exact Zt (Yo I)
      have al:⇑s∉[(s.heap.push (aU w)).objs.size,l]:=by
       rw[T];simp only[Yw,X8,or_false,not_or];exact%[Zt (Yp _)|X2 I]
      have J:a.size=ps.length:=by rw[<-Zb,hi,Z6]
      have an:A.in1.in1.in1.units<cLine:=by simp only[Around.in1];lia
      have g:∀i,i<a.size->∃p∈ps,ps[i]? =some p/\ps.getD i (0,[])=p:=λi h=>by
       have h':i<ps.length:=by lia
       exact%[ps[i],Ye h',by simp[h']|by simp[Zc,h']]
      refine qI (knd:=knd) ((Walks.list h3 _ l aj a).toS) ⇑s al an (λi=>ps.getD i (0,[])) (λi v d aq=>?_) U hU (λi d=>?_) (λi d=>?_) (λi d=>?_) (a.size-0) 0 _ ⋯ (Xf _)
       %[%[_,Zj _ rfl,rfl|rfl]|H.push _] %[_,#[],0,_,Z7 _ gS,%[rfl,rfl|rfl],rfl,IN.fresh 0 0 _|List.Perm.refl _] (λj d=>?_) ?_
      .have%[p,u,L|n]:=g i d;have:a.toList[i]? =some v:=by rw[getElem?_toList];exact aq
       rw[hi,Zl,L]at this;show v= .ref (ps.getD i (0,[])).1;rw[n];exact(Za this).symm
      .have%[p,u,L|n]:=g i d;show(ps.getD i (0,[])).2∈U;rw[n];exact ab p u
      .have%[p,u,L|n]:=g i d;have%[po,_,_,pg|_]:=tk p u;have M:=Zv pg;show(ps.getD i (0,[])).1≠_/\(ps.getD i (0,[])).1∉_;rw[n];refine%[Zt M|?_];simp only[Yw,X8,or_false,T];exact Zt (Yo M)
      .have%[p,u,L|n]:=g i d;intro s' O E';show IsTupleKey knd s'.heap (ps.getD i (0,[])).2 (ps.getD i (0,[])).1->_->wpAny _ _ (hashByValue 8 (.ref (ps.getD i (0,[])).1)) _ _ _;rw[n];exact hv p u _ s' O E'
      .have%[p,u,L|n]:=g j d;show IsTupleKey knd _ (ps.getD j (0,[])).2 (ps.getD j (0,[])).1;rw[n];exact nZ (tk p u) λo e=>Z7 _ (Z7 _ e)
      intro s3 Y S3;have C:(List.range a.size).map (λi=>ps.getD i (0,[]))=ps:=by
       rw[J];apply ext_getElem
       .simp
       .intro i h1 h2;simp[Zc,h2]
      rw[C]at S3;have%[h',g',d',as|a0]:=s3;have eg:g'=s.gens:=Y.gens;have ed:d'=s.drawn:=Y.drawn;have eo:a0=s.os:=Y.os;subst eg;subst ed;subst eo;refine Z3 ?_;show wpAny _ _ (ret Value.none) _ _ _;refine Z3 %[rfl,h',as,rfl,S3|λb o e=>?_];have N:=Zv e;refine Y.heap b o ?_ (Z7 _ (Z7 _ e));simp only[Yw,X8,or_false,not_or,T];exact%[Zt N|Zt (Yo N)]
     .cases G with
      | error e=>exact f
      | ok z=>
        cases z with
        | ret r=>
          have%[rfl,h',tk,rfl,S3|k3]:=f
          repeat any_goals first|assumption|wp_step
          exact hQ _ _ S3 k3
        | _=>exact f.elim
   | _=>exact C.elim
end
open PySem PySem.Spec PyProof.Rows
section
variable{prog:Program}{w:World}{A:Around}{s:Shared}
def jN{a:Addr}{vs:ZF}{n:Nat}{kd:SortKind}{Nv:Value->Nat}{P:Fin->Shared->Prop}{E:ZD}(z:s.heap.get? a=some (seqObj "list" vs.toArray n))(C:vs.length<=100000)
 (f:∀j:Heap,(∀b o,b≠a->s.heap.get? b=some o->j.get? b=some o)->2<=vs.length->∀Q:SortKind->Shared->Prop,Q kd {s with heap:=j}->↥A (keyKind' vs.toArray) Q E {s with heap:=j})
 (M:∀j:Heap,(∀b o,b≠a->s.heap.get? b=some o->j.get? b=some o)->SBig.Cmp prog w A (λs'=>s'={s with heap:=j}) kd (λx=>x.1∈vs) (λx=>Nv x.1))
 (h:∀out:ZF,out.Perm vs->out.Pairwise (λx y=>Nv x<=Nv y)->P (.done (.ret .none)) {s with heap:=sortedHeap s.heap a vs out.toArray}):
 ↥A (Builtin.«list.sort» %[[.ref a]|[]]) P E s:=by
 rw[list_sort_plain];have I:a<⇑s:=Zv z;have g:vs.length<=sizeLine:=Yh C (!1);refine Z2 (listItems_at z rfl ?_);refine Z2 (listUpdate_at z rfl ?_ (g));obtain⟨G,t⟩:∃G,(s.heap.update a (Obj.mapSeq λ_=> #[])).get? a=some (seqObj "list" #[] G):=%[_|get?_update_seq z (λ_=> #[])]
 refine Z2 (seqEpoch_at t rfl ?_);refine Z2 (wpAny_newTuple ?_ (g));refine Z2 (wpAny_newList ?_);refine wpAny_holding ?_;have keep:∀b o,b≠a->s.heap.get? b=some o->(((s.heap.update a (Obj.mapSeq λ_=> #[])).push (seqObj "tuple" vs.toArray 0)).push (seqObj "list" #[] 0)).get? b=some o:=λb o N e=>
  Z7 _ (Z7 _ ((get?_update_other _ _ (Ne.symm N)).trans e))
 have d:(((s.heap.update a (Obj.mapSeq λ_=> #[])).push (seqObj "tuple" vs.toArray 0)).push (seqObj "list" #[] 0)).get? a=some (seqObj "list" #[] G):=by
  rw[Heap.get?_push_ne _ _ _ (by rw[size_push',Heap.size_update];exact Zt (Yo I)),Heap.get?_push_ne _ _ _ (by rw[Heap.size_update];exact Zt I)];exact t
 have f:=f _ keep;show ↥A _ P E {s with heap:=((s.heap.update a (Obj.mapSeq λ_=> #[])).push (seqObj "tuple" vs.toArray 0)).push (seqObj "list" #[] 0)};dsimp only;have H:vs.toArray.size=vs.length:=by simp
 have u:(vs.toArray.zip vs.toArray).toList=vs.map λv=>(v,v):=by
  rw[Array.toList_zip,List.toList_toArray];apply ext_getElem
  .simp
  .intro i h1 l;simp
 have fin:∀c:SortSt,(arrOf c).toList.Perm (vs.map λv=>(v,v))->SBig.Srt (λx=>Nv x.1) (arrOf c).toList->P (.done (.ret .none)) {s with heap:=(sortedHeap s.heap a vs ((arrOf c).map (·.2)))}:=by
  intro c m B;have J:∀x∈(arrOf c).toList,x.1=x.2:=λx p=>by
   have%[v,_|rfl]:=Xq (m.mem_iff.mp p);rfl
  have e:(arrOf c).map (·.2)=((arrOf c).toList.map (·.2)).toArray:=by
   apply Array.ext';simp
  rw[e];refine h _ ?_ ?_
  .have:=m.map (·.2);rwa[Ys,show((λx:Keyed=>x.2) ∘ λv:Value=>(v,v))=id from rfl,map_id]at this
  .rw[Xa];exact Xh (λ{x y} p O q=>by rw[<-J x p,<-J y O];exact q) B
 by_cases l:vs.toArray.size<2
 .rw[if_pos l,if_pos l];refine Z2 (Z3 ?_);rw[StateT.run_pure];refine Z2 (Z3 ?_);dsimp only;refine Z2 (seqEpoch_at d rfl (Z2 (listUpdate_at d rfl ?_ (hsz2:=by rw[size_map];show(pairsOf vs).size<=_;rw[pairsOf_size,sizeLine_eq];omega))));simp only[bne_self_eq_false,Y0,if_false];refine Z3 (fin _ (by rw[u]) ?_);rw[u]
  match vs,H,l with
  |[],_,_=>exact List.Pairwise.nil
  |[v],_,_=>exact List.pairwise_singleton _ _
  | v1::v2::r,h3,T=>simp at T;omega
 .rw[if_neg l,if_neg l];refine Z2 (f (by omega) _ ?_);refine Z2 (wpAny_mono (SBig.sc_sortRuns (D:=λx=>x.1∈vs) (st:=SortSt.mk' kd (vs.toArray.zip vs.toArray) #[] 7 none) (M _ keep) (λx p=>?_) ?_ rfl rfl
   (Q:=λ_ c=>(arrOf c).toList.Perm (vs.map λv=>(v,v))/\failedOf c=none/\SBig.Srt (λx=>Nv x.1) (arrOf c).toList) (λc U Y a3=>%[?_,a3|Y]) _ rfl) ?_ λ_ _ e=>e.elim)
  .rw[u]at p;have%[v,hv|rfl]:=Xq p;exact hv
  .rw[<-Zb,u,Z6];omega
  .rwa[u]at U
  .rintro⟨⟨⟩,c⟩ s' ⟨rfl,m,L,B⟩;dsimp only at m L B ⊢;refine Z2 (seqEpoch_at d rfl (Z2 (listUpdate_at d rfl ?_ (hsz2:=?_))))
   .rw[L];simp only[bne_self_eq_false,Y0,if_false];exact Z3 (fin c m B)
   .rw[size_map,<-Zb,m.length_eq,Z6];exact Nat.le_succ_of_le g
end
abbrev a8(x y:Str):Bool:=decide (x.cps.toList<y.cps.toList)
abbrev dJ:ZB->ZB->Bool
 |[],[]=>false
 |[],_::_=>true
 | _::_,[]=>false
 | x::xs,y::ys=>if x=y then dJ xs ys else a8 x y
def fR(x:Str):a8 x x=false:=Zh (List.lt_irrefl _)
def G0{x y:Str}(h:x.cps.toList=y.cps.toList):x=y:=by
 obtain⟨⟨l⟩⟩:=x
 simp_all
def gF{x y z:Str}(a:a8 x y=true)(b:a8 y z=true):a8 x z=true:=Zf (List.lt_trans (Zo a) (Zo b))
def gG{x y:Str}(h:a8 x y=false)(a:x≠y):a8 y x=true:=by
 exact Zf (Classical.byContradiction λb=>a (G0 (List.le_antisymm b (of_decide_eq_false h))))
def yz:∀x,dJ x x=false
 |[]=>rfl
 | x::xs=>by rw[dJ,if_pos rfl];exact yz xs
def jv:∀{x y z:ZB},dJ x y=true->dJ y z=true->dJ x z=true
 |[],[],z,b,a=>by cases b
 |[],y::ys,[],b,a=>by cases a
 |[],y::ys,z::zs,b,a=>rfl
 | x::xs,[],z,b,a=>by cases b
 | x::xs,y::ys,[],b,a=>by cases a
 | x::xs,y::ys,z::zs,b,a=>by
   rw[dJ]at b a ⊢;by_cases d:x=y
   .rw[if_pos d]at b;subst d;by_cases c:x=z
    .rw[if_pos c]at a ⊢;exact jv b a
    .rw[if_neg c]at a ⊢;exact a
   .rw[if_neg d]at b;by_cases c:y=z
    .rw[if_pos c]at a;subst c;rw[if_neg d];exact b
    .rw[if_neg c]at a;have f:=gF b a;rw[if_neg (λe=>by rw[e,fR]at f;cases f)];exact f
def mw:∀{x y:ZB},dJ x y=false->x≠y->dJ y x=true
 |[],[],a,c=>absurd rfl c
 |[],y::ys,a,c=>by cases a
 | x::xs,[],a,c=>rfl
 | x::xs,y::ys,a,c=>by
   rw[dJ]at a ⊢;by_cases b:x=y
   .rw[if_pos b]at a;rw[if_pos b.symm];exact mw a λe=>c (by rw[b,e])
   .rw[if_neg b]at a;rw[if_neg (Ne.symm b)];exact gG a b
abbrev gH(ks:List ZB)(k:ZB):Nat:=ks.countP λu=>dJ u k
def kY{ks:List ZB}{x y:ZB}(b:x∈ks):dJ x y=decide (gH ks x<gH ks y):=by
 have up:∀(l:List ZB) p q,(∀u∈l,p u=true->q u=true)->l.countP p<=l.countP q:=λl p q h=>List.countP_mono_left h
 cases h:dJ x y with
 | true=>
   symm
   refine Zf ?_;have c:∀l:List _,x∈l->l.countP (λu=>dJ u x)<l.countP (λu=>dJ u y):=by
    intro l
    induction l with
    | nil=>simp
    | cons u l d=>
      intro b;rw[countP_cons,countP_cons];have le:=up l (λu=>dJ u x) _ λu _ a=>jv a h
      rcases mem_cons.mp b with e|e
      .subst e;rw[if_neg (by rw[yz];simp),if_pos h];omega
      .have:=d e;by_cases a:dJ u x=true
       .rw[if_pos a,if_pos (jv a h)];omega
       .rw[if_neg a]
        split<;> omega
   exact c ks b
 | false=>
   symm
   refine Zh (Nat.not_lt.mpr (up ks _ _ λu _ a=>?_));by_cases e:x=y
   .exact e▸a
   .exact jv a (mw h e)
section
variable{prog:Program}{w:World}{A:Around}{s:Shared}{E:ZD}
nonrec abbrev Ai(prog:Program)(w:World)(h:Heap)(zs:ZB)(r:Addr):Prop:=IsTupleKey (aQ prog w) h (zs.map Sum.inr) r
def gJ:∀{zs:ZB} {vs:ZF},ItemsAre (aQ prog w) (zs.map Sum.inr) vs->StrsAre vs zs
 |[],_,h=>by cases h;exact .nil
 | z::zs,_,h=>by
   cases h with
   | cons a c=>
     have a:jI (Sum.inr z) _=true:=a;rcases bd a with⟨i,t,q1,b⟩|⟨y,t,q1,b⟩
     .cases q1
     .cases q1;subst b;exact .cons z t (gJ c)
def FD{b fin:Bool}{Q:Bool->Shared->Prop}:∀(x y:ZB) (vs us:ZF) (i:Nat),StrsAre vs x->StrsAre us y->(x.length=y.length)->fin=false->Q (dJ x y) s->PySem.W.KatLex prog w A b fin Q (vs.zip us) i s
 |[],[],_,_,i,.nil,.nil,_,a,h=>a▸h
 | x::xs,y::ys,_,_,i,.cons _ t c,.cons _ u d,f,a,h=>by
   rw[List.zip_cons_cons];refine PySem.W.kat_cons (eqBool_str ?_);rw[dJ]at h;by_cases e:x=y
   .subst e;rw[if_pos rfl]at h;rw[beq_self_eq_true];exact PySem.W.kat_yes (FD xs ys _ _ _ c d ↑f a h)
   .rw[if_neg e]at h;rw[beq_eq_false_iff_ne.mpr e];refine PySem.W.kat_no ?_;cases g:(b&&i==0)with
    | true=>exact oneLt_str h
    | false=>exact PySem.W.kat_one _ _ (lt_str h)
def EM{x y:ZB}{r q:Addr}{Q:Bool->Shared->Prop}{b:Bool}(d:Ai prog w s.heap x r)(e:Ai prog w s.heap y q)(f:x.length=y.length)(h:Q (dJ x y) s):↥A (keyLt' (tuples' b) (.ref r) (.ref q)) Q E s:=by
 have%[o,xs,nx,g,_,i|j]:=d;have%[p,ys,t,l,_,m|n]:=e;have a:=gJ j;have c:=gJ n;refine PySem.W.kat_lt g i l m (FD x y _ _ 0 a c f ?_ h);have u:=bA a;have v:=bA c
 grind
end
def vD [DecidableEq d][DecidableEq i](g:d->i)(j:∀a b,g a=g b->a=b)(l:List (Addr×d)):be (l.map λp=>(p.1,g p.2))=(be l).map λp=>(p.1,g p.2):=by
 have m:∀(l ps:List _),(l.map λp=>(p.1,g p.2)).foldl hW (ps.map λp=>(p.1,g p.2))=(l.foldl hW ps).map λp=>(p.1,g p.2):=by
  intro l
  induction l with
  | nil=>intro ps;rfl
  | cons p l n=>
    intro ps;rw[Yr,Y8,Y8];have e:hW (ps.map λp=>(p.1,g p.2)) (p.1,g p.2)=(hW ps p).map λp=>(p.1,g p.2):=by
     unfold hW;have f:(g p.2∈(ps.map λp=>(p.1,g p.2)).map (·.2))↔p.2∈ps.map (·.2):=by
      rw[Ys]
      constructor
      .intro h;have%[q,c|e]:=Xq h;exact Xr %[q,c|j _ _ e]
      .intro h;have%[q,c|e]:=Xq h;exact Xr %[q,c|by show g q.2=g p.2;rw[e]]
     by_cases h:p.2∈ps.map (·.2)
     .rw[if_pos h,if_pos (f.mpr h)]
     .rw[if_neg h,if_neg (λz=>h (f.mp z)),Zd];rfl
    rw[e];exact n _
 exact m l []
noncomputable abbrev ID(p:Addr×ZB):Addr×List Key:=(p.1,p.2.map Sum.inr)
def ud:∀a b:ZB,a.map (Sum.inr:Str->Key)=b.map Sum.inr->a=b
 |[],[],_=>rfl
 |[],_::_,h=>by cases h
 | _::_,[],h=>by cases h
 | x::xs,y::ys,h=>by
   injection h with c d
   injection c with e
   rw[e,ud xs ys d]
section
#where
variable{S:Addr}
def pj:∀{vs:ZF} {zs:ZB},StrsAre vs zs->ItemsAre (aQ prog w) (zs.map Sum.inr) vs
 | _,_,.nil=> .nil
 | _,_,.cons x t h=> .cons (dN x t) (pj h)
def EN(c:zs≠[])(b:Ai prog w s.heap zs r)(h:Q false s):↥A (hashByValue 8 (.ref r)) Q E s:=by
 have d:=b.typeIs;have%[o,a,n,e,_,f|hi]:=b;refine Z2 (wpAny_specialOf d F.slot_tuple_hash.lookup (Z2 (wpAny_seqItems e f (Z2 ?_))));rw[<-forIn_toList]
 match zs,a.toList,(gJ hi),c with
 | z::zs,_,.cons _ t g,_=>
   exact Z2 (Z2 (Z3 (Z3 (Z3 (Z3 h)))))
abbrev kOf(ps:ZG):Value->ZB
 | .ref r=>((ps.find? λp=>p.1==r).map (·.2)).getD []
 | _=>[]
abbrev aOf:Value->Addr
 | .ref r=>r
 | _=>0
def pq(J:∀(E1:ZD) (R:ZF->Shared->Prop),(∀c vs,vs.Perm (ps.map λp=>Value.ref p.1)->(∀b o,s.heap.get? b=some o->c.heap.get? b=some o)->c.gens=s.gens->c.os=s.os->R vs c)->↥A.in1 (collect (.ref S)) R E1 s)(tk:∀p∈ps,Ai prog w s.heap p.2 p.1)(U:∀p∈ps,p.2.length=m)(m0:m≠0)(aj:ps.length<=1000)
 (hQ:∀(c s':Shared) (l:Addr) (ss:ZG) (n:Nat),ss.Perm ps->ss.Pairwise (λa b=>dJ b.2 a.2=false)->(∀b o,s.heap.get? b=some o->c.heap.get? b=some o)->c.gens=s.gens->c.os=s.os->(∀b o,c.heap.get? b=some o->s'.heap.get? b=some o)->s'.gens=c.gens->s'.os=c.os->⇑c<=l->s'.heap.get? l=some {cls:= .type "list",data:= .seq (ss.map λp=>Value.ref p.1).toArray n}->Q (.ref l) s'):
 ↥A (call (.builtin "sorted") [.ref S]) Q E s:=by
 have j:∀p∈ps,kOf ps (.ref p.1)=p.2:=λp d=>by
  show((ps.find? λq=>q.1==p.1).map (·.2)).getD []=p.2;cases r:ps.find? λq=>q.1==p.1 with
  | none=>
    have:=List.find?_eq_none.mp r p d;simp at this
  | some q=>
    have B:=List.mem_of_find?_eq_some r;have e:q.1=p.1:=by have:=List.find?_some r;simpa using this
    show q.2=p.2;have t1:=tk q B;rw[e]at t1;exact ud _ _ (t1.inj (tk p d))
 refine Calls.call_function_entry kind_sorted plain_sorted entry_sorted (args_sorted1 _) ?_;unfold Builtin.«sorted»;refine Z2 (m:=checkCount "sorted" 1 1 _) (Z3 ?_);refine Z2 (J _ _ λc vs Y k1 g1 o1=>?_);have hl:vs.length=ps.length:=by rw[Y.length_eq,Z6]
 have mem:∀v∈vs,∃p∈ps,v=Value.ref p.1:=λv C=>by
  have%[p,d|rfl]:=Xq (Y.mem_iff.mp C);exact%[p,d|rfl]
 refine Z2 (wpAny_newList ?_ (by rw[sizeLine_eq];lia));have gL:(c.heap.push (seqObj "list" vs.toArray 0)).get? ⇑c=some (seqObj "list" vs.toArray 0):=Zj _ rfl;have G:∀p∈ps,∀i:Heap,(∀b o,b≠⇑c->(c.heap.push (seqObj "list" vs.toArray 0)).get? b=some o->i.get? b=some o)->Ai prog w i p.2 p.1:=λp d i I=>by
  refine nZ (tk p d) λo e=>?_
  have L:=k1 _ _ e;exact I _ _ (Zt (Zv L)) (Z7 _ L)
 refine Z2 (wpAny_holding (wpAny_call_entry slot_list_sort %[_,gL|rfl] entry_list_sort (jN (s:={c with heap:=c.heap.push (seqObj "list" vs.toArray 0)}) (kd:=tuples' true) (Nv:=λv=>gH (ps.map (·.2)) (kOf ps v)) gL ⋯ (λi I al Q6 ab=>?_) (λi I=>?_) λout p1 p2=>%[_,rfl|?_]) (args_list_sort _)))
 .have tups:∀l:ZF,(∀v∈l,∃p∈ps,v=Value.ref p.1)->∃fs:ZF,KatTups i l fs/\fs.length=l.length/\∀f∈fs,∃z t,f=Value.str z t:=by
   intro l
   induction l with
   | nil=>intro _;exact%[[],KatTups.nil,rfl|λf r=>by cases r]
   | cons v l ih=>
     intro C;have%[fs,f1,f2|f3]:=ih λu hu=>C u (Zk _ hu)
     have%[p,d|rfl]:=C v Zm;have%[o',g,n',g',c',d'|i']:=G p d i I;have h:=gJ i';have ac:p.2≠[]:=λe=>by have:=U p d;rw[e]at this;exact m0 this.symm
     obtain⟨z,zs,ez⟩:∃z zs,p.2=z::zs:=by
      cases ae:p.2 with
      | nil=>exact absurd ae ac
      | cons z zs=>exact%[z,zs|rfl]
     rw[ez]at h;obtain⟨t',vr,ev⟩:∃t' vr,g.toList=Value.str z t'::vr:=by
      cases M:g.toList with
      | nil=>rw[M]at h;cases h
      | cons a b=>
        rw[M]at h;cases h with
        | cons _ t' _=>exact%[t',b|rfl]
     have e0:g[0]? =some (Value.str z t'):=by
      have:g.toList[0]? =some (Value.str z t'):=by rw[ev];rfl
      simpa using this
     exact⟨Value.str z t'::fs,KatTups.cons g' c' d' e0 f1,by simp[f2],λf r=>by
      rcases mem_cons.mp r with e|e
      .exact%[z,t'|e]
      .exact f3 f e⟩
  have%[fs,f1,f2|f3]:=tups vs mem;refine PySem.W.kat_kind (T:= .type "str") f1 ⋯ (λf r=>?_) (!1) ab;have%[z,t'|rfl]:=f3 f r;exact Looks.of_pure rfl
 .intro x y s' hx hy h;subst h;have%[p,d|ag]:=mem _ hx;have%[q,B|ai]:=mem _ hy;have%[x1|x2]:=x;have%[y1|y2]:=y;obtain rfl:x1=Value.ref p.1:=ag;obtain rfl:y1=Value.ref q.1:=ai;show ↥A.in1.in1 (keyLt' (tuples' true) (Value.ref p.1) (Value.ref q.1)) (λb s'=>b=decide (gH (ps.map (·.2)) (kOf ps (Value.ref p.1))<gH (ps.map (·.2)) (kOf ps (Value.ref q.1)))/\s'={c with heap:=i}) (λ_ _=>False) {c with heap:=i};rw[j p d,j q B];refine EM (s:={c with heap:=i}) (G p d i I) (G q B i I) (by rw[U p d,U q B]) %[?_|rfl];exact kY (Xr %[p,d|rfl])
 .have O:out.Perm (ps.map λp=>Value.ref p.1):=p1.trans Y;have oe:out=(out.map λv=>(aOf v,kOf ps v)).map λp=>Value.ref p.1:=by
   rw[Ys];refine(map_id out).symm.trans (Yq λv C=>?_);have%[p,d|rfl]:=Xq (O.mem_iff.mp C);rfl
  obtain⟨n,gl⟩:∃n,(sortedHeap (c.heap.push (seqObj "list" vs.toArray 0)) ⇑c vs out.toArray).get? ⇑c=some (seqObj "list" out.toArray n):=sortedHeap_at gL;refine Z3 %[_,rfl|hQ c _ ⇑c (out.map λv=>(aOf v,kOf ps v)) n ?_ ?_ k1 g1 o1 (λb o' L=>?_) rfl rfl (Zi _) ?_]
  .have:=O.map λv=>(aOf v,kOf ps v)
   rw[Ys]at this;refine this.trans ?_;have:(ps.map ((λv=>(aOf v,kOf ps v)) ∘ λp=>Value.ref p.1))=ps:=by
    refine(Yq λp d=>?_).trans (map_id ps);show(p.1,kOf ps (.ref p.1))=p;rw[j p d]
   rw[this]
  .rw[Xa];refine Xh (λ{u v} hu C H=>?_) p2;have%[p,d|rfl]:=Xq (O.mem_iff.mp hu);have%[q,B|rfl]:=Xq (O.mem_iff.mp C);show dJ (kOf ps (.ref q.1)) (kOf ps (.ref p.1))=false;have H:gH (ps.map (·.2)) (kOf ps (.ref p.1))<=gH (ps.map (·.2)) (kOf ps (.ref q.1)):=H;rw[j p d,j q B]at H ⊢;rw[kY (ks:=ps.map (·.2)) (Xr %[q,B|rfl])];exact Zh ⋯
  .have N:=Zv L;show(sortedHeap _ _ _ _).get? b=_;rw[sortedHeap_old (Zt N) (by rw[Zq];exact Yo N)];exact Z7 _ L
  .have e3:(seqObj "list" out.toArray n)=({cls:= .type "list",data:= .seq ((out.map λv=>(aOf v,kOf ps v)).map λp=>Value.ref p.1).toArray n}:Obj):=by
    rw[(congrArg List.toArray oe.symm)]
   exact gl.trans (congrArg some e3)
end
section
variable{X:Cx}{K:ZA}
abbrev pA(P:Program)(w:World)(a:Addr)(ps:ZG):HO:= .ext (ph w (aQ P w) a (ps.map ID))
abbrev ba(H:Hp)(ps:ZG):Prop:=∀p∈ps,p.2≠[]/\H p.1=some (.tup (p.2.map V.str))
def ue(I:Inv X pins f H s)(h:ba H ps):∀p∈ps,Ai X.prog X.w s.heap p.2 p.1:=λp a=>by
 have%[_,its,b,o,c,d,n|e]:=I.hok p.1 _ (h p a).2;exact%[o,its.toArray,n,c,d,e|pj (gU b)]
def uf:∀{ps:ZG} {us:ZF},aK (ps.map λp=>V.ref p.1) us->us=ps.map λp=>Value.ref p.1
 |[],_,.nil=>rfl
 | _::_,_,.cons r t=>by
   cases r;rw[uf t];rfl
def ug:∀(ps:ZG),aK (ps.map λp=>V.ref p.1) (ps.map λp=>Value.ref p.1)
 |[]=> .nil
 | _::ps=> .cons rfl (ug ps)
def Aj(j:X.calm=true)(C:X.A.units+64<cLine):ck X (.type "set") (λxs H Q=>∃p ps,xs=[.ref p]/\SqL X.K H p (ps.map λq=>V.ref q.1)/\ba H ps/\(∃U:List _,U.length<=999/\∀q∈ps,q.2∈U)/\∀l,H l=none->Q (.ref l) (upd H l (pA X.prog X.w l (be ps)))):=by
 intro pins s E H xs us Q I r h;have%[p,ps,rfl,m,g,%[U,G|d]|q]:=h;have%[u,rfl|n]:=du r;cases n;have%[its,t,pl|J]:=I.list m;have v:=uf t;refine qJ (knd:=aQ X.prog X.w) (I.ok.hd j) ⋯ pl.isList (ps:=ps.map ID) (!2) (λi a=>?_) (U.map λz=>z.map Sum.inr) (!2) (λi a=>?_) (λi a B s' L M e f=>?_) λh' w S k=>?_
 .have%[b,c|rfl]:=Xq a;exact(ue I g) b c
 .have%[b,c|rfl]:=Xq a;exact Xr %[b.2,d b c|rfl]
 .have%[b,c|rfl]:=Xq a;exact EN (g b c).1 e f
 .rw[(vD _ ud ps)]at S;refine%[.ref ⇑s,_,I.laid (o:=pA X.prog X.w ⇑s _) k (Zi _) %[S,?_|λN O y k1=>ph.keep y k1],rfl|q _ I.fresh];have%[o,_,_,_,A|_]:=S;exact%[o|A]
def uh(v:X.calm=true):ck X (.builtin "sorted") (λxs H Q=>∃a ps m,xs=[.ref a]/\H a=some (pA X.prog X.w a ps)/\ba H ps/\(∀p∈ps,p.2.length=m)/\m≠0/\ps.length<=1000/\
 ∀l (ss:List _),H l=none->ss.Perm ps->ss.Pairwise (λa b=>dJ b.2 a.2=false)->Q (.ref l) (upd H l (.lst (ss.map λp=>V.ref p.1)))):=by
 intro pins s N H xs us Q I r h;have%[a,ps,m,rfl,w,y,z,A,d|q]:=h;have%[u,rfl|B]:=du r;cases B;have%[%[o,es,O,t,C,e,E,J|P],_|_]:=(I.hok a _ w)
 have T:es.size=ps.length:=by
  have:=P.length_eq
  simp_all
 have pv:(es.toList.map (·.2)).Perm (ps.map λp=>Value.ref p.1):=by
  have:=P.map (·.2);rw[Ys,Ys]at this;exact this
 refine pq (λU R G=>kM (I.ok.hd v) C e E (by show es.size<4096;lia) J.fits J.plain J.led λi vs q1 k1 g1 f _=>G i vs (q1.trans pv) k1 g1 f) (ue I y) z A d λi s' l ss n j L k1 g1 f k g o c M=>?_
 have I:=I.keptS k1 g1 f;refine%[.ref l,_,I.stoodS (o:= .lst _) (I.keptS k g o) c %[?_,ss.map _,n,ug ss|M],rfl|q l ss (I.hok.fresh c) j L];rw[Z6,j.length_eq,sizeLine_eq]
 lia
def Cv{P:Program}(h:X.K=K)(c:X.prog=P)(hw:X.w=w)(a:X.calm=true)(b:cn k X.A):cJ X (.type "set") (λxs H Q=>∃p ps,xs=[.ref p]/\SqL K H p (ps.map λq=>V.ref q.1)/\ba H ps/\(∃U:List ZB,U.length<=999/\∀q∈ps,q.2∈U)/\∀l,H l=none->Q (.ref l) (upd H l (pA P w l (be ps)))):=by
 subst h;subst hw;exact⟨Aj a b.units⟩
def r8{P:Program}(d:X.prog=P)(hw:X.w=w)(c:X.calm=true):cJ X (.builtin "sorted") (λxs H Q=>∃a ps m,xs=[.ref a]/\H a=some (pA P w a ps)/\ba H ps/\(∀p∈ps,p.2.length=m)/\m≠0/\ps.length<=1000/\
 ∀(l:Addr) (ss:ZG),H l=none->ss.Perm ps->ss.Pairwise (λa b=>dJ b.2 a.2=false)->Q (.ref l) (upd H l (.lst (ss.map λp=>V.ref p.1)))):=by
 subst hw;exact⟨uh c⟩
end
abbrev Ak(K:ZA)(a b:Addr):It:=⟨λi H=>∃xs ys x y,SqL K H a xs/\SqL K H b ys/\xs[i]? =some x/\ys[i]? =some y,
 λi H v c=>∃T x y,H T=none/\v= .ref T/\c=upd H T (.tup [x,y])/\(∀xs,SqL K H a xs->xs[i]? =some x)/\(∀ys,SqL K H b ys->ys[i]? =some y),
 λi H=>∃xs ys,SqL K H a xs/\SqL K H b ys/\i<=xs.length/\i<=ys.length/\(i=xs.length\/i=ys.length)⟩
def Al{P:Program}{K:ZA}(z TI TO i1 i2 l1 l2:Addr)(D:ZipApart z TI TO i1 i2 l1 l2):
 oi P w K (.Tuple elts kt tp) (Ak K l1 l2) [z,TI,TO,i1,i2] z (ZSt z TI TO i1 i2 (λi h=>h.IsListIter i1 l1 i) (λi h=>h.IsListIter i2 l2 i)) where
 mem:=by simp
 obj:=λi h st b hb=>by
  have%[hz,hTI,%[a,c|hTO],%[o1,e1,_|d1],o2,e2,_|d2]:=st
  grind
 keep:=λi h h' st k=>by
  have%[hz,hTI,%[a,c|hTO],%[o1,e1|r1],o2,e2|r2]:=st;exact%[k z ∅ _ hz,k TI ∅ _ hTI,%[a,c|k TO ∅ _ hTO],%[o1,k i1 ∅ _ e1|r1],o2,k i2 ∅ _ e2|r2]
 item:=by
  intro X hP hw hK hc i pins s σ H E I hf st hg;subst hP hw hK;have%[hz,hTI,%[a,c|hTO],h1|h2]:=st;have%[xs,ys,x,y,hq1,hq2,hx|hy]:=hg;have%[its1,rv1,pl1|hz1]:=I.list hq1;have%[its2,rv2,pl2|hz2]:=I.list hq2;have%[u1,hu1|ru1]:=rv1.get hx;have%[u2,hu2|ru2]:=rv2.get hy;refine wpAny_pyNext_zip_item D hz hTI hTO h1 h2 pl1.isList pl2.isList (x:=u1) (y:=u2) ↑hu1 ↑hu2 λh' a1 a2 a3 a4 a5 a6 hk=>%[_,rfl|wpAny_letOwnedTupleGo_zip (s:={s with heap:=h'}) a1 λh'' hz'' sb=>?_]
  replace sb:SameBut z h' h'':=sb;have turn1:Inv X pins σ H {s with heap:=h''}:=by
   have nit:∀b v,H b=some v->b∉[z,TI,TO,i1,i2]:=λb v e hb=>by rw[(hf b hb).1]at e;cases e
   have kk:∀b o,b∉[z,TI,TO,i1,i2]->s.heap.get? b=some o->h''.get? b=some o:=λb o hb e=>by
    simp only[Yw,X8,or_false,not_or]at hb;exact(sb.2 b hb.1).trans (hk b o hb.1 hb.2.2.1 hb.2.2.2.1 hb.2.2.2.2 e)
   refine I.step (g':=s.gens) (d':=s.drawn) (ch:=[z,TI,TO,i1,i2]) (λb hb=>%[(hf b hb).2.2.2.1,(hf b hb).2.1,(hf b hb).2.2.2.2.1|(hf b hb).2.2.2.2.2]) (λb o _ _ hc e _=>kk b o hc e) (λb o _ _ hc e _=>%[o.slots|kk b o hc e]) (λ_ _ _ _ n=>n)
    (λb o hc e=>%[o|kk b o hc e]) (λ_ _ e=>e) (λ_ _ _ e=>e) (λb ps e=>%[#[]|by rw[e];simp]) (λm hm=>?_) (λb v e=>?_) I.bare
   .have%[o,es,ep,ho|r]:=hm;exact%[o,es,ep,kk _ o (λhb=>(hf _ hb).2.1 rfl) ho|r]
   .refine(I.hok b v e).stay (λc' v' hc' q=>kk c' v' ?_ q) (λ_ q=>q) λ_ _ q=>q
    rcases hc' with q'|q'
    .exact q'▸nit b v e
    .exact nit c' _ q'
  have Hn:H ⇑s=none:=I.fresh;have I2:Inv X pins σ (upd H ⇑s (.tup [x,y])) {s with heap:=h''}:=by
   have nf:⇑s∉X.fs:=I.nofs (Zi _);refine%[turn1.ok,turn1.os,turn1.bare,?_,turn1.loc,turn1.cell,?_,?_,?_,?_|turn1.len]
   .refine%[turn1.base.keep,turn1.base.slot,λb o e n hx=>?_,turn1.base.there,λb xs e=>?_,λb o v e=>?_|λb ps e=>?_]
    .rw[am ((λb o e=>Zt (Zg (Zv e) I.sz)) b o e)];exact turn1.base.free b o e n hx
    .rw[am (ay (turn1.base.tups b xs e) Hn)];exact turn1.base.tups b xs e
    .rw[am (ay (turn1.base.frzs b o v e) Hn)];exact turn1.base.frzs b o v e
    .have%[m|q]:=turn1.base.tbls b ps e;exact%[m|(am (ay q Hn))▸q]
   .rw[am (Zt I.lt)];exact turn1.free
   .intro x' c' e;have%[v'|q]:=I.cell x' c' e;rw[am (Zt q.lt)];exact turn1.freeC x' c' e
   .intro p hp;have%[e,n|r]:=turn1.pin p hp;refine%[e,?_|r];rw[am (Zt (Zv (I.pin p hp).1))];exact n
   .intro b v e;by_cases hb:b=⇑s
    .subst hb;rw[aa]at e;cases e;exact%[by show 2<=sizeLine;decide,[u1,u2],.cons ru1 (.cons ru2 .nil),_,((sb.2 _ (X2 (Zv hz))).trans a5),rfl,_|rfl]
    .rw[am hb]at e;refine(turn1.hok b v e).stay (λ_ _ _ q=>q) (λc' q=>?_) λc' xs q=>?_
     .rw[am (ay q Hn)];exact q
     .rw[am (ay q Hn)];exact q
  refine%[.ref ⇑s,_,I2,rfl,%[_,x,y,Hn,rfl,rfl,λzs hzs=>(I.list_inj hzs hq1)▸hx|λzs hzs=>(I.list_inj hzs hq2)▸hy],%[hz'',(sb.2 _ D.TIz).trans (hk _ _ D.TIz D.TITO D.TIi1 D.TIi2 hTI),%[_,_|(sb.2 _ D.TOz).trans a2],?_|?_]|λb hb=>?_]
  .have%[o,e|r]:=a3;exact%[o,(sb.2 _ D.i1z).trans e|r]
  .have%[o,e|r]:=a4;exact%[o,(sb.2 _ D.i2z).trans e|r]
  .have:b<⇑s:=by
    simp only[Yw,X8,or_false]at hb;have%[o1,q1|_]:=h1;have%[o2,q2|_]:=h2;rcases hb with rfl|rfl|rfl|rfl|rfl
    .exact Zv hz
    .exact Zv hTI
    .exact Zv hTO
    .exact Zv q1
    .exact Zv q2
   rw[am (Zt this)];exact(hf b hb).1
 done:=by
  intro X hP hw hK hc i pins s σ H E I hf st hg;subst hP hw hK;have%[hz,hTI,%[a,c|hTO],h1|h2]:=st;have%[xs,ys,hq1,hq2,g1,g2|g3]:=hg;have%[its1,rv1,pl1|hz1]:=I.list hq1;have%[its2,rv2,pl2|hz2]:=I.list hq2;have n1:=rv1.length;have n2:=rv2.length;refine wpAny_pyNext_zip_end (I.ok.hd hc) D hz hTI hTO h1 h2 pl1.isList pl2.isList (by
   rcases g3 with q|q
   .exact .inl (by simp;lia)
   .exact .inr (by simp;lia)) λh' hk=>%[rfl|?_]
  have nit:∀b v,H b=some v->b∉[z,TI,TO,i1,i2]:=λb v e hb=>by rw[(hf b hb).1]at e;cases e
  have kk:∀b o,b∉[z,TI,TO,i1,i2]->s.heap.get? b=some o->h'.get? b=some o:=λb o hb e=>by
   simp only[Yw,X8,or_false,not_or]at hb;exact hk b o hb.1 hb.2.2.1 hb.2.2.2.1 hb.2.2.2.2 e
  refine I.step (λb hb=>%[(hf b hb).2.2.2.1,(hf b hb).2.1,(hf b hb).2.2.2.2.1|(hf b hb).2.2.2.2.2]) (λb o _ _ hc e _=>kk b o hc e) (λb o _ _ hc e _=>%[o.slots|kk b o hc e]) (λ_ _ _ _ n=>n)
   (λb o hc e=>%[o|kk b o hc e]) (λ_ _ e=>e) (λ_ _ _ e=>e) (λb ps e=>%[#[]|by rw[e];simp]) (λm hm=>?_) (λb v e=>?_) I.bare
  .have%[o',es,ep,ho'|r]:=hm;exact%[o',es,ep,kk _ o' (λhb=>(hf _ hb).2.1 rfl) ho'|r]
  .refine(I.hok b v e).stay (λc' v' hc' q=>kk c' v' ?_ q) (λ_ q=>q) λ_ _ q=>q
   rcases hc' with q'|q'
   .exact q'▸nit b v e
   .exact nit c' _ q'
 self:=λ_ _ _ _ _ st h=>wpAny_pyIter_zip st.1 h
abbrev FE(K:ZA)(d:TA):TI:=λe H R=>d e H λvs c=>∃a b,vs=[.ref a,.ref b]/\(∃xs,SqL K c a xs)/\(∃ys,SqL K c b ys)/\R (Ak K a b) c
section
variable{X:Cx}{K:ZA}{pos:Pos}
def IE(G:X.K=K){J p:Pos}{a b:Expr}{z:TA}(L:Gl X "zip")(M:X.mg "zip"=none)(N:bg a=false)(m:bg b=false)(O:QA X [a,b] z):
 QI X (.Tuple A kt J) (.Call (.Name "zip" p) [a,b] [] pos) (FE K z):=by
 subst G
 constructor
 intro pins s Q H R I h;refine Call_ (jW I L M boot_zip (PyProof.Rows.callWith_type1 (thP (O.h pos pins s Q H _ I h) λus c vs T d U q1=>?_) (aG N) (by rw[aG m];rfl)));have%[n,r,e,%[xs|t],%[ys|u]|q]:=q1;subst e;have%[u1,u2,rfl,Y|e2]:=kz U;cases Y;cases e2;have%[B,ab,f|ac]:=d.list t;have%[its2,ae,g|ag]:=d.list u;refine call_zip_2 f.isList g.isList λh1 C v w hi1 hi2 _ hk=>wpAny_pyIter_zip C ?_
 have ne:∀i j,i≠j->⇑c+i≠⇑c+j:=λi j h e=>h (Nat.add_left_cancel e)
 have na:∀i,n≠⇑c+i:=λi=>Zt (Zg (by have%[o,y|_]:=f.isList;exact Zv y) (le_add_right _ _))
 have nb:∀i,r≠⇑c+i:=λi=>Zt (Zg (by have%[o,y|_]:=g.isList;exact Zv y) (le_add_right _ _))
 refine%[⇑c+4,[⇑c+4,⇑c+2,⇑c+3,⇑c+0,⇑c+1],_,Ak X.K n r,T,rfl,(d.kept hk),
  Al _ _ _ _ _ n r %[ne 2 4 (!1),ne 3 4 (!1),ne 0 4 (!1),ne 1 4 (!1),ne 2 3 (!1),ne 2 0 (!1),ne 2 1 (!1),ne 3 0 (!1),ne 3 1 (!1),ne 0 1 (!1),na 4,na 3,na 0,na 1,nb 4,nb 3,nb 0|nb 1],
  %[C,v,%[_,_|w],hi1|hi2],λb E=>?_|q]
 have l:⇑c<=b:=by
  simp only[Yw,X8,or_false]at E;rcases E with rfl|rfl|rfl|rfl|rfl<;> exact le_add_right _ _
 exact d.fpOk l (d.hok.fresh l)
end
open PySem PySem.Spec PySem.Calls PyProof.Rows PyProof.V PySem.W
section
#where
variable{d it:Addr}{es:Array DictEntry}{ep i:Nat}
end
section
#where
variable{S:Addr}
end
section
variable{X:Cx}{K:ZA}
end
section
variable{X:Cx}
def iH(c:cn k X.A)(d:swapsWith a (some (.Subscript o i b)) pos.line X.env=pure false)(e:QE X a f)(g:QE X o h)(hi:QE X i ty):QS X (.Assign [.Subscript o i b] a pos) (ot h ty f):=
 ⟨El (by have:=c.units;lia) g.h hi.h e.h d⟩
def Am [DecidableEq c](a:List (c×V))(k:c)(v:V):(cX a k v).map (·.1)=if k∈a.map (·.1)then a.map (·.1)else a.map (·.1) ++[k]:=by
 unfold cX;have e:(a.any λb=>decide (b.1=k))=true↔k∈a.map (·.1):=by
  grind
 by_cases h:k∈a.map (·.1)
 .rw[if_pos (e.mpr h),if_pos h,Ys];refine Yq λb _=>?_
  show(if b.1=k then(b.1,v)else b).1=b.1
  split<;> rfl
 .rw[if_neg (λz=>h (e.mp z)),if_neg h,Zd];rfl
end
structure vE (K:ZA) (mg:ZC) (x:Str):Prop where
 at_:mg x=some (.ref (cI mg x))
 cls:Cls K (cI mg x)
structure vF (K:ZA) (mg:ZC) (x m qual:Str) (st:Stmt) (ps:ZB):Prop where
 ex:∃f fd,DS K (cI mg x) m f/\Fun K m qual st f fd/\fN K fd ps []
structure Cw (K:ZA) (mg:ZC) (x qual:Str) (st:Stmt) (ps:ZB):Prop where
 ex:∃f fd,Mk K (cI mg x) f/\Fun K "__init__" qual st f fd/\fN K fd ps []
structure Ao (P:Program) (w:World) (K:ZA) (mg:ZC) (base:Heap) (k:Nat) (x m:Str) (ps:ZB) (sp:Sp):Prop where
 ex:∃f fd,eL P w K mg base CX0 k f fd ps sp/\DS K (cI mg x) m f/\fN K fd ps []
structure EO (P:Program) (w:World) (K:ZA) (mg:ZC) (base:Heap) (k:Nat) (x:Str) (ps:ZB) (sp:Sp):Prop where
 ex:∃f fd,eL P w K mg base CX0 k f fd ps sp/\Mk K (cI mg x) f/\fN K fd ps []
section
variable{P:Program}{w:World}{K:ZA}{mg:ZC}{base:Heap}{x m qual:Str}{st:Stmt}{N ps:ZB}{k:Nat}{sp:Sp}
def vF.cal(D:vF K mg x m qual st ps)(S:ax N ps (ar st))
 (a:∀(H:Hp) (vs:List V) (Q:VK) (E:XK),sp vs H Q E->vs.length=ps.length/\∀(f:Addr) (b:Value) (A:Around) (outer:List Env) (s:Shared),cn k (A.deeper (envOfC qual (ar st) ⇑s f b))->
  ∃t,PSs (tz CX0 P w K mg base N qual (ar st) f b A outer s H E).nox (b8 st) t/\t {nx:=λ_ c=>Q .non c,rt:=Q} (start N vs) H):Ao P w K mg base (k+1) x m ps sp:=by
 have%[f,d,e,F|g]:=D.ex;exact%[f,d,F.ok S (λv H Q E h=>(a H v Q E h).1) (λb A o s H v Q E r h=>(a H v Q E h).2 f b A o s r),e|g]
def Cw.cal(D:Cw K mg x qual st ps)(S:ax N ps (ar st))
 (a:∀(H:Hp) (vs:List V) (Q:VK) (E:XK),sp vs H Q E->vs.length=ps.length/\∀(f:Addr) (b:Value) (A:Around) (outer:List Env) (s:Shared),cn k (A.deeper (envOfC qual (ar st) ⇑s f b))->
  ∃t,PSs (tz CX0 P w K mg base N qual (ar st) f b A outer s H E).nox (b8 st) t/\t {nx:=λ_ c=>Q .non c,rt:=Q} (start N vs) H):EO P w K mg base (k+1) x ps sp:=by
 have%[f,d,e,F|g]:=D.ex;exact%[f,d,F.ok S (λv H Q E h=>(a H v Q E h).1) (λb A o s H v Q E r h=>(a H v Q E h).2 f b A o s r),e|g]
end
section
variable{X:Cx}{K:ZA}{j k:Nat}{x m:Str}{ps:ZB}{sp:Sp}{p pos apos:Pos}{o e:Expr}{es:List Expr}{to te:TE}{t:TA}
def G1(C:Ao X.prog X.w X.K X.mg X.base j x m ps sp)(c:vE X.K X.mg x)(d:cn k X.A)(a:Nat.ble j k=true)
 (g:eval (.Call (.Attribute o m apos) [] [] pos) X.env=(do
  let b<-eval o X.env
  standAt apos.atName
  let(f,first)<-holding [b] (getMethod b m pl)
  callWith pos f first (backTo pos (starEach [] X.env)) (backToKw pos (keywordEach [] X.env)))) (h:QE X o to):QE X (.Call (.Attribute o m apos) [] [] pos) (x6 (cI X.mg x) m sp [] E0 to zE):=by
 have%[f,n,F,i|l]:=C.ex;exact⟨Bz h.h c.cls i F (d.mono (Nat.le_of_ble_eq_true a)) l .nil BK g⟩
def IF(C:EO X.prog X.w X.K X.mg X.base j x ps sp)(c:vE X.K X.mg x)(g:cn k X.A)(h:Gl X x)(a:Nat.ble (j+1) k=true)(b:(x==("__debug__"))=false)(d:(e::es).any bg=false)(i:QA X (e::es) t):
 QE X (.Call (.Name x p) (e::es) [] pos) (x8 (cI X.mg x) sp [] E0 t):=by
 have%[f,q,F,l|n]:=C.ex;rw[Zy,X9]at d;exact⟨DW l F (g.mono (Nat.le_of_ble_eq_true a)) h c.at_ n .nil BK i.h b (aG d.1) (gW d.2)⟩
def G3(h:X.K=K)(a:gY o=false)(b:QE X o to):QE X (.Attribute o f pos) (Gc K to f):=by
 subst h;exact⟨Ge b.h (fP a)⟩
def EQ(h:X.K=K)(c:gX a=false)(d:QE X o to)(g:QE X a i):QS X (.Assign [.Attribute o f b] a pos) (Gd K to i f):=by
 subst h;exact⟨Gf d.h g.h (kI c)⟩
end
structure GvT (K:ZA) (mg:ZC) (x:Str) (xs:List V):Prop where
 ex:∃a,mg x=some (.ref a)/\∀H,SqT K H a xs
def Cy{K:ZA}{h:Heap}{o:Obj}{its:ZJ}{n:Nat}(X:K.In h)(G:h.Ns mainGlobals mg)(z:nsIn K mainGlobals x=some (some (.ref a)))
 (b:K.lookup a=some o) (c:o.cls= .type "tuple") (d:o.data= .seq its n) (e:its.size<=sizeLine) (r:aK xs its.toList):GvT K mg x xs:=
 %[a,mg_of X G z|λ_=> .inr %[o,its,n,b,c,d,e|r]]
def IG{X:Cx}{K:ZA}{x:Str}(h:X.K=K)(g:GvT K X.mg x xs)(b:Gl X x)(c:(x==("__debug__":Str))=false):QE X (.Name x pos) (λ_ H Q=>∀a,(∀d,SqT K d a xs)->Q (.ref a) H):=by
 have%[a,e|f]:=g.ex;refine⟨λpins s i H Q I q=>Fu (v:= .ref a) %[.ref a,e|rfl] b c pins s i H Q I (q a f)⟩
def tryN{X:Cx}(c:∀e s,X.xe e s->False)(d:QSs X a g):QS X (.Try a [h] [] [] pos) g:=by
 refine⟨λpins s i H D I q=>wpAny_Try_except (wpAny_mono (d.h pins s i H D I q) (λf b q=>?_) λe b q=>(c e b q).elim)⟩;cases f with
 | next=>exact wpAny_execs_nil q
 | brk=>exact q
 | cont=>exact q
 | ret u=>exact q
section
variable{X:Cx}{K:ZA}
end
def pE(x y:Str):dJ [x] [y]=a8 x y:=by
 show(if x=y then false else a8 x y)=a8 x y
 split
 .rename_i e;rw[e,fR]
 .rfl
section
#where
variable{S:Addr}
def nh{ks:ZB}{Q:ZD}(h:∀(T:ZD) (R:ZF->Shared->Prop),(∀c us f,StrsAre us f->f.Perm ks->(∀b o,s.heap.get? b=some o->c.heap.get? b=some o)->c.gens=s.gens->c.os=s.os->R us c)->↥A.in1 (collect (.ref S)) R T s)(i:ks.length<=1000)
 (U:∀(c s':Shared) (l:Addr) (vs:ZF) (ss:ZB) (n:Nat),StrsAre vs ss->ss.Perm ks->ss.Pairwise (λa b=>a8 b a=false)->(∀b o,s.heap.get? b=some o->c.heap.get? b=some o)->c.gens=s.gens->c.os=s.os->(∀b o,c.heap.get? b=some o->s'.heap.get? b=some o)->s'.gens=c.gens->s'.os=c.os->⇑c<=l->s'.heap.get? l=some {cls:= .type "list",data:= .seq vs.toArray n}->Q (.ref l) s'):
 ↥A (call (.builtin "sorted") [.ref S]) Q E s:=by
 refine Calls.call_function_entry kind_sorted plain_sorted entry_sorted (args_sorted1 _) ?_;unfold Builtin.«sorted»;refine Z2 (m:=checkCount "sorted" 1 1 _) (Z3 ?_);refine Z2 (h _ _ λc us f d q k1 g1 Y=>?_);have i:us.length<=1000:=by rw[bA d,q.length_eq];exact i
 refine Z2 (wpAny_newList ?_ (by rw[sizeLine_eq];omega));have G:(c.heap.push (seqObj "list" us.toArray 0)).get? ⇑c=some (seqObj "list" us.toArray 0):=Zj _ rfl;have e:∀v∈us,∃x t,v=Value.str x t/\[x]∈ks.map λz=>[z]:=λv g=>by
  have%[x,t|rfl]:=d.all v g;refine%[x,t,rfl|Xr %[x,q.mem_iff.mp ?_|rfl]];rw[<-d.strs];exact Xr %[_,g|rfl]
 refine Z2 (wpAny_holding (wpAny_call_entry slot_list_sort %[_,G|rfl] entry_list_sort (jN (s:={c with heap:=c.heap.push (seqObj "list" us.toArray 0)}) (kd:=oneType') (Nv:=λv=>gH (ks.map λz=>[z]) [strOf v]) G (by omega) (λH k6 I Q6 J=>?_) (λH k6=>?_) λout B p2=>%[_,rfl|?_]) (args_list_sort _)))
 .obtain⟨v1,C,r,rfl⟩:∃v1 C r,us=v1::C::r:=by
   match us,I with
   | v1::C::r,_=>exact%[v1,C,r|rfl]
  rw[keyKind_strs d];exact Z3 J
 .intro x y s' hx hy L;subst L;have%[x1|x2]:=x;have%[y1|y2]:=y;have%[a,t,rfl|M]:=e _ hx;have%[b,u,rfl|N]:=e _ hy;show ↥A.in1.in1 (keyLt' oneType' (.str a t) (.str b u)) (λr s'=>r=decide (gH (ks.map λz=>[z]) [a]<gH (ks.map λz=>[z]) [b])/\s'={c with heap:=H}) (λ_ _=>False) {c with heap:=H};rw[keyLt'_oneType];refine oneLt_str %[?_|rfl];rw[<-kY M,pE];rfl
 .obtain⟨n,gl⟩:∃n,(sortedHeap (c.heap.push (seqObj "list" us.toArray 0)) ⇑c us out.toArray).get? ⇑c=some (seqObj "list" out.toArray n):=sortedHeap_at G;refine Z3 %[_,rfl|U c _ ⇑c out (out.map strOf) n (strsAre_map out (λv g=>d.all v (B.mem_iff.mp g))) ?_ ?_ k1 g1 Y (λb o' O=>?_) rfl rfl (Zi _) gl]
  .rw[<-d.strs]at q;exact(B.map _).trans q
  .rw[Xa];refine Xh (λ{u v} hu g j=>?_) p2;have%[a,t,rfl|M]:=e _ (B.mem_iff.mp hu);have%[b,t',rfl|N]:=e _ (B.mem_iff.mp g);show a8 b a=false;rw[<-pE,kY N];have j:gH (ks.map λz=>[z]) [a]<=gH (ks.map λz=>[z]) [b]:=j;exact Zh (by omega)
  .have p:=Zv O;show(sortedHeap _ _ _ _).get? b=_;rw[sortedHeap_old (Zt p) (by rw[Zq];exact Yo p)];exact Z7 _ O
end
def kZ:∀{ks:ZB} {us:ZF},aK (ks.map V.str) us->StrsAre us ks
 |[],_,.nil=> .nil
 | _::_,_,.cons r t=>by
   have%[t'|rfl]:=r;exact .cons _ _ (kZ t)
def ig:∀{ks:ZB} {us:ZF},StrsAre us ks->aK (ks.map V.str) us
 | _,_,.nil=> .nil
 | _,_,.cons _ t h=> .cons %[t|rfl] (ig h)
section
variable{X:Cx}{K:ZA}
def Ap(h:X.K=K):cJ X (.builtin "sorted") (λxs H Q=>∃a ks,xs=[.ref a]/\SqL K H a (ks.map V.str)/\ks.length<=1000/\∀l (ss:ZB),H l=none->ss.Perm ks->ss.Pairwise (λa b=>a8 b a=false)->Q (.ref l) (upd H l (.lst (ss.map V.str)))):=by
 subst h;refine⟨λpins s B H xs us Q I r h=>?_⟩;have%[a,ks,rfl,j,m|q]:=h;have%[u,rfl|p]:=du r;cases p;have%[its,f,%[o,n,t,v,C|d]|E]:=I.list j;have G:its.length=ks.length:=by rw[<-f.length,Z6]
 refine nh (λJ R w=>wpAny_collect_seq a (.inl rfl) t v d (λh' k=>?_) (!2)) (by omega) λL s' l vs ss n q1 i y k1 g1 z k g o c A=>?_
 .exact w _ _ _ (kZ f) (.refl _) k rfl rfl
 .have e:=I.keptS k1 g1 z;refine%[.ref l,_,e.stoodS (o:= .lst _) (e.keptS k g o) c %[?_,vs,n,ig q1|A],rfl|q l ss (e.hok.fresh c) i y];rw[Z6,i.length_eq,sizeLine_eq];omega
def xB{w:World}(h:X.w=w)(m:X.calm=true):cJ X (.builtin "sorted") (λxs H Q=>∃a ks,xs=[.ref a]/\H a=some (j8 w a ks)/\ks.length<=1000/\∀l (ss:ZB),H l=none->ss.Perm ks->ss.Pairwise (λa b=>a8 b a=false)->Q (.ref l) (upd H l (.lst (ss.map V.str)))):=by
 subst h;refine⟨λpins s B H xs us Q I r h=>?_⟩;have%[a,ks,rfl,p,e|q]:=h;have%[u,rfl|t]:=du r;cases t;have%[S,_|_]:=(I.hok a _ p)
 refine nh (λC R v=>mZ (I.ok.hd m) S λj vs ss q1 d k1 g1 f y=>v j vs ss q1 d k1 g1 f) e λj s' l vs ss n q1 d z k1 g1 f k g o c A=>?_
 have i:=I.keptS k1 g1 f;refine%[.ref l,_,i.stoodS (o:= .lst _) (i.keptS k g o) c %[?_,vs,n,ig q1|A],rfl|q l ss (i.hok.fresh c) d z];rw[Z6,d.length_eq,sizeLine_eq];omega
def Aq(h:X.K=K):cJ X (.builtin "sorted") (λxs H Q=>∃(a:Addr) (ps:ZG) (m:Nat),xs=[.ref a]/\SqL K H a (ps.map λp=>V.ref p.1)/\ba H ps/\(∀p∈ps,p.2.length=m)/\m≠0/\ps.length<=1000/\
 ∀(l:Addr) (ss:ZG),H l=none->ss.Perm ps->ss.Pairwise (λa b=>dJ b.2 a.2=false)->Q (.ref l) (upd H l (.lst (ss.map λp=>V.ref p.1)))):=by
 subst h;refine⟨λpins s J H xs us Q I r h=>?_⟩;have%[a,ps,m,rfl,i,j,t,v,d|q]:=h;have%[u,rfl|w]:=du r;cases w;have%[its,y,%[o,n,z,A,L|e]|M]:=I.list i;have:=uf y;subst this;refine pq (λN R B=>wpAny_collect_seq a (.inl rfl) z A e (λh' k=>?_) (!2)) (ue I j) t v d λO s' l ss n q1 C k1 g1 E k g o c G=>?_
 .exact B _ _ (List.Perm.refl _) k rfl rfl
 .have f:=I.keptS k1 g1 E;refine%[.ref l,_,f.stoodS (o:= .lst _) (f.keptS k g o) c %[?_,ss.map _,n,ug ss|G],rfl|q l ss (f.hok.fresh c) q1 C];rw[Z6,q1.length_eq,sizeLine_eq];omega
def G4{k:Nat}{i o:Expr}{ty a:TE}{pos:Pos}(b:cn k X.A)(c:behindInMarks .In o=false)(hi:QE X i ty)(d:QE X o a):QT X (.Compare i [.In] [o] pos) (tB (GA ty a)):=
 ⟨A6 (GB (by have:=b.units;omega) hi.h d.h) c⟩
end
def cS{X:Cx}{K:ZA}{a b:Expr}{c d:TE}{pos:Pos}(h:X.K=K)(e:kC b)(f:QE X a c)(g:QE X b d):QE X (.Subscript a b pos) (tOp (Ec K) c d):=by subst h;exact⟨x9 BD f.h g.h e⟩
def xC(h:(env.blockKind== .function&&env.kindOf x==some .local&&b.line==pos.line&&!(a.names.any λ(n,k)=>n==x&&(k== .local||k== .cell)))=false):
 swapsWith (.ListComp c gens a pos) (some (.Name x b)) l env=pure false:=by
 show(pure (env.blockKind== .function&&env.kindOf x==some _&&b.line==pos.line&&!(a.names.any _)))=pure false;rw[h]
def Cz{X:Cx}(i:Nat)(e:X.N.Nodup)(hi:X.N[i]? =some x)(f:Loc X.env.scope x)(g:X.fn x=true\/X.env.scope.names.lookup x=some .local)
 (b:(X.env.blockKind== .function&&X.env.kindOf x==some .local&&h.line==pos.line&&!(a.names.any λ(n,k)=>n==x&&(k== .local||k== .cell)))=false) (j:QE X (.ListComp c gens a pos) l):
 QS X (.Assign [.Name x h] (.ListComp c gens a pos) d) (ti l (jJ i)):=⟨Bg e hi f j.h (xC b) g⟩
section
#where
end
section
variable(h:Heap)(l1 l2:Addr)
end
section
#where
end
section
variable{X:Cx}{K:ZA}{pos:Pos}
end
section
variable{X:Cx}{pos:Pos}
def kf(b:PassesOwn (model X.prog X.w) X.A X.env X.xe)(d:QT X c e)(f:QSs X a g):QS X (.While c a [] pos) (Bh e g):=⟨Bi b d.h f.h⟩
def dE(a:cn k X.A)(b:Gz i)(c:QE X o d)(hi:QE X i ty):QE X (.Subscript o i pos) (BH d ty):=⟨Ek (by have:=a.units;lia) c.h hi.h b⟩
end
section
#where
def ER{P:Nat->Value->Prop}(val:Nat->Str)(a:∀i v,P i v->∃t,v= .str (val i) t):CmpOf prog w A .Gt P (λi j=>decide ((val j).cps.toList<(val i).cps.toList)):=λi j b c s Q E hi d h=>by
 have%[t|rfl]:=a i b hi;have%[u|rfl]:=a j c d;exact richCompare_gives (typeIs_str s _ t) (typeIs_str s _ u) PySem.F.slot_str_gt PySem.F.entry_str_gt (PySem.F.args_str_gt_2 _ _) (gives_str_gt _ _ t u) (λx=>nomatch x) h
def yA{P:Nat->Value->Prop}(val:Nat->Str)(a:∀i v,P i v->∃t,v= .str (val i) t):CmpOf prog w A .Lt P (λi j=>decide ((val i).cps.toList<(val j).cps.toList)):=λi j b c s Q E hi d h=>by
 have%[t|rfl]:=a i b hi;have%[u|rfl]:=a j c d;exact richCompare_gives (typeIs_str s _ t) (typeIs_str s _ u) PySem.F.slot_str_lt PySem.F.entry_str_lt (PySem.F.args_str_lt_2 _ _) (gives_str_lt _ _ t u) (λx=>nomatch x) h
def CA{i:Nat}{v:Value}(h:(#[Value.str x t,Value.str y u]:ZJ)[i]? =some v):∃t,v= .str (if i=0 then x else y) t:=by
 match i,h with
 | 0,h=>exact%[t|by simpa using h.symm]
 | 1,h=>exact%[u|by simpa using h.symm]
 | i+2,h=>simp at h
def vG(a:Nat->Nat->Bool):argBest a 1=if a 1 0=true then 1 else 0:=by simp[argBest]
def uk{x y:Str}(l:A.handled=none)
 (h:∀h' tk,(∀c o,s.heap.get? c=some o->h'.get? c=some o)->Q (if x.cps.toList<y.cps.toList then .str y u else .str x t) {s with heap:=h',toks:=tk}):
 ↥A (call (.builtin "max") [.str x t,.str y u]) Q E s:=by
 have j:(s.heap.push {cls:= .type _,data:= .seq #[.str x t,.str y u]}).IsTuple ⇑s _:=%[_,Zj _ rfl,rfl,0|rfl]
 refine call_max_two (wpAny_pyIter_tuple j ?_);have b:(s.heap.push {cls:= .type "tuple",data:= .seq #[.str x t,.str y u]}).objs.size=⇑s+1:=Zq ..;refine%[_,[_,⇑s],[_],_,_,_,_,rfl,Walks.tuple (A:=A.in1) l _ ⇑s (b▸Zt (Yp _)) _,
  %[%[_,Zj _ rfl,rfl|rfl]|j.push _],λc d=>?_,by simp,ER _ (λ_ _=>CA)|λv h' tk m n=>?_]
 .rw[Zq,b];rcases mem_cons.mp d with rfl|d
  .simp
  .rcases mem_cons.mp d with rfl|d
   .exact Yo (Yp _)
   .cases d
 .have f:=λc o e=>by
   refine n c o (λi=>?_) (Z7 _ (Z7 _ e));rcases mem_cons.mp i with p|i
   .have:=Zv e;rw[p,b]at this;exact Xk _ (Nat.lt_of_succ_lt this)
   .cases i
  have q:=h h' tk f;have a:(#[Value.str x t,Value.str y u])[argBest _ 1]? =some v:=m;rw[vG]at a;by_cases g:x.cps.toList<y.cps.toList
  .rw[if_pos (by simp[g])]at a;rw[if_pos g]at q;exact(show Value.str y u=v by simpa using a)▸q
  .rw[if_neg (by simp[g])]at a;rw[if_neg g]at q;exact(show Value.str x t=v by simpa using a)▸q
def um{x y:Str}(l:A.handled=none)
 (h:∀h' tk,(∀c o,s.heap.get? c=some o->h'.get? c=some o)->Q (if y.cps.toList<x.cps.toList then .str y u else .str x t) {s with heap:=h',toks:=tk}):
 ↥A (call (.builtin "min") [.str x t,.str y u]) Q E s:=by
 have j:(s.heap.push {cls:= .type _,data:= .seq #[.str x t,.str y u]}).IsTuple ⇑s _:=%[_,Zj _ rfl,rfl,0|rfl]
 refine call_min_two (wpAny_pyIter_tuple j ?_);have b:(s.heap.push {cls:= .type "tuple",data:= .seq #[.str x t,.str y u]}).objs.size=⇑s+1:=Zq ..;refine%[_,[_,⇑s],[_],_,_,_,_,rfl,Walks.tuple (A:=A.in1) l _ ⇑s (b▸Zt (Yp _)) _,
  %[%[_,Zj _ rfl,rfl|rfl]|j.push _],λc d=>?_,by simp,yA _ (λ_ _=>CA)|λv h' tk m n=>?_]
 .rw[Zq,b];rcases mem_cons.mp d with rfl|d
  .simp
  .rcases mem_cons.mp d with rfl|d
   .exact Yo (Yp _)
   .cases d
 .have f:=λc o e=>by
   refine n c o (λi=>?_) (Z7 _ (Z7 _ e));rcases mem_cons.mp i with p|i
   .have:=Zv e;rw[p,b]at this;exact Xk _ (Nat.lt_of_succ_lt this)
   .cases i
  have q:=h h' tk f;have a:(#[Value.str x t,Value.str y u])[argBest _ 1]? =some v:=m;rw[vG]at a;by_cases g:y.cps.toList<x.cps.toList
  .rw[if_pos (by simp[g])]at a;rw[if_pos g]at q;exact(show Value.str y u=v by simpa using a)▸q
  .rw[if_neg (by simp[g])]at a;rw[if_neg g]at q;exact(show Value.str x t=v by simpa using a)▸q
def qK{l:Addr}{its:ZJ}{val:Nat->Str}{Q:ZD}(n:A.handled=none)(f:s.heap.IsList l its)(g:0<its.size)(a:∀(i:Nat) v,its[i]? =some v->∃t,v= .str (val i) t)
 (h:∀v h' tk,its[argBest (λi j=>decide ((val i).cps.toList<(val j).cps.toList)) (its.size-1)]? =some v->(∀b o,s.heap.get? b=some o->h'.get? b=some o)->Q v {s with heap:=h',toks:=tk}):
 ↥A (call (.builtin "min") [.ref l]) Q E s:=by
 have c:l<⇑s:=by have%[_,e|_]:=f;exact Zv e
 refine call_min_walk (wpAny_pyIter_list f %[_,[⇑s,l],[⇑s],_,_,_,_,rfl,Walks.list (A:=A.in1) n _ l (Zt c) its,%[%[_,Zj _ rfl,rfl|rfl]|f.push _],λb d=>?_,g,yA val a|λv h' tk p q=>?_])
 .rw[Zq];rcases mem_cons.mp d with rfl|d
  .simp
  .rcases mem_cons.mp d with rfl|d
   .exact Yo c
   .cases d
 .refine h v h' tk p λb o e=>q b o (λm=>?_) (Z7 _ e)
  rcases mem_cons.mp m with r|m
  .exact absurd (r▸Zv e) (Xk _)
  .cases m
def pF(val:Nat->Str):∀k,argBest (λi j=>decide ((val i).cps.toList<(val j).cps.toList)) k<=k/\∀j,j<=k->a8 (val j) (val (argBest (λi j=>decide ((val i).cps.toList<(val j).cps.toList)) k))=false
 | 0=>%[Zi _|λj b=>by rw[le_zero.mp b];exact fR _]
 | k+1=>by
   have%[g|d]:=pF val k;rw[argBest];by_cases c:a8 (val (k+1)) (val (argBest (λi j=>decide ((val i).cps.toList<(val j).cps.toList)) k))=true
   .have a:=c;unfold a8 at a;rw[if_pos a];refine%[Zi _|λj b=>?_];by_cases e:j=k+1
    .exact e▸fR _
    .cases f:a8 _ _ with
     | false=>rfl
     | true=>have:=gF f c;rw[d j ⋯]at this;cases this
   .have a:=c;unfold a8 at a;rw[if_neg a];refine%[⋯|λj b=>?_];by_cases e:j=k+1
    .lia
    .exact d j ⋯
end
section
variable{X:Cx}
def Ar(b:X.calm=true):ck X (.builtin "max") (λxs H Q=>∃x y,xs=[.str x,.str y]/\Q (.str (if a8 x y=true then y else x)) H):=by
 intro pins s c H xs us Q I r h;have%[x,y,rfl|q]:=h;have%[u,d,rfl,%[t|rfl],t'|rfl]:=kz r;refine uk (I.ok.hd b) λh' tk k=>%[_,H,I.kept k,?_|q]
 by_cases a:x.cps.toList<y.cps.toList
 .rw[if_pos a,if_pos (show a8 x y=true from Zf a)];exact%[_|rfl]
 .rw[if_neg a,if_neg (show ¬ a8 x y=true from λe=>a (Zo e))];exact%[_|rfl]
def At(b:X.calm=true):ck X (.builtin "min") (λxs H Q=>∃x y,xs=[.str x,.str y]/\Q (.str (if a8 y x=true then y else x)) H):=by
 intro pins s c H xs us Q I r h;have%[x,y,rfl|q]:=h;have%[u,d,rfl,%[t|rfl],t'|rfl]:=kz r;refine um (I.ok.hd b) λh' tk k=>%[_,H,I.kept k,?_|q]
 by_cases a:y.cps.toList<x.cps.toList
 .rw[if_pos a,if_pos (show a8 y x=true from Zf a)];exact%[_|rfl]
 .rw[if_neg a,if_neg (show ¬ a8 y x=true from λe=>a (Zo e))];exact%[_|rfl]
def Au(z:X.calm=true):ck X (.builtin "min") (λxs H Q=>∃(p:Addr) (ss:ZB),xs=[.ref p]/\SqL X.K H p (ss.map V.str)/\0<ss.length/\∀m∈ss,(∀y∈ss,a8 y m=false)->Q (.str m) H):=by
 intro pins s M H xs us Q I r h;have%[p,ss,rfl,A,N|q]:=h;have%[u,rfl|f]:=du r;cases f;have%[its,g,B|O]:=I.list A;have a:=g.length;rw[Z6]at a;have C:its.toArray.size=ss.length:=by rw[Zp,a]
 have c:∀i v,its.toArray[i]? =some v->∃t,v=Value.str (ss.getD i Str.empty) t:=λi v e=>by
  have e:=↑e
  have hi:i<ss.length:=a▸(Xn e).1;have%[u,l|f]:=g.get (by rw[Zl,Z4 hi];rfl);rw[e]at l;have%[t|d]:=f;exact%[t|by rw[Za l,d,Zc,Z4 hi];rfl]
 refine qK (I.ok.hd z) B.isList ⋯ c λv h' tk n k=>?_
 have%[E|o]:=pF _ _;have%[t|d]:=c _ _ n
 generalize argBest _ _=b at E o n d
 have w:b<ss.length:=by lia
 have G:ss.getD b Str.empty=ss[b]:=by rw[Zc,Z4 w];rfl
 refine%[.str _,H,I.kept k,%[t|d]|q _ (G▸Ye w) λy J=>?_];have%[j,L|rfl]:=getElem_of_mem J;have:=o j ⋯;rwa[show ss.getD j Str.empty=ss[j] by rw[Zc,Z4 L];rfl]at this
def G5(a:X.calm=true):cJ X (.builtin "max") (λxs H Q=>∃x y,xs=[.str x,.str y]/\Q (.str (if a8 x y=true then y else x)) H):=⟨Ar a⟩
def G6(a:X.calm=true):cJ X (.builtin "min") (λxs H Q=>∃x y,xs=[.str x,.str y]/\Q (.str (if a8 y x=true then y else x)) H):=⟨At a⟩
def G7{K:ZA}(h:X.K=K)(a:X.calm=true):cJ X (.builtin "min") (λxs H Q=>∃(p:Addr) (ss:ZB),xs=[.ref p]/\SqL K H p (ss.map V.str)/\0<ss.length/\∀m∈ss,(∀y∈ss,a8 y m=false)->Q (.str m) H):=by subst h;exact⟨Au a⟩
end
section
#where
end
section
variable{prog:Program}{w:World}{A:Around}{R:Result->Shared->Prop}{I:Addr}{fp wr:List Addr}{G:Array GenState->Array GenState->Prop}{n:Nat}{P:Nat->Value->Prop}{St:Nat->Shared->Prop}
end
section
#where
end
section
variable{X:Cx}{K:ZA}
end
def ES{b:Type}{a:List (b×V)}{vs:List (b×Value)}(r:KV a vs):aK (a.map (·.2)) (vs.map (·.2)):=by
 induction r with
 | nil=>exact .nil
 | cons h _ c=>exact .cons h.2 c
section
variable{X:Cx}{K:ZA}
abbrev CB:V->List V->Hp->VK->Prop:=λx vs H Q=>asR x λa=>∃k y,vs=[kV k,y]/\∃b,H a=some (.dK b)/\b.length<sizeLine/\(∀v,bH b k=some v->Q v H)/\(bH b k=none->Q y (upd H a (.dK (cX b k y))))
def ET:MtM X "dict.setdefault" CB:=by
 intro pins s G H x vs v us Q I p r h;have%[a,rfl,k,y,rfl,b,e,J,t|u]:=eX h;cases p;have%[L,w,rfl,A|l]:=kz r;have%[z,m,vs,c|n]:=mS I.hok e;refine call_meetsIn PySem.F.slot_dict_setdefault n.typeIs PySem.F.entry_dict_setdefault (PySem.F.args_dict_setdefault_3 _ _ _) (kt_meets_setdefault _ a (mR A) m w) %[vs,n,c.length▸z,λM hw=>?_|λN h' f B=>?_]
 .have q:=c.val k;cases d:bH b k with
  | none=>
    rw[f9.none_of (o:=valueAt vs k) (d▸q)]at hw;cases hw
  | some i=>
    have%[C,g|j]:=f9.some_of (d▸q);rw[g]at hw;exact(Za hw)▸%[i,H,I.tok _,j|t i d]
 .have d:bH b k=none:=by
   cases d:bH b k with
   | none=>rfl
   | some i=>
     have%[C,g|_]:=f9.some_of (d▸c.val k)
     grind
  exact%[y,_,nU I (e▸True.intro) B (let⟨q,_,_,E,_⟩:=f;%[q|E]) (wQ (by have:=fO b k y;lia) m (c.put k l) f),l|u d]
def lc:MtQ X "dict.setdefault" CB:=⟨ET⟩
abbrev vH(v a:Addr):HO:= .ext λh=>h.IsValuesView v a
abbrev CC:V->List V->Hp->VK->Prop:=λx vs H Q=>asR x λa=>vs=[]/\∃b,H a=some (.dK b)/\∀v,H v=none->Q (.ref v) (upd H v (vH v a))
def EU:MtM X "dict.values" CC:=by
 intro pins s t H x vs v us Q I i j h;have%[a,rfl,rfl,l,e|q]:=eX h;cases i;have c:=j.zero;subst c;have%[z,m,vs,n|f]:=mS I.hok e;refine call_meetsIn PySem.F.slot_dict_values f.typeIs PySem.F.entry_dict_values (PySem.F.args_dict_values_1 _) (meets_dict_values _ a m) %[%[vs|f]|?_];have g:(s.heap.push {cls:= .type _,data:= .fields _}).IsValuesView ⇑s a:=%[_,Zj _ rfl,rfl|rfl]
 refine%[.ref ⇑s,_,I.laid (o:=vH ⇑s a) (λb u e=>Z7 _ e) (Zi _) %[g,?_|λw y p k1=>?_],rfl|q _ I.fresh]
 .have%[o,d|_]:=g;exact%[o|d]
 .have%[o,d|r]:=p;exact%[o,k1 _ d|r]
def CD:MtQ X "dict.values" CC:=⟨EU⟩
def xD(j:X.calm=true):ck X (.type "list") (λxs H Q=>∃(v a:Addr) (b:List (Key×V)),xs=[.ref v]/\H v=some (vH v a)/\H a=some (.dK b)/\∀l,H l=none->Q (.ref l) (upd H l (.lst (b.map (·.2))))):=by
 intro pins s L H xs us Q I r h;have%[v,a,b,rfl,m,n|q]:=h;have%[u,rfl|p]:=du r;cases p;have%[z,M,vs,f|t]:=mS I.hok n;have g:=(I.hok _ _ m).1;have%[o,es,w,y|A]:=t;have B:s.heap.DictAt _ a vs w:=%[o,es,y|A]
 have C:=f.length;refine PySem.W.kdl_call (PySem.W.kdl_values) (I.ok.hd j) %[g|B] ⋯ λh' tk acc c keep E d=>?_
 have N:acc.toList.length=b.length:=by rw[Zb,d.1,C]
 refine%[.ref ⇑s,_,I.laid keep (Zi _) ?_,rfl|q _ I.fresh];have e:acc.toList=vs.map (·.2):=by
  refine ext_getElem (!2) λi G O=>?_
  have%[k|J]:=d.2 i _ (Array.getElem?_eq_getElem G);have%[T|U]:=Xn J
  simp_all
 exact%[by rw[Z6];exact z,acc.toList,c,e▸ES f|E]
def EV(c:X.calm=true):cJ X (.type "list") (λxs H Q=>∃(v a:Addr) (b:List (Key×V)),xs=[.ref v]/\H v=some (vH v a)/\H a=some (.dK b)/\∀l,H l=none->Q (.ref l) (upd H l (.lst (b.map (·.2))))):=⟨xD c⟩
end
def vI:∀{ss:ZB},z∈ss->∃j,ss[j]? =some z/\(∀m,m<j->∀y,ss[m]? =some y->y≠z)/\(z::ss.eraseIdx j).Perm ss
 | x::ss,h=>by
   by_cases e:x=z
   .exact%[0,by simp[e],λm b=>absurd b ⋯|by simp[e]]
   .have%[j,c,d|f]:=vI ((mem_cons.mp h).resolve_left λq=>e q.symm);refine%[j+1,c,λm b y a=>?_|?_]
    .cases m with
     | zero=>simp at a;exact a▸e
     | succ m=>exact d m ⋯ y (a)
    .exact(List.Perm.swap _ _ _).trans (f.cons _)
section
variable{X:Cx}{K:ZA}
abbrev G8:V->List V->Hp->VK->Prop:=λx vs H Q=>asR x λa=>∃k y,vs=[kV k,y]/\∃b,H a=some (.dK b)/\Q ((bH b k).getD y) H
def G9:MtM X "dict.get" G8:=by
 intro pins s n H x vs v us Q I f g h;have%[a,rfl,k,y,rfl,b,e|q]:=eX h;cases f;have%[o,i,rfl,j|l]:=kz g;have%[z,m,vs,c|d]:=mS I.hok e;exact call_meetsIn slot_dict_get d.typeIs PySem.F.entry_dict_get (PySem.F.args_dict_get_3 _ _ _) (meets_dict_get_default _ a (mR j) m i) %[_,d.mapOf,(bH b k).getD y,H,I.tok _,(c.val k).getD l|q]
def yB:MtQ X "dict.get" G8:=⟨G9⟩
abbrev isZ(z:Str):Value->Bool
 | .str x _=>x==z
 | _=>false
def Av(t:Tok)(r:aK (ss.map V.str) its)(h:ss.length=its.length)(l:z∈ss):∃(j:Nat) (e:j<its.toArray.size),ss[j]? =some z/\(z::ss.eraseIdx j).Perm ss/\(∀y,y∈its.toArray->MeetsSeq.EqGives y (.str z t) (isZ z y))/\isZ z its.toArray[j]=true/\∀m (a:m<its.toArray.size),m<j->isZ z its.toArray[m]=false:=by
 have%[j,f,n|o]:=vI l;have b:∀m y,its[m]? =some y->∃x t,y=Value.str x t/\ss[m]? =some x:=λm y c=>by
  have a:m<ss.length:=h▸(Xn c).1;have%[u,i|p]:=r.get (by rw[Zl,Z4 a];rfl);rw[c]at i;have%[t|q]:=p;exact%[_,t,(Za i).trans q|Z4 a]
 have e:j<its.length:=h▸(Xn f).1;refine%[j,e,f,o,λy c=>?_,?_|λm a g=>?_]
 .have%[m|a]:=Xg ↑c;have%[x,t',rfl|_]:=b m y a;exact eqGives_str x z t' t
 .have%[x,t',ex|d]:=b j _ (Z4 e);rw[f]at d;show isZ z its[j]=true;rw[ex,<-Za d];exact beq_self_eq_true z
 .have%[x,t',ex|d]:=b m _ (Z4 a);show isZ z its[m]=false;rw[ex];exact beq_eq_false_iff_ne.mpr (n m g x d)
abbrev uo:V->List V->Hp->VK->Prop:=λx vs H Q=>asR x λl=>∃z,vs=[.str z]/\∃ss:ZB,H l=some (.lst (ss.map V.str))/\z∈ss/\∀a,(z::a).Perm ss->Q .non (upd H l (.lst (a.map V.str)))
def Aw:MtM X "list.remove" uo:=by
 intro pins s A H x vs v us Q I c d h;have%[l,rfl,z,rfl,ss,a,f|q]:=eX h;cases c;have%[u,rfl|g]:=d.one;have%[t|rfl]:=g;have%[i,its,n,r,b|e]:=I.lstM a;rw[Z6]at b i;have%[j,m,_,o,p,w|y]:=Av t r b f;refine call_meets F.slot_list_remove %[_,e|rfl] F.entry_list_remove (F.args_list_remove_2 _ _) (MeetsSeq.list_remove l its.toArray n _ _ p j m w y (!2)) %[e,.non,_,I.lset (its':=its.eraseIdx j) a e ?_ ?_ ?_,rfl|q _ o]
 .simp
 .rw[List.eraseIdx_eq_take_drop_succ,Zd,map_take,map_drop,<-List.eraseIdx_eq_take_drop_succ];exact r.eraseIdx j
 .have:=rq ss j;rw[Z6]
  lia
def CF:MtQ X "list.remove" uo:=⟨Aw⟩
end
def Ax:typeLookup (.type "list_reverseiterator") "__len__"=pure none:=by kernel_rfl
def CG:typeLookup (.type "list_reverseiterator") "__length_hint__"=pure (some (.builtin "list_reverseiterator.__length_hint__")):=by kernel_rfl
section
#where
def qL(hh:A.handled=none)(N:s.heap.IsRevIter I l ((a.size:Int) -1))(O:s.heap.IsList l a)(ne:l≠I)(hz:a.size<=sizeLine)
 (hQ:∀s' acc c,(∀b o,b≠I->s.heap.get? b=some o->s'.heap.get? b=some o)->s'.gens=s.gens->s'.os=s.os->s'.heap.get? ⇑s=some {cls:= .type "list",data:= .seq acc c}->acc.toList=a.toList.reverse->Q (.ref ⇑s) s'):
 ↥A (call (.type "list") [.ref I]) Q E s:=by
 have u:I<⇑s:=let⟨_,i,_⟩:=N;Zv i;have v:l<⇑s:=let⟨_,i,_⟩:=O;Zv i
 generalize p:s.heap.push {cls:=Value.type "list",data:=Data.seq #[]}=G
 have gz:G.objs.size=⇑s+1:=by rw[<-p,Zq]
 have y:∀b o,s.heap.get? b=some o->G.get? b=some o:=λb o e=>by rw[<-p];exact Z7 _ e
 have q:G.get? ⇑s=some {cls:=Value.type "list",data:=Data.seq #[]}:=by rw[<-p];exact Zj _ rfl
 refine callType_codes (Q₁:=λobj g=>obj= .ref ⇑s/\g={s with heap:=G}) F.called_list (F.typeCall_list_1 (Value.ref I)) F.entry_list_init (code_list_new (Value.ref I) %[rfl|by rw[p]]) λobj g j=>?_
 have%[rfl|rfl]:=j;refine%[%[_,q|rfl],F.args_list_init_2 _ _|?_];show ↥A.in1.in1 (Builtin.«list.__init__» %[[.ref ⇑s,.ref I]|[]]) _ _ _;unfold Builtin.«list.__init__»;refine Z2 ?_;refine listItems_at (s:={s with heap:=G}) q rfl ?_;refine Z2 (listUpdate_at (s:={s with heap:=G}) q rfl ?_ (Xf _));have U:=get?_update_self (Obj.mapSeq λ_=> #[]) q rfl;have f:∀b o,b≠⇑s->G.get? b=some o->(G.update ⇑s (Obj.mapSeq λ_=> #[])).get? b=some o:=λb o z e=>(get?_update_other _ _ (Ne.symm z)).trans e
 refine Z2 (wpAny_letGo ?_)
 generalize G.update ⇑s (Obj.mapSeq λ_=> #[])=h at U f
 have B:I≠⇑s:=Zt u;have nl:l≠⇑s:=Zt v;have m:h.IsRevIter I l ((a.size:Int) -1):=N.at λo e=>f _ _ B (y _ _ e)
 have C:h.IsList l a:=let⟨o,i,r⟩:=O;%[o,f _ _ nl (y _ _ i)|r];have W:=Walks.listRev (prog:=prog) (w:=w) (A:=A.in1.in1) hh I l ne a;have n:(0<=a.size/\h.IsRevIter I l (↑(a).size-1-((0:Nat):Int))/\h.IsList l a):=%[Xf _,↑m|C]
 show ↥A.in1.in1 (Builtin.List.listExtendWith (.ref ⇑s) (.ref I) .none) _ _ {s with heap:=h};unfold Builtin.List.listExtendWith;have t:Shared.TypeIs {s with heap:=h} (.ref I) "list_reverseiterator":=m.typeIs;refine Z2 (wpAny_typeOf (T:="list_reverseiterator") t ?_);have n1:Builtin.List.listSameRef (.ref ⇑s) (.ref I)=false:=beq_eq_false_iff_ne.mpr (Ne.symm B);have n2:(Value.type "list_reverseiterator"==Value.type "list")=false:=!1
 have n3:(Value.type "list_reverseiterator"==Value.type "tuple")=false:=!1
 simp only[n1,n2,n3,Bool.or_false,Y0,if_false];refine Z2 (W.self 0 {s with heap:=h} _ _ n ?_);refine Z2 (wpAny_holding ?_);unfold Builtin.List.listLengthHint;refine Z2 (wpAny_specialOf (T:="list_reverseiterator") t Ax ?_);show wpAny _ _ (specialOf (.ref I) (!"__length_hint__")>>= _) _ _ _;refine Z2 (wpAny_specialOf t CG ?_)
 wp_delta
 refine Z2 (wpAny_isInstance (T:="list_reverseiterator") (b:=true) t (by rw[isSubtype_type];kernel_rfl) ?_);simp only[Bool.not_true,Y0,if_false];rw[if_pos (!0)];rw[if_neg (!1)];refine Z3 ?_;rw[if_neg (!0)];have H:⇑s∉[I,l]:=by
  simp only[Yw,X8,or_false,not_or];exact%[Ne.symm B|Ne.symm nl]
 refine Z3 %[plainId_quiet F.plain_extend_loop _|codeAny_extend_loopS W.toS hz _ H _ a.size 0 _ _ _ rfl (Xf _) n U (ItemsOf.nil _) λs5 acc c5 J L d=>?_];refine%[rfl|hQ s5 acc c5 (λb o z e=>?_) J.gens J.os L ?_]
 .have nb:b≠⇑s:=Zt (Zv e);refine J.heap b o ?_ (f _ _ nb (y _ _ e));simp only[Yw,X8,or_false,not_or];exact%[nb|z]
 .apply List.ext_getElem?;intro k;have al:acc.toList.length=a.size:=Zb▸d.1;by_cases Y:k<a.size
  .have M:k<acc.size:=d.1▸Y;have:=d.2 k acc[k] ∅;rw[List.getElem?_reverse (Y),Zb,getElem?_toList,getElem?_toList,this];simp[M]
  .rw[Xm ⋯,Xm (by simp;lia)]
end
abbrev Hf(n:Nat)(a l:Addr)(m:Nat):HO:= .ext λh=>n<=a/\h.IsRevIter a l (m-1)
def Ay{X:Cx}:ck X (.type "reversed") (λxs H Q=>∃(l:Addr) (ys:List V),xs=[.ref l]/\SqL X.K H l ys/\∀r,H r=none->Q (.ref r) (upd H r (Hf X.s₀.heap.objs.size r l ys.length))):=by
 intro pins s a H xs us Q I r h;have%[l,ys,rfl,c|q]:=h;have%[u,rfl|d]:=du r;cases d;have%[its,f,pl|j]:=I.list c;refine call_reversed_list pl.isList ?_;have g:=I.hok.fresh (Zi _);have J:Inv X pins a H {s with heap:=(s.heap.push (revObj l (its.toArray.size-1)))}:=I.keptS (λb o e=>Z7 _ e) rfl rfl;refine%[.ref ⇑s,_,I.stoodS (o:=Hf X.s₀.heap.objs.size ⇑s l ys.length) J (Zi _) %[%[I.sz|?_],%[_|Zj _ rfl]|λ_ _ ⟨i,x⟩ k=>%[i|x.at λo e=>k o e]],rfl|q _ g];rw[f.length,<-Zp];exact%[_,Zj _ rfl,rfl|rfl]
def Inv.dropped{X:Cx}(I:Inv X pins j H s)(l:H a=some (.ext i))(m:X.s₀.heap.objs.size<=a)(f:∀b o,b≠a->s.heap.get? b=some o->s'.heap.get? b=some o)(r:s'.gens=s.gens)(t:s'.os=s.os):Inv X pins j (drop H a) s':=by
 have ne:∀{b:Addr} {o:HO},H b=some o->(∀i,o≠ .ext i)->b≠a:=λe n z=>by
  grind
 have un:Un (frs X.stack) [a] H (drop H a) s.heap s'.heap:=by
  refine%[λb o e _ _ d=>f b o ↑d e,λb o e _ _ d=>%[o.slots|f b o ↑d e],λb o _ n _=>?_,λb o e d=>%[o|f b o ↑d e],λb xs e=>?_,λb o u e=>?_|λb ps e=>%[#[]|?_]]
  .unfold drop;split
   .rfl
   .exact n
  .rw[dh (ne e ∅)];exact e
  .rw[dh (ne e ∅)];exact e
  .rw[dh (ne e ∅)];simpa using e
 have g:HOk X.prog X.w (drop H a) s'.heap:=λb o e=>by
  have nb:b≠a:=λz=>by rw[z,rS]at e;cases e
  rw[dh nb]at e;refine(I.hok b o e).stay (λc u h q=>f c u ?_ q) (λc q=>?_) λc xs q=>?_
  .rcases h with rfl|h
   .exact nb
   .exact ne h ∅
  .rw[dh (ne q ∅)];exact q
  .rw[dh (ne q ∅)];exact q
 exact I.call' t un g (by rw[r];exact I.bare) λb v=>by
  obtain rfl:b=a:=↑v
  refine%[.inr m,λz=>?_,λx c e z=>?_|λp w z=>?_]
  .have:=I.free;grind
  .have:=I.freeC x c e;grind
  .have:=(I.pin p w).2.1;rw[z,l]at this;cases this
def vJ{X:Cx}(w:X.calm=true):ck X (.type "list") (λxs H Q=>∃(r l:Addr) (ys:List V),xs=[.ref r]/\H l=some (.lst ys)/\H r=some (Hf X.s₀.heap.objs.size r l ys.length)/\∀p,drop H r p=none->p≠r->Q (.ref p) (upd (drop H r) p (.lst ys.reverse))):=by
 intro pins s J H xs us Q I r h;have%[a,l,ys,rfl,g,f|q]:=h;have%[u,rfl|y]:=du r;cases y;have%[z,its,n,A,m|e]:=I.lstM g;have%[%[t|b]|_]:=I.hok a _ f;have i:l≠a:=λz=>by rw[z,f]at g;cases g
 have sz:its.toArray.size=ys.length:=!2
 refine qL (I.ok.hd w) (by rw[sz];exact b) %[_,e,rfl,n|rfl] i (by rw[sz];exact z) λs' acc c B C j E d=>?_
 have v:=I.dropped f t (λ_ _ _ e=>e) rfl rfl;have G:=I.dropped f t B C j;have lt:=let⟨_,j,_⟩:=b;Zv j;refine%[.ref ⇑s,_,v.stoodS (o:= .lst ys.reverse) G (Zi _) %[?_,acc.toList,c,?_|?_],rfl|q _ (v.hok.fresh (Zi _)) (X2 lt)]
 .rw[List.length_reverse];exact z
 .rw[d];exact A.reverse
 .exact E
abbrev vK(b:TE):TE:=λc H Q=>b c H λv a=>∃l ys,v= .ref l/\a l=some (.lst ys)/\∀p,a p=none->Q (.ref p) (upd a p (.lst ys.reverse))
def CH{X:Cx}(h:X.calm=true)(i:Gl X "reversed")(j:X.mg "reversed"=none)(a:Gl X "list")(b:X.mg "list"=none)(d:bg e=false)(m:QE X e n):
 QE X (.Call (.Name "list" o) [.Call (.Name "reversed" s) [e] [] t] [] u) (vK n):=by
 have w:QE X (.Call (.Name _ s) [e] [] t) _:=ctE ⟨Ay⟩ i j boot_reversed rfl rfl (by simp[d]) (paE d (⟨Ca m.h⟩) ao);have y:=ctE (p:=o) (pos:=u) ⟨vJ h⟩ a b boot_list rfl rfl rfl (paE rfl w ao);refine⟨Cb y.h λA H Q q=>?_⟩;refine%[_,q|λv B ⟨l,ys,z,c,q⟩=>%[l,ys,by rw[z],SqL.of c|λr f=>?_]];refine%[r,l,ys,rfl,by rw[am (ay c f)];exact c,aa|λp g _=>?_];rw[vm f]at g ⊢;exact q p g
section
variable{X:Cx}
abbrev Hg:R2:=λx y H Q=>asR x λa=>asR y λb=>∃xs,H a=some (.lst xs)/\H b=some (.lst [])/\Q (.bl (decide (xs≠[]))) H
def Hh(A:X.A.units+64<cLine):OpR X (compareOp .NotEq) Hg:=by
 intro pins s B H x y v u Q I l m h;have%[a,rfl|o]:=eX h;have%[b,rfl,xs,p,t|q]:=eX o;cases l;cases m;have%[z,its,n,r,g|e]:=I.lstM p;have%[C,its2,i,E,d|c]:=I.lstM t;obtain rfl:its2=[]:=length_eq_zero_iff.mp d.symm;by_cases f:xs=[]
 .subst f;obtain rfl:its=[]:=length_eq_zero_iff.mp g.symm;exact richCompare_meets_room (op:= .NotEq) %[_,e|rfl] %[_,c|rfl] PySem.F.slot_list_ne PySem.F.entry_list_ne (PySem.F.args_list_ne_2 _ _) (SeqAt.list_neAt a b #[] #[] n i none none #[] #[] rfl λ_=>true) %[e,c,λj h=>absurd h (X7 j),by simp,.bl _,H,I,rfl|q] ⋯
 .have w:its.toArray.size≠0:=by
   rw[Zp,<-g];exact λq=>f (length_eq_zero_iff.mp q)
  rw[Zf f]at q;exact richCompare_meets_room (op:= .NotEq) %[_,e|rfl] %[_,c|rfl] PySem.F.slot_list_ne PySem.F.entry_list_ne (PySem.F.args_list_ne_2 _ _) (SeqAt.list_ne_lengthsAt a b its.toArray #[] n i none none #[] #[] ↑w) %[e,c,by simp,.bl true,H,I,rfl|q] ⋯
def IH(a:cn k X.A):OpQ X (compareOp .NotEq) Hg:=⟨Hh a.units⟩
end
section
#where
def fA(I:List i->j->Shared->Prop):∀(xs:List i) (b:j) (s:Shared),I xs b s->
 (∀x r b s,I (x::r) b s->↥A (f x b) (λy s'=>match y with| .done c=>Q c s'| .yield c=>I r c s') E s)->(∀b s,I [] b s->Q b s)->↥A (forIn xs b f) Q E s
 |[],b,s,h,_,a=>by
  exact Z3 (a b s h)
 | x::r,b,s,h,d,a=>by
   rw[forIn_cons];refine Z2 (wpAny_mono (d x r b s h) (λy s' g=>?_) λ_ _ e=>e);cases y with
   | done c=>exact Z3 g
   | yield c=>exact fA I r c s' g d a
def CI:∀as {Q:Bool->Shared->Prop},(∀b∈as,∃c,br w b c s.heap)->Q true s->↥A (setsQuiet as) Q E s:=by
 intro as Q h j;refine Z2 (fA (λr b s'=>(∀b∈r,∃c,br w b c s.heap)/\b=(none,())/\s'=s) as _ s %[h,rfl|rfl] ?_ ?_)
 .intro x r b s' %[f,rfl|rfl];have%[c,o,es,B,t,ss,l,m,n,p,C,q,d,G,v,y|g]:=f x Zm;refine Z2 (wpAny_setEntries_of l n v (Z2 ?_));rw[<-forIn_toList];refine fA (λr b a=>(∀e∈r,∃z u,e=(hashStr w z,Value.str z u))/\b=(none,())/\a=s') es.toList _ _ %[d,rfl|rfl] ?_ ?_
  .intro e r b a %[i,rfl|rfl];have%[z,u|rfl]:=i e Zm;exact Z3 %[λe h=>i e (Zk _ h),rfl|rfl]
  .intro b a %[_,rfl|rfl];exact Z3 %[λe h=>f e (Zk _ h),rfl|rfl]
 .intro b s' %[_,rfl|rfl];exact Z3 j
abbrev hsE(w:World)(p:Str×Tok):Int×Value:=(hashStr w p.1,.str p.1 p.2)
def br.texts{a:Addr}{h:Heap}{o:Obj}{es:Array (Int×Value)}(c:StrsAre (es.toList.map (·.2)) ss)(f:ss.Perm ks)(d:∀e∈es.toList,∃z u,e=(hashStr w z,Value.str z u))(xs:List (Int×Value))(b:xs.Perm es.toList):∃zs:List (Str×Tok),xs=zs.map (hsE w)/\(zs.map (·.1)).Perm ks:=by
 have all:∀l,(∀e∈l,∃z u,e=(hashStr w z,Value.str z u))->∃zs:List _,l=zs.map (hsE w):=λl=>by
  induction l with
  | nil=>exact λ_=>%[[]|rfl]
  | cons e l g=>
    intro h;have%[z,u|rfl]:=h e Zm;have%[zs|rfl]:=g λx b=>h x (Zk _ b)
    exact%[(z,u)::zs|rfl]
 have%[zs|rfl]:=all xs λe i=>d e (b.mem_iff.mp i)
 refine%[zs,rfl|?_];have%[ts,j|m]:=cq c (b.map _);have e:ts=zs.map (·.1):=by
  rw[<-j.strs,Ys,Ys];rfl
 exact e▸m.trans f
def sf{f:List Addr}{c:ZI}{Q:Array (Int×Value)->Shared->Prop}(T:br w a ks s.heap)(hO:∀b∈f,∃js,br w b js s.heap)(m:∀r,c=some r->r≠a/\br w r [] s.heap)
 (hQ:∀(zs:List (Str×Tok)) (d:Drawn) (h':Heap),(zs.map (·.1)).Perm ks->(∀b o,c≠some b->s.heap.get? b=some o->h'.get? b=some o)->(∀r,c=some r->br w r [] h')->Q (zs.map (hsE w)).toArray {s with heap:=h',drawn:=d}):
 ↥A (setWalkUnseen a f c) Q E s:=by
 have%[o,es,ep,t,ss,U,ac,Y,I,hp,ae,J,H,hf,L|g]:=id T;have fin:∀(xs:List _) d h',xs.Perm es.toList->(∀b o,c≠some b->s.heap.get? b=some o->h'.get? b=some o)->(∀r,c=some r->br w r [] h')->Q xs.toArray {s with heap:=h',drawn:=d}:=λxs d h' hx q h2=>by
  have%[zs,rfl|hz]:=br.texts (a:=a) (h:=h') (o:=o) I hp J xs hx;exact hQ zs d h' hz q h2
 have walk:↥A (setWalk a) Q E s:=by
  refine Z2 (wpAny_setState_of U Y hf ?_);show wpAny _ _ (if aT w=true then _ else _) _ _ _;by_cases M:aT w=true
  .rw[if_pos M];refine Z2 (wpAny_askSetting (Z3 ?_));have:=fin (pickOrder (w.params.setOrder a ep) es).toList s.drawn s.heap (rP _ _) (λ_ _ _ e=>e) λr e=>(m r e).2
   exact this
  .rw[if_neg M]
   split
   .exact Z2 (tT es.size es.toList _ _ ∅ λys d p=>Z3 (fin ys d s.heap p (λ_ _ _ e=>e) λr e=>(m r e).2))
   .refine Z2 ?_;show wpAny _ _ (if(!t.led&&decide _)=true then unsupported _ else pure ()) _ _ _;rw[g,show aT w=false by simpa using M];refine Z3 (Z3 ?_);have:=fin es.toList s.drawn s.heap (.refl _) (λ_ _ _ e=>e) λr e=>(m r e).2
    exact this
 refine Z2 (wpAny_setState_of U Y hf ?_);show wpAny _ _ (if(aT w||t.led&&t.plain||decide _)=true then _ else _) _ _ _;by_cases q:(aT w||t.led&&t.plain||decide (es.size<=1))=true
 .rw[if_pos q];exact walk
 .rw[if_neg q];refine Z2 (CI _ (λb H=>?_) ?_)
  .rcases mem_cons.mp H with e|e
   .exact e▸%[_|T]
   .exact hO b e
  refine Z2 (wpAny_rule ?_);cases c with
  | none=>
    have:=fin es.toList s.drawn s.heap (.refl _) (λ_ _ _ e=>e) λr e=>(m r e).2
    exact Z3 this
  | some r=>
    have%[ne,o2,N,ag,n,ai,i,u,j,v,O,y,B,C,G,ab|l]:=m r rfl;dsimp only;refine Z2 (wpAny_setState_of i j G ?_)
    split
    .refine Z2 (wpAny_storeSet_of i j ?_ (fits_of_scanBound C));have:=fin es.toList s.drawn _ (.refl _) (λb o H e=>((SameBut.update s.heap r (Obj.putSet N {n with led:=n.led&&t.led,plain:=n.plain&&t.plain})).2 b λz=>H (by rw[z])).trans e) λr' e=>?_
     .exact Z3 this
     .cases e;exact(br.stored (t':={n with led:=n.led&&t.led,plain:=n.plain&&t.plain}) i u j v O y B C G (by rw[(L λz=>q (by rw[z];simp)),Bool.and_false]) (by rw[l,g,Bool.and_self])).2
    .have:=fin es.toList s.drawn s.heap (.refl _) (λ_ _ _ e=>e) λr e=>(m r e).2
     exact Z3 this
end
section
#where
def EW(h:jI (Sum.inr z) (Value.str y u)=true):y=z:=by
 rcases bd h with⟨i,t',q1,a⟩|⟨b,t',q1,a⟩
 .lia
 grind
def vL{ks:ZB}(g:s.heap.get? a=some o)(i:o.data= .set es G t)(b:∀e∈es.toList,∃z u,e=(hashStr w z,Value.str z u))(B:es.size<scanBound)(l:t.fits es.size=true)
 (m:∀r,(r=none->∀e∈es.toList,∀u,e.2≠ .str z u)->(∀j,r=some j->∃u,es.toList[j]? =some (hashStr w z,.str z u))->Q r s):↥A (setFind a (.str z tk) (hashStr w z)) Q E s:=by
 have n:ElemsOf (aQ prog w) es.toList:=rO b;have c:(aQ prog w).is (Sum.inr z) (.str z tk)=true:=dN z tk;refine Z2 (wpAny_setState_of g i l ?_);dsimp only;rw[byScan_of rfl B n];refine Z2 (wpAny_rule (Z2 (wpAny_setScan_of c g i l n ?_)));cases p:List.findIdx? _ es.toList with
 | some j=>
   have%[v,d|_]:=List.findIdx?_eq_some_iff_getElem.mp p;dsimp only;rw[zero_add];refine Z3 (m _ (λh=>(nomatch h)) λH e=>?_);cases e;have%[y,u|f]:=b _ (Ye v);rw[f]at d;rw[EW (u:=u) d]at f;exact%[u|by rw[Z4 v,f]]
 | none=>
   refine Z3 (m none (λ_ e C u q=>?_) λj e=>(nomatch e));have:=List.findIdx?_eq_none_iff.mp p e C;rw[q,show(aQ prog w).is (Sum.inr z) (Value.str z u)=true from dN z u]at this;cases this
def Az{t:SetTable}(h:t.fits n=true)(hi:i<n):(t.drop i).fits (n-1)=true/\(t.drop i).led=t.led/\(t.drop i).plain=t.plain:=by
 unfold SetTable.fits at h ⊢;rw[Zx,beq_iff_eq,decide_eq_true_eq]at h;unfold SetTable.drop;have:t.place[i]? =some t.place[i]:=by simp
 rw[this];refine%[?_,rfl|rfl];rw[Zx,beq_iff_eq,decide_eq_true_eq];unfold SetTable.fill at h ⊢;simp only[SetTable.eraseAt,SetTable.insertAt,size_append,Array.size_extract,Xj]
 lia
def xE(h:i<es.size):(SetTable.eraseAt es i).toList=es.toList.eraseIdx i:=by
 rw[List.eraseIdx_eq_take_drop_succ,SetTable.eraseAt,Xe,toList_extract,toList_extract,List.extract_eq_take_drop,List.extract_eq_take_drop];simp;exact Zn ∅
def vM{ks:ZB}(H:br w a ks s.heap)(l:∀h' b,SameBut a s.heap h'->br w a (ks.erase z) h'->Q b {s with heap:=h'}):↥A (setDiscardHashed a (.str z tk) (hashStr w z)) Q E s:=by
 have%[o,es,ep,t,ss,g,m,h,c,I,n,d,J,p,v|f]:=id H;refine Z2 (vL (ks:=ks) g h d J p λr L M=>?_);cases r with
 | none=>
   have N:z∉ks:=λq=>by
    have%[u|j]:=(eB c).mpr (I.mem_iff.mpr q);have%[e,y|O]:=Xq j;exact L rfl e y u O
   rw[List.erase_of_not_mem N]at l;exact Z3 (l s.heap false (SameBut.refl a s.heap) H)
 | some i=>
   have%[u|j]:=M i rfl;have hi:i<es.size:=(Xn j).1;have B:((hashStr w z,Value.str z u)::(SetTable.eraseAt es i).toList).Perm es.toList:=by
    rw[xE hi];have:=hJ (xs:=es.toList) (hi);rwa[(Xn j).2]at this
   have%[ts,C|T]:=cq c (B.map _);cases C with
   | cons _ _ C=>
   have%[U,Y|d3]:=Az p hi;have G:(SetTable.eraseAt es i).size=es.size-1:=by
    rw[<-Zb,<-Zb,<-B.length_eq];simp
   refine Z2 (wpAny_setState_of g h p ?_);dsimp only;refine Z2 (wpAny_storeSet_of g h (Z2 (wpAny_point (Z3 (l _ true (SameBut.update s.heap a _) (br.stored g m h C ((List.cons_perm_iff_perm_erase.mp (T.trans I)).2) (n.erase z) (λe y=>d e (B.mem_iff.mp (Zk _ y))) ?_ ?_ ?_ ?_).2)))) (fits_of_scanBound ?_))
   .lia
   .exact G▸U
   .exact d3▸v ⋯
   .exact Y▸f
   .lia
end
def yC(h:STab.WF t es)(a:es.size<=t.mask):t.fits es.size=true:=by
 unfold SetTable.fits SetTable.fill;rw[h.size,h.dum];simpa using a
section
#where
abbrev uq(w:World)(a:Addr)(n:Nat)(h:Heap):Prop:=∃o b t,h.get? a=some o/\o.ExactSet/\o.data= .set #[] b t/\t.place= #[]/\t.dummies= #[]/\t.led=(!aT w)/\(∃k,t.mask+1=2^k)/\7<=t.mask/\n<=t.mask
def uq.fits{t:SetTable}(a:t.place= #[])(b:t.dummies= #[]):t.fits (#[]:Array (Int×Value)).size=true:=by
 unfold SetTable.fits SetTable.fill;rw[a,b];simp
def EX{n:Nat}{Q:Unit->Shared->Prop}(a:s.heap.get? r=some (aU w))(f:n<=1000)(c:∀h',SameBut r s.heap h'->uq w r n h'->Q () {s with heap:=h'}):↥A (setRoomFor r n) Q E s:=by
 have d:(SetTable.fresh 0 0 (!aT w)).fits _=true:=uq.fits rfl rfl;refine Z2 (wpAny_setState_of a rfl d ?_);show wpAny _ _ (match(if(0+n)*5>=7*3 then some ((0+n)*2)else none)with|some x=>setRelay r x|_=>pure ()) _ _ _;by_cases h:(0+n)*5>=7*3
 .rw[if_pos h];refine STab.relay_w a rfl d ∅ ⋯ λb t' P W l p g m2=>c _ (SameBut.update s.heap r _) ?_
  obtain rfl:b= #[]:=by
   have:=P.length_eq;simpa using this
  have e:=by
   have q:=get?_update_self (Obj.putSet #[] t') a (by rfl);rwa[putSet_of #[] t' rfl]at q
  exact%[_,_,t',e,%[rfl,rfl|rfl],rfl,Array.eq_empty_of_size_eq_zero W.size,W.dum,l,W.pow,W.big|⋯]
 .rw[if_neg h];exact Z3 (c s.heap (SameBut.refl r s.heap) %[_,_,_,a,%[rfl,rfl|rfl],rfl,rfl,rfl,rfl,%[3|rfl],Zi 7|by show n<=7;lia])
def CJ{ks:ZB}(L:br w a ks s.heap)(M:s.heap.get? r=some (aU w))(ne:r≠a)(h1:1<=ks.length)(h2:ks.length<=1000)(N:∀h',SameBut r s.heap h'->br w r ks h'->Q () {s with heap:=h'}):↥A (setMerge r a) Q E s:=by
 have%[o,es,ep,t,ss,O,T,U,m,C,y,z,hb,G,B|d]:=id L;have hn:es.size=ks.length:=by
  have q:=bA m;rw[Z6,Zb,C.length_eq]at q;exact q
 have pl:t.plain=false:=B ⋯;unfold setMerge;rw[if_neg ↑ne];refine Z2 (wpAny_setState_of O U G ?_);dsimp only;rw[if_neg (λh:es.isEmpty=true=>by have:=Zo h;lia)];refine Z2 (EX M ⋯ λh' Y ⟨o2,ab,n,g,u,i,H,I,J,k2,b2,m2⟩=>Z2 (wpAny_setState_of (s:={s with heap:=h'}) g i (uq.fits H I) ?_));dsimp only;have j:n.fill=0:=by unfold SetTable.fill;rw[H,I];rfl
 have put:∀(b:Array (Int×Value)) (t':SetTable),b.toList.Perm es.toList->t'.fits b.size=true->t'.plain=false->t'.led=(!aT w)->↥A (storeSet r b t') Q E {s with heap:=h'}:=λb t' P f p l=>by
  have sz:b.size=es.size:=by rw[<-Zb,P.length_eq,Zb]
  have%[ts,r1|r2]:=cq m (P.map (·.2));exact wpAny_storeSet_of (s:={s with heap:=h'}) g i (N _ (Y.trans (SameBut.update h' r _)) (br.stored (w:=w) g u i r1 (r2.trans C) y (λe he=>z e (P.mem_iff.mp he)) ⋯ f p l).2) (fits_of_scanBound ⋯)
 unfold SetTable.road;rw[j,if_neg (!1)]
 split
 .exact put es _ (.refl _) G (by show(n.plain&&t.plain)=false;rw[pl,Bool.and_false]) (by show(n.led&&t.led)=_;rw[J,d,Bool.and_self])
 .have%[k|hk]:=k2;have%[t',c,e1,e2,e3,e4,e5,W|P]:=STab.laid_ok hk b2 es ⋯ n.finger n.moves _ _;have sz:(c.filterMap (es[·]?)).size=es.size:=by rw[<-Zb,P.length_eq,Zb]
  rw[e1];refine Z2 ?_;show wpAny _ A (if((c.filterMap _).size != es.size)=true then _ else pure _) _ E _;rw[if_neg (by simp[sz])];exact Z3 (put _ t' P (show t'.fits _=true from yC W (by rw[sz,e2];lia)) (by rw[e4,pl,Bool.and_false]) (by rw[e3,J,d,Bool.and_self]))
 .rename_i v
  split at v<;> cases v
end
def br.nd(S:br w a ks h):ks.Nodup:=by
 have%[_,_,_,_,_,_,_,_,_,_,h|_]:=S;exact h
section
#where
def ut(c:br w b f s.heap)(d:Q true s):↥A (Builtin.Frozenset.isAnySet (.ref b)) Q E s:=by
 have%[o,es,g,t,ss,e,a|_]:=c;exact Z2 (wpAny_isInstance (b:=true) %[o,e|a.1] (by kernel_rfl) (Z3 d))
def lg(d:br w b e s.heap)(f:Q e.length s):↥A (Builtin.Frozenset.sizeOf b) Q E s:=by
 have%[o,es,u,t,ss,g,h,i,a,j,l,m,v,n,p|c]:=d;have r:=by
  have q:=bA a;rw[Z6,Zb,j.length_eq]at q;exact q
 exact Z2 (wpAny_setEntries_of g i n (Z3 (r▸f)))
def CL(N:br w r ks s.heap)(O:br w b T s.heap)(ne:r≠b)(big:T.length<ks.length)(aj:ks.length<=900)
 (hQ:∀h' d f,(∀c o,c≠r->s.heap.get? c=some o->h'.get? c=some o)->(∀x,x∈f↔x∈ks/\x∉T)->br w r f h'->Q () {s with heap:=h',drawn:=d}):↥A (Builtin.Frozenset.differenceUpdate nm r (.ref b)) Q E s:=by
 unfold Builtin.Frozenset.differenceUpdate;rw[if_neg (by simpa using ne.symm)];refine Z2 (ut O ?_);rw[if_pos rfl];refine Z2 (Z3 (Z2 (lg O (Z2 (lg N ?_)))));rw[if_neg ⋯];have%[o,es,ep,t,ss,ho,al,hd,an,hp,aq,as,hb,hf,a0|ai]:=id O;have B:∀(s':Shared) (Q':Nat->Shared->Prop),s'.heap.get? b=some o->Q' ep s'->↥A (setEpoch b) Q' E s':=λs' Q' e q=>by
  unfold setEpoch;exact Z2 (wpAny_setState_of e hd hf (Z3 q))
 refine Z2 (B s _ ho (Z2 (wpAny_holding (Z2 (sf O (λc j=>%[ks|(Xp j)▸N]) (λ_ e=>(nomatch e)) λzs d h1 pz k1 _=>Z2 ?_)))));rw[<-forIn_toList];refine fA (λxs _ s'=>∃g rest h',zs=g++rest/\xs=rest.map (hsE w)/\s'={s with heap:=h',drawn:=d}/\(∀c o,c≠r->s.heap.get? c=some o->h'.get? c=some o)/\∃f,br w r f h'/\∀x,x∈f↔x∈ks/\x∉g.map (·.1)) _ _ _
  %[[],zs,h1,rfl,rfl,rfl,λc o _ e=>k1 c o ∅ e,ks,N.keep λo e=>k1 r o ∅ e|by simp] ?_ ?_
 .intro x xs _ s' %[g,rest,h',U,ex,rfl,Y,f,S|h];cases rest with
  | nil=>cases ex
  | cons p rest=>
  rw[Yr]at ex;injection ex with ab ac
  subst ab;refine Z2 (wpAny_holding (vM (z:=p.1) (tk:=p.2) (s:={s with heap:=h',drawn:=d}) S λh2 bb sb S2=>Z2 ?_));unfold Builtin.Frozenset.unchanged;have C:∀c o,c≠r->s.heap.get? c=some o->h2.get? c=some o:=λc o j e=>(sb.2 c j).trans (Y c o j e)
  refine Z2 (B {s with heap:=h2,drawn:=d} _ (C b o ne.symm ho) ?_);rw[if_neg ∅];refine Z3 (Z3 %[g++[p],rest,h2,by rw[U,Ze];rfl,ac,rfl,C,_,S2|λx=>?_]);rw[S.nd.mem_erase_iff,h,Zd,Yt,Yr,map_nil,Yz,not_or]
  constructor
  .exact λ⟨a,b,c⟩=>%[b,c|a]
  .exact λ⟨b,c,a⟩=>%[a,b|c]
 .intro _ s' %[g,rest,h',U,ex,rfl,Y,f,S|h];obtain rfl:rest=[]:=by
   cases rest with
   | nil=>rfl
   | cons p rest=>cases ex
  rw[Zz]at U;have h:∀x,x∈f↔x∈ks/\x∉T:=λx=>by rw[h,<-U,pz.mem_iff]
  have ae:f.length≠0:=λe=>by
   have:=STab.nodup_sub N.nd (m:=T) λx hx=>Decidable.byContradiction λq=>by
    have:=(h x).mpr %[hx|q];rw[length_eq_zero_iff.mp e]at this;cases this
   lia
  have sub:=STab.nodup_sub S.nd λx hx=>((h x).mp hx).1
  refine Z3 ?_;have%[o2,n,a1,t2,a2,u,G,v,i,H,I,J,a3,L,M|y]:=id S;have hn:=by
   have q:=bA i;rw[Z6,Zb,H.length_eq]at q;exact q
  refine Z2 (wpAny_setState_of u v L ?_);dsimp only
  split
  .rw[show SetTable.grown n.size=n.size*4 by unfold SetTable.grown;rw[if_neg ⋯]];refine STab.relay_w u v L ⋯ ⋯ λag t' P W l p m1 m2=>?_
   have sz:ag.size=n.size:=by rw[<-Zb,P.length_eq,Zb]
   have%[ts,r1|r2]:=cq i (P.map (·.2));exact hQ _ d f (λc o j e=>((SameBut.update h' r _).2 c j).trans (Y c o j e)) h (br.stored u G v r1 (r2.trans H) I (λe he=>J e (P.mem_iff.mp he)) ⋯ (yC W ⋯) (p▸M ⋯) (l▸y)).2
  .exact Z3 (hQ h' d f Y h S)
end
section
#where
def vN(a:Q (.ref ⇑s) {s with heap:=s.heap.push (aU w)}):↥A (newSet (.type "set")) Q E s:=by
 exact Z2 (Z2 (wpAny_askSetting (Z3 (wpAny_newObj_type a))))
def vO(d:br w a ks s.heap)(e:Q (.type "set") s):↥A (Builtin.Frozenset.baseOf a) Q E s:=by
 have%[o,es,g,t,ss,f,c|_]:=d;exact Z2 (wpAny_isInstance (b:=true) %[o,f|c.1] (by kernel_rfl) (Z3 e))
def EY(v:br w a ks s.heap)(C:br w b I s.heap)(ab:ks.length<=900)
 (hQ:∀h' d i,(∀c o,s.heap.get? c=some o->h'.get? c=some o)->(∀x,x∈i↔x∈ks/\x∉I)->br w ⇑s i h'->Q (.ref ⇑s) {s with heap:=h',drawn:=d}):↥A (Builtin.Frozenset.difference nm a (.ref b)) Q E s:=by
 have lt:∀{c:Addr} {ls:ZB},br w c ls s.heap->c≠⇑s:=λ{c ls} h=>by
  have%[o,_,_,_,_,U|_]:=h;exact Zt (Zv U)
 have J:∀c o,s.heap.get? c=some o->(s.heap.push (aU w)).get? c=some o:=λc o e=>Z7 _ e
 have Y:(s.heap.push (aU w)).get? ⇑s=some (aU w):=Zj _ rfl;have S1:=v.keep λo e=>J a o e
 have O1:=C.keep λo e=>J b o e
 unfold Builtin.Frozenset.difference;dsimp only;refine Z2 (ut C ?_);rw[if_neg (!1)];refine Z2 (Z3 ?_);rw[if_neg ∅,if_pos rfl];refine Z2 (lg C (Z2 (lg v ?_)))
 generalize hG:s.heap.push (aU w)=G at J Y S1 O1
 split
 .refine Z2 (wpAny_rule (Z2 ?_));unfold Builtin.Frozenset.copyOf;refine Z2 (vO v (Z2 (vN ?_)));rw[hG];refine Z2 (Z3 (Z2 (CJ (s:={s with heap:=G}) S1 Y (Ne.symm (lt v)) ⋯ ⋯ λh1 sb R1=>Z3 ?_)));have k1:∀c o,s.heap.get? c=some o->h1.get? c=some o:=λc o e=>(sb.2 c (Zt (Zv e))).trans (J c o e)
  exact Z2 (Z3 (Z2 (wpAny_holding (CL (s:={s with heap:=h1}) R1 (C.keep λo e=>k1 b o e) (Ne.symm (lt C)) ⋯ ab λl d i k2 y M=>Z3 (hQ l d i (λc o e=>k2 c o (Zt (Zv e)) (k1 c o e)) y M)))))
 .refine Z2 (vO v (Z2 (vN ?_)));rw[hG];refine Z2 (Z3 ?_);have%[o,es,ep,t,ss,U,a1,hd,a2,hp,a3,a4,hb,hf,a5|an]:=id S1;have L:∀(s':Shared) (Q':Nat->Shared->Prop),s'.heap.get? a=some o->Q' ep s'->↥A (setEpoch a) Q' E s':=λs' Q' e q=>by
   unfold setEpoch;exact Z2 (wpAny_setState_of e hd hf (Z3 q))
  refine Z2 (L {s with heap:=G} _ U ?_);rw[if_pos rfl];refine Z2 (wpAny_holding (Z2 (sf (s:={s with heap:=G}) S1 (λc B=>?_) (λr e=>⟨by cases e;exact Ne.symm (lt v),by cases e;exact br.empty Y⟩) λzs d h1 pz k1 r1=>Z2 ?_)))
  .simp only[Yw,X8,or_false]at B;rcases B with rfl|rfl
   .exact%[_|O1]
   .exact%[_|br.empty Y]
  rw[<-forIn_toList];refine fA (λxs _ s'=>∃f rest h',zs=f++rest/\xs=rest.map (hsE w)/\s'={s with heap:=h',drawn:=d}/\(∀c o,c≠⇑s->G.get? c=some o->h'.get? c=some o)/\∃i,br w ⇑s i h'/\i.length<=f.length/\∀x,x∈i↔x∈f.map (·.1)/\x∉I) _ _ _
   %[[],zs,h1,rfl,rfl,rfl,(λc o B e=>k1 c o (λq=>B (Za q).symm) e),[],r1 _ rfl,Zi _|by simp] ?_ ?_
  .intro x xs _ s' %[f,rest,h',H,ex,rfl,g,i,M,ml|y];cases rest with
   | nil=>cases ex
   | cons p rest=>
   rw[Yr]at ex;injection ex with ac N
   subst ac;have zl:zs.length=ks.length:=by rw[<-pz.length_eq,Z6]
   have pl:f.length<ks.length:=by rw[<-zl,H,Z9,Zr];lia
   rw[if_pos rfl];have m:∀(l:Heap) Qx,(∀c o,c≠⇑s->G.get? c=some o->l.get? c=some o)->Qx (.yield ⟨⟩) {s with heap:=l,drawn:=d}->↥A (Builtin.Frozenset.unchanged nm a ep>>= λ_=>pure (ForInStep.yield PUnit.unit)) Qx E {s with heap:=l,drawn:=d}:=λl Qx k2 q=>by
    refine Z2 ?_;unfold Builtin.Frozenset.unchanged;refine Z2 (L {s with heap:=l,drawn:=d} _ (k2 a o (lt v) U) ?_);rw[if_neg ∅];exact Z3 (Z3 q)
   have mem:∀x,x∈(f++[p]).map (·.1)↔x∈f.map (·.1)\/x=p.1:=λx=>by rw[Zd,Yt,Yr,map_nil,Yz]
   have%[o2,a6,a7,t2,bc,ae,aq,ag,n,O,as,T,ai,aj,a0|al]:=id O1;refine Z2 (wpAny_holding (Z2 (vL (ks:=I) (z:=p.1) (tk:=p.2) (g b o2 (lt C) ae) ag T ai aj λq q1 q2=>Z2 (Z3 ?_))));cases q with
   | none=>
     have hz:p.1∉I:=λz=>by
      have%[u|hu]:=(eB n).mpr (O.mem_iff.mpr z);have%[e,he|q3]:=Xq hu;exact q1 rfl e he u q3
     rw[if_pos (by rfl)];refine Z2 (kL (z:=p.1) (tk:=p.2) M (by rw[show scanBound=4096 from rfl];lia) λl bb sb M2=>Z3 ?_);have k2:=λc o B e=>(sb.2 c B).trans (g c o B e)
     refine m l _ k2 %[f++[p],rest,l,by rw[H,Ze];rfl,N,rfl,k2,_,M2,?_|λx=>?_]
     .rw[Z9,Yl]
      split
      .lia
      .rw[Z9,Yl];lia
     .rw[mem];by_cases hx:x=p.1
      .subst hx;refine%[λ_=>%[.inr rfl|hz]|λ_=>?_]
       split
       .rename_i h;exact h
       .exact Yv _ Zm
      .split
       .rw[y];exact%[λh=>%[.inl h.1|h.2]|λh=>%[h.1.resolve_right hx|h.2]]
       .rw[Yt,Yz,y];exact%[λh=>let h:=h.resolve_right hx;%[.inl h.1|h.2]|λh=> .inl %[h.1.resolve_right hx|h.2]]
   | some j=>
     have hz:p.1∈I:=by
      have%[u|hu]:=q2 j rfl;exact O.mem_iff.mp ((eB n).mp %[u|Xr %[_,Z8 hu|rfl]])
     rw[if_neg ∅];refine Z3 (m h' _ g %[f++[p],rest,h',by rw[H,Ze];rfl,N,rfl,g,i,M,by rw[Z9];lia|λx=>?_]);rw[y,mem];refine%[λh=>%[.inl h.1|h.2]|λh=>%[h.1.resolve_right λe=>h.2 (e▸hz)|h.2]]
  .intro _ s' %[f,rest,h',H,ex,rfl,g,i,M,ml|y];obtain rfl:rest=[]:=by
    cases rest with
    | nil=>rfl
    | cons p rest=>cases ex
   rw[Zz]at H;exact Z3 (Z3 (hQ h' d i (λc o e=>g c o (Zt (Zv e)) (J c o e)) (λx=>by rw[y,<-H,pz.mem_iff]) M))
end
def uu:entryFor table "set.__sub__"=some Builtin.«frozenset.__sub__»:=entryFor_alias (id':="frozenset.__sub__") (by kernel_rfl) rfl (!0) (by kernel_rfl)
section
variable{X:Cx}
abbrev CM(w:World):R2:=λx y H Q=>asR x λa=>asR y λb=>∃ks d,H a=some (j8 w a ks)/\H b=some (j8 w b d)/\ks.length<=900/\∀l c,H l=none->(∀x,x∈c↔x∈ks/\x∉d)->c.Nodup->Q (.ref l) (upd H l (j8 w l c))
def EZ:OpR X (binaryOp .Sub) (CM X.w):=by
 intro pins s B H x y v u Q I m n h;have%[a,rfl|p]:=eX h;have%[b,rfl,ks,C,r,w,e|q]:=eX p;cases m;cases n;have%[S,_|_]:=(I.hok a _ r)
 have%[O,_|_]:=(I.hok b _ w)
 have f:∀{c:Addr} {j:ZB},br X.w c j s.heap->s.TypeIs (.ref c) _:=λ{c j} h=>by
  have%[o,es,E,t,ss,g,i|_]:=h;exact%[o,g|i.1]
 refine wpAny_binaryOp_same (f S) (f O) F.fills_set_sub F.slot_set_sub (wpAny_call_entry F.slot_set_sub (f S) uu (Z2 (Z2 (Z3 (Z3 (Z2 (Z2 (ut S (ut O (Z2 (Z3 (Z2 (EY S O e λh' d l k z M=>Z3 %[_,rfl,by simp,.ref ⇑s,_,I.stoodS (o:=j8 X.w ⇑s l) (I.keptS k rfl rfl) (Zi _) %[M,?_|λ_ _ A k1=>br.keep A k1],rfl|q _ l (I.hok.fresh (Zi _)) z M.nd])))))))))))) (F.args_set_sub_2 _ _));have%[o,_,_,_,_,g|_]:=M;exact%[o|g]
def Hi(h:X.w=w):OpQ X (binaryOp .Sub) (CM w):=by subst h;exact⟨EZ⟩
end
def fS{X:Cx}(a:cn k X.A)(b:behindInMarks .NotIn o=false)(hi:QE X i ty)(c:QE X o d):QT X (.Compare i [.NotIn] [o] pos) (tB (tN ty d)):=
 ⟨A6 (zL (by have:=a.units;lia) hi.h c.h) b⟩
open PySem PySem.Spec PyProof.Rows PySem.SeqAt
section
variable{X:Cx}
end
section
variable{X:Cx}{K:ZA}{pos:Pos}
def af(i:Nat){x:Str}(h:(X.N[i]?,X.env.scope.names.lookup x,x==("__debug__":Str),x==("__classdict__":Str))=(some x,some .local,false,false)):QE X (.Name x pos) (qv i):=by
 simp only[Prod.mk.injEq]at h;exact vn i h.1 (.inl h.2.1) h.2.2.1 h.2.2.2
def dR(i:Nat){x:Str}(h:(X.N[i]?,X.env.scope.names.lookup x,x==("__debug__":Str),x==("__classdict__":Str))=(some x,some .cell,false,false)):QE X (.Name x pos) (qv i):=by
 simp only[Prod.mk.injEq]at h;exact vn i h.1 (.inr (.inl h.2.1)) h.2.2.1 h.2.2.2
def aD{mg:ZC}{j k:Nat}{x:Str}{ps:ZB}{sp:Sp}{p:Pos}{e:Expr}{es:List Expr}{t:TA}(C:Cal X.prog X.w K mg X.base j x ps sp)(a:cn k X.A)(h:(X.K,X.mg,X.env.kindOf x,Nat.ble j k,x==("__debug__":Str),(e::es).any bg)=(K,mg,some .globalImplicit,true,false,false))(b:QA X (e::es) t):QE X (.Call (.Name x p) (e::es) [] pos) (uM sp [] E0 t):=by
 simp only[Prod.mk.injEq]at h;have%[rfl,rfl|h]:=h;exact calE C a h.1 h.2.1 h.2.2.1 h.2.2.2 b
def vP{mg:ZC}{j k:Nat}{x:Str}{ps:ZB}{sp:Sp}{p:Pos}{e:Expr}{es:List Expr}{t:TA}(C:EO X.prog X.w K mg X.base j x ps sp)(c:vE K mg x)(a:cn k X.A)(h:(X.K,X.mg,X.env.kindOf x,Nat.ble (j+1) k,x==("__debug__":Str),(e::es).any bg)=(K,mg,some .globalImplicit,true,false,false))(b:QA X (e::es) t):QE X (.Call (.Name x p) (e::es) [] pos) (x8 (cI mg x) sp [] E0 t):=by
 simp only[Prod.mk.injEq]at h;have%[rfl,rfl|h]:=h;exact IF C c a h.1 h.2.1 h.2.2.1 h.2.2.2 b
def si{mg:ZC}{j k:Nat}{x m:Str}{ps:ZB}{sp:Sp}{apos:Pos}{o:Expr}{a:TE}{pl:Sem Bool}(C:Ao X.prog X.w K mg X.base j x m ps sp)(c:vE K mg x)(d:cn k X.A)(h:(X.K,X.mg,Nat.ble j k)=(K,mg,true))
 (e:eval (.Call (.Attribute o m apos) [] [] pos) X.env=(do
  let b<-eval o X.env
  standAt apos.atName
  let(f,first)<-holding [b] (getMethod b m pl)
  callWith pos f first (backTo pos (starEach [] X.env)) (backToKw pos (keywordEach [] X.env)))) (g:QE X o a):QE X (.Call (.Attribute o m apos) [] [] pos) (x6 (cI mg x) m sp [] E0 a zE):=by
 simp only[Prod.mk.injEq]at h;have%[rfl,rfl|h]:=h;exact G1 C c d h e g
def cbO{x:Str}{id:String}{r:List V->Hp->VK->Prop}{p:Pos}{e:Expr}{es:List Expr}{t:TA}(a:cJ X (.builtin id) r)(b:X.mg x=none)(c:bootBuiltins x=some (.builtin id))(h:(X.env.kindOf x,x==("__name__":Str),x==("__debug__":Str),(e::es).any bg)=(some .globalImplicit,false,false,false))(d:QA X (e::es) t):QE X (.Call (.Name x p) (e::es) [] pos) (tCB r t):=by
 simp only[Prod.mk.injEq]at h;exact cbE a h.1 b c h.2.1 h.2.2.1 h.2.2.2 d
def ctO{x:Str}{T:String}{r:List V->Hp->VK->Prop}{p:Pos}{e:Expr}{es:List Expr}{t:TA}(a:cJ X (.type T) r)(b:X.mg x=none)(c:bootBuiltins x=some (.type T))(h:(X.env.kindOf x,x==("__name__":Str),x==("__debug__":Str),(e::es).any bg)=(some .globalImplicit,false,false,false))(d:QA X (e::es) t):QE X (.Call (.Name x p) (e::es) [] pos) (tCB r t):=by
 simp only[Prod.mk.injEq]at h;exact ctE a h.1 b c h.2.1 h.2.2.1 h.2.2.2 d
def bmO{o e:Expr}{es:List Expr}{b:TE}{t:TA}{name:Str}{apos cpos:Pos}{T id:String}{r:V->List V->Hp->VK->Prop}(c:PlainAttrs T)(slot:Slot T name id)(a:typeOf (.builtin id)=pure (.type "method_descriptor"))(d:MtQ X id r)
 (h:(X.K,gY o,(e::es).any bg,Nat.blt (e::es).length 30,apos.endLine==cpos.line)=(K,false,false,true,true)) (f:QE X o b) (g:QA X (e::es) t):QE X (.Call (.Attribute o name apos) (e::es) [] cpos) (tBM K T r b t):=by
 simp only[Prod.mk.injEq]at h;have%[rfl|h]:=h;exact bmE rfl c slot a d h.1 h.2.1 h.2.2.1 h.2.2.2 f g
def aN(i:Nat){x:Str}{e:Expr}{b:TE}{a:Pos}(c:X.N.Nodup)(h:(X.N[i]?,X.env.scope.names.lookup x,gX e)=(some x,some .local,false))(d:QE X e b):QS X (.Assign [.Name x a] e pos) (ti b (jJ i)):=by
 simp only[Prod.mk.injEq]at h;exact oK i c h.1 (.inl h.2.1) (.inr h.2.1) h.2.2 d
def aP(i:Nat){x:Str}(a:X.N.Nodup)(h:(X.N[i]?,X.env.scope.names.lookup x)=(some x,some .local)):QG X (.Name x pos) (jJ i):=by
 simp only[Prod.mk.injEq]at h;exact yf i a h.1 (.inl h.2) (.inr h.2)
end
section
#where
variable{K:ZA}{x C:Addr}{name:Str}{v:Value}{ox:Obj}
end
section
variable{X:Cx}{o value:Expr}{nm:Str}{ta tv:TE}{C:Addr}{pos pos':Pos}
end
section
variable{P:Program}{w:World}{K:ZA}{mg:ZC}{base:Heap}{x qual:Str}{st:Stmt}{N ps:ZB}{k:Nat}{sp:Sp}
end
section
variable{X:Cx}{pins:ZE}{σ:St}{H:Hp}{s:Shared}
end
section
variable{X:Cx}
end
section
variable{X:Cx}{pins:ZE}{σ:St}{H:Hp}{s:Shared}
end
section
variable{X:Cx}
end
abbrev qM(L:List Addr)(c:Addr->Obj)(H:Hp):Hp:=λb=>if b∈L then(match H b with|some (.dK a)=>some (.frz (c b) (.dK a))|x=>x)else H b
def n6(h:b∈L)(e:H b=some (.dK a)):qM L c H b=some (.frz (c b) (.dK a)):=by
 unfold qM;rw[if_pos h,e]
def pG(h:b∉L):qM L a H b=H b:=if_neg h
def ii(h:∀a,H b≠some (.dK a)):qM L d H b=H b:=by
 unfold qM;by_cases c:b∈L
 .rw[if_pos c];cases e:H b with
  | none=>rfl
  | some o=>cases o<;> first|rfl|exact(h _ e).elim
 .rw[if_neg c]
section
variable{P:Program}{w:World}{K:ZA}{mg:ZC}{base:Heap}{k:Nat}{f:Addr}{fd:FuncData}{ps:ZB}{sp:Sp}
def E3(x:HOk P w H h):HOk P w (qM L (λb=>(h.get? b).getD default) H) h:=by
 intro b o e;have st:∀{b:Addr} {o:HO},bX P w H h b o->bX P w (qM L (λb=>(h.get? b).getD default) H) h b o:=λq=>q.stay (λ_ _ _ q=>q) (λc q=>by rw[ii (λa z=>by lia)];exact q) λc xs q=>by rw[ii (λa z=>by rw[q]at z;cases z)];exact q
 by_cases c:b∈L
 .by_cases d:∃a,H b=some (.dK a)
  .have%[a|d]:=d;rw[n6 c d]at e;cases e;have%[i|g]:=(x b _ d).there;exact%[by rw[g];rfl|st (x b _ d)]
  .rw[ii (λa z=>d %[a|z])]at e;exact st (x b o e)
 .rw[pG c]at e;exact st (x b o e)
def Hj(u:Un fs [] H c h h'):Un fs [] H (qM L g c) h h':=by
 refine%[u.keep,u.slot,λb o e n d=>?_,u.there,λb xs e=>?_,λb o v e=>?_|λb q e=>?_]
 .have:=u.free b o e n d;rw[ii (λa z=>by lia)];exact this
 .have:=u.tups b xs e;rw[ii (λa z=>by rw[this]at z;cases z)];exact this
 .have:=u.frzs b o v e;rw[ii (λa z=>by rw[this]at z;cases z)];exact this
 .have%[m|this]:=u.tbls b q e;exact%[m|by rw[ii (λa z=>by rw[this]at z;cases z)];exact this]
def eL.freeze(F:eL P w K mg base CX0 k f fd ps sp):eL P w K mg base CX0 k f fd ps (λvs H Q E=>sp vs H (λv b=>∃L,∀c,Q v (qM L c b)) E):=by
 refine%[λvs H Q E=>F.len vs H _ E|λA outer s H args us vs Q E d g h i j=>codeAny_mono (F.run A outer s H args us vs _ E d g h i j) λr s' a=>?_];cases r with
 | error e=>exact a
 | ok l=>
   cases l with
   | ret u=>
     have%[v,y,m,n,o,p,q,L|t]:=a;exact%[v,_,m,n,Hj o,E3 p,q|t _]
   | next=>exact a
   | brk=>exact a
   | cont=>exact a
def eL.frozen(F:eL P w K mg base CX0 k f fd ps sp):eL P w K mg base CX0 k f fd ps (λvs H Q E=>∃d a,vs.length=ps.length/\H d=some (.dK a)/\∀o,sp vs (upd H d (.frz o (.dK a))) (λv J=>Q v (upd J d (.dK a))) E):=by
 refine%[λvs H Q E ⟨d,a,l,_⟩=>l|λA outer s H args us vs Q E L g y M ⟨d,a,_,B,N⟩=>?_];have%[o|O]:=(g.hok d _ B).there;have h:∀{b:Addr},H b=none->b≠d:=λe z=>by rw[z,B]at e;cases e
 have ne:∀{b:Addr} {u:HO},H b=some u->(∀q,u≠ .dK q)->b≠d:=λe n z=>by rw[z,B]at e;cases e;exact n _ rfl
 have st:∀{b:Addr} {u:HO},bX P w H s.heap b u->bX P w (upd H d (.frz o (.dK a))) s.heap b u:=λq=>q.stay (λ_ _ _ q=>q) (λc q=>(am (ne q λ_ z=>nomatch z))▸q) λc xs q=>(am (ne q λ_ z=>nomatch z))▸q
 have C:wP P w K mg base A outer s (upd H d (.frz o _)):=⟨g.frames,g.mod,λb i e=>%[(g.bs b i e).1|by rw[am (h (g.bs b i e).2)];exact(g.bs b i e).2],g.bsz,g.funs,λb y=>by rw[am (h (g.frf b y))];exact g.frf b y,λb u e=>by
  by_cases c:b=d
  .subst c;rw[aa]at e;cases e;exact%[O|st (g.hok b _ B)]
  .rw[am c]at e;exact st (g.hok b u e),g.bare⟩
 refine codeAny_mono (F.run A outer s _ args us vs _ E L C y M (N o)) λr s' m=>?_
 cases r with
 | error e=>exact m
 | ok T=>
   cases T with
   | next=>exact m
   | brk=>exact m
   | cont=>exact m
   | ret u=>
     have%[v,G,U,Y,j,I,h5|h6]:=m;have hf:=j.frzs d o _ aa;have p:∀{b:Addr} {u:HO},G b=some u->(∀o q,u≠ .frz o q)->b≠d:=λe n z=>by grind
     have t:∀{b:Addr} {u:HO},bX P w G s'.heap b u->bX P w (upd G d (.dK a)) s'.heap b u:=λq=>q.stay (λ_ _ _ q=>q) (λc q=>(am (p q λ_ _ z=>nomatch z))▸q) λc xs q=>(am (p q λ_ _ z=>nomatch z))▸q
     refine%[v,_,U,Y,%[λb i e n=>j.keep b i e ((am (h n))▸n),λb i e n=>j.slot b i e ((am (h n))▸n),λb i e n hx=>?_,j.there,λb xs e=>?_,λb i u e=>?_|λb q e=>?_],λb u e=>?_,h5|h6]
     .rw[am (h n)];exact j.free b i e ((am (h n))▸n) hx
     .have n:=ne e λ_ z=>nomatch z
      rw[am n];exact j.tups b xs ((am n)▸e)
     .have n:=ne e λ_ z=>nomatch z
      rw[am n];exact j.frzs b i u ((am n)▸e)
     .have n:=ne e λ_ z=>nomatch z
      rw[am n];exact j.tbls b q ((am n)▸e)
     .by_cases c:b=d
      .subst c;rw[aa]at e;cases e;exact t (I b _ hf).2
      .rw[am c]at e;exact t (I b u e)
end
abbrev Itk(d:Addr)(o:Obj)(a:List (Key×V)):It:=⟨λi H=>H d=some (.frz o (.dK a))/\i<a.length,λi H x b=>b=H/\∃k v,a[i]? =some (k,v)/\x=kV k,λi H=>H d=some (.frz o (.dK a))/\a.length<=i⟩
abbrev sj(c:TE):TI:=λe H R=>c e H λv b=>∃d o a,v= .ref d/\b d=some (.frz o (.dK a))/\R (Itk d o a) b
def yD(h:jI k v=true):aZ (kV k) v:=by
 rcases bd h with⟨i,t,rfl,rfl⟩|⟨x,t,rfl,rfl⟩
 .exact%[t|rfl]
 .exact%[t|rfl]
def CO{a:List _}{vs:List _}(r:KV a vs){i:Nat}{k:Key}{v:V}(e:a[i]? =some (k,v)):∃u,vs[i]? =some (k,u)/\aZ v u:=by
 induction r generalizing i with
 | nil=>cases e
 | @cons p q ps qs b t c=>
   cases i with
   | zero=>
     obtain rfl:p=(k,v):=Za e;exact%[q.2,by rw[show k=q.1 from b.1];rfl|b.2]
   | succ i=>exact c e
def i4(r:KV a vs):a.length=vs.length:=by
 induction r with
 | nil=>rfl
 | cons _ _ b=>simp_all
section
variable{P:Program}{w:World}{K:ZA}{tg:Expr}
def uv{X:Cx}(I:Inv X pins m H s)(e:H d=some (.frz o (.dK a)))(b:o.data= .dict es f):∃vs,KV a vs/\s.heap.DictAt (aQ X.prog X.w) d vs f:=by
 have%[g,n,p,vs,r,q,h,i,g',j,c|l]:=I.hok d _ e;rw[g]at g';cases g';rw[b]at c;cases c;exact%[vs,r,_,es,g,j,b|l]
def CP(d it:Addr)(o:Obj)(kvs:List _):oi P w K tg (Itk d o kvs) [it] it (λi h=>∃es ep,o.data= .dict es ep/\h.IsKeyIter it d i kvs.length ep) where
 mem:=by simp
 obj:=λi h st b hb=>by
  have e:=↑hb
  subst e;have%[_,_,_,o,e,c|d]:=st;exact%[o,e|λv z=>by rw[d]at z;cases z]
 keep:=λi h h' ⟨es,ep,ho,st⟩ k=>%[es,ep,ho|st.at λo e=>k it ∅ o e]
 item:=by
  intro X hP hw hK hc i pins s σ H E I hf st hg;subst hP hw hK;have%[es,ep,ho|st]:=st;have%[hd|hi]:=hg;have%[vs,r|da]:=uv I hd ho;have ln:=i4 r;have%[u,hu|ru]:=CO r (Z4 hi);have%[f0,f1,f2,f3,f4|f5]:=hf it ∅;rw[ln]at st;refine wpAny_pyNext_dict_item st da hu λkey h' hk st' sb=>?_
  rw[<-ln]at st';have%[o',e,c|dd]:=id st';exact%[key,rfl|qZ e c dd (!1) %[_,H,(I.turned (λb o hb e=>(sb.2 b hb).trans e) f0 f1 f3 f4 f5),yD hk,%[rfl,_,_,Z4 hi|rfl],%[es,ep,ho|st']|λb hb=>(hf b hb).1]]
 done:=by
  intro X hP hw hK hc i pins s σ H E I hf st hg;subst hP hw hK;have%[es,ep,ho|st]:=st;have%[hd|hi]:=hg;have%[vs,r|da]:=uv I hd ho;have ln:=i4 r;have%[f0,f1,f2,f3,f4|f5]:=hf it ∅;rw[ln]at st;exact wpAny_pyNext_dict_end (I.ok.hd hc) st da (Xm ⋯) λh' eb=>%[rfl|I.turned (λb o hb e=>eb b o hb e) f0 f1 f3 f4 f5]
 self:=λ_ _ _ _ _ ⟨_,_,_,st⟩ h=>wpAny_pyIter_keyiter st h
def E4{X:Cx}(m:PE X l n):PI X tg l (sj n):=by
 intro pins s p H R I h;refine thP (m pins s p H _ I h) λv c x t a u q1=>?_
 have%[d,o,f,e,y|q]:=q1;subst e;cases u;have%[g,J,z,vs,r,A,es,i,g',B,j|C]:=a.hok d _ y;have E:c.heap.DictAt _ d vs i:=%[A,es,g',B,j|C]
 rw[g]at g';cases g';refine wpAny_pyIter_dict z E %[⇑c,[⇑c],_,_,t,rfl,a.kept λb o e=>Z7 _ e,CP d _ o f,%[es,i,j,_,Zj _ rfl,rfl|by rw[i4 r];rfl],λb G=>?_|q];have e:=↑G
 subst e;exact a.fpOk (Zi _) (a.hok.fresh (Zi _))
def yE{X:Cx}(a:QE X l b):QI X tg l (sj b):=⟨E4 a.h⟩
end
abbrev Iti(d:Addr)(o:Obj)(a:List (Key×V)):It:=⟨λi H=>H d=some (.frz o (.dK a))/\i<a.length,λi H v b=>∃k x T,a[i]? =some (k,x)/\H T=none/\v= .ref T/\b=upd H T (.tup [kV k,x]),λi H=>H d=some (.frz o (.dK a))/\a.length<=i⟩
abbrev xF(c:TE):TI:=λe H R=>c e H λv b=>∃d o a,v= .ref d/\b d=some (.frz o (.dK a))/\R (Iti d o a) b
def uw:entryFor table "dict_itemiterator.__iter__"=some Builtin.«dict_keyiterator.__iter__»:=
 entryFor_alias (id (Eq.refl (fastTable "dict_itemiterator.__iter__"))) (Eq.refl ("dict_itemiterator.__iter__".cutAt '#')) (!0) (id (Eq.refl (fastTable "dict_keyiterator.__iter__")))
section
variable{P:Program}{w:World}{K:ZA}{elts:List Expr}{kt:Nat}{tp:Pos}
def xG(d it:Addr)(o:Obj)(kvs:List (Key×V)):oi P w K (.Tuple elts kt tp) (Iti d o kvs) [it] it (λi h=>∃es ep ok ov,o.data= .dict es ep/\IsItemIter h it d i kvs.length ep ok ov) where
 mem:=by simp
 obj:=λi h st b hb=>by
  have e:b=it:=↑hb
  subst e;have%[_,_,_,_,_|e]:=st;exact%[_,e|λv z=>nomatch z]
 keep:=λi h h' ⟨es,ep,ok,ov,ho,st⟩ k=>%[es,ep,ok,ov,ho|k it ∅ _ st]
 item:=by
  intro X hP hw hK hc i pins s σ H E I hf st hg;subst hP hw hK;have%[es,ep,ok,ov,ho|st]:=st;have%[hd|hi]:=hg;have%[vs,r|da]:=uv I hd ho;have ln:=i4 r;have%[u,hu|ru]:=CO r (Z4 hi);have ilt:it<⇑s:=Zv st;rw[ln]at st;refine wpAny_pyNext_items_item st da hu λkey h1 hk st1 ht1 hz1 hk1=>%[_,rfl|wpAny_letOwnedTupleGo_items (s:={s with heap:=h1}) st1 λh2 st2 sb2=>?_]
  replace sb2:SameBut it h1 h2:=sb2;have kk:∀b o,b∉[it]->s.heap.get? b=some o->h2.get? b=some o:=λb o hb q=>by
   have hb:b≠it:=↑hb
   exact(sb2.2 b hb).trans (hk1 b o hb q)
  have J:Inv X pins σ H {s with heap:=h2}:=I.moved hf kk;have hT:=(sb2.2 _ (X2 ilt)).trans ht1;have I2:Inv X pins σ (upd H ⇑s (.tup _)) _:=
   I.stood J (Zi _) %[by show 2<=sizeLine;decide,[key,u],.cons (yD hk) (.cons ru .nil),_,hT,rfl,_|rfl]
  rw[<-ln]at st2;refine%[.ref ⇑s,_,I2,rfl,%[_,_,_,Z4 hi,I.fresh,rfl|rfl],%[es,ep,_,_,ho|st2]|λb hb=>?_];rw[am (↑hb▸Zt ilt)];exact(hf b hb).1
 done:=by
  intro X hP hw hK hc i pins s σ H E I hf st hg;subst hP hw hK;have%[es,ep,ok,ov,ho|st]:=st;have%[hd|hi]:=hg;have%[vs,r|da]:=uv I hd ho;have ln:=i4 r;rw[ln]at st;refine wpAny_pyNext_items_end (I.ok.hd hc) st da (Xm ⋯) λh1 xb=>%[rfl|I.moved hf λb o hb q=>?_]
  exact xb b o ↑hb q
 self:=λA i s Q E ⟨_,_,_,_,_,st⟩ h=>by
  have hT:s.TypeIs (.ref it) _:=%[_,st|rfl]
  exact wpAny_pyIter_slot hT PySem.F.slot_dict_itemiterator_iter (wpAny_call_entry PySem.F.slot_dict_itemiterator_iter hT uw (Z3 %[.ref it,rfl,"dict_itemiterator",_,hT,PySem.F.slot_dict_itemiterator_next.lookup|h]) (PySem.F.args_dict_itemiterator_iter_1 _))
def CQ{X:Cx}(l:gY o=false)(c:(apos.endLine==cpos.line)=true)(B:QE X o C):QI X (.Tuple elts kt tp) (.Call (.Attribute o "items" apos) [] [] cpos) (xF C):=by
 refine⟨λpins s u H R I h=>?_⟩;refine wpAny_Call_method0_late (fP l) c (thP (B.h pins s u H _ I h) λv a x m i E q1=>?_);have%[d,n,f,e,p|q]:=q1;subst e;cases E;have g:cP m d (kV (.inr Str.empty)) (bH f (.inr Str.empty)):= .inl %[f,_,.inr %[n|p],rfl|rfl];refine%["dict",_,plainAttrs_dict,PySem.F.slot_dict_items,PySem.F.type_dict_items,mT i g,uR i g|Calls.callWith_builtin rfl (PySem.evalArgs_none ?_)];have%[T,G,vs,r|y]:=om i.hok (.inr %[n|p]);refine call_meetsIn PySem.F.slot_dict_items y.typeIs PySem.F.entry_dict_items (PySem.F.args_dict_items_1 _) (meets_dict_items (aQ X.prog X.w) d G) %[%[vs|y]|?_];have j:Inv X pins u m {a with heap:=a.heap.push {cls:= .type "dict_items",data:= .fields #[.ref d]}}:=i.kept (t':=a.toks) λb o e=>Z7 _ e
 have%[J,_,_,t,L,M,es,z,g',N,A|O]:=j.hok d _ p;have Q:Heap.DictAt (aQ X.prog X.w) (a.heap.push {cls:= .type "dict_items",data:= .fields #[.ref d]}) d t z:=%[M,es,g',N,A|O]
 rw[J]at g';cases g';refine wpAny_pyIter_items (s:={a with heap:=a.heap.push {cls:= .type "dict_items",data:= .fields #[.ref d]}}) %[_,Zj _ rfl,rfl|rfl] Q ?_;refine%[_,[_],_,_,m,rfl,(j.kept (t':=a.toks) λb o e=>Z7 _ e),xG d _ n f,%[es,z,_,_,A|by rw[i4 L];exact Zj _ rfl],λb l=>?_|q];have e:b=(a.heap.push {cls:= .type "dict_items",data:= .fields #[.ref d]}).objs.size:=↑l
 subst e;exact j.fpOk (Zi _) (j.hok.fresh (Zi _))
end
section
variable{X:Cx}
def II:MtQ X "list.pop" Il:=⟨Gr⟩
abbrev IJ:V->List V->Hp->VK->Prop:=λx vs H Q=>asR x λa=>∃b,vs=[.ref b]/\∃c more,a≠b/\H a=some (.dK c)/\H b=some (.dK more)/\c.length+more.length<=sizeLine/\Q .non (upd H a (.dK (l7 c more)))
def Hk:MtM X "dict.update" IJ:=by
 intro pins s B H x vs v us Q I m n h;have%[a,rfl,b,rfl,o,more,ne,g,p,i|q]:=eX h;cases m;have%[u,rfl|r]:=n.one;cases r;have%[z,t,vs,d|j]:=mS I.hok g;have%[C,e,w,c|f]:=mS I.hok p;exact call_meetsIn PySem.F.slot_dict_update j.typeIs PySem.F.entry_dict_update (PySem.F.args_dict_update_2 _ _) (meets_dict_update _ a b ne e) %[vs,w,j,f,by rw[<-i4 d,<-i4 c];exact i|λh' l E y=>%[.non,_,nU I (g▸True.intro) y (let⟨q,_,_,A,_⟩:=l;%[q|A]) (wQ (Yh (jK _ _) i) t (KV.merge c d) l),rfl|q]]
def CS:MtQ X "dict.update" IJ:=⟨Hk⟩
abbrev FF:V->List V->Hp->VK->Prop:=λx vs H Q=>asR x λa=>∃k,vs=[kV k]/\∃b,H a=some (.dK b)/\Q ((bH b k).getD .non) H
def E5:MtM X "dict.get" FF:=by
 intro pins s l H x vs v us Q I f g h;have%[a,rfl,k,rfl,b,e|q]:=eX h;cases f;have%[m,rfl|i]:=g.one;have%[z,j,vs,c|d]:=mS I.hok e;exact call_meetsIn slot_dict_get d.typeIs PySem.F.entry_dict_get (PySem.F.args_dict_get_2 _ _) (meets_dict_get _ a (mR i) j) %[_,d.mapOf,(bH b k).getD .non,H,I.tok _,(c.val k).getD rfl|q]
def Hl:MtQ X "dict.get" FF:=⟨E5⟩
end
def Cal.freeze{P:Program}{K:ZA}(C:Cal P w K mg base k x ps sp):Cal P w K mg base k x ps (λvs H Q E=>sp vs H (λv a=>∃L,∀b,Q v (qM L b a)) E):=by
 have%[f,c,F|r]:=C.ex;exact%[f,c,F.freeze|r]
def Cal.imp{P:Program}{K:ZA}(C:Cal P w K mg base k x ps sp)(h:∀vs H Q E,a vs H Q E->sp vs H Q E):Cal P w K mg base k x ps a:=by
 have%[f,b,F|r]:=C.ex;exact%[f,b,F.imp h|r]
def Cal.frozen{P:Program}{K:ZA}(C:Cal P w K mg base k x ps sp):Cal P w K mg base k x ps (λvs H Q E=>sp vs H Q E\/∃d a,vs.length=ps.length/\H d=some (.dK a)/\∀o,sp vs (upd H d (.frz o (.dK a))) (λv i=>Q v (upd i d (.dK a))) E):=by
 have%[f,j,F|r]:=C.ex;refine%[f,j,%[λvs H Q E h=>h.elim (F.len vs H Q E) (F.frozen.len vs H Q E)|λA outer s H args us vs Q E b c e g h=>h.elim (F.run A outer s H args us vs Q E b c e g) (F.frozen.run A outer s H args us vs Q E b c e g)]|r]
def vQ{a:List (Key×V)}{g:TG}{n:TS}{D:kq}(Pv:Nat->St->Hp->Prop)(s:Pv 0 b H)(t:∀i b H,i<=a.length->Pv i b H->H d=some (.frz o (.dK a)))
 (u:∀i k v b H,a[i]? =some (k,v)->Pv i b H->g (kV k) b H λc l=>n {D with nx:=Pv (i+1),ct:=Pv (i+1),bk:=D.nx} c l) (w:∀b H,Pv a.length b H->D.nx b H):
 ∃W:Nat->Nat->St->Hp->Prop,(∃m,W 0 m b H)/\∀i m b H,W i m b H->
  ((Itk d o a).stop i H/\D.nx b H)\/((Itk d o a).go i H/\∃N:St->Hp->Prop,(∀f h,N f h->∃r,r<m/\W (i+1) r f h)/\∀x h,(Itk d o a).yld i H x h->g x b h λc l=>n {D with nx:=N,ct:=N,bk:=D.nx} c l):=by
 refine%[λi m b H=>m=a.length-i/\i<=a.length/\Pv i b H,%[a.length,by simp,Xf _|s]|?_];intro i m b H %[rfl,hi|p];have q:=t i b H hi p;by_cases j:i<a.length
 .refine .inr %[%[q|j],Pv _,λf h z=>%[a.length-(i+1),⋯,rfl,j|z]|λx h y=>?_];have%[e,k,v,y|rfl]:=y;subst e;exact u i k v b _ y p
 .have e:i=a.length:=by lia
  subst e;exact .inl %[%[q|Zi _]|w b H p]
def AA{a:List (Key×V)}{g:TG}{r:TS}{D:kq}(Pv:Nat->St->Hp->Prop)(t:Pv 0 b H)(u:∀i b H,i<=a.length->Pv i b H->H d=some (.frz o (.dK a)))
 (w:∀i k v T b H,a[i]? =some (k,v)->Pv i b H->H T=none->g (.ref T) b (upd H T (.tup [kV k,v])) λc n=>r {D with nx:=Pv (i+1),ct:=Pv (i+1),bk:=D.nx} c n) (z:∀b H,Pv a.length b H->D.nx b H):
 ∃W:Nat->Nat->St->Hp->Prop,(∃m,W 0 m b H)/\∀i m b H,W i m b H->
  ((Iti d o a).stop i H/\D.nx b H)\/((Iti d o a).go i H/\∃N:St->Hp->Prop,(∀h j,N h j->∃s,s<m/\W (i+1) s h j)/\∀x j,(Iti d o a).yld i H x j->g x b j λc n=>r {D with nx:=N,ct:=N,bk:=D.nx} c n):=by
 refine%[λi m b H=>m=a.length-i/\i<=a.length/\Pv i b H,%[a.length,by simp,Xf _|t]|?_];intro i m b H %[rfl,hi|p];have q:=u i b H hi p;by_cases l:i<a.length
 .refine .inr %[%[q|l],Pv _,λh j A=>%[a.length-(i+1),⋯,rfl,l|A]|λx j y=>?_];have%[k,v,T,y,f,rfl|rfl]:=y;exact w i k v T b H y p f
 .have e:i=a.length:=by lia
  subst e;exact .inl %[%[q|Zi _]|z b H p]
section
variable{X:Cx}
end
section
variable{prog:Program}{w:World}{A:Around}{R:Result->Shared->Prop}{I S:Addr}{fp wr:List Addr}{n:Nat}{P:Nat->Value->Prop}{St:Nat->Heap->Prop}{val:Nat->Int}{kn:Str}{d:Value}
end
section
variable{X:Cx}{e v:Expr}{te tv:TE}{p pos kpos:Pos}
end
section
variable{X:Cx}{K:ZA}{e v:Expr}{te tv:TE}{p pos kpos:Pos}
end
section
variable{prog:Program}{w:World}{A:Around}{s:Shared}{E:ZD}
end
section
variable{X:Cx}{K:ZA}
end
section
variable{X:Cx}
end
section
variable{X:Cx}{pins:ZE}{σ:St}{H:Hp}{s:Shared}
end
section
variable{X:Cx}
end
end L2
namespace Cut
open PySem L2
inductive dF (S:Str->Str->Prop):Str->Str->Prop
 | refl (x:Str):dF S x x
 | step {x y z:Str}:dF S x y->(S y z\/S z y)->dF S x z
def dF.trans{S:Str->Str->Prop}(h:dF S x y)(g:dF S y z):dF S x z:=by
 induction g with
 | refl=>exact h
 | step _ s a=>exact .step a s
def dF.one{S:Str->Str->Prop}(h:S x y\/S y x):dF S x y:= .step (.refl x) h
def dF.symm{S:Str->Str->Prop}(h:dF S x y):dF S y x:=by
 induction h with
 | refl=>exact .refl _
 | step _ s a=>exact(dF.one s.symm).trans a
def dF.mono{S R:Str->Str->Prop}(m:∀a b,S a b->R a b)(h:dF S x y):dF R x y:=by
 induction h with
 | refl=>exact .refl _
 | step _ s c=>exact .step c (s.imp (m _ _) (m _ _))
def dF.within{S:Str->Str->Prop}{p:Str->Prop}(w:∀a b,S a b->p a/\p b)(h:dF S x y)(c:p x):p y:=by
 induction h with
 | refl=>exact c
 | step _ s _=>
   rcases s with s|s
   .exact(w _ _ s).2
   .exact(w _ _ s).1
abbrev cz(S:Str->Str->Prop)(z r:Str):Prop:=dF S z r/\∀y,dF S z y->a8 y r=false
def cz.one{S:Str->Str->Prop}(h:cz S z r)(g:cz S z a):r=a:=by
 by_cases e:r=a
 .exact e
 .have:=gG (g.2 _ h.1) e;rw[h.2 _ g.1]at this;cases this
structure bI (ls:ZB) (f r:Str->Str) (S:Str->Str->Prop):Prop where
 ws:∀a b,S a b->a∈ls/\b∈ls
 fin:∀z∈ls,f z∈ls
 rin:∀z∈ls,r z∈ls
 rf:∀z∈ls,r (f z)=r z
 fr:∀z∈ls,f (r z)=r z
 fix:∀z∈ls,f z=z->r z=z
 dec:∀z∈ls,f z≠z->a8 (f z) z=true
 le:∀z∈ls,a8 z (r z)=false
 cl:∀x∈ls,∀y∈ls,r x=r y↔dF S x y
def bI.rr{S:Str->Str->Prop}(F:bI a f r S)(h:z∈a):r (r z)=r z:=F.fix _ (F.rin z h) (F.fr z h)
def bI.conn{S:Str->Str->Prop}(F:bI a f r S)(h:z∈a):dF S z (r z):=(F.cl z h _ (F.rin z h)).mp (F.rr h).symm
def bI.least{S:Str->Str->Prop}(F:bI b f r S){z:Str}(h:z∈b):cz S z (r z):=by
 refine%[F.conn h|λy c=>?_];have a:=c.within F.ws h;rw[(F.cl z h y a).mpr c];exact F.le y a
def bI.start(a:ZB):bI a id id (λ_ _=>False):=by
 refine%[λ_ _ h=>h.elim,λz h=>h,λz h=>h,λ_ _=>rfl,λ_ _=>rfl,λ_ _ _=>rfl,λz _ h=>(h rfl).elim,λz _=>fR z|λx b y d=>%[λe=>?_|λc=>?_]]
 .rw[show x=y from e];exact .refl _
 .induction c with
  | refl=>rfl
  | step _ s _=>simp_all
def bI.join{S:Str->Str->Prop}(F:bI j f r S){a b M m:Str}(q:a∈j)(t:b∈j)(A:M=if a8 (r a) (r b)=true then r b else r a)(B:m=if a8 (r b) (r a)=true then r b else r a):
 bI j (λx=>if x=M then m else f x) (λx=>if r x=M then m else r x) (λx y=>S x y\/(x=a/\y=b)):=by
 have g:(M=r a/\m=r b)\/(M=r b/\m=r a):=by
  rw[A,B];cases e:a8 _ _ with
  | true=>
    have:a8 (r b) (r a)=false:=by
     cases i:a8 _ _ with
     | false=>rfl
     | true=>have:=gF e i;rw[fR]at this;cases this
    exact this▸ .inr %[rfl|rfl]
  | false=>
    cases i:a8 _ _ with
    | true=>exact .inl %[rfl|rfl]
    | false=>
      have:r a=r b:=by
       by_cases h:r a=r b
       .exact h
       .have:=gG e h;rw[i]at this;cases this
      exact this▸ .inl %[rfl|rfl]
 have lt:m≠M->a8 m M=true:=by
  rw[A,B];cases e:a8 _ _ with
  | true=>
    cases i:a8 _ _ with
    | true=>intro h;exact(h rfl).elim
    | false=>intro _;exact e
  | false=>
    cases i:a8 _ _ with
    | true=>intro _;exact i
    | false=>intro h;exact(h rfl).elim
 have Q:=F.rin a q;have T:=F.rin b t;have C:m∈j:=by rcases g with⟨_,h⟩|⟨_,h⟩<;> rw[h]<;> assumption
 have E:r M=M:=by rcases g with⟨h,_⟩|⟨h,_⟩<;> rw[h]<;> apply F.rr<;> assumption
 have L:r m=m:=by rcases g with⟨_,h⟩|⟨_,h⟩<;> rw[h]<;> apply F.rr<;> assumption
 have N:dF (λx y=>S x y\/(x=a/\y=b)) M m:=by
  have G:dF (λx y=>S x y\/(x=a/\y=b)) _ _:=(((F.conn q).mono λ_ _=> .inl).symm.trans (.one (.inl (.inr %[rfl|rfl])))).trans ((F.conn t).mono λ_ _=> .inl);rcases g with⟨l,n⟩|⟨l,n⟩
  .rw[l,n];exact G
  .rw[l,n];exact G.symm
 have p:∀x∈j,dF _ x (if r x=M then m else r x):=λx w=>by
  have c:=(F.conn w).mono (R:=λx y=>S x y\/(x=a/\y=b)) λ_ _=> .inl
  by_cases e:r x=M
  .rw[if_pos e];rw[e]at c;exact c.trans N
  .rw[if_neg e];exact c
 have H:(if r a=M then m else r a)=(if r b=M then m else r b):=by
  rcases g with⟨l,n⟩|⟨l,n⟩
  .rw[if_pos l.symm];by_cases e:r b=M
   .rw[if_pos e]
   .rw[if_neg e];exact n
  .rw[if_pos l.symm];by_cases e:r a=M
   .rw[if_pos e]
   .rw[if_neg e];exact n.symm
 refine%[λx y h=>?_,λz d=>?_,λz d=>?_,λz d=>?_,λz d=>?_,λz d h=>?_,λz d h=>?_,λz d=>?_|λx w y I=>%[λe=>?_|λc=>?_]]
 .rcases h with h|⟨rfl,rfl⟩
  .exact F.ws x y h
  .exact%[q|t]
 .split
  .exact C
  .exact F.fin z d
 .split
  .exact C
  .exact F.rin z d
 .by_cases e:z=M
  .rw[if_pos e,e,E,if_pos rfl,L]
   split<;> rfl
  .rw[if_neg e,F.rf z d]
 .by_cases e:r z=M
  .rw[if_pos e]
   split
   .rfl
   .exact(by rcases g with⟨_,h⟩|⟨_,h⟩<;> rw[h]<;> apply F.fr<;> assumption)
  .rw[if_neg e,if_neg e];exact F.fr z d
 .by_cases e:z=M
  .rw[if_pos e]at h;rw[e,E,if_pos rfl,<-e];exact h
  .rw[if_neg e]at h;rw[F.fix z d h,if_neg e]
 .by_cases e:z=M
  .rw[if_pos e]at h ⊢;rw[e]at h ⊢;exact lt h
  .rw[if_neg e]at h ⊢;exact F.dec z d h
 .by_cases e:r z=M
  .rw[if_pos e];cases i:a8 z m with
   | false=>rfl
   | true=>
     have o:=F.le z d;rw[e]at o;by_cases em:m=M
     .rw[em]at i;rw[o]at i;cases i
     .have:=gF i (lt em);rw[o]at this;cases this
  .rw[if_neg e];exact F.le z d
 .have c:=(p x w)
  rw[e]at c;exact c.trans (p y I).symm
 .have ws:∀x y,(S x y\/(x=a/\y=b))->x∈j/\y∈j:=λx y h=>by
   rcases h with h|⟨rfl,rfl⟩
   .exact F.ws x y h
   .exact%[q|t]
  clear I
  induction c with
  | refl=>rfl
  | step c s O=>
    rename_i u v
    have J:=c.within ws w;rw[O];rcases s with(s|⟨rfl,rfl⟩)|(s|⟨rfl,rfl⟩)
    .rw[(F.cl u J v (F.ws u v s).2).mpr (.one (.inl s))]
    .exact H
    .rw[(F.cl u J v (F.ws v u s).1).mpr (.one (.inr s))]
    .exact H.symm
def bI.short{S:Str->Str->Prop}(F:bI d f r S)(b:z∈d):bI d (λx=>if x=z then f (f z)else f x) r S:=by
 have g:f z≠z->a8 (f _) z=true:=λh=>by
  have i:=F.dec z b h;by_cases e:f (f z)=f z
  .exact e▸i
  .exact gF (F.dec _ (F.fin z b) e) i
 refine%[F.ws,λx a=>?_,F.rin,λx a=>?_,λx a=>?_,λx a h=>?_,λx a h=>?_,F.le|F.cl]
 .split
  .exact F.fin _ (F.fin z b)
  .exact F.fin x a
 .by_cases e:x=z
  .rw[if_pos e,F.rf _ (F.fin z b),F.rf z b,e]
  .rw[if_neg e];exact F.rf x a
 .by_cases e:r x=z
  .rw[if_pos e];have:=F.fr x a
   simp_all
  .rw[if_neg e];exact F.fr x a
 .by_cases e:x=z
  .rw[if_pos e]at h;rw[e]at h ⊢;by_cases c:f z=z
   .exact F.fix z b c
   .have:=g c;rw[h,fR]at this;cases this
  .rw[if_neg e]at h;exact F.fix x a h
 .by_cases e:x=z
  .rw[if_pos e]at h ⊢;rw[e]at h ⊢;refine g λc=>h ?_
   rw[c,c]
  .rw[if_neg e]at h ⊢;exact F.dec x a h
def bI.done{S:Str->Str->Prop}(F:bI b f r S)(a:z∈b)(h:∀w∈b,a8 w z=true->f w=r w):f (f z)=r z:=by
 by_cases e:f z=z
 .rw[e,e];exact(F.fix z a e).symm
 .rw[h _ (F.fin z a) (F.dec z a e),F.rf z a]
abbrev Ed(ks:List ZB)(a b:Str):Prop:=∃z,[a,b,z]∈ks
inductive Rch (ks:List ZB):Str->Str->Prop
 | one {a b:Str}:Ed ks a b->Rch ks a b
 | more {a b c:Str}:Rch ks a b->Ed ks b c->Rch ks a c
def Rch.trans(h:Rch ks a b)(g:Rch ks b c):Rch ks a c:=by
 induction g with
 | one e=>exact .more h e
 | more _ e d=>exact .more d e
def Rch.closed{R:Str->Prop}(a:∀y,Ed ks s y->R y)(h:∀x y,R x->Ed ks x y->R y)(r:Rch ks s y):R y:=by
 induction r with
 | one e=>exact a _ e
 | more _ e b=>exact h _ _ b e
def sk{ks:List _}{laid:ZB}(h:∀i x,laid[i]? =some x->∀y,Ed ks x y->y∈laid.take i){i:Nat}{x y:Str}(hi:laid[i]? =some x)(r:Rch ks x y):∃j,j<i/\laid[j]? =some y:=by
 have b:∀i y,y∈laid.take i->∃j,j<i/\laid[j]? =some y:=λi y d=>by
  have%[j|c]:=Xg d;have f:=(Xn c).1;rw[Ym]at f;exact%[j,⋯|by rwa[Yd ⋯]at c]
 refine r.closed (λy e=>b i y (h i x hi y e)) λa y ⟨j,m,c⟩ e=>?_
 have%[g,n|l]:=b j y (h j a c y e);exact%[g,⋯|l]
def E6{laid:ZB}(h:∀(i:Nat) x,laid[i]? =some x->∀y,Ed ks x y->y∈laid.take i){x:Str}(a:x∈laid): ¬ Rch ks x x:=by
 intro r;have%[i|hi]:=Xg a;have:∀n i:Nat,i<=n->laid[i]? ≠some x:=λn=>by
  induction n with
  | zero=>
    intro i hi e;have%[j,b|_]:=sk h e r
    lia
  | succ n c=>
    intro i hi e;have%[j,b|d]:=sk h e r;exact c j ⋯ d
 exact this i i (Zi _) hi
abbrev Wal:List ZB->Str->Str->Prop
 |[],a,b=>a=b
 | k::r,a,b=>∃c z,k=[a,c,z]/\Wal r c b
def Wal.app:∀{us vs:List ZB} {a:Str},Wal us a b->Wal vs b c->Wal (us++vs) a c
 |[],_,_,h,g=>h▸g
 | _::_,_,_,⟨d,z,e,h⟩,g=>%[d,z,e|h.app g]
abbrev Dst(ks:List ZB)(s:Str)(n:Nat)(x:Str):Prop:=∃us:List _,us.length=n/\(∀k∈us,k∈ks)/\Wal us s x
def Dst.nil:Dst ks s 0 s:=%[[],rfl,λ_ h=>(nomatch h)|rfl]
def Dst.app(h:Dst ks s n x)(g:Dst ks x m y):Dst ks s (n+m) y:=by
 have%[us,d,a|b]:=h;have%[vs,g1,g2|g3]:=g;exact%[us++vs,!2,λk c=>(Xo c).elim (a k) (g2 k)|b.app g3]
def Ed.dst(e:Ed ks s x):Dst ks s 1 x:=by
 have%[z|e]:=e;exact%[[[s,x,z]],rfl,λk a=>(Xp a)▸e,x,z,rfl|rfl]
def Dst.last:∀{n:Nat} {s:Str},Dst ks s (n+1) x->∃y,Dst ks s n y/\Ed ks y x
 | n,s,⟨[],a,_,_⟩=>(nomatch a)
 | 0,s,⟨[k],_,b,c,z,e,h⟩=>%[s,.nil,z|by rw[<-h,<-e];exact b k Zm]
 | 0,s,⟨_::_::_,a,_,_⟩=>absurd a ∅
 | n+1,s,⟨k::r,a,b,c,z,e,h⟩=>by
   have%[y,d|f]:=Dst.last %[r,↑a,λk g=>b k (Zk _ g)|h];have:Ed ks s c:=%[z|e▸b k Zm]
   exact%[y,Nat.add_comm 1 n▸this.dst.app d|f]
def Rch.dst(h:Rch ks a b):∃n,Dst ks a (n+1) b:=by
 induction h with
 | one e=>exact%[0|e.dst]
 | more _ e c=>
   have%[n|h]:=c;exact%[n+1|h.app e.dst]
def Dst.rch:∀{n:Nat} {b:Str},Dst ks a (n+1) b->Rch ks a b
 | 0,b,h=>by
   have%[y,%[us,d,_|c]|e]:=h.last;rw[length_eq_zero_iff.mp d]at c;rw[c];exact .one e
 | n+1,b,h=>by
   have%[y,h|e]:=h.last;exact .more h.rch e
structure Lev (ks:List ZB) (st:Str) (rs:List (Str×Addr×ZB)) (d:Str->Nat) (k:Nat) (F:ZB):Prop where
 nd:(rs.map (·.1)).Nodup
 by_:∀r∈rs,r.2.2∈ks/\∃p z,r.2.2=[p,r.1,z]/\((p=st/\d r.1=1)\/(p≠st/\p∈rs.map (·.1)/\d r.1=d p+1))
 le:∀x∈rs.map (·.1),d x<=k
 edge:∀x,x∈F↔(k=0/\x=st)\/(1<=k/\x∈rs.map (·.1)/\d x=k)
 all:∀n x,1<=n->n<=k->Dst ks st n x->x∈rs.map (·.1)/\d x<=n
section
variable{ks:List ZB}{st:Str}{rs:List (Str×Addr×ZB)}{d:Str->Nat}{k:Nat}{F:ZB}
def Lev.nil:Lev ks st [] (λ_=>0) 0 [st]:=
 %[X6,λ_ h=>(nomatch h),λ_ h=>(nomatch h),λx=>by simp|λn x a b=>by lia]
def Lev.dst(h:Lev ks st rs d k F)(a:x∈rs.map (·.1)):1<=d x/\Dst ks st (d x) x:=by
 have:∀m x,x∈rs.map (·.1)->d x<=m->1<=d x/\Dst ks st (d x) x:=λm=>by
  induction m with
  | zero=>
    intro x a l;have%[r,b|rfl]:=Xq a;obtain⟨_,p,z,_,⟨_,e⟩|⟨_,_,e⟩⟩:=h.by_ r b<;> lia
  | succ m f=>
    intro x a l;have%[r,b|rfl]:=Xq a;have%[c,p,z,g|q]:=h.by_ r b;rw[g]at c;have ed:Ed ks p r.1:=%[z|c]
    rcases q with⟨rfl,e⟩|⟨_,i,e⟩
    .rw[e];exact%[Zi _|ed.dst]
    .exact e▸%[⋯|(f p i ⋯).2.app ed.dst]
 exact this _ x a (Zi _)
def Lev.min(h:Lev ks st rs d k F)(a:x∈rs.map (·.1))(g:Dst ks st (n+1) x):d x<=n+1:=by
 by_cases c:n+1<=k
 .exact(h.all _ x ⋯ c g).2
 .have:=h.le x a
  lia
def Lev.stop(h:Lev ks st rs d k []):∀{n:Nat},Dst ks st (n+1) x->x∈rs.map (·.1):=by
 have k1:=Nat.pos_of_ne_zero λc=>(nomatch (h.edge st).mpr (.inl %[c|rfl]))
 have:∀n x,Dst ks st (n+1) x->x∈rs.map _:=λn=>by
  induction n with
  | zero=>exact λx g=>(h.all 1 x (Zi _) k1 g).1
  | succ n a=>
    intro x g;have%[y,b|e]:=g.last;have q:=a y b;have l:=h.le y q;have ne:d y≠k:=λc=>(nomatch (h.edge y).mpr (.inr %[k1,q|c]))
    exact(h.all _ x ⋯ ⋯ ((h.dst q).2.app e.dst)).1
 exact λ{n}=>this n x
def Lev.step(h:Lev ks st rs d k F)(nd:((rs++new).map (·.1)).Nodup)(A:∀r∈new,r.2.2∈ks/\∃p z,p∈F/\r.2.2=[p,r.1,z])
 (s:∀x∈F,∀y,Ed ks x y->y∈(rs++new).map (·.1)):Lev ks st (rs++new) (λx=>if x∈new.map (·.1)then k+1 else d x) (k+1) (new.map (·.1)):=by
 have l:=nd;rw[Zd,X3]at l;have f:∀{x},x∈rs.map (·.1)->x∉new.map (·.1):=λ{x} a b=>l.2.2 x a x b rfl
 have mem:∀{x},x∈(rs++new).map (·.1)↔x∈rs.map (·.1)\/x∈new.map (·.1):=λ{x}=>by rw[Zd,Yt]
 have le:∀x∈(rs++new).map (·.1),(if x∈new.map (·.1)then k+1 else d x)<=k+1:=λx j=>by
  by_cases c:x∈new.map (·.1)
  .rw[if_pos c];exact Zi _
  .rw[if_neg c];have:=h.le x ((mem.mp j).resolve_right c);lia
 refine%[nd,λr B=>?_,le,λx=>?_|λn x n1 I g=>?_]
 .rcases Xo B with q|q
  .have%[o,p,z,e|g]:=h.by_ r q;refine%[o,p,z,e|?_];rw[if_neg (f (Xr %[r,q|rfl]))];refine g.imp_right λ⟨a,b,c⟩=>%[a,mem.mpr (.inl b)|?_]
   rw[if_neg (f b)];exact c
  .have%[o,p,z,C|e]:=A r q;have t:r.1∈new.map (·.1):=Xr %[r,q|rfl];refine%[o,p,z,e|?_];rw[if_pos t];rcases(h.edge p).mp C with⟨rfl,rfl⟩|⟨k1,b,c⟩
   .exact .inl %[rfl|rfl]
   .refine .inr %[λps=>?_,mem.mpr (.inl b)|by rw[if_neg (f b),c]];have:Ed ks st r.1:=%[z|by rw[<-ps,<-e];exact o]
    exact f (h.all 1 _ (Zi _) k1 this.dst).1 t
 .refine%[λj=> .inr %[⋯,mem.mpr (.inr j)|if_pos j]|λj=>?_];rcases j with⟨a,_⟩|⟨_,a,b⟩
  .lia
  .refine(mem.mp a).resolve_left λc=>?_
   rw[if_neg (f c)]at b;have:=h.le x c
   lia
 .have i:∀{m},1<=m->m<=k->Dst ks st m x->x∈(rs++new).map _/\(if x∈new.map _ then k+1 else d x)<=m:=λa b g=>by
   have%[q1|u]:=h.all _ x a b g;exact%[mem.mpr (.inl q1)|by rw[if_neg (f q1)];exact u]
  by_cases c:n<=k
  .exact i n1 c g
  .obtain rfl:n=k+1:=by lia
   have fin:x∈(rs++new).map _->x∈(rs++new).map _/\(if x∈new.map _ then k+1 else d x)<=k+1:=λa=>%[a|le x a]
   have%[y,v|e]:=g.last;by_cases E:k=0
   .subst E;have%[us,G,_|w]:=v;rw[length_eq_zero_iff.mp G]at w;exact fin (s y ((h.edge y).mpr (.inl %[rfl|(w).symm])) x e)
   .have%[q1|u]:=h.all k y ⋯ (Zi _) v;by_cases H:d y=k
    .exact fin (s y ((h.edge y).mpr (.inr %[⋯,q1|H])) x e)
    .exact fin (i ⋯ ⋯ ((h.dst q1).2.app e.dst)).1
end
structure Sho (ks:List _) (a b:Str) (us:List _):Prop where
 sub:∀k∈us,k∈ks
 wal:Wal us a b
 pos:0<us.length
 min:∀n,Dst ks a (n+1) b->us.length<=n+1
def Sho.dst(h:Sho ks a b us):∃n,us.length=n+1/\Dst ks a (n+1) b:=
 %[us.length-1,by have:=h.pos;lia,us,by have:=h.pos;lia,h.sub|h.wal]
def Sho.rch(h:Sho ks a b us):Rch ks a b:=by
 have%[n,_|d]:=h.dst;exact d.rch
def Hm{U:ZB}(h:∀x∈U,∃y∈U,Ed ks x y)(i:∀x,¬ Rch ks x x){x:Str}(j:x∈U):False:=by
 have:∀n,∃a p,p.length=n/\(a::p).Nodup/\(∀y∈a::p,y∈U)/\∀y∈p,Rch ks y a:=λn=>by
  induction n with
  | zero=>exact%[x,[],rfl,by simp,↑j|λ_ h=>(nomatch h)]
  | succ n m=>
    have%[a,p,l,nd,d|r]:=m;have%[b,o|e]:=h a (d a Zm);have g:∀y∈a::p,Rch ks y b:=λy f=>by
     rcases mem_cons.mp f with rfl|q
     .exact .one e
     .exact .more (r y q) e
    refine%[b,a::p,!2,nodup_cons.mpr %[λc=>i b (g b c)|nd],λy f=>?_|g];rcases mem_cons.mp f with rfl|q
    .exact o
    .exact d y q
 have%[a,p,l,nd,d|_]:=this U.length;have:=STab.nodup_sub nd d;rw[Zr]at this
 lia
structure Mat (E:Str->Str->Prop) (L:ZB) (m:Str->Str):Prop where
 nd:L.Nodup
 inj:∀x∈L,∀y∈L,m x=m y->x=y
 ed:∀x∈L,E (m x) x
structure li (E:Str->Str->Prop) (L:ZB) (m:Str->Str) (S T:Str->Prop):Prop where
 nb:∀a,S a->∀p,E a p->T p
 mt:∀p,T p->p∈L/\S (m p)
structure Ask (E:Str->Str->Prop) (L:ZB) (m:Str->Str) (A0 Q:ZB) (g:Str->Str):Prop where
 nd:Q.Nodup
 by_:∀i x,Q[i]? =some x->E (g x) x/\(g x∈A0\/∃y∈Q.take i,y∈L/\m y=g x)
section
variable{E:Str->Str->Prop}{L A0 Q:ZB}{m g:Str->Str}{S T S' T':Str->Prop}
def li.or(h:li E L m S T)(k:li E L m S' T'):li E L m (λa=>S a\/S' a) (λp=>T p\/T' p):=
 %[λa s p e=>s.imp (λs=>h.nb a s p e) λs=>k.nb a s p e|λp t=>t.elim (λt=>%[(h.mt p t).1|.inl (h.mt p t).2]) λt=>%[(k.mt p t).1|.inr (k.mt p t).2]]
def Ask.shut(a:Ask E L m A0 Q g)(h:li E L m S T)(d:∀x∈A0,S x):∀x∈Q,T x:=by
 have:∀(n i:Nat) x,i<n->Q[i]? =some x->T x:=λn=>by
  induction n with
  | zero=>exact λi x l=>absurd l (X7 _)
  | succ n f=>
    intro i x l e;have%[o|b]:=a.by_ i x e;refine h.nb _ ?_ x o;rcases b with b|⟨y,p,s,b⟩
    .exact d _ b
    .have%[j|c]:=Xg p;have q:=(Xn c).1;rw[Ym]at q;rw[Yd ⋯]at c;exact b▸(h.mt y (f j y ⋯ c)).2
 intro x r;have%[i|hi]:=Xg r;exact this _ i x (Yp _) hi
def Ask.closed(c:∀x∈Q,x∈L)(d:∀b,(b∈A0\/∃y∈Q,y∈L/\m y=b)->∀p,E b p->p∈Q):li E L m (λb=>b∈A0\/∃y∈Q,y∈L/\m y=b) (λp=>p∈Q):=
 %[d|λp a=>%[c p a|.inr %[p,a,c p a|rfl]]]
structure pH (E:Str->Str->Prop) (L Q:ZB) (m g:Str->Str) (T:Str->Prop) (f:Str) (C:ZB) (i:Nat) (p:Str):Prop where
 at_:Q[i]? =some p
 own:p=f\/p∈L
 far:∀x∈C,∃j,i<j/\Q[j]? =some x
 nx:∀x∈C,∃y,y∈L/\m y=g x/\(y∈C\/y=p)
 inj:∀x∈C,∀y∈C,g x=g y->x=y
 pv:∀y,y∈C\/y=p->y=f\/(y∈L/\∃x∈C,g x=m y)
 nt:∀y,y∈C\/y=p-> ¬ T y
 hf:f∈C\/p=f
def CT{Q:ZB}(nd:Q.Nodup){i j:Nat}{x:Str}(h:Q[i]? =some x)(k:Q[j]? =some x):i=j:=ei nd h k
def pH.start(h:li E L m S T)(b:f∉L)(e:Q[i]? =some f):pH E L Q m g T f [] i f:=
 %[e,.inl rfl,λ_ h=>(nomatch h),λ_ h=>(nomatch h),λ_ h=>(nomatch h),λy a=>a.elim (λh=>(nomatch h)) .inl,λy a t=>a.elim (λh=>(nomatch h)) λe=>b (e▸(h.mt y t).1)|.inr rfl]
def pH.inj'(M:Mat E L m)(a:Ask E L m A0 Q g){f:Str}{C:ZB}{i:Nat}{p:Str}(b:pH E L Q m g T f C i p):∀x∈C++[p],∀y∈C++[p],(∀z∈L,m z=g p->z∈Q.take i)->g x=g y->x=y:=by
 have o:∀x∈C,(∀z∈L,m z=g p->z∈Q.take i)->g x≠g p:=λx c h e=>by
  have%[y,q,r|n]:=b.nx x c;have%[j|l]:=Xg (h y q (r.trans e));have s:=(Xn l).1;rw[Ym]at s;rw[Yd ⋯]at l;rcases n with n|rfl
  .have%[k,u|t]:=b.far y n;have:=CT a.nd l t
   lia
  .have:=CT a.nd l b.at_
   lia
 intro x c y d h e;rcases Xo c with c|c<;> rcases Xo d with d|d
 .exact b.inj x c y d e
 .rw[Xp d]at e;exact(o x c h e).elim
 .rw[Xp c]at e;exact(o y d h e.symm).elim
 .rw[Xp c,Xp d]
def pH.step(M:Mat E L m)(a:Ask E L m [w] Q g)(A:∀x∈L,m x≠w)(h:li E L m S T)(b:pH E L Q m g T f C i p)(n:y∈L)(o:m y=g p):∃j,j<i/\pH E L Q m g T f (C++[p]) j y:=by
 have%[B|s]:=a.by_ i p b.at_;have v:y∈Q.take i:=by
  rcases s with s|⟨z,c,q,r⟩
  .exact(A y n (o.trans (Xp s))).elim
  .rw[M.inj y n z q (o.trans r.symm)];exact c
 have%[j|u]:=Xg v;have G:=(Xn u).1;rw[Ym]at G;rw[Yd ⋯]at u;have l:∀{x},x∈C++[p]↔x∈C\/x=p:=λ{x}=>by rw[Yt,Yz]
 refine%[j,⋯,u,.inr n,λx d=>?_,λx d=>?_,λx d z c=>b.inj' M a x d z c λz q r=>(M.inj z q y n (r.trans o.symm))▸v,λz c=>?_,λz c t=>?_|.inl (l.mpr (b.hf.imp_right Eq.symm))]
 .rcases l.mp d with d|rfl
  .have%[k,J|H]:=b.far x d;exact%[k,⋯|H]
  .exact%[i,⋯|b.at_]
 .rcases l.mp d with d|rfl
  .have%[z,q,r|I]:=b.nx x d;exact%[z,q,r|.inl (l.mpr I)]
  .exact%[y,n,o|.inr rfl]
 .rcases c with c|rfl
  .exact(b.pv z (l.mp c)).imp_right λ⟨a,x,d,e⟩=>%[a,x,l.mpr (.inl d)|e]
  .exact(.inr %[n,p,l.mpr (.inr rfl)|o.symm])
 .rcases c with c|rfl
  .exact b.nt z (l.mp c) t
  .exact b.nt p (.inr rfl) (h.nb _ (o▸(h.mt z t).2) p B)
def pH.fin(M:Mat E L m)(a:Ask E L m [B] Q g)(h:li E L m S T)(b:pH E L Q m g T f C i p)(J:f∉L)(N:∀y∈L,m y≠g p)(nd:v.Nodup)(G:∀x,x∈v↔x∈L\/x=f):
 Mat E v (λx=>if x∈C++[p]then g x else m x)/\li E v (λx=>if x∈C++[p]then g x else m x) S T/\g p=B/\(∀x∈v,(if x∈C++[p]then g x else m x)=B\/∃y∈L,m y=if x∈C++[p]then g x else m x)/\∀y,y=B\/(∃x∈L,m x=y)->∃x∈v,(if x∈C++[p]then g x else m x)=y:=by
 have r:∀{x},x∈C++[p]↔x∈C\/x=p:=λ{x}=>by rw[Yt,Yz]
 have O:g p=B:=by
  obtain⟨_,e|⟨y,_,H,ym⟩⟩:=a.by_ i p b.at_
  .exact Xp e
  .exact(N y H ym).elim
 have U:∀x∈C++[p],∃j,Q[j]? =some x:=λx l=>by
  rcases r.mp l with l|rfl
  .have%[j,_|e]:=b.far x l;exact%[j|e]
  .exact%[i|b.at_]
 have o:∀x∈v,x∉C++[p]->x∈L:=λx l n=>((G x).mp l).resolve_right λe=>n (e▸r.mpr (b.hf.imp_right Eq.symm))
 have s:∀x∈C++[p],∀y∈L,y∉C++[p]->g x≠m y:=λx l y H n e=>by
  rcases r.mp l with l|rfl
  .have%[z,w,A|zc]:=b.nx x l;exact n ((M.inj y H z w (e.symm.trans A.symm))▸r.mpr zc)
  .exact N y H e.symm
 refine%[%[nd,λx l y I e=>?_|λx l=>?_],%[h.nb|λq t=>%[(G q).mpr (.inl (h.mt q t).1)|?_]],O,λx l=>?_|λy I=>?_]
 .by_cases d:x∈C++[p]<;> by_cases u:y∈C++[p]
  .rw[if_pos d,if_pos u]at e;exact b.inj' M a x d y u (λz w A=>(N z w A).elim) e
  .rw[if_pos d,if_neg u]at e;exact(s x d y (o y I u) u e).elim
  .rw[if_neg d,if_pos u]at e;exact(s y u x (o x l d) d e.symm).elim
  .rw[if_neg d,if_neg u]at e;exact M.inj x (o x l d) y (o y I u) e
 .by_cases d:x∈C++[p]
  .rw[if_pos d];have%[j|e]:=U x d;exact(a.by_ j x e).1
  .rw[if_neg d];exact M.ed x (o x l d)
 .rw[if_neg (λc=>b.nt q (r.mp c) t)];exact(h.mt q t).2
 .by_cases d:x∈C++[p]
  .rw[if_pos d];rcases r.mp d with d|rfl
   .have%[z,w,A|_]:=b.nx x d;exact .inr %[z,w|A]
   .exact .inl O
  .rw[if_neg d];exact .inr %[x,o x l d|rfl]
 .have mem:=λx l=>(G x).mpr ((b.pv x (r.mp l)).elim .inr λh=> .inl h.1)
  rcases I with rfl|⟨x,Y,rfl⟩
  .exact%[p,mem p (r.mpr (.inr rfl))|(if_pos (r.mpr (.inr rfl)))▸O]
  .by_cases d:x∈C++[p]
   .rcases b.pv x (r.mp d)with e|⟨_,z,hz,e⟩
    .exact(J (e▸Y)).elim
    .exact%[z,mem z (r.mpr (.inl hz))|(if_pos (r.mpr (.inl hz)))▸e]
   .exact%[x,(G x).mpr (.inl Y)|by rw[if_neg d]]
end
def jw(p:Str->Prop)[DecidablePred p]:∀xs:ZB,xs.length=(xs.filter λx=>decide (p x)).length+(xs.filter λx=>decide (¬ p x)).length
 |[]=>rfl
 | x::xs=>by
   have a:=jw p xs;by_cases c:p x
   .rw[Y4 ↑c,Y3 ↑c,Zr,Zr];lia
   .rw[Y3 ↑c,Y4 ↑c,Zr,Zr];lia
open Classical in
def ux(q:∀a b c,E a b->E b c->E a c){names L A:ZB}(p:names.Nodup)(M:Mat E L m)(r:∀x∈L,m x∈names)(s:A.Nodup)(t:∀x∈A,x∈names)(g:∀x∈A,∀y∈A,¬ E x y):A.length<=(names.filter λx=>decide (x∉L)).length:=by
 have up:∀{x y a:Str},E y x->(x=a\/E x a)->E y a:=λe h=>h.elim (λh=>h▸e) λh=>q _ _ _ e h
 have u:=STab.nodup_sub (l:=((L.filter λx=>decide (∃a∈A,x=a\/E x a)).map m) ++A) (m:=names.filter λx=>decide (∃a∈A,x=a\/E x a)) (nodup_append.mpr %[?_,s|λy d z v e=>?_]) λy d=>?_
 .rw[Z9,Z6]at u;have w:=jw (λx=>x∈L) (names.filter λx=>decide (∃a∈A,x=a\/E x a));have B:=STab.nodup_sub (l:=(names.filter λx=>decide (∃a∈A,x=a\/E x a)).filter λx=>decide (x∈L)) (m:=L.filter λx=>decide (∃a∈A,x=a\/E x a)) ((p.filter _).filter _) λx f=>by
   have%[h|j]:=List.mem_filter.mp f;exact List.mem_filter.mpr %[Zo j|(List.mem_filter.mp h).2]
  have C:=STab.nodup_sub (l:=(names.filter λx=>decide (∃a∈A,x=a\/E x a)).filter λx=>decide (¬ x∈L)) (m:=names.filter λx=>decide (x∉L)) ((p.filter _).filter _) λx f=>by
   have%[h|j]:=List.mem_filter.mp f;exact List.mem_filter.mpr %[(List.mem_filter.mp h).1|j]
  lia
 .rw[X4,Xa];exact Xh (λ{x y} f d n e=>n (M.inj x (List.mem_filter.mp f).1 y (List.mem_filter.mp d).1 e)) (nodup_iff_pairwise_ne.mp (M.nd.filter _))
 .have%[x,f|rfl]:=Xq d;have%[i|h]:=List.mem_filter.mp f;have%[a,o|h]:=Zo h;exact g _ (e▸v) a o (up (M.ed x i) h)
 .rcases Xo d with d|d
  .have%[x,f|rfl]:=Xq d;have%[i|h]:=List.mem_filter.mp f;have%[a,o|h]:=Zo h;exact List.mem_filter.mpr %[r x i|Zf %[a,o|.inr (up (M.ed x i) h)]]
  .exact List.mem_filter.mpr %[t y d|Zf %[y,d|.inl rfl]]
def vR{names L lf:ZB}(b:names.Nodup)(c:L.Nodup)(sub:∀x∈L,x∈names)(d:lf.length=L.length):(names.filter λx=>decide (x∉L)).length<=(names.filter λx=>decide (x∉lf)).length:=by
 have e:=jw (λx=>x∈L) names;have f:=jw (λx=>x∈lf) names;have g:=STab.nodup_sub c λx a=>List.mem_filter.mpr %[sub x a|Zf a]
 have h:=STab.nodup_sub (b.filter λx=>decide (x∈lf)) λx a=>Zo (List.mem_filter.mp a).2
 lia
end Cut
namespace Cut
open PySem L2
def pI(lt:q->q->Bool)(c:∀x y,lt x y=false->x≠y->lt y x=true):∀{l m:List q},l.Pairwise (λa b=>lt b a=false)->m.Pairwise (λa b=>lt b a=false)->l.Nodup->m.Nodup->(∀x,x∈l↔x∈m)->l=m
 |[],[],_,_,_,_,_=>rfl
 |[],y::m,_,_,_,_,h=>absurd ((h y).mpr Zm) ∅
 | x::l,[],_,_,_,_,h=>absurd ((h x).mp Zm) ∅
 | x::l,y::m,s,t,nl,u,h=>by
   have%[f|g]:=List.pairwise_cons.mp s;have%[i|j]:=List.pairwise_cons.mp t;have%[v|n]:=nodup_cons.mp nl;have%[w|o]:=nodup_cons.mp u;have e:=Classical.byContradiction λd=>by
    have A:=(mem_cons.mp ((h x).mp Zm)).resolve_left d;have r:=f y ((mem_cons.mp ((h y).mpr Zm)).resolve_left (Ne.symm d));rw[c x y (i x A) d]at r;cases r
   subst e;rw[pI lt c g j n o λz=>?_]
   constructor
   .intro p;rcases mem_cons.mp ((h z).mp (Zk _ p))with e|e
    .simp_all
    .exact e
   .intro p;rcases mem_cons.mp ((h z).mpr (Zk _ p))with e|e
    .simp_all
    .exact e
abbrev Let(rows:ZB)(c:Nat):Prop:=c≠46/\∃r∈rows,c∈r.cps.toList
abbrev qN(rows:ZB)(a b:Nat):Prop:=a≠46/\a≠b/\∃(i j:Nat) (r c:Str),rows[i]? =some r/\rows[i+1]? =some c/\r.cps[j]? =some a/\c.cps[j]? =some b
def gK:c∈dg rows↔Let rows c:=by
 unfold dg Let;rw[List.mem_filter,vf,List.mem_flatten,decide_eq_true_eq]
 constructor
 .rintro⟨⟨l,e,b⟩,a⟩;have%[r,d|rfl]:=Xq e;exact%[a,r,d|b]
 .rintro⟨a,r,d,b⟩;exact%[%[_,Xr %[r,d|rfl]|b]|a]
abbrev St(wd:Bool)(c d:Int):Prop:=c<=d+(if wd=true then 1 else 0)/\d<=c+(if wd=true then 1 else 2)
abbrev lj(wd:Bool)(b:ZL):Prop:=∃a:Nat,a<b.length/\(∀k c,b[k]? =some c->(k<a->c= -1)/\(a<=k->0<=c/\c<=7))/\∀k c d,b[k]? =some c->b[k+1]? =some d->a<=k->St wd c d
abbrev sg(a s:Int):Nat:=if a<0 then 46 else 97+((a*5+s)%26).toNat
def Ho(h:0<=a):iX (sg a s)=true:=by
 unfold sg;rw[if_neg ⋯,mo]
 lia
def Hq(h:a<0):sg a s=46:=if_pos h
def CU(h:0<=a):sg a s≠46:=by
 unfold sg;rw[if_neg ⋯]
 lia
def Hr(e:0<=a)(c:a<=7)(f:0<=b)(d:b<=7)(h:sg a s=sg b s):a=b:=by
 unfold sg at h;rw[if_neg ⋯,if_neg ⋯]at h;omega
abbrev i5(a:List ZL)(b:Int)(k:Nat):Str:=⟨(a.map λc=>sg (c.getD k 0) b).toArray⟩
abbrev drawn(a:List ZL)(hi:Nat)(b:Int):ZB:=(List.range hi).map (i5 a b)
def gM(h:(drawn a hi c)[k]? =some z):k<hi/\z=i5 a c k:=by
 unfold drawn at h;rw[Zl]at h;by_cases b:k<hi
 .rw[List.getElem?_range b]at h;exact%[b|(Za h).symm]
 simp_all
def my{a:List ZL}{k j c:Nat}(h:(i5 a d k).cps[j]? =some c):∃b,a[j]? =some b/\c=sg (b.getD k 0) d:=by
 have h:(a.map λc=>sg (c.getD k 0) d)[j]? =some c:=by simpa [i5]using h
 rw[Zl]at h;cases e:a[j]? with
 | none=>simp_all
 | some b=>rw[e]at h;exact%[b,rfl|(Za h).symm]
def dG{a:ZL}(b:a.length=hi)(c:k<hi):a[k]? =some (a.getD k 0):=by
 simp_all
def vS{a:List ZL}{d:Int}{wd:Bool}(H:1<=hi)(I:hi<=40)(v:1<=a.length)(w:a.length<=40)(t:∀c∈a,c.length=hi/\lj wd c):bJ (drawn a hi d):=by
 have len:(drawn a hi d).length=hi:=by unfold drawn;rw[Z6,Yk]
 have f:∀z∈drawn a hi d,∃k,k<hi/\z=i5 a d k:=λz g=>by
  have%[k|e]:=Xg g;exact%[k|gM e]
 refine%[⋯,⋯,%[a.length,v,w|λz g=>?_],λz g=>?_,λi r J y A j c L g1 g2 p=>?_|?_]
 .have%[k,_|rfl]:=f z g;simp[i5]
 .have%[k,h|rfl]:=f z g;rw[all_eq_true];intro c q;have%[j|B]:=Xg q;have%[b,s|rfl]:=my (j:=j) ↑B;by_cases C:b.getD k 0<0
  .rw[Hq C];decide +kernel
  .unfold okc;rw[Ho ⋯,Bool.or_true]
 .have%[hi1|rfl]:=gM y;have%[hi2|rfl]:=gM A;have%[b,s|rfl]:=my g1;have%[u,l|rfl]:=my g2;rw[s]at l;cases l;have%[o,m,E,h|_]:=t b (Z8 s);by_cases G:i+1<m
  .rw[(h i _ (dG o hi1)).1 ⋯];rfl
  .exact absurd p (CU ((h _ _ (dG o hi2)).2 ⋯).1)
 .have n:0<a.length:=by lia
  have%[o,m,E,h|_]:=(t _ (Ye n))
  exact%[i5 a d _,Xr %[hi-1,by rw[mem_range];lia|rfl],sg (a[0].getD (hi-1) 0) d,Xr %[a[0],Ye n|rfl]|CU ((h _ _ (dG o ⋯)).2 ⋯).1]
def vT{i:Int}{wd:Bool}(s:∀c∈d,c.length=hi/\lj wd c){c:Nat}:Let (drawn d hi i) c↔∃a:Int,0<=a/\a<=7/\(∃b∈d,a∈b)/\c=sg a i:=by
 constructor
 .rintro⟨l,r,t,m⟩;have%[k|e]:=Xg t;have%[h|rfl]:=gM e;have%[j|u]:=Xg m;have%[b,v|rfl]:=my ↑u;have f:=Z8 v;have%[n,o,A,w|_]:=s b f;have g:=dG n h;have q:=w k _ g;have:o<=k:=by
   refine Nat.le_of_not_lt λz=>l ?_
   rw[q.1 z];rfl
  exact%[_,(q.2 this).1,(q.2 this).2,%[b,f|Z8 g]|rfl]
 .rintro⟨a,y,B,⟨b,f,p⟩,rfl⟩;have%[n|_]:=s b f;have%[k|h]:=Xg p;refine%[CU y,i5 d i k,Xr %[k,by rw[mem_range];exact(n▸(Xn h).1)|rfl]|Xr %[b,f|?_]];rw[Zc,h];rfl
abbrev there(b:List ZL):ZL:=((List.range 8).filter λa:Nat=>b.any λc=>decide ((a:Int)∈c)).map λa:Nat=>a
def dS:a∈there c↔0<=a/\a<=7/\∃b∈c,a∈b:=by
 unfold there;rw[mem_map]
 constructor
 .rintro⟨n,f,rfl⟩;rw[List.mem_filter,mem_range,List.any_eq_true]at f;have%[g,b,d|e]:=f;exact%[⋯,⋯,b,d|Zo e]
 .rintro⟨h,i,b,d,e⟩;refine%[a.toNat,?_|⋯];rw[List.mem_filter,mem_range,List.any_eq_true];refine%[⋯,b,d|Zf ?_];rw[show a.toNat=a by lia];exact e
def vU(a:List _):(there a).Nodup:=by
 unfold there;rw[X4,Xa];refine(List.Pairwise.filter _ (nodup_iff_pairwise_ne.mp nodup_range)).imp λh e=>h ⋯
def CV{a:List ZL}{hi:Nat}(i:1<=hi)(j:1<=a.length)(d:∀c∈a,c.length=hi/\lj wd c):there a≠[]:=by
 have b:0<a.length:=by lia
 have%[e,f,l,h|_]:=d _ (Ye b);have g:=dG e (show hi-1<hi by lia);have q:=(h _ _ g).2 ⋯;exact List.ne_nil_of_mem (dS.mpr %[q.1,q.2,_,Ye b|Z8 g])
def mz(a:List _):(there a).length<=8:=by
 unfold there;rw[Z6];exact Yh (Yj _ _) (Zi _)
abbrev bD(n:Str)(c:Nat):Str:=⟨(n.cps.toList++[46,c]).toArray⟩
def eV(h:bD n c=bD m d):n=m/\c=d:=by
 have e:=by
  have:=congrArg (λz=>z.cps.toList) h;simpa [bD]using this
 have q:=List.append_inj' e rfl;refine%[jt q.1|?_];have:=q.2;simpa using this
abbrev CW(rows:ZB):Prop:=∃m:List _,m.length<=26/\∀a b,qN rows a b->[sgn a,sgn b]∈m
abbrev xH(wd:Bool):List (Int×Int):=((List.range 7).map λi:Nat=>((i:Int),(i:Int) +1)) ++if wd=true then(List.range 7).map λi:Nat=>((i:Int) +1,(i:Int))else(List.range 6).map λi:Nat=>(i,i+2)
def AB(h:St wd c d)(c0:0<=c)(a:c<=7)(b:0<=d)(f:d<=7)(ne:c≠d):(c,d)∈xH wd:=by
 unfold St at h;unfold xH;rw[Yt];by_cases e:d=c+1
 .exact .inl (Xr %[c.toNat,mem_range.mpr ⋯|by rw[show c.toNat=c by lia,e]])
 .refine .inr ?_;cases wd
  .exact Xr %[c.toNat,mem_range.mpr ⋯|by rw[show c.toNat=c by lia,show d=c+2 by lia]]
  .exact Xr %[d.toNat,mem_range.mpr ⋯|by grind]
def CY{hi:Nat}{h:Int}{wd:Bool}(t:∀c∈d,c.length=hi/\lj wd c):CW (drawn d hi h):=by
 refine%[(xH wd).map λp=>[sgn (sg p.1 h),sgn (sg p.2 h)],?_|?_]
 .rw[Z6];cases wd<;> decide
 .intro a b %[n1,u,i,j,r,B,v,w,g1|g2];have%[hi1|rfl]:=gM v;have%[hi2|rfl]:=gM w;have%[l,n|rfl]:=my g1;have%[o,f|rfl]:=my g2;rw[n]at f;cases f;have%[g,y,C,m|A]:=t l (Z8 n);have q:=Nat.le_of_not_lt λz=>n1 (by rw[(m i _ (dG g hi1)).1 z];rfl)
  have q1:=(m i _ (dG g hi1)).2 q;have s:=(m _ _ (dG g hi2)).2 ⋯;exact Xr %[(_,_),AB (A i _ _ (dG g hi1) (dG g hi2) q) q1.1 q1.2 s.1 s.2 (λe=>u (by rw[e]))|rfl]
end Cut
namespace K65
open PySem L2 Cut
nonrec abbrev ZqS:=Lean.Syntax
nonrec def zqn:Lean.Name->Array ZqS->ZqS:= .node .none
nonrec def zqa:String->ZqS:= .atom .none
nonrec def zqi(s:String):ZqS:=Lean.mkIdent s.toName
nonrec def zqh:ZqS:=zqn `Lean.Parser.Term.hole #[zqa "_"]
nonrec def zqf(k:Nat)(b:ZqS):ZqS:=zqn `Lean.Parser.Term.fun #[zqa "fun",zqn `Lean.Parser.Term.basicFun #[zqn `null (Array.replicate k zqh),zqn `null #[],zqa "=>",b]]
nonrec def zqd(c:Char):ZqS:=Lean.Syntax.mkNumLit (toString (c.toNat-48))
nonrec def zqe(a:Array ZqS)(x:String):ZqS:=if x="r"then zqi "rfl"else if x="n"then a[0]! else if x="h"then a.back! else if x="_"then zqh else if x="f"then zqf 2 (zqi "rfl") else if x="g"then zqf 1 (zqi "rfl") else if x.length>1 then zqi x else zqn `Lean.Parser.Term.namedArgument #[zqa "(",zqi x,zqa ":=",zqi x,zqa ")"]
nonrec def zqx(r:Array ZqS):ZqS:=if r[0]!.isAtom then(if r[0]!.getAtomVal=""then zqf 3 r[1]! else r[1]!)else if r.size<2 then r[0]! else zqn `Lean.Parser.Term.app #[r[0]!,zqn `null (r.extract 1 r.size)]
nonrec def zqp(s t:String):Nat:=(s.splitOn t).head!.length
nonrec def zqs(t:String)(a:Array ZqS)(l:List Char)(k:List (List String×Array ZqS)):List Char×List (List String×Array ZqS):=
 let f:=k.head!
 let k:=k.tail
 let x:=f.1.headD ""
 let w:=f.1.tail
 let c:=l.headD ' '
 if f.1.isEmpty then(l,(k.head!.1,k.head!.2.push (zqx f.2))::k.tail)
 else if x="#"then(l.tail,(w,f.2.push (zqd c))::k)
 else if x="L"then(l,(["*"],#[zqa ""])::(w,f.2)::k)
 else if x="*"then
  if c.isDigit then(l.tail,(["r"],#[zqi "af",zqd c])::(w,f.2)::k)
  else if c='?'then(l.drop 2,(w,f.2.push a[l[1]!.toNat-48]!)::k)
  else
   let p:=zqp "~]`" c.toString
   let q:=if p<3 then 1 else 0
   let s:=((t.splitOn "|")[(74+84*p)*q+zqp "ABCDEFGHIJKLMNOPQRSTUVWXYZabcdefghijklmnopqrstuvwxyz!$%&'()*+,./:;<=>^_|}[0123456789" l[q]!.toString]!).splitOn " "
   (l.drop (q+1),(s.tail,#[zqi s.head!])::(w,f.2)::k)
 else(l,(w,f.2.push (zqe a x))::k)
nonrec def zqt(t:String)(a:Array ZqS)(l:List Char):Nat->ZqS
 |n=>(n.fold (λ_ _ s=>if s.2.length=1&&s.2.head!.1.isEmpty then s else zqs t a s.1 s.2) (l,[(["*"],#[zqa "1"])])).2.head!.2[1]!
nonrec def zqm(s:Lean.StrLit)(a:Array Lean.Term):Lean.MacroM Lean.Term:=
 return⟨zqt "paE r * *|ao|ak * *|av *|az|aD * h r *|aN # n r *|aR *|opE * * *|QSs.h *|aP # n r|bN * r * *|gsE r * *|ifS * * *|bE|cQ K r *|cS K r f * *|dq *|aP # * r|dz PassesOwn.never r r * * *|dQ K r f * *|dI|dR # r|cbO * T.a8 PySem.boot_len r *|cc K r|bY r *|aA.of *|fK K r r r *|cU|wT *|Z1|Z0|gZ *|dE h f * *|cm|dL * r r * L L L|af # r|bi|eA|jE K r g *|bmO K plainAttrs_list PySem.F.slot_list_append PySem.F.type_list_append * r * *|j7|fh|cH|j6 * r * *|orW * *|iH h r * * *|eF|oJ * *|oH *|oI *|iU|ctO * T.a5 boot_list r *|qy *|oK # n r * * r *|eBl|qz * *|fY K r|qx|kJ *|tP *|cbO * T.ac boot_isinstance r *|kK K r|hC|lI|mX *|mY *|fS h r * *|fj|wZ K r|uV|kf PassesOwn.never * *|gvE T.al r r|zT|zU|cbO * T.a7 boot_sorted r *|si * T.o_Ground h r r *|gvE T.am r r|mf|rL r T.aj r *|iV # n r * * r * r r * L L L|gvE T.ar r r|ctO * T.a6 boot_set r *|pjE * *|cC T|BU r r r * *|pQ|bmO K plainAttrs_dict slot_dict_get type_dict_get * r * *|cD T|vP * T.o_Ground h r *|jk T|dc T|uU|E9 K r * * *|bmO K plainAttrs_str slot_str_join type_str_join * r * *|tQ K r|yj K r r T.ae r *|noO|EQ K r r * *|dm T|yB|yE *|uI T|cbO * T.a0 boot_min r *|wY * * r * * *|cbO * T.aa boot_all r *|BW K r r|B3 K w r r r|jy T|GR *|G4 h r * *|im T|G3 K r r *|d5 T|eI T|ir T|cG T|cbO * T.a1 boot_max r *|yf # n r * *|pS T|orV * *|gvE T.ao r r|FA r T.af r r *|bmO K plainAttrs_str PySem.F.slot_str_split PySem.F.type_str_split * r * *|yi|lJ T|bmO K plainAttrs_list PySem.F.slot_list_extend PySem.F.type_list_extend * r * *|uW|r8 P w r r r|Cv K P w r r r r h|FC *|FB|fI T|gQ T|IM K r plainAttrs_list PySem.F.slot_list_append PySem.F.type_list_append * r r r r * *|bmO K plainAttrs_dict PySem.F.slot_dict_setdefault PySem.F.type_dict_setdefault * r * *|lc|sS T|jn T|Fv|iP T|yQ T|CQ r r *|lR T|lS T|jp T|ixE K r f * *|IK K r * * *|lU T|sI T|wD T|ixSE f * *|Fw r|Ir r|ctO * T.ah boot_int r *|Fx|Cz # n r * * r *|uA T|yf # * r * *|gvE T.aq r r|z6 w r r|gvE T.ap r r|C5 T|pX T|IE K r r T.af r r *|kh T|gvE T.an r r|gvE T.aw r r|gvE T.ax r r|IG K r T.t_LAYER_WORDS r r|IG K r T.t_YEAR_WORDS r r|AO T|AN T|C7 T|gvE T.au r r|qb T|gvE T.av r r|we T|AK T|Ap K r|xN T|uC T|wk T|nP T|Aq K r|qd T|lP T|AI T|uF T|G6 r|G5 r|mH T|nQ T|EV r|Iq K r plainAttrs_dict PySem.F.slot_dict_values PySem.F.type_dict_values * r r *|CD|qS T|xR T|CH r r T.a9 r T.a5 r *|wq T|Dh T|ki T|G7 K r r|bmO K plainAttrs_list PySem.F.slot_list_remove PySem.F.type_list_remove * r * *|CF|xB w r r|Hi w r|uH T|qj T|bmO K plainAttrs_dict PySem.F.slot_dict_update PySem.F.type_dict_update * r * *|CS|qo T|qU T|Iq K r plainAttrs_list PySem.F.slot_list_pop PySem.F.type_list_pop * r r *|II|Hl|AU T|ifE * * *|xW T|ko T|EA K r|Cc r r T.a9 r r *|qW T|Ds T|IH h" (a.map (·.raw)) s.getString.toList 9999⟩
nonrec abbrev ZM:=List V
nonrec abbrev ZN:=List (Addr×List V)
local macro_rules|`(%[$s:str,$x,*|$y])=>zqm s (x.getElems.push y)|`(%[$s:str|$y])=>zqm s #[y]
local macro_rules|`(tactic|lk)=>do
 let x<-("bq A9 nE jX kr ti jJ Bp tB DE tOr FR A7 FV tIf tOp tUn tC FM FN tCB uM zE Bx Gh Gi wG tBM Eg tSl BC tD uT rI rI0 rU GF GH rEq rNe Ft BO Gu Gx rIx Eb Ec Ee Ew Io yh yg w4 tM Bf Bd FZ Fy Fz FE x6 x8 Gc Gd GP ot GA tN wR BH CB CC G8 uo Hg CM vK rIn Go GD tL ye Bk Ex HL HM HN".splitOn " ").toArray.mapM λs=>`(Lean.Parser.Tactic.simpLemma|↓$(Lean.mkIdent s.toName):ident)
 let y<-("oQ DP Br zqD tyV HP HQ HR List.getElem?_cons_zero List.getElem?_cons_succ List.set_cons_zero List.set_cons_succ Option.some.injEq V.int.injEq V.str.injEq V.bl.injEq V.ref.injEq V.ty.injEq List.cons.injEq reduceCtorEq and_true true_and and_false false_and or_false false_or or_true true_or exists_false exists_eq_left' exists_eq_left exists_eq_right exists_eq_right' exists_and_left exists_and_right exists_eq cons_append nil_append Zz exists_const and_assoc Int.zero_add Bool.not_true Bool.not_false Y0 if_true if_false eq_self".splitOn " ").toArray.mapM λs=>`(Lean.Parser.Tactic.simpLemma|$(Lean.mkIdent s.toName):ident)
 `(tactic|simp only[$(x++y),*])
local macro_rules|`(!$n:ident)=>`(some (V.ref $n))
local macro_rules|`(-$n:ident)=>`(some (V.str $n))
local macro_rules|`(#[$n:num])=>`((show $n≤sizeLine by decide))|`(#[$x])=>`(paE rfl $x ao)|`(#[$x,$y,*])=>`(paE rfl $x #[$y,*])
local macro_rules|`(tactic|walk)=>`(tactic|refine⟨rfl,rfl,rfl,?_,rfl,?_,?_⟩<;>decide +kernel)
def zq0{P:List Value->Prop}(h:P []):∀u,u.length=0->P u:=λu e=>by rw[List.length_eq_zero_iff.mp e];exact h
def zq1{n:Nat}{P:List Value->Prop}(h:∀a,∀u,u.length=n->P (a::u)):∀u,u.length=n+1->P u:=λu e=>by
 cases u with
 |nil=>cases e
 |cons a u=>exact h a u (Nat.succ.inj e)
local macro_rules|`(tactic|room)=>`(tactic|(intro _ _ _ _ _ _;(repeat(refine zq1 λ_=>?_));exact zq0 rfl))
abbrev top(i:Nat):Stmt:=PySem.Challenge.pw_digbook_k65_whole_grounds_side_by_side.main.body.getD i (.Pass %[0,0,0|0])
noncomputable section
nonrec abbrev gN:Stmt:=top 1
def bo:ax ["ground","names","layer","word","one","other"] ["ground"] (ar gN):=by walk
nonrec abbrev iI:Stmt:=top 2
def dU:ax ["names","one","other","first","second"] ["names","one","other"] (ar iI):=by walk
nonrec abbrev fB:Stmt:=top 3
def eJ:ax ["names","layer"] ["names","layer"] (ar fB):=by walk
nonrec abbrev pJ:Stmt:=top 4
def fT:ax ["ground","names","groups","layer"] ["ground"] (ar pJ):=by walk
nonrec abbrev iJ:Stmt:=top 5
def mC:ax ["ground"] ["ground"] (ar iJ):=by walk
nonrec abbrev yF:Stmt:=top 6
def vV:ax ["ground","names"] ["ground"] (ar yF):=by walk
nonrec abbrev gO:Stmt:=top 15
def lq:ax ["found"] ["found"] (ar gO):=by walk
nonrec abbrev fC:Stmt:=top 16
def jF:ax ["found"] ["found"] (ar fC):=by walk
nonrec abbrev sr:Stmt:=top 17
def kg:ax ["found","side","groups","link"] ["found","side"] (ar sr):=by walk
nonrec abbrev i7:Stmt:=top 18
def a9:ax ["names","found","beneath","above","waits","name","ready","laid","least","link"] ["names","found"] (ar i7):=by walk
nonrec abbrev ja:Stmt:=top 19
def di:ax ["beneath","start","goal","reached","edge"] ["beneath","start","goal"] (ar ja):=by walk
nonrec abbrev ni:Stmt:=top 20
def eM:ax ["beneath","edge","reached","further","name","link"] ["beneath","edge","reached"] (ar ni):=by walk
nonrec abbrev vW:Stmt:=top 21
def sw:ax ["reached","start","goal","way"] ["reached","start","goal"] (ar vW):=by walk
nonrec abbrev jO:Stmt:=top 22
def cK:ax ["names","found","beneath","reach","name","link"] ["names","found"] (ar jO):=by walk
nonrec abbrev lu:Stmt:=top 23
def c8:ax ["partners","held_by","asker","asked_by","free"] ["partners"] (ar lu):=by walk
nonrec abbrev lv:Stmt:=top 24
def c9:ax ["partners","held_by","askers","asked_by","waiting","asker","partner"] ["partners","held_by","askers"] (ar lv):=by walk
nonrec abbrev sA:Stmt:=top 25
def fD:ax ["held_by","asked_by","free","holds","partner","asker"] ["held_by","asked_by","free"] (ar sA):=by walk
nonrec abbrev iK:Stmt:=top 26
def cT:ax ["some","turned_about","key","value"] ["some"] (ar iK):=by walk
nonrec abbrev fE:Stmt:=top 27
def cV:ax ["partners","held_by","holds","asked_by"] ["partners","held_by"] (ar fE):=by walk
nonrec abbrev CZ:Stmt:=top 29
def E7:ax ["ground"] ["ground"] (ar CZ):=by walk
nonrec abbrev iL:Stmt:=top 30
def bO:ax ["names","found","beneath","shortest","name","way"] ["names","found"] (ar iL):=by walk
nonrec abbrev lw:Stmt:=top 31
def qO:ax ["names","found"] ["names","found"] (ar lw):=by walk
nonrec abbrev jb:Stmt:=top 32
def eG:ax ["ground","found","torn_by"] ["ground"] (ar jb):=by walk
nonrec abbrev jc:Stmt:=top 34
def iM:ax ["ground","found"] ["ground"] (ar jc):=by walk
nonrec abbrev jP:Stmt:=top 36
def fF:ax ["ground","later_ahead","earlier_behind"] ["ground"] (ar jP):=by walk
nonrec abbrev pK:Stmt:=top 37
def np:ax ["first","earlier_behind","row"] ["first","earlier_behind"] (ar pK):=by walk
nonrec abbrev vX:Stmt:=top 38
def mD:ax ["ground","reach","left_out"] ["ground"] (ar vX):=by walk
nonrec abbrev sB:Stmt:=top 45
def xI:ax ["thing"] ["thing"] (ar sB):=by walk
nonrec abbrev sC:Stmt:=top 46
def ik:ax ["text","rows","number","row"] ["text"] (ar sC):=by walk
nonrec abbrev vY:Stmt:=top 47
def AC:ax ["row"] ["row"] (ar vY):=by walk
nonrec abbrev jd:Stmt:=top 48
def nM:ax ["row","above"] ["row","above"] (ar jd):=by walk
nonrec abbrev lx:Stmt:=top 49
def qP:ax ["rows"] ["rows"] (ar lx):=by walk
nonrec abbrev sD:Stmt:=top 50
def xJ:ax ["text"] ["text"] (ar sD):=by walk
nonrec abbrev pL:Stmt:=top 51
def eD:ax ["text","rows","pairs","above","row"] ["text"] (ar pL):=by walk
nonrec abbrev fG:Stmt:=top 52
def jG:ax ["above","row"] ["above","row"] (ar fG):=by walk
nonrec abbrev vZ:Stmt:=top 53
def AD:ax ["text"] ["text"] (ar vZ):=by walk
nonrec abbrev lz:Stmt:=top 62
def ee:ax ["cuts","names","number","thing"] ["cuts"] (ar lz):=by walk
nonrec abbrev je:Stmt:=top 63
def nN:ax ["thing"] ["thing"] (ar je):=by walk
nonrec abbrev v5:Stmt:=top 64
def AE:ax ["thing"] ["thing"] (ar v5):=by walk
nonrec abbrev iN:Stmt:=top 65
def dW:ax ["sayings","layers","number","thing"] ["sayings","layers"] (ar iN):=by walk
nonrec abbrev nq:Stmt:=top 66
def uy:ax ["thing","layers"] ["thing","layers"] (ar nq):=by walk
nonrec abbrev iO:Stmt:=top 67
def mE:ax ["thing","texts"] ["thing","texts"] (ar iO):=by walk
nonrec abbrev sE:Stmt:=top 68
def xK:ax ["thing"] ["thing"] (ar sE):=by walk
nonrec abbrev lA:Stmt:=top 69
def qQ:ax ["name","letter"] ["name","letter"] (ar lA):=by walk
nonrec abbrev nu:Stmt:=top 70
def eO:ax ["cuts","layers","name","text"] ["cuts"] (ar nu):=by walk
nonrec abbrev jf:Stmt:=top 71
def bS:ax ["cuts","ties","name","text","upper","lower"] ["cuts"] (ar jf):=by walk
nonrec abbrev fV:Stmt:=top 72
def cr:ax ["sayings","ties","number","saying"] ["sayings"] (ar fV):=by walk
nonrec abbrev jQ:Stmt:=top 74
def pM:ax ["_law_script","_law_k"] ["_law_script","_law_k"] (ar jQ):=by walk
nonrec abbrev sF:Stmt:=top 75
def cL:ax ["_law_script","_law_many","_law_found","_law_number","_law_k","_law_cell","_law_one","_law_two"] ["_law_script","_law_many"] (ar sF):=by walk
nonrec abbrev lC:Stmt:=top 76
def bK:ax ["_law_number","_law_high","_law_wild","_law_air","_law_at","_law_signs","_law_k"] ["_law_number","_law_high","_law_wild"] (ar lC):=by walk
nonrec abbrev pN:Stmt:=top 77
def v6:ax ["_law_at","_law_shift"] ["_law_at","_law_shift"] (ar pN):=by walk
nonrec abbrev sG:Stmt:=top 78
def cu:ax ["_law_row_here","_law_shift","_law_wide","_law_high","_law_wild","_law_columns","_law_rows","_law_k","_law_signs","_law_there"] ["_law_row_here","_law_shift"] (ar sG):=by walk
nonrec abbrev lD:Stmt:=top 79
def bL:ax ["_law_one","_law_two","_law_layers","_law_layer","_law_at","_law_other","_law_there","_law_kind","_law_odd","_law_year"] ["_law_one","_law_two","_law_layers"] (ar lD):=by walk
nonrec abbrev lE:Stmt:=top 80
def aS:ax ["_law_row_here","_law_cuts","_law_layers","_law_k","_law_name","_law_shift","_law_text","_law_there","_law_at","_law_many","_law_sayings"] ["_law_row_here"] (ar lE):=by walk
nonrec abbrev lF:Stmt:=top 81
def jR:ax ["_law_layer","_law_name"] ["_law_layer"] (ar lF):=by walk
nonrec abbrev jS:Stmt:=top 82
def cg:ax ["_law_cuts","_law_sayings","_law_others","_law_told","_law_saying_here","_law_third"] ["_law_cuts","_law_sayings"] (ar jS):=by walk
nonrec abbrev lG:Stmt:=top 83
def cW:ax ["_law_script","_law_cuts","_law_sayings","_law_layers","_law_row_here","_law_more_cuts","_law_more_sayings","_law_one","_law_other","_law_both","_law_many","_law_all_layers","_law_upper","_law_lower","_law_tied","_law_back"] ["_law_script"] (ar lG):=by walk
nonrec abbrev bV:Stmt:=kE (top 61) 0
def fH:ax ["self","cuts","sayings","layers"] ["self","cuts","sayings"] (ar bV):=by walk
nonrec abbrev qR:Stmt:=kE (top 61) 1
def C0:ax ["self"] ["self"] (ar qR):=by walk
nonrec abbrev ci:Stmt:=kE (top 61) 2
def lH:ax ["self"] ["self"] (ar ci):=by walk
nonrec abbrev cA:Stmt:=kE (top 61) 3
def mF:ax ["self"] ["self"] (ar cA):=by walk
nonrec abbrev db:Stmt:=kE (top 61) 4
end
def pO:ax ["self"] ["self"] (ar db):=by walk
inductive pP (K:ZA)
 | mk (a:Addr) (ns:ZL) (k:Int):vs=[.ref a,.int k]->SqL K H a (ns.map V.int)->0<=k->Q (.int (ns.getD k.toNat 0)) H->pP K vs H Q E0
inductive C1 (K:ZA)
 | mk (a:Addr) (ns:ZL) (m:Int):vs=[.ref a,.int m]->SqL K H a (ns.map V.int)->ns.length<=1000->0<=m->m<=100->(∀l H' (xs:ZL),ah H H'->H l=none->H' l=some (.lst (xs.map V.int))->xs.length=m.toNat->(∀x∈xs,0<=x/\x<9973)->Q (.ref l) H')->C1 K vs H Q E0
abbrev clp(x:Int):Int:=if(if x<7 then x else 7)>0 then if x<7 then x else 7 else 0
abbrev AF(wd:Bool)(m:Int):Int:=([0,1,if wd=true then -1 else 2]:ZL).getD (m%3).toNat 0
abbrev nO(n hi:Int)(wd:Bool):Nat->Int×Int×ZL
 | 0=>(n/9,n/3%3,[])
 | i+1=>if(i:Int)<n%3/\(i:Int)<hi-1 then((nO n hi wd i).1,(nO n hi wd i).2.1,(nO n hi wd i).2.2++[-1])else((nO n hi wd i).1/3,clp ((nO n hi wd i).2.1+AF wd (nO n hi wd i).1),(nO n hi wd i).2.2++[(nO n hi wd i).2.1])
abbrev E8(n hi:Int)(wd:Bool):ZL:=(nO n hi wd hi.toNat).2.2
abbrev hiF(xs:ZL):Int:=1+xs.getD 0 0/5%6
abbrev wdF(xs:ZL):Bool:=decide (xs.getD 0 0/30%8=0)
abbrev C2(xs:ZL):List ZL:=((xs.drop 1).take (1+xs.getD 0 0%5).toNat).map λn=>E8 n (hiF xs) (wdF xs)
inductive sH
 | mk (n hi:Int) (wild:Bool):vs=[.int n,.int hi,.bl wild]->0<=n->1<=hi->hi<=6->(∀l H' (cs:ZL),ah H H'->H l=none->H' l=some (.lst (cs.map V.int))->cs.length=hi.toNat->lj wild cs->cs=E8 n hi wild->Q (.ref l) H')->sH vs H Q E0
inductive yG
 | mk (a s:Int):vs=[.int a,.int s]->0<=s->Q (.str (sgn (sg a s))) H->yG vs H Q E0
abbrev uz(H:Hp)(a:List (Addr×ZL)):Prop:=∀p∈a,H p.1=some (.lst (p.2.map V.int))
def uz.up{H a:Hp}{b:List (Addr×ZL)}(h:uz H b)(s:ah H a):uz a b:=λp c=>s _ _ (h p c)
inductive C3 (K:ZA)
 | mk (a:Addr) (xs:ZL) (sh:Int):vs=[.ref a,.int sh]->SqL K H a (xs.map V.int)->(∀H',ah H H'->SqL K H' a (xs.map V.int))->xs.length=6->(∀x∈xs,0<=x/\x<9973)->0<=sh->(∀(T th:Addr) H' (cols:List ZL) (hi:Nat) (wd:Bool),ah H H'->H T=none->H th=none->T≠th->H' T=some (.tup [.str (Str.join nl (drawn cols hi sh)),.ref th])->H' th=some (.lst ((there cols).map V.int))->1<=hi->hi<=6->1<=cols.length->cols.length<=5->(∀c∈cols,c.length=hi/\lj wd c)->cols=C2 xs->(hi:Int)=hiF xs->wd=wdF xs->Q (.ref T) H')->C3 K vs H Q E0
structure Txc (K:ZA) (mg:ZC):Prop where
 o_Ground:vE K mg "Ground"
 n_Ground_kept_cuts:fX K (cI mg "Ground") "kept_cuts"
 n_Ground_kept_sayings:fX K (cI mg "Ground") "kept_sayings"
 n_Ground_kept_layers:fX K (cI mg "Ground") "kept_layers"
 n_Ground_kept_ties:fX K (cI mg "Ground") "kept_ties"
 i_Ground:Cw K mg "Ground" "Ground.__init__" bV ["self","cuts","sayings"]
 m_Ground_sayings:vF K mg "Ground" "sayings" "Ground.sayings" ci ["self"]
 m_Ground_layers:vF K mg "Ground" "layers" "Ground.layers" cA ["self"]
 m_Ground_ties:vF K mg "Ground" "ties" "Ground.ties" db ["self"]
 t_YEAR_WORDS:GvT K mg "YEAR_WORDS" [.str "since",.str "by"]
 t_LAYER_WORDS:GvT K mg "LAYER_WORDS" [.str "later",.str "same"]
structure Txt (K:ZA) (mg:ZC):Prop extends Txc K mg where
 a0:mg "min"=none
 a1:mg "max"=none
 a5:mg "list"=none
 a6:mg "set"=none
 a7:mg "sorted"=none
 a8:mg "len"=none
 a9:mg "reversed"=none
 aa:mg "all"=none
 ab:mg "str"=none
 ac:mg "isinstance"=none
 ae:mg "enumerate"=none
 af:mg "zip"=none
 ag:mg "tuple"=none
 ah:mg "int"=none
 ai:mg "bool"=none
 aj:mg "range"=none
 ak:mg "abs"=none
 al:Gv mg "LATER" (.int 0)
 am:Gv mg "EARLIER" (.int 1)
 an:Gv mg "LONGEST_NAME" (.int 8)
 ao:Gv mg "LETTERS" (.str "abcdefghijklmnopqrstuvwxyz")
 ap:Gv mg "MOST_ROWS" (.int 40)
 aq:Gv mg "MOST_SIGNS" (.int 40)
 ar:Gv mg "AIR" (.str ".")
 au:Gv mg "MOST_CUTS" (.int 8)
 av:Gv mg "MOST_SAYINGS" (.int 60)
 aw:Gv mg "FIRST_YEAR" (.int (-9999))
 ax:Gv mg "LAST_YEAR" (.int 9999)
 ay:aJ K mg "names_by_layer" gN ["ground"]
 az:aJ K mg "join_deposits" iI ["names","one","other"]
 aA:aJ K mg "least_pointed_to" fB ["names","layer"]
 aB:aJ K mg "deposits" pJ ["ground"]
 aC:aJ K mg "deposit_names" iJ ["ground"]
 aD:aJ K mg "links" yF ["ground"]
 aE:aJ K mg "links_by_later" gO ["found"]
 aF:aJ K mg "links_by_earlier" fC ["found"]
 aG:aJ K mg "grouped" sr ["found","side"]
 aH:aJ K mg "laid_in_turn" i7 ["names","found"]
 aI:aJ K mg "shortest_way" ja ["beneath","start","goal"]
 aK:aJ K mg "next_edge" ni ["beneath","edge","reached"]
 aL:aJ K mg "way_to" vW ["reached","start","goal"]
 aM:aJ K mg "all_beneath" jO ["names","found"]
 aN:aJ K mg "most_pairs" lu ["partners"]
 aO:aJ K mg "ask_around" lv ["partners","held_by","askers"]
 aP:aJ K mg "pass_on" sA ["held_by","asked_by","free"]
 aQ:aJ K mg "keys_by_value" iK ["some"]
 aR:aJ K mg "one_of_each_pair" fE ["partners","held_by"]
 aS:aJ K mg "ring" CZ ["ground"]
 aT:aJ K mg "shortest_ring" iL ["names","found"]
 aU:aJ K mg "never_laid" lw ["names","found"]
 aV:aJ K mg "untorn_links" jb ["ground"]
 aW:aJ K mg "earlier_ones" jc ["ground"]
 aX:aJ K mg "fewest_rows" jP ["ground"]
 aY:aJ K mg "row_from" pK ["first","earlier_behind"]
 aZ:aJ K mg "widest" vX ["ground"]
 b0:aJ K mg "is_name" sB ["thing"]
 b1:aJ K mg "rows_of" sC ["text"]
 b2:aJ K mg "is_row" vY ["row"]
 b3:aJ K mg "lies_beneath" jd ["row","above"]
 b4:aJ K mg "letters_in" lx ["rows"]
 b5:aJ K mg "letters" sD ["text"]
 b6:aJ K mg "meetings" pL ["text"]
 b7:aJ K mg "meetings_between" fG ["above","row"]
 b8:aJ K mg "turned" vZ ["text"]
 b9:aJ K mg "check_cuts" lz ["cuts"]
 ba:aJ K mg "is_named_cut" je ["thing"]
 bb:aJ K mg "is_cut" v5 ["thing"]
 bc:aJ K mg "check_sayings" iN ["sayings","layers"]
 bd:aJ K mg "is_saying" nq ["thing","layers"]
 be:aJ K mg "is_text_among" iO ["thing","texts"]
 bf:aJ K mg "is_year" sE ["thing"]
 bg:aJ K mg "layer_name" lA ["name","letter"]
 bh:aJ K mg "layers_of" nu ["cuts"]
 bi:aJ K mg "ties_of_cuts" jf ["cuts"]
 bj:aJ K mg "ties_of_sayings" fV ["sayings"]
 bm:aJ K mg "_law_cell_at" jQ ["_law_script","_law_k"]
 bn:aJ K mg "_law_row" sF ["_law_script","_law_many"]
 bo:aJ K mg "_law_column" lC ["_law_number","_law_high","_law_wild"]
 bp:aJ K mg "_law_sign" pN ["_law_at","_law_shift"]
 bq:aJ K mg "_law_cut" sG ["_law_row_here","_law_shift"]
 br:aJ K mg "_law_saying" lD ["_law_one","_law_two","_law_layers"]
 bt:aJ K mg "_law_ground" lE ["_law_row_here"]
 bu:aJ K mg "_law_called" lF ["_law_layer"]
 bv:aJ K mg "_law_renamed" jS ["_law_cuts","_law_sayings"]
def lI{X:Cx}:OpQ X (binaryOp .Add) Gu:=⟨Gw⟩
def E9{X:Cx}{K:ZA}{e:Expr}{lo hi:Option Expr}{a:TE}{b c:TO}{d pos:Pos}(h:X.K=K)(f:QE X e a)(g:QO X lo b)(i:QO X hi c):QE X (.Subscript e (.Slice lo hi none d) pos) (tSl (Go K) a b c):=by subst h;exact⟨uO Ef f.h g.h i.h⟩
def IK{X:Cx}{K:ZA}{a:Expr}{b:TE}{pos e:Pos}{lo hi:Option Expr}{c d:TO}(_:X.K=K)(f:QE X a b)(g:QO X lo c)(h:QO X hi d):QE X (.Subscript a (.Slice lo hi none e) pos) (tSl GD b c d):=⟨uO GE f.h g.h h.h⟩
def pQ{X:Cx}:OpQ X (binaryOp .Add) Ft:=⟨wI⟩
section
variable{P:Program}{w:World}{K:ZA}{mg:ZC}{base:Heap}
def aM{n:Nat}(h:n<=5000):n<=sizeLine:=Yh h (!1)
def aE{n:Nat}(h:n<=5000):n<sizeLine:=Nat.lt_of_le_of_lt h (!1)
def ah.upd{H:Hp}{p:Addr}{o:HO}(h:H p=none):ah H (upd H p o):=λb u e=>(am (ay e h))▸e
def ah.set{H a:Hp}{p:Addr}{o:HO}(c:ah H a)(h:H p=none):ah H (L2.upd a p o):=λb u e=>(am (ay e h))▸c b u e
def IL{a:Type}(xs:List a){i:Int}(b:0<=i)(e:i<xs.length):∃c,atI xs i=some c/\c∈xs:=by
 have%[j|rfl]:=Xi b;have d:j<xs.length:=by lia
 exact%[xs[j],cO ∅|Ye d]
def pR(xs:ZL){i:Int}(b:0<=i)(d:i<xs.length):∃c,atI (xs.map V.int) i=some (V.int c)/\c∈xs:=by
 have%[j|rfl]:=Xi b;have a:j<xs.length:=by lia
 exact%[xs[j],cO (by simp[a])|Ye a]
def FG:(hV.cps.toList.length:Int)=26:=!0
def cG(T:Txt K mg):Cal P w K mg base 1 "_law_cell_at" ["_law_script","_law_k"] (pP K):=by
 refine T.bm.cal pM (λH vs Q E h=>?_)
 .have%[a,b,k,rfl,c,g|q]:=h;refine%[rfl|λf e A outer s l=>?_];refine%[_,%["JCNL[1XYA0BDHU01ODHE"|0]|?_]
  show bq _ _ _ [some _,some _] H;lk;refine%[_,.inl %[_,c|rfl]|bG (λd=>?_) λd=>?_]
  .rw[Z6]at d;refine%[_,c,.int _,?_|q];have%[j|rfl]:=Xi g;have i:j<b.length:=by lia
   exact cO (by simp[i])
  simp_all
def sI(T:Txt K mg):Cal P w K mg base 2 "_law_row" ["_law_script","_law_many"] (C1 K):=by
 refine T.bn.cal cL (λH vs Q E h=>?_)
 .have%[a,p,m,rfl,J,hn,h0,h1|q]:=h;refine%[rfl|λf ac A outer s I=>?_];refine%[_,(QSs.h (ak (aN 2 cL.nd rfl (dq ao))
   (ak (aN 3 cL.nd rfl (opE fj (cbO ⟨Bt⟩ T.ak boot_abs rfl #[aD (cG T) I rfl #[(af 0 rfl),az]]) (ctO Fx T.ah boot_int rfl #[j6 eA rfl (opE cm (aD (cG T) I rfl #[(af 0 rfl),az]) az) az])))
   (ak (dz PassesOwn.never rfl rfl (rL rfl T.aj rfl #[(af 1 rfl)]) (aP 4 cL.nd rfl)
   (av (ifS (bN uV rfl (af 3 rfl) az)
    (ak (bY rfl (bmO (K:=K) plainAttrs_list PySem.F.slot_list_append PySem.F.type_list_append bi rfl (af 2 rfl) #[opE cm (af 3 rfl) az]))
     (av (aN 3 cL.nd rfl (opE eF (af 3 rfl) az))))
    (ak (aN 5 cL.nd rfl (aD (cG T) I rfl #[(af 0 rfl),(opE cH az (opE cm (af 4 rfl) (cbO (Fw rfl) T.a1 boot_max rfl #[az,(opE uU (cbO (cc (K:=K) rfl) T.a8 PySem.boot_len rfl #[(af 0 rfl)]) az)])))]))
     (ak (aN 6 cL.nd rfl (opE cm (opE fj (opE cH (opE cH (opE cm (af 5 rfl) az) (opE fj az (af 4 rfl))) az) az) az))
     (ak (aN 7 cL.nd rfl (opE cm (opE cH (opE BV (af 6 rfl) (af 6 rfl)) (opE fj az (af 4 rfl))) az))
     (av (bY rfl (bmO (K:=K) plainAttrs_list PySem.F.slot_list_append PySem.F.type_list_append bi rfl (af 2 rfl) #[opE cm (opE cm (opE BV (af 7 rfl) (af 7 rfl)) az) az])))))))))
   (av (aR (af 2 rfl)))))))|?_]
  show bq _ _ _ [!a,some (.int m),none,none,none,none,none,none] H;refine l9 λn1 c1=>?_
  lk;refine%[Xf _|λl L=>c1 _ _ (l9 λn2 c2=>?_)];have j:ah H (upd H l (.lst [])):=ah.upd L;lk;refine%[a,p,1,rfl,j.seq J,!1,_,rfl,a,p,0,rfl,j.seq J,!1,_,rfl,!1|?_];refine%[.inr (by split<;> exact%[!1|!1])|c2 _ _ (l9 λn3 c3=>aB λab hK=>?_)];lk;refine%[⋯,⋯|hK _ _ (gc (λi M g=>∃(n:Int) (o u z B:Option V) (xs:ZL),M=[!a,some (.int m),!l,some (.int n),o,u,z,B]/\ah H g/\g l=some (.lst (xs.map V.int))/\xs.length=i/\∀x∈xs,0<=x/\x<9973)
   %[_,none,none,none,none,[],rfl,j,aa,rfl|λ_ h=>nomatch h] ?_ ?_)]
  .intro i M g hi %[n,o,u,z,B,xs,rfl,C,d,G|e];have ae:i<100:=by lia
   have r:=C.seq J;show nE _ _ _ _ [!a,some (.int m),!l,some (.int n),some (.int (0+i)),u,z,B] g;rw[Int.zero_add];have put:∀v:Int,0<=v->v<9973->ah H (upd g l (.lst (xs.map V.int++[.int v])))/\∃b:ZL,upd g l (.lst (xs.map V.int++[.int v])) l=some (.lst (b.map V.int))/\b.length=i+1/\∀x∈b,0<=x/\x<9973:=λv v0 v1=>
    ⟨ah.set C L,xs++[v],by rw[aa,Zd];rfl,by rw[Z9,G];rfl,λy hy=>by
     rcases Xo hy with q|q
     .exact e y q
     .rw[Xp q];exact%[v0|v1]⟩
   have len:(xs.map V.int).length<sizeLine:=by rw[Z6,G];exact aE ⋯
   have mx:∀x:Nat,(0:Int)<(if(x:Int) -1>1 then(x:Int) -1 else 1):=λx=>by split<;> lia
   refine aI λD1 k1 _=>?_
   lk;refine bG (λ_=>?_) λ_=>?_
   .refine%[.inl %[_|SqL.of d],!1,_,d,len,%[!1|!1]|k1 _ _ ?_];have%[N,b,O,U|Y]:=put (n%9973) ⋯ ⋯;exact%[_,_,_,_,_,b,rfl,N,O,U|Y]
   .refine%[_,.inl %[_,r|rfl],mx _,a,p,_,rfl,r,?_|?_]
    .have:=Int.emod_nonneg (i:Int) (Int.ne_of_gt (mx (p.map V.int).length))
     lia
    generalize p.getD _ 0=c
    lk;refine%[!1,.inl %[!1|!1],.inr %[!1|!1],!1|?_];have b1:=Int.emod_nonneg ((c%1000003+7919*i+1)*48271) (by decide:(2147483629:Int)≠0);have b2:=Int.emod_lt_of_pos ((c%1000003+7919*i+1)*48271) (by decide:(0:Int)<2147483629)
    generalize (c%1000003+7919*i+1)*48271%2147483629=one at b1 b2
    refine%[.inl %[⋯|⋯],.inl %[!1|by simp],!1|?_];have b3:=Int.emod_nonneg (one*one+104729*i) (by decide:(2147483587:Int)≠0);have b4:=Int.emod_lt_of_pos (one*one+104729*i) (by decide:(0:Int)<2147483587)
    generalize (one*one+104729*i)%2147483587=t at b3 b4
    refine%[.inl %[_|SqL.of d],.inl %[⋯|⋯],by simp,!1,_,d,len|k1 _ _ ?_];have%[N,b,O,U|Y]:=put (t*t%2147483563%9973) ⋯ ⋯;exact%[_,_,_,_,_,b,rfl,N,O,U|Y]
  .intro M g %[n,o,u,z,B,xs,rfl,C,d,G|e];refine c3 _ _ ?_;lk;exact q l g xs C L d G e
def Hs(a:0<=i)(c:i<26):atI hV.cps.toList i=some (97+i.toNat):=by
 have%[j|rfl]:=Xi a;have b:j<26:=by omega
 have all:∀j:Fin 26,hV.cps.toList[j.1]? =some (97+j.1):=!0
 exact cO (all %[j|b])
def pS(T:Txt K mg):Cal P w K mg base 1 "_law_sign" ["_law_at","_law_shift"] yG:=by
 refine T.bp.cal v6 (λH vs Q E h=>?_)
 .have%[a,g,rfl,i|c]:=h;refine%[rfl|λf d A outer s e=>?_];refine%[_,%["JCNL[0EDHVODH~3VIiIrI>0E1E"|0]|?_]
  show bq _ _ _ [some (.int a),some _] H;lk;unfold sg at c;refine bG (λb=>?_) λb=>?_
  .have b:=Zo b;rw[if_pos b]at c;exact c
  .have b: ¬ a<0:=↑b
   rw[if_neg b]at c;refine%[.inr %[by simp|by simp],!1,(!1),_,Hs (by omega) (by omega)|c]
def uA(T:Txt K mg):Cal P w K mg base 1 "_law_column" ["_law_number","_law_high","_law_wild"] sH:=by
 refine T.bo.cal bK (λH vs Q E h=>?_)
 .have%[n,hi,wd,rfl,n0,h1,h6|kk]:=h;refine%[rfl|λf ag A outer s hr=>?_];refine%[_,%["JCG3Ii0ECG4IiIv0EECG0Iv0ECG5RBCT~FA1BK6DNdwL[63*L[6I~S1EDZol5A$EBCZol5A4BCG4~r~4AEA~d~5AEAIr4URAEAEAURAEA$EB~6~7A2BBIi0EBBDG0Iv0EDH5"|bK.nd]|?_]
  show bq _ _ _ [some (.int n),some (.int hi),some (.bl wd),none,none,none,none] H;refine ap λD1 k1 _=>?_
  lk;refine%[!1|k1 _ _ (ap λD2 k2 _=>?_)];lk;refine%[%[!1|!1],!1|k2 _ _ (ap λD3 k3 _=>?_)];lk;refine%[%[!1|!1]|k3 _ _ (ap λD4 k4 _=>?_)];lk;refine%[Xf _|λL Y=>k4 _ _ (ap λD5 k5 r5=>aB λae hK=>?_)];lk;have J:∃b:Nat,(b:Int)=(if n%3<hi-1 then n%3 else hi-1):=by
   split
   .exact%[(n%3).toNat|by omega]
   .exact%[(hi-1).toNat|by omega]
  have%[b|ea]:=J;refine%[by omega,by omega|hK _ _ (gc (λi σ B=>∃(m a:Int) (o:Option V) (g:ZL),σ=[some (.int m),some (.int hi),some (.bl wd),some (.int (n%3)),some (.int a),!L,o]/\0<=a/\a<=7/\ah H B/\B L=some (.lst (g.map V.int))/\g.length=i/\
   (∀(k:Nat) (c:Int),g[k]? =some c->(k<b->c= -1)/\(b<=k->0<=c/\c<=7))/\(∀(k:Nat) (c d:Int),g[k]? =some c->(g++[a])[k+1]? =some d->b<=k->St wd c d)/\(m,a,g)=nO n hi wd i)
   %[_,_,none,[],rfl,by omega,by omega,ah.upd Y,aa,rfl,(λk c e=>by simp at e),(λk c d e=>by simp at e)|rfl] ?_ ?_)]
  .intro i σ B ai %[m,a,o,g,rfl,a0,a7,sm,l,C,r,G|y];show nE _ _ _ _ [some (.int m),some (.int hi),some (.bl wd),some (.int (n%3)),some (.int a),!L,some (.int (0+i))] B;rw[Int.zero_add];have len:(g.map V.int).length<sizeLine:=by rw[Z6,C];exact aE (by omega)
   have put:∀v:Int,(i<b->v= -1)->(b<=i->0<=v/\v<=7)->∀(k:Nat) (c:Int),(g++[v])[k]? =some c->(k<b->c= -1)/\(b<=k->0<=c/\c<=7):=λv v1 v2 k c e=>by
    by_cases hk:k<g.length
    .rw[Y9 hk]at e;exact r k c e
    .have ek:k=i:=by
      have:=(Xn e).1;rw[Z9]at this;simp only[Zr,length_nil]at this;omega
     subst ek;rw[Ya (by omega),C,sub_self]at e;cases e;exact%[v1|v2]
   refine aI λD6 k6 _=>?_
   lk;have M:∀v u:Int,(b<=i->v=a/\St wd v u)->∀(k:Nat) (c d:Int),(g++[v])[k]? =some c->(g++[v] ++[u])[k+1]? =some d->b<=k->St wd c d:=λv u q k c d I t hk=>by
    have aj:k+1<=g.length+1:=by
     have:=(Xn t).1;simp only[Z9,Zr,length_nil]at this;omega
    by_cases h:k+1<g.length+1
    .rw[Y9 (by omega)]at I;rw[Y9 ↑h]at t;by_cases h':b<=i
     .rw[(q h').1]at t;exact G k c d I t hk
     .omega
    .have ek:k=i:=by omega
     subst ek;rw[Ya (by omega),C,sub_self]at I;rw[Ya (by simp;omega)]at t;simp[C]at I t;rw[<-I,<-t];exact(q hk).2
   have fin:∀_v:Int,¬ i<b->∀(m2 j:Int) (HH:Hp),0<=j->j<=7->St wd a j->(m2,j,g++[a])=nO n hi wd (i+1)->ah (upd B L (.lst (g.map V.int++[.int a]))) HH->D6.nx [some (.int m2),some (.int hi),some (.bl wd),some (.int (n%3)),some (.int j),!L,some (.int i)] HH:=λv hv m2 j HH b0 b7 st N sh=>
    k6 _ _ %[m2,j,_,g++[a],rfl,b0,b7,(ah.set sm Y).trans sh,by rw[sh L _ aa,Zd];rfl,by rw[Z9,C];rfl,put a (λz=>absurd z hv) λ_=>%[a0|a7],M a j λ_=>%[rfl|st]|N]
   refine bG (λhA=>bG (λhB=>?g1) λhB=>?g2) λhA=>?g3
   case g1=>
    simp only[decide_eq_true_eq]at hA hB;have O:i<b:=by split at ea<;> omega
    exact%[.inl %[_|SqL.of l],_,l,len|k6 _ _ %[m,a,_,g++[-1],rfl,a0,a7,ah.set sm Y,by rw[aa,Zd];rfl,by rw[Z9,C];rfl,put (-1) (λ_=>rfl) λz=>absurd O (by omega),M (-1) a (λz=>absurd O (by omega))|by show _=if _ then _ else _;rw[if_pos %[hA|hB],<-y]]]
   all_goals
    have ab: ¬ i<b:=by
     simp only[decide_eq_true_eq]at*
     split at ea<;> omega
    refine%[.inl %[_|SqL.of l],_,l,len,#[2]|λp hp=>%[_,SqL.of aa,.int (if wd=true then -1 else 2),by cases wd<;> rfl,#[3]|λp1 ac=>%[!1,_,SqL.of aa|?_]]];have hc:atI ([0,1,if wd=true then -1 else 2].map V.int) (m%3)=some (.int (AF wd m))/\AF wd m∈[0,1,if wd=true then -1 else 2]:=by
     unfold AF;rcases(show m%3=0\/m%3=1\/m%3=2 by omega)with e|e|e<;> rw[e]<;> exact%[rfl|by simp]
    have N:(m/3,clp (a+AF wd m),g++[a])=nO n hi wd (i+1):=by
     show _=if _ then _ else _
     rw[if_neg (λq=>by simp only[decide_eq_true_eq]at *;omega),<-y]
    unfold clp at N
    generalize AF wd m=c at hc N
    have%[hc|U]:=hc;refine%[_,hc,c,rfl,%[!1|!1]|fin 0 ab _ _ _ ?_ ?_ ?_ N ((ah.upd hp).trans (ah.upd ac))]
    rotate_left 2
    .unfold Cut.St;simp only[Yw,X8,or_false]at U;cases wd<;> rcases U with rfl|rfl|rfl<;> simp<;>(split<;>(try split)<;> omega)
    all_goals(split<;>(simp)<;> omega)
  .intro σ B %[m,a,o,g,rfl,a0,a7,sm,l,C,r,G|y];refine k5 _ _ ?_;lk;exact kk L B g sm Y l (by omega) %[b,by omega,r|λk c d I t=>G k c d I ((Y9 (Xn t).1)▸t)] (by unfold E8;rw[<-y])
def v9(xs:ZL){lo hi:Int}(a:0<=lo)(b:lo<=hi)(c:hi<=xs.length):tE (xs.map V.int) (some lo) (some hi)=((xs.drop lo.toNat).take (hi.toNat-lo.toNat)).map V.int:=by
 unfold tE;have d:HT.sIx xs.length 0 (some lo)=lo.toNat:=by
  show(if lo<0 then _ else min lo.toNat xs.length)=_
  grind
 have e:HT.sIx xs.length xs.length (some hi)=hi.toNat:=by
  show(if hi<0 then _ else min hi.toNat xs.length)=_;rw[if_neg ⋯]
  lia
 simp_all
def IW(p:Nat->Bool)(n:Nat):inV (V.bl true) ((List.range n).map λr=>V.bl (p r))=(List.range n).any p:=by
 unfold inV;rw[any_map]
 congr 1
 funext r;show eqV (V.bl _) (V.bl true)=p r;cases p r<;> rfl
def AG{a:Type}(p:a->Bool)(xs:List a):inV (V.bl true) (xs.map λr=>V.bl (p r))=xs.any p:=by
 unfold inV;rw[any_map]
 congr 1
 funext r;show eqV (V.bl _) (V.bl true)=p r;cases p r<;> rfl
def Fa(a:Int)(b:ZL):inV (V.int a) (b.map V.int)=decide (a∈b):=by
 unfold inV
 induction b with
 | nil=>rfl
 | cons c r d=>
   show((c==a)||_)=_
   grind
def AH(a:ZL):(a.map V.int).all gi=true:=by simp[gi]
def AI(T:Txt K mg):Cal P w K mg base 2 "_law_cut" ["_law_row_here","_law_shift"] (C3 K):=by
 refine T.bq.cal cu (λH vs Q E h=>?_)
 .have%[a,xs,B,rfl,hs,keep,a2,hb,s0|kk]:=h;refine%[rfl|λf ct A outer s hr=>?_];have get:∀i:Int,0<=i->i<6->∃c,atI (xs.map V.int) i=some (V.int c)/\0<=c/\c<9973:=λi h0 h1=>by
   have%[c,e|hm]:=pR xs h0 ⋯;exact%[c,e|hb c hm]
  have%[c0,g0,l0|u0]:=get 0 (!1) (!1);have ec:xs.getD 0 0=c0:=by
   match xs,a2,g0 with
   | x::r,_,g0=>exact V.int.inj (Za ((show atI ((x::r).map V.int) ((0:Nat):Int)=some (V.int x)from cO rfl).symm.trans g0))
  refine%[_,%["JCG2IrEIiU0EEC%3efIrEIiIvU0EEEC%4efsmIiIvU0EEEEC~85efja?1P~T0;E;IrE2S0?2pF~9A0AW1AW2BCG6RBCT~FAW3B~s7efC~G8fea?3PW5S0?4pU0W1DZol6A~U~VVAja?5P8S0?6pF~tA0AW1BBBC~G9fea?7~FAEB]A0?8ef<L^&ja?9PW1S0?:ps^W10W0DHgA~U~VVA6BA9B",cu.nd,(show bF _ _ _ ["_law_number","_law_high","_law_wild"] [(1,3),(2,4)]=true from rfl),(show(["_law_number","_law_high","_law_wild"]:ZB).Nodup from !0),(show bF _ _ _ ["_law_column_here","_law_k"] [(1,7)]=true from rfl),(show(["_law_column_here","_law_k"]:ZB).Nodup from !0),(show bF _ _ _ ["_law_at","_law_shift"] [(1,1)]=true from rfl),(show(["_law_at","_law_shift"]:ZB).Nodup from !0),(show bF _ _ _ ["_law_at","_law_columns"] [(1,5)]=true from rfl),(show(["_law_at","_law_columns"]:ZB).Nodup from !0),(show bF _ _ _ ["_law_column_here","_law_at"] [(1,0)]=true from rfl),(show(["_law_column_here","_law_at"]:ZB).Nodup from !0)|hr]|?_]
  show bq _ _ _ [!a,some (.int B),none,none,none,none,none,none,none,none] H;refine ap λD1 k1 _=>?_
  lk;refine%[_,hs,_,g0,c0,rfl,!1|k1 _ _ (ap λD2 k2 _=>?_)];lk;refine%[_,hs,_,g0,c0,rfl,%[!1|!1],!1|k2 _ _ (ap λD3 k3 _=>?_)];lk;refine%[_,hs,_,g0,c0,rfl,%[!1|!1],!1|k3 _ _ (ap λD4 k4 _=>?_)];have w1:1<=1+c0%5:=by lia
  have w5:1+c0%5<=5:=by lia
  have i1:1<=1+c0/5%6:=by lia
  have i6:1+c0/5%6<=6:=by lia
  generalize b3:1+c0%5=wd at w1 w5
  generalize b4:1+c0/5%6=hi at i1 i6
  generalize a3:decide (c0/30%8=0)=m
  refine aF λC O=>?_
  lk;refine%[_,hs|λp hp=> .inl %[%[_|SqL.of aa]|O _ _ λD hD=>?_]];rw[v9 xs (!1) ⋯ ⋯]at hD ⊢;have a4:((xs.drop (Int.toNat 1)).take ((1+wd).toNat-Int.toNat 1)).length=wd.toNat:=by
   rw[Ym,Yi,a2];rw[show(1+wd).toNat=wd.toNat+1 by lia];exact X1 ⋯
  have a5:∀x∈(xs.drop (Int.toNat 1)).take ((1+wd).toNat-Int.toNat 1),0<=x/\x<9973:=λx hx=>hb x (Yx (Yy hx))
  generalize b5:(xs.drop (Int.toNat 1)).take ((1+wd).toNat-Int.toNat 1)=ys at a4 a5 hD ⊢
  have a6:ah H (upd H p (.lst (ys.map V.int))):=ah.upd hp;have ac:upd H p (.lst (ys.map V.int)) p=some (.lst (ys.map V.int)):=aa
  generalize upd H p (.lst (ys.map V.int))=b6 at a6 ac hD ⊢
  refine bh (J:=Itl K p) (n:=wd.toNat) (D:=D) (λi zs t g=>(∃o,t=[o,some (.int hi),some (.bl m)])/\ah b6 g/\g D=some (.lst zs)/\∃b:List (Addr×ZL),zs=b.map (λq=>V.ref q.1)/\b.length=i/\uz g b/\(∀q∈b,q.1≠D/\q.2.length=hi.toNat/\lj m q.2)/\b.map (·.2)=(ys.take i).map λn=>E8 n hi m)
   %[%[none|rfl],ah.upd hD,aa,[],rfl,rfl,λq y=>(nomatch y),λq y=>(nomatch y)|rfl]
   (λi _ _ g a7 d=>%[_,V.int (ys[i]'⋯),SqL.of (d.2.1 _ _ ac)|by simp[show i<ys.length by lia]]) (λ_ _ g d=>%[_,SqL.of (d.2.1 _ _ ac)|by simp[a4]]) ?_ ?_
  .intro i zs t g a7 %[%[o|rfl],M,bb,b,rfl,I,ae,U|ag] x H2 %[e2|hx];subst e2;have aq:i<ys.length:=by lia
   have u:=hx _ (SqL.of (M _ _ ac));rw[Zl,Z4 aq]at u;obtain rfl:x=V.int ys[i]:=(Za u).symm;lk;refine%[_,_,_,rfl,(a5 _ (Ye aq)).1,i1,i6|λl H3 b7 as bc bf bl b9 ca=>?_];have bm:l≠D:=λe=>by rw[e,bb]at bc;cases bc
   refine CK.mk a7 (as _ _ bb) (by rw[Z6,I];exact aE ⋯) %[%[_|rfl],ah.set (M.trans as) hD,aa,b++[(l,b7)],by rw[Zd];rfl,by rw[Z9,I];rfl,λq y=>?_,λq y=>?_|by rw[Zd,ag,Xb,Z4 aq,Zd,ca];rfl]
   .rcases Xo y with z|z
    .rw[am (U q z).1];exact as _ _ (ae q z)
    .rw[Xp z,am bm];exact bf
   .rcases Xo y with z|z
    .exact U q z
    .rw[Xp z];exact%[bm,bl|b9]
  intro zs t H4 %[_,cb,Y,b,rfl,I,ae,U|ag];rw[Zn ⋯]at ag;have a0:ah H H4:=a6.trans cb;refine k4 _ _ (ap λD5 k5 _=>?_);lk;refine%[Xf _|λR hR=>k5 _ _ (ap λD6 k6 _=>aB λC O=>?_)];lk;have cp:(b.map (·.2)).length=wd.toNat:=by rw[Z6];exact I
  refine%[⋯,⋯|O _ _ (gc (λi t g=>∃o7 o8,t=[!a,some (.int B),some (.int wd),some (.int hi),some (.bl m),!D,!R,o7,o8,none]/\ah H4 g/\g R=some (.lst (((List.range i).map (i5 (b.map (·.2)) B)).map V.str)))
   %[_,_,rfl,ah.upd hR|aa] ?_ ?_)]
  .intro i t H5 cx %[o7,o8,rfl,j|ai];show bq _ _ _ [!a,some (.int B),some (.int wd),some (.int hi),some (.bl m),!D,!R,some (.int (0+i)),o8,none] H5;rw[Int.zero_add];refine ap λD7 k7 _=>aF λC O=>?_
   lk;refine .inl %[%[_|SqL.of (j _ _ Y)]|O _ _ λE hE=>?_];refine bh (J:=Itl K D) (n:=wd.toNat) (D:=E) (λq zs t g=>(∃o,t=[o,some (.int i)])/\ah H5 g/\g E=some (.lst zs)/\zs=((b.take q).map (λp=>p.2.getD i 0)).map V.int)
    %[%[none|rfl],ah.upd hE,aa|rfl]
    (λq _ _ g y d=>%[_,V.ref (b[q]'⋯).1,SqL.of (d.2.1 _ _ (j _ _ Y))|by simp[show q<b.length by lia]]) (λ_ _ g d=>%[_,SqL.of (d.2.1 _ _ (j _ _ Y))|by simp[I]]) ?_ ?_
   .intro q zs t g y %[%[o|rfl],M,cd|N] x H2 %[e2|hx];subst e2;have v:q<b.length:=by lia
    have u:=hx _ (SqL.of (M _ _ (j _ _ Y)));rw[Zl,Z4 v]at u;obtain rfl:x=V.ref b[q].1:=(Za u).symm;lk;have hm:=Ye v;refine%[_,SqL.of (M _ _ (j _ _ (ae _ hm))),V.int (b[q].2.getD i 0),?_|?_]
    .refine cO ?_;rw[Zl,dG (U _ hm).2.1 ⋯];rfl
    .refine CK.mk y cd (by rw[N,Z6,Z6,Ym];exact aE ⋯) %[%[_|rfl],ah.set M hE,aa|?_];rw[N,Xb,Zd,Zd,Z4 v];rfl
   intro zs t H6 %[_,L,aj|N];rw[Zn ⋯]at N;refine k7 _ _ (aI λD8 k8 _=>?_);have bn:=j.trans L;lk;refine%[.inl %[_|SqL.of (L _ _ ai)]|aF λC O=>?_];lk;refine .inl %[%[_|SqL.of aj]|O _ _ λF hF=>?_];refine bh (J:=Itl K E) (n:=wd.toNat) (D:=F) (λq ts t g=>(∃o,t=[o,some (.int B)])/\ah H6 g/\g F=some (.lst ts)/\ts=(((b.take q).map (λp=>sg (p.2.getD i 0) B)).map sgn).map V.str)
    %[%[none|rfl],ah.upd hF,aa|rfl]
    (λq _ _ g y d=>%[_,V.int ((b[q]'⋯).2.getD i 0),SqL.of (d.2.1 _ _ aj)|by rw[N];simp[show q<b.length by lia]]) (λ_ _ g d=>%[_,SqL.of (d.2.1 _ _ aj)|by rw[N];simp[I]]) ?_ ?_
   .intro q ts t g y %[%[o|rfl],M,a1|ht] x H2 %[e2|hx];subst e2;have v:q<b.length:=by lia
    have u:=hx _ (SqL.of (M _ _ aj));rw[N,Zl,Zl,Z4 v]at u;obtain rfl:x=V.int (b[q].2.getD i 0):=(Za u).symm;lk;refine%[_,_,rfl,s0|?_];refine CK.mk y a1 (by rw[ht,Z6,Z6,Z6,Ym];exact aE ⋯) %[%[_|rfl],ah.set M hF,aa|?_];rw[ht,Xb,Zd,Zd,Zd,Z4 v];rfl
   intro ts t H7 %[_,bp,ch|ht];rw[Zn ⋯]at ht;lk;refine%[(b.map λp=>sg (p.2.getD i 0) B).map sgn,by rw[<-ht];exact SqL.of ch,?_,_,bp _ _ (L _ _ ai),by rw[Z6,Z6,Yk];exact aE ⋯|k8 _ _ %[_,_,rfl,ah.set (bn.trans bp) hR|?_]]
   .rw[yo,Z6,Z6,show(!"").length=0 from rfl]
    lia
   .rw[aa,range_succ,Zd,Zd,show Txt.join (!"") ((b.map λp=>sg (p.2.getD i 0) B).map sgn)=Str.join (!"") ((b.map λp=>sg (p.2.getD i 0) B).map sgn)from StrLaws.glued_eq_join _ _,join_signs];have e:i5 (b.map (·.2)) B i=⟨(b.map λp=>sg (p.2.getD i 0) B).toArray⟩:=by
     unfold i5;rw[Ys];rfl
    rw[<-e];rfl
  .intro t H5 %[o7,o8,rfl,j|ai];refine k6 _ _ (ap λD7 k7 _=>aF λC O=>?_);lk;refine%[!1,by simp|O _ _ λF hF=>?_];refine bh (J:=Itr 0 8) (n:=8) (D:=F) (λq ts t g=>(∃o,t=[o,!D])/\ah H5 g/\g F=some (.lst ts)/\ts=(((List.range q).filter λa:Nat=>(b.map (·.2)).any λc=>decide ((a:Int)∈c)).map λa:Nat=>(a:Int)).map V.int)
    %[%[none|rfl],ah.upd hF,aa|rfl] (λq _ _ g y _=>y) (λ_ _ g _=>Zi _) ?_ ?_
   .intro q ts t g y %[%[o|rfl],M,a1|ht] x H2 %[e2|e3];subst e2 e3;lk;refine aF λC O=>?_
    lk;have al:=M _ _ (j _ _ Y);refine .inl %[%[_|SqL.of al]|O _ _ λG hG=>?_];refine bh (J:=Itl K D) (n:=wd.toNat) (D:=G) (λr zs t H3=>(∃o,t=[o,some (.int q)])/\ah H2 H3/\H3 G=some (.lst zs)/\zs=(b.take r).map (λp=>V.bl (decide ((q:Int)∈p.2))))
     %[%[none|rfl],ah.upd hG,aa|rfl]
     (λr _ _ H3 bt d=>%[_,V.ref (b[r]'⋯).1,SqL.of (d.2.1 _ _ al)|by simp[show r<b.length by lia]]) (λ_ _ H3 d=>%[_,SqL.of (d.2.1 _ _ al)|by simp[I]]) ?_ ?_
    .intro r zs t H3 bt %[%[o|rfl],s3,cl|N] x cy %[e2|hx];subst e2;have v:r<b.length:=by lia
     have u:=hx _ (SqL.of (s3 _ _ al));rw[Zl,Z4 v]at u;obtain rfl:x=V.ref b[r].1:=(Za u).symm;have hm:=Ye v;lk;refine%[_,.inl (SqL.of (s3 _ _ (M _ _ (j _ _ (ae _ hm))))),rfl,AH _|?_];rw[Fa];refine CK.mk bt cl (by rw[N,Z6,Ym];exact aE ⋯) %[%[_|rfl],ah.set s3 hG,aa|?_];rw[N,Xb,Zd,Z4 v];rfl
    intro zs t H3 %[_,s3,co|N];rw[Zn ⋯]at N;have bU:=s3 _ _ a1;lk;refine%[_,.inl (SqL.of co),rfl,by rw[N];simp[gi]|?_];rw[N,AG];have any:(b.any λp=>decide ((q:Int)∈p.2))=(b.map (·.2)).any λc=>decide ((q:Int)∈c):=by rw[any_map];rfl
    rw[any];have b0:ts.length<sizeLine:=by
     rw[ht,Z6,Z6];have:=Yj (λa:Nat=>(b.map (·.2)).any λc=>decide ((a:Int)∈c)) (List.range q);rw[Yk]at this;exact aE ⋯
    refine bG (λhb=>?_) λhb=>?_
    .refine CK.mk y bU b0 %[%[_|rfl],ah.set (M.trans s3) hF,aa|?_];rw[ht,range_succ,Y2,Zd,Zd];rw[show List.filter (λa:Nat=>(b.map (·.2)).any λc=>decide ((a:Int)∈c)) [q]=[q]from by rw[filter_cons,if_pos hb];rfl];rfl
    .refine CN.mk y %[%[_|rfl],M.trans s3,bU|?_];rw[ht,range_succ,Y2,Zd,Zd];rw[show List.filter (λa:Nat=>(b.map (·.2)).any λc=>decide ((a:Int)∈c)) [q]=[]from by rw[filter_cons,if_neg hb];rfl];simp
   intro ts t H6 %[_,L,b1|ht];refine k7 _ _ ?_;lk;have ab:∀c∈b.map (·.2),c.length=hi.toNat/\lj m c:=λc hc=>by
    have%[p,hp|rfl]:=Xq hc;exact(U p hp).2
   have an:bJ (drawn (b.map (·.2)) hi.toNat B):=vS ⋯ ⋯ ⋯ ⋯ ab;have b2:H5 R=some (.lst ((drawn (b.map (·.2)) hi.toNat B).map V.str)):=ai;refine%[drawn (b.map (·.2)) hi.toNat B,SqL.of (L _ _ b2),?_,#[2]|λp hp=>?_]
   .have:=an.sum;have:=an.high;rw[show(!"\n").length=1 from rfl]
    lia
   .refine kk p F _ (b.map (·.2)) hi.toNat m ((a0.trans (j.trans L)).trans (ah.upd hp)) ((a0.trans (j.trans L)).free hp) ((a0.trans j).free hF) (λe=>by rw[e,b1]at hp;cases hp) ?_ ?_ ⋯ ⋯ ⋯ ⋯ ab ?_ (by unfold hiF;rw[ec];lia) (by unfold wdF;rw[ec];exact a3.symm)
    .rw[aa,show Txt.join (!"\n") (drawn (b.map (·.2)) hi.toNat B)=Str.join (!"\n") (drawn (b.map (·.2)) hi.toNat B)from StrLaws.glued_eq_join _ _];rfl
    .rw[ah.upd hp F _ b1,ht];rfl
    .rw[ag,<-b5];unfold C2 hiF wdF;rw[ec,b4,a3,b3,show(1+wd).toNat-Int.toNat 1=wd.toNat by lia];rfl
inductive sJ
 | mk (z:Str):vs=[.str z]->z.length<=1000->(∀H',ah H H'->Q (.bl (tX z)) H')->sJ vs H Q E0
inductive pU
 | mk (row above:Str):vs=[.str row,.str above]->row.length<=1000->above.length<=1000->(∀H',ah H H'->Q (.bl (fk row above)) H')->pU vs H Q E0
inductive jT (K:ZA)
 | mk (a rows):vs=[.ref a]->SqL K H a (rows.map V.str)->(rows.map (·.length)).sum<=3000->(∀r∈rows,r.cps.toList.all okc=true)->(∀l H' ss,ah H H'->H l=none->H' l=some (.lst (ss.map V.str))->ss.Perm (aO ((dg rows).map sgn))->PyProof.Rows.sortedS ss=true->Q (.ref l) H')->jT K vs H Q E0
inductive pV
 | mk (rows:ZB):vs=[.str (Str.join nl rows)]->bJ rows->(∀l H',ah H H'->H l=none->H' l=some (.lst (rows.map V.str))->Q (.ref l) H')->pV vs H Q E0
def jx(z:Str)(i:Nat)(c:Nat)(h:z.cps[i]? =some c):(z.cps.toList.take i++[c])=z.cps.toList.take (i+1):=by
 have h':z.cps.toList[i]? =some c:=↑h
 have%[a|e]:=Xn h';rw[List.take_succ_eq_append_getElem a,e]
def C4(c d:Nat):((⟨([c].toArray)⟩:Str)=⟨([d].toArray)⟩)↔c=d:=by
 simp
def pW(c:Nat):((⟨([c].toArray)⟩)=!".")↔c=46:=C4 c 46
def C5(T:Txt K mg):Cal P w K mg base 1 "is_row" ["row"] sJ:=by
 refine T.b2.cal AC (λH vs Q E h=>?_)
 .have%[z,rfl,N|k]:=h;refine%[rfl|λf v A outer s M=>?_];refine%[_,%["JDH'~e~A~AEXYA0B]B+~f~gAja?1P0S0?2p~usm0~H+s^0~vB",0,(show bF _ _ _ ["sign"] []=true from rfl)|(show(["sign"]:ZB).Nodup from by simp)]|?_];show jX _ _ [-z] H;lk;refine%[aM ⋯|bG (λl=>bG (λm=>?_) λm=>?_) λl=>?_]
  .refine aF λt y=>?_
   lk;refine y _ _ λD u=>?_
   refine bh (J:=Its z) (n:=z.cps.size) (D:=D) (λi ys d a=>(∃o,d=[o])/\ah H a/\a D=some (.lst ys)/\ys=(z.cps.toList.take i).map (λc=>V.bl (okc c))) %[%[none|rfl],ah.upd u,aa|rfl]
    (λi _ _ _ hi _=>hi) (λ_ _ _ _=>Zi _) ?_ ?_
   .intro i ys d a hi %[%[o|rfl],p,q|g] x B %[C,c,G|rfl];subst C;have j:ys.length=i:=by
     rw[g,Z6,Ym];have:z.cps.toList.length=z.cps.size:=by simp
     lia
    have I:i<1000:=by
     have:z.length=z.cps.size:=rfl
     lia
    have put:∀b:Bool,b=okc c->CK D z.cps.size i (λi ys d a=>(∃o,d=[o])/\ah H a/\a D=some (.lst ys)/\ys=(z.cps.toList.take i).map (λc=>V.bl (okc c))) ys [some (.str ⟨([c].toArray)⟩)] (.bl b) B:=λb L=>
     CK.mk hi q (j▸aE ⋯) %[%[_|rfl],ah.set p u,aa|by rw[L,g,<-jx z i c G,Zd];rfl]
    lk;refine bG (λr=>put true ?_) λr=>put _ ?_
    .have:=(pW c).mp (Zo r);unfold okc;rw[Zf this,Bool.true_or]
    .have: ¬ c=46:=λe=>(λe=>r (Zf e)) ((pW c).mpr e)
     unfold okc;rw[Zh this,Bool.false_or,BN];rfl
   .intro ys d a %[_,p,q|g];lk;refine%[z.cps.toList.map okc,?_|?_]
    .have e:z.cps.toList.take z.cps.size=z.cps.toList:=by
      apply Zn;simp
     rw[e]at g;have:(z.cps.toList.map okc).map V.bl=ys:=by rw[g,Ys];rfl
     rw[this];exact SqL.of q
    .have e:tX z=(z.cps.toList.map okc).all id:=by
      unfold tX;rw[l,m,all_map]
      all_goals rfl
     exact e▸k a p
  .rw[Bool.not_eq_true]at m;have e:tX z=false:=by unfold tX;rw[m,Bool.and_false,Bool.false_and]
   rw[e]at k;exact k H (ah.refl H)
  .rw[Bool.not_eq_true]at l;have e:tX z=false:=by unfold tX;rw[l,Bool.false_and,Bool.false_and]
   rw[e]at k;exact k H (ah.refl H)
abbrev nv(p:Nat×Nat):Bool:=!decide (p.2=46)||decide (p.1=46)
def wa(x y:Str)(i c d:Nat)(b:x.cps[i]? =some c)(f:y.cps[i]? =some d):((List.zip x.cps.toList y.cps.toList).take i++[(c,d)])=(List.zip x.cps.toList y.cps.toList).take (i+1):=by
 have h:(List.zip x.cps.toList y.cps.toList)[i]? =some (c,d):=List.getElem?_zip_eq_some.mpr %[↑b|↑f];have%[a|e]:=Xn h;rw[List.take_succ_eq_append_getElem a,e]
def pX(T:Txt K mg):Cal P w K mg base 1 "lies_beneath" ["row","above"] pU:=by
 refine T.b3.cal nM (λH vs Q E h=>?_)
 .have%[row,a,rfl,I,L|k]:=h;refine%[rfl|λf G A outer s hr=>?_];refine%[_,%["JCNLqXYA0BXYA1BDH&ODH~f~gAja?1~wA1A0BbMS0?2MS1?2cp~usq1~H+sm0~HB",0,(show bF _ _ _ ["high","low"] []=true from rfl)|(show(["high","low"]:ZB).Nodup from !0)]|?_]
  show bq _ _ _ [-row,-a] H;refine ap λD1 k1 M=>?_
  lk;refine%[aM ⋯,aM ⋯|bG (λj=>?_) λj=>?_]
  .have j: ¬ ((row.length:Int)=a.length):=↑j
   have e:fk row a=false:=by
    unfold fk;rw[Zh ⋯,Bool.false_and]
   rw[e]at k;exact M _ _ (k H (ah.refl H))
  .have j:row.length=a.length:=by
    have:(row.length:Int)=a.length:=↑j
    lia
   refine k1 _ _ ?_;have t:row.cps.size=a.cps.size:=j;have u:(List.zip a.cps.toList row.cps.toList).length=a.cps.size:=by rw[length_zip];simp[t]
   lk;refine aF λz N=>?_
   lk;refine N _ _ λD B=>?_
   refine bh (J:=Itz a row) (n:=a.cps.size) (D:=D) (λi ys l g=>(∃q r,l=[q,r])/\ah H g/\g D=some (.lst ys)/\ys=((List.zip a.cps.toList row.cps.toList).take i).map (λp=>V.bl (nv p))) %[%[none,none|rfl],ah.upd B,aa|rfl]
    (λi _ _ _ hi _=>%[hi|⋯]) (λ_ _ _ _=>%[Zi _,⋯|.inl rfl]) ?_ ?_
   .intro i ys l g hi %[%[q,r|rfl],v,y|m] x H2 %[c,d,TT,O,U,C,rfl|rfl];have o:ys.length=i:=by rw[m,Z6,Ym,u];lia
    have Y:i<1000:=by
     have:a.length=a.cps.size:=rfl
     lia
    have put:∀b:Bool,b=nv (c,d)->CK D a.cps.size i (λi ys l g=>(∃q r,l=[q,r])/\ah H g/\g D=some (.lst ys)/\ys=((List.zip a.cps.toList row.cps.toList).take i).map (λp=>V.bl (nv p))) ys [some (.str ⟨([c].toArray)⟩),some (.str ⟨([d].toArray)⟩)] (.bl b) (upd g TT (.tup [.str ⟨([c].toArray)⟩,.str ⟨([d].toArray)⟩])):=λb eb=>
     CK.mk hi (ah.upd C _ _ y) (o▸aE ⋯) %[%[_,_|rfl],ah.set (v.trans (ah.upd C)) B,aa|by rw[eb,m,<-wa a row i c d O U,Zd];rfl]
    lk;refine%[_,SqT.of aa,rfl,_,_,rfl,_,_,rfl,rfl,rfl|?_];simp only[V.str.injEq,pW];refine bG (λh=>put true ?_) λh=>%[rfl|put _ ?_]
    .unfold nv;rw[h,Bool.true_or]
    .unfold nv;rw[Bool.not_eq_true]at h;rw[h,Bool.false_or]
   .intro ys l g %[_,v,y|m];lk;refine%[(List.zip a.cps.toList row.cps.toList).map nv,?_|?_]
    .have e:(List.zip a.cps.toList row.cps.toList).take a.cps.size=List.zip a.cps.toList row.cps.toList:=Zn ⋯;rw[e]at m;have:((List.zip a.cps.toList row.cps.toList).map nv).map V.bl=ys:=by rw[m,Ys];rfl
     rw[this];exact SqL.of y
    .have e:fk row a=((List.zip a.cps.toList row.cps.toList).map nv).all id:=by
      unfold fk;rw[Zf j,all_map,Bool.true_and];rfl
     exact e▸k g v
def AJ(h:(rows.map (·.length)).sum<=3000):(Str.join (!"") rows).length<=3000:=by
 have:=StrLaws.join_length_le (!"") rows;rw[show(!"").length=0 from rfl]at this
 lia
def lJ(T:Txt K mg):Cal P w K mg base 1 "letters_in" ["rows"] (jT K):=by
 refine T.b4.cal qP (λH vs Q E h=>?_)
 .have%[a,rows,rfl,N,g,u|k]:=h;refine%[rfl|λf M A outer s hr=>?_];refine%[_,%["JDH~B]CA~I~hAja?1P~U~VVA0BS0?2<Lq0~H0BB",0,(show bF _ _ _ ["sign"] []=true from rfl)|(show(["sign"]:ZB).Nodup from by simp)]|?_];show jX _ _ [!a] H;lk;refine aF λC O=>?_
  lk;refine%[rows,N,by rw[show(!"").length=0 from rfl];lia|?_];rw[show Txt.join (!"") rows=Str.join (!"") rows from StrLaws.glued_eq_join _ _];have j:=AJ g;have b:=mr u;unfold dg at b k
  generalize Str.join (!"") rows=z at j b k ⊢
  refine O _ _ λD G=>?_
  refine bh (J:=Its z) (n:=z.cps.size) (D:=D) (λi ys v m=>(∃o,v=[o])/\ah H m/\m D=some (.lst ys)/\ys=((z.cps.toList.take i).filter (λc=>decide (c≠46))).map (λc=>V.str (sgn c))) %[%[none|rfl],ah.upd G,aa|rfl]
   (λi _ _ _ hi _=>hi) (λ_ _ _ _=>Zi _) ?_ ?_
  .intro i ys v m hi %[%[o|rfl],r,t|d] x H2 %[U,c,I|rfl];subst U;have L:ys.length<=i:=by
    rw[d,Z6];have:=Yj (λc=>decide (c≠46)) (z.cps.toList.take i);rw[Ym]at this
    lia
   have Y:i<3000:=by
    have:z.length=z.cps.size:=rfl
    lia
   lk;simp only[pW];refine bG (λy=>?_) λy=>?_
   .refine CK.mk hi t (aE ⋯) %[%[_|rfl],ah.set r G,aa|?_];rw[<-jx z i c I,Y2,Zd,d];have:decide (c≠46)=true:=↑y
    rw[filter_cons,this];rfl
   .refine CN.mk hi %[%[_|rfl],r,t|?_];rw[<-jx z i c I,Y2,Zd,d];have:decide (c≠46)=false:=↑y
    rw[filter_cons,this];simp
  .intro ys v m %[_,r,t|d];have e:z.cps.toList.take z.cps.size=z.cps.toList:=by
    apply Zn;simp
   rw[e]at d;lk;have ab:=Yj (λc=>decide (c≠46)) z.cps.toList;have ac:z.cps.toList.length=z.length:=by simp[Str.length]
   refine%[(z.cps.toList.filter (λc=>decide (c≠46))).map sgn,?_,by rw[Z6];lia|λS hS=>%[_,aa,?_|λl ss p hp B=>?_]]
   .rw[Ys];have:(z.cps.toList.filter (λc=>decide (c≠46))).map (V.str ∘ sgn)=ys:=by rw[d];rfl
    rw[this];exact SqL.of t
   .have:=oP b
    lia
   .have q:ah H (upd m S (j8 w S (aO ((z.cps.toList.filter (λc=>decide (c≠46))).map sgn)))):=r.trans (ah.upd hS);exact k l _ ss (q.trans (ah.upd p)) (q.free p) aa hp B
def jy(T:Txt K mg):Cal P w K mg base 2 "rows_of" ["text"] pV:=by
 refine T.b1.cal ik (λH vs Q E h=>?_)
 .have%[rows,rfl,a|k]:=h;refine%[rfl|λf al A outer s L=>?_];have%[wd,w1,w2|hw]:=a.wide;have M:=a.text;have t:=a.split;refine%[_,%["JCNxn,.A0A?1BD/OCG1~x~y0AVBCT~WA1BbMK2MK3cCNdtLm2]DyxnF]EA3BD/ODNdwL_2E*xnF]FA3AU1I~S2EBD/OCNLmXYAF~zA1BBED/ODH1",ik.nd,(blE (v:= .ty "str") rfl T.ab boot_str rfl rfl rfl)|L]|?_]
  generalize Str.join nl rows=z at M t
  show bq _ _ _ [-z,none,none,none] H;refine ap λD1 k1 _=>?_
  lk;refine%[.type "str",.str z,true,by rfl|GC (k1 _ _ (ap λD2 k2 _=>?_))];lk;refine%[!1,Yh (by lia:z.length+2<=5000) (!1)|λl hl=>k2 _ _ ?_];rw[show(!"\n")=nl from rfl,t];refine ap λD3 k3 _=>aB λag hK=>?_
  lk;have N:ah H (upd H l (.lst (rows.map V.str))):=ah.upd hl;refine%[_,SqL.of aa|hK _ _ (kO (λi I g=>∃O U,I=[-z,!l,O,U]/\ah H g/\g l=some (.lst (rows.map V.str))) %[none,none,rfl,N|aa] (λi I g _ ⟨_,_,_,_,q⟩=>SqL.of q) ?_ ?_)]
  .intro i x TT I g u %[O,U,rfl,Y|j] hT;obtain⟨r,m,rfl⟩:∃r,rows[i]? =some r/\x=V.str r:=by
    rw[Zl]at u;cases e:rows[i]? with
    | none=>rw[e]at u;cases u
    | some r=>rw[e]at u;exact%[r,rfl|(Za u).symm]
   have ai:i<rows.length:=(Xn m).1;have aj:=a.high;have y:ah H (upd g TT (.tup [.int i,.str r])):=Y.trans (ah.upd hT);have o:upd g TT (.tup [.int i,.str r]) l=some (.lst (rows.map V.str)):=ah.upd hT _ _ j;have B:upd g TT (.tup [.int i,.str r]) TT=some (.tup [.int i,.str r]):=aa
   generalize upd g TT (.tup [.int i,.str r])=HT at y o B
   have C:r.length<=1000:=by
    have:r.length=wd:=hw r (Z8 m)
    lia
   refine%[_,SqT.of B,rfl,_,_,rfl,_,_,rfl,rfl|?_];show bq _ _ _ [-z,!l,some (.int i),-r] HT;refine ap λD4 k4 _=>?_
   have go:∀p,ah HT p->D4.nx [-z,!l,some (.int i),-r] p:=by
    intro p b;refine k4 _ _ (aI λD5 k5 _=>?_);have fin:∀J,ah HT J->D5.nx [-z,!l,some (.int i),-r] J:=λJ n=>k5 _ _ %[_,_,rfl,y.trans n|n l _ o]
    lk;refine bG (λG=>?_) λ_=>fin _ b
    have G:0<(i:Int):=Zo G;obtain⟨d,rfl⟩:∃d,i=d+1:=%[i-1|⋯]
    have ab:d<rows.length:=by lia
    have ac:rows[d]? =some rows[d]:=by simp
    have e1:(((d+1:Nat):Int) -1)=(d:Int):=by lia
    refine%[_,SqL.of (b l _ o),.str rows[d],e1▸cO ∅,r,rows[d],rfl,C,?_|λJ n=>%[_,rfl|?_]]
    .have:rows[d].length=wd:=hw _ (Ye ab)
     lia
    .rw[a.beneath ac m];exact GC (fin _ (b.trans n))
   lk;rw[if_neg ⋯];refine%[r,rfl,C|λp b=>%[_,rfl|?_]];rw[a.row (Z8 m)];exact GC (go p b)
  .intro I g %[O,U,rfl,Y|j];refine k3 _ _ ?_;lk;refine%[l,rows,rfl,SqL.of j,by have:=a.sum;lia,a.sign|λl2 p ss b an ae G aq=>%[_,.inl %[_,SqL.of ae|rfl]|?_]];rw[if_neg]
   .exact k l p (Y.trans b) hl (b l _ j)
   .intro h0;have h0:=Zo h0;rw[Z6]at h0;have:ss=[]:=length_eq_zero_iff.mp ⋯;rw[this]at G;have hm:=G.symm.eq_nil;have%[c|hc]:=List.exists_mem_of_ne_nil _ a.signs_ne;have:sgn c∈aO ((dg rows).map sgn):=bx.mpr (Xr %[c,hc|rfl]);rw[hm]at this;cases this
abbrev sK(p:Nat×Nat):Option ZB:=if p.1≠46/\p.1≠p.2 then some [sgn p.1,sgn p.2]else none
abbrev pY(u r:Str):List ZB:=(List.zip u.cps.toList r.cps.toList).filterMap sK
def jh(H:Hp):ba H []:=λp a=>by cases a
def aY(h:ba H ps)(s:∀b z,H b=some (.tup z)->c b=some (.tup z)):ba c ps:=λp a=>%[(h p a).1|s _ _ (h p a).2]
def jz(h:ba H ps)(a:q.2≠[])(b:H q.1=some (.tup (q.2.map V.str))):ba H (ps++[q]):=λp c=>by
 rcases Xo c with z|z
 .exact h p z
 .rw[Xp z];exact%[a|b]
def wb(a:ba H ps)(b:ba H qs):ba H (ps++qs):=λp c=>(Xo c).elim (a p) (b p)
inductive FH
 | mk (u r:Str):vs=[.str u,.str r]->u.length<=40->r.length=u.length->(∀l H' ps,ah H H'->H l=none->H' l=some (.lst (ps.map λp=>V.ref p.1))->ba H' ps->ps.map (·.2)=pY u r->Q (.ref l) H')->FH vs H Q E0
inductive yH
 | mk (rows:ZB):vs=[.str (Str.join nl rows)]->bJ rows->(∀l H' ss,ah H H'->H l=none->H' l=some (.lst (ss.map V.str))->ss.Perm (aO ((dg rows).map sgn))->PyProof.Rows.sortedS ss=true->Q (.ref l) H')->yH vs H Q E0
def AK(T:Txt K mg):Cal P w K mg base 3 "letters" ["text"] yH:=by
 refine T.b5.cal xJ (λH vs Q E h=>?_)
 .have%[rows,rfl,a|e]:=h;refine%[rfl|λf d A outer s b=>?_];refine%[_,%["JDHF~zAF~iA0BB",0|b],rows,rfl,a|λl r c t g=>%[l,rows,rfl,SqL.of g,by have:=a.sum;lia,a.sign|λi j ss m n o p q=>e i j ss (c.trans m) (c.free n) o p q]]
def kh(T:Txt K mg):Cal P w K mg base 1 "meetings_between" ["above","row"] FH:=by
 refine T.b7.cal jG (λH vs Q E h=>?_)
 .have%[u,r,rfl,hu,ae|kk]:=h;refine%[rfl|λf ac A outer s hr=>?_];have ag:u.length=u.cps.size:=rfl;have ai:r.length=r.cps.size:=rfl;refine%[_,%["JDHja?1~wA0A1BbMS0?2MS1?2c<dwLq0~H*Lq01gA0A1B",0,(show bF _ _ _ ["high","low"] []=true from rfl)|(show(["high","low"]:ZB).Nodup from !0)]|?_];show jX _ _ [-u,-r] H;lk;refine aF λab hK=>?_
  lk;refine hK _ _ λD N=>?_
  refine bh (J:=Itz u r) (n:=u.cps.size) (D:=D) (λi ys O l=>(∃o1 o2,O=[o1,o2])/\ah H l/\l D=some (.lst ys)/\ys.length<=i/\∃ps:ZG,ys=ps.map (λp=>V.ref p.1)/\ba l ps/\ps.map (·.2)=((List.zip u.cps.toList r.cps.toList).take i).filterMap sK)
   %[%[none,none|rfl],ah.upd N,aa,Zi _,[],rfl,jh _|rfl] (λi _ _ _ hi _=>%[hi|⋯]) (λ_ _ _ _=>%[Zi _,⋯|.inl rfl]) ?_ ?_
  .intro i ys O l hi %[%[o1,o2|rfl],U,Y,G,ps,I,m|j] x H2 %[c,d,TT,hc,hd,hT,rfl|rfl];have t:=ah.upd (o:= .tup [.str ⟨([c].toArray)⟩,.str ⟨([d].toArray)⟩]) hT;have nx:=wa u r i c d hc hd;have a:=t _ _ Y;have B:upd l TT (.tup [.str ⟨([c].toArray)⟩,.str ⟨([d].toArray)⟩]) TT=some (.tup [.str ⟨([c].toArray)⟩,.str ⟨([d].toArray)⟩]):=aa;have g:ba (upd l TT (.tup [.str ⟨([c].toArray)⟩,.str ⟨([d].toArray)⟩])) ps:=λp C=>%[(m p C).1|t _ _ (m p C).2]
   have v:=U.trans t
   generalize upd l TT (.tup [.str ⟨([c].toArray)⟩,.str ⟨([d].toArray)⟩])=HT at t a B g v
   refine%[_,SqT.of B,rfl,_,_,rfl,_,_,rfl,rfl|?_];show DE _ _ [some (.str ⟨([c].toArray)⟩),some (.str ⟨([d].toArray)⟩)] HT _;lk;simp only[pW,C4];have aj:D≠TT:=λe=>by rw[e,B]at a;cases a
   refine bG (λL=>bG (λM=>?_) λM=>?_) λL=>?_
   .have L:c≠46:=↑L
    have M:c≠d:=↑M
    refine%[show 2<=sizeLine from !1|λp C=>?_];have y:=ah.upd (o:= .tup [V.str ⟨([c].toArray)⟩,V.str ⟨([d].toArray)⟩]) C;have al:p≠D:=λe=>by rw[e,a]at C;cases C
    refine CK.mk hi (y _ _ a) (aE ⋯) %[%[_,_|rfl],ah.set (v.trans y) N,aa,by rw[Z9,Yl];lia,ps++[(p,[sgn c,sgn d])],by rw[I,Zd];rfl,?_|?_]
    .have keep:∀b z,upd HT p _ b=some (.tup z)->upd _ D (.lst (ys++[V.ref p])) b=some (.tup z):=λb z e=>by
      have:b≠D:=λe2=>by rw[e2,y _ _ a]at e;cases e
      rw[am this];exact e
     exact aY (jz (aY g λb z e=>y _ _ e) ∅ (by rw[aa];rfl)) keep
    .rw[Zd,j,<-nx,List.filterMap_append];have:sK (c,d)=some [sgn c,sgn d]:=if_pos %[L|M];rw[Y1,this];rfl
   .refine CN.mk hi %[%[_,_|rfl],v,a,⋯,ps,I,g|?_];rw[j,<-nx,List.filterMap_append];have:sK (c,d)=none:=if_neg λq=>q.2 ↑M
    rw[Y1,this];simp
   .refine CN.mk hi %[%[_,_|rfl],v,a,⋯,ps,I,g|?_];rw[j,<-nx,List.filterMap_append];have:sK (c,d)=none:=if_neg λq=>q.1 ↑L
    rw[Y1,this];simp
  .intro ys O l %[_,U,Y,G,ps,I,m|j];rw[Zn (by rw[length_zip];simp;lia)]at j;exact kk D l ps U N (by rw[Y,I]) m j
def C6{K:ZA}{xs ys:ZM}{g:TG}{o:TS}{D:kq}(Pv:Nat->St->Hp->Prop)(r:Pv 0 c H)(s:ys.length<=xs.length)(t:∀i c H,i<=ys.length->Pv i c H->SqL K H a xs/\SqL K H b ys)
 (u:∀i x y T c H,xs[i]? =some x->ys[i]? =some y->Pv i c H->H T=none->g (.ref T) c (upd H T (.tup [x,y])) λd j=>o {D with nx:=Pv (i+1),ct:=Pv (i+1),bk:=D.nx} d j) (z:∀c H,Pv ys.length c H->D.nx c H):
 ∃W:Nat->Nat->St->Hp->Prop,(∃m,W 0 m c H)/\∀i m c H,W i m c H->
  ((Ak K a b).stop i H/\D.nx c H)\/((Ak K a b).go i H/\∃N:St->Hp->Prop,(∀f h,N f h->∃q,q<m/\W (i+1) q f h)/\∀x h,(Ak K a b).yld i H x h->g x c h λd j=>o {D with nx:=N,ct:=N,bk:=D.nx} d j):=by
 refine%[λi m c H=>m=ys.length-i/\i<=ys.length/\Pv i c H,%[ys.length,by simp,Xf _|r]|?_];intro i m c H %[rfl,hi|p];have%[q1|l]:=t i c H hi p;by_cases n:i<ys.length
 .have A:xs[i]? =some xs[i]:=by simp[show i<xs.length by lia]
  have B:ys[i]? =some ys[i]:=by simp
  refine .inr %[%[xs,ys,_,_,q1,l,A|B],Pv _,λf h C=>%[ys.length-(i+1),⋯,rfl,n|C]|λv h y=>?_];have%[T,E,G,I,rfl,rfl,J|L]:=y;exact u i E G T c H (J xs q1) (L ys l) p I
 .have e:i=ys.length:=by lia
  subst e;exact .inl %[%[xs,ys,q1,l,⋯,Zi _|.inr rfl]|z c H p]
abbrev eP(rows:ZB)(i:Nat):List ZB:=(List.range i).flatMap λj=>pY (rows.getD j ⟨([].toArray)⟩) (rows.getD (j+1) ⟨([].toArray)⟩)
def uB(rows:ZB)(i:Nat):eP rows (i+1)=eP rows i++pY (rows.getD i ⟨([].toArray)⟩) (rows.getD (i+1) ⟨([].toArray)⟩):=by
 unfold eP;rw[range_succ,Y7];simp
def xM(u r:Str):(pY u r).length<=u.length:=by
 refine Yh (List.length_filterMap_le _ _) ?_;rw[length_zip];have:u.cps.toList.length=u.length:=by simp[Str.length]
 lia
def sL(h:k∈eP rows (rows.length-1)):∃a b,k=[sgn a,sgn b]/\qN rows a b:=by
 have%[j,d|g]:=mem_flatMap.mp h;have f:∀j h,rows.getD j ⟨([].toArray)⟩=rows[j]:=λj h=>by simp[h]
 have d:=mem_range.mp d;have%[%[a|b],i|e]:=mem_filterMap.mp g;unfold sK at e
 split at e
 .rename_i h
  have%[q|c]:=Xg i;rw[List.getElem?_zip_eq_some,f j ⋯,f _ ⋯]at c;exact%[a,b,(Za e).symm,h.1,h.2,j,q,rows[j],rows[j+1],Z4 _,Z4 _,by simpa using c.1|by simpa using c.2]
 .lia
def AL(g:bJ rows)(h:qN rows a b):Let rows a/\Let rows b:=by
 have%[n1,l,i,j,r,c,d,f,g1|g2]:=h;refine%[%[n1,r,Z8 d|Z8 ↑g1],λe=>n1 (g.fall i r c d f j a b g1 g2 e),c,Z8 f|Z8 ↑g2]
def AM(rows:ZB)(h:rows≠[]):tE (rows.map V.str) (some 1) none=(rows.drop 1).map V.str:=by
 unfold tE;rw[HT.sIx_none,show(some (1))=some ((1:Nat):Int)from rfl,HT.sIx_nat,Z6,X1 (length_pos_iff.mpr h),<-map_drop,<-map_take];rw[Zn (Yi▸Zi _)]
inductive yI
 | mk (rows:ZB):vs=[.str (Str.join nl rows)]->bJ rows->CW rows->(∀l H' ss,ah H H'->H l=none->H' l=some (.lst (ss.map λp=>V.ref p.1))->ba H' ss->ss.length<=26->(∀t∈ss,∃a b,t.2=[sgn a,sgn b]/\Let rows a/\Let rows b)->(∀k,k∈ss.map (·.2)↔k∈eP rows (rows.length-1))->Q (.ref l) H')->yI vs H Q E0
def xN(T:Txt K mg):Cal P w K mg base 3 "meetings" ["text"] yI:=by
 refine T.b6.cal eD (λH vs Q E h=>?_)
 .have%[rows,rfl,c,%[mm,ml|a3]|kk]:=h;refine%[rfl|λf bn A outer s hr=>?_];have%[wd,w1,w2|Y]:=c.wide;have hp:1<=rows.length:=c.pos;have bf:=c.high;have a4:rows≠[]:=length_pos_iff.mp hp;refine%[_,%["JCG1F~iA0BCG2RBCT]GA1A~T1;E~XBbMK3MK4cDZ~!~$2AF]HA3A4BBDH~B~%A~I~&A2BB",eD.nd|hr]|?_]
  show bq _ _ _ [some (.str (Str.join nl rows)),none,none,none,none] H;refine ap λD1 k1 r1=>?_
  lk;refine%[rows,rfl,c|λR H1 s1 f1 hR=>k1 _ _ (ap λD2 k2 r2=>?_)];lk;refine%[Xf _|λL hL=>k2 _ _ (ap λD3 k3 r3=>aB λbl hK=>?_)];have s2:=ah.upd (o:= .lst []) hL;have C:=s2 _ _ hR;have G:upd H1 L (.lst []) L=some (.lst []):=aa;have fL:H L=none:=s1.free hL;have ab:=s1.trans s2
  generalize upd H1 L (.lst [])=H2 at s2 C G ab
  lk;refine%[_,SqL.of C|λp hp=>?_];rw[AM rows a4];have s3:=ah.upd (o:= .lst ((rows.drop 1).map V.str)) hp;have I:=s3 _ _ C;have ac:=s3 _ _ G;have J:upd H2 p (.lst ((rows.drop 1).map V.str)) p=some (.lst ((rows.drop 1).map V.str)):=aa;have ae:=ab.trans s3;have a5:L≠R:=λe=>by rw[e,hR]at hL;cases hL
  have a6:p≠L:=λe=>by rw[e,G]at hp;cases hp
  generalize upd H2 p (.lst ((rows.drop 1).map V.str))=H3 at s3 I ac J ae
  refine%[%[_|SqL.of I],%[_|SqL.of J]|hK _ _ (C6 (xs:=rows.map V.str) (ys:=(rows.drop 1).map V.str) (λi σ l=>(∃o3 o4,σ=[some (.str (Str.join nl rows)),!R,!L,o3,o4])/\ah H l/\l R=some (.lst (rows.map V.str))/\l p=some (.lst ((rows.drop 1).map V.str))/\
   ∃ps:ZG,l L=some (.lst (ps.map λq=>V.ref q.1))/\ba l ps/\ps.map (·.2)=eP rows i/\ps.length<=40*i) %[%[none,none|rfl],ae,I,J,[],ac,jh _,rfl|Xf _] (by rw[Z6,Z6,Yi];lia) (λi σ l _ q=>%[SqL.of q.2.2.1|SqL.of q.2.2.2.1]) ?_ ?_)]
  .intro i x y TT σ l hx hy %[%[o3,o4|rfl],sm,ag,ai,ps,M,g,n|aj] hT;rw[Zl]at hx hy;have%[u,hu|rfl]:=map_eq_some_iff.mp hx;have%[r,v|rfl]:=map_eq_some_iff.mp hy;rw[Yb,Nat.add_comm]at v;have bp:i+1<rows.length:=(Xn v).1;have ul:u.length=wd:=Y u (Z8 hu);have rl:r.length=wd:=Y r (Z8 v);have j:=ah.upd (o:= .tup [V.str u,V.str r]) hT;have al:upd l TT (.tup [V.str u,V.str r]) TT=some (.tup [V.str u,V.str r]):=aa;have an:=j _ _ ag;have aq:=j _ _ ai;have t:=j _ _ M;have B:ba (upd l TT (.tup [V.str u,V.str r])) ps:=aY g λb z e=>j _ _ e
   have as:=sm.trans j
   generalize upd l TT (.tup [V.str u,V.str r])=HT at j al an aq t B as
   refine%[_,SqT.of al,rfl,_,_,rfl,_,_,rfl,rfl|?_];refine aI λD4 k4 r4=>?_
   lk;refine%[.inl %[_|SqL.of t],u,r,rfl,⋯,⋯|λl4 H4 ps4 U f4 h4 a0 e4=>?_];have bt:l4≠L:=λe=>by rw[e,t]at f4;cases f4
   have bm:ps4.length<=40:=by
    have:(ps4.map (·.2)).length=(pY u r).length:=by rw[e4]
    rw[Z6]at this;have:=xM u r
    lia
   refine%[_,rfl,_,U _ _ t,_,h4,by rw[Z6,Z6];exact aM ⋯|k4 _ _ ?_];have N:∀b z,H4 b=some (.tup z)->upd H4 L (.lst ((ps.map λq=>V.ref q.1) ++ps4.map λq=>V.ref q.1)) b=some (.tup z):=λb z e=>by
    have:b≠L:=λe2=>by rw[e2,U _ _ t]at e;cases e
    rw[am this];exact e
   have a7:R≠L:=Ne.symm a5;refine%[%[_,_|rfl],λb u' e=>?_,(am a7)▸U _ _ an,(am a6)▸U _ _ aq,ps++ps4,by rw[aa,Zd],aY (wb (aY B λb z e=>U _ _ e) a0) N,?_|by rw[Z9];lia]
   .rw[am (ay e fL)];exact U _ _ (as _ _ e)
   .rw[Zd,n,e4,uB];have g1:rows.getD i ⟨([].toArray)⟩=u:=by rw[Zc,hu];rfl
    have g2:rows.getD (i+1) ⟨([].toArray)⟩=r:=by rw[Zc,v];rfl
    rw[g1,g2]
  .intro σ l %[%[o3,o4|rfl],sm,ag,ai,ps,M,g,n|aj];rw[Z6,Yi]at n;refine k3 _ _ ?_;lk;have O:∀q∈ps,∃a b,q.2=[sgn a,sgn b]/\qN rows a b:=λq d=>sL (n▸Xr %[q,d|rfl])
   have a1:∀q∈ps,q.2∈mm:=λq d=>by
    have%[a,b,e|h]:=O q d;rw[e];exact a3 a b h
   refine%[ps,SqL.of M,g,%[mm,⋯|a1]|λl5 bb=>?_];have s5:=ah.upd (o:=pA P w l5 (be ps)) bb;have bc:(be ps).length<=26:=by
    have:=STab.nodup_sub (d9 ps) (m:=mm) λk hk=>by
     have%[q,d|rfl]:=Xq hk;exact a1 q (bv ps q d)
    rw[Z6]at this
    lia
   refine%[be ps,aa,λq d=>%[(g q (bv ps q d)).1|s5 _ _ (g q (bv ps q d)).2],2,λq d=>?_,!1,⋯|λl6 ss a2 pm so=>?_]
   .have%[a,b,e|_]:=O q (bv ps q d);rw[e];rfl
   have s6:=ah.upd (o:= .lst (ss.map λq=>V.ref q.1)) a2;refine kk l6 _ ss ((sm.trans s5).trans s6) ((sm.trans s5).free a2) aa (λq d=>?_) (pm.length_eq▸bc) (λq d=>?_) λk=>?_
   .have:=g q (bv ps q (pm.mem_iff.mp d));exact%[this.1|s6 _ _ (s5 _ _ this.2)]
   .have%[a,b,e|h]:=O q (bv ps q (pm.mem_iff.mp d));exact%[a,b,e|AL c h]
   .rw[(pm.map _).mem_iff,ic,n]
abbrev eK(z:Str):Bool:=(decide (1<=(z.length:Int))&&decide ((z.length:Int)<=8))&&z.cps.toList.all iX
inductive pZ
 | mk (z:Str):vs=[.str z]->eK z=true->(∀H',ah H H'->Q (.bl true) H')->pZ vs H Q E0
inductive wc (K:ZA)
 | mk (z:Str) (p:Addr) (ts:ZB):vs=[.str z,.ref p]->(SqL K H p (ts.map V.str)\/SqT K H p (ts.map V.str))->Q (.bl (decide (z∈ts))) H->wc K vs H Q E0
inductive p7
 | mk (i:Int):vs=[.int i]-> -9999<=i->i<=9999->Q (.bl true) H->p7 vs H Q E0
abbrev lK(c:ZB)(vs:ZM):Prop:=
 (∃w a b:Str,vs=[.str w,.str a,.str b]/\(w="later"\/w="same")/\a∈c/\b∈c/\a≠b)\/
 ∃w a y,vs=[.str w,.str a,.int y]/\(w="since"\/w="by")/\a∈c/\ -9999<=y/\y<=9999
inductive lL (K:ZA)
 | mk (t p xs ls):vs=[.ref t,.ref p]->H t=some (.tup xs)->SqL K H p (ls.map V.str)->lK ls xs->Q (.bl true) H->lL K vs H Q E0
abbrev lnS(n z:Str):Str:=Str.empty++n++Str.ofString "."++z
inductive jU
 | mk (n z:Str):vs=[.str n,.str z]->n.length<=100->z.length<=100->Q (.str (lnS n z)) H->jU vs H Q E0
def yJ(z:Str)(ts:ZB):inV (V.str z) (ts.map V.str)=decide (z∈ts):=by
 unfold inV
 induction ts with
 | nil=>rfl
 | cons c r a=>
   show((c==z)||_)=_
   grind
def sM(ts:ZB):(ts.map V.str).all gi=true:=by simp[gi]
def AN(T:Txt K mg):Cal P w K mg base 1 "is_name" ["thing"] pZ:=by
 refine T.b0.cal xI (λH vs Q E h=>?_)
 .have%[z,rfl,y|k]:=h;refine%[rfl|λf u A outer s M=>?_];refine%[_,%["JCNxn,.A0A?1BDH&ODH'~e~A~AEXYA0B]I+~f~gAja?2P0S0?3ps^0~vB",0,(blE (v:= .ty "str") rfl T.ab boot_str rfl rfl rfl),(show bF _ _ _ ["sign"] []=true from rfl)|(show(["sign"]:ZB).Nodup from !0)]|?_]
  show bq _ _ _ [-z] H;have a:=y;unfold eK at a;rw[Zx,Zx]at a;have%[%[B|q]|b]:=a;have N:z.length<=8:=by have:=Zo q;lia
  lk;refine%[.type "str",.str z,true,by rfl|?_];lk;refine%[aM ⋯|?_];rw[if_pos B,if_pos q];refine aF λr C=>?_
  lk;refine C _ _ λD t=>?_
  refine bh (J:=Its z) (n:=z.cps.size) (D:=D) (λi ys l d=>(∃o,l=[o])/\ah H d/\d D=some (.lst ys)/\ys=(z.cps.toList.take i).map (λc=>V.bl (iX c))) %[%[none|rfl],ah.upd t,aa|rfl]
   (λi _ _ _ hi _=>hi) (λ_ _ _ _=>Zi _) ?_ ?_
  .intro i ys l d hi %[%[o|rfl],m,p|g] x O %[G,c,I|rfl];subst G;lk;have j:ys.length=i:=by
    rw[g,Z6,Ym];have:z.cps.toList.length=z.cps.size:=by simp
    lia
   have L:i<1000:=by
    have:z.length=z.cps.size:=rfl
    lia
   refine CK.mk hi p (j▸aE ⋯) %[%[_|rfl],ah.set m t,aa|?_];rw[BN,g,<-jx z i c I,Zd]
   all_goals rfl
  .intro ys l d %[_,m,p|g];refine%[D,rfl,(z.cps.toList.map iX),?_|?_]
   .have e:z.cps.toList.take z.cps.size=z.cps.toList:=by
     apply Zn;simp
    rw[e]at g;have:(z.cps.toList.map iX).map V.bl=ys:=by rw[g,Ys];rfl
    rw[this];exact SqL.of p
   .have e:(z.cps.toList.map iX).all id=true:=by
     rw[all_map];exact b
    rw[e];exact k d m
def cC(T:Txt K mg):Cal P w K mg base 1 "is_text_among" ["thing","texts"] (wc K):=by
 refine T.be.cal mE (λH vs Q E h=>?_)
 .have%[z,p,ts,rfl,b|k]:=h;refine%[rfl|λf a A outer s c=>?_];refine%[_,%["JDH',.A0A?1B+s^01",0|(blE (v:= .ty "str") rfl T.ab boot_str rfl rfl rfl)]|?_];show jX _ _ [some _,some _] H;lk;refine%[.type _,.str z,true,by rfl|?_];rw[<-yJ]at k;exact%[_,b,rfl,sM ts|k]
def AO(T:Txt K mg):Cal P w K mg base 1 "is_year" ["thing"] p7:=by
 refine T.bf.cal xK (λH vs Q E h=>?_)
 .have%[i,rfl,b,c|k]:=h;refine%[rfl|λf a A outer s d=>?_];refine%[_,%["JCNdtxn,.A0A?1Byn,.A0A?2BDH&ODH~e~A~A]J0]K",0,(blE (v:= .ty "int") rfl T.ah boot_int rfl rfl rfl)|(blE (v:= .ty "bool") rfl T.ai PyProof.Rows.boot_bool rfl rfl rfl)]|?_]
  show bq _ _ _ [some (.int i)] H;lk;refine%[.type _,.int i,true,by rfl,.type _,.int i,false,by rfl|?_];rw[if_pos (Zf b),Zf c];exact k
def im(T:Txt K mg):Cal P w K mg base 1 "layer_name" ["name","letter"] jU:=by
 refine T.bg.cal qQ (λH vs Q E h=>?_)
 .have%[n,z,rfl,j,l|k]:=h;refine%[rfl|λf c A outer s i=>?_];refine%[_,%["JDH~'~J~j0~JV~J~j1~("|0]|?_];show jX _ _ [-n,some _] H;lk;have e:∀a b:Str,(a++b).length=a.length+b.length:=λa b=>size_append
  have d:Str.empty.length=0:=rfl;have g:(!".").length=1:=rfl;have le:∀k,k<=1000->k<=sizeLine:=λk m=>aM ⋯
  refine%[le _ ⋯,le _ ?_,le _ ?_,le _ ⋯,le _ ?_,le _ ?_|k]<;> simp only[e,d,g]<;> lia
def we(T:Txt K mg):Cal P w K mg base 2 "is_saying" ["thing","layers"] (lL K):=by
 refine T.bd.cal uy (λH vs Q E h=>?_)
 .have%[t,p,xs,e,rfl,m,g,ok|k]:=h;refine%[rfl|λf n A outer s c=>?_];refine%[_,%["JCNdtxn,.A0A?1ByLqXYA0BEDH&OCNnF~KAQ0EA]LBDH'F~KAQ0EA1B'F~KAQ0EA1B+sqQ0EQ0EOCNnF~KAQ0EA]MBDH'F~KAQ0EA1B+F]NAQ0EBODH&",0,(blE (v:= .ty "tuple") rfl T.ag boot_tuple rfl rfl rfl)|c]|?_]
  show bq _ _ _ [!t,!p] H;lk;refine%[.type "tuple",.tup m,true,by rfl|?_];have st:=SqT.of (K:=K) m;rcases ok with⟨wd,a,b,rfl,hw,i,o,j⟩|⟨wd,a,y,rfl,hw,i,r,y2⟩
  .have l:decide (wd∈([!"later",!"same"]:ZB))=true:=by rcases hw with rfl|rfl<;> decide
   lk;refine%[3,.inr %[_,st|rfl]|?_];rw[if_neg (!1)];refine%[_,st,_,rfl|λq d=>%[wd,q,[!"later",!"same"],rfl,.inr (d H),_,rfl|?_]];rw[l];lk;refine%[_,st,_,rfl,a,p,e,rfl,.inl g,_,rfl|?_];rw[Zf i];lk;refine%[_,st,_,rfl,b,p,e,rfl,.inl g,_,rfl|?_];rw[Zf o];lk;refine%[_,st,_,rfl,_,st,_,rfl,rfl|?_];rw[show(!decide (V.str a=V.str b))=true from by simp[j]];exact k
  .have l:decide (wd∈([!"later",!"same"]:ZB))=false:=by rcases hw with rfl|rfl<;> decide
   have u:decide (wd∈([!"since",!"by"]:ZB))=true:=by rcases hw with rfl|rfl<;> decide
   lk;refine%[3,.inr %[_,st|rfl]|?_];rw[if_neg (!1)];refine%[_,st,_,rfl|λq d=>%[wd,q,[!"later",!"same"],rfl,.inr (d H),_,rfl|?_]];rw[l];lk;refine%[_,st,_,rfl|λq d=>%[wd,q,[!"since",!"by"],rfl,.inr (d H),_,rfl|?_]];rw[u];lk;refine%[_,st,_,rfl,a,p,e,rfl,.inl g,_,rfl|?_];rw[Zf i];lk;exact%[_,st,_,rfl,y,rfl,r,y2|k]
abbrev cj(H:Hp)(a:ZH):Prop:=∀p∈a,H p.1=some (.tup [.str p.2.1,.str (Str.join nl p.2.2)])/\eK p.2.1=true/\bJ p.2.2
def cj.up(h:cj H b)(s:ah H c):cj c b:=λp a=>%[s _ _ (h p a).1|(h p a).2]
inductive sN
 | mk (rows:ZB):vs=[.str (Str.join nl rows)]->bJ rows->(∀H',ah H H'->Q (.bl true) H')->sN vs H Q E0
inductive wg
 | mk (p:Addr×Str×ZB):vs=[.ref p.1]->cj H [p]->(∀H',ah H H'->Q (.bl true) H')->wg vs H Q E0
abbrev bu(a:ZH):ZM:=a.map λp=>V.ref p.1
inductive jV
 | mk (l cs):vs=[.ref l]->H l=some (.lst (bu cs))->cj H cs->(cs.map λp=>p.2.1).Nodup->1<=cs.length->cs.length<=8->(∀H',ah H H'->Q .non H')->jV vs H Q E0
abbrev cv(H:Hp)(a:ZB)(qs:ZN):Prop:=∀q∈qs,H q.1=some (.tup q.2)/\lK a q.2
def cv.up(h:cv H b qs)(s:ah H c):cv c b qs:=λp a=>%[s _ _ (h p a).1|(h p a).2]
inductive gP (K:ZA)
 | mk (l r ls qs):vs=[.ref l,.ref r]->H l=some (.lst (qs.map λq=>V.ref q.1))->H r=some (.lst (ls.map V.str))->cv H ls qs->qs.length<=60->(∀H',ah H H'->Q .non H')->gP K vs H Q E0
def C7(T:Txt K mg):Cal P w K mg base 3 "is_cut" ["thing"] sN:=by
 refine T.bb.cal AE (λH vs Q E h=>?_)
 .have%[rows,rfl,a|k]:=h;refine%[rfl|λf b A outer s c=>?_];refine%[_,(QSs.h (ak (tryN (λ_ _ h=>h) (av (bY rfl (aD (jy T) c rfl #[(af 0 rfl)]))))
   (av (aR eBl))))|?_]
  show bq _ _ _ [some (.str (Str.join nl rows))] H;lk;exact%[rows,rfl,a|λl d e g i=>k d e]
def qb(T:Txt K mg):Cal P w K mg base 4 "is_named_cut" ["thing"] wg:=by
 refine T.ba.cal nN (λH vs Q E h=>?_)
 .have%[p,rfl,g|k]:=h;refine%[rfl|λf e A outer s c=>?_];have%[b,i|a]:=g p (mem_singleton.mpr rfl);refine%[_,%["JDH',.A0A?1B'smXYA0BE'F]OAQ0EB+F]PAQ0EB",0,(blE (v:= .ty "tuple") rfl T.ag boot_tuple rfl rfl rfl)|c]|?_];show jX _ _ [some _] H;lk;refine%[.type _,.tup b,true,by rfl|?_];have st:=SqT.of (K:=K) b;refine%[2,.inr %[_,st|rfl],_,st,_,rfl,p.2.1,rfl,i|λm d=>?_];lk;exact%[_,SqT.of (d _ _ b),_,rfl,p.2.2,rfl,a|λj l=>k j (d.trans l)]
def uC(T:Txt K mg):Cal P w K mg base 5 "check_cuts" ["cuts"] jV:=by
 refine T.b9.cal ee (λH vs Q E h=>?_)
 .have%[l,c,rfl,C,L,M,h1,h8|k]:=h;refine%[rfl|λf ai A outer s J=>?_];have u:(bu c).length=c.length:=Z6 _;refine%[_,%["JCNdtxn,.A0A?1ByLmXYA0BED/OCG1zDT~WA0BbMK2MK3cCNdtLm2]QtxnF]RA3By~kQ3E1D/ODu&1Q3E",ee.nd,(blE (v:= .ty "list") rfl T.a5 boot_list rfl rfl rfl)|J]|?_]
  show bq _ _ _ [!l,none,none,none] H;refine ap λD1 k1 _=>?_
  lk;refine%[.type "list",.lst C,true,by rfl|?_];lk;refine%[c.length,.inl %[_,SqL.of C|u.symm]|?_];rw[if_neg (by simp only[decide_eq_true_eq];lia)];refine k1 _ _ (ap λD2 k2 _=>?_);lk;refine λd N=>k2 _ _ (aI λD3 k3 _=>aB λag hK=>?_)
  lk;refine%[_,SqL.of (ah.upd N _ _ C)|hK _ _ (kO (λi G g=>∃O U a,G=[!l,!d,O,U]/\ah H g/\g d=some (.dK a)/\a.map (·.1)=(c.take i).map λp=>Sum.inr p.2.1) %[none,none,[],rfl,ah.upd N,aa|rfl] (λi G g _ ⟨_,_,_,_,q,_⟩=>SqL.of (q _ _ C)) ?_ ?_)]
  .intro i x TT G g I %[O,U,a,rfl,Y,y|m] hT;have hi:i<c.length:=u▸(Xn I).1;obtain⟨q,hq,rfl⟩:∃q,c[i]? =some q/\x=V.ref q.1:=by
    unfold bu at I;rw[Zl,Z4 hi]at I;exact%[c[i],Z4 hi|(Za I).symm]
   have b:ah H (upd g TT (.tup [.int i,.ref q.1])):=Y.trans (ah.upd hT);have z:upd g TT (.tup [.int i,.ref q.1]) TT=some (.tup [.int i,.ref q.1]):=aa;have t:=ah.upd (o:= .tup [.int i,.ref q.1]) hT _ _ y
   generalize upd g TT (.tup [.int i,.ref q.1])=HT at b t z
   have n:=L q (Z8 hq);refine%[_,SqT.of z,rfl,_,_,rfl,_,_,rfl,rfl|?_];show bq _ _ _ [!l,!d,some (.int i),some (.ref q.1)] HT;refine ap λD4 k4 _=>?_
   lk;rw[if_neg (by simp only[decide_eq_true_eq];lia)];refine%[q,rfl,λp hp=>(Xp hp)▸%[b _ _ n.1|n.2]|λH2 B=>%[true,rfl|?_]];rw[if_neg ∅];have r:(Sum.inr q.2.1:Key)∉a.map (·.1):=by
    rw[m];intro hm;have%[q',ab|e]:=Xq hm;have e:q'.2.1=q.2.1:=Sum.inr.inj e;have%[j|hj]:=Xg ab;have ac:j<i:=by
     have:=(Xn hj).1;rw[Ym]at this
     lia
    rw[Yd ac]at hj;have n1:(c.map λp=>p.2.1)[j]? =some q.2.1:=by rw[Zl,hj,<-e];rfl
    have:=ei M n1 (by rw[Zl,hq];rfl)
    lia
   refine%[_,SqT.of (B _ _ (b _ _ n.1)),_,rfl,_,cP.k (k:=Sum.inr q.2.1) (B _ _ t)|?_];have hv:bH a (Sum.inr q.2.1:Key)=none:=by
    cases e:bH a (Sum.inr q.2.1:Key)with
    | none=>rfl
    | some v=>exact absurd (En e) r
   rw[hv,if_neg ∅];refine k4 _ _ (aI λD5 k5 _=>?_);lk;have ae:a.length=i:=by
    have:=congrArg List.length m;rw[Z6,Z6,Ym]at this
    lia
   refine%[_,SqT.of (B _ _ (b _ _ n.1)),_,rfl,_,jD.k (k:=Sum.inr q.2.1) (B _ _ t) (ae▸aE ⋯)|k5 _ _ %[_,_,_,rfl,ah.set (b.trans B) N,aa|?_]];rw[Am,if_neg r,m,Xb,Zd,hq];rfl
  .intro G g %[O,U,a,rfl,Y,y|m];exact k3 _ _ (k g Y)
def nP(T:Txt K mg):Cal P w K mg base 3 "check_sayings" ["sayings","layers"] (gP K):=by
 refine T.bc.cal dW (λH vs Q E h=>?_)
 .have%[l,r,u,qs,rfl,g,j,m,C|k]:=h;refine%[rfl|λf z A outer s B=>?_];refine%[_,%["JCNxn,.A0A?1BD/ODT~WA0BbMK2MK3cDNdtLm2]SyxnF]TA3A1BD/O",dW.nd,(blE (v:= .ty "list") rfl T.a5 boot_list rfl rfl rfl)|B]|?_]
  show bq _ _ _ [!l,!r,none,none] H;refine ap λN k1 _=>?_
  lk;refine%[.type "list",.lst g,true,by rfl|?_];lk;refine k1 _ _ (aI λO G _=>aB λy I=>?_);lk;refine%[_,SqL.of g|I _ _ (kO (λi e b=>∃n o,e=[!l,!r,n,o]/\ah H b) %[none,none,rfl|ah.refl H] (λi e b _ ⟨_,_,_,q⟩=>SqL.of (q _ _ g)) ?_ ?_)]
  .intro i x TT e b p %[n,o,rfl|t] J;have hi:i<qs.length:=(Z6 _)▸(Xn p).1;obtain⟨q,L,rfl⟩:∃q,qs[i]? =some q/\x=V.ref q.1:=by
    rw[Zl,Z4 hi]at p;exact%[qs[i],Z4 hi|(Za p).symm]
   have a:ah H (upd b TT (.tup [.int i,.ref q.1])):=t.trans (ah.upd J);have c:upd b TT (.tup [.int i,.ref q.1]) TT=some (.tup [.int i,.ref q.1]):=aa
   generalize upd b TT (.tup [.int i,.ref q.1])=HT at a c
   have d:=m q (Z8 L);refine%[_,SqT.of c,rfl,_,_,rfl,_,_,rfl,rfl|?_];show nE _ _ _ _ [!l,!r,some (.int i),some (.ref q.1)] HT;refine aI λU M _=>?_
   lk;rw[if_neg ⋯];refine%[q.1,r,q.2,u,rfl,a _ _ d.1,SqL.of (a _ _ j),d.2,true,rfl|?_];rw[if_neg ∅];exact M _ _ %[_,_,rfl|a]
  .intro e b %[n,o,rfl|t];exact G _ _ (k b t)
abbrev lyr(p:Addr×Str×ZB):ZB:=(aO ((dg p.2.2).map sgn)).map (lnS p.2.1)
inductive lM
 | mk (l cs):vs=[.ref l]->H l=some (.lst (bu cs))->cj H cs->cs.length<=6->(cs.flatMap lyr).length<=80->(∀r H' (ls:ZB),ah H H'->H r=none->H' r=some (.lst (ls.map V.str))->ls.Perm (cs.flatMap lyr)->ls.Pairwise (λa b=>a8 b a=false)->Q (.ref r) H')->lM vs H Q E0
abbrev bM(c:ZB)(k:ZB):Prop:=∃a b z,k=[a,b,z]/\a∈c/\b∈c
abbrev Sml(z:Str):Prop:=z.length<=30/\∀c∈z.cps.toList,c<16^8
abbrev AQ(a:ZB)(k:ZB):Prop:=bM a k/\∀z∈k,Sml z
def wj(h:eK z=true):Sml z:=by
 unfold eK at h;rw[Zx,Zx]at h;refine%[⋯|λc a=>?_];have:=(mo.mp (all_eq_true.mp h.2 c a)).2
 lia
def Sml.app{a b:Str}(f:∀c∈a.cps.toList,c<16^8)(g:∀c∈b.cps.toList,c<16^8):∀c∈(a++b).cps.toList,c<16^8:=λc d=>by
 have e:(a++b).cps.toList=a.cps.toList++b.cps.toList:=Xe;rw[e]at d;exact(Xo d).elim (f c) (g c)
def Fb(h:c<1000):∀x∈(sgn c).cps.toList,x<16^8:=λx a=>by
 have e:=by simpa [sgn]using a
 lia
def mG{c:Nat}(h:eK n=true)(d:c<1000):Sml (lnS n (sgn c)):=by
 have e:∀a b:Str,(a++b).length=a.length+b.length:=λa b=>size_append
 have l:n.length<=8:=by
  unfold eK at h
  grind
 refine%[?_|Sml.app (Sml.app (Sml.app (λc d=>(nomatch d)) (wj h).2) (!0)) (Fb d)];unfold lnS;rw[e,e,e,show Str.empty.length=0 from rfl,show(!".").length=1 from rfl,show(sgn c).length=1 from rfl]
 lia
def xO(h:bJ rows)(l:Let rows c):c<1000:=by
 have:=(mo.mp (mr h.sign c (gK.mpr l))).2
 lia
def Fc(b:eK p.2.1=true)(d:bJ p.2.2):∀z∈lyr p,Sml z:=λz e=>by
 have%[y,f|rfl]:=Xq e;have%[c,a|rfl]:=Xq (bx.mp f);exact mG b (xO d (gK.mp a))
def Ht(e:Sml a)(f:Sml b)(g:Sml c):∀z∈[a,b,c],Sml z:=λz d=>by
 simp only[Yw,X8,or_false]at d;rcases d with rfl|rfl|rfl
 .exact e
 .exact f
 .exact g
def Fd(i:Nat)(h:i<=100):Sml (Str.empty++Str.ofString "#"++Str.ofString (toString (i:Int))):=by
 have all:∀j:Fin 101,Sml (Str.empty++Str.ofString "#"++Str.ofString (toString ((j.1)))):=by
  unfold Sml;decide +kernel
 exact all %[i|⋯]
def bM.three(h:bM c k):k.length=3:=by
 have%[a,b,z,rfl|_]:=h;rfl
def bM.mono(h:bM c k)(s:∀x∈c,x∈d):bM d k:=by
 have%[a,b,z,e,f|g]:=h;exact%[a,b,z,e,s a f|s b g]
def yK(h:Let p.2.2 a):lnS p.2.1 (sgn a)∈lyr p:=
 Xr %[_,bx.mpr (Xr %[a,gK.mpr h|rfl])|rfl]
abbrev yL(n:Str)(k:ZB):ZB:=k.map (lnS n) ++[n]
abbrev Fe(i:Nat):Str:=Str.empty++Str.ofString "#"++Str.ofString (toString (i:Int))
abbrev eQ(a:ZH):List ZB:=a.flatMap λp=>(eP p.2.2 (p.2.2.length-1)).map (yL p.2.1)
abbrev jj(i:Nat):ZM->Option ZB
 |[.str w,.str a,.str b]=>if w=Str.ofString "later" then some [a,b,Fe i]else none
 | _=>none
abbrev dH(qs:ZN)(n:Nat):List ZB:=(List.range n).filterMap λj=>qs[j]?.bind λq=>jj j q.2
def uD{a:List _}{i:Nat}{q:Addr×Str×ZB}(b:a[i]? =some q):eQ (a.take (i+1))=eQ (a.take i) ++(eP q.2.2 (q.2.2.length-1)).map (yL q.2.1):=by
 unfold eQ;rw[Xb,b,Y7];show _++([q].flatMap _)=_;rw[List.flatMap_singleton]
def io(a:qs[i]? =some q):dH qs (i+1)=dH qs i++(jj i q.2).toList:=by
 unfold dH;rw[range_succ,List.filterMap_append];refine congrArg _ ?_;rw[Y1,a];rw[Option.bind_some];cases jj i q.2<;> rfl
inductive lN
 | mk (l cs):vs=[.ref l]->H l=some (.lst (bu cs))->cj H cs->(∀p∈cs,CW p.2.2)->cs.length<=6->(∀r H' ts,ah H H'->H r=none->H' r=some (.lst (ts.map λt=>V.ref t.1))->ba H' ts->(∀t∈ts,AQ (cs.flatMap lyr) t.2)->ts.length<=156->(∀k,k∈ts.map (·.2)↔k∈eQ cs)->Q (.ref r) H')->lN vs H Q E0
inductive lO
 | mk (l ls qs):vs=[.ref l]->H l=some (.lst (qs.map λq=>V.ref q.1))->cv H ls qs->(∀z∈ls,Sml z)->qs.length<=80->(∀r H' ts,ah H H'->H r=none->H' r=some (.lst (ts.map λt=>V.ref t.1))->ba H' ts->(∀t∈ts,AQ ls t.2)->ts.length<=qs.length->ts.map (·.2)=dH qs qs.length->Q (.ref r) H')->lO vs H Q E0
def qc{z:Str}(h:eK z=true):z.length<=8:=by
 unfold eK at h;rw[Zx,Zx]at h;have:=Zo h.1.2
 lia
def ip{a:List Nat}{z:Str}(h:z∈aO (a.map sgn)):∃c∈a,z=sgn c:=by
 have:=bx.mp h;have%[c,b|rfl]:=Xq this;exact%[c,b|rfl]
def wk(T:Txt K mg):Cal P w K mg base 4 "layers_of" ["cuts"] lM:=by
 refine T.bh.cal eO (λH vs Q E h=>?_)
 .have%[l,e,rfl,hl,U,h8,ai|k]:=h;refine%[rfl|λf ag A outer s hr=>?_];have u:(bu e).length=e.length:=Z6 _;refine%[_,%["JCG1RBCTP0bM~s2efMK3cDZ~!~$1Aja?1PF]UA3BS0?2pF~lAW1A0BBDH~B]VA1B",eO.nd,(show bF _ _ _ ["letter","name"] [(1,2)]=true from rfl),(show(["letter","name"]:ZB).Nodup from !0)|hr]|?_]
  show bq _ _ _ [!l,none,none,none] H;refine ap λD1 k1 _=>?_
  lk;refine%[Xf _|λL Y=>k1 _ _ (ap λD2 k2 _=>aB λv hK=>?_)];lk;refine .inl %[%[_|SqL.of (ah.upd Y _ _ hl)]|hK _ _ (bz (λi d a=>∃o2 o3,d=[!l,!L,o2,o3]/\ah H a/\∃g:ZB,a L=some (.lst (g.map V.str))/\g.Perm ((e.take i).flatMap lyr)/\g.length<=26*i)
   %[none,none,rfl,ah.upd Y,[],aa,List.Perm.refl _|Xf _] (λi d a _ ⟨_,_,_,q,_⟩=>SqL.of (q _ _ hl)) ?_ ?_)]
  .intro i x d a p %[o2,o3,rfl,y,g,N,B|ab];have hi:i<e.length:=u▸(Xn p).1;obtain⟨q,hq,rfl⟩:∃q,e[i]? =some q/\x=V.ref q.1:=by
    unfold bu at p;rw[Zl,Z4 hi]at p;exact%[e[i],Z4 hi|(Za p).symm]
   have b:=U q (Z8 hq);refine%[_,SqT.of (y _ _ b.1),rfl,_,_,rfl,_,_,rfl,rfl|aI λD3 k3 _=>?_];show kr _ _ [!l,!L,some (.str q.2.1),some (.str (Str.join nl q.2.2))] a;lk;refine%[.inl %[_|SqL.of N]|aF λv hK=>?_];lk;refine%[q.2.2,rfl,b.2.2|λl2 H2 ss s2 f2 O p2 q2=>?_];lk;refine .inl %[%[_|SqL.of O]|hK _ _ λF hF=>?_];have aj:ss.length<=26:=p2.length_eq▸oP λc hc=>mr b.2.2.sign c hc
   have one:∀z∈ss,z.length=1:=λz hz=>by
    have%[c,_|rfl]:=ip (p2.mem_iff.mp hz);rfl
   refine bh (J:=Itl K l2) (n:=ss.length) (D:=F) (λj ts d a=>(∃o,d=[o,some (.str q.2.1)])/\ah H2 a/\a F=some (.lst ts)/\ts=((ss.take j).map (lnS q.2.1)).map V.str)
    %[%[none|rfl],ah.upd hF,aa|rfl]
    (λj _ _ a C m=>%[_,V.str ss[j],SqL.of (m.2.1 _ _ O)|by simp]) (λ_ _ a m=>%[_,SqL.of (m.2.1 _ _ O)|by simp]) ?_ ?_
   .intro j ts d H3 C %[%[o|rfl],G,ac|t] x H4 %[e2|p];subst e2;have I:=p _ (SqL.of (G _ _ O));rw[Zl,Z4 C]at I;obtain rfl:x=V.str ss[j]:=(Za I).symm;lk;refine%[_,_,rfl,by have:=qc b.2.1;lia,by rw[one _ (Ye C)];decide|CK.mk C ac (by rw[t,Z6,Z6,Ym];exact aE ⋯) %[%[_|rfl],ah.set G hF,aa|?_]];rw[t,Xb,Zd,Zd,Z4 C];rfl
   intro ts d H3 %[_,G,ae|t];rw[Zn (Zi _)]at t;lk;refine%[_,G _ _ (s2 _ _ N),_,ae,(by rw[t,Z6,Z6,Z6];exact aM ⋯)|k3 _ _ %[_,_,rfl,ah.set (y.trans (s2.trans G)) Y,g++ss.map (lnS q.2.1),?_,?_|?_]]
   .rw[aa,t,Zd]
   .rw[Xb,hq,Y7];refine B.append ?_;show List.Perm _ ([q].flatMap lyr);rw[List.flatMap_singleton];exact p2.map _
   .rw[Z9,Z6]
    lia
  .intro d a %[o2,o3,rfl,y,g,N,B|ab];refine k2 _ _ ?_;lk;rw[u,Zn (Zi _)]at B;exact%[g,SqL.of N,by rw[B.length_eq];lia|λr ss M p' q'=>k r _ ss (y.trans (ah.upd M)) (y.free M) aa (p'.trans B) q']
def qd(T:Txt K mg):Cal P w K mg base 4 "ties_of_cuts" ["cuts"] lN:=by
 refine T.bi.cal bS (λH vs Q E h=>?_)
 .have%[l,B,rfl,hl,a2,a3,h8|k]:=h;refine%[rfl|λf a5 A outer s hr=>?_];have ag:(bu B).length=B.length:=Z6 _;refine%[_,%["JCG1RBCTP0bMK2MK3cDTPF]WA3BbMK4MK5cDZol1AgAF~lA2A4BAF~lA2A5BA2BBDH1",bS.nd|hr]|?_]
  show bq _ _ _ [!l,none,none,none,none,none] H;refine ap λD1 k1 _=>?_
  lk;refine%[Xf _|λL hL=>k1 _ _ (ap λD2 k2 _=>aB λai hK=>?_)];lk;refine .inl %[%[_|SqL.of (ah.upd hL _ _ hl)]|hK _ _ (bz (λi C I=>∃o2 o3 J M,C=[!l,!L,o2,o3,J,M]/\ah H I/\∃ts:ZG,I L=some (.lst (ts.map λt=>V.ref t.1))/\ba I ts/\(∀t∈ts,AQ (B.flatMap lyr) t.2)/\ts.length<=26*i/\∀k,k∈ts.map (·.2)↔k∈eQ (B.take i))
   %[none,none,none,none,rfl,ah.upd hL,[],aa,jh _,λt ht=>(nomatch ht),Xf _|λk=>Iff.rfl] (λi C I _ ⟨_,_,_,_,_,q,_⟩=>SqL.of (q _ _ hl)) ?_ ?_)]
  .intro i x C I N %[o2,o3,J,M,rfl,sm,ts,hm,Y,ab,aj|d];have hi:i<B.length:=by rw[<-ag];exact(Xn N).1
   obtain⟨q,hq,rfl⟩:∃q,B[i]? =some q/\x=V.ref q.1:=by
    unfold bu at N;rw[Zl,Z4 hi]at N;exact%[B[i],Z4 hi|(Za N).symm]
   have g:=a2 q (Z8 hq);refine%[_,SqT.of (sm _ _ g.1),rfl,_,_,rfl,_,_,rfl,rfl|?_];refine aI λD3 k3 _=>?_
   show Bl _ _ _ _ [!l,!L,some (.str q.2.1),some (.str (Str.join nl q.2.2)),J,M] I;refine aB λai hK=>?_
   lk;have qm:=Z8 hq;refine%[q.2.2,rfl,g.2.2,a3 q qm|?_];intro l2 H2 ss s2 f2 h2 t2 a6 al all2;have a4:=qc g.2.1;have an:l2≠L:=λe=>by rw[e,hm]at f2;cases f2
   have aq:(ss.map λp=>V.ref p.1).length=ss.length:=Z6 _;refine .inl %[l2,rfl,%[_|SqL.of h2]|hK _ _ (bz (xs:=ss.map λp=>V.ref p.1) (λj C n=>∃J M,C=[!l,!L,some (.str q.2.1),some (.str (Str.join nl q.2.2)),J,M]/\ah H n/\n l2=some (.lst (ss.map λp=>V.ref p.1))/\ba n ss/\∃c:ZG,n L=some (.lst (c.map λt=>V.ref t.1))/\ba n c/\(∀t∈c,AQ (B.flatMap lyr) t.2)/\c.length<=26*i+j/\c.map (·.2)=ts.map (·.2) ++((ss.take j).map (·.2)).map (yL q.2.1))
    %[_,_,rfl,sm.trans s2,h2,t2,ts,s2 _ _ hm,aY Y λb z e=>s2 _ _ e,ab,⋯|(Zz _).symm] (λj C n _ ⟨_,_,_,_,q,_⟩=>SqL.of q) ?_ ?_)]
   .intro j x C n N %[J,M,rfl,ac,as,r,c,G,u,ae,v|m];have hj:j<ss.length:=aq▸(Xn N).1;rw[Zl,Z4 hj]at N;obtain rfl:x=V.ref ss[j].1:=(Za N).symm;have O:=Ye hj;have%[a,b,a0,la|lb]:=al _ O;have U:=(r _ O).2;rw[a0]at U;refine%[_,SqT.of U,rfl,_,_,rfl,_,_,rfl,rfl|aI λD4 k4 _=>?_];show kr _ _ [!l,!L,some (.str q.2.1),some (.str (Str.join nl q.2.2)),some (.str (sgn a)),some (.str (sgn b))] n;lk;refine%[.inl %[_|SqL.of G],q.2.1,sgn a,rfl,⋯,(show 1<=100 by decide)|?_];refine%[q.2.1,sgn b,rfl,⋯,(show 1<=100 by decide)|?_];refine%[#[3]|λp hp=>?_];have sp:=ah.upd (o:= .tup [V.str (lnS q.2.1 (sgn a)),V.str (lnS q.2.1 (sgn b)),V.str q.2.1]) hp;have gp:upd n p (.tup [V.str (lnS q.2.1 (sgn a)),V.str (lnS q.2.1 (sgn b)),V.str q.2.1]) p=_:=aa
    generalize upd n p _=H4 at sp gp
    have a1:=sp _ _ G;have y:∀b z,H4 b=some (.tup z)->upd H4 L (.lst (c.map (λt=>V.ref t.1) ++[V.ref p])) b=some (.tup z):=λb z e=>by
     have:b≠L:=λe2=>by rw[e2,a1]at e;cases e
     rw[am this];exact e
    refine%[_,a1,by rw[Z6];exact Nat.lt_of_le_of_lt (show c.length<=10000 by lia) (!1)|k4 _ _ %[_,_,rfl,ah.set (ac.trans sp) hL,(am an)▸sp _ _ as,aY (aY r λb z e=>sp _ _ e) y,c++[(p,[lnS q.2.1 (sgn a),lnS q.2.1 (sgn b),q.2.1])],?_,?_,?_,?_|?_]]
    .rw[aa,Zd];rfl
    .exact aY (jz (aY u λb z e=>sp _ _ e) ∅ gp) y
    .intro t ht;rcases Xo ht with z|z
     .exact ae t z
     .rw[Xp z];exact%[%[_,_,_,rfl,mem_flatMap.mpr %[q,qm|yK la]|mem_flatMap.mpr %[q,qm|yK lb]]|Ht (mG g.2.1 (xO g.2.2 la)) (mG g.2.1 (xO g.2.2 lb)) (wj g.2.1)]
    .rw[Z9,Yl];lia
    .rw[Zd,m,Ze,Xb,Z4 hj,Zd,Zd];show _++(_++[_])=_++(_++[yL q.2.1 ss[j].2]);rw[a0];rfl
   .intro C n %[J,M,rfl,ac,as,r,c,G,u,ae,v|m];rw[aq]at v m;rw[Zn (Zi _)]at m;refine k3 _ _ %[_,_,_,_,rfl,ac,c,G,u,ae,⋯|λk=>?_];rw[m,uD hq,Yt,Yt,d,mem_map,mem_map];exact or_congr Iff.rfl (exists_congr λz=>and_congr_left λ_=>all2 z)
  .intro C I %[o2,o3,J,M,rfl,sm,ts,hm,Y,ab,aj|d];refine k2 _ _ ?_;lk;rw[ag]at aj d;rw[Zn (Zi _)]at d;exact k L I ts sm hL hm Y ab ⋯ d
def lP(T:Txt K mg):Cal P w K mg base 1 "ties_of_sayings" ["sayings"] lO:=by
 refine T.bj.cal cr (λH vs Q E h=>?_)
 .have%[l,N,qs,rfl,hl,ab,r,aj|k]:=h;refine%[rfl|λf ai A outer s hr=>?_];have G:(qs.map λq=>V.ref q.1).length=qs.length:=Z6 _;refine%[_,%["JCG1RBCT~WA0BbMK2MK3cDNLmQ3EVDZol1AgAQ3EAQ3EA~'~JV~J~j2~(BBODH1"|cr.nd]|?_]
  show bq _ _ _ [!l,none,none,none] H;refine ap λD1 k1 _=>?_
  lk;refine%[Xf _|λL O=>k1 _ _ (ap λD2 k2 _=>aB λae hK=>?_)];lk;refine%[_,SqL.of (ah.upd O _ _ hl)|hK _ _ (kO (λi U n=>∃o2 o3,U=[!l,!L,o2,o3]/\ah H n/\∃ts:ZG,n L=some (.lst (ts.map λt=>V.ref t.1))/\ba n ts/\(∀t∈ts,AQ N t.2)/\ts.length<=i/\ts.map (·.2)=dH qs i)
   %[none,none,rfl,ah.upd O,[],aa,jh _,λt ht=>(nomatch ht),Xf _|rfl] (λi U n _ ⟨_,_,_,q,_⟩=>SqL.of (q _ _ hl)) ?_ ?_)]
  .intro i x TT U n hx %[o2,o3,rfl,sm,ts,hm,u,g,v|d] hT;have hi:i<qs.length:=by rw[<-G];exact(Xn hx).1
   obtain⟨q,Y,rfl⟩:∃q,qs[i]? =some q/\x=V.ref q.1:=by
    rw[Zl,Z4 hi]at hx;exact%[qs[i],Z4 hi|(Za hx).symm]
   have s0:=ah.upd (o:= .tup [.int i,.ref q.1]) hT;have j:ah H (upd n TT (.tup [.int i,.ref q.1])):=sm.trans s0;have I:upd n TT (.tup [.int i,.ref q.1]) TT=some (.tup [.int i,.ref q.1]):=aa;have m:=s0 _ _ hm;have c:=aY u λb z e=>s0 _ _ e
   generalize upd n TT (.tup [.int i,.ref q.1])=HT at j I m c
   have J:=ab q (Z8 Y);refine%[_,SqT.of I,rfl,_,_,rfl,_,_,rfl,rfl|?_];show nE _ _ _ _ [!l,!L,some (.int i),some (.ref q.1)] HT;refine aI λD4 k4 _=>?_
   lk;have st:=SqT.of (K:=K) (j _ _ J.1);have ag:(Str.ofString (toString (i:Int))).length<=21:=by
    have e:=PySem.int_text_length_le10 (a:=(i:Int)) (k:=20) (!1) (by have:(i:Int).natAbs=i:=rfl;lia);rw[PySem.ofString_length];lia
   have e1:(Str.empty++Str.ofString "#").length=1:=!0
   have ea:∀a b:Str,(a++b).length=a.length+b.length:=λa b=>size_append
   have add:∀a b:Str,a∈N->b∈N->jj i q.2=some [a,b,Fe i]->∀p,HT p=none->∃x,upd HT p (.tup [.str a,.str b,V.str (Str.empty++Str.ofString "#"++Str.ofString (toString (i:Int)))]) L=some (.lst x)/\x.length<sizeLine/\D4.nx [!l,!L,some (.int i),some (.ref q.1)] (upd (upd HT p (.tup [.str a,.str b,V.str (Str.empty++Str.ofString "#"++Str.ofString (toString (i:Int)))])) L (.lst (x++[V.ref p]))):=by
    intro a b ma mb ac p hp;have tn:=io Y;rw[ac,<-d]at tn;unfold Fe at tn
    generalize hz:Str.empty++Str.ofString "#"++Str.ofString (toString (i:Int))=z at tn ⊢
    have sp:=ah.upd (o:= .tup [V.str a,V.str b,V.str z]) hp;have gp:upd HT p (.tup [V.str a,V.str b,V.str z]) p=_:=aa
    generalize upd HT p (.tup [V.str a,V.str b,V.str z])=H4 at sp gp
    have M:=sp _ _ m;have B:∀b z,H4 b=some (.tup z)->upd H4 L (.lst (ts.map (λt=>V.ref t.1) ++[V.ref p])) b=some (.tup z):=λb z e=>by
     have:b≠L:=λe2=>by rw[e2,M]at e;cases e
     rw[am this];exact e
    refine%[_,M,by rw[Z6];exact aE ⋯|k4 _ _ %[_,_,rfl,ah.set (j.trans sp) O,ts++[(p,[a,b,z])],?_,?_,?_,?_|?_]]
    .rw[aa,Zd];rfl
    .exact aY (jz (aY c λb z e=>sp _ _ e) ∅ gp) B
    .intro t ht;rcases Xo ht with z|z
     .exact g t z
     .rw[Xp z];exact%[%[_,_,_,rfl,ma|mb]|Ht (r a ma) (r b mb) (hz▸Fd i ⋯)]
    .rw[Z9,Yl];lia
    .rw[tn,Zd];rfl
   rcases J.2 with⟨wd,a,b,e,hw,ma,mb,_⟩|⟨wd,a,y,e,hw,_⟩
   .rw[e]at st;refine%[_,st,_,rfl,rfl|bG (λC=>?_) λC=>?_]
    .refine%[.inl %[_|SqL.of m],_,st,_,rfl,_,st,_,rfl,aM ⋯,?_,aM (by rw[ea];lia),aM (by rw[ea];lia),#[3]|add a b ma mb (e▸if_pos (V.str.inj (Zo C)))];have:(i:Int).natAbs=i:=rfl
     lia
    .refine k4 _ _ %[_,_,rfl,j,ts,m,c,g,⋯|?_];rw[io Y,e,show jj i [V.str wd,V.str a,V.str b]=none from if_neg λz=>C (Zf (by rw[z])),d];exact(Zz _).symm
   .rw[e]at st;refine%[_,st,_,rfl,rfl|?_];rw[if_neg (by rcases hw with rfl|rfl<;> decide)];refine k4 _ _ %[_,_,rfl,j,ts,m,c,g,⋯|?_];rw[io Y,e,d];exact(Zz _).symm
  .intro U n %[o2,o3,rfl,sm,ts,hm,u,g,v|d];refine k2 _ _ ?_;lk;rw[G]at v d;exact k L n ts sm O hm u g v d
structure GrF (mg:ZC) (H:Hp) (g c2 c3 c4:Addr) (qs:ZN) (ls:ZB) (ts:ZG):Prop where
 at_:∃dx c1,H g=some (.ins (cI mg "Ground") dx [("kept_cuts",.ref c1),("kept_sayings",.ref c2),("kept_layers",.ref c3),("kept_ties",.ref c4)])
 a2:H c2=some (.lst (qs.map λq=>V.ref q.1))
 a3:H c3=some (.lst (ls.map V.str))
 a4:H c4=some (.lst (ts.map λt=>V.ref t.1))
 sa:cv H ls qs
 tu:ba H ts
def GrF.up(h:GrF mg H g c2 a c qs d ts)(s:ah H f):GrF mg f g c2 a c qs d ts:=by
 have%[i,j|l]:=h.at_;exact%[%[i,j|s _ _ l],s _ _ h.a2,s _ _ h.a3,s _ _ h.a4,h.sa.up s|aY h.tu λb z e=>s _ _ e]
inductive sO (mg:ZC)
 | mk (g c2 c3 c4 qs ls ts):vs=[.ref g]->GrF mg H g c2 c3 c4 qs ls ts->(∀l,H l=none->Q (.ref l) (upd H l (.lst (ls.map V.str))))->sO mg vs H Q E0
inductive qe (mg:ZC)
 | mk (g c2 c3 c4 qs ls ts):vs=[.ref g]->GrF mg H g c2 c3 c4 qs ls ts->(∀l,H l=none->Q (.ref l) (upd H l (.lst (qs.map λq=>V.ref q.1))))->qe mg vs H Q E0
inductive yM (mg:ZC)
 | mk (g c2 c3 c4 qs ls ts):vs=[.ref g]->GrF mg H g c2 c3 c4 qs ls ts->(∀l,H l=none->Q (.ref l) (upd H l (.lst (ts.map λt=>V.ref t.1))))->yM mg vs H Q E0
inductive uE (mg:ZC)
 | mk (g l m dx cs qs):vs=[.ref g,.ref l,.ref m]->H g=some (.ins (cI mg "Ground") dx [])->H l=some (.lst (bu cs))->H m=some (.lst (qs.map λq=>V.ref q.1))->cj H cs->(cs.map λp=>p.2.1).Nodup->1<=cs.length->cs.length<=6->(∀p∈cs,CW p.2.2)->(cs.flatMap lyr).length<=80->(∀ls,ls.Perm (cs.flatMap lyr)->cv H ls qs)->qs.length<=25->(∀H' ls ts c2 c3 c4,(∀b o,b≠g->H b=some o->H' b=some o)->GrF mg H' g c2 c3 c4 qs ls ts->(∀t∈ts,AQ ls t.2)->(∀z∈ls,Sml z)->(∀k,k∈ts.map (·.2)↔k∈eQ cs\/k∈dH qs qs.length)->ts.length<=181->ls.Perm (cs.flatMap lyr)->ls.Pairwise (λa b=>a8 b a=false)->Q .non H')->uE mg vs H Q E0
def jk(T:Txt K mg):EO P w K mg base 6 "Ground" ["self","cuts","sayings"] (uE mg):=by
 refine T.i_Ground.cal fH (λH vs Q E h=>?_)
 .have%[g,l,m,d,n,qs,rfl,N,hl,hm,i,al,h1,h8,an,aq,B,bf|k]:=h;refine%[rfl|λf bc A outer s hr=>?_];refine%[_,%["JCZF]XA1BCG3F]YA1BCZF]ZA2A3BC~Y0!(A1BC~Y0!(A2BC~Y03D~Y0~B]aAI:F]bA1BF]cA2BB",fH.nd|hr]|?_]
  show bq _ _ _ [!g,!l,!m,none] H;refine ap λD1 k1 _=>?_
  lk;refine%[l,n,rfl,hl,i,al,h1,⋯|λH1 s1=>k1 _ _ (ap λD2 k2 _=>?_)];lk;refine%[l,n,rfl,s1 _ _ hl,i.up s1,h8,aq|λr H2 C s2 f2 h2 O q2=>k2 _ _ (ap λD3 k3 _=>?_)];have U:=s1.trans s2;lk;refine%[m,r,C,qs,rfl,U _ _ hm,h2,(B C O).up U,⋯|λH3 s3=>k3 _ _ (ap λD4 k4 _=>?_)];have u:=U.trans s3;have OC:=T.o_Ground.cls;have ae:∀z∈C,Sml z:=λz hz=>by
   have%[p,v|hz]:=mem_flatMap.mp (O.mem_iff.mp hz);exact Fc (i p v).2.1 (i p v).2.2 z hz
  have gl:l≠g:=λe=>by rw[e,N]at hl;cases hl
  have gm:m≠g:=λe=>by rw[e,N]at hm;cases hm
  have gr:r≠g:=λe=>by rw[e,s1 _ _ N]at f2;cases f2
  lk;refine%[_,.inl (SqL.of (u _ _ hl))|λa G=>%[_,_,_,ah.upd G _ _ (u _ _ N),OC,T.n_Ground_kept_cuts,(by show 0<1000;decide)|k4 _ _ (ap λD5 k5 _=>?_)]];have as:a≠g:=λe=>by rw[e,u _ _ N]at G;cases G
  have a0:=ah.upd (o:= .lst (bu n)) G;have b4:∀b o,b≠g->H3 b=some o->upd (upd H3 a (.lst (bu n))) g (.ins (cI mg "Ground") d (dO (!"kept_cuts") (V.ref a) [])) b=some o:=λb o c e=>by rw[am c];exact a0 _ _ e
  have g4:upd (upd H3 a (.lst (bu n))) g (.ins (cI mg "Ground") d (dO (!"kept_cuts") (V.ref a) [])) g=some (.ins (cI mg "Ground") d [("kept_cuts",V.ref a)]):=aa;have a4:upd (upd H3 a (.lst (bu n))) g (.ins (cI mg "Ground") d (dO (!"kept_cuts") (V.ref a) [])) a=some (.lst (bu n)):=by rw[am as];exact aa
  generalize upd (upd H3 a (.lst (bu n))) g (.ins (cI mg "Ground") d (dO (!"kept_cuts") (V.ref a) []))=H4 at b4 g4 a4
  have n4:∀b,H4 b=none->b≠g:=λb c e=>by rw[e,g4]at c;cases c
  lk;refine%[_,.inl (SqL.of (b4 _ _ gm (u _ _ hm)))|λc2 Y=>%[_,_,_,ah.upd Y _ _ g4,OC,T.n_Ground_kept_sayings,(by show 1<1000;decide)|k5 _ _ (ap λD6 k6 _=>?_)]];have ab:=n4 c2 Y;have a1:=ah.upd (o:= .lst (qs.map λq=>V.ref q.1)) Y;have b5:∀b o,b≠g->H4 b=some o->upd (upd H4 c2 (.lst (qs.map λq=>V.ref q.1))) g (.ins (cI mg "Ground") d (dO (!"kept_sayings") (V.ref c2) [("kept_cuts",V.ref a)])) b=some o:=λb o c e=>(am c)▸a1 _ _ e
  have g5:upd (upd H4 c2 (.lst (qs.map λq=>V.ref q.1))) g (.ins (cI mg "Ground") d (dO (!"kept_sayings") (V.ref c2) [("kept_cuts",V.ref a)])) g=some (.ins (cI mg "Ground") d [("kept_cuts",V.ref a),("kept_sayings",V.ref c2)]):=by rw[aa];rfl
  have a5:upd (upd H4 c2 (.lst (qs.map λq=>V.ref q.1))) g (.ins (cI mg "Ground") d (dO (!"kept_sayings") (V.ref c2) [("kept_cuts",V.ref a)])) c2=some (.lst (qs.map λq=>V.ref q.1)):=(am ab)▸aa
  generalize upd (upd H4 c2 (.lst (qs.map λq=>V.ref q.1))) g (.ins (cI mg "Ground") d (dO (!"kept_sayings") (V.ref c2) [("kept_cuts",V.ref a)]))=H5 at b5 g5 a5
  lk;refine%[_,_,_,g5,OC,T.n_Ground_kept_layers,(by show 2<1000;decide)|k6 _ _ (aI λD7 k7 _=>?_)];have b6:∀b o,b≠g->H5 b=some o->upd H5 g (.ins (cI mg "Ground") d (dO (!"kept_layers") (V.ref r) [("kept_cuts",V.ref a),("kept_sayings",V.ref c2)])) b=some o:=λb o c e=>(am c)▸e
  have g6:upd H5 g (.ins (cI mg "Ground") d (dO (!"kept_layers") (V.ref r) [("kept_cuts",V.ref a),("kept_sayings",V.ref c2)])) g=some (.ins (cI mg "Ground") d [("kept_cuts",V.ref a),("kept_sayings",V.ref c2),("kept_layers",V.ref r)]):=by rw[aa];rfl
  generalize upd H5 g (.ins (cI mg "Ground") d (dO (!"kept_layers") (V.ref r) [("kept_cuts",V.ref a),("kept_sayings",V.ref c2)]))=H6 at b6 g6
  have ag:∀b o,b≠g->H3 b=some o->H6 b=some o:=λb o c e=>b6 b o c (b5 b o c (b4 b o c e))
  have y:∀b o,b≠g->H b=some o->H6 b=some o:=λb o c e=>ag b o c (u _ _ e)
  have ai:cj H6 n:=λp v=>⟨y _ _ (λe=>by have:=(i p v).1;rw[e,N]at this;cases this) (i p v).1,(i p v).2⟩
  have j:cv H6 C qs:=λq hq=>⟨y _ _ (λe=>by have:=(B C O q hq).1;rw[e,N]at this;cases this) (B C O q hq).1,(B C O q hq).2⟩
  lk;refine%[l,n,rfl,y _ _ gl hl,ai,an,h8|λt1 H7 ts s7 f7 h7 a2 ac bl a3=>?_];lk;refine%[m,C,qs,rfl,s7 _ _ (y _ _ gm hm),j.up s7,ae,⋯|λt2 H8 us s8 f8 a6 a7 aj bm bb=>?_];lk;have M:ba H8 (ts++us):=wb (aY a2 λb z e=>s8 _ _ e) a7;have g8:=s8 _ _ (s7 _ _ g6);refine%[_,s8 _ _ h7,_,a6,by rw[Z6,Z6,PySem.sizeLine_eq];lia|λp v=>%[ts++us,Zd▸SqL.of aa,aY M λb z e=>ah.upd v _ _ e,3,?_,!1,by rw[Z9];lia|λc4 ss I J bn=>%[_,_,_,ah.upd I _ _ (ah.upd v _ _ g8),OC,T.n_Ground_kept_ties,(by show 3<1000;decide)|k7 _ _ ?_]]]
  .intro t ht;rcases Xo ht with z|z
   .exact(ac t z).1.three
   .exact(aj t z).1.three
  .have b9:∀b o,b≠g->H8 b=some o->upd (upd (upd H8 p (.lst (ts.map (λp=>V.ref p.1) ++us.map λp=>V.ref p.1))) c4 (.lst (ss.map λp=>V.ref p.1))) g (.ins (cI mg "Ground") d (dO (!"kept_ties") (V.ref c4) [("kept_cuts",V.ref a),("kept_sayings",V.ref c2),("kept_layers",V.ref r)])) b=some o:=λb o c e=>(am c)▸((ah.upd (o:= .lst (ts.map (λp=>V.ref p.1) ++us.map λp=>V.ref p.1)) v).trans (ah.upd (o:= .lst (ss.map λp=>V.ref p.1)) I)) _ _ e
   have L:∀b o,b≠g->H6 b=some o->_:=λb o c e=>b9 b o c (s8 _ _ (s7 _ _ e))
   refine k _ C ss c2 r c4 (λb o c e=>L b o c (y b o c e)) %[%[d,a|?_],?_,?_,?_,?_|?_] (λt ht=>?_) ae (λk=>by rw[(J.map _).mem_iff,Zd,Yt,a3,bb]) (by rw[J.length_eq,Z9];lia) O q2
   .rw[aa];rfl
   .exact L _ _ ab (b6 _ _ ab a5)
   .exact L _ _ gr (ag _ _ gr (s3 _ _ h2))
   .rw[am (λe=>by rw[e,ah.upd v _ _ g8]at I;cases I)];exact aa
   .exact λq hq=>⟨L _ _ (λe=>by have:=(j q hq).1;rw[e,g6]at this;cases this) (j q hq).1,(j q hq).2⟩
   .intro t ht;have:=M t (J.mem_iff.mp ht);exact%[this.1|b9 _ _ (λe=>by have q:=this.2;rw[e,g8]at q;cases q) this.2]
   .rcases Xo (J.mem_iff.mp ht)with z|z
    .exact%[(ac t z).1.mono λx=>O.mem_iff.mpr|(ac t z).2]
    .exact aj t z
def dm(T:Txt K mg):Ao P w K mg base 1 "Ground" "layers" ["self"] (sO mg):=by
 refine T.m_Ground_layers.cal mF (λH vs Q E h=>?_)
 .have%[g,c2,c,d,qs,e,ts,rfl,a|k]:=h;refine%[rfl|λf b A outer s m=>?_];have%[n,o|i]:=a.at_;refine%[_,%["JDH!(A~m0B"|0]|?_];show jX _ _ [some _] H;lk;exact%[_,_,_,i,T.o_Ground.cls,T.n_Ground_kept_layers,_,rfl,_,rfl,_,.inl (SqL.of a.a3)|λl j=>k l j]
def mH(T:Txt K mg):Ao P w K mg base 1 "Ground" "sayings" ["self"] (qe mg):=by
 refine T.m_Ground_sayings.cal lH (λH vs Q E h=>?_)
 .have%[g,c2,c,d,qs,e,ts,rfl,a|k]:=h;refine%[rfl|λf b A outer s m=>?_];have%[n,o|i]:=a.at_;refine%[_,%["JDH!(A~m0B"|0]|?_];show jX _ _ [some _] H;lk;exact%[_,_,_,i,T.o_Ground.cls,T.n_Ground_kept_sayings,_,rfl,_,rfl,_,.inl (SqL.of a.a2)|λl j=>k l j]
def qS(T:Txt K mg):Ao P w K mg base 1 "Ground" "ties" ["self"] (yM mg):=by
 refine T.m_Ground_ties.cal pO (λH vs Q E h=>?_)
 .have%[g,c2,c,d,qs,e,ts,rfl,a|k]:=h;refine%[rfl|λf b A outer s m=>?_];have%[n,o|i]:=a.at_;refine%[_,%["JDH!(A~m0B"|0]|?_];show jX _ _ [some _] H;lk;exact%[_,_,_,i,T.o_Ground.cls,T.n_Ground_kept_ties,_,rfl,_,rfl,_,.inl (SqL.of a.a4)|λl j=>k l j]
abbrev dZ(H:Hp)(ys:List (Addr×Str×Int)):Prop:=∀p∈ys,H p.1=some (.tup [.str p.2.1,.int p.2.2])/\0<=p.2.2/\p.2.2<=7
def dZ.up(h:dZ H ys)(s:ah H b):dZ b ys:=λp a=>%[s _ _ (h p a).1|(h p a).2]
inductive sP
 | mk (one two l ys):vs=[.int one,.int two,.ref l]->H l=some (.lst (ys.map λp=>V.ref p.1))->dZ H ys->1<=ys.length->ys.length<=100->0<=one->0<=two->(∀t H' xs,ah H H'->H t=none->H' t=some (.tup xs)->lK (ys.map λp=>p.2.1) xs->Q (.ref t) H')->sP vs H Q E0
def uF(T:Txt K mg):Cal P w K mg base 1 "_law_saying" ["_law_one","_law_two","_law_layers"] sP:=by
 refine T.br.cal bL (λH vs Q E h=>?_)
 .have%[one,d,l,ys,rfl,M,B,y1,ag,o0,t0|k]:=h;refine%[rfl|λf ai A outer s hr=>?_];have get:∀n:Int,0<=n->∃q,atI (ys.map λp=>V.ref p.1) (n%(ys.length:Int))=some (V.ref q.1)/\q∈ys:=λn hn=>by
   have h0:=Int.emod_nonneg n (show(ys.length:Int)≠0 by lia);have h1:=Int.emod_lt_of_pos n (show(0:Int)<(ys.length:Int) by lia)
   generalize n%(ys.length:Int)=i at h0 h1
   have%[j|rfl]:=Xi h0;have hj:j<ys.length:=by lia
   exact%[ys[j],cO (by simp[hj])|Ye hj]
  have%[p,gp|mp]:=get one o0;have%[q,gq|mq]:=get d t0;have C:(ys.map λp=>V.ref p.1).length=ys.length:=Z6 _;have v:(0:Int)<(ys.length:Int):=by lia
  have pa:=B p mp;have qa:=B q mq;refine%[_,%["JC~LU2Ii0XYA2BbMK3MK4cC~LU2Ii1XYA2BbMK5MK6cCG7IiIv0EECG8smIiIv1EEECNdwL[7EwLq35*dtLq46yn8CNdwL_46*xn8DHgAVA5A3BODHgAVA3A5BOCNdwL^7gAEAEBwLq35*dtLm46yn8DHgAVA3A5BOCG9IrI~SEI>E4URAEA$EA$EAEAEA$EAEAEBIi1EDHgAURAVAVBIi7EA3A9B"|bL.nd]|?_]
  show bq _ _ _ [some (.int one),some (.int d),!l,none,none,none,none,none,none,none] H;refine ap λD1 k1 _=>?_
  lk;refine%[ys.length,.inl %[_,SqL.of M|C.symm],v,_,SqL.of M,_,gp,_,rfl,_,SqT.of pa.1,rfl,_,_,rfl,_,_,rfl,rfl|k1 _ _ (ap λD2 k2 _=>?_)];lk;refine%[ys.length,.inl %[_,SqL.of M|C.symm],v,_,SqL.of M,_,gq,_,rfl,_,SqT.of qa.1,rfl,_,_,rfl,_,_,rfl,rfl|k2 _ _ (ap λD3 k3 _=>?_)];lk;refine%[%[!1|!1],!1|k3 _ _ (ap λD4 k4 _=>?_)];lk;refine%[%[!1|!1],!1|k4 _ _ (ap λY k5 r5=>?_)];have b1:0<=one/64%8:=by lia
  have b2:one/64%8<8:=by lia
  generalize one/64%8=kind at b1 b2
  generalize decide (d/64%16=0)=G
  have%[aj,pn|pi]:=p;have%[al,qn|qi]:=q;dsimp only at pa qa gp gq;have mem:∀{r:Addr×Str×Int},r∈ys->r.2.1∈ys.map λp=>p.2.1:=λ{r} hr=>Xr %[r,hr|rfl]
  have fin:∀(y:Hp) (a b:Str),ah H y->a∈(ys.map λp=>p.2.1)->b∈(ys.map λp=>p.2.1)->a≠b->∀w:Str,w="later"\/w="same"->∀t,y t=none->Q (.ref t) (upd y t (.tup [.str w,.str a,.str b])):=λy a b I ha hb ab w hw t m=>
   k t _ _ (I.trans (ah.upd m)) (I.free m) aa (.inl %[w,a,b,rfl,hw,ha,hb|ab])
  have N:pn∈ys.map λp=>p.2.1:=mem mp
  have m2:qn∈ys.map λp=>p.2.1:=mem mq
  have u:3<=sizeLine:=!1
  have rest:Y.nx [some (.int one),some (.int d),!l,-pn,some (.int pi),-qn,some (.int qi),some (.int kind),some (.bl G),none] H:=by
   refine k5 _ _ (ap λD6 k6 r6=>?_);have z:∀y,ah H y->D6.nx [some (.int one),some (.int d),!l,-pn,some (.int pi),-qn,some (.int qi),some (.int kind),some (.bl G),none] y:=by
    intro y I;refine k6 _ _ (ap λD7 k7 _=>?_);lk;refine%[.inl %[!1|!1],#[8]|λp O=>%[!1,_,SqL.of aa|?_]];have%[c,hc|ac]:=pR [0,-20,-60,10,60,-200,110,0] (i:=d%8) ⋯ (by show d%8<8;lia);have an: -200<=c/\c<=110:=by
     simp only[Yw,X8,or_false]at ac
     lia
    refine%[_,hc,c,rfl|k7 _ _ ?_];lk;obtain⟨wd,ae,hw⟩:∃wd:Str,atI [V.str (!"since"),V.str (!"by")] (kind%2)=some (V.str wd)/\(wd="since"\/wd="by"):=by
     rcases(show kind%2=0\/kind%2=1 by lia)with e|e<;> rw[e]
     .exact%[_,rfl|.inl rfl]
     .exact%[_,rfl|.inr rfl]
    refine%[#[2]|λp1 J=>%[by simp,_,SqL.of aa,_,ae,u|λt m=>?_]];exact k t _ _ (I.trans ((ah.upd O).trans ((ah.upd J).trans (ah.upd m)))) (I.free ((ah.upd O).free ((ah.upd J).free m))) aa (.inr %[wd,pn,_,rfl,hw,N,⋯|⋯])
   lk;refine%[#[2]|λp O=>%[_,.inr (SqT.of aa),rfl,rfl|?_]];have sp:=ah.upd (o:= .tup [V.int 2,V.int 3]) O
   generalize upd H p (.tup [V.int 2,V.int 3])=U at sp
   have R:=z U sp;refine bG (λ_=>bG (λg=>?_) λ_=>R) λ_=>R
   have g:pn≠qn:=↑g
   have L:3<=sizeLine/\∀p,U p=none->D6.rt (.ref p) (upd U p (.tup [V.str (!"same"),V.str pn,V.str qn])):=%[u|λt m=>r6 _ _ (fin U pn qn sp N m2 g _ (.inr rfl) t m)]
   exact bG (λ_=>L) λ_=>bG (λ_=>L) λ_=>R
  lk;refine bG (λ_=>bG (λg=>?_) λ_=>rest) λ_=>rest
  have g:pn≠qn:=↑g
  have L1:3<=sizeLine/\∀p,H p=none->Y.rt (.ref p) (upd H p (.tup [V.str (!"later"),V.str qn,V.str pn])):=%[u|λt m=>r5 _ _ (fin H qn pn (ah.refl H) m2 N (Ne.symm g) _ (.inl rfl) t m)]
  have L2:3<=sizeLine/\∀p,H p=none->Y.rt (.ref p) (upd H p (.tup [V.str (!"later"),V.str pn,V.str qn])):=%[u|λt m=>r5 _ _ (fin H pn qn (ah.refl H) N m2 g _ (.inl rfl) t m)]
  exact bG (λ_=>bG (λ_=>bG (λ_=>L1) λ_=>L2) λ_=>L2) λ_=>bG (λ_=>bG (λ_=>bG (λ_=>L1) λ_=>L2) λ_=>L2) λ_=>rest
structure Drn where
 name:Str
 cols:List ZL
 hi:Nat
 sh:Int
 wd:Bool
abbrev Drn.rows(d:Drn):ZB:=drawn d.cols d.hi d.sh
abbrev nA(d:Drn):Prop:=eK d.name=true/\1<=d.hi/\d.hi<=6/\1<=d.cols.length/\d.cols.length<=5/\∀c∈d.cols,c.length=d.hi/\lj d.wd c
def nA.cut(h:nA d):bJ d.rows:=vS h.2.1 (by have:=h.2.2.1;lia) h.2.2.2.1 (by have:=h.2.2.2.2.1;lia) h.2.2.2.2.2
abbrev iq(d:Drn):List (Str×Int):=(there d.cols).map λa=>(bD d.name (sg a d.sh),a)
abbrev dcs(ds:List (Addr×Drn)):ZH:=ds.map λp=>(p.1,p.2.name,p.2.rows)
abbrev nmK(k:Int):Str:=if k=0 then "north" else if k=1 then "a" else if k=2 then "wallwest" else "zz"
abbrev Ff(xs:ZL)(k:Nat):Drn:=%[nmK (((k:Int) +xs.getD 0 0/3)%4),C2 ((xs.drop (1+6*k)).take 6),(hiF ((xs.drop (1+6*k)).take 6)).toNat,xs.getD 0 0/12+3*k|wdF ((xs.drop (1+6*k)).take 6)]
abbrev FI(xs:ZL):List Drn:=(List.range (1+xs.getD 0 0%3).toNat).map (Ff xs)
structure xP (H:Hp) (ds:List (Addr×Drn)) (qs:ZN) (xs:ZL):Prop where
 d1:1<=ds.length
 d3:ds.length<=3
 ok:∀p∈ds,nA p.2
 nd:(ds.map λp=>p.2.name).Nodup
 ca:cj H (dcs ds)
 sa:cv H (ds.flatMap λp=>(iq p.2).map (·.1)) qs
 ql:qs.length<=12
 nk:∀p∈ds,∃k:Int,p.2.name=nmK k
 eq:ds.map (·.2)=FI xs
 ll:(ds.flatMap λp=>(iq p.2).map (·.1)).length<=24
inductive sQ (K:ZA)
 | mk (a:Addr) (xs:ZL):vs=[.ref a]->SqL K H a (xs.map V.int)->(∀H',ah H H'->SqL K H' a (xs.map V.int))->xs.length=43->(∀x∈xs,0<=x/\x<9973)->(∀(t l1 l2 l3:Addr) H' (ds:List (Addr×Drn)) (qs:ZN),ah H H'->H' t=some (.tup [.ref l1,.ref l2,.ref l3])->H' l1=some (.lst (bu (dcs ds)))->H' l2=some (.lst (qs.map λq=>V.ref q.1))->xP H' ds qs xs->Q (.ref t) H')->sQ K vs H Q E0
def lQ(h:H M=some (.lst xs)):∀b z,H b=some (.tup z)->upd H M (.lst ys) b=some (.tup z):=λb z e=>by
 rw[am (λa=>by lia)];exact e
def dZ.keep(h:dZ H ys)(t:∀b z,H b=some (.tup z)->c b=some (.tup z)):dZ c ys:=λp a=>%[t _ _ (h p a).1|(h p a).2]
def cj.keep(h:cj H c)(t:∀b z,H b=some (.tup z)->d b=some (.tup z)):cj d c:=λp a=>%[t _ _ (h p a).1|(h p a).2]
def cv.keep(h:cv H c qs)(t:∀b z,H b=some (.tup z)->d b=some (.tup z)):cv d c qs:=λp a=>%[t _ _ (h p a).1|(h p a).2]
def cj.snoc(h:cj H a)(b:H q.1=some (.tup [.str q.2.1,.str (Str.join nl q.2.2)])/\eK q.2.1=true/\bJ q.2.2):cj H (a++[q]):=λp c=>by
 rcases Xo c with z|z
 .exact h p z
 .rw[Xp z];exact b
def dZ.snoc(h:dZ H ys)(a:H q.1=some (.tup [.str q.2.1,.int q.2.2])/\0<=q.2.2/\q.2.2<=7):dZ H (ys++[q]):=λp b=>by
 rcases Xo b with z|z
 .exact h p z
 .rw[Xp z];exact a
def AR(n:Str)(c:Nat):n++Str.ofString "."++sgn c=bD n c:=by
 refine jt ?_;show(n.cps++ ([46].toArray) ++ ([c].toArray)).toList=(n.cps.toList++[46,c]).toArray.toList;simp
def Hu(k:Int):eK (nmK k)=true:=by
 unfold nmK
 split
 .decide +kernel
 .split
  .decide +kernel
  .split<;> decide +kernel
def Fg(c:0<=j)(e:j<4)(d:0<=k)(f:k<4)(h:nmK j=nmK k):j=k:=by
 have all:∀a b:Fin 4,nmK (a.1)=nmK (b.1)->a=b:=!0
 have%[a|rfl]:=Xi c;have%[b|rfl]:=Xi d;have:=all %[a|⋯] %[b|⋯] h
 simp_all
def ir(T:Txt K mg):Cal P w K mg base 3 "_law_ground" ["_law_row_here"] (sQ K):=by
 refine T.bt.cal aS (λH vs Q E h=>?_)
 .have%[a,xs,rfl,hs,keep,a6,hb|kk]:=h;refine%[rfl|λf eg A outer s hr=>?_];have get:∀i:Int,0<=i->i<43->∃c,atI (xs.map V.int) i=some (V.int c)/\0<=c/\c<9973:=λi h0 h1=>by
   have%[c,e|hm]:=pR xs h0 ⋯;exact%[c,e|hb c hm]
  have%[c0,g0,l0|u0]:=get 0 (!1) (!1);have ec:xs.getD 0 0=c0:=by
   match xs,a6,g0 with
   | x::r,_,g0=>exact V.int.inj (Za ((show atI ((x::r).map V.int) ((0:Nat):Int)=some (V.int x)from cO rfl).symm.trans g0))
  refine%[_,%["JCG1RBCG2RBCT~FAIrEIiU0EEBK3CG4URAVAVAVAVBIiIr3IvU0EEECG5IrIvU0EEI>E3C~LF]dA~T0;IrEI>E3;IrEI>E3A5BbMK6MK7cCZol1AgA4A6BBDTP7K8DZol2AgAI~MI~M4VF~tA8A5BA8BBCG9IiIvU0EEECG:RBCT~FA9BK3DZolk:AF]eAU0IrEI>E3AU0IrEI>E3A2BBDHgA1Ak:Aja?1P2bMS0?2MS1?2cp0B",aS.nd,(show bF _ _ _ ["_law_layer","_law_at"] []=true from rfl),(show(["_law_layer","_law_at"]:ZB).Nodup from !0)|hr]|?_]
  show bq _ _ _ [!a,none,none,none,none,none,none,none,none,none,none] H;refine ap λD1 k1 _=>?_
  lk;refine%[Xf _|λv b4=>k1 _ _ (ap λD2 k2 _=>?_)];have s1:=ah.upd (o:= .lst []) b4;lk;refine%[Xf _|λL3 a0=>k2 _ _ (ap λD3 k3 _=>aB λal hK=>?_)];have s2:=s1.trans (ah.upd (o:= .lst []) a0);have bf:v≠L3:=λe=>by rw[<-e,aa]at a0;cases a0
  lk;refine%[_,keep _ s2,_,g0,c0,rfl,!1|?_];refine%[⋯,⋯|hK _ _ (gc (λi M u=>∃o3 o4 o5 o6 o7 o8,M=[!a,!v,!L3,o3,o4,o5,o6,o7,o8,none,none]/\ah H u/\∃(ds:List (Addr×Drn)) (ys:List (Addr×Str×Int)),ds.length=i/\u v=some (.lst (bu (dcs ds)))/\u L3=some (.lst (ys.map λp=>V.ref p.1))/\dZ u ys/\(ys.map (·.2))=(ds.flatMap λp=>iq p.2)/\
   cj u (dcs ds)/\(∀p∈ds,nA p.2)/\ds.map (·.2)=(List.range i).map (Ff xs))
   %[_,_,_,_,_,_,rfl,s2,[],[],rfl,by rw[am bf];exact aa,aa,λp Y=>(nomatch Y),rfl,λp Y=>(nomatch Y),λp Y=>(nomatch Y)|rfl] ?_ ?_)]
  .intro i M H3 hi %[o3,o4,o5,o6,o7,o8,rfl,s3,ds,ys,bl,G,I,a1,O,bm,a2|a3];have hi3:i<3:=by lia
   show bq _ _ _ [!a,!v,!L3,some (.int (0+i)),o4,o5,o6,o7,o8,none,none] H3;rw[Int.zero_add];refine ap λD4 k4 _=>?_
   lk;obtain⟨l,b5,b6⟩:∃l:Str,atI [V.str (!"north"),V.str (!"a"),V.str (!"wallwest"),V.str (!"zz")] (((i:Int) +c0/3)%4)=some (V.str l)/\l=nmK (((i:Int) +c0/3)%4):=by
    rcases(show((i:Int) +c0/3)%4=0\/((i:Int) +c0/3)%4=1\/((i:Int) +c0/3)%4=2\/((i:Int) +c0/3)%4=3 by lia)with e|e|e|e<;> rw[e]<;> exact%[_,rfl|rfl]
   have bn:eK l=true:=by rw[b6];exact Hu _
   refine%[#[4]|λp Y=>%[_,keep _ (s3.trans (ah.upd Y)),_,g0,c0,rfl,%[!1|!1],!1,_,SqL.of aa,_,b5|k4 _ _ (ap λD5 k5 _=>?_)]];have sp:=ah.upd (o:= .lst [V.str (!"north"),V.str (!"a"),V.str (!"wallwest"),V.str (!"zz")]) Y
   generalize upd H3 p (.lst [V.str (!"north"),V.str (!"a"),V.str (!"wallwest"),V.str (!"zz")])=H4 at sp
   have s4:=s3.trans sp;lk;refine%[_,keep _ s4,_,g0,c0,rfl,%[!1|!1],.inl %[!1|!1]|k5 _ _ (ap λD6 k6 _=>?_)];have bp:0<=c0/12+3*(i:Int):=by lia
   generalize c4:c0/12+3*(i:Int)=m at bp
   lk;refine%[.inl %[!1|!1],.inl %[!1|!1],_,keep _ s4|λp2 b7=>?_];rw[v9 xs ⋯ ⋯ ⋯];have b9:((xs.drop (1+6*(i:Int)).toNat).take ((7+6*(i:Int)).toNat-(1+6*(i:Int)).toNat)).length=6:=by
    rw[Ym,Yi,a6];exact(by decide:∀i:Nat,i<3->min ((7+6*(i:Int)).toNat-(1+6*(i:Int)).toNat) (43-(1+6*(i:Int)).toNat)=6) i ⋯
   have ca:∀x∈(xs.drop (1+6*(i:Int)).toNat).take ((7+6*(i:Int)).toNat-(1+6*(i:Int)).toNat),0<=x/\x<9973:=λx hx=>hb x (Yx (Yy hx))
   generalize c5:(xs.drop (1+6*(i:Int)).toNat).take ((7+6*(i:Int)).toNat-(1+6*(i:Int)).toNat)=ws at b9 ca
   refine%[p2,ws,m,rfl,SqL.of aa,λu sm=>SqL.of (sm _ _ aa),b9,ca,bp|λT5 th H5 d g L U f5 c7 n5 da dd de dj dk dn bt eC eH eW=>%[T5,rfl,_,SqT.of da,rfl,_,_,rfl,_,_,rfl,rfl|k6 _ _ (ap λD7 k7 _=>?_)]];have bU:ah H3 H5:=sp.trans ((ah.upd b7).trans U);have a7:nA %[l,d,g,m|L]:=%[bn,de,dj,dk,dn|bt]
   have ab:H3 th=none:=sp.free ((ah.upd b7).free c7);have dp:th≠v:=λe=>by rw[e,G]at ab;cases ab
   have dr:th≠L3:=λe=>by rw[e,I]at ab;cases ab
   lk;refine%[.inl %[_|SqL.of (bU _ _ G)],#[2]|λC dx=>?_];have s6:=ah.upd (o:= .tup [V.str l,V.str (nl.join (drawn d g m))]) dx;have g6:upd H5 C (.tup [V.str l,V.str (nl.join (drawn d g m))]) C=_:=aa;have aj:=s6 _ _ (bU _ _ G)
   generalize upd H5 C (.tup [V.str l,V.str (nl.join (drawn d g m))])=H6 at s6 g6 aj
   have a4:=bU.trans s6;refine%[_,aj,by rw[show(bu (dcs ds)).length=ds.length by unfold bu dcs;rw[Z6,Z6],bl];exact aE ⋯|k7 _ _ (aI λD8 k8 _=>aB λal hK=>?_)];have tk:=lQ (ys:=bu (dcs ds) ++[V.ref C]) aj;have cb:ah H (upd H6 v (.lst (bu (dcs ds) ++[V.ref C]))):=ah.set (s3.trans a4) b4;have cd:upd H6 v (.lst (bu (dcs ds) ++[V.ref C])) v=some (.lst (bu (dcs (ds++[(C,%[l,d,g,m|L])])))):=by
    rw[aa];unfold bu dcs;rw[Zd,Zd];rfl
   have ch:upd H6 v (.lst (bu (dcs ds) ++[V.ref C])) L3=some (.lst (ys.map λp=>V.ref p.1)):=by rw[am (Ne.symm bf)];exact a4 _ _ I
   have b0:upd H6 v (.lst (bu (dcs ds) ++[V.ref C])) th=some (.lst ((there d).map V.int)):=by rw[am dp];exact s6 _ _ dd
   have cl:cj (upd H6 v (.lst (bu (dcs ds) ++[V.ref C]))) (dcs (ds++[(C,%[l,d,g,m|L])])):=by
    rw[show dcs (ds++[(C,%[l,d,g,m|L])])=dcs ds++[(C,l,drawn d g m)] by unfold dcs;rw[Zd];rfl];exact((bm.up a4).snoc %[g6,bn|a7.cut]).keep tk
   have co:dZ (upd H6 v (.lst (bu (dcs ds) ++[V.ref C]))) ys:=(a1.up a4).keep tk
   generalize upd H6 v (.lst (bu (dcs ds) ++[V.ref C]))=H7 at cb cd ch b0 cl co
   have an:ys.length<=8*i:=by
    have e:=congrArg List.length O;rw[Z6,List.length_flatMap]at e;have:=tW (f:=λp:Addr×Drn=>(iq p.2).length) (B:=8) (xs:=ds) λp _=>by
     unfold iq;rw[Z6];exact mz _
    lia
   lk;refine .inl %[%[_|SqL.of b0]|hK _ _ (bz (xs:=(there d).map V.int) (λj M u=>∃o8,M=[!a,!v,!L3,some (.int i),-l,some (.int m),some (.str (nl.join (drawn d g m))),!th,o8,none,none]/\ah H u/\u v=some (.lst (bu (dcs (ds++[(C,%[l,d,g,m|L])]))))/\u th=some (.lst ((there d).map V.int))/\cj u (dcs (ds++[(C,%[l,d,g,m|L])]))/\
    ∃zs:List (Addr×Str×Int),u L3=some (.lst ((ys++zs).map λp=>V.ref p.1))/\dZ u (ys++zs)/\zs.map (·.2)=((there d).take j).map λa=>(bD l (sg a m),a))
    %[_,rfl,cb,cd,b0,cl,[],by rw[Zz];exact ch,by rw[Zz];exact co|rfl] (λj M u _ ⟨_,_,_,_,q,_⟩=>SqL.of q) ?_ ?_)]
   .intro j x M H8 hx %[o8,rfl,s8,aq,bb,b1,zs,ac,b2|as];have hj:j<(there d).length:=by have:=(Xn hx).1;rwa[Z6]at this
    rw[Zl,Z4 hj]at hx;obtain rfl:x=V.int (there d)[j]:=(Za hx).symm;have cp:=dS.mp (Ye hj);show kr _ _ [!a,!v,!L3,some (.int i),-l,some (.int m),some (.str (nl.join (drawn d g m))),!th,some (.int (there d)[j]),none,none] H8;refine aI λD9 k9 _=>?_
    lk;have eb:=qc bn;have ea:∀a b:Str,(a++b).length=a.length+b.length:=λa b=>size_append
    have e1:(!".").length=1:=rfl;have zl:zs.length<=j:=by
     have:=congrArg List.length as;rw[Z6,Z6,Ym]at this
     lia
    have tl:=mz d;refine%[.inl %[_|SqL.of ac],aM ⋯,_,_,rfl,bp,_,rfl,aM (by rw[ea,show(sgn (sg (there d)[j] m)).length=1 from rfl];lia),#[2]|λp Y=>?_];rw[AR];have s9:=ah.upd (o:= .tup [V.str (bD l (sg (there d)[j] m)),V.int (there d)[j]]) Y;have g9:upd H8 p (.tup [V.str (bD l (sg (there d)[j] m)),V.int (there d)[j]]) p=_:=aa
    generalize upd H8 p (.tup [V.str (bD l (sg (there d)[j] m)),V.int (there d)[j]])=H9 at s9 g9
    have cs:=s9 _ _ ac;have ct:=lQ (ys:=(ys++zs).map (λp=>V.ref p.1) ++[V.ref p]) cs;refine%[_,cs,by rw[Z6,Z9];exact aE ⋯|k9 _ _ %[_,rfl,ah.set (s8.trans s9) (s1.free a0),by rw[am bf];exact s9 _ _ aq,by rw[am dr];exact s9 _ _ bb,(b1.up s9).keep ct,zs++[(p,bD l (sg (there d)[j] m),(there d)[j])],?_,?_|?_]]
    .rw[aa,<-Ze,Zd (l₂:=[(p,bD l (sg (there d)[j] m),(there d)[j])])];rfl
    .rw[<-Ze];exact((b2.up s9).snoc %[g9,cp.1|cp.2.1]).keep ct
    .rw[Zd,as,Xb,Z4 hj,Zd];rfl
   .intro M H8 %[o8,rfl,s8,aq,bb,b1,zs,ac,b2|as];rw[Z6,Zn (Zi _)]at as;refine k8 _ _ %[_,_,_,_,_,_,rfl,s8,ds++[(C,%[l,d,g,m|L])],ys++zs,by rw[Z9,bl];rfl,aq,ac,b2,?_,b1,λp Y=>?_|?_]
    .rw[Zd,O,as,Y7]
     congr 1
     rw[List.flatMap_singleton];rfl
    .rcases Xo Y with z|z
     .exact a2 p z
     .rw[Xp z];exact a7
    .rw[Zd,a3,range_succ,Zd];have ew:(xs.drop (1+6*i)).take 6=ws:=by
      rw[<-c5,show(1+6*(i:Int)).toNat=1+6*i by lia,show(7+6*(i:Int)).toNat-(1+6*i)=6 by lia]
     congr 1
     show [(%[l,d,g,m|L]:Drn)]=[Ff xs i]
     unfold Ff;rw[ew,ec,b6,eC,<-eH,eW,<-c4];rfl
  .intro M H3 %[o3,o4,o5,o6,o7,o8,rfl,s3,ds,ys,bl,G,I,a1,O,bm,a2|cx];have a3:ds.map (λp=>p.2.name)=(List.range (1+c0%3).toNat).map λk:Nat=>nmK (((k:Int) +c0/3)%4):=by
    have e:=congrArg (List.map Drn.name) cx;rw[Ys,Ys]at e;rw[<-ec];rw[<-ec]at e;exact e
   refine k3 _ _ (ap λD4 k4 _=>?_);lk;refine%[_,keep _ s3,_,g0,c0,rfl,%[!1|!1],!1|k4 _ _ (ap λD5 k5 _=>?_)];have m0:0<=c0/100%13:=by lia
   have dy:c0/100%13<=12:=by lia
   generalize c0/100%13=bc at m0 dy
   lk;refine%[Xf _|λL2 cy=>k5 _ _ (ap λD6 k6 _=>aB λal hK=>?_)];have dA:=ah.upd (o:= .lst []) cy;have dB:1<=ds.length:=by lia
   have dK:ds.length<=3:=by lia
   have an:ys.length<=24/\1<=ys.length:=by
    have e:=congrArg List.length O;rw[Z6,List.length_flatMap]at e;have:=tW (f:=λp:Addr×Drn=>(iq p.2).length) (B:=8) (xs:=ds) λp _=>by
     unfold iq;rw[Z6];exact mz _
    refine%[⋯|Nat.pos_of_ne_zero λz=>?_];have dT:ys=[]:=length_eq_zero_iff.mp z;rw[dT]at O;have cB:0<ds.length:=by lia
    have hq:=a2 ds[0] (Ye cB);have cM:=CV hq.2.1 hq.2.2.2.1 hq.2.2.2.2.2;have%[a'|dV]:=List.exists_mem_of_ne_nil _ cM;have:(bD ds[0].2.name (sg a' ds[0].2.sh),a')∈ds.flatMap λp=>iq p.2:=mem_flatMap.mpr %[ds[0],Ye cB|Xr %[a',dV|rfl]]
    rw[<-O]at this;cases this
   have ae:(ys.map λp=>p.2.1)=ds.flatMap λp=>(iq p.2).map (·.1):=by
    have e:=congrArg (List.map (·.1)) O;rw[Ys,List.map_flatMap]at e;exact e
   lk;refine%[⋯,⋯|hK _ _ (gc (λi M u=>∃o3,M=[!a,!v,!L3,o3,o4,o5,o6,o7,o8,some (.int bc),!L2]/\ah H3 u/\∃qs:ZN,u L2=some (.lst (qs.map λq=>V.ref q.1))/\qs.length=i/\cv u (ys.map λp=>p.2.1) qs)
    %[_,rfl,dA,[],aa,rfl|λq hq=>(nomatch hq)] ?_ ?_)]
   .intro i M H4 eh %[o3,rfl,s4,qs,ag,cR|a5];show kr _ _ [!a,!v,!L3,some (.int (0+i)),o4,o5,o6,o7,o8,some (.int bc),!L2] H4;rw[Int.zero_add];have%[x1,dX,dY|ej]:=get (19+2*(i:Int)) ⋯ ⋯;have%[x2,d0,d1|ek]:=get (20+2*(i:Int)) ⋯ ⋯;refine aI λD7 k7 _=>?_
    lk;refine%[.inl %[_|SqL.of ag],.inl %[!1|!1],_,keep _ (s3.trans s4),_,dX,.inl %[!1|!1],_,keep _ (s3.trans s4),_,d0|?_];refine%[x1,x2,L3,ys,rfl,s4 _ _ I,a1.up s4,an.2,⋯,dY,d1|λt H5 d2 U f5 h5 d3=>?_];have aj:=U _ _ ag;have c1:=lQ (ys:=qs.map (λq=>V.ref q.1) ++[V.ref t]) aj;refine%[_,aj,by rw[Z6];exact aE ⋯|k7 _ _ %[_,rfl,ah.set (s4.trans U) cy,qs++[(t,d2)],by rw[aa,Zd];rfl,by rw[Z9,cR];rfl|λq hq=>?_]];rcases Xo hq with z|z
    .exact(((a5.up U).keep c1) q z)
    .rw[Xp z];exact%[c1 _ _ h5|d3]
   .intro M H4 %[o3,rfl,s4,qs,ag,cR|a5];refine k6 _ _ ?_;lk;refine aF λal hK=>?_
    lk;have ai:=s4 _ _ I;refine .inl %[%[_|SqL.of ai]|hK _ _ λN hN=>?_];refine bh (J:=Itl K L3) (n:=ys.length) (D:=N) (λj ts M u=>(∃o1 o2,M=[o1,o2])/\ah H4 u/\u N=some (.lst ts)/\ts.length=j)
     %[%[none,none|rfl],ah.upd hN,aa|rfl]
     (λj _ _ u hj b3=>%[_,V.ref ys[j].1,SqL.of (b3.2.1 _ _ ai)|by simp[hj]]) (λ_ _ u b3=>%[_,SqL.of (b3.2.1 _ _ ai)|by simp]) ?_ ?_
    .intro j ts M H5 hj %[%[o1,o2|rfl],U,d4|ht] x H6 %[e2|hx];subst e2;have c2:=hx _ (SqL.of (U _ _ ai));rw[Zl,Z4 hj]at c2;obtain rfl:x=V.ref ys[j].1:=(Za c2).symm;refine%[_,SqT.of (U _ _ (s4 _ _ ((a1 ys[j] (Ye hj)).1))),rfl,_,_,rfl,_,_,rfl,rfl|?_];show uT [some (.str ys[j].2.1),some (.int ys[j].2.2)] _ _;lk;exact CK.mk hj d4 (by rw[ht];exact aE ⋯) %[%[_,_|rfl],ah.set U hN,aa|by rw[Z9,ht];rfl]
    intro ts M H5 %[_,U,el|ht];refine%[#[3]|λt d7=>?_];have st:=ah.upd (o:= .tup [V.ref v,V.ref L2,V.ref N]) d7;rw[ae]at a5;have c3:=s4 _ _ G;refine kk t v L2 N _ ds qs (s3.trans (s4.trans (U.trans st))) aa (st _ _ (U _ _ c3)) (st _ _ (U _ _ ag)) %[dB,dK,a2,?_,bm.up (s4.trans (U.trans st)),a5.up (U.trans st),⋯,λp Y=>?_,by rw[cx];unfold FI;rw[ec]|by rw[<-ae,Z6];exact an.1]
    .rw[a3,X4,Xa];refine Xh (λ{x y} hx hy cM he=>?_) (nodup_iff_pairwise_ne.mp (nodup_range (n:=(1+c0%3).toNat)));rw[mem_range]at hx hy;have:=Fg ⋯ ⋯ ⋯ ⋯ he
     lia
    .have:p.2.name∈ds.map λp=>p.2.name:=Xr %[p,Y|rfl]
     rw[a3]at this;have%[k,_|e]:=Xq this;exact%[_|e.symm]
abbrev NmD(a:ZB)(f:Str->Str):List (Key×V):=a.map λz=>(Sum.inr z,V.str (f z))
def qf:∀{a:ZB},z∈a->bH (NmD a f) (Sum.inr z)=some (.str (f z))
 |[],h=>(nomatch h)
 | x::a,h=>by
   by_cases e:x=z
   .subst e;exact eZ rfl
   .rw[show NmD _ f=(Sum.inr x,V.str _)::NmD a f from rfl,dC (λq=>e (Sum.inr.inj q))];exact qf (by rcases mem_cons.mp h with q|q;exact(e q.symm).elim;exact q)
def C8:((NmD b f).any λa=>decide (a.1=(Sum.inr z:Key)))=true↔z∈b:=by
 rw[List.any_eq_true]
 constructor
 .rintro⟨a,c,d⟩;have%[x,e|rfl]:=Xq c
  simp_all
 .intro h;exact%[_,Xr %[z,h|rfl]|Zf rfl]
def C9(h:z∈a):cX (NmD a f) (Sum.inr z) (.str v)=NmD a (λx=>if x=z then v else f x):=by
 unfold cX;rw[if_pos (C8.mpr h)];unfold NmD;rw[Ys];refine Yq λx _=>?_
 show(if(Sum.inr x)=Sum.inr z then((Sum.inr x),V.str v)else(Sum.inr x,V.str _))=(Sum.inr x,V.str (if x=z then v else f x))
 by_cases e:x=z
 .rw[if_pos (congrArg _ e),if_pos e]
 .rw[if_neg (λq=>e (Sum.inr.inj q)),if_neg e]
def Hv(h:z∉a):cX (NmD a id) (Sum.inr z) (.str z)=NmD (a++[z]) id:=by
 unfold cX;rw[if_neg (λq=>h (C8.mp q))];unfold NmD;rw[Zd];rfl
abbrev Da(a:ZB)(z:Str):Nat:=gH (a.map λu=>[u]) [z]
def Db(b:x∈a)(h:a8 x y=true):Da a x<Da a y:=by
 have:=kY (ks:=a.map λu=>[u]) (y:=[y]) (Xr %[x,b|rfl]);rw[pE,h]at this;exact Zo this.symm
abbrev aH(qs:ZN)(a b:Str):Prop:=∃q∈qs,q.2=[.str "same",.str a,.str b]
def jA{S R:Str->Str->Prop}(F:bI c f r S)(h:∀a b,S a b↔R a b):bI c f r R:=by
 rw[funext λa=>funext λb=>(propext (h a b)).symm];exact F
inductive Dc
 | mk (d z ls f r S):vs=[.ref d,.str z]->H d=some (.dK (NmD ls f))->bI ls f r S->z∈ls->Q (.str (r z)) H->Dc vs H Q E0
inductive yN
 | mk (d a b ls f r S):vs=[.ref d,.str a,.str b]->H d=some (.dK (NmD ls f))->bI ls f r S->a∈ls->b∈ls->ls.length<=5000->(∀f' r',bI ls f' r' (λx y=>S x y\/(x=a/\y=b))->Q .non (upd H d (.dK (NmD ls f'))))->yN vs H Q E0
def fI(T:Txt K mg):Cal P w K mg base 1 "least_pointed_to" ["names","layer"] Dc:=by
 refine T.aA.cal eJ (λH vs Q E h=>?_)
 .have%[d,z,e,p,r,S,rfl,q,F,t|j]:=h;refine%[rfl|λf o A outer s i=>?_];refine%[_,%["JC|Lqh011DG1h01DH1",eJ.nd|i]|ap λu k1 _=>⟨λm l g=>∃y,l=[some _,-y]/\g=H/\y∈e/\r y=r z/\m=Da e y,%[_,z,rfl,rfl,t,rfl|rfl],?_⟩]
  intro m l g %[y,rfl,rfl,a,b|rfl];lk;have g1:=by
   have:=cP.k (k:=Sum.inr y) q;rw[qf a]at this;exact this
  refine%[_,g1,rfl|bG (λh=>?_) λh=>?_]
  .have h:=↑h
   refine%[λc n=>c=[some _,some _]/\n=g,?_,_,g1,rfl|rfl];intro c n %[rfl|rfl];exact%[_,Db (F.fin y a) (F.dec y a h),p y,rfl,rfl,F.fin y a,(F.rf y a).trans b|rfl]
  .refine k1 _ _ ?_;rw[<-b,F.fix y a ↑h]at j;exact j
def nQ(T:Txt K mg):Cal P w K mg base 2 "join_deposits" ["names","one","other"] yN:=by
 refine T.az.cal dU (λH vs Q E h=>?_)
 .have%[d,a,b,c,p,r,S,rfl,g,F,i,j,n|o]:=h;refine%[rfl|λf m A outer s e=>?_];refine%[_,%["JCG3F~)A0A1BCG4F~)A0A2BDu~d]fA3A4B0~r]gA3A4B",dU.nd|e]|?_]
  show bq _ _ _ [!d,-a,-b,none,none] H;refine ap λt k1 _=>?_
  lk;refine%[d,a,c,p,r,S,rfl,g,F,i|k1 _ _ (ap λu k2 _=>?_)];lk;refine%[d,b,c,p,r,S,rfl,g,F,j|k2 _ _ (aI λv q _=>?_)];lk;have J:=F.join i j rfl rfl;have l:(if a8 (r a) (r b)=true then r b else r a)∈c:=by
   split
   .exact F.rin b j
   .exact F.rin a i
  generalize (if a8 (r a) (r b)=true then r b else r a)=M at J l
  refine%[_,jD.k (k:=Sum.inr M) g (by unfold NmD;rw[Z6,PySem.sizeLine_eq];lia)|q _ _ ?_];rw[C9 l];exact o _ _ J
def xQ{qs:ZN}{q:Addr×ZM}(c:qs[i]? =some q)(a b:Str):aH (qs.take (i+1)) a b↔aH (qs.take i) a b\/q.2=[.str "same",.str a,.str b]:=by
 unfold aH;rw[Xb,c]
 simp_all
def iu{c:ZB}(d:c.Pairwise (λa b=>a8 b a=false)){i:Nat}{z w:Str}(f:c[i]? =some z)(hw:w∈c)(h:a8 w z=true):w∈c.take i:=by
 rw[<-Xc i c]at hw;rcases Xo hw with e|e
 .exact e
 .have%[hi|g]:=Xn f;have%[j,l|rfl]:=getElem_of_mem e;rw[List.getElem_drop]at h;rw[Yi]at l;by_cases m:j=0
  .subst m;rw[<-g]at h;simp only[add_zero]at h;rw[fR]at h;cases h
  .have:=List.pairwise_iff_getElem.mp d i (i+j) hi ⋯ ⋯
   grind
inductive wo (mg:ZC)
 | mk (g c2 c3 c4 qs ls ts):vs=[.ref g]->GrF mg H g c2 c3 c4 qs ls ts->ls.Nodup->ls.Pairwise (λa b=>a8 b a=false)->ls.length<=5000->(∀d H' r,ah H H'->H d=none->H' d=some (.dK (NmD ls r))->(∀z∈ls,r z∈ls/\cz (aH qs) z (r z))->Q (.ref d) H')->wo mg vs H Q E0
def qg{H:Hp}{g c2 b c:Addr}{qs:List _}{d:ZB}{ts:List _}{m:Str}{R:Prop}(h:GrF mg H g c2 b c qs d ts)(e:m="layers"\/m="sayings"\/m="ties")(k:R):∃a fs,H g=some (.ins (cI mg "Ground") a fs)/\List.lookup m fs=none/\R:=by
 have%[a,i|f]:=h.at_;exact⟨a,_,f,by rcases e with rfl|rfl|rfl<;> rfl,k⟩
def gQ(T:Txt K mg):Cal P w K mg base 3 "names_by_layer" ["ground"] (wo mg):=by
 refine T.ay.cal bo (λH vs Q E h=>?_)
 .have%[g,c2,c3,c4,qs,j,ts,rfl,hg,nd,so,al|kk]:=h;refine%[rfl|λf an A outer s J=>?_];have lm:(j.map V.str).length=j.length:=Z6 _;have qm:(qs.map λq=>V.ref q.1).length=qs.length:=Z6 _;refine%[_,%["JCG1zCTP~C~Z0K2Du212CTP~C]h0bMK3MK4MK5cDNLm3VDZF]iA1A4A5BOCTP~C~Z0K2Duh1h1212DH1",bo.nd|J]|?_]
  show bq _ _ _ [!g,none,none,none,none,none] H;refine ap λD1 k1 _=>?_
  lk;intro d hd;refine k1 _ _ (ap λD2 k2 _=>aB λL hK=>?_);have s1:=ah.upd (o:= .dK []) hd;have Y:upd H d (.dK []) d=some (.dK (NmD (j.take 0) id)):=aa
  generalize upd H d (.dK [])=H1 at s1 Y
  lk;have ab:=hg.up s1;refine qg ab (.inl rfl) %[g,c2,c3,c4,qs,j,ts,rfl,ab|λl1 N=> .inl %[l1,rfl,%[_|SqL.of aa]|hK _ _ ?_]];have s2:=ah.upd (o:= .lst (j.map V.str)) N;have ac:upd H1 l1 (.lst (j.map V.str)) l1=_:=aa;have n1:l1≠d:=λe=>by rw[e,Y]at N;cases N
  have Y:=s2 _ _ Y
  generalize upd H1 l1 (.lst (j.map V.str))=H2 at s2 ac Y
  refine bz (xs:=j.map V.str) (λi n l=>(∃p t u v,n=[!g,!d,p,t,u,v])/\ah H l/\l l1=some (.lst (j.map V.str))/\l d=some (.dK (NmD (j.take i) id)))
   %[%[_,_,_,_|rfl],s1.trans s2,ac|Y] (λi n l _ h=>SqL.of h.2.2.1) ?_ ?_
  .intro i x n l M %[%[p,t,u,v|rfl],m,I|c];rw[Zl]at M;have%[z,B|rfl]:=map_eq_some_iff.mp M;show ot _ _ _ _ [!g,!d,-z,t,u,v] l;refine aI λD3 k3 _=>?_
   lk;have zn:z∉j.take i:=λhm=>by
    have h:=nd;rw[<-Xc i j,X3]at h;exact h.2.2 z hm z (Z8 (i:=0) ((Yb)▸B)) rfl
   refine%[_,jD.k (k:=Sum.inr z) c (by unfold NmD;rw[Z6,Ym,PySem.sizeLine_eq];lia)|k3 _ _ %[%[_,_,_,_|rfl],ah.set m hd,(am n1).trans I|?_]];rw[aa,Hv zn,Xb,B];rfl
  intro n H3 %[%[p,t,u,v|rfl],m,I|c];rw[lm,Zn (Zi _)]at c;refine k2 _ _ (ap λD4 k4 _=>aB λL hK=>?_);lk;have ae:=hg.up m;refine qg ae (.inr (.inl rfl)) %[g,c2,c3,c4,qs,j,ts,rfl,ae|λl2 O=> .inl %[l2,rfl,%[_|SqL.of aa]|hK _ _ ?_]];have s4:=ah.upd (o:= .lst (qs.map λq=>V.ref q.1)) O;have ag:upd H3 l2 (.lst (qs.map λq=>V.ref q.1)) l2=_:=aa;have n2:l2≠d:=λe=>by rw[e,c]at O;cases O
  have c:=s4 _ _ c;have ai:=m.trans s4
  generalize upd H3 l2 (.lst (qs.map λq=>V.ref q.1))=H4 at s4 ag c ai
  refine bz (xs:=qs.map λq=>V.ref q.1) (λi n l=>(∃p t u v,n=[!g,!d,p,t,u,v])/\ah H l/\l l2=some (.lst (qs.map λq=>V.ref q.1))/\∃f r,l d=some (.dK (NmD j f))/\bI j f r (aH (qs.take i)))
   %[%[_,_,_,_|rfl],ai,ag,id,id,c|jA (bI.start j) λa b=>%[λh=>h.elim|λ⟨q,hq,_⟩=>(nomatch hq)]] (λi n l _ h=>SqL.of h.2.2.1) ?_ ?_
  .intro i x n l M %[%[p,t,u,v|rfl],m,I,f,r,c|F];rw[Zl]at M;have%[q,hq|rfl]:=map_eq_some_iff.mp M;have%[q1|q2]:=hg.sa q (Z8 hq);have st:=m _ _ q1;have C:=xQ hq;rcases q2 with⟨wd,a,b,e,hw,ha,hb,_⟩|⟨wd,a,y,e,hw,_⟩
   .rw[e]at st C;refine%[_,SqT.of st,rfl,_,_,rfl,_,_,rfl,_,_,rfl,rfl|?_];show nE _ _ _ _ [!g,!d,p,-wd,-a,-b] l;refine aI λD5 k5 _=>?_
    lk;refine bG (λh=>?_) λh=>?_
    .have h:wd=Str.ofString "same":=↑h
     refine%[d,a,b,j,f,r,_,rfl,c,F,ha,hb,al|λf' r' F'=>k5 _ _ %[%[_,_,_,_|rfl],ah.set m hd,(am n2).trans I,f',r',aa|jA F' λx y=>?_]];rw[C,h];refine or_congr Iff.rfl %[λ⟨e1,e2⟩=>by rw[e1,e2]|λe=>?_];simp only[List.cons.injEq,V.str.injEq,and_true,true_and]at e;exact%[e.1.symm|e.2.symm]
    .have h:wd≠Str.ofString "same":=↑h
     refine k5 _ _ %[%[_,_,_,_|rfl],m,I,f,r,c|jA F λx y=>?_];rw[C];refine%[.inl|λe=>e.resolve_right λe=>h ?_];simp only[List.cons.injEq,V.str.injEq]at e;exact e.1
   .rw[e]at st C;refine%[_,SqT.of st,rfl,_,_,rfl,_,_,rfl,_,_,rfl,rfl|?_];show nE _ _ _ _ [!g,!d,p,-wd,-a,some (.int y)] l;refine aI λD5 k5 _=>?_
    lk;rw[if_neg (by rcases hw with rfl|rfl<;> decide)];refine k5 _ _ %[%[_,_,_,_|rfl],m,I,f,r,c|jA F λx z=>?_];rw[C];refine%[.inl|λe=>e.resolve_right λe=>?_];simp at e
  intro n H5 %[%[p,t,u,v|rfl],m,I,f,r,c|F];rw[qm,Zn (Zi _)]at F;refine k4 _ _ (ap λD6 k6 _=>aB λL hK=>?_);lk;have aj:=hg.up m;refine qg aj (.inl rfl) %[g,c2,c3,c4,qs,j,ts,rfl,aj|λl3 U=> .inl %[l3,rfl,%[_|SqL.of aa]|hK _ _ ?_]];have s6:=ah.upd (o:= .lst (j.map V.str)) U;have n3:l3≠d:=λe=>by rw[e,c]at U;cases U
  have c:=s6 _ _ c;refine bz (xs:=j.map V.str) (λi n l=>(∃p t u v,n=[!g,!d,p,t,u,v])/\ah H l/\l l3=some (.lst (j.map V.str))/\∃f,l d=some (.dK (NmD j f))/\bI j f r (aH qs)/\∀z∈j.take i,f z=r z)
   %[%[_,_,_,_|rfl],(m.trans s6),aa,f,c,F|λz B=>(nomatch B)] (λi n l _ h=>SqL.of h.2.2.1) ?_ ?_
  .intro i x n l M %[%[p,t,u,v|rfl],m,I,f,c,F|G];rw[Zl]at M;have%[z,B|rfl]:=map_eq_some_iff.mp M;have zm:=Z8 B;show ot _ _ _ _ [!g,!d,-z,t,u,v] l;refine aI λD7 k7 _=>?_
   lk;have get:=λy hy=>by
    have:=cP.k (k:=Sum.inr y) c;rw[qf hy]at this;exact this
   refine%[_,get z zm,_,get _ (F.fin z zm),_,jD.k (k:=Sum.inr z) c (by unfold NmD;rw[Z6,PySem.sizeLine_eq];lia)|k7 _ _ %[%[_,_,_,_|rfl],ah.set m hd,(am n3).trans I,_,?_,F.short zm|λy hy=>?_]]
   .rw[aa,C9 zm]
   .rw[Xb,B]at hy;by_cases e:y=z
    .rw[if_pos e,e];exact F.done zm λw hw h=>G w (iu so B hw h)
    .rw[if_neg e];rcases Xo hy with h|h
     .exact G y h
     .exact(e (Xp h)).elim
  intro n H7 %[%[p,t,u,v|rfl],m,I,f,c,F|G];rw[lm,Zn (Zi _)]at G;refine k6 _ _ ?_;lk;refine kk d H7 r m hd ?_ λz B=>%[F.rin z B|F.least B]
  rw[c];unfold NmD;rw[Yq λz B=>by rw[G z B]]
def IM{X:Cx}{K:ZA}{T id:String}(h:X.K=K)(i:PlainAttrs T)(slot:Slot T name id)(d:typeOf (.builtin id)=pure (.type "method_descriptor"))(j:MtQ X id r)
 (b:attributeBase o name X.env (eval o X.env)=eval o X.env) (a:(e::es).any bg=false) (f:Nat.blt (e::es).length 30=true) (c:(apos.endLine==cpos.line)=true) (l:QE X o m) (n:QA X (e::es) t):
 QE X (.Call (.Attribute o name apos) (e::es) [] cpos) (tBM K T r m t):=by
 have g:=a;rw[Zy,X9]at g;refine⟨BQ h i slot d j.h l.h n.h b ?_ c (aG g.1) (gW g.2)⟩;rw[tO a];have:decide ((e::es).length+([]:List Keyword).length+(if([]:List Keyword).isEmpty then 0 else 1)<30)=true:=Zf ((Nat.blt_eq.mp f));rw[this];rfl
abbrev grp(r:Str->Str)(xs:ZB):List (Str×ZB):=(xs.filter λz=>decide (r z=z)).map λz=>(z,xs.filter λx=>decide (r x=z))
def AS(h:∀z∈xs,r z=b z):grp r xs=grp b xs:=by
 unfold grp;rw[List.filter_congr λz a=>by rw[h z a]];refine Yq λz a=>?_
 rw[List.filter_congr λx c=>by rw[h x c]]
def Fh(a:r z=z)(b:z∉xs)(c:∀x∈xs,r x∈xs):grp r (xs++[z])=grp r xs++[(z,[z])]:=by
 unfold grp;rw[Y2,Zd];refine congr (congrArg _ (Yq λw hw=>?_)) ?_
 .have:w≠z:=λe=>b (e▸(List.mem_filter.mp hw).1)
  rw[Y2,Y3 (by rw[a];simpa using this.symm),Y6,Zz]
 .rw[Y4 (by rw[a];simp),Y6];show [(z,_)]=_;rw[Y2,Y4 (by rw[a];simp),Y6,List.filter_eq_nil_iff.mpr λx d=>?_]
  .rfl
  .intro e;exact b ((Zo e)▸c x d)
def Fi(a:r z≠z):grp r (xs++[z])=(grp r xs).map λp=>if p.1=r z then(p.1,p.2++[z])else p:=by
 unfold grp;rw[Y2,Y3 ↑a,Y6,Zz,Ys];refine Yq λw hw=>?_
 show(w,_)=if w=r z then(w,_)else(w,_)
 rw[Y2];by_cases e:w=r z
 .rw[if_pos e,Y4 (by simpa using e.symm),Y6]
 .rw[if_neg e,Y3 (by simpa using λq=>e q.symm),Y6,Zz]
def jB:y∈(grp r xs).map (·.1)↔y∈xs/\r y=y:=by
 unfold grp
 simp_all
def mI(h:xs.Nodup):((grp r xs).map (·.1)).Nodup:=by
 unfold grp;rw[Ys,show((λx=>x.1) ∘ λz=>(z,List.filter _ xs))=id from rfl,map_id];exact h.filter _
abbrev yO(S:Str->Str->Prop)(a:ZB)(ds:List ZB):Prop:=∃r:Str->Str,(∀z∈a,r z∈a/\cz S z (r z))/\ds=(grp r a).map (·.2)
def yO.one{S:Str->Str->Prop}(h:yO S b ds)(g:yO S b es):ds=es:=by
 have%[r,c|rfl]:=h;have%[d,g1|rfl]:=g;rw[AS λz a=>(c z a).2.one (g1 z a).2]
noncomputable abbrev Gs(a:Type):=List (Str×Addr×List a)
abbrev gD{a:Type}(b:Gs a):List (Key×V):=b.map λg=>(Sum.inr g.1,V.ref g.2.1)
def uG:∀{a:Gs b},y∉a.map (·.1)->bH (gD a) (Sum.inr y)=none
 |[],_=>rfl
 | g::a,h=>by
   rw[Yr,Yw,not_or]at h;rw[show gD _=(Sum.inr g.1,V.ref _)::gD a from rfl,dC (λq=>h.1 (Sum.inr.inj q).symm)];exact uG h.2
def iw:∀{a:Gs d},bH (gD a) (Sum.inr y)=some v->∃g∈a,g.1=y/\v= .ref g.2.1
 |[],h=>(nomatch h)
 | g::a,h=>by
   rw[show gD _=(Sum.inr g.1,V.ref _)::gD a from rfl]at h;by_cases e:g.1=y
   .rw[eZ (congrArg Sum.inr e)]at h;exact%[g,Zm,e|(Za h).symm]
   .rw[dC (λq=>e (Sum.inr.inj q))]at h;have%[g',b|c]:=iw h;exact%[g',Zk _ b|c]
def mJ:∀{a:Gs b},g∈a->bH (gD a) (Sum.inr g.1)≠none
 | x::a,h,c=>by
   rw[show gD _=(Sum.inr x.1,V.ref _)::gD a from rfl]at c;by_cases e:x.1=g.1
   .rw[eZ (congrArg Sum.inr e)]at c;cases c
   .rw[dC (λq=>e (Sum.inr.inj q))]at c;rcases mem_cons.mp h with q|q
    .exact e (by rw[q])
    .exact mJ q c
abbrev oa(H:Hp)(a:ZG):Prop:=∀g∈a,H g.1=some (.lst (g.2.map V.str))
def oa.up{H a:Hp}{b:List _}(h:oa H b)(s:ah H a):oa a b:=λg c=>s _ _ (h g c)
structure jm {α:Type} (f:α->V) (H0 H:Hp) (d:Addr) (gs:Gs α):Prop where
 at_:H d=some (.dK (gD gs))
 la:∀g∈gs,H0 g.2.1=none/\H g.2.1=some (.lst (g.2.2.map f))
 nd:(gs.map (·.2.1)).Nodup
def Fj{f:Type}{c:Gs f}(d:(c.map (·.1)).Nodup){g h:Str×Addr×List f}(i:g∈c)(j:h∈c)(e:g.1=h.1):g=h:=by
 induction c with
 | nil=>cases i
 | cons x xs l=>
   rw[Yr,nodup_cons]at d;rcases mem_cons.mp i with a|a<;> rcases mem_cons.mp j with b|b
   .rw[a,b]
   .exact(d.1 (by rw[<-a,e];exact Xr %[_,b|rfl])).elim
   .exact(d.1 (by rw[<-b,<-e];exact Xr %[_,a|rfl])).elim
   .exact l d.2 a b
def Dd{f:Type}{c:Gs f}(d:(c.map (·.2.1)).Nodup){g h:Str×Addr×List f}(i:g∈c)(j:h∈c)(e:g.2.1=h.2.1):g=h:=by
 induction c with
 | nil=>cases i
 | cons x xs l=>
   rw[Yr,nodup_cons]at d;rcases mem_cons.mp i with a|a<;> rcases mem_cons.mp j with b|b
   .rw[a,b]
   .exact(d.1 (by rw[<-a,e];exact Xr %[_,b|rfl])).elim
   .exact(d.1 (by rw[<-b,<-e];exact Xr %[_,a|rfl])).elim
   .exact l d.2 a b
abbrev qT{a:Type}(y:Str)(z:a)(b:Gs a):Gs a:=b.map λg=>if g.1=y then(g.1,g.2.1,g.2.2++[z])else g
def Hw(y:Str)(z:b)(a:Gs b):gD (qT y z a)=gD a:=by
 unfold qT gD;rw[Ys];refine Yq λg _=>?_
 show(Sum.inr (if g.1=y then(g.1,g.2.1,g.2.2++[z])else g).1,V.ref (if g.1=y then(g.1,g.2.1,g.2.2++[z])else g).2.1)=_
 split<;> rfl
def Hx(y:Str)(z:b)(a:Gs b):(qT y z a).map (·.2.1)=a.map (·.2.1):=by
 unfold qT;rw[Ys];refine Yq λg _=>?_
 show(if g.1=y then(g.1,g.2.1,g.2.2++[z])else g).2.1=_
 split<;> rfl
def Hy(y:Str)(z:b)(a:Gs b):(qT y z a).map (λg=>(g.1,g.2.2))=(a.map λg=>(g.1,g.2.2)).map λp=>if p.1=y then(p.1,p.2++[z])else p:=by
 unfold qT;rw[Ys,Ys];refine Yq λg _=>?_
 show((if g.1=y then(g.1,g.2.1,g.2.2++[z])else g).1,(if g.1=y then(g.1,g.2.1,g.2.2++[z])else g).2.2)=if g.1=y then(g.1,g.2.2++[z])else(g.1,g.2.2)
 split<;> rfl
def jm.up{a:Type}{f:a->V}{b H c:Hp}{d:Addr}{e:Gs a}(h:jm f b H d e)(s:ah H c):jm f b c d e:=%[s _ _ h.at_,λg i=>%[(h.la g i).1|s _ _ (h.la g i).2]|h.nd]
def jm.add{a:Type}{f:a->V}{l H:Hp}{d:Addr}{b:Gs a}(h:jm f l H d b)(m:(b.map (·.1)).Nodup){g:Str×Addr×List a}(c:g∈b)(z:a):jm f l (upd H g.2.1 (.lst (g.2.2.map f++[f z]))) d (qT g.1 z b):=by
 refine%[?_,λg' j=>?_|by rw[Hx];exact h.nd]
 .rw[Hw,am (λe=>by have:=(h.la g c).2;rw[<-e,h.at_]at this;cases this)];exact h.at_
 .have%[n,i|rfl]:=Xq j;by_cases e:n.1=g.1
  .rw[if_pos e];obtain rfl:=Fj m i c e;refine%[(h.la _ c).1|?_];rw[aa,Zd];rfl
  .rw[if_neg e];refine%[(h.la _ i).1|?_];rw[am (λq=>e (by rw[Dd h.nd i c q]))];exact(h.la _ i).2
def jm.new{l:Gs n}(h:jm f m H d l)(s:ah m H)(j:H e=none)(y:Str)(z:n)(o:y∉l.map (·.1)):jm f m (upd (upd (upd H e (.lst [])) d (.dK (cX (gD l) (Sum.inr y) (.ref e)))) e (.lst [f z])) d (l++[(y,e,[z])]):=by
 refine%[?_,λg i=>?_|?_]
 .rw[am (λq=>by rw[<-q,h.at_]at j;cases j),aa,gj _ (uG o)];unfold gD;rw[Zd];rfl
 .rcases Xo i with i|i
  .refine%[(h.la g i).1|?_];have q:=(h.la g i).2;rw[am (λc=>by rw[c,j]at q;cases q),am (λc=>by rw[c,h.at_]at q;cases q),am (λc=>by rw[c,j]at q;cases q)];exact q
  .rw[Xp i];exact%[s.free j|aa]
 .rw[Zd,X3];refine%[h.nd,by simp|λa p b r c=>?_];have%[g,i|rfl]:=Xq p;have q:=(h.la g i).2
  simp_all
inductive yP (mg:ZC)
 | mk (g c2 c3 c4 qs ls ts):vs=[.ref g]->GrF mg H g c2 c3 c4 qs ls ts->ls.Nodup->ls.Pairwise (λa b=>a8 b a=false)->ls.length<=5000->(∀l H' ss,ah H H'->H l=none->H' l=some (.lst (ss.map λt=>V.ref t.1))->oa H' ss->(∀s∈ss,H s.1=none)->yO (aH qs) ls (ss.map (·.2))->ss.length<=5000->Q (.ref l) H')->yP mg vs H Q E0
inductive Hz (mg:ZC)
 | mk (g c2 c3 c4 qs ls ts z):vs=[.ref g,.str z]->GrF mg H g c2 c3 c4 qs ls ts->ls.Nodup->ls.Pairwise (λa b=>a8 b a=false)->ls.length<=5000->z∈ls->(∀H' m,ah H H'->cz (aH qs) z m->Q (.str m) H')->Hz mg vs H Q E0
def xR(T:Txt K mg):Cal P w K mg base 4 "deposits" ["ground"] (yP mg):=by
 refine T.aB.cal fT (λH vs Q E h=>?_)
 .have%[g,c2,c3,c4,qs,n,ts,rfl,hg,nd,so,aj|kk]:=h;refine%[rfl|λf a4 A outer s C=>?_];have lm:(n.map V.str).length=n.length:=Z6 _;refine%[_,%["JCG1F~*A0BCG2zCTP~C~Z0K3DZ~+l~,~.2Ah13ARBBA3BDH!]jA]k]l2B",fT.nd|C]|?_]
  show bq _ _ _ [!g,none,none,none] H;refine ap λD1 k1 _=>?_
  lk;refine%[g,c2,c3,c4,qs,n,ts,rfl,hg,nd,so,aj|λd H1 r s1 fd I C=>k1 _ _ (ap λD2 k2 _=>?_)];lk;intro e fe;refine k2 _ _ (ap λD3 k3 _=>aB λa3 hK=>?_);have al:d≠e:=λc=>by rw[c,fe]at I;cases I
  have s2:=ah.upd (o:= .dK []) fe;have ge:upd H1 e (.dK []) e=some (.dK (gD ([]:Gs Str))):=aa;have I:=s2 _ _ I;have fe:=s1.free fe;have U:=s1.trans s2
  generalize upd H1 e (.dK [])=H2 at s2 ge I U
  lk;have ab:=hg.up U;refine qg ab (.inl rfl) %[g,c2,c3,c4,qs,n,ts,rfl,ab|λl1 an=> .inl %[l1,rfl,%[_|SqL.of aa]|hK _ _ ?_]];have s3:=ah.upd (o:= .lst (n.map V.str)) an;have J:upd H2 l1 (.lst (n.map V.str)) l1=_:=aa;have I:=s3 _ _ I;have ge:=s3 _ _ ge;have ac:=U.trans s3
  generalize upd H2 l1 (.lst (n.map V.str))=H3 at s3 J I ge ac
  have r2:∀z∈n,r (r z)=r z:=λz L=>by
   have h:=(C z L)
   have h2:=(C _ h.1).2;exact h2.one %[.refl _|λy c=>h.2.2 y (h.2.1.trans c)]
  have ae:∀z∈n,r z≠z->a8 (r z) z=true:=λz L h=>gG ((C z L).2.2 z (.refl _)) h.symm
  obtain⟨M,aq,as,a0,Y,s0⟩:∃M:Hp,M e=none/\M d=some (.dK (NmD n r))/\M l1=some (.lst (n.map V.str))/\ah H M/\ah M H3:=by
   refine%[λa=>if a=e then none else H3 a,if_pos rfl,?_,?_,λa o h=>?_|λa o h=>?_]
   .exact(if_neg (λc=>al c)).trans I
   .exact(if_neg (λc=>by rw[c,ge]at J;cases J)).trans J
   .exact(if_neg (λc=>by rw[c,fe]at h;cases h)).trans (ac _ _ h)
   .have h:(if a=e then none else H3 a)=some o:=h
    split at h
    .cases h
    .exact h
  refine bz (xs:=n.map V.str) (λi σ H'=>(∃o3,σ=[!g,!d,!e,o3])/\ah M H'/\∃u,jm V.str M H' e u/\u.map (λg=>(g.1,g.2.2))=grp r (n.take i))
   %[%[_|rfl],s0,[],%[ge,λg hg=>(nomatch hg)|X6]|rfl] (λi σ H' _ h=>SqL.of (h.2.1 _ _ a0)) ?_ ?_
  .intro i x σ H' hx %[%[o3|rfl],N,u,b|t];rw[Zl]at hx;have%[z,L|rfl]:=map_eq_some_iff.mp hx;have zm:=Z8 L;have i1:i<n.length:=(Xn L).1;show kr _ _ [!g,!d,!e,-z] H';refine aI λD4 k4 _=>?_
   lk;have get:=cP.k (k:=Sum.inr z) (N _ _ as);rw[qf zm]at get;have gk:u.map (·.1)=(grp r (n.take i)).map (·.1):=by rw[<-t,Ys];rfl
   have ag:(u.map (·.1)).Nodup:=by rw[gk];exact mI (nd.sublist (List.take_sublist _ _))
   have gl:u.length<=n.length:=by
    have:=STab.nodup_sub ag (m:=n) λy hy=>by rw[gk,jB]at hy;exact Yy hy.1
    rw[Z6]at this;exact this
   have zn:z∉n.take i:=λhm=>by
    have h:=nd;rw[<-Xc i n,X3]at h;exact h.2.2 z hm z (Z8 (i:=0) (by rw[Yb];exact L)) rfl
   have tk:n.take (i+1)=n.take i++[z]:=by rw[Xb,L];rfl
   refine%[.inr (.inr (.inl (.inl %[_|b.at_]))),_,get,#[0]|λp O=>%[Sum.inr (r z),rfl,gD u,?_,?_,λv hv=>?_|λhv=>?_]]
   .rw[am (λc=>by rw[<-c,b.at_]at O;cases O)];exact b.at_
   .unfold gD;rw[Z6];exact aE ⋯
   .have%[q,B,e1|rfl]:=iw hv;have a1:q.1∈u.map (·.1):=Xr %[q,B|rfl];have ai:=a1;rw[gk,jB,e1]at ai;have rn:r z≠z:=λc=>zn (by exact c▸ai.1)
    have sp:=ah.upd (o:= .lst []) O;have hl:=sp _ _ (b.la q B).2;have G:=(b.up sp).add ag B z;have ml:q.2.2.length<=n.length:=by
     have:(q.1,q.2.2)∈grp r (n.take i):=t▸Xr %[q,B|rfl];have%[y,hy|c]:=Xq this;exact((Prod.mk.inj c).2)▸Yh (Yj _ _) (by rw[Ym];lia)
    refine%[.inl %[_|SqL.of hl],_,rfl,_,hl,by rw[Z6];exact aE ⋯|k4 _ _ %[%[_|rfl],ah.set (N.trans sp) (b.la q B).1,_,G|?_]];rw[Hy,t,tk,Fi rn,e1]
   .have nk:r z∉u.map (·.1):=λh=>by
     have%[q,B|c]:=Xq h;have:=mJ B;rw[c,hv]at this;exact this rfl
    have rz:r z=z:=Decidable.byContradiction λc=>nk (by rw[gk,jB];exact%[iu so L (C z zm).1 (ae z zm c)|r2 z zm])
    have de:e≠p:=λq=>by rw[<-q,b.at_]at O;cases O
    rw[rz]at hv nk ⊢;have gp:upd (upd H' p (.lst [])) e (.dK (cX (gD u) (Sum.inr z) (.ref p))) p=some (.lst []):=by rw[am de.symm,aa]
    refine%[.inl %[_|SqL.of gp],[],gp,(show 0<sizeLine by decide)|k4 _ _ %[%[_|rfl],ah.set (ah.set (N.trans (ah.upd O)) aq) (N.free O),_,b.new N O z z nk|?_]];rw[Zd,t,tk,Fh rz zn λx hx=>?_]
    .rfl
    .have%[j|hj]:=List.mem_iff_getElem?.mp hx;have xm:=Yy hx;by_cases c:r x=x
     .rw[c];exact hx
     .have ji:j<i:=by have:=(Xn hj).1;rw[Ym]at this;lia
      rw[Yd ji]at hj;exact List.take_subset_take_left _ (Yf ji) (iu so hj (C x xm).1 (ae x xm c))
  intro σ H' %[%[o3|rfl],N,u,b|t];rw[lm,Zn (Zi _)]at t;refine k3 _ _ ?_;lk;have gk:u.map (·.1)=(grp r n).map (·.1):=by rw[<-t,Ys];rfl
  have gl:u.length<=n.length:=by
   have:=STab.nodup_sub (l:=u.map (·.1)) (gk▸mI nd) (m:=n) λy hy=>by rw[gk,jB]at hy;exact hy.1
   rw[Z6]at this;exact this
  refine%[.inr (.inr (.inl (.inl %[_|b.at_]))),%[_|b.at_]|λv fv=>%[e,aa,_,ah.upd fv _ _ b.at_|λl fl=>?_]];have sv:=ah.upd (o:=vH v e) fv;have sl:=ah.upd (o:= .lst ((gD u).map (·.2))) fl;have a2:=N.trans (sv.trans sl);refine kk l _ (u.map (·.2)) (Y.trans a2) ((Y.trans (N.trans sv)).free fl) ?_ (λs hs=>?_) (λs hs=>?_) %[r,C|?_] (by rw[Z6];lia)
  .rw[aa];unfold gD;rw[Ys,Ys];rfl
  .have%[q,B|rfl]:=Xq hs;exact sl _ _ (sv _ _ (b.la q B).2)
  .have%[q,B|rfl]:=Xq hs;exact Y.free (b.la q B).1
  .rw[<-t,Ys,Ys];rfl
structure aC (S:Str->Str->Prop) (ks0 ks:List _):Prop where
 nd:ks.Nodup
 so:ks.Pairwise (λa b=>dJ b a=false)
 mem:∀k,k∈ks↔∃a b z a' b',[a,b,z]∈ks0/\cz S a a'/\cz S b b'/\k=[a',b',z]
def aC.one{S:Str->Str->Prop}(h:aC S c ks)(g:aC S c d):ks=d:=
 pI dJ (λ_ _ a b=>mw a b) h.so g.so h.nd g.nd λx=>(h.mem x).trans (g.mem x).symm
abbrev xS(r:Str->Str):ZB->ZB
 |[a,b,z]=>[r a,r b,z]
 | k=>k
def xT{S:Str->Str->Prop}{c:List _}{l:ZB}{r:Str->Str}(m:∀k∈c,bM l k)(f:∀z∈l,cz S z (r z))(k:ZB):k∈c.map (xS r)↔∃a b z g h,[a,b,z]∈c/\cz S a g/\cz S b h/\k=[g,h,z]:=by
 rw[mem_map]
 constructor
 .rintro⟨t,d,rfl⟩;have%[a,b,z,rfl,i|j]:=m t d;exact%[a,b,z,r a,r b,d,f a i,f b j|rfl]
 .rintro⟨a,b,z,g,h,d,n,o,rfl⟩;have%[x,y,u,e,i|j]:=m _ d;simp only[List.cons.injEq,and_true]at e;have%[rfl,rfl|rfl]:=e;exact%[_,d|by rw[<-(f a i).one n,<-(f b j).one o];rfl]
inductive wp (mg:ZC)
 | mk (g c2 c3 c4 qs ls ts):vs=[.ref g]->GrF mg H g c2 c3 c4 qs ls ts->ls.Nodup->ls.Pairwise (λa b=>a8 b a=false)->ls.length<=5000->ts.length<=181->(∀k∈ts.map (·.2),bM ls k)->(∀l H' ss,ah H H'->H l=none->H' l=some (.lst (ss.map λt=>V.ref t.1))->ba H' ss->aC (aH qs) (ts.map (·.2)) (ss.map (·.2))->ss.length<=181->Q (.ref l) H')->wp mg vs H Q E0
def yQ(T:Txt K mg):Cal P w K mg base 4 "links" ["ground"] (wp mg):=by
 refine T.aD.cal vV (λH vs Q E h=>?_)
 .have%[g,c2,c3,c4,qs,ls,ts,rfl,hg,nd,so,ab,a0,h3|kk]:=h;refine%[rfl|λf as A outer s v=>?_];refine%[_,%["JC%1efF~*A0BDH~B~%A~I~&Aja?1P~C]m0bMS0?2MS1?2MS2?2cpgAhW30AhW31A2BBB",vV.nd,(show bF _ _ _ ["later","earlier","source","names"] [(3,1)]=true from rfl),(show(["later","earlier","source","names"]:ZB).Nodup from !0)|v]|?_]
  show bq _ _ _ [!g,none] H;refine ap λD1 k1 _=>?_
  lk;refine%[g,c2,c3,c4,qs,ls,ts,rfl,hg,nd,so,ab|λd H1 r s1 fd hd v=>k1 _ _ ?_];lk;refine aF λaq hK=>?_
  lk;have B:=hg.up s1;refine qg B (.inr (.inr rfl)) %[g,c2,c3,c4,qs,ls,ts,rfl,B|λL ac=> .inl %[L,rfl,%[_|SqL.of aa]|hK _ _ λF hF=>?_]];have s2:=ah.upd (o:= .lst (ts.map λt=>V.ref t.1)) ac;have u:upd H1 L (.lst (ts.map λt=>V.ref t.1)) L=_:=aa
  generalize upd H1 L (.lst (ts.map λt=>V.ref t.1))=H2 at s2 u hF
  have ae:=s2 _ _ hd;have ag:=(B.up s2).tu;refine bh (J:=Itl K L) (n:=ts.length) (D:=F) (λj vs σ M=>(∃o1 o2 o3,σ=[o1,o2,o3,!d])/\ah H2 M/\M F=some (.lst vs)/\∃ps:ZG,vs=ps.map (λp=>V.ref p.1)/\ba M ps/\ps.map (·.2)=((ts.take j).map (·.2)).map (xS r))
   %[%[none,none,none|rfl],ah.upd hF,aa,[],rfl,jh _|rfl] (λj _ _ M G C=>%[_,V.ref ts[j].1,SqL.of (C.2.1 _ _ u)|by simp[G]]) (λ_ _ M C=>%[_,SqL.of (C.2.1 _ _ u)|by simp]) ?_ ?_
  .intro j vs σ H3 G %[%[o1,o2,o3|rfl],I,N,ps,hv,i|c] x H4 %[e2|hx];subst e2;have O:=hx _ (SqL.of (I _ _ u));rw[Zl,Z4 G]at O;obtain rfl:x=V.ref ts[j].1:=(Za O).symm;have tj:=Ye G;have%[a,b,z,e,ha|hb]:=h3 _ (Xr %[_,tj|rfl]);have st:=I _ _ (ag _ tj).2;rw[e]at st;have get:∀y∈ls,cP H4 d (.str y) (some (.str (r y))):=λy hy=>by
    have:=cP.k (k:=Sum.inr y) (I _ _ ae);rw[qf hy]at this;exact this
   refine%[_,SqT.of st,rfl,_,_,rfl,_,_,rfl,_,_,rfl,rfl|?_];show uT [-a,-b,-z,!d] _ _;lk;refine%[_,get a ha,_,get b hb,#[3]|λp hp=>?_];have sp:=ah.upd (o:= .tup [V.str (r a),V.str (r b),V.str z]) hp;have gp:upd H4 p (.tup [V.str (r a),V.str (r b),V.str z]) p=_:=aa;have pl:=congrArg List.length c;rw[Z6,Z6,Z6,Ym]at pl;refine CK.mk G (sp _ _ N) (by rw[hv,Z6];exact aE ⋯) %[%[_,_,_|rfl],ah.set (I.trans sp) hF,aa,ps++[(p,[r a,r b,z])],by rw[hv,Zd];rfl,aY (jz (aY i λb z e=>sp _ _ e) ∅ gp) (lQ (ys:=vs++[V.ref p]) (sp _ _ N))|?_];rw[Zd,c,Xb,Z4 G,Zd,Zd];show _++[_]=_++[xS r ts[j].2];rw[e];rfl
  intro vs σ H3 %[_,I,ai,ps,hv,i|c];rw[Zn (Zi _)]at c;have pl:=congrArg List.length c;rw[Z6,Z6,Z6]at pl;have p3:∀q∈ps,q.2.length=3:=λq l=>by
   have:q.2∈ps.map (·.2):=Xr %[q,l|rfl];rw[c]at this;have%[k,hk|e]:=Xq this;have%[a,b,z,rfl|_]:=h3 k hk;rw[<-e];rfl
  refine%[F,rfl,ps,hv▸SqL.of ai,i,%[ps.map (·.2),by rw[Z6];lia|λq l=>Xr %[q,l|rfl]]|λl5 aj=>?_];have s5:=ah.upd (o:=pA P w l5 (be ps)) aj;have al:(be ps).length<=181:=by
   have:=STab.nodup_sub (d9 ps) (m:=ps.map (·.2)) λk hk=>by
    have%[q,l|rfl]:=Xq hk;exact Xr %[q,bv ps q l|rfl]
   rw[Z6,Z6]at this
   lia
  refine%[be ps,aa,λq l=>%[(i q (bv ps q l)).1|s5 _ _ (i q (bv ps q l)).2],3,λq l=>p3 q (bv ps q l),!1,⋯|λl6 ss U pm an=>?_];have s6:=ah.upd (o:= .lst (ss.map λq=>V.ref q.1)) U;have Y:=s1.trans (s2.trans (I.trans s5));have pk:(ss.map (·.2)).Perm ((be ps).map (·.2)):=pm.map _;refine kk l6 _ ss (Y.trans s6) (Y.free U) aa (λq l=>?_) %[pk.nodup_iff.mpr (d9 ps),by rw[Xa];exact an|λk=>?_] (pm.length_eq▸al)
  .have:=i q (bv ps q (pm.mem_iff.mp l));exact%[this.1|s6 _ _ (s5 _ _ this.2)]
  .rw[pk.mem_iff,ic,c];exact xT h3 (λz hz=>(v z hz).2) k
def De{S:Str->Str->Prop}(d:c.Pairwise (λa b=>a8 b a=false))(h:∀z∈c,r z∈c/\cz S z (r z))(i:p∈grp r c):p.2[0]? =some p.1:=by
 have%[z,j|rfl]:=Xq i;have%[l|m]:=List.mem_filter.mp j;have f:z∈c.filter (λx=>decide (r x=z)):=List.mem_filter.mpr %[l|m];have d:=d.sublist (List.filter_sublist (p:=λx=>decide (r x=z)));have all:∀x∈c.filter (λx=>decide (r x=z)),a8 x z=false:=λx n=>by
  have%[o|s]:=List.mem_filter.mp n;exact(Zo s)▸(h x o).2.2 x (.refl _)
 show(c.filter _)[0]? =some z
 generalize c.filter _=g at all f d
 cases g with
 | nil=>cases f
 | cons y g=>
   rw[List.getElem?_cons_zero];rcases mem_cons.mp f with e|e
   .rw[e]
   .have a:=(List.pairwise_cons.mp d).1 z e;by_cases q:y=z
    .rw[q]
    .have:=gG (all y Zm) q
     grind
structure fJ (S:Str->Str->Prop) (ls ns:ZB):Prop where
 nd:ns.Nodup
 mem:∀x,x∈ns↔x∈ls/\cz S x x
 so:ns.Pairwise (λa b=>a8 b a=false)
 ne:ls≠[]->ns≠[]
def HA{S:Str->Str->Prop}{a:ZB}{r:Str->Str}(c:∀z∈a,r z∈a/\cz S z (r z))(h:a≠[]):(grp r a).map (·.1)≠[]:=by
 have%[z|f]:=List.exists_mem_of_ne_nil _ h;have%[e|b]:=c z f;have g:cz S (r z) (r z):=%[b.1.symm.trans b.1|λy d=>b.2 y (b.1.trans d)]
 exact List.ne_nil_of_mem (jB.mpr %[e|(c _ e).2.one g])
def HB{r:Str->Str}{xs:ZB}(h:xs.Pairwise (λa b=>a8 b a=false)):((grp r xs).map (·.1)).Pairwise (λa b=>a8 b a=false):=by
 unfold grp;rw[Ys];show List.Pairwise _ (List.map (λz=>z) _);rw[List.map_id'];exact h.filter _
inductive sR (mg:ZC)
 | mk (g c2 c3 c4 qs ls ts):vs=[.ref g]->GrF mg H g c2 c3 c4 qs ls ts->ls.Nodup->ls.Pairwise (λa b=>a8 b a=false)->ls.length<=5000->(∀l H' ns,ah H H'->H l=none->H' l=some (.lst (ns.map V.str))->fJ (aH qs) ls ns->Q (.ref l) H')->sR mg vs H Q E0
def cD(T:Txt K mg):Cal P w K mg base 5 "deposit_names" ["ground"] (sR mg):=by
 refine T.aC.cal mC (λH vs Q E h=>?_)
 .have%[g,c2,G,I,qs,c,ts,rfl,hg,nd,q,t|kk]:=h;refine%[rfl|λf Y A outer s b=>?_];refine%[_,%["JDHja?1PF]nA0BS0?2pU0E",0,(show bF _ _ _ ["group"] []=true from rfl),(show(["group"]:ZB).Nodup from by simp)|b]|?_];show jX _ _ [!g] H;lk;refine aF λL hK=>?_
  lk;refine%[g,c2,G,I,qs,c,ts,rfl,hg,nd,q,t|λM H1 ss N f1 o la _ ⟨r,b,ed⟩ ab=> .inl %[M,rfl,%[_|SqL.of o]|hK _ _ λF u=>?_]];have sg:ss.length=(grp r c).length:=by
   have:=congrArg List.length ed;rwa[Z6,Z6]at this
  refine bh (J:=Itl K M) (n:=ss.length) (D:=F) (λj vs v p=>(∃O,v=[O])/\ah H1 p/\p F=some (.lst vs)/\vs=(((grp r c).take j).map (·.1)).map V.str)
   %[%[none|rfl],ah.upd u,aa|rfl] (λj _ _ p d a=>%[_,V.ref ss[j].1,SqL.of (a.2.1 _ _ o)|by simp[d]]) (λ_ _ p a=>%[_,SqL.of (a.2.1 _ _ o)|by simp]) ?_ ?_
  .intro j vs v U d %[%[O|rfl],e,y|i] x H4 %[B|hx];subst B;have l:=hx _ (SqL.of (e _ _ o));rw[Zl,Z4 d]at l;obtain rfl:x=V.ref ss[j].1:=(Za l).symm;have C:j<(grp r c).length:=by lia
   have B:ss[j].2=(grp r c)[j].2:=by
    have:=congrArg (λz=>z[j]?) ed;simpa [d,C]using this
   lk;refine%[_,SqL.of (e _ _ (la _ (Ye d))),_,(show atI (ss[j].2.map V.str) ((0:Nat):Int)=some _ from cO (by rw[Zl,B,(De q b (Ye C))];rfl))|?_];refine CK.mk d y (by rw[i,Z6,Z6,Ym];exact aE ⋯) %[%[_|rfl],ah.set e u,aa|?_];rw[i,Xb,Z4 C,Zd,Zd];rfl
  intro vs v U %[_,e,m|i];rw[Zn ⋯]at i;rw[i]at m;refine kk F U _ (N.trans e) (N.free u) m %[mI nd,λx=>?_,HB q|HA b];rw[jB];refine%[λh=>%[h.1|by have:=(b x h.1).2;rwa[h.2]at this]|λh=>%[h.1|(b x h.1).2.one h.2]]
abbrev GrB(H:Hp)(d:Addr)(ss:ZG)(i:Nat):Prop:=∃a,H d=some (.dK a)/\∀n,(∃l,bH a (Sum.inr n)=some (.ref l)/\H l=some (.lst ((ss.filter λt=>decide (t.2[i]? =some n)).map λt=>V.ref t.1)))\/(bH a (Sum.inr n)=none/\∀t∈ss,t.2[i]? ≠some n)
def GrB.up(h:GrB H d ss i)(s:ah H e):GrB e d ss i:=by
 have%[c,f|g]:=h;exact%[c,s _ _ f|λn=>(g n).imp_left λ⟨l,a,b⟩=>%[l,a|s _ _ b]]
abbrev dM(H:Hp)(a:ZB)(ss:ZG):Prop:=∀t∈ss,H t.1=some (.tup (t.2.map V.str))/\bM a t.2
def dM.up(h:dM H b ss)(s:ah H c):dM c b ss:=λt a=>%[s _ _ (h t a).1|(h t a).2]
def HD(h:bM c k)(hi:i<2):∃n,k[i]? =some n/\n∈c:=by
 have%[a,b,z,rfl,d|e]:=h
 match i,hi with
 | 0,_=>exact%[a,rfl|d]
 | 1,_=>exact%[b,rfl|e]
inductive qh
 | mk (l:Addr) (i:Nat) (ns:ZB) (ss:List _):vs=[.ref l,.int i]->i<2->H l=some (.lst (ss.map λt=>V.ref t.1))->dM H ns ss->ss.length<=181->(∀d H',ah H H'->H d=none->GrB H' d ss i->Q (.ref d) H')->qh vs H Q E0
inductive Df (i:Nat)
 | mk (l ns ss):vs=[.ref l]->H l=some (.lst (ss.map λt=>V.ref t.1))->dM H ns ss->ss.length<=181->(∀d H',ah H H'->H d=none->GrB H' d ss i->Q (.ref d) H')->Df i vs H Q E0
def sS(T:Txt K mg):Cal P w K mg base 1 "grouped" ["found","side"] qh:=by
 refine T.aG.cal kg (λH vs Q E h=>?_)
 .have%[l,i,ns,ss,rfl,hi,Y,ab,aj|kk]:=h;refine%[rfl|λf ai A outer s hr=>?_];have ac:(ss.map λt=>V.ref t.1).length=ss.length:=Z6 _;refine%[_,%["JCG2zCTP0K3DZ~+l~,~.2AQ31ARBBA3BDH2"|kg.nd]|?_]
  show bq _ _ _ [!l,some (.int i),none,none] H;refine ap λD1 k1 _=>?_
  lk;intro e fe;refine k1 _ _ (ap λD2 k2 _=>aB λag hK=>?_);lk;have se:=ah.upd (o:= .dK []) fe;refine .inl %[%[_|SqL.of (se _ _ Y)]|hK _ _ ?_];refine bz (xs:=ss.map λt=>V.ref t.1) (λj σ u=>(∃o3,σ=[!l,some (.int i),!e,o3])/\ah H u/\∃m,jm (λt:Addr×ZB=>V.ref t.1) H u e m/\(m.map (·.1)).Nodup/\(∀g∈m,g.2.2=(ss.take j).filter λt=>decide (t.2[i]? =some g.1))/\∀n,n∈m.map (·.1)↔∃t∈ss.take j,t.2[i]? =some n)
   %[%[_|rfl],se,[],%[aa,λg B=>(nomatch B)|X6],X6,λg B=>(nomatch B)|by simp] (λj σ u _ h=>SqL.of (h.2.1 _ _ Y)) ?_ ?_
  .intro j x σ u hx %[%[o3|rfl],I,m,d,gn,J|O];rw[Zl]at hx;have%[t,L|rfl]:=map_eq_some_iff.mp hx;have tm:=Z8 L;have j1:j<ss.length:=(Xn L).1;have%[n,M|_]:=HD (ab t tm).2 hi;have tk:ss.take (j+1)=ss.take j++[t]:=by rw[Xb,L];rfl
   show kr _ _ [!l,some (.int i),!e,some (.ref t.1)] u;refine aI λD4 k4 _=>?_
   lk;have gl:m.length<=ss.length:=by
    have:m.map (·.1) ⊆ ss.filterMap λt=>t.2[i]? :=λy hy=>by
     have%[t,L|e]:=(O y).mp hy;exact mem_filterMap.mpr %[t,Yy L|e]
    have:=STab.nodup_sub gn λx hx=>this hx
    rw[Z6]at this;exact Yh this (List.length_filterMap_le _ _)
   have st:=I _ _ (ab t tm).1;have C:∀(N:Gs (Addr×ZB)),(∀y,y∈N.map (·.1)↔y∈m.map (·.1)\/y=n)->∀y,y∈N.map (·.1)↔∃t∈ss.take (j+1),t.2[i]? =some y:=λN h y=>by
    rw[h,O,tk]
    constructor
    .rintro(⟨t',h1,h2⟩|rfl)
     .exact%[t',Yu _ h1|h2]
     .exact%[t,Yv _ Zm|M]
    .rintro⟨t',h1,h2⟩;rcases Xo h1 with q|q
     .exact .inl %[t',q|h2]
     .rw[Xp q,M]at h2;exact .inr (Za h2).symm
   refine%[.inr (.inr (.inl (.inl %[_|d.at_]))),_,SqT.of st,_,cO (show(t.2.map V.str)[i]? =some (.str n) by rw[Zl,M];rfl),#[0]|λp G=>%[Sum.inr n,rfl,gD m,?_,?_,λv U=>?_|λU=>?_]]
   .rw[am (λc=>by rw[<-c,d.at_]at G;cases G)];exact d.at_
   .unfold gD;rw[Z6];exact aE ⋯
   .have%[q,r,e1|rfl]:=iw U;have sp:=ah.upd (o:= .lst []) G;have Y:=sp _ _ (d.la q r).2;have ml:q.2.2.length<=ss.length:=by
     rw[J q r];exact Yh (Yj _ _) (by rw[Ym];lia)
    have ka:(qT q.1 t m).map (·.1)=m.map (·.1):=by
     unfold qT;rw[Ys];refine Yq λg _=>?_
     show(if g.1=q.1 then(g.1,g.2.1,g.2.2++[t])else g).1=_
     split<;> rfl
    refine%[.inl %[_|SqL.of Y],_,rfl,_,Y,by rw[Z6];exact aE ⋯|k4 _ _ %[%[_|rfl],ah.set (I.trans sp) (d.la q r).1,_,((d.up sp).add gn r t),ka▸gn,λg B=>?_|C _ λy=>?_]]
    .unfold qT at B;have%[g0,h0|rfl]:=Xq B;rw[tk,Y2];by_cases c:g0.1=q.1
     .rw[if_pos c];show g0.2.2++[t]=_++List.filter (λt=>decide (t.2[i]? =some g0.1)) [t];rw[J g0 h0,Y4 (by rw[M,c,e1];simp),Y6]
     .rw[if_neg c,J g0 h0,Y3 (by rw[M,<-e1];simpa using λz=>c z.symm),Y6,Zz]
    .rw[ka];exact%[.inl|λh=>h.elim id λh=>by rw[h,<-e1];exact Xr %[q,r|rfl]]
   .have nk:n∉m.map (·.1):=λh=>by
     have%[q,r|c]:=Xq h;have:=mJ r;rw[c,U]at this;exact this rfl
    have de:e≠p:=λq=>by rw[<-q,d.at_]at G;cases G
    have gp:upd (upd u p (.lst [])) e (.dK (cX (gD m) (Sum.inr n) (.ref p))) p=some (.lst []):=by rw[am de.symm,aa]
    refine%[.inl %[_|SqL.of gp],[],gp,(show 0<sizeLine by decide)|k4 _ _ %[%[_|rfl],ah.set (ah.set (I.trans (ah.upd G)) fe) (I.free G),_,d.new I G n t nk,?_,λg B=>?_|C _ λy=>?_]]
    .rw[Zd,X3];exact%[gn,by simp|λa ha b hb c=>nk (by rw[<-show b=n from Xp hb,<-c];exact ha)]
    .rw[tk,Y2];rcases Xo B with q|q
     .have c:g.1≠n:=λc=>nk (c▸Xr %[g,q|rfl])
      rw[J g q,Y3 (by rw[M];simpa using λz=>c z.symm),Y6,Zz]
     .rw[Xp q];show [t]=_++List.filter (λt=>decide (t.2[i]? =some n)) [t];rw[Y4 (by rw[M];simp),Y6,List.filter_eq_nil_iff.mpr λt' ae c=>nk ((O n).mpr %[t',ae|Zo c])];rfl
    .rw[Zd,Yt,Yr,map_nil,Yz]
  .intro σ u %[%[o3|rfl],I,m,d,gn,J|O];rw[ac,Zn (Zi _)]at J O;refine k2 _ _ ?_;lk;refine kk e u I fe %[_,d.at_|λn=>?_];cases U:bH (gD m) (Sum.inr n)with
   | none=>
     refine .inr %[rfl|λt L c=>?_];have%[q,r|c]:=Xq ((O n).mpr %[t,L|c]);have:=mJ r;rw[c,U]at this;exact this rfl
   | some v=>
     have%[q,r,e1|rfl]:=iw U;refine .inl %[_,rfl|?_];rw[(d.la q r).2,J q r,e1]
def d5(T:Txt K mg):Cal P w K mg base 2 "links_by_later" ["found"] (Df 0):=by
 refine T.aE.cal lq (λH vs Q E h=>?_)
 .have%[l,c,ss,rfl,g,a,b|i]:=h;refine%[rfl|λf d A outer s e=>?_];exact%[_,%["JDHF~/A0A}B",0|e],l,0,c,ss,rfl,by simp,g,a,b|i]
def ki(T:Txt K mg):Cal P w K mg base 2 "links_by_earlier" ["found"] (Df 1):=by
 refine T.aF.cal jF (λH vs Q E h=>?_)
 .have%[l,c,ss,rfl,g,a,b|i]:=h;refine%[rfl|λf d A outer s e=>?_];exact%[_,%["JDHF~/A0A~DB",0|e],l,1,c,ss,rfl,by simp,g,a,b|i]
structure ReB (ss:ZG) (rs:Gs Str):Prop where
 nd:(rs.map (·.1)).Nodup
 sub:∀r∈rs,r.2∈ss/\r.2.2[1]? =some r.1
def ReB.len(h:ReB ss rs):rs.length<=ss.length:=by
 have:=STab.nodup_sub h.nd (m:=ss.filterMap λt=>t.2[1]?) λx a=>by
  have%[r,b|rfl]:=Xq a;exact mem_filterMap.mpr %[r.2|h.sub r b]
 rw[Z6]at this;exact Yh this (List.length_filterMap_le _ _)
def ReB.snoc(h:ReB ss rs)(d:(a,[p,y,z])∈ss)(e:y∉rs.map (·.1)):ReB ss (rs++[(y,a,[p,y,z])]):=by
 refine%[?_|λr f=>?_]
 .rw[Zd,X3];exact%[h.nd,by simp|λa g b i c=>e (by rw[<-show b=y from Xp i,<-c];exact g)]
 .rcases Xo f with q|q
  .exact h.sub r q
  .rw[Xp q];exact%[d|rfl]
abbrev dw(d:Addr)(H a:Hp):Prop:=∀b o,b≠d->H b=some o->a b=some o
def dw.trans(h:dw d H c)(g:dw d c a):dw d H a:=λb o n e=>g b o n (h b o n e)
def dw.of(h:ah H a):dw d H a:=λb o _ e=>h b o e
def GrB.x(h:GrB H b ss i)(s:dw d H f)(n:b≠d)(m:H d=some (.dK o)):GrB f b ss i:=by
 have%[e,g|j]:=h;exact%[e,s _ _ n g|λn=>(j n).imp_left λ⟨l,a,b⟩=>%[l,a|s _ _ (λc=>by lia) b]]
def dM.x(h:dM H e ss)(s:dw d H f)(g:H d=some (.dK i)):dM f e ss:=λt a=>%[s _ _ (λc=>by have b:=(h t a).1;grind) (h t a).1|(h t a).2]
def GrB.get(h:GrB f b ss i)(s:dw d f H)(nb:b≠d)(q:∀xs,f d≠some (.lst xs))(r:H p=none)(n:Str):∃e a,upd H p (.lst []) b=some (.dK e)/\(bH e (Sum.inr n)).getD (.ref p)= .ref a/\upd H p (.lst []) a=some (.lst ((ss.filter λt=>decide (t.2[i]? =some n)).map λt=>V.ref t.1))/\(a=p\/∃o,f a=some o):=by
 have%[e,m|u]:=h;have sp:=ah.upd (o:= .lst []) r;rcases u n with⟨l,g,j⟩|⟨g,v⟩
 .exact%[e,l,sp _ _ (s _ _ nb m),by rw[g];rfl,sp _ _ (s _ _ (λc=>q _ (c▸j)) j)|.inr %[_|j]]
 .refine%[e,p,sp _ _ (s _ _ nb m),by rw[g];rfl,?_|.inl rfl];rw[List.filter_eq_nil_iff.mpr λt y c=>v t y (Zo c)];exact aa
inductive yR
 | mk (b e d:Addr) (ns F:ZB) (ss:List _) (rs:Gs Str):vs=[.ref b,.ref e,.ref d]->b≠d->GrB H b ss 0->dM H ns ss->ss.length<=181->H e=some (.lst (F.map V.str))->H d=some (.dK (gD rs))->ReB ss rs->(∀g H' new,dw d H H'->H g=none->H' g=some (.lst ((new.map (·.1)).map V.str))->H' d=some (.dK (gD (rs++new)))->ReB ss (rs++new)->(∀r∈new,∃p∈F,r.2.2[0]? =some p)->(∀x∈F,∀y,Ed (ss.map (·.2)) x y->y∈(rs++new).map (·.1))->Q (.ref g) H')->yR vs H Q E0
def wq(T:Txt K mg):Cal P w K mg base 1 "next_edge" ["beneath","edge","reached"] yR:=by
 refine T.aK.cal eM (λH vs Q E h=>?_)
 .have%[b,e,d,ns,F,ss,rs,rfl,ai,hb,aj,bf,he,hd,a3|kk]:=h;refine%[rfl|λf bc A outer s hr=>?_];have Fm:(F.map V.str).length=F.length:=Z6 _;have ed:e≠d:=λc=>by rw[c,hd]at he;cases he
  refine%[_,%["JCG3RBCTP1K4DTP~N~a0A4ARBBK5DN=Q5~D2Cu52Q5~DDZol3AQ5~DBODH3",eM.nd|hr]|?_]
  show bq _ _ _ [!b,!e,!d,none,none,none] H;refine ap λD1 k1 _=>?_
  lk;refine%[#[0]|λg fg=>k1 _ _ (ap λD2 k2 _=>aB λal hK=>?_)];have gd:g≠d:=λc=>by rw[c,hd]at fg;cases fg
  have s1:=ah.upd (o:= .lst []) fg;have gg:upd H g (.lst []) g=some (.lst ((([]:Gs Str).map (·.1)).map V.str)):=aa
  generalize upd H g (.lst [])=H1 at s1 gg
  lk;refine .inl %[%[_|SqL.of (s1 _ _ he)]|hK _ _ ?_];refine bz (xs:=F.map V.str) (λi Y H'=>(∃o4 o5,Y=[!b,!e,!d,!g,o4,o5])/\dw d H H'/\∃new:Gs Str,H' g=some (.lst ((new.map (·.1)).map V.str))/\H' d=some (.dK (gD (rs++new)))/\ReB ss (rs++new)/\(∀r∈new,∃p∈F,r.2.2[0]? =some p)/\∀x∈F.take i,∀y,Ed (ss.map (·.2)) x y->y∈(rs++new).map (·.1))
   %[%[_,_|rfl],dw.of s1,[],gg,by rw[Zz];exact s1 _ _ hd,by rw[Zz];exact a3,λr hr=>(nomatch hr)|λx C=>(nomatch C)] (λi Y H' _ h=>SqL.of (h.2.1 _ _ ed he)) ?_ ?_
  .intro i x Y H' C %[%[o4,o5|rfl],sm,new,hg,l,L,ae|m];rw[Zl]at C;have%[n,hn|rfl]:=map_eq_some_iff.mp C;have tk:F.take (i+1)=F.take i++[n]:=by rw[Xb,hn];rfl
   show Bl _ _ _ _ [!b,!e,!d,!g,-n,o5] H';refine aI λD3 k3 _=>aB λal hK=>?_
   lk;refine%[.inr (.inr (.inl (.inl %[_|sm _ _ ai hb.choose_spec.1]))),#[0]|λp hp=>?_];have%[a4,a,an,a5,M|a6]:=hb.get sm ai (λxs c=>by rw[hd]at c;cases c) hp n;have ag:a≠g:=by
    rcases a6 with rfl|⟨o,ho⟩
    .exact λc=>by rw[c,hg]at hp;cases hp
    .exact λc=>by rw[c,fg]at ho;cases ho
   have ad:a≠d:=λc=>by
    have:=M;rw[c,am (λc=>by rw[c,hp]at l;cases l),l]at this;cases this
   have sp:=ah.upd (o:= .lst []) hp;have hg:=sp _ _ hg;have l:=sp _ _ l;have sm:=sm.trans (dw.of sp)
   generalize upd H' p (.lst [])=H2 at an M sp hg l sm ⊢
   generalize aq:(ss.filter λt=>decide (t.2[0]? =some n))=ts at M
   have tm:(ts.map λt=>V.ref t.1).length=ts.length:=Z6 _;have a7:∀t∈ts,t∈ss/\∃y z,t.2=[n,y,z]:=λt ht=>by
    rw[<-aq]at ht;have%[h1|h2]:=List.mem_filter.mp ht;have%[x,y,z,e|_]:=(aj t h1).2;have h2:=Zo h2;rw[e]at h2;exact%[h1,y,z|by rw[e,show x=n from Za h2]]
   refine%[Sum.inr n,rfl,a4,an|.inl %[a,a5,%[_|SqL.of M]|hK _ _ ?_]];refine bz (xs:=ts.map λt=>V.ref t.1) (λj Y U=>(∃o5,Y=[!b,!e,!d,!g,-n,o5])/\dw d H U/\U a=some (.lst (ts.map λt=>V.ref t.1))/\∃new:Gs Str,U g=some (.lst ((new.map (·.1)).map V.str))/\U d=some (.dK (gD (rs++new)))/\ReB ss (rs++new)/\(∀r∈new,∃p∈F,r.2.2[0]? =some p)/\(∀x∈F.take i,∀y,Ed (ss.map (·.2)) x y->y∈(rs++new).map (·.1))/\∀t∈ts.take j,∀y,t.2[1]? =some y->y∈(rs++new).map (·.1))
    %[%[_|rfl],sm,M,new,hg,l,L,ae,m|λt ht=>(nomatch ht)] (λj Y U _ h=>SqL.of h.2.2.1) ?_ ?_
   .intro j x Y U C %[%[o5|rfl],N,O,new,ab,I,B,G,u|ac];rw[Zl]at C;have%[t,ht|rfl]:=map_eq_some_iff.mp C;have%[as,y,z|et]:=a7 t (Z8 ht);have J:=(aj.x N hd t as).1;rw[et]at J;have bb:ts.take (j+1)=ts.take j++[t]:=by rw[Xb,ht];rfl
    show nE _ _ _ _ [!b,!e,!d,!g,-n,some (.ref t.1)] U;refine aI λD4 k4 _=>?_
    lk;refine%[_,SqT.of J,_,rfl,_,cP.k (k:=Sum.inr y) I|?_];have a0:∀(nw:Gs Str),(∀x∈(rs++new).map (·.1),x∈(rs++nw).map (·.1))->y∈(rs++nw).map (·.1)->(∀x∈F.take i,∀y,Ed (ss.map (·.2)) x y->y∈(rs++nw).map (·.1))/\∀t∈ts.take (j+1),∀y,t.2[1]? =some y->y∈(rs++nw).map (·.1):=λnw mono hy=>by
     refine%[λx C y h=>mono y (u x C y h)|λt' a1 y' h=>?_];rw[bb]at a1;rcases Xo a1 with q|q
     .exact mono y' (ac t' q y' h)
     .rw[Xp q,et]at h;rw[<-show y=y' from Za h];exact hy
    cases hv:bH (gD (rs++new)) (Sum.inr y)with
    | some v=>
      rw[if_neg ∅];have%[q,hq,e1|_]:=iw hv;have%[n1|n2]:=a0 new (λ_ h=>h) (by rw[<-e1];exact Xr %[q,hq|rfl]);exact k4 _ _ %[%[_|rfl],N,O,new,ab,I,B,G,n1|n2]
    | none=>
      rw[if_pos (by rfl)];have hy:y∉(rs++new).map (·.1):=λh=>by
       have%[q,hq|c]:=Xq h;have:=mJ hq;rw[c,hv]at this;exact this rfl
      have ln:=B.len;have nl:new.length<=181:=by rw[Z9]at ln;lia
      refine%[_,SqT.of J,_,rfl,_,jD.k (k:=Sum.inr y) I (by unfold gD;rw[Z6];exact aE ⋯)|?_];rw[gj _ hv];have e1:gD (rs++new) ++[(Sum.inr y,V.ref t.1)]=gD (rs++(new++[(y,t.1,[n,y,z])])):=by
       unfold gD;rw[<-Ze,Zd (l₂:=[_])];rfl
      rw[e1];have u1:∀c o,c≠d->U c=some o->upd U d (.dK (gD (rs++(new++[(y,t.1,[n,y,z])])))) c=some o:=λc o h e=>(am h)▸e
      have a2:=u1 _ _ gd ab;have R:=B.snoc (p:=n) (y:=y) (z:=z) (a:=t.1) (et▸as) hy;rw[Ze]at R;have%[n1|n2]:=a0 (new++[(y,t.1,[n,y,z])]) (λx C=>by rw[<-Ze,Zd];exact Yu _ C) (by rw[<-Ze,Zd];exact Yv _ Zm);refine%[.inl %[_|SqL.of a2],_,SqT.of (u1 _ _ (λc=>by rw[c,I]at J;cases J) J),_,rfl,_,a2,by rw[Z6,Z6];exact aE ⋯|k4 _ _ %[%[_|rfl],λc o h e=>?_,(am ag).trans (u1 _ _ ad O),_,?_,(am gd.symm).trans aa,R,?_,n1|n2]]
      .rw[am (ay e fg)];exact u1 _ _ h (N _ _ h e)
      .rw[aa,Zd,Zd];rfl
      .intro r hr;rcases Xo hr with q|q
       .exact G r q
       .rw[Xp q];exact%[n,Z8 hn|rfl]
   .intro Y U %[%[o5|rfl],N,O,new,ab,I,B,G,u|ac];rw[tm,Zn (Zi _)]at ac;refine k3 _ _ %[%[_,_|rfl],N,new,ab,I,B,G|λx C y ⟨z,hy⟩=>?_];rw[tk]at C;rcases Xo C with q|q
    .exact u x q y %[z|hy]
    .rw[Xp q]at hy;have%[t,ht|et]:=Xq hy;exact ac t (aq▸List.mem_filter.mpr %[ht|by rw[et];simp]) y (by rw[et];rfl)
  .intro Y H' %[%[o4,o5|rfl],sm,new,hg,l,L,ae|m];rw[Fm,Zn (Zi _)]at m;refine k2 _ _ ?_;lk;exact kk g H' new sm fg hg l L ae m
def sT{b:Bool}(h: ¬ (not b)=true):b=true:=by
 cases b
 .exact absurd rfl h
 .rfl
def mK{rs:Gs Str}{y:Str}(h:y∈rs.map (·.1)):∃r∈rs,r.1=y/\bH (gD rs) (Sum.inr y)=some (.ref r.2.1):=by
 cases b:bH (gD rs) _ with
 | none=>
   have%[q,a|c]:=Xq h;have:=mJ a;rw[c,b]at this;exact(this rfl).elim
 | some v=>
   have%[q,a,e|rfl]:=iw b;exact%[q,a,e|rfl]
inductive Dg
 | mk (d st goal ns F ss rs dd k):vs=[.ref d,.str st,.str goal]->H d=some (.dK (gD rs))->ReB ss rs->Lev (ss.map (·.2)) st rs dd k F->k<=200->dM H ns ss->goal∈rs.map (·.1)->(∀l H' (ws:List _),ah H H'->H l=none->H' l=some (.lst (ws.map λt=>V.ref t.1))->(∀t∈ws,t∈ss)->Wal (ws.map (·.2)) st goal->ws.length=dd goal->Q (.ref l) H')->Dg vs H Q E0
def Dh(T:Txt K mg):Cal P w K mg base 1 "way_to" ["reached","start","goal"] Dg:=by
 refine T.aL.cal sw (λH vs Q E h=>?_)
 .have%[d,st,a,ns,F,ss,rs,i,k,rfl,hd,C,l,hk,G,n|kk]:=h;refine%[rfl|λf ab A outer s j=>?_];refine%[_,%["JCG3RAh02BC|LqQU3$E}1DZol3Ah0QU3$E}BDH]o3",sw.nd|j]|?_]
  show bq _ _ _ [!d,-st,-a,none] H;refine ap λD1 k1 _=>?_
  lk;have%[r,I,e1|hv]:=mK n;have get:=cP.k (k:=Sum.inr a) hd;rw[hv]at get;refine%[_,get,#[1]|λb fw=>k1 _ _ (ap λD2 k2 _=>?_)];have s1:=ah.upd (o:= .lst [V.ref r.2.1]) fw;have gw:upd H b (.lst [V.ref r.2.1]) b=some (.lst (([]:ZG).reverse.map (λt=>V.ref t.1) ++[V.ref r.2.1])):=aa
  generalize upd H b (.lst [V.ref r.2.1])=H1 at s1 gw
  refine⟨λm σ u=>σ=[!d,-st,-a,!b]/\ah H u/\∃(us:ZG) (r:Str×Addr×ZB),r∈rs/\m=i r.1/\u b=some (.lst (us.reverse.map (λt=>V.ref t.1) ++[.ref r.2.1]))/\(∀t∈us,t∈ss)/\Wal (us.map (·.2)) r.1 a/\us.length+m=i a,%[_,rfl,s1,[],r,I,rfl,gw,λt h=>(nomatch h),e1|by rw[e1];simp],?_⟩;intro m σ H2 %[rfl,v,us,r,j,rfl,hw,y,B|hl];have%[ac,p,z,J|hp]:=l.by_ r j;have e:=(C.sub r j).1;have g:=v _ _ (G _ e).1;rw[J]at g;have gl:=l.le a n;lk;refine%[_,SqL.of hw,_,kA _ _,_,rfl,_,SqT.of g,_,rfl,rfl|bG (λh=>?_) λh=>?_]
  .have h:p≠st:=↑h
   have%[_,L|ae]:=hp.resolve_left λc=>h c.1
   have%[r',M,N|O]:=mK L;have get:=cP.k (k:=Sum.inr p) (v _ _ hd);rw[O]at get;refine⟨λU u=>∃Y,Y<i r.1/\U=[!d,-st,-a,!b]/\ah H u/\∃(us:ZG) (r:Str×Addr×ZB),r∈rs/\Y=i r.1/\u b=some _/\(∀t∈us,t∈ss)/\Wal (us.map (·.2)) r.1 a/\us.length+Y=i a,λ_ _ h=>h,.inl %[_|SqL.of hw],_,SqL.of hw,_,kA _ _,_,rfl,_,SqT.of g,_,rfl,_,get,_,hw,by rw[Z9,Z6,List.length_reverse,Yl];exact aE ⋯,_,?_,rfl,ah.set v fw,r.2::us,r',M,rfl,?_,?_,?_,?_⟩
   .rw[N];lia
   .rw[aa,List.reverse_cons,Zd];rfl
   .intro t ht;rcases mem_cons.mp ht with q|q
    .exact q▸e
    .exact y t q
   .exact%[r.1,z,J.trans (by rw[N])|B]
   .rw[Zr,N];lia
  .have h:p=st:=↑h
   refine k2 _ _ ?_;lk;refine%[_,hw|λq fq=>kk q _ (r.2::us) (v.trans (ah.upd fq)) (v.free fq) ?_ (λt ht=>?_) %[r.1,z,J.trans (by rw[h])|B] (by rw[Zr];lia)]
   .rw[aa,List.reverse_append,<-List.map_reverse,List.reverse_reverse];rfl
   .rcases mem_cons.mp ht with q|q
    .exact q▸e
    .exact y t q
inductive wt
 | mk (b st goal ns ss):vs=[.ref b,.str st,.str goal]->GrB H b ss 0->dM H ns ss->ss.length<=181->(∀H',ah H H'-> ¬ Rch (ss.map (·.2)) st goal->Q .non H')->(∀l H' (ws:List _),ah H H'->H l=none->H' l=some (.lst (ws.map λt=>V.ref t.1))->(∀t∈ws,t∈ss)->Sho (ss.map (·.2)) st goal (ws.map (·.2))->ws.length<=200->Q (.ref l) H')->wt vs H Q E0
abbrev IP(H:Hp)(b d:Addr)(st a:Str)(ss:ZG)(m:Nat)(f:L2.St)(c:Hp):Prop:=∃e F rs g k,f=[!b,-st,-a,!d,!e]/\ah H c/\c e=some (.lst (F.map V.str))/\c d=some (.dK (gD rs))/\ReB ss rs/\Lev (ss.map (·.2)) st rs g k F/\k<=rs.length+1/\(F≠[]->k<=rs.length)/\m=2*(181-rs.length) +F.length.min 1
def qj(T:Txt K mg):Cal P w K mg base 2 "shortest_way" ["beneath","start","goal"] wt:=by
 refine T.aI.cal di (λH vs Q E h=>?_)
 .have%[b,st,i,ns,ss,rfl,hb,G,ac,kn|ky]:=h;refine%[rfl|λf aq A outer s C=>?_];refine%[_,%["JCG3zCG4RA1BC|dwL_XYA4BE*=23DG4F]pA0A4A3BCN=23DH)ODHF]qA3A1A2B",di.nd|C]|?_]
  show bq _ _ _ [!b,-st,-i,none,none] H;refine ap λD1 k1 _=>?_
  lk;intro d fd;refine k1 _ _ (ap λD2 k2 _=>?_);have ae:b≠d:=λc=>by
   have%[as,N|_]:=hb;rw[c,fd]at N;cases N
  have s1:=ah.upd (o:= .dK []) fd;have B:upd H d (.dK []) d=some (.dK (gD ([]:Gs Str))):=aa
  generalize upd H d (.dK [])=H1 at s1 B
  lk;refine%[#[1]|λe fe=>k2 _ _ (ap λD3 k3 _=>?_)];have s2:=ah.upd (o:= .lst [V.str st]) fe;have O:upd H1 e (.lst [V.str st]) e=some (.lst ([st].map V.str)):=aa;have B:=s2 _ _ B;have U:=s1.trans s2
  generalize upd H1 e (.lst [V.str st])=H2 at U O B
  refine%[IP H b d st i ss,%[_,e,[st],[],_,_,rfl,U,O,B,%[X6|λ_ h=>(nomatch h)],.nil,by simp,λ_=>Zi _|rfl]|?_];intro m σ H3 %[e,F,rs,dd,k,rfl,I,O,B,J,j,hk,ag|rfl];have fm:(F.map V.str).length=F.length:=Z6 _;have get:=cP.k (k:=Sum.inr i) B;have rl:=J.len;have L:i∈rs.map (·.1)↔(bH (gD rs) (Sum.inr i)).isSome=true:=by
   refine%[λh=>?_|λh=>?_]
   .have%[r,_,_|e]:=mK h;rw[e];rfl
   .have%[v|hv]:=isSome_iff_exists.mp h;have%[q,hq,c|_]:=iw hv;exact c▸Xr %[q,hq|rfl]
  lk;have fin:(i∉rs.map (·.1)->F=[])->D3.nx [!b,-st,-i,!d,!e] H3:=λh=>by
   refine k3 _ _ (ap λD4 k4 r4=>?_);lk;refine%[_,get|bG (λq=>?_) λq=>?_]
   .have q:i∉rs.map (·.1):=λc=>by rw[L.mp c]at q;cases q
    refine r4 _ _ (kn H3 I λr=>q ?_);have%[n|hn]:=r.dst;rw[h q]at j;exact j.stop hn
   .have q:i∈rs.map (·.1):=L.mpr (sT q);refine k4 _ _ ?_;lk;refine%[d,st,i,ns,F,ss,rs,dd,k,rfl,B,J,j,⋯,G.up I,q|λl H' ws s' fl hl Y ai wl=>ky l H' ws (I.trans s') (I.free fl) hl Y %[λk hk=>?_,ai,?_|λn hn=>?_] (by rw[wl];have:=j.le _ q;lia)]
    .have%[t,ht|rfl]:=Xq hk;exact Xr %[t,Y t ht|rfl]
    .rw[Z6,wl];exact(j.dst q).1
    .rw[Z6,wl];exact j.min q hn
  refine%[_,.inl %[_,SqL.of O|rfl]|bG (λh=>?_) λh=>fin λ_=>?_]
  .have h:0<F.length:=by
    rw[fm]at h;have:=Zo h
    lia
   refine%[_,get|bG (λq=>⟨λaj H'=>∃m',m'<2*(181-rs.length) +F.length.min 1/\IP H b d st i ss m' aj H',λ_ _ h=>h,b,e,d,ns,F,ss,rs,rfl,ae,hb.up I,G.up I,ac,O,B,J,λg H4 new sx fg hg al u an M=>?_⟩) λq=>fin λc=>absurd (L.mpr (sT q)) c];have ln:=u.len;rw[Z9]at ln;have ab:F.length.min 1=1:=Nat.min_eq_right h;have kF:=ag λc=>by rw[c]at h;cases h
   refine%[_,?_,g,new.map (·.1),rs++new,_,_,rfl,(λc o ec=>sx c o (λz=>by rw[z,fd]at ec;cases ec) (I _ _ ec)),hg,al,u,j.step u.nd (λr C=>?_) M,?_,λnn=>?_|rfl]
   .rw[ab,Z9,Z6];cases new with
    | nil=>simp
    | cons a r=>
      rw[Zr]at ln ⊢;have:(r.length+1).min 1<=1:=Nat.min_le_right _ _
      lia
   .have%[N|h2]:=u.sub r (Yv _ C);have%[p,hp|h3]:=an r C;have%[x,y,z,e|_]:=(G r.2 N).2;rw[e]at h2 h3;exact%[Xr %[_,N|rfl],p,z,hp|by rw[e,show x=p from Za h3,show y=r.1 from Za h2]]
   .rw[Z9];lia
   .cases new with
    | nil=>exact absurd rfl nn
    | cons a r=>rw[Z9,Zr];lia
  .cases F with
   | nil=>rfl
   | cons x F=>exact absurd (Zf (by rw[fm,Zr];lia)) h
abbrev VD(a:ZB)(g:Str->V):List (Key×V):=a.map λz=>(Sum.inr z,g z)
def km:∀{a:ZB},z∈a->bH (VD a g) (Sum.inr z)=some (g z)
 | x::a,h=>by
   by_cases e:x=z
   .subst e;exact eZ rfl
   .rw[show VD _ g=(Sum.inr x,g x)::VD a g from rfl,dC (λq=>e (Sum.inr.inj q))];exact km ((mem_cons.mp h).resolve_left λq=>e q.symm)
def jC:∀{a:ZB},z∉a->bH (VD a g) (Sum.inr z)=none
 |[],_=>rfl
 | x::a,h=>by
   rw[Yw,not_or]at h;rw[show VD _ g=(Sum.inr x,g x)::VD a g from rfl,dC (λq=>h.1 (Sum.inr.inj q).symm)];exact jC h.2
def xU(h:z∈a):cX (VD a g) (Sum.inr z) v=VD a (λx=>if x=z then v else g x):=by
 unfold cX;rw[if_pos (by rw[iS,km h];rfl)];unfold VD;rw[Ys];refine Yq λx _=>?_
 show(if(Sum.inr x)=Sum.inr z then((Sum.inr x),v)else(Sum.inr x,g x))=(Sum.inr x,if x=z then v else g x)
 by_cases e:x=z
 .rw[if_pos (congrArg _ e),if_pos e]
 .rw[if_neg (λq=>e (Sum.inr.inj q)),if_neg e]
abbrev cnt(ss:ZG)(L:ZB)(n:Str):Nat:=ss.countP λt=>decide (t.2[0]? =some n)&&t.2[1]?.all λy=>decide (y∉L)
def Fk(ss:List _)(n:Str):cnt ss [] n=(ss.filter λt=>decide (t.2[0]? =some n)).length:=by
 unfold cnt;rw[<-List.countP_eq_length_filter]
 simp_all
def Di(h:cnt ss L m=0)(e:Ed (ss.map (·.2)) m y):y∈L:=by
 have%[z|a]:=e;have%[t,b|c]:=Xq a;have:=List.countP_eq_zero.mp h t b
 simp_all
def wu(b:m∉L):∀ss:ZG,cnt ss L n=cnt ss (L++[m]) n+(ss.filter λt=>decide (t.2[1]? =some m)).countP λt=>decide (t.2[0]? =some n)
 |[]=>rfl
 | t::ss=>by
   have c:=wu (n:=n) b ss;unfold cnt at c ⊢;rw[countP_cons,countP_cons,c];cases d:t.2[1]? with
   | none=>rw[Y3 ⋯];simp only[Option.all_none];lia
   | some y=>
     by_cases e:y=m
     .subst e;rw[Y4 (by rw[d];simp),countP_cons];by_cases a:t.2[0]? =some n
      .simp[a,b];lia
      .simp[a]
     .rw[Y3 (by rw[d];simpa using e)];by_cases a:t.2[0]? =some n
      .by_cases f:y∈L
       .simp[f]
       .simp[a,f,e];lia
      .simp[a]
structure IQ (ss:ZG) (ns L R:ZB):Prop where
 nd:(L++R).Nodup
 mem:∀x,x∈L++R↔x∈ns/\cnt ss L x=0
 ord:∀i x,L[i]? =some x->∀y,Ed (ss.map (·.2)) x y->y∈L.take i
abbrev IR(f:Hp)(l m b a w e ld:Addr)(d:ZB)(ss:ZG)(k:Nat)(g:L2.St)(c:Hp):Prop:=∃h i j L R,g=[!l,!m,!b,!a,!w,h,!e,!ld,i,j]/\ah f c/\c w=some (.dK (VD d λn=> .int (cnt ss L n)))/\c e=some (.lst (R.map V.str))/\c ld=some (.lst (L.map V.str))/\IQ ss d L R/\k=d.length-L.length
inductive yS
 | mk (l m ns ss):vs=[.ref l,.ref m]->H l=some (.lst (ns.map V.str))->ns.Nodup->ns.length<=80->H m=some (.lst (ss.map λt=>V.ref t.1))->dM H ns ss->ss.length<=181->(∀r H' (L:ZB),ah H H'->H' r=some (.lst (L.map V.str))->L.Nodup->(∀x∈L,x∈ns)->(∀i x,L[i]? =some x->∀y,Ed (ss.map (·.2)) x y->y∈L.take i)->(∀x∈ns,x∉L->∃y,Ed (ss.map (·.2)) x y/\y∈ns/\y∉L)->Q (.ref r) H')->yS vs H Q E0
def jn(T:Txt K mg):Cal P w K mg base 3 "laid_in_turn" ["names","found"] yS:=by
 refine T.aH.cal a9 (λH vs Q E h=>?_)
 .have%[l,m,d,ss,rfl,hl,nn,nl,hm,an,b4|kk]:=h;refine%[rfl|λf c3 A outer s hr=>?_];have nm:(d.map V.str).length=d.length:=Z6 _;refine%[_,%["JCG2F~nA1BCG3F]rA1BC%4efzCTP0K5DuXYA~N~a2A5ARBBBW45C~G6fea?1P0S0?2<LmhW10E0CG7RBC|L_XYA6BECG8~d]sA6BCZ]t]u6A8BCZol7A8BDTP~N~a3A8ARBBK9CuI~ShW4Q9}EW4Q9}DNLmhW4Q9}EDZol6AQ9}BODH7",a9.nd,(show bF _ _ _ ["name","waits"] [(1,4)]=true from rfl),(show(["name","waits"]:ZB).Nodup from !0)|hr]|?_]
  show bq _ _ _ [!l,!m,none,none,none,none,none,none,none,none] H;refine ap λD1 k1 _=>?_
  lk;refine%[m,d,ss,rfl,hm,an,b4|λb H1 s1 fb hb=>k1 _ _ (ap λD2 k2 _=>?_)];lk;refine%[m,d,ss,rfl,s1 _ _ hm,an.up s1,b4|λa H2 s2 fa ha=>k2 _ _ (ap λD3 k3 _=>?_)];have ae:=s1.trans s2;have hb:=hb.up s2;lk;intro w fw;refine k3 _ _ (ap λD4 k4 _=>aB λa7 hK=>?_);have s3:=ah.upd (o:= .dK []) fw;have gw:upd H2 w (.dK []) w=some (.dK (VD (d.take 0) λn=> .int (cnt ss [] n))):=aa
  generalize upd H2 w (.dK [])=H3 at s3 gw
  have cp:=ae.trans s3;lk;refine .inl %[%[_|SqL.of (cp _ _ hl)]|hK _ _ ?_];have cs:b≠w:=λc=>by
   have%[ag,h1|_]:=hb;rw[c,fw]at h1;cases h1
  have ct:a≠w:=λc=>by
   have%[ag,h1|_]:=ha;rw[c,fw]at h1;cases h1
  have b5:∀xs,H2 w≠some (.lst xs):=λxs c=>by rw[fw]at c;cases c
  refine bz (xs:=d.map V.str) (λi O u=>(∃o5,O=[!l,!m,!b,!a,!w,o5,none,none,none,none])/\ah H2 u/\u w=some (.dK (VD (d.take i) λn=> .int (cnt ss [] n))))
   %[%[_|rfl],s3|gw] (λi O u _ h=>SqL.of (h.2.1 _ _ (ae _ _ hl))) ?_ ?_
  .intro i x O u U %[%[o5|rfl],sm|hw];rw[Zl]at U;have%[n,hn|rfl]:=map_eq_some_iff.mp U;have i1:i<d.length:=(Xn hn).1;show ot _ _ _ _ [!l,!m,!b,!a,!w,-n,none,none,none,none] u;refine aI λD5 k5 _=>?_
   lk;refine%[.inr (.inr (.inl (.inl %[_|sm _ _ hb.choose_spec.1]))),#[0]|λp hp=>?_];have%[ag,al,cx,aq,Y|b6]:=hb.get (dw.of sm) cs b5 hp n;have sp:=ah.upd (o:= .lst []) hp;refine%[Sum.inr n,rfl,ag,cx,_,by rw[aq];exact .inl %[_,SqL.of Y|rfl],_,jD.k (k:=Sum.inr n) (sp _ _ hw) (by unfold VD;rw[Z6,Ym];exact aE ⋯)|k5 _ _ %[%[_|rfl],ah.set (sm.trans sp) fw|?_]];have zn:n∉d.take i:=λhm=>by
    have h:=nn;rw[<-Xc i d,X3]at h;exact h.2.2 n hm n (Z8 (i:=0) (by rw[Yb];exact hn)) rfl
   rw[aa,gj _ (jC zn),Z6,<-Fk,Xb,hn];unfold VD;rw[Zd];rfl
  .intro O u %[%[o5|rfl],sm|hw];rw[nm,Zn (Zi _)]at hw;refine k4 _ _ (ap λD5 k5 _=>aF λa7 hK=>?_);lk;have as:=sm _ _ (ae _ _ hl);refine .inl %[%[_|SqL.of as]|hK _ _ λM ai=>?_];refine bh (J:=Itl K l) (n:=d.length) (D:=M) (λj vs O H3=>(∃o1,O=[o1,!w])/\ah u H3/\H3 M=some (.lst vs)/\vs=((d.take j).filter λn=>decide (cnt ss [] n=0)).map V.str)
    %[%[none|rfl],ah.upd ai,aa|rfl] (λj _ _ H3 hj bc=>%[_,V.str d[j],SqL.of (bc.2.1 _ _ as)|by simp[hj]]) (λ_ _ H3 bc=>%[_,SqL.of (bc.2.1 _ _ as)|by simp]) ?_ ?_
   .intro j vs O H3 hj %[%[o1|rfl],C,b7|hv] x H4 %[e2|U];subst e2;have b9:=U _ (SqL.of (C _ _ as));rw[Zl,Z4 hj]at b9;obtain rfl:x=V.str d[j]:=(Za b9).symm;have get:=cP.k (k:=Sum.inr d[j]) (C _ _ hw);rw[km (Ye hj)]at get;lk;refine%[_,get,rfl|bG (λh=>?_) λh=>?_]
    .have h:cnt ss [] d[j]=0:=↑h
     refine CK.mk hj b7 (by rw[hv,Z6];have:=Yj (λn=>decide (cnt ss [] n=0)) (d.take j);rw[Ym]at this;exact aE ⋯) %[%[_|rfl],ah.set C ai,aa|?_];rw[hv,Xb,Z4 hj,Y2,Zd];show _=_++(List.filter _ [d[j]]).map V.str;rw[Y4 ↑h];rfl
    .have h:cnt ss [] d[j]≠0:=↑h
     refine CN.mk hj %[%[_|rfl],C,b7|?_];rw[hv,Xb,Z4 hj,Y2,Zd];show _=_++(List.filter _ [d[j]]).map V.str;rw[Y3 ↑h];simp
   intro vs O H3 %[_,C,a0|hv];rw[Zn (Zi _)]at hv;rw[hv]at a0;refine k5 _ _ (ap λD6 k6 _=>?_);have ab:=C _ _ hw;have bf:=sm.trans C;have bl:w≠M:=λc=>by rw[<-c,hw]at ai;cases ai
   have bm:=sm.free ai;lk;refine%[#[0]|λld fld=>k6 _ _ (ap λD7 k7 _=>?_)];have s4:=ah.upd (o:= .lst []) fld;have bn:upd H3 ld (.lst []) ld=some (.lst (([]:ZB).map V.str)):=aa;have ca:w≠ld:=λc=>by rw[<-c,ab]at fld;cases fld
   have bp:M≠ld:=λc=>by rw[<-c,a0]at fld;cases fld
   have bt:=s4 _ _ ab;have bU:=s4 _ _ a0;have b0:=bf.trans s4;have fld:=bf.free fld
   generalize upd H3 ld (.lst [])=H4 at s4 bn bt bU b0
   refine%[IR H2 l m b a w M ld d ss,%[_,o5,none,none,[],_,rfl,b0,bt,bU,bn,%[nn.filter _,λx=>by simp|λi x e=>by simp at e]|rfl]|?_];clear b0 bt bU bn a0 ab hw hv C bf sm;intro k O H5 %[o5,o8,o9,L,R,rfl,sm,hw,hR,hL,B|rfl];have Rm:(R.map V.str).length=R.length:=Z6 _;have c4:L.length+R.length<=d.length:=by
    rw[<-Z9];exact STab.nodup_sub B.nd λx U=>((B.mem x).mp U).1
   lk;refine%[R.length,.inl %[_,SqL.of hR|Rm.symm]|bG (λh=>?_) λh=>?_]
   .have h:0<R.length:=by have:=Zo h;lia
    refine⟨λcy u=>∃m',m'<d.length-L.length/\IR H2 l m b a w M ld d ss m' cy u,λ_ _ h=>h,R,SqL.of hR,h,λx U _=>%[.inl %[_|SqL.of hR],R,hR,U|λR1 pm=>?_]⟩;have u1:=ah.set (o:= .lst (R1.map V.str)) sm bm;have b1:upd H5 M (.lst (R1.map V.str)) M=_:=aa;have b2:upd H5 M (.lst (R1.map V.str)) w=_:=(am bl).trans hw;have a1:upd H5 M (.lst (R1.map V.str)) ld=_:=(am bp.symm).trans hL
    generalize upd H5 M (.lst (R1.map V.str))=H6 at u1 b1 b2 a1 ⊢
    refine%[.inl %[_|SqL.of a1],_,a1,by rw[Z6];exact aE ⋯|aI λc5 cB _=>aB λa7 hK=>?_];have u2:=ah.set (o:= .lst (L.map V.str++[.str x])) u1 fld;have a2:upd H6 ld (.lst (L.map V.str++[.str x])) ld=some (.lst ((L++[x]).map V.str)):=by rw[aa,Zd];rfl
    have a3:upd H6 ld (.lst (L.map V.str++[.str x])) w=_:=(am ca).trans b2;have a4:upd H6 ld (.lst (L.map V.str++[.str x])) M=_:=(am bp).trans b1
    generalize upd H6 ld (.lst (L.map V.str++[.str x]))=H7 at u2 a2 a3 a4 ⊢
    lk;refine%[.inr (.inr (.inl (.inl %[_|u2 _ _ ha.choose_spec.1]))),#[0]|λp hp=>?_];have%[ag,al,aq,cM,Y|b6]:=ha.get (dw.of u2) ct b5 hp x;have b3:∀{c:Addr} {o:HO},H7 c=some o->H2 c=none->al≠c:=λ{c o} h1 h2=>by
     rcases b6 with rfl|⟨o',ho⟩
     .exact λz=>by rw[z,h1]at hp;cases hp
     .exact λz=>by rw[z,h2]at ho;cases ho
    have cR:=b3 a3 fw;have c0:=b3 a4 bm;have all:=b3 a2 fld;have sp:=ah.upd (o:= .lst []) hp;have ab:=sp _ _ a3;have cb:=sp _ _ a4;have cd:=sp _ _ a2;have u3:=u2.trans sp
    generalize upd H7 p (.lst [])=H8 at aq Y ab cb cd u3 ⊢
    clear u1 u2 a3 a4 a2 b2 b1 a1 hp sp
    generalize ch:(ss.filter λt=>decide (t.2[1]? =some x))=ts at Y
    have tm:(ts.map λt=>V.ref t.1).length=ts.length:=Z6 _;have xL:x∉L:=λc=>(nodup_append.mp B.nd).2.2 x c x U rfl
    have pr:(L++[x] ++R1).Perm (L++R):=by
     rw[Ze];exact pm.append_left L
    have f0:∀n,cnt ss L n=cnt ss (L++[x]) n+(ts.drop 0).countP λt=>decide (t.2[0]? =some n):=λn=>by rw[drop_zero,<-ch];exact wu xL ss
    have c1:∀t∈ts,∃n z,t.2=[n,x,z]/\n∈d/\H t.1=some (.tup ([n,x,z].map V.str)):=λt ht=>by
     rw[<-ch]at ht;have%[h1|h2]:=List.mem_filter.mp ht;have%[h3,n,y,z,e,hn|_]:=an t h1;have h2:=Zo h2;rw[e]at h2 h3;obtain rfl:y=x:=Za h2;exact%[n,z,e,hn|h3]
    refine%[Sum.inr x,rfl,ag,aq|.inl %[al,cM,%[_|SqL.of Y]|hK _ _ ?_]];refine bz (xs:=ts.map λt=>V.ref t.1) (λj O u=>(∃o9,O=[!l,!m,!b,!a,!w,o5,!M,!ld,-x,o9])/\ah H2 u/\u al=some (.lst (ts.map λt=>V.ref t.1))/\u w=some (.dK (VD d λn=> .int ((cnt ss (L++[x]) n+(ts.drop j).countP λt=>decide (t.2[0]? =some n):Nat):Int)))/\u ld=some (.lst ((L++[x]).map V.str))/\∃Rj:ZB,u M=some (.lst (Rj.map V.str))/\(L++[x] ++Rj).Nodup/\∀y,y∈L++[x] ++Rj↔y∈d/\cnt ss (L++[x]) y+((ts.drop j).countP λt=>decide (t.2[0]? =some y))=0)
     %[%[_|rfl],u3,Y,by rw[ab];exact congrArg (λg=>some (HO.dK (VD d g))) (funext λn=>by rw[f0 n]),cd,R1,cb,pr.nodup_iff.mpr B.nd|λy=>by rw[<-f0,pr.mem_iff];exact B.mem y] (λj O u _ h=>SqL.of h.2.2.1) ?_ ?_
    .intro j v O u hv %[%[o9|rfl],a5,G,N,ac,Rj,I,rn|rz];rw[Zl]at hv;have%[t,ht|rfl]:=map_eq_some_iff.mp hv;have jl:=(Xn ht).1;have%[n,z,et,hn|r]:=c1 t (Z8 ht);have r:=a5 _ _ (ae _ _ r);have dr:ts.drop j=t::ts.drop (j+1):=by rw[List.drop_eq_getElem_cons jl,(Xn ht).2]
     rw[dr]at N rz;have get:=cP.k (k:=Sum.inr n) N;rw[km hn]at get;have c7:=(nodup_append.mp rn)
     have rl:Rj.length<=d.length:=by
      have:=STab.nodup_sub rn λy hy=>((rz y).mp hy).1
      rw[Z9]at this
      lia
     show bq _ _ _ [!l,!m,!b,!a,!w,o5,!M,!ld,-x,some (.ref t.1)] u;refine ap λda c2 _=>?_
     lk;have one:∀y,(t::ts.drop (j+1)).countP (λt=>decide (t.2[0]? =some y))=((ts.drop (j+1)).countP λt=>decide (t.2[0]? =some y)) +if y=n then 1 else 0:=λy=>by
      rw[countP_cons,et];by_cases c:y=n
      .rw[if_pos c,if_pos (by rw[c];simp)]
      .rw[if_neg c,if_neg (by simpa using λq=>c q.symm)]
     refine%[_,SqT.of r,_,rfl,_,get,_,rfl,_,SqT.of r,_,rfl,_,jD.k (k:=Sum.inr n) N (by unfold VD;rw[Z6];exact aE ⋯)|c2 _ _ (aI λdd cl _=>?_)];rw[xU hn];have e1:(λy=>if y=n then V.int (((cnt ss (L++[x]) n+(t::ts.drop (j+1)).countP λt=>decide (t.2[0]? =some n):Nat):Int) -1)else V.int ((cnt ss (L++[x]) y+(t::ts.drop (j+1)).countP λt=>decide (t.2[0]? =some y):Nat):Int))=λy=>V.int ((cnt ss (L++[x]) y+(ts.drop (j+1)).countP λt=>decide (t.2[0]? =some y):Nat):Int):=funext λy=>by
      rw[one,one];by_cases c:y=n
      .rw[if_pos c,c,if_pos rfl]
       congr 1
       lia
      .rw[if_neg c,if_neg c];rfl
     rw[e1];have v1:=ah.set (o:= .dK (VD d λy=>V.int ((cnt ss (L++[x]) y+(ts.drop (j+1)).countP λt=>decide (t.2[0]? =some y):Nat):Int))) a5 fw;have a6:upd u w (.dK (VD d λy=>V.int ((cnt ss (L++[x]) y+(ts.drop (j+1)).countP λt=>decide (t.2[0]? =some y):Nat):Int))) w=_:=aa;have aj:∀c o,c≠w->u c=some o->upd u w (.dK (VD d λy=>V.int ((cnt ss (L++[x]) y+(ts.drop (j+1)).countP λt=>decide (t.2[0]? =some y):Nat):Int))) c=some o:=λc o h e=>(am h)▸e
     generalize upd u w (.dK (VD d λy=>V.int ((cnt ss (L++[x]) y+(ts.drop (j+1)).countP λt=>decide (t.2[0]? =some y):Nat):Int)))=H9 at v1 a6 aj
     have r:=aj _ _ (λc=>by rw[c,N]at r;cases r) r;have G:=aj _ _ cR G;have ac:=aj _ _ ca.symm ac;have I:=aj _ _ bl.symm I;have get:=cP.k (k:=Sum.inr n) a6;rw[km hn]at get;have co:n∉L++[x] ++Rj:=λc=>by
      have:=((rz n).mp c).2;rw[one,if_pos rfl]at this
      lia
     have bb:∀y,y≠n->(y∈L++[x] ++Rj↔y∈d/\cnt ss (L++[x]) y+((ts.drop (j+1)).countP λt=>decide (t.2[0]? =some y))=0):=λy c=>by
      rw[rz y,one,if_neg c];rfl
     lk;refine%[_,SqT.of r,_,rfl,_,get,rfl|bG (λh=>?_) λh=>?_]
     .have h:cnt ss (L++[x]) n+((ts.drop (j+1)).countP λt=>decide (t.2[0]? =some n))=0:=by
       have:=V.int.inj (Zo h)
       lia
      have tr:t.1≠M:=λc=>by rw[c,I]at r;cases r
      refine%[.inl %[_|SqL.of I],_,SqT.of r,_,rfl,_,I,by rw[Z6];exact aE ⋯|cl _ _ %[%[_|rfl],ah.set v1 bm,(am c0).trans G,(am bl).trans a6,(am bp.symm).trans ac,Rj++[n],by rw[aa,Zd];rfl,?_|λy=>?_]]
      .rw[<-Ze,X3];exact%[rn,by simp|λa ha b hb c=>co (by rw[<-Xp hb,<-c];exact ha)]
      .rw[<-Ze,Yt,Yz];by_cases c:y=n
       .rw[c];exact%[λ_=>%[hn|h]|λ_=> .inr rfl]
       .rw[<-bb y c];exact%[λq=>q.resolve_right c|.inl]
     .refine cl _ _ %[%[_|rfl],v1,G,a6,ac,Rj,I,rn|λy=>?_];by_cases c:y=n
      .rw[c];exact%[λq=>absurd q co|λq=>absurd (Zf (congrArg (λi:Nat=>V.int i) q.2)) h]
      .exact bb y c
    .intro O u %[%[o9|rfl],a5,G,N,ac,Rj,I,rn|rz];rw[tm,List.drop_length]at N rz;refine cB _ _ %[_,?_,o5,_,o9,L++[x],Rj,rfl,a5,N,I,ac,%[rn,rz|λi y hi y' e=>?_]|rfl]
     .rw[Z9,Yl]
      lia
     .by_cases il:i<L.length
      .rw[Y9 il]at hi;rw[Xd (Yf il)];exact B.ord i y hi y' e
      .have ie:i=L.length:=by
        have:=(Xn hi).1;rw[Z9,Yl]at this
        lia
       subst ie;rw[Ya (Zi _),sub_self,List.getElem?_cons_zero]at hi;obtain rfl:=Za hi;rw[Xd (Zi _),List.take_length];exact Di ((B.mem x).mp (Yv _ U)).2 e
   .refine k7 _ _ ?_;lk;have R0:R=[]:=by
     cases R with
     | nil=>rfl
     | cons x R=>exact absurd (Zf (by rw[Zr];lia)) h
    subst R0;have mem:=B.mem;have nd:=B.nd;rw[Zz]at mem nd;refine kk ld H5 L (ae.trans sm) hL nd (λx U=>((mem x).mp U).1) B.ord λx U nx=>?_
    have:cnt ss L x≠0:=λc=>nx ((mem x).mpr %[U|c])
    have%[t,ht|q]:=List.countP_pos_iff.mp (Nat.pos_of_ne_zero this);have%[a,b,z,e,_|hb]:=(an t ht).2;rw[e]at q;simp only[Zx]at q;exact%[b,%[z|by rw[<-(Za (Zo q.1)),<-e];exact Xr %[t,ht|rfl]],hb|Zo q.2]
inductive wv
 | mk (l m ns ss):vs=[.ref l,.ref m]->H l=some (.lst (ns.map V.str))->ns.Nodup->ns.length<=80->H m=some (.lst (ss.map λt=>V.ref t.1))->dM H ns ss->ss.length<=181->(∀r H' (us:ZB),ah H H'->H' r=some (.lst (us.map V.str))->(∀x∈ns,Rch (ss.map (·.2)) x x->x∈us)->Q (.ref r) H')->wv vs H Q E0
structure qk (H:Hp) (ks:List ZB) (ss:ZG) (r:Addr) (ws:ZG) (x:Str):Prop where
 at_:H r=some (.lst (ws.map λt=>V.ref t.1))
 sub:∀t∈ws,t∈ss
 sho:Sho ks x x (ws.map (·.2))
 len:ws.length<=200
def qk.up(h:qk H ks ss r ws x)(s:ah H a):qk a ks ss r ws x:=%[s _ _ h.at_,h.sub,h.sho|h.len]
inductive ww
 | mk (l m ns ss):vs=[.ref l,.ref m]->H l=some (.lst (ns.map V.str))->ns.Nodup->ns.length<=80->H m=some (.lst (ss.map λt=>V.ref t.1))->dM H ns ss->ss.length<=181->(∀H',ah H H'->(∀x,¬ Rch (ss.map (·.2)) x x)->Q .non H')->(∀r H' ws x,ah H H'->qk H' (ss.map (·.2)) ss r ws x->(∀y n,Dst (ss.map (·.2)) y (n+1) y->ws.length<=n+1)->Q (.ref r) H')->ww vs H Q E0
def uH(T:Txt K mg):Cal P w K mg base 4 "never_laid" ["names","found"] wv:=by
 refine T.aU.cal qO (λH vs Q E h=>?_)
 .have%[l,m,a,ss,rfl,n,G,nl,I,g,i|J]:=h;refine%[rfl|λf B A outer s C=>?_];refine%[_,%["JDH~B]vAI]w~I~hA0B~I~hAF~:A0A1BBB",0|C]|?_];show jX _ _ [!l,!m] H;lk;refine%[a,SqL.of n,⋯|λp M=>?_];have b:=ah.upd (o:=j8 w p (aO a)) M;have t:upd H p (j8 w p (aO a)) p=_:=aa
  generalize upd H p (j8 w p (aO a))=H1 at b t ⊢
  refine%[l,m,a,ss,rfl,b _ _ n,G,nl,b _ _ I,g.up b,i|λr H2 L y N O U j _=>?_];have Ll:=STab.nodup_sub O U;refine%[r,rfl,L,SqL.of N,⋯|λq Y=>?_];have z:=ah.upd (o:=j8 w q (aO L)) Y;have fl:=STab.nodup_sub (fi a) λx d=>bx.mp d
  refine%[_,(z _ _ (y _ _ t)),_,aa,⋯|λu ms fu e mn=>%[ms,aa,?_|λv us fv pu _=>?_]]
  .have:=STab.nodup_sub mn λx d=>bx.mp ((e x).mp d).1
   lia
  .refine J v _ us (b.trans (y.trans (z.trans ((ah.upd fu).trans (ah.upd fv))))) aa λx d rx=>?_
   rw[pu.mem_iff,e];exact%[bx.mpr d|λc=>E6 j (bx.mp c) rx]
def wx{d:ZB}{ss:ZG}(h:∀t∈ss,bM d t.2){x y:Str}(r:Rch (ss.map (·.2)) x y):x∈d:=by
 induction r with
 | one e=>
   have%[z|g]:=e;have%[t,i|f]:=Xq g;have%[a,b,c,e,j|_]:=h t i;rw[e]at f;exact((List.cons.inj f).1)▸j
 | more _ _ l=>exact l
def iP(T:Txt K mg):Cal P w K mg base 5 "shortest_ring" ["names","found"] ww:=by
 refine T.aT.cal bO (λH vs Q E h=>?_)
 .have%[l,m,O,ss,rfl,hl,nn,nl,hm,c,u,kn|ky]:=h;refine%[rfl|λf ae A outer s hr=>?_];refine%[_,%["JCG2F~nA1BCG3)CTPF]xA0A1BK4CG5F]yA2A4A4BDNdwL~E5)*dtL~;3)yL[XYA5BXYA3BDG35ODH3",bO.nd|hr]|?_]
  show bq _ _ _ [!l,!m,none,none,none,none] H;refine ap λD1 k1 _=>?_
  lk;refine%[m,O,ss,rfl,hm,c,u|λb H1 U fb hb=>k1 _ _ (ap λD2 k2 _=>?_)];lk;refine k2 _ _ (ap λD3 k3 _=>aB λac hK=>?_);lk;refine%[l,m,O,ss,rfl,U _ _ hl,nn,nl,U _ _ hm,c.up U,u|λr H2 us s2 I J=> .inl %[r,rfl,%[_|SqL.of I]|hK _ _ ?_]];have z:=U.trans s2;refine bz (xs:=us.map V.str) (λi Y g=>(∃v o4 o5,Y=[!l,!m,!b,some v,o4,o5]/\((v= .non/\∀x∈us.take i,¬ Rch (ss.map (·.2)) x x)\/∃q ws x,v= .ref q/\qk g (ss.map (·.2)) ss q ws x/\∀y∈us.take i,∀n,Dst (ss.map (·.2)) y (n+1) y->ws.length<=n+1))/\ah H2 g)
   %[%[_,_,_,rfl|.inl %[rfl|λx B=>(nomatch B)]]|λ_ _ e=>e] (λi Y g _ h=>SqL.of (h.2 _ _ I)) ?_ ?_
  .intro i x Y g B %[%[v,o4,o5,rfl|L]|j];rw[Zl]at B;have%[n,hn|rfl]:=map_eq_some_iff.mp B;have tk:us.take (i+1)=us.take i++[n]:=by rw[Xb,hn];rfl
   show bq _ _ _ [!l,!m,!b,some v,-n,o5] g;refine ap λD4 k4 _=>?_
   lk;refine%[b,n,n,O,ss,rfl,hb.up (s2.trans j),c.up (z.trans j),u,λH3 C nr=>k4 _ _ (aI λD5 k5 _=>?_)|λq H3 ws C _ G sub rr rl=>k4 _ _ (aI λD5 k5 _=>?_)]
   .lk;rw[if_neg ∅];refine k5 _ _ %[%[v,_,_,rfl|L.imp (λh=>%[h.1|λx B=>?_]) λ⟨q,ws,x,e,G,o⟩=>%[q,ws,x,e,G.up C|λy a m d=>?_]]|j.trans C]
    .rw[tk]at B;rcases Xo B with h'|h'
     .exact h.2 x h'
     .rw[Xp h'];exact nr
    .rw[tk]at a;rcases Xo a with h'|h'
     .exact o y h' m d
     .rw[Xp h']at d;exact(nr d.rch).elim
   .lk;rw[if_pos ∅];have wl:∀zs:ZG,(zs.map λt=>V.ref t.1).length=zs.length:=λzs=>Z6 _
    have p:=λm d=>by
     have:=rr.min m d;rwa[Z6]at this
    have put:(∀y∈us.take i,∀m,Dst (ss.map (·.2)) y (m+1) y->ws.length<=m+1)->D5.nx [!l,!m,!b,!q,-n,!q] H3:=λo=>k5 _ _ ⟨%[_,_,_,rfl|.inr ⟨q,ws,n,rfl,%[G,sub,rr|rl],λy a m d=>by
     rw[tk]at a;rcases Xo a with h'|h'
     .exact o y h' m d
     .rw[Xp h']at d;exact p m d⟩],j.trans C⟩
    rcases L with⟨rfl,ab⟩|⟨q',M,x',rfl,N,o⟩
    .rw[if_pos ∅];exact put λy a m d=>(ab y a d.rch).elim
    .rw[if_neg ∅];refine%[_,.inl %[_,SqL.of G|(wl ws).symm],_,.inl %[_,SqL.of (C _ _ N.at_)|(wl M).symm]|bG (λlt=>put λy a m d=>?_) λlt=>k5 _ _ %[%[_,_,_,rfl|.inr %[q',M,x',rfl,N.up C|λy a m d=>?_]]|j.trans C]]
     .have:=o y a m d;have:=Zo lt
      lia
     .rw[tk]at a;rcases Xo a with h'|h'
      .exact o y h' m d
      .rw[Xp h']at d;have:=p m d
       lia
  .intro Y g %[%[v,o4,o5,rfl|L]|j];rw[(Z6 _),Zn (Zi _)]at L;refine k3 _ _ ?_;lk;rcases L with⟨rfl,h⟩|⟨q,ws,x,rfl,G,o⟩
   .exact kn g (z.trans j) λx rx=>h x (J x (wx (λt ht=>(c t ht).2) rx) rx) rx
   .exact ky q g ws x (z.trans j) G λy n d=>o y (J y (wx (λt ht=>(c t ht).2) d.rch) d.rch) n d
def iz{S:Str->Str->Prop}(h:cz S z m)(c:dF S z x):cz S x m:=%[c.symm.trans h.1|λy d=>h.2 y (c.trans d)]
def jo(h:cv H c qs)(a b:Str)(s:aH qs a b):a∈c/\b∈c:=by
 have%[q,d|e]:=s;rcases(h q d).2 with⟨wd,x,y,f,_,g,i,_⟩|⟨wd,x,y,f,_⟩
 .lia
 grind
structure iA (mg:ZC) (H:Hp) (g:Addr) (qs:ZN) (ls:ZB) (ts:ZG):Prop where
 gr:∃c2 c3 c4,GrF mg H g c2 c3 c4 qs ls ts
 nd:ls.Nodup
 so:ls.Pairwise (λa b=>a8 b a=false)
 ll:ls.length<=80
 tl:ts.length<=181
 t3:∀k∈ts.map (·.2),bM ls k
 sm:∀k∈ts.map (·.2),∀z∈k,Sml z
 lm:∀z∈ls,Sml z
def iA.up(h:iA mg H g qs a ts)(s:ah H b):iA mg b g qs a ts:=by
 have%[c2,c,d|e]:=h.gr;exact%[%[c2,c,d|e.up s],h.nd,h.so,h.ll,h.tl,h.t3,h.sm|h.lm]
def iA.ends(h:iA mg H g qs f ts)(i:aC (aH qs) (ts.map (·.2)) lk)(j:k∈lk):∃a b z,k=[a,b,z]/\(a∈f/\cz (aH qs) a a)/\b∈f/\cz (aH qs) b b:=by
 have%[c2,r,s|l]:=h.gr;have%[a,b,z,m,n,o,c,d|rfl]:=(i.mem k).mp j;have%[x,y,u,e,p|q]:=h.t3 _ o;simp only[List.cons.injEq,and_true]at e;have%[rfl,rfl|rfl]:=e;have ws:=jo l.sa;exact%[m,n,z,rfl,%[c.1.within ws p|iz c c.1],d.1.within ws q|iz d d.1]
def iA.short(h:iA mg H g qs o ts)(d:aC (aH qs) (ts.map (·.2)) lk)(f:k∈lk):k.length<=3/\∀z∈k,Sml z:=by
 have%[c2,p,q|i]:=h.gr;have%[a,b,z,r,s,c,j,l|rfl]:=(d.mem k).mp f;have%[x,y,u,e,m|n]:=h.t3 _ c;simp only[List.cons.injEq,and_true]at e;have%[rfl,rfl|rfl]:=e;have ws:=jo i.sa;exact%[Zi _|Ht (h.lm _ (j.1.within ws m)) (h.lm _ (l.1.within ws n)) (h.sm _ c z ∅)]
def iA.names(h:iA mg H g qs d ts)(f:aC (aH qs) (ts.map (·.2)) lk)(c:fJ (aH qs) d i):∀k∈lk,bM i k:=λk j=>by
 have%[a,b,z,e,l|m]:=h.ends f j;exact%[a,b,z,e,(c.mem a).mpr l|(c.mem b).mpr m]
def iA.ties(h:iA mg H g qs c ts)(d:aC (aH qs) (ts.map (·.2)) lk):∀k∈lk,bM c k:=λk f=>by
 have%[a,b,z,e,i|j]:=h.ends d f;exact%[a,b,z,e,i.1|j.1]
def wz(a:ba H ss)(h:∀k∈ss.map (·.2),bM b k):dM H b ss:=λt q=>%[(a t q).2|h _ (Xr %[t,q|rfl])]
inductive yT (mg:ZC)
 | mk (g qs ls ts):vs=[.ref g]->iA mg H g qs ls ts->(∀H' lk,ah H H'->aC (aH qs) (ts.map (·.2)) lk->((∀x,¬ Rch lk x x)->Q .non H')/\∀r x,Rch lk x x->Q (.ref r) H')->yT mg vs H Q E0
inductive sU (mg:ZC)
 | mk (g qs ls ts):vs=[.ref g]->iA mg H g qs ls ts->(∀lk,aC (aH qs) (ts.map (·.2)) lk->∀x,¬ Rch lk x x)->(∀l H' ns ss,ah H H'->H' l=some (.lst (ss.map λt=>V.ref t.1))->dM H' ns ss->ss.length<=181->aC (aH qs) (ts.map (·.2)) (ss.map (·.2))->Q (.ref l) H')->sU mg vs H Q E0
def uI(T:Txt K mg):Cal P w K mg base 6 "ring" ["ground"] (yT mg):=by
 refine T.aS.cal E7 (λH vs Q E h=>?_)
 .have%[g,qs,e,ts,rfl,a|n]:=h;refine%[rfl|λf v A outer s d=>?_];have%[c2,o,p|q]:=a.gr;have M:=a.ll;refine%[_,%["JDHF~<AF~OA0BAF~=A0BB",0|d],g,c2,o,p,qs,e,ts,rfl,q,a.nd,a.so,⋯|λl N y t O z c=>%[g,c2,o,p,qs,e,ts,rfl,q.up t,a.nd,a.so,⋯,a.tl,a.t3|λm U ss u Y B C lk G=>?_]];have b:=t.trans u;refine%[l,m,y,ss,rfl,u _ _ z,c.nd,?_,B,wz C (a.names lk c),G,λi j I=>(n i _ (b.trans j) lk).1 I|λr i ws x j J _=>(n i _ (b.trans j) lk).2 r x J.sho.rch];have:=STab.nodup_sub c.nd λx L=>((c.mem x).mp L).1
  lia
def qo(T:Txt K mg):Cal P w K mg base 6 "untorn_links" ["ground"] (sU mg):=by
 refine T.aV.cal eG (λH vs Q E h=>?_)
 .have%[g,qs,e,ts,rfl,a,C|G]:=h;refine%[rfl|λf B A outer s d=>?_];have%[c2,j,n|o]:=a.gr;have O:=a.ll;refine%[_,%["JCG1F~=A0BCG2F~<AF~OA0BA1BCNL~E2)D/ODH1",eG.nd|d]|?_]
  show bq _ _ _ [!g,none,none] H;refine ap λU k1 _=>?_
  lk;refine%[g,c2,j,n,qs,e,ts,rfl,o,a.nd,a.so,⋯,a.tl,a.t3|λm Y ss p fm q I lk t=>k1 _ _ (ap λD2 k2 _=>?_)];lk;refine%[g,c2,j,n,qs,e,ts,rfl,o.up p,a.nd,a.so,⋯|λl H2 u i fl J c=>?_];have v:=wz I (a.names lk c);refine%[l,m,u,ss,rfl,J,c.nd,?_,i _ _ q,v.up i,t,λy z _=>k2 _ _ (ap λD3 L _=>?_)|λr y ws x z M _=>(C _ lk x M.sho.rch).elim]
  .have:=STab.nodup_sub c.nd λx N=>((c.mem x).mp N).1
   lia
  .lk;refine L _ _ ?_;have b:=i.trans z;exact G m y u ss (p.trans b) (b _ _ q) (v.up b) t lk
abbrev SD(M:ZB):List (Key×V):=VD M λ_=> .bl true
def Dj:∃M2,cX (SD M) (Sum.inr x) (.bl true)=SD M2/\(M.Nodup->M2.Nodup)/\∀y,y∈M2↔y∈M\/y=x:=by
 by_cases c:x∈M
 .refine%[M,?_,λh=>h|λy=>%[.inl|λh=>h.elim (λh=>h) λe=>e▸c]];unfold SD;rw[xU c]
  simp_all
 .refine%[M++[x],?_,λh=>nodup_append.mpr %[h,by simp|λa d b f e=>c (by rw[<-Xp f,<-e];exact d)]|λy=>by simp];unfold SD;rw[gj _ (jC c)];unfold VD;rw[Zd];rfl
def wA:∀{R M:ZB},∃M2,l7 (SD M) (SD R)=SD M2/\(M.Nodup->M2.Nodup)/\∀y,y∈M2↔y∈M\/y∈R
 |[],M=>%[M,rfl,λh=>h|λy=>by simp]
 | x::R,M=>by
   have%[M1,a,n1|b]:=Dj;have%[M2,c,d|m2]:=wA (R:=R);refine%[M2,?_,λh=>d (n1 h)|λy=>by rw[m2,b,Yw,or_assoc]];show l7 (cX _ (Sum.inr x) (.bl true)) (SD R)=_;rw[a,c]
def AT(r:Rch ks a c):∃y,Ed ks a y/\(y=c\/Rch ks y c):=by
 induction r with
 | one e=>exact%[_,e|.inl rfl]
 | more _ e b=>
   have%[y,h|q]:=b;exact%[y,h|.inr (q.elim (λq=>q▸ .one e) λq=> .more q e)]
def HE{b:ZB}{ss:ZG}(h:∀t∈ss,bM b t.2){x y:Str}(r:Rch (ss.map (·.2)) x y):y∈b:=by
 have:∃a,Ed (ss.map (·.2)) a y:=by
  cases r with
  | one e=>exact%[_|e]
  | more _ e=>exact%[_|e]
 have%[a,z|d]:=this;have%[t,f|c]:=Xq d;have%[u,v,w,e,_|g]:=h t f;rw[e]at c;exact((List.cons.inj (List.cons.inj c).2).1)▸g
structure Rea (H:Hp) (ks:List ZB) (rs:Gs Str):Prop where
 nd:(rs.map (·.1)).Nodup
 ad:(rs.map (·.2.1)).Nodup
 at_:∀r∈rs,H r.2.1=some (.dK (SD r.2.2))/\r.2.2.Nodup/\∀y,y∈r.2.2↔Rch ks r.1 y
inductive yU
 | mk (l m ns ss):vs=[.ref l,.ref m]->H l=some (.lst (ns.map V.str))->ns.Nodup->ns.length<=80->H m=some (.lst (ss.map λt=>V.ref t.1))->dM H ns ss->ss.length<=181->(∀x,¬ Rch (ss.map (·.2)) x x)->(∀d H' rs,ah H H'->H d=none->H' d=some (.dK (gD rs))->Rea H' (ss.map (·.2)) rs->(∀r∈rs,r.2.1≠d/\H r.2.1=none)->(∀x,x∈rs.map (·.1)↔x∈ns)->Q (.ref d) H')->yU vs H Q E0
def qp(T:Txt K mg):Cal P w K mg base 4 "all_beneath" ["names","found"] yU:=by
 refine T.aM.cal cK (λH vs Q E h=>?_)
 .have%[l,m,ns,ss,rfl,hl,nn,nl,hm,Y,bb,nr|kk]:=h;refine%[rfl|λf co A outer s u=>?_];refine%[_,%["JCG2F~nA1BCG3zCTPF~:A0A1BK4Cuz34DTP~N~a2A4ARBBK5Cu&h34Q5~DDZ]z]!h34Ah3Q5~DBDH3",cK.nd|u]|?_]
  show bq _ _ _ [!l,!m,none,none,none,none] H;refine ap λD1 k1 _=>?_
  lk;refine%[m,ns,ss,rfl,hm,Y,bb|λb H1 s1 fb hb=>k1 _ _ (ap λD2 k2 _=>?_)];lk;intro d fd;refine k2 _ _ (ap λD3 k3 _=>aB λbc hK=>?_);have s2:=ah.upd (o:= .dK []) fd;have hd:upd H1 d (.dK []) d=some (.dK (gD ([]:Gs Str))):=aa;have ab:=s1.trans s2;have bf:b≠d:=λc=>by
   have%[bl,I|_]:=hb;rw[c,fd]at I;cases I
  have bm:=s1.free fd;have bn:=hb.up s2
  generalize upd H1 d (.dK [])=H2 at s2 hd ab bn
  lk;refine%[l,m,ns,ss,rfl,ab _ _ hl,nn,nl,ab _ _ hm,Y.up ab,bb|λr H3 L s3 al Ln Ls b9 rest=> .inl %[r,rfl,%[_|SqL.of al]|hK _ _ ?_]];have cp:=s2.trans s3;have bp:∀x∈ns,x∈L:=λx hx=>Decidable.byContradiction λc=>Hm (ks:=ss.map (·.2)) (U:=ns.filter λx=>decide (x∉L)) (λx hx=>by
   have%[I|N]:=List.mem_filter.mp hx;have%[y,e,yn|yl]:=rest x I (Zo N);exact%[y,List.mem_filter.mpr %[yn|Zf yl]|e]) nr (List.mem_filter.mpr %[hx|Zf c])
  have Lm:(L.map V.str).length=L.length:=Z6 _;have Ll:=STab.nodup_sub Ln Ls;have bt:=bn.up s3;have an:=ab.trans s3;refine bz (xs:=L.map V.str) (λi σ G=>(∃o4 o5,σ=[!l,!m,!b,!d,o4,o5])/\dw d H3 G/\∃rs:Gs Str,G d=some (.dK (gD rs))/\Rea G (ss.map (·.2)) rs/\(∀r∈rs,r.2.1≠d/\H3 r.2.1=none)/\rs.map (·.1)=L.take i)
   %[%[_,_|rfl],λ_ _ _ e=>e,[],s3 _ _ hd,%[X6,X6|λ_ h=>(nomatch h)],λ_ h=>(nomatch h)|rfl] (λi σ G _ h=>SqL.of (h.2.1 _ _ (λc=>by have:=s3 _ _ hd;rw[<-c,al]at this;cases this) al)) ?_ ?_
  .intro i v σ G hv %[%[o4,o5|rfl],sm,rs,ag,g,rn|rk];rw[Zl]at hv;have%[n,hn|rfl]:=map_eq_some_iff.mp hv;have tk:L.take (i+1)=L.take i++[n]:=by rw[Xb,hn];rfl
   show bq _ _ _ [!l,!m,!b,!d,-n,o5] G;refine ap λD4 k4 _=>?_
   lk;intro e fe;have C:e≠d:=λc=>by rw[c,ag]at fe;cases fe
   have aq:n∉rs.map (·.1):=by
    rw[rk];intro c;have%[j|hj]:=Xg c;have jl:=(Xn hj).1;rw[Ym]at jl;rw[Yd ⋯]at hj;have:=ei Ln hj hn
    lia
   have rl:rs.length<=80:=by
    have:(rs.map (·.1)).length<=L.length:=by rw[rk,Ym];lia
    rw[Z6]at this
    lia
   have e3:H3 e=none:=by
    cases q:H3 e with
    | none=>rfl
    | some o=>rw[sm e o C q]at fe;cases fe
   refine%[_,jD.k (k:=Sum.inr n) (ah.upd fe _ _ ag) (by unfold gD;rw[Z6];exact aE ⋯)|k4 _ _ ?_];rw[gj _ (uG aq),show gD rs++[(Sum.inr n,V.ref e)]=gD (rs++[(n,e,[])]) by unfold gD;rw[Zd];rfl];have he:upd (upd G e (.dK [])) d (.dK (gD (rs++[(n,e,[])]))) e=some (.dK (SD [])):=by rw[am C,aa];rfl
   have bU:upd (upd G e (.dK [])) d (.dK (gD (rs++[(n,e,[])]))) d=_:=aa;have o4:∀c o,c≠d->G c=some o->upd (upd G e (.dK [])) d (.dK (gD (rs++[(n,e,[])]))) c=some o:=λc o h q=>by rw[am h,am (ay q fe)];exact q
   generalize upd (upd G e (.dK [])) d (.dK (gD (rs++[(n,e,[])])))=H4 at he bU o4
   have as:dw d H3 H4:=λc o h q=>o4 c o h (sm c o h q)
   refine aI λD5 k5 _=>aB λbc hK=>?_
   lk;refine%[.inr (.inr (.inl (.inl %[_|as _ _ bf bt.choose_spec.1]))),#[0]|λp hp=>?_];have%[bl,a,b0,ca,ai|cb]:=bt.get as bf (λxs c=>by rw[s3 _ _ hd]at c;cases c) hp n;have sp:=ah.upd (o:= .lst []) hp;have he:=sp _ _ he;have a0:=sp _ _ bU;have a1:=as.trans (dw.of sp);have a2:∀c o,c≠d->G c=some o->upd H4 p (.lst []) c=some o:=λc o h q=>sp _ _ (o4 c o h q)
   have ae:a≠e:=by
    rcases cb with rfl|⟨o,ho⟩
    .exact λc=>by rw[c]at hp;have:=he;rw[c,aa]at this;cases this
    .exact λc=>by rw[c,e3]at ho;cases ho
   generalize upd H4 p (.lst [])=H5 at b0 ai he a0 a1 a2 ⊢
   generalize b1:(ss.filter λt=>decide (t.2[0]? =some n))=ts at ai
   have tm:(ts.map λt=>V.ref t.1).length=ts.length:=Z6 _;have cd:∀t∈ts,t∈ss/\∃y z,t.2=[n,y,z]:=λt ht=>by
    rw[<-b1]at ht;have%[I|N]:=List.mem_filter.mp ht;have%[x,y,z,e|_]:=(Y t I).2;have N:=Zo N;rw[e]at N;exact%[I,y,z|by rw[e,show x=n from Za N]]
   refine%[Sum.inr n,rfl,bl,b0|.inl %[a,ca,%[_|SqL.of ai]|hK _ _ ?_]];refine bz (xs:=ts.map λt=>V.ref t.1) (λj σ O=>(∃o5,σ=[!l,!m,!b,!d,-n,o5])/\dw e H5 O/\∃M:ZB,O e=some (.dK (SD M))/\M.Nodup/\(∀y∈M,Rch (ss.map (·.2)) n y)/\∀t∈ts.take j,∀y,t.2[1]? =some y->y∈M/\∀z,Rch (ss.map (·.2)) y z->z∈M)
    %[%[_|rfl],λ_ _ _ q=>q,[],he,X6,λ_ h=>(nomatch h)|λ_ h=>(nomatch h)] (λj σ O _ h=>SqL.of (h.2.1 _ _ ae ai)) ?_ ?_
   .intro j v σ O hv %[%[o5|rfl],B,M,hM,Mn,Mr|Md];rw[Zl]at hv;have%[t,ht|rfl]:=map_eq_some_iff.mp hv;have%[b2,y,z|et]:=cd t (Z8 ht);show bq _ _ _ [!l,!m,!b,!d,-n,some (.ref t.1)] O;refine ap λD6 k6 _=>?_
    lk;have a3:∀c o,c≠d->c≠e->H3 c=some o->O c=some o:=λc o I N q=>B c o N (a1 c o I q)
    have te:∀c zs,H3 c=some (.tup zs)->O c=some (.tup zs):=λc zs q=>a3 c _ (λz=>by rw[z,s3 _ _ hd]at q;cases q) (λz=>by rw[z,e3]at q;cases q) q
    have t6:=te _ _ (an _ _ (Y t b2).1);rw[et]at t6;have a4:=B d _ C.symm a0;have aj:bH (gD (rs++[(n,e,([]:ZB))])) (Sum.inr n)=some (.ref e):=by
     have%[r,ch,e1|hv]:=mK (rs:=rs++[(n,e,[])]) (y:=n) ∅;rcases Xo ch with q|q
     .exact(aq (by exact e1▸Xr %[r,q|rfl])).elim
     .rw[Xp q]at hv;exact hv
    have gn:=cP.k (k:=Sum.inr n) a4;rw[aj]at gn;have ed:Ed (ss.map (·.2)) n y:=%[z|et▸Xr %[t,b2|rfl]]
    have yt:=b9 i n hn y ed;rw[<-rk]at yt;have%[M1,e1,n1|m1]:=Dj (M:=M) (x:=y);have a5:∀U:ZB,U.Nodup->(∀x∈U,Rch (ss.map (·.2)) n x)->U.length<=80:=λU I N=>Yh (STab.nodup_sub I λx hx=>HE (λt ht=>(Y t ht).2) (N x hx)) nl
    have Ml:=a5 M Mn Mr;refine%[_,gn,_,SqT.of t6,_,rfl,e,rfl,_,jD.k (k:=Sum.inr y) hM (by unfold SD VD;rw[Z6];exact aE ⋯)|k6 _ _ (aI λD7 k7 _=>?_)];rw[e1];have b3:∀x∈M1,Rch (ss.map (·.2)) n x:=λx hx=>((m1 x).mp hx).elim (Mr x) λq=>q▸ .one ed
    have a6:upd O e (.dK (SD M1)) e=some (.dK (SD M1)):=aa;have u7:∀c o,c≠e->O c=some o->upd O e (.dK (SD M1)) c=some o:=λc o h q=>(am h)▸q
    generalize upd O e (.dK (SD M1))=H7 at a6 u7
    have b4:=cP.k (k:=Sum.inr n) (u7 _ _ C.symm a4);rw[aj]at b4;have%[ry,J,ey|gy]:=mK (rs:=rs++[(n,e,[])]) (y:=y) (Zd▸Yu _ yt);have J:ry∈rs:=by
     rcases Xo J with q|q
     .exact q
     .rw[Xp q]at ey;exact(nr n (.one (by rw[<-show n=y from ey]at ed;exact ed))).elim
    have b5:=cP.k (k:=Sum.inr y) (u7 _ _ C.symm a4);rw[gy]at b5;have a7:ry.2.1≠e:=ay (g.at_ ry J).1 fe;have cl:=u7 _ _ a7 (B _ _ a7 (a2 _ _ (rn ry J).1 (g.at_ ry J).1));lk;have%[M2,e2,n2|m2]:=wA (R:=ry.2.2) (M:=M1);have ac:=(g.at_ ry J).2;rw[ey]at ac;have cs:=a5 M1 (n1 Mn) b3;have Rl:=a5 ry.2.2 ac.1 λx hx=>(Rch.one ed).trans ((ac.2 x).mp hx)
    refine%[_,b4,.inr (.inr (.inl (.inl %[_|a6]))),_,SqT.of (u7 _ _ (λc=>by rw[c,hM]at t6;cases t6) t6),_,rfl,_,b5,ry.2.1,rfl,_,_,a7.symm,a6,cl,by unfold SD VD;rw[Z6,Z6,PySem.sizeLine_eq];lia|?_];rw[e2];refine k7 _ _ %[%[_|rfl],λc o h q=>(am h)▸u7 c o h (B c o h q),M2,aa,n2 (n1 Mn),λx hx=>?_|λt' b6 x ex=>?_]
    .rcases(m2 x).mp hx with q|q
     .exact b3 x q
     .exact(Rch.one ed).trans ((ac.2 x).mp q)
    .rw[Xb,ht]at b6;rcases Xo b6 with q|q
     .have%[I|N]:=Md t' q x ex;exact%[(m2 x).mpr (.inl ((m1 x).mpr (.inl I)))|λz hz=>(m2 z).mpr (.inl ((m1 z).mpr (.inl (N z hz))))]
     .rw[show t'=t from Xp q,et]at ex;obtain rfl:y=x:=Za ex;exact%[(m2 y).mpr (.inl ((m1 y).mpr (.inr rfl)))|λz hz=>(m2 z).mpr (.inr ((ac.2 z).mpr hz))]
   .intro σ O %[%[o5|rfl],B,M,hM,Mn,Mr|Md];rw[tm,Zn (Zi _)]at Md;have all:∀y,y∈M↔Rch (ss.map (·.2)) n y:=λy=>%[Mr y|λr=>by
     have%[x,%[z|hz]|q]:=AT r;have%[t,ht|et]:=Xq hz;have h:=Md t (b1▸List.mem_filter.mpr %[ht|by rw[et];simp]) x (by rw[et];rfl);exact q.elim (λq=>q▸h.1) λq=>h.2 y q]
    have b7:∀r∈rs,r.2.1≠e:=λr u=>ay (g.at_ r u).1 fe
    refine k5 _ _ %[%[_,_|rfl],λc o h q=>B c o (ay q e3) (a1 c o h q),rs++[(n,e,M)],?_,%[?_,?_|λr u=>?_],λr u=>?_|by rw[Zd,rk,tk];rfl]
    .rw[B d _ C.symm a0];unfold gD;rw[Zd,Zd];rfl
    .rw[Zd,X3];exact%[g.nd,by simp|λa ha b hb c=>aq (by rw[<-show b=n from Xp hb,<-c];exact ha)]
    .rw[Zd,X3];refine%[g.ad,by simp|λa ha b hb c=>?_];have%[r,u|rfl]:=Xq ha;exact b7 r u (c.trans (Xp hb))
    .rcases Xo u with q|q
     .exact%[B _ _ (b7 r q) (a2 _ _ (rn r q).1 (g.at_ r q).1)|(g.at_ r q).2]
     .rw[Xp q];exact%[hM,Mn|all]
    .rcases Xo u with q|q
     .exact rn r q
     .rw[Xp q];exact%[C|e3]
  .intro σ G %[%[o4,o5|rfl],sm,rs,ag,g,rn|rk];rw[Lm,Zn (Zi _)]at rk;refine k3 _ _ ?_;lk;exact kk d G rs (λc o e=>sm c o (ay e bm) (an _ _ e)) bm ag g (λr u=>%[(rn r u).1|an.free (rn r u).2]) λx=>rk▸%[Ls x|bp x]
structure ReF (H:Hp) (ks:List ZB) (d:Addr) (rs:Gs Str):Prop where
 at_:∃o,H d=some (.frz o (.dK (gD rs)))
 nd:(rs.map (·.1)).Nodup
 in_:∀r∈rs,(∃o,H r.2.1=some (.frz o (.dK (SD r.2.2))))/\r.2.2.Nodup/\∀y,y∈r.2.2↔Rch ks r.1 y
def ReF.up(h:ReF H ks d rs)(s:ah H b):ReF b ks d rs:=
 %[h.at_.imp λo e=>s _ _ e,h.nd|λr a=>%[(h.in_ r a).1.imp λo e=>s _ _ e|(h.in_ r a).2]]
inductive yV
 | mk (l m ns ss):vs=[.ref l,.ref m]->H l=some (.lst (ns.map V.str))->ns.Nodup->ns.length<=80->H m=some (.lst (ss.map λt=>V.ref t.1))->dM H ns ss->ss.length<=181->(∀x,¬ Rch (ss.map (·.2)) x x)->(∀d H' rs,ah H H'->ReF H' (ss.map (·.2)) d rs->(∀x,x∈rs.map (·.1)↔x∈ns)->Q (.ref d) H')->yV vs H Q E0
def qU(T:Txt K mg):Cal P w K mg base 4 "all_beneath" ["names","found"] yV:=by
 refine(qp T).freeze.imp λvs H Q E zqw=>?_;have%[l,m,f,ss,g,h,i,j,n,p,s,t|u]:=zqw;refine %[l,m,f,ss,g,h,i,j,n,p,s,t|λd B rs v C y a z A=>%[d::rs.map _|λG=>u d _ rs (λc o e=>?_) %[%[_|n6 Zm y],a.nd|λr b=>%[%[_|n6 (Zk _ (Xr %[r,b|rfl])) (a.at_ r b).1]|(a.at_ r b).2]] A]]
 rw[pG]
 .exact v c o e
 .intro q;rcases mem_cons.mp q with rfl|q
  .lia
  .have%[r,b|rfl]:=Xq q;rw[(z r b).2]at e;cases e
inductive yX (mg:ZC)
 | mk (g qs ls ts):vs=[.ref g]->iA mg H g qs ls ts->(∀lk,aC (aH qs) (ts.map (·.2)) lk->∀x,¬ Rch lk x x)->(∀d H' rs lk ns,ah H H'->aC (aH qs) (ts.map (·.2)) lk->fJ (aH qs) ls ns->ReF H' lk d rs->(∀x,x∈rs.map (·.1)↔x∈ns)->Q (.ref d) H')->yX mg vs H Q E0
def jp(T:Txt K mg):Cal P w K mg base 7 "earlier_ones" ["ground"] (yX mg):=by
 refine T.aW.cal iM (λH vs Q E h=>?_)
 .have%[g,qs,e,ts,rfl,a,n|r]:=h;refine%[rfl|λf q A outer s c=>?_];have%[c2,u,v|y]:=a.gr;have U:=a.ll;refine%[_,%["JCG1F]$A0BDHF]%AF~OA0BA1B",iM.nd|c]|?_]
  show bq _ _ _ [some _,none] H;refine ap λY k1 _=>?_
  lk;refine%[g,qs,e,ts,rfl,a,n|λl H1 z ss o B C G lk=>k1 _ _ ?_];lk;refine%[g,c2,u,v,qs,e,ts,rfl,y.up o,a.nd,a.so,⋯|λm H2 i j fm I b=>?_];have nl:i.length<=80:=by
   have:=STab.nodup_sub b.nd λx J=>((b.mem x).mp J).1
   lia
  refine%[m,l,i,ss,rfl,I,b.nd,nl,j _ _ B,λt p=>%[j _ _ (C t p).1|a.names lk b _ (Xr %[t,p|rfl])],G,n _ lk|λd L rs M N O=>r d L rs _ i (o.trans (j.trans M)) lk b N O]
abbrev TD(L:ZB)(m:Str->Str):List (Key×V):=VD L λx=> .str (m x)
structure IS (ks:List _) (ns L:ZB) (m:Str->Str) (A0 Q:ZB) (g:Str->Str) (W:ZB):Prop where
 ask:Ask (Rch ks) L m A0 Q g
 ql:∀x∈Q,x∈L
 qn:∀x∈Q,x∈ns
 wn:∀b∈W,b∈ns/\(b∈A0\/∃y∈Q,y∈L/\m y=b)
 cl:∀b,(b∈A0\/∃y∈Q,y∈L/\m y=b)->b∈W\/∀p,Rch ks b p->p∈Q
structure Fl (ks:List _) (ns L:ZB) (m:Str->Str) (A0 Q:ZB) (g:Str->Str) (W:ZB) (b:Str):Prop where
 ask:Ask (Rch ks) L m A0 Q g
 ql:∀x∈Q,x∈L
 qn:∀x∈Q,x∈ns
 wn:∀b∈W,b∈ns/\(b∈A0\/∃y∈Q,y∈L/\m y=b)
 cl:∀c,(c∈A0\/∃y∈Q,y∈L/\m y=c)->c∈W\/c=b\/∀p,Rch ks c p->p∈Q
 by_:b∈A0\/∃y∈Q,y∈L/\m y=b
def yY(a:Ask E L m h Q g)(j:p∉Q)(e:E b p)(f:b∈h\/∃y∈Q,y∈L/\m y=b):Ask E L m h (Q++[p]) (λx=>if x=p then b else g x):=by
 refine%[nodup_append.mpr %[a.nd,by simp|λx d y o c=>j (by rw[<-Xp o,<-c];exact d)]|λi x d=>?_];by_cases c:i<Q.length
 .rw[Y9 c]at d;have n:x≠p:=λz=>j (z▸Z8 d)
  rw[if_neg n,Xd (Yf c)];exact a.by_ i x d
 .have l:=(Xn d).1;rw[Z9,Yl]at l;obtain rfl:i=Q.length:=by lia
  rw[Ya (Zi _),sub_self]at d;obtain rfl:p=x:=Za d;rw[if_pos rfl,List.take_left];exact%[e|f]
def Fl.add{i L d Q W:ZB}(a:Fl ks i L m d Q g W b)(n:p∉Q)(e:Rch ks b p)(pl:p∈L)(pn:p∈i)(o:m p∈i):Fl ks i L m d (Q++[p]) (λx=>if x=p then b else g x) (W++[m p]) b:=by
 have up:∀{c},(c∈d\/∃y∈Q,y∈L/\m y=c)->c∈d\/∃y∈Q++[p],y∈L/\m y=c:=λh=>h.imp_right λ⟨y,h,q⟩=>%[y,Yu _ h|q]
 refine%[yY a.ask n e a.by_,λx j=>?_,λx j=>?_,λc l=>?_,λc l=>?_|up a.by_]
 .exact(Xo j).elim (a.ql x) λh=>Xp h▸pl
 .exact(Xo j).elim (a.qn x) λh=>Xp h▸pn
 .rcases Xo l with h|h
  .exact%[(a.wn c h).1|up (a.wn c h).2]
  .rw[Xp h];exact%[o|.inr %[p,Yv _ Zm,pl|rfl]]
 .have f:(c∈d\/∃y∈Q,y∈L/\m y=c)->c∈W++[m p]\/c=b\/∀q,Rch ks c q->q∈Q++[p]:=λh=>(a.cl c h).imp (Yu _) λh=>h.imp_right λh q r=>Yu _ (h q r)
  rcases l with h|⟨y,s,t,rfl⟩
  .exact f (.inl h)
  .rcases Xo s with h|h
   .exact f (.inr %[y,h,t|rfl])
   .rw[Xp h];exact .inl (Yv _ Zm)
def cN:((bH (TD L m) (Sum.inr x)).isSome=true↔x∈L)/\(x∈L->bH (TD L m) (Sum.inr x)=some (.str (m x))):=by
 refine%[?_|λh=>km h];unfold TD;by_cases c:x∈L
 .rw[km c];exact%[λ_=>c|λ_=>rfl]
 .rw[jC c];simp_all
def xV(h:x∉L):cX (TD L m) (Sum.inr x) (.str y)=TD (L++[x]) (λz=>if z=x then y else m z):=by
 unfold TD;rw[gj _ (jC h)];unfold VD;rw[Zd];refine congr (congrArg _ (Yq λa b=>?_)) ∅;show(Sum.inr a,V.str _)=((Sum.inr a),V.str (if a=x then y else m a))
 rw[if_neg (λc:a=x=>h (c▸b))]
inductive yZ
 | mk (d hb al:Addr) (ks:List _) (rs:Gs Str) (ns L A0:ZB) (m:Str->Str):vs=[.ref d,.ref hb,.ref al]->ReF H ks d rs->(∀x,x∈rs.map (·.1)↔x∈ns)->(∀x y,Rch ks x y->y∈ns)->ns.length<=80->ns.Nodup->Rd H hb (.dK (TD L m))->(∀x∈L,m x∈ns)->H al=some (.lst (A0.map V.str))->(∀x∈A0,x∈ns)->A0.length<=80->(∀q H' U g,ah H H'->H q=none->H' q=some (.dK (TD U g))->Ask (Rch ks) L m A0 U g->(∀x∈U,x∈ns)->((∃f∈U,f∉L)\/((∀x∈U,x∈L)/\∀b,(b∈A0\/∃y∈U,y∈L/\m y=b)->∀p,Rch ks b p->p∈U))->Q (.ref q) H')->yZ vs H Q E0
def qV(T:Txt K mg):Cal P w K mg base 1 "ask_around" ["partners","held_by","askers"] yZ:=by
 refine T.aO.cal c9 (λH vs Q E h=>?_)
 .have%[d,u,al,ks,rs,ns,L,A0,m,rfl,re,rk,rn,nl,nn,hh,mn,ha,an,a7|kk]:=h;refine%[rfl|λf bc A outer s hr=>?_];refine%[_,%["JCG3zCG4!(A2BC|L_XYA4BECG5]&]'4DT~bh05K6DN=63Cu536CN=61DH3ODZol4Ah16BODH3",c9.nd|hr]|?_]
  show bq _ _ _ [!d,!u,!al,none,none,none,none] H;refine ap λD1 k1 _=>?_
  lk;intro q fq;refine k1 _ _ (ap λD2 k2 _=>?_);have s1:=ah.upd (o:= .dK []) fq;have M:upd H q (.dK []) q=some (.dK (TD [] id)):=aa
  generalize upd H q (.dK [])=H1 at s1 M
  lk;refine%[_,.inl (SqL.of (s1 _ _ ha))|λj fw=>k2 _ _ (ap λD3 k3 r3=>?_)];have ac:j≠q:=λc=>by rw[c,M]at fw;cases fw
  have s2:=ah.upd (o:= .lst (A0.map V.str)) fw;have hw:upd H1 j (.lst (A0.map V.str)) j=_:=aa;have M:=s2 _ _ M;have aq:=s1.trans s2;have as:=s1.free fw
  generalize upd H1 j (.lst (A0.map V.str))=H2 at hw M aq
  refine⟨λn σ a=>∃(o5 J:Option V) (U W:ZB) (g:Str->Str),σ=[!d,!u,!al,!q,!j,o5,J]/\ah H a/\a q=some (.dK (TD U g))/\a j=some (.lst (W.map V.str))/\IS ks ns L m A0 U g W/\n=2*(81-U.length) +W.length/\n<=300,%[_,none,none,[],A0,id,rfl,aq,M,hw,%[%[X6|λi x e=>(nomatch e)],λ_ h=>(nomatch h),λ_ h=>(nomatch h),λb u=>%[an b u|.inl u]|λb u=> .inl (u.elim (λh=>h) λ⟨_,h,_⟩=>(nomatch h))],rfl|by rw[length_nil];lia],?_⟩;intro n σ H3 %[o5,J,U,W,g,rfl,sm,M,hw,B,rfl|ab];have wm:(W.map V.str).length=W.length:=Z6 _;lk;have Ul:=STab.nodup_sub B.ask.nd B.qn;refine%[W.length,.inl %[_,SqL.of hw|wm.symm]|bG (λc=>?_) λc=>?_]
  .have c:=Zo c;obtain⟨W1,b,rfl⟩:∃W1 b,W=W1++[b]:=%[W.dropLast,W.getLast (λe=>by rw[e]at c;simp at c)|(List.dropLast_concat_getLast _).symm]
   refine⟨λa0 a=>∃n',n'<2*(81-U.length) +(W1++[b]).length/\∃(o5 J:Option V) (U W:ZB) (g:Str->Str),a0=[!d,!u,!al,!q,!j,o5,J]/\ah H a/\a q=some (.dK (TD U g))/\a j=some (.lst (W.map V.str))/\IS ks ns L m A0 U g W/\n'=2*(81-U.length) +W.length/\n'<=300,λa0 a ⟨n',h1,o5,J,U,W,g,h2,h3,h4,h5,h6,h7⟩=>%[n',h1,%[o5,J|h2],h3,U,W,g,h4,h5,h6|h7],.inl %[_|SqL.of hw],j,_,.str b,rfl,rfl,hw,by simp,aB λbb hK=>?_⟩;have dl:((W1++[b]).map V.str).dropLast=W1.map V.str:=Zd▸List.dropLast_concat;rw[dl];have a1:upd H3 j (.lst (W1.map V.str)) j=_:=aa;have a2:upd H3 j (.lst (W1.map V.str)) q=some (.dK (TD U g)):=(am ac.symm)▸M;have N:ah H (upd H3 j (.lst (W1.map V.str))):=ah.set sm as
   generalize upd H3 j (.lst (W1.map V.str))=H4 at a1 a2 N ⊢
   have%[bn|a4]:=B.wn b ∅;have%[o|ed]:=re.at_;have%[r,a5,er|gv]:=mK (rs:=rs) (y:=b) ((rk b).mpr bn);have%[%[ro|a3],bf|C]:=re.in_ r a5;rw[er]at C;unfold sj;lk;have kl:(SD r.2.2).length=r.2.2.length:=Z6 _;refine%[_,(.inl %[_,Sum.inr b,.inr %[o|N _ _ ed],rfl|gv.symm]),_,rfl,_,_,N _ _ a3|hK _ _ (vQ (λi σ a=>(∃J,σ=[!d,!u,!al,!q,!j,-b,J])/\ah H a/\∃(l W2:ZB) (g1:Str->Str),a q=some (.dK (TD l g1))/\a j=some (.lst (W2.map V.str))/\Fl ks ns L m A0 l g1 W2 b/\(∀x∈r.2.2.take i,x∈l)/\2*(81-l.length) +W2.length<=2*(81-U.length) +W1.length)
    %[%[_|rfl],N,U,W1,g,a2,a1,%[B.ask,B.ql,B.qn,λc hc=>B.wn c (Yu _ hc),λc hc=>(B.cl c hc).elim (λh=>(Xo h).imp_right λh=> .inl (Xp h)) λh=> .inr (.inr h)|a4],λ_ h=>(nomatch h)|Zi _] (λi σ a _ h=>h.2.1 _ _ a3) ?_ ?_)]
   .intro i k v σ a hv %[%[J|rfl],O,l,W2,g1,G,Y,t,dn|le];unfold SD VD at hv;rw[Zl]at hv;have%[p,hp|ep]:=map_eq_some_iff.mp hv;obtain⟨rfl,rfl⟩:Sum.inr p=k/\V.bl true=v:=%[congrArg (·.1) ep|congrArg (·.2) ep]
    have tk:r.2.2.take (i+1)=r.2.2.take i++[p]:=by rw[Xb,hp];rfl
    have bp:=(C p).mp (Z8 hp);have bl:=STab.nodup_sub t.ask.nd t.qn;show nE _ _ _ _ [!d,!u,!al,!q,!j,-b,-p] a;refine aI λD4 k4 r4=>?_
    lk;refine%[_,cP.k (k:=Sum.inr p) G|bG (λc=>?_) λc=>?_]
    .have pn:p∉l:=λh=>by rw[cN.1.mpr h]at c;cases c
     refine%[_,jD.k (k:=Sum.inr p) G (by unfold TD VD;rw[Z6];exact aE ⋯)|?_];rw[xV pn];have I:=ah.set (o:= .dK (TD (l++[p]) λz=>if z=p then b else g1 z)) O fq;have ae:upd a q (.dK (TD (l++[p]) λz=>if z=p then b else g1 z)) q=_:=aa;have ag:upd a q (.dK (TD (l++[p]) λz=>if z=p then b else g1 z)) j=some (.lst (W2.map V.str)):=(am ac)▸Y
     generalize upd a q (.dK (TD (l++[p]) λz=>if z=p then b else g1 z))=H6 at I ae ag ⊢
     have gh:cP H6 u (.str p) (bH (TD L m) (Sum.inr p)):= .inl %[_,Sum.inr p,hh.imp (I _ _) λ⟨o,e⟩=>%[o|I _ _ e],rfl|rfl];refine%[_,gh|bG (λe=>?_) λe=>?_]
     .have pl:p∉L:=λh=>by rw[cN.1.mpr h]at e;cases e
      exact r4 _ _ (r3 _ _ (kk q H6 _ _ I fq ae (yY t.ask pn bp t.by_) (λx hx=>(Xo hx).elim (t.qn x) λh=>Xp h▸rn _ _ bp) (.inl %[p,Yv _ Zm|pl])))
     .have pl:p∈L:=cN.1.mp (by cases h:(bH (TD L m) (Sum.inr p)).isSome with
       | true=>rfl
       | false=>rw[h]at e;exact absurd rfl e)
      rw[cN.2 pl]at gh;have bm:W2.length<=300:=by rw[Z9]at ab;lia
      refine%[.inl %[_|SqL.of ag],_,gh,_,ag,by rw[Z6];exact aE ⋯|k4 _ _ %[%[_|rfl],ah.set I as,l++[p],W2++[m p],_,(am ac.symm).trans ae,by rw[aa,Zd];rfl,t.add pn bp pl (rn _ _ bp) (mn p pl),λx hx=>?_|?_]]
      .rw[tk]at hx;exact(Xo hx).elim (λh=>Yu _ (dn x h)) λh=>Yv _ h
      .have a6:=STab.nodup_sub (t.add pn bp pl (rn _ _ bp) (mn p pl)).ask.nd (t.add pn bp pl (rn _ _ bp) (mn p pl)).qn;rw[Z9,Yl]at a6 ⊢;rw[Z9,Yl]
       lia
    .have pu:p∈l:=cN.1.mp (by cases h:(bH (TD l g1) (Sum.inr p)).isSome with
      | true=>rfl
      | false=>rw[h]at c;exact absurd rfl c)
     refine k4 _ _ %[%[_|rfl],O,l,W2,g1,G,Y,t,λx hx=>?_|le];rw[tk]at hx;exact(Xo hx).elim (dn x) λh=>Xp h▸pu
   .intro σ a %[%[J|rfl],O,l,W2,g1,G,Y,t,dn|le];rw[kl,Zn (Zi _)]at dn;rw[Z9,Yl]at ab;refine%[_,?_,_,_,l,W2,g1,rfl,O,G,Y,%[t.ask,t.ql,t.qn,t.wn|λc hc=>?_],rfl|⋯]
    .rw[Z9,Yl];lia
    .rcases t.cl c hc with h|rfl|h
     .exact .inl h
     .exact .inr λp hp=>dn p ((C p).mpr hp)
     .exact .inr h
  .refine k3 _ _ ?_;have e:W=[]:=by
    cases W with
    | nil=>rfl
    | cons x W=>exact absurd (Zf (by rw[Zr];lia)) c
   subst e;lk;exact kk q H3 U g sm fq M B.ask B.qn (.inr %[B.ql|λb u=>(B.cl b u).resolve_left λh=>(nomatch h)])
inductive Dk
 | mk (d hb al:Addr) (ks:List ZB) (rs:Gs Str) (ns L A0:ZB) (m:Str->Str):vs=[.ref d,.ref hb,.ref al]->ReF H ks d rs->(∀x,x∈rs.map (·.1)↔x∈ns)->(∀x y,Rch ks x y->y∈ns)->ns.length<=80->ns.Nodup->Rd H hb (.dK (TD L m))->(∀x∈L,m x∈ns)->H al=some (.lst (A0.map V.str))->(∀x∈A0,x∈ns)->A0.length<=80->(∀q o H' (U:ZB) (g:Str->Str),ah H H'->H' q=some (.frz o (.dK (TD U g)))->Ask (Rch ks) L m A0 U g->(∀x∈U,x∈ns)->((∃f∈U,f∉L)\/((∀x∈U,x∈L)/\∀b,(b∈A0\/∃y∈U,y∈L/\m y=b)->∀p,Rch ks b p->p∈U))->Q (.ref q) H')->Dk vs H Q E0
inductive y6
 | mk (d:Addr) (o:Obj) (L:ZB) (m:Str->Str):vs=[.ref d]->H d=some (.frz o (.dK (TD L m)))->L.length<=80->L.Nodup->(∀x∈L,∀y∈L,m x=m y->x=y)->(∀t H' (i:Str->Str),ah H H'->H t=none->H' t=some (.dK (TD (L.map m) i))->(∀x∈L,i (m x)=x)->Q (.ref t) H')->y6 vs H Q E0
inductive Dl
 | mk (d:Addr) (L:ZB) (m:Str->Str):vs=[.ref d]->Rd H d (.dK (TD L m))->L.length<=80->L.Nodup->(∀x∈L,∀y∈L,m x=m y->x=y)->(∀t H' (i:Str->Str),ah H H'->H t=none->H' t=some (.dK (TD (L.map m) i))->(∀x∈L,i (m x)=x)->Q (.ref t) H')->Dl vs H Q E0
def lR(T:Txt K mg):Cal P w K mg base 1 "ask_around" ["partners","held_by","askers"] Dk:=by
 refine(qV T).freeze.imp λvs H Q E zqw=>?_;have%[d,i,j,ks,rs,l,L,n,m,p,r,s,t,u,v,y,z,A,f,h|B]:=zqw;refine %[d,i,j,ks,rs,l,L,n,m,p,r,s,t,u,v,y,z,A,f,h|λq I U g C J G a b c=>%[[q]|λM=>B q _ _ U g (λx o e=>?_) (n6 Zm G) a b c]]
 rw[pG]
 .exact C x o e
 grind
def mL(T:Txt K mg):Cal P w K mg base 1 "keys_by_value" ["some"] y6:=by
 refine T.aQ.cal cT (λH vs Q E h=>?_)
 .have%[d,o,L,m,rfl,hd,ae,nd,inj|kk]:=h;refine%[rfl|λf ac A outer s hr=>?_];refine%[_,%["JCG1zCT~>0bMK2MK3cDu213DH1",cT.nd|hr]|?_]
  show bq _ _ _ [!d,none,none,none] H;refine ap λD1 k1 _=>?_
  lk;intro t G;refine k1 _ _ (ap λD2 k2 _=>aB λab hK=>?_);have I:=ah.upd (o:= .dK []) G;have ht:upd H t (.dK []) t=some (.dK (TD (([]:ZB).map m) id)):=aa
  generalize upd H t (.dK [])=H1 at I ht
  unfold xF;lk;have ll:(TD L m).length=L.length:=Z6 _;refine%[_,_,I _ _ hd|hK _ _ (AA (λi u a=>(∃J M,u=[!d,!t,J,M])/\ah H a/\∃l:Str->Str,a t=some (.dK (TD ((L.take i).map m) l))/\∀x∈L.take i,l (m x)=x)
   %[%[_,_|rfl],I,id,ht|λ_ h=>(nomatch h)] (λi u a _ h=>h.2.1 _ _ hd) ?_ ?_)]
  .intro i k v B u a N %[%[J,M|rfl],O,l,b|g] U;unfold TD VD at N;rw[Zl]at N;have%[x,Y|ex]:=map_eq_some_iff.mp N;obtain⟨rfl,rfl⟩:Sum.inr x=k/\V.str (m x)=v:=%[congrArg (·.1) ex|congrArg (·.2) ex]
   have s2:=ah.upd (o:= .tup [.str x,.str (m x)]) U;have n:upd a B (.tup [.str x,.str (m x)]) B=_:=aa;have p:=s2 _ _ b;have q:=O.trans s2;show Bf _ _ _ _ _ (upd a B (.tup [.str x,.str (m x)])) _
   generalize upd a B (.tup [.str x,.str (m x)])=H2 at n p q ⊢
   have tk:L.take (i+1)=L.take i++[x]:=by rw[Xb,Y];rfl
   have xn:m x∉(L.take i).map m:=λc=>by
    have%[y,C|e]:=Xq c;have%[j|r]:=Xg C;have jl:=(Xn r).1;rw[Ym]at jl;rw[Yd ⋯]at r;rw[inj y (Z8 r) x (Z8 Y) e]at r;have:=ei nd r Y
    lia
   refine%[_,SqT.of n,rfl,_,_,rfl,_,_,rfl,rfl|?_];show ot _ _ _ _ [!d,!t,-x,some (.str (m x))] H2;refine aI λD3 k3 _=>?_
   lk;have tl:(L.take i).length<=80:=by rw[Ym];lia
   refine%[_,jD.k (k:=Sum.inr (m x)) p (by unfold TD VD;rw[Z6,Z6];exact aE ⋯)|k3 _ _ %[%[_,_|rfl],ah.set q G,λz=>if z=m x then x else l z,?_|λy C=>?_]]
   .rw[aa,xV xn,tk,Zd];rfl
   .rw[tk]at C;rcases Xo C with h|h
    .show(if m y=m x then x else l (m y))=y;rw[if_neg (λe:m y=m x=>xn (e▸Xr %[y,h|rfl]))];exact g y h
    .rw[Xp h];show(if m x=m x then x else l (m x))=x;rw[if_pos rfl]
  .intro u a %[%[J,M|rfl],O,l,b|g];rw[ll,Zn (Zi _)]at b g;refine k2 _ _ ?_;lk;exact kk t a l O G b g
def eI(T:Txt K mg):Cal P w K mg base 1 "keys_by_value" ["some"] Dl:=by
 refine(mL T).frozen.imp λvs H Q E zqw=>?_;have%[d,L,m,f,a,g,h,j|l]:=zqw;refine a.elim (λa=> .inr %[d,_,by rw[f];rfl,a|λo=>%[d,o,L,m,f,aa,g,h,j|λt r i p b q hi=>?_]]) λ⟨o,a⟩=> .inl %[d,o,L,m,f,a,g,h,j|l]
 have n:t≠d:=λc=>by rw[c,aa]at b;cases b
 rw[am n]at b;refine l t _ i (λc o e=>?_) b ((am n)▸q) hi;by_cases z:c=d
 .rw[z]at e ⊢;rw[a]at e;rw[aa];exact e
 .rw[am z];exact p c o ((am z)▸e)
inductive za
 | mk (hb q:Addr) (o:Obj) (f a0:Str) (ks:List ZB) (L U:ZB) (m g:Str->Str) (S T:Str->Prop):vs=[.ref hb,.ref q,.str f]->H hb=some (.dK (TD L m))->H q=some (.frz o (.dK (TD U g)))->L.length<80->Mat (Rch ks) L m->Ask (Rch ks) L m [a0] U g->(∀x∈L,m x≠a0)->li (Rch ks) L m S T->f∈U->f∉L->(∀H' (L':ZB) (m':Str->Str),(∀c o,c≠hb->H c=some o->H' c=some o)->H' hb=some (.dK (TD L' m'))->Mat (Rch ks) L' m'->li (Rch ks) L' m' S T->(∀x,x∈L'↔x∈L\/x=f)->(∀x∈L',m' x=a0\/∃y∈L,m y=m' x)->(∀y,y=a0\/(∃x∈L,m x=y)->∃x∈L',m' x=y)->Q .non H')->za vs H Q E0
abbrev IT(s:Hp)(d q t:Addr)(f l:Str)(ks:List ZB)(L U:ZB)(m g:Str->Str)(S T:Str->Prop)(n:Nat)(r:L2.St)(e:Hp):Prop:=(∀c o,c≠d->s c=some o->e c=some o)/\∃(C h:ZB),((∃p j i,r=[!d,!q,-f,!t,-p,i]/\pH (Rch ks) L U m g T f C j p/\e d=some (.dK (TD h λx=>if x∈C then g x else m x))/\((C=[]/\h=L)\/(f∈C/\h=L++[f]))/\n=j+1)\/(∃i,r=[!d,!q,-f,!t,some .non,i])/\n=0/\∃(a:ZB) (b:Str->Str),e d=some (.dK (TD a b))/\Mat (Rch ks) a b/\li (Rch ks) a b S T/\(∀x,x∈a↔x∈L\/x=f)/\(∀x∈a,b x=l\/∃y∈L,m y=b x)/\∀y,y=l\/(∃x∈L,m x=y)->∃x∈a,b x=y)
def AU(T:Txt K mg):Cal P w K mg base 2 "pass_on" ["held_by","asked_by","free"] za:=by
 refine T.aP.cal fD (λH vs Q E h=>?_)
 .have%[b,q,o,f,J,ks,L,U,m,g,S,N,rfl,B,O,aq,M,a,h0,Y,fU,G|kk]:=h;refine%[rfl|λ_ an A outer s I=>?_];refine%[_,%["JCG3F~oA0BCG42D|L~E4)CG5h14Cu504DG4~N](3A5B",fD.nd|I]|?_]
  show bq _ _ _ [!b,!q,-f,none,none,none] H;refine ap λD1 k1 _=>?_
  lk;refine%[b,L,m,rfl,.inl B,⋯,M.nd,M.inj|λt H1 i s1 ft ht hi=>k1 _ _ (ap λD2 k2 _=>?_)];lk;refine k2 _ _ ?_;have ab:t≠b:=λc=>by rw[c,B]at ft;cases ft
  have ac:q≠b:=λc=>by rw[c,B]at O;cases O
  have%[i0|ae]:=Xg fU;refine%[IT H1 b q t f J ks L U m g S N,
   %[_,λ_ _ _ e=>e,[],L|.inl %[f,i0,none,rfl,pH.start Y G ae,by rw[s1 _ _ B];rfl,.inl %[rfl|rfl]|rfl]]|?_]
  rintro n σ H2 ⟨sm,C,L1,⟨p,j,o5,rfl,bk,ag,r,rfl⟩|⟨⟨o5,rfl⟩,rfl,L',m',e1,e2,e3,e4,e5,e6⟩⟩
  .lk;rw[if_pos ∅];refine⟨λai H'=>∃n',n'<j+1/\IT H1 b q t f J ks L U m g S N n' ai H',λ_ _ h=>h,?_⟩;have as:L1.length<=80:=by
    rcases r with⟨_,rfl⟩|⟨_,rfl⟩
    .lia
    .rw[Z9,Yl];lia
   have pC:p∉C:=λc=>by
    have%[k,kl|hk]:=bk.far p c;have:=ei a.nd bk.at_ hk
    lia
   have put:cX (TD L1 λx=>if x∈C then g x else m x) (Sum.inr p) (.str (g p))=TD (L++[f]) λx=>if x∈C++[p]then g x else m x:=by
    have fe:(λz=>if z=p then g p else if z∈C then g z else m z)=λx=>if x∈C++[p]then g x else m x:=funext λz=>by
     by_cases e:z=p
     .rw[if_pos e,if_pos (by rw[e];simp),e]
     .have:z∈C++[p]↔z∈C:=by rw[Yt,Yz];exact or_iff_left e
      rw[if_neg e];simp only[this]
    rcases r with⟨rfl,rfl⟩|⟨fc,rfl⟩
    .obtain rfl:p=f:=bk.hf.resolve_left λh=>(nomatch h)
     rw[xV G,fe]
    .unfold TD;rw[xU (Yu _ (bk.own.resolve_left λe=>pC (e▸fc))),<-fe];exact congrArg (VD _) (funext λz=>by by_cases e:z=p<;> simp[e])
   refine%[_,(.inl %[_,Sum.inr p,.inr %[o|sm _ _ ac (s1 _ _ O)],rfl|(cN.2 (Z8 bk.at_)).symm]),_,jD.k (k:=Sum.inr p) ag (by unfold TD VD;rw[Z6];exact aE ⋯)|?_];rw[put];have u:upd H2 b (.dK (TD (L++[f]) λx=>if x∈C++[p]then g x else m x)) b=_:=aa;have d:∀c o,c≠b->H1 c=some o->upd H2 b (.dK (TD (L++[f]) λx=>if x∈C++[p]then g x else m x)) c=some o:=λc o n e=>(am n)▸sm c o n e
   have v:=d _ _ ab ht;have aj:f∈C++[p]:=by rw[Yt,Yz];exact bk.hf.imp_right Eq.symm
   refine%[.inr (.inr (.inl (.inl %[_|v]))),Sum.inr (g p),rfl,_,v|?_];by_cases c:∃y∈L,m y=g p
   .have%[y,l|ym]:=c;have%[k,kl|al]:=bk.step M a h0 Y l ym;have iy:i (g p)=y:=ym▸hi y l;rw[cN.2 (Xr %[y,l|ym]),iy];exact%[k+1,⋯,d,C++[p],L++[f]|.inl %[y,k,_,rfl,al,u,.inr %[aj|rfl]|rfl]]
   .have no:∀y∈L,m y≠g p:=λy l e=>c %[y,l|e]
    have nn:bH (TD (L.map m) i) (Sum.inr (g p))=none:=jC λh=>by
     have%[y,l|e]:=Xq h;exact no y l e
    rw[nn];have nd:(L++[f]).Nodup:=nodup_append.mpr %[M.nd,by simp|λx hx y hy e=>G (by rw[<-Xp hy,<-e];exact hx)];have%[e2,e3,_,e5|e6]:=bk.fin M a Y G no nd λx=>by rw[Yt,Yz]
    exact%[0,⋯,d,[],[]|.inr %[%[_|rfl],rfl,L++[f],_,u,e2,e3,λx=>by rw[Yt,Yz],e5|e6]]
  .lk;rw[if_neg ∅];exact kk H2 L' m' (λc o n e=>sm c o n (s1 _ _ e)) e1 e2 e3 e4 e5 e6
structure cE (ks:List _) (ns L:ZB) (m:Str->Str) (N:ZB):Prop where
 mat:Mat (Rch ks) L m
 mn:∀x∈L,m x∈N
 ln:∀x∈L,x∈ns
 sh:∃S T,li (Rch ks) L m S T/\∀a∈N,(∃x∈L,m x=a)\/S a
inductive zb
 | mk (d ks rs ns):vs=[.ref d]->ReF H ks d rs->(∀x,x∈rs.map (·.1)↔x∈ns)->(∀x y,Rch ks x y->y∈ns)->ns.length<=80->ns.Nodup->(∀hb H' L m,ah H H'->H hb=none->H' hb=some (.dK (TD L m))->cE ks ns L m ns->Q (.ref hb) H')->zb vs H Q E0
def AV{L:ZB}{m:Str->Str}(nd:L.Nodup)(inj:∀x∈L,∀y∈L,m x=m y->x=y):(L.map m).Nodup:=by
 rw[X4,Xa];exact Xh (λ{x y} a b n e=>n (inj x a y b e)) (nodup_iff_pairwise_ne.mp nd)
def lS(T:Txt K mg):Cal P w K mg base 3 "most_pairs" ["partners"] zb:=by
 refine T.aN.cal c8 (λH vs Q E h=>?_)
 .have%[d,ks,rs,ns,rfl,re,Y,rn,nl,nn|kk]:=h;refine%[rfl|λf bc A outer s hr=>?_];have%[o|hd]:=re.at_;have rl:rs.length<=80:=by
   have:=STab.nodup_sub re.nd λx b=>(Y x).mp b
   rw[Z6]at this
   lia
  refine%[_,%["JC%1efzCT~b0K2CG3F~^A0AW1ARA2BBC~G4fea?1~b3S0?2<=0W10DNL_XYA4BEDZF])AW1A3AU4EBODHW1",c8.nd,(show bF _ _ _ ["partner","held_by"] [(1,1)]=true from rfl),(show(["partner","held_by"]:ZB).Nodup from !0)|hr]|?_]
  show bq _ _ _ [!d,none,none,none,none] H;refine ap λD1 k1 _=>?_
  lk;intro z fb;refine k1 _ _ (ap λD2 k2 _=>aB λab hK=>?_);have s1:=ah.upd (o:= .dK []) fb;have hh:upd H z (.dK []) z=some (.dK (TD [] id)):=aa
  generalize upd H z (.dK [])=H1 at s1 hh
  unfold sj;lk;have gl:(gD rs).length=rs.length:=Z6 _;refine%[_,_,s1 _ _ hd|hK _ _ (vQ (λi G B=>(∃o2 o3 o4,G=[!d,!z,o2,o3,o4])/\ah H B/\∃(L:ZB) (m:Str->Str),B z=some (.dK (TD L m))/\cE ks ns L m ((rs.map (·.1)).take i))
   %[%[_,_,_|rfl],s1,[],id,hh,%[X6,λ_ h=>(nomatch h)|λ_ h=>(nomatch h)],λ_ h=>(nomatch h),λ_ h=>(nomatch h),λ_=>False,λ_=>False,%[λ_ h=>h.elim|λ_ h=>h.elim]|λ_ h=>(nomatch h)] (λi G B _ h=>h.2.1 _ _ hd) ?_ ?_)]
  .intro i k v G B hv %[%[o2,o3,o4|rfl],sm,L,m,hh|l];unfold gD at hv;rw[Zl]at hv;have%[r,ac|er]:=map_eq_some_iff.mp hv;obtain⟨rfl,rfl⟩:Sum.inr r.1=k/\V.ref r.2.1=v:=%[congrArg (·.1) er|congrArg (·.2) er]
   generalize ea:r.1=t at*
   have hN:(rs.map (·.1))[i]? =some t:=by rw[Zl,ac,<-ea];rfl
   have tk:(rs.map (·.1)).take (i+1)=(rs.map (·.1)).take i++[t]:=by rw[Xb,hN];rfl
   have a1:t∉(rs.map (·.1)).take i:=λc=>by
    have%[j|u]:=Xg c;have jl:=(Xn u).1;rw[Ym]at jl;rw[Yd ⋯]at u;have:=ei re.nd u hN
    lia
   have a2:t∈ns:=(Y t).mp (Z8 hN);have ae:∀x∈(rs.map (·.1)).take i,x∈ns:=λx b=>(Y x).mp (Yy b)
   have Ll:L.length<=i:=by
    have:=STab.nodup_sub (AV l.mat.nd l.mat.inj) (m:=(rs.map (·.1)).take i) λy hy=>by
     have%[x,b|rfl]:=Xq hy;exact l.mn x b
    rw[Z6,Ym]at this
    lia
   have il:i<rs.length:=(Xn ac).1;show bq _ _ _ [!d,!z,-t,o3,o4] B;refine ap λD3 k3 _=>?_
   lk;refine%[#[1]|λal a3=>?_];have s2:=ah.upd (o:= .lst [V.str t]) a3;have ag:upd B al (.lst [V.str t]) al=some (.lst ([t].map V.str)):=aa;have M:=s2 _ _ hh;have N:=sm.trans s2
   generalize upd B al (.lst [V.str t])=H2 at ag M N ⊢
   refine%[d,z,al,ks,rs,ns,L,[t],m,rfl,re.up N,Y,rn,nl,nn,.inl M,λx b=>ae _ (l.mn x b),ag,λx b=>Xp b▸a2,(show 1<=80 by decide)|λq oq H3 U g s3 hq ask un a4=>k3 _ _ (ap λD4 k4 _=>aF λab hK=>?_)];have a5:=N.trans s3;have ai:=s3 _ _ M;have Ul:=STab.nodup_sub ask.nd un;unfold sj;lk;refine%[_,_,hq|hK _ _ λF hF=>?_];have ql:(TD U g).length=U.length:=Z6 _;refine bh (J:=Itk q oq (TD U g)) (n:=U.length) (D:=F) (λj vs G H4=>(∃o1,G=[o1,!z])/\ah H3 H4/\H4 F=some (.lst vs)/\vs=((U.take j).filter λx=>decide (x∉L)).map V.str)
    %[%[none|rfl],ah.upd hF,aa|rfl] (λj _ _ H4 u O=>%[O.2.1 _ _ hq|by rw[ql];exact u]) (λ_ _ H4 O=>%[O.2.1 _ _ hq|by exact ql▸Zi _]) ?_ ?_
   .intro j vs G H4 u %[%[o1|rfl],p,aj|rfl] x H5 %[e2,kx,vx,b|rfl];subst e2;unfold TD VD at b;rw[Zl,Z4 u]at b;obtain rfl:Sum.inr U[j]=kx:=congrArg (·.1) (Za b);lk;refine%[_,cP.k (k:=Sum.inr U[j]) (p _ _ ai)|bG (λc=>?_) λc=>?_]
    .have n:U[j]∉L:=λh=>by rw[cN.1.mpr h]at c;cases c
     refine CK.mk u aj (by rw[Z6];have:=Yj (λx=>decide (x∉L)) (U.take j);rw[Ym]at this;exact aE ⋯) %[%[_|rfl],ah.set p hF,aa|?_];rw[Xb,Z4 u,Y2,Zd];show _=_++(List.filter _ [U[j]]).map V.str;rw[Y4 ↑n];rfl
    .have n:U[j]∈L:=cN.1.mp (by cases h:(bH (TD L m) (Sum.inr U[j])).isSome with
      | true=>rfl
      | false=>rw[h]at c;exact absurd rfl c)
     refine CN.mk u %[%[_|rfl],p,aj|?_];rw[Xb,Z4 u,Y2,Zd];show _=_++(List.filter _ [U[j]]).map V.str;rw[Y3 ↑n];simp
   intro vs G H4 %[_,p,C|rfl];rw[Zn (Zi _)]at C;refine k4 _ _ (aI λD5 k5 _=>?_);have I:=a5.trans p;have an:=p _ _ ai;have%[S,T',sh|all]:=l.sh;lk;have h0:∀x∈L,m x≠t:=λx b e=>a1 (e▸l.mn x b)
   have mt:∀{a},a∈(rs.map (·.1)).take (i+1)↔a∈(rs.map (·.1)).take i\/a=t:=λ{a}=>by rw[tk,Yt,Yz]
   have fl:∀{x},x∈U.filter (λx=>decide (x∉L))↔x∈U/\x∉L:=λ{x}=>by rw[List.mem_filter,decide_eq_true_iff]
   generalize U.filter (λx=>decide (x∉L))=Fr at C fl
   have vl:(Fr.map V.str).length=Fr.length:=Z6 _;refine%[Fr.length,.inl %[_,SqL.of C|vl.symm]|bG (λc=>?_) λc=>?_]
   .have c:0<Fr.length:=by have:=Zo c;lia
    have%[fU|fL]:=fl.mp (Ye c);refine%[_,SqL.of C,.str Fr[0],cO (by rw[Zl,Z4 c];rfl),z,q,oq,Fr[0],t,ks,L,U,m,g,S,T',rfl,an,p _ _ hq,⋯,l.mat,ask,h0,sh,fU,fL|λH5 L' m' keep a6 aq a7 bb e5 e6=>k5 _ _ %[%[_,_,_|rfl],λc o e=>keep c o (ay e fb) (I _ _ e),L',m',a6,aq,λx b=>?_,λx b=>?_,S,T',a7|λa ha=>?_]]
    .rcases e5 x b with e|⟨y,yl,e⟩
     .exact mt.mpr (.inr e)
     .exact mt.mpr (.inl (e▸l.mn y yl))
    .exact((bb x).mp b).elim (l.ln x) λe=>e▸un _ fU
    .rcases mt.mp ha with h|h
     .exact(all a h).imp_left λh=>e6 a (.inr h)
     .exact .inl (e6 a (.inl h))
   .have e:∀x∈U,x∈L:=λx b=>Decidable.byContradiction λn=>by
     have:=fl.mpr %[b|n];cases Fr with
     | nil=>cases this
     | cons y Fr=>exact c (Zf (by rw[Zr];lia))
    refine k5 _ _ %[%[_,_,_|rfl],I,L,m,an,l.mat,λx b=>mt.mpr (.inl (l.mn x b)),l.ln,_,_,sh.or (Ask.closed e ((a4.resolve_left λ⟨f,h1,h2⟩=>h2 (e f h1)).2))|λa ha=>?_];rcases mt.mp ha with h|h
    .exact(all a h).imp_right .inl
    .exact .inr (.inr (.inl (h▸Zm)))
  .intro G B %[%[o2,o3,o4|rfl],sm,L,m,hh|l];rw[gl,<-Z6 (f:=(·.1)) (as:=rs),Zn (Zi _)]at l;refine k2 _ _ ?_;lk;have%[S,T',sh|all]:=l.sh;exact kk z B L m sm fb hh %[l.mat,λx b=>(Y _).mp (l.mn x b),l.ln,S,T',sh|λa ha=>all a ((Y a).mpr ha)]
inductive zd
 | mk (d hb o ks rs ns L m):vs=[.ref d,.ref hb]->ReF H ks d rs->(∀x,x∈rs.map (·.1)↔x∈ns)->(∀x y,Rch ks x y->y∈ns)->ns.length<=80->ns.Nodup->H hb=some (.frz o (.dK (TD L m)))->cE ks ns L m ns->(∀l H' (lf:ZB),ah H H'->H' l=some (.lst (lf.map V.str))->lf.length=L.length->(∀a b,a∈ns->Rch ks a b->a∈lf\/b∈lf)->Q (.ref l) H')->zd vs H Q E0
def jH(T:Txt K mg):Cal P w K mg base 2 "one_of_each_pair" ["partners","held_by"] zd:=by
 refine T.aR.cal cV (λH vs Q E h=>?_)
 .have%[d,hb,o,ks,rs,ns,L,m,rfl,re,rk,rn,nl,nn,hh,pr|kk]:=h;refine%[rfl|λf a7 A outer s hr=>?_];have%[od|hd]:=re.at_;have rl:rs.length<=80:=by
   have:=STab.nodup_sub re.nd λx l=>(rk x).mp l
   rw[Z6]at this
   lia
  have Ll:=STab.nodup_sub pr.mat.nd pr.ln;refine%[_,%["JC%2efF~oA1BC%3efF~^A0A1Aja?1~b0S0?2<=0W10BDHja?3~>1bMS0?4MS1?4cp]*~k0W201",cV.nd,(show bF _ _ _ ["asker","holds"] [(1,2)]=true from rfl),(show(["asker","holds"]:ZB).Nodup from !0),(show bF _ _ _ ["partner","asker","asked_by"] [(2,3)]=true from rfl),(show(["partner","asker","asked_by"]:ZB).Nodup from !0)|hr]|?_]
  show bq _ _ _ [!d,!hb,none,none] H;refine ap λD1 k1 _=>?_
  lk;refine%[hb,L,m,rfl,.inr %[o|hh],⋯,pr.mat.nd,pr.mat.inj|λt H1 i s1 ft ht hi=>k1 _ _ (ap λD2 k2 _=>?_)];lk;refine aF λai hK=>?_
  unfold sj;lk;have M:=s1 _ _ hd;refine%[_,_,M|hK _ _ λF hF=>?_]
  generalize eN:rs.map (·.1)=N at rk
  have Nl:N.length=rs.length:=by rw[<-eN,Z6]
  have gl:(gD rs).length=N.length:=by rw[Nl];exact Z6 _
  have kN:∀(j:Nat) k v,(gD rs)[j]? =some (k,v)->∃x,N[j]? =some x/\k=Sum.inr x:=λj k v h=>by
   unfold gD at h;rw[Zl]at h;have%[r,h1|h2]:=map_eq_some_iff.mp h;exact%[r.1,by rw[<-eN,Zl,h1];rfl|(congrArg (·.1) h2).symm]
  refine bh (J:=Itk d od (gD rs)) (n:=N.length) (D:=F) (λj vs I H2=>(∃O,I=[O,!t])/\ah H1 H2/\H2 F=some (.lst vs)/\vs=((N.take j).filter λx=>decide (x∉L.map m)).map V.str)
   %[%[none|rfl],ah.upd hF,aa|rfl] (λj _ _ H2 C p=>%[p.2.1 _ _ M|by rw[gl];exact C]) (λ_ _ H2 p=>%[p.2.1 _ _ M|by exact gl▸Zi _]) ?_ ?_
  .intro j vs I H2 C %[%[O|rfl],B,aj|rfl] x H3 %[e2,kx,vx,l|rfl];subst e2;have%[z,hz|rfl]:=kN j kx vx l;have tk:N.take (j+1)=N.take j++[z]:=by rw[Xb,hz];rfl
   lk;refine%[_,cP.k (k:=Sum.inr z) (B _ _ ht)|bG (λc=>?_) λc=>?_]
   .have n:z∉L.map m:=λh=>by rw[cN.1.mpr h]at c;cases c
    refine CK.mk C aj (by rw[Z6];have:=Yj (λx=>decide (x∉L.map m)) (N.take j);rw[Ym]at this;exact aE ⋯) %[%[_|rfl],ah.set B hF,aa|?_];rw[tk,Y2,Zd,Y4 ↑n];rfl
   .have n:z∈L.map m:=cN.1.mp (by cases h:(bH (TD (L.map m) i) (Sum.inr z)).isSome with
     | true=>rfl
     | false=>rw[h]at c;exact absurd rfl c)
    refine CN.mk C %[%[_|rfl],B,aj|?_];rw[tk,Y2,Zd,Y3 ↑n];simp
  intro vs I H2 %[_,B,Y|rfl];rw[Zn (Zi _)]at Y;have fl:∀{x},x∈N.filter (λx=>decide (x∉L.map m))↔x∈N/\x∉L.map m:=λ{x}=>by rw[List.mem_filter,decide_eq_true_iff]
  have a1:=Yj (λx=>decide (x∉L.map m)) N
  generalize N.filter (λx=>decide (x∉L.map m))=A0 at Y fl a1
  have ab:=s1.trans B;have%[S,T',sh|all]:=pr.sh;have a2:∀x∈A0,S x:=λx l=>(all x ((rk x).mp (fl.mp l).1)).resolve_left λ⟨y,yl,e⟩=>(fl.mp l).2 (Xr %[y,yl|e])
  refine%[d,hb,F,ks,rs,ns,L,A0,m,rfl,re.up ab,eN▸rk,rn,nl,nn,.inr %[o|ab _ _ hh],pr.mn,Y,λx l=>(rk x).mp (fl.mp l).1,⋯|λq oq H3 U g s3 hq ask un a3=>k2 _ _ ?_];have a4:=ask.shut sh a2;have cl:=(a3.resolve_left λ⟨f,h1,h2⟩=>h2 (sh.mt f (a4 f h1)).1)
  have al:=ab.trans s3;have ac:=al _ _ hh;refine aF λai hK=>?_
  unfold xF;lk;refine%[_,_,ac|hK _ _ λG hG=>?_];have tl:(TD L m).length=L.length:=Z6 _;refine bh (J:=Iti hb o (TD L m)) (n:=L.length) (D:=G) (λj vs I u=>(∃O o2,I=[O,o2,!q])/\ah H3 u/\u G=some (.lst vs)/\vs=((L.take j).map λx=>if x∈U then x else m x).map V.str)
   %[%[none,none|rfl],ah.upd hG,aa|rfl] (λj _ _ u C p=>%[p.2.1 _ _ ac|tl▸C]) (λ_ _ u p=>%[p.2.1 _ _ ac|tl▸Zi _]) ?_ ?_
  .intro j vs I u C %[%[O,o2|rfl],ae,a5|rfl] x H5 %[kx,vx,tp,l,a6,rfl|rfl];unfold TD VD at l;rw[Zl,Z4 C]at l;obtain⟨rfl,rfl⟩:Sum.inr L[j]=kx/\V.str (m L[j])=vx:=%[congrArg (·.1) (Za l)|congrArg (·.2) (Za l)]
   have s5:=ah.upd (o:= .tup [kV (Sum.inr L[j]),.str (m L[j])]) a6;have aq:upd u tp (.tup [kV (Sum.inr L[j]),.str (m L[j])]) tp=some (.tup [.str L[j],.str (m L[j])]):=aa;have ag:=ae.trans s5;have as:=s5 _ _ a5
   generalize upd u tp (.tup [kV (Sum.inr L[j]),.str (m L[j])])=H5 at aq ag as ⊢
   have tk:L.take (j+1)=L.take j++[L[j]]:=by rw[Xb,Z4 C];rfl
   refine%[_,SqT.of aq,rfl,_,_,rfl,_,_,rfl,rfl|?_];show uT [some (.str L[j]),some (.str (m L[j])),!q] H5 _;lk;have put:∀y,(if L[j]∈U then L[j]else m L[j])=y->CK G L.length j (λj vs I u=>(∃O o2,I=[O,o2,!q])/\ah H3 u/\u G=some (.lst vs)/\vs=((L.take j).map λx=>if x∈U then x else m x).map V.str) (((L.take j).map λx=>if x∈U then x else m x).map V.str) [some (.str L[j]),some (.str (m L[j])),!q] (.str y) H5:=λy e=>by
    refine CK.mk C as (by rw[Z6,Z6,Ym];exact aE ⋯) %[%[_,_|rfl],ah.set ag hG,aa|?_];rw[tk,Zd,Zd,<-e];rfl
   refine%[_,(.inl %[_,Sum.inr L[j],.inr %[oq|ag _ _ hq],rfl|rfl])|bG (λc=>put _ (if_pos (cN.1.mp c))) λc=>put _ (if_neg λh=>c (cN.1.mpr h))]
  intro vs I u %[_,ae,a0|rfl];rw[Zn (Zi _)]at a0;refine kk G u _ (al.trans ae) a0 (Z6 _) λa b an r=>?_
  have mem:∀x∈L,(if x∈U then x else m x)∈L.map λx=>if x∈U then x else m x:=λx l=>Xr %[x,l|rfl]
  by_cases c:a∈A0\/∃y∈U,y∈L/\m y=a
  .have bU:=cl.2 a c b r;have:=mem b (cl.1 b bU);rw[if_pos bU]at this;exact .inr this
  .have%[y,yl|rfl]:=Xq (Decidable.byContradiction λn=>c (.inl (fl.mpr %[(rk a).mpr an|n])));have:=mem y yl;rw[if_neg (λh=>c (.inr %[y,h,yl|rfl]))]at this;exact .inl this
inductive Dm
 | mk (d hb ks rs ns L m):vs=[.ref d,.ref hb]->ReF H ks d rs->(∀x,x∈rs.map (·.1)↔x∈ns)->(∀x y,Rch ks x y->y∈ns)->ns.length<=80->ns.Nodup->H hb=some (.dK (TD L m))->cE ks ns L m ns->(∀l H' (lf:ZB),ah H H'->H' l=some (.lst (lf.map V.str))->lf.length=L.length->(∀a b,a∈ns->Rch ks a b->a∈lf\/b∈lf)->Q (.ref l) H')->Dm vs H Q E0
def ko(T:Txt K mg):Cal P w K mg base 2 "one_of_each_pair" ["partners","held_by"] Dm:=by
 refine(jH T).frozen.imp λvs H Q E zqw=>?_;have%[d,a,ks,rs,n,L,m,g,b,p,q,s,t,h,v|y]:=zqw;refine  .inr %[a,_,by rw[g];rfl,h|λo=>?_]
 have ne:∀{c:Addr} {f:Obj} {u:HO},H c=some (.frz f u)->c≠a:=λe z=>by lia
 refine%[d,a,o,ks,rs,n,L,m,g,%[b.at_.imp λ_ e=>(am (ne e))▸e,b.nd|λr i=>%[(b.in_ r i).1.imp λ_ e=>(am (ne e))▸e|(b.in_ r i).2]],p,q,s,t,aa,v|λl I lf j A B C=>?_];have J:=j _ _ (aa);have G:l≠a:=λz=>by lia
 refine y l _ lf (λc f e=>?_) ((am G)▸A) B C;by_cases z:c=a
 .rw[z]at e ⊢;rw[h]at e;rw[aa];exact e
 .rw[am z];exact j c f ((am z)▸e)
open Classical in
abbrev dep(ks:List ZB)(a:ZB)(x:Str):Nat:=(a.filter λy=>decide (Rch ks x y)).length
open Classical in
def HF(b:a.Nodup)(c:∀x,¬ Rch ks x x)(r:Rch ks x y)(d:y∈a):dep ks a y<dep ks a x:=by
 unfold dep;have:=STab.nodup_sub (l:=y::a.filter λz=>decide (Rch ks y z)) (m:=a.filter λz=>decide (Rch ks x z)) (nodup_cons.mpr %[λh=>c y (Zo (List.mem_filter.mp h).2)|b.filter _]) λz e=>by
  rcases mem_cons.mp e with rfl|h
  .exact List.mem_filter.mpr %[d|Zf r]
  .exact List.mem_filter.mpr %[(List.mem_filter.mp h).1|Zf (r.trans (Zo (List.mem_filter.mp h).2))]
 rw[Zr]at this
 lia
open Classical in
def HG(x:Str):dep ks a x<=a.length:=Yj _ _
inductive ze
 | mk (f:Str) (e:Addr) (ks:List _) (ns W:ZB) (i:Str->Str):vs=[.str f,.ref e]->H e=some (.dK (TD W i))->(∀a∈W,Rch ks a (i a)/\i a∈ns)->(∀x,¬ Rch ks x x)->ns.Nodup->ns.length<=80->(∀r H' (zs:ZB),ah H H'->H r=none->H' r=some (.lst (zs.map V.str))->Q (.ref r) H')->ze vs H Q E0
abbrev IU(H:Hp)(f:Str)(e r:Addr)(ks:List ZB)(b:ZB)(n:Nat)(c:L2.St)(a:Hp):Prop:=c=[-f,!e,!r]/\ah H a/\∃zs y,a r=some (.lst ((zs++[y]).map V.str))/\n=dep ks b y/\zs.length+n<=80
def cE.size{ks d:List ZB}(g:f.Nodup)(h:cE ks f L m f)(h':cE d f o u f)(sub:∀a b,Rch d a b->Rch ks a b):(f.filter λx=>decide (x∉L)).length<=(f.filter λx=>decide (x∉o)).length:=by
 have%[S,T,i|all]:=h.sh
 let lf:=λx=>open Classical in if T x then x else m x
 refine Yh (vR g h.mat.nd h.ln (lf:=L.map lf) (Z6 _)) (ux (E:=Rch d) (λa b c h k=>h.trans k) g h'.mat h'.mn (g.filter _) (λx p=>(List.mem_filter.mp p).1) λa j b l r=>?_);have r:=sub _ _ r;have na:=Zo (List.mem_filter.mp j).2;have nb:=Zo (List.mem_filter.mp l).2;rcases Classical.em _ with s|s
 .have n:=i.nb a s b r;exact(Zo (List.mem_filter.mp l).2) (Xr %[b,(i.mt b n).1|if_pos n])
 .have%[x,q|e]:=(all a (List.mem_filter.mp j).1).resolve_right s;exact(Zo (List.mem_filter.mp j).2) (Xr %[x,q|(if_neg λt=>s (e▸(i.mt x t).2)).trans e])
def cE.of(h:cE ks c L m c)(e:∀x,x∈c↔x∈d):cE ks d L m d:=by
 have%[S,T,f|all]:=h.sh;exact%[h.mat,λx b=>(e _).mp (h.mn x b),λx b=>(e x).mp (h.ln x b),S,T,f|λa g=>all a ((e a).mpr g)]
def fW(d:∀k∈lk,bM c k)(e:Ed lk a b):a∈c/\b∈c:=by
 have%[z|f]:=e;have%[x,y,u,e,g|h]:=d _ f
 grind
def mM(c:∀k∈lk,bM d k)(r:Rch lk a b):a∈d/\b∈d:=by
 induction r with
 | one e=>exact fW c e
 | more _ e f=>exact%[f.1|(fW c e).2]
def wC{b c:ZB}(d:b.Nodup)(f:c.Nodup)(e:∀x,x∈b↔x∈c)(p:Str->Bool):(b.filter p).length=(c.filter p).length:=
 Nat.le_antisymm (STab.nodup_sub (d.filter _) λx a=>List.mem_filter.mpr %[(e x).mp (List.mem_filter.mp a).1|(List.mem_filter.mp a).2]) (STab.nodup_sub (f.filter _) λx a=>List.mem_filter.mpr %[(e x).mpr (List.mem_filter.mp a).1|(List.mem_filter.mp a).2])
inductive Do (mg:ZC)
 | mk (g qs ls ts):vs=[.ref g]->iA mg H g qs ls ts->(∀lk,aC (aH qs) (ts.map (·.2)) lk->∀x,¬ Rch lk x x)->(∀l H' lk ns L m ys,ah H H'->aC (aH qs) (ts.map (·.2)) lk->fJ (aH qs) ls ns->cE lk ns L m ns->H' l=some (.lst ys)->ys.length=(ns.filter λx=>decide (x∉L)).length->Q (.ref l) H')->Do mg vs H Q E0
def xW(T:Txt K mg):Cal P w K mg base 1 "row_from" ["first","earlier_behind"] ze:=by
 refine T.aY.cal np (λH vs Q E h=>?_)
 .have%[f,e,ks,b,W,i,rfl,q,hi,v,z,nl|B]:=h;refine%[rfl|λ_ u A outer s p=>?_];refine%[_,%["JCG2RA0BC|~kU2$E1DZol2Ah1U2$EBDH2",np.nd|p]|?_]
  show bq _ _ _ [-f,!e,none] H;refine ap λI k1 _=>?_
  lk;refine%[#[1]|λr j=>k1 _ _ (ap λJ k2 _=>%[IU H f e r ks b,%[_,rfl,(ah.upd (o:= .lst [V.str f]) j),[],f,aa,rfl|by rw[length_nil,zero_add];exact Yh (HG f) nl]|?_])];intro n L C %[rfl,d,zs,y,a,rfl|le];rw[Zd]at a;lk;refine%[_,SqL.of a,_,kA _ _,_,cP.k (k:=Sum.inr y) (d _ _ q)|bG (λc=>?_) λc=>?_]
  .have l:=cN.1.mp c;have g:=cP.k (k:=Sum.inr y) (d _ _ q);rw[cN.2 l]at g;have lt:=HF z v (hi y l).1 (hi y l).2;refine⟨λm G=>∃t,t<dep ks b y/\IU H f e r ks b t m G,λ_ _ h=>h,.inl %[_|SqL.of a],_,SqL.of a,_,kA _ _,_,g,_,a,by rw[Z9,Z6,List.map_singleton,Yl];exact aE ⋯,_,lt,rfl,ah.set d j,zs++[y],i y,by rw[aa,Zd,Zd];rfl,rfl,?_⟩;rw[Z9,Yl]
   lia
  .refine k2 _ _ ?_;lk;exact B r C (zs++[y]) d j (by rw[a,Zd])
def dc(T:Txt K mg):Cal P w K mg base 8 "fewest_rows" ["ground"] (Do mg):=by
 refine T.aX.cal fF (λH vs Q E h=>?_)
 .have%[g,qs,ls,ts,rfl,G,nr|kk]:=h;refine%[rfl|λf al A outer s C=>?_];have%[c2,c3,c4|gr]:=G.gr;have ll:=G.ll;have e:∀{I:ZB},fJ (aH qs) ls I->I.length<=80:=λ{I} l=>by
   have:=STab.nodup_sub l.nd λx hx=>((l.mem x).mp hx).1
   lia
  refine%[_,%["JC%1efF~_AF~|A0BBC%2efF~oAW1BDHja?1PF~OA0BS0?2<=0W2F]+A0AW1B",fF.nd,(show bF _ _ _ ["name","earlier_behind","later_ahead"] [(1,2),(2,1)]=true from rfl),(show(["name","earlier_behind","later_ahead"]:ZB).Nodup from !0)|C]|?_]
  show bq _ _ _ [!g,none,none] H;refine ap λD1 k1 _=>?_
  lk;refine%[g,qs,ls,ts,rfl,G,nr|λd H1 rs lk I s1 p l re rk=>%[d,lk,rs,I,rfl,re,rk,λx y r=>(mM (G.names p l) r).2,e l,l.nd|λhb H2 L m s2 fb hh q=>k1 _ _ (ap λD2 k2 _=>?_)]];have ab:=s1.trans s2;have Ll:=STab.nodup_sub q.mat.nd q.ln;have ac:=e l;lk;refine%[hb,L,m,rfl,.inl hh,⋯,q.mat.nd,q.mat.inj|λt H3 i s3 ft ht hi=>k2 _ _ ?_];have N:=ab.trans s3;refine aF λaj hK=>?_
  lk;refine%[g,c2,c3,c4,qs,ls,ts,rfl,gr.up N,G.nd,G.so,⋯|λo H4 b s4 fm hm u=> .inl %[o,rfl,%[_|SqL.of hm]|hK _ _ λF hF=>?_]];have ae:=s4 _ _ (s3 _ _ hh);have ag:=s4 _ _ ht;have an:=e u;refine bh (J:=Itl K o) (n:=b.length) (D:=F) (λj vs σ v=>(∃o1,σ=[o1,!t,!hb])/\ah H4 v/\v F=some (.lst vs)/\vs.length=((b.take j).filter λx=>decide (x∉L)).length)
   %[%[none|rfl],ah.upd hF,aa|rfl] (λj _ _ v O z=>%[_,V.str b[j],SqL.of (z.2.1 _ _ hm)|by simp]) (λ_ _ v z=>%[_,SqL.of (z.2.1 _ _ hm)|by simp]) ?_ ?_
  .intro j vs σ v O %[%[o1|rfl],B,U|M] x H6 %[e2|hx];subst e2;have Y:=hx _ (SqL.of (B _ _ hm));rw[Zl,Z4 O]at Y;obtain rfl:x=V.str b[j]:=(Za Y).symm;have tk:b.take (j+1)=b.take j++[b[j]]:=by rw[Xb,Z4 O];rfl
   lk;refine%[_,cP.k (k:=Sum.inr b[j]) (B _ _ ae)|bG (λc=>?_) λc=>?_]
   .have n:b[j]∉L:=λh=>by rw[cN.1.mpr h]at c;cases c
    refine%[b[j],t,lk,I,L.map m,i,rfl,B _ _ ag,λa ha=>?_,nr _ p,l.nd,ac|λr H6 zs s6 fr aq=>?_]
    .have%[x,xl|rfl]:=Xq ha;rw[hi x xl];exact%[q.mat.ed x xl|q.ln x xl]
    .have:=Yj (λx=>decide (x∉L)) (b.take j);rw[Ym]at this;refine CK.mk O (s6 _ _ U) (M▸aE ⋯) %[%[_|rfl],ah.set (B.trans s6) hF,aa|?_];rw[tk,Y2,Y4 ↑n,Z9,Z9,M];rfl
   .have n:b[j]∈L:=cN.1.mp (by cases h:(bH (TD L m) (Sum.inr b[j])).isSome with
     | true=>rfl
     | false=>rw[h]at c;exact absurd rfl c)
    refine CN.mk O %[%[_|rfl],B,U|?_];rw[tk,Y2,Y3 ↑n,Z9,M];rfl
  intro vs σ v %[_,B,ai|M];rw[Zn (Zi _)]at M;have eq:=λx=>(l.mem x).trans (u.mem x).symm
  exact kk F v lk b L m vs (N.trans (s4.trans B)) p u (q.of eq) ai M
inductive zf (mg:ZC)
 | mk (g:Addr) (qs:ZN) (ls:ZB) (ts:ZG):vs=[.ref g]->iA mg H g qs ls ts->(∀lk,aC (aH qs) (ts.map (·.2)) lk->∀x,¬ Rch lk x x)->(∀l H' lk (ns L:ZB) (m:Str->Str) (ys:ZB),ah H H'->aC (aH qs) (ts.map (·.2)) lk->fJ (aH qs) ls ns->cE lk ns L m ns->H l=none->H' l=some (.lst (ys.map V.str))->ys.length=(ns.filter λx=>decide (x∉L)).length->ys.Nodup->ys.Pairwise (λa b=>a8 b a=false)->(∀a∈ys,a∈ns/\∀b∈ys,¬ Rch lk a b)->Q (.ref l) H')->zf mg vs H Q E0
def wD(T:Txt K mg):Cal P w K mg base 8 "widest" ["ground"] (zf mg):=by
 refine T.aZ.cal mD (λH vs Q E h=>?_)
 .have%[g,qs,ls,ts,rfl,B,nr|kk]:=h;refine%[rfl|λf aj A outer s hr=>?_];have%[c2,c3,c4|gr]:=B.gr;have ll:=B.ll;have l:∀{q:ZB},fJ (aH qs) ls q->q.length<=80:=λ{q} p=>by
   have:=STab.nodup_sub p.nd λx G=>((p.mem x).mp G).1
   lia
  refine%[_,%["JCG1F~|A0BC%2efF],A1AF~_A1BBDHja?1PF~OA0BS0?2<L].0W10",mD.nd,(show bF _ _ _ ["name","left_out"] [(1,2)]=true from rfl),(show(["name","left_out"]:ZB).Nodup from !0)|hr]|?_]
  show bq _ _ _ [!g,none,none] H;refine ap λD1 k1 _=>?_
  lk;refine%[g,qs,ls,ts,rfl,B,nr|λd H1 rs lk q s1 I p re rk=>k1 _ _ (ap λD2 k2 _=>?_)];have rn:∀x y,Rch lk x y->y∈q:=λx y r=>(mM (B.names I p) r).2
  lk;refine%[d,lk,rs,q,rfl,re,rk,rn,l p,p.nd|λhb H2 L m s2 fb hh pr=>?_];refine%[d,hb,lk,rs,q,L,m,rfl,re.up s2,rk,rn,l p,p.nd,hh,pr|λlo H3 lf s3 ab ac ae=>k2 _ _ ?_];have u:=s1.trans (s2.trans s3);refine aF λai hK=>?_
  lk;refine%[g,c2,c3,c4,qs,ls,ts,rfl,gr.up u,B.nd,B.so,⋯|λt H4 i s4 fm hm e=> .inl %[t,rfl,%[_|SqL.of hm]|hK _ _ λF hF=>?_]];have al:=l e;refine bh (J:=Itl K t) (n:=i.length) (D:=F) (λj vs σ v=>(∃o1,σ=[o1,!lo])/\ah H4 v/\v F=some (.lst vs)/\vs=((i.take j).filter λx=>decide (x∉lf)).map V.str)
   %[%[none|rfl],ah.upd hF,aa|rfl] (λj _ _ v M z=>%[_,V.str i[j],SqL.of (z.2.1 _ _ hm)|by simp]) (λ_ _ v z=>%[_,SqL.of (z.2.1 _ _ hm)|by simp]) ?_ ?_
  .intro j vs σ v M %[%[o1|rfl],C,N|rfl] x H6 %[e2|G];subst e2;have O:=G _ (SqL.of (C _ _ hm));rw[Zl,Z4 M]at O;obtain rfl:x=V.str i[j]:=(Za O).symm;have tk:i.take (j+1)=i.take j++[i[j]]:=by rw[Xb,Z4 M];rfl
   lk;refine%[_,.inl (SqL.of (C _ _ (s4 _ _ ab))),rfl,sM lf|?_];rw[yJ];refine bG (λc=>?_) λc=>?_
   .have n:i[j]∉lf:=λh=>by rw[Zf h]at c;cases c
    refine CK.mk M N (by rw[Z6];have:=Yj (λx=>decide (x∉lf)) (i.take j);rw[Ym]at this;exact aE ⋯) %[%[_|rfl],ah.set C hF,aa|?_];rw[tk,Y2,Zd,Y4 ↑n];rfl
   .have n:i[j]∈lf:=Decidable.byContradiction λh=>by rw[Zh h]at c;exact c rfl
    refine CN.mk M %[%[_|rfl],C,N|?_];rw[tk,Y2,Zd,Y3 ↑n];simp
  intro vs σ v %[_,C,U|rfl];rw[Zn (Zi _)]at U;have eq:∀x,x∈q↔x∈i:=λx=>(p.mem x).trans (e.mem x).symm
  have Y:=pr.of eq;have o:∀a∈i.filter (λx=>decide (x∉lf)),a∈i/\∀b∈i.filter (λx=>decide (x∉lf)),¬ Rch lk a b:=λa ha=>%[(List.mem_filter.mp ha).1|λb ag r=>by
   have na:=Zo (List.mem_filter.mp ha).2;have nb:=Zo (List.mem_filter.mp ag).2;exact(ae a b ((eq a).mpr (List.mem_filter.mp ha).1) r).elim na nb]
  exact kk F v lk i L m _ (u.trans (s4.trans C)) I e Y ((u.trans s4).free hF) U (Nat.le_antisymm (ux (E:=Rch lk) (λa b c h k=>h.trans k) e.nd Y.mat Y.mn (e.nd.filter _) (λx G=>(o x G).1) λa ha=>(o a ha).2) (vR e.nd Y.mat.nd Y.ln ac)) (e.nd.filter _) (e.so.filter _) o
def iC(n:Str)(c:Nat):lnS n (sgn c)=bD n c:=by
 refine jt ?_;show(([].toArray) ++n.cps++ ([46].toArray) ++ ([c].toArray)).toList=(n.cps.toList++[46,c]).toArray.toList;simp
def uJ:x∈lyr p↔∃c,Let p.2.2 c/\x=bD p.2.1 c:=by
 unfold lyr;rw[mem_map]
 constructor
 .rintro⟨z,b,rfl⟩;have%[c,a|rfl]:=ip b;exact%[c,gK.mp a|iC _ _]
 .rintro⟨c,a,rfl⟩;exact%[sgn c,bx.mpr (Xr %[c,gK.mpr a|rfl])|iC _ _]
def qq(h:nA d):x∈(iq d).map (·.1)↔∃c,Let d.rows c/\x=bD d.name c:=by
 unfold iq Drn.rows;rw[Ys,mem_map]
 constructor
 .rintro⟨a,i,rfl⟩;have%[e,f|g]:=dS.mp i;exact%[sg a d.sh,(vT h.2.2.2.2.2).mpr %[a,e,f,g|rfl]|rfl]
 .rintro⟨c,g,rfl⟩;have%[a,e,f,b|rfl]:=(vT h.2.2.2.2.2).mp g;exact%[a,dS.mpr %[e,f|b]|rfl]
def qr:∀{xs:List t},(xs.map m).Nodup->(∀p∈xs,(f p).Nodup)->(∀p∈xs,∀x∈f p,∃c,x=bD (m p) c)->(xs.flatMap f).Nodup
 |[],_,_,_=>X6
 | p::xs,h,l,i=>by
   rw[Yr,nodup_cons]at h;rw[List.flatMap_cons,X3];refine%[l p Zm,qr h.2 (λq g=>l q (Zk _ g)) (λq g=>i q (Zk _ g))|λa n b o e=>?_];have%[q,g|j]:=mem_flatMap.mp o;have%[c|r]:=i p Zm a n;have%[d|s]:=i q (Zk _ g) b j;have:=(eV (r.symm.trans (e.trans s))).1;exact h.1 (Xr %[q,g|this.symm])
def AW(p:Addr×Str×ZB):(lyr p).Nodup:=by
 unfold lyr;rw[X4,Xa];refine Xh (λ{x y} e f a b=>?_) (nodup_iff_pairwise_ne.mp (fi _));have%[c,_|rfl]:=ip e;have%[d,_|rfl]:=ip f;rw[iC,iC]at b;exact a (by rw[(eV b).2])
def xX(d:Drn):((iq d).map (·.1)).Nodup:=by
 unfold iq;rw[Ys,X4,Xa];refine Xh (λ{x y} b c a e=>?_) (nodup_iff_pairwise_ne.mp (vU d.cols));have%[f,g|_]:=dS.mp b;have%[h,i|_]:=dS.mp c;exact a (Hr f g h i (eV e).2)
def lK.mono(h:lK g xs)(s:∀x∈g,x∈i):lK i xs:=by
 rcases h with⟨w,a,b,e,c,d,f,j⟩|⟨w,a,y,e,c,d,f⟩
 .exact .inl %[w,a,b,e,c,s _ d,s _ f|j]
 .exact .inr %[w,a,y,e,c,s _ d|f]
def d6{d:List _}{e:ZB}(h:e.Perm (d.flatMap lyr)){x:Str}:x∈e↔∃p∈d,∃c,Let p.2.2 c/\x=bD p.2.1 c:=by
 rw[h.mem_iff,mem_flatMap]
 constructor
 .rintro⟨p,a,b⟩;exact%[p,a|uJ.mp b]
 .rintro⟨p,a,b⟩;exact%[p,a|uJ.mpr b]
def sV(h:∀p∈ds,nA p.2):x∈(ds.flatMap λp=>(iq p.2).map (·.1))↔∃p∈dcs ds,∃c,Let p.2.2 c/\x=bD p.2.1 c:=by
 rw[mem_flatMap]
 constructor
 .rintro⟨p,a,b⟩;exact%[_,Xr %[p,a|rfl]|(qq (h p a)).mp b]
 .rintro⟨q,d,b⟩;have%[p,a|rfl]:=Xq d;exact%[p,a|(qq (h p a)).mpr b]
def FJ{ds:List (Addr×Drn)}(h:∀p∈ds,nA p.2)(a:(ds.map λp=>p.2.name).Nodup):(ds.flatMap λp=>(iq p.2).map (·.1)).Nodup:=
 qr a (λp _=>xX p.2) λp b x d=>by
  have%[c,_|e]:=(qq (h p b)).mp d;exact%[c|e]
def iD{a:List _}(d:(a.map λp=>p.2.1).Nodup){b:ZB}(h:b.Perm (a.flatMap lyr)):b.Nodup:=by
 rw[h.nodup_iff];exact qr d (λp _=>AW p) λp g x f=>by
  have%[c,_|e]:=uJ.mp f;exact%[c|e]
structure bW (H:Hp) (cs:List _) (qs:List _):Prop where
 ca:cj H cs
 nd:(cs.map λp=>p.2.1).Nodup
 p1:1<=cs.length
 p3:cs.length<=6
 few:∀p∈cs,CW p.2.2
 ly:(cs.flatMap lyr).length<=80
 sa:∀ls,ls.Perm (cs.flatMap lyr)->cv H ls qs
 q20:qs.length<=25
def bW.up(h:bW H a qs)(s:ah H b):bW b a qs:=
 %[h.ca.up s,h.nd,h.p1,h.p3,h.few,h.ly,λc p=>(h.sa c p).up s|h.q20]
inductive qt (K:ZA)
 | mk (a:Addr) (ns:ZL):vs=[.ref a]->SqL K H a (ns.map V.int)->Em H->ns.length<=63->(∀H',Q (.bl true) H')->qt K vs H Q E0
def lT{R:Hp->Prop}(l:H g=none)(j:H d=none)(r:H a=some (.lst (bu i)))(s:H b=some (.lst (qs.map λq=>V.ref q.1)))(p:bW H i qs)
 (k:∀f c ts,ah H f->iA mg f g qs c ts->c.Perm (i.flatMap lyr)->(∀k,k∈ts.map (·.2)↔k∈eQ i\/k∈dH qs qs.length)->R f):
 uE mg [.ref g,.ref a,.ref b] (upd (upd H d (.own g)) g (.ins (cI mg "Ground") d [])) (λv u=>v= .non/\R u) E0:=by
 have h:ah H (upd (upd H d (.own g)) g (.ins (cI mg "Ground") d [])):=λb o e=>by
  rw[am (ay e l),am (ay e j)];exact e
 refine%[g,a,b,d,i,qs,rfl,aa,h _ _ r,h _ _ s,p.ca.up h,p.nd,p.p1,p.p3,p.few,p.ly,λc q=>(p.sa c q).up h,p.q20|λf c ts c2 y z A B tk C E G pl I=>%[rfl|k f c ts (λb o e=>A b o (ay e l) (h _ _ e)) %[%[c2,y,z|B],iD p.nd pl,I,pl.length_eq▸p.ly,G,λk m=>?_,λk m=>?_|C] pl E]]<;> have%[t,n|rfl]:=Xq m
 .exact(tk t n).1
 .exact(tk t n).2
structure nR (S1 S2 SB:Str->Str->Prop) (ls1 ls2:ZB):Prop where
 hS:∀a b,SB a b↔S1 a b\/S2 a b
 w1:∀a b,S1 a b->a∈ls1/\b∈ls1
 w2:∀a b,S2 a b->a∈ls2/\b∈ls2
 dj:∀x∈ls1,x∉ls2
section
variable{S1 S2 SB:Str->Str->Prop}{ls1 ls2:ZB}{T1 T2 TB k1 k2 kB:List ZB}
def nR.swap(s:nR S1 S2 SB ls1 ls2):nR S2 S1 SB ls2 ls1:=%[λa b=>(s.hS a b).trans or_comm,s.w2,s.w1|λx c d=>s.dj x d c]
def nR.conn(s:nR S1 S2 SB ls1 ls2){x y:Str}(d:x∈ls1):dF SB x y↔dF S1 x y:=by
 constructor
 .intro h;have:y∈ls1/\dF S1 x y:=by
   induction h with
   | refl=>exact%[d|.refl _]
   | step _ e a=>
     have%[b|c]:=a;rcases e with e|e<;> rcases(s.hS _ _).mp e with e|e
     .exact%[(s.w1 _ _ e).2|.step c (.inl e)]
     .exact(s.dj _ b (s.w2 _ _ e).1).elim
     .exact%[(s.w1 _ _ e).1|.step c (.inr e)]
     .exact(s.dj _ b (s.w2 _ _ e).2).elim
  exact this.2
 .intro h
  induction h with
  | refl=>exact .refl _
  | step _ e a=>exact .step a (e.imp (λe=>(s.hS _ _).mpr (.inl e)) λe=>(s.hS _ _).mpr (.inl e))
def nR.least(s:nR S1 S2 SB ls1 ls2){x r:Str}(a:x∈ls1):cz SB x r↔cz S1 x r:=by
 unfold cz;simp only[s.conn a]
def aC.ed{S:Str->Str->Prop}{c ks:List _}(h:aC S c ks){d f:Str}:Ed ks d f↔∃a b,Ed c a b/\cz S a d/\cz S b f:=by
 constructor
 .rintro⟨z,l⟩;have%[a,b,m,n,o,g,i,j|e]:=(h.mem _).mp l;simp only[List.cons.injEq,and_true]at e;have%[rfl,rfl|rfl]:=e;exact%[a,b,%[_|g],i|j]
 .rintro⟨a,b,⟨z,g⟩,i,j⟩;exact%[z|(h.mem _).mpr %[a,b,z,d,f,g,i,j|rfl]]
def nR.ed(s:nR S1 S2 SB ls1 ls2)(f:∀k∈T1,bM ls1 k)(g:∀k∈T2,bM ls2 k)(h:∀a b,Ed TB a b↔Ed T1 a b\/Ed T2 a b)(i:aC S1 T1 k1)(j:aC S2 T2 k2)(l:aC SB TB kB)(a b:Str):Ed kB a b↔Ed k1 a b\/Ed k2 a b:=by
 rw[l.ed,i.ed,j.ed]
 constructor
 .rintro⟨x,y,e,c,d⟩;rcases(h x y).mp e with e|e
  .exact .inl %[x,y,e,(s.least (fW f e).1).mp c|(s.least (fW f e).2).mp d]
  .exact .inr %[x,y,e,(s.swap.least (fW g e).1).mp c|(s.swap.least (fW g e).2).mp d]
 .rintro(⟨x,y,e,c,d⟩|⟨x,y,e,c,d⟩)
  .exact%[x,y,(h x y).mpr (.inl e),(s.least (fW f e).1).mpr c|(s.least (fW f e).2).mpr d]
  .exact%[x,y,(h x y).mpr (.inr e),(s.swap.least (fW g e).1).mpr c|(s.swap.least (fW g e).2).mpr d]
def jq(h:∀a b,Ed k1 a b->Ed kB a b){x y:Str}(r:Rch k1 x y):Rch kB x y:=by
 induction r with
 | one e=>exact .one (h _ _ e)
 | more _ e c=>exact .more c (h _ _ e)
def Dp(c:∀a b,Ed kB a b↔Ed k1 a b\/Ed k2 a b)(d:∀k∈k1,bM ls1 k)(f:∀k∈k2,bM ls2 k)(g:∀x∈ls1,x∉ls2)(x y:Str):Rch kB x y↔Rch k1 x y\/Rch k2 x y:=by
 refine%[λr=>?_|λr=>r.elim (jq λa b e=>(c a b).mpr (.inl e)) (jq λa b e=>(c a b).mpr (.inr e))]
 induction r with
 | one e=>exact((c _ _).mp e).imp .one .one
 | more _ e h=>
   rcases h with r|r<;> rcases(c _ _).mp e with e|e
   .exact .inl (.more r e)
   .exact(g _ (mM d r).2 (fW f e).1).elim
   .exact(g _ (fW d e).1 (mM f r).2).elim
   .exact .inr (.more r e)
variable{n1 n2 nB L1 L2 LB:ZB}{m1 m2 mB:Str->Str}
def xY(o:∀x∈n1,x∉n2)(v:∀x y,Rch kB x y↔Rch k1 x y\/Rch k2 x y)(z:∀k∈k1,bM n1 k)(A:∀k∈k2,bM n2 k)(s:∀x,x∈nB↔x∈n1\/x∈n2)(f:cE k1 n1 L1 m1 n1)(i:cE k2 n2 L2 m2 n2):cE kB nB (L1++L2) (λx=>if x∈L1 then m1 x else m2 x) nB:=by
 have q:=λx B C=>o x (f.ln x C) (i.ln x B)
 have j:∀x∈L1,(if x∈L1 then m1 x else m2 x)=m1 x:=λx h=>if_pos h
 have l:∀x∈L2,(if x∈L1 then m1 x else m2 x)=m2 x:=λx h=>if_neg (q x h)
 have%[E,G,t|H]:=f.sh;have%[I,J,u|L]:=i.sh;refine%[%[nodup_append.mpr %[f.mat.nd,i.mat.nd|λa m b M e=>q b M (e▸m)],λx c y d e=>?_|λx c=>?_],λx c=>?_,λx c=>?_,λa=>(E a/\a∈n1)\/(I a/\a∈n2),λp=>(G p/\p∈L1)\/(J p/\p∈L2),%[λa h p r=>?_|λp h=>?_]|λa m=>?_]
 .rcases Xo c with c|c<;> rcases Xo d with d|d
  .rw[j x c,j y d]at e;exact f.mat.inj x c y d e
  .rw[j x c,l y d]at e;exact(o _ (f.mn x c) (e▸i.mn y d)).elim
  .rw[l x c,j y d]at e;exact(o _ (f.mn y d) (e▸i.mn x c)).elim
  .rw[l x c,l y d]at e;exact i.mat.inj x c y d e
 .rcases Xo c with c|c
  .rw[j x c];exact(v _ _).mpr (.inl (f.mat.ed x c))
  .rw[l x c];exact(v _ _).mpr (.inr (i.mat.ed x c))
 .rcases Xo c with c|c
  .rw[j x c];exact(s _).mpr (.inl (f.mn x c))
  .rw[l x c];exact(s _).mpr (.inr (i.mn x c))
 .exact(s x).mpr ((Xo c).imp (f.ln x) (i.ln x))
 .rcases h with⟨h,m⟩|⟨h,m⟩<;> rcases(v _ _).mp r with r|r
  .exact .inl %[t.nb a h p r|(t.mt p (t.nb a h p r)).1]
  .exact(o a m (mM A r).1).elim
  .exact(o a (mM z r).1 m).elim
  .exact .inr %[u.nb a h p r|(u.mt p (u.nb a h p r)).1]
 .rcases h with⟨h,n⟩|⟨h,n⟩
  .rw[j p n];exact%[mem_append.mpr (.inl n)|.inl %[(t.mt p h).2|f.mn p n]]
  .rw[l p n];exact%[mem_append.mpr (.inr n)|.inr %[(u.mt p h).2|i.mn p n]]
 .rcases(s a).mp m with h|h
  .rcases H a h with⟨x,c,e⟩|g
   .exact .inl %[x,mem_append.mpr (.inl c)|(j x c).trans e]
   .exact .inr (.inl %[g|h])
  .rcases L a h with⟨x,c,e⟩|g
   .exact .inl %[x,mem_append.mpr (.inr c)|(l x c).trans e]
   .exact .inr (.inr %[g|h])
def AX(c:∀x∈n1,x∉n2)(m:∀x y,Rch kB x y↔Rch k1 x y\/Rch k2 x y)(n:∀k∈k1,bM n1 k)(o:∀k∈k2,bM n2 k)(f:∀x,x∈nB↔x∈n1\/x∈n2)(q:n1.Nodup)(s:n2.Nodup)(d:nB.Nodup)(g:cE k1 n1 L1 m1 n1)(i:cE k2 n2 L2 m2 n2)(j:cE kB nB LB mB nB):(nB.filter λx=>decide (x∉LB)).length=(n1.filter λx=>decide (x∉L1)).length+(n2.filter λx=>decide (x∉L2)).length:=by
 have p:=xY c m n o f g i;rw[Nat.le_antisymm (j.size d p λ_ _ r=>r) (p.size d j λ_ _ r=>r),wC d (nodup_append.mpr %[q,s|λa t b u e=>c a t (e▸u)]) λx=>(f x).trans mem_append.symm,Y2,Z9]
 congr 1<;> refine congrArg List.length (List.filter_congr λx l=>decide_eq_decide.mpr ?_)<;> rw[Yt,not_or]
 .exact%[And.left|λh=>%[h|λv=>c x l (i.ln x v)]]
 .exact%[And.right|λh=>%[λz=>c x (g.ln x z) l|h]]
end
abbrev nmQ(k:Int):Str:=if k=0 then "northq" else if k=1 then "aq" else if k=2 then "wallwesq" else "zzq"
def ef(k:Int):∃j:Fin 4,nmK k=nmK (j.1)/\nmQ k=nmQ (j.1):=by
 by_cases a:k=0
 .exact%[0,by rw[a];rfl|by rw[a];rfl]
 by_cases b:k=1
 .exact%[1,by rw[b];rfl|by rw[b];rfl]
 by_cases c:k=2
 .exact%[2,by rw[c];rfl|by rw[c];rfl]
 .exact%[3,by unfold nmK;rw[if_neg a,if_neg b,if_neg c];rfl|by unfold nmQ;rw[if_neg a,if_neg b,if_neg c];rfl]
def AY:∀(j:Fin 4) (i:Fin 26),Txt.split (bD (nmK (j.1:Int)) (97+i.1)) (!".")=[nmK (j.1:Int),sgn (97+i.1)]/\(bD (nmK (j.1:Int)) (97+i.1)).length<=30/\atI (bD (nmK (j.1:Int)) (97+i.1)).cps.toList (-1)=some (97+i.1)/\Txt.slice (nmK (j.1:Int)) none (some 7) ++Str.ofString "q."++⟨([97+i.1].toArray)⟩=bD (nmQ (j.1:Int)) (97+i.1):=!0
def d8:∀j:Fin 4,(nmK (j.1)).length<=8/\(Txt.slice (nmK (j.1)) none (some 7)).length<=7/\Txt.slice (nmK (j.1)) none (some 7) ++Str.ofString "q"=nmQ (j.1)/\eK (nmQ (j.1))=true/\(∀i:Fin 4,nmQ (j.1)≠nmK (i.1))/\∀i,nmQ (j.1)=nmQ (i.1)->i=j:=!0
inductive sW
 | mk (k:Int) (c:Nat):vs=[.str (bD (nmK k) c)]->97<=c->c<=122->(∀H',ah H H'->Q (.str (bD (nmQ k) c)) H')->sW vs H Q E0
def lU(T:Txt K mg):Cal P w K mg base 1 "_law_called" ["_law_layer"] sW:=by
 refine T.bu.cal jR (λH vs Q E h=>?_)
 .have%[k,c,rfl,r,c2|d]:=h;refine%[rfl|λf q A outer s y=>?_];obtain⟨i,rfl⟩:∃i:Fin 26,c=97+i.1:=%[%[c-97|⋯]|by dsimp only;lia]
  have%[j,g|o]:=ef k;have%[e,t,m|p]:=AY j i;have%[g1,g2|_]:=d8 j;rw[o,<-p]at d;rw[g];clear g o r c2 p
  generalize bD (nmK (j.1:Int)) (97+i.1)=x at e t m ⊢
  generalize nmK (j.1:Int)=n at e g1 g2 d
  generalize 97+i.1=c at e m d
  refine%[_,%["JCG1~}~x~y0AVBEDHI~MI~M~[1~X;EV~}0$E"|jR.nd]|?_]
  show bq _ _ _ [-x,none] H;refine ap λz k1 _=>?_
  lk;rw[e];refine%[!1,aM ⋯|λl u=> .inl %[_,SqL.of aa,_,rfl|k1 _ _ ?_]];lk;have v:∀a b:Str,(a++b).length=a.length+b.length:=λa b=>size_append
  have g:(!"q.").length=2:=rfl;refine%[aM ⋯,aM ⋯,aM ⋯,_,m,aM (by rw[v,show Str.length ⟨([c].toArray)⟩=1 from rfl];lia)|?_];exact d _ (ah.upd u)
abbrev qn(n:Str):Str:=Txt.slice n none (some 7) ++Str.ofString "q"
abbrev Ren(x y:Str):Prop:=∃(k:Int) (c:Nat),97<=c/\c<=122/\x=bD (nmK k) c/\y=bD (nmQ k) c
def Ren.inj{x y u v:Str}(h:Ren x y)(g:Ren u v)(e:y=v):x=u:=by
 have%[k,c,_,_,rfl|rfl]:=h;have%[b,o,_,_,rfl|rfl]:=g;have%[a|d]:=eV e;have%[j,f|i]:=ef k;have%[l,m|n]:=ef b;rw[i,n]at a;rw[f,m,(d8 j).2.2.2.2.2 l a,d]
def lK.ren{i:ZB}{xs:ZM}(h:lK i xs)(j:∀x∈i,∃y,Ren x y):∃wd x a l z,xs=[.str wd,.str x,l]/\Ren x a/\(inV (.str wd) [V.str (!"later"),V.str (!"same")]=true->∃y b,l= .str y/\Ren y b/\z= .str b)/\(inV (.str wd) [V.str (!"later"),V.str (!"same")]=false->z=l)/\∀f,(∀x∈i,∀y,Ren x y->y∈f)->lK f [.str wd,.str a,z]:=by
 rcases h with⟨wd,x,y,e,hw,d,o,ne⟩|⟨wd,x,y,e,hw,d,p,y2⟩
 .have%[a|c]:=j x d;have%[b|m]:=j y o;exact⟨wd,x,a,.str y,.str b,e,c,λ_=>%[y,b,rfl,m|rfl],λn=>(by rcases hw with rfl|rfl<;> exact absurd n (!0)),λf g=> .inl %[wd,a,b,rfl,hw,g x d _ c,g y o _ m|λe=>ne (c.inj m e)]⟩
 .have%[a|c]:=j x d;exact%[wd,x,a,.int y,.int y,e,c,λn=>(by rcases hw with rfl|rfl<;> exact absurd n (!0)),λ_=>rfl|λf g=> .inr %[wd,a,y,rfl,hw,g x d _ c,p|y2]]
inductive Dq
 | mk (l1 l2:Addr) (cs:ZH) (qs:ZN) (ls:ZB):vs=[.ref l1,.ref l2]->H l1=some (.lst (bu cs))->(∀p∈cs,H p.1=some (.tup [.str p.2.1,.str (Str.join nl p.2.2)])/\∃k,p.2.1=nmK k)->cs.length<=3->H l2=some (.lst (qs.map λq=>V.ref q.1))->cv H ls qs->qs.length<=12->(∀x∈ls,∃y,Ren x y)->(∀(t m1 m2:Addr) H' (cs':ZH) (qs':ZN),ah H H'->H' t=some (.tup [.ref m1,.ref m2])->H' m1=some (.lst (bu cs'))->cs'.map (·.2)=cs.map (λp=>(qn p.2.1,p.2.2))->(∀p∈cs',H' p.1=some (.tup [.str p.2.1,.str (Str.join nl p.2.2)]))->H' m2=some (.lst (qs'.map λq=>V.ref q.1))->qs'.length=qs.length->(∀ms:ZB,(∀x∈ls,∀y,Ren x y->y∈ms)->cv H' ms qs')->Q (.ref t) H')->Dq vs H Q E0
def qW(T:Txt K mg):Cal P w K mg base 2 "_law_renamed" ["_law_cuts","_law_sayings"] Dq:=by
 refine T.bv.cal cg (λH vs Q E h=>?_)
 .have%[l1,l2,m,qs,ls,rfl,h1,hc,c3,h2,sa,as,hl|kk]:=h;refine%[rfl|λf aq A outer s hr=>?_];refine%[_,%["JC~G2fea?1P0bMS0?2MS1?2cpgAI~M~[0~X;EVA1BCG3RBCTP1K4CG5Q4ECNL^Q4EgAVAVBDG5F~0AQ4EBODZol3AgAQ4EAF~0AQ4EBA5BBDHgA2A3B",cg.nd,(show bF _ _ _ ["_law_name","_law_text"] []=true from rfl),(show(["_law_name","_law_text"]:ZB).Nodup from !0)|hr]|?_]
  show bq _ _ _ [!l1,!l2,none,none,none,none] H;refine ap λD1 k1 _=>aF λae hK=>?_
  lk;refine .inl %[%[_|SqL.of h1]|hK _ _ λD hD=>?_];refine bh (J:=Itl K l1) (n:=m.length) (D:=D) (λj ts N B=>(∃o1 o2,N=[o1,o2])/\ah H B/\B D=some (.lst ts)/\∃i:ZH,ts=bu i/\i.map (·.2)=(m.take j).map (λp=>(qn p.2.1,p.2.2))/\∀p∈i,p.1≠D/\B p.1=some (.tup [.str p.2.1,.str (Str.join nl p.2.2)]))
   %[%[none,none|rfl],ah.upd hD,aa,[],rfl,rfl|λp C=>(nomatch C)]
   (λj _ _ B G v=>%[_,V.ref m[j].1,SqL.of (v.2.1 _ _ h1)|by unfold bu;simp[G]]) (λ_ _ B v=>%[_,SqL.of (v.2.1 _ _ h1)|by unfold bu;simp]) ?_ ?_
  .intro j ts N H5 G %[%[o1,o2|rfl],O,ag,i,ht,hm|C] x H6 %[e2|hx];subst e2;have Y:=hx _ (SqL.of (O _ _ h1));unfold bu at Y;rw[Zl,Z4 G]at Y;obtain rfl:x=V.ref m[j].1:=(Za Y).symm;have%[ai,k|hk]:=hc m[j] (Ye G);refine%[_,SqT.of (O _ _ ai),rfl,_,_,rfl,_,_,rfl,rfl|?_];show uT [some (.str m[j].2.1),some (.str (nl.join m[j].2.2))] _ _;lk;have%[j4,e1|_]:=ef k;have g:=d8 j4;rw[<-e1,<-hk]at g;have ea:∀a b:Str,(a++b).length=a.length+b.length:=λa b=>size_append
   have a0:(!"q").length=1:=rfl;refine%[aM ⋯,aM ⋯,#[2]|λp fp=>?_];have s6:=ah.upd (o:= .tup [V.str (qn m[j].2.1),V.str (nl.join m[j].2.2)]) fp;have pD:p≠D:=λe=>by rw[e,ag]at fp;cases fp
   refine CK.mk G (s6 _ _ ag) (by rw[ht];unfold bu;rw[Z6];have:=congrArg List.length hm;rw[Z6,Z6,Ym]at this;exact aE ⋯) %[%[_,_|rfl],ah.set (O.trans s6) hD,aa,i++[(p,qn m[j].2.1,m[j].2.2)],?_,?_|λq r=>?_]
   .rw[ht];unfold bu;rw[Zd];rfl
   .rw[Zd,hm,Xb,Z4 G,Zd];rfl
   .rcases Xo r with z|z
    .exact%[(C q z).1|by rw[am (C q z).1];exact s6 _ _ (C q z).2]
    .rw[Xp z];exact%[pD|by rw[am pD];exact aa]
  .intro ts N H5 %[_,O,aj,i,rfl,hm|C];rw[Zn (Zi _)]at hm;refine k1 _ _ (ap λD2 k2 _=>?_);lk;refine%[Xf _|λM fM=>k2 _ _ (ap λD3 k3 _=>aB λae hK=>?_)];have s6:=ah.upd (o:= .lst []) fM;have hM:upd H5 M (.lst []) M=some (.lst []):=aa
   generalize upd H5 M (.lst [])=H6 at s6 hM
   have al:=O.trans s6;lk;refine .inl %[%[_|SqL.of (al _ _ h2)]|hK _ _ (bz (xs:=qs.map λq=>V.ref q.1) (λj N B=>(∃o1 o2,N=[!l1,!l2,!D,!M,o1,o2])/\ah H5 B/\∃d:ZN,B M=some (.lst (d.map λq=>V.ref q.1))/\d.length=j/\∀ms:ZB,(∀x∈ls,∀y,Ren x y->y∈ms)->cv B ms d)
    %[%[_,_|rfl],s6,[],hM,rfl|λ_ _ p C=>(nomatch C)] (λj N B _ v=>SqL.of (v.2.1 _ _ (O _ _ h2))) ?_ ?_)]
   .intro j x N H7 hx %[%[o1,o2|rfl],s7,d,I,ql|sq];have G:j<qs.length:=by have:=(Xn hx).1;rwa[Z6]at this
    rw[Zl,Z4 G]at hx;obtain rfl:x=V.ref qs[j].1:=(Za hx).symm;have%[r|ok]:=sa qs[j] (Ye G);have r:=s7 _ _ (O _ _ r);refine ap λD4 k4 _=>?_
    lk;have%[wd,x,x',y0,z,e,rx,an,no|fin]:=ok.ren hl;rw[e]at r;refine%[_,SqT.of r,_,rfl|k4 _ _ (ap λD5 k5 _=>?_)];lk;refine%[_,SqT.of r,_,rfl,#[2]|λp fp=>%[_,.inr (SqT.of aa),rfl,rfl|?_]];have L:=ah.upd (o:= .tup [V.str (!"later"),V.str (!"same")]) fp
    generalize upd H7 p (.tup [V.str (!"later"),V.str (!"same")])=H8 at L
    have go:∀H9,ah H8 H9->D5.nx [!l1,!l2,!D,!M,some (.ref qs[j].1),some z] H9:=λH9 s9=>by
     refine k5 _ _ (aI λD6 k6 _=>?_);have l:=L.trans s9;lk;have%[k,c,c1,c2,rfl|rfl]:=rx;refine%[.inl %[_|SqL.of (l _ _ I)],_,SqT.of (l _ _ r),_,rfl,_,SqT.of (l _ _ r),_,rfl,k,c,rfl,c1,c2|λa1 ab=>?_];refine%[#[3]|λp fp=>?_];have ac:=ah.upd (o:= .tup [V.str wd,V.str (bD (nmQ k) c),z]) fp;have U:=ac _ _ (ab _ _ (l _ _ I));have tk:=lQ (ys:=d.map (λq=>V.ref q.1) ++[V.ref p]) U;refine%[_,U,by rw[Z6];exact aE ⋯|k6 _ _ %[%[_,_|rfl],ah.set (s7.trans (l.trans (ab.trans ac))) fM,d++[(p,[.str wd,.str (bD (nmQ k) c),z])],by rw[aa,Zd];rfl,by rw[Z9,ql];rfl|λms h q r=>?_]];rcases Xo r with u|u
     .exact(((sq ms h).up (l.trans (ab.trans ac))).keep tk) q u
     .rw[Xp u];exact%[tk _ _ aa|fin ms h]
    refine bG (λc=>?_) λc=>?_
    .have%[y,y',e1,%[k,c,c1,c2,e2|e3]|e4]:=an c;refine%[_,SqT.of (L _ _ r),_,rfl,k,c,by rw[e1,e2],c1,c2|λH9 s9=>?_];rw[<-e3,<-e4];exact go H9 s9
    .rw[<-no ↑c];exact go H8 λ_ _ e=>e
   .intro N H7 %[%[o1,o2|rfl],s7,d,I,ql|sq];refine k3 _ _ ?_;lk;refine%[#[2]|λt ft=>?_];have L:=ah.upd (o:= .tup [V.ref D,V.ref M]) ft;rw[Z6]at ql;exact kk t D M _ i d (O.trans (s7.trans L)) aa (L _ _ (s7 _ _ aj)) hm (λp q=>L _ _ (s7 _ _ (C p q).2)) (L _ _ I) ql λms h=>(sq ms h).up L
inductive sX
 | mk (rows:ZB):vs=[.str (Str.join nl rows)]->bJ rows->(∀H',ah H H'->Q (.str (Str.join nl (rows.map cw))) H')->sX vs H Q E0
def Dr{z:Str}{j c:Nat}(h:(cw z).cps[j]? =some c):j<z.cps.size/\z.cps[z.cps.size-1-j]? =some c:=by
 have h':=by
  have:(cw z).cps=z.cps.toList.reverse.toArray:=rfl;rw[this]at h;simpa using h
 have a:=by
  have:=(Xn h').1;simpa using this
 rw[List.getElem?_reverse a]at h';refine%[a|?_];simpa using h'
def zg{rows:ZB}(h:bJ rows):bJ (rows.map cw):=by
 have%[wd,s,t|a]:=h.wide;have hw:∀r∈rows,(cw r).cps.size=wd:=λr b=>(a r b)▸vg r
 refine%[by rw[Z6];exact h.pos,by rw[Z6];exact h.high,%[wd,s,t|λr b=>?_],λr b=>?_,λi r v l m j c u g1 g2 e=>?_|?_]
 .have%[d,f|rfl]:=Xq b;exact hw d f
 .have%[d,f|rfl]:=Xq b;show(d.cps.toList.reverse).all okc=true;rw[List.all_reverse];exact h.sign d f
 .rw[Zl]at l m;have%[d,q1|rfl]:=map_eq_some_iff.mp l;have%[n,o|rfl]:=map_eq_some_iff.mp m;have%[y|p]:=Dr g1;have%[z|q]:=Dr g2;rw[(a d (Z8 q1))]at p;rw[(a n (Z8 o))]at q;exact h.fall i d n q1 o _ c u p q e
 .have%[r,b,c,e|g]:=h.some';exact%[cw r,List.mem_map_of_mem b,c,List.mem_reverse.mpr e|g]
def sY{rows:ZB}(h:bJ rows){a b:Nat}(m:qN rows a b):qN (rows.map cw) a b:=by
 have%[wd,t,u|d]:=h.wide;have%[l,n,i,j,r,e,o,p,g1|g2]:=m;have f:=d r (Z8 o);have v:j<wd:=f▸(Array.getElem?_eq_some_iff.mp g1).1;have g:∀z c,z.cps.size=wd->z.cps[j]? =some c->(cw z).cps[wd-1-j]? =some c:=λz c q s=>by
  have:(cw z).cps=z.cps.toList.reverse.toArray:=rfl;rw[this,List.getElem?_toArray,List.getElem?_reverse (by rw[Zb];lia),Zb,getElem?_toList,q,show wd-1-(wd-1-j)=j by lia];exact s
 exact%[l,n,i,wd-1-j,cw r,cw e,!2,!2,g r a f g1|g e b (d e (Z8 p)) g2]
def og{rows:ZB}{c:Nat}:Let (rows.map cw) c↔Let rows c:=by
 constructor
 .rintro⟨a,r,b,d⟩;have%[e,f|rfl]:=Xq b;exact%[a,e,f|List.mem_reverse.mp d]
 .rintro⟨a,r,b,d⟩;exact%[a,cw r,List.mem_map_of_mem b|List.mem_reverse.mpr d]
def qu{rows:ZB}(h:bJ rows){a b:Nat}:qN (rows.map cw) a b↔qN rows a b:=by
 refine%[λm=>?_|sY h];have:=sY (zg h) m;rw[Ys,show cw ∘ cw=id from funext z7,map_id]at this;exact this
def Ds(T:Txt K mg):Cal P w K mg base 3 "turned" ["text"] sX:=by
 refine T.b8.cal AD (λH vs Q E h=>?_)
 .have%[rows,rfl,a|L]:=h;refine%[rfl|λf G A outer s I=>?_];refine%[_,%["JDH~U~VVAja?1PF~iA0BS0?2p]/0B",0,(show bF _ _ _ ["row"] []=true from rfl),(show(["row"]:ZB).Nodup from by simp)|I]|?_];show jX _ _ [some (.str (Str.join nl rows))] H;lk;refine aF λy M=>?_
  lk;refine%[rows,rfl,a|λl z N hn O=>?_];have d:∀c,ah z c->SqL K c l (rows.map V.str):=λc j=>SqL.of (j _ _ O)
  have%[wd,w1,w2|q]:=a.wide;have B:=a.high;refine .inl %[l,rfl,%[_|d _ (ah.refl _)]|M _ _ λD C=>?_];refine bh (J:=Itl K l) (n:=rows.length) (D:=D) (λi ys t c=>(∃o,t=[o])/\ah z c/\c D=some (.lst ys)/\ys=(rows.take i).map (λr=>V.str (cw r))) %[%[none|rfl],ah.upd C,aa|rfl]
   (λi _ _ c hi g=>%[_,V.str rows[i],d _ g.2.1|by simp]) (λ_ _ c g=>%[_,d _ g.2.1|by simp]) ?_ ?_
  .intro i ys t c hi %[%[o|rfl],j,v|m] x H3 %[U|Y];subst U;have p:=Y _ (d _ j);rw[Zl,Z4 hi]at p;obtain rfl:x=V.str rows[i]:=(Za p).symm;have hw:rows[i].length=wd:=q _ (Ye hi);lk;simp only[vo];lk;refine%[⋯,⋯|CK.mk hi v ?_ %[%[_|rfl],?_,aa|?_]]
   .rw[m,Z6,Ym,PySem.sizeLine_eq];lia
   .exact λb u e=>(am (ay e C))▸j _ _ e
   .rw[m,Xb,Zd,Z4 hi];rfl
  .intro ys t c %[_,j,v|m];lk;rw[Zn (Zi _)]at m;refine%[rows.map cw,SqL.of (by rw[v,m,Ys];rfl),?_|?_]
   .have e1:((rows.map cw).map (·.length)).sum=(rows.map (·.length)).sum:=by
     rw[Ys];exact congrArg List.sum (Yq λr _=>vg r)
    have:=a.sum;rw[e1,Z6,show(!"\n").length=1 from rfl]
    lia
   .rw[show Txt.join (!"\n") (rows.map cw)=Str.join nl (rows.map cw)from StrLaws.glued_eq_join _ _];exact L c (N.trans j)
abbrev nC(c:List (Str×ZB))(a b:Str):Prop:=∃p∈c,∃u l,qN p.2 u l/\a=bD p.1 u/\b=bD p.1 l
abbrev eE(c:List (Str×ZB))(x:Str):Prop:=∃p∈c,∃u,Let p.2 u/\x=bD p.1 u
abbrev mN(qs:ZN)(a b:Str):Prop:=∃q∈qs,q.2=[.str (!"later"),.str a,.str b]
def qX{rows:ZB}{a b:Nat}(h:qN rows a b):[sgn a,sgn b]∈eP rows (rows.length-1):=by
 have%[d,e,i,j,r,g,f,c,g1|g2]:=h;have l:=(Xn c).1;refine mem_flatMap.mpr %[i,mem_range.mpr ⋯|?_];rw[Zc,Zc,f,c];refine mem_filterMap.mpr %[(a,b),Z8 (List.getElem?_zip_eq_some.mpr %[↑g1|↑g2])|?_];exact if_pos %[d|e]
def nD{qs:List _}{k:ZB}:k∈dH qs qs.length↔∃j q,qs[j]? =some q/\jj j q.2=some k:=by
 unfold dH;rw[mem_filterMap]
 constructor
 .rintro⟨j,_,h⟩;have%[q,a|e]:=Option.bind_eq_some_iff.mp h;exact%[j,q,a|e]
 .rintro⟨j,q,a,e⟩;exact%[j,mem_range.mpr (Xn a).1|a▸e]
def Fn{o:ZH}{qs:ZN}{T:List ZB}(d:∀k,k∈T↔k∈eQ o\/k∈dH qs qs.length)(a b:Str):Ed T a b↔nC (o.map (·.2)) a b\/mN qs a b:=by
 constructor
 .rintro⟨z,r⟩;rcases(d _).mp r with h|h
  .left
   have%[p,f|g]:=mem_flatMap.mp h;have%[k,g|e]:=Xq g;have%[u,l,rfl|m]:=sL g;replace e:[lnS _ _,lnS _ _,p.2.1]=[a,b,z]:=e;simp only[List.cons.injEq,iC]at e;exact%[p.2,Xr %[p,f|rfl],u,l,m,e.1.symm|e.2.1.symm]
  .right
   have%[j,q,i|e]:=nD.mp h;unfold jj at e
   split at e
   .rename_i w x y s
    split at e
    .rename_i c
     simp only[Option.some.injEq,List.cons.injEq]at e;have%[rfl,rfl|_]:=e;exact%[q,Z8 i|by rw[s,c]]
    .lia
   .lia
 .rintro(⟨p,f,u,l,m,rfl,rfl⟩|⟨q,i,e⟩)
  .have%[p,n|rfl]:=Xq f;exact%[p.2.1|(d _).mpr (.inl (mem_flatMap.mpr %[p,n|Xr %[_,qX m|by rw[<-iC,<-iC];rfl]]))]
  .have%[j|t]:=Xg i;exact%[Fe j|(d _).mpr (.inr (nD.mpr %[j,q,t|by rw[e];unfold jj;exact if_pos rfl]))]
def mO{c d:List _}{a b:Str}:nC (c++d) a b↔nC c a b\/nC d a b:=by
 unfold nC;simp only[Yt,or_and_right,exists_or]
def AZ{c d:List _}{a:Str}:eE (c++d) a↔eE c a\/eE d a:=by
 unfold eE;simp only[Yt,or_and_right,exists_or]
def iE{c d:List _}{a b:Str}:mN (c++d) a b↔mN c a b\/mN d a b:=by
 unfold mN;simp only[Yt,or_and_right,exists_or]
def sZ{c d:List _}{a b:Str}:aH (c++d) a b↔aH c a b\/aH d a b:=by
 unfold aH;simp only[Yt,or_and_right,exists_or]
structure Gm (c:List (Str×ZB)) (qs:ZN) (ls:ZB) (T:List ZB):Prop where
 lm:∀x,x∈ls↔eE c x
 ed:∀a b,Ed T a b↔nC c a b\/mN qs a b
 ws:∀a b,aH qs a b->a∈ls/\b∈ls
 t3:∀k∈T,bM ls k
def iA.gm{mg:ZC}{H:Hp}{g:Addr}{c:ZH}{qs:ZN}{d:ZB}{ts:ZG}(h:iA mg H g qs d ts)(pl:d.Perm (c.flatMap lyr))(j:∀k,k∈ts.map (·.2)↔k∈eQ c\/k∈dH qs qs.length):Gm (c.map (·.2)) qs d (ts.map (·.2)):=by
 have%[c2,m,n|l]:=h.gr;refine%[λx=>?_,Fn j,λa b s=>jo l.sa a b s|h.t3];rw[d6 pl]
 constructor
 .rintro⟨p,e,u,f⟩;exact%[p.2,Xr %[p,e|rfl],u|f]
 .rintro⟨p,e,u,f⟩;have%[p,i|rfl]:=Xq e;exact%[p,i,u|f]
section
variable{c c' c1 c2:List (Str×ZB)}{q q' q1 q2 qB:ZN}{l l' l1 l2 lB:ZB}{T T' T1 T2 TB k k' k1 k2 kB:List ZB}
def Gm.side(g1:Gm c1 q1 l1 T1)(g2:Gm c2 q2 l2 T2)(d:∀x,eE c1 x-> ¬ eE c2 x):nR (aH q1) (aH q2) (aH (q2++q1)) l1 l2:=
 %[λa b=>sZ.trans or_comm,g1.ws,g2.ws|λx e f=>d x ((g1.lm x).mp e) ((g2.lm x).mp f)]
def aC.ties{S:Str->Str->Prop}(h:aC S T k)(g:∀k∈T,bM l k)(ws:∀a b,S a b->a∈l/\b∈l):∀x∈k,bM l x:=λx d=>by
 have%[a,b,z,f,i,j,m,n|rfl]:=(h.mem x).mp d;have%[x,y,u,e,d|o]:=g _ j;simp only[List.cons.injEq,and_true]at e;have%[rfl,rfl|rfl]:=e;exact%[f,i,z,rfl,m.1.within ws d|n.1.within ws o]
def Gm.rch(g1:Gm c1 q1 l1 T1)(g2:Gm c2 q2 l2 T2)(g:Gm (c1++c2) (q2++q1) lB TB)(d:∀x,eE c1 x-> ¬ eE c2 x)(e:aC (aH q1) T1 k1)(f:aC (aH q2) T2 k2)(i:aC (aH (q2++q1)) TB kB)(x y:Str):Rch kB x y↔Rch k1 x y\/Rch k2 x y:=
 Dp (λa b=>(g1.side g2 d).ed g1.t3 g2.t3 (λa b=>by rw[g.ed,g1.ed,g2.ed,mO,iE];constructor<;>(rintro((h|h)|(h|h))<;> simp[h])) e f i a b) (e.ties g1.t3 g1.ws) (f.ties g2.t3 g2.ws) (g1.side g2 d).dj x y
variable{n n' n1 n2 nB L L' L1 L2 LB:ZB}{m m' m1 m2 mB:Str->Str}
def Gm.size(g1:Gm c1 q1 l1 T1)(g2:Gm c2 q2 l2 T2)(v:Gm (c1++c2) (q2++q1) lB TB)(A:∀x,eE c1 x-> ¬ eE c2 x)(f:aC (aH q1) T1 k1)(j:aC (aH q2) T2 k2)(H:aC (aH (q2++q1)) TB kB)(o:fJ (aH q1) l1 n1)(p:fJ (aH q2) l2 n2)(B:fJ (aH (q2++q1)) lB nB)
 (I:cE k1 n1 L1 m1 n1) (J:cE k2 n2 L2 m2 n2) (M:cE kB nB LB mB nB):(nB.filter λx=>decide (x∉LB)).length=(n1.filter λx=>decide (x∉L1)).length+(n2.filter λx=>decide (x∉L2)).length:=by
 have d:=g1.side g2 A;have C:∀{S:Str->Str->Prop} {T k:List _} {l n:ZB},aC S T k->(∀k∈T,bM l k)->(∀a b,S a b->a∈l/\b∈l)->fJ S l n->∀x∈k,bM n x:=λh g ws i x r=>by
  have%[a,b,z,E,G,N,s,t|rfl]:=(h.mem x).mp r;have%[x,y,u,e,r|O]:=g _ N;simp only[List.cons.injEq,and_true]at e;have%[rfl,rfl|rfl]:=e;exact%[E,G,z,rfl,(i.mem E).mpr %[s.1.within ws r|iz s s.1]|(i.mem G).mpr %[t.1.within ws O|iz t t.1]]
 refine AX (λx f j=>d.dj x ((o.mem x).mp f).1 ((p.mem x).mp j).1) (g1.rch g2 v A f j H) (C f g1.t3 g1.ws o) (C j g2.t3 g2.ws p) (λx=>?_) o.nd p.nd B.nd I J M;rw[B.mem,o.mem,p.mem,v.lm,AZ,<-g1.lm,<-g2.lm]
 constructor
 .rintro⟨h|h,e⟩
  .exact .inl %[h|(d.least h).mp e]
  .exact .inr %[h|(d.swap.least h).mp e]
 .rintro(⟨h,e⟩|⟨h,e⟩)
  .exact%[.inl h|(d.least h).mpr e]
  .exact%[.inr h|(d.swap.least h).mpr e]
def Gm.less(g:Gm c q l T)(g':Gm c' q' l' T')(o:∀x,eE c x↔eE c' x)(s:∀a b,aH q a b↔aH q' a b)(t:∀a b,Ed T a b->Ed T' a b)(h:aC (aH q) T k)(h':aC (aH q') T' k')(i:fJ (aH q) l n)(f:fJ (aH q') l' n')(p:cE k n L m n)(u:cE k' n' L' m' n'):(n'.filter λx=>decide (x∉L')).length<=(n.filter λx=>decide (x∉L)).length:=by
 have e:=funext λa=>funext λb=>propext (s a b)
 have j:∀x,x∈n'↔x∈n:=λx=>by rw[i.mem,f.mem,g.lm,g'.lm,o,e]
 rw[wC f.nd i.nd j];exact(u.of j).size i.nd p λa b r=>jq (λa b=>by rw[h.ed,h'.ed,e];exact λ⟨x,y,d,r⟩=>%[x,y,t _ _ d|r]) r
end
abbrev IV(ds:List Drn):List (Str×ZB):=ds.map λd=>(d.name,d.rows)
def zh(ds:List (Addr×Drn)):(dcs ds).map (·.2)=IV (ds.map (·.2)):=by
 unfold dcs IV;rw[Ys,Ys];rfl
def zi(k:Int):qn (nmK k)=nmQ k:=by
 have%[j,a|b]:=ef k;rw[a,b];exact(d8 j).2.2.1
def HI(k:Int):eK (nmQ k)=true:=by
 have%[j,b|a]:=ef k;rw[a];exact(d8 j).2.2.2.1
def Dt(j k:Int):nmK j≠nmQ k:=by
 have%[a,c|_]:=ef j;have%[b,_|d]:=ef k;rw[c,d];exact λe=>(d8 b).2.2.2.2.1 a e.symm
def Fo{j k:Int}(e:nmQ j=nmQ k):nmK j=nmK k:=by
 have%[a,c|d]:=ef j;have%[b,f|g]:=ef k;rw[d,g]at e;rw[c,f,(d8 a).2.2.2.2.2 b e]
def Fp(p q:Addr×Str×ZB)(h:p.2.2=q.2.2):(lyr p).length=(lyr q).length:=by
 unfold lyr
 simp_all
def Du:∀{a es:List _},a.map (λp=>p.2.2)=es.map (λp=>p.2.2)->(a.flatMap lyr).length=(es.flatMap lyr).length
 |[],[],_=>rfl
 | p::a,q::es,h=>by
   have%[b|c]:=List.cons.inj h;rw[List.flatMap_cons,List.flatMap_cons,Z9,Z9,Du c,Fp p q b]
def bW.app{H:Hp}{c cs2:List _}{qs1 qs2:List _}(d:bW H c qs1)(f:bW H cs2 qs2)(m:∀p∈c,∀q∈cs2,p.2.1≠q.2.1)(n:c.length+cs2.length<=6)(o:(c.flatMap lyr).length+(cs2.flatMap lyr).length<=80)(q:qs1.length+qs2.length<=25):bW H (c++cs2) (qs2++qs1):=by
 refine%[λp g=>(Xo g).elim (d.ca p) (f.ca p),?_,by rw[Z9];have:=d.p1;lia,Z9▸n,λp g=>(Xo g).elim (d.few p) (f.few p),by rw[Y7,Z9];exact o,λl pl=>?_|by rw[Z9];lia]
 .rw[Zd];refine nodup_append.mpr %[d.nd,f.nd|λa s b t e=>?_];have%[p,g|rfl]:=Xq s;have%[r,i|rfl]:=Xq t;exact m p g r i e
 .have u:∀x∈c.flatMap lyr,x∈l:=λx j=>pl.mem_iff.mpr (Y7▸mem_append.mpr (.inl j))
  have m2:∀x∈cs2.flatMap lyr,x∈l:=λx j=>pl.mem_iff.mpr (Y7▸mem_append.mpr (.inr j))
  intro r i;rcases Xo i with h|h
  .exact%[(f.sa _ (.refl _) r h).1|(f.sa _ (.refl _) r h).2.mono m2]
  .exact%[(d.sa _ (.refl _) r h).1|(d.sa _ (.refl _) r h).2.mono u]
def bW.put{H:Hp}{d:ZH}{qs:ZN}(c:bW H d qs){t:Addr}{a b:Str}(e:H t=some (.tup [.str (!"later"),.str a,.str b]))(f:a∈d.flatMap lyr)(g:b∈d.flatMap lyr)(ne:a≠b)(q:qs.length<25):bW H d (qs++[(t,[.str (!"later"),.str a,.str b])]):=
 ⟨c.ca,c.nd,c.p1,c.p3,c.few,c.ly,λi pl r j=>by
  rcases Xo j with h|h
  .exact c.sa i pl r h
  .rw[Xp h];exact%[e|.inl %[_,a,b,rfl,.inl rfl,pl.mem_iff.mpr f,pl.mem_iff.mpr g|ne]],Z9▸q⟩
def bW.rev{H l:Hp}{i es:ZH}{qs:ZN}(f:bW H i qs)(s:ah H l)(e:es.map (·.2)=i.map λp=>(p.2.1,p.2.2.map cw))(n:∀p∈es,l p.1=some (.tup [.str p.2.1,.str (Str.join nl p.2.2)])):bW l es qs:=by
 have of:∀p∈es,∃r∈i,p.2=(r.2.1,r.2.2.map cw):=λp g=>by
  have:p.2∈es.map _:=Xr %[p,g|rfl];rw[e]at this;have%[r,d|e]:=Xq this;exact%[r,d|e.symm]
 have q:=by have:=congrArg List.length e;rwa[Z6,Z6]at this
 have nd:(es.map λp=>p.2.1).Nodup:=by
  have:=congrArg (List.map (·.1)) e;rw[Ys,Ys]at this;rw[show(es.map λp=>p.2.1)=i.map _ from this];exact f.nd
 have mem:∀x,x∈es.flatMap lyr↔x∈i.flatMap lyr:=λx=>by
  rw[d6 (.refl _),d6 (.refl _)]
  constructor
  .rintro⟨p,g,c,j,rfl⟩;have%[r,d|e]:=of p g;rw[e]at j ⊢;exact%[r,d,c,og.mp j|rfl]
  .rintro⟨r,d,c,j,rfl⟩;have:(r.2.1,r.2.2.map cw)∈es.map (·.2):=e▸Xr %[r,d|rfl];have%[p,g|e]:=Xq this;exact%[p,g,c,e▸og.mpr j|by rw[e]]
 refine%[λp g=>?_,nd,q▸f.p1,q▸f.p3,λp g=>?_,?_,λv pl r d=>?_|f.q20]
 .have%[r,d|e]:=of p g;refine%[n p g|?_];rw[e];exact%[(f.ca r d).2.1|zg (f.ca r d).2.2]
 .have%[r,d|e]:=of p g;have%[m,t|u]:=f.few r d;rw[e];exact%[m,t|λa b h=>u a b ((qu (f.ca r d).2.2).mp h)]
 .refine Yh (STab.nodup_sub (iD nd (.refl _)) λx o=>(mem x).mp o) f.ly
 .have h:=(f.sa _ (.refl _)) r d;exact%[s _ _ h.1|h.2.mono λx o=>pl.mem_iff.mpr ((mem x).mpr o)]
def Fq{c:ZH}(h:∀p∈c,bJ p.2.2)(x y:Str):(eE (c.map λp=>(p.2.1,p.2.2.map cw)) x↔eE (c.map (·.2)) x)/\(nC (c.map λp=>(p.2.1,p.2.2.map cw)) x y↔nC (c.map (·.2)) x y):=by
 refine%[%[?_|?_],?_|?_]
 .rintro⟨p,b,u,d,rfl⟩;have%[r,a|rfl]:=Xq b;exact%[r.2,Xr %[r,a|rfl],u,og.mp d|rfl]
 .rintro⟨p,b,u,d,rfl⟩;have%[r,a|rfl]:=Xq b;exact%[_,Xr %[r,a|rfl],u,og.mpr d|rfl]
 .rintro⟨p,b,u,l,m,rfl,rfl⟩;have%[r,a|rfl]:=Xq b;exact%[r.2,Xr %[r,a|rfl],u,l,(qu (h r a)).mp m,rfl|rfl]
 .rintro⟨p,b,u,l,m,rfl,rfl⟩;have%[r,a|rfl]:=Xq b;exact%[_,Xr %[r,a|rfl],u,l,(qu (h r a)).mpr m,rfl|rfl]
def lV{K:ZA}{H b:Hp}{a:Addr}{xs:ZM}(h:SqL K H a xs)(s:ah H b):SqL K b a xs:=h.imp_left λr=>r.imp (s _ _) λ⟨o,e⟩=>%[o|s _ _ e]
def Dv{a:Type}(f:a->V){xs:List a}(h:1<=xs.length)(c:Int):∃x∈xs,atI (xs.map f) (c%(xs.length:Int))=some (f x):=by
 have q1:0<=c%(xs.length:Int):=Int.emod_nonneg _ ⋯;have d:c%(xs.length:Int)<xs.length:=Int.emod_lt_of_pos _ ⋯
 generalize c%(xs.length:Int)=i at q1 d
 have%[k|rfl]:=Xi q1;have b:k<xs.length:=by lia
 exact%[xs[k],Ye b|cO (by rw[Zl,Z4 b];rfl)]
def lW{H:Hp}{x:Addr}(f:H x=none)(o:HO):ah H (upd H x o)/\upd H x o x=some o:=%[ah.upd f|aa]
structure Hld (K:ZA) (H:Hp) (a l1 l2 m1 m2:Addr) (ns:ZL) (c1 c2:ZH) (q1 q2:ZN):Prop where
 hs:SqL K H a (ns.map V.int)
 h1:H l1=some (.lst (bu c1))
 h2:H l2=some (.lst (q1.map λq=>V.ref q.1))
 m1:H m1=some (.lst (bu c2))
 m2:H m2=some (.lst (q2.map λq=>V.ref q.1))
 P1:bW H c1 q1
 P2:bW H c2 q2
 PB:bW H (c1++c2) (q2++q1)
def Hld.up{K:ZA}{H b:Hp}{a c d e m2:Addr}{f:ZL}{g c2:ZH}{q1 i:ZN}(h:Hld K H a c d e m2 f g c2 q1 i)(s:ah H b):Hld K b a c d e m2 f g c2 q1 i:=
 %[lV h.hs s,s _ _ h.h1,s _ _ h.h2,s _ _ h.m1,s _ _ h.m2,h.P1.up s,h.P2.up s|h.PB.up s]
def Dw{c:TT}{t u:TS}{D:kq}{d:L2.St}{H:Hp}(h:∀T U:Hp->Prop,(∀a,t D d a->T a)->(∀a,u D d a->U a)->c d H λb a=>if b=true then T a else U a):nE c t u D d H:=h _ _ (λ_ h=>h) λ_ h=>h
def nR.up1{g l SB:Str->Str->Prop}{c d:ZB}{f h k1 i:List ZB}(s:nR g l SB c d)(j:∀k∈f,bM c k)(m:∀a b,Ed f a b->Ed h a b)(n:aC g f k1)(o:aC SB h i){x y:Str}(r:Rch k1 x y):Rch i x y:=
 jq (λa b=>by
  rw[n.ed,o.ed];rintro⟨x,y,e,p,q⟩;exact%[x,y,m _ _ e,(s.least (fW j e).1).mpr p|(s.least (fW j e).2).mpr q]) r
def bW.ne{H:Hp}{a:ZH}{qs:ZN}(h:bW H a qs){b:ZB}(pl:b.Perm (a.flatMap lyr)):b≠[]:=by
 have%[p|d]:=List.exists_mem_of_length_pos h.p1;have%[r,e,c,f|n]:=(h.ca p d).2.2.some';exact List.ne_nil_of_mem ((d6 pl).mpr %[p,d,c,%[n,r,e|f]|rfl])
def xP.all{H:Hp}{ds:List (Addr×Drn)}{qs:ZN}{xs:ZL}(h:xP H ds qs xs):bW H (dcs ds) qs/\((dcs ds).flatMap lyr).length<=24/\(∀p∈dcs ds,∃k:Int,p.2.1=nmK k)/\(dcs ds).length<=3:=by
 have c:((dcs ds).map λp=>p.2.1).Nodup:=by
  unfold dcs;rw[Ys];exact h.nd
 have dl:(dcs ds).length=ds.length:=by unfold dcs;rw[Z6]
 have sub:∀a:ZB,a.Perm ((dcs ds).flatMap lyr)->∀x,x∈a↔x∈(ds.flatMap λp=>(iq p.2).map (·.1)):=λa pl x=>by rw[d6 pl,sV h.ok]
 have g:((dcs ds).flatMap lyr).length<=24:=Yh (STab.nodup_sub (iD c (.refl _)) λx i=>(sub _ (.refl _) x).mp i) h.ll;have j:=h.d1;have l:=h.d3;have m:=h.ql;refine%[%[h.ca,c,⋯,⋯,λp b=>?_,⋯,λa p q e=>%[(h.sa q e).1|(h.sa q e).2.mono λx=>(sub a p x).mpr]|⋯],g,λp b=>?_|⋯]<;>(unfold dcs at b;have%[d,f|rfl]:=Xq b)
 .exact CY (h.ok d f).2.2.2.2.2
 .exact h.nk d f
def Dx{H I J:Hp}{f v:List (Addr×Drn)}{a:ZH}{L n qs:ZN}{xs:ZL}(A:xP I f L xs)(B:xP J v n xs)(e:a.map (·.2)=(dcs f).map λp=>(qn p.2.1,p.2.2))(o:∀p∈a,H p.1=some (.tup [.str p.2.1,.str (Str.join nl p.2.2)]))(ql:qs.length=n.length)
 (M:∀z:ZB,(∀x∈(v.flatMap λp=>(iq p.2).map (·.1)),∀y,Ren x y->y∈z)->cv H z qs):bW H a qs/\(a.flatMap lyr).length<=24/\(∀p∈a,∃k:Int,p.2.1=nmQ k)/\a.length<=3:=by
 have%[l,q,t|d3]:=A.all;have n:=B.ql;have of:∀p∈a,∃r∈dcs f,p.2=(qn r.2.1,r.2.2):=λp b=>by
  have:p.2∈a.map (·.2):=Xr %[p,b|rfl];rw[e]at this;have%[r,d|e]:=Xq this;exact%[r,d|e.symm]
 have el:a.length=(dcs f).length:=by
  have:=congrArg List.length e;rwa[Z6,Z6]at this
 have i:∀p∈a,∃k:Int,p.2.1=nmQ k:=λp b=>by
  have%[r,d|e]:=of p b;have%[k|g]:=t r d;exact%[k|by rw[e,<-zi,<-g]]
 have nd:(a.map λp=>p.2.1).Nodup:=by
  have:=congrArg (List.map (·.1)) e;rw[Ys,Ys]at this;rw[show(a.map λp=>p.2.1)=(dcs f).map λp=>qn p.2.1 from this,X4,Xa];have h:=nodup_iff_pairwise_ne.mp l.nd;rw[Xa]at h;refine Xh (λ{x y} u N ne C=>?_) h;have%[j|E]:=t x u;have%[k|g]:=t y N;rw[E,g,zi,zi]at C;exact ne (by rw[E,g];exact Fo C)
 have O:(a.flatMap lyr).length<=24:=by
  rw[Du (es:=dcs f)]
  .exact q
  .have:=congrArg (List.map (·.2)) e;rw[Ys,Ys]at this;exact this
 have d1:=l.p1;refine%[%[λp b=>%[o p b|?_],nd,⋯,⋯,λp b=>?_,⋯,λQ pl=>M Q λx u y r=>?_|⋯],O,i|⋯]
 .have%[k|g]:=i p b;have%[r,d|e]:=of p b;exact%[by rw[g];exact HI k|by rw[e];exact(l.ca r d).2.2]
 .have%[r,d|e]:=of p b;rw[e];exact l.few r d
 .have%[p,b,c,T|rfl]:=(sV B.ok).mp u;have%[k,c',_,_,U|rfl]:=r;have%[Y|rfl]:=eV U;have m:p.2∈(dcs f).map (·.2):=by
   rw[zh,A.eq,<-B.eq,<-zh];exact Xr %[p,b|rfl]
  have%[r,d|G]:=Xq m;have:(qn r.2.1,r.2.2)∈a.map (·.2):=by rw[e];exact Xr %[r,d|rfl]
  have%[s,hs|es]:=Xq this;refine(d6 pl).mpr %[s,hs,c,by rw[es,G];exact T|?_];rw[es,G];show bD (nmQ k) c=bD (qn p.2.1) c;rw[Y,zi]
def xP.ren{H:Hp}{ds:List (Addr×Drn)}{qs:ZN}{xs:ZL}(h:xP H ds qs xs):∀x∈(ds.flatMap λp=>(iq p.2).map (·.1)),∃y,Ren x y:=λx b=>by
 have%[p,c|b]:=mem_flatMap.mp b;unfold iq at b;rw[Ys]at b;have%[a,d|rfl]:=Xq b;have%[k|e]:=h.nk p c;have f:=(dS.mp d).1;refine%[bD (nmQ k) (sg a p.2.sh),k,sg a p.2.sh,?_,?_,by rw[<-e];rfl|rfl]<;> unfold sg<;> rw[if_neg ⋯]<;> lia
def HJ{f:Addr}{fd:FuncData}(F:Fun K "law" "law" lG f fd)(T:Txt K mg):eL P w K mg base CX0 12 f fd ["_law_script"] (qt K):=by
 refine F.ok cW (by intro a b c d h;have%[_,_,rfl|_]:=h;rfl) (λgV A outer s H vs Q E l h=>?_)
 .have%[a,ns,rfl,hs,ho,hn|kk]:=h;refine%[_,%["JC~LF~pAF~1A0AEBBbMK1MK2MK3cCG4F~1AI:RAIvF~qA0AEBEB~T0;E~XAEBC~LF]:AQF~pA4BEAQF~pA4BEBbMK5MK6cCG7~P~QA!(A1BA!(A2BBCG8~P~QA!(A5BA!(A6BBCG9~P~QAI:15AI:62BCNdtL~EF~cA7B)yL~EF~cA8B)DHs~EF~cA9B)OCG:IrXYAF~RA7BBXYAF~RA8BBCNdtLqXYAF~RA9BBk:yLqXYAF~2A9BBk:DH&OCG;~C~Z9CG<Uk;IiF~qA0AEBXYAk;BCG=Uk;IiF~qA0AEBXYAk;BCNLqk<k=CG>~P~QAI:15AI:I:62RAgAVAk<Ak=BBBDNdwL~;F~cAk>B)*L_XYAF~RAk>BBk:DH&OOCG?~P~QAja?1PI:15bMS0?2MS1?2cpgA0AF];A1BBAI:62BDH'smXYAF~2Ak?BBk:+s]<F~RAk?BRB",cW.nd,(show bF _ _ _ ["_law_name","_law_text"] []=true from rfl),(show(["_law_name","_law_text"]:ZB).Nodup from !0)|l]|?_]
  show bq _ _ _ [!a,none,none,none,none,none,none,none,none,none,none,none,none,none,none,none] H;refine ap λD1 k1 _=>?_
  lk;refine%[a,ns,43,rfl,hs,⋯,!1,!1|λl0 H0 xs s0 f0 h0 hx hb=>?_];refine%[l0,xs,rfl,SqL.of h0,λH' sm=>SqL.of (sm _ _ h0),hx,hb|λt l1 l2 l3 H1 d1 q1 s1 ht h1 h2 o1=>?_];lk;refine%[_,SqT.of ht,rfl,_,_,rfl,_,_,rfl,_,_,rfl,rfl|k1 _ _ (ap λD2 k2 _=>?_)];have%[P1,eu,co|c3]:=o1.all;have g0:=o1.ql
  generalize dcs d1=c1 at P1 eu co c3 h1
  have cp:=lV hs (s0.trans s1);lk;obtain⟨ms,em,ml⟩:∃ms:ZL,tE (ns.map V.int) (some 2) none=ms.map V.int/\ms.length<=ns.length:=by
   unfold tE;exact%[(ns.drop _).take _,by rw[map_take,map_drop]|by rw[Ym,Yi];lia]
  refine%[a,ns,0,rfl,cp,⋯,_,rfl,%[!1|!1],#[1]|λp fp=>%[_,lV cp (ah.upd fp)|λp1 dy=>%[_,ah.upd dy _ _ aa,_,aa|?_]]];rw[em];refine%[aM (by rw[Z6,Yl];lia)|λp2 ev=>%[p2,_::ms,43,rfl,SqL.of aa,by rw[Zr];lia,!1,!1|λl4 H4 xs s4 f4 h4 hx hb=>k2 _ _ (ap λD3 k3 _=>?_)]];have a7:=(ah.upd fp).trans ((ah.upd dy).trans ((ah.upd ev).trans s4));lk;refine%[l4,xs,rfl,SqL.of h4,λH' sm=>SqL.of (sm _ _ h4),hx,hb|λua a1 a2 a3 H5 dA qA s5 ew ex g3 oA=>%[_,rfl,_,SqT.of ew,_,rfl,l4,xs,rfl,SqL.of (s5 _ _ h4),λH' sm=>SqL.of (sm _ _ (s5 _ _ h4)),hx,hb|λub b1 b2 b3 H6 dB qB s6 ey g4 ez oB=>%[_,rfl,_,SqT.of ey,_,rfl|?_]]];refine%[a1,b2,dcs dA,qB,_,rfl,s6 _ _ ex,λp hp=>%[s6 _ _ (oA.ca p hp).1|oA.all.2.2.1 p hp],oA.all.2.2.2,ez,oB.sa,oB.ql,oB.ren|λur m1 m2 H7 c2 I s7 eC eH eR eN ct eW e0=>%[_,rfl,_,SqT.of eC,rfl,_,_,rfl,_,_,rfl,rfl|k3 _ _ (ap λD4 k4 _=>?_)]];have%[P2,g5,dK|g6]:=Dx oA oB eR eN eW e0;have g7:=oB.ql;have ac:=a7.trans (s5.trans (s6.trans s7));have P1:=P1.up ac;have X:Hld K H7 a l1 l2 m1 m2 ns c1 c2 q1 I:=%[lV cp ac,ac _ _ h1,ac _ _ h2,eH,ct,P1,P2|P1.app P2 (λp hp q hq e=>by have%[j|hj]:=co p hp;have%[k|hk]:=dK q hq;exact Dt j k (hj.symm.trans (e.trans hk))) ⋯ ⋯ ⋯]
  have dj:∀x,eE (c1.map (·.2)) x-> ¬ eE (c2.map (·.2)) x:=by
   intro x %[p,hp,u,_|rfl] %[q,hq,v,_|e];have%[p,e6|rfl]:=Xq hp;have%[q,fa|rfl]:=Xq hq;have%[j|hj]:=co p e6;have%[k|hk]:=dK q fa;exact Dt j k (hj.symm.trans ((eV e).1.trans hk))
  have g8:I.length<=12:=by lia
  lk;refine%[_,.inl (SqL.of X.h1)|λx1 B=>%[_,.inl (SqL.of (ah.upd B _ _ X.h2))|λy1 g=>?_]];have%[t1|gx]:=lW B (.lst (bu c1))
  generalize upd H7 x1 _=H8 at t1 gx g ⊢
  have%[O|gy]:=lW g (.lst (q1.map λq=>V.ref q.1))
  generalize upd H8 y1 _=H9 at O gy ⊢
  have ae:=t1.trans O;refine λg1 dx fg U bn=>lT fg U (O _ _ gx) gy (X.P1.up ae) λfb dT bp t3 M fc fe=>k4 _ _ (ap λD5 k5 _=>?_)
  have X:=X.up (ae.trans t3);have a0:=M.gm fc fe;lk;refine%[_,.inl (SqL.of X.m1)|λx1 B=>%[_,.inl (SqL.of (ah.upd B _ _ X.m2))|λy1 g=>?_]];have%[t1|gx]:=lW B (.lst (bu c2))
  generalize upd fb x1 _=H8 at t1 gx g ⊢
  have%[O|gy]:=lW g (.lst (I.map λq=>V.ref q.1))
  generalize upd H8 y1 _=H9 at O gy ⊢
  have ae:=t1.trans O;refine λg2 dx fg U bn=>lT fg U (O _ _ gx) gy (X.P2.up ae) λff dV bt t3 ag fl fm=>k5 _ _ (ap λD6 k6 _=>?_)
  have dX:=ae.trans t3;have X:=X.up dX;have M:=M.up dX;have a4:=ag.gm fl fm;have rl:∀c:ZH,(bu c).length=c.length:=λc=>by unfold bu;rw[Z6]
  have bb:bu c1++bu c2=bu (c1++c2):=by unfold bu;rw[Zd]
  have bc:(I.map λq=>V.ref q.1) ++(q1.map λq=>V.ref q.1)=(I++q1).map λq=>V.ref q.1:=map_append.symm
  lk;refine%[_,X.h1,_,X.m1,aM (by rw[rl,rl];lia)|λx1 B=>%[_,ah.upd B _ _ X.m2,_,ah.upd B _ _ X.h2,aM (by rw[Z6,Z6];lia)|λy1 g=>?_]];rw[bb]at g ⊢;rw[bc];have%[t1|gx]:=lW B (.lst (bu (c1++c2)))
  generalize upd ff x1 _=H8 at t1 gx g ⊢
  have%[O|gy]:=lW g (.lst ((I++q1).map λq=>V.ref q.1))
  generalize upd H8 y1 _=H9 at O gy ⊢
  have ae:=t1.trans O;refine λgB dx fg U bn=>lT fg U (O _ _ gx) gy (X.PB.up ae) λg9 Y G t3 C bU fn=>k6 _ _ (ap λD7 k7 r7=>?_)
  have cx:=ae.trans t3;have X:=X.up cx;have M:=M.up cx;have ag:=ag.up cx;have ai:=C.gm bU fn;rw[Zd]at ai
  generalize some (V.ref l3)=v3,some (V.ref l4)=v4
  lk;have sd:=a0.side a4 dj;have fq:∀a b,Ed (bp.map (·.2)) a b->Ed (G.map (·.2)) a b:=λa b e=>by
   rw[ai.ed,mO,iE];exact((a0.ed a b).mp e).imp .inl .inr
  have fr:∀a b,Ed (bt.map (·.2)) a b->Ed (G.map (·.2)) a b:=λa b e=>by
   rw[ai.ed,mO,iE];exact((a4.ed a b).mp e).imp .inr .inl
  have tt:∀r:Addr,(!decide (V.ref r=V.non))=true:=λr=>by simp
  refine%[g1,q1,dT,bp,rfl,M|λhc k1 b0 b5=>%[λcy=>?_|λr x rx=>?_]]
  rotate_left
  .rw[if_pos (tt r)];refine%[gB,_,Y,G,rfl,C.up b0|λfu kB a7 cM=>%[λaj=>(aj x (sd.up1 a0.t3 fq b5 cM rx)).elim|λr x rx=>?_]];rw[tt r];exact r7 _ _ (kk _)
  rw[if_neg ∅];refine%[g2,I,dV,bt,rfl,ag.up b0|λfu k2 a7 b6=>%[λc0=>?_|λr x rx=>?_]]
  rotate_left
  .rw[if_pos (tt r)];refine%[gB,_,Y,G,rfl,C.up (b0.trans a7)|λfv kB b7 cM=>%[λaj=>(aj x (sd.swap.up1 a4.t3 fr b6 cM rx)).elim|λr x rx=>?_]];rw[tt r];exact r7 _ _ (kk _)
  rw[if_neg ∅];have ab:=b0.trans a7;have X:=X.up ab;have M:=M.up ab;have ag:=ag.up ab;have C:=C.up ab;have cd:∀lk,aC (aH q1) (bp.map (·.2)) lk->∀x,¬ Rch lk x x:=λlk h=>by rw[h.one b5];exact cy
  have ch:∀lk,aC (aH I) (bt.map (·.2)) lk->∀x,¬ Rch lk x x:=λlk h=>by rw[h.one b6];exact c0
  have aj:∀lk,aC (aH (I++q1)) (G.map (·.2)) lk->∀x,¬ Rch lk x x:=λlk h x r=>((a0.rch a4 ai dj b5 b6 h x x).mp r).elim (cy x) (c0 x)
  refine k7 _ _ (ap λD8 k8 _=>?_);lk;refine%[g1,q1,dT,bp,rfl,M,cd|λu1 fv hd n1 L1 w1 y1 b7 dY i1 p1 d0 e1=>%[_,.inl %[_,SqL.of d0|rfl],g2,I,dV,bt,rfl,ag.up b7,ch|λu2 he hf n2 L2 w2 y2 d2 d3 i2 p2 d4 e2=>%[_,.inl %[_,SqL.of d4|rfl]|k8 _ _ (ap λD9 k9 r9=>?_)]]];have size:∀{kB:List ZB} {nB LB:ZB} {mB:Str->Str},aC (aH (I++q1)) (G.map (·.2)) kB->fJ (aH (I++q1)) Y nB->cE kB nB LB mB nB->(nB.filter λx=>decide (x∉LB)).length=y1.length+y2.length:=λh i p=>by rw[e1,e2];exact a0.size a4 ai dj dY d3 h i1 i2 i p1 p2 p
  have c4:=X.PB.ne bU;have an:=b7.trans d2;have X:=X.up an;have C:=C.up an;clear an b7 d2 M ag a0 a4 sd b5 b6 cy c0 cd ch dY d3 i1 i2 p1 p2 d0 d4 e1 e2 dj;rw[show((y1.length:Int) +(y2.length:Int))=((y1.length+y2.length:Nat):Int) by lia]
  generalize y1.length+y2.length=N at*
  generalize some (V.ref g1)=v7,some (V.ref g2)=v8
  lk;refine%[gB,_,Y,G,rfl,C,aj|λu3 hg kB nB LB wB y3 ac aq iB pB fw e3=>%[_,.inl %[_,SqL.of fw|rfl]|?_]];have cB:=size aq iB pB;have N0:0<N:=by
   have%[x|hx]:=List.exists_mem_of_ne_nil _ (iB.ne c4);have:=ux (E:=Rch kB) (λa b c h k=>h.trans k) iB.nd pB.mat pB.mn (nodup_cons.mpr %[X8|X6]:[x].Nodup) (λy hy=>by rw[Xp hy];exact hx) λa ha b hb r=>aj kB aq x (by rw[Xp ha,Xp hb]at r;exact r)
   rw[<-cB];exact this
  rw[e3.trans cB,if_neg ∅];refine%[gB,_,Y,G,rfl,C.up ac,aj|λu4 fx hh hi hl hu y4 d7 ea fy fL hv fM e4 yn so ya=>%[_,.inl %[_,SqL.of fM|rfl]|?_]];rw[Z6,e4.trans (size ea fy fL),if_neg ∅];have X:=X.up (ac.trans d7);have C:=C.up (ac.trans d7);refine k9 _ _ (ap λhw fU _=>?_);lk;have%[b2,b3,b4|eb]:=C.gr;have%[hz,b1|f1]:=eb.at_;refine%[_,_,f1,rfl,gB,b2,b3,b4,_,Y,G,rfl,eb|λal f2=>fU _ _ (ap λhA f3 _=>?_)];have%[ec|a5]:=lW f2 (.lst (Y.map V.str))
  generalize upd fx al _=c5 at ec a5 ⊢
  have X:=X.up ec;have lp:1<=Y.length:=length_pos_iff.mpr c4;lk;have%[up,f5|eg]:=Dv V.str lp (ns.getD (Int.toNat 3) 0);refine%[a,ns,3,rfl,X.hs,⋯,_,.inl %[_,SqL.of a5|rfl],_,rfl,by rw[Z6];lia,_,SqL.of a5,_,(by rw[Z6];exact eg)|f3 _ _ (ap λhB f7 _=>?_)];lk;have%[lo,f8|eh]:=Dv V.str lp (ns.getD (Int.toNat 4) 0);refine%[a,ns,4,rfl,X.hs,⋯,_,.inl %[_,SqL.of a5|rfl],_,rfl,by rw[Z6];lia,_,SqL.of a5,_,(by rw[Z6];exact eh)|f7 _ _ (ap λga gb hE=>Dw λYT YU hT hU=>?_)];clear eg eh a5 lp c4;lk;have hF:(I++q1).length<=24:=by rw[Z9];lia
  have rest:∀bf ej,ah c5 bf->ga.nx [!a,!l1,!l2,v3,v4,!m1,!m2,v7,v8,!gB,some (.int N),!al,-up,-lo,ej,none] bf:=λbf ej b9=>by
   refine gb _ _ (ap λhG gd _=>?_);have X:=X.up b9
   generalize some (V.str up)=hH,some (V.str lo)=hI,some (V.ref a)=v0,some (V.ref al)=hL
   lk;refine aF λgS hK=>?_
   lk;have cl:(c1++c2).length<=6:=by rw[Z9];lia
   refine%[_,X.h1,_,X.m1,aM (by rw[rl,rl];lia)|λlp ge=>?_];rw[bb];have%[t1|a6]:=lW ge (.lst (bu (c1++c2)))
   generalize upd bf lp _=Ha at t1 a6 ⊢
   have X:=X.up t1;have PB:=X.PB;have h2:=X.h2;have ct:=X.m2;clear X;have ca:=PB.ca;have as:Gm ((c1++c2).map (·.2)) (I++q1) Y (G.map (·.2)):=by rw[Zd];exact ai
   generalize c1++c2=cs at PB a6 cl ca as
   refine .inl %[%[_|SqL.of a6]|hK _ _ λD hD=>?_];refine bh (J:=Itl K lp) (n:=cs.length) (D:=D) (λj ts σ H'=>(∃o1 o2,σ=[o1,o2])/\ah Ha H'/\H' D=some (.lst ts)/\∃es:ZH,ts=bu es/\es.map (·.2)=(cs.take j).map (λp=>(p.2.1,p.2.2.map cw))/\∀p∈es,p.1≠D/\H' p.1=some (.tup [.str p.2.1,.str (Str.join nl p.2.2)]))
    %[%[none,none|rfl],ah.upd hD,aa,[],rfl,rfl|λp hp=>(nomatch hp)]
    (λj _ _ H' hj c7=>%[_,V.ref cs[j].1,SqL.of (c7.2.1 _ _ a6)|by unfold bu;simp[hj]]) (λ_ _ H' c7=>%[_,SqL.of (c7.2.1 _ _ a6)|by unfold bu;simp]) ?_ ?_
   .intro j ts σ H5 hj %[%[o1,o2|rfl],s5,ek,es,ht,hm|hp] x H6 %[e2|hx];subst e2;have da:=hx _ (SqL.of (s5 _ _ a6));unfold bu at da;rw[Zl,Z4 hj]at da;obtain rfl:x=V.ref cs[j].1:=(Za da).symm;have%[gf,_|cut]:=ca cs[j] (Ye hj);refine%[_,SqT.of (s5 _ _ gf),rfl,_,_,rfl,_,_,rfl,rfl|?_];show uT [some (.str cs[j].2.1),some (.str (nl.join cs[j].2.2))] _ _;lk;refine%[cs[j].2.2,rfl,cut|λH7 s7=>%[#[2]|λp fp=>?_]];have s8:=ah.upd (o:= .tup [V.str cs[j].2.1,V.str (nl.join (cs[j].2.2.map cw))]) fp;have dd:=s7.trans s8;have pD:p≠D:=λe=>by rw[e,s7 _ _ ek]at fp;cases fp
    refine CK.mk hj (dd _ _ ek) (by rw[ht,rl];have:=congrArg List.length hm;rw[Z6,Z6,Ym]at this;exact aE ⋯) %[%[_,_|rfl],ah.set (s5.trans dd) hD,aa,es++[(p,cs[j].2.1,cs[j].2.2.map cw)],?_,?_|λq hq=>?_]
    .rw[ht];unfold bu;rw[Zd];rfl
    .rw[Zd,hm,Xb,Z4 hj,Zd];rfl
    .rcases Xo hq with z|z
     .exact%[(hp q z).1|by rw[am (hp q z).1];exact dd _ _ (hp q z).2]
     .rw[Xp z];exact%[pD|by rw[am pD];exact aa]
   .intro ts σ H5 %[_,s5,gg,es,rfl,hm|hp];rw[Zn (Zi _)]at hm;refine%[_,s5 _ _ ct,_,s5 _ _ h2,aM (by rw[Z6,Z6];lia)|λy1 g=>?_];rw[bc];have%[O|bl]:=lW g (.lst ((I++q1).map λq=>V.ref q.1))
    generalize upd H5 y1 _=H6 at O bl ⊢
    refine λgR dx fg U bn=>lT fg U (O _ _ gg) bl (PB.rev (s5.trans O) hm λp q=>O _ _ (hp p q).2) λH7 de bm t3 dk gh gk=>gd _ _ ?_
    have cb:=dk.gm gh gk;rw[hm]at cb;have rc:=Fq λp hp=>(ca p hp).2.2
    have dn:∀a b,Ed (bm.map (·.2)) a b↔Ed (G.map (·.2)) a b:=λa b=>by rw[cb.ed,as.ed,(rc a b).2]
    have el:∀lk,aC (aH (I++q1)) (bm.map (·.2)) lk->∀x,¬ Rch lk x x:=λlk h x r=>aj kB aq x (jq (λa b=>by rw[h.ed,aq.ed];exact λ⟨x,y,d,r⟩=>%[x,y,(dn _ _).mp d|r]) r)
    have cR:∀{lk:List ZB} {n L:ZB} {m:Str->Str},aC (aH (I++q1)) (bm.map (·.2)) lk->fJ (aH (I++q1)) de n->cE lk n L m n->(n.filter λx=>decide (x∉L)).length=N:=λh i p=>by
     rw[<-cB];exact Nat.le_antisymm (as.less cb (λx=>(rc x x).1.symm) (λ_ _=> .rfl) (λa b=>(dn a b).mpr) aq h iB i pB p) (cb.less as (λx=>(rc x x).1) (λ_ _=> .rfl) (λa b=>(dn a b).mp) h aq i iB p pB)
    lk;refine%[gR,_,de,bm,rfl,dk,el|λu4 H8 k8 n8 L8 w8 y8 s8 gl i8 p8 hM gn e8 yn so ya=>%[_,.inl %[_,SqL.of gn|rfl]|?_]];rw[Z6,e8.trans (cR gl i8 p8),if_pos ∅];refine%[gR,_,de,bm,rfl,dk.up s8,el|λu9 H9 k9 n9 L9 w9 y9 s9 go i9 p9 gp e9=>%[Xf _|λp fp=>%[_,rfl,_,ah.upd fp _ _ gp,aa|?_]]];rw[Zf (show y9≠[]from λe=>by rw[e,cR go i9 p9]at e9;exact Zt N0 e9)];exact kk _
  refine bG (λc=>hT _ (ap λhN gq _=>?_)) λ_=>hU _ (rest c5 _ (λ_ _ e=>e))
  lk;have ne:up≠lo:=λe=>by rw[Zf e]at c;cases c
  refine%[_,X.h1,_,X.m1,aM (by rw[rl,rl];lia)|λx1 B=>%[_,ah.upd B _ _ X.m2,_,ah.upd B _ _ X.h2,aM (by rw[Z6,Z6];lia)|λy1 g=>?_]];rw[bb]at g ⊢;rw[bc];have%[t1|en]:=lW B (.lst (bu (c1++c2)))
  generalize upd c5 x1 _=Ha at t1 en g ⊢
  have%[O|bl]:=lW g (.lst ((I++q1).map λq=>V.ref q.1))
  generalize upd Ha y1 _=Hb at O bl ⊢
  refine%[#[3]|λt ft=>?_];have%[t3|gt]:=lW ft (.tup [V.str (!"later"),V.str up,V.str lo])
  generalize upd Hb t _=Hc at t3 gt ⊢
  refine%[#[1]|λz fz=>%[_,ah.upd fz _ _ (t3 _ _ bl),_,aa,aM (by rw[Z6,Yl];lia)|λy2 eo=>?_]];have%[t4|_]:=lW fz (.lst [V.ref t])
  generalize upd Hc z _=Hd at t4 eo ⊢
  rw[show((I++q1).map λq=>V.ref q.1) ++[V.ref t]=((I++q1) ++[(t,[V.str (!"later"),V.str up,V.str lo])]).map λq=>V.ref q.1 by rw[Zd (l₂:=[(t,[V.str (!"later"),V.str up,V.str lo])])];rfl];have%[t5|ep]:=lW eo (.lst (((I++q1) ++[(t,[V.str (!"later"),V.str up,V.str lo])]).map λq=>V.ref q.1))
  generalize upd Hd y2 _=He at t5 ep ⊢
  have eq:=t1.trans (O.trans (t3.trans (t4.trans t5)));have PT:=(X.PB.up eq).put ((t4.trans t5) _ _ gt) (bU.mem_iff.mp f5) (bU.mem_iff.mp f8) ne ⋯;refine λgT dx fg U bn=>lT fg U ((O.trans (t3.trans (t4.trans t5))) _ _ en) ep PT λbf er et t6 dp gr gs=>gq _ _ ?_
  have b9:=eq.trans t6;have dr:=dp.gm gr gs;rw[Zd]at dr;lk;refine%[gT,_,er,et,rfl,dp|λhO kT ds gv=>%[λgw=>?_|λr x rx=>?_]]
  .rw[if_pos ∅];refine%[gT,_,er,et,rfl,dp.up ds,λlk h=>by rw[h.one gv];exact gw|λu5 hP hQ nT LT wT y5 gz gI iT pT gL e5=>%[_,.inl %[_,SqL.of gL|rfl]|?_]];have le:y5.length<=N:=by
    rw[e5,<-cB];refine ai.less dr (λ_=> .rfl) (λa b=>?_) (λa b e=>?_) aq gI iB iT pB pT
    .rw[sZ (d:=[_])];refine%[.inl|λh=>h.resolve_right ?_];rintro⟨q,hq,e⟩;rw[Xp hq]at e;simp only[List.cons.injEq,V.str.injEq]at e;exact absurd e.1 (!0)
    .rw[dr.ed,iE (d:=[_])];exact((ai.ed a b).mp e).imp id .inl
   rw[if_neg (by simp only[decide_eq_true_eq];lia)];exact rest _ _ (b9.trans (ds.trans gz))
  .rw[if_neg ∅];exact rest _ _ (b9.trans ds)
end
abbrev dfm:= @GM
abbrev gvm:= @Ip
def all_mk{l:PySem.W.OpenLaw}{w:World}{K:ZA}{h:Heap}{mg:ZC}{fa af:Addr}(X:K.In h)(G:h.Ns mainGlobals mg)(hfa:mg "law"=some (.ref fa))
 {bc ao:ZI} {bd:ZK} {be ap aq au ag av:Value}
 (F:Txc K mg->Txt K mg)
 (bf:nsIn K mainGlobals "law"=some (some (.ref af))) (bg:K.lookup af=some %[be,bc,.func (fnOf "law" "law" (df lG) (b8 lG) (ar lG) .none ap aq au ao ag av)|bd]) (bh:codeIn K ag "law"=true) (bi:keepIn K (.ref af)=true)
 {aa:Addr}
 (aw:nsIn K mainGlobals "Ground"=some (some (.ref aa)))
 (bj:plainGet K aa Str.empty=true)
 (bk:hasDictIn K aa=true)
 (bl:plainOver K aa=true)
 (bm:findIn K (.ref aa) "__setattr__"=some (some (.builtin "object.__setattr__")))
 (bn:findIn K (.ref aa) "kept_cuts"=some none)
 (bo:findIn K (.ref aa) "kept_sayings"=some none)
 (bp:findIn K (.ref aa) "kept_layers"=some none)
 (bq:findIn K (.ref aa) "kept_ties"=some none)
 {ab:Addr} {br bs:ZI} {bt:ZK} {bu bv bw bx ax bz:Value}
 (b0:findIn K (.ref aa) "__init__"=some (some (.ref ab)))
 (ay:K.lookup ab=some %[bu,br,.func (fnOf "__init__" "Ground.__init__" (df bV) (b8 bV) (ar bV) .none bv bw bx bs ax bz)|bt])
 (az:codeIn K ax "Ground.__init__"=true)
 (a0:keepIn K (.ref ab)=true)
 (b1:isFn K (.ref ab)=true)
 (b2:makesIn K aa=true)
 (b3:keepIn K (.ref aa)=true)
 {ac:Addr} {b4 b5:ZI} {b6:ZK} {b7 b9 ca cb a1 cc:Value}
 (cd:findIn K (.ref aa) "sayings"=some (some (.ref ac)))
 (a2:K.lookup ac=some %[b7,b4,.func (fnOf "sayings" "Ground.sayings" (df ci) (b8 ci) (ar ci) .none b9 ca cb b5 a1 cc)|b6])
 (a3:codeIn K a1 "Ground.sayings"=true)
 (ah:keepIn K (.ref ac)=true)
 (ce:isFn K (.ref ac)=true)
 {ad:Addr} {cf cg:ZI} {ch:ZK} {cj ck cl cm a4 cn:Value}
 (co:findIn K (.ref aa) "layers"=some (some (.ref ad)))
 (a5:K.lookup ad=some %[cj,cf,.func (fnOf "layers" "Ground.layers" (df cA) (b8 cA) (ar cA) .none ck cl cm cg a4 cn)|ch])
 (a6:codeIn K a4 "Ground.layers"=true)
 (ai:keepIn K (.ref ad)=true)
 (cp:isFn K (.ref ad)=true)
 {ae:Addr} {cq cr:ZI} {cs:ZK} {ct cu cv cw a7 cx:Value}
 (cy:findIn K (.ref aa) "ties"=some (some (.ref ae)))
 (a8:K.lookup ae=some %[ct,cq,.func (fnOf "ties" "Ground.ties" (df db) (b8 db) (ar db) .none cu cv cw cr a7 cx)|cs])
 (a9:codeIn K a7 "Ground.ties"=true)
 (aj:keepIn K (.ref ae)=true)
 (cz:isFn K (.ref ae)=true)
 {ba:Addr} {ak:Obj} {al:ZJ} {c0:Nat}
 (c1:nsIn K mainGlobals "YEAR_WORDS"=some (some (.ref ba)))
 (c2:K.lookup ba=some ak)
 (c3:ak.cls= .type "tuple")
 (c4:ak.data= .seq al c0)
 (c5:al.size<=sizeLine)
 (c6:aK [.str "since",.str "by"] al.toList)
 {bb:Addr} {am:Obj} {an:ZJ} {c7:Nat}
 (c8:nsIn K mainGlobals "LAYER_WORDS"=some (some (.ref bb)))
 (c9:K.lookup bb=some am)
 (da:am.cls= .type "tuple")
 (dc:am.data= .seq an c7)
 (dd:an.size<=sizeLine)
 (de:aK [.str "later",.str "same"] an.toList)
 :∃fd:FuncData,(∀(s:Shared) (v:Value),BindsTo s fd %[[v]|[]] [("_law_script",v)])/\∀base:Heap,K.In base->base.Ns mainGlobals mg->eL l.prog w K mg base CX0 12 fa fd ["_law_script"] (qt K):=by
 have e:=hfa.symm.trans (mg_of X G bf);cases e;have dg:=EC (mg_of X G aw);subst dg;have T:Txt K mg:=F %[%[mg_of X G aw,bj,bk,bl|bm],
  bn,
  bo,
  bp,
  bq,
  %[ab,_,%[b2,b0,b1|b3],e7 ay az a0|(e7 ay az a0).binds (by room)],
  %[ac,_,%[cd,ce|ah],e7 a2 a3 ah|(e7 a2 a3 ah).binds (by room)],
  %[ad,_,%[co,cp|ai],e7 a5 a6 ai|(e7 a5 a6 ai).binds (by room)],
  %[ae,_,%[cy,cz|aj],e7 a8 a9 aj|(e7 a8 a9 aj).binds (by room)],
  Cy X G c1 c2 c3 c4 c5 c6|
  Cy X G c8 c9 da dc dd de]
 exact%[fnOf "law" "law" (df lG) (b8 lG) (ar lG) .none ap aq au ao ag av,λs v=> .of_eq rfl|λbase _ _=>HJ (e7 (st:=lG) bg bh bi) T]
def walk{l:PySem.W.OpenLaw}{q:Program}{b:ZB}{j:(Str->Option Value)->Heap->Prop}{e:World->Heap->Prop}{d:DefRec}{K:Params->ZA}(m:l.most=some 63)(c:d.params.defaults=[])
 (o:∀(w:World) (h:Heap),e w h->(K w.params).In h)
 (F:∀(w:World) (mg:ZC) (g:Addr) (h:Heap),(K w.params).In h->h.Ns mainGlobals mg->mg d.name=some (.ref g)->
  ∃i:FuncData,(∀(s:Shared) (u:Value),BindsTo s i %[[u]|[]] [("_law_script",u)])/\∀base:Heap,(K w.params).In base->base.Ns mainGlobals mg->eL l.prog w (K w.params) mg base CX0 12 g i ["_law_script"] (qt (K w.params))):
 PySem.W.WalkO q b j e l.row.toRowW d [] (λf vs=>PySem.call f vs):=
 L2.walk_of (n:=63) (k:=12) (x:="_law_script") (CX:=λ_=>CX0) (sp:=λw=>qt (K w.params)) m (!1) c %[rfl,!1,!1|rfl] o F (λ_ _ a p r t v=>%[a,p,rfl,v,t,r|λ_=>rfl]) λ_ _ _ _ _ z=>z
end K65
end
open PySem PySem.W PyProof.Rows
set_option maxRecDepth 100000 in
theorem PySem.Challenge.cw_digbook_k65_whole_grounds_side_by_side_holds : PySem.Challenge.rw_digbook_k65_whole_grounds_side_by_side.Holds := by
 w_on;o_law;k_head;(case hw=>w_witness2)
 k_fill
 refine K65.walk (l:=PySem.Challenge.rw_digbook_k65_whole_grounds_side_by_side) rfl rfl (λw h Y=>PySem.W.kIn_of Y) ?F
 case F=>
  intro w mg fa h KX G hmg;apply K65.all_mk KX G hmg
  (case F=>
   intro C
   constructor
   exact C
   all_goals first|exact PySem.W.mg_none_of KX G (by k_is)|(refine' K65.gvm KX G ?z ?r;(case z=>k_is);(case r=>exact⟨_,rfl⟩))|(refine' K65.dfm KX G ?a ?l ?c ?k ?b;(case a=>k_is);(case l=>k_is);(case c=>k_is);(case k=>k_is);(case b=>intro _ _ _ _ _ _;(repeat(refine K65.zq1 λ_=>?_));exact K65.zq0 rfl)))
  any_goals first|k_is|rfl|decide|exact .cons ⟨_,rfl⟩ (.cons ⟨_,rfl⟩ (.nil))
