import PyProof.Rows.All
import Wide.All
import OpenK.AllK
import PySem.Challenge.RW_digbook_k74_whole_bounds_or_a_clash
set_option linter.all false
set_option compiler.extract_closed false
local macro_rules|`(#check $s:str)=>do
 let(a,_)<-s.getString.toList.foldlM (init:=(#[],0,0)) λ(a,n,k) c=>do
  let n:=n*90+c.toNat-if c.toNat>92 then 37 else 35
  return if k=9 then(a.push (Lean.mkIdent ("tw"++toString n).toName),0,0)else(a,n,k+1)
 `(structure $(Lean.mkIdent `PySem.W.Fast):ident:Prop where($a*:0=0))
#check "F)$]Q6@OS?7j6't@V7a8%@ox]vEyj`&mBhBt~VGbH5n0Do<<CW6wpw55xlHE1P_+g#QW8iC3Z10e:=S_68PAEV3&;gD_So1*.{a0'_1o-7ws/DB3F}JKCSz}JY|?-h^~7`ASiiJHx-=_J):k:_fQmNI,^<LEWp7p43O~YhJg>Z=2f%:3(g%7F]jIpqTKVQN]`26P:E5XA-nww8SZ^#7gV~2+rWGF7KN%*QQ-Bh'B.t:FmW2W(#T{MNap*..>Q>G(FM&OK`XL%QaRe486l62H3YR{4leOsECM:a@7@bpECvX_Q<x*x%CNHR$xX0<;u,iD7wX@*&SfRvC#.mfUk*Rx,Ti_{'rzRz-;Y'%D78W*H-e/C8;`5tCx^t08u#Fk0~GnEqJn^<Q3f~8hn_5u0v63htk}cnM;*7cH|ea^.)$L%^)xWT@>~xX|qolPA}nIred=:302W/pyc<A6P<#wkjj=W#/n,*L9+&duK#PbpUofUGBneeohb@(gB(,sEj:RZ`<t_4DE:'O&4pLXw69HtQ$_KGNsEjv9R6%]^1wRvx+PLMR5NN<(Cgx3G;WyO((;;|Mx+dVY1'8-^eBN@)-Y|eMxX'NcJ8+q#c3KP:83%vP+q1KW+_$]/}Ekxm;2`&5ZB>_*FI'v(.<W/Z;ndP{go0}jPPx`dk)2DV51~0$By/*bRHaID6xh~=P+9)$KEL/CJHW%uHW|3Y=5V>PvvjR*CBJ{@%%UlXM)Qi_i3Hlp-LkvjFN{#03vhX.D|BV:,,ar:aCn-8AjF)n1@^ixGV$Gef~puJ:C]p?n2q+y>$#j5rMKzY.C,2'LD(*?.tnPF74$T^7I93E>y`Af&^1_wIP$n{3}lGL9hwe~.fZN>tZ]?m+C%kP#cO1THmtWN.,N9qQ;o7afZn&yB<4f&DZNF&*55(Vr-)t1->hW<AM?'G<nfpeOSOqKN>,FF2f8A0+IZa9P.|,}P@F_vI;e51(}Ra*o8<sA-(&0?4&X=w=Bh9>4$TD1#reuCBJbB.<9@+X(BQhk=+5OYx&0OiGw5@q~/.kmHf,TCsouw8=&k4o?'y/@3):u_7EYU6EN8Ck_?.oe6Hbbag]P765=fdA^M$oZN'2-?4DLgI&_MAyRVV)dN})H|M-g/k>X(d,'Me6YFErZVDizOP3(m&cf1Ng<4S.j#d(4j^'/'7iH&}97']CkSJg0es09&OX}-%;fR+-~bvU=ZD1$=Nj'c}~q=eyVMu8)M.4'_bw3$QucFbfYuiR*kZ#fYb'>Lji]<,:*Tk,aTA9-c5*M'OY:@zbYYJuT3UKJ01;r`ta(9G=eP}oZeuDyabV$s67*&}}<|udG;l=|t6,.wNs]LfNqw.`0xxOobVEBCd-;8F}eJB&/;z.t0IRHTT99R$KtCvA_ixIO%935P.lSO*$f#o.{im=;pUgW='M-:<0p,6FB_q=7j0UKIo~'Ottg3Y.4y1?a+(wF:np**@(UZZQ<fB?'U8:Ja/$;Fg|-;=eivTPRI9ZQM6(lIov`o_#7jJC|EiJ^i$vR4Q?#wD)6)%2Y9UKoz7qA-j+uB)~2aHPzgZ7+0k&_+B.]b^/ZJp#k($}+~I*J@_rS,cEb9wI]7LmkUuMHK;aN^f&nK7)jr_<-8Bh/Kyrp8zy|r&3Y:fb6;-XNL-'+-BLm8}Q'UeKU4.*k9K@<-lsx/)Qt#o2<F+T9K^EE;N8:/l1@fX3g)LfIO|B$$Exy)d3pOQaTFx>LAlDrY_0T`|Itti*D`&]AK?;/'Y*@WeD;c(@Nij~vP@w?1^&&##EN3FT*P#IO)`,U@:m<dFB6ZFKK?2:k3uvr|R%xR$(*AbNgE)_}<6lTWGT(%P3PC5T&;}6EOdPK<pe-ll;zb*|,FT%.@lcOD5q9Ek)Bv*p:}o?0;>KIcKwv,@<O7gqPeKXX6H4^*}EpvQJXT6Oh28k0-&MsI.Ji.cPuZU.0MxopId_?9e:t]l?>Ck0j8VqvMn$Cv'8'*rKm3tFs;F:NDL#W<q3FVw8j~s{<4n=S$oL:iM'IF>DBx.dTAt5S/mdBamz5IBOGHC?k'cta@HV-,TX3@5R,fTG/LqKB<P>81=losc/K,X:aqFh$$m./eL)tr2R5???yK]ygL&||_sQw7uL<B,),MsmZ=R7u;]%Zc}.n:nmPG0#eNy0o;6=oox<mnR?qzbSM;n.)O8H/a#M'tsq]40.lFJ2-qPkhJ$<xx4+o{~`eK0bY=e51ukHlgt>laD}VFHc7]<_/$tCbr?NNkEe%J-(;=W5zPd@&{bp%_hr<;^fzJ3WlNt4Jt}.`&9Ub:%{$x7S&p]*kr46]H/Kw*L2h^qK#+n)2KqrX=9|p:Ds6<x,=GY+%I{xq+/O`DI5pu%2Pa0FAk+SjCw#X+Qu*jgiL2d+Y4O%h{/V?LpJ|bNa9;(LlbOIrafe_(>J9:I7GMLN<<i;r0UO#Hq|TKvW-JGFel8N6n{Uv>TOQxxS9bZ2Oz}lRzPf%05XS5r8g8.+oHLH;<yC%&`Q/Y#=e>;@r<WrrLj,BK8rQiwIqS@9]~fB1s-c_FlG;LubNM],57Pvwces^:Q(Lh`{`}TK+gzJAbVB'HuN)kR(%830ynMw)]@7hROoa>DJCamP]I00+DdUt8#k_I@X}KY*#FO~B++V;6gn{`V]}G|9gP';e6eF6F~ksHeg_}&P4mwE^dY>=<e#v:_H)PB>|JypWH5m>I;7Un<RF'^;uIpMnaBMKQi&I%,n^<CE$5J`/#?,$,6>rjHSQWsKpX{Bgk{iY-IkC_.u0oC,VeG-|r@LW9tp'}G_hvb&eNJ:Y48SL@ahp&#-eqNB04}|>*)'m1h/ArI]@<t-g#BeivGY>,e27i9l5G@(=HoOx/Q4a'u1:>3VX}URXYoA=TRBS<H<>CN/Zz~$QXqiBz7JqNo0C<>#zmz*n^1Or~F6(?XehB#hF~g=7P.YW>BN&J7QUpOZarQ/^/D.sI1i7NH-U#M-ezr0/;4(EDDd0*7*%*Pspd6/Rm.U%`vr|)Ve{6w;/}AI(JB9R`CVR"
theorem Z0{c:Sort _}{b:Prop}{a:c}:a=a∨b:=Or.inl rfl
theorem Z1{c:Sort _}{b:Prop}{a:c}:b∨a=a:=Or.inr rfl
def Z2:=@PySem.wpAny_bind
def Z3:=@PySem.wpAny_pure
def Z4:=@List.getElem?_eq_getElem
def Z6:=@List.length_map
def Z7:=@PySem.Heap.get?_push_of_some
def Z8:=@List.mem_of_getElem?
def Z9:=@List.length_append
def Za:=@Option.some.inj
def Zb:=@Array.length_toList
def Zc:=@List.getD_eq_getElem?_getD
def Zd:=@List.map_append
def Ze:=@List.append_assoc
def Zf:=@decide_eq_true
def Zg:=@Nat.lt_of_lt_of_le
def Zh:=@decide_eq_false
def Zi:=@Nat.le_refl
def Zj:=@PySem.Heap.get?_push_size
def Zk:=@List.mem_cons_of_mem
def Zl:=@List.getElem?_map
def Zm:=@List.mem_cons_self
def Zn:=@List.take_of_length_le
def Zo:=@of_decide_eq_true
def Zp:=@List.size_toArray
def Zq:=@PySem.Heap.size_push
def Zr:=@List.length_cons
def Zs:=@Nat.ne_of_lt
def Zt:=@Bool.false_ne_true
def Zu:=@PySem.Heap.lt_size
def Zv:=@Bool.and_eq_true
def Zw:=@List.any_cons
def Zx:=@List.append_nil
def Zy:=@List.drop_eq_getElem_cons
def Zz:=@List.ext_getElem
def Y0:=@Bool.false_eq_true
def Y1:=@List.filterMap_append
def Y2:=@List.filterMap_cons
def Y3:=@List.filter_append
def Y4:=@List.filter_cons
def Y6:=@List.filter_cons_of_neg
def Y7:=@List.filter_cons_of_pos
def Y8:=@List.filter_nil
def Y9:=@List.foldl_cons
def Ya:=@List.getElem?_append_left
def Yb:=@List.getElem?_append_right
def Yc:=@List.getElem?_take_of_lt
def Yd:=@List.getElem_mem
def Ye:=@Nat.le_of_lt
def Yf:=@Nat.le_succ
def Yg:=@Nat.le_trans
def Yh:=@List.length_drop
def Yi:=@List.length_filter_le
def Yj:=@List.length_range
def Yk:=@List.length_singleton
def Yl:=@List.length_take
def Ym:=@List.lookup_cons
def Yn:=@Nat.lt_succ_of_lt
def Yo:=@Nat.lt_succ_self
def Yp:=@List.map_congr_left
def Yq:=@List.map_cons
def Ys:=@List.map_map
def Yt:=@List.mem_append
def Yu:=@List.mem_append_left
def Yv:=@List.mem_append_right
def Yw:=@List.mem_cons
def Yx:=@List.mem_map
def Yy:=@List.mem_of_mem_take
def Yz:=@List.mem_singleton
def X1:=@Nat.ne_of_gt
def X2:=@List.nodup_append
def X3:=@List.nodup_iff_pairwise_ne
def X4:=@List.nodup_nil
def X6:=@Nat.not_lt_zero
def X7:=@List.not_mem_nil
def X8:=@Bool.or_eq_false_iff
def X9:=@List.pairwise_map
def Xa:=@List.range_succ
def Xb:=@Nat.succ_le_succ
def Xc:=@List.take_add_one
def Xd:=@List.take_append_drop
def Xe:=@List.take_append_of_le_length
def Xf:=@List.take_length
def Xg:=@Array.toList_append
def Xh:=@Nat.zero_le
def Xi:=@List.getElem?_of_mem
def Xj:=@List.Pairwise.imp_of_mem
def Xk:=@Int.eq_ofNat_of_zero_le
def Xl:=@Array.size_push
def Xm:=@Nat.lt_irrefl
def Xn:=@List.getElem?_eq_none
theorem Xo{b:Type _}{l:List b}{i:Nat}{a:b}(h:l[i]?=some a):∃h:i<l.length,l[i]=a:=List.getElem?_eq_some_iff.mp h
theorem Xp{b:Type _}{a:b}{s t:List b}(h:a∈s++t):a∈s∨a∈t:=List.mem_append.mp h
theorem Xq{c:Type _}{a b:c}(h:a∈[b]):a=b:=List.mem_singleton.mp h
theorem Xr{c d:Type _}{f:c->d}{l:List c}{b:d}(h:b∈l.map f):∃a,a∈l/\f a=b:=List.mem_map.mp h
theorem Xs{c d:Type _}{f:c->d}{l:List c}{b:d}(h:∃a,a∈l/\f a=b):b∈l.map f:=List.mem_map.mpr h
open Array (forIn_toList getElem?_toList length_toList mem_toList_iff size_append size_map toList_append toList_extract toList_push)
open Bool (and_eq_true false_eq_true or_eq_false_iff or_eq_true)
open List (all_cons all_eq_true all_map any_cons any_eq_true append_nil cons_append countP_cons drop_drop drop_eq_getElem_cons drop_zero ext_getElem ext_getElem? filterMap_append filterMap_cons filter_append filter_cons filter_cons_of_neg filter_cons_of_pos filter_eq_nil_iff filter_nil flatMap_append flatMap_cons foldl_append foldl_cons forIn_cons getD_eq_getElem?_getD getElem?_append_left getElem?_append_right getElem?_drop getElem?_map getElem?_take_of_lt getElem_mem getElem_of_mem length_append length_cons length_drop length_eq_zero_iff length_filterMap_le length_filter_le length_map length_pos_iff length_range length_singleton length_take length_zip lookup_cons map_append map_congr_left map_cons map_id map_map map_nil mem_append mem_append_left mem_append_right mem_cons mem_cons_of_mem mem_cons_self mem_filterMap mem_flatMap mem_map mem_of_mem_take mem_range mem_singleton nil_append nodup_append nodup_cons nodup_iff_pairwise_ne nodup_nil nodup_range not_mem_nil of_mem_zip pairwise_map range_succ replicate_succ size_toArray take_add_one take_append_drop take_append_of_le_length take_length take_of_length_le)
open Nat (add_mod add_sub_cancel add_zero le_add_right le_of_lt le_refl le_succ le_trans le_zero lt_of_lt_of_le lt_succ_of_lt lt_succ_self min_eq_left mod_lt ne_of_gt ne_of_lt not_lt_zero pow_succ sub_self succ_le_succ succ_pos zero_add zero_le)
open Option (getD_none isSome_iff_exists isSome_map map_eq_some_iff)
open PyProof.Rows (boot_abs boot_all boot_int boot_isinstance boot_list boot_set boot_sorted boot_str boot_tuple)
open PySem.F (called_set plainAttrs_dict plainAttrs_list plainAttrs_str slot_dict_get slot_dict_setdefault slot_dict_update slot_dict_values slot_list_extend slot_str_join type_dict_get type_list_extend type_str_join)
open PySem.Heap (ExtBut SameBut get?_push_of_some get?_push_size get?_update_other get?_update_self lt_size)
open PySem.W (KatTups Looks callWith_K cellsFrom_some codeIn emptyDict findIn fnOf handedIn hasDictIn instObj isFn kdl_values keepIn kia_one kitOne kitx_dict kitx_list lookIn makesIn mg_of nsIn plainGet plainGet_of plainOver takerIn)
set_option maxHeartbeats 0
set_option Elab.async false
set_option compiler.extract_closed false
set_option maxRecDepth 100000
section
open PySem
local macro_rules|`(!0)=>`(by decide +kernel)|`(!1)=>`(by decide)|`(!2)=>`(by simp_all)|`(!$s:str)=>`(Str.ofString $s)
local macro_rules|`(↑$h:ident)=>`(by simpa using $h)
local macro_rules|`(tactic|lia)=>`(tactic|first|assumption|exact Nat.le_of_lt ‹_›|exact Nat.le_trans ‹_› (by decide)|exact Nat.lt_of_le_of_lt ‹_› (by decide)|exact Nat.le_trans ‹_› ‹_›|exact Nat.le_add_left _ _|exact Nat.le_antisymm ‹_› (Nat.le_of_not_lt ‹_›)|exact Nat.le_of_not_lt ‹_›|exact Nat.lt_of_le_of_ne ‹_› ‹_›|exact Nat.lt_succ_of_le ‹_›|exact Nat.le_of_eq (Eq.symm ‹_›)|exact Nat.le_add_right _ _|exact Nat.le_of_eq ‹_›|lia -verbose)
local macro_rules|`(⋯)=>`(by lia)|`(∅)=>`(by simp)
local macro_rules|`(⇑$s:ident)=>`(Shared.heap $s|>.objs.size)
local macro_rules|`($x:ident⁻¹)=>`(wpAny (model ($x).prog ($x).w) ($x).A)
local macro_rules|`(%[$x,*|$y])=>`(⟨$x,*,$y⟩)
def zqp:Nat->Lean.Syntax->Lean.Syntax
 |n+1,.node i k a=>if k==`«term%[_|_]»then .node i `Lean.Parser.Tactic.rcasesPat.tuple #[.atom i "⟨",.node i `null (a[1]!.getArgs.push (.atom i ",")|>.push a[3]!|>.map λx=>if x.isAtom then x else .node i `Lean.Parser.Tactic.rcasesPatLo #[.node i `Lean.Parser.Tactic.rcasesPatMed #[.node i `null #[zqp n x]],.node i `null #[]]),.atom i "⟩"]else .node i `Lean.Parser.Tactic.rcasesPat.ignore #[.atom i "_"]
 |_,x=>.node .none `Lean.Parser.Tactic.rcasesPat.one #[x]
local macro_rules|`(tactic|have $p:term:=$h)=>if p.raw.isOfKind `«term%[_|_]»then`(tactic|obtain $(⟨zqp 99 p⟩):rcasesPat:=$h)else Lean.Macro.throwUnsupported
local macro_rules|`(tactic|intro $p*)=>if p.any (·.raw.isOfKind `«term%[_|_]»)then do
  let q:=p.map λx=>(⟨.node .none `Lean.Parser.Tactic.rintroPat.one #[zqp 99 x]⟩:Lean.TSyntax `rintroPat)
  `(tactic|rintro $q*)else Lean.Macro.throwUnsupported
set_option hygiene false in
local macro_rules|`(command|$d:declaration)=>do
 let x:=d.raw[1]
 let b:=x.isOfKind `Lean.Parser.Command.definition
 if x.isOfKind `Lean.Parser.Command.inductive&&x[2][1].isNone&&x[3].isNone then
  let y:=(<-`(inductive q(vs:ZM)(H:Hp)(Q:VK)(E0:XK):Prop)).raw[1][2]
  return d.raw.setArg 1 (x.setArg 2 (y.setArg 0 (Lean.mkNullNode (x[2][0].getArgs++y[0].getArgs))))
 if d.raw[0].getArgs.all (·.isNone)&&(b||x.isOfKind `Lean.Parser.Command.abbrev)then return if b then d.raw.setArg 1 (.node .none `Lean.Parser.Command.theorem #[.atom .none "theorem",x[1],.node .none `Lean.Parser.Command.declSig #[x[2][0],x[2][1][0]],x[3]])else .node .none `Lean.Parser.Command.declaration #[d.raw[0].setArg 4 (Lean.mkNullNode #[.node .none `Lean.Parser.Command.noncomputable #[.atom .none "noncomputable"]]),.node .none `Lean.Parser.Command.definition #[.atom .none "def",x[1],x[2],x[3],Lean.mkNullNode]]
 Lean.Macro.throwUnsupported
set_option hygiene false in
local macro_rules|`(↥$a:ident)=>`(wpAny (model prog w) $a)
set_option hygiene false in
local macro_rules|`(command|#where)=>`(variable{prog:Program}{w:World}{A:Around}{E:ZD}{s:Shared})
nonrec abbrev ZA:=PySem.W.Frag
nonrec abbrev ZB:=List PySem.Str
nonrec abbrev ZC:=PySem.Str->Option PySem.Value
nonrec abbrev ZD:=PySem.Value->PySem.Shared->Prop
nonrec abbrev ZE:=List (PySem.Addr×PySem.Obj)
nonrec abbrev ZF:=List PySem.Value
nonrec abbrev ZG:=List (PySem.Addr×List PySem.Str)
nonrec abbrev ZH:=List (PySem.Addr×PySem.Str×List PySem.Str)
nonrec abbrev ZI:=Option PySem.Addr
nonrec abbrev ZJ:=Array PySem.Value
nonrec abbrev ZK:=Array (Option PySem.Value)
nonrec abbrev ZL:=List Int
set_option genSizeOf false
set_option genInjectivity false
set_option bootstrap.genMatcherCode false
local macro_rules|`(~~~$x)=>`($(x).length)|`($x<*$y)=>`($x=some (.lst $y))|`($x&&&$y)=>`($x=some (.tup $y))
set_option hygiene false in
local macro_rules|`(tactic|exists $t,$c,$a:ident,$j:ident,$p)=>`(tactic|(refine ($t).cal $c (λH vs Q E h=>?_);have $p:term:=h;refine ⟨rfl,λf $a A outer s $j=>?_⟩))
nonrec theorem ρ{α:Sort _}{a:α}:a=a:=rfl
set_option hygiene false in
local macro_rules|`($x\0)=>`($(x).map λt=>V.ref t.1)|`($x\1)=>`($(x).map (·.1))|`($x\2)=>`($(x).map (·.2))|`($x\3)=>`($(x).map V.str)|`($x\4)=>`($(x).map V.int)|`($x∣$y)=>`($x=some $y)
namespace _LL
open PySem PySem.Spec PyProof.Rows
noncomputable abbrev Key:=Sum Int Str
abbrev jF:Key->Value->Bool
 | .inl k,v=>Value.isInt k v
 | .inr x,v=>Value.isStrOf x v
abbrev keyH(w:World):Key->Int
 | .inl k=>hashInt k
 | .inr x=>hashStr w x
def aZ:∀{k:Key} {v:Value},jF k v=true->(∃i t,k=Sum.inl i/\v=Value.int i t)\/(∃x t,k=Sum.inr x/\v=Value.str x t)
 | .inl i,v,h=>by
   have%[t|e]:=Value.isInt_shape h;exact .inl %[i,t,rfl|e]
 | .inr x,v,h=>by
   have%[t|e]:=Value.isStrOf_shape h;exact .inr %[x,t,rfl|e]
def zh(i:Int)(t:Tok):jF (.inl i) (.int i t)=true:=by simp[jF,Value.isInt]
def dG(x:Str)(t:Tok):jF (.inr x) (.str x t)=true:=by simp[jF,Value.isStrOf]
def FF(a b:Int):decide ((Sum.inl a:Key)=Sum.inl b)=(a==b):=by
 by_cases e:a=b
 .subst e;simp
 simp_all
def FG(a b:Str):decide ((Sum.inr a:Key)=Sum.inr b)=decide (a=b):=by
 simp
abbrev aM(prog:Program)(w:World):PySem.KeyKind prog w Key where
 is:=jF
 hash:=keyH w
 inj:=λv a b ha hb=>by
  rcases aZ ha with⟨i,t,rfl,rfl⟩|⟨x,t,rfl,rfl⟩
  .rcases aZ hb with⟨j,u,rfl,e⟩|⟨y,u,rfl,e⟩
   .injection e with e1 _;rw[e1]
   .exact nomatch e
  .rcases aZ hb with⟨j,u,rfl,e⟩|⟨y,u,rfl,e⟩
   .exact nomatch e
   .injection e with e1 _;rw[e1]
 byValue:=λk v h=>by
  rcases aZ h with⟨i,t,rfl,rfl⟩|⟨x,t,rfl,rfl⟩<;> rfl
 pyHash:=λhv h=>by
  rcases aZ hv with⟨i,t,rfl,rfl⟩|⟨x,t,rfl,rfl⟩
  .exact wpAny_pyHash_int h
  .exact wpAny_pyHash_str h
 eqBool:=λhu hv h=>by
  rcases aZ hu with⟨i,t,rfl,rfl⟩|⟨x,t,rfl,rfl⟩
  .rcases aZ hv with⟨j,u,rfl,rfl⟩|⟨y,u,rfl,rfl⟩
   .rw[FF]at h;exact wpAny_eqBool_int h
   .exact SeqAt.EqAt.int_str i t y u _ _ _ _ h
  .rcases aZ hv with⟨j,u,rfl,rfl⟩|⟨y,u,rfl,rfl⟩
   .exact SeqAt.EqAt.str_int x t j u _ _ _ _ h
   .rw[FG]at h;exact wpAny_eqBool_str h
 «strs»:=λk x t v h=>by
  rcases aZ h with⟨i,u,rfl,e⟩|⟨y,u,rfl,e⟩
  .exact nomatch e
  .injection e with e1 _
   subst e1;cases v<;> rfl
def uy(prog:Program)(w:World)(i:Int)(t:Tok):(aM prog w).is (.inl i) (.int i t)=true:=zh i t
def mw(prog:Program)(w:World)(x:Str)(t:Tok):(aM prog w).is (.inr x) (.str x t)=true:=dG x t
set_option genInjectivity true in
inductive V where
 | non|bl (b:Bool)|int (i:Int)|str (x:Str)|byt (b:Array UInt8)|flt (b:UInt64)|ref (a:Addr)|ty (n:String)
 deriving DecidableEq
abbrev aV:V->Value->Prop
 | .non,u=>u=Value.none
 | .bl b,u=>u=Value.bool b
 | .int i,u=>∃t,u=Value.int i t
 | .str x,u=>∃t,u=Value.str x t
 | .byt b,u=>∃t,u=Value.bytes b t
 | .flt b,u=>∃t,u=Value.float b t
 | .ref a,u=>u=Value.ref a
 | .ty n,u=>u=Value.type n
nonrec abbrev aN:List V->ZF->Prop:=Paired aV
def aN.length{xs:List V}{us:ZF}(r:aN xs us): ~~~xs= ~~~us:=Paired.length r
def aN.get:∀{xs:List V} {us:ZF} {i:Nat} {x:V},aN xs us->xs[i]?∣x->∃u,us[i]?∣u/\aV x u
 | _,_,_,_,.nil,e=>by simp at e
 | _,_,0,_,.cons r _,e=>by simp at e;subst e;exact%[_,ρ|r]
 | _,_,i+1,x,.cons _ t,e=>by
   have%[u,a|b]:=aN.get t (e);exact%[u,a|b]
def aN.append:∀{xs ys:List V} {us ws:ZF},aN xs us->aN ys ws->aN (xs++ys) (us++ws)
 | _,_,_,_,.nil,s=>s
 | _,_,_,_,.cons r t,s=> .cons r (aN.append t s)
def aN.take:∀{xs:List V} {us:ZF} n,aN xs us->aN (xs.take n) (us.take n)
 | _,_,0,_=> .nil
 | _,_,_+1,.nil=> .nil
 | _,_,n+1,.cons r t=> .cons r (aN.take n t)
def aN.drop:∀{xs:List V} {us:ZF} n,aN xs us->aN (xs.drop n) (us.drop n)
 | _,_,0,r=>r
 | _,_,_+1,.nil=> .nil
 | _,_,n+1,.cons _ t=>aN.drop n t
abbrev gE:Option V->Option Value->Prop
 | some v,some u=>aV v u
 | none,none=>True
 | _,_=>False
abbrev KV{a:Type}:List (a×V)->List (a×Value)->Prop:=Paired λp q=>p.1=q.1/\aV p.2 q.2
abbrev kV:Key->V
 | .inl i=> .int i
 | .inr x=> .str x
set_option genInjectivity true in
inductive HO where
 | lst (xs:List V)
 | tup (xs:List V)
 | dK (kvs:List (Key×V))|dT (kvs:List (List Key×V))
 | set (S:Int->Bool) (n:Nat)
 | ins (C dx:Addr) (fs:List (Str×V))
 | own (x:Addr)
 | xd (fs:List (Str×V))
 | met (f x:Addr)
 | rng (lo hi:Int)
 | frz (o:Obj) (u:HO)
 | tbl (ps:ZJ)
 | ext (φ:Heap->Prop)
noncomputable abbrev Hp:=Addr->Option HO
abbrev upd(H:Hp)(a:Addr)(o:HO):Hp:=λb=>if b=a then some o else H b
def aa:upd H a o a∣o:=by unfold upd;rw[if_pos rfl]
def ao{H:Hp}{a b:Addr}{o:HO}(h:b≠a):upd H a o b=H b:=by unfold upd;rw[if_neg h]
def Dj:upd (upd H a o) a u=upd H a u:=by
 funext b;unfold upd;split<;> rfl
def Hx{H:Hp}(h:H a∣o)(h':H b∣u)(d:o≠u):a≠b:=by
 intro e;subst e;rw[h]at h';exact d (Za h')
def aw{H:Hp}{a b:Addr}{o:HO}(h:H a∣o)(h':H b=none):a≠b:=by
 lia
section
variable(P:Program)(w:World)
abbrev ck(H:Hp)(h:Heap)(a:Addr):HO->Prop
 | .lst xs=> ~~~xs<=sizeLine/\∃(its:ZF) (n:Nat),aN xs its/\h.get? a=some {cls:= .type "list",data:= .seq its.toArray n}
 | .tup xs=> ~~~xs<=sizeLine/\∃its:ZF,aN xs its/\IsTup h a its.toArray
 | .dK b=> ~~~b<=sizeLine/\(a==sysModules)=false/\∃vs,KV b vs/\h.DictOf (aM P w) a vs
 | .dT b=> ~~~b<=sizeLine/\(a==sysModules)=false/\∃xs:List (List Key×Addr×Value),
  Paired (λ(p:List Key×V) (q:List Key×Addr×Value)=>p.1=q.1/\H q.2.1&&&p.1.map kV/\aV p.2 q.2.2) b xs/\
  ∃o es j,h.get? a∣o/\o.ExactDict/\o.data= .dict es j/\es.toList=xs.map (entryOfKey (tupleKind (aM P w)))/\(xs\1).Nodup
 | .set S n=>h.SetOf (intKind P w) a S n
 | .ins C d fs=>H d∣.own a/\ ~~~fs<=1000/\d≠a/\h.get? a∣instObj C d/\
  ∃c,h.Ns1 d c/\(∀f,gE (fs.lookup f) (c f))/\PySem.Within c (fs\1)
 | .own _=>∃o,h.get? a∣o
 | .xd fs=>∃c,h.Ns1 a c/\∀f,gE (fs.lookup f) (c f)
 | .rng lo hi=>∃t u v,h.get? a=some {cls:= .type "range",data:= .fields #[.int lo t,.int hi u,.int 1 v]}
 | .frz o u=>h.get? a∣o/\ck H h a u
 | .tbl ps=>h.get? a=some {cls:= .none,data:= .fields ps}
 | .met f x=>h.get? a∣PySem.W.methodObj (.ref f) (.ref x)
 | .ext e=>e h/\(∃o,h.get? a∣o)/\∀g i,e g->(∀o,g.get? a∣o->i.get? a∣o)->e i
abbrev HOk(H:Hp)(h:Heap):Prop:=∀a o,H a∣o->ck P w H h a o
end
section
variable{P:Program}{w:World}{H H':Hp}{h h':Heap}{a:Addr}{o:HO}
def ck.lt(x:ck P w H h a o):a<h.objs.size:=by
 cases o with
 | lst xs=>have%[_,_,_,_|e]:=x;exact Zu e
 | tup xs=>have%[_,_,_|p]:=x;exact p.lt
 | dK b=>have%[_,_,_,_,o,_,_,e|_]:=x;exact Zu e
 | dT b=>have%[_,_,_,_,o,_,_,e|_]:=x;exact Zu e
 | set S n=>have%[o,_,_,_,e|_]:=x;exact Zu e
 | ins C c fs=>have%[_,_,_,e|_]:=x;exact Zu e
 | own y=>have%[_|e]:=x;exact Zu e
 | xd fs=>have%[_,%[_,_,_,e|_]|_]:=x;exact Zu e
 | rng lo hi=>have%[_,_,_|e]:=x;exact Zu e
 | frz d u=>have%[e|_]:=x;exact Zu e
 | tbl ps=>exact Zu (x)
 | met f y=>exact Zu (x)
 | ext g=>have%[_,%[_|e]|_]:=x;exact Zu e
def Paired.mapP{F G:c->d->Prop}:∀{l₁:List c} {l₂:List d},Paired F l₁ l₂->(∀a b,F a b->G a b)->Paired G l₁ l₂
 | _,_,.nil,_=> .nil
 | _,_,.cons r t,f=> .cons (f _ _ r) (Paired.mapP t f)
def ck.stay(x:ck P w H h a o)(k:∀b u,(b=a\/H b∣.own a)->h.get? b∣u->h'.get? b∣u)
 (s:∀b,H b∣.own a->H' b∣.own a) (A:∀b xs,H b&&&xs->H' b&&&xs):ck P w H' h' a o:=by
 induction o with
 | lst xs=>have%[z,its,n,r|e]:=x;exact%[z,its,n,r|k _ _ (.inl rfl) e]
 | tup xs=>have%[z,its,r,g,e|c]:=x;exact%[z,its,r,g,k _ _ (.inl rfl) e|c]
 | dK j=>have%[z,y,vs,r,g,es,i,e|c]:=x;exact%[z,y,vs,r,g,es,i,k _ _ (.inl rfl) e|c]
 | dT j=>
   have%[z,y,xs,r,g,es,i,e|c]:=x;exact%[z,y,xs,Paired.mapP r λp q z=>%[z.1,A _ _ z.2.1|z.2.2],g,es,i,k _ _ (.inl rfl) e|c]
 | set S n=>have%[g,es,i,t,e|c]:=x;exact%[g,es,i,t,k _ _ (.inl rfl) e|c]
 | ins C I fs=>
   have%[d,z,B,e,l,%[m,es,i,E|c]|r]:=x;exact%[s _ d,z,B,k _ _ (.inl rfl) e,l,%[m,es,i,k _ _ (.inr d) E|c]|r]
 | own y=>have%[g|e]:=x;exact%[g|k _ _ (.inl rfl) e]
 | xd fs=>have%[l,%[m,es,i,e|c]|r]:=x;exact%[l,%[m,es,i,k _ _ (.inl rfl) e|c]|r]
 | rng lo hi=>have%[t,u,v|e]:=x;exact%[t,u,v|k _ _ (.inl rfl) e]
 | frz g u G=>have%[e|q]:=x;exact%[k _ _ (.inl rfl) e|G q]
 | tbl ps=>
   exact k a _ (.inl rfl) x
 | met f y=>
   exact k a _ (.inl rfl) x
 | ext J=>have%[p,%[o|e]|st]:=x;exact%[st _ _ p λo q=>k _ _ (.inl rfl) q,%[o|k _ _ (.inl rfl) e]|st]
def HOk.lt(x:HOk P w H h)(e:H a∣o):a<h.objs.size:=(x a o e).lt
def HOk.fresh(x:HOk P w H h)(e:h.objs.size<=a):H a=none:=by
 cases q:H a with
 | none=>rfl
 | some u=>exact absurd (Zg (x.lt q) e) (Xm _)
def HOk.kept(x:HOk P w H h)(k:∀b u,h.get? b∣u->h'.get? b∣u):HOk P w H h':=λa o e=>
 (x a o e).stay (λb u _ q=>k b u q) (λ_ q=>q) λ_ _ q=>q
def HOk.laid(x:HOk P w H h)(k:∀b u,h.get? b∣u->h'.get? b∣u)(g:h.objs.size<=a)(new:ck P w (upd H a o) h' a o):HOk P w (upd H a o) h':=λb u e=>by
 have d:=x.fresh g;by_cases f:b=a
 .subst f;rw[aa]at e;grind
 .rw[ao f]at e;exact(x b u e).stay (λc v _ q=>k c v q) (λc q=>(ao (aw q d))▸q) λc xs q=>(ao (aw q d))▸q
end
abbrev Rd(H:Hp)(a:Addr)(u:HO):Prop:=H a∣u\/∃o,H a∣.frz o u
def Rd.ok{P:Program}{w:World}{H:Hp}{h:Heap}{a:Addr}{u:HO}(r:Rd H a u)(x:HOk P w H h):ck P w H h a u:=by
 rcases r with r|⟨o,r⟩
 .exact x a u r
 .have%[_|q]:=x a _ r;exact q
abbrev Mut:Option HO->Prop
 | some (.lst _)=>True
 | some (.dK _)=>True
 | some (.dT _)=>True
 | some (.set _ _)=>True
 | some (.ins _ _ _)=>True
 | some (.ext _)=>True
 | _=>False
section
variable{P:Program}{w:World}{H:Hp}{h h':Heap}{x e:Addr}{o':HO}
def HOk.write(ok:HOk P w H h)(g:Mut (H x))(m:e=x\/H e∣.own x)(k:∀b u,b≠e->h.get? b∣u->h'.get? b∣u)(i:∃u,h'.get? e∣u)
 (new:ck P w (upd H x o') h' x o'):HOk P w (upd H x o') h':=λb u q=>by
 have d:∀c y,H c∣.own y->c≠x:=λc y r z=>by subst z;rw[r]at g;exact g
 have f:∀c xs,H c&&&xs->c≠x:=λc xs r z=>by subst z;rw[r]at g;exact g
 by_cases j:b=x
 .subst j;rw[aa]at q;grind
 .rw[ao j]at q;by_cases a:b=e
  .have l:H b∣.own x:=by
    rcases m with z|z
    .exact absurd (a.trans z) j
    .exact a▸z
   rw[q]at l;cases l;have%[v|n]:=i;exact%[v|a▸n]
  .refine(ok b u q).stay (λc v o r=>k c v ?_ r) (λc r=>(ao (d c b r))▸r) λc xs r=>(ao (f c xs r))▸r
   grind
end
structure Un (fs ex:List Addr) (H H':Hp) (h h':Heap):Prop where
 keep:∀b o,h.get? b∣o->H b=none->b∉fs->b∉ex->h'.get? b∣o
 slot:∀b o,h.get? b∣o->H b=none->b∈fs->b∉ex->∃sl,h'.get? b=some {o with slots:=sl}
 free:∀b o,h.get? b∣o->H b=none->b∉ex->H' b=none
 there:∀b o,h.get? b∣o->b∉ex->∃o',h'.get? b∣o'
 tups:∀b xs,H b&&&xs->H' b&&&xs
 frzs:∀b o u,H b∣.frz o u->H' b∣.frz o u
 tbls:∀b ps,H b∣.tbl ps->∃more,H' b∣.tbl (ps++more)
section
variable{fs fs' ex ex':List Addr}{H H1 H2:Hp}{h h1 h2 h':Heap}{a x e:Addr}{o:HO}
def Un.any(u:Un fs ex H H1 h h1)(q:h.get? b∣c)(n:H b=none)(d:b∉ex):∃g,h1.get? b=some {c with slots:=g}:=by
 by_cases f:b∈fs
 .exact u.slot b c q n f d
 .exact%[c.slots|u.keep b c q n f d]
def Un.trans(a:Un fs ex H H1 h h1)(b:Un fs ex H1 H2 h1 h2):Un fs ex H H2 h h2 where
 keep:=λc ob q n hc hx=>b.keep c ob (a.keep c ob q n hc hx) (a.free c ob q n hx) hc hx
 slot:=λc ob q n hc hx=>by
  have%[sl|e1]:=a.slot c ob q n hc hx;have%[sl'|e2]:=b.slot c _ e1 (a.free c ob q n hx) hc hx;exact%[sl'|e2]
 free:=λc ob q n hx=>by
  have%[o'|e1]:=a.there c ob q hx;exact b.free c o' e1 (a.free c ob q n hx) hx
 there:=λc ob q hx=>by
  have%[o'|e1]:=a.there c ob q hx;exact b.there c o' e1 hx
 tups:=λc xs q=>b.tups c xs (a.tups c xs q)
 frzs:=λc ob xs q=>b.frzs c ob xs (a.frzs c ob xs q)
 tbls:=λc ps q=>by
  have%[m1|e1]:=a.tbls c ps q;have%[m2|e2]:=b.tbls c _ e1;exact%[m1++m2|by rw[e2,Array.append_assoc]]
def Un.kept(k:∀b u,h.get? b∣u->h'.get? b∣u):Un fs ex H H h h':=
 %[λb c q _ _ _=>k b c q,λb c q _ _ _=>%[c.slots|k b c q],λ_ _ _ n _=>n,λb c q _=>%[c|k b c q],λ_ _ q=>q,λ_ _ _ q=>q|λ_ ps q=>%[#[]|by rw[q];simp]]
def Un.refl:Un fs ex H H h h:=Un.kept λ_ _ q=>q
def Un.laid(k:∀b u,h.get? b∣u->h'.get? b∣u)(hp:h.objs.size<=a)(hn:H a=none):Un fs ex H (upd H a o) h h' where
 keep:=λb u q _ _ _=>k b u q
 slot:=λb u q _ _ _=>%[u.slots|k b u q]
 free:=λb u q n _=>(ao (Zs (Zg (Zu q) hp)))▸n
 there:=λb u q _=>%[u|k b u q]
 tups:=λb xs q=>(ao (aw q hn))▸q
 frzs:=λb u xs q=>(ao (aw q hn))▸q
 tbls:=λb ps q=>%[#[]|by rw[ao (aw q hn),q];simp]
def Un.write(f:Mut (H x))(l:e=x\/H e∣.own x)(k:∀b u,b≠e->h.get? b∣u->h'.get? b∣u)(i:∃u,h'.get? e∣u):Un fs ex H (upd H x o) h h':=by
 have j:∀b,H b=none->b≠x:=λb n z=>by subst z;rw[n]at f;exact f
 have g:∀b,H b=none->b≠e:=λb n z=>by
  simp_all
 have c:∀b u,H b∣u-> ¬ Mut (some u)->b≠x:=λb u q nm z=>!2
 refine%[λb u q n _ _=>k b u (g b n) q,λb u q n _ _=>%[u.slots|k b u (g b n) q],λb u q n _=>(ao (j b n))▸n,λb u q _=>?_,
  λb xs q=>(ao (c b _ q λz=>z))▸q,λb u xs q=>(ao (c b _ q λz=>z))▸q|λb ps q=>%[#[]|by rw[ao (c b _ q λz=>z),q];simp]]
 by_cases d:b=e
 .simp_all
 .exact%[u|k b u d q]
end
abbrev trk(h:Heap)(H:Hp):List Addr:=(List.range h.objs.size).filter λa=>(H a).isSome
abbrev zi(h:Heap)(H:Hp):Heap:=PySem.W.hideAll h (trk h H)
def zj(h:Heap)(H:Hp):(zi h H).objs.size=h.objs.size:=PySem.W.hideAll_size _ _
def AR(e:h.get? b∣o)(n:H b=none):(zi h H).get? b∣o:=
 PySem.W.hideAll_get _ e λa=>by
  have q:=(List.mem_filter.mp a).2;rw[n]at q;simp at q
def Dk(e:(zi h H).get? b∣o):h.get? b∣o/\H b=none:=by
 have a:=PySem.W.of_hideAll _ e;refine%[a|?_];cases q:H b with
 | none=>rfl
 | some x=>
   have z:(zi h H).get? b=none:=PySem.W.hideAll_none _ (List.mem_filter.mpr %[mem_range.mpr (Zu a)|by simp[q]])
   grind
abbrev Dl(g h:Heap)(L:Addr):ZE:=(List.range h.objs.size).filterMap λa=>if a=L\/(g.get? a).isSome=true then none else(h.get? a).map λo=>(a,o)
abbrev rest(g h:Heap)(L d:Addr):ZE:=(Dl g h L).filter λp=>decide (p.1≠d)
structure Mod (K:ZA) (mg:ZC) (base:Heap):Prop where
 kin:K.In base
 glob:base.Ns mainGlobals mg
 blt:∃mb,base.Ns builtinsNs mb/\∀x:Str,x≠"__name__"->mb x=bootBuiltins x
 nolimit:base.NoLimit
structure Cx where
 prog:Program
 w:World
 K:ZA
 mg:Str->Option Value
 base:Heap
 A:Around
 N:ZB
 s₀:Shared
 H₀:Hp
 env:Env
 outer:List Env
 stack:List Env
 ex:List Addr
 fn:Str->Bool
 calm:Bool
 pn:ZE
 xe:Value->Shared->Prop
abbrev frs(l:List Env):List Addr:=l.filterMap (·.frame)
noncomputable abbrev Cx.fs(X:Cx):List Addr:=frs X.outer
abbrev Vis(a:Scope)(x:Str):Prop:=a.names.lookup x∣.local\/a.names.lookup x∣.cell\/a.names.lookup x∣.free
abbrev Loc(a:Scope)(x:Str):Prop:=a.names.lookup x∣.local\/a.names.lookup x∣.cell
abbrev Look(env:Env)(h:Heap)(m:ZC)(x:Str)(u:Value):Prop:=
 (env.kindOf x∣.local/\m x∣u)\/((env.kindOf x∣.cell\/env.kindOf x∣.free)/\∃c,env.cells.lookup x∣c/\h.IsCell c (some u))
structure Cx.Ok (X:Cx):Prop where
 mod:Mod X.K X.mg X.base
 kind:X.env.scope.kind= .function
 glob:X.env.globals=mainGlobals
 blt:X.env.builtins=builtinsNs
 above:X.s₀.heap.objs.size<=X.env.locals
 inj:∀x y c,X.env.cells.lookup x∣c->X.env.cells.lookup y∣c->x=y
 has:∀x,(X.env.kindOf x∣.cell\/X.env.kindOf x∣.free)->∃c,X.env.cells.lookup x∣c
 cab:∀x c,X.fn x=true->X.env.cells.lookup x∣c->X.s₀.heap.objs.size<=c
 hd:X.calm=true->X.A.handled=none
 frames:X.A.frames∣X.stack
 stk:X.stack=X.outer\/(X.stack=X.env::X.outer/\X.env.frame∣X.env.locals)
 exf:∀b∈X.ex,b≠X.env.locals/\∀x c,X.env.cells.lookup x∣c->c≠b
 bs:∀b o,X.base.get? b∣o->X.s₀.heap.get? b∣o/\X.H₀ b=none
 bsz:X.base.objs.size<=X.s₀.heap.objs.size
 noex:∀b o,X.base.get? b∣o->b∉X.ex
 exfs:∀b∈X.ex,b∉X.fs
 funs:X.s₀.heap.FunFrames X.base X.outer
 frf:∀b∈X.fs,X.H₀ b=none
structure Inv (X:Cx) (pins:List _) (σ:List _) (H:Hp) (s:Shared):Prop where
 ok:X.Ok
 os:s.os=X.s₀.os
 bare:AllBare s.gens
 base:Un X.fs X.ex X.H₀ H X.s₀.heap s.heap
 loc:∃m,s.heap.Ns X.env.locals m/\∀(i:Nat) x v,X.N[i]?∣x->σ[i]?∣some v->Vis X.env.scope x->∃u,aV v u/\Look X.env s.heap m x u
 cell:∀x c,X.env.cells.lookup x∣c->∃v,s.heap.IsCell c v
 free:H X.env.locals=none
 freeC:∀x c,X.env.cells.lookup x∣c->H c=none
 pin:∀p∈X.pn++pins,s.heap.get? p.1∣p.2/\H p.1=none/\p.1≠X.env.locals/\p.1∉X.fs/\∀v,p.2.data≠ .cell v
 hok:HOk X.prog X.w H s.heap
 len:σ.length= ~~~X.N
section
variable{X:Cx}{pins:ZE}{σ:List (Option V)}{H H':Hp}{s:Shared}{h':Heap}
def Cx.Ok.nofr(ok:X.Ok)(e:X.base.get? b∣o):b∉X.fs:=λa=>by
 have:=(ok.funs.mem a).1
 grind
def Inv.bs(I:Inv X pins σ H s):∀b o,X.base.get? b∣o->s.heap.get? b∣o/\H b=none:=λb o e=>
 %[I.base.keep b o (I.ok.bs b o e).1 (I.ok.bs b o e).2 (I.ok.nofr e) (I.ok.noex b o e)|I.base.free b o (I.ok.bs b o e).1 (I.ok.bs b o e).2 (I.ok.noex b o e)]
def Inv.bk(I:Inv X pins σ H s):∀b o,X.base.get? b∣o->s.heap.get? b∣o:=λb o e=>(I.bs b o e).1
def Inv.mod(I:Inv X pins σ H s):Mod X.K X.mg X.base:=I.ok.mod
def Inv.kIn(I:Inv X pins σ H s):X.K.In s.heap:=I.ok.mod.kin.keeps I.bk
def Inv.lt(I:Inv X pins σ H s):X.env.locals<⇑s:=let⟨_,a,_⟩:=I.loc;a.lt
def Inv.sz(I:Inv X pins σ H s):X.s₀.heap.objs.size<=⇑s:=Yg I.ok.above (Ye I.lt)
def Inv.nofs(I:Inv X pins σ H s)(h:⇑s<=a):a∉X.fs:=λb=>by
 have%[_,o,c|_]:=I.ok.funs.mem b;exact absurd (Zg (Zu c) (Yg I.sz h)) (Xm _)
def Inv.cne(I:Inv X pins σ H s):∀x c,X.env.cells.lookup x∣c->c≠X.env.locals:=λx c e z=>by
 have%[v,o,d|f]:=I.cell x c e;have%[m,%[g,es,h,a,b|_]|_]:=I.loc
 grind
def Inv.funs(I:Inv X pins σ H s):s.heap.FunFrames X.base X.outer:=by
 have all:∀l,(∀b∈frs l,b∈X.fs)->X.s₀.heap.FunFrames X.base l->s.heap.FunFrames X.base l:=by
  intro l
  induction l with
  | nil=>intro _ _;trivial
  | cons env r g=>
    intro f h;have%[i,%[L,o,a,j,m|n]|p]:=h;have c:=f L (by unfold frs;rw[Y2,a];exact Zm);have%[q|e]:=I.base.slot L o m (I.ok.frf L c) c λz=>I.ok.exfs L z c
    exact%[i,%[L,_,a,j,e|n]|g (λb d=>f b (by unfold frs;rw[Y2,a];exact Zk _ d)) p]
 exact all X.outer (λ_ d=>d) I.ok.funs
def Inv.stack(I:Inv X pins σ H s):s.heap.FunFrames X.base X.stack:=by
 rcases I.ok.stk with e|⟨e,a⟩
 .exact e▸I.funs
 .rw[e];have%[m,b|_]:=I.loc;exact .cons (by rw[I.ok.kind];decide) a b (Heap.get?_none_of_le (Yg I.ok.bsz I.ok.above)) I.funs
def Inv.stkSub(I:Inv X pins σ H s):∀b∈frs X.stack,b∈X.env.locals::X.fs:=λb a=>by
 rcases I.ok.stk with e|⟨e,c⟩
 .rw[e]at a;exact Zk _ a
 .rw[e]at a;unfold frs at a;rw[Y2,c]at a;exact a
def Inv.stkFree(I:Inv X pins σ H s):∀b∈frs X.stack,H b=none:=λb a=>by
 rcases mem_cons.mp (I.stkSub b a)with e|a
 .exact e▸I.free
 .have%[_,o,c|_]:=I.ok.funs.mem a;exact I.base.free b o c (I.ok.frf b a) λz=>I.ok.exfs b z a
def Inv.step{d':Drawn}{ch:List Addr}(I:Inv X pins σ H s)
 (f:∀b∈ch,(b∈X.ex\/X.s₀.heap.objs.size<=b)/\b≠X.env.locals/\(∀x c,X.env.cells.lookup x∣c->c≠b)/\∀p∈X.pn++pins,p.1≠b)
 (keep:∀b o,b≠X.env.locals->b∉X.fs->b∉ch->s.heap.get? b∣o->H b=none->h'.get? b∣o)
 (slot:∀b o,b≠X.env.locals->b∈X.fs->b∉ch->s.heap.get? b∣o->H b=none->∃G,h'.get? b=some {o with slots:=G}) (free:∀b o,b∉ch->s.heap.get? b∣o->H b=none->H' b=none)
 (there:∀b o,b∉ch->s.heap.get? b∣o->∃B,h'.get? b∣B)
 (tups:∀b xs,H b&&&xs->H' b&&&xs) (frzs:∀b o u,H b∣.frz o u->H' b∣.frz o u) (tbls:∀b ps,H b∣.tbl ps->∃more,H' b∣.tbl (ps++more))
 (U:∀m,s.heap.Ns X.env.locals m->h'.Ns X.env.locals m) (J:HOk X.prog X.w H' h') (Y:AllBare g'):
 Inv X pins σ H' {s with heap:=h',gens:=g',drawn:=d',toks:=t'}:=by
 have C:∀b o,X.s₀.heap.get? b∣o->b≠X.env.locals:=λb o e=>Zs (Zg (Zu e) I.ok.above)
 have j:∀b o,X.s₀.heap.get? b∣o->b∉X.ex->b∉ch:=λb o e a y=>by
  rcases(f b y).1 with z|z
  .exact a z
  .exact absurd (Zg (Zu e) z) (Xm _)
 have g:∀x c,X.env.cells.lookup x∣c->∀v,s.heap.IsCell c v->h'.IsCell c v:=λx c e v ⟨o,A,L⟩=>by
  have h:=λz=>(f c z).2.2.1 x c e rfl
  by_cases N:c∈X.fs
  .have%[G|q]:=slot c o (I.cne x c e) N h A (I.freeC x c e);exact%[_,q|L]
  .exact%[o,keep c o (I.cne x c e) N h A (I.freeC x c e)|L]
 refine%[I.ok,I.os,Y,%[λb o e n y a=>?_,λb o e n y a=>?_,λb o e n a=>?_,λb o e a=>?_,λb xs e=>tups b xs (I.base.tups b xs e),λb o xs e=>frzs b o xs (I.base.frzs b o xs e)|λb ps e=>?_],?_,λx c e=>?_,?_,λx c e=>?_,λp O=>?_,J|I.len]
 .exact keep b o (C b o e) y (j b o e a) (I.base.keep b o e n y a) (I.base.free b o e n a)
 .have%[G|w]:=I.base.slot b o e n y a;have%[M|E]:=slot b _ (C b o e) y (j b o e a) w (I.base.free b o e n a);exact%[M|E]
 .have%[B|w]:=I.base.there b o e a;exact free b B (j b o e a) w (I.base.free b o e n a)
 .have%[B|w]:=I.base.there b o e a;exact there b B (j b o e a) w
 .have%[m1|w]:=I.base.tbls b ps e;have%[m2|E]:=tbls b _ w;exact%[m1++m2|by rw[E,Array.append_assoc]]
 .have%[m,hn|hl]:=I.loc;refine%[m,U m hn|λi x v w E e3=>?_];have%[u,r|l]:=hl i x v w E e3;refine%[u,r|?_];rcases l with l|⟨k,c,e,z⟩
  .exact .inl l
  .exact .inr %[k,c,e|g x c e _ z]
 .have%[v|z]:=I.cell x c e;exact%[v|g x c e v z]
 .have%[m,%[o,_,_,A|_]|_]:=I.loc;exact free _ o (λz=>(f _ z).2.1 rfl) A I.free
 .have%[v,o,A|L]:=I.cell x c e;exact free c o (λz=>(f c z).2.2.1 x c e rfl) A (I.freeC x c e)
 .have%[e,n,Q,T|d]:=I.pin p O;have h:=λz=>(f p.1 z).2.2.2 p O rfl
  exact%[keep p.1 p.2 Q T h e n,free p.1 p.2 h e n,Q,T|d]
def Inv.un{t':Nat}(I:Inv X pins σ H s)(u:Un X.fs [] H H' s.heap h')(c:HOk X.prog X.w H' h'):Inv X pins σ H' {s with heap:=h',toks:=t'}:=by
 have%[m,%[o,es,p,h|r]|_]:=id I.loc;have%[q|i]:=u.any h I.free ∅;exact I.step (ch:=[]) (λ_ z=>nomatch z) (λb o _ d _ e n=>u.keep b o e n d ∅) (λb o _ d _ e n=>u.slot b o e n d ∅) (λb o _ e n=>u.free b o e n ∅) (λb o _ e=>u.there b o e ∅) u.tups u.frzs u.tbls (λv j=>by
  have%[w,f,g,a|l]:=j;rw[h]at a;cases a;exact%[_,f,g,i|l]) c I.bare
def Inv.call{d':Drawn}{ch:List Addr}(I:Inv X pins σ H s)(u:Un (frs X.stack) ch H H' s.heap h')(g:HOk X.prog X.w H' h')(q:AllBare g')
 (d:∀b∈ch,(b∈X.ex\/X.s₀.heap.objs.size<=b)/\b≠X.env.locals/\(∀x c,X.env.cells.lookup x∣c->c≠b)/\∀p∈X.pn++pins,p.1≠b):
 Inv X pins σ H' {s with heap:=h',gens:=g',drawn:=d',toks:=t'}:=by
 have%[m,%[o,es,A,l|r]|_]:=id I.loc;have%[B|h]:=u.any l I.free λz=>(d _ z).2.1 rfl
 exact I.step d (λb o h v a e n=>u.keep b o e n (λz=>(mem_cons.mp (I.stkSub b z)).elim h v) a) (λb o _ _ a e n=>u.any e n a) (λb o a e n=>u.free b o e n a) (λb o a e=>u.there b o e a) u.tups u.frzs u.tbls (λC w=>by
  have%[E,i,j,f|y]:=w;rw[l]at f;cases f;exact%[_,i,j,h|y]) g q
def Inv.turned{a:Addr}(I:Inv X pins σ H s)(k:∀b o,b≠a->s.heap.get? b∣o->h'.get? b∣o)(B:H a=none)(g:a≠X.env.locals)
 (h:a∈X.ex\/X.s₀.heap.objs.size<=a) (i:∀x c,X.env.cells.lookup x∣c->c≠a) (j:∀p∈X.pn++pins,p.1≠a):Inv X pins σ H {s with heap:=h',toks:=t'}:=by
 have f:∀b u,H b∣u->b≠a:=λb u e z=>by lia
 refine I.step (ch:=[a]) (λb l=>?_) (λb o _ _ d e _=>k b o (λz=>d (by simp[z])) e) (λb o _ _ d e _=>%[o.slots|k b o (λz=>d (by simp[z])) e]) (λ_ _ _ _ n=>n)
  (λb o d e=>%[o|k b o (λz=>d (by simp[z])) e]) (λ_ _ e=>e) (λ_ _ _ e=>e) (λb ps e=>%[#[]|by rw[e];simp]) (λm w=>?_) (λb u e=>?_) I.bare
 .have e:=↑l
  subst e;exact%[h,g,i|j]
 .have%[o,es,y,A|r]:=w;exact%[o,es,y,k _ o (Ne.symm g) A|r]
 .refine(I.hok b u e).stay (λc v d q=>k c v ?_ q) (λ_ q=>q) λ_ _ q=>q
  rcases d with z|z
  .exact z▸f b u e
  .exact f c _ z
def Inv.tok(I:Inv X pins σ H s)(t:Nat):Inv X pins σ H {s with toks:=t}:=I.un Un.refl I.hok
def Inv.kept(I:Inv X pins σ H s)(k:∀b u,s.heap.get? b∣u->h'.get? b∣u):Inv X pins σ H {s with heap:=h',toks:=t'}:=I.un (Un.kept k) (I.hok.kept k)
def Inv.laid{a:Addr}{o:HO}{t':Nat}(I:Inv X pins σ H s)(k:∀b u,s.heap.get? b∣u->h'.get? b∣u)(c:⇑s<=a)(new:ck X.prog X.w (upd H a o) h' a o):
 Inv X pins σ (upd H a o) {s with heap:=h',toks:=t'}:=I.un (Un.laid k c (I.hok.fresh c)) (I.hok.laid k c new)
def Inv.write(I:Inv X pins σ H s)(c:Mut (H x))(d:e=x\/H e∣.own x)(k:∀b u,b≠e->s.heap.get? b∣u->h'.get? b∣u)(a:∃u,h'.get? e∣u)
 (new:ck X.prog X.w (upd H x o) h' x o):Inv X pins σ (upd H x o) {s with heap:=h',toks:=t'}:=I.un (Un.write c d k a) (I.hok.write c d k a new)
def Inv.pins_of(I:Inv X pins σ H s)(h:∀p∈a,s.heap.get? p.1∣p.2/\H p.1=none/\p.1≠X.env.locals/\p.1∉X.fs/\∀v,p.2.data≠ .cell v):Inv X a σ H s:=
 %[I.ok,I.os,I.bare,I.base,I.loc,I.cell,I.free,I.freeC,λp b=>(Xp b).elim (λz=>I.pin p (Yu _ z)) (h p),I.hok|I.len]
def iL{N:ZB}(c:N.Nodup){i j:Nat}{x:Str}(a:N[i]?∣x)(b:N[j]?∣x):i=j:=by
 have%[f|d]:=Xo a;have%[g|e]:=Xo b;exact(List.getElem_inj c).mp (d.trans e.symm)
def zk{A:Around}{E:ZD}{i:Nat}{x:Str}{v:V}{u:Value}{Q:Unit->Shared->Prop}(I:Inv X pins σ H s)(hN:X.N.Nodup)(hi:X.N[i]?∣x)(B:Loc X.env.scope x)(r:aV v u)
 (h:∀s',Inv X pins (σ.set i (some v)) H s'->(∃a,SameBut a s.heap s'.heap/\(a=X.env.locals\/X.env.cells.lookup x∣a))->Q () s') (hf:X.fn x=true\/X.env.scope.names.lookup x∣.local):wpAny M A (storeName X.env x u) Q E s:=by
 have%[m,hn|hl]:=id I.loc;have J:i<σ.length:=I.len▸(Xo hi).1;have cne:=I.cne;have g:∀{a:Addr} {h':Heap},(∃o,s.heap.get? a∣o/\H a=none)->SameBut a s.heap h'->HOk X.prog X.w H h':=λ{a h'} ha f b ob e=>by
  have%[_,_|C]:=ha;refine(I.hok b ob e).stay (λc w' w q=>(f.2 c ?_).trans q) (λ_ q=>q) λ_ _ q=>q
  rintro rfl;rcases w with rfl|w
  .rw[C]at e;cases e
  .rw[C]at w;cases w
 rcases B with L|L
 .refine wpAny_storeName_local L hn (λh' ae f=>?_) (by rw[I.ok.kind];rfl);have%[oL,_,_,ag|_]:=id hn;refine h _ %[I.ok,I.os,I.bare,%[λb o e n N B=>?_,λb o e n N B=>?_,I.base.free,λb o e B=>?_,I.base.tups,I.base.frzs|I.base.tbls],%[_,ae|λj y v' l G e3=>?_],λy c e=>?_,I.free,I.freeC,λp hp=>?_,g %[oL,ag|I.free] f|by simpa using I.len] %[_,f|.inl rfl]
  .exact(f.2 b (Zs (Zg (Zu e) I.ok.above))).trans (I.base.keep b o e n N B)
  .have%[sl|l]:=I.base.slot b o e n N B;exact%[sl|(f.2 b (Zs (Zg (Zu e) I.ok.above))).trans l]
  .have%[o'|l]:=I.base.there b o e B;exact%[o'|(f.2 b (Zs (Zg (Zu e) I.ok.above))).trans l]
  .by_cases O:j=i
   .subst O;rw[hi]at l;cases l;rw[List.getElem?_set_self J]at G;cases G;exact%[u,r|.inl %[L|by simp]]
   .rw[List.getElem?_set_ne (Ne.symm O)]at G;have%[u',r'|q]:=hl j y v' l G e3;refine%[u',r'|?_];rcases q with⟨k,e⟩|⟨k,c,e,z⟩
    .refine .inl %[k|?_];have:y≠x:=λe=>O (iL hN l (e▸hi))
     simp[this,e]
    .exact .inr %[k,c,e|z.sameBut f (cne y c e)]
  .have%[w'|z]:=I.cell y c e;exact%[w'|z.sameBut f (cne y c e)]
  .have%[e,n,ne,nf|d]:=I.pin p hp;exact%[(f.2 p.1 ne).trans e,n,ne,nf|d]
 .have T:X.fn x=true:=by
   rcases hf with z|z
   .exact z
   .rw[z]at L;cases L
  have%[c|w]:=I.ok.has x (.inl L);have%[w'|z]:=I.cell x c w;refine wpAny_storeName_cell I.ok.kind L w z (λh' U f=>?_);have%[oc,Y|ab]:=id z;refine h _ %[I.ok,I.os,I.bare,%[λb o e n N B=>?_,λb o e n N B=>?_,I.base.free,λb o e B=>?_,I.base.tups,I.base.frzs|I.base.tbls],%[m,hn.sameBut f (Ne.symm (cne x c w))|λj y v' l G e3=>?_],λy c' e=>?_,I.free,I.freeC,λp hp=>?_,g %[oc,Y|I.freeC x c w] f|by simpa using I.len] %[c,f|.inr w]
  .exact(f.2 b (Zs (Zg (Zu e) (I.ok.cab x c T w)))).trans (I.base.keep b o e n N B)
  .have%[sl|l]:=I.base.slot b o e n N B;exact%[sl|(f.2 b (Zs (Zg (Zu e) (I.ok.cab x c T w)))).trans l]
  .have%[o'|l]:=I.base.there b o e B;exact%[o'|(f.2 b (Zs (Zg (Zu e) (I.ok.cab x c T w)))).trans l]
  .by_cases O:j=i
   .subst O;rw[hi]at l;cases l;rw[List.getElem?_set_self J]at G;cases G;exact%[u,r|.inr %[.inl L,c,w|U]]
   .rw[List.getElem?_set_ne (Ne.symm O)]at G;have%[u',r'|q]:=hl j y v' l G e3;refine%[u',r'|?_];rcases q with q|⟨k,c',e,z'⟩
    .exact .inl q
    .refine .inr %[k,c',e|z'.sameBut f ?_];rintro rfl;exact O (iL hN l (I.ok.inj _ _ _ e w▸hi))
  .by_cases ac:c'=c
   .subst ac;exact%[_|U]
   .have%[w2|z2]:=I.cell y c' e;exact%[w2|z2.sameBut f ac]
  .have%[e,n,ne,nf|d]:=I.pin p hp;refine%[(f.2 p.1 ?_).trans e,n,ne,nf|d];intro q;rw[q,Y]at e;exact d w' ((Za e)▸ab)
def nJ(I:Inv X pins σ H s)(a:X.N.Nodup)(hi:X.N[i]?∣x)(b:Loc X.env.scope x)(r:aV v u)
 (h:∀s',Inv X pins (σ.set i (some v)) H s'->Q () s') (c:X.fn x=true\/X.env.scope.names.lookup x∣.local):wpAny M A (storeName X.env x u) Q E s:=
 zk I a hi b r (λs' d _=>h s' d) c
def Inv.call'(I:Inv X pins σ H s)(e:s'.os=s.os)(u:Un (frs X.stack) ch H H' s.heap s'.heap)(a:HOk X.prog X.w H' s'.heap)(f:AllBare s'.gens)
 (d:∀b∈ch,(b∈X.ex\/X.s₀.heap.objs.size<=b)/\b≠X.env.locals/\(∀x c,X.env.cells.lookup x∣c->c≠b)/\∀p∈X.pn++pins,p.1≠b):Inv X pins σ H' s':=by
 have%[h',g',d',t'|g]:=s';subst e;exact I.call u a f d
end
noncomputable abbrev XK:=Value->ZI->Hp->Prop
noncomputable abbrev St:=List (Option V)
noncomputable abbrev VK:=V->Hp->Prop
noncomputable abbrev TE:=St->Hp->VK->Prop
noncomputable abbrev TT:=St->Hp->(Bool->Hp->Prop)->Prop
noncomputable abbrev TA:=St->Hp->(List V->Hp->Prop)->Prop
structure lL where
 nx:St->Hp->Prop
 rt:VK
 bk:St->Hp->Prop:=λ_ _=>False
 ct:St->Hp->Prop:=λ_ _=>False
noncomputable abbrev TS:=lL->St->Hp->Prop
abbrev EP(X:Cx)(pins:ZE)(b:St)(Q:VK)(u:Value)(s':Shared):Prop:=∃v a,Inv X pins b a s'/\aV v u/\Q v a
abbrev TP(X:Cx)(pins:ZE)(c:St)(Q:Bool->Hp->Prop)(b:Bool)(s':Shared):Prop:=∃a,Inv X pins c a s'/\Q b a
abbrev AP(X:Cx)(pins:ZE)(b:St)(Q:List V->Hp->Prop)(us:ZF)(s':Shared):Prop:=∃vs a,Inv X pins b a s'/\aN vs us/\Q vs a
abbrev SP(X:Cx)(pins:ZE)(D:lL)(f:Flow)(s':Shared):Prop:=
 match f with
 | .next=>∃a b,Inv X pins a b s'/\D.nx a b
 | .brk=>∃a b,Inv X pins a b s'/\D.bk a b
 | .cont=>∃a b,Inv X pins a b s'/\D.ct a b
 | .ret u=>∃v a b,Inv X pins a b s'/\aV v u/\D.rt v b
abbrev PE(X:Cx)(e:Expr)(t:TE):Prop:=
 ∀pins s (a:St) H Q,Inv X pins a H s->t a H Q->(X⁻¹) (eval e X.env) (EP X pins a Q) X.xe s
abbrev PT(X:Cx)(e:Expr)(t:TT):Prop:=
 ∀pins s (a:St) H Q,Inv X pins a H s->t a H Q->(X⁻¹) (isTrue e X.env (eval e X.env)) (TP X pins a Q) X.xe s
abbrev PW(X:Cx)(e:Expr)(t:TT):Prop:=
 ∀a pins s (b:St) H Q,Inv X pins b H s->t b H Q->(X⁻¹) (isTrue e X.env a) (TP X pins b Q) X.xe s
def PW.pt{X:Cx}(h:PW X e t):PT X e t:=h _
abbrev PA(X:Cx)(es:List Expr)(t:TA):Prop:=
 ∀pos pins s (a:St) H Q,Inv X pins a H s->t a H Q->(X⁻¹) (spliced (backTo pos (starEach es X.env))) (AP X pins a Q) X.xe s
abbrev PS(X:Cx)(st:Stmt)(t:TS):Prop:=
 ∀pins s (a:St) H D,Inv X pins a H s->t D a H->(X⁻¹) (exec st X.env) (SP X pins D) X.xe s
abbrev PSs(X:Cx)(st:List Stmt)(t:TS):Prop:=
 ∀pins s (a:St) H D,Inv X pins a H s->t D a H->(X⁻¹) (execs st X.env) (SP X pins D) X.xe s
def thn{b:Type}{t:Sem b}{Q c:b->Shared->Prop}{M:Model}{A:Around}{E:ZD}{s:Shared}(h:wpAny M A t Q E s)(d:∀a s,Q a s->c a s):wpAny M A t c E s:=wpAny_mono h d λ_ _ x=>x
def thP{c d:Type}{t:Sem c}{X:Cx}{pins:ZE}{e:St}{R:d->c->Prop}{Q:d->Hp->Prop}{f:c->Shared->Prop}{M:Model}{A:Around}{E:ZD}{s:Shared}(h:wpAny M A t (λa s=>∃v b,Inv X pins e b s/\R v a/\Q v b) E s)(g:∀a s v b,Inv X pins e b s->R v a->Q v b->f a s):wpAny M A t f E s:=wpAny_mono h (λa s ⟨v,b,i,r,q⟩=>g a s v b i r q) λ_ _ x=>x
def thT{c:Type}{t:Sem c}{X:Cx}{pins:ZE}{d:St}{Q:c->Hp->Prop}{e:c->Shared->Prop}{M:Model}{A:Around}{E:ZD}{s:Shared}(h:wpAny M A t (λa s=>∃b,Inv X pins d b s/\Q a b) E s)(f:∀a s b,Inv X pins d b s->Q a b->e a s):wpAny M A t e E s:=wpAny_mono h (λa s ⟨b,i,q⟩=>f a s b i q) λ_ _ x=>x
section
variable{X:Cx}
abbrev asI(x:V)(f:Int->Prop):Prop:=match x with| .int i=>f i|_=>False
abbrev asB(x:V)(f:Bool->Prop):Prop:=match x with| .bl i=>f i|_=>False
abbrev asR(x:V)(f:Addr->Prop):Prop:=match x with| .ref i=>f i|_=>False
def Hy:asI (.int i) f=f i:=rfl
def Hz:asB (.bl i) f=f i:=rfl
def HA:asR (.ref i) f=f i:=rfl
def iM{x:V}{f:Int->Prop}(h:asI x f):∃i,x= .int i/\f i:=by
 cases x<;> first|exact⟨_,rfl,h⟩|exact h.elim
def qC{x:V}{f:Bool->Prop}(h:asB x f):∃i,x= .bl i/\f i:=by
 cases x<;> first|exact⟨_,rfl,h⟩|exact h.elim
def ef{x:V}{f:Addr->Prop}(h:asR x f):∃i,x= .ref i/\f i:=by
 cases x<;> first|exact⟨_,rfl,h⟩|exact h.elim
def HB:asI x f=∃i,x= .int i/\f i:=propext %[iM|λ⟨_,e,q⟩=>by subst e;exact q]
def HC:asB x f=∃i,x= .bl i/\f i:=propext %[qC|λ⟨_,e,q⟩=>by subst e;exact q]
def HD:asR x f=∃i,x= .ref i/\f i:=propext %[ef|λ⟨_,e,q⟩=>by subst e;exact q]
abbrev pZ:Nat->TE
 | 0,some v::_,H,Q=>Q v H
 | i+1,_::a,H,Q=>pZ i a H Q
 | _,_,_,_=>False
def FH:pZ 0 (some v::a) H Q=Q v H:=rfl
def FI:pZ (i+1) (o::a) H Q=pZ i a H Q:=rfl
def AS:∀{i:Nat} {a:St},pZ i a H Q->∃v,a[i]?∣some v/\Q v H
 | 0,some v::_,h=>%[v,rfl|h]
 | 0,none::_,h=>h.elim
 | 0,[],h=>h.elim
 | _+1,[],h=>h.elim
 | i+1,_::a,h=>AS (i:=i) h
abbrev tC(v:V):TE:=λ_ H Q=>Q v H
def AU(n:X.N[i]?∣x)(o:Vis X.env.scope x)(f:(x==("__debug__":Str))=false)(g:(x==("__classdict__":Str))=false):PE X (.Name x pos) (pZ i):=by
 intro pins s p H Q I h;have%[v,e|h]:=AS h;have%[m,q|w]:=I.loc;have%[u,r|l]:=w i x v n e o;have b:EP X pins p Q u s:=%[v,H,I,r|h]
 rcases l with⟨d,y⟩|⟨d,c,j,a⟩
 .exact wpAny_Name (wpAny_loadName_local I.ok.kind d q y b) f
 .rcases d with d|d
  .exact wpAny_Name (wpAny_loadName_cell I.ok.kind d j a b) f
  .exact wpAny_Name (wpAny_loadName_free I.ok.kind d j a b g) f
def FJ{i j pos}:PE X (.Constant (.int i) j pos) (tC (.int i)):=λ_ _ _ H _ I h=>wpAny_Constant_int %[.int i,H,I.tok _,%[_|rfl]|h]
def HE{b j pos}:PE X (.Constant (.bool b) j pos) (tC (.bl b)):=λ_ _ _ H _ I h=>Constant_bool %[.bl b,H,I,rfl|h]
def FK{j pos}:PE X (.Constant .none j pos) (tC .non):=λ_ _ _ H _ I h=>Constant_none %[.non,H,I,rfl|h]
def FL{x j pos}:PE X (.Constant (.str x) j pos) (tC (.str x)):=λ_ _ _ H _ I h=>Calls.Constant_str %[.str x,H,I.tok _,%[_|rfl]|h]
abbrev Gl(X:Cx)(x:Str):Prop:=X.env.kindOf x∣.globalImplicit
def sK(I:Inv X pins d H s)(a:Gl X x)(b:X.mg x∣u)(h:Q u s)
 (c:(x==("__debug__":Str))=false):(X⁻¹) (eval (.Name x pos) X.env) Q E s:=
 Calls.Name_function_global I.ok.kind a (Calls.loadGlobal_global (I.ok.glob▸I.mod.glob.keeps I.bk) b h) c
def fZ(I:Inv X pins i H s)(a:Gl X x)(b:X.mg x=none)(c:bootBuiltins x∣u)(h:Q u s)
 (d:x≠"__name__":=by decide) (e:(x==("__debug__":Str))=false:=by decide):(X⁻¹) (eval (.Name x pos) X.env) Q E s:=by
 have%[j,f|g]:=I.mod.blt;exact Calls.Name_function_global I.ok.kind a (Calls.loadGlobal_builtin (I.ok.glob▸I.mod.glob.keeps I.bk) b (I.ok.blt▸f.keeps I.bk) ((g x d).trans c) h) e
def Dm(a:Gl X x)(b:X.mg x∣u)(r:aV v u)(c:(x==("__debug__":Str))=false):PE X (.Name x pos) (tC v):=
 λ_ _ _ H _ I h=>sK I a b %[v,H,I,r|h] c
def Do(a:Gl X x)(b:X.mg x=none)(c:bootBuiltins x∣u)(r:aV v u)(d:x≠"__name__")(e:(x==("__debug__":Str))=false):PE X (.Name x pos) (tC v):=
 λ_ _ _ H _ I h=>fZ I a b c %[v,H,I,r|h] d e
variable{a b:Expr}{ta tb:TE}{pos:Pos}
abbrev PC(X:Cx)(op:CmpOp)(a b:Expr)(t:TE):Prop:=
 ∀pins s (e:St) H Q,Inv X pins e H s->t e H Q->
  (X⁻¹) (eval a X.env) (λv c=>(X⁻¹) (eval b X.env) (λu d=>(X⁻¹) (compareOp op v u) (EP X pins e Q) X.xe d) X.xe c) X.xe s
def HF(b:Expr)(h:op≠ .In)(e:op≠ .NotIn):behindInMarks op b=false:=by
 have c:(op==CmpOp.In)=false:=by lia
 have d:(op==CmpOp.NotIn)=false:=by lia
 cases b<;> simp[behindInMarks,c,d]
abbrev tB(t:TE):TT:=λd H Q=>t d H λx e=>asB x λc=>Q c e
def FM(h:PC X op a b t)(c:behindInMarks op b=false):PE X (.Compare a [op] [b] pos) t:=λpins s d H Q I hw=>wpAny_Compare1 (h pins s d H Q I hw) c
def AV{op:CmpOp}(h:PC X op a b t)(e:behindInMarks op b=false):PT X (.Compare a [op] [b] pos) (tB t):=by
 intro pins s f H Q I hw;refine wpAny_isTrue_Compare1 (thn (h pins s f H _ I hw) λv n e=>thn e λu o g=>thn g λc p ⟨x,i,j,l,m⟩=>?_) e;have%[d,rfl|q]:=qC m;cases l;exact wpAny_truthy_bool %[i,j|q]
variable{tA tB':TT}{rest:List Expr}
abbrev Dp(t u:TT):TT:=λd H Q=>t d H λc e=>if c=true then u d e Q else Q false e
abbrev tOr(t u:TT):TT:=λd H Q=>t d H λc e=>if c=true then Q true e else u d e Q
abbrev FN(t:TT):TT:=λd H Q=>t d H λc e=>Q (!c) e
def Dq(d:PT X a tA):PW X (.BoolOp .And [a] pos) tA:=by
 intro g pins s f H Q I h;refine isTrue_and (thn (d pins s f H Q I h) λc i e=>?_);cases c with
 | true=>exact isTrue_and_nil e
 | false=>exact e
def FO(d:PT X a tA):PW X (.BoolOp .Or [a] pos) tA:=by
 intro g pins s f H Q I h;refine isTrue_or (thn (d pins s f H Q I h) λc i e=>?_);cases c with
 | false=>exact isTrue_or_nil e
 | true=>exact e
def FP(i:PT X a tA)(j:PW X (.BoolOp .And (b::rest) pos) tB'):PW X (.BoolOp .And (a::b::rest) pos) (Dp tA tB'):=by
 intro l pins s d H Q I h;refine isTrue_and (thT (i pins s d H _ I h) λc m e f g=>?_);cases c with
 | true=>exact j l pins m d e Q f g
 | false=>exact%[e,f|g]
def HG(i:PT X a tA)(j:PW X (.BoolOp .Or (b::rest) pos) tB'):PW X (.BoolOp .Or (a::b::rest) pos) (tOr tA tB'):=by
 intro l pins s d H Q I h;refine isTrue_or (thT (i pins s d H _ I h) λc m e f g=>?_);cases c with
 | true=>exact%[e,f|g]
 | false=>exact j l pins m d e Q f g
def FQ(c:PT X a tA):PT X (.UnaryOp .Not a pos) (FN tA):=by
 intro pins s d H Q I h;exact isTrue_not (c pins s d H _ I h)
abbrev AW(ta tb:TE):TE:=λd H Q=>ta d H λx e=>asB x λc=>if c=true then tb d e Q else Q (.bl false) e
abbrev FR(ta tb:TE):TE:=λd H Q=>ta d H λx e=>asB x λc=>if c=true then Q (.bl true) e else tb d e Q
def FS{op}(h:PE X a t):PE X (.BoolOp op [a] pos) t:=λpins s c H Q I hw=>BoolOp_one (h pins s c H Q I hw)
def FT(i:PE X a ta)(j:PE X (.BoolOp .And (b::rest) pos) tb):PE X (.BoolOp .And (a::b::rest) pos) (AW ta tb):=by
 intro pins s e H Q I h;refine BoolOp_and (thP (i pins s e H _ I h) λv l x f g m d=>?_);have%[c,rfl|d]:=qC d;cases m;refine wpAny_truthy_bool ?_;cases c with
 | true=>exact j pins l e f Q g d
 | false=>exact%[.bl false,f,g,ρ|d]
def HH(i:PE X a ta)(j:PE X (.BoolOp .Or (b::rest) pos) tb):PE X (.BoolOp .Or (a::b::rest) pos) (FR ta tb):=by
 intro pins s e H Q I h;refine BoolOp_or (thP (i pins s e H _ I h) λv l x f g m d=>?_);have%[c,rfl|d]:=qC d;cases m;refine wpAny_truthy_bool ?_;cases c with
 | false=>exact j pins l e f Q g d
 | true=>exact%[.bl true,f,g,ρ|d]
abbrev tIf(t:TT)(ta tb:TE):TE:=λd H Q=>t d H λc e=>if c=true then ta d e Q else tb d e Q
def AX{c:Expr}(l:PT X c tA)(m:PE X a ta)(n:PE X b tb):PE X (.IfExp c a b pos) (tIf tA ta tb):=by
 intro pins s e H Q I h;refine wpAny_IfExp (thT (l pins s e H _ I h) λd f g i j=>?_);cases d with
 | true=>exact m pins f e g Q i j
 | false=>exact n pins f e g Q i j
end
abbrev SqL(K:ZA)(H:Hp)(a:Addr)(xs:List V):Prop:=
 Rd H a (.lst xs)\/
  ∃o its n,K.lookup a∣o/\o.cls= .type "list"/\o.dict=none/\o.data= .seq its n/\its.size<=sizeLine/\aN xs its.toList
abbrev SqT(K:ZA)(H:Hp)(a:Addr)(xs:List V):Prop:=
 Rd H a (.tup xs)\/
  ∃o its n,K.lookup a∣o/\o.cls= .type "tuple"/\o.data= .seq its n/\its.size<=sizeLine/\aN xs its.toList
abbrev absV:Value->Option V
 | .none=>some .non
 | .bool b=>some (.bl b)
 | .int i _=>some (.int i)
 | .str x _=>some (.str x)
 | .bytes b _=>some (.byt b)
 | .float b _=>some (.flt b)
 | .ref a=>some (.ref a)
 | .type n=>some (.ty n)
 | _=>none
def aV.abs(r:aV x u):absV u∣x:=by
 cases x with
 | non=>cases r;rfl
 | bl _=>cases r;rfl
 | int _=>have%[t|rfl]:=r;rfl
 | str _=>have%[t|rfl]:=r;rfl
 | byt _=>have%[t|rfl]:=r;rfl
 | flt _=>have%[t|rfl]:=r;rfl
 | ref _=>cases r;rfl
 | ty _=>cases r;rfl
def aV.inj(r:aV x u)(q:aV y u):x=y:=Za (r.abs.symm.trans q.abs)
def aN.inj:∀{xs ys:List V} {us:ZF},aN xs us->aN ys us->xs=ys
 | _,_,_,.nil,.nil=>rfl
 | _,_,_,.cons r t,.cons a t'=>by rw[r.inj a,aN.inj t t']
section
variable{X:Cx}{pins:ZE}{σ:St}{H:Hp}{s:Shared}
variable{a:Addr}{xs ys:List V}
def SqL.of{K:ZA}(h:H a<*xs):SqL K H a xs:= .inl (.inl h)
def SqT.of{K:ZA}(h:H a&&&xs):SqT K H a xs:= .inl (.inl h)
def Inv.list(I:Inv X pins σ H s)(h:SqL X.K H a xs):∃its:ZF,aN xs its/\PlainL s.heap a its.toArray/\ ~~~xs<=sizeLine:=by
 rcases h with h|⟨o,its,n,b,c,d,f,g,r⟩
 .have%[z,its,n,r|e]:=h.ok I.hok;exact%[its,r,%[_,n,e,ρ,ρ|ρ]|z]
 .refine%[its.toList,r,%[o,n,I.kIn a o b,c,d|f]|?_];have e:= ~~~r
  simp_all
def Inv.tuple(I:Inv X pins σ H s)(h:SqT X.K H a xs):∃its:ZF,aN xs its/\IsTup s.heap a its.toArray/\ ~~~xs<=sizeLine:=by
 rcases h with h|⟨o,its,n,b,c,d,f,r⟩
 .have%[z,its,r|p]:=h.ok I.hok;exact%[its,r,p|z]
 .refine%[its.toList,r,%[o,I.kIn a o b,c,n|d]|?_];have e:= ~~~r;simp only[Zb]at e
  lia
def Inv.list_inj(I:Inv X pins σ H s)(h:SqL X.K H a xs)(h':SqL X.K H a ys):xs=ys:=by
 have%[its,r,%[o,n,e,_,_|d]|_]:=I.list h;have%[its',c,%[g,i,b,_,_|d']|_]:=I.list h';rw[e]at b;cases b;rw[d]at d';injection d' with f _
 have:=congrArg Array.toList f;subst this;exact r.inj c
def Inv.tuple_inj(I:Inv X pins σ H s)(h:SqT X.K H a xs)(h':SqT X.K H a ys):xs=ys:=by
 have%[its,r,%[o,e,_,n|d]|_]:=I.tuple h;have%[its',c,%[g,b,_,i|d']|_]:=I.tuple h';rw[e]at b;cases b;rw[d]at d';injection d' with f _
 have:=congrArg Array.toList f;subst this;exact r.inj c
end
noncomputable abbrev Cx.wish(X:Cx)(E:ZD):Cx:={X with xe:=E}
noncomputable abbrev Cx.nox(X:Cx):Cx:=X.wish λ_ _=>False
def Cx.Ok.wish{X:Cx}(ok:X.Ok)(E:ZD):(X.wish E).Ok:=
 %[ok.mod,ok.kind,ok.glob,ok.blt,ok.above,ok.inj,ok.has,ok.cab,ok.hd,ok.frames,ok.stk,ok.exf,ok.bs,ok.bsz,ok.noex,ok.exfs,ok.funs|ok.frf]
def Cx.Ok.unwish{X:Cx}{E:ZD}(ok:(X.wish E).Ok):X.Ok:=
 %[ok.mod,ok.kind,ok.glob,ok.blt,ok.above,ok.inj,ok.has,ok.cab,ok.hd,ok.frames,ok.stk,ok.exf,ok.bs,ok.bsz,ok.noex,ok.exfs,ok.funs|ok.frf]
section
variable{X:Cx}{pins:ZE}{σ:St}{H:Hp}{s:Shared}
variable{E:ZD}
def Inv.wish(I:Inv X pins σ H s)(E:ZD):Inv (X.wish E) pins σ H s:=%[I.ok.wish E,I.os,I.bare,I.base,I.loc,I.cell,I.free,I.freeC,I.pin,I.hok|I.len]
def Inv.unwish(I:Inv (X.wish E) pins σ H s):Inv X pins σ H s:=%[I.ok.unwish,I.os,I.bare,I.base,I.loc,I.cell,I.free,I.freeC,I.pin,I.hok|I.len]
def SP.unwish{D:lL}{f:Flow}{s':Shared}(h:SP (X.wish E) pins D f s'):SP X pins D f s':=by
 cases f with
 | next=>have%[a,b,I|q]:=h;exact%[a,b,I.unwish|q]
 | brk=>have%[a,b,I|q]:=h;exact%[a,b,I.unwish|q]
 | cont=>have%[a,b,I|q]:=h;exact%[a,b,I.unwish|q]
 | ret u=>have%[v,a,b,I,r|q]:=h;exact%[v,a,b,I.unwish,r|q]
def PSs.nox{st:List Stmt}(h:PSs X.nox st t):PSs X st t:=λpins s σ H D I hw=>
 wpAny_mono (h pins s σ H D (I.wish _) hw) (λ_ _ q=>q.unwish) λ_ _ z=>False.elim z
end
section
variable{X:Cx}{st:Stmt}{rest:List Stmt}{t u:TS}{e:Expr}{te:TE}{pos:Pos}
abbrev AY:TS:=λD a H=>D.nx a H
abbrev aU(t u:TS):TS:=λD a H=>t {D with nx:=u D} a H
def Dr:PSs X [] AY:=λ_ _ a H _ I h=>wpAny_execs_nil %[a,H,I|h]
def AZ(b:PS X st t)(c:PSs X rest u):PSs X (st::rest) (aU t u):=by
 intro pins s d H D I h;refine wpAny_execs_cons (thn (b pins s d H _ I h) λf g q=>?_);cases f with
 | next=>
   have%[a,i,j|q]:=q;exact c pins g a i D j q
 | ret v=>exact q
 | brk=>exact q
 | cont=>exact q
def Ds(a:PS X st t):PSs X [st] t:=by
 intro pins s b H D I h;refine wpAny_execs_cons (thn (a pins s b H D I h) λf c q=>?_);cases f with
 | next=>exact wpAny_execs_nil q
 | ret v=>exact q
 | brk=>exact q
 | cont=>exact q
def Inv.quiet{pins:List _}{a:St}{H:Hp}{s:Shared}(I:Inv X pins a H s):interactive X.env=false:=by simp[interactive,I.ok.kind]
abbrev jG(te:TE):TS:=λD a H=>te a H λ_ b=>D.nx a b
def Dt(b:PE X e te)(c:swapsWith e none pos.line X.env=pure false):PS X (.Expr e pos) (jG te):=by
 intro pins s a H D I h;exact wpAny_Expr_any (thP (b pins s a H _ I h) λv i x d f j g=>%[a,d,f|g]) I.quiet c
abbrev fG(te:TE):TS:=λD a H=>te a H D.rt
def FU(b:PE X e te):PS X (.Return (some e) pos) (fG te):=by
 intro pins s a H D I h;exact wpAny_Return_some (thP (b pins s a H _ I h) λv i x c d f g=>%[x,a,c,d,f|g])
abbrev jB(c:TT)(t u:TS):TS:=λD a H=>c a H λb d=>if b=true then t D a d else u D a d
def HI{c:Expr}{a b:List Stmt}(m:PT X c n)(o:PSs X a t)(p:PSs X b u):PS X (.If c a b pos) (jB n t u):=by
 intro pins s f H D I h;refine wpAny_If (thT (m pins s f H _ I h) λd g i j l=>?_);cases d with
 | true=>exact o pins g f i D j l
 | false=>exact p pins g f i D j l
abbrev A0:TS:=λ_ _ _=>False
def A1:PS X st A0:=λ_ _ _ _ _ _ h=>h.elim
end
noncomputable abbrev TG:=V->St->Hp->(St->Hp->Prop)->Prop
noncomputable abbrev TGs:=List V->St->Hp->(St->Hp->Prop)->Prop
abbrev PG(X:Cx)(a:Expr)(t:TG):Prop:=
 ∀pins s (c:St) H v u Q,Inv X pins c H s->aV v u->t v c H Q->
  (X⁻¹) (assign a X.env u) (λ_ s'=>∃b d,Inv X pins b d s'/\Q b d) X.xe s
abbrev PGs(X:Cx)(ts:List Expr)(t:TGs):Prop:=
 ∀pins s (b:St) H vs us Q,Inv X pins b H s->aN vs us->t vs b H Q->
  (X⁻¹) (assignInOrder ((assignEach ts X.env)\2) us) (λ_ s'=>∃a c,Inv X pins a c s'/\Q a c) X.xe s
section
variable{X:Cx}{pos:Pos}
abbrev kg(i:Nat):TG:=λv a H Q=>Q (a.set i (some v)) H
def Du(a:X.N.Nodup)(hi:X.N[i]?∣x)(b:Loc X.env.scope x)(c:X.fn x=true\/X.env.scope.names.lookup x∣.local):PG X (.Name x pos) (kg i):=by
 intro pins s e H v u Q I r h;exact wpAny_assign_Name (nJ I a hi b r (λs' d=>%[_,H,d|h]) c)
abbrev FV:TGs:=λvs a H Q=>vs=[]/\Q a H
abbrev A2(t:TG)(u:TGs):TGs:=λvs b H Q=>∃v r,vs=v::r/\t v b H λa c=>u r a c Q
def Dv:PGs X [] FV:=by
 intro pins s a H vs us Q I r h;have%[e|h]:=h;exact assignInOrder_nil %[a,H,I|h]
def A3{e:Expr}{u:TGs}(b:PG X e t)(c:PGs X es u)
 (d:(assignEach (e::es) X.env)\2=assign e X.env::(assignEach es X.env)\2):PGs X (e::es) (A2 t u):=by
 intro pins s f H vs us Q I r h;have%[v,n,g|h]:=h;subst g;cases r with
 | cons r rr=>
   rw[d];exact assignInOrder_cons (thn (b pins s f H _ _ _ I r h) λ_ i ⟨a,j,l,m⟩=>c pins i a j _ _ Q l rr m)
abbrev Dw(K:ZA)(n:Nat)(t:TGs):TG:=λv b H Q=>asR v λa=>∃xs,SqT K H a xs/\ ~~~xs=n/\t xs b H Q
def FW(f:X.calm=true)(h:PGs X es t)
 (g: ~~~(assignEach es X.env)=n) (c:(assignEach es X.env).findIdx? (·.1)=none):PG X (.Tuple es k pos) (Dw X.K n t):=by
 intro pins s i H v u Q I r hw;have%[a,j,xs,l,m|hw]:=ef hw;clear ‹Dw _ _ _ _ _ _ _›;subst j;cases r;have%[its,d,p|w]:=I.tuple l;exact assign_Tuple_tuple (I.ok.hd f) p (by simp[g,<-m,~~~d]) c λh' q=>h pins _ i H xs _ Q (I.kept λb o e=>q b o (Zs (Zu e)) e) (d) hw
abbrev sM(b:TE)(g:TG):TS:=λD a H=>b a H λx c=>g x a c D.nx
def FX{a e:Expr}{g:TG}(c:PE X e d)(f:PG X a g)(i:swapsWithSole [a] e pos.line X.env=pure false)(hw:swappedStores [a] e X.env=pure none)
 (j:(assignEach [a] X.env)\2=[assign a X.env]):PS X (.Assign [a] e pos) (sM d g):=by
 intro pins s b H D I h;refine wpAny_Assign_stores (thP (c pins s b H _ I h) λv l x m n o p=>?_) i hw;rw[j];exact thn (f pins l b m x v _ n o p) λ_ r q=>q
def FY{i:Nat}{x:Str}{e:Expr}(b:X.N.Nodup)(hi:X.N[i]?∣x)(c:Loc X.env.scope x)(d:PE X e f)(g:swapsWith e (some (.Name x a)) pos.line X.env=pure false)(j:X.fn x=true\/X.env.scope.names.lookup x∣.local):
 PS X (.Assign [.Name x a] e pos) (sM f (kg i)):=by
 intro pins s l H D I h;exact wpAny_Assign_Name (thP (d pins s l H _ I h) λv r y m n o p=>nJ n b hi c o (λu q=>%[_,m,q|p]) j) g
abbrev A4(c:TT)(h:TS):TS:=λD a H=>∃W:Nat->St->Hp->Prop,(∃m,W m a H)/\∀m a H,W m a H->
 c a H λb e=>if b=true then∃N:St->Hp->Prop,(∀d f,N d f->∃g,g<m/\W g d f)/\h {D with nx:=N,ct:=N,bk:=D.nx} a e else D.nx a e
def A5(w:PassesOwn (model X.prog X.w) X.A X.env X.xe)(E:PT X c G)(J:PSs X e L):PS X (.While c e [] pos) (A4 G L):=by
 intro pins s M H D I h;have%[W,%[O|Q]|g]:=h;refine wpAny_While (codeAny_whileLoop (λn s'=>∃i y,Inv X pins i y s'/\W n i y) ?_ O %[M,H,I|Q]);intro n T %[d,z,U|Y];refine wpAny_passesOwn w (thT (E pins T d z _ U (g n d z Y)) λb s2 A B l=>?_);cases b with
 | true=>
   have%[N,C|l]:=l;refine wpAny_passesOwn w (thn (J pins s2 d A _ B l) λf s3 m=>?_);cases f with
   | next=>
     have%[a,j,o|p]:=m;have%[q,r|u]:=C a j p;exact%[q,r,a,j,o|u]
   | cont=>
     have%[a,j,o|p]:=m;have%[q,r|u]:=C a j p;exact%[q,r,a,j,o|u]
   | brk=>exact m
   | ret v=>exact m
 | false=>
   exact wpAny_execs_nil %[d,A,B|l]
end
structure It where
 go:Nat->Hp->Prop
 yld:Nat->Hp->V->Hp->Prop
 stop:Nat->Hp->Prop
abbrev mW(X:Cx)(pins:ZE)(H:Hp)(b:Addr):Prop:=
 H b=none/\b≠X.env.locals/\b∉X.fs/\(b∈X.ex\/X.s₀.heap.objs.size<=b)/\(∀x c,X.env.cells.lookup x∣c->c≠b)/\∀p∈X.pn++pins,p.1≠b
def Inv.fpOk{X:Cx}(I:Inv X pins h H s)(a:⇑s<=b)(d:f b=none):mW X pins f b:=by
 refine%[d,X1 (Zg I.lt a),I.nofs a,.inr (Yg I.sz a),λx c e z=>?_|λp g z=>?_]
 .have%[v|q]:=I.cell x c e;exact absurd (Zg q.lt (z▸a)) (Xm _)
 .exact absurd (Zg (Zu (I.pin p g).1) (z▸a)) (Xm _)
structure p7 (P:Program) (w:World) (K:ZA) (tg:Expr) (J:It) (fp:List Addr) (it:Addr) (tn:Nat->Heap->Prop):Prop where
 mem:it∈fp
 obj:∀i h,tn i h->∀b∈fp,∃o,h.get? b∣o/\∀v,o.data≠ .cell v
 keep:∀i h h',tn i h->(∀b∈fp,∀o,h.get? b∣o->h'.get? b∣o)->tn i h'
 item:∀(X:Cx),X.prog=P->X.w=w->X.K=K->X.calm=true->∀i (pins:ZE) s (σ:St) H (E:ZD),Inv X pins σ H s->(∀b∈fp,mW X pins H b)->tn i s.heap->J.go i H->
  wpAny (model P w) X.A (pyNext (.ref it)) (λr s1=>∃u,r∣u/\
   wpAny (model P w) X.A (letOwnedTupleGo tg (.ref it) u) (λ_ s2=>∃x H',Inv X pins σ H' s2/\aV x u/\J.yld i H x H'/\tn (i+1) s2.heap/\∀b∈fp,H' b=none) E s1) E s
 done:∀X,X.prog=P->X.w=w->X.K=K->X.calm=true->∀i pins s (σ:St) H E,Inv X pins σ H s->(∀b∈fp,mW X pins H b)->tn i s.heap->J.stop i H->
  wpAny (model P w) X.A (pyNext (.ref it)) (λr s1=>r=none/\Inv X pins σ H s1) E s
 self:∀A i s Q E,tn i s.heap->Q (.ref it) s->wpAny (model P w) A (pyIter (.ref it)) Q E s
noncomputable abbrev TI:=St->Hp->(It->Hp->Prop)->Prop
abbrev PIE(X:Cx)(pins:ZE)(h:St)(i:Expr)(R:It->Hp->Prop)(a:Value)(d:Shared):Prop:=
 ∃e f g J c,a= .ref e/\Inv X pins h c d/\p7 X.prog X.w X.K i J f e g/\g 0 d.heap/\(∀b∈f,mW X pins c b)/\R J c
abbrev PI(X:Cx)(b iter:Expr)(c:TI):Prop:=
 ∀pins s (a:St) H R,Inv X pins a H s->c a H R->
  (X⁻¹) (eval iter X.env) (λv d=>(X⁻¹) (pyIter v) (PIE X pins a b R) X.xe d) X.xe s
def qD(b:s.heap.get? c∣o)(d:o.cls= .type n)(e:o.data= .fields vs)
 (f:["enumerate","zip","dict_itemiterator","dict_reverseitemiterator","odict_iterator","itertools.zip_longest","itertools.pairwise"].contains n=false) (a:Q () s):wpAny M A (letOwnedTupleGo g (.ref c) u) Q E s:=by
 cases g<;> first
  | exact Z3 a
  |(cases u<;> first
   | exact Z3 a
   |(refine Z2 (wpAny_load b ?_)
     rw[d,e];show wpAny M A (if(["enumerate","zip","dict_itemiterator","dict_reverseitemiterator","odict_iterator","itertools.zip_longest","itertools.pairwise"].contains n&&vs[0]? ==some _)=true then _ else _) Q E s;rw[if_neg (by intro h;rw[f,Bool.false_and]at h;cases h)];exact Z3 a))
abbrev Itl(K:ZA)(a:Addr):It:=
 ⟨λi H=>∃xs x,SqL K H a xs/\xs[i]?∣x,λi H x b=>b=H/\∀xs,SqL K H a xs->xs[i]?∣x,λi H=>∃xs,SqL K H a xs/\ ~~~xs<=i⟩
abbrev Itt(K:ZA)(a:Addr):It:=
 ⟨λi H=>∃xs x,SqT K H a xs/\xs[i]?∣x,λi H x b=>b=H/\∀xs,SqT K H a xs->xs[i]?∣x,λi H=>∃xs,SqT K H a xs/\ ~~~xs<=i⟩
abbrev Itr(lo:Int)(n:Nat):It:=%[λi _=>i<n,λi H x a=>a=H/\x= .int (lo+i)|λi _=>n<=i]
def qE{P:Program}{K:ZA}(a it:Addr):p7 P w K tg (Itl K a) [it] it (λi h=>h.IsListIter it a i) where
 mem:=by simp
 obj:=λi h st b hb=>by
  have e:=↑hb
  subst e;have%[o,e,c|d]:=st;exact%[o,e|λv z=>by rw[d]at z;cases z]
 keep:=λi h h' st k=>st.at λo e=>k it ∅ o e
 item:=by
  intro X hP hw hK hc i pins s σ H E I hf st hg;subst hP hw hK;have%[xs,x,hq|hx]:=hg;have%[its,rv,p|hz]:=I.list hq;have%[u,hu|ru]:=rv.get hx;have%[f0,f1,f2,f3,f4|f5]:=hf it ∅;refine wpAny_pyNext_list_item st p.isList ↑hu λh' st' sb=>?_
  have%[o,e,c|d]:=id st';exact%[u,ρ|qD e c d (!1) %[x,H,(I.turned (λb o hb e=>(sb.2 b hb).trans e) f0 f1 f3 f4 f5),ru,%[ρ|λys hy=>(I.list_inj hy hq)▸hx],st'|λb hb=>(hf b hb).1]]
 done:=by
  intro X hP hw hK hc i pins s σ H E I hf st hg;subst hP hw hK;have%[xs,hq|hx]:=hg;have%[its,rv,p|hz]:=I.list hq;have%[f0,f1,f2,f3,f4|f5]:=hf it ∅;have hl:= ~~~rv;exact wpAny_pyNext_list_end (I.ok.hd hc) st p.isList (by simp;lia) λh' eb=>%[rfl|I.turned (λb o hb e=>eb b o hb e) f0 f1 f3 f4 f5]
 self:=λ_ _ _ _ _ st h=>wpAny_pyIter_listiter st h
def wz{P:Program}{K:ZA}(a it:Addr):p7 P w K tg (Itt K a) [it] it (λi h=>h.IsTupleIter it a i) where
 mem:=by simp
 obj:=λi h st b hb=>by
  have e:=↑hb
  subst e;have%[o,e,c|d]:=st;exact%[o,e|λv z=>by rw[d]at z;cases z]
 keep:=λi h h' st k=>st.at λo e=>k it ∅ o e
 item:=by
  intro X hP hw hK hc i pins s σ H E I hf st hg;subst hP hw hK;have%[xs,x,hq|hx]:=hg;have%[its,rv,p|hz]:=I.tuple hq;have%[u,hu|ru]:=rv.get hx;have%[f0,f1,f2,f3,f4|f5]:=hf it ∅;refine wpAny_pyNext_tuple_item st (p) ↑hu λh' st' sb=>?_
  have%[o,e,c|d]:=id st';exact%[u,ρ|qD e c d (!1) %[x,H,(I.turned (λb o hb e=>(sb.2 b hb).trans e) f0 f1 f3 f4 f5),ru,%[ρ|λys hy=>(I.tuple_inj hy hq)▸hx],st'|λb hb=>(hf b hb).1]]
 done:=by
  intro X hP hw hK hc i pins s σ H E I hf st hg;subst hP hw hK;have%[xs,hq|hx]:=hg;have%[its,rv,p|hz]:=I.tuple hq;have%[f0,f1,f2,f3,f4|f5]:=hf it ∅;have hl:= ~~~rv;exact wpAny_pyNext_tuple_end (I.ok.hd hc) st (p) (by simp;lia) λh' eb=>%[rfl|I.turned (λb o hb e=>eb b o hb e) f0 f1 f3 f4 f5]
 self:=λ_ _ _ _ _ st h=>wpAny_pyIter_tupleiter st h
def wA{P:Program}{K:ZA}(it:Addr)(lo:Int)(n:Nat):p7 P w K tg (Itr lo n) [it] it (λi h=>IsRangeIter h it (lo+(i:Nat)*1) ((n:Int) -(i:Nat)) 1) where
 mem:=by simp
 obj:=λi h st b hb=>by
  simp_all
 keep:=λi h h' st k=>k it ∅ _ st
 item:=by
  intro X hP hw hK hc i pins s σ H E I hf st hg;subst hP hw hK;have%[f0,f1,f2,f3,f4|f5]:=hf it ∅;refine(Walks.range (prog:=X.prog) (w:=X.w) (I.ok.hd hc) it lo 1 n).item i s _ _ hg st λv h' tk hv st' kk=>?_
  have%[t|rfl]:=hv;refine%[_,ρ|qD st' rfl rfl (!1) %[.int _,H,(I.turned (λb o hb e=>kk b o ↑hb e) f0 f1 f3 f4 f5),%[t|?_],%[ρ|ρ],st'|λb hb=>(hf b hb).1]];rw[Int.mul_one]
 done:=by
  intro X hP hw hK hc i pins s σ H E I hf st hg;have%[f0,f1,f2,f3,f4|f5]:=hf it ∅;exact wpAny_pyNext_range_end (I.ok.hd hc) st (by have:n<=i:=hg;lia) λh' eb=>%[rfl|I.turned (λb o hb e=>eb b o hb e) f0 f1 f3 f4 f5]
 self:=λ_ _ _ _ _ st h=>wpAny_pyIter_rangeiter st h
section
variable{X:Cx}{tg:Expr}
def uz{R:It->Hp->Prop}{lo hi:Int}(I:Inv X pins c H s)(d: -(2^62)<=lo)(f:lo<2^62)(g: -(2^62)<=hi)(h:hi<2^62)
 (q:R (Itr lo (hi-lo).toNat) H):(X⁻¹) (pyIter (.ref ⇑s)) (PIE X pins c tg R) E {s with heap:=s.heap.push {cls:= .type "range",data:= .fields #[.int lo t,.int hi u,.int 1 v]},toks:=tk}:=by
 refine wpAny_pyIter_range (IsRange.new ..) (small_one d f g h) ?_;have a:Inv X pins c H {s with heap:=s.heap.push {cls:= .type "range",data:= .fields #[.int lo t,.int hi u,.int 1 v]},toks:=tk}:=I.kept λb o e=>Z7 _ e
 refine%[(s.heap.push _).objs.size,[(s.heap.push _).objs.size],_,_,H,ρ,
  a.kept λb o e=>Z7 _ e,wA _ lo _,?_,λb i=>?_|q]
 .have j:lo+((0:Nat))*1=lo:=by simp
  have l:(((hi-lo).toNat)) -((0:Nat))=Builtin.Range.rangeSize lo hi 1:=by rw[rangeSize_one];split<;> lia
  rw[j,l];exact Zj _ rfl
 .have e:b=(s.heap.push {cls:= .type "range",data:= .fields #[.int lo t,.int hi u,.int 1 v]}).objs.size:=↑i
  subst e;exact a.fpOk (Zi _) (a.hok.fresh (Zi _))
abbrev A6(a:TA):TI:=λb H R=>a b H λvs c=>∃j:Int,vs=[.int j]/\ -(2^62)<=j/\j<2^62/\R (Itr 0 j.toNat) c
abbrev A7(a:TA):TI:=λb H R=>a b H λvs c=>∃i j:Int,vs=[.int i,.int j]/\(-(2^62)<=i/\i<2^62/\ -(2^62)<=j/\j<2^62)/\R (Itr i (j-i).toNat) c
def zo{a:Expr}(c:Gl X "range")(d:X.mg "range"=none)(f:PA X [a] g)(i:starEach [a] X.env=[(false,eval a X.env)]):PI X tg (.Call (.Name "range" p) [a] [] pos) (A6 g):=by
 intro pins s l H R I h;refine Call_ (fZ I c d boot_range (PyProof.Rows.callWith_type1 (thP (f pos pins s l H _ I h) λus u vs v m n b=>?_) i rfl));have%[j,e,b,o|q]:=b;subst e;cases n with
 | cons r rr=>
   cases rr;have%[t|rfl]:=r;exact call_range_1 (uz m ⋯ ⋯ b o ↑q)
def zq(f:Gl X "range")(g:X.mg "range"=none)(l:PA X [a,b] m)(n:starEach [a,b] X.env=[(false,eval a X.env),(false,eval b X.env)])(c:starEach [b] X.env=[(false,eval b X.env)]):
 PI X tg (.Call (.Name "range" p) [a,b] [] pos) (A7 m):=by
 intro pins s o H R I h;refine Call_ (fZ I f g boot_range (PyProof.Rows.callWith_type1 (thP (l pos pins s o H _ I h) λus B vs C u v d=>?_) (by rw[n,c]) (by rw[c];rfl)));have%[i,j,e,%[d,w,y|z]|q]:=d;subst e;cases v with
 | cons r rr=>
   cases rr with
   | cons A rr=>
     cases rr;have%[t|rfl]:=r;have%[t'|rfl]:=A;exact call_range_2 (uz u d w y z q)
abbrev uA(f:TI)(g:TG)(h:TS):TS:=λD a H=>f a H λJ j=>∃W:Nat->Nat->St->Hp->Prop,(∃m,W 0 m a j)/\∀i m a H,W i m a H->
 (J.stop i H/\D.nx a H)\/(J.go i H/\∃N:St->Hp->Prop,(∀b c,N b c->∃e,e<m/\W (i+1) e b c)/\∀x c,J.yld i H x c->g x a c λd l=>h {D with nx:=N,ct:=N,bk:=D.nx} d l)
abbrev sN(a:List Addr)(h:Heap):ZE:=a.filterMap λb=>(h.get? b).map λo=>(b,o)
def eR(a:b∈c)(e:h.get? b∣o):(b,o)∈sN c h:=mem_filterMap.mpr %[b,a|by rw[e];rfl]
def zt(a:p∈sN c h):p.1∈c/\h.get? p.1∣p.2:=by
 have%[b,d|e]:=mem_filterMap.mp a;cases q:h.get? b with
 | none=>simp_all
 | some o=>
   rw[q]at e;have f:=Za e;subst f;exact%[d|q]
def Inv.pinned(I:Inv X pins g H s)(h:∀b∈a,mW X pins H b)(i:∀b∈a,∃o,s.heap.get? b∣o/\∀v,o.data≠ .cell v):Inv X (pins++sN a s.heap) g H s:=
 I.pins_of λp j=>(Xp j).elim (λz=>I.pin p (Yv _ z)) λz=>by
  have%[c|e]:=zt z;have%[l,m,n|_]:=h p.1 c;have%[o,f|d]:=i p.1 c;rw[e]at f;cases f;exact%[e,l,m,n|d]
def Inv.unpinned(I:Inv X (pins++pl) a H s):Inv X pins a H s:=I.pins_of λp b=>I.pin p (Yv _ (Yu _ b))
def FZ(B:PassesOwn (model X.prog X.w) X.A X.env X.xe)(hc:X.calm=true)(hi:PI X tg iter wi)(hg:PG X tg g)(c:PSs X C tb)
 (hs:∀x,foldedSetIterable iter X.env x=pure x):PS X (.For tg iter C [] pos) (uA wi g tb):=by
 intro pins s σ H D I h;refine wpAny_For (thn (hi pins s σ H _ I h) λv s1 h1=>thn h1 λae s2 h2=>?_) hs;have%[it,O,tn,J,H2,e,I2,T,U,f2,W,%[m0|w0]|E]:=h2;subst e;have j:∀{y:Hp},(∀b∈O,y b=none)->∀b∈O,mW X pins y b:=λhn b c=>%[hn b c|(f2 b c).2]
 refine codeAny_forLoop_any (λn s'=>∃i l y,Inv X pins l y s'/\tn i s'.heap/\(∀b∈O,y b=none)/\W i n l y) ?_ m0 %[0,σ,H2,I2,U,λb c=>(f2 b c).1|w0];intro n s3 %[i,p,Q,I3,G,L|w3];rcases E i n p Q w3 with⟨stop,qn⟩|⟨go,N,hN,step⟩
 .refine wpAny_passesOwn B (thn (T.done X rfl rfl rfl hc i pins s3 p Q X.xe I3 (j L) G stop) λr s4 ⟨Y,I4⟩=>?_);subst Y;exact wpAny_execs_nil %[p,Q,I4|qn]
 .refine wpAny_passesOwn B (thn (T.item X rfl rfl rfl hc i pins s3 p Q X.xe I3 (j L) G go) λr s4 ⟨u,Y,h4⟩=>?_);subst Y;refine wpAny_passesOwn B (thn h4 λ_ s5 ⟨x,H5,I5,r5,y5,A,ab⟩=>wpAny_passesOwn B (thn (hg _ s5 p H5 x u _ (I5.pinned (j ab) (T.obj _ _ A)) r5 (step x H5 y5)) λ_ s6 ⟨ac,H6,I6,q6⟩=>wpAny_passesOwn B (thn (c _ s6 ac H6 _ I6 q6) λf s7 z=>?_)));have again:∀{a:St} {q:Hp},Inv X _ a q s7->N a q->∃m,m<n/\∃i l y,Inv X pins l y s7/\tn i s7.heap/\(∀b∈O,y b=none)/\W i m l y:=λ{a q} w M=>by
   have%[m',hm|w7]:=hN a q M;refine%[m',hm,i+1,a,q,w.unpinned,T.keep _ _ _ A λb c o e=>(w.pin _ (Yv _ (Yv _ (eR c e)))).1,λb c=>?_|w7];have%[o,e|d]:=T.obj _ _ A b c;exact(w.pin _ (Yv _ (Yv _ (eR c e)))).2.1
  cases f with
  | next=>have%[a,q,w|M]:=z;exact again w M
  | cont=>have%[a,q,w|M]:=z;exact again w M
  | brk=>have%[a,q,w|z]:=z;exact%[a,q,w.unpinned|z]
  | ret v=>have%[x7,a,q,w,r7|z]:=z;exact%[x7,a,q,w.unpinned,r7|z]
end
def eS{K:ZA}{g:TG}{l:TS}{D:lL}(Pv:Nat->St->Hp->Prop)(o:Pv 0 b H)(r:∀i b H,i<= ~~~xs->Pv i b H->SqL K H a xs)
 (s:∀i x b H,xs[i]?∣x->Pv i b H->g x b H λc h=>l {D with nx:=Pv (i+1),ct:=Pv (i+1),bk:=D.nx} c h) (u:∀b H,Pv xs.length b H->D.nx b H):
 ∃W:Nat->Nat->St->Hp->Prop,(∃m,W 0 m b H)/\∀i m b H,W i m b H->
  ((Itl K a).stop i H/\D.nx b H)\/((Itl K a).go i H/\∃N:St->Hp->Prop,(∀d f,N d f->∃n,n<m/\W (i+1) n d f)/\∀x f,(Itl K a).yld i H x f->g x b f λc h=>l {D with nx:=N,ct:=N,bk:=D.nx} c h):=by
 refine%[λi m b H=>m= ~~~xs-i/\i<= ~~~xs/\Pv i b H,%[~~~xs,by simp,Xh _|o]|?_];intro i m b H %[rfl,hi|p];have q:=r i b H hi p;by_cases j:i< ~~~xs
 .refine .inr %[%[xs,xs[i],q|by simp],Pv _,λd f v=>%[~~~xs-(i+1),⋯,rfl,j|v]|λx f y=>?_];have%[e|y]:=y;subst e;exact s i x b _ (y xs q) p
 .have e:i= ~~~xs:=by lia
  subst e;exact .inl %[%[xs,q|Zi _]|u b H p]
def cP{lo:Int}{g:TG}{j:TS}{D:lL}(Pv:Nat->St->Hp->Prop)(o:Pv 0 a H)
 (q:∀i a H,i<n->Pv i a H->g (.int (lo+i)) a H λb h=>j {D with nx:=Pv (i+1),ct:=Pv (i+1),bk:=D.nx} b h) (r:∀a H,Pv n a H->D.nx a H):
 ∃W:Nat->Nat->St->Hp->Prop,(∃m,W 0 m a H)/\∀i m a H,W i m a H->
  ((Itr lo n).stop i H/\D.nx a H)\/((Itr lo n).go i H/\∃N:St->Hp->Prop,(∀c d,N c d->∃l,l<m/\W (i+1) l c d)/\∀x d,(Itr lo n).yld i H x d->g x a d λb h=>j {D with nx:=N,ct:=N,bk:=D.nx} b h):=by
 refine%[λi m a H=>m=n-i/\i<=n/\Pv i a H,%[n,by simp,Xh _|o]|?_];intro i m a H %[rfl,hi|p];by_cases f:i<n
 .refine .inr %[f,Pv _,λc d s=>%[n-(i+1),⋯,rfl,f|s]|λx d y=>?_];have%[e|y]:=y;subst e y;exact q i a _ f p
 .have e:i=n:=by lia
  subst e;exact .inl %[Zi _|r a H p]
noncomputable abbrev R2:=V->V->Hp->VK->Prop
abbrev OpR(X:Cx)(f:Value->Value->Sem Value)(r:R2):Prop:=
 ∀pins s (a:St) H x y v u Q,Inv X pins a H s->aV x v->aV y u->r x y H Q->
  (X⁻¹) (f v u) (EP X pins a Q) X.xe s
abbrev UnR(X:Cx)(f:Value->Sem Value)(r:V->Hp->VK->Prop):Prop:=
 ∀pins s (a:St) H x v Q,Inv X pins a H s->aV x v->r x H Q->
  (X⁻¹) (f v) (EP X pins a Q) X.xe s
abbrev cr(X:Cx)(f:Value)(r:List V->Hp->VK->Prop):Prop:=
 ∀pins s (a:St) H xs us Q,Inv X pins a H s->aN xs us->r xs H Q->
  (X⁻¹) (call f us) (EP X pins a Q) X.xe s
abbrev TruR(X:Cx)(r:V->Hp->(Bool->Hp->Prop)->Prop):Prop:=
 ∀pins s (a:St) H x v Q,Inv X pins a H s->aV x v->r x H Q->
  (X⁻¹) (truthy v) (TP X pins a Q) X.xe s
abbrev tOp(r:R2)(b c:TE):TE:=λa H Q=>b a H λx d=>c a d λy e=>r x y e Q
abbrev tUn(r:V->Hp->VK->Prop)(a:TE):TE:=λb H Q=>a b H λx c=>r x c Q
abbrev rI(C:Int->Int->Prop)(g:Int->Int->V):R2:=λx y H Q=>asI x λi=>asI y λj=>C i j/\Q (g i j) H
abbrev rI0(g:Int->Int->V):R2:=λx y H Q=>asI x λi=>asI y λj=>Q (g i j) H
abbrev rU(g:Int->V):V->Hp->VK->Prop:=λx H Q=>asI x λi=>Q (g i) H
section
variable{X:Cx}{a b c:Expr}{ta tb tc:TE}{pos:Pos}
def F0(m:PE X a ta)(n:PE X b tb){pins:List _}{s:Shared}{d:St}{H:Hp}{R:V->V->Hp->Prop}(I:Inv X pins d H s)
 (h:ta d H λx l=>tb d l λy e=>R x y e) {Q:ZD} {f:Value->Value->Sem Value}
 (o:∀v u j x y e,Inv X pins d e j->aV x v->aV y u->R x y e->(X⁻¹) (f v u) Q X.xe j):
 (X⁻¹) (eval a X.env) (λv g=>(X⁻¹) (eval b X.env) (λu i=>(X⁻¹) (f v u) Q X.xe i) X.xe g) X.xe s:=by
 exact thP (m pins s d H _ I h) λv p x l q r w=>thP (n pins p d l _ q w) λu j y e z A B=>o v u j x y e z r A B
def HJ{r:R2}(d:OpR X (binaryOp op) r)(e:PE X a ta)(f:PE X b tb):PE X (.BinOp a op b pos) (tOp r ta tb):=by
 intro pins s g H Q I h;exact wpAny_BinOp (F0 e f I h λv u i x y j l m n q=>d pins i g j x y v u Q l m n q)
def HK(e:UnR X (unaryOp op) r)(f:PE X a ta):PE X (.UnaryOp op a pos) (tUn r ta):=by
 intro pins s d H Q I h;exact UnaryOp_ (thP (f pins s d H _ I h) λv g x i j l m=>e pins g d i x v Q j l m)
def opI{f:Value->Value->Sem Value}{C:Int->Int->Prop}{g:Int->Int->Int}
 (rule:∀i j t u s Q E,C i j->Q (.int (g i j) s.toks) {s with toks:=s.toks+1}->(X⁻¹) (f (.int i t) (.int j u)) Q E s):
 OpR X f (rI C λi j=> .int (g i j)):=by
 intro pins s n H x y v u Q I d e h;have%[i,rfl|l]:=iM h;have%[j,rfl,m|q]:=iM l;have%[t|rfl]:=d;have%[t'|rfl]:=e;exact rule i j t t' s _ _ m %[.int _,H,I.tok _,%[_|rfl]|q]
def HL{g:Int->Int->Int}
 (rule:∀(i j:Int) (t u:Tok) (s:Shared) (Q:ZD) (E:ZD),Q (.int (g i j) s.toks) {s with toks:=s.toks+1}->(X⁻¹) (f (.int i t) (.int j u)) Q E s):
 OpR X f (rI0 λi j=> .int (g i j)):=by
 intro pins s m H x y v u Q I d e h;have%[i,rfl|l]:=iM h;have%[j,rfl|q]:=iM l;have%[t|rfl]:=d;have%[t'|rfl]:=e;exact rule i j t t' s _ _ %[.int _,H,I.tok _,%[_|rfl]|q]
def F1{g:Int->Int->Bool}
 (rule:∀(i j:Int) (t u:Tok) (s:Shared) (Q:ZD) (E:ZD),Q (.bool (g i j)) s->(X⁻¹) (f (.int i t) (.int j u)) Q E s):
 OpR X f (rI0 λi j=> .bl (g i j)):=by
 intro pins s m H x y v u Q I d e h;have%[i,rfl|l]:=iM h;have%[j,rfl|q]:=iM l;have%[t|rfl]:=d;have%[t'|rfl]:=e;exact rule i j t t' s _ _ %[.bl _,H,I,rfl|q]
abbrev HM(i j:Int):Prop:=0<j/\j<1073741824
abbrev A8(i j:Int):Prop:=(-(2^64)<i/\i<2^64)\/(-(2^64)<j/\j<2^64)
def A8.ok{i j:Int}(h:A8 i j):IntMulOk i j:=by
 rcases h with⟨d,e⟩|⟨d,e⟩
 .exact .of_left (intBits_le_64 d e)
 .exact .of_right (intBits_le_64 d e)
def A9:OpR X (binaryOp .Add) (rI0 λi j=> .int (i+j)):=HL λ_ _ _ _ _ _ _ q=>add_int q
def F3:OpR X (binaryOp .Sub) (rI0 λi j=> .int (i-j)):=HL λ_ _ _ _ _ _ _ q=>sub_int q
def Ba:OpR X (binaryOp .Mult) (rI A8 λi j=> .int (i*j)):=opI λ_ _ _ _ _ _ _ d q=>mul_int q d.ok
def Dx:OpR X (binaryOp .FloorDiv) (rI HM λi j=> .int (i/j)):=opI λi j _ _ _ _ _ d q=>by
 have e:(0:Int)<j:=d.1;have f:j<1073741824:=d.2;exact floordiv_int ⋯ (by rw[Int.fdiv_eq_ediv_of_nonneg i ⋯];exact q) (.inl (PyProof.noPylong_small ⋯))
def F4:OpR X (binaryOp .Mod) (rI (λ_ j=>0<j) λi j=> .int (i%j)):=opI λi j _ _ _ _ _ d q=>by
 have e:(0:Int)<j:=d;exact mod_int' ⋯ (by rw[Int.fmod_eq_emod_of_nonneg i ⋯];exact q)
def unI{g:Int->Int}
 (rule:∀(i:Int) (t:Tok) (s:Shared) (Q:ZD) (E:ZD),Q (.int (g i) s.toks) {s with toks:=s.toks+1}->(X⁻¹) (f (.int i t)) Q E s):
 UnR X f (rU λi=> .int (g i)):=by
 intro pins s e H x v Q I d h;have%[i,rfl|q]:=iM h;have%[t|rfl]:=d;exact rule i t s _ _ %[.int _,H,I.tok _,%[_|rfl]|q]
def F5:UnR X (unaryOp .USub) (rU λi=> .int (-i)):=unI λ_ _ _ _ _ q=>neg_int q
end
abbrev F6(x y:V):Bool:=match x with
 | .non=>(match y with| .non=>true| .int _=>true| .bl _=>true| .str _=>true|_=>false)
 | .int _=>(match y with| .non=>true| .int _=>true| .str _=>true|_=>false)
 | .bl _=>(match y with| .non=>true| .bl _=>true| .str _=>true|_=>false)
 | .str _=>(match y with| .non=>true| .int _=>true| .bl _=>true| .str _=>true|_=>false)
 | .byt _=>(match y with| .byt _=>true|_=>false)
 |_=>false
def zqD:(F6 .non .non=true)/\(∀j,F6 .non (.int j)=true)/\(∀i,F6 (.int i) .non=true)/\(∀j,F6 .non (.bl j)=true)/\(∀i,F6 (.bl i) .non=true)/\(∀j,F6 .non (.str j)=true)/\(∀i,F6 (.str i) .non=true)/\(∀i j,F6 (.int i) (.int j)=true)/\(∀i j,F6 (.bl i) (.bl j)=true)/\(∀i j,F6 (.str i) (.str j)=true)/\(∀i j,F6 (.byt i) (.byt j)=true)/\(∀i j,F6 (.int i) (.str j)=true)/\(∀i j,F6 (.str i) (.int j)=true)/\(∀i j,F6 (.bl i) (.str j)=true)/\(∀i j,F6 (.str i) (.bl j)=true):=by and_intros<;> intros<;> rfl
abbrev rEq:R2:=λx y H Q=>F6 x y=true/\Q (.bl (decide (x=y))) H
abbrev rNe:R2:=λx y H Q=>F6 x y=true/\Q (.bl (!decide (x=y))) H
def xU:decide (V.int i=V.int j)=(i==j):=by
 rw[Bool.eq_iff_iff];simp
def Bb:decide (V.bl i=V.bl j)=(i==j):=by
 rw[Bool.eq_iff_iff];simp
def xV:decide (V.str i=V.str j)=(i==j):=by
 rw[Bool.eq_iff_iff];simp
def xW:decide (V.byt i=V.byt j)=(i.toList==j.toList):=by
 rw[Bool.eq_iff_iff]
 simp_all
section
variable{X:Cx}{a b c:Expr}{ta tb tc:TE}{pos:Pos}
def aY(I:Inv X pins d H s)(q:Q (.bl k) H)(e:k=f):EP X pins d Q (.bool f) s:=by
 subst e;exact%[.bl k,H,I,ρ|q]
def HN:OpR X (compareOp .Eq) rEq:=by
 intro pins s g H x y v u Q I f d h;have%[e|q]:=h;cases x with
 | non=>
   cases f;cases y with
   | non=>cases d;exact PySem.EqNone.eq_none_none (aY I q ∅)
   | bl j=>cases d;exact PySem.EqNone.eq_none_bool (aY I q ∅)
   | int j=>have%[t'|rfl]:=d;exact PySem.EqNone.eq_none_int (aY I q ∅)
   | str j=>have%[t'|rfl]:=d;exact PySem.EqNone.eq_none_str (aY I q ∅)
   | _=>exact absurd (show false=true from e) Zt
 | bl i=>
   cases f;cases y with
   | non=>cases d;exact PySem.EqNone.eq_bool_none (aY I q ∅)
   | bl j=>cases d;exact eq_bool (aY I q Bb)
   | str j=>have%[t'|rfl]:=d;exact PySem.EqMixed.eq_bool_str (aY I q ∅)
   | _=>exact absurd (show false=true from e) Zt
 | int i=>
   have%[t|rfl]:=f;cases y with
   | non=>cases d;exact PySem.EqNone.eq_int_none (aY I q ∅)
   | int j=>have%[t'|rfl]:=d;exact eq_int (aY I q xU)
   | str j=>have%[t'|rfl]:=d;exact PySem.EqMixed.eq_int_str (aY I q ∅)
   | _=>exact absurd (show false=true from e) Zt
 | str i=>
   have%[t|rfl]:=f;cases y with
   | non=>cases d;exact PySem.EqNone.eq_str_none (aY I q ∅)
   | bl j=>cases d;exact PySem.EqMixed.eq_str_bool (aY I q ∅)
   | int j=>have%[t'|rfl]:=d;exact PySem.EqMixed.eq_str_int (aY I q ∅)
   | str j=>have%[t'|rfl]:=d;exact eq_str (aY I q xV)
   | _=>exact absurd (show false=true from e) Zt
 | byt i=>
   have%[t|rfl]:=f;cases y with
   | byt j=>have%[t'|rfl]:=d;exact PySem.W.eq_bytes (aY I q xW)
   | _=>exact absurd (show false=true from e) Zt
 | _=>cases y<;> exact absurd (show false=true from e) Zt
def HP:OpR X (compareOp .NotEq) rNe:=by
 intro pins s g H x y v u Q I f d h;have%[e|q]:=h;cases x with
 | non=>
   cases f;cases y with
   | non=>cases d;exact PySem.EqNone.ne_none_none (aY I q ∅)
   | bl j=>cases d;exact PySem.EqNone.ne_none_bool (aY I q ∅)
   | int j=>have%[t'|rfl]:=d;exact PySem.EqNone.ne_none_int (aY I q ∅)
   | str j=>have%[t'|rfl]:=d;exact PySem.EqNone.ne_none_str (aY I q ∅)
   | _=>exact absurd (show false=true from e) Zt
 | bl i=>
   cases f;cases y with
   | non=>cases d;exact PySem.EqNone.ne_bool_none (aY I q ∅)
   | bl j=>cases d;exact ne_bool (aY I q (congrArg not Bb))
   | str j=>have%[t'|rfl]:=d;exact PySem.EqMixed.ne_bool_str (aY I q ∅)
   | _=>exact absurd (show false=true from e) Zt
 | int i=>
   have%[t|rfl]:=f;cases y with
   | non=>cases d;exact PySem.EqNone.ne_int_none (aY I q ∅)
   | int j=>have%[t'|rfl]:=d;exact ne_int (aY I q (congrArg not xU))
   | str j=>have%[t'|rfl]:=d;exact PySem.EqMixed.ne_int_str (aY I q ∅)
   | _=>exact absurd (show false=true from e) Zt
 | str i=>
   have%[t|rfl]:=f;cases y with
   | non=>cases d;exact PySem.EqNone.ne_str_none (aY I q ∅)
   | bl j=>cases d;exact PySem.EqMixed.ne_str_bool (aY I q ∅)
   | int j=>have%[t'|rfl]:=d;exact PySem.EqMixed.ne_str_int (aY I q ∅)
   | str j=>have%[t'|rfl]:=d;exact ne_str (aY I q (congrArg not xV))
   | _=>exact absurd (show false=true from e) Zt
 | byt i=>
   have%[t|rfl]:=f;cases y with
   | byt j=>have%[t'|rfl]:=d;exact PySem.W.ne_bytes (aY I q (congrArg not xW))
   | _=>exact absurd (show false=true from e) Zt
 | _=>cases y<;> exact absurd (show false=true from e) Zt
def HQ:OpR X (compareOp .Lt) (rI0 λi j=> .bl (decide (i<j))):=F1 λ_ _ _ _ _ _ _ q=>lt_int q
def HR:OpR X (compareOp .LtE) (rI0 λi j=> .bl (decide (i<=j))):=F1 λ_ _ _ _ _ _ _ q=>le_int q
def HS:OpR X (compareOp .Gt) (rI0 λi j=> .bl (decide (j<i))):=F1 λ_ _ _ _ _ _ _ q=>gt_int q
def zu:OpR X (compareOp .In) (λx y H Q=>∃i j,x= .str i/\y= .str j/\Q (.bl (!(Builtin.Str.occurrences j i 0 j.length 1).isEmpty)) H):=by
 intro pins s f H x y v u Q I d e h;have%[i,j,rfl,rfl|q]:=h;have%[t|rfl]:=d;have%[t'|rfl]:=e;exact in_str (aY I q rfl)
def F7:OpR X (compareOp .Is) (λx y H Q=>y= .non/\Q (.bl (decide (x= .non))) H):=by
 intro pins s f H x y v u Q I d e h;have%[rfl|q]:=h;cases e;refine is_none_gen (aY I q ?_);cases x<;> first
  | lia
  |(have%[t|rfl]:=d;rfl)
def Dy:OpR X (compareOp .IsNot) (λx y H Q=>y= .non/\Q (.bl (!decide (x= .non))) H):=by
 intro pins s f H x y v u Q I d e h;have%[rfl|q]:=h;cases e;refine isnot_none_gen (aY I q ?_);cases x<;> first
  | lia
  |(have%[t|rfl]:=d;rfl)
def OpR.or(h:OpR X f r)(h':OpR X f i):OpR X f (λx y H Q=>r x y H Q\/i x y H Q):=by
 intro pins s d H x y v u Q I e g q;rcases q with q|q
 .exact h pins s d H x y v u Q I e g q
 .exact h' pins s d H x y v u Q I e g q
def nomark(b:Expr)(h:op≠ .In)(f:op≠ .NotIn):behindInMarks op b=false:=by
 have d:(op==CmpOp.In)=false:=by lia
 have e:(op==CmpOp.NotIn)=false:=by lia
 cases b<;> simp[behindInMarks,d,e]
def Dz{r:R2}(d:OpR X (compareOp op) r)(e:PE X a ta)(f:PE X b tb)(g:behindInMarks op b=false):PE X (.Compare a [op] [b] pos) (tOp r ta tb):=by
 intro pins s i H Q I h;exact wpAny_Compare1 (F0 e f I h λv u j x y l m n o q=>d pins j i l x y v u Q m n o q) g
abbrev xX(t:TE):TT:=λd H Q=>t d H λx e=>asB x λk=>Q k e
def DC(f:OpR X (compareOp op) r)(g:PE X a ta)(i:PE X b tb)(j:behindInMarks op b=false):PT X (.Compare a [op] [b] pos) (xX (tOp r ta tb)):=by
 intro pins s d H Q I h;refine wpAny_isTrue_Compare1 (thP (g pins s d H _ I h) λv l x m n o p=>thP (i pins l d m _ n p) λu q y w A B C=>
  thP (f pins q d w x y v u _ A o B C) λc L z E G J e=>?_) j
 have%[k,rfl|e]:=qC e;cases J;exact wpAny_truthy_bool %[E,G|e]
abbrev wB(r f:R2)(ta tb tc:TE):TE:=λd H Q=>ta d H λx g=>tb d g λy h=>r x y h λz e=>asB z λk=>
 (if k=true then tc d e λi j=>f y i j Q else Q (.bl false) e)
def Bc(n:OpR X (compareOp op) r)(i:OpR X (compareOp e) o)(p:PE X a ta)(q:PE X b tb)(w:PE X c tc)
 (A:lastMarks [op,e] [b,c]=false):PE X (.Compare a [op,e] [b,c] pos) (wB r o ta tb tc):=by
 intro pins s f H Q I h;refine Compare_chain (thP (p pins s f H _ I h) λv B x C E G J=>chain_link (thP (q pins B f C _ E J) λu L y M N j O=>
  thP (n pins L f M x y v u _ N G j O) λd T z l m U g=>?_)) A
 have%[k,rfl|g]:=qC g;cases U;refine wpAny_truthy_bool ?_;cases k with
 | false=>exact ite_ff %[.bl false,l,m,rfl|g]
 | true=>exact ite_tt (chain_last (thP (w pins T f l _ m g) λY s4 z' H4 I4 r4 q4=>i pins s4 f H4 y z' u Y Q I4 j r4 q4))
abbrev zv(K:ZA)(x:V)(H:Hp)(k:Bool):Prop:=
 match x with
 | .non=>k=false
 | .bl b=>k=b
 | .int i=>k=(i != 0)
 | .str y=> ~~~y<=sizeLine/\k=((~~~y:Int) != 0)
 | .byt y=>y.size<=sizeLine/\k=((y.size:Int) != 0)
 | .ref p=>(∃xs,SqL K H p xs/\k=!xs.isEmpty)\/(∃xs,SqT K H p xs/\k=!xs.isEmpty)\/∃d,H p∣.dK d/\k=!d.isEmpty
 | _=>False
def wC{e:Type}{d:List (e×V)}{vs:List _}(r:KV d vs):(!vs.isEmpty)=!d.isEmpty:=by
 cases r<;> rfl
def nK(r:aN xs its):(!its.toArray.isEmpty)=!xs.isEmpty:=by
 cases r<;> simp
def sO:sizeLine<2^63:=!1
def F8:TruR X (λx H Q=>∃k,zv X.K x H k/\Q k H):=by
 intro pins s w H x v Q I j h;have%[k,e|q]:=h;have z:=sO;have A:sizeLine=16777216:=sizeLine_eq;cases x with
 | non=>
   cases j;have d:k=false:=e;subst d;exact truthy_none %[H,I|q]
 | bl b=>
   cases j;have d:k=b:=e;subst d;exact wpAny_truthy_bool %[H,I|q]
 | int i=>
   have%[t|rfl]:=j;have d:k=(i != 0):=e;subst d;exact PySem.P.truthy_int %[H,I|q]
 | str y=>
   have%[t|rfl]:=j;obtain⟨o,d⟩: ~~~y<=sizeLine/\k=((~~~y:Int) != 0):=e;subst d;exact PySem.P.truthy_str ⋯ %[H,I.tok _|q]
 | byt y=>
   have%[t|rfl]:=j;obtain⟨o,d⟩:y.size<=sizeLine/\k=((y.size:Int) != 0):=e;subst d;exact PySem.W.truthy_bytes ⋯ %[H,I.tok _|q]
 | ref p=>
   cases j;have d:(∃xs,SqL X.K H p xs/\k=!xs.isEmpty)\/(∃xs,SqT X.K H p xs/\k=!xs.isEmpty)\/∃f,H p∣.dK f/\k=!f.isEmpty:=e;rcases d with⟨xs,l,d⟩|⟨xs,l,d⟩|⟨f,l,d⟩
   .subst d;have%[its,r,pl|n]:=I.list l;have g:= ~~~r;exact wpAny_truthy_list pl.isList (by simp only[Zp];lia) %[H,I.tok _|(nK r)▸q]
   .subst d;have%[its,r,pl|n]:=I.tuple l;have g:= ~~~r;exact truthy_tuple pl (by simp only[Zp];lia) %[H,I.tok _|(nK r)▸q]
   .subst d;obtain⟨n,u,vs,r,m⟩: ~~~f<=sizeLine/\(p==sysModules)=false/\∃vs,KV f vs/\s.heap.DictOf (aM X.prog X.w) p vs:=I.hok p _ l;have g: ~~~f= ~~~vs:=Paired.length r;exact wpAny_truthy_dict u m ⋯ %[H,I.tok _|(wC r)▸q]
 | _=>exact(show False from e).elim
def Bd(g:PE X a ta)(i:∀d,isTrue a X.env d=(do let v<-d;standAt a.pos;holding [v] (truthy v))):
 PT X a (λe H Q=>ta e H λx f=>∃k,zv X.K x f k/\Q k f):=by
 intro pins s e H Q I h;exact isTrue_plain (thP (g pins s e H _ I h) λv j x l m n o=>F8 pins j e l x v Q m n o) (i _)
def nL:OpR X (binaryOp .Add) (λx y H Q=>∃i j,x= .str i/\y= .str j/\ ~~~i+ ~~~j<=sizeLine/\Q (.str (i++j)) H):=by
 intro pins s g H x y v u Q I d e h;have%[i,j,rfl,rfl,f|q]:=h;have%[t|rfl]:=d;have%[t'|rfl]:=e;exact add_str (λt' tk=>%[.str _,H,I.tok _,%[_|rfl]|q]) f
def cu(r:aN [x] us):∃u,us=[u]/\aV x u:=by
 cases r with
 | cons d e=>cases e;exact%[_,ρ|d]
def kh(r:aN [x,y] us):∃u d,us=[u,d]/\aV x u/\aV y d:=by
 cases r with
 | cons e f=>
   cases f with
   | cons g h=>cases h;exact%[_,_,ρ,e|g]
def Be:cr X (.builtin "abs") (λxs H Q=>∃i,xs=[.int i]/\Q (.int (if i<0 then -i else i)) H):=by
 intro pins s d H xs us Q I r h;have%[i,rfl|q]:=h;have%[u,rfl,t|rfl]:=cu r;exact call_abs_int λu tk=>%[.int _,H,I.tok _,%[_|rfl]|q]
def zw(e:X.calm=true):cr X (.builtin "min") (λxs H Q=>∃i j,xs=[.int i,.int j]/\Q (.int (if j<i then j else i)) H):=by
 intro pins s f H xs us Q I r h;have%[i,j,rfl|q]:=h;have%[u,g,rfl,%[t|rfl],t'|rfl]:=kh r;refine min_two_ints (I.ok.hd e) λh' tk k=>%[_,H,I.kept k,?_|q]
 by_cases d:j<i
 .rw[if_pos d,if_pos d];exact%[_|ρ]
 .rw[if_neg d,if_neg d];exact%[_|ρ]
def zx:cr X (.type "int") (λxs H Q=>(∃i,xs=[.int i]/\Q (.int i) H)\/∃k,xs=[.bl k]/\Q (.int (if k then 1 else 0)) H):=by
 intro pins s e H xs us Q I r h;rcases h with⟨i,rfl,q⟩|⟨k,rfl,q⟩
 .have%[u,rfl,t|rfl]:=cu r;exact call_int_int %[.int i,H,I,%[_|rfl]|q]
 .have%[u,rfl|d]:=cu r;cases d;exact call_int_bool %[.int _,H,I.tok _,%[_|rfl]|q]
def sP:cr X (.type "str") (λxs H Q=>∃i,xs=[.int i]/\i.natAbs.log2<1920/\Q (.str (toString i)) H):=by
 intro pins s e H xs us Q I r h;have%[i,rfl,d|q]:=h;have%[u,rfl,t|rfl]:=cu r;exact PySem.P.str_of_int d %[.str _,H,I.tok _,%[_|rfl]|q]
abbrev DD(K:ZA)(x:V)(H:Hp)(n:Nat):Prop:=
 match x with
 | .str y=> ~~~y<=sizeLine/\n= ~~~y
 | .byt y=>y.size<=sizeLine/\n=y.size
 | .ref p=>(∃xs,SqL K H p xs/\n= ~~~xs)\/∃xs,SqT K H p xs/\n= ~~~xs
 | _=>False
def Bf:cr X (.builtin "len") (λxs H Q=>∃x n,xs=[x]/\DD X.K x H n/\Q (.int n) H):=by
 intro pins s o H xs us Q I r h;have%[x,n,rfl,e|q]:=h;have%[u,rfl|g]:=cu r;have v:=sizeLine_eq;cases x with
 | str y=>
   have%[t|rfl]:=g;obtain⟨l,f⟩: ~~~y<=sizeLine/\n= ~~~y:=e;subst f;exact len_str ⋯ %[.int _,H,I.tok _,%[_|rfl]|q]
 | byt y=>
   have%[t|rfl]:=g;obtain⟨l,f⟩:y.size<=sizeLine/\n=y.size:=e;subst f;exact PySem.W.len_bytes ⋯ %[.int _,H,I.tok _,%[_|rfl]|q]
 | ref p=>
   cases g;have f:=e;rcases f with⟨xs,i,f⟩|⟨xs,i,f⟩
   .subst f;have%[its,j,pl|m]:=I.list i;have d:= ~~~j;exact Calls.call_len_list pl.isList (by simp only[Zp];lia) %[.int xs.length,H,I.tok _,%[_|by simp only[Zp];rw[d]]|q]
   .subst f;have%[its,j,pl|m]:=I.tuple i;have d:= ~~~j;exact len_tuple pl (by simp only[Zp];lia) %[.int xs.length,H,I.tok _,%[_|by simp only[Zp];rw[d]]|q]
 | _=>exact(e).elim
end
structure wD (h:Heap) (x dx C:Addr) (mA:ZC):Prop where
 obj:h.get? x∣instObj C dx
 ns:h.Ns1 dx mA
 ne:dx≠x
def zA{h:Heap}{c:ZC}(n:h.Ns1 f c):∃d,h.get? f∣d/\∀name,lookIn name d∣c name:=by
 have%[o,es,p,g,i,j,_|l]:=n;refine%[o,g|λname=>?_];have e:=l name;unfold nsFind findBy at e;rw[<-Array.find?_toList]at e;unfold lookIn;rw[i];dsimp only
 split
 .rename_i y q
  rw[q]at e;exact congrArg some e
 .rename_i q
  rw[q]at e;have a:es.toList.any (·.refKey)=false:=by
   rw[List.any_eq_false];intro y m;have%[z,t|b]:=j y (mem_toList_iff.mp m);simp[DictEntry.refKey,b]
  rw[if_neg (a▸Zt)];exact congrArg some e
def wD.look(I:wD h x b C c):∃a,PySem.W.InstAt h x (instObj C b) C (some a)/\∀name,lookIn name a∣c name:=
 let⟨a,d,e⟩:=zA I.ns
 %[a,%[I.obj,rfl,rfl|d]|e]
section
#where
variable{K:ZA}{x dx C f:Addr}{mA:ZC}{name:Str}{v:Value}
def DE(X:K.In s.heap)(I:wD s.heap x dx C mA)(c:plainGet K C name=true)(d:hasDictIn K C=true)
 (e:findIn K (.ref C) name∣none) (g:mA name∣v) (a:handedIn v=true) (h:Q v {s with toks:=s.toks+1}):
 ↥A (getAttr (.ref x) name b) Q E s:=by
 have%[j,J|i]:=I.look;exact PySem.W.get_value X J (plainGet_of c).1 (PySem.W.findObj_own d e rfl (by rw[i,g])) a h
def Bg(X:K.In s.heap)(I:wD s.heap x dx C mA)(a:plainGet K C name=true)
 (b:findIn K (.ref C) name∣some (.ref f)) (c:isFn K (.ref f)=true) (d:mA name=none) (h:Q (.ref f,[.ref x]) s):
 ↥A (getMethod (.ref x) name pl) Q E s:=by
 have%[e,J|g]:=I.look;exact PySem.W.method_fn X J (plainGet_of a).1 (plainGet_of a).2 b (beq_iff_eq.mp c) (by show(lookIn name e).map _∣false;rw[g,d];rfl) h
def DF(X:K.In s.heap)(I:wD s.heap x dx C mA)
 (j:findIn K (.ref C) "__setattr__"=some (some (.builtin "object.__setattr__"))) (l:plainOver K C=true) (m:takerIn K C name∣none) (n:hasDictIn K C=true)
 (hw:PySem.Within mA o) (p: ~~~o<=sizeLine)
 (h:∀h',wD h' x dx C (λy=>if y=name then some v else mA y)->SameBut dx s.heap h'->Q () {s with heap:=h',toks:=s.toks+2}):
 ↥A (setAttr (.ref x) name v) Q E s:=by
 have%[z,J|B]:=I.look;refine PySem.W.set_plain X J j (PySem.W.osa_open X J l m λb=>?_);have%[G,q|d]:=PySem.W.any_some n;refine Z2 (Z3 (Z2 (Z2 (wpAny_loadPart I.obj (Z2 (Looks.here (PySem.W.looks_clsIn X q) ?_))))));rw[d];refine Z3 (Z2 (Z3 (Z2 (wpAny_nsSet1 I.ns λh' a c=>?_))));have%[H,r,u,e,g|i]:=a.count (PySem.Within.cons name v hw);exact Z2 (wpAny_lookBehind e (g▸pastItsLine_dict (Yg i (!2))) (Z3 (h _ %[(c.2 _ (Ne.symm I.ne)).trans I.obj,a|I.ne] c)))
def Bh{R:Result->Shared->Prop}(X:K.In s.heap)(b:makesIn K C=true)
 (hi:findIn K (.ref C) "__init__"=some (some (.ref f))) (c:PySem.W.typeIn K (.ref f)∣.type "function")
 (h:codeAny (model prog w) (A.under (.builtin "type.__call__" %[.ref C::vs|a])) (.call (.ref f) %[.ref (⇑s+1)::vs|a]) (PySem.W.InitBack (⇑s+1) R)
  {s with heap:=(s.heap.push emptyDict).push (instObj C ⇑s)}):
 codeAny (model prog w) A (.call (.ref C) %[vs|a]) R s:=by
 exact PySem.W.make_core (PySem.W.makes_of X b) (PySem.W.looks_findIn X hi) (λself=>PySem.W.bind_fn X self c) (.inl rfl) h
end
abbrev dH(f:Str)(v:V):List (Str×V)->List (Str×V)
 |[]=>[(f,v)]
 |(g,x)::r=>if g=f then(g,v)::r else(g,x)::dH f v r
def mx(f g:Str)(v:V):∀fs,(dH f v fs).lookup g=if g=f then some v else fs.lookup g
 |[]=>by
  show List.lookup g [(f,v)]=_;by_cases h:g=f
  .have a:=beq_iff_eq.mpr h;simp only[List.lookup,a,if_pos h]
  .have a:=beq_eq_false_iff_ne.mpr h;simp only[List.lookup,a,if_neg h]
 |(k,x)::r=>by
  rw[show dH f v _=(if k=f then(k,v)::r else(k,x)::dH f v r)from rfl];by_cases b:k=f
  .rw[if_pos b];by_cases h:g=k
   .have a:=beq_iff_eq.mpr h;simp only[List.lookup,a,if_pos (h.trans b)]
   .have a:=beq_eq_false_iff_ne.mpr h;simp only[List.lookup,a,if_neg (λe:g=f=>h (e.trans b.symm))]
  .rw[if_neg b];by_cases h:g=k
   .have a:=beq_iff_eq.mpr h;simp only[List.lookup,a,if_neg (λe=>b (h.symm.trans e))]
   .have a:=beq_eq_false_iff_ne.mpr h;simp only[List.lookup,a];exact(mx f g v r)
def lM(f:Str)(v:V):∀fs:List (Str×V),f∈(dH f v fs)\1/\∀g,g∈fs\1->g∈(dH f v fs)\1
 |[]=>%[by simp[dH]|λg h=>by simp at h]
 |(k,x)::r=>by
  have%[a|b]:=lM f v r;rw[show dH f v _=(if k=f then(k,v)::r else(k,x)::dH f v r)from rfl]
  grind
def my(f:Str)(v:V):∀fs,~~~(dH f v fs)<= ~~~fs+1
 |[]=>by simp[dH]
 |(k,x)::r=>by
  have a:=my f v r;rw[show dH f v _=(if k=f then(k,v)::r else(k,x)::dH f v r)from rfl];by_cases b:k=f
  .simp_all
  simp_all
def gE.some_of(r:gE (some v) o):∃u,o∣u/\aV v u:=by
 cases o with
 | none=>exact(r).elim
 | some u=>exact%[u,ρ|r]
def gE.none_of(r:gE none o):o=none:=by
 cases o with
 | none=>rfl
 | some u=>exact(r).elim
def zB(r:aV v u):handedIn u=true:=by
 cases v with
 | non=>cases(r);rfl
 | bl b=>cases(r);rfl
 | int i=>have%[t|e]:=(r);cases e;rfl
 | str x=>have%[t|e]:=(r);cases e;rfl
 | byt b=>have%[t|e]:=(r);cases e;rfl
 | flt b=>have%[t|e]:=(r);cases e;rfl
 | ref a=>cases(r);rfl
 | ty n=>cases(r);rfl
section
variable{P:Program}{w:World}{H H':Hp}{h h':Heap}{a C dx:Addr}{fs fs':List (Str×V)}
def np(c:HOk P w H h)(e:H a∣.ins C dx fs):∃b,wD h a dx C b/\(∀f,gE (fs.lookup f) (b f))/\PySem.Within b (fs\1)/\ ~~~fs<=1000/\H dx∣.own a:=by
 have%[d,z,g,i,b,n,r|q]:=(c a _ e)
 exact%[b,%[i,n|g],r,q,z|d]
end
structure Cls (K:ZA) (C:Addr):Prop where
 pg:plainGet K C Str.empty=true
 hd:hasDictIn K C=true
 po:plainOver K C=true
 sa:findIn K (.ref C) "__setattr__"=some (some (.builtin "object.__setattr__"))
def Cls.get{K:ZA}{C:Addr}(c:Cls K C)(f:Str):plainGet K C f=true:=c.pg
abbrev f9(K:ZA)(C:Addr)(f:Str):Prop:=findIn K (.ref C) f∣none
def f9.taker{K:ZA}{C:Addr}{f:Str}(n:f9 K C f):takerIn K C f∣none:=by
 unfold takerIn;rw[n];rfl
structure DG (K:ZA) (C:Addr) (m:Str) (f:Addr):Prop where
 at_:findIn K (.ref C) m∣some (.ref f)
 fn:isFn K (.ref f)=true
 kp:keepIn K (.ref f)=true
section
variable{X:Cx}{pins:ZE}{σ:St}{H:Hp}{s:Shared}
variable{a C dx:Addr}{fs:List (Str×V)}{f:Str}{v:V}{A:Around}{E:ZD}
def wE(I:Inv X pins σ H s)(e:H a∣.ins C dx fs)(c:Cls X.K C)(n:f9 X.K C f)(l:fs.lookup f∣v)
 (h:∀u s',Inv X pins σ H s'->aV v u->Q u s'):wpAny (model X.prog X.w) A (getAttr (.ref a) f b) Q E s:=by
 have%[i,O,r,_,_|_]:=np I.hok e;have%[u,g|d]:=gE.some_of (l▸r f);exact DE I.kIn O (c.get f) c.hd n g (zB d) (h u _ (I.tok _) d)
def wF(I:Inv X pins σ H s)(e:H a∣.ins C dx fs)(c:Cls X.K C)(k:DG X.K C m g)(l:fs.lookup m=none)
 (h:Q (.ref g,[.ref a]) s):wpAny (model X.prog X.w) A (getMethod (.ref a) m pl) Q E s:=by
 have%[b,O,r,_,_|_]:=np I.hok e;exact Bg I.kIn O (c.get m) k.at_ k.fn (gE.none_of (l▸r m)) h
def wG(I:Inv X pins σ H s)(e:H a∣.ins C dx fs)(c:Cls X.K C)(n:f9 X.K C f)(J: ~~~fs<1000)(l:aV y u)
 (h:∀s',Inv X pins σ (upd H a (.ins C dx (dH f y fs))) s'->Q () s'):wpAny (model X.prog X.w) A (setAttr (.ref a) f u) Q E s:=by
 have%[m,O,r,i,_|j]:=np I.hok e;refine DF I.kIn O c.sa c.po n.taker c.hd i (by rw[Z6,sizeLine_eq];lia) λh' d p=>h _ (I.write (e▸True.intro) (.inr j) (λb q w z=>(p.2 b w).trans z) (let⟨o,_,_,B,_⟩:=d.ns;%[o|B]) %[(ao O.ne)▸j,?_,O.ne,d.obj,_,d.ns,λg=>?_|λg G=>?_])
 .have:=my f y fs;lia
 .rw[mx];by_cases q:g=f
  .rw[if_pos q,if_pos q];exact l
  .rw[if_neg q,if_neg q];exact r g
 .by_cases q:g=f
  .exact q▸(lM f y fs).1
  .refine(lM f y fs).2 g (i g λz=>G ?_);show(if g=f then some u else m g)=none;rw[if_neg q];exact z
def Inv.made(I:Inv X pins σ H s):Inv X pins σ (upd (upd H ⇑s (.own (⇑s+1))) (⇑s+1) (.ins C ⇑s []))
 {s with heap:=(s.heap.push emptyDict).push (instObj C ⇑s)}:=by
 have c:(s.heap.push emptyDict).get? ⇑s∣emptyDict:=Zj s.heap rfl;have g:=by
  have:=Zj (s.heap.push emptyDict) (o:=instObj C ⇑s) rfl;rwa[Zq]at this
 refine(I.laid (o:= .own (⇑s+1)) (t':=s.toks) (λb u q=>Z7 _ q) (Zi _) %[_|c]).laid (λb u q=>Z7 _ q) (Nat.le_of_eq (Zq _ _)) ?_;have d:⇑s≠⇑s+1:=Zs (Yo _);refine%[by rw[ao d,aa],Xh _,d,g,λ_=>none,(Heap.Ns1.of_empty %[emptyDict,#[],_,c,ρ,(λe h=>absurd h ∅)|λ_=>rfl]).at λo q=>Z7 _ q,λ_=>True.intro|λy i=>absurd rfl i]
def DH(c:attributeBase e f env (eval e env)=eval e env)
 (h:↥A (eval e env) (λo b=>↥A (getAttr o f true) Q E b) E s):↥A (eval (.Attribute e f pos) env) Q E s:=
 Attribute_any_ h (by rw[arm_eval_Attribute,c])
end
abbrev F9(K:ZA)(c:TE)(f:Str):TE:=λd H Q=>c d H λx b=>∃a C e fs v,x= .ref a/\b a∣.ins C e fs/\Cls K C/\f9 K C f/\fs.lookup f∣v/\Q v b
abbrev Ga(K:ZA)(e g:TE)(f:Str):TS:=λD b H=>g b H λy h=>e b h λx c=>∃a C d fs,x= .ref a/\c a∣.ins C d fs/\Cls K C/\f9 K C f/\ ~~~fs<1000/\
 D.nx b (upd c a (.ins C d (dH f y fs)))
section
variable{X:Cx}{o e value:Expr}{f:Str}{pos pos' tpos:Pos}{ta tv:TE}
def Gb(b:PE X e ta)(d:attributeBase e f X.env (eval e X.env)=eval e X.env):PE X (.Attribute e f pos) (F9 X.K ta f):=by
 intro pins s g H Q I h;refine DH d (thP (b pins s g H _ I h) λu y x i j m ⟨a,C,z,fs,v,ex,p,c,n,l,q⟩=>?_);subst ex;obtain rfl:u=Value.ref a:=m;exact wE j p c n l λA B r w=>%[v,i,r,w|q]
def Gc(d:PE X o ta)(g:PE X value tv)(i:swapsWith value (some (.Attribute o f pos')) pos.line X.env=pure false):PS X (.Assign [.Attribute o f pos'] value pos) (Ga X.K ta tv f):=by
 intro pins s b H D I h;refine plainObj_wpAny_Assign_Attribute (thP (g pins s b H _ I h) λu j y m p r q=>thP (d pins j b m _ p q) λv G x J w z ⟨a,C,L,fs,ex,A,c,n,l,B⟩=>?_) i;subst ex;obtain rfl:v=Value.ref a:=z;exact wG w A c n l r λM E=>%[b,_,E|B]
end
section
variable{X:Cx}{pins:ZE}{σ:St}{H:Hp}{s:Shared}
variable{A:Around}{E:ZD}{Q:ZD}{c:Value}{b:Bool}
inductive jR (K:ZA) (H:Hp):V->Value->Prop where
 | non:jR K H .non (.type "NoneType")
 | bl (x:Bool):jR K H (.bl x) (.type "bool")
 | int (i:Int):jR K H (.int i) (.type "int")
 | str (x:Str):jR K H (.str x) (.type "str")
 | flt (x:UInt64):jR K H (.flt x) (.type "float")
 | lst {a:Addr} {xs:List V} (e:H a<*xs):jR K H (.ref a) (.type "list")
 | frz {a:Addr} {o:Obj} {xs:List V} (e:H a∣.frz o (.lst xs)):jR K H (.ref a) (.type "list")
 | tup {a:Addr} {xs:List V} (e:H a&&&xs):jR K H (.ref a) (.type "tuple")
 | dK {a:Addr} {kvs:List _} (e:H a∣.dK kvs):jR K H (.ref a) (.type "dict")
 | dT {a:Addr} {kvs:List _} (e:H a∣.dT kvs):jR K H (.ref a) (.type "dict")
 | ins {a C dx:Addr} {fs:List _} (e:H a∣.ins C dx fs) (cl:Cls K C) (ha:findIn K (.ref C) "__class__"=some (some (.builtin "object.__class__")))
  (hn:PySem.W.specialIn K (.builtin "object.__class__") "__get__"=some (some (.builtin "getset_descriptor.__get__"))) (htk:PySem.W.takesIn K (.builtin "object.__class__")∣true)
  (hm:PySem.W.mroIn K C (.type "object")∣true):jR K H (.ref a) (.ref C)
def zC(I:Inv X pins σ H s)(d:aV x u)(ty:jR X.K H x t)(e:kitOne X.K t c∣b)(h:∀tk,Q (.bool b) {s with toks:=tk}):
 wpAny (model X.prog X.w) A (call (.builtin "isinstance") [u,c]) Q E s:=by
 cases ty with
 | non=>cases(d);exact kia_one PySem.W.kitx_none I.kIn True.intro e (λz=>nomatch z) h
 | bl y=>cases(d);exact kia_one PySem.W.kitx_bool I.kIn True.intro e (λz=>nomatch z) h
 | int i=>have%[t|q]:=(d);cases q;exact kia_one PySem.W.kitx_int I.kIn True.intro e (λz=>nomatch z) h
 | str y=>have%[t|q]:=(d);cases q;exact kia_one PySem.W.kitx_str I.kIn True.intro e (λz=>nomatch z) h
 | flt y=>have%[t|q]:=(d);cases q;exact kia_one PySem.W.kitx_float I.kIn True.intro e (λz=>nomatch z) h
 | @lst a xs f=>
   cases(d);have%[_,_,n,_|g]:=(I.hok a _ f)
   exact kia_one kitx_list I.kIn %[_,g|rfl] e (λz=>nomatch z) h
 | @frz a L xs f=>
   cases(d);have%[_,_,_,n,_|g]:=(I.hok a _ f)
   exact kia_one kitx_list I.kIn %[_,g|rfl] e (λz=>nomatch z) h
 | @tup a xs f=>
   cases(d);have%[_,_,_|p]:=(I.hok a _ f)
   have%[o,g,j|_]:=p;exact kia_one PySem.W.kitx_tuple I.kIn %[o,g|j] e (λz=>nomatch z) h
 | @dK a l f=>
   cases(show u=Value.ref a from d);have%[_,_,vs,_|p]:=(I.hok a _ f)
   have%[o,es,v,g,j|_]:=p;exact kia_one kitx_dict I.kIn %[o,g|j.1] e (λz=>nomatch z) h
 | @dT a l f=>
   cases(show u=Value.ref a from d);have%[_,_,xs,_,o,es,v,g,j|_]:=(I.hok a _ f)
   exact kia_one kitx_dict I.kIn %[o,g|j.1] e (λz=>nomatch z) h
 | @ins a C M fs f r w B m G=>
   cases(d);have%[N,O|_]:=np I.hok f;have%[T,J|_]:=O.look;exact kia_one (PySem.W.kitx_own (r.get _) r.hd w B m G) I.kIn J e (λz=>nomatch z) h
end
structure cg (k:Nat) (A:Around):Prop where
 hd:A.handled=none
 dp:A.depth+3*k+5<recursionLimit
 un:A.units+16*k+200<cLine
 gd:A.guards∣[]
def cg.mono(r:cg k A)(h:j<=k):cg j A:=%[r.hd,by have:=r.dp;lia,by have:=r.un;lia|r.gd]
def cg.deeper(r:cg (k+1) A)(env:Env):cg k (A.deeper env):=
 %[r.hd,by have:=r.dp;show A.depth+1+3*k+5<_;lia,by have:=r.un;show A.units+3+16*k+200<_;lia|r.gd]
def wH{A:Around}:(A.under (.builtin "type.__call__" %[.ref C::us|a])).depth=A.depth+1:=by
 first|rfl|lia
def wI{A:Around}:(A.under (.builtin "type.__call__" %[.ref C::us|a])).units=A.units+1:=by
 first|rfl|lia
def cg.make(r:cg (k+1) A)(C:Addr)(us:ZF)(a:List (Str×Value)):cg k (A.under (.builtin "type.__call__" %[.ref C::us|a])):=
 %[r.hd,by have:=r.dp;rw[wH];lia,by have:=r.un;rw[wI];lia|r.gd]
def cg.depth(r:cg k A):A.depth<recursionLimit:=by have:=r.dp;lia
def cg.units(r:cg k A):A.units+64<cLine:=by have:=r.un;lia
abbrev wJ:TA:=λ_ H Q=>Q [] H
abbrev xY(b:TE)(c:TA):TA:=λa H Q=>b a H λx d=>c a d λxs e=>Q (x::xs) e
section
variable{X:Cx}{e:Expr}{es:List Expr}{te:TE}{t:TA}{pos:Pos}
def wK:PA X [] wJ:=λ_ _ _ _ H Q I h=>Calls.spliced_nil %[[],H,I,.nil|h]
def sQ(b:PE X e te)(c:PA X es t)(d:starEach (e::es) X.env=(false,eval e X.env)::starEach es X.env):PA X (e::es) (xY te t):=by
 intro pos pins s a H Q I h;rw[d];show wpAny _ _ (spliced ((false,eval e X.env)::backTo pos _)) _ _ s;exact Calls.spliced_cons (thP (b pins s a H _ I h) λu f x g i j l=>thP (c pos pins f a g _ i l) λus q xs m n o p=>%[x::xs,m,n,.cons j o|p])
abbrev Gd(t:TA):TE:=λb H Q=>t b H λxs a=> ~~~xs<=sizeLine/\∀p,a p=none->Q (.ref p) (upd a p (.tup xs))
abbrev Ge(t:TA):TE:=λb H Q=>t b H λxs a=> ~~~xs<=sizeLine/\∀p,a p=none->Q (.ref p) (upd a p (.lst xs))
def Gf{d}(h:PA X es t):PE X (.Tuple es d pos) (Gd t):=by
 intro pins s f H Q I g;refine wpAny_Tuple_spliced (thP (h pos pins s f H _ I g) λus a xs i c r ⟨z,q⟩=>%[~~~r▸z|?_]);have j:=c.hok.fresh (Zi _);refine%[.ref ⇑a,upd i ⇑a _,c.laid (λb u e=>Z7 _ e) (Zi _) ?_,ρ|q _ j];exact%[z,us,r,_,Zj _ rfl,ρ,_|ρ]
def Gg(h:PA X es t):PE X (.List es pos) (Ge t):=by
 intro pins s d H Q I f;refine wpAny_List_spliced (thP (h pos pins s d H _ I f) λus a xs g c r ⟨z,q⟩=>%[~~~r▸z|?_]);have i:=c.hok.fresh (Zi _);refine%[.ref ⇑a,upd g ⇑a _,c.laid (λb u e=>Z7 _ e) (Zi _) ?_,ρ|q _ i];exact%[z,us,0,r|Zj _ rfl]
end
noncomputable abbrev Sp:=List V->Hp->VK->XK->Prop
noncomputable abbrev CXT:=List Env->Hp->Shared->XK->Value->Shared->Prop
structure wL (P:Program) (w:World) (K:ZA) (mg:ZC) (base:Heap) (A:Around) (outer:List Env) (s:Shared) (H:Hp):Prop where
 frames:A.frames∣outer
 mod:Mod K mg base
 bs:∀b o,base.get? b∣o->s.heap.get? b∣o/\H b=none
 bsz:base.objs.size<=⇑s
 funs:s.heap.FunFrames base outer
 frf:∀b∈frs outer,H b=none
 hok:HOk P w H s.heap
 bare:AllBare s.gens
abbrev CE(outer:List Env)(P:Program)(w:World)(H:Hp)(s:Shared)(Q:VK)(u:Value)(s':Shared):Prop:=
 ∃v a,s'.os=s.os/\AllBare s'.gens/\Un (frs outer) [] H a s.heap s'.heap/\HOk P w a s'.heap/\aV v u/\Q v a
abbrev CR(CX:CXT)(outer:List Env)(P:Program)(w:World)(H:Hp)(s:Shared)(Q:VK)(E:XK)(r:Result)(s':Shared):Prop:=
 match r with
 | .ok (.ret u)=>CE outer P w H s Q u s'
 | .ok _=>False
 | .error e=>CX outer H s E e s'
structure eB (P:Program) (w:World) (K:ZA) (mg:ZC) (base:Heap) (CX:CXT) (k:Nat) (f:Addr) (fd:FuncData) (ps:ZB) (sp:Sp):Prop where
 len:∀vs H Q E,sp vs H Q E-> ~~~vs= ~~~ps
 run:∀A outer s H args us vs Q E,cg k A->wL P w K mg base A outer s H->BindsTo s fd args (ps.zip us)->aN vs us->sp vs H Q E->
  codeAny (model P w) A (.call (.ref f) args) (CR CX outer P w H s Q E) s
def eB.imp{P:Program}{K:ZA}(F:eB P w K mg base CX k f b ps sp)
 (h:∀vs H Q E,a vs H Q E->sp vs H Q E):eB P w K mg base CX k f b ps a:=
 %[λvs H Q E q=>F.len vs H Q E (h _ _ _ _ q)|λA outer s H args us vs Q E c d e g i=>F.run A outer s H args us vs Q E c d e g (h _ _ _ _ i)]
def wL.make{P:Program}{K:ZA}(e:wL P w K mg base A outer s H)(C:Addr)(us:ZF)(a:List (Str×Value)):
 wL P w K mg base (A.under (.builtin "type.__call__" %[.ref C::us|a])) outer s H:=⟨by first|exact e.frames|lia,e.mod,e.bs,e.bsz,e.funs,e.frf,e.hok,e.bare⟩
section
variable{X:Cx}{pins:ZE}{σ:St}{H:Hp}{s s':Shared}
def Inv.env0(I:Inv X pins σ H s):wL X.prog X.w X.K X.mg X.base X.A X.stack s H:=
 %[I.ok.frames,I.ok.mod,I.bs,Yg I.ok.bsz I.sz,I.stack,I.stkFree,I.hok|I.bare]
def Inv.after(I:Inv X pins σ H s)(h:CE X.stack X.prog X.w H s Q u s'):EP X pins σ Q u s':=by
 have%[v,f,os,a,un,c,r|q]:=h;have%[i,g,d,t|e]:=s';obtain rfl:e=s.os:=os;exact%[v,f,I.call un c a (λb z=>absurd z ∅),r|q]
end
abbrev uB(sp:Sp)(dvs:List V)(E:XK)(t:TA):TE:=λa H Q=>t a H λvs b=>sp (vs++dvs) b Q E
abbrev xZ(C:Addr)(m:Str)(sp:Sp)(dvs:List V)(E:XK)(d:TE)(t:TA):TE:=λb H Q=>d b H λx c=>∃a e fs,x= .ref a/\c a∣.ins C e fs/\fs.lookup m=none/\
 t b c λvs f=>sp (x::(vs++dvs)) f Q E
abbrev x4(C:Addr)(sp:Sp)(dvs:List V)(E:XK)(t:TA):TE:=λc H Q=>t c H λvs b=>∀x a,b x=none->b a=none->a≠x->
 sp (.ref x::(vs++dvs)) (upd (upd b a (.own x)) x (.ins C a [])) (λv d=>v= .non/\Q (.ref x) d) E
abbrev fH(K:ZA)(a:FuncData)(ps:ZB)(ds:ZF):Prop:=
 ∀s us,K.In s.heap-> ~~~(us++ds)= ~~~ps->BindsTo s a %[us|[]] (ps.zip (us++ds))
def fH.all{K:ZA}(h:∀us:ZF,~~~us= ~~~ps->bindArgs b %[us|[]]=pure (ps.zip us)):fH K b ps []:=λs us _ a=>by
 rw[Zx]at a ⊢;exact .of_eq (h us a)
abbrev jS(CX:CXT)(X:Cx)(E:XK):Prop:=∀pins (a:St) H s e s',Inv X pins a H s->CX X.stack H s E e s'->X.xe e s'
section
variable{X:Cx}{CX:CXT}{k:Nat}{f C:Addr}{fd:FuncData}{ps:ZB}{sp:Sp}{dvs:List V}{ds:ZF}{E:XK}{x m:Str}{p pos apos:Pos}{e o:Expr}{es:List Expr}{ta:TE}{t:TA}
def Bi(F:eB X.prog X.w X.K X.mg X.base CX k f fd ps sp)(d:cg k X.A)(g:fH X.K fd ps ds)(i:aN dvs ds)(j:jS CX X E)
 (I:Inv X pins b H s) (r:aN vs us) (h:sp (vs++dvs) H Q E):(X⁻¹) (call (.ref f) us) (EP X pins b Q) X.xe s:=by
 have c:=r.append i;refine wpAny_call (codeAny_mono (F.run X.A X.stack s H _ _ _ Q E d I.env0 (g s us I.kIn (~~~c▸F.len _ _ _ _ h)) c h) λr s' a=>?_);cases r with
 | error e=>exact j pins b H s e s' I a
 | ok l=>
   cases l with
   | ret u=>exact I.after a
   | next=>exact False.elim a
   | brk=>exact False.elim a
   | cont=>exact False.elim a
def DI(F:eB X.prog X.w X.K X.mg X.base CX k f fd ps sp)(d:cg k X.A)(g:Gl X x)(i:X.mg x∣.ref f)(j:keepIn X.K (.ref f)=true)(l:fH X.K fd ps ds)(n:aN dvs ds)(u:jS CX X E)
 (v:PA X (e::es) t) (a:(x==("__debug__":Str))=false) (w:starEach (e::es) X.env=(false,eval e X.env)::starEach es X.env) (b:(backTo pos (starEach es X.env)).any (·.1)=false):
 PE X (.Call (.Name x p) (e::es) [] pos) (uB sp dvs E t):=by
 intro pins s y H Q I h;exact wpAny_Call_Name_kw (sK I g i (callWith_K I.ok.mod.kin j (thP (v pos pins s y H _ I h) λus z vs A c r q=>%[c.kIn|Bi F d l n u c r q]) w b) a)
def Bj(i:PE X o ta)(c:Cls X.K C)(d:DG X.K C m f)(F:eB X.prog X.w X.K X.mg X.base CX k f fd ps sp)(j:cg k X.A)(n:fH X.K fd ps ds)(r:aN dvs ds)(v:jS CX X E)
 (w:eval (.Call (.Attribute o m apos) [] [] pos) X.env=(do
  let g<-eval o X.env
  standAt apos.atName
  let(f,first)<-holding [g] (getMethod g m pl)
  callWith pos f first (backTo pos (starEach [] X.env)) (backToKw pos (keywordEach [] X.env)))):
 PE X (.Call (.Attribute o m apos) [] [] pos) (xZ C m sp dvs E ta wJ):=by
 intro pins s y H Q I h;refine PySem.W.methodCall_KW (thP (i pins s y H _ I h) λu B x G b z ⟨a,J,fs,ex,A,l,q⟩=>?_) w;subst ex;obtain rfl:u=Value.ref a:=z;exact wF b A c d l (PySem.W.callWith_K0 b.kIn d.kp (Bi (us:=[.ref a]) (vs:=[.ref a]) F j n r v b (.cons rfl .nil) q))
structure Mk (K:ZA) (C f:Addr):Prop where
 makes:makesIn K C=true
 init:findIn K (.ref C) "__init__"=some (some (.ref f))
 fn:isFn K (.ref f)=true
 kp:keepIn K (.ref C)=true
def Bk(M:Mk X.K C f)(F:eB X.prog X.w X.K X.mg X.base CX k f fd ps sp)(j:cg (k+1) X.A)(l:fH X.K fd ps ds)(n:aN dvs ds)
 (q:jS CX X E) (I:Inv X pins d H s) (r:aN vs us)
 (h:∀x b,H x=none->H b=none->b≠x->sp (.ref x::(vs++dvs)) (upd (upd H b (.own x)) x (.ins C b [])) (λv w=>v= .non/\Q (.ref x) w) E):
 (X⁻¹) (call (.ref C) us) (EP X pins d Q) X.xe s:=by
 have g:=h (⇑s+1) ⇑s (I.hok.fresh (Yf _)) (I.hok.fresh (Zi _)) (Zs (Yo _));have c:=Inv.made (C:=C) I;have i:aN (V.ref (⇑s+1)::(vs++dvs)) _:= .cons rfl (r.append n);have y:=by
  have e:= ~~~i;rw[F.len _ _ _ _ g]at e;exact e.symm
 refine wpAny_call (Bh I.kIn M.makes M.init (beq_iff_eq.mp M.fn) (codeAny_mono (F.run _ X.stack _ _ _ _ _ _ E (j.make C us [])
  (c.env0.make C us []) (l _ _ c.kIn y) i g) λr s' a=>?_))
 cases r with
 | error e=>exact q pins d _ _ e s' c a
 | ok z=>
   cases z with
   | ret u=>
     have%[v,A,B,G,J|L]:=c.after a;subst J;exact%[G,V.ref _,A,B,ρ|L]
   | next=>exact False.elim a
   | brk=>exact False.elim a
   | cont=>exact False.elim a
def DJ(M:Mk X.K C f)(F:eB X.prog X.w X.K X.mg X.base CX k f fd ps sp)(d:cg (k+1) X.A)(g:Gl X x)(i:X.mg x∣.ref C)(j:fH X.K fd ps ds)(l:aN dvs ds)(n:jS CX X E)
 (u:PA X (e::es) t) (a:(x==("__debug__":Str))=false) (v:starEach (e::es) X.env=(false,eval e X.env)::starEach es X.env) (b:(backTo pos (starEach es X.env)).any (·.1)=false):
 PE X (.Call (.Name x p) (e::es) [] pos) (x4 C sp dvs E t):=by
 intro pins s w H Q I h;exact wpAny_Call_Name_kw (sK I g i (callWith_K I.ok.mod.kin M.kp (thP (u pos pins s w H _ I h) λus y vs z c r q=>%[c.kIn|Bk M F d j l n c r q]) v b) a)
end
abbrev PK(X:Cx)(a:List Keyword)(t:TA):Prop:=
 ∀pos pins s (b:St) H Q,Inv X pins b H s->t b H Q->(X⁻¹) (evalAll ((backToKw pos (keywordEach a X.env))\2)) (AP X pins b Q) X.xe s
section
variable{X:Cx}{CX:CXT}{k:Nat}{f C:Addr}{fd:FuncData}{ps ks:ZB}{sp:Sp}{E:XK}{x m:Str}{p pos apos kpos:Pos}{e o:Expr}{es:List Expr}{kws:List Keyword}{te ta:TE}{t tk:TA}{nm:Option Str}
def Bl:PK X [] wJ:=λ_ _ _ _ H Q I h=>wpAny_evalAll_nil %[[],H,I,.nil|h]
def x5(b:PE X e te)(c:PK X kws t):PK X (%[nm,e|kpos]::kws) (xY te t):=by
 intro pos pins s a H Q I h;show wpAny _ _ (evalAll ((do let v<-eval e X.env;standAt pos;pure v)::(backToKw pos (keywordEach kws X.env))\2)) _ _ s;refine wpAny_evalAll_cons (Z2 (thP (b pins s a H _ I h) λu d x g i j l=>Z2 (wpAny_standAt (Z3 ?_))));exact thP (c pos pins d a g _ i l) λus y xs n q r w=>%[x::xs,n,q,.cons j r|w]
variable{g:ZF->ZF->ZF}{gV:List V->List V->List V}
end
structure ax (N P:ZB) (sc:Scope):Prop where
 kind:sc.kind= .function
 co:sc.isCoroutine=false
 gen:sc.isGenerator=false
 nd:N.Nodup
 pre:N.take P.length=P
 par:∀x∈P,sc.names.lookup x∣.local\/sc.names.lookup x∣.cell
 nofree:∀y∈sc.names,y.2≠ .free
def qF{kindOf:Str->Option NameKind}:∀{binds:List (Str×Value)} {m:ZC},(∀v,(x,v)∉binds)->bindL kindOf binds m x=m x
 |[],_,_=>rfl
 |(n,v)::r,m,h=>by
  unfold bindL;rw[qF λw hw=>h w (Zk _ hw)]
  split
  .have:x≠n:=by rintro rfl;exact h v Zm
   simp[this]
  .rfl
def qG{kindOf:Str->Option NameKind}:∀{binds:List (Str×Value)} {m:ZC},(∀v,(x,v)∉binds)->bindC kindOf binds m x=m x
 |[],_,_=>rfl
 |(n,v)::r,m,h=>by
  unfold bindC;rw[qG λw hw=>h w (Zk _ hw)]
  split
  .rfl
  .have:x≠n:=by rintro rfl;exact h v Zm
   simp[this]
def qH{kindOf:Str->Option NameKind}{x:Str}:∀{P:ZB} {vs:ZF} {i:Nat} {m:ZC},P.Nodup->P[i]?∣x->vs[i]?∣v->kindOf x∣.local->
 bindL kindOf (P.zip vs) m x∣v
 |[],_,_,_,_,h,_,_=>by simp at h
 | _::_,[],_,_,_,_,h,_=>by simp at h
 | p::P,w::vs,0,m,nd,a,b,c=>by
   simp at a b;subst a;subst b;show bindL kindOf ((p,w)::P.zip vs) m p=_;unfold bindL;rw[qF λv d=>(nodup_cons.mp nd).1 (of_mem_zip d).1,if_pos c];simp
 | p::P,w::vs,i+1,m,nd,a,b,c=>by
   show bindL kindOf ((p,w)::P.zip vs) m x=_;exact qH (nodup_cons.mp nd).2 (a) (b) c
def qI{kindOf:Str->Option NameKind}{x:Str}:∀{P:ZB} {vs:ZF} {i:Nat} {m:ZC},P.Nodup->P[i]?∣x->vs[i]?∣v->kindOf x≠some .local->
 bindC kindOf (P.zip vs) m x∣v
 |[],_,_,_,_,h,_,_=>by simp at h
 | _::_,[],_,_,_,_,h,_=>by simp at h
 | p::P,w::vs,0,m,nd,a,b,c=>by
   simp at a b;subst a;subst b;show bindC kindOf ((p,w)::P.zip vs) m p=_;unfold bindC;rw[qG λv d=>(nodup_cons.mp nd).1 (of_mem_zip d).1,if_neg c];simp
 | p::P,w::vs,i+1,m,nd,a,b,c=>by
   show bindC kindOf ((p,w)::P.zip vs) m x=_;exact qI (nodup_cons.mp nd).2 (a) (b) c
abbrev start(N:ZB)(vs:List V):St:=vs.map some++List.replicate (~~~N-vs.length) none
abbrev sS(CX:CXT)(P:Program)(w:World)(K:ZA)(mg:ZC)(base:Heap)(N:ZB)(qual:Str)(scope:Scope)(f:Addr)(cd:Value)(A:Around)(outer:List Env)(s:Shared)(H:Hp)(E:XK):Cx where
 prog:=P
 w:=w
 K:=K
 mg:=mg
 base:=base
 A:=A.deeper (envOfC qual scope ⇑s f cd)
 N:=N
 s₀:=s
 H₀:=H
 env:=envOfC qual scope ⇑s f cd
 outer:=outer
 stack:=envOfC qual scope ⇑s f cd::outer
 ex:=[]
 calm:=true
 fn:=λ_=>true
 pn:=[]
 xe:=λe s'=>wpAny (model P w) (A.deeper (envOfC qual scope ⇑s f cd)) (leaving (envOfC qual scope ⇑s f cd) e) (λ_ s''=>CX outer H s E e s'') (λe' s''=>CX outer H s E e' s'') s'
def uC{a:Scope}{n:Nat}{x:Str}(h:a.names.lookup x∣.cell):∃c,(cellsFrom n a.names []).lookup x∣c:=by
 exact isSome_iff_exists.mp (cellsFrom_some a.names n [] (.inl h))
def zD{P:Program}{K:ZA}
 (S:ax N ps a) (J:A.handled=none) (g:wL P w K mg base A outer s H) (T: ~~~vs= ~~~ps) (r:aN vs us)
 (x:InCallC s ⇑s (bindL (envOfC d a ⇑s f C).kindOf (ps.zip us) λ_=>none) (cellsFrom (⇑s+1) a.names []) (bindC (envOfC d a ⇑s f C).kindOf (ps.zip us) λ_=>none) L):
 Inv (sS CX P w K mg base N d a f C A outer s H E) [] (start N vs) H L:=by
 have M: ~~~ps<= ~~~N:=by have:=congrArg List.length S.pre;rw[Yl]at this;lia
 have%[B,tk,rfl|G]:=x.done;have l:∀b,b∉(sS CX P w K mg base N d a f C A outer s H E).ex:=λb z=>absurd (show b∈([])from z) ∅
 refine%[%[g.mod,S.kind,ρ,ρ,Zi _,λy z c B j=>?_,λy m=>?_,λy c _ h=>?_,λ_=>J,Around.frames_deeper g.frames,.inr %[ρ|ρ],λb z=>absurd z (l b),g.bs,g.bsz,λb _ _=>l b,λb z=>absurd z (l b),g.funs|g.frf],
  rfl,g.bare,Un.kept G,%[_,x.toInCall.ns|λi y v B j U=>?_],λy c h=>%[_|x.cell y c h],g.hok.fresh (Zi _),λy c h=>?_,λp n=>absurd (show p∈([])from n) ∅,g.hok.kept G|?_]
 .exact name_of_addr x.apart (PySem.mem_of_lookup B) (PySem.mem_of_lookup j)
 .rcases m with m|m
  .exact uC m
  .exact absurd rfl (S.nofree _ (PySem.mem_of_lookup m))
 .exact Ye (x.above y c (PySem.mem_of_lookup h))
 .have hi:i< ~~~vs:=by
   unfold start at j;by_cases hi:i< ~~~vs
   .exact hi
   .rw[Yb ↑hi]at j;rw[List.getElem?_replicate]at j
    split at j<;> cases j
  have O:vs[i]?∣v:=by
   unfold start at j;rw[Ya ↑hi,Zl]at j
   simp_all
  have%[u,I|Q]:=r.get O;have n:ps[i]?∣y:=by
   rw[<-S.pre,Yc ⋯];exact B
  have o:ps.Nodup:=S.pre▸S.nd.sublist (List.take_sublist _ _);refine%[u,Q|?_];rcases S.par y (Z8 n)with k|k
  .exact .inl %[k|qH o n I k]
  .have%[c|e]:=uC k;refine .inr %[.inl k,c,e|?_];have q:=x.cell y c e;rw[qI o n I (by show a.names.lookup y≠_;rw[k];decide)]at q;exact q
 .exact g.hok.fresh (Ye (x.above y c (PySem.mem_of_lookup h)))
 .unfold start;show _= ~~~N;rw[Z9,Z6,List.length_replicate]
  lia
def HU{P:Program}{K:ZA}{U kV z Y d ct oc:Value}
 (lk:K.lookup f=some %[oc,od,.func (fnOf name c g i a U kV z Y an d ct)|ab]) (L:codeIn K d c=true) (S:ax N ps a)
 (len:∀vs H Q E,sp vs H Q E-> ~~~vs= ~~~ps)
 (l:∀(A:Around) (outer:List Env) (s:Shared) (H:Hp) (vs:List V) (Q:VK) (E:XK),cg k (A.deeper (envOfC c a ⇑s f d))->sp vs H Q E->
  ∃t,PSs (sS CX P w K mg base N c a f d A outer s H E) i t/\t {nx:=λ_ j=>Q .non j,rt:=Q} (start N vs) H):
 eB P w K mg base CX (k+1) f (fnOf name c g i a U kV z Y an d ct) ps sp:=by
 refine%[len|λA outer s H args us vs Q E M B hb r C=>?_];have KX:=B.mod.kin.keeps λb o e=>(B.bs b o e).1
 have O:=B.mod.nolimit.keeps λb o e=>(B.bs b o e).1
 have m:∀y∈ps.zip us,a.names.lookup y.1∣_\/(a.names.lookup y.1∣_/\((cellsFrom (⇑s+1) a.names []).lookup y.1).isSome=true):=λ⟨n,v⟩ hy=>by
  rcases S.par n (of_mem_zip hy).1 with q|q
  .exact .inl q
  .exact .inr %[q|cellsFrom_some _ _ _ (.inl q)]
 refine codeAny_call_function M.depth (KX _ _ lk) rfl S.co S.gen rfl (PySem.W.codeRec_of KX L) (hb _ _ _ _ (wpAny_newFunctionEnv_cells S.kind m λenv he s1 x=>?_));subst he;refine%[O.keeps x.toInCall.keep|codeAny_func ?_];have%[t,ht|hq]:=l A outer s H vs Q E (M.deeper _) C;have I:Inv (sS CX P w K mg base N c a f d A outer s H E) [] _ H s1:=zD S M.hd B (len _ _ _ _ C) r x;refine wpAny_mono (ht [] s1 _ H _ I hq) (λfl s' p=>?_) λe s' p=>p
 have G:∀{h:St} {j:Hp} {v:V} {u:Value},Inv (sS CX P w K mg base N c a f d A outer s H E) [] h j s'->aV v u->Q v j->CE outer P w H s Q u s':=
  λ{h j v u} J T q=>%[v,j,J.os,J.bare,J.base,J.hok,T|q]
 cases fl with
 | ret u=>
   have%[v,h,j,J,T|q]:=p;exact G J T q
 | next=>
   have%[h,j,J|q]:=p;exact G (v:=V.non) J rfl q
 | brk=>
   have%[_,_,_|q]:=p
   simp_all
 | cont=>
   have%[_,_,_|q]:=p;exact False.elim q
section
variable{X:Cx}{x:Str}{p pos:Pos}{e:Expr}{es:List Expr}{t:TA}{id T:String}{r:List V->Hp->VK->Prop}
abbrev tCB(r:List V->Hp->VK->Prop)(t:TA):TE:=λa H Q=>t a H λvs b=>r vs b Q
def Bm(d:cr X (.builtin id) r)(f:Gl X x)(g:X.mg x=none)(i:bootBuiltins x∣.builtin id)(j:PA X (e::es) t)(l:x≠"__name__")(a:(x==("__debug__":Str))=false)
 (m:starEach (e::es) X.env=(false,eval e X.env)::starEach es X.env) (b:(backTo pos (starEach es X.env)).any (·.1)=false):PE X (.Call (.Name x p) (e::es) [] pos) (tCB r t):=by
 intro pins s c H Q I h;exact wpAny_Call_Name_kw (fZ I f g i (PyProof.Rows.callWith_builtin1 (thP (j pos pins s c H _ I h) λus n vs o q u v=>d pins n c o vs us Q q u v) m b) l a)
def zE(d:cr X (.type T) r)(f:Gl X x)(g:X.mg x=none)(i:bootBuiltins x∣.type T)(j:PA X (e::es) t)(l:x≠"__name__")(a:(x==("__debug__":Str))=false)
 (m:starEach (e::es) X.env=(false,eval e X.env)::starEach es X.env) (b:(backTo pos (starEach es X.env)).any (·.1)=false):PE X (.Call (.Name x p) (e::es) [] pos) (tCB r t):=by
 intro pins s c H Q I h;exact wpAny_Call_Name_kw (fZ I f g i (PyProof.Rows.callWith_type1 (thP (j pos pins s c H _ I h) λus n vs o q u v=>d pins n c o vs us Q q u v) m b) l a)
end
end _LL
namespace _HT
open PySem PyProof.Rows
section
open PySem.SeqAt
open PySem.AutoSeq1 (wpAny_loadPart')
open PySem.MeetsSeq PySem.MeetsSeq2 PySem.MeetsSeq3
#where
abbrev sIx(n d:Nat):Option Int->Nat
 | none=>d
 | some v=>if v<0 then(v+n).toNat else min v.toNat n
def sIx_none(n d:Nat):sIx n d none=d:=rfl
def sIx_nat(n d k:Nat):sIx n d (some k)=min k n:=by
 show(if k<0 then((k:Int) +n).toNat else min _ n)=min k n;rw[if_neg ⋯,Int.toNat_natCast]
end
end _HT
namespace _LL
open PySem PySem.Spec PyProof.Rows
noncomputable abbrev TO:=St->Hp->(Option Int->Hp->Prop)->Prop
abbrev PO(X:Cx)(e:Option Expr)(t:TO):Prop:=
 ∀pins s (a:St) H Q,Inv X pins a H s->t a H Q->
  (X⁻¹) (evalPart e X.env) (λu s'=>∃o b,Inv X pins a b s'/\IsPart u o/\Q o b) X.xe s
abbrev sU:TO:=λ_ H Q=>Q none H
abbrev Bn(t:TE):TO:=λa H Q=>t a H λx b=>asI x λi=>Q (some i) b
section
variable{X:Cx}{e:Expr}{te:TE}{lo hi:Option Expr}{tl th:TO}{pos p2:Pos}
def DK:PO X none sU:=by
 intro pins s a H Q I h;exact Z3 %[none,H,I,.none|h]
def DL(h:PE X e te):PO X (some e) (Bn te):=by
 intro pins s a H Q I hw;refine thP (h pins s a H _ I hw) λu g x b c d f=>?_
 have%[i,rfl|q]:=iM f;have%[t|rfl]:=d;exact%[some i,b,c,.int i t|q]
abbrev SlR(X:Cx)(r:V->Option Int->Option Int->Hp->VK->Prop):Prop:=
 ∀pins s (a:St) H x v b c lo hi d Q,Inv X pins a H s->aV x v->s.heap.IsSliceOf d b c .none->IsPart b lo->IsPart c hi->r x lo hi H Q->
  ∃T id,typeLookup (.type T) "__getitem__"=pure (some (.builtin id))/\s.TypeIs v T/\(X⁻¹) (getItem v (.ref d)) (EP X pins a Q) X.xe s
abbrev tSl(r:V->Option Int->Option Int->Hp->VK->Prop)(te:TE)(tl th:TO):TE:=λa H Q=>te a H λx b=>tl a b λl c=>th a c λu d=>r x l u d Q
def Bo(c:SlR X r)(d:PE X e te)(f:PO X lo tl)(g:PO X hi th):PE X (.Subscript e (.Slice lo hi none p2) pos) (tSl r te tl th):=by
 intro pins s a H Q I h;refine Subscript_ (thP (d pins s a H _ I h) λv i x j m n o=>wpAny_Slice (thP (f pins i a j _ m o) λp w l y z pl A=>thP (g pins w a y _ z A) λB C u E G J L=>Z3 ?_));have%[T,id,M,N|O]:=c pins _ a E x v p B l u ⇑C Q (G.kept λb U q=>Z7 _ q) n (Heap.IsSliceOf.new ..) pl J L;exact tail_any N M O (by with_unfolding_all rfl)
abbrev Bp(xs:List V)(lo hi:Option Int):List V:=(xs.drop (_HT.sIx xs.length 0 lo)).take (_HT.sIx xs.length xs.length hi-_HT.sIx xs.length 0 lo)
def uD(xs:List V)(lo hi:Option Int): ~~~(Bp xs lo hi)<= ~~~xs:=by
 unfold Bp;rw[Yl,Yh]
 lia
end
abbrev ixN(n:Nat)(i:Int):Option Nat:=if 0<=i then(if i<n then some i.toNat else none)else if -n<=i then some (i+n).toNat else none
abbrev atI{a:Type}(xs:List a)(i:Int):Option a:=(ixN xs.length i).bind λj=>xs[j]?
def DM(h:ixN n i∣j):seqIndex? i n∣j/\j<n/\ -(n:Int)<=i/\i<n:=by
 unfold ixN at h;by_cases b:0<=i
 .rw[if_pos b]at h;by_cases a:i<n
  .rw[if_pos a]at h;exact%[by rw[seqIndex_of b a,(Za h)],⋯,⋯|a]
  simp_all
 .rw[if_neg b]at h;by_cases a: -n<=i
  .rw[if_pos a]at h;exact%[by rw[seqIndex_neg ⋯ a,(Za h)],⋯,a|⋯]
  .rw[if_neg a]at h;cases h
def sV{a:Type}{xs:List a}{i:Int}{v:a}(h:atI xs i∣v):∃j,seqIndex? i xs.length∣j/\xs[j]?∣v/\j< ~~~xs/\ -xs.length<=i/\i< ~~~xs:=by
 unfold atI at h;cases e:ixN xs.length i with
 | none=>simp_all
 | some j=>
   rw[e]at h;have%[b,c,d|f]:=DM e;exact%[j,b,h,c,d|f]
def b7{a:Type}{xs:List a}{j:Nat}{v:a}(h:xs[j]?∣v):atI xs j∣v:=by
 have b:=(Xo h).1;have e:ixN xs.length j∣j:=by
  unfold ixN
  simp_all
 unfold atI;exact e▸h
def uE(xs:List a)(v:a):atI (xs++[v]) (-1)∣v:=by
 have b: ~~~(xs++[v])= ~~~xs+1:=by simp
 have e:ixN (xs++[v]).length (-1)∣xs.length:=by
  unfold ixN;rw[b,if_neg (!1),if_pos ⋯]
  congr 1
  lia
 unfold atI
 simp_all
abbrev nq(b:Expr):Prop:=∀o i,subscripted b false o i=operate [o,i] (getItem o i)
abbrev IxR(X:Cx)(r:R2):Prop:=
 ∀b a pins s (c:St) H x y v u Q,Inv X pins c H s->aV x v->aV y u->r x y H Q->
  subscripted a false v u=operate [v,u] (getItem v u)->(X⁻¹) (subscriptTail b a v u) (EP X pins c Q) X.xe s
abbrev MtR(X:Cx)(id:String)(r:V->List V->Hp->VK->Prop):Prop:=
 ∀pins s (a:St) H x xs v us Q,Inv X pins a H s->aV x v->aN xs us->r x xs H Q->
  (X⁻¹) (call (.builtin id) (v::us)) (EP X pins a Q) X.xe s
section
variable{X:Cx}{a b:Expr}{ta tb:TE}{pos:Pos}
def Bq(c:IxR X r)(d:PE X a ta)(e:PE X b tb)(f:nq b):PE X (.Subscript a b pos) (tOp r ta tb):=by
 intro pins s g H Q I h;exact Subscript_ (F0 d e I h λv u i x y j l m n q=>c a b pins i g j x y v u Q l m n q (f _ _))
abbrev Gh(K:ZA):R2:=λx y H Q=>asR x λp=>asI y λi=>∃xs,SqL K H p xs/\∃v,atI xs i∣v/\Q v H
abbrev Gi(K:ZA):R2:=λx y H Q=>asR x λp=>asI y λi=>∃xs,SqT K H p xs/\∃v,atI xs i∣v/\Q v H
abbrev Gj:R2:=λx y H Q=>∃z i c,x= .str z/\y= .int i/\ ~~~z<=sizeLine/\atI z.cps.toList i∣c/\Q (.str ⟨#[c]⟩) H
def DN:IxR X (Gh X.K):=by
 intro e f pins s B H x y v u Q I C E h n;have%[p,rfl|g]:=ef h;have%[i,rfl,xs,G,z,J|q]:=iM g;cases C;have%[t|rfl]:=E;have%[its,r,pl|O]:=I.list G;have%[j,d,g,T,L|M]:=sV J;have%[w,o|l]:=r.get g;have N:= ~~~r;have U:=sO;have c:EP X pins B Q w s:=%[z,H,I,l|q]
 by_cases A:0<=i
 .have m:=by
   rw[seqIndex_of A M]at d;exact Za d
  exact item_listR pl.isList A ⋯ (by rw[m];simpa using o) c n
 .have m:(i+its.toArray.size).toNat=j:=by
   rw[seqIndex_neg ⋯ L]at d;rw[Zp,<-N];exact Za d
  exact subscriptTail_builtinR pl.isList.typeIs slot_list_getitem.lookup
   (wpAny_getItem_list_neg pl.isList ⋯ (!2) ⋯ (by rw[m];simpa using o) %[rfl|c]) n
def Gk:IxR X (Gi X.K):=by
 intro c d pins s l H x y v u Q I m n h o;have%[p,rfl|e]:=ef h;have%[i,rfl,xs,A,z,B|q]:=iM e;cases m;have%[t|rfl]:=n;have%[its,r,pl|G]:=I.tuple A;have%[j,C,e,J,L|M]:=sV B;have%[w,E|f]:=r.get e;have N:=sO;have g:EP X pins l Q w s:=%[z,H,I,f|q]
 exact subscriptTail_builtinR pl.typeIs slot_tuple_getitem.lookup
  (getItem_tuple pl ⋯ ⋯ (by rw[Zp,<-r.length];exact C) ↑E %[rfl|g]) o
def Gm:IxR X Gj:=by
 intro d e pins s A H x y v u Q I g l h m;have%[z,i,c,rfl,rfl,B,n|q]:=h;have%[t|rfl]:=g;have%[t'|rfl]:=l;have%[j,f,o,C,p|r]:=sV n;have w: ~~~z.cps.toList= ~~~z:=by simp[Str.length]
 rw[w]at f p r;have E:=sO;exact tail_any (typeIs_str s z t) slot_str_getitem.lookup (getItem_str (by
  lia) (by rw[f];simpa using o) %[.str _,H,I.tok _,%[_|rfl]|q]) m
def sW(lo hi:Option Int)(n:Nat):(sliceBounds lo hi none n).1=((_HT.sIx n 0 lo:Nat):Int)/\(sliceBounds lo hi none n).2.1=((_HT.sIx n n hi:Nat):Int)/\(sliceBounds lo hi none n).2.2=1:=by
 have k5:∀i:Int,i<0->max 0 (min (i+n) n)=((i+n).toNat:Int):=λi h=>by rw[Int.ofNat_toNat,Int.max_comm,Int.min_eq_left (by lia)]
 have k6:∀i:Int,¬i<0->max 0 (min i n)=((min i.toNat n:Nat):Int):=λi h=>by
  obtain ⟨k,rfl⟩:=Int.eq_ofNat_of_zero_le (Int.not_lt.mp h)
  rw[Int.toNat_natCast];rcases Nat.le_total k n with h|h
  .rw[Nat.min_eq_left h,Int.min_eq_left (Int.ofNat_le.mpr h),Int.max_eq_right (Int.natCast_nonneg _)]
  .rw[Nat.min_eq_right h,Int.min_eq_right (Int.ofNat_le.mpr h),Int.max_eq_right (Int.natCast_nonneg _)]
 refine%[?_,?_|ρ]
 .cases lo with
  | none=>simp[sliceBounds,_HT.sIx]
  | some i=>
    simp only[sliceBounds,_HT.sIx,getD_none,show(1:Int)>0 by decide,if_true];by_cases h:i<0
    .simp only[h,if_true]<;> first|exact k5 i h|lia
    .simp only[h,if_false]<;> first|exact k6 i h|lia
 .cases hi with
  | none=>simp[sliceBounds,_HT.sIx]
  | some i=>
    simp only[sliceBounds,_HT.sIx,getD_none,show(1:Int)>0 by decide,if_true];by_cases h:i<0
    .simp only[h,if_true]<;> first|exact k5 i h|lia
    .simp only[h,if_false]<;> first|exact k6 i h|lia
def p8(its:ZF)(lo hi:Option Int):slicePick its.toArray lo hi none=((its.drop (_HT.sIx its.length 0 lo)).take (_HT.sIx its.length its.length hi-_HT.sIx its.length 0 lo)).toArray:=by
 have%[c,d|e]:=sW lo hi its.toArray.size;unfold slicePick;rw[c,d,e];simp only[sliceRange_one,pick_run]<;> rfl
abbrev Gn(K:ZA):V->Option Int->Option Int->Hp->VK->Prop:=λx lo hi H Q=>∃a xs,x= .ref a/\SqL K H a xs/\∀p,H p=none->Q (.ref p) (upd H p (.lst (Bp xs lo hi)))
def DO:SlR X (Gn X.K):=by
 intro pins s l H x v m n lo hi o Q I e f pl g h;have%[a,xs,rfl,i|q]:=h;cases e;have%[its,r,d|j]:=I.list i;have c:= ~~~r;refine%["list",_,slot_list_getitem.lookup,d.isList.typeIs|wpAny_getItem_list_slice d.isList f pl g .none ∅ ?_ (!2)];rw[p8,<-c];refine%[.ref ⇑s,_,I.laid (λb p q=>Z7 _ q) (Zi _) ?_,ρ|q _ (I.hok.fresh (Zi _))];exact%[Yg (uD xs lo hi) j,_,0,(r.drop _).take _|Zj _ rfl]
abbrev jH:V->Bool
 | .non=>true
 | .bl _=>true
 | .int _=>true
 | .str _=>true
 | _=>false
abbrev eqV:V->V->Bool
 | .non,.non=>true
 | .bl a,.bl b=>a==b
 | .bl a,.int b=>(if a then 1 else 0)==b
 | .int a,.bl b=>a==(if b then 1 else 0)
 | .int a,.int b=>a==b
 | .str a,.str b=>a==b
 | _,_=>false
def Br(d:aV y u)(c:aV x v)(f:jH y=true)(e:jH x=true):SeqAt.EqAt A s u v (eqV y x):=by
 cases y with
 | non=>
   cases d;cases x with
   | non=>cases c;exact SeqAt.EqAt.same _
   | bl b=>cases c;exact SeqAt.EqAt.none_bool b
   | int b=>have%[t|rfl]:=c;exact SeqAt.EqAt.none_int b t
   | str b=>have%[t|rfl]:=c;exact SeqAt.EqAt.none_str b t
   | _=>exact absurd (show false=true from e) Zt
 | bl a=>
   cases d;cases x with
   | non=>cases c;exact SeqAt.EqAt.bool_none a
   | bl b=>cases c;exact SeqAt.EqAt.bool_bool a b
   | int b=>have%[t|rfl]:=c;exact SeqAt.EqAt.bool_int a b t
   | str b=>have%[t|rfl]:=c;exact SeqAt.EqAt.bool_str a b t
   | _=>exact absurd (show false=true from e) Zt
 | int a=>
   have%[t'|rfl]:=d;cases x with
   | non=>cases c;exact SeqAt.EqAt.int_none a t'
   | bl b=>cases c;exact SeqAt.EqAt.int_bool a t' b
   | int b=>have%[t|rfl]:=c;exact SeqAt.EqAt.int_int a t' b t
   | str b=>have%[t|rfl]:=c;exact SeqAt.EqAt.int_str a t' b t
   | _=>exact absurd (show false=true from e) Zt
 | str a=>
   have%[t'|rfl]:=d;cases x with
   | non=>cases c;exact SeqAt.EqAt.str_none a t'
   | bl b=>cases c;exact SeqAt.EqAt.str_bool a t' b
   | int b=>have%[t|rfl]:=c;exact SeqAt.EqAt.str_int a t' b t
   | str b=>have%[t|rfl]:=c;exact SeqAt.EqAt.str_str a t' b t
   | _=>exact absurd (show false=true from e) Zt
 | _=>exact absurd (show false=true from f) Zt
abbrev eqU(x:V)(u:Value):Bool:=match u with
 | .none=>eqV .non x
 | .bool b=>eqV (.bl b) x
 | .int i _=>eqV (.int i) x
 | .str z _=>eqV (.str z) x
 | _=>false
def Bs(r:aV y u)(f:jH y=true):eqU x u=eqV y x:=by
 cases y with
 | non=>cases r;rfl
 | bl b=>cases r;rfl
 | int i=>have%[t|rfl]:=r;rfl
 | str z=>have%[t|rfl]:=r;rfl
 | _=>exact absurd (show false=true from f) Zt
def ki:∀{xs:List V} {us:ZF},aN xs us->xs.all jH=true->us.any (eqU x)=xs.any λy=>eqV y x
 | _,_,.nil,_=>rfl
 | y::xs,u::us,.cons r t,f=>by
   rw[all_cons,Zv]at f;rw[Zw,Zw,Bs r f.1,ki t f.2]
def iN(d:aV x v)(e:jH x=true):∀{xs:List V} {us:ZF},aN xs us->xs.all jH=true->∀u∈us,SeqAt.EqAt A s u v (eqU x u)
 | _,_,.nil,_=>λu c=>by cases c
 | y::xs,u::us,.cons r t,f=>λg c=>by
   rw[all_cons,Zv]at f;rcases mem_cons.mp c with rfl|c
   .rw[Bs r f.1];exact Br r d f.1 e
   .exact iN d e t f.2 g c
abbrev inV(x:V)(xs:List V):Bool:=xs.any λy=>eqV y x
abbrev rIn(K:ZA)(c:Bool):R2:=λx y H Q=>∃p xs,y= .ref p/\(SqL K H p xs\/SqT K H p xs)/\jH x=true/\xs.all jH=true/\Q (.bl (if c then !inV x xs else inV x xs)) H
def zF:OpR X (compareOp .In) (rIn X.K false):=by
 intro pins s i H x y v u Q I d f h;have%[p,xs,rfl,c,e,fs|q]:=h;cases f;rcases c with c|c
 .have%[its,r,pl|g]:=I.list c;refine SeqAt.in_listAt _ pl.isList (λw hw=>iN d e r fs w ↑hw) %[.bl _,H,I,rfl|?_];rw[show its.toArray.any _=its.any (eqU x) by simp,ki r fs];exact q
 .have%[its,r,pl|g]:=I.tuple c;refine SeqAt.in_tupleAt _ pl (λw hw=>iN d e r fs w ↑hw) %[.bl _,H,I,rfl|?_];rw[show its.toArray.any _=its.any (eqU x) by simp,ki r fs];exact q
def sX:OpR X (compareOp .NotIn) (rIn X.K true):=by
 intro pins s i H x y v u Q I d f h;have%[p,xs,rfl,c,e,fs|q]:=h;cases f;rcases c with c|c
 .have%[its,r,pl|g]:=I.list c;refine SeqAt.notIn_listAt _ pl.isList (λw hw=>iN d e r fs w ↑hw) %[.bl _,H,I,rfl|?_];rw[show its.toArray.any _=its.any (eqU x) by simp,ki r fs];exact q
 .have%[its,r,pl|g]:=I.tuple c;refine SeqAt.notIn_tupleAt _ pl (λw hw=>iN d e r fs w ↑hw) %[.bl _,H,I,rfl|?_];rw[show its.toArray.any _=its.any (eqU x) by simp,ki r fs];exact q
def sY:OpR X (compareOp .NotIn) (λx y H Q=>∃i j,x= .str i/\y= .str j/\Q (.bl (!(!(Builtin.Str.occurrences j i 0 j.length 1).isEmpty))) H):=by
 intro pins s e H x y v u Q I c d h;have%[i,j,rfl,rfl|q]:=h;have%[t|rfl]:=c;have%[t'|rfl]:=d;exact notIn_str %[.bl _,H,I,rfl|q]
def sZ:cr X (.type "list") (λxs H Q=>∃p ys,xs=[.ref p]/\(SqL X.K H p ys\/SqT X.K H p ys)/\∀l,H l=none->Q (.ref l) (upd H l (.lst ys))):=by
 intro pins s A H xs us Q I r h;have%[p,ys,rfl,f|q]:=h;have%[u,rfl|B]:=cu r;cases B;have g:∀its,aN ys its-> ~~~ys<=sizeLine->∀h' d,(∀b z,s.heap.get? b∣z->h'.get? b∣z)->
  h'.get? ⇑s∣_->EP X pins A Q _ {s with heap:=h'}:=λits c i h' d j e=>
  %[.ref ⇑s,_,I.laid j (Zi _) (show ck X.prog X.w _ h' _ (.lst ys)from%[i,its,d,c|e]),rfl|q _ (I.hok.fresh (Zi _))]
 rcases f with f|f
 .have%[its,c,pl|i]:=I.list f;have m:= ~~~c;have%[o,v,w,n|y]:=pl.isList;exact call_list_seq p (.inl rfl) v w y (λh' d j e=>g its c i h' d j e) (by simp only[Zp]<;> lia)
 .have%[its,c,pl|i]:=I.tuple f;have m:= ~~~c;have%[o,v,w,n|y]:=pl;exact call_list_seq p (.inr rfl) v w y (λh' d j e=>g its c i h' d j e) (by simp only[Zp]<;> lia)
abbrev tyV(K:ZA)(T:String)(x:V)(H:Hp):Prop:=match x with
 | .str _=>T="str"
 | .int _=>T="int"
 | .ref p=>(T="list"/\∃xs,SqL K H p xs)\/(T="tuple"/\∃o,K.lookup p∣o/\o.cls= .type "tuple"/\o.dict=none)\/
  (T="dict"/\((∃c,H p∣.dK c)\/∃c,H p∣.dT c))\/(T="set"/\∃S n,H p∣.set S n)
 | _=>False
def Bt(I:Inv X pins q H s)(r:aV x v)(ty:tyV X.K T x H):
 s.TypeIs v T/\∀a,v= .ref a->∃j,s.heap.get? a∣j/\j.dict=none:=by
 cases x with
 | str z=>
   have%[t|rfl]:=r;cases(show T="str" from ty);exact%[typeIs_str s z t|λ_ e=>nomatch e]
 | int i=>
   have%[t|rfl]:=r;cases(show T="int" from ty);exact%[typeIs_int s i t|λ_ e=>nomatch e]
 | ref p=>
   cases r;rcases ty with⟨rfl,xs,l⟩|⟨rfl,o,d,m,f⟩|⟨rfl,d⟩|⟨rfl,S,n,d⟩
   .have%[its,_,pl|_]:=I.list l;refine%[pl.isList.typeIs|λa e=>?_];cases e;have%[o,n,e,c,f|_]:=pl;exact%[o,e|f]
   .refine%[%[o,I.kIn p o d|m]|λa e=>?_];cases e;exact%[o,I.kIn _ o d|f]
   .have z:∃o,s.heap.get? p∣o/\o.ExactDict:=by
     rcases d with⟨g,d⟩|⟨g,d⟩
     .have%[_,_,_,_,o,_,_,e,ex|_]:=I.hok p _ d;exact%[o,e|ex]
     .have%[_,_,_,_,o,_,_,e,ex|_]:=I.hok p _ d;exact%[o,e|ex]
    have%[o,e|ex]:=z;refine%[%[o,e|ex.1]|λa h=>?_];cases h;exact%[o,e|ex.2.1]
   .have%[o,_,_,_,e,ex|_]:=I.hok p _ d;refine%[%[o,e|ex.1]|λa h=>?_];cases h;exact%[o,e|ex.2.1]
 | _=>exact False.elim ty
abbrev DP(K:ZA)(T:String)(r:V->List V->Hp->VK->Prop)(d:TE):TE:=λe H Q=>d e H λx c=>tyV K T x c/\r x [] c Q
abbrev tBM(K:ZA)(T:String)(r:V->List V->Hp->VK->Prop)(e:TE)(t:TA):TE:=λc H Q=>e c H λx d=>tyV K T x d/\t c d λxs f=>r x xs f Q
variable{o e:Expr}{es:List Expr}{to:TE}{t:TA}{name:Str}{apos cpos:Pos}{T id:String}{r:V->List V->Hp->VK->Prop}
def Go(l:PlainAttrs T)(slot:Slot T name id)(f:typeOf (.builtin id)=pure (.type "method_descriptor"))(m:MtR X id r)(n:PE X o to)
 (c:attributeBase o name X.env (eval o X.env)=eval o X.env) (d:(apos.endLine==cpos.line)=true):PE X (.Call (.Attribute o name apos) [] [] cpos) (DP X.K T r to):=by
 intro pins s g H Q I h;refine wpAny_Call_method0_late c d (thP (n pins s g H _ I h) λv p x q i j ⟨ty,u⟩=>?_);have%[w|y]:=Bt i j ty;exact%[T,id,l,slot,f,w,y|Calls.callWith_builtin rfl (PySem.evalArgs_none (m pins p g q x [] v [] Q i j .nil u))]
def HV(p:PlainAttrs T)(slot:Slot T name id)(i:typeOf (.builtin id)=pure (.type "method_descriptor"))(q:MtR X id r)(u:PE X o to)(w:PA X (e::es) t)
 (d:attributeBase o name X.env (eval o X.env)=eval o X.env)
 (g:((backTo cpos (starEach (e::es) X.env)).all (λx=>!x.1)&&(backToKw cpos (keywordEach [] X.env)).all (λx=>x.1.isSome)
  && decide (~~~(e::es)+ ~~~([]:List Keyword)+(if([]:List Keyword).isEmpty then 0 else 1)<30))=true)
 (f:(apos.endLine==cpos.line)=true) (y:starEach (e::es) X.env=(false,eval e X.env)::starEach es X.env) (c:(backTo cpos (starEach es X.env)).any (·.1)=false):
 PE X (.Call (.Attribute o name apos) (e::es) [] cpos) (tBM X.K T r to t):=by
 intro pins s j H Q I h;refine wpAny_Call_method_late d g f rfl (thP (u pins s j H _ I h) λv z x A l m ⟨ty,B⟩=>?_);have%[C|E]:=Bt l m ty;refine%[T,id,p,slot,i,C,E|?_];have n:=w cpos pins z j A _ l B;rw[y]at n ⊢;exact Calls.callWith_builtin (by show(false||(backTo cpos _).any _)=false;rw[c]<;> rfl) (Calls.evalArgs_plain (thn n λus G ⟨vs,J,L,M,N⟩=>q pins G j J x vs v us Q L m M N))
end
abbrev MtM(X:Cx)(id:String)(r:V->List V->Hp->VK->Prop):Prop:=
 ∀pins s (a:St) H x xs v us Q,Inv X pins a H s->aV x v->aN xs us->r x xs H Q->
  (X⁻¹) (call (.builtin id) (v::us)) (EP X pins a Q) X.xe s
def aN.one:∀{x:V} {us:ZF},aN [x] us->∃u,us=[u]/\aV x u
 | _,_,.cons r .nil=>%[_,rfl|r]
def aN.zero:∀{us:ZF},aN [] us->us=[]
 | _,.nil=>rfl
def aN.eraseIdx:∀{xs:List V} {us:ZF} i,aN xs us->aN (xs.eraseIdx i) (us.eraseIdx i)
 | _,_,_,.nil=> .nil
 | _,_,0,.cons _ t=>t
 | _,_,i+1,.cons r t=> .cons r (aN.eraseIdx i t)
def aN.reverse(h:aN xs us):aN xs.reverse us.reverse:=by
 induction h with
 | nil=>exact .nil
 | cons r t a=>rw[List.reverse_cons,List.reverse_cons];exact aN.append a (.cons r .nil)
def aN.rep(h:aN xs us):∀k:Nat,aN (List.replicate k xs).flatten (List.replicate k us).flatten
 | 0=> .nil
 | k+1=>by
   exact aN.append h (aN.rep h k)
def qJ:∀(l:List a) (i:Nat),~~~(l.eraseIdx i)<= ~~~l
 |[],_=>Zi _
 | _::_,0=>Yf _
 | _::r,i+1=>Xb (qJ r i)
def qK(its:ZF):∀k acc,
 List.foldl (λa x2=>a++x2) acc.toArray (List.replicate k its.toArray)=(acc++(List.replicate k its).flatten).toArray
 | 0,acc=>by simp
 | k+1,acc=>by
   have e:acc.toArray++its.toArray=(acc++its).toArray:=by simp
   have b:(acc++its) ++(List.replicate k its).flatten=acc++(List.replicate (k+1) its).flatten:=by
    rw[replicate_succ,List.flatten_cons,Ze]
   rw[<-b,<-qK its k _,<-e,replicate_succ,Y9]
section
variable{X:Cx}{pins:ZE}{σ:St}{H:Hp}{s:Shared}
variable{l b:Addr}{xs ys zs:List V}
def Inv.lset{its its':ZF}{n:Nat}{f:ZJ->ZJ}{t':Nat}(I:Inv X pins σ H s)(a:H l<*xs)
 (e:s.heap.get? l=some {cls:= .type "list",data:= .seq its.toArray n}) (c:f its.toArray=its'.toArray) (d:aN ys its') (g: ~~~ys<=sizeLine):
 Inv X pins σ (upd H l (.lst ys)) {s with heap:=s.heap.update l (Obj.mapSeq f),toks:=t'}:=by
 have q:=PySem.IsL.update e f;rw[c]at q;refine I.write (a▸trivial) (.inl rfl) (λj u h i=>(get?_update_other s.heap _ (Ne.symm h)).trans i) %[_|q] ?_;exact%[g,its',_,d|q]
def Inv.lnew(I:Inv X pins σ H s)(a:aN ys its)(c: ~~~ys<=sizeLine):
 Inv X pins σ (upd H ⇑s (.lst ys)) {s with heap:=s.heap.push {cls:= .type "list",data:= .seq its.toArray},toks:=t'}:=
 I.laid (λ_ _ q=>Z7 _ q) (Zi _) %[c,its,0,a|Zj _ rfl]
def Inv.fresh(I:Inv X pins σ H s):H ⇑s=none:=I.hok.fresh (Zi _)
def Inv.lstM(I:Inv X pins σ H s)(a:H l<*xs): ~~~xs<=sizeLine/\∃its n,aN xs its/\ ~~~xs= ~~~its/\s.heap.get? l=some {cls:= .type "list",data:= .seq its.toArray n}:=by
 have%[z,its,n,r|e]:=I.hok l _ a;exact%[z,its,n,r,~~~r|e]
def uF{n:Nat}(h:n<=sizeLine):Builtin.List.listTooLong n=false:=by
 unfold Builtin.List.listTooLong
 simp_all
end
section
variable{X:Cx}
abbrev tf:V->List V->Hp->VK->Prop:=λx vs H Q=>asR x λl=>∃y,vs=[y]/\∃xs,H l<*xs/\ ~~~xs<sizeLine/\Q .non (upd H l (.lst (xs++[y])))
def qL:MtM X "list.append" tf:=by
 intro pins s f H x vs v us Q I b c h;have%[l,rfl,y,rfl,xs,a,g|q]:=ef h;cases b;have%[u,rfl|d]:=c.one;have%[z,its,n,r,i|e]:=I.lstM a;refine call_meets F.slot_list_append %[_,e|rfl] F.entry_list_append (F.args_list_append_2 _ _) (PySem.list_append l its.toArray n u (!2)) %[e,.non,_,I.lset a e ∅ (r.append (.cons d .nil)) ?_,rfl|q];rw[Z9,Yk]
 lia
abbrev ti:V->List V->Hp->VK->Prop:=λx vs H Q=>∃l b xs zs,x= .ref l/\vs=[.ref b]/\H l<*xs/\H b<*zs/\ ~~~xs+ ~~~zs<=sizeLine/\Q .non (upd H l (.lst (xs++zs)))
def zG:MtM X "list.extend" ti:=by
 intro pins s y H x vs v us Q I f g h;have%[l,b,xs,zs,rfl,rfl,d,i,A|q]:=h;cases f;have%[u,rfl|j]:=g.one;cases j;have%[z,its,n,r,B|e]:=I.lstM d;have%[C,its2,m,o,p|w]:=I.lstM i;have c:its.toArray.size+its2.toArray.size<=sizeLine:=!2
 have a: ¬ (!its.toArray.isEmpty&&Builtin.List.listTooLong (its.toArray.size+its2.toArray.size))=true:=by
  rw[uF c,Bool.and_false];exact Zt
 refine call_meets F.slot_list_extend %[_,e|rfl] F.entry_list_extend (F.args_list_extend_2 _ _)
  (AutoSeq1.list_extend_list_list_0 l its.toArray n b its2.toArray m a ⋯ ⋯) %[e,w,.non,_,I.lset d e ∅ (r.append o) ?_,rfl|q]
 simp_all
abbrev DQ:R2:=λx y H Q=>∃l b xs zs,x= .ref l/\y= .ref b/\H l<*xs/\H b<*zs/\ ~~~xs+ ~~~zs<=sizeLine/\∀p,H p=none->Q (.ref p) (upd H p (.lst (xs++zs)))
def Bu:OpR X (binaryOp .Add) DQ:=by
 intro pins s o H x y v u Q I a c h;have%[l,b,xs,zs,rfl,rfl,d,f,p|q]:=h;cases a;cases c;have%[z,its,n,r,w|e]:=I.lstM d;have%[A,its2,B,g,i|j]:=I.lstM f;refine PySem.P.add_list e j ?_ (by rw[Zp,Zp];lia);have m:its.toArray++its2.toArray=(its++its2).toArray:=by simp
 rw[m];exact%[.ref _,_,I.lnew (r.append g) (by rw[Z9];lia),ρ|q _ I.fresh]
abbrev Gp:R2:=λx y H Q=>∃l k xs,x= .ref l/\y= .int k/\H l<*xs/\ -(2^63)<=k/\k<2^63/\ ~~~xs*k.toNat<=sizeLine/\
 ∀p,H p=none->Q (.ref p) (upd H p (.lst (List.replicate k.toNat xs).flatten))
def DR(xs:List a)(k:Nat):(List.replicate k xs).flatten.length=k* ~~~xs:=by
 simp
def Gq:OpR X (binaryOp .Mult) Gp:=by
 intro pins s E H x y v u Q I o p h;have%[l,k,xs,rfl,rfl,w,A,B,j|q]:=h;cases o;have%[t|rfl]:=p;have%[z,its,n,r,C|e]:=I.lstM w;have c:its.toArray.size*k.toNat<=sizeLine:=by rw[Zp,<-C];exact j
 have d: ¬ its.toArray.size*k.toNat>(2^63-1)/8:=by
  have:sizeLine<=(2^63-1)/8:=!1
  lia
 have f: ¬ (!Builtin.List.listFitsIndex k)=true:=by
  rw[fitsIndex_both A B];exact Zt
 have b: ¬ Builtin.List.listTooLong (its.toArray.size*k.toNat)=true:=by
  rw[uF c];exact Zt
 have g:List.foldl (λi x2=>i++x2) #[] (List.replicate (if its.toArray.isEmpty=true then 0 else k.toNat) its.toArray)=(List.replicate k.toNat its).flatten.toArray:=by
  have G:∀m,List.foldl (λi x2=>i++x2) #[] (List.replicate m its.toArray)=(List.replicate m its).flatten.toArray:=λm=>by
   have:=qK its m []
   simp_all
  cases its with
  | nil=>simp
  | cons a J=>simp_all
 refine wpAny_binaryOp_repeat_ref (!1) %[_,e|rfl] (λs'=>typeIs_int s' k t) noFill_list_mul F.fills_int_mul F.slot_int_rmul repeat_list F.slot_int_index.lookup
  (call_meets F.slot_int_rmul (typeIs_int s k t) F.entry_int_rmul (F.args_int_rmul_2 _ _) (int___rmul___int_list k t l its.toArray n)
   %[e,rfl,%[_,e|rfl]|call_meets F.slot_list_mul %[_,e|rfl] F.entry_list_mul (F.args_list_mul_2 _ _) (AutoListH.list___mul___list_int_3 l its.toArray n k t f d b) %[e|?_]])
 rw[g];exact%[.ref _,_,I.lnew (r.rep k.toNat) (by rw[DR,Nat.mul_comm];exact j),ρ|q _ I.fresh]
#where
end
section
variable{κ:Type}[DecidableEq κ]
abbrev bF(a:List (κ×V))(k:κ):Option V:=(a.find? λb=>decide (b.1=k))\2
abbrev b8(a:List (κ×V))(k:κ)(v:V):List (κ×V):=
 if(a.any λb=>decide (b.1=k))=true then a.map (λb=>if b.1=k then(b.1,v)else b)else a++[(k,v)]
def dW{p:κ×V}{r:List _}{k:κ}(e:p.1=k):bF (p::r) k∣p.2:=by simp[bF,e]
def cW{p:κ×V}{r:List _}{k:κ}(e: ¬ p.1=k):bF (p::r) k=bF r k:=by simp[bF,e]
def iO(k:κ):∀a,(a.any λb=>decide (b.1=k))=(bF a k).isSome
 |[]=>rfl
 | p::r=>by
   rw[Zw];by_cases e:p.1=k
   .simp only[dW e,Zf e,Bool.true_or,Option.isSome_some]
   .rw[cW e,Zh e,Bool.false_or];exact iO k r
def dX(a:List _)(k:κ)(v:V): ~~~(b8 a k v)<= ~~~a+1:=by
 unfold b8
 split
 .simp
 simp_all
def dh{k:κ}(v:V)(h:bF a k=none):b8 a k v=a++[(k,v)]:=by
 unfold b8;rw[iO,h];exact if_neg (!1)
def gE.isSome_eq(r:gE o u):o.isSome=u.isSome:=by
 cases o with
 | none=>cases u with
   | none=>rfl
   | some _=>exact(r).elim
 | some _=>cases u with
   | none=>exact(r).elim
   | some _=>rfl
def gE.getD{o:Option V}{u:Option Value}{d:V}{d':Value}(r:gE o u)(a:aV d d'):aV (o.getD d) (u.getD d'):=by
 cases o with
 | none=>cases u with
   | none=>exact a
   | some _=>exact(r).elim
 | some _=>cases u with
   | none=>exact(r).elim
   | some _=>exact r
def KV.val{vs:List (κ×Value)}(r:KV a vs)(k:κ):gE (bF a k) (valueAt vs k):=by
 induction r with
 | nil=>exact True.intro
 | @cons p q ps qs h t f=>
   have%[d|g]:=h;by_cases e:p.1=k
   .have c:=d.symm.trans e;have b:valueAt (q::qs) k∣q.2:=by simp[valueAt,c]
    rw[dW e,b];exact g
   .have c: ¬ q.1=k:=λz=>e (d.trans z)
    have b:valueAt (q::qs) k=valueAt qs k:=by simp[valueAt,c]
    rw[cW e,b];exact f
def KV.any(r:KV a vs)(k:κ):(a.any λb=>decide (b.1=k))=vs.any λb=>decide (b.1=k):=by
 induction r with
 | nil=>rfl
 | cons h t c=>simp_all
def KV.repl(r:KV c vs)(k:κ)(d:aV y u):
 KV (c.map λa=>if a.1=k then(a.1,y)else a) (vs.map λa=>if a.1=k then(a.1,u)else a):=by
 induction r with
 | nil=>exact .nil
 | @cons p q ps qs h t f=>
   rw[Yq,Yq];refine .cons ?_ f;have%[b|g]:=h;by_cases e:p.1=k
   .rw[if_pos e,if_pos (b.symm.trans e)];exact%[b|d]
   .rw[if_neg e,if_neg (λz=>e (b.trans z))];exact%[b|g]
def KV.put(r:KV a vs)(k:κ)(b:aV y u):KV (b8 a k y) (stored vs k u):=by
 unfold b8 stored;rw[r.any k];by_cases e:(vs.any λc=>decide (c.1=k))=true
 .rw[if_pos e,if_pos e];exact r.repl k b
 .rw[if_neg e,if_neg e];exact Paired.snoc r %[rfl|b]
def KV.keys{a:List (κ×V)}{vs:List (κ×Value)}(r:KV a vs):a\1=vs\1:=by
 induction r with
 | nil=>rfl
 | cons h t b=>simp_all
def KV.length{a:List (κ×V)}{vs:List _}(r:KV a vs): ~~~a= ~~~vs:=Paired.length r
end
def nM{P:Program}(r:aV (kV k) u):(aM P w).is k u=true:=by
 cases k with
 | inl i=>have%[t|e]:=(r);subst e;exact uy P w i t
 | inr x=>have%[t|e]:=(r);subst e;exact mw P w x t
def qM{P:Program}:∀{ks:List Key} {us:ZF},aN (ks.map kV) us->ItemsAre (aM P w) ks us
 |[],_,r=>by cases r;exact .nil
 | k::ks,_,r=>by
   cases r with
   | cons h t=>exact .cons (nM h) (qM t)
noncomputable abbrev KT(H:Hp):List (List Key×V)->List (List Key×Addr×Value)->Prop:=Paired λp q=>p.1=q.1/\H q.2.1&&&p.1.map kV/\aV p.2 q.2.2
def KT.val{a:List (List Key×V)}{xs:List (List Key×Addr×Value)}(r:KT H a xs)(k:List Key):gE (bF a k) ((atKey xs k)\2):=by
 induction r with
 | nil=>exact True.intro
 | @cons p q ps qs h t f=>
   have%[d,_|g]:=h;by_cases e:p.1=k
   .have c:=d.symm.trans e;have b:atKey (q::qs) k∣q.2:=by simp[atKey,c]
    rw[dW e,b];exact g
   .have c: ¬ q.1=k:=λz=>e (d.trans z)
    have b:atKey (q::qs) k=atKey qs k:=by simp[atKey,c]
    rw[cW e,b];exact f
def KT.repl(r:KT H b xs)(k:List Key)(f:aV y u):
 KT H (b.map λc=>if c.1=k then(c.1,y)else c) (xs.map (putAt k u)):=by
 induction r with
 | nil=>exact .nil
 | @cons p q ps qs h t g=>
   rw[Yq,Yq];refine .cons ?_ g;have%[a,d|i]:=h;unfold putAt;by_cases e:p.1=k
   .rw[if_pos e,if_pos (a.symm.trans e)];exact%[a,d|f]
   .rw[if_neg e,if_neg (λz=>e (a.trans z))];exact%[a,d|i]
def KT.put(r:KT H a xs)(k:List Key)(d:H b&&&k.map kV)(c:aV y u):
 KT H (b8 a k y) (storedH xs k b u):=by
 have e:(a.any λf=>decide (f.1=k))=(atKey xs k).isSome:=by
  rw[iO,(r.val k).isSome_eq,isSome_map]
 unfold b8 storedH;rw[e];by_cases q:(atKey xs k).isSome=true
 .rw[if_pos q,if_pos q];exact r.repl k c
 .rw[if_neg q,if_neg q];exact Paired.snoc r %[rfl,d|c]
def KT.keeps(r:KT H a xs)(c:∀b ys,H b&&&ys->d b&&&ys):KT d a xs:=
 Paired.mapP r λ_ _ z=>%[z.1,c _ _ z.2.1|z.2.2]
section
variable{P:Program}{w:World}{H:Hp}{h:Heap}{a:Addr}
def Fj(ok:HOk P w H h)(e:Rd H a u):ck P w H h a u:=e.ok ok
def uG(ok:HOk P w H h)(e:Rd H a (.dK b)): ~~~b<=sizeLine/\(a==sysModules)=false/\∃vs,KV b vs/\h.DictOf (aM P w) a vs:=
 Fj ok e
def km(ok:HOk P w H h)(e:H a∣.dK b): ~~~b<=sizeLine/\(a==sysModules)=false/\∃vs,KV b vs/\h.DictOf (aM P w) a vs:=uG ok (.inl e)
def nN(ok:HOk P w H h)(e:H a&&&ks.map kV):(tupleKind (aM P w)).is h ks a:=by
 have%[_,its,r,o,b,c,n|d]:=(ok a _ e)
 exact%[o,its.toArray,n,b,c,d|qM r]
def uH(ok:HOk P w H h)(e:Rd H a (.dT b)): ~~~b<=sizeLine/\(a==sysModules)=false/\
 ∃xs,KT H b xs/\h.DictOfH (tupleKind (aM P w)) a xs:=by
 have%[z,y,xs,r,o,es,d,f,g,i,j|n]:=(Fj ok e)
 refine%[z,y,xs,r,o,es,d,f,g,i,j,λx c=>?_|n];have all:∀{l:List _} {m:List _},KT H l m->∀x∈m,(tupleKind (aM P w)).is h x.1 x.2.1:=by
  intro l m q
  induction q with
  | nil=>simp
  | @cons p q ps qs u t s=>
    intro x c;rcases mem_cons.mp c with e|c
    .exact nN ok (!2)
    .exact s x c
 exact all r x c
def Fk(ok:HOk P w H h)(e:H a∣.dT b): ~~~b<=sizeLine/\(a==sysModules)=false/\
 ∃xs,KT H b xs/\h.DictOfH (tupleKind (aM P w)) a xs:=uH ok (.inl e)
end
abbrev bQ(H:Hp)(a:Addr)(y:V)(r:Option V):Prop:=
 (∃c k,Rd H a (.dK c)/\y=kV k/\r=bF c k)\/∃c k b,Rd H a (.dT c)/\y= .ref b/\H b&&&k.map kV/\r=bF c k
abbrev eT(H:Hp)(a:Addr)(y v:V)(d:Hp):Prop:=
 (∃c k,H a∣.dK c/\y=kV k/\ ~~~c<sizeLine/\d=upd H a (.dK (b8 c k v)))\/
 ∃c k b,H a∣.dT c/\y= .ref b/\H b&&&k.map kV/\ ~~~c<sizeLine/\d=upd H a (.dT (b8 c k v))
def bQ.k{k:Key}(e:H a∣.dK b):bQ H a (kV k) (bF b k):= .inl %[b,k,.inl e,rfl|rfl]
def eT.k{k:Key}(e:H a∣.dK b)(c: ~~~b<sizeLine):eT H a (kV k) v (upd H a (.dK (b8 b k v))):= .inl %[b,k,e,rfl,c|rfl]
def eT.t{c:List (List Key×V)}{k:List Key}(e:H a∣.dT c)(d:H b&&&k.map kV)(f: ~~~c<sizeLine):
 eT H a (.ref b) v (upd H a (.dT (b8 c k v))):= .inr %[c,k,b,e,rfl,d,f|rfl]
section
variable{X:Cx}{pins:ZE}{σ:St}{H:Hp}{s:Shared}
variable{a:Addr}{y v:V}{u r:Value}{o:Option V}{A:Around}{E:ZD}
def Inv.big(I:Inv X pins σ H s):sysModules<⇑s:=by
 exact Nat.lt_trans (!1) ((I.mod.glob.keeps I.bk).lt)
def zH(w:A.units+1<cLine)(I:Inv X pins σ H s)(g:bQ H a y (some v))(q:aV y u)(h:∀f s',Inv X pins σ H s'->aV v f->Q f s'):
 wpAny (model X.prog X.w) A (getItem (.ref a) u) Q E s:=by
 rcases g with⟨i,k,e,j,l⟩|⟨i,k,b,e,j,B,l⟩
 .subst j;have%[z,C,vs,c|m]:=uG I.hok e;have%[f,hw|d]:=gE.some_of (l▸c.val k);exact wpAny_getItem_of (nM q) m.mapOf hw (h f _ (I.tok _) d)
 .subst j;cases(q);have%[z,C,xs,c|m]:=uH I.hok e;have%[f,hw|d]:=gE.some_of (l▸c.val k);have%[p,G|n]:=map_eq_some_iff.mp hw;refine wpAny_getItem_heap (tupleKind_room_in1 w) (nN I.hok B) m G ?_;rw[n];exact h f _ (I.tok _) d
def d_in(n:A.units+1<cLine)(I:Inv X pins σ H s)(g:bQ H a y o)(m:aV y u)(h:∀s',Inv X pins σ H s'->Q (.bool o.isSome) s'):
 wpAny (model X.prog X.w) A (compareOp .In u (.ref a)) Q E s:=by
 rcases g with⟨d,k,e,f,l⟩|⟨d,k,b,e,f,p,l⟩
 .subst f;have%[z,i,vs,c|j]:=uG I.hok e;refine wpAny_in_of (nM m) i j.mapOf ?_;rw[<-(c.val k).isSome_eq,<-l];exact h _ (I.tok _)
 .subst f;cases(m);have%[z,i,xs,c|j]:=uH I.hok e;refine wpAny_in_heap (tupleKind_room_in1 n) (nN I.hok p) i j ?_;have q:=(c.val k).isSome_eq;rw[isSome_map]at q;rw[<-q,<-l];exact h _ (I.tok _)
def DS(n:A.units+1<cLine)(I:Inv X pins σ H s)(g:bQ H a y o)(m:aV y u)(h:∀s',Inv X pins σ H s'->Q (.bool (!o.isSome)) s'):
 wpAny (model X.prog X.w) A (compareOp .NotIn u (.ref a)) Q E s:=by
 rcases g with⟨d,k,e,f,l⟩|⟨d,k,b,e,f,p,l⟩
 .subst f;have%[z,i,vs,c|j]:=uG I.hok e;refine wpAny_notIn_of (nM m) i j.mapOf ?_;rw[<-(c.val k).isSome_eq,<-l];exact h _ (I.tok _)
 .subst f;cases(m);have%[z,i,xs,c|j]:=uH I.hok e;refine wpAny_notIn_heap (tupleKind_room_in1 n) (nN I.hok p) i j ?_;have q:=(c.val k).isSome_eq;rw[isSome_map]at q;rw[<-q,<-l];exact h _ (I.tok _)
def nt(I:Inv X pins σ H s)(d:Mut (H a))(e:SameBut a s.heap h')(f:∃q,h'.get? a∣q)(new:ck X.prog X.w (upd H a c) h' a c):
 Inv X pins σ (upd H a c) {s with heap:=h',toks:=t'}:=
 I.write d (.inl rfl) (λb q g z=>(e.2 b g).trans z) f new
def tw{P:Program}(z: ~~~b<=sizeLine)(d:(a==sysModules)=false)(c:KV b vs)(e:h'.DictOf (aM P w) a vs):
 ck P w f h' a (.dK b):=%[z,d,vs,c|e]
def zI(N:A.units+1<cLine)(I:Inv X pins σ H s)(g:eT H a y v O)(G:aV y u)(J:aV v r)(h:∀s',Inv X pins σ O s'->Q () s'):
 wpAny (model X.prog X.w) A (setItem (.ref a) u r) Q E s:=by
 rcases g with⟨d,k,e,m,l,n⟩|⟨d,k,b,e,m,L,l,n⟩
 .subst m n;have%[z,p,vs,f|w]:=km I.hok e;have T: ~~~vs<=sizeLine:= ~~~f▸z;have B: ~~~(b8 d k v)<=sizeLine:=by have:=dX d k v;lia
  exact wpAny_setItem_pairs (nM G) w λh' i C=>h _ (nt I (e▸True.intro) C (let⟨q,_,_,j,_⟩:=i;%[q|j]) (tw B p (f.put k J) i))
 .subst m n;cases(G);have%[z,p,xs,f|w]:=Fk I.hok e;have T: ~~~xs<=sizeLine:=(Paired.length f)▸z;have B: ~~~(b8 d k v)<=sizeLine:=by have:=dX d k v;lia
  refine wpAny_setItem_heap (tupleKind_room_in1 N) (nN I.hok L) w λh' i C=>h _ ?_
  have%[q,es,U,j,Y,h3,h4,_|h5]:=i;refine nt I (e▸True.intro) C %[q|j] %[B,p,_,(f.put k L J).keeps λc ys M=>?_,q,es,U,j,Y,h3,h4|h5];rw[ao (Hx M e (λz=>nomatch z))];exact M
variable{kvs:List (Key×V)}{k:Key}
end
abbrev Gr(i:Expr):Prop:=∀a b,subscripted i false a b=operate [a,b] (getItem a b)
def DT{T id:String}
 (m:typeLookup (.type T) "__getitem__"=pure (some (.builtin id))) (n:Gr a)
 (h:↥A (eval c env) (λo e=>↥A (eval a env) (λi b=>b.TypeIs o T/\↥A (getItem o i) Q E b) E e) E s):
 ↥A (eval (.Subscript c a pos) env) Q E s:=by
 refine Subscript_ (wpAny_mono h (λo e g=>wpAny_mono g (λi b d=>?_) λ_ _ x=>x) λ_ _ x=>x);have%[p|d]:=d;refine Z2 (Z2 (wpAny_specialOf p m ?_));have l:↥A (subscripted a false o i) (λr f=>↥A (letTemporaryGo c o r>>= λ_=>pure r) Q E f) E b:=by
  rw[n o i];exact wpAny_operating (wpAny_mono d (λr f j=>Z2 (wpAny_letTemporaryGo (Z3 j))) λ_ _ x=>x)
 first
  | exact Z3 (Z2 l)
  | lia
  | lia
def uI{X:Cx}(I:Inv X pins f H s)(g:bQ H a y o):s.TypeIs (.ref a) "dict":=by
 rcases g with⟨c,k,e,_,_⟩|⟨c,k,b,e,_,_,_⟩
 .have%[_,_,vs,_|d]:=uG I.hok e;exact d.typeIs
 .have%[_,_,xs,_|d]:=uH I.hok e;exact d.typeIs
abbrev Bv(d ty:TE):TE:=λb H Q=>d b H λx e=>ty b e λy c=>∃a v,x= .ref a/\bQ c a y (some v)/\Q v c
abbrev DU(ty d:TE):TE:=λb H Q=>ty b H λy e=>d b e λx c=>∃a o,x= .ref a/\bQ c a y o/\Q (.bl o.isSome) c
abbrev tz(ty d:TE):TE:=λb H Q=>ty b H λy e=>d b e λx c=>∃a o,x= .ref a/\bQ c a y o/\Q (.bl (!o.isSome)) c
abbrev nO(d ty e:TE):TS:=λD b H=>e b H λv f=>d b f λx g=>ty b g λy h=>∃a c,x= .ref a/\eT h a y v c/\D.nx b c
section
variable{X:Cx}{o i e value:Expr}{pos pos' tpos:Pos}{td ty tv:TE}
def DV(f:X.A.units+1<cLine)(j:PE X o td)(hi:PE X i ty)(l:Gr i):PE X (.Subscript o i pos) (Bv td ty):=by
 intro pins s c H Q I h;refine DT PySem.F.slot_dict_getitem.lookup l (thP (j pins s c H _ I h) λu m x n p q r=>thP (hi pins m c n _ p r) λC E y w d z ⟨a,v,ex,g,A⟩=>?_);subst ex;obtain rfl:u=Value.ref a:=q;exact%[uI d g|zH f d g z λG J B b=>%[v,w,B,b|A]]
def Bw(c:X.A.units+1<cLine)(hi:PE X i ty)(d:PE X o td):PC X .In i o (DU ty td):=by
 intro pins s b H Q I h;refine thP (hi pins s b H _ I h) λA f y j l m n=>thP (d pins f b j _ l n) λu B x p q r ⟨a,v,ex,g,w⟩=>?_
 subst ex;obtain rfl:u=Value.ref a:=r;exact d_in c q g m λC z=>%[.bl v.isSome,p,z,rfl|w]
def zJ(c:X.A.units+1<cLine)(hi:PE X i ty)(d:PE X o td):PC X .NotIn i o (tz ty td):=by
 intro pins s b H Q I h;refine thP (hi pins s b H _ I h) λz f y j l m n=>thP (d pins f b j _ l n) λu A x p q r ⟨a,B,ex,g,v⟩=>?_
 subst ex;obtain rfl:u=Value.ref a:=r;exact DS c q g m λC w=>%[.bl _,p,w,rfl|v]
def DW(c:X.A.units+1<cLine)(d:PE X o td)(hi:PE X i ty)(f:PE X value tv)(j:swapsWith value (some (.Subscript o i pos')) pos.line X.env=pure false):
 PS X (.Assign [.Subscript o i pos'] value pos) (nO td ty tv):=by
 intro pins s b H D I h;refine wpAny_Assign_Subscript (thP (f pins s b H _ I h) λr l v m n p q=>thP (d pins l b m _ n q) λu w x z A B C=>thP (hi pins w b z _ A C) λN O y Q E G ⟨a,J,ex,g,L⟩=>?_) j;subst ex;obtain rfl:u=Value.ref a:=B;exact zI c E g G p λT M=>%[b,J,M|L]
end
def Bx{P:Program}(h:Heap)(a:sysModules<h.objs.size):ck P w H (h.push {cls:= .type "dict",data:= .dict #[]}) h.objs.size (.dK []):=
 %[Xh _,beq_eq_false_iff_ne.mpr (Ne.symm (Zs a)),[],.nil|Heap.DictOf.new h]
def By{P:Program}(h:Heap)(a:sysModules<h.objs.size):ck P w H (h.push {cls:= .type "dict",data:= .dict #[]}) h.objs.size (.dT []):=
 %[Xh _,beq_eq_false_iff_ne.mpr (Ne.symm (Zs a)),[],.nil,_,#[],0,Zj _ rfl,%[rfl,rfl|rfl],rfl,rfl|X4]
abbrev wM:TE:=λ_ H Q=>∀p,H p=none->Q (.ref p) (upd H p (.dK []))
abbrev wN:TE:=λ_ H Q=>∀p,H p=none->Q (.ref p) (upd H p (.dT []))
section
variable{X:Cx}{pos:Pos}
def Bz:PE X (.Dict [] [] pos) wM:=λpins s a H Q I h=>
 wpAny_Dict_empty %[.ref ⇑s,_,I.laid (λ_ _ q=>Z7 _ q) (Zi _) (Bx s.heap I.big),rfl|h _ (I.hok.fresh (Zi _))]
def BA:PE X (.Dict [] [] pos) wN:=λpins s b H Q I h=>
 wpAny_Dict_empty %[.ref ⇑s,_,I.laid (a:=⇑s) (o:= .dT []) (t':=s.toks) (λ_ _ q=>Z7 _ q) (Zi _) (By s.heap I.big),rfl|h _ (I.hok.fresh (Zi _))]
end
abbrev gU(a more:List (Key×V)):List (Key×V):=more.foldl (λacc b=>b8 acc b.1 b.2) a
def KV.merge:∀{more:List _} {rs:List _} {a:List _} {vs:List _},KV more rs->KV a vs->KV (gU a more) (merged vs rs):=by
 intro more rs a vs r
 induction r generalizing a vs with
 | nil=>intro q;exact q
 | @cons p q ps qs h t b=>
   intro c;have e:KV (b8 a p.1 p.2) (stored vs q.1 q.2):=by
    have:=c.put p.1 h.2;exact h.1▸this
   exact b e
def jI:∀more a,~~~(gU a more)<= ~~~a+ ~~~more
 |[],a=>by show ~~~a<= ~~~a+0;lia
 | p::r,a=>by
   have b:=jI r (b8 a p.1 p.2);have c:=dX a p.1 p.2;show(gU _ r).length<=_
   grind
structure M1 (X:Cx) (o:Expr) (m:Str) (apos:Pos) (e:Expr) (cpos:Pos):Prop where
 base:attributeBase o m X.env (eval o X.env)=eval o X.env
 few:((backTo cpos (starEach [e] X.env)).all (λx=>!x.1)&&(backToKw cpos (keywordEach [] X.env)).all (λx=>x.1.isSome)
  && decide (~~~([e])+ ~~~([]:List Keyword)+(if([]:List Keyword).isEmpty then 0 else 1)<30))=true
 line:(apos.endLine==cpos.line)=true
 trees:backTo cpos (starEach [e] X.env)=[(false,eval e X.env)]
structure M2 (X:Cx) (o:Expr) (m:Str) (apos:Pos) (e f:Expr) (cpos:Pos):Prop where
 base:attributeBase o m X.env (eval o X.env)=eval o X.env
 few:((backTo cpos (starEach [e,f] X.env)).all (λx=>!x.1)&&(backToKw cpos (keywordEach [] X.env)).all (λx=>x.1.isSome)
  && decide (~~~([e,f])+ ~~~([]:List Keyword)+(if([]:List Keyword).isEmpty then 0 else 1)<30))=true
 line:(apos.endLine==cpos.line)=true
 trees:backTo cpos (starEach [e,f] X.env)=[(false,eval e X.env),(false,eval f X.env)]
section
variable{X:Cx}{pins:ZE}{σ:St}{H:Hp}{s:Shared}
variable{a:Addr}{y d:V}{u r:Value}{o:Option V}{A:Around}{E:ZD}
variable{o:Expr}{e:Expr}{f:Expr}{apos:Pos}{cpos:Pos}{td:TE}{ty:TE}{tx:TE}
variable{kvs:List (Key×V)}
end
end _LL
namespace _AT
open PySem PySem.W PySem.Calls PyProof.Rows
def mX{P:Params}:∀(c:ZL) (vs:ZF),WellAll P h vs (c.map WData.int)->IntsAre vs c:=by
 intro c
 induction c with
 | nil=>
   intro vs w;cases w;exact .nil
 | cons n c d=>
   intro vs w;cases w with
   | cons a b=>
     cases a;exact .cons _ _ (d _ b)
def zK{l:OpenLaw}(o:l.most∣n){P:Params}
 (b:l.row.toRowW.claim.pre args=true) (j:WellAll P h e args):
 ∃a vs c,e=[Value.ref a]/\args=[WData.list (c.map WData.int)]/\h.get? a=some {cls:= .type "list",data:= .seq vs.toArray}/\IntsAre vs c/\ ~~~c<=n:=by
 have m:l.pre.holds [] _=true:=(pre_splitW b).2;have%[d,r,rfl,p|q]:=hasAllW_cons ((pre_splitW b).1);obtain rfl:=hasAllW_nil q;have%[xs,rfl|s]:=hasW_list p;have%[c|rfl]:=items_int s;have f: ~~~c<=n:=by
  unfold OpenLaw.pre at m;have i:=by
   have i:=(holds_andW m).1;rw[o]at i;exact i
  have y:=condW_of i (w_not (w_lt w_lit (w_len_list (w_arg rfl))))
  grind
 cases j with
 | cons u v=>
   cases v;cases u with
   | list w g=>exact%[_,_,c,ρ,ρ,w,mX c _ g|f]
def zL(l:OpenLaw)(args:List WData):l.row.toRowW.claim.post args (.bool true) args=true:=
 postW_of
  (by first|rfl|simp|lia)
  (w_eq_bool (w_res rfl) w_lit) rfl
def attach_call{l:OpenLaw}{n:Nat}{q:Program}
 (I:l.most∣n) (u:d.params.defaults=[])
 (call:∀(w:World) (s₀ b:Shared) (mg v:ZC) (h:Addr) (o:Obj) (y p c:Value) (a:Addr) (vs:ZF) (s:ZL),
  Ground q e [] J w s₀ mg v b.heap->L w b.heap->
  b.heap.get? h∣o->o.data= .func (docDef d.name d.params d.body d.scope y p c)->b.heap.CodeRec p d.name->mg d.name∣.ref h->
  b.heap.get? a=some {cls:= .type "list",data:= .seq vs.toArray}->IntsAre vs s-> ~~~s<=n->b.gens= #[]->
  codeAny (model l.prog w) callerA (.call (.ref h) %[[.ref a]|[]]) (λr s'=>r= .ok (.ret (.bool true))/\OldK b.heap s'.heap/\s'.os=b.os/\AllBare s'.gens) b):
 WalkO q e J L l.row.toRowW d [] (λf vs=>PySem.call f vs):=by
 intro w s₀ b mg v G Y h o y p c M kV N O z C A Q args E as i H T B U;obtain rfl:M= .none:=Dflts.none C u;obtain rfl:kV= .none:=Dflts.noKw C;have%[a,vs,s,rfl,rfl,j,g|m]:=zK I i B;refine enter_call (codeAny_mono (call w s₀ b mg v h o y p c a vs s G Y N (fd_plain O) z A j g m Q) λr s' hq=>?_);have%[rfl,h2,h3|h4]:=hq;exact%[.inl %[.bool true,.bool true,[],ρ,λ_=>rfl,.bool true,zL l _|λ_=>%[List.Pairwise.nil|λ_ hm=>(nomatch hm)]],h2,h3|h4]
section
#where
variable{K:Frag}
end
end _AT
namespace _LL
open PySem PySem.Spec PyProof.Rows
def qN:∀{vs:ZF} {a:ZL},IntsAre vs a->aN (a\4) vs
 | _,_,.nil=> .nil
 | _,_,.cons n t h=> .cons %[t|rfl] (qN h)
abbrev DX(H:Hp):Prop:=∀b,H b=none\/∃o xs,H b∣.frz o (.lst xs)
def law_call{P:Program}{K:ZA}{mg I:ZC}{vs:ZF}
 (U:K.In c.heap) (p:c.heap.Ns mainGlobals mg) (g:c.heap.Ns builtinsNs I) (J:∀x:Str,x≠"__name__"->I x=bootBuiltins x) (y:c.heap.NoLimit) (hg:c.gens= #[])
 (L:c.heap.get? a=some {cls:= .type "list",data:= .seq vs.toArray}) (hi:IntsAre vs M) (Y: ~~~M<=sizeLine) (hr:cg k callerA)
 (F:∀base:Heap,K.In base->base.Ns mainGlobals mg->eB P w K mg base CX k fa fd [x] sp) (l:∀(s:Shared) (u:Value),BindsTo s fd %[[u]|[]] [(x,u)])
 (N:∀H:Hp,DX H->SqL K H a (M\4)->sp [.ref a] H (λv _=>v= .bl true) λ_ _ _=>False)
 (O:∀H e s',CX [] H c (λ_ _ _=>False) e s'->False):
 codeAny (model P w) callerA (.call (.ref fa) %[[.ref a]|[]]) (λr s'=>r= .ok (.ret (.bool true))/\OldK c.heap s'.heap/\s'.os=c.os/\AllBare s'.gens) c:=by
 have rv:=qN hi;have j:∀H,DX H->SqL K H a (M\4)->HOk P w H c.heap->(∀b,H b≠none->b=a)->(H a≠none->K.lookup a=none)->
  codeAny (model P w) callerA (.call (.ref fa) %[[.ref a]|[]]) (λr s'=>r= .ok (.ret (.bool true))/\OldK c.heap s'.heap/\s'.os=c.os/\AllBare s'.gens) c:=by
  intro H hO hS A hA hK;have f:∀{b:Addr} {o:Obj},c.heap.get? b∣o->H b=none->(zi c.heap H).get? b∣o:=λe n=>AR e n
  have Q:∀{b:Addr} {o:Obj} {es:Array DictEntry} {G:Nat},c.heap.get? b∣o->o.data= .dict es G->H b=none:=λ{b o es G} e d=>by
   grind
  have i:∀{b:Addr} {m:ZC},c.heap.Ns b m->(zi c.heap H).Ns b m:=λ{b m} ⟨o,es,G,e,d,r⟩=>%[o,es,G,f e (Q e d),d|r]
  have B:=λb o e=>f (U b o e) (by
   grind)
  refine codeAny_mono ((F _ B (i p)).run callerA [] c H _ _ [.ref a] _ _ hr %[rfl,%[B,i p,%[I,i g|J]|let⟨mc,h1,h2⟩:=y;%[mc,i h1|h2]],λb o e=>Dk e,Nat.le_of_eq (zj _ _),trivial,λb g=>absurd (show b∈([])from g) ∅,A|.of_eq hg] (l c _) (.cons rfl .nil) (N H hO hS)) λr s' h=>?_
  cases r with
  | error e=>exact(O H e s' h).elim
  | ok fl=>
    cases fl with
    | next=>exact False.elim h
    | brk=>exact False.elim h
    | cont=>exact False.elim h
    | ret u=>
      have%[v,H',os,C,un,E,r'|q]:=h;subst q;obtain rfl:u=Value.bool true:=r';refine%[ρ,OldK.of_keep λb o e=>?_,os|C];cases q:H b with
      | none=>exact un.keep b o e q (by intro z;exact absurd (show b∈([])from z) ∅) ∅
      | some u=>
        rcases hO b with z|⟨ob,xs,z⟩
        .rw[q]at z;cases z
        .have%[e1|_]:=A b _ z;have%[e2|_]:=E b _ (un.frzs b ob _ z);rw[e]at e1;cases e1;exact e2
 cases T:K.lookup a with
 | some o=>
   have e:=U a o T;rw[L]at e;cases e;refine j _ (λ_=> .inl rfl) (.inr %[_,vs.toArray,_,T,rfl,rfl,rfl,by rw[Zp,~~~hi];exact Y|rv]) (λb u z=>!2) (λb z=>absurd rfl z) λz=>absurd rfl z
 | none=>
   refine j (λb=>if b=a then some (.frz {cls:= .type "list",data:= .seq vs.toArray} _)else none) (λb=>?_) (.inl (.inr %[{cls:= .type _,data:= .seq vs.toArray}|if_pos rfl])) (λb u z=>?_) (λb z=>?_) λ_=>T
   .by_cases g:b=a
    .exact .inr %[_,_|if_pos g]
    .exact .inl (if_neg g)
   .by_cases g:b=a
    .have z':=(if_pos g).symm.trans z;cases z';subst g;exact%[L,by rw[Z6];exact Y,vs,_,rv|L]
    simp_all
   .by_cases g:b=a
    .exact g
    .exact absurd (if_neg g) z
def walk_of{l:PySem.W.OpenLaw}{J:(Str->Option Value)->Heap->Prop}{E:World->Heap->Prop}{d:DefRec}{K:Params->ZA}{CX:World->CXT}{sp:World->Sp}{x:Str}
 (L:l.most∣n) (p:n<=sizeLine) (r:d.params.defaults=[]) (M:cg k callerA)
 (N:∀(w:World) (h:Heap),E w h->(K w.params).In h)
 (F:∀(w:World) (mg:ZC) (j:Addr) (h:Heap),(K w.params).In h->h.Ns mainGlobals mg->mg d.name∣.ref j->
  ∃y:FuncData,(∀(s:Shared) (u:Value),BindsTo s y %[[u]|[]] [(x,u)])/\
   ∀base:Heap,(K w.params).In base->base.Ns mainGlobals mg->eB l.prog w (K w.params) mg base (CX w) k j y [x] (sp w))
 (z:∀(w:World) (H:Hp) (a:Addr) (m:ZL),~~~m<=n->DX H->SqL (K w.params) H a (m\4)->sp w [.ref a] H (λv _=>v= .bl true) λ_ _ _=>False)
 (A:∀(w:World) (H:Hp) (s:Shared) (e:Value) (s':Shared),CX w [] H s (λ_ _ _=>False) e s'->False):
 PySem.W.WalkO q B J E l.row.toRowW d [] (λf vs=>PySem.call f vs):=by
 refine _AT.attach_call L r λw s₀ g mg mb j o pm cd O a vs m G Y ho hd Q C i c b T=>?_
 have I:=N w _ Y;have%[y,U|hF]:=F w mg j _ I G.T.g C;exact law_call I G.T.g G.T.b G.T.builtins G.T.nolimit T i c (Yg b p) M hF U (λH hO hS=>z w H a m b hO hS) λH e s'=>A w H g e s'
abbrev ko(s:Stmt)(j:Nat):Stmt:=match s with
 | .ClassDef _ _ _ a _ _ _ _ _ _ _=>a.getD j (.Pass %[0,0,0|0])
 | _=> .Pass %[0,0,0|0]
abbrev dq(s:Stmt):Arguments:=match s with
 | .FunctionDef _ a _ _ _ _ _ _ _ _=>a
 | _=>{posonlyargs:=[],args:=[],vararg:=none,kwonlyargs:=[],kw_defaults:=[],kwarg:=none,defaults:=[]}
abbrev cp(s:Stmt):List Stmt:=match s with
 | .FunctionDef _ _ b _ _ _ _ _ _ _=>b
 | _=>[]
abbrev ap(s:Stmt):Scope:=match s with
 | .FunctionDef _ _ _ _ _ _ a _ _ _=>a
 | _=>{kind:= .function,names:=[],isGenerator:=false,isCoroutine:=false}
noncomputable abbrev CX0:CXT:=λ_ _ _ _ _ _=>False
noncomputable abbrev E0:XK:=λ_ _ _=>False
def BB{X:Cx}:jS CX0 X E0:=λ_ _ _ _ _ _ _ h=>h.elim
structure Fun (K:ZA) (x qual:Str) (st:Stmt) (f:Addr) (fd:FuncData):Prop where
 ex:∃oc od kV doc pm an cdv ct osl,
  fd=fnOf x qual (dq st) (cp st) (ap st) .none kV doc pm an cdv ct/\K.lookup f=some %[oc,od,.func fd|osl]/\codeIn K cdv qual=true
 kp:keepIn K (.ref f)=true
section
variable{P:Program}{w:World}{K:ZA}{mg:ZC}{base:Heap}
def Fun.ok{x a:Str}{st:Stmt}{f:Addr}{g:FuncData}{N ps:ZB}{k:Nat}{sp:Sp}(F:Fun K x a st f g)(S:ax N ps (ap st))(len:∀vs H Q E,sp vs H Q E-> ~~~vs= ~~~ps)
 (c:∀b (A:Around) (outer:List Env) s H (vs:List V) Q E,cg k (A.deeper (envOfC a (ap st) ⇑s f b))->sp vs H Q E->
  ∃t,PSs (sS CX0 P w K mg base N a (ap st) f b A outer s H E).nox (cp st) t/\t {nx:=λ_ i=>Q .non i,rt:=Q} (start N vs) H):eB P w K mg base CX0 (k+1) f g ps sp:=by
 have%[n,o,kV,j,p,r,b,ct,l,rfl,lk|d]:=F.ex;refine HU lk d S len λA outer s H vs Q E m e=>?_
 have%[t,h|q]:=c b A outer s H vs Q E m e;exact%[t,h.nox|q]
def Fun.binds{st:Stmt}(F:Fun K x c st f g)
 (h:∀(kV a d:Value) (e:ZI) (b ct:Value) (us:ZF),~~~us= ~~~ps->bindArgs (fnOf x c (dq st) (cp st) (ap st) .none kV a d e b ct) %[us|[]]=pure (ps.zip us)):fH K g ps []:=by
 have%[l,m,kV,a,d,e,b,ct,i,rfl,lk|j]:=F.ex;exact .all (h kV a d e b ct)
def eU{st:Stmt}{kV d e b ct:Value}(l:K.lookup f=some %[i,j,.func (fnOf x a (dq st) (cp st) (ap st) .none kV d e h b ct)|g])
 (c:codeIn K b a=true) (k:keepIn K (.ref f)=true):Fun K x a st f (fnOf x a (dq st) (cp st) (ap st) .none kV d e h b ct):=%[%[i,j,kV,d,e,h,b,ct,g,rfl,l|c]|k]
variable{X:Cx}
def pv(i:Nat)(b:X.N[i]?∣x)(c:Vis X.env.scope x)(d:(x==("__debug__":Str))=false)
 (a:(x==("__classdict__":Str))=false):PE X (.Name x pos) (pZ i):=AU b c d a
end
def p9{A B:Prop}(h:B):if false=true then A else B:=by
 simp_all
def bJ{c A B:Prop}[Decidable c](a:c->A)(b: ¬ c->B):if c then A else B:=by
 simp_all
abbrev ah(H a:Hp):Prop:=∀b o,H b∣o->a b∣o
def ah.refl(H:Hp):ah H H:=λ_ _ h=>h
def ah.trans{H d e:Hp}(a:ah H d)(b:ah d e):ah H e:=λc o h=>b c o (a c o h)
def ah.free{H a:Hp}(e:ah H a){l:Addr}(h:a l=Option.none):H l=Option.none:=by
 cases q:H l with
 | none=>rfl
 | some o=>
   rw[e l o q]at h;cases h
def ah.seq{K:ZA}(e:ah H b)(h:SqL K H a xs):SqL K b a xs:=by
 rcases h with(h|⟨o,h⟩)|h
 .exact .inl (.inl (e _ _ h))
 .exact .inl (.inr %[o|e _ _ h])
 .exact .inr h
section
variable{X:Cx}
end
section
variable{κ:Type}[DecidableEq κ]
def DY{a:List (κ×V)}(h:bF a k∣v):k∈a\1:=by
 have q:(a.any λb=>decide (b.1=k))=true:=by
  rw[iO,h]
  all_goals rfl
 simp_all
def nu:∀{l:List κ} {k:κ},l.Nodup-> ¬ k∈l->(l++[k]).Nodup
 |[],k,_,_=>by simp
 | a::r,k,h,b=>by
   have%[c|d]:=nodup_cons.mp h;refine nodup_cons.mpr %[λm=>?_|nu d λm=>b (mem_cons.mpr (Or.inr m))];rcases Xp m with q|q
   .exact c q
   .exact b (mem_cons.mpr (Or.inl (Xq q).symm))
end
abbrev nP(env:Env):List (Str×NameKind)->List (Str×Addr)->List (Str×Addr)
 |[],acc=>acc
 |(n,k)::r,acc=>nP env r (if k= .free then(n,(env.cells.lookup n).getD 0)::acc else acc)
def nQ:∀(names:List (Str×NameKind)) (acc:List (Str×Addr)),(∀y∈names,y.2= .free->∃c,env.cells.lookup y.1∣c)->
 (forIn names acc λx r=>match x with
  |(name,kind)=>if(kind==NameKind.free)=true then do let a<-cellOf env name;pure (ForInStep.yield ((name,a)::r))else pure (ForInStep.yield r):Sem (List (Str×Addr)))=pure (nP env names acc)
 |[],acc,_=>rfl
 |(n,k)::r,acc,h=>by
  have d:=λacc=>nQ r acc λy f=>h y (Zk _ f)
  rw[forIn_cons];by_cases b:k= .free
  .subst b;have%[c|e]:=h _ Zm rfl;have g:cellOf env n=pure c:=by unfold cellOf;rw[e]
   simp only[beq_self_eq_true,if_true,g,pure_bind];rw[d];show _=pure (nP env r _);rw[if_pos rfl,e]
   all_goals rfl
  .have i:(k==NameKind.free)=false:=↑b
   simp only[i,Y0,if_false,pure_bind];rw[d];show _=pure (nP env r _);rw[if_neg b]
def DZ(h:∀y∈a.names,y.2= .free->∃c,env.cells.lookup y.1∣c):closureFor a env=pure (nP env a.names []):=by
 unfold closureFor;simp only[bind_pure];exact(nQ a.names [] h)
def uJ:∀(names:List (Str×NameKind)) (acc:List (Str×Addr)),(∀y∈names,y.2= .free->∃c,env.cells.lookup y.1∣c)->
 (∀y d,acc.lookup y∣d->env.cells.lookup y∣d)->(nP env names acc).lookup x∣c->env.cells.lookup x∣c
 |[],acc,_,a,e=>a x c e
 |(n,k)::r,acc,h,a,e=>by
  refine uJ r _ (λy b=>h y (Zk _ b)) (λy d q=>?_) e;by_cases f:k= .free
  .rw[if_pos f,Ym]at q;have%[g|i]:=h _ Zm f;cases b:y==n with
   | true=>
     simp_all
   | false=>rw[b]at q;exact a y d q
  .rw[if_neg f]at q;exact a y d q
def nS:∀(names:List (Str×NameKind)) (acc:List (Str×Addr)),(∃c,acc.lookup x∣c)->∃c,(nP env names acc).lookup x∣c
 |[],_,h=>h
 |(n,k)::r,acc,h=>by
  refine nS r _ ?_;by_cases a:k= .free
  .rw[if_pos a,Ym];cases b:x==n with
   | true=>exact%[_|ρ]
   | false=>exact h
  .rw[if_neg a];exact h
def nT:∀(names:List (Str×NameKind)) (acc:List (Str×Addr)),(x,NameKind.free)∈names->∃c,(nP env names acc).lookup x∣c
 |[],_,h=>by simp at h
 |(n,k)::r,acc,h=>by
  rcases mem_cons.mp h with e|h
  .refine nS r _ ?_
   simp_all
  .exact nT r _ h
abbrev bT(X:Cx)(a:Scope)(d:ZB)(b:Shared)(c:Hp)(e:List Addr):Cx:=
 {X with
  N:=d
  s₀:=b
  H₀:=c
  env:=compEnvC a (cellsFrom (⇑b+1) a.names (nP X.env a.names [])) ⇑b X.env
  outer:=X.stack
  stack:=X.stack
  ex:=e
  fn:=λx=>decide (a.names.lookup x∣.cell)
  pn:=[]
  xe:=λ_ _=>False}
structure aC (X:Cx) (scope:Scope) (N':ZB) (cap:List (Nat×Nat)):Prop where
 kind:scope.kind= .function
 cell:∀y∈scope.names,y.2= .cell->scope.names.lookup y.1∣.cell
 loc:∀y∈scope.names,y.2= .local->scope.names.lookup y.1∣.local
 free:∀y∈scope.names,y.2= .free->X.env.kindOf y.1∣.cell\/X.env.kindOf y.1∣.free
 capt:∀p∈cap,∃x,N'[p.1]?∣x/\X.N[p.2]?∣x/\scope.names.lookup x∣.free
abbrev qO(n:Nat)(a:List (Nat×Nat))(b:St):St:=(List.range n).map λj=>(a.lookup j).bind λi=>(b[i]?).join
def mB:∀{l:List _} {j i:Nat},l.lookup j∣i->(j,i)∈l
 |[],_,_,h=>by simp at h
 |(a,b)::r,j,i,h=>by
  rw[Ym]at h;cases c:j==a with
  | true=>
    simp_all
  | false=>rw[c]at h;exact Zk _ (mB h)
def mC{env:Env}{names:List (Str×NameKind)}{x:Str}{k:NameKind}(h:(names.map λ(n,k)=>if(k==NameKind.free&&env.scope.kind== .function&&env.kindOf n==some .cell)then(n,NameKind.cell)else(n,k)).lookup x∣k)
 (a:k= .cell\/k= .free):(x,NameKind.free)∈names\/(x,NameKind.cell)∈names:=by
 have m:=PySem.mem_of_lookup h
 grind
def eK:∀names n acc,cellsFrom n names acc=cellsFrom n names [] ++acc
 |[],_,_=>rfl
 |(x,k)::r,n,acc=>by
  unfold cellsFrom
  split
  .rw[eK r _ _,eK r _ [(x,n)],Ze];rfl
  .exact eK r n acc
def lN:∀{names:List (Str×NameKind)} {n:Nat},(x,c)∈cellsFrom n names []->(x,NameKind.cell)∈names
 |[],_,h=>nomatch h
 |(y,k)::r,n,h=>by
  unfold cellsFrom at h
  split at h
  .rw[eK]at h;rcases Xp h with q|q
   .exact Zk _ (lN q)
   grind
  .exact Zk _ (lN h)
def mD(h:(cellsFrom n names acc).lookup x∣c):(x,c)∈cellsFrom n names []\/((cellsFrom n names []).lookup x=none/\acc.lookup x∣c):=by
 rw[eK,List.lookup_append]at h;cases e:(cellsFrom n names []).lookup x with
 | none=>rw[e]at h;exact .inr %[rfl|h]
 | some d=>
   rw[e]at h;have:=↑h
   exact this▸ .inl (PySem.mem_of_lookup e)
def kq{env:Env}:∀{names:List (Str×NameKind)} {x:Str},names.lookup x∣.free->
 (names.map λ(n,k)=>if(k==NameKind.free&&env.scope.kind== .function&&env.kindOf n==some .cell)then(n,NameKind.cell)else(n,k)).lookup x∣.cell\/
 (names.map λ(n,k)=>if(k==NameKind.free&&env.scope.kind== .function&&env.kindOf n==some .cell)then(n,NameKind.cell)else(n,k)).lookup x∣.free
 |[],_,h=>by simp at h
 |(n,k)::r,x,h=>by
  have c:= @kq env r x;simp only[Yq];cases a:x==n with
  | true=>
    rw[Ym,a]at h;have d:=Za h;subst d;by_cases b:((NameKind.free==NameKind.free)&&env.scope.kind== .function&&env.kindOf n==some .cell)=true
    .rw[if_pos b,Ym,a];exact .inl rfl
    .rw[if_neg b,Ym,a];exact .inr rfl
  | false=>
    rw[Ym,a]at h;by_cases b:(k==NameKind.free&&env.scope.kind== .function&&env.kindOf n==some .cell)=true
    .rw[if_pos b,Ym,a];exact(c h)
    .rw[if_neg b,Ym,a];exact(c h)
section
variable{X:Cx}{pins:ZE}{σ:St}{H:Hp}{s:Shared}
def Inv.kindL(I:Inv X pins σ H s)(h:X.env.kindOf x∣.cell\/X.env.kindOf x∣.free):∃c,X.env.cells.lookup x∣c:=I.ok.has x h
def Inv.block{a:Scope}{E:ZB}{fp:List Addr}{f:Heap}{tk:Nat}(S:aC X a E n)(I:Inv X pins σ H s)(Q:∀b∈fp,mW X pins H b)(L:∀b∈fp,b<⇑s)
 (hn:f.Ns ⇑s (λ_=>none)) (B:∀b u,s.heap.get? b∣u->f.get? b∣u) (nc:CellsOk f (⇑s+1) (cellsFrom (⇑s+1) a.names [])):
 Inv (bT X a E s H fp) [] (qO E.length n σ) H {s with heap:=f,toks:=tk}:=by
 have h:∀x c,(nP X.env a.names []).lookup x∣c->X.env.cells.lookup x∣c:=λx c e=>uJ a.names [] (λy hy hk=>I.kindL (S.free y hy hk)) (λ_ _ q=>by simp at q) e
 have o:∀x c,(cellsFrom (⇑s+1) a.names (nP X.env a.names [])).lookup x∣c->((x,c)∈cellsFrom (⇑s+1) a.names []/\f.IsCell c none/\⇑s+1<=c)\/(X.env.cells.lookup x∣c/\c<⇑s):=λx c e=>by
  rcases mD e with q|⟨_,q⟩
  .exact .inl %[q|nc.empty x c q]
  .have q':=h x c q;have%[v,J,M|_]:=I.cell x c q';exact .inr %[q'|Zu M]
 refine%[%[I.ok.mod,S.kind,I.ok.glob,I.ok.blt,Zi _,λx y c h1 h2=>?_,λx hx=>?_,λx c hq e=>?_,I.ok.hd,I.ok.frames,.inl rfl,λb g=>%[?_|λx c e=>?_],I.bs,
  Yg I.ok.bsz I.sz,λb u e g=>?_,λb g T=>?_,I.stack|I.stkFree],ρ,I.bare,Un.kept B,%[_,hn|λj x v e1 e2 e3=>?_],λx c e=>?_,I.hok.fresh (Zi _),λx c e=>?_,λp hp=>?_,I.hok.kept B|?_]
 .rcases o x c h1 with⟨q1,_,q2⟩|⟨q1,q2⟩<;> rcases o y c h2 with⟨r1,_,r2⟩|⟨r1,r2⟩
  .exact name_of_addr nc.apart q1 r1
  .exact absurd r2 (Nat.not_lt_of_le (Yg (Yf _) q2))
  .exact absurd q2 (Nat.not_lt_of_le (Yg (Yf _) r2))
  .exact I.ok.inj x y c q1 r1
 .have:(x,NameKind.free)∈a.names\/(x,NameKind.cell)∈a.names:=by
   rcases hx with q|q
   .exact mC q (.inl rfl)
   .exact mC q (.inr rfl)
  refine isSome_iff_exists.mp (cellsFrom_some a.names _ _ ?_);rcases this with q|q
  .exact .inr (isSome_iff_exists.mpr (nT a.names [] q))
  .exact .inl (S.cell _ q rfl)
 .rcases mD e with q|⟨q,_⟩
  .have:=(nc.empty x c q).2;show ⇑s<=c
   lia
  .have:=cellsFrom_some a.names (⇑s+1) [] (.inl (Zo hq));rw[q]at this;cases this
 .exact Zs (L b g)
 .rcases o x c e with⟨_,_,q⟩|⟨q,_⟩
  .exact λz=>absurd (L b g) (Nat.not_lt_of_le (Yg (Yf _) (z▸q)))
  .exact(Q b g).2.2.2.2.1 x c q
 .rcases(Q b g).2.2.2.1 with z|z
  .exact I.ok.noex b u e z
  .exact absurd (Zg (Zu e) (Yg I.ok.bsz z)) (Xm _)
 .rcases mem_cons.mp (I.stkSub b T)with z|z
  .exact(Q b g).2.1 z
  .exact(Q b g).2.2.1 z
 ·
  have hj:∃i,n.lookup j∣i/\σ[i]?∣some v:=by
   have A:((List.range E.length).map _)[j]?∣_:=e2;rw[Zl]at A;cases hr:(List.range E.length)[j]? with
   | none=>rw[hr]at A;cases A
   | some j'=>
     rw[hr]at A;have ab:j'=j:=by
      have:=Xo hr;have%[h1|h2]:=this;simpa using h2.symm
     subst ab;have C:((n.lookup j').bind _)∣v:=Za A;cases U:n.lookup j' with
     | none=>rw[U]at C;cases C
     | some i=>
       rw[U]at C;refine%[i,ρ|?_];have Y:(σ[i]?).join∣v:=C;cases T:σ[i]? with
       | none=>rw[T]at Y;cases Y
       | some w=>rw[T]at Y;have:w∣v:=Y;rw[this]
  have%[i,U|hi]:=hj;have%[y,n1,n2|n3]:=S.capt _ (mB U);have ac:=Za (n1.symm.trans e1);subst ac;have N:=S.free _ (PySem.mem_of_lookup n3) rfl;have%[m,hm|hl]:=I.loc;have%[u,r|l]:=hl i y v n2 hi (by rcases N with q|q;exact .inr (.inl q);exact .inr (.inr q));refine%[u,r|.inr %[?_|?_]]
  .exact kq n3
  .rcases l with⟨k,_⟩|⟨_,c,G,hv⟩
   .rcases N with q|q
    .rw[k]at q;cases q
    .rw[k]at q;cases q
   .have%[c'|O]:=nT a.names [] (PySem.mem_of_lookup n3);have:=h y c' O;rw[G]at this;have e5:=Za this;subst e5;have%[J,M|hd]:=hv;refine%[c,?_,J,B c J M|hd];show(cellsFrom _ _ _).lookup y∣c;rw[eK,List.lookup_append];cases e6:(cellsFrom _ a.names []).lookup y with
    | none=>simpa using O
    | some d=>
      have:=S.cell _ (lN (PySem.mem_of_lookup e6)) rfl;rw[n3]at this;cases this
 .rcases o x c e with⟨_,q,_⟩|⟨q,_⟩
  .exact%[none|q]
  .have%[v,J,M|hd]:=I.cell x c q;exact%[v,J,B c J M|hd]
 .rcases o x c e with⟨_,_,q⟩|⟨q,_⟩
  .exact I.hok.fresh ⋯
  .exact I.freeC x c q
 .exact absurd (show p∈([])from hp) ∅
 .show(qO E.length n σ).length= ~~~E;unfold qO;rw[Z6,Yj]
end
abbrev PTs(X:Cx)(a:List Expr)(t:TT):Prop:=
 ∀pins s (b:St) H Q,Inv X pins b H s->t b H Q->
  (X⁻¹) (forIn a true λc r=>if r=true then do let ok<-isTrue c X.env (eval c X.env);pure (ForInStep.yield ok)else pure (ForInStep.yield r)) (TP X pins b Q) X.xe s
abbrev D0:TT:=λ_ H Q=>Q true H
def Ea{X:Cx}:PTs X [] D0:=λ_ _ _ H _ I h=>wpAny_tests_nil %[H,I|h]
def Eb{X:Cx}(h:PT X c t):PTs X [c] t:=λpins s a H Q I q=>wpAny_tests_one (h pins s a H Q I q)
abbrev qP(q:TI)(n:Nat)(f:List (Nat×Nat))(g:TG)(r:TT)(s:TE):TE:=λh H Q=>q h H λJ j=>∀D,j D=none->∃W:Nat->Nat->List V->St->Hp->Prop,
 (∃m,W 0 m [] (qO n f h) (upd j D (.lst [])))/\∀i m ys c d,W i m ys c d->(J.stop i d/\Q (.ref D) d)\/
  (J.go i d/\∀x l,J.yld i d x l->g x c l λa u=>r a u λb o=>if b=true then s a o λy p=>∃zs e,p D<*zs/\ ~~~zs<sizeLine/\e<m/\W (i+1) e (ys++[y]) a (upd p D (.lst (zs++[y])))
   else∃e,e<m/\W (i+1) e ys a o)
def Ec{code:Value}
 (j:∀h',h'.Ns ⇑s (λ_=>none)->(∀b u,s.heap.get? b∣u->h'.get? b∣u)->CellsOk h' (⇑s+1) (cellsFrom (⇑s+1) a.names [])->
  Q (newEnv a ⇑s d (cellsFrom (⇑s+1) a.names f) g h code (some env) c) {s with heap:=h'}):wpAny M A (newFunctionEnv a d f [] g h code (some env) c) Q E s:=by
 refine Z2 (wpAny_alloc (Z2 (wpAny_layCells _ (λname kind i=>by lia) _ _ _ _ ?_)));have ok:=cellsFrom_ok a.names (s.heap.push {cls:= .type "dict",data:= .dict #[]}) (⇑s+1) [] %[λ_ _ l=>(nomatch l)|List.Pairwise.nil] ∅;rw[Zq]at ok;rw[Zq ..];exact Z2 (Z3 (Z3 (j _ ((Heap.Ns.new s.heap _).keeps (pushCells_keeps _ _)) (λb u e=>pushCells_keeps _ _ b u (Z7 _ e)) ok)))
def qQ{X:Cx}{a:Scope}(S:aC X a N' a2)(hc:X.calm=true)(hi:PI X tg iter wi)
 (hg:∀L M A,PG (bT X a N' L M A) tg g) (ht:∀L M A,PTs (bT X a N' L M A) a3 tc) (he:∀L M A,PE (bT X a N' L M A) a4 te)
 (hs:∀x,foldedSetIterable iter X.env x=pure x) (I:Inv X pins σ H s) (h:qP wi N'.length a2 g tc te σ H Q)
 (a5:∀(D C:Addr) (O:Hp) (s6:Shared) (fl:Flow) (m:ZC),s6.heap.Ns C m->mW X pins O C->(∀h',SameBut C s6.heap h'->Inv X pins σ O {s6 with heap:=h'})->Q (.ref D) O->compPost (model X.prog X.w) X.A X.xe use QQ (.ref D) C (.ok fl) s6):
 (X⁻¹) (comprehension (.ListComp a4 [%[tg,iter,a3|0]] a pos) a X.env cd (newList []) false (eval iter X.env) use) QQ X.xe s:=by
 refine wpAny_comprehension_free (use:=use) rfl hs (DZ (λy hy hk=>I.kindL (S.free y hy hk))) S.kind S.loc (thn (hi pins s σ H _ I h) λv s1 h1=>thn h1 λcl l h2=>?_);have%[it,A,tn,J,H2,e,I2,T,a6,f2|R]:=h2;subst e;refine wpAny_newObj_type (Ec λU Y N ab=>?_);dsimp only at Y N ab ⊢;have I3:Inv X pins σ (upd H2 ⇑l (.lst [])) {l with heap:=l.heap.push {cls:= .type "list",data:= .seq ([]:ZF).toArray}}:=I2.lnew (its:=[]) (t':=l.toks) .nil (Xh _);have hD:H2 ⇑l=none:=I2.fresh;have ak:∀b∈A,b<⇑l:=λb j=>by have%[o,ho|_]:=T.obj 0 _ a6 b j;exact Zu ho
 generalize as:({l with heap:=l.heap.push {cls:= .type "list",data:= .seq ([]:ZF).toArray}}:Shared)=B at I3
 have G:B.heap=l.heap.push {cls:= .type "list",data:= .seq ([]:ZF).toArray}:=by rw[<-as]
 have ba:⇑B=⇑l+1:=by rw[G,Zq]
 have f3:∀b∈A,mW X pins (upd H2 ⇑l (.lst [])) b:=λb j=>%[(ao (Zs (ak b j)))▸(f2 b j).1|(f2 b j).2]
 have%[W,%[m0|w0]|bb]:=R _ hD;have ae:∀b u,B.heap.get? b∣u->U.get? b∣u:=G▸N;have I4:Inv (bT X a N' B (upd H2 ⇑l (.lst [])) A) [] (qO N'.length a2 σ) (upd H2 ⇑l (.lst [])) {B with heap:=U,toks:=B.toks}:=I3.block S f3 (λb j=>ba▸Yn (ak b j)) (G▸Y) ae (G▸ab);have bc:tn 0 U:=T.keep _ _ _ a6 λb j o e=>ae b o (G▸Z7 _ e)
 have co:(bT X a N' B (upd H2 ⇑l (.lst [])) A).env=compEnvC a _ ⇑B X.env:=rfl;have ag:∀{H':Hp},(∀b∈A,H' b=none)->∀b∈A,mW _ [] H' b:=λhn b j=>
  %[hn b j,(I4.ok.exf b j).1,I4.ok.exfs b j,.inl j,(I4.ok.exf b j).2|λp hp=>absurd (show p∈([]:ZE)from hp) ∅]
 have al:codeAny (model X.prog X.w) X.A (.compLoop (.ListComp a4 [%[tg,iter,a3|0]] a pos) 0 (.ref it) (.ref ⇑l) (bT X a N' B (upd H2 ⇑l (.lst [])) A).env)
  (compPost (model X.prog X.w) X.A X.xe use QQ (.ref ⇑l) ⇑B) {B with heap:=U,toks:=B.toks}:=by
  refine codeAny_loop rfl (λn s'=>∃i ys be H',Inv _ [] be H' s'/\tn i s'.heap/\(∀b∈A,H' b=none)/\W i n ys be H') ?_ m0 %[0,[],_,_,I4,bc,λb j=>(f3 b j).1|w0];intro n s5 %[i,ys,ai,O,I5,bf,bl|w5];show wpAny _ X.A _ _ _ s5;refine wpAny_noted ?_;rw[compTurn_list];refine Z2 (wpAny_standAt (Z2 ?_));rcases bb i n ys ai O w5 with⟨stop,q⟩|⟨go,step⟩
  .refine thn (T.done (bT X a N' B (upd H2 ⇑l (.lst [])) A) rfl rfl rfl hc i [] s5 ai O _ I5 (ag bl) bf stop) λr s6 ⟨hr,I6⟩=>?_
   subst hr;refine Z3 ?_;have%[m6,bt|_]:=I6.loc;refine a5 ⇑l ⇑B O s6 _ m6 bt (I2.fpOk (ba▸Yf _) I6.free) (λh' sb=>?_) q;have u6:Un (frs X.stack) A (upd H2 ⇑l (.lst [])) O B.heap s6.heap:=I6.base;have a0:∀b u,B.heap.get? b∣u->b≠⇑B:=λb u e=>Zs (Zu e)
   have u7:Un (frs X.stack) A (upd H2 ⇑l (.lst [])) O B.heap h':=%[λb u e n j hx=>(sb.2 b (a0 b u e)).trans (u6.keep b u e n j hx),λb u e n j hx=>by
    have%[sl|q]:=u6.slot b u e n j hx;exact%[sl|(sb.2 b (a0 b u e)).trans q],u6.free,λb u e hx=>by
    have%[o'|q]:=u6.there b u e hx;exact%[o'|(sb.2 b (a0 b u e)).trans q],u6.tups,u6.frzs|u6.tbls]
   have b0:HOk X.prog X.w O h':=λb u e=>by
    have bm:∀c w,O c∣w->c≠⇑B:=λc w q z=>by
     have:O ⇑B=none:=I6.free;rw[z,this]at q;cases q
    refine(I6.hok b u e).stay (λc w b1 q=>(sb.2 c ?_).trans q) (λ_ q=>q) λ_ _ q=>q
    rcases b1 with z|z
    .exact z▸bm b u e
    .exact bm c _ z
   exact I2.call' (s':={s6 with heap:=h'}) (ch:=A) (by show s6.os=l.os;rw[I6.os,<-as];rfl) ((Un.laid (λb u e=>G▸Z7 _ e) (Zi _) hD).trans u7) b0 I6.bare λb j=>%[(f2 b j).2.2.2.1,(f2 b j).2.1,(f2 b j).2.2.2.2.1|(f2 b j).2.2.2.2.2]
  .refine thn (T.item (bT X a N' B (upd H2 ⇑l (.lst [])) A) rfl rfl rfl hc i [] s5 ai O _ I5 (ag bl) bf go) λr s6 ⟨u,hr,h6⟩=>?_
   subst hr;refine Z2 (thn h6 λ_ s7 ⟨x,H7,I7,r7,y7,a1,b2⟩=>?_);have ac:∀{α:Type} {t:Sem α} {Q1:α->Shared->Prop} {E2:ZD} {s':Shared},(X⁻¹) t Q1 (λ_ _=>False) s'->(X⁻¹) t Q1 E2 s':=λh=>wpAny_mono h (λ_ _ q=>q) λ_ _ f=>f.elim
   have an:∀{E:St} {H8:Hp} {s8:Shared},Inv (bT X a N' B (upd H2 ⇑l (.lst [])) A) ([] ++sN A s7.heap) E H8 s8->
    Inv _ [] E H8 s8/\tn (i+1) s8.heap/\∀b∈A,H8 b=none:=λ{E H8 s8} I8=>by
    refine%[I8.unpinned,T.keep _ _ _ a1 λb j o e=>(I8.pin (b,o) (Yv _ (Yv _ (eR j e)))).1|λb j=>?_];have%[o,e|d]:=T.obj _ _ a1 b j;exact(I8.pin (b,o) (Yv _ (Yv _ (eR j e)))).2.1
   refine Z2 (ac (thn (hg B _ A _ s7 ai H7 x u _ (I7.pinned (ag b2) (T.obj _ _ a1)) r7 (step x H7 y7)) λ_ s8 ⟨E,H8,I8,q8⟩=>Z2 (ac (thT (ht B _ A _ s8 E H8 _ I8 q8) λb s9 H9 I9 q9=>?_))));cases b with
   | false=>
     have%[m',hm|w9]:=(q9)
     have%[J1,J2|J3]:=an I9;exact Z3 %[rfl,m',hm,i+1,ys,E,H9,J1,J2,J3|w9]
   | true=>
     have q9:=(q9:te E H9 λy O=>∃zs m',O ⇑l<*zs/\ ~~~zs<sizeLine/\m'<n/\W (i+1) m' (ys++[y]) E _)
     refine Z2 (Z2 (ac (thP (he B _ A _ s9 E H9 _ I9 q9) λu2 b3 y bn b4 b5 ⟨zs,m',hz,hl,hm,b6⟩=>Z2 (ac (thP (qL _ b3 E bn (.ref ⇑l) [y] (.ref ⇑l) [u2] (λv H'=>v= .non/\H'=upd bn ⇑l (.lst (zs++[y]))) b4 rfl (.cons b5 .nil) %[_,rfl,_,hz,hl,rfl|rfl]) λu3 cs v3 ct b9 cv ⟨cw,ca⟩=>?_)))));subst ca;have%[J1,J2|J3]:=an b9;exact Z3 (Z3 %[rfl,m',hm,i+1,ys++[y],E,_,J1,J2,J3|b6])
 subst as;exact(codeAny_compStart_list al (T.self _ 0 _ _ _ bc al))
def Ee{X:Cx}(S:aC X a e f)(n:X.calm=true)(hi:PI X l iter o)
 (p:∀b c d,PG (bT X a e b c d) l g) (r:∀b c d,PTs (bT X a e b c d) i u) (v:∀b c d,PE (bT X a e b c d) j w)
 (y:∀x,foldedSetIterable iter X.env x=pure x):
 PE X (.ListComp j [%[l,iter,i|0]] a pos) (qP o e.length f g u w):=by
 intro pins s E H Q I h;exact qQ S n hi p r v y I h λD C z G J m A _ k q=>%[m,A|λh' B=>%[.ref D,z,k h' B,rfl|q]]
abbrev Its(z:Str):It:=⟨λi _=>i<z.cps.size,λi H x a=>a=H/\∃c,z.cps[i]?∣c/\x= .str ⟨#[c]⟩,λi _=>z.cps.size<=i⟩
def wO{P:Program}{K:ZA}(it:Addr)(z:Str)(t:Tok):p7 P w K tg (Its z) [it] it (λi h=>h.IsStrIter it "str_ascii_iterator" z t i) where
 mem:=by simp
 obj:=λi h st b hb=>by
  have e:=↑hb
  subst e;have%[o,e,c|d]:=st;exact%[o,e|λv z=>by lia]
 keep:=λi h h' st k=>by
  have%[o,e|r]:=st;exact%[o,k it ∅ o e|r]
 item:=by
  intro X hP hw hK hc i pins s σ H E I hf st hg;have hlt:i<z.cps.size:=hg;have%[f0,f1,f2,f3,f4|f5]:=hf it ∅;refine wpAny_pyNext_ascii_item st (c:=z.cps[i]) ∅ λh' st' sb=>?_
  have%[o,e,c|d]:=id st';exact%[_,ρ|qD e c d (!1) %[.str _,H,(I.turned (λb o hb e=>(sb.2 b hb).trans e) f0 f1 f3 f4 f5),%[_|ρ],%[ρ,_,by simp|ρ],st'|λb hb=>(hf b hb).1]]
 done:=by
  intro X hP hw hK hc i pins s σ H E I hf st hg;have hle:z.cps.size<=i:=hg;have%[f0,f1,f2,f3,f4|f5]:=hf it ∅;exact wpAny_pyNext_ascii_end (I.ok.hd hc) st (by simp[hle]) λh' eb=>%[rfl|I.turned (λb o hb e=>eb b o hb e) f0 f1 f3 f4 f5]
 self:=λ_ _ _ _ _ st h=>wpAny_pyIter_striter_ascii st h
def zM{P:Program}{K:ZA}(it:Addr)(z:Str)(t:Tok):p7 P w K tg (Its z) [it] it (λi h=>h.IsStrIter it "str_iterator" z t i) where
 mem:=by simp
 obj:=λi h st b hb=>by
  have e:=↑hb
  subst e;have%[o,e,c|d]:=st;exact%[o,e|λv z=>by rw[d]at z;cases z]
 keep:=λi h h' st k=>by
  have%[o,e|r]:=st;exact%[o,k it ∅ o e|r]
 item:=by
  intro X hP hw hK hc i pins s σ H E I hf st hg;have hlt:i<z.cps.size:=hg;have%[f0,f1,f2,f3,f4|f5]:=hf it ∅;refine wpAny_pyNext_wide_item st (c:=z.cps[i]) ∅ λh' st' sb=>?_
  have%[o,e,c|d]:=id st';exact%[_,ρ|qD e c d (!1) %[.str _,H,(I.turned (λb o hb e=>(sb.2 b hb).trans e) f0 f1 f3 f4 f5),%[_|ρ],%[ρ,_,by simp|ρ],st'|λb hb=>(hf b hb).1]]
 done:=by
  intro X hP hw hK hc i pins s σ H E I hf st hg;have hle:z.cps.size<=i:=hg;have%[f0,f1,f2,f3,f4|f5]:=hf it ∅;exact wpAny_pyNext_wide_end (I.ok.hd hc) st (by simp[hle]) λh' eb=>%[rfl|I.turned (λb o hb e=>eb b o hb e) f0 f1 f3 f4 f5]
 self:=λ_ _ _ _ _ st h=>wpAny_pyIter_striter_wide st h
abbrev CK(D:Addr)(n i:Nat)(Pv:Nat->List V->St->Hp->Prop)(ys:List V)(b:St)(y:V)(H:Hp):Prop:=
 ∃zs a,H D<*zs/\ ~~~zs<sizeLine/\a<n-i/\(a=n-(i+1)/\i+1<=n/\Pv (i+1) (ys++[y]) b (upd H D (.lst (zs++[y]))))
abbrev CN(n i:Nat)(Pv:Nat->List V->St->Hp->Prop)(ys:List V)(b:St)(H:Hp):Prop:=∃a,a<n-i/\(a=n-(i+1)/\i+1<=n/\Pv (i+1) ys b H)
def CK.mk{Pv:Nat->List V->St->Hp->Prop}(hi:i<n)(a:H D<*zs)(b: ~~~zs<sizeLine)(p:Pv (i+1) (ys++[y]) c (upd H D (.lst (zs++[y])))):CK D n i Pv ys c y H:=
 %[zs,n-(i+1),a,b,⋯,rfl,hi|p]
def CN.mk{Pv:Nat->List V->St->Hp->Prop}(hi:i<n)(p:Pv (i+1) ys a H):CN n i Pv ys a H:=%[n-(i+1),⋯,rfl,hi|p]
def c9{J:It}{g:TG}{v:TT}{w:TE}{z:Hp->Prop}(Pv:Nat->List V->St->Hp->Prop)(A:Pv 0 [] c H)(s:∀i ys c H,i<n->Pv i ys c H->J.go i H)(d:∀ys c H,Pv n ys c H->J.stop n H)
 (B:∀i ys c H,i<n->Pv i ys c H->∀x f,J.yld i H x f->g x c f λa u=>v a u λb h=>if b=true then w a h λy r=>CK D n i Pv ys a y r else CN n i Pv ys a h) (C:∀ys c H,Pv n ys c H->z H):
 ∃W:Nat->Nat->List V->St->Hp->Prop,(∃m,W 0 m [] c H)/\∀i m ys j l,W i m ys j l->(J.stop i l/\z l)\/
  (J.go i l/\∀x f,J.yld i l x f->g x j f λa u=>v a u λb h=>if b=true then w a h λy r=>∃zs o,r D<*zs/\ ~~~zs<sizeLine/\o<m/\W (i+1) o (ys++[y]) a (upd r D (.lst (zs++[y])))
   else∃o,o<m/\W (i+1) o ys a h):=by
 refine%[λi m ys c H=>m=n-i/\i<=n/\Pv i ys c H,%[n,by simp,Xh _|A]|?_];intro i m ys c H %[rfl,hi|p];by_cases q:i<n
 .exact .inr %[s i ys c H q p|λx f y=>B i ys c H q p x f y]
 .have e:i=n:=by lia
  subst e;exact .inl %[d ys c H p|C ys c H p]
def x6:∀{bs:List Bool} {us:ZF} {i:Nat} {v:Value},aN (bs.map V.bl) us->us[i]?∣v->∃b,bs[i]?∣b/\v= .bool b
 |[],_,_,_,r,e=>by cases r;simp at e
 | b::bs,_,i,v,r,e=>by
   cases r with
   | cons a c=>
     cases(a);cases i with
     | zero=>simp at e;exact%[b,ρ|e.symm]
     | succ i=>
       have%[d,f|g]:=x6 c (e);exact%[d,f|g]
def nU(bs:List Bool):(List.range bs.length).all (λi=>bs.getD i false)=bs.all id:=by
 have e:(List.range bs.length).map (λi=>bs.getD i false)=bs:=by
  apply Zz
  .simp
  .intro i a b
   simp_all
 have:(List.range bs.length).all (λi=>bs.getD i false)=((List.range bs.length).map λi=>bs.getD i false).all id:=by rw[all_map];rfl
 rw[this,e]
def BC{X:Cx}(g:X.calm=true):cr X (.builtin "all") (λxs H Q=>∃(p:Addr) (bs:List Bool),xs=[.ref p]/\SqL X.K H p (bs.map V.bl)/\Q (.bl (bs.all id)) H):=by
 intro pins s A H xs us Q I r h;have%[p,bs,rfl,j|q]:=h;have%[u,rfl|l]:=cu r;cases l;have%[its,d,pl|B]:=I.list j;have m:X.A.in1.handled=none:=I.ok.hd g;have a: ~~~bs=its.toArray.size:=by rw[Zp,<-d.length,Z6]
 refine call_all_walk (wpAny_pyIter_list pl.isList %[⇑s,[⇑s,p],[⇑s],its.toArray.size,_,_,λi=>bs.getD i false,rfl,Walks.list m _ p (Zs (by have%[o,n|_]:=pl.isList;exact Zu n)) its.toArray,%[%[_,Zj _ rfl,rfl|rfl]|pl.isList.push _],?_|?_])
 .intro i v s' w C y c;have%[b,f|rfl]:=x6 d ↑y;have e:bs.getD i false=b:=!2
  have c:w (bs.getD i false) s':=c;rw[e]at c;exact wpAny_truthy_bool c
 .intro h' tk z;rw[<-a,nU];refine%[.bl _,H,I.kept λb o e=>z b o ?_ (Z7 _ e),ρ|q];have:=Zu e;intro f;exact absurd (Xq f) (Zs this)
def gW:∀{ss:ZB} {us:ZF},aN (ss\3) us->StrsAre us ss
 |[],_,r=>by cases r;exact .nil
 | x::ss,_,r=>by
   cases r with
   | cons a b=>
     have%[t|e]:=a;subst e;exact .cons x t (gW b)
def qR:∀{ss:ZB} {us:ZF},StrsAre us ss->aN (ss\3) us
 | _,_,.nil=> .nil
 | _,_,.cons x t h=> .cons %[t|rfl] (qR h)
abbrev x8(K:ZA):V->List V->Hp->VK->Prop:=λx vs H Q=>∃z l ss,x= .str z/\vs=[.ref l]/\SqL K H l (ss\3)/\(ss.map (·.length)).sum+ ~~~ss* ~~~z<=16777216/\Q (.str (Txt.join z ss)) H
def Ef{X:Cx}:MtM X "str.join" (x8 X.K):=by
 intro pins s e H x vs v us Q I a b h;have%[z,l,ss,rfl,rfl,c,hw|q]:=h;have%[t|rfl]:=a;have%[u,rfl|d]:=b.one;cases d;have%[its,r,pl|f]:=I.list c;exact PyProof.Rows.join_list pl.isList (gW r) hw λt' k=>%[.str _,H,I.tok k,%[_|rfl]|q]
def BD{X:Cx}:cr X (.builtin "isinstance") (λxs H Q=>∃x n t b,xs=[x,.ty n]/\jR X.K H x t/\kitOne X.K t (.type n)∣b/\Q (.bl b) H):=by
 intro pins s d H xs us Q I r h;have%[x,n,t,b,rfl,ty,e|q]:=h;have%[u,f,rfl,c|a]:=kh r;cases(a);exact zC I c ty e λtk=>%[.bl b,H,I.tok tk,rfl|q]
def qS(z:Str)(c i:Nat):Builtin.Str.subAt z ⟨#[c]⟩ i=decide (z.cps[i]?∣c):=by
 unfold Builtin.Str.subAt;have b: ~~~(⟨#[c]⟩:Str)=1:=rfl;rw[b];by_cases hi:i<z.cps.size
 .have e:z.cps.extract i (i+1)= #[z.cps[i]]:=by
   apply Array.ext
   .simp;lia
   .intro j d a;simp at a;subst a;simp
  rw[e,Array.getElem?_eq_getElem hi];by_cases f:z.cps[i]=c
  .subst f;simp
  simp_all
 .have e:z.cps.extract i (i+1)= #[]:=by
   apply Array.ext
   .simp;lia
   .intro j d a;simp at a
  rw[e,Array.getElem?_eq_none ⋯];simp
def tD(z:Str)(c:Nat):(!(Builtin.Str.occurrences z ⟨#[c]⟩ 0 z.length 1).isEmpty)=decide (c∈z.cps.toList):=by
 rcases StrLaws.occ_head z _ 1 (Zi _)with⟨e,d⟩|⟨i,r,e,f,_⟩
 .rw[e];refine(Zh λg=>?_).symm;have%[j,h|l]:=List.mem_iff_getElem.mp g;have a:=↑h
  refine d j %[?_|?_]
  .show j+1<=z.cps.size;lia
  .rw[qS];exact Zf (by rw[Array.getElem?_eq_getElem a];simpa using l)
 .rw[e];refine(Zf ?_).symm;have b:=f.2;rw[qS]at b;have:=Array.mem_of_getElem? (Zo b);simpa using this
section
variable{X:Cx}
nonrec abbrev BE:R2:=λx y H Q=>∃i j,x= .str i/\y= .str j/\ ~~~i+ ~~~j<=sizeLine/\Q (.str (i++j)) H
nonrec abbrev BF:R2:=λx y H Q=>rI0 (λi j=> .int (i+j)) x y H Q\/(BE x y H Q\/DQ x y H Q)
def Eg:OpR X (binaryOp .Add) BF:=A9.or (nL.or Bu)
nonrec abbrev BG:R2:=λx y H Q=>rI A8 (λi j=> .int (i*j)) x y H Q\/Gp x y H Q
def Eh:OpR X (binaryOp .Mult) BG:=Ba.or Gq
nonrec abbrev Gu:R2:=rEq
def Gw:OpR X (compareOp .Eq) Gu:=HN
nonrec abbrev Gx:R2:=rNe
def Gy:OpR X (compareOp .NotEq) Gx:=HP
nonrec abbrev HW:R2:=λx y H Q=>∃i j,x= .str i/\y= .str j/\Q (.bl (!(Builtin.Str.occurrences j i 0 j.length 1).isEmpty)) H
nonrec abbrev Ei(K:ZA):R2:=λx y H Q=>HW x y H Q\/rIn K false x y H Q
def Gz:OpR X (compareOp .In) (Ei X.K):=zu.or zF
abbrev Ej(K:ZA)(c:TE):TI:=λd H R=>c d H λx b=>(∃a,x= .ref a/\(∃xs,SqL K b a xs)/\R (Itl K a) b)\/(∃a,x= .ref a/\(∃xs,SqT K b a xs)/\R (Itt K a) b)\/∃z,x= .str z/\R (Its z) b
def GA(n:PE X l r):PI X C l (Ej X.K r):=by
 intro pins s u H R I h;refine thP (n pins s u H _ I h) λv d x g f i w=>?_
 have c:∀b∈[⇑d],mW X pins g b:=λb y=>by
  have e:b=⇑d:=↑y
  subst e;exact f.fpOk (Zi _) (f.hok.fresh (Zi _))
 rcases w with⟨a,e,⟨xs,j⟩,q⟩|⟨a,e,⟨xs,j⟩,q⟩|⟨z,e,q⟩
 .subst e;cases i;have%[its,A,p|B]:=f.list j;exact wpAny_pyIter_list p.isList %[⇑d,[⇑d],_,_,g,rfl,f.kept (t':=d.toks) λb o e=>Z7 _ e,qE a _,%[_,Zj _ rfl,rfl|rfl],c|q]
 .subst e;cases i;have%[its,A,p|B]:=f.tuple j;exact wpAny_pyIter_tuple (p) %[⇑d,[⇑d],_,_,g,rfl,f.kept λb o e=>Z7 _ e,wz a _,%[_,Zj _ rfl,rfl|rfl],c|q]
 .subst e;have%[t|rfl]:=i;cases m:z.cps.all _ with
  | true=>
    exact wpAny_pyIter_ascii m %[⇑d,[⇑d],_,_,g,rfl,f.kept λb o e=>Z7 _ e,wO _ z t,%[_,Zj _ rfl,rfl|rfl],c|q]
  | false=>
    exact wpAny_pyIter_wide m %[⇑d,[⇑d],_,_,g,rfl,f.kept λb o e=>Z7 _ e,zM _ z t,%[_,Zj _ rfl,rfl|rfl],c|q]
end
abbrev bA(c:Scope)(N:ZB)(a:Scope)(d:ZB)(b:List (Nat×Nat)):Bool:=
 decide (a.kind= .function)&&a.names.all (λy=>(decide (y.2≠ .cell)||decide (a.names.lookup y.1∣.cell))&&(decide (y.2≠ .local)||decide (a.names.lookup y.1∣.local))&&(decide (y.2≠ .free)||decide (c.names.lookup y.1∣.cell)||decide (c.names.lookup y.1∣.free)))&&
  b.all λp=>match d[p.1]? with
   | some x=>decide (N[p.2]?∣x)&&decide (a.names.lookup x∣.free)
   | none=>false
def aC.of{X:Cx}(h:bA X.env.scope X.N a g c=true):aC X a g c:=by
 unfold bA at h;rw[Zv,Zv,all_eq_true,all_eq_true]at h;have%[%[i|d]|j]:=h;refine%[Zo i,λy b f=>?_,λy b f=>?_,λy b l=>?_|λp m=>?_]
 .have:=d y b;simp only[Zv,or_eq_true,decide_eq_true_eq]at this;exact this.1.1.resolve_left λq=>q f
 .have:=d y b;simp only[Zv,or_eq_true,decide_eq_true_eq]at this;exact this.1.2.resolve_left λq=>q f
 .have:=d y b;simp only[Zv,or_eq_true,decide_eq_true_eq]at this;rcases this.2 with(q|q)|q
  .exact absurd l q
  .exact .inl q
  .exact .inr q
 .have:=j p m;cases e:g[p.1]? with
  | none=>simp_all
  | some x=>
    rw[e]at this;simp only[Zv,decide_eq_true_eq]at this;exact%[x,ρ,this.1|this.2]
structure Gv (mg:ZC) (x:Str) (v:V):Prop where
 ex:∃u,mg x∣u/\aV v u
def Fl{X:Cx}(g:Gv X.mg x v)(a:Gl X x)(b:(x==("__debug__":Str))=false):PE X (.Name x pos) (tC v):=by
 have%[u,h|r]:=g.ex;exact Dm a h r b
structure Cal (P:Program) (w:World) (K:ZA) (mg:ZC) (base:Heap) (k:Nat) (x:Str) (ps:ZB) (sp:Sp):Prop where
 ex:∃f fd,eB P w K mg base CX0 k f fd ps sp/\mg x∣.ref f/\keepIn K (.ref f)=true/\fH K fd ps []
structure aF (K:ZA) (mg:ZC) (x:Str) (st:Stmt) (ps:ZB):Prop where
 ex:∃f fd,Fun K x x st f fd/\mg x∣.ref f/\fH K fd ps []
def aF.cal{P:Program}{K:ZA}{st:Stmt}(D:aF K mg x st ps)(S:ax N ps (ap st))
 (a:∀(H:Hp) (vs:List V) (Q:VK) (E:XK),sp vs H Q E-> ~~~vs= ~~~ps/\∀(f:Addr) (b:Value) (A:Around) (outer:List Env) (s:Shared),cg k (A.deeper (envOfC x (ap st) ⇑s f b))->
  ∃t,PSs (sS CX0 P w K mg base N x (ap st) f b A outer s H E).nox (cp st) t/\t {nx:=λ_ c=>Q .non c,rt:=Q} (start N vs) H):Cal P w K mg base (k+1) x ps sp:=by
 have%[f,d,F,e|g]:=D.ex;exact%[f,d,F.ok S (λv H Q E h=>(a H v Q E h).1) (λb A o s H v Q E r h=>(a H v Q E h).2 f b A o s r),e,F.kp|g]
def GB{X:Cx}(C:Cal X.prog X.w X.K X.mg X.base j x ps sp)(d:cg k X.A)(g:Gl X x)(h:jS CX0 X E0)(i:PA X (e::es) t)(a:j<=k)
 (b:(x==("__debug__":Str))=false) (l:starEach (e::es) X.env=(false,eval e X.env)::starEach es X.env) (c:(backTo pos (starEach es X.env)).any (·.1)=false):
 PE X (.Call (.Name x p) (e::es) [] pos) (uB sp [] E0 t):=by
 have%[f,q,F,m,n|o]:=C.ex;exact DI F (d.mono a) g m n o .nil h i b l c
def GC{K:ZA}{h:Heap}{st:Stmt}{kV e g d ct:Value}(X:K.In h)(G:h.Ns mainGlobals mg)
 (a:nsIn K mainGlobals x∣some (.ref f)) (l:K.lookup f=some %[m,n,.func (fnOf x x (dq st) (cp st) (ap st) .none kV e g i d ct)|j]) (c:codeIn K d x=true) (k:keepIn K (.ref f)=true)
 (b:∀(kV e g:Value) (i:ZI) (d ct:Value) (us:ZF),~~~us= ~~~ps->bindArgs (fnOf x x (dq st) (cp st) (ap st) .none kV e g i d ct) %[us|[]]=pure (ps.zip us)):aF K mg x st ps:=
 %[f,_,eU l c k,mg_of X G a|(eU l c k).binds b]
def HX{K:ZA}{h:Heap}(X:K.In h)(G:h.Ns mainGlobals mg)(a:nsIn K mainGlobals x∣some u)(r:aV v u):Gv mg x v:=%[u,mg_of X G a|r]
def az(h:∀a:It->Hp->Prop,(∀J f,(∃W:Nat->Nat->St->Hp->Prop,(∃m,W 0 m b f)/\∀i m b H,W i m b H->
 (J.stop i H/\D.nx b H)\/(J.go i H/\∃N:St->Hp->Prop,(∀c d,N c d->∃j,j<m/\W (i+1) j c d)/\∀x d,J.yld i H x d->g x b d λe l=>n {D with nx:=N,ct:=N,bk:=D.nx} e l))->a J f)->o b H a):uA o g n D b H:=h _ λ_ _ x=>x
def aG(h:∀c:It->Hp->Prop,(∀J j,(∀D,j D=none->∃W:Nat->Nat->List V->St->Hp->Prop,
 (∃m,W 0 m [] (qO n l o) (upd j D (.lst [])))/\∀i m ys d e,W i m ys d e->(J.stop i e/\Q (.ref D) e)\/
  (J.go i e/\∀x p,J.yld i e x p->g x d p λa s=>u a s λb q=>if b=true then v a q λy r=>∃zs f,r D<*zs/\ ~~~zs<sizeLine/\f<m/\W (i+1) f (ys++[y]) a (upd r D (.lst (zs++[y])))
   else∃f,f<m/\W (i+1) f ys a q))->c J j)->w o H c):qP w n l g u v o H Q:=h _ λ_ _ x=>x
section
variable{X:Cx}{K:ZA}
def GD(h:X.K=K):OpR X (compareOp .In) (Ei K):=by subst h;exact Gz
def zN(h:X.K=K):cr X (.builtin "len") (λxs H Q=>∃x n,xs=[x]/\DD K x H n/\Q (.int n) H):=by subst h;exact Bf
def zO(h:X.K=K)(a:X.calm=true):cr X (.builtin "all") (λxs H Q=>∃(p:Addr) (bs:List Bool),xs=[.ref p]/\SqL K H p (bs.map V.bl)/\Q (.bl (bs.all id)) H):=by subst h;exact BC a
def zP(h:X.K=K):cr X (.builtin "isinstance") (λxs H Q=>∃x n t b,xs=[x,.ty n]/\jR K H x t/\kitOne K t (.type n)∣b/\Q (.bl b) H):=by subst h;exact BD
def wP(h:X.K=K):cr X (.type "list") (λxs H Q=>∃p ys,xs=[.ref p]/\(SqL K H p ys\/SqT K H p ys)/\∀l,H l=none->Q (.ref l) (upd H l (.lst ys))):=by subst h;exact sZ
def BH(h:X.K=K):MtR X "str.join" (x8 K):=by subst h;exact Ef
def zQ(h:X.K=K)(d:PE X a e)(f:∀b,isTrue a X.env b=(do let v<-b;standAt a.pos;holding [v] (truthy v))):PT X a (λg H Q=>e g H λx c=>∃k,zv K x c k/\Q k c):=by subst h;exact Bd d f
def Ek(h:X.K=K)(a:PE X l b):PI X c l (Ej K b):=by subst h;exact GA a
variable{o e:Expr}{es:List Expr}{to:TE}{t:TA}{name:Str}{apos cpos:Pos}{T id:String}{r:V->List V->Hp->VK->Prop}
def El(h:X.K=K)(d:PlainAttrs T)(slot:Slot T name id)(c:typeOf (.builtin id)=pure (.type "method_descriptor"))(f:MtR X id r)(g:PE X o to)
 (a:attributeBase o name X.env (eval o X.env)=eval o X.env) (b:(apos.endLine==cpos.line)=true):PE X (.Call (.Attribute o name apos) [] [] cpos) (DP K T r to):=by
 subst h;exact Go d slot c f g a b
def BI(h:X.K=K)(g:PlainAttrs T)(slot:Slot T name id)(f:typeOf (.builtin id)=pure (.type "method_descriptor"))(i:MtR X id r)(j:PE X o to)(l:PA X (e::es) t)
 (b:attributeBase o name X.env (eval o X.env)=eval o X.env)
 (d:((backTo cpos (starEach (e::es) X.env)).all (λx=>!x.1)&&(backToKw cpos (keywordEach [] X.env)).all (λx=>x.1.isSome)
  && decide (~~~(e::es)+ ~~~([]:List Keyword)+(if([]:List Keyword).isEmpty then 0 else 1)<30))=true)
 (c:(apos.endLine==cpos.line)=true) (m:starEach (e::es) X.env=(false,eval e X.env)::starEach es X.env) (a:(backTo cpos (starEach es X.env)).any (·.1)=false):
 PE X (.Call (.Attribute o name apos) (e::es) [] cpos) (tBM K T r to t):=by
 subst h;exact HV g slot f i j l b d c m a
end
structure wQ (z TI TO i1 i2:Addr):Prop where
 TIz:TI≠z
 TOz:TO≠z
 i1z:i1≠z
 i2z:i2≠z
 TITO:TI≠TO
 TIi1:TI≠i1
 TIi2:TI≠i2
 TOi1:TO≠i1
 TOi2:TO≠i2
 i12:i1≠i2
section
#where
variable{z TI TO i1 i2:Addr}{fp1 fp2:List Addr}{n1 n2 i:Nat}{P1 P2:Nat->Value->Prop}{St1 St2:Nat->Heap->Prop}
def BJ{Q:ZD}(D1:Draws prog w A i1 fp1 n1 P1 St1)(D2:Draws prog w A i2 fp2 n2 P2 St2)(D:wQ z TI TO i1 i2)(O:∀b∈fp1,b≠z/\b≠TO/\b≠i2)(m2:∀b∈fp2,b≠z/\b≠TO/\b≠i1)
 (T:IsZip s.heap z TI TO .none) (ac:IsPair s.heap TI (.ref i1) (.ref i2)) (ae:IsPair s.heap TO a b) (h1:St1 i s.heap) (h2:St2 i s.heap) (l1:i<n1) (l2:i<n2)
 (hQ:∀x y h' tk,P1 i x->P2 i y->IsZip h' z TI TO (rawInt ⇑s)->IsPair h' TO x y->St1 (i+1) h'->St2 (i+1) h'->IsPair h' ⇑s x y->
  (∀c o,c≠z->c≠TO->c≠i1->c≠i2->s.heap.get? c∣o->h'.get? c∣o)->Q (.ref ⇑s) {s with heap:=h',toks:=tk}):
 ↥A (Builtin.«zip.__next__» %[[.ref z]|[]]) (λag s'=>∃v,ag= .done (.ret v)/\Q v s') E s:=by
 have r:∀{k h h' c},(∀b∈fp1,b≠c)->SameBut c h h'->St1 k h->St1 k h':=λhc sb st=>D1.frame _ _ _ st λb d o e=>(sb.2 b (hc b d)).trans e
 have u:∀{k h h' c},(∀b∈fp2,b≠c)->SameBut c h h'->St2 k h->St2 k h':=λhc sb st=>D2.frame _ _ _ st λb d o e=>(sb.2 b (hc b d)).trans e
 show wpAny _ _ (field (.ref z) 2>>= _) _ _ _;refine Z2 (wpAny_field T rfl (x:= .bool false) rfl ?_);show wpAny _ _ (field (.ref z) 3>>= _) _ _ _;refine Z2 (wpAny_field T rfl (x:= .ref TI) rfl (Z2 (wpAny_seqItems ac rfl ?_)));show wpAny _ _ (Builtin.SmallTypes.ownedTupleIsFree (.ref z)>>= _) _ _ _;refine Z2 ?_;unfold Builtin.SmallTypes.ownedTupleIsFree;refine Z2 (wpAny_field T rfl (x:= .none) rfl (Z3 ?_));simp only[if_true];refine Z2 (wpAny_rule (Z2 (wpAny_field T rfl (x:= .ref TO) rfl (Z2 (wpAny_setField_rec T ∅ λg1 M n=>?_)))));replace M:IsZip g1 z TI TO .ellipsis:=M;refine Z2 ?_;simp only[List.zipIdx_cons,List.zipIdx_nil,forIn_cons,List.forIn_nil];refine Z2 (Z2 (wpAny_onRaise ?_));show wpAny _ _ (Builtin.SmallTypes.nextOf (.ref i1)>>= _) _ _ _;refine Z2 (D1.item i _ _ _ l1 (r (λb d=>(O b d).1) n h1) λx g2 ai px ak f=>Z3 ?_);replace f:SameBut i1 g1 g2:=f;have I:IsPair g2 TO a b:=(f.2 _ D.TOi1).trans ((n.2 _ D.TOz).trans ae);refine Z2 (wpAny_seqItems I rfl (Z2 (wpAny_updateSeq_pair (s:={s with heap:=g2,toks:=ai}) I λg3 p g=>?_)));replace p:IsPair g3 TO x b:=p;replace g:SameBut TO g2 g3:=g;refine Z2 (wpAny_letGo (Z3 (Z2 (Z2 (wpAny_onRaise ?_)))));show wpAny _ _ (Builtin.SmallTypes.nextOf (.ref i2)>>= _) _ _ _;refine Z2 (D2.item i _ _ _ l2 (u (λb d=>(m2 b d).2.1) g (u (λb d=>(m2 b d).2.2) f (u (λb d=>(m2 b d).1) n h2))) λy g4 B py al j=>Z3 ?_);replace j:SameBut i2 g3 g4:=j;have J:IsPair g4 TO x b:=(j.2 _ D.TOi2).trans p;refine Z2 (wpAny_seqItems J rfl (Z2 (wpAny_updateSeq_pair (s:={s with heap:=g4,toks:=B}) J λq m l=>?_)));replace m:IsPair q TO x y:=m;replace l:SameBut TO g4 q:=l;refine Z2 (wpAny_letGo (Z3 (Z3 (Z2 (wpAny_seqItems m rfl (Z2 (wpAny_newTuple ?_)))))));have U:q.objs.size=⇑s:=by rw[l.1,j.1,g.1,f.1,n.1]
 have Y:IsZip q z TI TO .ellipsis:=(l.2 _ D.TOz.symm).trans ((j.2 _ D.i2z.symm).trans ((g.2 _ D.TOz.symm).trans ((f.2 _ D.i1z.symm).trans M)));have an:∀c o,c≠z->c≠TO->c≠i1->c≠i2->s.heap.get? c∣o->q.get? c∣o:=λc o c1 c2 c3 c4 e=>
  (l.2 c c2).trans ((j.2 c c4).trans ((g.2 c c2).trans ((f.2 c c3).trans ((n.2 c c1).trans e))))
 have L:z<q.objs.size:=Zu Y;refine Z2 (Z2 (wpAny_setField_rec (s:={s with heap:=q.push {cls:= .type "tuple",data:= .seq #[x,y]},toks:=B}) (Z7 _ Y) ∅ λg7 N C=>?_));replace N:IsZip g7 z TI TO (rawInt q.objs.size):=N;replace C:SameBut z (q.push _) g7:=C;refine wpAny_setField_rec (s:={s with heap:=g7,toks:=B}) N ∅ λg8 G H=>?_
 replace G:IsZip g8 z TI TO (rawInt q.objs.size):=G;replace H:SameBut z g7 g8:=H;have up:∀c o,c≠z->q.get? c∣o->g8.get? c∣o:=λc o c1 e=>(H.2 c c1).trans ((C.2 c c1).trans (Z7 _ e))
 have ab:=(H.2 _ (X1 L)).trans ((C.2 _ (X1 L)).trans (Zj _ rfl));rw[U]at G ab;refine Z3 %[_,rfl|?_];rw[U];exact hQ x y g8 B px py G (up _ _ D.TOz m) (D1.frame _ _ _ (r (λb d=>(O b d).2.1) l (r (λb d=>(O b d).2.2) j (r (λb d=>(O b d).2.1) g ak))) λb d o e=>up b o (O b d).1 e) (D2.frame _ _ _ (u (λb d=>(m2 b d).2.1) l al) λb d o e=>up b o (m2 b d).1 e) ab λc o c1 c2 c3 c4 e=>up c o c1 (an c o c1 c2 c3 c4 e)
def BK(O:Draws prog w A i1 fp1 n1 P1 St1)(D2:Draws prog w A i2 fp2 n2 P2 St2)(D:wQ z TI TO i1 i2)(m1:∀b∈fp1,b≠z/\b≠TO/\b≠i2)(m2:∀b∈fp2,b≠z/\b≠TO/\b≠i1)
 (C:IsZip s.heap z TI TO .none) (T:IsPair s.heap TI (.ref i1) (.ref i2)) (U:IsPair s.heap TO a b) (h1:St1 i s.heap) (h2:St2 i s.heap) (l1:i<=n1) (l2:i<=n2) (ab:i=n1\/i=n2)
 (hE:∀h' e tk,(∀c o,c≠z->c≠TO->c≠i1->c≠i2->s.heap.get? c∣o->h'.get? c∣o)->(∃o,h'.get? e∣o/\o.cls= .type "StopIteration")->E (.ref e) {s with heap:=h',toks:=tk}):
 ↥A (Builtin.«zip.__next__» %[[.ref z]|[]]) Q E s:=by
 have Y:∀{k h h' c},(∀b∈fp1,b≠c)->SameBut c h h'->St1 k h->St1 k h':=λhc sb st=>O.frame _ _ _ st λb j o e=>(sb.2 b (hc b j)).trans e
 have v:∀{k h h' c},(∀b∈fp2,b≠c)->SameBut c h h'->St2 k h->St2 k h':=λhc sb st=>D2.frame _ _ _ st λb j o e=>(sb.2 b (hc b j)).trans e
 show wpAny _ _ (field (.ref z) 2>>= _) _ _ _;refine Z2 (wpAny_field C rfl (x:= .bool false) rfl ?_);show wpAny _ _ (field (.ref z) 3>>= _) _ _ _;refine Z2 (wpAny_field C rfl (x:= .ref TI) rfl (Z2 (wpAny_seqItems T rfl ?_)));show wpAny _ _ (Builtin.SmallTypes.ownedTupleIsFree (.ref z)>>= _) _ _ _;refine Z2 ?_;unfold Builtin.SmallTypes.ownedTupleIsFree;refine Z2 (wpAny_field C rfl (x:= .none) rfl (Z3 ?_));simp only[if_true];refine Z2 (wpAny_rule (Z2 (wpAny_field C rfl (x:= .ref TO) rfl (Z2 (wpAny_setField_rec C ∅ λM n l=>?_)))));replace n:IsZip M z TI TO .ellipsis:=n;refine Z2 ?_;simp only[List.zipIdx_cons,List.zipIdx_nil,forIn_cons,List.forIn_nil];refine Z2 (Z2 (wpAny_onRaise ?_));show wpAny _ _ (Builtin.SmallTypes.nextOf (.ref i1)>>= _) _ _ _;have G:St1 i M:=Y (λb j=>(m1 b j).1) l h1;by_cases c1:i<n1
 .have e2:i=n2:=by lia
  refine Z2 (O.item i _ _ _ c1 G λx r y px ae d=>Z3 ?_);replace d:SameBut i1 M r:=d;have u:IsPair r TO a b:=(d.2 _ D.TOi1).trans ((l.2 _ D.TOz).trans U);refine Z2 (wpAny_seqItems u rfl (Z2 (wpAny_updateSeq_pair (s:={s with heap:=r,toks:=y}) u λH ac f=>?_)));replace f:SameBut TO r H:=f;refine Z2 (wpAny_letGo (Z3 (Z2 (Z2 (wpAny_onRaise ?_)))));show wpAny _ _ (Builtin.SmallTypes.nextOf (.ref i2)>>= _) _ _ _;refine Z2 (D2.done _ _ _ (e2▸v (λb j=>(m2 b j).2.1) f (v (λb j=>(m2 b j).2.2) d (v (λb j=>(m2 b j).1) l h2))) λN e p he=>?_);replace p:ExtBut i2 H N:=p;have%[oe,g|m]:=he;have I:IsZip N z TI TO .ellipsis:=p _ _ D.i2z.symm ((f.2 _ D.TOz.symm).trans ((d.2 _ D.i1z.symm).trans n));have B:e≠z:=λx=>by subst x;rw[I]at g;cases g;simp at m
  refine wpAny_setField_rec (s:={s with heap:=N,toks:=y}) I ∅ λg5 _ q=>?_
  replace q:SameBut z N g5:=q;exact hE g5 e y (λc o J d2 d3 d4 x=>(q.2 c J).trans (p c o d4 ((f.2 c d2).trans ((d.2 c d3).trans ((l.2 c J).trans x))))) %[oe,(q.2 e B).trans g|m]
 .have e1:i=n1:=by lia
  refine Z2 (O.done _ _ _ (e1▸G) λr e d he=>?_);replace d:ExtBut i1 M r:=d;have%[oe,g|m]:=he;have L:=d _ _ D.i1z.symm n;have B:e≠z:=λx=>by subst x;rw[L]at g;cases g;simp at m
  refine wpAny_setField_rec (s:={s with heap:=r}) L ∅ λH _ f=>?_
  replace f:SameBut z r H:=f;exact hE H e s.toks (λc o J _ d3 _ x=>(f.2 c J).trans (d c o d3 ((l.2 c J).trans x))) %[oe,(f.2 e B).trans g|m]
end
abbrev Itz(x y:Str):It:=⟨λi _=>i<x.cps.size/\i<y.cps.size,λi H v a=>∃c d T,x.cps[i]?∣c/\y.cps[i]?∣d/\H T=none/\v= .ref T/\a=upd H T (.tup [.str ⟨#[c]⟩,.str ⟨#[d]⟩]),
 λi _=>i<=x.cps.size/\i<=y.cps.size/\(i=x.cps.size\/i=y.cps.size)⟩
abbrev ZSt(z TI TO c d:Addr)(e f:Nat->Heap->Prop)(i:Nat)(h:Heap):Prop:=IsZip h z TI TO .none/\IsPair h TI (.ref c) (.ref d)/\(∃a b,IsPair h TO a b)/\e i h/\f i h
def jm(prog:Program)(w:World)(x:Str)(t:Tok)(a:Addr):∀A,A.handled=none->
 Draws prog w A a [a] x.cps.size (λi v=>∃c u,x.cps[i]?∣c/\v= .str ⟨#[c]⟩ u) (λi h=>h.IsStrIter a (strIterType x) x t i):=by
 intro A b;unfold strIterType;cases d:x.cps.all _ with
 | true=>exact Draws.strAscii b a x t
 | false=>exact Draws.strWide b a x t
def BL{P:Program}{K:ZA}(z TI TO i1 i2:Addr)(x y:Str)(t u:Tok)(D:wQ z TI TO i1 i2):
 p7 P w K (.Tuple elts kt tp) (Itz x y) [z,TI,TO,i1,i2] z (ZSt z TI TO i1 i2 (λi h=>h.IsStrIter i1 (strIterType x) x t i) (λi h=>h.IsStrIter i2 (strIterType y) y u i)) where
 mem:=by simp
 obj:=λi h st b hb=>by
  have%[hz,hTI,%[a,c|hTO],%[o1,e1,_|d1],o2,e2,_|d2]:=st
  grind
 keep:=λi h h' st k=>by
  have%[hz,hTI,%[a,c|hTO],%[o1,e1|r1],o2,e2|r2]:=st;exact%[k z ∅ _ hz,k TI ∅ _ hTI,%[a,c|k TO ∅ _ hTO],%[o1,k i1 ∅ _ e1|r1],o2,k i2 ∅ _ e2|r2]
 item:=by
  intro X hP hw hK hc i pins s σ H E I hf st hg;subst hP hw hK;have%[hz,hTI,%[a,c|hTO],h1|h2]:=st;obtain⟨g1,g2⟩:i<x.cps.size/\i<y.cps.size:=hg;have hT:s.TypeIs (.ref z) "zip":=%[_,hz|rfl]
  have hh:X.A.in1.handled=none:=I.ok.hd hc;unfold pyNext;refine Z2 (wpAny_attempt (wpAny_callSpecial?_slot (name:=!"__next__") hT F.slot_zip_next (wpAny_call_entry F.slot_zip_next hT F.entry_zip_next
   (BJ (jm _ _ x t i1 _ hh) (jm _ _ y u i2 _ hh) D (λb hb=>(show b=i1 by simpa using hb)▸%[D.i1z,Ne.symm D.TOi1|D.i12]) (λb hb=>(show b=i2 by simpa using hb)▸%[D.i2z,Ne.symm D.TOi2|Ne.symm D.i12]) hz hTI hTO h1 h2 g1 g2 λv1 v2 h' tk p1 p2 a1 a2 a3 a4 a5 hk=>Z3 ?_) (F.args_zip_next_1 _))))
  have%[c1,u1,e1|rfl]:=p1;have%[c2,u2,e2|rfl]:=p2;refine%[_,ρ|wpAny_letOwnedTupleGo_zip (s:={s with heap:=h',toks:=tk}) a1 λh'' hz'' sb=>?_];replace sb:SameBut z h' h'':=sb;have turn1:Inv X pins σ H {s with heap:=h'',toks:=tk}:=by
   have nit:∀b v,H b∣v->b∉[z,TI,TO,i1,i2]:=λb v e hb=>by rw[(hf b hb).1]at e;cases e
   have kk:∀b o,b∉[z,TI,TO,i1,i2]->s.heap.get? b∣o->h''.get? b∣o:=λb o hb e=>by
    simp only[Yw,X7,or_false,not_or]at hb;exact(sb.2 b hb.1).trans (hk b o hb.1 hb.2.2.1 hb.2.2.2.1 hb.2.2.2.2 e)
   refine I.step (g':=s.gens) (d':=s.drawn) (ch:=[z,TI,TO,i1,i2]) (λb hb=>%[(hf b hb).2.2.2.1,(hf b hb).2.1,(hf b hb).2.2.2.2.1|(hf b hb).2.2.2.2.2]) (λb o _ _ hc e _=>kk b o hc e) (λb o _ _ hc e _=>%[o.slots|kk b o hc e]) (λ_ _ _ _ n=>n)
    (λb o hc e=>%[o|kk b o hc e]) (λ_ _ e=>e) (λ_ _ _ e=>e) (λb ps e=>%[#[]|by rw[e];simp]) (λm hm=>?_) (λb v e=>?_) I.bare
   .have%[o,es,ep,ho|r]:=hm;exact%[o,es,ep,kk _ o (λhb=>(hf _ hb).2.1 rfl) ho|r]
   .refine(I.hok b v e).stay (λc' v' hc' q=>kk c' v' ?_ q) (λ_ q=>q) λ_ _ q=>q
    rcases hc' with q'|q'
    .exact q'▸nit b v e
    .exact nit c' _ q'
  have Hn:H ⇑s=none:=I.fresh;have I2:Inv X pins σ (upd H ⇑s (.tup [.str ⟨#[c1]⟩,.str ⟨#[c2]⟩])) {s with heap:=h'',toks:=tk}:=by
   have nf:⇑s∉X.fs:=I.nofs (Zi _);refine%[turn1.ok,turn1.os,turn1.bare,?_,turn1.loc,turn1.cell,?_,?_,?_,?_|turn1.len]
   .refine%[turn1.base.keep,turn1.base.slot,λb o e n hx=>?_,turn1.base.there,λb xs e=>?_,λb o v e=>?_|λb ps e=>?_]
    .rw[ao ((λb o e=>Zs (Zg (Zu e) I.sz)) b o e)];exact turn1.base.free b o e n hx
    .rw[ao (aw (turn1.base.tups b xs e) Hn)];exact turn1.base.tups b xs e
    .rw[ao (aw (turn1.base.frzs b o v e) Hn)];exact turn1.base.frzs b o v e
    .have%[m|q]:=turn1.base.tbls b ps e;exact%[m|(ao (aw q Hn))▸q]
   .rw[ao (Zs I.lt)];exact turn1.free
   .intro x' c' e;have%[v'|q]:=I.cell x' c' e;rw[ao (Zs q.lt)];exact turn1.freeC x' c' e
   .intro p hp;have%[e,n|r]:=turn1.pin p hp;refine%[e,?_|r];rw[ao (Zs (Zu (I.pin p hp).1))];exact n
   .intro b v e;by_cases hb:b=⇑s
    .subst hb;rw[aa]at e;cases e;exact%[by show 2<=sizeLine;decide,[.str _ u1,.str _ u2],.cons %[_|ρ] (.cons %[_|ρ] .nil),_,((sb.2 _ (X1 (Zu hz))).trans a5),ρ,_|ρ]
    .rw[ao hb]at e;refine(turn1.hok b v e).stay (λ_ _ _ q=>q) (λc' q=>?_) λc' xs q=>?_
     .rw[ao (aw q Hn)];exact q
     .rw[ao (aw q Hn)];exact q
  refine%[.ref ⇑s,_,I2,ρ,%[c1,c2,_,e1,e2,Hn,ρ|ρ],%[hz'',(sb.2 _ D.TIz).trans (hk _ _ D.TIz D.TITO D.TIi1 D.TIi2 hTI),%[_,_|(sb.2 _ D.TOz).trans a2],?_|?_]|λb hb=>?_]
  .have%[o,e|r]:=a3;exact%[o,(sb.2 _ D.i1z).trans e|r]
  .have%[o,e|r]:=a4;exact%[o,(sb.2 _ D.i2z).trans e|r]
  .have:b<⇑s:=by
    simp only[Yw,X7,or_false]at hb;have%[o1,q1|_]:=h1;have%[o2,q2|_]:=h2;rcases hb with rfl|rfl|rfl|rfl|rfl
    .exact Zu hz
    .exact Zu hTI
    .exact Zu hTO
    .exact Zu q1
    .exact Zu q2
   rw[ao (Zs this)];exact(hf b hb).1
 done:=by
  intro X hP hw hK hc i pins s σ H E I hf st hg;have%[hz,hTI,%[a,c|hTO],h1|h2]:=st;obtain⟨g1,g2,g3⟩:i<=x.cps.size/\i<=y.cps.size/\(i=x.cps.size\/i=y.cps.size):=hg;have hT:s.TypeIs (.ref z) "zip":=%[_,hz|rfl]
  have hh:=I.ok.hd hc;refine Z2 (wpAny_attempt (wpAny_callSpecial?_slot hT F.slot_zip_next (wpAny_call_entry F.slot_zip_next hT F.entry_zip_next
   (BK (jm _ _ x t i1 _ hh) (jm _ _ y u i2 _ hh) D (λb hb=>(show b=i1 by simpa using hb)▸%[D.i1z,Ne.symm D.TOi1|D.i12]) (λb hb=>(show b=i2 by simpa using hb)▸%[D.i2z,Ne.symm D.TOi2|Ne.symm D.i12]) hz hTI hTO h1 h2 g1 g2 g3 λh' e tk hk he=>?_) (F.args_zip_next_1 _))))
  have%[o,ho|hco]:=he;refine Z2 (wpAny_isInstance %[o,ho|hco] isSubtype_stop (Z3 %[rfl|?_]));have nit:∀b v,H b∣v->b∉[z,TI,TO,i1,i2]:=λb v e hb=>by rw[(hf b hb).1]at e;cases e
  have kk:∀b o,b∉[z,TI,TO,i1,i2]->s.heap.get? b∣o->h'.get? b∣o:=λb o hb e=>by
   simp only[Yw,X7,or_false,not_or]at hb;exact hk b o hb.1 hb.2.2.1 hb.2.2.2.1 hb.2.2.2.2 e
  refine I.step (λb hb=>%[(hf b hb).2.2.2.1,(hf b hb).2.1,(hf b hb).2.2.2.2.1|(hf b hb).2.2.2.2.2]) (λb o _ _ hc e _=>kk b o hc e) (λb o _ _ hc e _=>%[o.slots|kk b o hc e]) (λ_ _ _ _ n=>n)
   (λb o hc e=>%[o|kk b o hc e]) (λ_ _ e=>e) (λ_ _ _ e=>e) (λb ps e=>%[#[]|by rw[e];simp]) (λm hm=>?_) (λb v e=>?_) I.bare
  .have%[o',es,ep,ho'|r]:=hm;exact%[o',es,ep,kk _ o' (λhb=>(hf _ hb).2.1 rfl) ho'|r]
  .refine(I.hok b v e).stay (λc' v' hc' q=>kk c' v' ?_ q) (λ_ q=>q) λ_ _ q=>q
   rcases hc' with q'|q'
   .exact q'▸nit b v e
   .exact nit c' _ q'
 self:=λ_ _ _ _ _ st h=>wpAny_pyIter_zip st.1 h
abbrev aS:Expr->Bool
 | .Starred _ _=>true
 | _=>false
def aA(h:aS e=false):starEach (e::es) env=(false,eval e env)::starEach es env:=by
 cases e<;> first|rfl|cases(show true=false from h)
def dI(h:aS e=false):assignEach (e::es) env=(false,assign e env)::assignEach es env:=by
 cases e<;> first|rfl|cases(show true=false from h)
def gX:∀{es:List Expr},es.any aS=false->(backTo pos (starEach es env)).any (·.1)=false
 |[],_=>rfl
 | e::es,h=>by
   rw[Zw,X8]at h;rw[aA h.1];have:=gX (pos:=pos) (env:=env) h.2;cases es with
   | nil=>rfl
   | cons b a=>
     simp only[backTo]at this ⊢;simpa using this
def tE:∀{es:List Expr},es.any aS=false->(backTo pos (starEach es env)).all (λx=>!x.1)=true
 |[],_=>rfl
 | e::es,h=>by
   rw[Zw,X8]at h;rw[aA h.1];have:=tE (pos:=pos) (env:=env) h.2;cases es with
   | nil=>rfl
   | cons b a=>
     simp only[backTo]at this ⊢;simpa using this
def eV:∀{es:List Expr},es.any aS=false-> ~~~(assignEach es env)= ~~~es/\(assignEach es env).findIdx? (·.1)=none
 |[],_=>%[rfl|rfl]
 | e::es,h=>by
   rw[Zw,X8]at h;rw[dI h.1];have a:=eV (env:=env) h.2;refine%[by rw[Zr,Zr,a.1]|?_];rw[List.findIdx?_cons,a.2];rfl
abbrev gY:Expr->Bool
 | .ListComp _ _ _ _=>true
 | .SetComp _ _ _ _=>true
 | .DictComp _ _ _ _ _=>true
 | _=>false
def kr(h:gY e=false):swapsWith e t l env=pure false:=by
 cases e<;> first|rfl|cases(show true=false from h)
abbrev wR:Expr->Bool
 | .Tuple _ _ _=>true
 | _=>false
def wS(h:wR e=false):swappedStores [t] e env=pure none:=by
 cases t with
 | Tuple _ _ _=>cases e<;> first|rfl|cases(show true=false from h)
 | List _ _=>cases e<;> first|rfl|cases(show true=false from h)
 | _=>rfl
abbrev jn:Expr->Bool
 | .Call _ _ _ _=>true
 | _=>false
def iP(h:jn o=false):attributeBase o a env w=w:=by
 cases o<;> first|rfl|cases(show true=false from h)
abbrev nV:Expr->Bool
 | .Set _ _ _=>true
 | _=>false
def lO(h:nV e=false)(x:Value):foldedSetIterable e env x=pure x:=by
 cases e<;> first|rfl|cases(show true=false from h)
structure QE (X:Cx) (e:Expr) (t:TE):Prop where
 h:PE X e t
structure QT (X:Cx) (e:Expr) (t:TT):Prop where
 h:PT X e t
structure QW (X:Cx) (e:Expr) (t:TT):Prop where
 h:PW X e t
structure QA (X:Cx) (es:List Expr) (t:TA):Prop where
 h:PA X es t
structure QS (X:Cx) (st:Stmt) (t:TS):Prop where
 h:PS X st t
structure QSs (X:Cx) (st:List Stmt) (t:TS):Prop where
 h:PSs X st t
structure QG (X:Cx) (e:Expr) (t:TG):Prop where
 h:PG X e t
structure QGs (X:Cx) (es:List Expr) (t:TGs):Prop where
 h:PGs X es t
structure QI (X:Cx) (tg iter:Expr) (wi:TI):Prop where
 h:PI X tg iter wi
structure QO (X:Cx) (e:Option Expr) (t:TO):Prop where
 h:PO X e t
structure QTs (X:Cx) (ifs:List Expr) (t:TT):Prop where
 h:PTs X ifs t
structure OpQ (X:Cx) (f:Value->Value->Sem Value) (r:R2):Prop where
 h:OpR X f r
structure cJ (X:Cx) (f:Value) (r:List V->Hp->VK->Prop):Prop where
 h:cr X f r
structure MtQ (X:Cx) (id:String) (r:V->List V->Hp->VK->Prop):Prop where
 h:MtR X id r
section
variable{X:Cx}{K:ZA}{pos:Pos}
def ay{i j}:QE X (.Constant (.int i) j pos) (tC (.int i)):=⟨FJ⟩
def eBl{b j}:QE X (.Constant (.bool b) j pos) (tC (.bl b)):=⟨HE⟩
def uK{j}:QE X (.Constant .none j pos) (tC .non):=⟨FK⟩
def cE{x j}:QE X (.Constant (.str x) j pos) (tC (.str x)):=⟨FL⟩
def vn(i:Nat)(b:X.N[i]?∣x)(c:Vis X.env.scope x)(d:(x==("__debug__":Str))=false)(a:(x==("__classdict__":Str))=false):QE X (.Name x pos) (pZ i):=⟨AU b c d a⟩
def gvE(g:Gv X.mg x v)(a:Gl X x)(b:(x==("__debug__":Str))=false):QE X (.Name x pos) (tC v):=⟨Fl g a b⟩
def blE(a:Gl X x)(b:X.mg x=none)(c:bootBuiltins x∣u)(r:aV v u)(f:(x==("__name__":Str))=false)(d:(x==("__debug__":Str))=false):QE X (.Name x pos) (tC v):=
 ⟨Do a b c r (λe=>by lia) d⟩
def aq:QA X [] wJ:=⟨wK⟩
def paE(a:aS e=false)(b:QE X e c)(d:QA X es t):QA X (e::es) (xY c t):=⟨sQ b.h d.h (aA a)⟩
def calE(C:Cal X.prog X.w X.K X.mg X.base j x ps sp)(d:cg k X.A)(f:Gl X x)(a:Nat.ble j k=true)
 (b:(x==("__debug__":Str))=false) (c:(e::es).any aS=false) (g:QA X (e::es) t):
 QE X (.Call (.Name x p) (e::es) [] pos) (uB sp [] E0 t):=by
 rw[Zw,X8]at c;exact⟨GB C d f BB g.h (Nat.le_of_ble_eq_true a) b (aA c.1) (gX c.2)⟩
def cbE{id:String}(c:cJ X (.builtin id) r)(d:Gl X x)(f:X.mg x=none)(g:bootBuiltins x∣.builtin id)(i:(x==("__name__":Str))=false)(a:(x==("__debug__":Str))=false)
 (b:(e::es).any aS=false) (h:QA X (e::es) t):QE X (.Call (.Name x p) (e::es) [] pos) (tCB r t):=by
 rw[Zw,X8]at b;exact⟨Bm c.h d f g h.h (λe=>by lia) a (aA b.1) (gX b.2)⟩
def ctE(c:cJ X (.type T) r)(d:Gl X x)(f:X.mg x=none)(g:bootBuiltins x∣.type T)(i:(x==("__name__":Str))=false)(a:(x==("__debug__":Str))=false)
 (b:(e::es).any aS=false) (h:QA X (e::es) t):QE X (.Call (.Name x p) (e::es) [] pos) (tCB r t):=by
 rw[Zw,X8]at b;exact⟨zE c.h d f g h.h (λe=>by lia) a (aA b.1) (gX b.2)⟩
def bmE{T id:String}(h:X.K=K)(l:PlainAttrs T)(slot:Slot T name id)(g:typeOf (.builtin id)=pure (.type "method_descriptor"))(m:MtQ X id r)
 (b:jn o=false) (a:(e::es).any aS=false) (i:Nat.blt (e::es).length 30=true) (c:(d.endLine==f.line)=true) (n:QE X o p) (q:QA X (e::es) t):
 QE X (.Call (.Attribute o name d) (e::es) [] f) (tBM K T r p t):=by
 have j:=a;rw[Zw,X8]at j;refine⟨BI h l slot g m.h n.h q.h (iP b) ?_ c (aA j.1) (gX j.2)⟩;rw[tE a];have:decide (~~~(e::es)+ ~~~([]:List Keyword)+(if([]:List Keyword).isEmpty then 0 else 1)<30)=true:=Zf ((Nat.blt_eq.mp i));rw[this];rfl
def HY{T id:String}(h:X.K=K)(f:PlainAttrs T)(slot:Slot T name id)(e:typeOf (.builtin id)=pure (.type "method_descriptor"))(g:MtQ X id r)
 (a:jn o=false) (b:(c.endLine==d.line)=true) (i:QE X o j):QE X (.Call (.Attribute o name c) [] [] d) (DP K T r j):=⟨El h f slot e g.h i.h (iP a) b⟩
def kx(b:Gl X "range")(c:X.mg "range"=none)(d:aS a=false)(e:QA X [a] f):QI X g (.Call (.Name "range" p) [a] [] pos) (A6 f):=⟨zo b c e.h (aA d)⟩
def Fo(d:Gl X "range")(e:X.mg "range"=none)(f:aS a=false)(c:aS b=false)(g:QA X [a,b] h):QI X i (.Call (.Name "range" p) [a,b] [] pos) (A7 h):=
 ⟨zq d e g.h ((aA f).trans (by rw[aA c];rfl)) (aA c)⟩
def Em(h:X.K=K)(a:QE X l b):QI X c l (Ej K b):=⟨Ek h a.h⟩
section
variable{a b c:Expr}{ta tb tc:TE}{op op':CmpOp}{r r':R2}
def wU(e:OpQ X (compareOp op) r)(d:OpQ X (compareOp op') r')(f:lastMarks [op,op'] [b,c]=false)(g:QE X a ta)(h:QE X b tb)(i:QE X c tc):QE X (.Compare a [op,op'] [b,c] pos) (wB r r' ta tb tc):=⟨Bc e.h d.h g.h h.h i.h f⟩
def iJ(d:OpQ X (compareOp op) r)(e:behindInMarks op b=false)(f:QE X a ta)(g:QE X b tb):QE X (.Compare a [op] [b] pos) (tOp r ta tb):=⟨Dz d.h f.h g.h e⟩
def bh(d:OpQ X (compareOp op) r)(e:behindInMarks op b=false)(f:QE X a ta)(g:QE X b tb):QT X (.Compare a [op] [b] pos) (xX (tOp r ta tb)):=⟨DC d.h f.h g.h e⟩
def opE{op:Operator}(d:OpQ X (binaryOp op) r)(e:QE X a ta)(f:QE X b tb):QE X (.BinOp a op b pos) (tOp r ta tb):=⟨HJ d.h e.h f.h⟩
def GE(d:QE X a ta):QE X (.UnaryOp .USub a pos) (tUn (rU λi=> .int (-i)) ta):=⟨HK F5 d.h⟩
def noO:QO X none sU:=⟨DK⟩
def Fp(h:QE X a ta):QO X (some a) (Bn ta):=⟨DL h.h⟩
def tF{op}(h:QE X a ta):QE X (.BoolOp op [a] pos) ta:=⟨FS h.h⟩
def tG{rest:List Expr}(d:QE X a ta)(e:QE X (.BoolOp .And (b::rest) pos) tb):QE X (.BoolOp .And (a::b::rest) pos) (AW ta tb):=⟨FT d.h e.h⟩
def orV{rest:List Expr}(d:QE X a ta)(e:QE X (.BoolOp .Or (b::rest) pos) tb):QE X (.BoolOp .Or (a::b::rest) pos) (FR ta tb):=⟨HH d.h e.h⟩
def cn(h:QA X es t):QE X (.List es pos) (Ge t):=⟨Gg h.h⟩
def gi{d}(h:QA X es t):QE X (.Tuple es d pos) (Gd t):=⟨Gf h.h⟩
def eW:QE X (.Dict [] [] pos) wM:=⟨Bz⟩
variable{tA tB':TT}{rest:List Expr}
def ifE(d:QT X c tA)(e:QE X a ta)(f:QE X b tb):QE X (.IfExp c a b pos) (tIf tA ta tb):=⟨AX d.h e.h f.h⟩
def jC(d:QT X a tA):QT X (.UnaryOp .Not a pos) (FN tA):=⟨FQ d.h⟩
def kz(d:QT X a tA):QW X (.BoolOp .And [a] pos) tA:=⟨Dq d.h⟩
def qa(d:QT X a tA):QW X (.BoolOp .Or [a] pos) tA:=⟨FO d.h⟩
def tH(d:QT X a tA)(e:QW X (.BoolOp .And (b::rest) pos) tB'):QW X (.BoolOp .And (a::b::rest) pos) (Dp tA tB'):=⟨FP d.h e.h⟩
def orW(d:QT X a tA)(e:QW X (.BoolOp .Or (b::rest) pos) tB'):QW X (.BoolOp .Or (a::b::rest) pos) (tOr tA tB'):=⟨HG d.h e.h⟩
def wT(h:QW X a tA):QT X a tA:=⟨PW.pt h.h⟩
def eX(h:X.K=K)(f:∀d,isTrue a X.env d=(do let v<-d;standAt a.pos;holding [v] (truthy v)))(g:QE X a ta):QT X a (λi H Q=>ta i H λx e=>∃k,zv K x e k/\Q k e):=⟨zQ h g.h f⟩
def nW:QTs X [] D0:=⟨Ea⟩
def eY(h:QT X c tA):QTs X [c] tA:=⟨Eb h.h⟩
end
def cX(S:aC X c e f)(l:X.calm=true)(m:nV iter=false)(hi:QI X j iter n)
 (o:∀a b d,QG (bT X c e a b d) j g) (p:∀a b d,QTs (bT X c e a b d) h q) (r:∀a b d,QE (bT X c e a b d) i s):
 QE X (.ListComp i [%[j,iter,h|0]] c pos) (qP n e.length f g q s):=⟨Ee S l hi.h (λa b d=>(o a b d).h) (λa b d=>(p a b d).h) (λa b d=>(r a b d).h) (lO m)⟩
def aR:QSs X [] AY:=⟨Dr⟩
def aj{st:Stmt}{rest:List Stmt}(a:QS X st t)(b:QSs X rest u):QSs X (st::rest) (aU t u):=⟨AZ a.h b.h⟩
def ar{st:Stmt}(a:QS X st t):QSs X [st] t:=⟨Ds a.h⟩
def ifS(d:QT X c e)(f:QSs X a t)(g:QSs X b u):QS X (.If c a b pos) (jB e t u):=⟨HI d.h f.h g.h⟩
def aL(a:QE X e b):QS X (.Return (some e) pos) (fG b):=⟨FU a.h⟩
def gZ{st:Stmt}:QS X st A0:=⟨A1⟩
def bR(c:PassesOwn (model X.prog X.w) X.A X.env X.xe)(d:X.calm=true)(e:nV iter=false)(hi:QI X b iter f)(h:QG X b g)(i:QSs X a j):
 QS X (.For b iter a [] pos) (uA f g j):=⟨FZ c d hi.h h.h i.h (lO e)⟩
def uL(i:Nat)(b:X.N.Nodup)(hi:X.N[i]?∣x)(c:Loc X.env.scope x)(d:X.fn x=true\/X.env.scope.names.lookup x∣.local)(f:gY e=false)(g:QE X e h):
 QS X (.Assign [.Name x a] e pos) (sM h (kg i)):=⟨FY b hi c g.h (kr f) d⟩
def cm(a:gY e=false)(b:QE X e c):QS X (.Expr e pos) (jG c):=⟨Dt b.h (kr a)⟩
def GF(c:gY e=false)(hw:wR e=false)(a:aS b=false)(d:QE X e f)(h:QG X b g):QS X (.Assign [b] e pos) (sM f g):=
 ⟨FX d.h h.h (kr c) (wS hw) (by rw[dI a];rfl)⟩
def qT(i:Nat)(a:X.N.Nodup)(hi:X.N[i]?∣x)(b:Loc X.env.scope x)(c:X.fn x=true\/X.env.scope.names.lookup x∣.local):QG X (.Name x pos) (kg i):=⟨Du a hi b c⟩
def cC:QGs X [] FV:=⟨Dv⟩
def gsE(a:aS e=false)(b:QG X e t)(c:QGs X es u):QGs X (e::es) (A2 t u):=⟨A3 b.h c.h (by rw[dI a];rfl)⟩
def eC(b:X.K=K)(c:X.calm=true)(a:es.any aS=false)(h:QGs X es t):QG X (.Tuple es k pos) (Dw K es.length t):=by
 subst b;exact⟨FW c h.h (eV a).1 (eV a).2⟩
def GG:OpQ X (binaryOp .Add) BF:=⟨Eg⟩
def x9:OpQ X (binaryOp .Sub) (rI0 λi j=> .int (i-j)):=⟨F3⟩
def GH:OpQ X (binaryOp .Mult) BG:=⟨Eh⟩
def cx:OpQ X (binaryOp .Mod) (rI (λ_ j=>0<j) λi j=> .int (i%j)):=⟨F4⟩
def lP:OpQ X (binaryOp .FloorDiv) (rI HM λi j=> .int (i/j)):=⟨Dx⟩
def cb:OpQ X (compareOp .Eq) Gu:=⟨Gw⟩
def fI:OpQ X (compareOp .NotEq) Gx:=⟨Gy⟩
def zR:OpQ X (compareOp .Lt) (rI0 λi j=> .bl (decide (i<j))):=⟨HQ⟩
def uM:OpQ X (compareOp .LtE) (rI0 λi j=> .bl (decide (i<=j))):=⟨HR⟩
def qb:OpQ X (compareOp .Gt) (rI0 λi j=> .bl (decide (j<i))):=⟨HS⟩
def Fq:OpQ X (compareOp .Is) (λx y H Q=>y= .non/\Q (.bl (decide (x= .non))) H):=⟨F7⟩
def wV:OpQ X (compareOp .IsNot) (λx y H Q=>y= .non/\Q (.bl (!decide (x= .non))) H):=⟨Dy⟩
def En(h:X.K=K):OpQ X (compareOp .In) (Ei K):=⟨GD h⟩
nonrec abbrev yc:R2:=λx y H Q=>∃i j,x= .str i/\y= .str j/\Q (.bl (!(!(Builtin.Str.occurrences j i 0 j.length 1).isEmpty))) H
nonrec abbrev yd(K:ZA):R2:=λx y H Q=>yc x y H Q\/rIn K true x y H Q
def ye(h:X.K=K):OpQ X (compareOp .NotIn) (yd K):=by subst h;exact⟨sY.or sX⟩
def di(h:X.K=K):cJ X (.builtin "len") (λxs H Q=>∃x n,xs=[x]/\DD K x H n/\Q (.int n) H):=⟨zN h⟩
def BM(h:X.K=K)(a:X.calm=true):cJ X (.builtin "all") (λxs H Q=>∃(p:Addr) (bs:List Bool),xs=[.ref p]/\SqL K H p (bs.map V.bl)/\Q (.bl (bs.all id)) H):=⟨zO h a⟩
def HZ(a:X.calm=true):cJ X (.builtin "min") (λxs H Q=>∃i j,xs=[.int i,.int j]/\Q (.int (if j<i then j else i)) H):=⟨zw a⟩
def iQ(h:X.K=K):cJ X (.builtin "isinstance") (λxs H Q=>∃x n t b,xs=[x,.ty n]/\jR K H x t/\kitOne K t (.type n)∣b/\Q (.bl b) H):=⟨zP h⟩
def BN:cJ X (.type "int") (λxs H Q=>(∃i,xs=[.int i]/\Q (.int i) H)\/∃k,xs=[.bl k]/\Q (.int (if k then 1 else 0)) H):=⟨zx⟩
def nZ(h:X.K=K):cJ X (.type "list") (λxs H Q=>∃p ys,xs=[.ref p]/\(SqL K H p ys\/SqT K H p ys)/\∀l,H l=none->Q (.ref l) (upd H l (.lst ys))):=⟨wP h⟩
def bB:MtQ X "list.append" tf:=⟨qL⟩
def n5:MtQ X "list.extend" ti:=⟨zG⟩
def wW(h:X.K=K):MtQ X "str.join" (x8 K):=⟨BH h⟩
end
open PySem PySem.Spec PyProof.Rows PySem.SeqAt
section
variable{X:Cx}{pins:ZE}{σ:St}{H:Hp}{s:Shared}
variable{h':Heap}{tk:Nat}{fp:List Addr}
def Inv.moved(I:Inv X pins σ H s)(c:∀b∈fp,mW X pins H b)(d:∀b o,b∉fp->s.heap.get? b∣o->h'.get? b∣o):Inv X pins σ H {s with heap:=h',toks:=tk}:=by
 have f:∀b v,H b∣v->b∉fp:=λb v e a=>by rw[(c b a).1]at e;cases e
 refine I.step (λb a=>%[(c b a).2.2.2.1,(c b a).2.1,(c b a).2.2.2.2.1|(c b a).2.2.2.2.2]) (λb o _ _ g e _=>d b o g e) (λb o _ _ g e _=>%[o.slots|d b o g e]) (λ_ _ _ _ n=>n)
  (λb o g e=>%[o|d b o g e]) (λ_ _ e=>e) (λ_ _ _ e=>e) (λb ps e=>%[#[]|by rw[e];simp]) (λm l=>?_) (λb v e=>?_) I.bare
 .have%[o,es,p,u|r]:=l;exact%[o,es,p,d _ o (λa=>(c _ a).2.1 rfl) u|r]
 .refine(I.hok b v e).stay (λj w h q=>d j w ?_ q) (λ_ q=>q) λ_ _ q=>q
  rcases h with i|i
  .exact i▸f b v e
  .exact f j _ i
def Inv.stood(I:Inv X pins σ H s)(J:Inv X pins σ H {s with heap:=h',toks:=tk})(c:⇑s<=a)(new:ck X.prog X.w (upd H a o) h' a o):Inv X pins σ (upd H a o) {s with heap:=h',toks:=tk}:=by
 have d:=I.hok.fresh c;refine%[J.ok,J.os,J.bare,?_,J.loc,J.cell,?_,?_,?_,?_|J.len]
 .refine%[J.base.keep,J.base.slot,λb o e n j=>?_,J.base.there,λb xs e=>?_,λb o v e=>?_|λb ps e=>?_]
  .rw[ao ((λb o e=>Zs (Zg (Zg (Zu e) I.sz) c)) b o e)];exact J.base.free b o e n j
  .rw[ao (aw (J.base.tups b xs e) d)];exact J.base.tups b xs e
  .rw[ao (aw (J.base.frzs b o v e) d)];exact J.base.frzs b o v e
  .have%[m|q]:=J.base.tbls b ps e;exact%[m|(ao (aw q d))▸q]
 .rw[ao (Zs (Zg I.lt c))];exact J.free
 .intro g f e;have%[l|q]:=I.cell g f e;rw[ao (Zs (Zg q.lt c))];exact J.freeC g f e
 .intro p h;have%[e,n|r]:=J.pin p h;refine%[e,?_|r];rw[ao (Zs (Zg (Zu (I.pin p h).1) c))];exact n
 .intro b v e;by_cases i:b=a
  .subst i;rw[aa]at e;cases e;exact new
  .rw[ao i]at e;refine(J.hok b v e).stay (λ_ _ _ q=>q) (λf q=>?_) λf xs q=>?_
   .rw[ao (aw q d)];exact q
   .rw[ao (aw q d)];exact q
end
abbrev wX:V->List V->Hp->VK->Prop:=λx vs H Q=>∃z y,x= .str z/\vs=[.str y]/\1<= ~~~y/\ ~~~z+2<=sizeLine/\∀l,H l=none->Q (.ref l) (upd H l (.lst ((Txt.split z y)\3)))
def qU:∀ss k,aN (ss\3) (strsFrom k ss)
 |[],_=> .nil
 | _::r,k=> .cons %[_|rfl] (qU r _)
def BO{X:Cx}:MtM X "str.split" wX:=by
 intro pins s l H x vs v us Q I f g h;have%[z,y,rfl,rfl,m,n|q]:=h;have%[t|rfl]:=f;have%[o,rfl|i]:=g.one;have%[u|rfl]:=i;have b:(~~~y==0)=false:=by simp;lia
 have j:=split_le z y;by_cases c1:(decide (~~~z< ~~~y)||decide (Builtin.Str.strKind z<Builtin.Str.strKind y))=true
 .have e:Txt.split z y=[z]:=if_pos c1;rw[e]at q;exact call_meets F.slot_str_split (typeIs_str _ _ _) F.entry_str_split (F.args_str_split_2 _ _) (meets_str_split_cannot_occur z y t u c1) %[.ref _,_,I.lnew (ys:=[.str z]) (.cons %[_|rfl] .nil) (by show 1<=sizeLine;decide),rfl|q _ I.fresh]
 .have c:=Bool.eq_false_iff.mpr c1;by_cases d:(Builtin.Str.occurrences z y 0 z.length (~~~z+1)).isEmpty=true
  .have e:Txt.split z y=[z]:=(if_neg c1).trans (if_pos d);rw[e]at q;exact call_meets F.slot_str_split (typeIs_str _ _ _) F.entry_str_split (F.args_str_split_2 _ _) (meets_str_split_not_found z y t u c b d) %[.ref _,_,I.lnew (ys:=[.str z]) (.cons %[_|rfl] .nil) (by show 1<=sizeLine;decide),rfl|q _ I.fresh]
  .have e:Txt.split z y=Builtin.Str.partsBetween z _ y.length:=(if_neg c1).trans (if_neg d);have a: ~~~(Builtin.Str.partsBetween z (Builtin.Str.occurrences z y 0 z.length (z.length+1)) y.length)<=sizeLine:=by rw[<-e];lia
   refine call_meets F.slot_str_split (typeIs_str _ _ _) F.entry_str_split (F.args_str_split_2 _ _) (meets_str_split_sep z y t u c b (Bool.eq_false_iff.mpr d) ⋯ a) ?_;rw[<-e]at a ⊢;exact%[.ref _,_,I.lnew (qU _ _) (by rw[Z6];exact a),ρ|q _ I.fresh]
def yf{X:Cx}:MtQ X "str.split" wX:=⟨BO⟩
abbrev Ite(K:ZA)(a:Addr)(xs:List V):It:=⟨λi H=>SqL K H a xs/\i< ~~~xs,λi H v b=>∃x T,xs[i]?∣x/\H T=none/\v= .ref T/\b=upd H T (.tup [.int i,x]),λi H=>SqL K H a xs/\ ~~~xs<=i⟩
abbrev ESt(e c a:Addr)(i:Nat)(h:Heap):Prop:=(∃b,IsEnum h e c i b)/\h.IsListIter c a i
def zS{P:Program}{K:ZA}(e it a:Addr)(xs:List V)(hne:e≠it):p7 P w K (.Tuple elts kt tp) (Ite K a xs) [e,it] e (ESt e it a) where
 mem:=by simp
 obj:=λi h st b hb=>by
  have%[%[old|he],o1,e1,_|d1]:=st;simp only[Yw,X7,or_false]at hb;rcases hb with rfl|rfl
  .exact%[_,he|λv q=>nomatch q]
  .exact%[o1,e1|λv q=>by rw[d1]at q;cases q]
 keep:=λi h h' st k=>by
  have%[%[old|he],o1,e1|r1]:=st;exact%[%[old|k e ∅ _ he],o1,k it ∅ _ e1|r1]
 item:=by
  intro X hP hw hK hc i pins s σ H E I hf st hg;subst hP hw hK;have%[%[old|he]|hit]:=st;obtain⟨hq,hi⟩:SqL X.K H a xs/\i< ~~~xs:=hg;have%[its,rv,p|hz]:=I.list hq;have%[u,hu|ru]:=rv.get (i:=i) (x:=xs[i]) ∅;refine wpAny_pyNext_enum_item he hit p.isList ↑hu hne λh1 he1 hit1 ht1 hz1 hk1=>%[_,rfl|wpAny_letOwnedTupleGo_enum he1 λh2 he2 sb2=>?_]
  replace sb2:SameBut e h1 h2:=sb2;have elt:=Zu he;have kk:∀b o,b∉[e,it]->s.heap.get? b∣o->h2.get? b∣o:=λb o hb q=>by
   simp only[Yw,X7,or_false,not_or]at hb;exact(sb2.2 b hb.1).trans (hk1 b o hb.1 hb.2 q)
  have J:Inv X pins σ H {s with heap:=h2,toks:=s.toks+1}:=I.moved hf kk;have I2:Inv X pins σ (upd H ⇑s (.tup [.int i,xs[i]])) _:=
   I.stood J (Zi _) %[by show 2<=sizeLine;decide,[.int i s.toks,u],.cons %[_|rfl] (.cons ru .nil),_,((sb2.2 _ (X1 elt)).trans ht1),rfl,_|rfl]
  refine%[.ref ⇑s,_,I2,ρ,%[xs[i],_,by simp,I.fresh,ρ|ρ],%[%[u|he2]|?_]|λb hb=>?_]
  .have%[o,q|r]:=hit1;exact%[o,(sb2.2 _ (Ne.symm hne)).trans q|r]
  .have:b<⇑s:=by
    simp only[Yw,X7,or_false]at hb;rcases hb with rfl|rfl
    .exact elt
    .exact(by have%[o,q|_]:=hit;exact Zu q)
   rw[ao (Zs this)];exact(hf b hb).1
 done:=by
  intro X hP hw hK hc i pins s σ H E I hf st hg;subst hP hw hK;have%[%[old|he]|hit]:=st;obtain⟨hq,hi⟩:SqL X.K H a xs/\ ~~~xs<=i:=hg;have%[its,rv,p|hz]:=I.list hq;have hl:= ~~~rv;refine wpAny_pyNext_enum_end (I.ok.hd hc) he hit p.isList (by simp;lia) λh1 xb=>%[rfl|I.moved hf λb o hb q=>?_]
  simp only[Yw,X7,or_false,not_or]at hb;exact xb b o hb.2 q
 self:=λA i s Q E st h=>by
  have%[%[old|he]|hit]:=st;exact wpAny_pyIter_enum he h
abbrev Fs(K:ZA)(c:TA):TI:=λd H R=>c d H λvs b=>∃a xs,vs=[.ref a]/\SqL K b a xs/\R (Ite K a xs) b
section
variable{X:Cx}{K:ZA}{pos:Pos}
def qV(m:X.K=K)(n:Gl X "enumerate")(o:X.mg "enumerate"=none)(r:aS a=false)(v:QA X [a] w):
 QI X (.Tuple g L M) (.Call (.Name "enumerate" p) [a] [] pos) (Fs K w):=by
 subst m
 constructor
 intro pins s y H R I h;refine Call_ (fZ I n o boot_enumerate (PyProof.Rows.callWith_type1 (thP (v.h pos pins s y H _ I h) λus d vs z c A B=>?_) (aA r) rfl));have%[l,xs,e,C|q]:=B;subst e;have%[u,rfl|E]:=cu A;cases E;have%[its,N,p|O]:=c.list C;refine call_enumerate_list p.isList λQ i f G J=>wpAny_pyIter_enum i %[⇑d+1,[⇑d+1,⇑d],ESt _ ⇑d l,Ite X.K l xs,z,rfl,(c.kept J),zS _ _ _ _ (Nat.succ_ne_self _),%[%[_|i]|f],λb j=>?_|q]
 simp only[Yw,X7,or_false]at j;rcases j with rfl|rfl
 .exact c.fpOk (Yf _) (c.hok.fresh (Yf _))
 .exact c.fpOk (Zi _) (c.hok.fresh (Zi _))
end
section
variable(h:Heap)(x y:Str)(t u:Tok)
noncomputable abbrev zs1:Heap:=h.push {cls:= .type (strIterType x),data:= .fields #[.str x t,.int 0 0]}
noncomputable abbrev zs2:Heap:=(zs1 h x t).push {cls:= .type (strIterType y),data:= .fields #[.str y u,.int 0 0]}
noncomputable abbrev zs3:Heap:=(zs2 h x y t u).push {cls:= .type "tuple",data:= .seq #[.ref h.objs.size,.ref (zs1 h x t).objs.size]}
noncomputable abbrev zs4:Heap:=(zs3 h x y t u).push {cls:= .type "tuple",data:= .seq #[.none,.none]}
noncomputable abbrev zs5:Heap:=(zs4 h x y t u).push {cls:= .type "zip",data:= .fields #[.none,.bool false,.bool false,.ref (zs2 h x y t u).objs.size,.ref (zs3 h x y t u).objs.size]}
end
def mY(x y:Str)(t u:Tok):
 Meets (Builtin.«zip.__new__» %[[.type "zip",.str x t,.str y u]|[]]) (λ_ R s=>R (.ok (.ret (.ref (zs4 s.heap x y t u).objs.size))) {s with heap:=zs5 s.heap x y t u}):=
 .of_wp λprog w A R s b=>by
  have%[c,g,d,tk|os]:=s;have a:=PySem.sub_zip
  wp_walk using wpAny_pyIter_strU (x:=x) (t:=t),wpAny_pyIter_strU (x:=y) (t:=u)
  exact%[_,ρ|b]
section
#where
def n6
 (h:∀h',IsZip h' (⇑s+4) (⇑s+2) (⇑s+3) .none->IsPair h' (⇑s+2) (.ref ⇑s) (.ref (⇑s+1))->IsPair h' (⇑s+3) .none .none->
  h'.IsStrIter ⇑s (strIterType x) x t 0->h'.IsStrIter (⇑s+1) (strIterType y) y u 0->(∀c o,s.heap.get? c∣o->h'.get? c∣o)->Q (.ref (⇑s+4)) {s with heap:=h'}):
 ↥A (call (.type "zip") [.str x t,.str y u]) Q E s:=by
 refine callType_new F.called_zip (!1) (F.typeCall_zip_2 _ _) (F.newCall_zip_2 _ _) (λobj=>F.args_object_init_3 obj _ _) F.entry_zip_new (mY x y t u) ?_;have n1:(zs1 s.heap x t).objs.size=⇑s+1:=Zq ..;have a:(zs2 s.heap x y t u).objs.size=⇑s+2:=by rw[Zq,n1]
 have b:(zs3 s.heap x y t u).objs.size=⇑s+3:=by rw[Zq,a]
 have e:(zs4 s.heap x y t u).objs.size=⇑s+4:=by rw[Zq,b]
 have f:∀c o,(zs4 s.heap x y t u).get? c∣o->(zs5 s.heap x y t u).get? c∣o:=λ_ _ q=>Z7 _ q
 have g:∀c o,(zs3 s.heap x y t u).get? c∣o->(zs5 s.heap x y t u).get? c∣o:=λc o q=>f c o (Z7 _ q)
 have i:∀c o,(zs2 s.heap x y t u).get? c∣o->(zs5 s.heap x y t u).get? c∣o:=λc o q=>g c o (Z7 _ q)
 have k2:∀c o,(zs1 s.heap x t).get? c∣o->(zs5 s.heap x y t u).get? c∣o:=λc o q=>i c o (Z7 _ q)
 have k1:∀c o,s.heap.get? c∣o->(zs5 s.heap x y t u).get? c∣o:=λc o q=>k2 c o (Z7 _ q)
 have d:(zs5 s.heap x y t u).get? (zs4 s.heap x y t u).objs.size∣_:=Zj _ rfl;have j:(zs5 s.heap x y t u).get? (zs3 s.heap x y t u).objs.size∣_:=f _ _ (Zj _ rfl);have l:(zs5 s.heap x y t u).get? (zs2 s.heap x y t u).objs.size∣_:=g _ _ (Zj _ rfl);have m:=i _ _ (Zj _ rfl);show _/\_;rw[a,b,e]at d;rw[n1,a]at l;rw[b]at j;rw[n1]at m;rw[e];exact%[%[_,d|ρ]|h _ d l j %[_,(k2 _ _ (Zj _ rfl)),ρ|ρ] %[_,m,ρ|ρ] k1]
end
abbrev Ft(a:TA):TI:=λb H R=>a b H λvs c=>∃x y,vs=[.str x,.str y]/\R (Itz x y) c
section
variable{X:Cx}{K:ZA}{pos:Pos}
def Fu(w:Gl X "zip")(z:X.mg "zip"=none)(A:aS a=false)(g:aS b=false)(B:QA X [a,b] C):
 QI X (.Tuple o N O) (.Call (.Name "zip" p) [a,b] [] pos) (Ft C):=by
 constructor
 intro pins s E H R I h;refine Call_ (fZ I w z boot_zip (PyProof.Rows.callWith_type1 (thP (B.h pos pins s E H _ I h) λus d vs G l J L=>?_) (aA A) (by rw[aA g];rfl)));have%[x,y,e|q]:=L;subst e;have%[Q,T,rfl,%[t|rfl],u|rfl]:=kh J;refine n6 λU r m n hi1 hi2 M=>wpAny_pyIter_zip r ?_
 have c:∀i j,i≠j->⇑d+i≠⇑d+j:=λi j h e=>h (Nat.add_left_cancel e)
 refine%[⇑d+4,[⇑d+4,⇑d+2,⇑d+3,⇑d+0,⇑d+1],_,Itz x y,G,ρ,(l.kept M),
  BL _ _ _ _ _ x y t u %[c 2 4 (!1),c 3 4 (!1),c 0 4 (!1),c 1 4 (!1),c 2 3 (!1),c 2 0 (!1),c 2 1 (!1),c 3 0 (!1),c 3 1 (!1)|c 0 1 (!1)],
  %[r,m,%[_,_|n],hi1|hi2],λb v=>?_|q]
 have f:⇑d<=b:=by
  simp only[Yw,X7,or_false]at v;rcases v with rfl|rfl|rfl|rfl|rfl<;> exact le_add_right _ _
 exact l.fpOk f (l.hok.fresh f)
end
inductive D where
 | non|bl (b:Bool)|int (i:Int)|str (x:Str)|lst (ds:List D)|tup (ds:List D)
section
variable{K:ZA}{H H':Hp}
def ah.seqT(e:ah H H')(h:SqT K H a xs):SqT K H' a xs:=by
 rcases h with(h|⟨o,h⟩)|h
 .exact .inl (.inl (e _ _ h))
 .exact .inl (.inr %[o|e _ _ h])
 .exact .inr h
variable{X:Cx}{pins:ZE}{σ:St}{s:Shared}
end
def wY{X:Cx}(J:X.N.Nodup)(u:X.N[i]?∣x)(L:Loc X.env.scope x)(M:X.fn x=true\/X.env.scope.names.lookup x∣.local)
 (w:swapsWith (.ListComp l [%[y,iter,p|0]] a pos) (some (.Name x B)) f.line X.env=pure true) (S:aC X a r A) (N:X.calm=true) (O:∀x,foldedSetIterable iter X.env x=pure x) (hi:PI X y iter Q)
 (T:∀c d j,PG (bT X a r c d j) y g) (U:∀c d j,PTs (bT X a r c d j) p Y) (he:∀c d j,PE (bT X a r c d j) l te):
 PS X (.Assign [.Name x B] (.ListComp l [%[y,iter,p|0]] a pos) f) (sM (qP Q r.length A g Y te) (kg i)):=by
 intro pins s σ H D I h;refine Z2 (wpAny_standAt ?_);show wpAny _ _ (swapsWith (.ListComp l _ a pos) (some (.Name x B)) f.line X.env>>= _) _ _ _;rw[w];refine Z2 (Z3 (Z2 (Z2 (qQ S N hi T U he O I h λD' C H5 s6 fl m hn j k q=>?_))));have%[o,es,ep,E,hd|hr]:=id hn;have I7:=(k s6.heap (SameBut.refl _ _)).pinned (λb n=>(Xq n)▸j) λb n=>by
  rw[Xq n];exact%[o,E|λv z=>by lia]
 refine wpAny_assign_Name (nJ I7 J u L (v:= .ref D') rfl (λs8 G=>%[m,%[o,es,ep,((G.pin _ (Yv _ (Yv _ (eR (mem_singleton.mpr rfl) E)))).1),hd|hr]|λh' sb=>Z3 (Z3 %[_,H5,(G.unpinned).moved (λb n=>(Xq n)▸j) λb o' n e=>(sb.2 b (λz=>n (mem_singleton.mpr z))).trans e|q])]) M)
def zT(h:(env.blockKind== .function&&env.kindOf x==some .local&&b.line==pos.line&&!(a.names.any λ(n,k)=>n==x&&(k== .local||k== .cell)))=true):
 swapsWith (.ListComp c gens a pos) (some (.Name x b)) l env=pure true:=by
 show(pure (env.blockKind== .function&&env.kindOf x==some _&&b.line==pos.line&&!(a.names.any _)))=pure true;rw[h]
def n8{X:Cx}(i:Nat)(q:X.N.Nodup)(f:X.N[i]?∣x)(r:Loc X.env.scope x)(s:X.fn x=true\/X.env.scope.names.lookup x∣.local)
 (h:(X.env.blockKind== .function&&X.env.kindOf x==some .local&&u.line==pos.line&&!(c.names.any λ(n,k)=>n==x&&(k== .local||k== .cell)))=true) (S:aC X c e j) (v:X.calm=true) (w:nV iter=false) (hi:QI X o iter y)
 (z:∀a b d,QG (bT X c e a b d) o g) (A:∀a b d,QTs (bT X c e a b d) l B) (C:∀a b d,QE (bT X c e a b d) m E):
 QS X (.Assign [.Name x u] (.ListComp m [%[o,iter,l|0]] c pos) p) (sM (qP y e.length j g B E) (kg i)):=
 ⟨wY q f r s (zT h) S v (lO w) hi.h (λa b d=>(z a b d).h) (λa b d=>(A a b d).h) (λa b d=>(C a b d).h)⟩
section
variable{X:Cx}{pins:ZE}{σ:St}{H:Hp}{s:Shared}
variable{K:ZA}
end
def bV:Slot "set_iterator" "__next__" "set_iterator.__next__":=
 .of (owner:="set_iterator") (n:="__next__") (by rw[typeLookup_type,builtinLookup_eq_fast];kernel_rfl) (!0) (!0) (!0) (by first|exact .inl (!0)|exact .inr ∅) (by kernel_rfl)
def gG:entryFor table "set_iterator.__next__"=some Builtin.«set_iterator.__next__»:=entryFor_of_tree (by kernel_rfl)
def iz(a:Value):argsOk "set_iterator.__next__" %[[a]|[]]:=by kernel_rfl
def qc:entryFor table "set.__iter__"=some Builtin.«frozenset.__iter__»:=entryFor_alias (id':="frozenset.__iter__") (by kernel_rfl) rfl (!0) (by kernel_rfl)
def qd(t:SetTable)(n:Nat):(t.orStandIn n).led=t.led:=by unfold SetTable.orStandIn;split<;> rfl
def wZ(t:SetTable)(es:Array _)(h:Int)(x:Value):(layNew t es h x).2.1.led=t.led:=by
 unfold layNew;cases t.freeSlot h with
 | none=>rfl
 | some p=>
   exact qd _ _
def tJ(t:SetTable)(es:Array _)(n:Nat):(relayAll t es n).2.1.led=t.led:=by
 unfold relayAll;cases a:t.relaid _ n with
 | none=>rfl
 | some p=>
   have%[t'|c]:=p;simp only
   split
   .simp only[SetTable.relaid,SetTable.laid]at a;cases b:SetTable.layClean _ _ with
    | none=>rw[b]at a;cases a
    | some e=>rw[b]at a;injection a with a;injection a with d f;rw[<-d]
   .rfl
def n9(t:SetTable)(es:Array _)(n:Nat)(c:t.plain=false):(relayAll t es n).2.1.plain=false:=by
 unfold relayAll;cases a:t.relaid _ n with
 | none=>rfl
 | some p=>
   have%[t'|d]:=p;simp only
   split
   .simp only[SetTable.relaid,SetTable.laid]at a;cases b:SetTable.layClean _ _ with
    | none=>rw[b]at a;cases a
    | some f=>rw[b]at a;injection a with a;injection a with e g;exact e▸c
   .rfl
abbrev aW(w:World):Bool:=w.params.followText "set-order"
abbrev bx(w:World)(a:Addr)(ks:ZB)(h:Heap):Prop:=
 ∃o es b t ss,h.get? a∣o/\o.ExactSet/\o.data= .set es b t/\StrsAre (es.toList\2) ss/\ss.Perm ks/\ks.Nodup/\(∀e∈es.toList,∃z u,e=(hashStr w z,.str z u))/\es.size<scanBound/\t.fits es.size=true/\(es.size≠0->t.plain=false)/\t.led=!aW w
def qW(h:∀e∈l,∃z u,e=(hashStr w z,.str z u)):ElemsOf (aM prog w) l:=λe a=>by
 have%[z,u|rfl]:=h e a;exact%[%[Sum.inr z,dG z u|ρ]|ρ]
def dY:∀{vs:ZF} {ss:ZB} {z:Str},StrsAre vs ss->((∃u,Value.str z u∈vs)↔z∈ss)
 | _,_,z,.nil=>by simp
 | _,_,z,.cons x t h=>by
   have b:=dY (z:=z) h
   constructor
   .rintro⟨u,a⟩;rcases mem_cons.mp a with e|e
    .injection e with c _;exact c▸Zm
    .exact Zk _ (b.mp %[u|e])
   .intro d;rcases mem_cons.mp d with e|e
    .exact e▸%[t|Zm]
    .have%[u|a]:=b.mpr e;exact%[u|Zk _ a]
def iR:∀{vs ws:ZF} {ss ts:ZB},StrsAre vs ss->StrsAre ws ts->StrsAre (vs++ws) (ss++ts)
 | _,_,_,_,.nil,h=>h
 | _,_,_,_,.cons x t h,h'=> .cons x t (iR h h')
def bj:∀{vs:ZF} {ss:ZB},StrsAre vs ss-> ~~~vs= ~~~ss
 | _,_,.nil=>rfl
 | _,_,.cons x t h=>by rw[Zr,Zr,bj h]
def cF(h:StrsAre vs ss)(p:ws.Perm vs):∃ts,StrsAre ws ts/\ts.Perm ss:=by
 refine%[ws.map strOf,strsAre_map ws λv a=>h.all v (p.mem_iff.mp a)|?_];have:=p.map strOf;rwa[h.strs]at this
section
#where
variable{a:Addr}
def bx.stored{h:Heap}{o:Obj}{es b:Array (Int×Value)}{t t':SetTable}(i:h.get? a∣o)(c:o.ExactSet)(d:o.data= .set es f t)(j:StrsAre (b.toList\2) ss)(l:ss.Perm ks)(m:ks.Nodup)
 (n:∀e∈b.toList,∃z u,e=(hashStr w z,.str z u)) (p:b.size<scanBound) (r:t'.fits b.size=true) (v:t'.plain=false) (y:t'.led=!aW w):
 (h.update a (Obj.putSet b t')).get? a=some {o with data:= .set b (f+1) t'}/\bx w a ks (h.update a (Obj.putSet b t')):=by
 have g:=by
  have q:=get?_update_self (Obj.putSet b t') i (by rw[putSet_of b t' d];rfl);rwa[putSet_of b t' d]at q
 exact%[g,_,b,f+1,t',ss,g,c,ρ,j,l,m,n,p,r,λ_=>v|y]
def uN{g:Bool->Sem Unit}(O:∀(b:Bool) (h:Shared) (q:Unit->Shared->Prop),q () h->↥A (g b) q E h){m:Bool}{R:Option Bool->Shared->Prop}(r:s.heap.get? a∣o)(i:o.ExactSet)(v:o.data= .set es ep t)
 (y:StrsAre (c.toList\2) ss) (B:ss.Perm ks) (C:ks.Nodup) (G:∀e∈c.toList,∃z u,e=(hashStr w z,.str z u)) (j:c.size<scanBound) (Q:d.fits c.size=true) (H:d.plain=false) (I:d.led=!aW w)
 (J:∀h',SameBut a s.heap h'->bx w a ks h'->R (some true) {s with heap:=h'}):
 ↥A (do
  storeSet a c d
  if(!m&&d.tooFull)=true then do
   g (relayAll d c (SetTable.grown c.size)).2.2
   storeSet a (relayAll d c (SetTable.grown c.size)).1 (relayAll d c (SetTable.grown c.size)).2.1
   pure (some true)
  else pure (some true)) R E s:=by
 have%[M|T]:=bx.stored r i v y B C G j Q H I;have N:=SameBut.update s.heap a (Obj.putSet c d);refine Z2 (wpAny_storeSet_of r v ?_ (fits_of_scanBound j))
 split
 .have p:=relayAll_perm d c (SetTable.grown c.size);have f:=relayAll_fits d c (SetTable.grown c.size);have l:=tJ d c (SetTable.grown c.size);have pl:=n9 d c (SetTable.grown c.size) H
  generalize relayAll d c _=L at p f l pl ⊢
  have%[n,t3|gv]:=L;have z:n.size=c.size:=by rw[<-Zb,p.length_eq,Zb]
  have%[ts,U|Y]:=cF y (p.map _);exact Z2 (O _ _ _ (Z2 (wpAny_storeSet_of M rfl (Z3 (J _ (N.trans (SameBut.update _ a _)) (bx.stored M i rfl U (Y.trans B) C (λe he=>G e (p.mem_iff.mp he)) (by rw[z];exact j) f pl (l.trans I)).2)) (fits_of_scanBound (by rw[z];exact j)))))
 .exact Z3 (J _ N T)
def kA{ks:ZB}(hS:bx w a ks s.heap)(r: ~~~ks+1<scanBound)
 (hQ:∀h' b,SameBut a s.heap h'->bx w a (if z∈ks then ks else ks++[z]) h'->Q b {s with heap:=h'}):↥A (setAddHashed a (.str z tk) (hashStr w z)) Q E s:=by
 have%[o,es,ep,t,ss,C,v,G,g,hp,H,h,hb,hf,ac|c]:=hS;have hn:es.size= ~~~ks:=by
  have q:=bj g;rw[Z6,Zb,hp.length_eq]at q;exact q
 have hE:ElemsOf (aM prog w) es.toList:=qW h;have I:(aM prog w).is (Sum.inr z) (.str z tk)=true:=dG z tk;unfold setAddHashed setAddHashedIn;refine wpAny_holding (Z2 (wpAny_setState_of C G hf ?_));dsimp only;rw[byScan_of (knd:=aM prog w) rfl hb hE];simp only[↓reduceIte];unfold setAddByScan;refine Z2 (Z2 (wpAny_rule (Z2 (wpAny_setScan_of I C G hf hE ?_))));have J:(∃e∈es.toList,(aM prog w).is (Sum.inr z) e.2=true)↔z∈ks:=by
  rw[<-hp.mem_iff,<-dY g]
  constructor
  .rintro⟨e,l,q⟩;have%[y,u|rfl]:=h e l;have q:jF (Sum.inr z) (Value.str y u)=true:=q;rcases aZ q with⟨i,t',q1,m⟩|⟨y',t',q1,m⟩
   .cases m
   .cases q1;exact%[u|Xs ⟨_,l,by injection m with e1 _;rw[e1]⟩]
  .rintro⟨u,hu⟩;have%[e,l|q]:=Xr hu;exact%[e,l|q▸dG z u]
 cases hr:List.findIdx? _ es.toList with
 | some j=>
   have%[hj,ae|_]:=List.findIdx?_eq_some_iff_getElem.mp hr;have hz:=J.mp %[es.toList[j],Yd hj|ae];have q:=hQ s.heap false (SameBut.refl a s.heap) ((if_pos hz)▸%[o,es,ep,t,ss,C,v,G,g,hp,H,h,hb,hf,ac|c]);exact Z3 (Z3 q)
 | none=>
   have hz:z∉ks:=λq=>by
    have%[e,l|m]:=J.mpr q;have:=List.findIdx?_eq_none_iff.mp hr e l;rw[m]at this;cases this
   rw[if_neg hz]at hQ;have M:=layNew_perm t es (hashStr w z) (.str z tk);have lf:=layNew_fits t es (hashStr w z) (.str z tk);have ll:=wZ t es (hashStr w z) (.str z tk)
   generalize hL:layNew t es _ _=L at M lf ll
   have%[B,t1,ak|ai]:=L;rw[toList_push]at M;have d:∀b f Q',Q' () f->↥A (match b with|true=>rule "set.scan.the-table-gave-way"|false=>pure ()) Q' E f:=λb f Q' q=>by
    cases b
    .exact Z3 q
    .exact wpAny_rule q
   have n:∀e∈B.toList,∃z u,e=(hashStr w z,.str z u):=λe l=>by
    rcases Xp (M.mem_iff.mp l)with q|q
    .exact h e q
    .rw[Xq q];exact%[z,tk|ρ]
   have q1:StrsAre ((es.toList++[(hashStr w z,Value.str z tk)])\2) (ss++[z]):=by
    rw[Zd];exact iR g (.cons z tk .nil)
   have%[ts,m|q3]:=cF q1 (M.map _);have N:=q3.trans (hp.append_right _);have p:=nu H hz;have ag:B.size=es.size+1:=by rw[<-Zb,M.length_eq,Z9,Zb];rfl
   have O:B.size<scanBound:=by rw[ag,hn];exact r
   have T:∀h',SameBut a s.heap h'->bx w a _ h'->↥A _ Q E _:=λh' U Y=>Z3 (hQ h' true U Y)
   refine Z2 (d _ _ _ ?_);cases ab:t1.plain with
   | true=>
     exact Z2 (Z3 (uN d C v G m N p n O (SetTable.fits_plain_off lf) rfl (ll.trans c) λh' U Y=>T h' U Y))
   | false=>
     exact uN d C v G m N p n O lf ab (ll.trans c) λh' U Y=>T h' U Y
def uO(d:bx w a ks s.heap)(c: ~~~ks+1<scanBound)
 (e:∀h' b,SameBut a s.heap h'->bx w a (if z∈ks then ks else ks++[z]) h'->Q b {s with heap:=h',toks:=s.toks+1}):↥A (setAdd a (.str z tk)) Q E s:=by
 exact wpAny_holding (Z2 (wpAny_pyHash_str (kA d c e)))
end
abbrev mZ(ks:ZB)(z:Str):ZB:=if z∈ks then ks else ks++[z]
abbrev aQ(ss:ZB):ZB:=ss.foldl mZ []
def BP(ks:ZB)(z:Str): ~~~(mZ ks z)<= ~~~ks+1:=by
 unfold mZ;split
 .lia
 .exact Z9▸Zi _
def BQ:y∈mZ ks z↔y∈ks\/y=z:=by
 unfold mZ;by_cases h:z∈ks
 .rw[if_pos h]
  simp_all
 .rw[if_neg h,Yt,Yz]
def w6(h:ks.Nodup):(mZ ks z).Nodup:=by
 unfold mZ;by_cases a:z∈ks
 .rw[if_pos a];exact h
 .rw[if_neg a];exact nu h a
def uP:∀{ss ks:ZB} {y:Str},y∈ss.foldl mZ ks↔y∈ks\/y∈ss
 |[],ks,y=>by simp
 | z::r,ks,y=>by
   rw[Y9,uP,BQ,Yw]
   grind
def oa:∀{ss ks:ZB},ks.Nodup->(ss.foldl mZ ks).Nodup
 |[],_,h=>h
 | z::r,ks,h=>by
   rw[Y9];exact oa (w6 h)
def bd:y∈aQ ss↔y∈ss:=by unfold aQ;rw[uP];simp
def dA(ss:ZB):(aQ ss).Nodup:=oa X4
def uQ:∀(ss ks:ZB),~~~(ss.foldl mZ ks)<= ~~~ks+ ~~~ss
 |[],ks=>by simp
 | z::r,ks=>by
   have a:=uQ r (mZ ks z);have b:=BP ks z;rw[Y9,Zr]
   lia
def bx.keep(S:bx w a ks h)(k:∀o,h.get? a∣o->h'.get? a∣o):bx w a ks h':=by
 have%[o,es,b,t,ss,c|r]:=S;exact%[o,es,b,t,ss,k o c|r]
def uR(val:Nat->Str)(i:Nat):aQ ((List.range (i+1)).map val)=mZ (aQ ((List.range i).map val)) (val i):=by
 unfold aQ;rw[Xa,Zd,foldl_append];rfl
section
variable{prog:Program}{w:World}{A:Around}{R:Result->Shared->Prop}{I:Addr}{fp wr:List Addr}{G:Array GenState->Array GenState->Prop}{n:Nat}{P:Nat->Value->Prop}{St:Nat->Shared->Prop}
def qf(W:WalksS prog w A.in1 I fp wr G n P St)(S:Addr)(d:S∉fp)(val:Nat->Str)(f:∀i v,P i v->∃t,v= .str (val i) t)(c:n+1<scanBound):
 ∀(k i:Nat) (s:Shared),n-i=k->i<=n->St i s->bx w S (aQ ((List.range i).map val)) s.heap->
  (∀s',Moved (S::wr) G s s'->bx w S (aQ ((List.range n).map val)) s'.heap->R (.ok (.ret .none)) s')->codeAny (model prog w) A (.builtin "set.update.loop" %[[.ref S,.ref I]|[]]) R s:=by
 have out:S∉wr:=λh=>d (W.sub _ h)
 have more:∀b∈wr,b∈S::wr:=λb c=>Zk _ c
 intro k
 induction k with
 | zero=>
   intro i s y hi st l a;have e:i=n:=by lia
   subst e;refine codeAny_builtin F.entry_set_update_loop ?_;rw[Around.under_plainId F.plain_set_update_loop _];show wpAny _ A.in1 (pyNext (.ref I)>>= _) _ _ s;refine Z2 (W.done s _ _ st λg j=>?_);show wpAny _ A.in1 (ret Value.none) _ _ g;exact Z3 (a g (j.mono more) (l.keep λo e=>j.heap S o out e))
 | succ k z=>
   intro i s y hi st l a;have lt:i<n:=Nat.lt_of_sub_eq_succ y
   refine codeAny_builtin F.entry_set_update_loop ?_;rw[Around.under_plainId F.plain_set_update_loop _];show wpAny _ A.in1 (pyNext (.ref I)>>= _) _ _ s;refine Z2 (W.item i s _ _ lt st λv g pv m j=>?_);have%[t|rfl]:=f i v pv;have room: ~~~(aQ ((List.range i).map val))+1<scanBound:=by
    have q:=uQ ((List.range i).map val) [];rw[Z6,Yj]at q;unfold aQ;simp only[List.length_nil,zero_add]at q
    lia
   refine Z2 (wpAny_holding (uO (l.keep (h':=g.heap) λo e=>j.heap S o out e) room λE b u p=>Z3 %[plainId_quiet F.plain_set_update_loop _|z (i+1) _ (congrArg Nat.pred y) lt (W.frame _ g _ _ m (Yf _) λb c o e=>?_) (by rw[uR];exact p) λB C r=>?_]))
   .rw[u.2 b (λq:b=S=>d (q▸c))];exact e
   .refine a B (Moved.trans W.gtrans ((j.mono more).then_heap (Yf _) λb o c e=>?_) C) r;rw[u.2 b (λq:b=S=>c (q▸Zm))];exact e
end
section
#where
noncomputable abbrev aX(w:World):Obj:={cls:= .type "set",dict:=none,data:= .set #[] 0 (.fresh 0 0 (!aW w))}
def uS(a:Value)(h:Q₁ (.ref ⇑s) {s with heap:=s.heap.push (aX w)}):
 codeAny (model prog w) A (.call (.builtin "set.__new__") %[[.type "set",a]|[]]) (wants Q₁ E) s:=by
 refine codeAny_of_tree ?_;show wpAny _ A.in1 _ _ _ s;refine Z2 (wpAny_of_eq (PySem.F.newCall_set_1 a) (Z3 %[plainId_quiet PySem.F.plain_set_new _|codeAny_builtin PySem.F.entry_set_new ?_]));unfold Builtin.«set.__new__» Builtin.Frozenset.newClass;have b:=sub_set_self;have%[c,g,d,tk|os]:=s;dsimp only
 wp_walk
 refine wpAny_askSetting (Z3 ?_);dsimp only;simp only[newObj];exact Z2 (wpAny_alloc (Z3 (Z3 h)))
def bx.empty(e:h.get? a∣aX w):bx w a [] h:=
 %[_,#[],0,_,[],e,%[rfl,rfl|rfl],rfl,.nil,.nil,X4,λe b=>by simp at b,!1,rfl,λq=>absurd rfl q|rfl]
def uT:∀{vs:ZF} {ss:ZB},StrsAre vs ss->∀(i:Nat) v,vs[i]?∣v->∃t,v= .str (ss.getD i (!"")) t
 | _,_,.nil,i,v,h=>by simp at h
 | _,_,.cons x t a,0,v,h=>by simp at h;exact%[t|by rw[<-h];rfl]
 | _,_,.cons x t a,i+1,v,h=>by
   have%[u|e]:=uT a i v (h);exact%[u|by rw[e];rfl]
def w8(ss:ZB):(List.range ss.length).map (λi=>ss.getD i (!""))=ss:=by
 apply Zz
 .simp
 .intro i a b
  simp_all
def qg(hh:A.handled=none)(hl:s.heap.IsList l a)(hi:StrsAre a.toList ss)(hb:a.size+1<scanBound)
 (hQ:∀(h':Heap) (tk:Nat),bx w ⇑s (aQ ss) h'->(∀b o,s.heap.get? b∣o->h'.get? b∣o)->Q (.ref ⇑s) {s with heap:=h',toks:=tk}):
 ↥A (call (.type "set") [.ref l]) Q E s:=by
 have%[c,tl|U]:=called_set.mro;have C:=called_set.made;have Y:=called_set.sub;refine wpAny_call (codeAny_of_tree ?_);show wpAny _ _ (callAny (.type "set") _) _ _ _;refine Z3 %[Code.quiet_builtin _ (!0)|codeAny_builtin F.entry_type_call ?_];rw[Around.under_plain (weight_type_call_type "set" [.ref l] []) rfl];have ac:=called_set.notType;have ae:=called_set.canCreate;have ag:=PySem.F.typeCall_set_1 (.ref l)
 repeat any_goals first|assumption|wp_step
 refine codeAny_mono (uS (.ref l) (E:=E) (Q₁:=λobj g=>obj= .ref ⇑s/\g={s with heap:=s.heap.push (aX w)}) %[rfl|rfl]) λr g G=>?_
 cases r with
 | error e=>exact G
 | ok fl=>
   cases fl with
   | ret obj=>
     have%[rfl|rfl]:=G;have gS:(s.heap.push (aX w)).get? ⇑s∣aX w:=Zj _ rfl;have tS:Shared.TypeIs {s with heap:=s.heap.push (aX w)} (.ref ⇑s) "set":=%[_,gS|rfl]
     have ai:=called_set.init.lookup;have ak:=called_set.init.bind (.ref ⇑s)
     repeat any_goals first|assumption|wp_step
     refine codeAny_mono (codeAny_call_builtin (R:=wants (λr h=>r= .none/\∃h' tk,h={s with heap:=h',toks:=tk}/\bx w ⇑s (aQ ss) h'/\(∀b o,s.heap.get? b∣o->h'.get? b∣o)) E) called_set.init.plain F.entry_set_init (check_set_init_1 tS ?_)) λn h d=>?_
     .have%[ol,gl,cl,nl|dl]:=hl;have%[ab,j,H|f]:=ol;simp only at cl dl;subst cl;subst dl;have I:(s.heap.push (aX w)).get? l=some {cls:= .type "list",dict:=j,data:= .seq a nl,slots:=f}:=Z7 _ gl;have al:=PySem.F.sub_list_set;have an:=PySem.F.sub_list_frozenset;have as:(Value.type "list"==Value.type "dict")=false:=!1
      have p:(s.heap.push (aX w)).IsList l a:=%[_,I,rfl,nl|rfl]
      unfold Builtin.«set.__init__»;unfold noKeywords;unfold Builtin.Frozenset.updateFrom
      generalize J:pyIter=PI
      wp_walk
      subst J;refine wpAny_pyIter_list p (Z2 (wpAny_runValue ?_));have q:l<⇑s:=Zu gl;have h3:A.in1.in1.in1.handled=none:=by simp[hh]
      have L:(s.heap.push (aX w)).objs.size=⇑s+1:=Zq ..;have M:l≠(s.heap.push (aX w)).objs.size:=by rw[L];exact Zs (Yn q)
      have N:⇑s∉[(s.heap.push (aX w)).objs.size,l]:=by
       rw[L];simp only[Yw,X7,or_false,not_or];exact%[Zs (Yo _)|X1 q]
      have u:a.size= ~~~ss:=by rw[<-Zb];exact bj hi
      refine qf ((Walks.list h3 _ l M a).toS) ⇑s N (λi=>ss.getD i (!"")) (λi v hv=>uT hi i v (by rw[getElem?_toList];exact hv)) hb (a.size-0) 0 _ ⋯ (Xh _)
       %[%[_,Zj _ rfl,rfl|rfl]|p.push _] (bx.empty (Z7 _ gS)) ?_
      intro s3 z B;rw[u,w8]at B;have%[h',g',d',O|T]:=s3;have eg:g'=s.gens:=z.gens;have ed:d'=s.drawn:=z.drawn;have eo:T=s.os:=z.os;subst eg;subst ed;subst eo;refine Z3 ?_;show wpAny _ _ (ret Value.none) _ _ _;refine Z3 %[rfl,h',O,rfl,B|λb o e=>?_];have y:=Zu e;refine z.heap b o ?_ (Z7 _ (Z7 _ e));simp only[Yw,X7,or_false,not_or,L];exact%[Zs y|Zs (Yn y)]
     .cases n with
      | error e=>exact d
      | ok m=>
        cases m with
        | ret r=>
          have%[rfl,h',tk,rfl,B|k3]:=d
          repeat any_goals first|assumption|wp_step
          exact hQ _ _ B k3
        | _=>exact d.elim
   | _=>exact G.elim
end
section
variable{X:Cx}{K:ZA}
abbrev jT(w:World)(a:Addr)(ks:ZB):HO:= .ext (bx w a ks)
def BR(b:X.calm=true):cr X (.type "set") (λxs H Q=>∃p ss,xs=[.ref p]/\SqL X.K H p (ss\3)/\ ~~~ss<=4000/\∀l,H l=none->Q (.ref l) (upd H l (jT X.w l (aQ ss)))):=by
 intro pins s j H xs us Q I r h;have%[p,ss,rfl,c,m|q]:=h;have%[u,rfl|d]:=cu r;cases d;have%[its,e,pl|n]:=I.list c;have a:=gW e;have f:its.toArray.size= ~~~ss:=bj a;refine qg (I.ok.hd b) pl.isList (a) (by rw[f];show ~~~ss+1<4096;lia) λh' tk S k=>%[.ref ⇑s,_,I.laid (o:=jT X.w ⇑s _) k (Zi _) %[S,?_|λv w g k1=>g.keep k1],rfl|q _ I.fresh]
 have%[o,_,_,_,_,i|_]:=S;exact%[o|i]
def BS(h:X.K=K)(hw:X.w=w)(a:X.calm=true):cJ X (.type "set") (λxs H Q=>∃p ss,xs=[.ref p]/\SqL K H p (ss\3)/\ ~~~ss<=4000/\∀l,H l=none->Q (.ref l) (upd H l (jT w l (aQ ss)))):=by subst h;subst hw;exact⟨BR a⟩
end
def g9:∀{xs:List a} {i:Nat} (h:i< ~~~xs),(xs[i]::xs.eraseIdx i).Perm xs
 | x::r,0,_=>by simp
 | x::r,i+1,h=>by
   exact(List.Perm.swap _ _ _).trans (.cons _ (g9 ↑h))
section
#where
def zU(a:n≠0)(h:∀i d,i<n->Q i {s with drawn:=d}):↥A (choose b n) Q E s:=by
 intro c p _;exact%[a|h _ _ (mod_lt _ (Nat.pos_of_ne_zero a))]
def tK:∀(n:Nat) (xs:List b) (s:Shared) (Q:List b->Shared->Prop),~~~xs<=n->(∀ys d,ys.Perm xs->Q ys {s with drawn:=d})->↥A (drawOrder n xs) Q E s
 | 0,xs,s,Q,a,h=>by
   have e:=length_eq_zero_iff.mp (le_zero.mp a);subst e;exact Z3 (h [] s.drawn .nil)
 | n+1,[],s,Q,a,h=>Z3 (h [] s.drawn .nil)
 | n+1,x::r,s,Q,a,h=>by
   unfold drawOrder;refine Z2 (zU ∅ λi d hi=>?_);rw[(Z4 hi)];exact Z2 (tK n _ _ _ (by rw[List.length_eraseIdx];simp only[hi];simp_all) λys c p=>Z3 (h _ c ((List.Perm.cons _ p).trans (g9 hi))))
end
def yg(next:Nat->Nat):∀(fuel k:Nat) (left:List a) (out:Array a),~~~left<=fuel->(pickOrder.go next fuel k left out).toList.Perm (out.toList++left)
 | 0,k,left,out,h=>by
   have e:=length_eq_zero_iff.mp (le_zero.mp h);subst e;rw[Zx];exact .refl _
 | fuel+1,k,[],out,h=>by
   unfold pickOrder.go;simp
 | fuel+1,k,x::r,out,h=>by
   unfold pickOrder.go;have hi:next k% ~~~(x::r)< ~~~(x::r):=mod_lt _ ∅;rw[Z4 hi];refine(yg next fuel _ _ _ (by rw[List.length_eraseIdx];simp_all)).trans ?_;rw[toList_push,Ze];exact(List.Perm.refl _).append (g9 hi)
def qX(next:Nat->Nat)(xs:Array a):(pickOrder next xs).toList.Perm xs.toList:=by
 have:=yg next xs.size 0 xs.toList #[] ∅;simpa [pickOrder]using this
def qY(p j:Nat):SetTable.below #[p] j=if p<j then 1 else 0:=by
 unfold SetTable.below;simp only[Zp,Zr];unfold SetTable.below.go;simp
 split<;>(rfl)
def xa(j:Nat):SetTable.below #[] j=0:=rfl
def qZ{a:Type}{xs:Array a}(h:xs.size=1):∃p,xs= #[p]:=by
 obtain⟨l⟩:=xs
 match l,h with
 |[p],_=>exact%[p|ρ]
abbrev SIt(w:World)(I S T:Addr)(o:Obj)(es:Array (Int×Value))(b:Nat)(t:SetTable)(a:ZF)(i:Nat)(h:Heap):Prop:=
 h.get? S∣o/\∃first,h.get? I=some {cls:= .type "set_iterator",dict:=none,data:= .fields #[first,rawInt i,.ref S,rawInt es.size,rawInt b],slots:= #[]}/\
  ((aW w=true/\first=rawInt 0/\a=(pickOrder (w.params.setOrder S b) es).toList\2)\/
   (aW w=false/\first= .ref T/\T≠I/\∃ps:List Nat,h.get? T=some {cls:= .type "tuple",data:= .seq (ps.map λ(i:Nat)=>rawInt i).toArray}/\ ~~~ps= ~~~a/\∀(j p:Nat),ps[j]?∣p->∃e,es[p]?∣e/\a[j]?∣e.2)\/
   (aW w=false/\es.size<=1/\a=es.toList\2/\(i=0->first=rawInt 0)/\(i=1->∃p:Nat,t.place[0]?∣p/\first=rawInt (p+1))))
def SIt.is{w:World}{I S T:Addr}{o:Obj}{es:Array _}{b:Nat}{t:SetTable}{a:ZF}{i:Nat}{s:Shared}(h:SIt w I S T o es b t a i s.heap):s.TypeIs (.ref I) "set_iterator":=by
 have%[_,f,c|_]:=h;exact%[_,c|ρ]
section
#where
variable{I S T:Addr}{o:Obj}{es:Array (Int×Value)}{ep:Nat}{t:SetTable}{ord:ZF}
def xc{i:Nat}{v:Value}{Q:Option Value->Shared->Prop}(y:o.data= .set es ep t)(h:t.fits es.size=true)(z:t.led=!aW w)(j:S≠I)(st:SIt w I S T o es ep t ord i s.heap)(f:ord[i]?∣v)(hn: ~~~ord=es.size)
 (hQ:∀h',SIt w I S T o es ep t ord (i+1) h'->SameBut I s.heap h'->Q (some v) {s with heap:=h'}):↥A (pyNext (.ref I)) Q E s:=by
 have hT:=st.is;have%[g,first,U|m]:=st;unfold pyNext;refine Z2 (wpAny_attempt (wpAny_callSpecial?_slot (name:=!"__next__") hT bV (wpAny_call_entry bV hT gG ?_ (iz _))));unfold Builtin.«set_iterator.__next__»;refine Z2 (m:=slotArgs _ _ _) (Z3 ?_);refine Z2 (wpAny_fieldsOf U rfl ?_);show wpAny _ _ (setEntries S>>= _) _ _ _;refine Z2 (wpAny_setEntries_of g y h ?_);rw[if_neg ∅];rcases m with⟨c,rfl,B⟩|⟨c,rfl,C,ps,G,ab,H⟩|⟨c,h1,B,f0,f1⟩
 .show wpAny _ _ (setNext S 0 i ep>>= _) _ _ _;refine Z2 ?_;unfold setNext;refine Z2 (wpAny_setState_of g y h ?_);refine Z2 (Z2 (wpAny_askSetting (Z3 ?_)));show wpAny _ _ (if aW w=true then _ else _) _ _ _;rw[if_pos c];dsimp only;rw[if_neg (show ¬ ((ep != ep)=true) by simp)];refine Z2 ?_;unfold setWalk;refine Z2 (wpAny_setState_of g y h ?_);refine Z2 (Z2 (wpAny_askSetting (Z3 ?_)));show wpAny _ _ (if aW w=true then _ else _) _ _ _;rw[if_pos c];refine Z2 (wpAny_askSetting (Z3 (Z3 ?_)));have d:(pickOrder (w.params.setOrder S ep) es)[i]?.map (·.2)∣v:=by
   rw[B]at f;simpa using f
  cases u:(pickOrder (w.params.setOrder S ep) es)[i]? with
  | none=>rw[u]at d;cases d
  | some e=>
    rw[u]at d;have J:e.2=v:=↑d
    show wpAny _ _ (match((pickOrder (w.params.setOrder S ep) es)[i]?).map λe=>(e.2,0)with|some (x,next)=>_|none=>_) _ _ _;rw[u];refine Z2 (wpAny_setField_rec U ∅ λL b a=>?_);refine Z2 (wpAny_setField_rec (s:={s with heap:=L}) b ∅ λM l n=>?_);rw[J];have N:SameBut I s.heap M:=a.trans n;refine Z3 %[v,rfl|Z3 (hQ M %[(N.2 S j).trans g,_,l|.inl %[c,rfl|B]] N)]
 .refine Z2 (wpAny_seqItems G rfl ?_);have hi:i< ~~~ord:=(Xo f).1;have ac:i< ~~~ps:=by lia
  have%[e,Y|ae]:=H i ps[i] ∅;have J:e.2=v:=by rw[ae]at f;exact Za f
  have O:(ps.map λ(i:Nat)=>rawInt i).toArray[(i:Int).toNat]?∣rawInt ps[i]:=by simp[ac]
  dsimp only;rw[O];show wpAny _ _ (setNextDrawn S ps[i] ep>>= _) _ _ _;refine Z2 ?_;unfold setNextDrawn;refine Z2 (wpAny_setState_of g y h ?_);dsimp only;rw[if_neg (show ¬ ((ep != ep)=true) by simp),Y];refine Z3 ?_;refine Z2 (wpAny_setField_rec U ∅ λL b a=>?_);rw[J];exact Z3 %[v,rfl|Z3 (hQ L %[(a.2 S j).trans g,_,b|.inr (.inl %[c,rfl,C,ps,(a.2 T C).trans G,ab|H])] a)]
 .have hi:i< ~~~ord:=(Xo f).1;have i0:i=0:=by lia
  subst i0;have f0:=f0 rfl;subst f0;have e1:es.size=1:=by lia
  have pz:t.place.size=1:=by
   simp only[SetTable.fits,Zv,beq_iff_eq,decide_eq_true_eq]at h;rw[h.1,e1]
  have%[p|u]:=qZ pz;obtain⟨e,Y⟩:∃e,es[0]?∣e:=%[es[0]|by simp]
  have J:e.2=v:=by
   rw[B]at f;have:(es[0]?)\2∣v:=↑f
   rw[Y]at this;simpa using this
  show wpAny _ _ (setNext S 0 0 ep>>= _) _ _ _;refine Z2 ?_;unfold setNext;refine Z2 (wpAny_setState_of g y h ?_);show wpAny _ _ (if aW w=true then _ else _) _ _ _;rw[if_neg (by rw[c];decide)];dsimp only
  split
  .rename_i r
   change (!t.plain&&decide (es.size>1))=true at r;rw[e1]at r;simp at r
  .refine Z2 (m:=(if(!t.led&&!es.isEmpty)=true then unsupported "set:maker-not-led" else pure ())) ?_;rw[z,c];refine Z3 ?_;rw[u,qY];simp only[X6,↓reduceIte,Y];refine Z3 ?_;show wpAny _ _ (setField (.ref I) 0 (rawInt ((p+1:Nat):Int))>>= _) _ _ _;refine Z2 (wpAny_setField_rec U ∅ λL b a=>Z2 (wpAny_setField_rec (s:={s with heap:=L}) b ∅ λM l n=>?_));rw[J];have N:SameBut I s.heap M:=a.trans n;exact Z3 %[v,rfl|Z3 (hQ M %[(N.2 S j).trans g,_,l|.inr (.inr %[c,⋯,B,λq=>by lia|λ_=>%[p,by rw[u];rfl|rfl]])] N)]
def uU{c:Type}{Q:c->Shared->Prop}(d:A.handled=none)(f:∀h' e,(∀b o,s.heap.get? b∣o->h'.get? b∣o)->(∃o,h'.get? e∣o/\o.cls= .type "StopIteration")->E (.ref e) {s with heap:=h'}):
 ↥A (newExc (.type "StopIteration") []>>= λe=>(raiseNew e)) Q E s:=by
 refine Z2 ?_;refine Z2 (wpAny_newObj_type ?_ (by size_fits));refine Z2 (wpAny_of_eq (a:=Value.none) (by first|rfl|lia) (wpAny_newObj_type (wpAny_raiseNew_none d (f _ _ (λb o e=>Z7 _ (Z7 _ e)) %[_,Zj _ rfl|rfl])) (by size_fits)))
def zV{i:Nat}{Q:Option Value->Shared->Prop}(hh:A.handled=none)(y:o.data= .set es ep t)(j:t.fits es.size=true)(n:t.led=!aW w)(st:SIt w I S T o es ep t ord i s.heap)(hi:i= ~~~ord)(hn: ~~~ord=es.size)
 (hQ:∀h',(∀b o,b≠I->s.heap.get? b∣o->h'.get? b∣o)->Q none {s with heap:=h'}):↥A (pyNext (.ref I)) Q E s:=by
 have hT:=st.is;have%[z,first,B|m]:=st;have J:A.in1.handled=none:=hh;have c:∀(g:Heap) (Q':Fin->Shared->Prop),SameBut I s.heap g->↥A.in1 (newExc (.type "StopIteration") []>>= λe=>(raiseNew e:Sem Fin)) Q' (λe s'=>↥A (do
  if(<-isInstance e (.type "StopIteration"))then pure none else throw e) Q E s') {s with heap:=g}:=λg Q' sb=>by
  refine uU J λh' e k ⟨oe,he,hc⟩=>?_
  refine Z2 (wpAny_isInstance (T:="StopIteration") (b:=true) %[oe,he|hc] isSubtype_stop (Z3 (hQ h' λb o r q=>k b o ((sb.2 b r).trans q))))
 unfold pyNext;refine Z2 (wpAny_attempt (wpAny_callSpecial?_slot (name:=!"__next__") hT bV (wpAny_call_entry bV hT gG ?_ (iz _))));unfold Builtin.«set_iterator.__next__»;refine Z2 (m:=slotArgs _ _ _) (Z3 ?_);refine Z2 (wpAny_fieldsOf B rfl ?_);show wpAny _ _ (setEntries S>>= _) _ _ _;refine Z2 (wpAny_setEntries_of z y j ?_);rw[if_neg ∅];rcases m with⟨l,rfl,eo⟩|⟨l,rfl,ab,ps,L,ac,ae⟩|⟨l,h1,eo,M,N⟩
 .show wpAny _ _ (setNext S 0 i ep>>= _) _ _ _;refine Z2 ?_;unfold setNext;refine Z2 (wpAny_setState_of z y j ?_);refine Z2 (Z2 (wpAny_askSetting (Z3 ?_)));show wpAny _ _ (if aW w=true then _ else _) _ _ _;rw[if_pos l];dsimp only;rw[if_neg (show ¬ ((ep != ep)=true) by simp)];refine Z2 ?_;unfold setWalk;refine Z2 (wpAny_setState_of z y j (Z2 (Z2 (wpAny_askSetting (Z3 ?_)))));show wpAny _ _ (if aW w=true then _ else _) _ _ _;rw[if_pos l];refine Z2 (wpAny_askSetting (Z3 (Z3 ?_)));have C:(pickOrder (w.params.setOrder S ep) es)[i]? =none:=by
   rw[Array.getElem?_eq_none_iff,hi,eo,Z6,Zb];exact Zi _
  show wpAny _ _ (match((pickOrder (w.params.setOrder S ep) es)[i]?).map λe=>(e.2,0)with|some (x,next)=>_|none=>_) _ _ _;rw[C];show wpAny _ _ (setField (.ref I) 2 .none>>= _) _ _ _;exact Z2 (wpAny_setField_rec B ∅ λG _ d=>c G _ d)
 .show wpAny _ _ (seqItems? (.ref T)>>= _) _ _ _;refine Z2 (wpAny_seqItems L rfl ?_);have u:(ps.map λ(i:Nat)=>rawInt i).toArray[(i:Int).toNat]? =none:=by simp;lia
  dsimp only;rw[u];exact Z2 (wpAny_setField_rec B ∅ λG O d=>Z2 (wpAny_setField_rec O ∅ λg2 _ U=>c g2 _ (d.trans U)))
 .have done:∀slot:Nat,first=rawInt slot->SetTable.below t.place slot=es.size->↥A.in1 (setNext S slot i ep) (λa s'=>a=none/\s'=s) (λ_ _=>False) s:=by
   intro slot _ r;unfold setNext;refine Z2 (wpAny_setState_of z y j ?_);show wpAny _ _ (if aW w=true then _ else _) _ _ _;rw[if_neg (by rw[l];decide)];dsimp only
   split
   .rename_i h
    change (!t.plain&&decide (es.size>1))=true at h;have:decide (es.size>1)=false:=Zh ⋯;rw[this,Bool.and_false]at h;cases h
   .refine Z2 (m:=(if(!t.led&&!es.isEmpty)=true then unsupported "set:maker-not-led" else pure ())) ?_;rw[n,l];refine Z3 ?_;rw[r,show es[es.size]? =none by simp];exact Z3 %[rfl|rfl]
  have go:∀slot:Nat,first=rawInt slot->SetTable.below t.place slot=es.size->↥A.in1 (setNext S slot i ep>>= λa=>match a with
   | some (x,next)=>(do
     setField (.ref I) 0 (rawInt ↑(next))
     setField (.ref I) 1 (rawInt (↑(i)+1))
     ret x)
   | none=>(do
     setField (.ref I) 2 .none
     let e<-newExc (.type "StopIteration") []
     raiseNew e)) (λc s'=>∃v,c=Fin.done (Flow.ret v)/\↥A (pure (some v)) Q E s') (λe s'=>↥A (do
   if(<-isInstance e (.type "StopIteration"))then pure none else throw e) Q E s') s:=by
   intro slot e r;refine Z2 (wpAny_mono (done slot e r) (λa s' ⟨H,e2⟩=>?_) λ_ _ f=>f.elim);subst H;subst e2;exact Z2 (wpAny_setField_rec B ∅ λG _ d=>c G _ d)
  have pz:=by
   simp only[SetTable.fits,Zv,beq_iff_eq,decide_eq_true_eq]at j;exact j.1
  by_cases e0:es.size=0
  .have i0:i=0:=by lia
   subst i0;have M:=M rfl;subst M;refine go 0 rfl ?_;have:t.place= #[]:=Array.eq_empty_of_size_eq_zero ⋯;rw[this,xa,e0]
  .have H:es.size=1:=by lia
   have i1:i=1:=by lia
   subst i1;have%[p,C|N]:=N rfl;subst N;refine go (p+1) rfl ?_;have%[p'|Y]:=qZ (by rw[pz,H]:t.place.size=1);rw[Y]at C ⊢;have:p'=p:=↑C
   subst this;rw[qY,if_pos (Yo _),H]
end
def iA:Slot "set_iterator" "__iter__" "set_iterator.__iter__":=
 .of (owner:="set_iterator") (n:="__iter__") (by rw[typeLookup_type,builtinLookup_eq_fast];kernel_rfl) (!0) (!0) (!0) (by first|exact .inl (!0)|exact .inr ∅) (by kernel_rfl)
def lQ:entryFor table "set_iterator.__iter__"=some Builtin.«dict_keyiterator.__iter__»:=entryFor_alias (id':="dict_keyiterator.__iter__") (by kernel_rfl) rfl (!0) (by kernel_rfl)
def m7(a:Value):argsOk "set_iterator.__iter__" %[[a]|[]]:=by kernel_rfl
def tL:typeLookup (.type "set") "__len__"=pure (some (.builtin "set.__len__")):=by kernel_rfl
section
#where
variable{I S T:Addr}{o:Obj}{es:Array (Int×Value)}{ep:Nat}{t:SetTable}{ord:ZF}
def zW(hh:A.handled=none)(hd:o.data= .set es ep t)(hf:t.fits es.size=true)(hled:t.led=!aW w)(hSI:S≠I)(hn: ~~~ord=es.size):
 Walks prog w A I [I,S,T] [I] ord.length (λi v=>ord[i]?∣v) (λi h=>SIt w I S T o es ep t ord i h) where
 sub:=by simp
 frame:=λi h h' st k=>by
  have%[hS,first,hI|m]:=st;refine⟨k S ∅ _ hS,first,k I ∅ _ hI,?_⟩;rcases m with m|⟨bt,e,hTI,ps,hTt,r⟩|m
  .exact .inl m
  .exact .inr (.inl %[bt,e,hTI,ps,k T ∅ _ hTt|r])
  .exact .inr (.inr m)
 item:=λi s Q E hi st hQ=>xc (v:=ord[i]) hd hf hled hSI st ∅ hn λh' st' sb=>hQ _ h' s.toks ∅ st' λb o' hb e=>(sb.2 b (λq=>hb (by simp[q]))).trans e
 done:=λs Q E st hQ=>zV hh hd hf hled st rfl hn λh' k=>hQ h' s.toks λb o' hb e=>k b o' (λq=>hb (by simp[q])) e
 self:=λi s Q E st hQ=>by
  have hT:=st.is;exact wpAny_pyIter_slot hT iA (wpAny_call_entry iA hT lQ (Z3 %[_,rfl,"set_iterator",_,hT,bV.lookup|hQ]) (m7 _))
def zX(g:s.heap.get? S∣o)(B:o.ExactSet)(C:o.data= .set es ep t)(hb:es.size<scanBound)(G:t.fits es.size=true)(H:es.size≠0->t.plain=false)(U:t.led=!aW w)
 (hQ:∀(I T:Addr) (ord:ZF) (h':Heap) d,(∀b o,s.heap.get? b∣o->h'.get? b∣o)->⇑s<=I->S≠I->(T=S\/⇑s<=T)->T<h'.objs.size->I<h'.objs.size-> ~~~ord=es.size->
  SIt w I S T o es ep t ord 0 h'->ord.Perm (es.toList\2)->Q (.ref I) {s with heap:=h',drawn:=d}):↥A (pyIter (.ref S)) Q E s:=by
 have Y:s.TypeIs (.ref S) "set":=%[o,g|B.1]
 have n:S<⇑s:=Zu g;refine wpAny_pyIter_slot Y F.slot_set_iter (wpAny_call_entry F.slot_set_iter Y qc ?_ (F.args_set_iter_1 _));unfold Builtin.«frozenset.__iter__»;refine Z2 (m:=Builtin.Frozenset.slot0 _ _) (Z2 (m:=slotArgs _ _ _) (Z3 (Z3 ?_)));refine Z2 (m:=Builtin.Frozenset.sizeOf S) (Z2 (wpAny_setEntries_of g C G (Z3 ?_)));refine Z2 (m:=setDrawn S) ?_;unfold setDrawn;refine Z2 (wpAny_setState_of g C G (Z2 (Z2 (wpAny_askSetting (Z3 (Z3 ?_))))));have a:∀(first:Value) (c:Shared) (T:Addr) (ord:ZF),c.heap.get? S∣o->(∃d f,c={s with heap:=f,drawn:=d})->(∀b o,s.heap.get? b∣o->c.heap.get? b∣o)->T<⇑c->⇑s<=⇑c->(T=S\/⇑s<=T)->ord.Perm (es.toList\2)->
  ((aW w=true/\first=rawInt 0/\ord=(pickOrder (w.params.setOrder S ep) es).toList\2)\/(aW w=false/\first= .ref T/\∃ps:List Nat,c.heap.get? T=some {cls:= .type "tuple",data:= .seq (ps.map λ(i:Nat)=>rawInt i).toArray}/\ ~~~ps= ~~~ord/\∀(j p:Nat),ps[j]?∣p->∃e,es[p]?∣e/\ord[j]?∣e.2)\/(aW w=false/\es.size<=1/\ord=es.toList\2/\first=rawInt 0))-> ~~~ord=es.size->
  ↥A.in1 (do ret (<-newFields "set_iterator" [first,rawInt 0,.ref S,rawInt es.size,rawInt (<-setEpoch S)])) (λa s'=>∃v,a=Fin.done (Flow.ret v)/\∃T' r,s'.TypeIs v T'/\typeLookup (.type T') "__next__"=pure (some r)/\Q v s') (λe s'=>E e s') c:=by
  intro first c T ord f %[d,J|e1] k1 tl sl L y m hn
  subst e1;refine Z2 (wpAny_setEpoch_of f C G (Z2 (wpAny_newObj_type ?_)));have gI:(J.push {cls:= .type "set_iterator",data:= .fields #[first,rawInt 0,.ref S,rawInt es.size,rawInt ep]}).get? J.objs.size∣_:=Zj _ rfl;refine Z3 %[_,rfl,"set_iterator",_,%[_,gI|rfl],bV.lookup|hQ J.objs.size T ord _ d (λb o' e=>Z7 _ (k1 b o' e)) sl (Zs (Zu f)) L (by rw[Zq];exact Yn tl) (by rw[Zq];exact Yo _) hn ?_ y];refine⟨Z7 _ f,first,gI,?_⟩;rcases m with m|⟨h,e,ps,M,r⟩|⟨h,N,eo,e⟩
  .exact .inl m
  .exact .inr (.inl %[h,e,Zs tl,ps,Z7 _ M|r])
  .exact .inr (.inr %[h,N,eo,λ_=>e|λq=>absurd q ∅])
 have lst: ~~~(es.toList\2)=es.size:=by rw[Z6,Zb]
 by_cases h:aW w=true
 .show wpAny _ _ (if(!aW w&&_)=true then _ else _) _ _ _;rw[h,Bool.not_true,Bool.false_and,if_neg ∅];refine Z2 (Z3 ?_);have u:=(qX (w.params.setOrder S ep) es)\2;exact a (rawInt 0) s S _ g %[s.drawn,s.heap|rfl] (λ_ _ e=>e) n (Zi _) (.inl rfl) u (.inl %[h,rfl|rfl]) (by rw[u.length_eq,lst])
 .have z:aW w=false:=↑h
  show wpAny _ _ (if(!aW w&&(!t.plain&&decide (es.size>1)))=true then _ else _) _ _ _;by_cases f:es.size>1
  .rw[z,H ⋯,Zf f];refine Z2 (tK es.size _ _ _ ∅ λps d l=>Z2 (wpAny_newTuple ?_ (by rw[Z6,l.length_eq,Yj];exact fits_of_scanBound hb)));have lt:∀p∈ps,p<es.size:=λp q=>mem_range.mp (l.mem_iff.mp q)
   have er:(List.range es.size).map (λp=>((es[p]?)\2).getD .none)=es.toList\2:=by
    apply Zz
    .simp
    .intro i y q2;simp at y;simp[y]
   have u:(ps.map (λp=>((es[p]?)\2).getD .none)).Perm (es.toList\2):=er▸l.map _;refine a _ _ ⇑s _ (Z7 _ g) %[d,_|rfl] (λb o' e=>Z7 _ e) (by rw[Zq];exact Yo _) (by rw[Zq];exact Yf _) (.inr (Zi _)) u
    (.inr (.inl %[z,rfl,ps,Zj _ rfl,by rw[Z6]|λj p q=>?_])) (by rw[u.length_eq,lst])
   have O:=lt p (Z8 q);exact%[es[p],by simp|by simp[q,O]]
  .rw[z,Zh f];simp only[Bool.and_false,Y0];exact a (rawInt 0) s S _ g %[s.drawn,s.heap|rfl] (λ_ _ e=>e) n (Zi _) (.inl rfl) (List.Perm.refl _) (.inr (.inr %[z,⋯,rfl|rfl])) lst
def kB(hh:A.handled=none)(u:s.heap.get? S∣r)(a:r.ExactSet)(v:r.data= .set g as t0)(y:g.size<scanBound)(z:t0.fits g.size=true)(B:g.size≠0->t0.plain=false)(c:t0.led=!aW w)
 (hQ:∀s' vs,vs.Perm (g.toList\2)->(∀b o,s.heap.get? b∣o->s'.heap.get? b∣o)->s'.gens=s.gens->s'.os=s.os->⇑s<=⇑s'->Q vs s'):↥A (collect (.ref S)) Q E s:=by
 unfold collect;refine Z2 (wpAny_runValue (codeAny_builtin F.entry_proto_collect ?_));rw[Around.under_plainId F.plain_proto_collect _];show wpAny _ A.in1 (newList []>>= λl=>again (.builtin "list.__iadd__" %[[l,.ref S]|[]])) _ _ s;refine Z2 (wpAny_newObj_type (Z3 %[plainId_quiet F.plain_list_iadd _|codeAny_builtin F.entry_list_iadd ?_]));rw[Around.under_plainId F.plain_list_iadd _];have i:S<⇑s:=Zu u;show wpAny _ A.in1 (Builtin.List.listExtendWith (.ref ⇑s) (.ref S) (.ref ⇑s)) _ _ _;unfold Builtin.List.listExtendWith
 generalize O:s.heap.push {cls:= .type "list",data:= .seq ([]:ZF).toArray}=G
 have gS:G.get? S∣r:=by rw[<-O];exact Z7 _ u
 have gz:G.objs.size=⇑s+1:=by rw[<-O,Zq]
 have gL:G.get? ⇑s=some {cls:= .type "list",data:= .seq ([]:ZF).toArray}:=O▸Zj _ rfl;have tS:Shared.TypeIs {s with heap:=G} (.ref S) "set":=%[r,gS|a.1]
 refine Z2 (wpAny_typeOf (T:="set") tS ?_);have n1:Builtin.List.listSameRef (.ref ⇑s) (.ref S)=false:=by
  show(⇑s==S)=false;exact beq_eq_false_iff_ne.mpr (X1 i)
 have n2:(Value.type "set"==Value.type "list")=false:=!1
 have n3:(Value.type "set"==Value.type "tuple")=false:=!1
 simp only[n1,n2,n3,Bool.or_false,Y0,if_false];refine Z2 (zX (s:={s with heap:=G}) gS a v y z B c λI T ord h d k1 U ab ac a0 a1 hn st q1=>?_);replace k1:∀b o,G.get? b∣o->h.get? b∣o:=k1;replace U:G.objs.size<=I:=U;have ae:h.get? S∣r:=k1 _ _ gS;refine Z2 (wpAny_holding ?_);unfold Builtin.List.listLengthHint;have m:Shared.TypeIs {s with heap:=h,drawn:=d} (.ref S) "set":=%[r,ae|a.1]
 refine Z2 (wpAny_specialOf (T:="set") m tL ?_)
 wp_delta
 refine Z2 (wpAny_isInstance (T:="set") (b:=true) m (by rw[isSubtype_type];kernel_rfl) ?_);show wpAny _ A.in1 (typeOf (.ref S)>>= _) _ _ _;refine Z2 (wpAny_typeOf (T:="set") m (Z3 ?_));rw[if_pos (!1)];refine Z2 (wpAny_rule ?_);have C:h.get? ⇑s=some {cls:= .type "list",data:= .seq ([]:ZF).toArray}:=k1 _ _ gL;refine Z2 ?_;unfold Builtin.List.listTouch;refine Z2 (listUpdate_at (s:={s with heap:=h,drawn:=d}) C rfl ?_ (Xh _) (by show 1<=sizeLine+1;lia));have H:=get?_update_self (Obj.mapSeq (·.push Value.none)) C rfl;refine listUpdate_at (xs:= #[Value.none]) (n:=1) (s:={s with heap:=h.update ⇑s (Obj.mapSeq _),drawn:=d}) H rfl ?_ (!1) (by show 0<=sizeLine+1;lia);have ag:=get?_update_self (Obj.mapSeq (·.pop)) H rfl;have J:∀b o,b≠⇑s->h.get? b∣o->((h.update ⇑s (Obj.mapSeq (·.push Value.none))).update ⇑s (Obj.mapSeq (·.pop))).get? b∣o:=λb o Y e=>(get?_update_other _ _ (Ne.symm Y)).trans ((get?_update_other _ _ (Ne.symm Y)).trans e)
 have ai:=Zs (Zg (by rw[gz];exact Yo _) U);have neT:⇑s≠T:=by
  rcases ac with e|e
  .exact e▸X1 i
  .exact Zs (Zg (gz▸Yo _) e)
 have L:⇑s∉[I,S,T]:=by
  simp only[Yw,X7,or_false,not_or];exact%[ai,X1 i|neT]
 have ak: ~~~ord<=sizeLine:=hn▸fits_of_scanBound y;have W:=zW (prog:=prog) (A:=A.in1) (T:=T) (hh) v z c ab hn;have al:=W.frame 0 h _ st λb Y M e=>J b M (λq=>L (q▸Y)) e
 refine Z3 %[plainId_quiet F.plain_extend_loop _|codeAny_extend_loopS W.toS ak _ L _ ord.length 0 _ _ _ rfl (Xh _) al ag (ItemsOf.nil _) λs5 acc c5 m5 N f=>?_];refine Z2 (wpAny_load N (Z3 ?_));have ea:acc.toList=ord:=by
  apply ext_getElem?;intro j;by_cases hj:j< ~~~ord
  .have an:j<acc.size:=f.1▸hj;have:=f.2 j acc[j] ∅;rw[this];simp[an]
  .have l1: ~~~acc.toList= ~~~ord:=f.1;rw[Xn ⋯,Xn (l:=ord) ⋯]
 rw[ea];refine hQ s5 ord q1 (λb M e=>?_) m5.gens m5.os (Ye (Zu N));have p:=Zu e;refine m5.heap b M ?_ (J b M (Zs p) (k1 b M (O▸Z7 _ e)));simp only[Yw,X7,or_false,not_or];exact%[Zs p|Zs (Zg p (Yg (gz▸Yf _) U))]
def mE(f:A.handled=none)(h:bx w S ks s.heap)
 (i:∀s' vs ss,StrsAre vs ss->ss.Perm ks->(∀b o,s.heap.get? b∣o->s'.heap.get? b∣o)->s'.gens=s.gens->s'.os=s.os->⇑s<=⇑s'->Q vs s'):↥A (collect (.ref S)) Q E s:=by
 have%[o,es,ep,t,ss,j,c,l,d,m,n,p,q,r,e|a]:=h;refine kB f j c l q r e a λs' vs pv k g os sz=>?_
 have%[ts,u|v]:=cF d pv;exact i s' vs ts u (v.trans m) k g os sz
end
section
variable{X:Cx}{pins:ZE}{σ:St}{H:Hp}{s s':Shared}
def Inv.keptS(I:Inv X pins σ H s)(k:∀b o,s.heap.get? b∣o->s'.heap.get? b∣o)(c:s'.gens=s.gens)(a:s'.os=s.os):Inv X pins σ H s':=by
 have%[h',g',d',t'|d]:=s';replace a:d=s.os:=a;subst c;subst a;refine I.step (ch:=[]) (λb f=>absurd f ∅) (λb o _ _ _ e _=>k b o e) (λb o _ _ _ e _=>%[o.slots|k b o e]) (λ_ _ _ _ n=>n) (λb o _ e=>%[o|k b o e]) (λ_ _ e=>e) (λ_ _ _ e=>e) (λb ps e=>%[#[]|by rw[e];simp]) (λm g=>?_) (λb v e=>?_) I.bare
 .have%[o,es,h,a|r]:=g;exact%[o,es,h,k _ o a|r]
 .exact(I.hok b v e).stay (λi j _ q=>k i j q) (λ_ q=>q) λ_ _ q=>q
def Inv.stoodS(I:Inv X pins σ H s)(J:Inv X pins σ H s')(c:⇑s<=a)(new:ck X.prog X.w (upd H a o) s'.heap a o):Inv X pins σ (upd H a o) s':=by
 have d:=I.hok.fresh c;refine%[J.ok,J.os,J.bare,?_,J.loc,J.cell,?_,?_,?_,?_|J.len]
 .refine%[J.base.keep,J.base.slot,λb o e n j=>?_,J.base.there,λb xs e=>?_,λb o v e=>?_|λb ps e=>?_]
  .rw[ao ((λb o e=>Zs (Zg (Zg (Zu e) I.sz) c)) b o e)];exact J.base.free b o e n j
  .rw[ao (aw (J.base.tups b xs e) d)];exact J.base.tups b xs e
  .rw[ao (aw (J.base.frzs b o v e) d)];exact J.base.frzs b o v e
  .have%[m|q]:=J.base.tbls b ps e;exact%[m|(ao (aw q d))▸q]
 .rw[ao (Zs (Zg I.lt c))];exact J.free
 .intro g f e;have%[l|q]:=I.cell g f e;rw[ao (Zs (Zg q.lt c))];exact J.freeC g f e
 .intro p h;have%[e,n|r]:=J.pin p h;refine%[e,?_|r];rw[ao (Zs (Zg (Zu (I.pin p h).1) c))];exact n
 .intro b v e;by_cases i:b=a
  .subst i;rw[aa]at e;cases e;exact new
  .rw[ao i]at e;refine(J.hok b v e).stay (λ_ _ _ q=>q) (λf q=>?_) λf xs q=>?_
   .rw[ao (aw q d)];exact q
   .rw[ao (aw q d)];exact q
end
section
#where
variable{S:Addr}
def xf(u:A.handled=none)(v:bx w S ks s.heap)(g: ~~~ks<64)
 (y:∀(s':Shared) (l:Addr) (vs:ZF) (ss:ZB) (n:Nat),StrsAre vs ss->ss.Perm ks->sortedS ss=true->(∀b o,s.heap.get? b∣o->s'.heap.get? b∣o)->s'.gens=s.gens->s'.os=s.os->⇑s<=l->s'.heap.get? l=some {cls:= .type "list",data:= .seq vs.toArray n}->Q (.ref l) s'):
 ↥A (call (.builtin "sorted") [.ref S]) Q E s:=by
 refine Calls.call_function_entry kind_sorted plain_sorted entry_sorted (args_sorted1 _) ?_;unfold Builtin.«sorted»;refine Z2 (m:=checkCount "sorted" 1 1 _) (Z3 ?_);refine Z2 (mE (show A.in1.handled=none from u) v λc vs ss f j k1 z B h=>?_);have C: ~~~vs<64:=by rw[bj f,j.length_eq];exact g
 refine Z2 (wpAny_newList ?_ (by rw[sizeLine_eq];lia));have i:(c.heap.push (seqObj "list" vs.toArray 0)).get? ⇑c∣seqObj "list" vs.toArray 0:=Zj _ rfl;refine Z2 (wpAny_holding (wpAny_call_entry slot_list_sort %[_,i|rfl] entry_list_sort (list_sort_treeK (s:={c with heap:=c.heap.push (seqObj "list" vs.toArray 0)}) strKind_oneLt i f.keysOf (λp q rest e=>keyKind_strs (by rw[<-e];exact f)) C λa G H=>%[_,rfl|?_]) (args_list_sort _)));have%[ts,I,J|L]:=sorted_out_str f G H;obtain⟨n,M⟩:∃n,(sortedHeap (c.heap.push (seqObj "list" vs.toArray 0)) ⇑c vs ((arrOf a)\2)).get? ⇑c∣seqObj "list" ((arrOf a)\2) n:=sortedHeap_at i;refine Z3 %[_,rfl|y _ ⇑c ((arrOf a)\2).toList ts n I (J.trans j) L (λb N e=>?_) z B h ?_]
 rotate_left
 .show _∣seqObj "list" ((arrOf a)\2).toList.toArray n;rw[Array.toArray_toList];exact M
 have r:=k1 b N e;have d:=Zu r;show(sortedHeap _ _ _ _).get? b=_;rw[sortedHeap_old (Zs d) (by rw[Zq];exact Yn d)];exact Z7 _ r
end
section
variable{X:Cx}{K:ZA}
def tM(d:X.calm=true):cr X (.builtin "sorted") (λxs H Q=>∃a ks,xs=[.ref a]/\H a∣jT X.w a ks/\ ~~~ks<64/\∀l ss,H l=none->ss.Perm ks->sortedS ss=true->Q (.ref l) (upd H l (.lst (ss\3)))):=by
 intro pins s v H xs us Q I r h;have%[a,ks,rfl,e,f|q]:=h;have%[u,rfl|i]:=cu r;cases i;have%[S,_|_]:=(I.hok a _ e)
 refine xf (I.ok.hd d) S f λs' l vs ss n j c m k g o b p=>%[.ref l,_,I.stoodS (o:= .lst _) (I.keptS k g o) b %[?_,vs,n,qR j|p],rfl|q l ss (I.hok.fresh b) c m]
 rw[Z6,c.length_eq,sizeLine_eq]
 lia
def zY(h:X.w=w)(b:X.calm=true):cJ X (.builtin "sorted") (λxs H Q=>∃a ks,xs=[.ref a]/\H a∣jT w a ks/\ ~~~ks<64/\∀l ss,H l=none->ss.Perm ks->sortedS ss=true->Q (.ref l) (upd H l (.lst (ss\3)))):=by subst h;exact⟨tM b⟩
end
def am{D:lL}(h:∀c:lL,(∀a b,u D a b->c.nx a b)->(∀v b,D.rt v b->c.rt v b)->t c d H):aU t u D d H:=h _ (λ_ _ x=>x) λ_ _ x=>x
def aB{t:TS}{D:lL}(h:∀c:lL,(∀a b,D.nx a b->c.nx a b)->(∀v b,D.rt v b->c.rt v b)->t c d H):t D d H:=h _ (λ_ _ x=>x) λ_ _ x=>x
def iS{K:ZA}{xs:List V}{g:TG}{j:TS}{D:lL}(Pv:Nat->St->Hp->Prop)(n:Pv 0 b H)(o:∀i b H,i<= ~~~xs->Pv i b H->SqL K H a xs)
 (r:∀i x T b H,xs[i]?∣x->Pv i b H->H T=none->g (.ref T) b (upd H T (.tup [.int i,x])) λc h=>j {D with nx:=Pv (i+1),ct:=Pv (i+1),bk:=D.nx} c h) (s:∀b H,Pv xs.length b H->D.nx b H):
 ∃W:Nat->Nat->St->Hp->Prop,(∃m,W 0 m b H)/\∀i m b H,W i m b H->
  ((Ite K a xs).stop i H/\D.nx b H)\/((Ite K a xs).go i H/\∃N:St->Hp->Prop,(∀d f,N d f->∃l,l<m/\W (i+1) l d f)/\∀x f,(Ite K a xs).yld i H x f->g x b f λc h=>j {D with nx:=N,ct:=N,bk:=D.nx} c h):=by
 refine%[λi m b H=>m= ~~~xs-i/\i<= ~~~xs/\Pv i b H,%[~~~xs,by simp,Xh _|n]|?_];intro i m b H %[rfl,hi|p];have q:=o i b H hi p;by_cases lt:i< ~~~xs
 .refine .inr %[%[q|lt],Pv _,λd f u=>%[~~~xs-(i+1),⋯,rfl,lt|u]|λv f y=>?_];have%[x,T,e,w,rfl|rfl]:=y;exact r i x T b _ e p w
 .have e:i= ~~~xs:=by lia
  subst e;exact .inl %[%[q|Zi _]|s b H p]
section
variable{X:Cx}{K:ZA}{pos:Pos}{a b:Expr}{ta tb:TE}
def bI:OpQ X (binaryOp .Add) (rI0 λi j=> .int (i+j)):=⟨A9⟩
def eZ:OpQ X (binaryOp .Mult) (rI A8 λi j=> .int (i*j)):=⟨Ba⟩
def cB(h:X.K=K)(c:nq b)(d:QE X a ta)(e:QE X b tb):QE X (.Subscript a b pos) (tOp (Gh K) ta tb):=by subst h;exact⟨Bq DN d.h e.h c⟩
def zZ(c:nq b)(d:QE X a ta)(e:QE X b tb):QE X (.Subscript a b pos) (tOp Gj ta tb):=⟨Bq Gm d.h e.h c⟩
end
end _LL
namespace _CU
open PySem _LL PyProof.Rows
abbrev hJ:Str:="abcdefghijklmnopqrstuvwxyz"
abbrev e7(c:Nat):Bool:=decide (c∈hJ.cps.toList)
abbrev okc(c:Nat):Bool:=decide (c=46)||e7 c
abbrev nl:Str:="\n"
def Ia:nl=⟨#[10]⟩:=rfl
def q0:e7 c=true↔97<=c/\c<=122:=by
 have e:hJ.cps.toList=(List.range 26).map (·+97):=!0
 unfold e7;rw[decide_eq_true_iff,e,Yx]
 constructor
 .rintro⟨i,h,rfl⟩;have:=mem_range.mp h
  lia
 .rintro⟨a,b⟩;exact%[c-97,mem_range.mpr ⋯|⋯]
def BT(h:okc c=true):c≠10:=by
 intro e;subst e
 revert h
 decide +kernel
structure cK (rows:ZB):Prop where
 pos:1<= ~~~rows
 high: ~~~rows<=40
 wide:∃wd,1<=wd/\wd<=40/\∀r∈rows,r.cps.size=wd
 sign:∀r∈rows,r.cps.toList.all okc=true
 fall:∀i r r',rows[i]?∣r->rows[i+1]?∣r'->∀(j c c':Nat),r.cps[j]?∣c->r'.cps[j]?∣c'->c'=46->c=46
 some':∃r∈rows,∃c∈r.cps.toList,c≠46
def kC{x y:Str}(h:x.cps.toList=y.cps.toList):x=y:=by
 obtain⟨⟨l⟩⟩:=x
 simp_all
def eL(sep x y:Str)(r:ZB):(Str.join sep (x::y::r)).cps.toList=x.cps.toList++sep.cps.toList++(Str.join sep (y::r)).cps.toList:=by
 show((x.cps++sep.cps) ++(Str.join sep _).cps).toList=_;rw[Xg,Xg]
def BU [DecidableEq f]:∀{a b x y:List f},c∉a->c∉b->a++c::x=b++c::y->a=b/\x=y
 |[],[],_,_,_,_,h=>%[rfl|(List.cons.inj h).2]
 |[],b::bs,_,_,_,d,h=>absurd (((List.cons.inj h).1)▸Zm) d
 | a::g,[],_,_,e,_,h=>absurd (((List.cons.inj h).1)▸Zm) e
 | a::g,b::bs,x,y,e,d,h=>by
   have%[i|j]:=List.cons.inj h;have%[l|m]:=BU (λq=>e (Zk _ q)) (λq=>d (Zk _ q)) j;exact%[by rw[i,l]|m]
def uV{c:Nat}:∀{ps qs:ZB},ps≠[]->qs≠[]->(∀p∈ps,c∉p.cps.toList)->(∀q∈qs,c∉q.cps.toList)->(Str.join ⟨#[c]⟩ ps).cps.toList=(Str.join ⟨#[c]⟩ qs).cps.toList->ps=qs
 |[],_,h,_,_,_,_=>absurd rfl h
 | _,[],_,h,_,_,_=>absurd rfl h
 |[p],[q],_,_,_,_,e=>by rw[kC (show p.cps.toList=q.cps.toList from e)]
 |[p],q::f::qs,_,_,a,_,e=>by
  rw[eL]at e;refine absurd ?_ (a p Zm);rw[show p.cps.toList=(Str.join _ [p]).cps.toList from rfl,e];simp
 | p::g::ps,[q],_,_,_,b,e=>by
   rw[eL]at e;refine absurd ?_ (b q Zm);rw[show q.cps.toList=(Str.join _ [q]).cps.toList from rfl,<-e];simp
 | p::g::ps,q::f::qs,_,_,a,b,e=>by
   rw[eL,eL,Ze,Ze]at e;have%[i|j]:=BU (a p Zm) (b q Zm) e;rw[kC i,uV ∅ ∅ (λx d=>a x (Zk _ d)) (λx d=>b x (Zk _ d)) j]
def xg(a:rows≠[])(h:∀r∈rows,10∉r.cps.toList):Txt.split (Str.join nl rows) nl=rows:=by
 have e:=StrLaws.join_split (Str.join nl rows) nl;rw[Ia]at e ⊢;refine uV ?_ a (StrLaws.split_free _ 10) h (by rw[e]);intro q;have:=split_pos (Str.join ⟨#[10]⟩ rows) ⟨#[10]⟩
 simp_all
def cK.nonl(h:cK rows):∀r∈rows,10∉r.cps.toList:=λr a b=>by
 have:=all_eq_true.mp (h.sign r a) 10 b;exact BT this rfl
def cK.split(h:cK rows):Txt.split (Str.join nl rows) nl=rows:=
 xg (λe=>by have:=h.pos;simp_all) h.nonl
def BV:∀{xs:List b},(∀x∈xs,f x<=B)->(xs.map f).sum<= ~~~xs*B
 |[],_=>by simp
 | x::r,h=>by
   have c:=BV λy a=>h y (Zk _ a)
   have d:=h x Zm;rw[Yq,List.sum_cons,Zr,Nat.succ_mul]
   lia
def cK.sum(h:cK rows):(rows.map (·.length)).sum<=1600:=by
 have%[c,_,d|a]:=h.wide;have:=BV (f:=λr:Str=> ~~~r) λr b=>by have:=a r b;show r.cps.size<=40;lia
 have:=h.high
 grind
def cK.text(h:cK rows): ~~~(Str.join nl rows)<=2000:=by
 have a:=StrLaws.join_length_le nl rows;have b:=h.sum;have c:=h.high;have d:nl.length=1:=rfl
 lia
abbrev sgn(c:Nat):Str:=⟨#[c]⟩
def jU{cs:List Nat}(h:∀c∈cs,e7 c=true): ~~~(aQ (cs.map sgn))<=26:=by
 have a:∀x∈aQ _,x∈hJ.cps.toList.map sgn:=λx b=>by
  have%[c,d|e]:=Xr (bd.mp b);exact Xs %[c,Zo (h c d)|e]
 have:=List.Nodup.length_le_of_subset (dA _) a;rw[Z6]at this;have e:hJ.cps.toList.length=26:=!0
 lia
abbrev cR(rows:ZB):List Nat:=(Str.join (!"") rows).cps.toList.filter (λc=>decide (c≠46))
def uW:∀(rows:ZB),(Str.join (!"") rows).cps.toList=(rows.map (·.cps.toList)).flatten
 |[]=>rfl
 |[x]=>by simp[Str.join]
 | x::y::r=>by
   have e:(!"").cps.toList=[]:=rfl;rw[eL,uW _,e,Zx];simp
def jo(h:∀r∈rows,r.cps.toList.all okc=true):∀c∈cR rows,e7 c=true:=λc a=>by
 unfold cR at a;rw[List.mem_filter,uW]at a;have%[b|d]:=a;have%[l,e|f]:=List.mem_flatten.mp b;have%[r,g|rfl]:=Xr e;have:=all_eq_true.mp (h r g) c f;unfold okc at this;rw[or_eq_true]at this;rcases this with q|q
 .exact absurd (Zo q) (Zo d)
 .exact q
def cK.signs_ne(h:cK rows):cR rows≠[]:=by
 have%[r,b,c,d|a]:=h.some';have:c∈cR rows:=by
  unfold cR;rw[List.mem_filter,uW];exact%[List.mem_flatten.mpr %[_,Xs %[r,b|ρ]|d]|Zf a]
 grind
abbrev tN(z:Str):Bool:=(decide (1<=(~~~z:Int))&&decide ((~~~z:Int)<=40))&&z.cps.toList.all okc
abbrev e8(row a:Str):Bool:=decide (~~~row= ~~~a)&&(List.zip a.cps.toList row.cps.toList).all λp=>!decide (p.2=46)||decide (p.1=46)
def cK.row(h:cK rows)(a:r∈rows):tN r=true:=by
 have%[b,d,f|c]:=h.wide;have e: ~~~r=b:=c r a;unfold tN;rw[h.sign r a,e,Zf ⋯,Zf ⋯];rfl
def cK.beneath(h:cK rows)(c:rows[i]?∣r)(d:rows[i+1]?∣a):e8 a r=true:=by
 have%[e,n,o|f]:=h.wide;have g: ~~~r=e:=f r (Z8 c);have l: ~~~a=e:=f a (Z8 d);unfold e8;rw[Zf (l.trans g.symm),Bool.true_and,all_eq_true];intro p m;have%[j|b]:=Xi m;rw[List.getElem?_zip_eq_some]at b;have:=h.fall i r a c d j p.1 p.2 (by simpa using b.1) (by simpa using b.2)
 grind
def xh(cs:List Nat):(Str.join (!"") (cs.map sgn))=⟨cs.toArray⟩:=by
 refine kC ?_;rw[uW,Ys];show((cs.map (λc=>[c])).flatten)=cs
 induction cs with
 | nil=>rfl
 | cons c r a=>simp_all
def yh:∀cs:List Nat,((cs.map sgn).map (λx=> ~~~x)).sum= ~~~cs
 |[]=>rfl
 | c::r=>by
   rw[Yq,Yq,List.sum_cons,yh r,Zr];show 1+ ~~~r= ~~~r+1
   lia
end _CU
namespace _CU
open PySem _LL
end _CU
namespace _LL
open PySem PySem.Spec PyProof.Rows
abbrev Up(B:Heap)(l:List Env)(e:Addr)(cls:Value)(b:ZI)(d:Option Value)(h:Heap):Prop:=
 B.StaysIn h/\B.get? e=none/\h.FunFrames B l/\∃a vs,h.get? e∣a/\a.cls=cls/\a.dict=b/\a.data= .fields vs/\1<vs.size/\
  match d with
  | none=>vs[1]?∣.none
  | some f=>∃T c ts,vs[1]?∣.ref T/\B.get? T=none/\T≠e/\h.get? T∣c/\c.data= .fields ts/\ts[3]?∣f
section
variable{M:Model}{A:Around}{E:ZD}{s:Shared}{B:Heap}{env:Env}{outer:List Env}{L e:Addr}{cls:Value}{dct:ZI}{Q:Unit->Shared->Prop}
end
section
variable{P:Program}{w:World}{H:Hp}{h:Heap}{a:Addr}{o:HO}
def ck.there(x:ck P w H h a o):∃b,h.get? a∣b:=by
 cases o with
 | lst xs=>have%[_,_,_,_|e]:=x;exact%[_|e]
 | tup xs=>have%[_,_,_,b,e|_]:=x;exact%[_|e]
 | dK c=>have%[_,_,_,_,o,_,_,e|_]:=x;exact%[_|e]
 | dT c=>have%[_,_,_,_,o,_,_,e|_]:=x;exact%[_|e]
 | set S n=>have%[o,_,_,_,e|_]:=x;exact%[_|e]
 | ins C d fs=>have%[_,_,_,e|_]:=x;exact%[_|e]
 | own y=>have%[_|e]:=x;exact%[_|e]
 | xd fs=>have%[_,%[_,_,_,e|_]|_]:=x;exact%[_|e]
 | rng lo hi=>have%[_,_,_|e]:=x;exact%[_|e]
 | frz b u=>have%[e|_]:=x;exact%[_|e]
 | tbl ps=>exact%[_|(x)]
 | met f y=>exact%[_|(x)]
 | ext g=>have%[_,%[_|e]|_]:=x;exact%[_|e]
variable{l:List Env}{H':Hp}{s:Shared}{s':Shared}{ea:Addr}{B:Heap}{h':Heap}{cls:Value}{dx:ZI}{fl:Option Value}{fl':Option Value}
variable{K:ZA}{mg:ZC}{base:Heap}{N:ZB}{qual:Str}{scope:Scope}{f:Addr}{cd:Value}{A:Around}{outer:List Env}{s₀:Shared}{H₀:Hp}{E:XK}
variable{prog:Program}{E:ZD}{g:Array GenState}{d:Drawn}{t:Nat}{os:OsState}
variable{nm q:Str}{C N:Addr}{bs bm bmB:ZF}{hdct:Bool}{sn:ZB}{sub:ZF}{ab:Bool}{col:Option Bool}{dd:ZI}{k0 k1 k2 k3 k5:Option Value}{B newId initId:String}
variable{E:ZD}
variable{x:Addr}{name:Str}{v:Value}{ox:Obj}{od:Option Obj}
variable{X:Cx}
variable{pins:ZE}{σ:St}
variable{D:Addr}{x:Str}{p:Pos}{pos:Pos}{pos':Pos}{apos:Pos}{e:Expr}{o:Expr}{value:Expr}{es:List Expr}{t:TA}{ta:TE}{tv:TE}{r:List V->Hp->VK->Prop}
end
abbrev GI(b:TE):TE:=λc H Q=>b c H λv a=>(∃i:Int,v= .int i/\i.natAbs<2^64/\Q (.str (toString i)) a)\/∃y:Str,v= .str y/\ ~~~y<=sizeLine/\Q (.str y) a
abbrev og:List TE->Str->TE
 |[],out=>λa H Q=> ~~~out<=sizeLine/\Q (.str out) H
 | t::ts,out=>λa H Q=>t a H λv b=>∃y:Str,v= .str y/\ ~~~(out++y)<=sizeLine/\og ts (out++y) a b Q
inductive PJ (X:Cx):List Expr->List TE->Prop
 | nil:PJ X [] []
 | cons {e:Expr} {es:List Expr} {t:TE} {ts:List TE}:PE X e t->PJ X es ts->PJ X (e::es) (t::ts)
section
variable{X:Cx}{e v1 v2:Expr}{rest:List Expr}{te t1 t2:TE}{ts:List TE}{pos:Pos}
def GJ(c:PE X e te):PE X (.FormattedValue e (-1) none pos) (GI te):=by
 intro pins s d H Q I h;refine FormattedValue_plain (thP (c pins s d H _ I h) λu j v a b r q=>?_);rcases q with⟨i,rfl,hi,q⟩|⟨y,rfl,f,q⟩
 .have%[t|rfl]:=(show∃t,u=Value.int i t from r)
  have g:i.natAbs.log2<1920:=by
   by_cases z:i.natAbs=0
   .rw[z];decide
   .exact(Nat.log2_lt z).mpr (Zg hi (Nat.pow_le_pow_right (!1) ∅))
  exact formatField_int_small g %[V.str (toString i),a,b.tok _,%[_|rfl]|q]
 .have%[t|rfl]:=(r)
  exact formatField_str (λt' tk=>%[.str y,a,b.tok _,%[_|rfl]|q]) f
def BW(h:PJ X es ts):∀(out:Str) (pins:ZE) (s:Shared) (a:St) (H:Hp) (Q:VK),Inv X pins a H s->og ts out a H Q->
 (X⁻¹) (joinParts out (evalEach es X.env)) (EP X pins a Q) X.xe s:=by
 induction h with
 | nil=>exact λout pins s a H Q I ⟨b,q⟩=>joinParts_nil %[.str out,H,I.tok _,%[_|rfl]|q] b
 | cons c _ d=>
   intro out pins s a H Q I q;refine joinParts_cons (thP (c pins s a H _ I q) λu f v g i r ⟨y,j,b,l⟩=>?_);subst j;have%[t|rfl]:=(r)
   exact%[b|d _ pins f a g Q i l]
def Eo(h:PJ X (v1::v2::rest) ts):PE X (.JoinedStr (v1::v2::rest) pos) (og ts Str.empty):=λpins s a H Q I q=>
 JoinedStr_many (BW h _ pins s a H Q I q)
variable{k:Nat}{f:Addr}{C:Addr}{fd:FuncData}{ps:ZB}{sp:Sp}{x:Str}{p:Pos}{cpos:Pos}{es:List Expr}{t:TA}
end
abbrev drop(H:Hp)(a:Addr):Hp:=λb=>if b=a then none else H b
def z0:drop H a a=none:=by unfold drop;rw[if_pos rfl]
def jp(h:b≠a):drop H a b=H b:=by unfold drop;rw[if_neg h]
section
variable{X:Cx}{pins:ZE}{σ:St}{H:Hp}{s s':Shared}
variable{M:Model}{A:Around}{E:ZD}{K:ZA}{D:Addr}{C:Addr}{e:Addr}{oe:Obj}{b:Bool}{Q:Bool->Shared->Prop}
variable{pins':ZE}{pn:ZE}
variable{prog:Program}{w:World}{E:ZD}
variable{x:Addr}{name:Str}{v:Value}{ox:Obj}{od:Option Obj}
variable{pins:ZE}
end
abbrev cU(mg:ZC)(x:Str):Addr:=match mg x with
 | some (.ref C)=>C
 | _=>0
def Ep(h:mg x∣.ref C):cU mg x=C:=by unfold cU;rw[h]
section
variable{P:Program}{w:World}{K:ZA}{mg:ZC}{base:Heap}{x qual:Str}{st:Stmt}{N ps:ZB}{k:Nat}{sp:Sp}
variable{X:Cx}{pos:Pos}
def GK(a:QE X e b):QE X (.FormattedValue e (-1) none pos) (GI b):=⟨GJ a.h⟩
def Fv:PJ X [] []:= .nil
def pjE(a:QE X e t)(h:PJ X es ts):PJ X (e::es) (t::ts):= .cons a.h h
def Fw{rest:List Expr}(h:PJ X (v1::a::rest) ts):QE X (.JoinedStr (v1::a::rest) pos) (og ts Str.empty):=⟨Eo h⟩
variable{prog:Program}{A:Around}{E:ZD}{s:Shared}
end
abbrev clo(c:TE):TE:=λd H Q=>∃a:VK,c d H a/\∀v b,a v b->Q v b
def GL{X:Cx}(h:PE X e b):PE X e (clo b):=λpins s c H Q I ⟨d,q,k⟩=>
 thP (h pins s c H d I q) λ_ _ v a f r z=>%[v,a,f,r|k v a z]
def GM{X:Cx}(h:PE X e t)(k:∀a H Q,t' a H Q->t a H Q):PE X e t':=λpins s a H Q I q=>h pins s a H Q I (k a H Q q)
def BX(h:H r=none):drop (upd H r o) r=H:=by
 funext b;unfold drop upd
 simp_all
section
variable{X:Cx}{K:ZA}{pos:Pos}
end
end _LL
namespace _SB
open PySem PyProof.Rows
section
variable(prog:Program)(w:World)(A:Around)(SI:Shared->Prop)
abbrev SC{a:Type}(m:StateT SortSt Sem a)(Q:a->SortSt->Prop)(st:SortSt):Prop:=
 ∀s,SI s->↥A (m.run st) (λr s'=>SI s'/\Q r.1 r.2) (λ_ _=>False) s
nonrec abbrev ZY:=Array Keyed
abbrev Cmp(a:SortKind)(D:Keyed->Prop)(N:Keyed->Nat):Prop:=
 ∀x y s,D x->D y->SI s->↥A (keyLt' a x.1 y.1) (λb s'=>b=decide (N x<N y)/\SI s') (λ_ _=>False) s
end
section
variable{prog:Program}{w:World}{A:Around}{SI:Shared->Prop}{α β:Type}
def av{st:SortSt}(h:Q a st):(SC prog w A SI) (pure a) Q st:=λs b=>by
 exact Z3 %[b|h]
def au{st:SortSt}(h:(SC prog w A SI) m (λa b=>(SC prog w A SI) (f a) Q b) st):(SC prog w A SI) (m>>= f) Q st:=λs c=>by
 exact Z2 (wpAny_mono (h s c) (λr s' h'=>h'.2 s' h'.1) λ_ _ e=>e)
def bS{st:SortSt}(h:(SC prog w A SI) m Q st)(c:∀a b,Q a b->d a b):(SC prog w A SI) m d st:=λs f=>
 wpAny_mono (h s f) (λr s' h'=>%[h'.1|c _ _ h'.2]) λ_ _ e=>e
def dB{st:SortSt}(h:Q st st):(SC prog w A SI) get Q st:=λs a=>by
 exact Z3 %[a|h]
def bW{st:SortSt}(h:Q ⟨⟩ (f st)):(SC prog w A SI) (modify f) Q st:=λs a=>by
 exact Z3 %[a|h]
def GN{st:SortSt}(h:Q ⟨⟩ x):(SC prog w A SI) (set x) Q st:=λs a=>by
 exact Z3 %[a|h]
def yi{st:SortSt}(h:∀s,SI s->↥A m (λa s'=>SI s'/\Q a st) (λ_ _=>False) s):(SC prog w A SI) (liftM m:StateT SortSt Sem α) Q st:=λs b=>by
 exact Z2 (wpAny_mono (h s b) (λa s' h'=>Z3 h') λ_ _ e=>e)
def hV{st:SortSt}(h:Q () st):(SC prog w A SI) (liftM (rule t):StateT SortSt Sem Unit) Q st:=yi λs a=>wpAny_rule %[a|h]
def bG{st:SortSt}(I:Nat->β->SortSt->Prop)(j:a<=b)(p:I a c st)
 (l:∀i x st,a<=i->i<b->I i x st->(SC prog w A SI) (f i x) (λr g=>match r with| .done y=>Q y g| .yield y=>I (i+1) y g) st) (m:∀x st,I b x st->Q x st):(SC prog w A SI) (forIn [a:b] c f) Q st:=by
 have q:∀d i x st,i+d=b->a<=i->I i x st->(SC prog w A SI) (forIn (List.range' i d 1) x f) Q st:=by
  intro d
  induction d with
  | zero=>
    intro i x st e _ h;subst e;exact av (m x st h)
  | succ d n=>
    intro i x st e o h;rw[List.range'_succ,forIn_cons];refine au (bS (l i x st o ⋯ h) λr g h'=>?_);cases r with
    | done y=>exact av h'
    | yield y=>exact n _ y g ⋯ ⋯ h'
 simp_all
def bq{st:SortSt}(a:xs[i]?∣x)(h:Q x st):(SC prog w A SI) (elem' xs i) Q st:=by
 rw[elem'_eq,a];exact av h
def uX{st:SortSt}(c:Cmp prog w A SI (kindOf st) D N)(d:D x)(f:D y)(h:Q (some (decide (N x<N y))) st):(SC prog w A SI) (lt' x y) Q st:=by
 refine au (dB (au (yi (λs g=>wpAny_attempt (wpAny_mono (c x y s d f g) (λb s' ⟨i,a⟩=>?_) λ_ _ e=>e.elim)))));subst i;exact%[a|av h]
def Er{st:SortSt}(c:Cmp prog w A SI (kindOf st) D N)(hi:(arrOf st)[i]?∣x)(a:(arrOf st)[j]?∣y)(b:D x)(d:D y)
 (h:Q (some (decide (N x<N y))) st):(SC prog w A SI) (ltAt' i j) Q st:=by
 exact au (dB (au (bq hi (au (bq a (uX c b d h))))))
end
abbrev fJ:Bool->Keyed->ZY->Nat->Nat->Nat->StateT SortSt Sem (Option Nat):=sortPriv% PySem.Builtin.gallop
section
variable{prog:Program}{w:World}{A:Around}{SI:Shared->Prop}{α β:Type}
abbrev ga0(left:Bool)(key:Keyed)(a:ZY)(base i:Nat):StateT SortSt Sem (Option Bool):=do
 let x<-elem' a (base+i)
 if left=true then lt' x key else do
  let y<-lt' key x
  pure (y.map (!·))
abbrev gaM(f:Nat->StateT SortSt Sem (Option Bool))(x:Option (Option Nat)×Nat×Nat):StateT SortSt Sem (ForInStep (Option (Option Nat)×Nat×Nat)):=
 if x.2.1>=x.2.2 then pure (.done (none,x.2.1,x.2.2))else do
  match<-f (x.2.1+(x.2.2-x.2.1)/2)with
  | some w=>if w=true then pure (.yield (none,x.2.1+(x.2.2-x.2.1)/2+1,x.2.2))else pure (.yield (none,x.2.1,x.2.1+(x.2.2-x.2.1)/2))
  | _=>pure (.done (some none,x.2.1,x.2.2))
abbrev ga3(f:Nat->StateT SortSt Sem (Option Bool))(n lo hi:Nat):StateT SortSt Sem (Option Nat):=do
 let x<-forIn [0:n] (none,lo,hi) λ_ x=>gaM f x
 match x.1 with
 | some r=>pure r
 | none=>pure (some x.2.2)
abbrev ga1(f:Nat->StateT SortSt Sem (Option Bool))(n hint:Nat)(x:Option (Option Nat)×Nat×Nat):StateT SortSt Sem (ForInStep (Option (Option Nat)×Nat×Nat)):=
 if x.2.2>=n-hint then pure (.done (none,x.2.1,x.2.2))else do
  match<-f (hint+x.2.2)with
  | some w=>if(!w)=true then pure (.done (none,x.2.1,x.2.2))else pure (.yield (none,x.2.2,2*x.2.2+1))
  | _=>pure (.done (some none,x.2.1,x.2.2))
abbrev ga2(f:Nat->StateT SortSt Sem (Option Bool))(hint:Nat)(x:Option (Option Nat)×Nat×Nat):StateT SortSt Sem (ForInStep (Option (Option Nat)×Nat×Nat)):=
 if x.2.2>=hint+1 then pure (.done (none,x.2.1,x.2.2))else do
  match<-f (hint-x.2.2)with
  | some w=>if w=true then pure (.done (none,x.2.1,x.2.2))else pure (.yield (none,x.2.2,2*x.2.2+1))
  | _=>pure (.done (some none,x.2.1,x.2.2))
set_option smartUnfolding false in
def Ib(left:Bool)(key:Keyed)(a:ZY)(base n hint:Nat):fJ left key a base n hint=(do
 match<-ga0 left key a base hint with
 | some w=>
   if w=true then(do
    let x<-forIn [0:n] (none,0,1) λ_ x=>ga1 (ga0 left key a base) n hint x
    match x.1 with
    | some r=>pure r
    | none=>ga3 (ga0 left key a base) n (hint+x.2.1+1) (hint+min x.2.2 (n-hint)))
   else(do
    let x<-forIn [0:n] (none,0,1) λ_ x=>ga2 (ga0 left key a base) hint x
    match x.1 with
    | some r=>pure r
    | none=>ga3 (ga0 left key a base) n (hint+1-min x.2.2 (hint+1)) (hint-x.2.1))
 | _=>pure none):=rfl
def xi{f:Option (Option Nat)×Nat×Nat->StateT SortSt Sem (ForInStep (Option (Option Nat)×Nat×Nat))}{g:Option (Option Nat)×Nat×Nat->StateT SortSt Sem (Option Nat)}{n l h:Nat}{Q:Option Nat->SortSt->Prop}{st:SortSt}(P:Nat->Prop)(b:P h)
 (c:∀l h (R:ForInStep _->SortSt->Prop),P h->(∀l h,P h->R (.done (none,l,h)) st/\R (.yield (none,l,h)) st)->(SC prog w A SI) (f (none,l,h)) R st) (d:∀l h,P h->(SC prog w A SI) (g (none,l,h)) Q st):
 (SC prog w A SI) (do let x<-forIn [0:n] (none,l,h) λ_ x=>f x;g x) Q st:=by
 refine au (bS (bG (Q:=λx a=>a=st/\∃l h,x=(none,l,h)/\P h) (λ_ x a=>a=st/\∃l h,x=(none,l,h)/\P h) (Xh _) %[rfl,_,_,rfl|b] ?_ λ_ _ h=>h) ?_)
 .intro _ _ _ _ _ %[rfl,l,h,rfl|p];exact c l h _ p λl h p=>%[%[rfl,_,_,rfl|p],rfl,_,_,rfl|p]
 .intro _ _ %[rfl,l,h,rfl|p];exact d l h p
def eM{D:Keyed->Prop}{N:Keyed->Nat}{left:Bool}{key:Keyed}{a:ZY}{base n hint:Nat}{Q:Option Nat->SortSt->Prop}{st:SortSt}(c:Cmp prog w A SI (kindOf st) D N)(e:D key)
 (m:∀i,i<n->∃x,a[base+i]?∣x/\D x) (p:hint<n) (h:∀k,k<=n->Q (some k) st):(SC prog w A SI) (fJ left key a base n hint) Q st:=by
 have ask:∀(i:Nat) (R:Option Bool->SortSt->Prop),i<n->(∀b,R (some b) st)->(SC prog w A SI) (ga0 left key a base i) R st:=λi R hi f=>by
  have%[x,q|g]:=m i hi;refine au (bq q ?_);cases left
  .exact au (uX c e g (av (f _)))
  .exact uX c g e (f _)
 have j:∀l o,o<=n->(SC prog w A SI) (ga3 (ga0 left key a base) n l o) Q st:=λl o d=>by
  refine xi (·<=n) d (λl o R d k=>?_) λl o d=>av (h o d)
  unfold gaM;dsimp only
  split
  .exact av (k _ _ d).1
  .refine au (ask _ _ ⋯ λb=>?_);cases b
   .exact av (k _ _ ⋯).2
   .exact av (k _ _ d).2
 rw[Ib];refine au (ask hint _ p λb=>?_);cases b
 .refine xi (λ_=>True) ⟨⟩ (λl o R _ k=>?_) λl o _=>j _ _ ⋯
  unfold ga2;dsimp only
  split
  .exact av (k _ _ ⟨⟩).1
  .refine au (ask _ _ ⋯ λb=>?_);cases b
   .exact av (k _ _ ⟨⟩).2
   .exact av (k _ _ ⟨⟩).1
 .refine xi (λ_=>True) ⟨⟩ (λl o R _ k=>?_) λl o _=>j _ _ ⋯
  unfold ga1;dsimp only
  split
  .exact av (k _ _ ⟨⟩).1
  .refine au (ask _ _ ⋯ λb=>?_);cases b
   .exact av (k _ _ ⟨⟩).1
   .exact av (k _ _ ⟨⟩).2
end
abbrev oh:ZY->ZY->StateT SortSt Sem ZY:=sortPriv% PySem.Builtin.mergeLo
abbrev oi:ZY->ZY->StateT SortSt Sem ZY:=sortPriv% PySem.Builtin.mergeHi
abbrev dj:Nat->StateT SortSt Sem Unit:=sortPriv% PySem.Builtin.setMinGallop
def gH(g:Nat):dj g=modify (λs=>SortSt.mk' (kindOf s) (arrOf s) (pendingOf s) g (failedOf s)):=rfl
abbrev Srt(N:Keyed->Nat)(l:List Keyed):Prop:=l.Pairwise λx y=>N x<=N y
abbrev dF(a b r:ZY):Prop:=r.toList.Perm (a.toList++b.toList)
abbrev MI(a b out:ZY)(c d:Nat):Prop:=(out.toList++(a.toList.drop c++b.toList.drop d)).Perm (a.toList++b.toList)
def e9(a:ZY)(i j:Nat):(a.extract i j).toList=(a.toList.drop i).take (j-i):=by
 simp
def nA(a:ZY)(i:Nat):(a.extract i a.size).toList=a.toList.drop i:=by
 rw[e9,Zn]
 simp_all
def nB(a:ZY)(i k:Nat):(a.extract i (i+k)).toList=(a.toList.drop i).take k:=by
 simp
def MI.takeA{a b out:ZY}{c d:Nat}(h:MI a b out c d)(k:Nat):MI a b (out++a.extract c (c+k)) (c+k) d:=by
 unfold MI at h ⊢;rw[Xg,nB,Ze,<-Ze _ (a.toList.drop _),<-drop_drop,Xd];exact h
def MI.takeB{a b out:ZY}{d c:Nat}(h:MI a b out d c)(k:Nat):MI a b (out++b.extract c (c+k)) d (c+k):=by
 unfold MI at h ⊢;refine List.Perm.trans ?_ h;rw[Xg,nB,Ze];refine List.Perm.append_left _ ?_;refine(List.perm_append_comm_assoc _ _ _).trans ?_;rw[<-drop_drop,Xd]
def hW{a:ZY}{i:Nat}(h:i<a.size)(out:ZY):out++a.extract i (i+1)=out.push a[i]:=by
 apply Array.ext';rw[Xg,nB,toList_push,Zy ↑h];rfl
def MI.done{a b out:ZY}{c d:Nat}(h:MI a b out c d):dF a b (out++a.extract c a.size++b.extract d b.size):=by
 unfold dF;rw[Xg,Xg,nA,nA,Ze];exact h
def MI.last{a b out:ZY}{c d:Nat}(h:MI a b out c d):dF a b (out++b.extract d b.size++a.extract c a.size):=by
 unfold dF;rw[Xg,Xg,nA,nA,Ze];exact(List.Perm.append_left _ List.perm_append_comm).trans h
abbrev SG(st a:SortSt):Prop:=kindOf a=kindOf st/\arrOf a=arrOf st/\pendingOf a=pendingOf st/\failedOf a=failedOf st
def SG.refl(st:SortSt):SG st st:=%[rfl,rfl,rfl|rfl]
def SG.set{st a:SortSt}(h:SG st a)(g:Nat):SG st (SortSt.mk' (kindOf a) (arrOf a) (pendingOf a) g (failedOf a)):=h
def SG.trans{s t u:SortSt}(h:SG s t)(k:SG t u):SG s u:=%[k.1.trans h.1,k.2.1.trans h.2.1,k.2.2.1.trans h.2.2.1|k.2.2.2.trans h.2.2.2]
structure LC (prog:Program) (w:World) (A:Around) (SI:Shared->Prop) (D:Keyed->Prop) (N:Keyed->Nat) (a b:ZY) (st:SortSt):Prop where
 c:Cmp prog w A SI (kindOf st) D N
 DA:∀{i:Nat} (hi:i<a.size),a[i]?∣a[i]/\D a[i]
 DB:∀{i:Nat} (hi:i<b.size),b[i]?∣b[i]/\D b[i]
def LC.of{prog:Program}{w:World}{A:Around}{d:Shared->Prop}{D:Keyed->Prop}{N:Keyed->Nat}{a b:ZY}{s t:SortSt}(C:LC prog w A d D N a b s)(h:SG s t):LC prog w A d D N a b t:={C with c:=h.1▸C.c}
section
variable{prog:Program}{w:World}{A:Around}{SI:Shared->Prop}{α β:Type}
structure ML (a b out:ZY) (ia ib:Nat):Prop where
 mi:MI a b out ia ib
 na:ia+1<a.size
 nb:ib<b.size
abbrev lo3(a b out:ZY)(c d g k k1:Nat):StateT SortSt Sem (ForInStep (Option ZY×ZY×Nat×Nat×Nat×Nat×Nat)):=elem' a c>>= λe=>if(c+1+1==a.size)=true then pure (.done (some (out.push e++b.extract d b.size++a.extract (c+1) a.size),out.push e,c+1,d,g,k,k1))else if(decide (k<7)&&decide (k1<7))=true then pure (.done (none,out.push e,c+1,d,g,k,k1))else pure (.yield (none,out.push e,c+1,d,g,k,k1))
abbrev lo2(a b out:ZY)(d c g k f:Nat):StateT SortSt Sem (ForInStep (Option ZY×ZY×Nat×Nat×Nat×Nat×Nat)):=elem' b c>>= λe=>if(c+1==b.size)=true then pure (.done (some (out.push e++a.extract d a.size++b.extract (c+1) b.size),out.push e,d,c+1,g,k,f))else elem' a d>>= λh=>fJ true h b (c+1) (b.size-(c+1)) 0>>= fun|some k1=>if k1>0 then if(c+1+k1==b.size)=true then pure (.done (some (out.push e++b.extract (c+1) (c+1+k1) ++a.extract d a.size++b.extract (c+1+k1) b.size),out.push e++b.extract (c+1) (c+1+k1),d,c+1+k1,g,k,k1))else lo3 a b (out.push e++b.extract (c+1) (c+1+k1)) d (c+1+k1) g k k1 else lo3 a b (out.push e) d (c+1) g k k1|_=>pure (.done (some (out.push e++a.extract d a.size++b.extract (c+1) b.size),out.push e,d,c+1,g,k,f))
abbrev lo1(a b out:ZY)(c d h f g:Nat):StateT SortSt Sem (ForInStep (Option ZY×ZY×Nat×Nat×Nat×Nat×Nat)):=dj g>>= λ_=>elem' b d>>= λe=>fJ false e a c (a.size-c) 0>>= fun|some k=>if k>0 then if(c+k+1==a.size)=true then pure (.done (some (out++a.extract c (c+k) ++b.extract d b.size++a.extract (c+k) a.size),out++a.extract c (c+k),c+k,d,g,k,f))else if(c+k==a.size)=true then pure (.done (some (out++a.extract c (c+k) ++a.extract (c+k) a.size++b.extract d b.size),out++a.extract c (c+k),c+k,d,g,k,f))else lo2 a b (out++a.extract c (c+k)) (c+k) d g k f else lo2 a b out c d g k f|_=>pure (.done (some (out++a.extract c a.size++b.extract d b.size),out,c,d,g,h,f))
abbrev loI(a b out:ZY)(c d g f h:Nat):StateT SortSt Sem (ForInStep (Option ZY×ZY×Nat×Nat×Nat×Nat)):=elem' b d>>= λi=>elem' a c>>= λj=>lt' i j>>= fun|some w=>if w=true then(elem' b d>>= λe=>if(d+1==b.size)=true then pure (.done (some (out.push e++a.extract c a.size++b.extract (d+1) b.size),out.push e,c,d+1,0,h+1))else if h+1>=g then pure (.done (none,out.push e,c,d+1,0,h+1))else pure (.yield (none,out.push e,c,d+1,0,h+1)))else(elem' a c>>= λe=>if(c+1+1==a.size)=true then pure (.done (some (out.push e++b.extract d b.size++a.extract (c+1) a.size),out.push e,c+1,d,f+1,0))else if f+1>=g then pure (.done (none,out.push e,c+1,d,f+1,0))else pure (.yield (none,out.push e,c+1,d,f+1,0)))|_=>pure (.done (some (out++a.extract c a.size++b.extract d b.size),out,c,d,f,h))
abbrev loG(a b:ZY):Option ZY×ZY×Nat×Nat×Nat×Nat×Nat->StateT SortSt Sem (ForInStep (Option ZY×ZY×Nat×Nat×Nat×Nat×Nat)):=λx=>
 if x.2.2.2.2.1>1 then lo1 a b x.2.1 x.2.2.1 x.2.2.2.1 x.2.2.2.2.2.1 x.2.2.2.2.2.2 (x.2.2.2.2.1-1)else lo1 a b x.2.1 x.2.2.1 x.2.2.2.1 x.2.2.2.2.2.1 x.2.2.2.2.2.2 x.2.2.2.2.1
abbrev loE(x:Option ZY×ZY×Nat×Nat×Nat×Nat×Nat):StateT SortSt Sem (ForInStep (Option ZY×ZY×Nat×Nat×Nat)):=
 match x.1 with
 | some r=>pure (.done (some r,x.2.1,x.2.2.1,x.2.2.2.1,x.2.2.2.2.1))
 | none=>do
   dj (x.2.2.2.2.1+1)
   pure (.yield (none,x.2.1,x.2.2.1,x.2.2.2.1,x.2.2.2.2.1+1))
abbrev loF(a b:ZY)(g:Nat)(x:Option ZY×ZY×Nat×Nat×Nat×Nat):StateT SortSt Sem (ForInStep (Option ZY×ZY×Nat×Nat×Nat)):=
 match x.1 with
 | some r=>pure (.done (some r,x.2.1,x.2.2.1,x.2.2.2.1,g))
 | none=>do
   rule "list.sort.gallop"
   let x<-forIn [0:a.size+b.size] (none,x.2.1,x.2.2.1,x.2.2.2.1,g+1,x.2.2.2.2.1,x.2.2.2.2.2) λ_ x=>loG a b x
   loE x
abbrev loO(a b:ZY):Option ZY×ZY×Nat×Nat×Nat->StateT SortSt Sem (ForInStep (Option ZY×ZY×Nat×Nat×Nat)):=λx=>do
 let y<-forIn [0:a.size+b.size] (none,x.2.1,x.2.2.1,x.2.2.2.1,0,0) λ_ y=>loI a b y.2.1 y.2.2.1 y.2.2.2.1 x.2.2.2.2 y.2.2.2.2.1 y.2.2.2.2.2
 loF a b x.2.2.2.2 y
abbrev loR(x:Option ZY×ZY×Nat×Nat×Nat):StateT SortSt Sem ZY:=
 match x.1 with
 | some r=>pure r
 | none=>unsupported "internal:list.sort.merge-bound"
set_option smartUnfolding false in
def Ic(a b:ZY):oh a b=(do
 rule "list.sort.merge-lo"
 let e<-elem' b 0
 if(1==b.size)=true then pure (#[e] ++a.extract 0 a.size++b.extract 1 b.size)
 else if(0+1==a.size)=true then pure (#[e] ++b.extract 1 b.size++a.extract 0 a.size)
 else do
  let s<-get
  let x<-forIn [0:a.size+b.size] (none,#[e],0,1,gallopOf s) λ_ x=>loO a b x
  loR x):=by
 rfl
variable{D:Keyed->Prop}{N:Keyed->Nat}{a b out:ZY}{ia ib g k bc z:Nat}{st:SortSt}
def aT{m n:Nat}(h: ¬(m==n)=true):m≠n:=λe=>h (by simp[e])
def BY{k1:Nat}{R:ForInStep _->SortSt->Prop}(C:LC prog w A SI D N a b st)(m:ML a b out ia ib)(d:z<=out.size+1)
 (e:∀r o,dF a b r->R (.done (some r,o)) st) (f:∀out ia ib g k k1,ML a b out ia ib->z<=out.size->R (.done (none,out,ia,ib,g,k,k1)) st/\R (.yield (none,out,ia,ib,g,k,k1)) st):(SC prog w A SI) (lo3 a b out ia ib g k k1) R st:=by
 have na:=m.na;refine au (bq (C.DA ⋯).1 ?_);have c:=m.mi.takeA 1;rw[hW ⋯]at c
 split
 .exact av (e _ _ c.last)
 .rename_i q
  have q:=aT q;have h:=f _ _ _ g k k1 %[c,⋯|m.nb] (by rw[Xl];exact d)
  split
  .exact av h.1
  .exact av h.2
def BZ{R:ForInStep (Option ZY×ZY×Nat×Nat×Nat×Nat×Nat)->SortSt->Prop}(C:LC prog w A SI D N a b st)(m:ML a b out ia ib)(p:z<=out.size+2)
 (c:∀r o,dF a b r->R (.done (some r,o)) st) (e:∀out ia ib g k k1,ML a b out ia ib->z<=out.size->R (.done (none,out,ia,ib,g,k,k1)) st/\R (.yield (none,out,ia,ib,g,k,k1)) st):(SC prog w A SI) (lo2 a b out ia ib g k bc) R st:=by
 have%[l,na|nb]:=m;refine au (bq (C.DB nb).1 ?_);have d:=l.takeB 1;rw[hW nb]at d
 split
 .exact av (c _ _ d.done)
 .rename_i q
  have q:=aT q;have f:=C.DA (show ia<_ by lia);refine au (bq f.1 (au (eM C.c f.2 (λi hi=>%[_|C.DB ⋯]) ⋯ λk2 n=>?_)));dsimp only
  split
  .have h:=d.takeB k2
   split
   .exact av (c _ _ h.done)
   .rename_i j
    have j:=aT j;exact BY C %[h,na|⋯] (by simp;lia) c e
  .exact BY C %[d,na|⋯] (by rw[Xl];lia) c e
def GO{l:Nat}{R:ForInStep (Option ZY×ZY×Nat×Nat×Nat×Nat×Nat)->SortSt->Prop}(C:LC prog w A SI D N a b st)(m:ML a b out ia ib)(n:z<=out.size+2)
 (d:∀c r o,SG st c->dF a b r->R (.done (some r,o)) c) (e:∀c out ia ib g k k1,SG st c->ML a b out ia ib->z<=out.size->R (.done (none,out,ia,ib,g,k,k1)) c/\R (.yield (none,out,ia,ib,g,k,k1)) c):(SC prog w A SI) (lo1 a b out ia ib l bc g) R st:=by
 have na:=m.na;have f:=C.DB m.nb;unfold lo1;rw[gH];refine au (bW ?_);have sg:=(SG.refl st).set g;have d:=λr o=>d _ r o sg
 have e:=λout ia ib g k k1=>e _ out ia ib g k k1 sg
 have C:=C.of sg;refine au (bq f.1 (au (eM C.c f.2 (λi hi=>%[_|C.DA ⋯]) ⋯ λk p=>?_)));dsimp only
 split
 .have mk:=m.mi.takeA k
  split
  .exact av (d _ _ mk.last)
  .rename_i h
   have h:=aT h
   split
   .exact av (d _ _ mk.done)
   .rename_i j
    have j:=aT j;exact BZ C %[mk,⋯|m.nb] (by simp;lia) d e
 .exact BZ C m n d e
def GP{c:Nat}{R:ForInStep (Option ZY×ZY×Nat×Nat×Nat×Nat)->SortSt->Prop}(C:LC prog w A SI D N a b st)(m:ML a b out ia ib)(f:z<=out.size+1)
 (i:∀r o,dF a b r->R (.done (some r,o)) st) (j:∀out ia ib c bc,ML a b out ia ib->z<=out.size->R (.done (none,out,ia,ib,c,bc)) st/\R (.yield (none,out,ia,ib,c,bc)) st):(SC prog w A SI) (loI a b out ia ib g c bc) R st:=by
 have%[l,na|nb]:=m;have d:=C.DA (show ia<_ by lia);have e:=C.DB nb;refine au (bq e.1 (au (bq d.1 (au (uX C.c e.2 d.2 ?_)))));dsimp only
 split
 .refine au (bq e.1 ?_);have m2:=l.takeB 1;rw[hW nb]at m2
  split
  .exact av (i _ _ m2.done)
  .rename_i q
   have q:=aT q;have h:=j _ _ _ 0 (bc+1) %[m2,na|⋯] (by rw[Xl];exact f)
   split
   .exact av h.1
   .exact av h.2
 .refine au (bq d.1 ?_);have m2:=l.takeA 1;rw[hW ⋯]at m2
  split
  .exact av (i _ _ m2.last)
  .rename_i q
   have q:=aT q;have h:=j _ _ _ (c+1) 0 %[m2,⋯|nb] (by rw[Xl];exact f)
   split
   .exact av h.1
   .exact av h.2
def GQ{j:Nat}{q:Option ZY}{R:ForInStep (Option ZY×ZY×Nat×Nat×Nat)->SortSt->Prop}(C:LC prog w A SI D N a b st)(m:ML a b out ia ib)(e:j+1<=out.size)
 (p:∀d r o,SG st d->dF a b r->R (.done (some r,o)) d) (s:∀d out ia ib g,SG st d->ML a b out ia ib->j+2<=out.size->R (.yield (none,out,ia,ib,g)) d):(SC prog w A SI) (loO a b (q,out,ia,ib,g)) R st:=by
 have u:=m.na;refine au (bS (bG (Q:=λx d=>SG st d/\((∃r o,x=(some r,o)/\dF a b r)\/∃out ia ib f bc,x=(none,out,ia,ib,f,bc)/\ML a b out ia ib/\j+2<=out.size))
  (λj2 x d=>SG st d/\∃out ia ib f bc,x=(none,out,ia,ib,f,bc)/\ML a b out ia ib/\j+1+j2<=out.size) (Xh _) %[SG.refl _,_,_,_,_,_,rfl,m|e] ?_ ?_) ?_)
 .intro j2 x i _ l %[c,out,ia,ib,f,bc,rfl,m|e];exact GP (C.of c) m ⋯ (λr o h=>%[c|.inl %[r,o,rfl|h]]) λout ia ib f bc h z=>%[%[c|.inr %[_,_,_,_,_,rfl,h|⋯]],c,_,_,_,_,_,rfl,h|z]
 .intro x i %[c,out,ia,ib,f,bc,rfl,m|e];exact%[c|.inr %[_,_,_,_,_,ρ,m|⋯]]
 .rintro x i ⟨c,⟨r,o,rfl,n⟩|⟨out,ia,ib,f,bc,rfl,m,e⟩⟩
  .exact av (p _ r _ c n)
  .refine au (hV ?_);refine au (bS (bG (Q:=λx d=>SG st d/\((∃r o,x=(some r,o)/\dF a b r)\/∃out ia ib g f bc,x=(none,out,ia,ib,g,f,bc)/\ML a b out ia ib/\j+2<=out.size))
    (λj2 x d=>SG st d/\∃out ia ib g f bc,x=(none,out,ia,ib,g,f,bc)/\ML a b out ia ib/\j+2<=out.size) (Xh _) %[c,_,_,_,_,_,_,rfl,m|e] ?_ ?_) ?_)
   .intro j2 x i _ l %[c,out,ia,ib,g,f,bc,rfl,m|e];unfold loG;rw[<-apply_ite _];exact GO (C.of c) m ⋯ (λd r o sg h=>%[SG.trans c sg|.inl %[r,o,rfl|h]]) λd out ia ib g k k1 sg h z=>%[%[SG.trans c sg|.inr %[_,_,_,_,_,_,rfl,h|z]],SG.trans c sg,_,_,_,_,_,_,rfl,h|z]
   .simp_all
   .rintro x i ⟨c,⟨r,o,rfl,n⟩|⟨out,ia,ib,g,f,bc,rfl,m,e⟩⟩
    .exact av (p _ r _ c n)
    .exact au (bW (av (s _ _ _ _ _ (c.set _) m e)))
def xj{Q:ZY->SortSt->Prop}(C:LC prog w A SI D N a b st)(v:1<=a.size)(l:1<=b.size)(h:∀r c,SG st c->dF a b r->Q r c):(SC prog w A SI) (oh a b) Q st:=by
 rw[Ic];refine au (hV (au (bq (C.DB l).1 ?_)));have i:=(show MI a b #[] 0 0 from List.Perm.refl _).takeB 1;rw[hW l]at i
 split
 .exact av (h _ st (SG.refl _) i.done)
 rename_i n
 have n:=aT n
 split
 .exact av (h _ st (SG.refl _) i.last)
 rename_i p
 have p:=aT p;refine au (dB ?_);refine au (bS (bG (Q:=λx c=>SG st c/\∃r,x.1∣r/\dF a b r)
  (λj x c=>SG st c/\∃out ia ib g,x=(none,out,ia,ib,g)/\ML a b out ia ib/\j+1<=out.size) (Xh _) %[SG.refl _,_,_,_,_,rfl,%[i,⋯|⋯]|Zi _] ?_ ?_) ?_)
 .intro j x d _ y %[sg,out,ia,ib,g,rfl,m|f];exact GQ (C.of sg) m f (λc r o e h=>%[SG.trans sg e,r,rfl|h]) λc out ia ib g e h z=>%[SG.trans sg e,_,_,_,_,rfl,h|z]
 .intro x d %[sg,out,ia,ib,g,rfl,m|f];have:=m.na;have q:=m.mi.length_eq;simp only[Z9,Zb,Yh]at q
  lia
 .rintro⟨B,x2⟩ d ⟨sg,r,s,u⟩;subst s;exact av (h r d sg u)
end
abbrev MH(a b out:ZY)(na nb:Nat):Prop:=(b.toList.take nb++(a.toList.take na++out.reverse.toList)).Perm (a.toList++b.toList)
def yj(a out:ZY){k n:Nat}(h:k<=n):a.toList.take k++(out++(a.extract k n).reverse).reverse.toList=a.toList.take n++out.reverse.toList:=by
 rw[Array.reverse_append,Array.reverse_reverse,Xg,e9,<-Ze,<-List.take_add,Nat.add_sub_cancel' h]
def MH.takeA{a b out:ZY}{na nb k:Nat}(h:MH a b out na nb)(c:k<=na):MH a b (out++(a.extract k na).reverse) k nb:=by
 unfold MH;rw[yj _ _ c];exact h
def MH.takeB{a b out:ZY}{na nb k:Nat}(h:MH a b out na nb)(c:k<=nb):MH a b (out++(b.extract k nb).reverse) na k:=by
 refine(List.perm_append_comm_assoc _ _ _).trans ?_;rw[yj _ _ c];exact(List.perm_append_comm_assoc _ _ _).trans h
def iT{a:ZY}{i:Nat}(h:i<a.size)(out:ZY):out++(a.extract i (i+1)).reverse=out.push a[i]:=by
 rw[<-hW h,<-Array.empty_append (xs:=a.extract i (i+1)),hW h];rfl
def MH.first{a b out:ZY}{na nb:Nat}(h:MH a b out na nb):dF a b (b.extract 0 nb++a.extract 0 na++out.reverse):=by
 unfold dF;rw[Xg,Xg,e9,e9,Ze];exact h
def MH.done{a b out:ZY}{na nb:Nat}(h:MH a b out na nb):dF a b (a.extract 0 na++b.extract 0 nb++out.reverse):=by
 unfold dF;rw[Xg,Xg,e9,e9,Ze];exact(List.perm_append_comm_assoc _ _ _).trans h
section
variable{prog:Program}{w:World}{A:Around}{SI:Shared->Prop}{α β:Type}
structure MHS (a b out:ZY) (na nb:Nat):Prop where
 mh:MH a b out na nb
 pa:1<=na
 pb:2<=nb
 ma:na<=a.size
 mb:nb<=b.size
abbrev hi3(a b:ZY)(na nb:Nat)(out:ZY)(g k k1:Nat):StateT SortSt Sem (ForInStep (Option ZY×Nat×Nat×ZY×Nat×Nat×Nat)):=elem' a (na-1)>>= λe=>if(na-1==0)=true then pure (.done (some (a.extract 0 (na-1) ++b.extract 0 nb++(out.push e).reverse),na-1,nb,out.push e,g,k,k1))else if(decide (k<7)&&decide (k1<7))=true then pure (.done (none,na-1,nb,out.push e,g,k,k1))else pure (.yield (none,na-1,nb,out.push e,g,k,k1))
abbrev hi2(a b:ZY)(na nb:Nat)(out:ZY)(g k c:Nat):StateT SortSt Sem (ForInStep (Option ZY×Nat×Nat×ZY×Nat×Nat×Nat)):=elem' b (nb-1)>>= λe=>if(nb-1==1)=true then pure (.done (some (b.extract 0 (nb-1) ++a.extract 0 na++(out.push e).reverse),na,nb-1,out.push e,g,k,c))else elem' a (na-1)>>= λd=>fJ true d b 0 (nb-1) (nb-1-1)>>= fun|some k1=>if nb-1-k1>0 then if(k1==1)=true then pure (.done (some (b.extract 0 k1++a.extract 0 na++(out.push e++(b.extract k1 (nb-1)).reverse).reverse),na,k1,out.push e++(b.extract k1 (nb-1)).reverse,g,k,nb-1-k1))else if(k1==0)=true then pure (.done (some (a.extract 0 na++b.extract 0 k1++(out.push e++(b.extract k1 (nb-1)).reverse).reverse),na,k1,out.push e++(b.extract k1 (nb-1)).reverse,g,k,nb-1-k1))else hi3 a b na k1 (out.push e++(b.extract k1 (nb-1)).reverse) g k (nb-1-k1)else hi3 a b na (nb-1) (out.push e) g k (nb-1-k1)|_=>pure (.done (some (a.extract 0 na++b.extract 0 (nb-1) ++(out.push e).reverse),na,nb-1,out.push e,g,k,c))
abbrev hi1(a b:ZY)(na nb:Nat)(out:ZY)(d c g:Nat):StateT SortSt Sem (ForInStep (Option ZY×Nat×Nat×ZY×Nat×Nat×Nat)):=dj g>>= λ_=>elem' b (nb-1)>>= λe=>fJ false e a 0 na (na-1)>>= fun|some k=>if na-k>0 then if(k==0)=true then pure (.done (some (a.extract 0 k++b.extract 0 nb++(out++(a.extract k na).reverse).reverse),k,nb,out++(a.extract k na).reverse,g,na-k,c))else hi2 a b k nb (out++(a.extract k na).reverse) g (na-k) c else hi2 a b na nb out g (na-k) c|_=>pure (.done (some (a.extract 0 na++b.extract 0 nb++out.reverse),na,nb,out,g,d,c))
abbrev hiI(a b:ZY)(na nb:Nat)(out:ZY)(g c d:Nat):StateT SortSt Sem (ForInStep (Option ZY×Nat×Nat×ZY×Nat×Nat)):=elem' b (nb-1)>>= λf=>elem' a (na-1)>>= λh=>lt' f h>>= fun|some w=>if w=true then(elem' a (na-1)>>= λe=>if(na-1==0)=true then pure (.done (some (a.extract 0 (na-1) ++b.extract 0 nb++(out.push e).reverse),na-1,nb,out.push e,c+1,0))else if c+1>=g then pure (.done (none,na-1,nb,out.push e,c+1,0))else pure (.yield (none,na-1,nb,out.push e,c+1,0)))else(elem' b (nb-1)>>= λe=>if(nb-1==1)=true then pure (.done (some (b.extract 0 (nb-1) ++a.extract 0 na++(out.push e).reverse),na,nb-1,out.push e,0,d+1))else if d+1>=g then pure (.done (none,na,nb-1,out.push e,0,d+1))else pure (.yield (none,na,nb-1,out.push e,0,d+1)))|_=>pure (.done (some (a.extract 0 na++b.extract 0 nb++out.reverse),na,nb,out,c,d))
abbrev hiG(a b:ZY)(x:Option ZY×Nat×Nat×ZY×Nat×Nat×Nat):StateT SortSt Sem (ForInStep (Option ZY×Nat×Nat×ZY×Nat×Nat×Nat)):=
 if x.2.2.2.2.1>1 then hi1 a b x.2.1 x.2.2.1 x.2.2.2.1 x.2.2.2.2.2.1 x.2.2.2.2.2.2 (x.2.2.2.2.1-1)else hi1 a b x.2.1 x.2.2.1 x.2.2.2.1 x.2.2.2.2.2.1 x.2.2.2.2.2.2 x.2.2.2.2.1
abbrev hiE(x:Option ZY×Nat×Nat×ZY×Nat×Nat×Nat):StateT SortSt Sem (ForInStep (Option ZY×Nat×Nat×ZY×Nat)):=
 match x.1 with
 | some r=>pure (.done (some r,x.2.1,x.2.2.1,x.2.2.2.1,x.2.2.2.2.1))
 | none=>do
   dj (x.2.2.2.2.1+1)
   pure (.yield (none,x.2.1,x.2.2.1,x.2.2.2.1,x.2.2.2.2.1+1))
abbrev hiF(a b:ZY)(g:Nat)(x:Option ZY×Nat×Nat×ZY×Nat×Nat):StateT SortSt Sem (ForInStep (Option ZY×Nat×Nat×ZY×Nat)):=
 match x.1 with
 | some r=>pure (.done (some r,x.2.1,x.2.2.1,x.2.2.2.1,g))
 | none=>do
   rule "list.sort.gallop"
   let x<-forIn [0:a.size+b.size] (none,x.2.1,x.2.2.1,x.2.2.2.1,g+1,x.2.2.2.2.1,x.2.2.2.2.2) λ_ x=>hiG a b x
   hiE x
abbrev hiO(a b:ZY)(x:Option ZY×Nat×Nat×ZY×Nat):StateT SortSt Sem (ForInStep (Option ZY×Nat×Nat×ZY×Nat)):=do
 let y<-forIn [0:a.size+b.size] (none,x.2.1,x.2.2.1,x.2.2.2.1,0,0) λ_ y=>hiI a b y.2.1 y.2.2.1 y.2.2.2.1 x.2.2.2.2 y.2.2.2.2.1 y.2.2.2.2.2
 hiF a b x.2.2.2.2 y
abbrev hiR(x:Option ZY×Nat×Nat×ZY×Nat):StateT SortSt Sem ZY:=
 match x.1 with
 | some r=>pure r
 | none=>unsupported "internal:list.sort.merge-bound"
set_option smartUnfolding false in
def Ie(a b:ZY):oi a b=(do
 rule "list.sort.merge-hi"
 let e<-elem' a (a.size-1)
 if(a.size-1==0)=true then pure (a.extract 0 (a.size-1) ++b.extract 0 b.size++ #[e].reverse)
 else if(b.size==1)=true then pure (b.extract 0 b.size++a.extract 0 (a.size-1) ++ #[e].reverse)
 else do
  let s<-get
  let x<-forIn [0:a.size+b.size] (none,a.size-1,b.size,#[e],gallopOf s) λ_ x=>hiO a b x
  hiR x):=by
 rfl
variable{D:Keyed->Prop}{N:Keyed->Nat}{a b out:ZY}{na nb g k bc z:Nat}{st:SortSt}
def B0{k1:Nat}{R:ForInStep _->SortSt->Prop}(C:LC prog w A SI D N a b st)(m:MHS a b out (na+1) nb)(d:z<=out.size+1)
 (e:∀r o,dF a b r->R (.done (some r,o)) st) (f:∀na nb out g k k1,MHS a b out na nb->z<=out.size->R (.done (none,na,nb,out,g,k,k1)) st/\R (.yield (none,na,nb,out,g,k,k1)) st):(SC prog w A SI) (hi3 a b (na+1) nb out g k k1) R st:=by
 have%[j,p,l,s|n]:=m;refine au (bq (C.DA (i:=na) ⋯).1 ?_);have c:=j.takeA (Yf na);rw[iT ⋯]at c
 split
 .exact av (e _ _ c.done)
 rename_i q
 have q:=aT q;have h:=f _ _ _ g k k1 %[c,⋯,l,⋯|n] (by rw[Xl];exact d)
 split
 .exact av h.1
 .exact av h.2
def B1{R:ForInStep (Option ZY×Nat×Nat×ZY×Nat×Nat×Nat)->SortSt->Prop}(C:LC prog w A SI D N a b st)(m:MHS a b out (na+1) (nb+1))(v:z<=out.size+2)
 (c:∀r o,dF a b r->R (.done (some r,o)) st) (h:∀na nb out g k k1,MHS a b out na nb->z<=out.size->R (.done (none,na,nb,out,g,k,k1)) st/\R (.yield (none,na,nb,out,g,k,k1)) st):(SC prog w A SI) (hi2 a b (na+1) (nb+1) out g k bc) R st:=by
 have%[u,j,y,l|B]:=m;have n:=C.DA (i:=na) ⋯;unfold hi2;rw[add_sub_cancel,add_sub_cancel];refine au (bq (C.DB (i:=nb) ⋯).1 ?_);have d:=u.takeB (Yf nb);rw[iT ⋯]at d
 split
 .exact av (c _ _ d.first)
 rename_i q
 have q:=aT q;refine au (bq n.1 (au (eM C.c n.2 (λi hi=>%[_|C.DB ⋯]) ⋯ λk2 e=>?_)));dsimp only;have f:=d.takeB e
 split
 .split
  .exact av (c _ _ f.first)
  rename_i p
  have p:=aT p
  split
  .exact av (c _ _ f.done)
  rename_i s
  have s:=aT s;exact B0 C %[f,j,⋯,l|⋯] (by simp;lia) c h
 .exact B0 C %[d,j,⋯,l|⋯] (by rw[Xl];lia) c h
def GR{p:Nat}{R:ForInStep (Option ZY×Nat×Nat×ZY×Nat×Nat×Nat)->SortSt->Prop}(C:LC prog w A SI D N a b st)(m:MHS a b out na nb)(s:z<=out.size+2)
 (d:∀c r o,SG st c->dF a b r->R (.done (some r,o)) c) (e:∀c na nb out g k k1,SG st c->MHS a b out na nb->z<=out.size->R (.done (none,na,nb,out,g,k,k1)) c/\R (.yield (none,na,nb,out,g,k,k1)) c):(SC prog w A SI) (hi1 a b na nb out p bc g) R st:=by
 have%[f,u,h,v|j]:=m;obtain⟨nb,rfl⟩:∃n,nb=n+1:=%[nb-1|⋯]
 have l:=C.DB (i:=nb) ⋯;unfold hi1;rw[add_sub_cancel,gH];refine au (bW ?_);have sg:=(SG.refl st).set g;have d:=λr o=>d _ r o sg
 have e:=λna nb out g k k1=>e _ na nb out g k k1 sg
 have C:=C.of sg;refine au (bq l.1 (au (eM C.c l.2 (λi hi=>%[_|C.DA ⋯]) ⋯ λk y=>?_)));dsimp only
 split
 .have mk:=f.takeA y
  split
  .exact av (d _ _ mk.done)
  rename_i q
  have q:=aT q;obtain⟨k,rfl⟩:∃n,k=n+1:=%[k-1|⋯]
  exact B1 C %[mk,⋯,h,⋯|j] (by simp;lia) d e
 .obtain⟨na,rfl⟩:∃n,na=n+1:=%[na-1|⋯]
  exact B1 C %[f,u,h,v|j] s d e
def GS{c:Nat}{R:ForInStep (Option ZY×Nat×Nat×ZY×Nat×Nat)->SortSt->Prop}(C:LC prog w A SI D N a b st)(m:MHS a b out na nb)(f:z<=out.size+1)
 (j:∀r o,dF a b r->R (.done (some r,o)) st) (l:∀na nb out c bc,MHS a b out na nb->z<=out.size->R (.done (none,na,nb,out,c,bc)) st/\R (.yield (none,na,nb,out,c,bc)) st):(SC prog w A SI) (hiI a b na nb out g c bc) R st:=by
 have%[p,s,u,v|y]:=m;obtain⟨na,rfl⟩:∃n,na=n+1:=%[na-1|⋯]
 obtain⟨nb,rfl⟩:∃n,nb=n+1:=%[nb-1|⋯]
 have d:=C.DA (i:=na) ⋯;have e:=C.DB (i:=nb) ⋯;unfold hiI;rw[add_sub_cancel,add_sub_cancel];refine au (bq e.1 (au (bq d.1 (au (uX C.c e.2 d.2 ?_)))));dsimp only
 split
 .refine au (bq d.1 ?_);have m2:=p.takeA (Yf na);rw[iT ⋯]at m2
  split
  .exact av (j _ _ m2.done)
  rename_i q
  have q:=aT q;have h:=l _ _ _ (c+1) 0 %[m2,⋯,u,⋯|y] (by rw[Xl];exact f)
  split
  .exact av h.1
  .exact av h.2
 .refine au (bq e.1 ?_);have m2:=p.takeB (Yf nb);rw[iT ⋯]at m2
  split
  .exact av (j _ _ m2.first)
  rename_i q
  have q:=aT q;have h:=l _ _ _ 0 (bc+1) %[m2,s,⋯,v|⋯] (by rw[Xl];exact f)
  split
  .exact av h.1
  .exact av h.2
def GT{j:Nat}{q:Option ZY}{R:ForInStep (Option ZY×Nat×Nat×ZY×Nat)->SortSt->Prop}(C:LC prog w A SI D N a b st)(m:MHS a b out na nb)(e:j+1<=out.size)
 (p:∀d r o,SG st d->dF a b r->R (.done (some r,o)) d) (s:∀d na nb out g,SG st d->MHS a b out na nb->j+2<=out.size->R (.yield (none,na,nb,out,g)) d):(SC prog w A SI) (hiO a b (q,na,nb,out,g)) R st:=by
 have u:=m.pa;have v:=m.ma;refine au (bS (bG (Q:=λx d=>SG st d/\((∃r o,x=(some r,o)/\dF a b r)\/∃na nb out f bc,x=(none,na,nb,out,f,bc)/\MHS a b out na nb/\j+2<=out.size))
  (λj2 x d=>SG st d/\∃na nb out f bc,x=(none,na,nb,out,f,bc)/\MHS a b out na nb/\j+1+j2<=out.size) (Xh _) %[SG.refl _,_,_,_,_,_,rfl,m|e] ?_ ?_) ?_)
 .intro j2 x i _ l %[c,na,nb,out,f,bc,rfl,m|e];exact GS (C.of c) m ⋯ (λr o h=>%[c|.inl %[r,o,rfl|h]]) λna nb out f bc h z=>%[%[c|.inr %[_,_,_,_,_,rfl,h|⋯]],c,_,_,_,_,_,rfl,h|z]
 .intro x i %[c,na,nb,out,f,bc,rfl,m|e];exact%[c|.inr %[_,_,_,_,_,ρ,m|⋯]]
 .rintro x i ⟨c,⟨r,o,rfl,n⟩|⟨na,nb,out,f,bc,rfl,m,e⟩⟩
  .exact av (p _ r _ c n)
  .refine au (hV ?_);refine au (bS (bG (Q:=λx d=>SG st d/\((∃r o,x=(some r,o)/\dF a b r)\/∃na nb out g f bc,x=(none,na,nb,out,g,f,bc)/\MHS a b out na nb/\j+2<=out.size))
    (λj2 x d=>SG st d/\∃na nb out g f bc,x=(none,na,nb,out,g,f,bc)/\MHS a b out na nb/\j+2<=out.size) (Xh _) %[c,_,_,_,_,_,_,rfl,m|e] ?_ ?_) ?_)
   .intro j2 x i _ l %[c,na,nb,out,g,f,bc,rfl,m|e];unfold hiG;rw[<-apply_ite _];exact GR (C.of c) m ⋯ (λd r o sg h=>%[SG.trans c sg|.inl %[r,o,rfl|h]]) λd na nb out g k k1 sg h z=>%[%[SG.trans c sg|.inr %[_,_,_,_,_,_,rfl,h|z]],SG.trans c sg,_,_,_,_,_,_,rfl,h|z]
   .simp_all
   .rintro x i ⟨c,⟨r,o,rfl,n⟩|⟨na,nb,out,g,f,bc,rfl,m,e⟩⟩
    .exact av (p _ r _ c n)
    .exact au (bW (av (s _ _ _ _ _ (c.set _) m e)))
def xk{Q:ZY->SortSt->Prop}(C:LC prog w A SI D N a b st)(E:1<=a.size)(G:1<=b.size)(h:∀r c,SG st c->dF a b r->Q r c):(SC prog w A SI) (oi a b) Q st:=by
 rw[Ie];obtain⟨f,p⟩:∃f,a.size=f+1:=%[a.size-1|⋯]
 rw[show a.size-1=f by lia];refine au (hV (au (bq (C.DA (i:=f) ⋯).1 ?_)));have n:=(show MH a b #[] (f+1) b.size by
  unfold MH;rw[<-p,<-Zb,<-Zb,Xf,Xf];simpa using List.perm_append_comm).takeA (Yf f)
 rw[iT ⋯]at n
 split
 .exact av (h _ st (SG.refl _) n.done)
 rename_i s
 have s:=aT s
 split
 .exact av (h _ st (SG.refl _) n.first)
 rename_i u
 have u:=aT u;refine au (dB ?_);refine au (bS (bG (Q:=λx c=>SG st c/\∃r,x.1∣r/\dF a b r)
  (λj x c=>SG st c/\∃na nb out g,x=(none,na,nb,out,g)/\MHS a b out na nb/\j+1<=out.size) (Xh _) %[SG.refl _,_,_,_,_,rfl,%[n,⋯,⋯,⋯|⋯]|Zi _] ?_ ?_) ?_)
 .intro j x d _ H %[sg,na,nb,out,g,rfl,m|l];exact GT (C.of sg) m l (λc r o e h=>%[SG.trans sg e,r,rfl|h]) λc na nb out g e h z=>%[SG.trans sg e,_,_,_,_,rfl,h|z]
 .intro x d %[sg,na,nb,out,g,rfl,m|l];have%[v,I,J,L|M]:=m;have q:=v.length_eq;simp only[Z9,Yl,Zb,Array.size_reverse]at q
  lia
 .rintro⟨O,x2⟩ d ⟨sg,r,y,B⟩;subst y;exact av (h r d sg B)
end
def uY(i:Nat):mergeAt' i=(do
 let s<-get
 let(some (b,na,c),some (d,nb,_)):=((pendingOf s)[i]?,(pendingOf s)[i+1]?)|unsupported "internal:list.sort.pending"
 set (setPending s (((pendingOf s).setIfInBounds i (b,na+nb,c)).eraseIdxIfInBounds (i+1)))
 let some k<-fJ false (<-elem' (arrOf s) d) (arrOf s) b na 0|return false
 let(b,na):=(b+k,na-k)
 if na==0 then return true
 let some nb<-fJ true (<-elem' (arrOf s) (b+na-1)) (arrOf s) d nb (nb-1)|return false
 if nb==0 then return true
 let x:=(arrOf s).extract b d
 let y:=(arrOf s).extract d (d+nb)
 let merged<-if na<=nb then oh x y else oi x y
 modify λs=>setArr s (merged.toList.zipIdx.foldl (λa (p,j)=>a.setIfInBounds (b+j) p) (arrOf s))
 return (failedOf (<-get)).isNone):=rfl
def uZ:∀m c o (a:ZY),o+c+ ~~~m<=a.size->
 ((m.zipIdx c).foldl (λa p=>a.setIfInBounds (o+p.2) p.1) a).toList=a.toList.take (o+c) ++m++a.toList.drop (o+c+ ~~~m)
 |[],c,o,a,_=>by simp
 | x::m,c,o,a,h=>by
   rw[List.zipIdx_cons,Y9];rw[Zr]at h;rw[uZ m _ o _ (by rw[Array.size_setIfInBounds];lia),Array.toList_setIfInBounds];have b:o+c< ~~~a.toList:=by rw[Zb];lia
   rw[Zr,List.take_set,List.drop_set];rw[show o+(c+1)=o+c+1 by lia,show o+c+1+ ~~~m=o+c+(~~~m+1) by lia];have e:(a.toList.take (o+c+1)).set (o+c) x=a.toList.take (o+c) ++[x]:=by
    rw[List.take_succ_eq_append_getElem b];rw[List.set_append_right _ _ (by rw[Yl];lia)];rw[Yl,min_eq_left ⋯,sub_self];rfl
   rw[e];simp
section
variable{prog:Program}{w:World}{A:Around}{SI:Shared->Prop}{α β:Type}
def xo{D:Keyed->Prop}{N:Keyed->Nat}{i p J:Nat}{b X Y L2:List Keyed}{Q:Bool->SortSt->Prop}{st:SortSt}(c:Cmp prog w A SI (kindOf st) D N)(e:(arrOf st).toList=b++X++Y++L2)(L:X≠[])(M:Y≠[])
 (d:∀x∈(arrOf st).toList,D x) (O:(pendingOf st)[i]?∣(~~~b,~~~X,p)) (q:(pendingOf st)[i+1]?∣(~~~b+ ~~~X,~~~Y,J)) (z:failedOf st=none)
 (h:∀Z g,Z.Perm (X++Y)->(arrOf g).toList=b++Z++L2->kindOf g=kindOf st->failedOf g=none->pendingOf g=((pendingOf st).setIfInBounds i (~~~b,~~~X+ ~~~Y,p)).eraseIdxIfInBounds (i+1)->Q true g):(SC prog w A SI) (mergeAt' i) Q st:=by
 have T:0< ~~~X:=length_pos_iff.mpr L;have lY:0< ~~~Y:=length_pos_iff.mpr M;have sz:(arrOf st).size= ~~~b+ ~~~X+ ~~~Y+ ~~~L2:=by
  rw[<-Zb,e];simp only[Z9]
 have l:∀i,i<(arrOf st).size->∃x,(arrOf st)[i]?∣x/\D x:=λi hi=>%[(arrOf st)[i],by simp|d _ ∅]
 have sub:∀(u v i:Nat) (hi:i<((arrOf st).extract u v).size),((arrOf st).extract u v)[i]?∣((arrOf st).extract u v)[i]/\D ((arrOf st).extract u v)[i]:=λu v i hi=>%[Array.getElem?_eq_getElem hi|by rw[Array.getElem_extract];exact d _ ∅]
 rw[uY];refine au (dB ?_);rw[O,q];dsimp only;have%[y,U|dy]:=l (~~~b+ ~~~X) ⋯;refine au (GN (au (bq U (au (eM c dy (λi hi=>l _ ⋯) T λk hk=>?_)))));dsimp only
 split
 .exact av (h (X++Y) _ (List.Perm.refl _) (by show(arrOf st).toList=_;rw[e];simp) rfl z rfl)
 rename_i C
 have C:=aT C;have%[x,hx|dx]:=l (~~~b+k+(~~~X-k) -1) ⋯;refine au (bq hx (au (eM c dx (λi hi=>l _ ⋯) ⋯ λk2 B=>?_)));dsimp only
 split
 .exact av (h (X++Y) _ (List.Perm.refl _) (by show(arrOf st).toList=_;rw[e];simp) rfl z rfl)
 rename_i E
 have E:=aT E;have ex:((arrOf st).extract (~~~b+k) (~~~b+ ~~~X)).toList=X.drop k:=by
  rw[e9,e,Ze,Ze,List.drop_append,List.drop_of_length_le ⋯,nil_append,Nat.add_sub_cancel_left,List.drop_append_of_le_length ⋯,Xe (by rw[Yh];lia),Zn (by rw[Yh];lia)]
 have G:((arrOf st).extract (~~~b+ ~~~X) (~~~b+ ~~~X+k2)).toList=Y.take k2:=by
  rw[nB,e,Ze,List.drop_append,List.drop_of_length_le (by rw[Z9];lia),nil_append,Z9,sub_self,drop_zero,Xe ⋯]
 have sx:=congrArg List.length ex;have sy:=congrArg List.length G;rw[Zb,Yh]at sx;rw[Zb,Yl]at sy;have H:∀(r:ZY) (f:SortSt),SG (setPending st (((pendingOf st).setIfInBounds i (~~~b,~~~X+ ~~~Y,p)).eraseIdxIfInBounds (i+1))) f->dF ((arrOf st).extract (~~~b+k) (~~~b+ ~~~X)) ((arrOf st).extract (~~~b+ ~~~X) (~~~b+ ~~~X+k2)) r->
  (SC prog w A SI) (do modify (λs=>setArr s (r.toList.zipIdx.foldl (λa (p,j)=>a.setIfInBounds (~~~b+k+j) p) (arrOf s)));let x<-get;pure (failedOf x).isNone) Q f:=λr f sg o=>by
  unfold dF at o;rw[ex,G]at o;refine au (bW (au (dB (av ?_))));have m:failedOf f=none:=by rw[sg.2.2.2];exact z
  show Q (failedOf f).isNone _;rw[m];have I: ~~~r.toList=(~~~X-k) +k2:=by
   rw[o.length_eq,Z9,Yh,Yl,min_eq_left B]
  refine h (X.take k++r.toList++Y.drop k2) _ ?_ ?_ sg.1 m sg.2.2.1
  .refine(List.Perm.append_right _ (List.Perm.append_left _ o)).trans ?_;rw[<-Ze,Xd,Ze,Xd]
  .show(setArr f _|>arrOf).toList=_;have n:arrOf f=arrOf st:=sg.2.1;show((r.toList.zipIdx).foldl (λ(a:ZY) (p:Keyed×Nat)=>a.setIfInBounds (~~~b+k+p.2) p.1) (arrOf f)).toList=_;rw[uZ _ 0 _ _ (by rw[I,n,sz];lia),n,e,I];have t1:(b++X++Y++L2).take (~~~b+k+0)=b++X.take k:=by
    rw[add_zero,Ze,Ze,List.take_append,Zn ⋯,Nat.add_sub_cancel_left,Xe ⋯]
   have t2:(b++X++Y++L2).drop (~~~b+k+0+(~~~X-k+k2))=Y.drop k2++L2:=by
    rw[show ~~~b+k+0+(~~~X-k+k2)= ~~~(b++X)+k2 by rw[Z9];lia,Ze,List.drop_append,List.drop_of_length_le ⋯,nil_append,Nat.add_sub_cancel_left,List.drop_append_of_le_length ⋯]
   rw[t1,t2];simp
 split
 .exact au (xj %[c,sub _ _ _|sub _ _ _] ⋯ ⋯ H)
 .exact au (xk %[c,sub _ _ _|sub _ _ _] ⋯ ⋯ H)
end
abbrev ky(N:Keyed->Nat)(a:ZY)(i:Nat):Nat:=N (a.getD i (Value.none,Value.none))
def B2(h:a[i]?∣x):ky N a i=N x:=by
 unfold ky
 simp_all
def u5(h:a[i]? =b[j]?):ky N a i=ky N b j:=by
 unfold ky
 simp_all
structure CR (st0 st:SortSt) (lo:Nat):Prop where
 kind:kindOf st=kindOf st0
 pend:pendingOf st=pendingOf st0
 fail:failedOf st=failedOf st0
 perm:(arrOf st).Perm (arrOf st0)
 same:∀i,i<lo->(arrOf st)[i]? =(arrOf st0)[i]?
def CR.refl(st:SortSt)(lo:Nat):CR st st lo:=%[rfl,rfl,rfl,Array.Perm.refl _|λ_ _=>rfl]
def CR.size{a st:SortSt}{lo:Nat}(h:CR a st lo):(arrOf st).size=(arrOf a).size:=h.perm.size_eq
def CR.rev{a st:SortSt}{lo i j:Nat}(h:CR a st lo)(hi:lo<=i)(b:j<=(arrOf st).size):CR a (setArr st (mirror (arrOf st) i j ((j-i)/2))) lo:=
 %[h.kind,h.pend,h.fail,(mirror_perm _ _ _ _).trans h.perm|λk c=>by
  rw[getElem?_mirror_all b,if_neg ⋯];exact h.same k c]
def xp(b:j<=a.size)(k:Nat):ky N (mirror a i j ((j-i)/2)) k=if i<=k/\k<j then ky N a (i+j-1-k)else ky N a k:=by
 split
 .rename_i h
  exact u5 (by rw[getElem?_mirror_all b,if_pos h])
 .rename_i h
  exact u5 (by rw[getElem?_mirror_all b,if_neg h])
abbrev Up(N:Keyed->Nat)(a:ZY)(lo n:Nat):Prop:=∀i j,i<=j->j<n->ky N a (lo+i)<=ky N a (lo+j)
abbrev Dn(N:Keyed->Nat)(a:ZY)(lo n:Nat):Prop:=∀i j,i<=j->j<n->ky N a (lo+j)<=ky N a (lo+i)
def Up.one(N:Keyed->Nat)(a:ZY)(lo:Nat):Up N a lo 1:=λi j b c=>by
 simp_all
def Up.step{lo n:Nat}(h:Up N a lo n)(d:1<=n)(f: ¬ ky N a (lo+n)<ky N a (lo+n-1)):Up N a lo (n+1):=λi j b g=>by
 by_cases e:j=n
 .subst e;by_cases c:i=j
  .exact c▸Zi _
  .have:=h i (j-1) ⋯ ⋯;rw[show lo+(j-1)=lo+j-1 by lia]at this
   lia
 .exact h i j b ⋯
def Dn.step{lo n:Nat}(h:Dn N a lo n)(d:1<=n)(f:ky N a (lo+n)<=ky N a (lo+n-1)):Dn N a lo (n+1):=λi j b g=>by
 by_cases e:j=n
 .subst e;by_cases c:i=j
  .exact c▸Zi _
  .have:=h i (j-1) ⋯ ⋯;rw[show lo+(j-1)=lo+j-1 by lia]at this
   lia
 .exact h i j b ⋯
def Dn.rev{lo n:Nat}(h:Dn N a lo n)(b:lo+n<=a.size):Up N (mirror a lo (lo+n) ((lo+n-lo)/2)) lo n:=λi j c d=>by
 rw[xp b,xp b,if_pos ⋯,if_pos ⋯];have:=h (n-1-j) (n-1-i) (Nat.sub_le_sub_left c _) ⋯
 have e:∀x,x<n->lo+(lo+n)-1-(lo+x)=lo+(n-1-x):=λx _=>by lia
 first|(rw[e i (Nat.lt_of_le_of_lt c d),e j d];exact this)|grind
def Dn.same{lo n i j:Nat}(h:Dn N a lo n)(d:j<=a.size)(g:∀k b,i<=k->k<j->i<=b->b<j->ky N a k=ky N a b):Dn N (mirror a i j ((j-i)/2)) lo n:=by
 have e:∀k,ky N (mirror a i j _) k=ky N a k:=λk=>by
  rw[xp d]
  grind
 intro p q c f;rw[e,e];exact h p q c f
section
variable{prog:Program}{w:World}{A:Around}{SI:Shared->Prop}{α β:Type}
def oj{i j lo:Nat}{a st:SortSt}(c:Cmp prog w A SI (kindOf a) D N)(d:∀x∈(arrOf a).toList,D x)(r:CR a st lo)(hi:i<(arrOf a).size)(m:j<(arrOf a).size)
 (h:Q (some (decide (ky N (arrOf st) i<ky N (arrOf st) j))) st):(SC prog w A SI) (ltAt' i j) Q st:=by
 have f:=λx n=>d x ((Array.perm_iff_toList_perm.mp r.perm).mem_iff.mp n)
 have b:=r.size▸hi;have e:=r.size▸m;have g:=Array.getElem?_eq_getElem b;have l:=Array.getElem?_eq_getElem e;refine Er (r.kind▸c) g l (f _ ∅) (f _ ∅) ?_;rw[B2 g,B2 l]at h;exact h
def tO{st:SortSt}(h:Q () (setArr st (mirror (arrOf st) i j ((j-i)/2)))):(SC prog w A SI) (reverseSlice' i j) Q st:=by
 exact bW h
abbrev cuL(lo:Nat)(x:Option (Option Nat)×Nat):StateT SortSt Sem (ForInStep (Option (Option Nat)×Nat)):=do
 match<-ltAt' (lo+x.2) (lo+x.2-1)with
 | some w=>if w=true then pure (.done (none,x.2))else pure (.yield (none,x.2+1))
 | _=>pure (.done (some none,x.2))
abbrev cu3(lo nrem n:Nat):StateT SortSt Sem (Option Nat):=do
 reverseSlice' lo (lo+n)
 let x<-forIn [n:nrem] (none,n) λ_ x=>cuL lo x
 match x.1 with
 | some r=>pure r
 | none=>pure (some x.2)
abbrev cuM(lo:Nat)(x:Option (Option Nat)×Nat×Nat):StateT SortSt Sem (ForInStep (Option (Option Nat)×Nat×Nat)):=do
 match<-ltAt' (lo+x.2.1) (lo+x.2.1-1)with
 | some w=>
   if w=true then(if x.2.2>0 then(do
    reverseSlice' (lo+x.2.1-(x.2.2+1)) (lo+x.2.1)
    pure (.yield (none,x.2.1+1,0)))else pure (.yield (none,x.2.1+1,0)))
   else(do
    match<-ltAt' (lo+x.2.1-1) (lo+x.2.1)with
    | some w=>if w=true then pure (.done (none,x.2.1,x.2.2))else pure (.yield (none,x.2.1+1,x.2.2+1))
    | _=>pure (.done (some none,x.2.1,x.2.2)))
 | _=>pure (.done (some none,x.2.1,x.2.2))
abbrev cu2(lo nrem n:Nat):StateT SortSt Sem (Option Nat):=do
 rule "list.sort.descending-run"
 let x<-forIn [n+1:nrem] (none,n+1,0) λ_ x=>cuM lo x
 match x.1 with
 | some r=>pure r
 | none=>
   if x.2.2>0 then(do
    reverseSlice' (lo+x.2.1-(x.2.2+1)) (lo+x.2.1)
    cu3 lo nrem x.2.1)else cu3 lo nrem x.2.1
set_option smartUnfolding false in
def Ig(lo nrem:Nat):countRun' lo nrem=(do
 let x<-forIn [1:nrem] (none,1) λ_ x=>cuL lo x
 match x.1 with
 | some r=>pure r
 | none=>
   if(x.2==nrem)=true then pure (some x.2)
   else if x.2>1 then(do
    match<-ltAt' lo (lo+x.2-1)with
    | some w=>if w=true then pure (some x.2)else(do
      reverseSlice' lo (lo+x.2)
      cu2 lo nrem x.2)
    | _=>pure none)else cu2 lo nrem x.2):=by
 rw[countRun'_eq];rfl
variable{D:Keyed->Prop}{N:Keyed->Nat}{lo nrem n j:Nat}{Q:Option Nat->SortSt->Prop}{st st2:SortSt}
def B3{q:Option _}{R:ForInStep _->SortSt->Prop}(c:Cmp prog w A SI (kindOf st) D N)(d:∀x∈(arrOf st).toList,D x)(r:CR st st2 lo)(e:lo+nrem<=(arrOf st).size)(f:1<=j)(g:j<nrem)
 (a:ky N (arrOf st2) (lo+j)<ky N (arrOf st2) (lo+j-1)->R (.done (none,j)) st2) (b: ¬ ky N (arrOf st2) (lo+j)<ky N (arrOf st2) (lo+j-1)->R (.yield (none,j+1)) st2):(SC prog w A SI) (cuL lo (q,j)) R st2:=by
 refine au (oj c d r ⋯ ⋯ ?_);dsimp only;by_cases q:ky N (arrOf st2) (lo+j)<ky N (arrOf st2) (lo+j-1)
 .rw[Zf q,if_pos rfl];exact av (a q)
 .rw[Zh q,if_neg ∅];exact av (b q)
def B4(c:Cmp prog w A SI (kindOf st) D N)(d:∀x∈(arrOf st).toList,D x)(s:lo+nrem<=(arrOf st).size)(h:∀n a,CR st a lo->1<=n->n<=nrem->Up N (arrOf a) lo n->Q (some n) a)
 (r:CR st st2 lo) (n1:1<=n) (o:n<=nrem) (u:Dn N (arrOf st2) lo n):(SC prog w A SI) (cu3 lo nrem n) Q st2:=by
 refine au (tO ?_);have v:=r.rev (j:=lo+n) (Zi _) (by rw[r.size];lia);have g:=u.rev (by rw[r.size];lia);refine au (bS (bG (Q:=λx a=>CR st a lo/\∃n,x=(none,n)/\1<=n/\n<=nrem/\Up N (arrOf a) lo n)
  (λj x a=>CR st a lo/\x=(none,j)/\Up N (arrOf a) lo j) o %[v,rfl|g] ?_ ?_) ?_)
 .intro j x e i p %[f,rfl|b];have l:=Yg n1 i;exact B3 c d f s l p (λ_=>%[f,j,rfl,l,Ye p|b]) λq=>%[f,rfl|b.step l q]
 .intro x e %[f,rfl|b];exact%[f,nrem,ρ,Yg n1 o,Zi _|b]
 .intro x e %[f,m,rfl,y,m2|b];exact av (h m e f y m2 b)
def GU{q:Option (Option Nat)}{k:Nat}{R:ForInStep (Option (Option Nat)×Nat×Nat)->SortSt->Prop}(c:Cmp prog w A SI (kindOf st) D N)(d:∀x∈(arrOf st).toList,D x)(r:CR st st2 lo)(B:lo+nrem<=(arrOf st).size)(v:k+1<=j)(C:j<nrem)
 (o:Dn N (arrOf st2) lo j) (p:∀i a,lo+j-(k+1)<=i->i<lo+j->lo+j-(k+1)<=a->a<lo+j->ky N (arrOf st2) i=ky N (arrOf st2) a)
 (y:R (.done (none,j,k)) st2) (g:∀k st2,CR st st2 lo->k<=j->Dn N (arrOf st2) lo (j+1)->(∀i a,lo+(j+1) -(k+1)<=i->i<lo+(j+1)->lo+(j+1) -(k+1)<=a->a<lo+(j+1)->ky N (arrOf st2) i=ky N (arrOf st2) a)->R (.yield (none,j+1,k)) st2):(SC prog w A SI) (cuM lo (q,j,k)) R st2:=by
 have one:∀st,∀i a,lo+(j+1) -(0+1)<=i->i<lo+(j+1)->lo+(j+1) -(0+1)<=a->a<lo+(j+1)->ky N (arrOf st) i=ky N (arrOf st) a:=λst i a h l z s=>by rw[show i=a by lia]
 refine au (oj c d r ⋯ ⋯ ?_);dsimp only;by_cases m:ky N (arrOf st2) (lo+j)<ky N (arrOf st2) (lo+j-1)
 .rw[Zf m,if_pos rfl];have b:=o.step ⋯ (Ye m);by_cases f:k>0
  .rw[if_pos f];exact au (tO (av (g 0 _ (r.rev ⋯ (by rw[r.size];lia)) (Xh _) (b.same (by rw[r.size];lia) p) (one _))))
  .rw[if_neg f];exact av (g 0 _ r (Xh _) b (one _))
 .rw[Zh m,if_neg ∅];refine au (oj c d r ⋯ ⋯ ?_);dsimp only;by_cases u:ky N (arrOf st2) (lo+j-1)<ky N (arrOf st2) (lo+j)
  .rw[Zf u,if_pos rfl];exact av y
  .rw[Zh u,if_neg ∅];have all:∀i,lo+j-(k+1)<=i->i<lo+(j+1)->ky N (arrOf st2) i=ky N (arrOf st2) (lo+j-1):=λi h l=>by
    by_cases e:i=lo+j
    .lia
    .exact p _ _ h ⋯ ⋯ ⋯
   exact av (g (k+1) _ r v (o.step ⋯ ⋯) λi a h l z s=>(all i ⋯ l).trans (all a ⋯ s).symm)
def B5(c:Cmp prog w A SI (kindOf st) D N)(d:∀x∈(arrOf st).toList,D x)(p:lo+nrem<=(arrOf st).size)(h:∀n a,CR st a lo->1<=n->n<=nrem->Up N (arrOf a) lo n->Q (some n) a)
 (r:CR st st2 lo) (B:n<nrem) (s:Dn N (arrOf st2) lo (n+1)):(SC prog w A SI) (cu2 lo nrem n) Q st2:=by
 refine au (hV ?_);refine au (bS (bG (Q:=λx a=>CR st a lo/\∃m q,x=(none,m,q)/\q+1<=m/\m<=nrem/\Dn N (arrOf a) lo m/\(∀k f,lo+m-(q+1)<=k->k<lo+m->lo+m-(q+1)<=f->f<lo+m->ky N (arrOf a) k=ky N (arrOf a) f))
  (λj x a=>CR st a lo/\∃q,x=(none,j,q)/\q+1<=j/\Dn N (arrOf a) lo j/\(∀k f,lo+j-(q+1)<=k->k<lo+j->lo+j-(q+1)<=f->f<lo+j->ky N (arrOf a) k=ky N (arrOf a) f)) B %[r,0,rfl,Nat.le_add_left _ _,s|λk f H I J L=>by rw[show k=f by lia]] ?_ ?_) ?_)
 .intro j x l C v %[g,q,rfl,i,b|e];exact GU c d g p i v b e %[g,j,q,rfl,i,Ye v,b|e] λk st2 r E s G=>%[r,k,rfl,Xb E,s|G]
 .intro x l %[g,q,rfl,i,b|e];exact%[g,nrem,q,ρ,i,Zi _,b|e]
 .intro x l %[g,m,q,rfl,u,y,b|e];have z:=Yg (Nat.le_add_left _ _) u;dsimp only;by_cases o:q>0
  .rw[if_pos o];exact au (tO (B4 c d p h (g.rev ⋯ (by rw[g.size];lia)) z y (b.same (by rw[g.size];lia) e)))
  .rw[if_neg o];exact B4 c d p h g z y b
def mF{lo nrem:Nat}{st:SortSt}(c:Cmp prog w A SI (kindOf st) D N)(d:∀x∈(arrOf st).toList,D x)(r:1<=nrem)(g:lo+nrem<=(arrOf st).size)
 (h:∀n a,CR st a lo->1<=n->n<=nrem->Up N (arrOf a) lo n->Q (some n) a):(SC prog w A SI) (countRun' lo nrem) Q st:=by
 rw[Ig];refine au (bS (bG (Q:=λx a=>a=st/\∃n,x=(none,n)/\1<=n/\n<=nrem/\Up N (arrOf st) lo n/\(n=nrem\/ky N (arrOf st) (lo+n)<ky N (arrOf st) (lo+n-1)))
  (λj x a=>a=st/\x=(none,j)/\Up N (arrOf st) lo j) r %[rfl,rfl|Up.one _ _ _] ?_ ?_) ?_)
 .intro j x a e f %[rfl,rfl|up];exact B3 c d (CR.refl _ lo) g e f (λq=>%[rfl,j,rfl,e,Ye f,up|.inr q]) λq=>%[rfl,rfl|up.step e q]
 .intro x a %[rfl,rfl|up];exact%[ρ,nrem,ρ,r,Zi _,up|.inl rfl]
 .intro x b %[G,n,rfl,n1,s,up|H];subst G;dsimp only;by_cases l:n=nrem
  .rw[if_pos (by simp[l])];exact av (h n b (CR.refl _ _) n1 s up)
  rw[if_neg (by simp[l])];have u:n<nrem:=by lia
  by_cases v:n>1
  .rw[if_pos v];refine au (oj c d (CR.refl _ lo) ⋯ ⋯ ?_);dsimp only;by_cases y:ky N (arrOf b) lo<ky N (arrOf b) (lo+n-1)
   .rw[Zf y,if_pos rfl];exact av (h n b (CR.refl _ _) n1 s up)
   .rw[Zh y,if_neg ∅];have all:∀i,i<n->ky N (arrOf b) (lo+i)=ky N (arrOf b) lo:=λi hi=>by
     have z:=up 0 i (Xh _) hi;have B:=up i (n-1) ⋯ ⋯;rw[show lo+(n-1)=lo+n-1 by lia]at B;rw[add_zero]at z
     lia
    have m:Dn N (arrOf b) lo n:=λi j o f=>by rw[all i ⋯,all j f];exact Zi _
    exact au (tO (B5 c d g h ((CR.refl b lo).rev (Zi _) ⋯) u ((m.step n1 ⋯).same ⋯ (λk p z B I J=>by
     have C:=all (k-lo) ⋯;have E:=all (p-lo) ⋯;rw[show lo+(k-lo)=k by lia]at C;rw[show lo+(p-lo)=p by lia]at E;rw[C,E]))))
  .rw[if_neg v];refine B5 c d g h (CR.refl b lo) u (Dn.step (λi j o f=>?_) n1 (Ye (H.resolve_left l)));rw[show i=j by lia];exact Zi _
end
section
variable{prog:Program}{w:World}{A:Around}{SI:Shared->Prop}{α β:Type}
def CR.move{a st:SortSt}{lo k l:Nat}(h:CR a st lo)(b:lo+k<(arrOf st).size)(c:l<=k):CR a (setArr st (bubble (arrOf st) (lo+k) (lo+k-(lo+l)))) lo:=
 %[h.kind,h.pend,h.fail,(bubble_perm _ _ _).trans h.perm|λi hi=>by
  rw[getElem?_bubble b _ ⋯,if_neg ⋯,if_neg ⋯];exact h.same i hi]
def yk(f:b<a.size)(g:d<=b)(k:Nat):ky N (bubble a b d) k=if k=b-d then ky N a b else if b-d<k/\k<=b then ky N a (k-1)else ky N a k:=by
 by_cases c:k=b-d
 .rw[if_pos c];exact u5 (by rw[getElem?_bubble f d g,if_pos c])
 .rw[if_neg c];by_cases e:b-d<k/\k<=b
  .rw[if_pos e];exact u5 (by rw[getElem?_bubble f d g,if_neg c,if_pos e])
  .rw[if_neg e];exact u5 (by rw[getElem?_bubble f d g,if_neg c,if_neg e])
def rc{lo n ok:Nat}{f st:SortSt}(c:Cmp prog w A SI (kindOf f) D N)(d:∀x∈(arrOf f).toList,D x)(r:CR f st lo)(O:1<=ok)(T:ok<=n)(hs:lo+n<=(arrOf f).size)(up:Up N (arrOf st) lo ok)
 (h:∀a,CR f a lo->Up N (arrOf a) lo n->Q true a):(SC prog w A SI) (binarySort' lo n ok) Q st:=by
 rw[binarySort'_eq];rw[show max ok 1=ok by lia];refine au (bS (bG (Q:=λx a=>x=(none,())/\CR f a lo/\Up N (arrOf a) lo n) (λk x a=>x=(none,())/\CR f a lo/\Up N (arrOf a) lo k) T %[rfl,r|up] ?_ ?_) ?_)
 .intro k x b U hk %[rfl,m|up1];dsimp only;have pv:∀i,i<k->lo+i<(arrOf f).size:=λi hi=>by lia
  refine au (bS (bG (Q:=λx a=>a=b/\∃l,x.1=none/\x.2.1=l/\l<=k/\(∀i,i<l->ky N (arrOf b) (lo+i)<=ky N (arrOf b) (lo+k))/\(∀i,l<=i->i<k->ky N (arrOf b) (lo+k)<ky N (arrOf b) (lo+i)))
   (λj x a=>a=b/\∃l q,x=(none,l,q)/\l<=q/\q<=k/\q-l<=k-j/\(∀i,i<l->ky N (arrOf b) (lo+i)<=ky N (arrOf b) (lo+k))/\(∀i,q<=i->i<k->ky N (arrOf b) (lo+k)<ky N (arrOf b) (lo+i))) (Xh _)
   %[rfl,0,k,rfl,⋯,⋯,⋯,λi hi=>absurd hi (X6 _)|λi O h2=>by lia] ?_ ?_) ?_)
  .intro j x g _ Y %[rfl,l,q,rfl,C,o,hm,s|u];dsimp only;by_cases v:l>=q
   .rw[if_pos v];have e:l=q:=by lia
    subst e;exact av %[rfl,l,rfl,rfl,o,s|u]
   .rw[if_neg v];have h1:l<=(l+q)/2:=by lia
    have h2:(l+q)/2<q:=by lia
    generalize (l+q)/2=md at h1 h2 ⊢;refine au (oj c d m ⋯ ⋯ ?_);dsimp only;by_cases p:ky N (arrOf g) (lo+k)<ky N (arrOf g) (lo+md)
    .rw[Zf p,if_pos rfl];exact av %[rfl,l,_,rfl,h1,Nat.le_trans (Nat.le_of_lt h2) o,Nat.le_sub_one_of_lt (Nat.lt_of_lt_of_le (Nat.sub_lt_sub_right h1 h2) hm),s|λi y B=>Zg p (up1 _ _ y B)]
    .rw[Zh p,if_neg ∅];exact av %[rfl,_,q,rfl,h2,o,Nat.le_trans (Nat.sub_le_sub_left (Nat.succ_le_succ h1) q) (Nat.sub_le_sub_right hm 1),λi y=>Yg (up1 i md (Nat.le_of_lt_succ y) (Nat.lt_of_lt_of_le h2 o)) (Nat.le_of_not_lt p)|u]
  .intro x g %[rfl,l,q,rfl,C,o,hm,s|u];have e:l=q:=by lia
   subst e;exact%[ρ,l,ρ,ρ,o,s|u]
  .rintro⟨x1,x2,x3⟩ g ⟨e2,l,H,I,E,s,u⟩;subst e2;dsimp only at H I;subst H I;dsimp only;rw[moveDown'_eq];refine au (bW (av %[rfl,m.move (by rw[m.size];lia) E|?_]));have z:lo+k<(arrOf g).size:=by rw[m.size];lia
   intro i j G Y;rw[yk z ⋯,yk z ⋯];have ed:lo+k-(lo+k-(lo+x2))=lo+x2:=by lia
   rw[ed];by_cases y:lo+i=lo+x2
   .rw[if_pos y];by_cases B:lo+j=lo+x2
    .rw[if_pos B];exact Zi _
    .rw[if_neg B,if_pos ⋯];have:=u (j-1) ⋯ ⋯;rw[show lo+(j-1)=lo+j-1 by lia]at this
     lia
   .rw[if_neg y];by_cases J:lo+x2<lo+i/\lo+i<=lo+k
    .rw[if_pos J,if_neg ⋯,if_pos ⋯];have:=up1 (i-1) (j-1) ⋯ ⋯;rw[show lo+(j-1)=lo+j-1 by lia,show lo+(i-1)=lo+i-1 by lia]at this;exact this
    .rw[if_neg J];by_cases L:lo+j=lo+x2
     .rw[if_pos L];exact s i ⋯
     .rw[if_neg L];by_cases M:lo+x2<lo+j/\lo+j<=lo+k
      .rw[if_pos M];have:=up1 i (j-1) ⋯ ⋯;rw[show lo+(j-1)=lo+j-1 by lia]at this;exact this
      .rw[if_neg M];exact up1 i j G ⋯
 .intro x b %[rfl,m|up1];exact%[ρ,m|up1]
 .intro x b %[rfl,m|up1];exact av (h b m up1)
def Es(h:Up N a 0 a.size):Srt N a.toList:=by
 refine List.pairwise_iff_getElem.mpr λi j hi b c=>?_
 have g:∀i hi,N a.toList[i]=ky N a (0+i):=λi hi=>(B2 ∅).symm
 rw[g,g];exact h i j ⋯ (b)
def xq{st:SortSt}(c:Cmp prog w A SI (kindOf st) D N)(d:∀x∈(arrOf st).toList,D x)(G:1<=(arrOf st).size)(l:(arrOf st).size<64)(B:pendingOf st= #[])(H:failedOf st=none)
 (h:∀a,(arrOf a).toList.Perm (arrOf st).toList->Srt N (arrOf a).toList->failedOf a=none->Q () a):(SC prog w A SI) sortRuns' Q st:=by
 rw[sortRuns'_eq];refine au (dB ?_);dsimp only;have I:minRun' (arrOf st).size (arrOf st).size 0=(arrOf st).size:=by
  obtain⟨m,e⟩:∃m,(arrOf st).size=m+1:=%[_|(Nat.sub_add_cancel G).symm]
  rw[e]at l ⊢;rw[minRun'_succ,if_pos l,add_zero]
 rw[I];refine au (bS (bG (Q:=λx a=>x=(none,(arrOf st).size)/\(arrOf a).toList.Perm (arrOf st).toList/\Srt N (arrOf a).toList/\failedOf a=none/\(pendingOf a).size=1)
  (λj x a=>(j=0/\x=(none,0)/\a=st)\/(x=(none,(arrOf st).size)/\(arrOf a).toList.Perm (arrOf st).toList/\Srt N (arrOf a).toList/\failedOf a=none/\(pendingOf a).size=1)) (Xh _) (.inl %[rfl,rfl|rfl]) ?_ ?_) ?_)
 .rintro j x f _ J (⟨rfl,rfl,rfl⟩|⟨rfl,ok⟩)
  .dsimp only;rw[if_neg ⋯];refine au (mF c d ⋯ ⋯ λn g C n1 U o=>?_);dsimp only;have E:∀(b:SortSt) (n:Nat),n=(arrOf f).size->CR f b 0->Up N (arrOf b) 0 n->(pendingOf b).back? =none/\(arrOf b).toList.Perm (arrOf f).toList/\Srt N (arrOf b).toList/\failedOf b=none/\(pendingOf b).size=0:=λb n e r u=>by
    refine%[by rw[r.pend,B];rfl,Array.perm_iff_toList_perm.mp r.perm,Es (by rw[r.size,<-e];exact u),r.fail.trans H|by rw[r.pend,B];rfl]
   by_cases i:n<(arrOf f).size
   .rw[if_pos i];refine au (hV (au (rc c d C n1 ⋯ ⋯ o λb L p=>?_)));rw[if_neg ∅];refine au (dB ?_);have%[q,s,v,y|z]:=E b _ ⋯ L p;rw[q];dsimp only;refine au (bW (av (.inr %[?_,s,v,y|?_])))
    .rw[zero_add,Nat.sub_zero,Nat.min_self]
    .show((pendingOf b).push _).size=1;rw[Xl,z]
   .rw[if_neg i];refine au (dB ?_);have%[q,s,v,y|z]:=E g _ ⋯ C o;rw[q];dsimp only;refine au (bW (av (.inr %[?_,s,v,y|?_])))
    .rw[zero_add,show n=(arrOf f).size by lia]
    .rw[Xl,z]
  .dsimp only;rw[if_pos (Zi _)];exact av %[rfl|ok]
 .rintro x f (⟨e,_⟩|ok)
  .lia
  .exact ok
 .intro x f %[rfl,M,O,T|Y];dsimp only;refine au (bS (bG (Q:=λx a=>x=(none,())/\a=f) (λj x a=>x=(none,())/\a=f) (Xh _) %[rfl|rfl] ?_ ?_) ?_)
  .intro j x g _ J %[rfl|rfl];refine au (dB ?_);rw[if_pos ⋯];exact av %[rfl|rfl]
  .rintro x g e;exact e
  .intro x g %[rfl|rfl];exact av (h g M O T)
end
abbrev dC:List (List Keyed×Nat)->Nat->List (Nat×Nat×Nat)
 |[],_=>[]
 |(r,p)::t,o=>(o,~~~r,p)::dC t (o+ ~~~r)
abbrev bH(a:List (List Keyed×Nat)):List Keyed:=(a\1).flatten
def cy(a b:List _):bH (a++b)=bH a++bH b:=by simp[bH]
def bi(a:List Keyed×Nat)(b:List _):bH (a::b)=a.1++bH b:=by simp[bH]
def dv:∀a b o,dC (a++b) o=dC a o++dC b (o+ ~~~(bH a))
 |[],b,o=>by simp[dC,bH]
 |(r,p)::t,b,o=>by
  rw[cons_append,dC,dC,dv t b,bi,Z9,cons_append,Nat.add_assoc]
def eN:∀a o,~~~(dC a o)= ~~~a
 |[],_=>rfl
 |(r,p)::t,o=>by rw[dC,Zr,Zr,eN t]
structure RI (st0 st:SortSt) (rp:List (List Keyed×Nat)) (rest:List Keyed):Prop where
 kind:kindOf st=kindOf st0
 fail:failedOf st=none
 perm:(arrOf st).toList.Perm (arrOf st0).toList
 arr:(arrOf st).toList=bH rp++rest
 pend:(pendingOf st).toList=dC rp 0
 runs:∀r∈rp,r.1≠[]
def RI.size{a st:SortSt}{b:List _}{rest:List Keyed}(h:RI a st b rest):(arrOf st).size=(arrOf a).size:=by
 rw[<-Zb,<-Zb,h.perm.length_eq]
def RI.psize{a st:SortSt}{b:List _}{rest:List Keyed}(h:RI a st b rest):(pendingOf st).size= ~~~b:=by
 rw[<-Zb,h.pend,eN]
section
variable{prog:Program}{w:World}{A:Around}{SI:Shared->Prop}{α β:Type}
def kD{D:Keyed->Prop}{N:Keyed->Nat}{f st:SortSt}{a b:List _}{X Y:List Keyed}{p m i:Nat}{rest:List Keyed}{Q:Bool->SortSt->Prop}(c:Cmp prog w A SI (kindOf f) D N)(d:∀x∈(arrOf f).toList,D x)
 (h:RI f st (a++(X,p)::(Y,m)::b) rest) (hi:i= ~~~a) (k:∀Z g,RI f g (a++(Z,p)::b) rest-> ~~~Z= ~~~X+ ~~~Y->Q true g):(SC prog w A SI) (mergeAt' i) Q st:=by
 subst hi;have e:=h.arr;rw[cy,bi,bi]at e;have u:(arrOf st).toList=bH a++X++Y++(bH b++rest):=by rw[e];simp
 have B:=λx n=>d x (h.perm.mem_iff.mp n)
 have l:=h.pend;rw[dv,dC,dC,zero_add]at l;have pl:=eN a 0;have C:=by
  have:(pendingOf st).toList[~~~a]?∣(~~~(bH a),~~~X,p):=by
   rw[l,Yb ⋯,pl,sub_self];rfl
  simpa using this
 have E:=by
  have:(pendingOf st).toList[~~~a+1]?∣(~~~(bH a)+ ~~~X,~~~Y,m):=by
   rw[l,Yb ⋯,pl,Nat.add_sub_cancel_left];rfl
  simpa using this
 have v:=h.runs (X,p) ∅;refine xo (h.kind▸c) u v (h.runs (Y,m) ∅) B C E h.fail λZ g y z G H o=>?_
 have s: ~~~Z= ~~~X+ ~~~Y:=by rw[y.length_eq,Z9]
 refine k Z g %[G.trans h.kind,H,?_,?_,?_|λr j=>?_] s
 .refine List.Perm.trans ?_ h.perm;rw[z,u];rw[show bH a++X++Y++(bH b++rest)=bH a++(X++Y) ++(bH b++rest) by simp];exact List.Perm.append_right _ (List.Perm.append_left _ y)
 .rw[z,cy,bi];simp
 .rw[o,Array.toList_eraseIdxIfInBounds,Array.toList_setIfInBounds,l,dv,dC,zero_add];rw[List.set_append_right _ _ ⋯,pl,sub_self,List.set_cons_zero];rw[List.eraseIdx_append_of_length_le ⋯,pl,Nat.add_sub_cancel_left,List.eraseIdx_cons_succ,List.eraseIdx_cons_zero];rw[s,Nat.add_assoc]
 .rcases Xp j with j|j
  .exact h.runs r (Yu _ j)
  .rcases mem_cons.mp j with rfl|j
   .intro q;have n:=length_pos_iff.mpr v;dsimp only at q n;rw[q,List.length_nil]at s
    lia
   .exact h.runs r (by simp[j])
def CR.toRI{d b a:SortSt}{f:List _}{rest:List Keyed}{lo n:Nat}(h:RI d b f rest)(r:CR b a lo)(j: ~~~(bH f)=lo)(o:lo+n<=(arrOf b).size):
 ∃R c,RI d a f (R++c)/\ ~~~R=n:=by
 have l:=r.size;refine%[((arrOf a).toList.drop lo).take n,(arrOf a).toList.drop (lo+n),%[r.kind.trans h.kind,r.fail.trans h.fail,(Array.perm_iff_toList_perm.mp r.perm).trans h.perm,?_,r.pend▸h.pend|h.runs]|?_]
 .have e:(arrOf a).toList.take lo=bH f:=by
   have m:(arrOf a).toList.take lo=(arrOf b).toList.take lo:=by
    apply ext_getElem?;intro i;rw[List.getElem?_take,List.getElem?_take]
    split
    .rename_i hi
     have:=r.same i hi;simpa using this
    .rfl
   rw[m,h.arr,Xe ⋯,Zn ⋯]
  rw[<-e];have g:=Xd n ((arrOf a).toList.drop lo);rw[drop_drop]at g;rw[g,(Xd lo (arrOf a).toList)]
 grind
def mG{α:Type}(f:α->α):∀l x,(l++[x]).modify l.length f=l++[f x]
 |[],x=>rfl
 | y::l,x=>by
   rw[cons_append,Zr,List.modify_succ_cons,mG f l x,cons_append]
def kE{α:Type}(l:List α):l=[]\/∃a x,l=a++[x]:=by
 by_cases h:l=[]
 .exact .inl h
 .exact .inr %[l.dropLast,l.getLast h|(List.dropLast_concat_getLast h).symm]
def z1{α:Type}(l:List α)(h:1< ~~~l):∃a x y,l=a++x::y::[]:=by
 rcases kE l with rfl|⟨a,y,rfl⟩
 .simp at h
 .rcases kE a with rfl|⟨b,x,rfl⟩
  .simp at h
  .exact%[b,x,y|by simp]
def RI.pushed{a st:SortSt}{c:List _}{R rest:List Keyed}{lo m:Nat}(h:RI a st c (R++rest))(d: ~~~(bH c)=lo)(e: ~~~R=m)(f:1<=m):RI a (setPending st ((pendingOf st).push (lo,m,0))) (c++[(R,0)]) rest:=by
 refine%[h.kind,h.fail,h.perm,?_,?_|λr b=>?_]
 .rw[h.arr,cy,bi];simp[bH]
 .rw[toList_push,h.pend,dv,dC,dC,zero_add,d,e]
 .rcases Xp b with b|b
  .exact h.runs r b
  .rw[Xq b]
   grind
def RI.powered{a st:SortSt}{b:List _}{rest:List Keyed}{X:List Keyed}{p:Nat}(d:Nat)(h:RI a st (b++[(X,p)]) rest):RI a (setPending st ((pendingOf st).modify ((pendingOf st).size-1) λx=>(x.fst,x.2.fst,d))) (b++[(X,d)]) rest:=by
 refine%[h.kind,h.fail,h.perm,?_,?_|λr c=>?_]
 .rw[h.arr,cy,cy,bi,bi]
 .rw[Array.toList_modify,h.psize,h.pend,dv,dv];rw[show(b++[(X,p)]).length-1= ~~~(dC b 0) by rw[eN];simp];show List.modify (dC b 0++[_]) _ _=_;rw[mG];rfl
 .rcases Xp c with c|c
  .exact h.runs r (Yu _ c)
  .rw[Xq c];exact h.runs (X,p) ∅
abbrev srP(lo n:Nat):StateT SortSt Sem (ForInStep (Option Unit×Nat)):=do
 modify λs=>setPending s ((pendingOf s).push (lo,n,0))
 pure (.yield (none,lo+n))
abbrev sr1(size lo n:Nat):StateT SortSt Sem (ForInStep (Option Unit×Nat)):=do
 let s<-get
 match(pendingOf s).back? with
 | some (a,n1,_)=>do
   let x<-forIn [0:size] (none,()) λ_ _=>(do
    let s<-get
    match if(pendingOf s).size>1 then(pendingOf s)[(pendingOf s).size-2]? else none with
    | some (_,_,o)=>
      if o<=power' size (2*a+n1) (2*a+n1+n1+n) size then pure (.done (none,()))
      else(do
       let b<-mergeAt' ((pendingOf s).size-2)
       if(!b)=true then pure (.done (some (),()))else pure (.yield (none,())))
    | _=>pure (.done (none,())))
   match x.1 with
   | some r=>pure (.done (some r,lo))
   | none=>do
     modify λs=>setPending s ((pendingOf s).modify ((pendingOf s).size-1) λx=>(x.1,x.2.1,power' size (2*a+n1) (2*a+n1+n1+n) size))
     srP lo n
 | _=>srP lo n
abbrev srO(size:Nat)(x:Option Unit×Nat):StateT SortSt Sem (ForInStep (Option Unit×Nat)):=
 if x.2>=size then pure (.done (none,x.2))
 else do
  match<-countRun' x.2 (size-x.2)with
  | some n=>
    if n<minRun' size size 0 then(do
     rule "list.sort.binary-insertion"
     let b<-binarySort' x.2 (min (size-x.2) (minRun' size size 0)) n
     if(!b)=true then pure (.done (some (),x.2))else sr1 size x.2 (min (size-x.2) (minRun' size size 0)))
    else sr1 size x.2 n
  | _=>pure (.done (some (),x.2))
abbrev srT(size:Nat)(x:Option Unit×Nat):StateT SortSt Sem Unit:=
 match x.1 with
 | some r=>pure r
 | none=>do
   let x<-forIn [0:size] (none,()) λ_ _=>(do
    let s<-get
    if(pendingOf s).size<=1 then pure (.done (none,()))
    else(do
     let b<-mergeAt' (if Option.any (λx=>decide (x<(pendingOf s)[(pendingOf s).size-2+1]?.elim 0 λx=>x.2.1)) (if(pendingOf s).size-2>0 then Option.map (λx=>x.2.1) (pendingOf s)[(pendingOf s).size-2-1]? else none)=true then(pendingOf s).size-2-1 else(pendingOf s).size-2)
     if(!b)=true then pure (.done (some (),()))else pure (.yield (none,()))))
   match x.1 with
   | some r=>pure r
   | none=>pure ()
set_option smartUnfolding false in
def Ih:sortRuns'=(do
 let s<-get
 let x<-forIn [0:(arrOf s).size] (none,0) λ_ x=>srO (arrOf s).size x
 srT (arrOf s).size x):=by
 rw[sortRuns'_eq];rfl
def B6{D:Keyed->Prop}{N:Keyed->Nat}{st m:SortSt}{v:List (List Keyed×Nat)}{R e:List Keyed}{lo n:Nat}{T:ForInStep (Option Unit×Nat)->SortSt->Prop}(c:Cmp prog w A SI (kindOf st) D N)(d:∀x∈(arrOf st).toList,D x)(o:RI st m v (R++e))(q: ~~~(bH v)=lo)(p: ~~~R=n)(J:1<=n)
 (L:∀a h,RI st h a e-> ~~~(bH a)=lo+n->T (.yield (none,lo+n)) h):(SC prog w A SI) (sr1 (arrOf st).size lo n) T m:=by
 refine au (dB ?_);rcases kE v with y|⟨O,⟨U,Y⟩,y⟩
 .subst y;have B:(pendingOf m).back? =none:=by
   have:=o.psize;simp[Array.back?,this]
  rw[B];exact au (bW (av (L _ _ (o.pushed q p J) (by rw[cy,Z9,q,bi];simp[bH,p]))))
 .have B:(pendingOf m).back?∣(~~~(bH O),~~~U,Y):=by
   rw[<-Array.getLast?_toList,o.pend,y,dv,dC,dC,zero_add];simp
  rw[B];refine au (bS (bG (Q:=λx h=>x=(none,())/\∃a,RI st h a (R++e)/\a≠[]/\ ~~~(bH a)=lo) (λj x h=>x=(none,())/\∃a,RI st h a _/\a≠[]/\ ~~~(bH a)=lo) (Xh _) %[rfl,v,o,by rw[y];simp|q] ?_ ?_) ?_)
  .intro j5 x f _ _ %[rfl,l,b,i|g];refine au (dB ?_);by_cases C:(pendingOf f).size>1
   .have%[r,%[z|E],%[Y5|q5]|rfl]:=z1 l (b.psize▸C);have s:(pendingOf f).size-2= ~~~r:=by rw[b.psize];simp
    have G:(pendingOf f)[(pendingOf f).size-2]?∣(~~~(bH r),~~~z,E):=by
     have:(pendingOf f).toList[~~~r]?∣(~~~(bH r),~~~z,E):=by
      rw[b.pend,dv,Yb (by rw[eN];lia),eN,sub_self,zero_add];rfl
     rw[s];simpa using this
    rw[if_pos C,G];dsimp only
    split
    .exact av %[rfl,_,b,i|g]
    .refine au (kD c d b s λZ5 ab H I=>av %[rfl,_,H,by simp|?_]);rw[<-g,cy,cy,bi,bi,bi];simp[bH,I]
   .rw[if_neg C];exact av %[rfl,_,b,i|g]
  .intro x f %[rfl,l,b,i|g];exact%[ρ,l,b,i|g]
  .intro x f %[rfl,l,b,i|g];dsimp only;have%[r,%[z|E]|rfl]:=(kE l).resolve_left i;refine au (bW (au (bW (av ?_))));have u:∀M,~~~(bH (r++[(z,M)]))=lo:=λM=>by
    rw[<-g,cy,cy,bi,bi]
   exact L _ _ ((b.powered _).pushed (u _) p J) (by rw[cy,Z9,u,bi];simp[bH,p])
def u8{D:Keyed->Prop}{N:Keyed->Nat}{Q:Unit->SortSt->Prop}{st:SortSt}(c:Cmp prog w A SI (kindOf st) D N)(d:∀x∈(arrOf st).toList,D x)(h2:1<=(arrOf st).size)(hp:pendingOf st= #[])(hf:failedOf st=none)
 (h:∀f,(arrOf f).toList.Perm (arrOf st).toList->failedOf f=none->Q () f):(SC prog w A SI) sortRuns' Q st:=by
 rw[Ih];refine au (dB ?_);refine au (bS (bG (Q:=λx f=>∃e lo,x=(none,lo)/\RI st f e [])
  (λj x f=>∃e rest lo,x=(none,lo)/\RI st f e rest/\ ~~~(bH e)=lo/\j<=lo/\lo<=(arrOf st).size) (Xh _) %[[],_,0,rfl,%[rfl,hf,List.Perm.refl _,rfl,by rw[hp];rfl|λ_ h=>(nomatch h)],rfl,Zi _|Xh _] ?_ ?_) ?_)
 .intro j x u _ hj %[e,rest,lo,rfl,g,m,G|H];unfold srO;dsimp only;have s1:=g.size;by_cases B:lo>=(arrOf st).size
  .rw[if_pos B];have I:rest=[]:=by
    have:=congrArg List.length g.arr;rw[Z9,Zb,s1,m]at this;exact length_eq_zero_iff.mp ⋯
   subst I;exact av %[e,lo,rfl|g]
  rw[if_neg B];have d1:∀x∈(arrOf u).toList,D x:=λx hx=>d x (g.perm.mem_iff.mp hx)
  have c1:Cmp prog w A SI (kindOf u) D N:=g.kind▸c;refine au (mF c1 d1 ⋯ ⋯ λn o r2 n1 n2 J=>?_);dsimp only;by_cases v:n<minRun' (arrOf st).size (arrOf st).size 0
  .rw[if_pos v];refine au (hV (au (rc c1 d1 r2 n1 ⋯ ⋯ J λL r3 ab=>?_)));rw[if_neg ∅];have%[R,y,s|z]:=CR.toRI (n:=min ((arrOf st).size-lo) (minRun' (arrOf st).size (arrOf st).size 0)) g r3 m ⋯;exact B6 c d s m z ⋯ λM f r l=>%[_,_,_,rfl,r,l,⋯|⋯]
  .rw[if_neg v];have%[R,y,s|z]:=CR.toRI (n:=n) g r2 m ⋯;exact B6 c d s m z ⋯ λM f r l=>%[_,_,_,rfl,r,l,⋯|⋯]
 .intro x u %[e,rest,lo,rfl,g,m,G|H];have I:rest=[]:=by
   have:=congrArg List.length g.arr;rw[Z9,Zb,g.size,m]at this;exact length_eq_zero_iff.mp ⋯
  subst I;exact%[e,lo,ρ|g]
 .intro x u %[e,lo,rfl|g];unfold srT;dsimp only;have few:∀(e:List (List Keyed×Nat)),(∀r∈e,r.1≠[])-> ~~~e<= ~~~(bH e):=by
   intro e
   induction e with
   | nil=>intro _;exact Xh _
   | cons r t ih=>
     intro hr;rw[bi,Zr,Z9];have:=length_pos_iff.mpr (hr r ∅);have:=ih λq hq=>hr q (by simp[hq])
     lia
  have l1: ~~~e<=(arrOf st).size:=by
   have a1:=few e g.runs;have a2:=congrArg List.length g.arr;rw[Zx,Zb,g.size]at a2
   lia
  refine au (bS (bG (Q:=λx f=>x=(none,())/\∃e,RI st f e []/\ ~~~e<=1) (λj x f=>x=(none,())/\∃e,RI st f e []/\ ~~~e<=max 1 ((arrOf st).size-j)) (Xh _) %[rfl,e,g|⋯] ?_ ?_) ?_)
  .intro j x o _ hj %[rfl,e,g|O];refine au (dB ?_);by_cases T:(pendingOf o).size<=1
   .rw[if_pos T];exact av %[rfl,e,g|g.psize▸T]
   rw[if_neg T];have ac:1< ~~~e:=by rw[<-g.psize];lia
   generalize C:(if Option.any _ _=true then(pendingOf o).size-2-1 else(pendingOf o).size-2)=i
   have hi:i+1< ~~~e:=by
    have E:∀(c:Prop) [Decidable c] (n:Nat),2<=n->(if c then n-2-1 else n-2) +1<n:=λc _ n hn=>by lia
    rw[<-C,<-g.psize];exact E _ _ ⋯
   clear C;obtain⟨a,X,p,Y,q,b,rfl,U⟩:∃a X p Y q b,e=a++(X,p)::(Y,q)::b/\i= ~~~a:=by
    refine%[e.take i,e[i].1,e[i].2,e[i+1].1,e[i+1].2,e.drop (i+2),?_|by rw[Yl];lia];have t1:=(Xd i e).symm;rw[Zy ⋯,Zy ⋯]at t1;exact t1
   refine au (kD c d g U λZ L s zl=>?_);rw[if_neg ∅];refine av %[rfl,_,s|?_];simp only[Z9,Zr]at O hi ⊢
   lia
  .intro x o %[rfl,e,g|O];exact%[ρ,e,g|⋯]
  .intro x o %[rfl,e,g|O];exact av (h o g.perm g.fail)
def sc_sortRuns{D:Keyed->Prop}{N:Keyed->Nat}{Q:Unit->SortSt->Prop}{st:SortSt}(c:Cmp prog w A SI (kindOf st) D N)(d:∀x∈(arrOf st).toList,D x)(g:1<=(arrOf st).size)(i:pendingOf st= #[])(j:failedOf st=none)
 (h:∀e,(arrOf e).toList.Perm (arrOf st).toList->((arrOf st).size<64->Srt N (arrOf e).toList)->failedOf e=none->Q () e):(SC prog w A SI) sortRuns' Q st:=by
 by_cases f:(arrOf st).size<64
 .exact xq c d g f i j λe a b=>h e a λ_=>b
 .exact u8 c d g i j λe a=>h e a λl=>absurd l f
end
end _SB
namespace _ST
open PySem PySem.SetTable
def u9:∀k,∃q,5^(2^k)=1+2^(k+2)*(2*q+1)
 | 0=>%[0|rfl]
 | k+1=>by
   have%[q|e]:=u9 k;refine%[q+2^k*(2*q+1)*(2*q+1)|?_];rw[pow_succ 2 k,Nat.pow_mul,e]
   grind
abbrev step(M i:Nat):Nat:=(i*5+1)%M
abbrev iter(M:Nat):Nat->Nat->Nat
 | 0,i=>i
 | n+1,i=>step M (iter M n i)
abbrev geo:Nat->Nat
 | 0=>0
 | n+1=>geo n*5+1
def tP:∀n,4*geo n+1=5^n
 | 0=>rfl
 | n+1=>by
   have:=tP n;rw[pow_succ,<-this,geo]
   lia
def kH(M:Nat)(i:Nat):∀n,iter M n i%M=(5^n*i+geo n)%M
 | 0=>by simp[iter,geo]
 | n+1=>by
   rw[iter,step,Nat.mod_mod,geo,pow_succ];rw[add_mod,Nat.mul_mod,(kH M i n),<-Nat.mul_mod,<-add_mod]
   congr 1
   grind
def om:∀(k i e:Nat),e<2^k->∃n,n<2^k/\iter (2^k) n i%2^k=e
 | 0,i,e,c=>%[0,by simp|by simp at c;subst c;simp[Nat.mod_one]]
 | k+1,i,e,c=>by
   have%[n,M|s]:=om k i (e%2^k) (mod_lt _ (Nat.two_pow_pos k));have d:∀n,iter (2^(k+1)) n i%2^(k+1)%2^k=iter (2^k) n i%2^k:=λn=>by
    rw[Nat.mod_mod_of_dvd _ (Nat.pow_dvd_pow 2 (Yf k)),<-Nat.mod_mod_of_dvd _ (Nat.pow_dvd_pow 2 (Yf k)),kH,Nat.mod_mod_of_dvd _ (Nat.pow_dvd_pow 2 (Yf k)),kH]
   have%[q|b]:=u9 k;have w:geo (2^k)=2^k*(2*q+1):=by
    have g:=tP (2^k);rw[b,Nat.pow_add]at g;have:2^k*2^2*(2*q+1)=4*(2^k*(2*q+1)):=by
     rw[Nat.mul_right_comm];lia
    lia
   have f:∀n,iter (2^(k+1)) (n+2^k) i%2^(k+1)=(iter (2^(k+1)) n i+2^k)%2^(k+1):=λn=>by
    rw[kH];have y:5^(n+2^k)*i+geo (n+2^k)=5^(2^k)*(5^n*i+geo n) +geo (2^k):=by
     have N:=tP (n+2^k);have O:=tP n
     grind
    rw[y,b,w];have z:2^(k+1)=2*2^k:=by rw[pow_succ];lia
    have j:2^(k+2)=2*2^(k+1):=by rw[pow_succ];lia
    have o:=kH (2^(k+1)) i n
    generalize 5^n*i+geo n=v at o ⊢
    have A:(1+2^(k+2)*(2*q+1))*v+2^k*(2*q+1)=v+2^k+2^(k+1)*(2*((2*q+1)*v) +q):=by
     rw[Nat.add_mul,Nat.one_mul,j];have B:2*2^(k+1)*(2*q+1)*v=2^(k+1)*(2*((2*q+1)*v)):=by
      simp only[Nat.mul_assoc,Nat.mul_left_comm]
     have C:2^k*(2*q+1)=2^k+2^(k+1)*q:=by
      rw[z,Nat.mul_add,Nat.mul_one]
      lia
     rw[B,C,Nat.mul_add]
     lia
    rw[A,Nat.add_mul_mod_self_left,add_mod,<-o,<-add_mod]
   have l:=d n;rw[s]at l;have E:iter (2^(k+1)) n i%2^(k+1)<2^(k+1):=mod_lt _ (Nat.two_pow_pos _);have m:=f n;rw[add_mod,Nat.mod_eq_of_lt (by lia:2^k<2^(k+1))]at m;obtain⟨a,p⟩:∃a,a=iter (2^(k+1)) n i%2^(k+1):=%[_|rfl]
   rw[<-p]at l E m;have key:a=e\/(a+2^k)%2^(k+1)=e:=by
    have r:=Nat.div_add_mod a (2^k);have G:=Nat.div_add_mod e (2^k);have H:a/2^k<2:=Nat.div_lt_of_lt_mul ⋯;have I:e/2^k<2:=Nat.div_lt_of_lt_mul ⋯;rw[l]at r
    generalize a/2^k=u at r H
    generalize e/2^k=v at G I
    have J:u=0\/u=1:=by lia
    have L:v=0\/v=1:=by lia
    rcases J with rfl|rfl<;> rcases L with rfl|rfl
    .left;lia
    .right
     rw[Nat.mod_eq_of_lt ⋯]
     lia
    .right
     rw[show a+2^k=e+2^(k+1) by lia,Nat.add_mod_right,Nat.mod_eq_of_lt c]
    .left;lia
   rcases key with h|h
   .exact%[n,⋯|by rw[<-p,h]]
   .exact%[n+2^k,⋯|by rw[m,h]]
abbrev stand(t:SetTable)(h:Int):Nat->Probe
 | 0=>t.probeStart h
 | n+1=>t.advance (stand t h n)
abbrev way(t:SetTable)(h:Int)(n:Nat):Nat:=(stand t h n).j
abbrev aO(t:SetTable)(h:Int):Nat->Nat×Nat
 | 0=>(bits h%(t.mask+1),bits h)
 | r+1=>leap t.mask (aO t h r).1 (aO t h r).2
def mH(t:SetTable)(h:Int):∀n,(stand t h n).dummy=none
 | 0=>rfl
 | n+1=>by
   have:=mH t h n;show(t.advance _).dummy=none;unfold advance
   split
   .exact this
   .exact this
def Et(m i:Nat):runEnd m i-i<=9:=by
 unfold runEnd
 split<;> lia
def z3(t:SetTable)(h:Int):∀r,∃n,n<=10*r/\∀d,d<=runEnd t.mask (aO t h r).1-(aO t h r).1->
 stand t h (n+d)=%[(aO t h r).1+d,runEnd t.mask (aO t h r).1-(aO t h r).1-d,(aO t h r).1,(aO t h r).2|none]:=by
 have a:∀n i b,stand t h n=%[i,runEnd t.mask i-i,i,b|none]->∀d,d<=runEnd t.mask i-i->stand t h (n+d)=%[i+d,runEnd t.mask i-i-d,i,b|none]:=by
  intro n i b e d
  induction d with
  | zero=>intro _;rw[add_zero,e];rfl
  | succ d c=>
    intro f;show t.advance (stand t h (n+d))=_;rw[c ⋯];unfold advance;rw[if_pos ⋯]
    grind
 intro r
 induction r with
 | zero=>exact%[0,Xh _|a 0 _ _ rfl]
 | succ r c=>
   have%[n,g|e]:=c;have j:=Et t.mask (aO t h r).1;refine%[n+(runEnd t.mask (aO t h r).1-(aO t h r).1) +1,⋯|a _ _ _ ?_];show t.advance _=_;rw[e _ (Zi _)];unfold advance;rw[if_neg ⋯];rfl
def Eu(h:Int):bits h<2^64:=by
 unfold bits
 grind
def oq(t:SetTable)(h:Int):∀r,(aO t h r).2=bits h/32^r
 | 0=>by simp[aO]
 | r+1=>by
   show(aO t h r).2/32=_;rw[oq t h r,Nat.div_div_eq_div_mul,pow_succ]
def B7(t:SetTable)(h:Int):∀r,(aO t h r).1<t.mask+1
 | 0=>mod_lt _ (succ_pos _)
 | r+1=>mod_lt _ (succ_pos _)
def jV(t:SetTable)(h:Int):∀m,(aO t h (12+m)).1=iter (t.mask+1) m (aO t h 12).1
 | 0=>rfl
 | m+1=>by
   show((aO t h (12+m)).1*5+1+(aO t h (12+m)).2/32)%(t.mask+1)=step _ _;rw[jV t h m,oq,Nat.div_div_eq_div_mul,<-pow_succ];have a:bits h/32^(12+m+1)=0:=by
    exact Nat.div_eq_of_lt (Zg (Eu h) (Yg (by decide:2^64<=32^13) (Nat.pow_le_pow_right (!1) ⋯)))
   rw[a,add_zero];rfl
def ot(a:t.mask+1=2^k)(h:Int)(e:Nat)(c:e<=t.mask):∃r,r<turns t.mask/\(aO t h r).1=e:=by
 have%[n,d|b]:=om k _ e ⋯;refine%[12+n,by unfold turns;lia|?_];rw[jV,a];rw[<-a]at b;have:iter (t.mask+1) n (aO t h 12).1<t.mask+1:=by rw[<-jV];exact B7 t h _
 rw[Nat.mod_eq_of_lt this]at b;exact a▸b
def xt(a:t.mask+1=2^k)(h:Int)(e:Nat)(b:e<=t.mask):∃n,n+10<=10*turns t.mask/\way t h n=e:=by
 have%[r,f|c]:=ot a h e b;have%[n,g|d]:=z3 t h r;refine%[n,⋯|?_];have:=d 0 (Xh _);unfold way;rw[add_zero]at this;rw[this];exact c
def va(o:t.dummies= #[]){hashAt:Nat->Int}:∀(fuel n m:Nat),n<=m->m<n+fuel->t.slot (way t h m)= .empty->
 ∃q,n<=q/\q<=m/\(∀j,n<=j->j<q->∃i,t.slot (way t h j)= .live i/\hashAt i≠h)/\
  ((t.slot (way t h q)= .empty/\probe.go t hashAt h fuel (stand t h n)∣.empty (way t h q) none)\/
   ∃i,t.slot (way t h q)= .live i/\hashAt i=h/\probe.go t hashAt h fuel (stand t h n)∣.candidate (way t h q) i (stand t h (q+1)))
 | 0,n,m,g,r,_=>by lia
 | fuel+1,n,m,g,r,p=>by
   have d:probe.go t hashAt h (fuel+1) (stand t h n)=(match t.slot (stand t h n).j with
    | .empty=>some _
    | .dummy=>probe.go t hashAt h fuel (t.advance {stand t h n with dummy:=some _})
    | .live i=>if hashAt i==h then some _ else probe.go t hashAt h fuel _):=rfl
   have l:(stand t h n).j=way t h n:=rfl;cases c:t.slot _ with
   | empty=>
     refine%[n,Zi _,g,λj a b=>by lia|.inl %[c|?_]];rw[d,l,c,mH]
   | dummy=>
     exfalso;unfold slot at c;dsimp only at c
     split at c
     .lia
     .split at c
      .rename_i q
       rw[o]at q;simp[has]at q
      .lia
   | live i=>
     by_cases f:hashAt i=h
     .refine%[n,Zi _,g,λj a b=>by lia|.inr %[i,c,f|?_]];rw[d,l,c];dsimp only;rw[if_pos (by simp[f])];rfl
     .have s:n≠m:=λq=>by rw[q,p]at c;cases c
      have%[q,z,u,v|w]:=va o fuel (n+1) m ⋯ ⋯ p;have y:probe.go t hashAt h (fuel+1) (stand t h n)=probe.go t hashAt h fuel (stand t h (n+1)):=by
       rw[d,l,c];dsimp only;rw[if_neg (by simp[f])];rfl
      refine%[q,⋯,u,λj a b=>?_|?_]
      .by_cases e:j=n
       .exact e▸%[i,c|f]
       .exact v j ⋯ b
      .exact y▸w
def ou(xs:Array Nat)(j:Nat)(d:∀a b (s:a<xs.size) (u:b<xs.size),a<b->xs[a]<xs[b]):∀(fuel lo hi:Nat),hi-lo<=fuel->lo<=hi->hi<=xs.size->(∀i (h:i<xs.size),i<lo->xs[i]<j)->(∀i (h:i<xs.size),hi<=i->j<=xs[i])->
 below.go xs j fuel lo hi<=xs.size/\(∀i (h:i<xs.size),i<below.go xs j fuel lo hi->xs[i]<j)/\(∀i (h:i<xs.size),below.go xs j fuel lo hi<=i->j<=xs[i])
 | 0,lo,hi,p,q,f,g,l=>by
   have e:lo=hi:=by lia
   subst e;exact%[f,g|l]
 | fuel+1,lo,hi,p,q,f,g,l=>by
   rw[below.go];by_cases c:lo<hi
   .rw[if_pos c];dsimp only;have h1:lo<=(lo+hi)/2:=by lia
    have h2:(lo+hi)/2<hi:=by lia
    have n:=Nat.lt_of_lt_of_le h2 f
    have r:xs.getD ((lo+hi)/2) j=xs[(lo+hi)/2]:=by simp[Array.getD,n]
    rw[r];by_cases m:xs[(lo+hi)/2]<j
    .rw[if_pos m];refine ou xs j d fuel _ hi (Nat.le_trans (Nat.sub_le_sub_left (Nat.succ_le_succ h1) hi) (Nat.sub_le_sub_right p 1)) h2 f (λi h o=>?_) l;by_cases e:i=(lo+hi)/2
     .subst e;exact m
     .exact Nat.lt_trans (d i _ h n ⋯) m
    .rw[if_neg m];refine ou xs j d fuel lo _ (Nat.le_of_lt_succ (Nat.lt_of_lt_of_le (Nat.sub_lt_sub_right h1 h2) p)) h1 (Nat.le_of_lt n) g (λi h o=>?_);by_cases e:i=(lo+hi)/2
     .subst e;lia
     .have:=d _ i n h ⋯
      lia
   .rw[if_neg c];have e:lo=hi:=by lia
    subst e;exact%[f,g|l]
abbrev B8(xs:Array Nat):Prop:=∀a b c (d:b<xs.size),a<b->xs[a]<xs[b]
def jW(a:B8 xs)(j:Nat):below xs j<=xs.size/\(∀i (h:i<xs.size),i<below xs j->xs[i]<j)/\(∀i (h:i<xs.size),below xs j<=i->j<=xs[i]):=
 ou xs j a xs.size 0 xs.size ⋯ (Xh _) (Zi _) (λi h q=>absurd q (X6 _)) (λi h q=>by lia)
def B9(a:B8 xs)(h:xs[i]?∣j):below xs j=i:=by
 have%[f,c|d]:=jW a j;have%[hi|e]:=Array.getElem?_eq_some_iff.mp h;rcases Nat.lt_trichotomy i _ with q|q|q
 .have:=c i hi q
  lia
 .exact q.symm
 .have b:below xs j<xs.size:=by lia
  have:=d _ b (Zi _);have:=a _ i b hi q
  lia
def rh{t:SetTable}(a:B8 t.place)(h:t.place[i]?∣j):t.slot j= .live i:=by
 unfold slot;dsimp only;rw[B9 a h,h];simp
def jX{t:SetTable}(a:B8 t.place)(b:t.dummies= #[])(j:Nat):(∃i,t.place[i]?∣j/\t.slot j= .live i)\/(j∉t.place.toList/\t.slot j= .empty):=by
 by_cases h:j∈t.place.toList
 .have%[i|hi]:=Xi h;have hi:=↑hi
  exact .inl %[i,hi|rh a hi]
 .refine .inr %[h|?_];unfold slot;rw[if_neg,if_neg]
  .rw[b];simp[has]
  .intro q;exact h (mem_toList_iff.mpr (Array.mem_of_getElem? ↑q))
def vb(h:t.mask=t'.mask)(x:Int):∀n,stand t x n=stand t' x n
 | 0=>by
   show t.probeStart x=t'.probeStart x;unfold probeStart;rw[h]
 | n+1=>by
   show t.advance _=t'.advance _;rw[vb h x n];unfold advance;rw[h]
def rj(h:t.mask=t'.mask)(x:Int)(n:Nat):way t x n=way t' x n:=by unfold way;rw[vb h]
structure WF (t:SetTable) (es:Array (Int×Value)):Prop where
 pow:∃k,t.mask+1=2^k
 big:7<=t.mask
 dum:t.dummies= #[]
 rise:B8 t.place
 inb:∀j∈t.place.toList,j<=t.mask
 size:t.place.size=es.size
 chain:∀(i j:Nat) h x,t.place[i]?∣j->es[i]?∣(h,x)->∃n,way t h n=j/\∀m,m<n->way t h m∈t.place.toList
def nodup_sub [DecidableEq c]:∀{l m:List c},l.Nodup->(∀x∈l,x∈m)-> ~~~l<= ~~~m
 |[],_,_,_=>Xh _
 | x::l,m,d,a=>by
   have%[f|g]:=nodup_cons.mp d;have b:=a x Zm;have h:=nodup_sub (m:=m.erase x) g λy i=>(List.mem_erase_of_ne (λe=>f (!2))).mpr (a y (Zk _ i))
   rw[List.length_erase_of_mem b]at h;have:=List.length_pos_of_mem b;rw[Zr]
   lia
def xu(W:WF t es)(R:t.place.size<=t.mask)(h:Int):∃m,m+10<=10*turns t.mask/\way t h m∉t.place.toList/\(∀q,q<m->way t h q∈t.place.toList):=by
 have%[k|l]:=W.pow;have ex:∃e,e<=t.mask/\e∉t.place.toList:=by
  refine Classical.byContradiction λb=>?_
  have: ~~~(List.range (t.mask+1))<= ~~~t.place.toList:=nodup_sub nodup_range λx o=>(λe c=>Classical.byContradiction λq=>b %[e,c|q]) x (by have:=mem_range.mp o;lia)
  rw[Yj,Zb]at this
  lia
 have%[e,c|f]:=ex;have%[n,p|hw]:=xt l h e c;have:∀d,∀n,n<=d->n+10<=10*turns t.mask->way t h n∉t.place.toList->∃m,m+10<=10*turns t.mask/\way t h m∉t.place.toList/\(∀q,q<m->way t h q∈t.place.toList):=by
  intro d
  induction d with
  | zero=>
    intro n r g i;have:n=0:=by lia
    subst this;exact%[0,g,i|λq j=>absurd j (X6 _)]
  | succ d s=>
    intro n r g i;by_cases a:∀q,q<n->way t h q∈t.place.toList
    .exact%[n,g,i|a]
    .have%[q|j]:=Classical.not_forall.mp a;have%[v|u]:=Classical.not_imp.mp j;exact s q ⋯ ⋯ u
 exact this n n (Zi _) p (hw▸f)
def kI(xs:Array a)(p:Nat)(x:a)(b:p<=xs.size):(insertAt xs p x).toList=xs.toList.take p++x::xs.toList.drop p:=by
 unfold insertAt;rw[Xg,toList_push,toList_extract,toList_extract,List.extract_eq_take_drop,List.extract_eq_take_drop];rw[drop_zero,Nat.sub_zero,Zn (l:=xs.toList.drop p) ∅];simp
def xv(xs:Array c)(x:c)(f:p<=xs.size)(i:Nat):(insertAt xs p x)[i]? =if i<p then xs[i]? else if i=p then some x else xs[i-1]? :=by
 have e:(insertAt xs p x)[i]? =(insertAt xs p x).toList[i]? :=by simp
 rw[e,kI xs p x f];have g: ~~~(xs.toList.take p)=p:=!2
 by_cases a:i<p
 .rw[if_pos a,Ya ⋯,List.getElem?_take,if_pos a];simp
 .rw[if_neg a,Yb ⋯,g];by_cases b:i=p
  .rw[if_pos b,b,sub_self];rfl
  .rw[if_neg b];obtain⟨d,h⟩:∃d,i-p=d+1:=%[i-p-1|⋯]
   rw[h,List.getElem?_cons_succ,getElem?_drop];rw[show p+d=i-1 by lia];simp
def iU(xs:Array a)(p:Nat)(x:a)(b:p<=xs.size):(insertAt xs p x).size=xs.size+1:=by
 rw[<-Zb,kI xs p x b,Z9,Zr,Yl,Yh,Zb]
 lia
def Ca(t:SetTable)(h:Int):∀n,(stand t h n).j+(stand t h n).more<=t.mask
 | 0=>by
   show bits h%(t.mask+1) +(runEnd t.mask _-bits h%(t.mask+1))<=t.mask;have:=mod_lt (bits h) (show 0<t.mask+1 from succ_pos _);unfold runEnd
   split<;> lia
 | n+1=>by
   have a:=Ca t h n;show(t.advance _).j+(t.advance _).more<=t.mask;unfold advance
   split
   .lia
   .dsimp only[leap];have:=mod_lt ((stand t h n).i*5+1+(stand t h n).perturb/32) (show 0<t.mask+1 from succ_pos _);unfold runEnd
    split<;> lia
def tQ(t:SetTable)(h:Int)(n:Nat):way t h n<=t.mask:=by
 have:=Ca t h n;unfold way
 lia
def WF.put(W:WF t es)(O:way t h m∉t.place.toList)(Q:∀q,q<m->way t h q∈t.place.toList)(r f:Bool):
 (t.put (way t h m)).2=below t.place (way t h m)/\(t.put (way t h m)).1.mask=t.mask/\(t.put (way t h m)).1.place.size=t.place.size+1/\(t.put (way t h m)).1.led=t.led/\(t.put (way t h m)).1.plain=t.plain/\(t.put (way t h m)).1.moves=t.moves/\
  WF {(t.put (way t h m)).1 with led:=r,plain:=f} (insertAt es (t.put (way t h m)).2 (h,x)):=by
 have T:has t.dummies (way t h m)=false:=by rw[W.dum];simp[has]
 have U:t.put (way t h m)=({t with place:=insertAt t.place (below t.place (way t h m)) (way t h m)},below t.place (way t h m)):=by
  unfold SetTable.put;dsimp only;rw[T];rfl
 rw[U];have%[g,H|I]:=jW W.rise (way t h m)
 generalize hp:below t.place (way t h m)=p at g H I
 have w:p<=es.size:=by rw[<-W.size];exact g
 have Y:∀i (hi:i<t.place.size),p<=i->way t h m<t.place[i]:=λi hi q=>by
  have:=I i hi q;rcases Nat.eq_or_lt_of_le this with e|e
  .exact absurd (by rw[e];simp) O
  .exact e
 have c:∀y,y∈(insertAt t.place p (way t h m)).toList↔y=way t h m\/y∈t.place.toList:=λy=>by
  rw[kI _ _ _ g,Yt,Yw];have:=Xd p t.place.toList
  constructor
  .rintro(q|q|q)
   .exact .inr (Yy q)
   .exact .inl q
   .exact .inr (List.mem_of_mem_drop q)
  .rintro(q|q)
   .exact .inr (.inl q)
   .rw[<-this]at q;rcases Xp q with q|q
    .exact .inl q
    .exact .inr (.inr q)
 refine%[ρ,ρ,iU _ _ _ g,ρ,ρ,ρ,W.pow,W.big,W.dum,?_,?_,?_|?_]
 .intro a b ha A B;have l:(insertAt t.place p (way t h m))[a]?∣(insertAt t.place p (way t h m))[a]:=by simp
  have d:(insertAt t.place p (way t h m))[b]?∣(insertAt t.place p (way t h m))[b]:=by simp
  show(insertAt t.place p (way t h m))[a]<(insertAt t.place p (way t h m))[b];rw[xv _ _ g]at l d;have ab:b<t.place.size+1:=(iU t.place p (way t h m) g)▸A;by_cases C:a<p
  .rw[if_pos C]at l;have%[u|E]:=Array.getElem?_eq_some_iff.mp l;rw[<-E];by_cases r:b<p
   .rw[if_pos r]at d;have%[f|v]:=Array.getElem?_eq_some_iff.mp d;exact v▸W.rise a b u f B
   .rw[if_neg r]at d;by_cases f:b=p
    .rw[if_pos f]at d;exact(Za d)▸H a u C
    .rw[if_neg f]at d;have%[v|G]:=Array.getElem?_eq_some_iff.mp d;exact G▸W.rise a (b-1) u v ⋯
  .rw[if_neg C]at l;have r: ¬ b<p:=by lia
   have f: ¬ b=p:=by lia
   rw[if_neg r,if_neg f]at d;have%[v|G]:=Array.getElem?_eq_some_iff.mp d;rw[<-G];by_cases u:a=p
   .rw[if_pos u]at l;exact(Za l)▸Y (b-1) v ⋯
   .rw[if_neg u]at l;have%[E|a4]:=Array.getElem?_eq_some_iff.mp l;exact a4▸W.rise (a-1) (b-1) E v ⋯
 .intro y hy;rcases(c y).mp hy with q|q
  .rw[q];exact tQ t h m
  .exact W.inb y q
 .rw[iU _ _ _ g,iU _ _ _ w,W.size]
 .intro i j h' J hi o;have L:∀n,way {t with place:=insertAt t.place p (way t h m),led:=r,plain:=f} h' n=way t h' n:=λn=>rj (t':=t) (by rfl) h' n
  have key:∃n,way t h' n=j/\∀q,q<n->way t h' q∈(insertAt t.place p (way t h m)).toList:=by
   rw[xv _ _ g]at hi;rw[xv _ _ w]at o;by_cases M:i<p
   .rw[if_pos M]at hi o;have%[n,n1|z]:=W.chain i j h' J hi o;exact%[n,n1|λq s=>(c _).mpr (.inr (z q s))]
   .rw[if_neg M]at hi o;by_cases N:i=p
    .rw[if_pos N]at hi o;cases hi;cases o;exact%[m,ρ|λq s=>(c _).mpr (.inr (Q q s))]
    .rw[if_neg N]at hi o;have%[n,n1|z]:=W.chain (i-1) j h' J hi o;exact%[n,n1|λq s=>(c _).mpr (.inr (z q s))]
  have%[n,n1|z]:=key;exact%[n,by rw[L];exact n1|λq s=>by rw[L];exact z q s]
abbrev nb(t:SetTable)(h:Int):Nat->Nat
 | 0=>0
 | r+1=>nb t h r+(runEnd t.mask (aO t h r).1-(aO t h r).1) +1
def Cb(t:SetTable)(h:Int):∀r d,d<=runEnd t.mask (aO t h r).1-(aO t h r).1->
 stand t h (nb t h r+d)=%[(aO t h r).1+d,runEnd t.mask (aO t h r).1-(aO t h r).1-d,(aO t h r).1,(aO t h r).2|none]:=by
 have a:∀n i b,stand t h n=%[i,runEnd t.mask i-i,i,b|none]->∀d,d<=runEnd t.mask i-i->stand t h (n+d)=%[i+d,runEnd t.mask i-i-d,i,b|none]:=by
  intro n i b e d
  induction d with
  | zero=>intro _;rw[add_zero,e];rfl
  | succ d c=>
    intro f;show t.advance (stand t h (n+d))=_;rw[c ⋯];unfold advance;rw[if_pos ⋯]
    grind
 intro r
 induction r with
 | zero=>exact a 0 _ _ rfl
 | succ r c=>
   refine a _ _ _ ?_;show t.advance _=_;rw[c _ (Zi _)];unfold advance;rw[if_neg ⋯];rfl
def xw(t:SetTable)(h:Int)(r d:Nat)(a:d<=runEnd t.mask (aO t h r).1-(aO t h r).1):way t h (nb t h r+d)=(aO t h r).1+d:=by
 unfold way;rw[Cb t h r d a]
abbrev ff(owner:Array (Option Nat))(j:Nat):Bool:=(owner.getD j (some 0)).isSome
def ro(t:SetTable)(h:Int)(owner:Array (Option Nat)):∀(fuel r:Nat),(∃a,r<=a/\a<r+fuel/\ff owner (aO t h a).1=false)->(∀m,m<nb t h r->ff owner (way t h m)=true)->
 ∃j n,layClean.free t.mask owner fuel (aO t h r).1 (aO t h r).2∣j/\way t h n=j/\ff owner j=false/\∀m,m<n->ff owner (way t h m)=true
 | 0,r,⟨a,p,s,_⟩,_=>by lia
 | fuel+1,r,⟨a,p,s,g⟩,i=>by
   rw[layClean.free];have u:runEnd t.mask (aO t h r).1>=(aO t h r).1:=by unfold runEnd;split<;> lia
   have tk:∀k,(owner.getD ((aO t h r).1+k) (some 0)).isNone=!ff owner ((aO t h r).1+k):=λk=>by
    unfold ff;cases owner.getD ((aO t h r).1+k) (some 0)<;> rfl
   cases l:(List.range (runEnd t.mask (aO t h r).1+1-(aO t h r).1)).find? λk=>(owner.getD ((aO t h r).1+k) (some 0)).isNone with
   | some k=>
     have%[o,b,bs,c|v]:=List.find?_eq_some_iff_append.mp l;have d:k∈List.range (runEnd t.mask (aO t h r).1+1-(aO t h r).1):=by rw[c];simp
     have d:=mem_range.mp d;have w:b=List.range k:=by
      have y: ~~~b=k:=by
       have:(List.range (runEnd t.mask (aO t h r).1+1-(aO t h r).1))[~~~b]?∣k:=by rw[c];simp
       rw[List.getElem?_range (by have:=(Xo this).1;simpa using this)]at this;exact Za this
      have z:b=(List.range (runEnd t.mask (aO t h r).1+1-(aO t h r).1)).take k:=by
       rw[c,<-y];simp
      rw[z,List.take_range,min_eq_left ⋯]
     dsimp only;refine%[_,nb t h r+k,ρ,xw t h r k ⋯,?_|λm f=>?_]
     .rw[tk]at o;simpa using o
     .by_cases q:m<nb t h r
      .exact i m q
      .have:=v (m-nb t h r) (w▸mem_range.mpr ⋯);rw[tk]at this;rw[show m=nb t h r+(m-nb t h r) by lia,xw t h r _ ⋯];simpa using this
   | none=>
     have all:∀k,k<=runEnd t.mask (aO t h r).1-(aO t h r).1->ff owner ((aO t h r).1+k)=true:=λk d=>by
      have:=(List.find?_eq_none.mp l) k (mem_range.mpr ⋯);rw[tk]at this;simpa using this
     have A:r≠a:=λe=>by
      have:=all 0 (Xh _);rw[add_zero,e,g]at this;cases this
     dsimp only;exact ro t h owner fuel (r+1) %[a,⋯,⋯|g] λm f=>by
      by_cases q:m<nb t h r
      .exact i m q
      .have f:m<nb t h r+(runEnd t.mask (aO t h r).1-(aO t h r).1) +1:=f;rw[show m=nb t h r+(m-nb t h r) by lia,xw t h r _ ⋯];exact all _ ⋯
structure LO (t:SetTable) (hs:ZL) (owner:Array _):Prop where
 size:owner.size=t.mask+1
 own:∀j q,owner[j]?∣some q->∃h,hs[q]?∣h/\∃n,way t h n=j/\∀m,m<n->ff owner (way t h m)=true
 all:∀q,q< ~~~hs->∃j:Nat,owner[j]?∣some q
 one:∀(j j' q:Nat),owner[j]?∣some q->owner[j']?∣some q->j=j'
def gJ(b:j<owner.size):ff owner j=true↔∃q,owner[j]?∣some q:=by
 unfold ff;have e:owner.getD j (some 0)=owner[j]:=!2
 rw[e];have a:owner[j]?∣owner[j]:=by simp
 rw[a];cases owner[j]with
 | none=>simp
 | some q=>simp
def LO.step(L:LO t f owner)(J:t.mask+1=2^k)(room: ~~~f<=t.mask)(h:Int):
 ∃j,layClean.free t.mask owner (turns t.mask) (bits h%(t.mask+1)) (bits h)∣j/\LO t (f++[h]) (owner.setIfInBounds j (some f.length)):=by
 have d:∀h n,way t h n<owner.size:=λh n=>by rw[L.size];have:=tQ t h n;lia
 have ex:∃e,e<=t.mask/\ff owner e=false:=by
  refine Classical.byContradiction λv=>?_
  have all:∀e,e<t.mask+1->ff owner e=true:=λe c=>by
   cases q:ff owner e with
   | true=>rfl
   | false=>exact absurd %[e,⋯|q] v
  let g:Nat->Nat:=λe=>((owner[e]?).getD none).getD 0
  have w:∀e,e<t.mask+1->owner[e]?∣some (g e):=λe c=>by
   have%[q|o]:=(λe c=>(gJ (L.size▸c)).mp (all e c)) e c;show owner[e]?∣some (((owner[e]?).getD none).getD 0);rw[o];rfl
  have nd:((List.range (t.mask+1)).map g).Nodup:=by
   rw[X3,X9];refine Xj (λ{a b} M N A q=>A ?_) (nodup_iff_pairwise_ne.mp nodup_range);have E:=w b (mem_range.mp N);rw[<-q]at E;exact L.one a b _ (w a (mem_range.mp M)) E
  have:=nodup_sub nd λy O=>by
   have%[e,c|rfl]:=Xr O;have%[h',l|_]:=L.own e _ (w e (mem_range.mp c));exact mem_range.mpr (Xo l).1
  rw[Z6,Yj,Yj]at this
  lia
 have%[e,c|B]:=ex;have%[r,hr|o]:=ot J h e c;have%[j,n,Q,G,T|U]:=ro t h owner (turns t.mask) 0 %[r,Xh _,⋯|o▸B] (λm p=>absurd p (X6 _));refine%[j,Q|?_];have Y:j<owner.size:=G▸d h n;have nj:∀q,owner[j]? ≠some _:=λq e=>by
  have:=(gJ Y).mpr %[q|e];rw[T]at this;cases this
 have get:∀i,(owner.setIfInBounds j (some f.length))[i]? =if j=i then some _ else owner[i]? :=λi=>by
  rw[Array.getElem?_setIfInBounds]
  split
  .first|rfl|simp
  .rfl
 have keep:∀i,ff owner i=true->i<owner.size->ff (owner.setIfInBounds j _) i=true:=λi hi H=>by
  have%[q|e]:=(gJ H).mp hi;refine(gJ (Array.size_setIfInBounds▸H)).mpr ?_;rw[get]
  split
  .exact%[_|ρ]
  .exact%[q|e]
 refine%[by rw[Array.size_setIfInBounds];exact L.size,λi q e=>?_,λq o=>?_|λi I q e s=>?_]
 .rw[get]at e
  split at e
  .rename_i C
   cases e;refine%[h,by simp,n,by rw[G,C]|λm p=>keep _ (U m p) (d h m)]
  .have%[h',l,n',e2|e3]:=L.own i q e;exact%[h',(Ya (Xo l).1)▸l,n',e2|λm p=>keep _ (e3 m p) (d h' m)]
 .rw[Z9,Yk]at o;by_cases e:q= ~~~f
  .exact%[j|by rw[get,if_pos rfl,e]]
  .have%[i|hi]:=L.all q ⋯;refine%[i|?_];rw[get,if_neg]
   .exact hi
   .intro C;rw[<-C]at hi;exact nj q hi
 .have u:∀i,owner[i]?∣some f.length->False:=λi e=>by
   have%[h',l|_]:=L.own i _ e;have:=(Xo l).1
   lia
  rw[get]at e s
  split at e<;> split at s
  .lia
  .cases e;exact absurd s (λz=>u I z)
  .cases s;exact absurd e (λz=>u i z)
  .exact L.one i I q e s
def vc(c:t.mask+1=2^k)(a:Array Int)(room:a.size<=t.mask+1):∃owner,layClean t.mask a∣owner/\LO t a.toList owner:=by
 have d:∀rest done owner,LO t done owner-> ~~~(done++rest)<=t.mask+1->
  ∃b,rest.foldl (λacc h=>do
   let(owner,k)<-acc
   let j<-layClean.free t.mask owner (turns t.mask) (bits h%(t.mask+1)) (bits h)
   pure (owner.setIfInBounds j (some k),k+1)) (some (owner,~~~done))∣(b,~~~(done++rest))/\LO t (done++rest) b:=by
  intro rest
  induction rest with
  | nil=>intro done owner L _;exact%[owner,by simp|↑L]
  | cons h rest g=>
    intro done owner L i;simp only[Z9,Zr]at i;have%[j,f|l]:=L.step c ⋯ h;have%[b,e|L2]:=g _ _ l (!2);refine%[b,?_|↑L2];rw[Y9];have m:(do
     let(owner,k)<-(some (owner,~~~done))
     let j<-layClean.free t.mask owner (turns t.mask) (bits h%(t.mask+1)) (bits h)
     pure (owner.setIfInBounds j (some k),k+1))∣(owner.setIfInBounds j (some done.length),~~~(done++[h])):=by
     show(layClean.free t.mask owner _ _ _).bind _=_;rw[f];simp
    rw[m,e];simp
 have n:LO t [] (Array.replicate (t.mask+1) none):=%[by simp,λj q e=>by
  rw[Array.getElem?_replicate]at e
  split at e<;> simp at e,λq o=>absurd o (X6 _)|λj p q e _=>by
  rw[Array.getElem?_replicate]at e
  split at e<;> simp at e]
 have%[owner,e|L]:=d a.toList [] _ n (room);refine%[owner,?_|L];unfold layClean;rw[<-Array.foldl_toList];rw[show(0)= ~~~([]) from rfl,e];rfl
def ve(n:Nat):∀fuel k,3<=k->n<2^(k+fuel)->(2^k<=2*n\/k=3)->∃a,3<=a/\sizeAbove.go n fuel (2^k)=2^a/\n<2^a/\(2^a<=2*n\/a=3)
 | 0,k,b,c,d=>%[k,b,rfl,c|d]
 | fuel+1,k,b,c,d=>by
   rw[sizeAbove.go];by_cases h:2^k<=n
   .rw[if_pos h];have e:2^k*2=2^(k+1):=by rw[pow_succ]
    rw[e];exact ve n fuel _ ⋯ ((show k+1+fuel=k+(fuel+1) by lia)▸c) (.inl ⋯)
   .rw[if_neg h];exact%[k,b,ρ,⋯|d]
def xy(a:n<2^60):∃k,3<=k/\sizeAbove n=2^k/\n<2^k/\(2^k<=2*n\/k=3):=
 ve n 64 3 (Zi _) (Zg a (Nat.pow_le_pow_right (!1) ∅)) (.inr rfl)
def oz [DecidableEq c]:∀{l m:List c},l.Nodup->m.Nodup->(∀x,x∈l↔x∈m)->l.Perm m
 |[],m,_,_,h=>by
  cases m with
  | nil=>simp
  | cons x m=>exact absurd ((h x).mpr Zm) ∅
 | x::l,m,d,b,h=>by
   have%[f|g]:=nodup_cons.mp d;refine List.Perm.trans (List.Perm.cons x (oz g (b.erase x) λy=>?_)) (List.perm_cons_erase ((h x).mp Zm)).symm
   constructor
   .intro a;exact(List.mem_erase_of_ne (λe=>f (!2))).mpr ((h y).mp (Zk _ a))
   .intro a;rcases mem_cons.mp ((h y).mpr (List.mem_of_mem_erase a))with q|q
    .exact absurd q (λe=>by rw[e]at a;exact b.not_mem_erase a)
    .exact q
def laid_ok{t:SetTable}(hp:t.mask+1=2^k)(C:7<=t.mask)(es:Array (Int×Value))(room:es.size<=t.mask)(finger moves:Nat)(led plain:Bool):
 ∃t' c,laid t.mask finger moves led plain (es\1)∣(t',c)/\t'.mask=t.mask/\t'.led=led/\t'.plain=plain/\t'.moves=moves/\WF t' (c.filterMap (es[·]?))/\(c.filterMap (es[·]?)).toList.Perm es.toList:=by
 have%[owner,e|L]:=vc hp (es\1) (by rw[size_map];lia);have E:(es\1).toList.length=es.size:=by simp
 obtain⟨live,u⟩:∃live,(List.range (t.mask+1)).filterMap (λj=>(owner.getD j none).map (λq=>(j,q)))=live:=%[_|rfl]
 refine%[%[t.mask,(live\1).toArray,#[],finger,led,moves|plain],(live\2).toArray,by unfold laid;rw[e,<-u];rfl,ρ,ρ,ρ,ρ|?_];have gd:∀j q,owner.getD j none∣q↔owner[j]?∣some q:=λj q=>by
  rw[Array.getD_eq_getD_getElem?];cases owner[j]? with
  | none=>simp
  | some o=>simp
 have mem:∀j q,(j,q)∈live↔owner[j]?∣some q:=λj q=>by
  rw[<-u,mem_filterMap]
  constructor
  .rintro⟨G,ab,H⟩;have%[w,r|I]:=map_eq_some_iff.mp H;cases I;exact(gd j q).mp r
  .intro ho;have:j<owner.size:=by
    have%[d|_]:=Array.getElem?_eq_some_iff.mp ho;exact d
   refine%[j,mem_range.mpr (by rw[L.size]at this;exact this)|?_];rw[(gd j q).mpr ho];rfl
 have g:(live\1).Pairwise (·<·):=by
  rw[<-u,X9,List.pairwise_filterMap];refine List.Pairwise.imp (λ{a b} s x hx y J=>?_) List.pairwise_lt_range;have%[_,_|rfl]:=map_eq_some_iff.mp hx;have%[_,_|rfl]:=map_eq_some_iff.mp J;exact s
 have v:∀j q,(j,q)∈live->q<es.size:=λj q h=>by
  have%[h',r|_]:=L.own j q ((mem j q).mp h);have:=(Xo r).1
  lia
 have A:(live\2).Nodup:=by
  rw[X3,X9];refine Xj (λ{a b} M C s f=>?_) (by rw[X9]at g;exact g);have d:=(mem a.1 a.2).mp M;have N:=(mem b.1 b.2).mp C;rw[<-f]at N;have:=L.one _ _ _ d N
  lia
 have B:(live\2).Perm (List.range es.size):=oz A nodup_range λq=>by
  constructor
  .intro f;have%[%[j|w],d|rfl]:=Xr f;exact mem_range.mpr (v j w d)
  .intro f;have%[j|O]:=L.all q (E▸mem_range.mp f);exact Xs %[(j,q),(mem j q).mpr O|rfl]
 have fm:∀(l:List Nat),(∀q∈l,q<es.size)->l.filterMap (es[·]?)=l.map (λq=>es.getD q (0,Value.none)):=by
  intro l
  induction l with
  | nil=>intro _;rfl
  | cons q l ih=>
    intro f;have d:=f q Zm;have r:es[q]?∣es.getD q (0,Value.none):=by simp[Array.getD,d]
    rw[Y2,r,Yq,ih λy J=>f y (Zk _ J)]
 have Q:((live\2).toArray.filterMap (es[·]?)).toList=(live\2).map (λq=>es.getD q (0,Value.none)):=by
  rw[Array.toList_filterMap,List.toList_toArray];exact fm _ λq f=>by
   have%[%[j|w],d|rfl]:=Xr f;exact v j w d
 have er:es.toList=(List.range es.size).map (λq=>es.getD q (0,Value.none)):=by
  apply Zz
  .simp
  .intro i d N;have d:=↑d
   simp[Array.getD,d]
 refine%[%[%[k|hp],C,ρ,?_,λj O=>?_,?_|λi j h x hi z=>?_]|?_]
 .intro a b M T s;have:=List.pairwise_iff_getElem.mp g a b (M) (T) s;simpa using this
 .have%[%[G|q],d|rfl]:=Xr O;have:=(Array.getElem?_eq_some_iff.mp ((mem G q).mp d)).1;rw[L.size]at this
  lia
 .rw[<-Zb (xs:=Array.filterMap _ _),Q];simp
 .have hi:(live\1)[i]?∣j:=↑hi
  have z:((live\2).toArray.filterMap (es[·]?)).toList[i]?∣(h,x):=↑z
  rw[Q,Ys,Zl]at z;rw[Zl]at hi;cases U:live[i]? with
  | none=>rw[U]at hi;cases hi
  | some p=>
    have%[G|q]:=p;rw[U]at hi z;cases hi;have hm:=Z8 U;have%[h',r,n,n1|n2]:=L.own _ q ((mem _ q).mp hm);have f:=v _ q hm;have eh:h'=h:=by
     have I:(es\1).toList[q]?∣(es[q]).1:=by simp[f]
     rw[I]at r;have e3:es.getD q (0,Value.none)=es[q]:=by simp[Array.getD,f]
     simp only[Function.comp,Option.map_some,e3,Option.some.injEq]at z;rw[z]at r;exact(Za r).symm
    subst eh;have wm:∀n,way {mask:=t.mask,place:=(live\1).toArray,dummies:= #[],finger:=finger,led:=led,moves:=moves,plain:=plain} h' n=way t h' n:=λn=>rj (t':=t) (by rfl) h' n
    refine%[n,by rw[wm];exact n1|λm Y=>?_];rw[wm];have%[w|H]:=(gJ (by rw[L.size];have:=tQ t h' m;lia)).mp (n2 m Y);exact Xs %[(way t h' m,w),(mem _ _).mpr H|rfl]
 .rw[Q,er];exact B.map _
section
variable{prog:Program}{w:World}{K:Type}[DecidableEq K]{knd:KeyKind prog w K}{A:Around}{E:ZD}{s:Shared}
abbrev EL(knd:KeyKind prog w K)(h:Heap)(es:Array (Int×Value)):Prop:=∀(i:Nat) e,es[i]?∣e->∃r k,e=(tupleKeyHash knd k,Value.ref r)/\IsTupleKey knd h k r
def mI(g:IsTupleKey knd s.heap ks r)(h:Q false s):↥A (ofAClassStatement 8 (.ref r)) Q E s:=by
 have l:=g.typeIs;have%[o,c,n,m,_,p|hi]:=g;unfold ofAClassStatement;refine Z2 (wpAny_typeOf l (Z2 (Z3 (Z2 (wpAny_seqItems m p (Z2 ?_))))));rw[<-forIn_toList];refine wpAny_forIn_list _ (λrest r s'=>r=(none,())/\s'=s/\∃i,ItemsAre knd i rest) _ ?_ ?_ _ _ %[rfl,rfl,ks|hi]
 .intro x rest r s' %[rfl,rfl,i|d];cases d with
  | @cons k1 v f j q b=>
    have u:=knd.byValue _ _ q;have e:ofAClassStatement 7 x=pure false:=by
     cases x with
     | ref a=>simp[carriedByValue]at u
     | _=>first|rfl|lia|lia
    refine Z2 ?_;rw[e];exact Z3 (Z3 %[rfl,rfl,f|b])
 .intro r s' %[rfl,rfl|_];exact Z3 h
def xz(d:IsTupleKey knd s.heap ks r):∀(l:ZF),(∀y∈l,∃a c,y=Value.ref a/\IsTupleKey knd s.heap c a)->∀{Q:Bool->Shared->Prop},Q false s->↥A (searchCouldBeSeen (.ref r) l) Q E s:=by
 intro l g Q h;refine Z2 (wpAny_forIn_list _ (λrest x s'=>x=(none,())/\s'=s/\∀y∈rest,∃a c,y=Value.ref a/\IsTupleKey knd s.heap c a) _ ?_ ?_ _ _ %[rfl,rfl|g])
 .intro y rest x s' %[rfl,rfl|e];have%[a,c,rfl|b]:=e y Zm;have f:=λy i=>e y (Zk _ i)
  dsimp only
  split
  .exact Z3 %[rfl,rfl|f]
  .exact Z2 (wpAny_eqIsQuiet_tuple d (Z2 (wpAny_eqIsQuiet_tuple b (Z2 (mI d (Z2 (mI b (Z3 %[rfl,rfl|f]))))))))
 .intro x s' %[rfl,rfl|_];exact Z3 h
def tR(hu:A.units<cLine)(ho:s.heap.get? a∣o)(hd:o.data= .set es ep t)(W:WF t es)(room:t.place.size<=t.mask)(ac:t.mask<=9000)
 (el:EL knd s.heap es) (hk:IsTupleKey knd s.heap k r)
 (h1:(∃(i:Nat) (g:Addr),es[i]?∣(tupleKeyHash knd k,Value.ref g)/\IsTupleKey knd s.heap k g)->Q (.there none) s)
 (h2:∀m,way t (tupleKeyHash knd k) m∉t.place.toList->(∀q,q<m->way t (tupleKeyHash knd k) q∈t.place.toList)->(∀(i:Nat) g u,es[i]?∣(tupleKeyHash knd u,Value.ref g)->IsTupleKey knd s.heap u g->u≠k)->Q (.free (way t (tupleKeyHash knd k) m) false) s):
 ↥A (setSearch a (.ref r) (tupleKeyHash knd k) true) Q E s:=by
 generalize hh:tupleKeyHash knd k=h at h1 h2
 have hf:t.fits es.size=true:=by
  unfold fits fill;rw[W.dum];simp[W.size];exact W.size▸room
 have%[M,m1,m2|m3]:=xu W room h;have me:t.slot (way t h M)= .empty:=by
  rcases jX W.rise W.dum (way t h M)with⟨i,e,_⟩|⟨_,e⟩
  .exact absurd (mem_toList_iff.mpr (Array.mem_of_getElem? e)) m2
  .exact e
 have ae:t.gaveWay=false:=by
  have%[c|hc]:=W.pow;have hb:=W.big;have c0:c≠0:=λq=>by rw[q]at hc;lia
  have%[c'|rfl]:=Nat.exists_eq_succ_of_ne_zero c0;rw[pow_succ]at hc;unfold gaveWay;have:t.mask%2=1:=by lia
  simp[this]
 have N:∀(fuel n:Nat) (st:Option Probe),st.getD (t.probeStart h)=stand t h n->n<=M->M<n+fuel->(∀j,j<n->∀(i:Nat) g u,t.slot (way t h j)= .live i->es[i]?∣(tupleKeyHash knd u,Value.ref g)->IsTupleKey knd s.heap u g->u≠k)->
  ↥A (setSearchFrom a (.ref r) h true fuel st) Q E s:=by
  intro fuel
  induction fuel with
  | zero=>intro n st _ a1 a2;lia
  | succ fuel ih=>
    intro n st ag hn a4 O;unfold setSearchFrom;refine Z2 (wpAny_setState_of ho hd hf ?_);dsimp only;rw[ae];simp only[Y0,if_false];rw[ag]
    generalize ai:SetTable.probe t _ h (stand t h n)=pr
    have l:SetTable.probe.go t (λi=>((es[i]?)\1).getD 0) h (10*turns t.mask) (stand t h n)=pr:=ai;have%[q,q1,q2,q3|q4]:=va (t:=t) W.dum (hashAt:=λi=>((es[i]?)\1).getD 0) (h:=h) (10*turns t.mask) n M hn ⋯ me;rcases q4 with⟨I,e2⟩|⟨i,I,e2,e3⟩
    .rw[e2]at l;subst l;have hq:q=M:=by
      rcases Nat.eq_or_lt_of_le q2 with z|z
      .exact z
      .have:=m3 q z;rcases jX W.rise W.dum (way t h q)with⟨i,_,T⟩|⟨z2,_⟩
       .rw[I]at T;cases T
       .exact absurd this z2
     subst hq;dsimp only;refine Z3 (h2 q m2 m3 λi g u p v B=>?_);subst B;rw[hh]at p;have hi:i<es.size:=(Array.getElem?_eq_some_iff.mp p).1;have hp:t.place[i]?∣t.place[i]'(W.size▸hi):=by simp
     have%[U,c1|c2]:=W.chain i _ h _ hp p;have C:=rh W.rise hp;have ak:U<q:=by
      rcases Nat.lt_trichotomy U q with z|z|z
      .exact z
      .rw[z,]at c1;rw[<-c1,me]at C;cases C
      .exact absurd (c2 q z) m2
     rw[<-c1]at C;by_cases Y:U<n
     .exact O U Y i g u C (hh▸p) v rfl
     .have%[G,T|ab]:=q3 U ⋯ ak;rw[C]at T;cases T;rw[p]at ab;exact ab rfl
    .rw[e3]at l;subst l;obtain⟨x0,p⟩:∃e,es[i]?∣e:=by
      have al:t.place[i]?∣way t h q:=by
       rcases jX W.rise W.dum (way t h q)with⟨G,p1,H⟩|⟨_,H⟩
       .rw[I]at H;cases H;exact p1
       .rw[I]at H;cases H
      have:=(Array.getElem?_eq_some_iff.mp al).1;exact%[es[i]'(W.size▸this)|by simp[<-W.size,this]]
     have%[g,u,rfl|v]:=el i x0 p;have a5:q<M:=Nat.lt_of_le_of_ne q2 λz=>by rw[z,me]at I;cases I
     have J:↥A (do
      let f<-holding [Value.ref g] (eqBool (Value.ref g) (Value.ref r))
      let x<-setState a
      if(true&&f)=true then pure (SetFound.there none)
      else match x.2.snd.sameMemory t.moves t.mask with
       | some same=>
         match if same=true then x.2.snd.slot (way t h q)else Slot.empty with
         | Slot.live G=>
           match x.fst[G]? with
           | some (_,y')=>do
             let b<-isSame y' (Value.ref g)
             let d<-pure (if b=true then some G else none)
             match d with
              | none=>do
                rule "set.search.anew"
                setSearchFrom a (Value.ref r) h true fuel none
              | some G=>
                if f=true then pure (SetFound.there (some G))
                else setSearchFrom a (Value.ref r) h true fuel (some (stand t h (q+1)))
           | none=>do
             let d<-pure none
             match d with
              | none=>do
                rule "set.search.anew"
                setSearchFrom a (Value.ref r) h true fuel none
              | some G=>
                if f=true then pure (SetFound.there (some G))
                else setSearchFrom a (Value.ref r) h true fuel (some (stand t h (q+1)))
         | x=>do
           let d<-pure none
           match d with
            | none=>do
              rule "set.search.anew"
              setSearchFrom a (Value.ref r) h true fuel none
            | some G=>
              if f=true then pure (SetFound.there (some G))
              else setSearchFrom a (Value.ref r) h true fuel (some (stand t h (q+1)))
       | x=>unsupported "set.changed-during-lookup:is-the-new-block-at-the-old-address") Q E s:=by
      refine Z2 (wpAny_holding (wpAny_eqBool_tuple hu v hk (Z2 (wpAny_setState_of ho hd hf ?_))));dsimp only;by_cases B:u=k
      .subst B;rw[Zf rfl];exact Z3 (h1 %[i,g,(by rw[p]at e2;exact e2)▸p|v])
      .rw[Zh B];have sm:t.sameMemory t.moves t.mask∣true:=by unfold sameMemory;rw[if_pos ∅]
       rw[sm];simp only[if_true];rw[I];dsimp only;rw[p];dsimp only;have same:isSame (Value.ref g) (Value.ref g)=pure true:=by
        unfold isSame;simp
       refine Z2 ?_;rw[same];refine Z3 ?_;simp only[if_true];refine Z2 (Z3 ?_);dsimp only;refine ih (q+1) _ rfl ⋯ ⋯ λj hj i2 r2 k2 s2 g2 t2=>?_
       by_cases an:j<n
       .exact O j an i2 r2 k2 s2 g2 t2
       .by_cases as:j=q
        .subst as;rw[I]at s2;cases s2;rw[p]at g2;have:g=r2:=by
          have:=Za g2;injection this with _ z
          injection z
         subst this;exact(v.inj t2)▸B
        .have%[i3,p1|H]:=q3 j ⋯ ⋯;rw[s2]at p1;cases p1;rw[g2]at H;intro z;rw[z]at H;exact H hh
     dsimp only;rw[p];dsimp only;by_cases L:(!t.led)=true
     .rw[if_pos L];refine Z2 (xz hk _ (λy hy=>?_) ?_)
      .have%[e,a0|rfl]:=Xr hy;have%[i2|hi2]:=Array.getElem?_of_mem ((Array.mem_filter.mp (mem_toList_iff.mp a0)).1);have%[r2,k2,rfl|a3]:=el i2 e hi2;exact%[r2,k2,ρ|a3]
      .exact J
     .rw[if_neg L];exact J
 exact N 100000 0 none rfl (Xh _) (by unfold turns at m1;lia) (λj hj=>absurd hj (X6 _))
end
structure IN (es:Array _) (t:SetTable) (led:Bool):Prop where
 wf:WF t es
 roomy:t.place.size*5<t.mask*3
 small:t.mask<=7\/t.mask+1<=8*es.size
 led:t.led=led
 plain:es.size≠0->t.plain=false
def IN.fits{es:Array _}{t:SetTable}{led:Bool}(I:IN es t led):t.fits es.size=true:=by
 unfold SetTable.fits fill;rw[I.wf.dum];have:=I.roomy;simp[I.wf.size];rw[<-I.wf.size]
 lia
def IN.fresh(finger moves:Nat)(led:Bool):IN #[] (SetTable.fresh finger moves led) led:=
 %[%[%[3|rfl],Zi _,rfl,λa b c=>absurd c (by simp[SetTable.fresh]),λj d=>by simp[SetTable.fresh]at d,rfl|λi j h x hi=>by simp[SetTable.fresh]at hi],show 0*5<7*3 from !1,.inl (Zi _),rfl|λq=>absurd rfl q]
section
variable{prog:Program}{w:World}{K:Type}[DecidableEq K]{knd:KeyKind prog w K}{A:Around}{E:ZD}{s:Shared}
def relay_w(d:s.heap.get? a∣o)(e:o.data= .set es z t)(i:t.fits es.size=true)(B:es.size<=n)(hw:n<=4000)
 (h:∀c t',c.toList.Perm es.toList->WF t' c->t'.led=t.led->t'.plain=t.plain->n<=t'.mask->t'.mask+1<=2*n\/t'.mask<=7->Q () {s with heap:=s.heap.update a (Obj.putSet c t')}):
 ↥A (setRelay a n) Q E s:=by
 have%[k,j,f,lt|l]:=xy (n:=n) ⋯;have C:8<=2^k:=Yg (by simp:8<=2^3) (Nat.pow_le_pow_right ∅ j);have g:2^k<=2*n\/2^k=8:=by
  rcases l with q|q
  .exact .inl q
  .exact .inr (by rw[q])
 have m:2^k<=8000:=by rcases g with q|q<;> lia
 let p:SetTable:={t with mask:=2^k-1}
 have%[t',b,r,G,u,v,H,W|P]:=laid_ok (t:=p) (k:=k) (by show 2^k-1+1=2^k;lia) (by show 7<=2^k-1;lia) es (by show es.size<=2^k-1;lia) t.finger _ t.led t.plain;have y:t.relaid (es\1) n∣(t',b):=by
  unfold relaid;rw[f];exact r
 have sz:(b.filterMap (es[·]?)).size=es.size:=by rw[<-Zb,P.length_eq,Zb]
 refine Z2 (wpAny_setState_of d e i ?_);dsimp only;rw[f,if_neg (by rw[PySem.sizeLine_eq];lia)];rw[y];refine Z2 ?_;show wpAny _ A (if((b.filterMap _).size != es.size)=true then _ else pure _) _ E s;rw[if_neg (by simp[sz])];exact Z3 (wpAny_storeSet_of d e (h _ t' P W u v ⋯ (by rcases g with q|q<;> lia)) (by rw[sz,PySem.sizeLine_eq];lia))
def Cc(d:s.heap.get? a∣o)(e:o.data= .set es i t)(f:t.fits es.size=true)(j:es.size<=1000)(m:es.size≠0)(c:t.plain=false)
 (h:∀b t',b.toList.Perm es.toList->IN b t' t.led->t'.plain=false->Q () {s with heap:=s.heap.update a (Obj.putSet b t')}):
 ↥A (setRelay a (grown es.size)) Q E s:=by
 have g:grown es.size=es.size*4:=by unfold grown;rw[if_neg ⋯]
 rw[g];refine relay_w d e f ⋯ ⋯ λb t' P W l p n m2=>?_
 have sz:b.size=es.size:=by rw[<-Zb,P.length_eq,Zb]
 exact h b t' P %[W,by rw[W.size,sz];lia,⋯,l|λ_=>p▸c] (p▸c)
def z4{led:Bool}(M:A.units<cLine)(n:s.heap.get? a∣o)(l:o.data= .set es ep t)(I:IN es t led)(hn:es.size+1<=1000)
 (el:EL knd s.heap es) (B:IsTupleKey knd s.heap k r) (hv:∀(s':Shared) (N:Bool->Shared->Prop),IsTupleKey knd s'.heap k r->N false s'->↥A (hashByValue 8 (.ref r)) N E s')
 (h1:(∃(i:Nat) (p:Addr),es[i]?∣(tupleKeyHash knd k,Value.ref p)/\IsTupleKey knd s.heap k p)->Q false {s with toks:=s.toks+(~~~k+1)})
 (O:(∀(i:Nat) (p:Addr) (C:List K),es[i]?∣(tupleKeyHash knd C,Value.ref p)->IsTupleKey knd s.heap C p->C≠k)->∀f t' G h',h'.get? a=some {o with data:= .set f G t'}->SameBut a s.heap h'->f.toList.Perm (es.toList++[(tupleKeyHash knd k,Value.ref r)])->IN f t' led->Q true {s with heap:=h',toks:=s.toks+(~~~k+1)}):
 ↥A (setAdd a (.ref r)) Q E s:=by
 unfold setAdd;refine wpAny_holding (Z2 (wpAny_pyHash_tuple M B ?_));unfold setAddHashed;refine wpAny_holding ?_;unfold setAddHashedIn;refine Z2 (wpAny_setState_of (s:={s with toks:=s.toks+(~~~k+1)}) n l I.fits ?_);dsimp only;have ns:byScan (Value.ref r) es=false:=rfl;rw[ns];simp only[Y0,if_false];have rm:=I.roomy;refine Z2 (tR (s:={s with toks:=s.toks+(~~~k+1)}) M n l I.wf ⋯ (by rcases I.small with q|q<;> lia) el B (λq=>?_) λm T m2 U=>?_)
 .exact Z3 (h1 q)
 .dsimp only;refine Z2 (wpAny_setState_of (s:={s with toks:=s.toks+(~~~k+1)}) n l I.fits ?_);dsimp only;have u:=I.wf;have%[p1,Y,p3,p4,p5,p6|Wp]:=u.put (x:=Value.ref r) T m2 t.led false;have%[_,_,_,_,_,_|Wq]:=u.put (x:=Value.ref r) T m2 (t.put (way t (tupleKeyHash knd k) m)).1.led (t.put (way t (tupleKeyHash knd k) m)).1.plain;have v:(t.put (way t (tupleKeyHash knd k) m)).2<=es.size:=by
   rw[p1,<-u.size];exact(jW u.rise _).1
  have d:(insertAt es (t.put (way t (tupleKeyHash knd k) m)).2 (tupleKeyHash knd k,Value.ref r)).size=es.size+1:=iU _ _ _ v;have g:(insertAt es (t.put (way t (tupleKeyHash knd k) m)).2 (tupleKeyHash knd k,Value.ref r)).toList.Perm (es.toList++[(tupleKeyHash knd k,Value.ref r)]):=by
   rw[kI _ _ _ v];have q:=Xd (t.put (way t (tupleKeyHash knd k) m)).2 es.toList;refine List.Perm.trans List.perm_middle ?_;rw[q];exact List.perm_append_comm (l₁:=[_])
  generalize ab:insertAt es _ _=c at Wp Wq d g
  have e:∀b:SetTable,WF b c->b.mask=t.mask->b.place.size=t.place.size+1->b.led=led->b.plain=false->
   ↥A (do storeSet a c b;if(!false&&b.tooFull)=true then do setRelay a (grown (es.size+1));pure true else pure true) Q E {s with toks:=s.toks+(~~~k+1)}:=λb y e1 e2 e3 e4=>by
   have H:=by
    have q:=get?_update_self (Obj.putSet c b) n (by rw[putSet_of c b l];rfl);rwa[putSet_of c b l]at q
   have b1:=SameBut.update s.heap a (Obj.putSet c b);refine Z2 (wpAny_storeSet_of n l ?_ (d▸Yg hn (!1)));have J:b.tooFull=true↔b.mask*3<=b.place.size*5:=by
    unfold tooFull fill;rw[y.dum];simp
   by_cases hf:b.tooFull=true
   .rw[if_pos (by simp[hf])];have z:b.fits c.size=true:=by
     unfold SetTable.fits fill;rw[y.dum];simp[y.size];exact y.size▸(by rw[e1,e2];have:=u.big;lia)
    rw[<-d];refine Z2 (Cc H rfl z ⋯ ⋯ e4 λh L P3 I3 _=>Z3 ?_);have g2:=by
     have q:=get?_update_self (Obj.putSet h L) H (by rfl);rwa[putSet_of h L rfl]at q
    exact O U h L _ _ g2 (b1.trans (SameBut.update _ a _)) (P3.trans g) (by rw[e3]at I3;exact I3)
   .rw[if_neg (by simp[hf])];refine Z3 (O U c b _ _ H b1 g %[y,⋯,?_,e3|λ_=>e4]);rw[e1,d];rcases I.small with q|q
    .exact .inl q
    .exact .inr ⋯
  by_cases j:(t.put (way t (tupleKeyHash knd k) m)).1.plain=true
  .rw[if_pos j];exact Z2 (hv _ _ B (e _ Wp Y p3 I.led rfl))
  .rw[if_neg j];exact e _ Wq Y p3 (p4.trans I.led) ↑j
end
end _ST
namespace _LL
open PySem PySem.Spec PyProof.Rows _ST
abbrev hZ{a:Type}[DecidableEq a](ps:List (Addr×a))(p:Addr×a):List (Addr×a):=if p.2∈ps\2 then ps else ps++[p]
abbrev bo{a:Type}[DecidableEq a](l:List (Addr×a)):List (Addr×a):=l.foldl hZ []
section
variable{κ:Type}[DecidableEq κ]
def Cd{ps:List _}{p q:Addr×κ}(h:q∈hZ ps p):q∈ps\/q=p:=by
 unfold hZ at h
 split at h
 .exact .inl h
 simp_all
def z5{ps:List (Addr×κ)}{p:Addr×κ}{k:κ}:k∈(hZ ps p)\2↔k∈ps\2\/k=p.2:=by
 unfold hZ;by_cases h:p.2∈ps\2
 .rw[if_pos h];exact%[.inl|λq=>q.elim id λe=>e▸h]
 .rw[if_neg h,Zd,Yt];simp
def xA{ps:List (Addr×κ)}{p:Addr×κ}(h:(ps\2).Nodup):((hZ ps p)\2).Nodup:=by
 unfold hZ
 split
 .exact h
 .rename_i a
  rw[Zd];exact nu h a
def yo:∀(l ps:List (Addr×κ)),(ps\2).Nodup->((l.foldl hZ ps)\2).Nodup/\(∀k,k∈(l.foldl hZ ps)\2↔k∈ps\2\/k∈l\2)/\(∀q∈l.foldl hZ ps,q∈ps\/q∈l)
 |[],ps,h=>%[h,λk=>by simp|λq a=> .inl a]
 | p::l,ps,h=>by
   have%[b,c|d]:=yo l _ (xA h);rw[Y9];refine%[b,λk=>?_|λq a=>?_]
   .rw[c,z5,Yq,Yw]
    grind
   .rcases d q a with z|z
    .rcases Cd z with z|z
     .exact .inl z
     .exact .inr (z▸Zm)
    .exact .inr (Zk _ z)
def dQ(l:List (Addr×κ)):((bo l)\2).Nodup:=(yo l [] X4).1
def h9(l:List (Addr×κ))(k:κ):k∈(bo l)\2↔k∈l\2:=by
 have:=(yo l [] X4).2.1 k;simpa [bo]using this
def bz(l:List (Addr×κ)):∀q∈bo l,q∈l:=λq a=>by
 rcases(yo l [] X4).2.2 q a with z|z
 .cases z
 .exact z
def tT(val:Nat->Addr×κ)(i:Nat):bo ((List.range (i+1)).map val)=hZ (bo ((List.range i).map val)) (val i):=by
 unfold bo;rw[Xa,Zd,foldl_append];rfl
end
section
variable{prog:Program}{w:World}{κ:Type}[DecidableEq κ]{knd:PySem.KeyKind prog w κ}{A:Around}{E:ZD}{s:Shared}{a:Addr}
abbrev oA(w:World)(knd:PySem.KeyKind prog w κ)(a:Addr)(ps:List (Addr×List κ))(h:Heap):Prop:=
 ∃o es b t,h.get? a∣o/\o.ExactSet/\o.data= .set es b t/\IN es t (!aW w)/\es.toList.Perm (ps.map λp=>(tupleKeyHash knd p.2,Value.ref p.1))
def oA.keep(S:oA w knd a ps h)(k:∀o,h.get? a∣o->h'.get? a∣o):oA w knd a ps h':=by
 have%[o,es,b,t,c|r]:=S;exact%[o,es,b,t,k o c|r]
def nC(x:IsTupleKey knd h k r)(q:∀o,h.get? r∣o->h'.get? r∣o):IsTupleKey knd h' k r:=by
 have%[o,b,n,c|z]:=x;exact%[o,b,n,q o c|z]
def Ce(u:A.units<cLine)(v:oA w knd a ps s.heap)(tk:∀q∈ps,IsTupleKey knd s.heap q.2 q.1)(y:IsTupleKey knd s.heap p.2 p.1)(room: ~~~ps+1<=1000)
 (B:∀(s':Shared) (l:Bool->Shared->Prop),IsTupleKey knd s'.heap p.2 p.1->l false s'->↥A (hashByValue 8 (.ref p.1)) l E s')
 (m:∀h' b tk,SameBut a s.heap h'->oA w knd a (hZ ps p) h'->s.toks<=tk->Q b {s with heap:=h',toks:=tk}):↥A (setAdd a (.ref p.1)) Q E s:=by
 have%[o,es,C,t,n,f,r,I|P]:=v;have Y:=by
  have:=P.length_eq;rw[Z6,Zb]at this;exact this
 have mem:∀i e,es[i]?∣e->∃q∈ps,e=(tupleKeyHash knd q.2,Value.ref q.1):=λi e g=>by
  have:=mem_toList_iff.mpr (Array.mem_of_getElem? g);have%[q,c|rfl]:=Xr (P.mem_iff.mp this);exact%[q,c|ρ]
 have G:EL knd s.heap es:=λi e g=>by
  have%[q,c|rfl]:=mem i e g;exact%[q.1,q.2,ρ|tk q c]
 refine z4 u n r I ⋯ G y B (λ⟨i,H,e,J⟩=>?_) λd h t' j h' g' L M N=>?_
 .have%[q,c|O]:=mem i _ e;have T:H=q.1:=by injection O with _ z;injection z
  subst T;refine m s.heap false _ (SameBut.refl a s.heap) ?_ (le_add_right _ _);unfold hZ;rw[if_pos (Xs %[q,c|(J.inj (tk q c)).symm])];exact%[o,es,C,t,n,f,r,I|P]
 .refine m h' true _ L ?_ (le_add_right _ _);unfold hZ;rw[if_neg]
  .refine%[_,h,j,t',g',f,ρ,N|M.trans ?_];rw[Zd];exact P.append_right _
  .intro U;have%[q,c|e]:=Xr U;have:=P.mem_iff.mpr (Xs %[q,c|rfl]);have%[i|hi]:=Xi this;exact d i q.1 q.2 ↑hi (tk q c) e
end
section
variable{prog:Program}{w:World}{κ:Type}[DecidableEq κ]{knd:PySem.KeyKind prog w κ}{A:Around}{R:Result->Shared->Prop}{I:Addr}{fp wr:List Addr}{G:Array GenState->Array GenState->Prop}{n:Nat}{P:Nat->Value->Prop}{St:Nat->Shared->Prop}
def qh(W:WalksS prog w A.in1 I fp wr G n P St)(S:Addr)(r:S∉fp)(Q:A.in1.units<cLine)(val:Nat->Addr×List κ)(u:∀i v,i<n->P i v->v= .ref (val i).1)(U:List (List κ))(hU: ~~~U<=999)(C:∀i,i<n->(val i).2∈U)(c:∀i,i<n->(val i).1≠S/\(val i).1∉wr)
 (T:∀i,i<n->∀(s':Shared) (B:Bool->Shared->Prop) (Y:ZD),IsTupleKey knd s'.heap (val i).2 (val i).1->B false s'->↥A.in1 (hashByValue 8 (.ref (val i).1)) B Y s'):
 ∀(k i:Nat) (s:Shared),n-i=k->i<=n->St i s->oA w knd S (bo ((List.range i).map val)) s.heap->(∀j,j<n->IsTupleKey knd s.heap (val j).2 (val j).1)->
  (∀s',Moved (S::wr) G s s'->oA w knd S (bo ((List.range n).map val)) s'.heap->R (.ok (.ret .none)) s')->codeAny (model prog w) A (.builtin "set.update.loop" %[[.ref S,.ref I]|[]]) R s:=by
 have out:S∉wr:=λh=>r (W.sub _ h)
 have more:∀b∈wr,b∈S::wr:=λb y=>Zk _ y
 intro k
 induction k with
 | zero=>
   intro i s E hi st H tk d;have e:i=n:=by lia
   subst e;refine codeAny_builtin F.entry_set_update_loop ?_;rw[Around.under_plainId F.plain_set_update_loop _];show wpAny _ A.in1 (pyNext (.ref I)>>= _) _ _ s;refine Z2 (W.done s _ _ st λf l=>?_);show wpAny _ A.in1 (ret Value.none) _ _ f;exact Z3 (d f (l.mono more) (H.keep λo e=>l.heap S o out e))
 | succ k ih=>
   intro i s E hi st H tk d;have lt:i<n:=Nat.lt_of_sub_eq_succ E
   refine codeAny_builtin F.entry_set_update_loop ?_;rw[Around.under_plainId F.plain_set_update_loop _];show wpAny _ A.in1 (pyNext (.ref I)>>= _) _ _ s;refine Z2 (W.item i s _ _ lt st λv f pv J l=>?_);obtain rfl:=u i v lt pv;have g:∀j,j<n->IsTupleKey knd f.heap (val j).2 (val j).1:=λj a=>nC (tk j a) λo e=>l.heap _ o (c j a).2 e
   have L:∀q∈bo ((List.range i).map val),IsTupleKey knd f.heap q.2 q.1:=λq hq=>by
    have%[j,a|rfl]:=Xr (bz _ q hq);exact g j (by have:=mem_range.mp a;lia)
   have room: ~~~(bo ((List.range i).map val))+1<=1000:=by
    have q:=nodup_sub (dQ ((List.range i).map val)) (m:=U) λk E=>by
     have%[p,hp|rfl]:=Xr ((h9 _ k).mp E);have%[j,a|rfl]:=Xr hp;exact C j (by have:=mem_range.mp a;lia)
    rw[Z6]at q
    lia
   refine Z2 (wpAny_holding (Ce (p:=val i) Q (H.keep (h':=f.heap) λo e=>l.heap S o out e) L (g i lt) room (λs' B=>T i lt s' B _) λh2 b ab M N z=>Z3 %[plainId_quiet F.plain_set_update_loop _|ih (i+1) _ (congrArg Nat.pred E) lt (W.frame _ f _ _ J z λb y o e=>?_) (by rw[tT];exact N) (λj a=>nC (g j a) λo e=>(M.2 _ (c j a).1)▸e) λs3 m3 O=>?_]))
   .rw[M.2 b (λq:b=S=>r (q▸y))];exact e
   .refine d s3 (Moved.trans W.gtrans ((l.mono more).then_heap z λb o y e=>?_) m3) O;rw[M.2 b (λq:b=S=>y (q▸Zm))];exact e
end
section
variable{prog:Program}{w:World}{κ:Type}[DecidableEq κ]{knd:PySem.KeyKind prog w κ}{A:Around}{E:ZD}{s:Shared}
def qi(hh:A.handled=none)(hu:A.units+16<cLine)(hl:s.heap.IsList l a)(hi:a.toList=ps.map λp=>Value.ref p.1)(tk:∀p∈ps,IsTupleKey knd s.heap p.2 p.1)(U:List (List κ))(hU: ~~~U<=999)(ab:∀p∈ps,p.2∈U)
 (hv:∀p∈ps,∀(B:Around) (s':Shared) (T:Bool->Shared->Prop) (E':ZD),IsTupleKey knd s'.heap p.2 p.1->T false s'->↥B (hashByValue 8 (.ref p.1)) T E' s')
 (hQ:∀(h':Heap) (tk:Nat),oA w knd ⇑s (bo ps) h'->(∀b o,s.heap.get? b∣o->h'.get? b∣o)->Q (.ref ⇑s) {s with heap:=h',toks:=tk}):
 ↥A (call (.type "set") [.ref l]) Q E s:=by
 have%[c,tl|a2]:=called_set.mro;have ac:=called_set.made;have a3:=called_set.sub;refine wpAny_call (codeAny_of_tree ?_);show wpAny _ _ (callAny (.type "set") _) _ _ _;refine Z3 %[Code.quiet_builtin _ (!0)|codeAny_builtin F.entry_type_call ?_];rw[Around.under_plain (weight_type_call_type "set" [.ref l] []) rfl];have a5:=called_set.notType;have a6:=called_set.canCreate;have ba:=PySem.F.typeCall_set_1 (.ref l)
 repeat any_goals first|assumption|wp_step
 refine codeAny_mono (uS (.ref l) (E:=E) (Q₁:=λobj q=>obj= .ref ⇑s/\q={s with heap:=s.heap.push (aX w)}) %[rfl|rfl]) λr q G=>?_
 cases r with
 | error e=>exact G
 | ok fl=>
   cases fl with
   | ret obj=>
     have%[rfl|rfl]:=G;have gS:(s.heap.push (aX w)).get? ⇑s∣aX w:=Zj _ rfl;have tS:Shared.TypeIs {s with heap:=s.heap.push (aX w)} (.ref ⇑s) "set":=%[_,gS|rfl]
     have bb:=called_set.init.lookup;have bc:=called_set.init.bind (.ref ⇑s)
     repeat any_goals first|assumption|wp_step
     refine codeAny_mono (codeAny_call_builtin (R:=wants (λr u=>r= .none/\∃h' tk,u={s with heap:=h',toks:=tk}/\oA w knd ⇑s (bo ps) h'/\(∀b o,s.heap.get? b∣o->h'.get? b∣o)) E) called_set.init.plain F.entry_set_init (check_set_init_1 tS ?_)) λH u f=>?_
     .have%[ol,gl,cl,nl|dl]:=hl;have%[a4,z,ae|m]:=ol;simp only at cl dl;subst cl;subst dl;have ag:(s.heap.push (aX w)).get? l=some {cls:= .type "list",dict:=z,data:= .seq a nl,slots:=m}:=Z7 _ gl;have be:=PySem.F.sub_list_set;have bf:=PySem.F.sub_list_frozenset;have bl:(Value.type "list"==Value.type "dict")=false:=!1
      have I:(s.heap.push (aX w)).IsList l a:=%[_,ag,rfl,nl|rfl]
      unfold Builtin.«set.__init__»;unfold noKeywords;unfold Builtin.Frozenset.updateFrom
      generalize ai:pyIter=PI
      wp_walk
      subst ai;refine wpAny_pyIter_list I (Z2 (wpAny_runValue ?_));have J:l<⇑s:=Zu gl;have h3:A.in1.in1.in1.handled=none:=by simp[hh]
      have Y:(s.heap.push (aX w)).objs.size=⇑s+1:=Zq ..;have ak:l≠(s.heap.push (aX w)).objs.size:=by rw[Y];exact Zs (Yn J)
      have al:⇑s∉[(s.heap.push (aX w)).objs.size,l]:=by
       rw[Y];simp only[Yw,X7,or_false,not_or];exact%[Zs (Yo _)|X1 J]
      have L:a.size= ~~~ps:=by rw[<-Zb,hi,Z6]
      have an:A.in1.in1.in1.units<cLine:=by simp only[Around.in1];lia
      have g:∀i,i<a.size->∃p∈ps,ps[i]?∣p/\ps.getD i (0,[])=p:=λi h=>by
       have h':i< ~~~ps:=by lia
       exact%[ps[i],Yd h',by simp[h']|by simp[Zc,h']]
      refine qh (knd:=knd) ((Walks.list h3 _ l ak a).toS) ⇑s al an (λi=>ps.getD i (0,[])) (λi v d as=>?_) U hU (λi d=>?_) (λi d=>?_) (λi d=>?_) (a.size-0) 0 _ ⋯ (Xh _)
       %[%[_,Zj _ rfl,rfl|rfl]|I.push _] %[_,#[],0,_,Z7 _ gS,%[rfl,rfl|rfl],rfl,IN.fresh 0 0 _|List.Perm.refl _] (λj d=>?_) ?_
      .have%[p,y,M|n]:=g i d;have:a.toList[i]?∣v:=by rw[getElem?_toList];exact as
       rw[hi,Zl,M]at this;show v= .ref (ps.getD i (0,[])).1;rw[n];exact(Za this).symm
      .have%[p,y,M|n]:=g i d;show(ps.getD i (0,[])).2∈U;rw[n];exact ab p y
      .have%[p,y,M|n]:=g i d;have%[po,_,_,pg|_]:=tk p y;have N:=Zu pg;show(ps.getD i (0,[])).1≠_/\(ps.getD i (0,[])).1∉_;rw[n];refine%[Zs N|?_];simp only[Yw,X7,or_false,Y];exact Zs (Yn N)
      .have%[p,y,M|n]:=g i d;intro s' T E';show IsTupleKey knd s'.heap (ps.getD i (0,[])).2 (ps.getD i (0,[])).1->_->wpAny _ _ (hashByValue 8 (.ref (ps.getD i (0,[])).1)) _ _ _;rw[n];exact hv p y _ s' T E'
      .have%[p,y,M|n]:=g j d;show IsTupleKey knd _ (ps.getD j (0,[])).2 (ps.getD j (0,[])).1;rw[n];exact nC (tk p y) λo e=>Z7 _ (Z7 _ e)
      intro s3 m3 S3;have G:(List.range a.size).map (λi=>ps.getD i (0,[]))=ps:=by
       rw[L];apply Zz
       .simp
       .intro i h1 h2;simp[Zc,h2]
      rw[G]at S3;have%[h',g',d',a0|a1]:=s3;have eg:g'=s.gens:=m3.gens;have ed:d'=s.drawn:=m3.drawn;have eo:a1=s.os:=m3.os;subst eg;subst ed;subst eo;refine Z3 ?_;show wpAny _ _ (ret Value.none) _ _ _;refine Z3 %[rfl,h',a0,rfl,S3|λb o e=>?_];have O:=Zu e;refine m3.heap b o ?_ (Z7 _ (Z7 _ e));simp only[Yw,X7,or_false,not_or,Y];exact%[Zs O|Zs (Yn O)]
     .cases H with
      | error e=>exact f
      | ok C=>
        cases C with
        | ret r=>
          have%[rfl,h',tk,rfl,S3|k3]:=f
          repeat any_goals first|assumption|wp_step
          exact hQ _ _ S3 k3
        | _=>exact f.elim
   | _=>exact G.elim
end
open PySem PySem.Spec PyProof.Rows
section
variable{prog:Program}{w:World}{A:Around}{s:Shared}
def jJ{a:Addr}{vs:ZF}{n:Nat}{kd:SortKind}{Nv:Value->Nat}{P:Fin->Shared->Prop}{E:ZD}(G:s.heap.get? a∣seqObj "list" vs.toArray n)(I: ~~~vs<=100000)
 (f:∀j:Heap,(∀b o,b≠a->s.heap.get? b∣o->j.get? b∣o)->2<= ~~~vs->∀Q:SortKind->Shared->Prop,Q kd {s with heap:=j}->↥A (keyKind' vs.toArray) Q E {s with heap:=j})
 (T:∀j:Heap,(∀b o,b≠a->s.heap.get? b∣o->j.get? b∣o)->_SB.Cmp prog w A (λs'=>s'={s with heap:=j}) kd (λx=>x.1∈vs) (λx=>Nv x.1))
 (h:∀out:ZF,out.Perm vs->(~~~vs<64->out.Pairwise (λx y=>Nv x<=Nv y))->P (.done (.ret .none)) {s with heap:=sortedHeap s.heap a vs out.toArray}):
 ↥A (Builtin.«list.sort» %[[.ref a]|[]]) P E s:=by
 rw[list_sort_plain];have M:a<⇑s:=Zu G;have g: ~~~vs<=sizeLine:=Yg I (!1);refine Z2 (listItems_at G rfl ?_);refine Z2 (listUpdate_at G rfl ?_ (g));obtain⟨J,B⟩:∃J,(s.heap.update a (Obj.mapSeq λ_=> #[])).get? a∣(seqObj "list" #[] J):=%[_|get?_update_seq G (λ_=> #[])]
 refine Z2 (seqEpoch_at B rfl ?_);refine Z2 (wpAny_newTuple ?_ (g));refine Z2 (wpAny_newList ?_);refine wpAny_holding ?_;have keep:∀b o,b≠a->s.heap.get? b∣o->(((s.heap.update a (Obj.mapSeq λ_=> #[])).push (seqObj "tuple" vs.toArray 0)).push (seqObj "list" #[] 0)).get? b∣o:=λb o U e=>
  Z7 _ (Z7 _ ((get?_update_other _ _ (Ne.symm U)).trans e))
 have d:(((s.heap.update a (Obj.mapSeq λ_=> #[])).push (seqObj "tuple" vs.toArray 0)).push (seqObj "list" #[] 0)).get? a∣(seqObj "list" #[] J):=by
  rw[Heap.get?_push_ne _ _ _ (by rw[size_push',Heap.size_update];exact Zs (Yn M)),Heap.get?_push_ne _ _ _ (by rw[Heap.size_update];exact Zs M)];exact B
 have f:=f _ keep;show ↥A _ P E {s with heap:=((s.heap.update a (Obj.mapSeq λ_=> #[])).push (seqObj "tuple" vs.toArray 0)).push (seqObj "list" #[] 0)};dsimp only;have L:vs.toArray.size= ~~~vs:=by simp
 have m:(vs.toArray.zip vs.toArray).toList=vs.map λv=>(v,v):=by
  rw[Array.toList_zip,List.toList_toArray];apply Zz
  .simp
  .intro i h1 p;simp
 have C:∀c:SortSt,(arrOf c).toList.Perm (vs.map λv=>(v,v))->(~~~vs<64->_SB.Srt (λx=>Nv x.1) (arrOf c).toList)->P (.done (.ret .none)) {s with heap:=(sortedHeap s.heap a vs ((arrOf c)\2))}:=by
  intro c u H;have N:∀x∈(arrOf c).toList,x.1=x.2:=λx z=>by
   have%[v,_|rfl]:=Xr (u.mem_iff.mp z);rfl
  have e:(arrOf c)\2=((arrOf c).toList\2).toArray:=by
   apply Array.ext';simp
  rw[e];refine h _ ?_ ?_
  .have:=u\2;rwa[Ys,show((λx:Keyed=>x.2) ∘ λv:Value=>(v,v))=id from rfl,map_id]at this
  .intro l;rw[X9];exact Xj (λ{x y} z Y q=>by rw[<-N x z,<-N y Y];exact q) (H l)
 by_cases p:vs.toArray.size<2
 .rw[if_pos p,if_pos p];refine Z2 (Z3 ?_);rw[StateT.run_pure];refine Z2 (Z3 ?_);dsimp only;refine Z2 (seqEpoch_at d rfl (Z2 (listUpdate_at d rfl ?_ (hsz2:=by rw[size_map];show(pairsOf vs).size<=_;rw[pairsOf_size,sizeLine_eq];omega))));simp only[bne_self_eq_false,Y0,if_false];refine Z3 (C _ (by rw[m]) λ_=>?_);rw[m]
  match vs,L,p with
  |[],_,_=>exact List.Pairwise.nil
  |[v],_,_=>exact List.pairwise_singleton _ _
  | v1::v2::r,h3,h4=>simp at h4;omega
 .rw[if_neg p,if_neg p];refine Z2 (f (by omega) _ ?_);refine Z2 (wpAny_mono (_SB.sc_sortRuns (D:=λx=>x.1∈vs) (st:=SortSt.mk' kd (vs.toArray.zip vs.toArray) #[] 7 none) (T _ keep) (λx z=>?_) ?_ rfl rfl
   (Q:=λ_ c=>(arrOf c).toList.Perm (vs.map λv=>(v,v))/\failedOf c=none/\(~~~vs<64->_SB.Srt (λx=>Nv x.1) (arrOf c).toList)) (λc a1 a2 a3=>%[?_,a3|λl=>a2 ?_]) _ rfl) ?_ λ_ _ e=>e.elim)
  .rw[m]at z;have%[v,hv|rfl]:=Xr z;exact hv
  .rw[<-Zb,m,Z6];omega
  .rwa[m]at a1
  .rwa[<-Zb,m,Z6]
  .rintro⟨⟨⟩,c⟩ s' ⟨rfl,u,O,H⟩;dsimp only at u O H ⊢;refine Z2 (seqEpoch_at d rfl (Z2 (listUpdate_at d rfl ?_ (hsz2:=?_))))
   .rw[O];simp only[bne_self_eq_false,Y0,if_false];exact Z3 (C c u H)
   .rw[size_map,<-Zb,u.length_eq,Z6];exact Nat.le_succ_of_le g
end
abbrev aP(x y:Str):Bool:=decide (x.cps.toList<y.cps.toList)
abbrev gj:ZB->ZB->Bool
 |[],[]=>false
 |[],_::_=>true
 | _::_,[]=>false
 | x::xs,y::ys=>if x=y then gj xs ys else aP x y
def cS(x:Str):aP x x=false:=Zh (List.lt_irrefl _)
def GV{x y:Str}(h:x.cps.toList=y.cps.toList):x=y:=by
 obtain⟨⟨l⟩⟩:=x
 simp_all
def dJ{x y z:Str}(a:aP x y=true)(b:aP y z=true):aP x z=true:=Zf (List.lt_trans (Zo a) (Zo b))
def dL{x y:Str}(h:aP x y=false)(a:x≠y):aP y x=true:=by
 exact Zf (Classical.byContradiction λb=>a (GV (List.le_antisymm b (of_decide_eq_false h))))
def yp:∀x,gj x x=false
 |[]=>rfl
 | x::xs=>by rw[gj,if_pos rfl];exact yp xs
def jq:∀{x y z:ZB},gj x y=true->gj y z=true->gj x z=true
 |[],[],z,b,a=>by cases b
 |[],y::ys,[],b,a=>by cases a
 |[],y::ys,z::zs,b,a=>rfl
 | x::xs,[],z,b,a=>by cases b
 | x::xs,y::ys,[],b,a=>by cases a
 | x::xs,y::ys,z::zs,b,a=>by
   rw[gj]at b a ⊢;by_cases d:x=y
   .rw[if_pos d]at b;subst d;by_cases c:x=z
    .rw[if_pos c]at a ⊢;exact jq b a
    .rw[if_neg c]at a ⊢;exact a
   .rw[if_neg d]at b;by_cases c:y=z
    .rw[if_pos c]at a;subst c;rw[if_neg d];exact b
    .rw[if_neg c]at a;have f:=dJ b a;rw[if_neg (λe=>by rw[e,cS]at f;cases f)];exact f
def rA:∀{x y:ZB},gj x y=false->x≠y->gj y x=true
 |[],[],a,c=>absurd rfl c
 |[],y::ys,a,c=>by cases a
 | x::xs,[],a,c=>rfl
 | x::xs,y::ys,a,c=>by
   rw[gj]at a ⊢;by_cases b:x=y
   .rw[if_pos b]at a;rw[if_pos b.symm];exact rA a λe=>c (by rw[b,e])
   .rw[if_neg b]at a;rw[if_neg (Ne.symm b)];exact dL a b
abbrev iV(ks:List ZB)(k:ZB):Nat:=ks.countP λu=>gj u k
def nD{ks:List ZB}{x y:ZB}(b:x∈ks):gj x y=decide (iV ks x<iV ks y):=by
 have up:∀(l:List ZB) p q,(∀u∈l,p u=true->q u=true)->l.countP p<=l.countP q:=λl p q h=>List.countP_mono_left h
 cases h:gj x y with
 | true=>
   symm
   refine Zf ?_;have c:∀l:List _,x∈l->l.countP (λu=>gj u x)<l.countP (λu=>gj u y):=by
    intro l
    induction l with
    | nil=>simp
    | cons u l d=>
      intro b;rw[countP_cons,countP_cons];have f:=up l (λu=>gj u x) _ λu _ a=>jq a h
      rcases mem_cons.mp b with e|e
      .subst e;rw[if_neg (by rw[yp];simp),if_pos h];omega
      .have:=d e;by_cases a:gj u x=true
       .rw[if_pos a,if_pos (jq a h)];omega
       .rw[if_neg a]
        split<;> omega
   exact c ks b
 | false=>
   symm
   refine Zh (Nat.not_lt.mpr (up ks _ _ λu _ a=>?_));by_cases e:x=y
   .exact e▸a
   .exact jq a (rA h e)
section
variable{prog:Program}{w:World}{A:Around}{s:Shared}{E:ZD}
nonrec abbrev z6(prog:Program)(w:World)(h:Heap)(zs:ZB)(r:Addr):Prop:=IsTupleKey (aM prog w) h (zs.map Sum.inr) r
def gK:∀{zs:ZB} {vs:ZF},ItemsAre (aM prog w) (zs.map Sum.inr) vs->StrsAre vs zs
 |[],_,h=>by cases h;exact .nil
 | z::zs,_,h=>by
   cases h with
   | cons a d=>
     have a:jF (Sum.inr z) _=true:=a;rcases aZ a with⟨i,t,b,c⟩|⟨y,t,b,c⟩
     .cases b
     .cases b;subst c;exact .cons z t (gK d)
def Fx{b a:Bool}{Q:Bool->Shared->Prop}:∀(x y:ZB) (vs us:ZF) (i:Nat),StrsAre vs x->StrsAre us y->(~~~x= ~~~y)->a=false->Q (gj x y) s->PySem.W.KatLex prog w A b a Q (vs.zip us) i s
 |[],[],_,_,i,.nil,.nil,_,c,h=>c▸h
 | x::xs,y::ys,_,_,i,.cons _ t d,.cons _ u f,g,c,h=>by
   rw[List.zip_cons_cons];refine PySem.W.kat_cons (eqBool_str ?_);rw[gj]at h;by_cases e:x=y
   .subst e;rw[if_pos rfl]at h;rw[beq_self_eq_true];exact PySem.W.kat_yes (Fx xs ys _ _ _ d f ↑g c h)
   .rw[if_neg e]at h;rw[beq_eq_false_iff_ne.mpr e];refine PySem.W.kat_no ?_;cases j:(b&&i==0)with
    | true=>exact oneLt_str h
    | false=>exact PySem.W.kat_one _ _ (lt_str h)
def Ev{x y:ZB}{r q:Addr}{Q:Bool->Shared->Prop}{b:Bool}(d:z6 prog w s.heap x r)(e:z6 prog w s.heap y q)(f: ~~~x= ~~~y)(h:Q (gj x y) s):↥A (keyLt' (tuples' b) (.ref r) (.ref q)) Q E s:=by
 have%[o,xs,nx,g,_,i|j]:=d;have%[p,ys,u,l,_,m|n]:=e;have a:=gK j;have c:=gK n;refine PySem.W.kat_lt g i l m (Fx x y _ _ 0 a c f ?_ h);have v:=bj a;have z:=bj c
 grind
end
def vf [DecidableEq d][DecidableEq i](g:d->i)(j:∀a b,g a=g b->a=b)(l:List (Addr×d)):bo (l.map λp=>(p.1,g p.2))=(bo l).map λp=>(p.1,g p.2):=by
 have m:∀(l ps:List _),(l.map λp=>(p.1,g p.2)).foldl hZ (ps.map λp=>(p.1,g p.2))=(l.foldl hZ ps).map λp=>(p.1,g p.2):=by
  intro l
  induction l with
  | nil=>intro ps;rfl
  | cons p l n=>
    intro ps;rw[Yq,Y9,Y9];have e:hZ (ps.map λp=>(p.1,g p.2)) (p.1,g p.2)=(hZ ps p).map λp=>(p.1,g p.2):=by
     unfold hZ;have f:(g p.2∈(ps.map λp=>(p.1,g p.2))\2)↔p.2∈ps\2:=by
      rw[Ys]
      constructor
      .intro h;have%[q,c|e]:=Xr h;exact Xs %[q,c|j _ _ e]
      .intro h;have%[q,c|e]:=Xr h;exact Xs %[q,c|by show g q.2=g p.2;rw[e]]
     by_cases h:p.2∈ps\2
     .rw[if_pos h,if_pos (f.mpr h)]
     .rw[if_neg h,if_neg (λz=>h (f.mp z)),Zd];rfl
    rw[e];exact n _
 exact m l []
noncomputable abbrev Ii(p:Addr×ZB):Addr×List Key:=(p.1,p.2.map Sum.inr)
def nE:∀a b:ZB,a.map (Sum.inr:Str->Key)=b.map Sum.inr->a=b
 |[],[],_=>rfl
 |[],_::_,h=>by cases h
 | _::_,[],h=>by cases h
 | x::xs,y::ys,h=>by
   injection h with c d
   injection c with e
   rw[e,nE xs ys d]
section
#where
variable{S:Addr}
def oB:∀{vs:ZF} {zs:ZB},StrsAre vs zs->ItemsAre (aM prog w) (zs.map Sum.inr) vs
 | _,_,.nil=> .nil
 | _,_,.cons x t h=> .cons (dG x t) (oB h)
def Ew(c:zs≠[])(b:z6 prog w s.heap zs r)(h:Q false s):↥A (hashByValue 8 (.ref r)) Q E s:=by
 have d:=b.typeIs;have%[o,a,n,e,_,f|hi]:=b;refine Z2 (wpAny_specialOf d F.slot_tuple_hash.lookup (Z2 (wpAny_seqItems e f (Z2 ?_))));rw[<-forIn_toList]
 match zs,a.toList,(gK hi),c with
 | z::zs,_,.cons _ t g,_=>
   exact Z2 (Z2 (Z3 (Z3 (Z3 (Z3 h)))))
abbrev kOf(ps:ZG):Value->ZB
 | .ref r=>((ps.find? λp=>p.1==r)\2).getD []
 | _=>[]
abbrev aOf:Value->Addr
 | .ref r=>r
 | _=>0
def jY(G:∀(E1:ZD) (R:ZF->Shared->Prop),(∀c vs,vs.Perm (ps.map λp=>Value.ref p.1)->(∀b o,s.heap.get? b∣o->c.heap.get? b∣o)->c.gens=s.gens->c.os=s.os->R vs c)->↥A.in1 (collect (.ref S)) R E1 s)(tk:∀p∈ps,z6 prog w s.heap p.2 p.1)(M:∀p∈ps,~~~p.2=m)(m0:m≠0)(few: ~~~ps<=1000)
 (hQ:∀(c s':Shared) (l:Addr) (ss:ZG) (n:Nat),ss.Perm ps->(∀b o,s.heap.get? b∣o->c.heap.get? b∣o)->c.gens=s.gens->c.os=s.os->(∀b o,c.heap.get? b∣o->s'.heap.get? b∣o)->s'.gens=c.gens->s'.os=c.os->⇑c<=l->s'.heap.get? l=some {cls:= .type "list",data:= .seq (ss.map λp=>Value.ref p.1).toArray n}->Q (.ref l) s'):
 ↥A (call (.builtin "sorted") [.ref S]) Q E s:=by
 have key:∀p∈ps,kOf ps (.ref p.1)=p.2:=λp g=>by
  show((ps.find? λq=>q.1==p.1)\2).getD []=p.2;cases j:ps.find? λq=>q.1==p.1 with
  | none=>
    have:=List.find?_eq_none.mp j p g;simp at this
  | some q=>
    have H:=List.mem_of_find?_eq_some j;have e:q.1=p.1:=by have:=List.find?_some j;simpa using this
    show q.2=p.2;have t1:=tk q H;rw[e]at t1;exact nE _ _ (t1.inj (tk p g))
 refine Calls.call_function_entry kind_sorted plain_sorted entry_sorted (args_sorted1 _) ?_;unfold Builtin.«sorted»;refine Z2 (m:=checkCount "sorted" 1 1 _) (Z3 ?_);refine Z2 (G _ _ λc vs N k1 g1 o1=>?_);have hl: ~~~vs= ~~~ps:=by rw[N.length_eq,Z6]
 have mem:∀v∈vs,∃p∈ps,v=Value.ref p.1:=λv B=>by
  have%[p,g|rfl]:=Xr (N.mem_iff.mp B);exact%[p,g|ρ]
 refine Z2 (wpAny_newList ?_ (by rw[sizeLine_eq];lia));have O:(c.heap.push (seqObj "list" vs.toArray 0)).get? ⇑c∣seqObj "list" vs.toArray 0:=Zj _ rfl;have r:∀p∈ps,∀i:Heap,(∀b o,b≠⇑c->(c.heap.push (seqObj "list" vs.toArray 0)).get? b∣o->i.get? b∣o)->z6 prog w i p.2 p.1:=λp g i C=>by
  refine nC (tk p g) λo e=>?_
  have I:=k1 _ _ e;exact C _ _ (Zs (Zu I)) (Z7 _ I)
 refine Z2 (wpAny_holding (wpAny_call_entry slot_list_sort %[_,O|rfl] entry_list_sort (jJ (s:={c with heap:=c.heap.push (seqObj "list" vs.toArray 0)}) (kd:=tuples' true) (Nv:=λv=>iV (ps\2) (kOf ps v)) O ⋯ (λi C ai Q6 U=>?_) (λi C=>?_) λout p1 _=>%[_,rfl|?_]) (args_list_sort _)))
 .have tups:∀l:ZF,(∀v∈l,∃p∈ps,v=Value.ref p.1)->∃fs:ZF,KatTups i l fs/\ ~~~fs= ~~~l/\∀f∈fs,∃z t,f=Value.str z t:=by
   intro l
   induction l with
   | nil=>intro _;exact%[[],KatTups.nil,ρ|λf j=>by cases j]
   | cons v l ih=>
     intro B;have%[fs,Y,f2|f3]:=ih λu hu=>B u (Zk _ hu)
     have%[p,g|rfl]:=B v Zm;have%[o',d,n',g',c',d'|i']:=r p g i C;have h:=gK i';have ab:p.2≠[]:=λe=>by have:=M p g;rw[e]at this;exact m0 this.symm
     obtain⟨z,zs,ez⟩:∃z zs,p.2=z::zs:=by
      cases ac:p.2 with
      | nil=>exact absurd ac ab
      | cons z zs=>exact%[z,zs|ρ]
     rw[ez]at h;obtain⟨t',vr,ev⟩:∃t' vr,d.toList=Value.str z t'::vr:=by
      cases J:d.toList with
      | nil=>rw[J]at h;cases h
      | cons a b=>
        rw[J]at h;cases h with
        | cons _ t' _=>exact%[t',b|ρ]
     have e0:d[0]?∣Value.str z t':=by
      have:d.toList[0]?∣Value.str z t':=by rw[ev];rfl
      simpa using this
     exact⟨Value.str z t'::fs,KatTups.cons g' c' d' e0 Y,by simp[f2],λf j=>by
      rcases mem_cons.mp j with e|e
      .exact%[z,t'|e]
      .exact f3 f e⟩
  have%[fs,Y,f2|f3]:=tups vs mem;refine PySem.W.kat_kind (T:= .type "str") Y ⋯ (λf j=>?_) (!1) U;have%[z,t'|rfl]:=f3 f j;exact Looks.of_pure rfl
 .intro x y s' hx hy h;subst h;have%[p,g|ae]:=mem _ hx;have%[q,H|ag]:=mem _ hy;have%[x1|x2]:=x;have%[y1|y2]:=y;obtain rfl:x1=Value.ref p.1:=ae;obtain rfl:y1=Value.ref q.1:=ag;show ↥A.in1.in1 (keyLt' (tuples' true) (Value.ref p.1) (Value.ref q.1)) (λb s'=>b=decide (iV (ps\2) (kOf ps (Value.ref p.1))<iV (ps\2) (kOf ps (Value.ref q.1)))/\s'={c with heap:=i}) (λ_ _=>False) {c with heap:=i};rw[key p g,key q H];refine Ev (s:={c with heap:=i}) (r p g i C) (r q H i C) (by rw[M p g,M q H]) %[?_|rfl];exact nD (Xs %[p,g|rfl])
 .have p3:out.Perm (ps.map λp=>Value.ref p.1):=p1.trans N;have oe:out=(out.map λv=>(aOf v,kOf ps v)).map λp=>Value.ref p.1:=by
   rw[Ys];refine(map_id out).symm.trans (Yp λv B=>?_);have%[p,g|rfl]:=Xr (p3.mem_iff.mp B);rfl
  obtain⟨n,gl⟩:∃n,(sortedHeap (c.heap.push (seqObj "list" vs.toArray 0)) ⇑c vs out.toArray).get? ⇑c∣seqObj "list" out.toArray n:=sortedHeap_at O;refine Z3 %[_,rfl|hQ c _ ⇑c (out.map λv=>(aOf v,kOf ps v)) n ?_ k1 g1 o1 (λb o' I=>?_) rfl rfl (Zi _) ?_]
  .have:=p3.map λv=>(aOf v,kOf ps v)
   rw[Ys]at this;refine this.trans ?_;have:(ps.map ((λv=>(aOf v,kOf ps v)) ∘ λp=>Value.ref p.1))=ps:=by
    refine(Yp λp g=>?_).trans (map_id ps);show(p.1,kOf ps (.ref p.1))=p;rw[key p g]
   rw[this]
  .have L:=Zu I;show(sortedHeap _ _ _ _).get? b=_;rw[sortedHeap_old (Zs L) (by rw[Zq];exact Yn L)];exact Z7 _ I
  .have e3:(seqObj "list" out.toArray n)=({cls:= .type "list",data:= .seq ((out.map λv=>(aOf v,kOf ps v)).map λp=>Value.ref p.1).toArray n}:Obj):=by
    rw[(congrArg List.toArray oe.symm)]
   exact gl.trans (congrArg some e3)
end
section
variable{X:Cx}{K:ZA}
abbrev oC(P:Program)(w:World)(a:Addr)(ps:ZG):HO:= .ext (oA w (aM P w) a (ps.map Ii))
abbrev aK(H:Hp)(ps:ZG):Prop:=∀p∈ps,p.2≠[]/\H p.1&&&p.2\3
def nF(I:Inv X pins f H s)(h:aK H ps):∀p∈ps,z6 X.prog X.w s.heap p.2 p.1:=λp a=>by
 have%[_,its,b,o,c,d,n|e]:=I.hok p.1 _ (h p a).2;exact%[o,its.toArray,n,c,d,e|oB (gW b)]
def tU:∀{ps:ZG} {us:ZF},aN (ps\0) us->us=ps.map λp=>Value.ref p.1
 |[],_,.nil=>rfl
 | _::_,_,.cons r t=>by
   cases r;rw[tU t];rfl
def nG:∀(ps:ZG),aN (ps\0) (ps.map λp=>Value.ref p.1)
 |[]=> .nil
 | _::ps=> .cons rfl (nG ps)
def z7(j:X.calm=true)(E:X.A.units+64<cLine):cr X (.type "set") (λxs H Q=>∃p ps,xs=[.ref p]/\SqL X.K H p (ps\0)/\aK H ps/\(∃U:List _,~~~U<=999/\∀q∈ps,q.2∈U)/\∀l,H l=none->Q (.ref l) (upd H l (oC X.prog X.w l (bo ps)))):=by
 intro pins s G H xs us Q I r h;have%[p,ps,rfl,m,g,%[U,J|d]|q]:=h;have%[u,rfl|n]:=cu r;cases n;have%[its,v,pl|L]:=I.list m;have w:=tU v;refine qi (knd:=aM X.prog X.w) (I.ok.hd j) ⋯ pl.isList (ps:=ps.map Ii) (!2) (λi a=>?_) (U.map λz=>z.map Sum.inr) (!2) (λi a=>?_) (λi a B s' M N e f=>?_) λh' y S k=>?_
 .have%[b,c|rfl]:=Xr a;exact(nF I g) b c
 .have%[b,c|rfl]:=Xr a;exact Xs %[b.2,d b c|rfl]
 .have%[b,c|rfl]:=Xr a;exact Ew (g b c).1 e f
 .rw[(vf _ nE ps)]at S;refine%[.ref ⇑s,_,I.laid (o:=oC X.prog X.w ⇑s _) k (Zi _) %[S,?_|λO T A k1=>oA.keep A k1],ρ|q _ I.fresh];have%[o,_,_,_,C|_]:=S;exact%[o|C]
def tV(j:X.calm=true):cr X (.builtin "sorted") (λxs H Q=>∃a ps m,xs=[.ref a]/\H a∣oC X.prog X.w a ps/\aK H ps/\(∀p∈ps,~~~p.2=m)/\m≠0/\ ~~~ps<=1000/\
 ∀l (ss:List _),H l=none->ss.Perm ps->Q (.ref l) (upd H l (.lst (ss\0)))):=by
 intro pins s M H xs us Q I r h;have%[a,ps,m,rfl,v,w,y,z,few|q]:=h;have%[u,rfl|A]:=cu r;cases A;have%[%[o,es,N,t,B,c,C,J|P],_|_]:=(I.hok a _ v)
 have O:es.size= ~~~ps:=by
  have:=P.length_eq
  simp_all
 have pv:(es.toList\2).Perm (ps.map λp=>Value.ref p.1):=by
  have:=P\2;rw[Ys,Ys]at this;exact this
 refine jY (λT R E=>kB (I.ok.hd j) B c C (by show es.size<4096;lia) J.fits J.plain J.led λf vs G k1 d e _=>E f vs (G.trans pv) k1 d e) (nF I w) y z few λf s' l ss n i k1 d e k g o b L=>?_
 have I:=I.keptS k1 d e;refine%[.ref l,_,I.stoodS (o:= .lst _) (I.keptS k g o) b %[?_,ss.map _,n,nG ss|L],ρ|q l ss (I.hok.fresh b) i];rw[Z6,i.length_eq,sizeLine_eq]
 lia
def Cf{P:Program}(h:X.K=K)(c:X.prog=P)(hw:X.w=w)(a:X.calm=true)(b:cg k X.A):cJ X (.type "set") (λxs H Q=>∃p ps,xs=[.ref p]/\SqL K H p (ps\0)/\aK H ps/\(∃U:List ZB,~~~U<=999/\∀q∈ps,q.2∈U)/\∀l,H l=none->Q (.ref l) (upd H l (oC P w l (bo ps)))):=by
 subst h;subst hw;exact⟨z7 a b.units⟩
def rB{P:Program}(c:X.prog=P)(hw:X.w=w)(b:X.calm=true):cJ X (.builtin "sorted") (λxs H Q=>∃a ps m,xs=[.ref a]/\H a∣oC P w a ps/\aK H ps/\(∀p∈ps,~~~p.2=m)/\m≠0/\ ~~~ps<=1000/\
 ∀(l:Addr) (ss:ZG),H l=none->ss.Perm ps->Q (.ref l) (upd H l (.lst (ss\0)))):=by
 subst hw;exact⟨tV b⟩
end
abbrev z8(K:ZA)(a b:Addr):It:=⟨λi H=>∃xs ys x y,SqL K H a xs/\SqL K H b ys/\xs[i]?∣x/\ys[i]?∣y,
 λi H v c=>∃T x y,H T=none/\v= .ref T/\c=upd H T (.tup [x,y])/\(∀xs,SqL K H a xs->xs[i]?∣x)/\(∀ys,SqL K H b ys->ys[i]?∣y),
 λi H=>∃xs ys,SqL K H a xs/\SqL K H b ys/\i<= ~~~xs/\i<= ~~~ys/\(i= ~~~xs\/i= ~~~ys)⟩
def z9{P:Program}{K:ZA}(z TI TO i1 i2 l1 l2:Addr)(D:ZipApart z TI TO i1 i2 l1 l2):
 p7 P w K (.Tuple elts kt tp) (z8 K l1 l2) [z,TI,TO,i1,i2] z (ZSt z TI TO i1 i2 (λi h=>h.IsListIter i1 l1 i) (λi h=>h.IsListIter i2 l2 i)) where
 mem:=by simp
 obj:=λi h st b hb=>by
  have%[hz,hTI,%[a,c|hTO],%[o1,e1,_|d1],o2,e2,_|d2]:=st
  grind
 keep:=λi h h' st k=>by
  have%[hz,hTI,%[a,c|hTO],%[o1,e1|r1],o2,e2|r2]:=st;exact%[k z ∅ _ hz,k TI ∅ _ hTI,%[a,c|k TO ∅ _ hTO],%[o1,k i1 ∅ _ e1|r1],o2,k i2 ∅ _ e2|r2]
 item:=by
  intro X hP hw hK hc i pins s σ H E I hf st hg;subst hP hw hK;have%[hz,hTI,%[a,c|hTO],h1|h2]:=st;have%[xs,ys,x,y,hq1,hq2,hx|hy]:=hg;have%[its1,rv1,pl1|hz1]:=I.list hq1;have%[its2,rv2,pl2|hz2]:=I.list hq2;have%[u1,hu1|ru1]:=rv1.get hx;have%[u2,hu2|ru2]:=rv2.get hy;refine wpAny_pyNext_zip_item D hz hTI hTO h1 h2 pl1.isList pl2.isList (x:=u1) (y:=u2) ↑hu1 ↑hu2 λh' a1 a2 a3 a4 a5 a6 hk=>%[_,rfl|wpAny_letOwnedTupleGo_zip (s:={s with heap:=h'}) a1 λh'' hz'' sb=>?_]
  replace sb:SameBut z h' h'':=sb;have turn1:Inv X pins σ H {s with heap:=h''}:=by
   have nit:∀b v,H b∣v->b∉[z,TI,TO,i1,i2]:=λb v e hb=>by rw[(hf b hb).1]at e;cases e
   have kk:∀b o,b∉[z,TI,TO,i1,i2]->s.heap.get? b∣o->h''.get? b∣o:=λb o hb e=>by
    simp only[Yw,X7,or_false,not_or]at hb;exact(sb.2 b hb.1).trans (hk b o hb.1 hb.2.2.1 hb.2.2.2.1 hb.2.2.2.2 e)
   refine I.step (g':=s.gens) (d':=s.drawn) (ch:=[z,TI,TO,i1,i2]) (λb hb=>%[(hf b hb).2.2.2.1,(hf b hb).2.1,(hf b hb).2.2.2.2.1|(hf b hb).2.2.2.2.2]) (λb o _ _ hc e _=>kk b o hc e) (λb o _ _ hc e _=>%[o.slots|kk b o hc e]) (λ_ _ _ _ n=>n)
    (λb o hc e=>%[o|kk b o hc e]) (λ_ _ e=>e) (λ_ _ _ e=>e) (λb ps e=>%[#[]|by rw[e];simp]) (λm hm=>?_) (λb v e=>?_) I.bare
   .have%[o,es,ep,ho|r]:=hm;exact%[o,es,ep,kk _ o (λhb=>(hf _ hb).2.1 rfl) ho|r]
   .refine(I.hok b v e).stay (λc' v' hc' q=>kk c' v' ?_ q) (λ_ q=>q) λ_ _ q=>q
    rcases hc' with q'|q'
    .exact q'▸nit b v e
    .exact nit c' _ q'
  have Hn:H ⇑s=none:=I.fresh;have I2:Inv X pins σ (upd H ⇑s (.tup [x,y])) {s with heap:=h''}:=by
   have nf:⇑s∉X.fs:=I.nofs (Zi _);refine%[turn1.ok,turn1.os,turn1.bare,?_,turn1.loc,turn1.cell,?_,?_,?_,?_|turn1.len]
   .refine%[turn1.base.keep,turn1.base.slot,λb o e n hx=>?_,turn1.base.there,λb xs e=>?_,λb o v e=>?_|λb ps e=>?_]
    .rw[ao ((λb o e=>Zs (Zg (Zu e) I.sz)) b o e)];exact turn1.base.free b o e n hx
    .rw[ao (aw (turn1.base.tups b xs e) Hn)];exact turn1.base.tups b xs e
    .rw[ao (aw (turn1.base.frzs b o v e) Hn)];exact turn1.base.frzs b o v e
    .have%[m|q]:=turn1.base.tbls b ps e;exact%[m|(ao (aw q Hn))▸q]
   .rw[ao (Zs I.lt)];exact turn1.free
   .intro x' c' e;have%[v'|q]:=I.cell x' c' e;rw[ao (Zs q.lt)];exact turn1.freeC x' c' e
   .intro p hp;have%[e,n|r]:=turn1.pin p hp;refine%[e,?_|r];rw[ao (Zs (Zu (I.pin p hp).1))];exact n
   .intro b v e;by_cases hb:b=⇑s
    .subst hb;rw[aa]at e;cases e;exact%[by show 2<=sizeLine;decide,[u1,u2],.cons ru1 (.cons ru2 .nil),_,((sb.2 _ (X1 (Zu hz))).trans a5),ρ,_|ρ]
    .rw[ao hb]at e;refine(turn1.hok b v e).stay (λ_ _ _ q=>q) (λc' q=>?_) λc' xs q=>?_
     .rw[ao (aw q Hn)];exact q
     .rw[ao (aw q Hn)];exact q
  refine%[.ref ⇑s,_,I2,ρ,%[_,x,y,Hn,ρ,ρ,λzs hzs=>(I.list_inj hzs hq1)▸hx|λzs hzs=>(I.list_inj hzs hq2)▸hy],%[hz'',(sb.2 _ D.TIz).trans (hk _ _ D.TIz D.TITO D.TIi1 D.TIi2 hTI),%[_,_|(sb.2 _ D.TOz).trans a2],?_|?_]|λb hb=>?_]
  .have%[o,e|r]:=a3;exact%[o,(sb.2 _ D.i1z).trans e|r]
  .have%[o,e|r]:=a4;exact%[o,(sb.2 _ D.i2z).trans e|r]
  .have:b<⇑s:=by
    simp only[Yw,X7,or_false]at hb;have%[o1,q1|_]:=h1;have%[o2,q2|_]:=h2;rcases hb with rfl|rfl|rfl|rfl|rfl
    .exact Zu hz
    .exact Zu hTI
    .exact Zu hTO
    .exact Zu q1
    .exact Zu q2
   rw[ao (Zs this)];exact(hf b hb).1
 done:=by
  intro X hP hw hK hc i pins s σ H E I hf st hg;subst hP hw hK;have%[hz,hTI,%[a,c|hTO],h1|h2]:=st;have%[xs,ys,hq1,hq2,g1,g2|g3]:=hg;have%[its1,rv1,pl1|hz1]:=I.list hq1;have%[its2,rv2,pl2|hz2]:=I.list hq2;have n1:= ~~~rv1;have n2:= ~~~rv2;refine wpAny_pyNext_zip_end (I.ok.hd hc) D hz hTI hTO h1 h2 pl1.isList pl2.isList (by
   rcases g3 with q|q
   .exact .inl (by simp;lia)
   .exact .inr (by simp;lia)) λh' hk=>%[rfl|?_]
  have nit:∀b v,H b∣v->b∉[z,TI,TO,i1,i2]:=λb v e hb=>by rw[(hf b hb).1]at e;cases e
  have kk:∀b o,b∉[z,TI,TO,i1,i2]->s.heap.get? b∣o->h'.get? b∣o:=λb o hb e=>by
   simp only[Yw,X7,or_false,not_or]at hb;exact hk b o hb.1 hb.2.2.1 hb.2.2.2.1 hb.2.2.2.2 e
  refine I.step (λb hb=>%[(hf b hb).2.2.2.1,(hf b hb).2.1,(hf b hb).2.2.2.2.1|(hf b hb).2.2.2.2.2]) (λb o _ _ hc e _=>kk b o hc e) (λb o _ _ hc e _=>%[o.slots|kk b o hc e]) (λ_ _ _ _ n=>n)
   (λb o hc e=>%[o|kk b o hc e]) (λ_ _ e=>e) (λ_ _ _ e=>e) (λb ps e=>%[#[]|by rw[e];simp]) (λm hm=>?_) (λb v e=>?_) I.bare
  .have%[o',es,ep,ho'|r]:=hm;exact%[o',es,ep,kk _ o' (λhb=>(hf _ hb).2.1 rfl) ho'|r]
  .refine(I.hok b v e).stay (λc' v' hc' q=>kk c' v' ?_ q) (λ_ q=>q) λ_ _ q=>q
   rcases hc' with q'|q'
   .exact q'▸nit b v e
   .exact nit c' _ q'
 self:=λ_ _ _ _ _ st h=>wpAny_pyIter_zip st.1 h
abbrev Fy(K:ZA)(d:TA):TI:=λe H R=>d e H λvs c=>∃a b,vs=[.ref a,.ref b]/\(∃xs,SqL K c a xs)/\(∃ys,SqL K c b ys)/\R (z8 K a b) c
section
variable{X:Cx}{K:ZA}{pos:Pos}
def Fz(L:X.K=K){M p:Pos}{a b:Expr}{B:TA}(N:Gl X "zip")(O:X.mg "zip"=none)(Q:aS a=false)(n:aS b=false)(T:QA X [a,b] B):
 QI X (.Tuple C kt M) (.Call (.Name "zip" p) [a,b] [] pos) (Fy K B):=by
 subst L
 constructor
 intro pins s U H R I h;refine Call_ (fZ I N O boot_zip (PyProof.Rows.callWith_type1 (thP (T.h pos pins s U H _ I h) λus c vs Y f r1 q1=>?_) (aA Q) (by rw[aA n];rfl)));have%[r,u,e,%[xs|v],%[ys|w]|q]:=q1;subst e;have%[u1,u2,rfl,e1|e2]:=kh r1;cases e1;cases e2;have%[E,ab,g|ac]:=f.list v;have%[its2,ae,l|ag]:=f.list w;refine call_zip_2 g.isList l.isList λh1 G y z hi1 hi2 _ hk=>wpAny_pyIter_zip G ?_
 have d:∀i j,i≠j->⇑c+i≠⇑c+j:=λi j h e=>h (Nat.add_left_cancel e)
 have na:∀i,r≠⇑c+i:=λi=>Zs (Zg (by have%[o,A|_]:=g.isList;exact Zu A) (le_add_right _ _))
 have nb:∀i,u≠⇑c+i:=λi=>Zs (Zg (by have%[o,A|_]:=l.isList;exact Zu A) (le_add_right _ _))
 refine%[⇑c+4,[⇑c+4,⇑c+2,⇑c+3,⇑c+0,⇑c+1],_,z8 X.K r u,Y,ρ,(f.kept hk),
  z9 _ _ _ _ _ r u %[d 2 4 (!1),d 3 4 (!1),d 0 4 (!1),d 1 4 (!1),d 2 3 (!1),d 2 0 (!1),d 2 1 (!1),d 3 0 (!1),d 3 1 (!1),d 0 1 (!1),na 4,na 3,na 0,na 1,nb 4,nb 3,nb 0|nb 1],
  %[G,y,%[_,_|z],hi1|hi2],λb J=>?_|q]
 have m:⇑c<=b:=by
  simp only[Yw,X7,or_false]at J;rcases J with rfl|rfl|rfl|rfl|rfl<;> exact le_add_right _ _
 exact f.fpOk m (f.hok.fresh m)
end
open PySem PySem.Spec PySem.Calls PyProof.Rows PyProof.V PySem.W
abbrev Raw(h:Heap)(d:Addr)(es:Array DictEntry)(a:Nat):Prop:=∃o,h.get? d∣o/\o.ExactDict/\o.data= .dict es a
section
#where
variable{d it:Addr}{es:Array DictEntry}{ep i:Nat}
def Raw.ty(h:Raw s.heap d es ep):s.TypeIs (.ref d) "dict":=%[h.choose,h.choose_spec.1|h.choose_spec.2.1.1]
def Raw.lt(r:Raw h d es ep):d<h.objs.size:=Zu r.choose_spec.1
def Raw.up(r:Raw h d es ep)(e:∀o,h.get? d∣o->h'.get? d∣o):Raw h' d es ep:=%[r.choose,e _ r.choose_spec.1|r.choose_spec.2]
def Cg(lo:(d==sysModules)=false)(r:Raw s.heap d es ep)
 (h:Q (.ref ⇑s) {s with heap:=s.heap.push {cls:= .type "dict_keyiterator",data:= .fields #[.ref d,.int 0 0,.int es.size 0,.int ep 0]}}):↥A (pyIter (.ref d)) Q E s:=by
 have ty:=r.ty;have%[o,g,_|a]:=r;refine wpAny_pyIter_slot ty F.slot_dict_iter (wpAny_call_entry F.slot_dict_iter ty F.entry_dict_iter (Z2 (Z2 (wpAny_notOrdered_dict ty (Z3 ?_)))) (F.args_dict_iter_1 _));show wpAny _ _ (Builtin.Dict.showsAll d>>= _) _ _ s;unfold Builtin.Dict.showsAll;rw[if_neg (lo▸Zt)];refine Z2 (Z3 (Z2 (wpAny_dictEntries g a (Z2 (wpAny_dictEpoch g a (Z2 (wpAny_newObj_type (Z3 %[_,rfl,"dict_keyiterator",_,%[_,Zj _ rfl|rfl],F.slot_dict_keyiterator_next.lookup|?_]))))))));simpa [rawInt]using h
def Ch(k:s.heap.IsKeyIter it d i es.size ep)(r:Raw s.heap d es ep)(hi:i<es.size)
 (h:∀h',h'.IsKeyIter it d (i+1) es.size ep->SameBut it s.heap h'->Q (some es[i].key) {s with heap:=h'}):↥A (pyNext (.ref it)) Q E s:=by
 have%[o,b,f|a]:=id k;have%[g,c,_|e]:=r;unfold pyNext;refine Z2 (wpAny_attempt (wpAny_callSpecial?_slot (name:=!"__next__") k.typeIs F.slot_dict_keyiterator_next (wpAny_call_entry F.slot_dict_keyiterator_next k.typeIs F.entry_dict_keyiterator_next ?_ (F.args_dict_keyiterator_next_1 _))));refine Z2 (Z3 (Z2 (Z2 (Z2 (wpAny_typeNameOfWhole_keyiter k.typeIs (Z3 (Z2 (wpAny_fieldsOf b a ?_))))))));rw[show Builtin.Dict_items.ownsTuple "dict_keyiterator"=false by decide];show wpAny _ _ (if(Value.ref d==Value.none)=true then _ else _) _ _ s;rw[if_neg (by exact Zt)];refine Z2 (Z3 (Z2 (wpAny_dictEntries c e ?_)));rw[if_neg ∅];refine Z2 (Z3 (Z2 (wpAny_dictEpoch c e ?_)));rw[if_neg ∅];refine Z3 ?_;simp only[if_false,Int.toNat_natCast,Array.getElem?_eq_getElem hi];refine Z2 (Z2 (wpAny_typeNameOfWhole_keyiter k.typeIs (Z3 (Z2 (wpAny_isOneOf_keyiter k.typeIs ?_)))));show wpAny _ _ (setField (.ref it) 1 (rawInt ((i:Int) +1))>>= _) _ _ s;refine Z2 (wpAny_setField b a ∅ ?_);have k2:(s.heap.update it (Obj.mapFields (·.setIfInBounds 1 (rawInt ((i:Int) +1))))).IsKeyIter it d (i+1) es.size ep:=
  %[_,get?_update_self _ b (Obj.isFreed_of_fields (Obj.data_mapFields a _)),(Obj.cls_mapFields ..).trans f|by rw[Obj.data_mapFields a];simp[rawInt]]
 exact Z2 (wpAny_holding (Z2 (wpAny_isOneOf_keyiter k2.typeIs (Z3 (Z3 %[_,rfl|Z3 (h _ k2 (SameBut.update ..))])))))
def Ex(j:A.handled=none)(k:s.heap.IsKeyIter it d i es.size ep)(r:Raw s.heap d es ep)(hi:es.size<=i)
 (h:∀h',ExtBut it s.heap h'->Q none {s with heap:=h'}):↥A (pyNext (.ref it)) Q E s:=by
 have%[o,c,l|e]:=id k;have%[n,f,_|g]:=r;unfold pyNext;refine Z2 (wpAny_attempt (wpAny_callSpecial?_slot (name:=!"__next__") k.typeIs F.slot_dict_keyiterator_next (wpAny_call_entry F.slot_dict_keyiterator_next k.typeIs F.entry_dict_keyiterator_next ?_ (F.args_dict_keyiterator_next_1 _))));refine Z2 (Z3 (Z2 (Z2 ?_)));refine Z2 (wpAny_typeNameOfWhole_keyiter k.typeIs (Z3 (Z2 (wpAny_fieldsOf c e ?_))));rw[show Builtin.Dict_items.ownsTuple "dict_keyiterator"=false by decide];show wpAny _ _ (if(Value.ref d==Value.none)=true then _ else _) _ _ s;rw[if_neg (by exact Zt)];refine Z2 (Z3 (Z2 (wpAny_dictEntries f g ?_)));rw[if_neg ∅];refine Z2 (Z3 (Z2 (wpAny_dictEpoch f g ?_)));rw[if_neg ∅];refine Z3 ?_;simp only[show ¬ ((i:Int)<0)from by lia,if_false,Int.toNat_natCast,Array.getElem?_eq_none hi];refine Z2 (Z2 (wpAny_typeNameOfWhole_keyiter k.typeIs (Z3 ?_)));show wpAny _ _ (setField (.ref it) 0 .none>>= _) _ _ s;refine Z2 (wpAny_setField c e ∅ (Z2 ?_));simp only[newExc,newTuple];refine Z2 (m:=firstArgMember _ _) (wpAny_of_eq (a:=Value.none) (by first|rfl|(simp only[firstArgMember];rfl)) (wpAny_newObj_type ?_ (by size_fits)));simp only[raiseNew];refine Z2 (wpAny_handled ?_);rw[show A.in1.handled=none from j];refine Z2 (Z3 (wpAny_throw ?_));refine Z2 (wpAny_isInstance (T:="StopIteration") (b:=true) %[_,Zj _ rfl|rfl] isSubtype_stop ?_);exact Z3 (h _ (((SameBut.update ..).extBut.push _).push _))
def Ey(lo:(d==sysModules)=false):KdlSrc prog w "dict" d d es.size (λi v=>∃h:i<es.size,v=es[i].key) (λh=>Raw h d es ep) where
 type:=λ_ r=>r.ty
 there:=λ_ r=>%[r.lt|r.lt]
 keep:=λ_ _ r hk=>r.up λo e=>hk d (.inl rfl) o e
 notList:=!1
 notTuple:=!1
 hint:=λ_ _ _ _ r hq=>kdl_hint_dict r.ty hq
 iter:=λA s hh r=>%[_,λi h=>h.IsKeyIter ⇑s d i es.size ep/\Raw h d es ep,(λ_ _ hq=>Cg lo r hq),{
  sub:=λb hb=>!2
  frame:=λ_ _ _ st hk=>%[st.1.at λo e=>hk _ ∅ o e|st.2.up λo e=>hk d ∅ o e]
  item:=λi s' Q E hi st hQ=>Ch st.1 st.2 hi λh' k' hs'=>hQ _ h' s'.toks %[hi|rfl] %[k'|st.2.up λo e=>hs'.extBut d o (Zs r.lt) e] λb o hb e=>hs'.extBut b o (λh=>hb (by simp[h])) e
  done:=λs' Q E st hQ=>Ex hh st.1 st.2 (Zi _) λh' he'=>hQ h' s'.toks λb o hb e=>he' b o (λh=>hb (by simp[h])) e
  self:=λ_ _ _ _ st hQ=>wpAny_pyIter_keyiter st.1 hQ},%[_,Zj _ rfl,rfl|rfl]|r.up λo e=>Z7 _ e]
def mJ{P:Nat->Value->Prop}{R:ZF->Shared->Prop}(K:KdlSrc prog w T r d n P l)(m:A.handled=none)(ok:l s.heap)(p:n<=sizeLine)
 (h:∀(h':Heap) (tk:Nat) (acc:ZJ),(∀b o,s.heap.get? b∣o->h'.get? b∣o)->⇑s<=h'.objs.size->ItemsOf P acc n->R acc.toList {s with heap:=h',toks:=tk}):↥A (collect (.ref r)) R E s:=by
 have lt:=K.there _ ok;refine Z2 (wpAny_runValue (codeAny_builtin entry_proto_collect' (Z2 (wpAny_newObj_type (Z3 %[plainId_quiet F.plain_list_iadd _|codeAny_builtin entry_list_iadd' ?_])))));rw[Around.under_plainId F.plain_list_iadd _];have a:=kdl_extend (s:={s with heap:=s.heap.push _})
  (R:=λq s'=>∃h' tk acc c,q= .ok (.ret (.ref ⇑s))/\s'={s with heap:=h',toks:=tk}/\(∀b o,s.heap.get? b∣o->h'.get? b∣o)/\h'.get? ⇑s=some {cls:= .type _,dict:=none,data:= .seq acc c,slots:= #[]}/\ItemsOf P acc n)
  K m (K.keep _ _ ok λb _ o e=>Z7 _ e) ⇑s (X1 lt.1) (X1 lt.2) _ 0 (Zj _ rfl)
  (λh' tk acc c g g' it=>%[h',tk,acc,c,rfl,rfl,λb o e=>g b o (Zs (Zu e)) (Z7 _ e),g'|it]) p
 refine wpAny_mono a (λj s' x=>?_) λe s' x=>?_
 .cases j with
  | done f=>
    have%[h',tk,acc,c,e,rfl,g,g'|it]:=x;cases e;exact Z2 (wpAny_load g' (Z3 (h h' tk acc g (Ye (Zu g')) it)))
  | again c1=>
    refine%[x.1|codeAny_mono x.2 λq u y=>?_];have%[h',tk,acc,c,rfl,rfl,g,g'|it]:=y;exact Z2 (wpAny_load g' (Z3 (h h' tk acc g (Ye (Zu g')) it)))
 simp_all
def mK{R:ZF->Shared->Prop}(lo:(d==sysModules)=false)(f:A.handled=none)(r:Raw s.heap d es ep)(g:es.size<=sizeLine)
 (h:∀(h':Heap) (tk:Nat),(∀b o,s.heap.get? b∣o->h'.get? b∣o)->⇑s<=h'.objs.size->R (es.toList.map (·.key)) {s with heap:=h',toks:=tk}):↥A (collect (.ref d)) R E s:=by
 refine mJ (Ey lo) f r g λh' tk acc l c a=>?_
 have e:acc.toList=es.toList.map (·.key):=by
  apply ext_getElem?;intro j;rw[Zl,getElem?_toList,getElem?_toList];by_cases m:j<es.size
  .have n:j<acc.size:=a.1▸m;have%[_|q]:=a.2 j acc[j] ∅
   simp_all
  .rw[Array.getElem?_eq_none (by rw[a.1];lia),Array.getElem?_eq_none ⋯];rfl
 rw[e];exact h h' tk l c
variable{S:Addr}
end
section
variable{X:Cx}{K:ZA}
def tW(hc:X.calm=true):cr X (.builtin "sorted") (λxs H Q=>∃a b ks m,xs=[.ref a]/\H a∣.dT b/\b\1=ks.map (λk:ZB=>k.map Sum.inr)/\(∀k∈ks,~~~k=m)/\m≠0/\ ~~~ks<=1000/\
 ∀(l:Addr) (ss:ZG),H l=none->aK H ss->(ss\2).Perm ks->Q (.ref l) (upd H l (.lst (ss\0)))):=by
 intro pins s N H xs us Q I r h;have%[a,b,ks,m,rfl,ha,c,O,T,few|q]:=h;have%[u,rfl|ru]:=cu r;cases ru;have%[_,lo,xs,z,o,es,ep,g,ex,dt,he,_|_]:=Fk I.hok ha;have A:∀{b:List (List Key×V)} {xs:List (List Key×Addr×Value)},KT H b xs->∀ks:List ZB,b\1=ks.map (λk:ZB=>k.map Sum.inr)->∃ps:ZG,ps\2=ks/\(xs.map λx=>Value.ref x.2.1)=(ps.map λp=>Value.ref p.1)/\∀p∈ps,H p.1&&&p.2\3:=by
  intro b xs z
  induction z with
  | nil=>
    intro ks c;cases ks with
    | nil=>exact%[[],ρ,ρ|λp d=>by cases d]
    | cons _ _=>cases c
  | @cons kv x b xs hx t ih=>
    intro ks c;cases ks with
    | nil=>cases c
    | cons k ks=>
      rw[Yq,Yq]at c;injection c with h1 h2
      have%[ps,j,B|C]:=ih ks h2;refine%[(x.2.1,k)::ps,by rw[Yq,j],by rw[Yq,Yq,B]|λp d=>?_];rcases mem_cons.mp d with e|e
      .rw[e];have:=hx.2.1;rw[h1,Ys]at this;exact this
      .exact C p e
 have%[ps,j,B|C]:=A z ks c;have v:∀p∈ps,p.2∈ks:=λp d=>by rw[<-j];exact Xs %[p,d|rfl]
 have U:aK H ps:=λp d=>%[λe=>T (by rw[<-O _ (v p d),e];rfl)|C p d]
 have Y: ~~~ps<=1000:=by rw[<-Z6 (f:=(·.2)),j];exact few
 have E:Raw s.heap a es ep:=%[o,g,ex|dt]
 have w:es.toList.map (·.key)=ps.map λp=>Value.ref p.1:=by
  rw[he,Ys,<-B];rfl
 have G:es.size<=sizeLine:=by
  have: ~~~(es.toList.map (·.key))= ~~~(ps.map λp=>Value.ref p.1):=by rw[w]
  rw[Z6,Z6,Zb]at this;rw[sizeLine_eq];lia
 refine jY (λE1 R hR=>mK lo (show X.A.in1.handled=none from I.ok.hd hc) E G λh' tk k ab=>?_) (nF I U) (λp d=>O _ (v p d)) T ⋯ λs1 s' l ss n L k1 g1 o1 k g o y gl=>?_
 .rw[w];exact hR _ _ (List.Perm.refl _) k rfl rfl
 .have M:Inv X pins N H s1:=I.keptS k1 g1 o1;have i:H l=none:=M.hok.fresh y;have J:Inv X pins N H s':=M.keptS k g o;refine%[.ref l,_,M.stoodS (o:= .lst (ss\0)) J y %[?_,ss.map (λp=>Value.ref p.1),n,nG ss|gl],ρ|q l ss i (λp d=>U p (L.mem_iff.mp d)) (by rw[<-j];exact L.map _)];rw[Z6,L.length_eq,sizeLine_eq]
  lia
def Aa(c:X.calm=true):cJ X (.builtin "sorted") (λxs H Q=>∃a b ks m,xs=[.ref a]/\H a∣.dT b/\b\1=ks.map (λk:ZB=>k.map Sum.inr)/\(∀k∈ks,~~~k=m)/\m≠0/\ ~~~ks<=1000/\
 ∀(l:Addr) (ss:ZG),H l=none->aK H ss->(ss\2).Perm ks->Q (.ref l) (upd H l (.lst (ss\0)))):=⟨tW c⟩
def GW:QE X (.Dict [] [] pos) wN:=⟨BA⟩
def dZ(c:cg k X.A)(d:swapsWith a (some (.Subscript o i b)) pos.line X.env=pure false)(e:QE X a f)(g:QE X o h)(hi:QE X i ty):QS X (.Assign [.Subscript o i b] a pos) (nO h ty f):=
 ⟨DW (by have:=c.units;lia) g.h hi.h e.h d⟩
def lR [DecidableEq c](a:List (c×V))(k:c)(v:V):(b8 a k v)\1=if k∈a\1 then a\1 else a\1 ++[k]:=by
 unfold b8;have e:(a.any λb=>decide (b.1=k))=true↔k∈a\1:=by
  grind
 by_cases h:k∈a\1
 .rw[if_pos (e.mpr h),if_pos h,Ys];refine Yp λb _=>?_
  show(if b.1=k then(b.1,v)else b).1=b.1
  split<;> rfl
 .rw[if_neg (λz=>h (e.mp z)),if_neg h,Zd];rfl
end
structure vg (K:ZA) (mg:ZC) (x:Str):Prop where
 at_:mg x∣.ref (cU mg x)
 cls:Cls K (cU mg x)
structure vh (K:ZA) (mg:ZC) (x m qual:Str) (st:Stmt) (ps:ZB):Prop where
 ex:∃f fd,DG K (cU mg x) m f/\Fun K m qual st f fd/\fH K fd ps []
structure Ci (K:ZA) (mg:ZC) (x qual:Str) (st:Stmt) (ps:ZB):Prop where
 ex:∃f fd,Mk K (cU mg x) f/\Fun K "__init__" qual st f fd/\fH K fd ps []
structure Ab (P:Program) (w:World) (K:ZA) (mg:ZC) (base:Heap) (k:Nat) (x m:Str) (ps:ZB) (sp:Sp):Prop where
 ex:∃f fd,eB P w K mg base CX0 k f fd ps sp/\DG K (cU mg x) m f/\fH K fd ps []
structure Ez (P:Program) (w:World) (K:ZA) (mg:ZC) (base:Heap) (k:Nat) (x:Str) (ps:ZB) (sp:Sp):Prop where
 ex:∃f fd,eB P w K mg base CX0 k f fd ps sp/\Mk K (cU mg x) f/\fH K fd ps []
section
variable{P:Program}{w:World}{K:ZA}{mg:ZC}{base:Heap}{x m qual:Str}{st:Stmt}{N ps:ZB}{k:Nat}{sp:Sp}
def vh.cal(D:vh K mg x m qual st ps)(S:ax N ps (ap st))
 (a:∀(H:Hp) (vs:List V) (Q:VK) (E:XK),sp vs H Q E-> ~~~vs= ~~~ps/\∀(f:Addr) (b:Value) (A:Around) (outer:List Env) (s:Shared),cg k (A.deeper (envOfC qual (ap st) ⇑s f b))->
  ∃t,PSs (sS CX0 P w K mg base N qual (ap st) f b A outer s H E).nox (cp st) t/\t {nx:=λ_ c=>Q .non c,rt:=Q} (start N vs) H):Ab P w K mg base (k+1) x m ps sp:=by
 have%[f,d,e,F|g]:=D.ex;exact%[f,d,F.ok S (λv H Q E h=>(a H v Q E h).1) (λb A o s H v Q E r h=>(a H v Q E h).2 f b A o s r),e|g]
def Ci.cal(D:Ci K mg x qual st ps)(S:ax N ps (ap st))
 (a:∀(H:Hp) (vs:List V) (Q:VK) (E:XK),sp vs H Q E-> ~~~vs= ~~~ps/\∀(f:Addr) (b:Value) (A:Around) (outer:List Env) (s:Shared),cg k (A.deeper (envOfC qual (ap st) ⇑s f b))->
  ∃t,PSs (sS CX0 P w K mg base N qual (ap st) f b A outer s H E).nox (cp st) t/\t {nx:=λ_ c=>Q .non c,rt:=Q} (start N vs) H):Ez P w K mg base (k+1) x ps sp:=by
 have%[f,d,e,F|g]:=D.ex;exact%[f,d,F.ok S (λv H Q E h=>(a H v Q E h).1) (λb A o s H v Q E r h=>(a H v Q E h).2 f b A o s r),e|g]
end
section
variable{X:Cx}{K:ZA}{j k:Nat}{x m:Str}{ps:ZB}{sp:Sp}{p pos apos:Pos}{o e:Expr}{es:List Expr}{to te:TE}{t:TA}
def GX(C:Ab X.prog X.w X.K X.mg X.base j x m ps sp)(c:vg X.K X.mg x)(d:cg k X.A)(a:Nat.ble j k=true)
 (g:eval (.Call (.Attribute o m apos) [] [] pos) X.env=(do
  let b<-eval o X.env
  standAt apos.atName
  let(f,first)<-holding [b] (getMethod b m pl)
  callWith pos f first (backTo pos (starEach [] X.env)) (backToKw pos (keywordEach [] X.env)))) (h:QE X o to):QE X (.Call (.Attribute o m apos) [] [] pos) (xZ (cU X.mg x) m sp [] E0 to wJ):=by
 have%[f,n,F,i|l]:=C.ex;exact⟨Bj h.h c.cls i F (d.mono (Nat.le_of_ble_eq_true a)) l .nil BB g⟩
def Ij(C:Ez X.prog X.w X.K X.mg X.base j x ps sp)(c:vg X.K X.mg x)(g:cg k X.A)(h:Gl X x)(a:Nat.ble (j+1) k=true)(b:(x==("__debug__"))=false)(d:(e::es).any aS=false)(i:QA X (e::es) t):
 QE X (.Call (.Name x p) (e::es) [] pos) (x4 (cU X.mg x) sp [] E0 t):=by
 have%[f,q,F,l|n]:=C.ex;rw[Zw,X8]at d;exact⟨DJ l F (g.mono (Nat.le_of_ble_eq_true a)) h c.at_ n .nil BB i.h b (aA d.1) (gX d.2)⟩
def GY(h:X.K=K)(a:jn o=false)(b:QE X o to):QE X (.Attribute o f pos) (F9 K to f):=by
 subst h;exact⟨Gb b.h (iP a)⟩
def EA(h:X.K=K)(c:gY a=false)(d:QE X o to)(g:QE X a i):QS X (.Assign [.Attribute o f b] a pos) (Ga K to i f):=by
 subst h;exact⟨Gc d.h g.h (kr c)⟩
end
structure GvT (K:ZA) (mg:ZC) (x:Str) (xs:List V):Prop where
 ex:∃a,mg x∣.ref a/\∀H,SqT K H a xs
def Cj{K:ZA}{h:Heap}{o:Obj}{its:ZJ}{n:Nat}(X:K.In h)(G:h.Ns mainGlobals mg)(z:nsIn K mainGlobals x∣some (.ref a))
 (b:K.lookup a∣o) (c:o.cls= .type "tuple") (d:o.data= .seq its n) (e:its.size<=sizeLine) (r:aN xs its.toList):GvT K mg x xs:=
 %[a,mg_of X G z|λ_=> .inr %[o,its,n,b,c,d,e|r]]
def Ik{X:Cx}{K:ZA}{x:Str}(h:X.K=K)(g:GvT K X.mg x xs)(b:Gl X x)(c:(x==("__debug__":Str))=false):QE X (.Name x pos) (λ_ H Q=>∀a,(∀d,SqT K d a xs)->Q (.ref a) H):=by
 have%[a,e|f]:=g.ex;refine⟨λpins s i H Q I q=>Fl (v:= .ref a) %[.ref a,e|rfl] b c pins s i H Q I (q a f)⟩
def tryN{X:Cx}(c:∀e s,X.xe e s->False)(d:QSs X a g):QS X (.Try a [h] [] [] pos) g:=by
 refine⟨λpins s i H D I q=>wpAny_Try_except (wpAny_mono (d.h pins s i H D I q) (λf b q=>?_) λe b q=>(c e b q).elim)⟩;cases f with
 | next=>exact wpAny_execs_nil q
 | brk=>exact q
 | cont=>exact q
 | ret u=>exact q
section
variable{X:Cx}{K:ZA}
end
def oE(x y:Str):gj [x] [y]=aP x y:=by
 show(if x=y then false else aP x y)=aP x y
 split
 .rename_i e;rw[e,cS]
 .rfl
section
#where
variable{S:Addr}
def fK{ks:ZB}{Q:ZD}(h:∀(O:ZD) (R:ZF->Shared->Prop),(∀c us f,StrsAre us f->f.Perm ks->(∀b o,s.heap.get? b∣o->c.heap.get? b∣o)->c.gens=s.gens->c.os=s.os->R us c)->↥A.in1 (collect (.ref S)) R O s)(few: ~~~ks<=1000)
 (T:∀(c s':Shared) (l:Addr) (vs:ZF) (ss:ZB) (n:Nat),StrsAre vs ss->ss.Perm ks->(~~~ks<64->ss.Pairwise (λa b=>aP b a=false))->(∀b o,s.heap.get? b∣o->c.heap.get? b∣o)->c.gens=s.gens->c.os=s.os->(∀b o,c.heap.get? b∣o->s'.heap.get? b∣o)->s'.gens=c.gens->s'.os=c.os->⇑c<=l->s'.heap.get? l=some {cls:= .type "list",data:= .seq vs.toArray n}->Q (.ref l) s'):
 ↥A (call (.builtin "sorted") [.ref S]) Q E s:=by
 refine Calls.call_function_entry kind_sorted plain_sorted entry_sorted (args_sorted1 _) ?_;unfold Builtin.«sorted»;refine Z2 (m:=checkCount "sorted" 1 1 _) (Z3 ?_);refine Z2 (h _ _ λc us f d i k1 U Y=>?_);have few: ~~~us<=1000:=by rw[bj d,i.length_eq];exact few
 refine Z2 (wpAny_newList ?_ (by rw[sizeLine_eq];omega));have C:(c.heap.push (seqObj "list" us.toArray 0)).get? ⇑c∣seqObj "list" us.toArray 0:=Zj _ rfl;have e:∀v∈us,∃x t,v=Value.str x t/\[x]∈ks.map λz=>[z]:=λv g=>by
  have%[x,t|rfl]:=d.all v g;refine%[x,t,ρ|Xs %[x,i.mem_iff.mp ?_|ρ]];rw[<-d.strs];exact Xs %[_,g|rfl]
 refine Z2 (wpAny_holding (wpAny_call_entry slot_list_sort %[_,C|rfl] entry_list_sort (jJ (s:={c with heap:=c.heap.push (seqObj "list" us.toArray 0)}) (kd:=oneType') (Nv:=λv=>iV (ks.map λz=>[z]) [strOf v]) C (by omega) (λG k6 H Q6 I=>?_) (λG k6=>?_) λout q p2=>%[_,rfl|?_]) (args_list_sort _)))
 .obtain⟨v1,B,r,rfl⟩:∃v1 B r,us=v1::B::r:=by
   match us,H with
   | v1::B::r,_=>exact%[v1,B,r|ρ]
  rw[keyKind_strs d];exact Z3 I
 .intro x y s' hx hy J;subst J;have%[x1|x2]:=x;have%[y1|y2]:=y;have%[a,t,rfl|L]:=e _ hx;have%[b,u,rfl|M]:=e _ hy;show ↥A.in1.in1 (keyLt' oneType' (.str a t) (.str b u)) (λr s'=>r=decide (iV (ks.map λz=>[z]) [a]<iV (ks.map λz=>[z]) [b])/\s'={c with heap:=G}) (λ_ _=>False) {c with heap:=G};rw[keyLt'_oneType];refine oneLt_str %[?_|rfl];rw[<-nD L,oE];rfl
 .obtain⟨n,gl⟩:∃n,(sortedHeap (c.heap.push (seqObj "list" us.toArray 0)) ⇑c us out.toArray).get? ⇑c∣seqObj "list" out.toArray n:=sortedHeap_at C;refine Z3 %[_,rfl|T c _ ⇑c out (out.map strOf) n (strsAre_map out (λv g=>d.all v (q.mem_iff.mp g))) ?_ ?_ k1 U Y (λb o' N=>?_) rfl rfl (Zi _) gl]
  .rw[<-d.strs]at i;exact(q.map _).trans i
  .intro l;rw[X9];refine Xj (λ{u v} hu g j=>?_) (p2 (by rwa[bj d,i.length_eq]));have%[a,t,rfl|L]:=e _ (q.mem_iff.mp hu);have%[b,t',rfl|M]:=e _ (q.mem_iff.mp g);show aP b a=false;rw[<-oE,nD M];have j:iV (ks.map λz=>[z]) [a]<=iV (ks.map λz=>[z]) [b]:=j;exact Zh (by omega)
  .have p:=Zu N;show(sortedHeap _ _ _ _).get? b=_;rw[sortedHeap_old (Zs p) (by rw[Zq];exact Yn p)];exact Z7 _ N
end
def ic:∀{ks:ZB} {us:ZF},aN (ks\3) us->StrsAre us ks
 |[],_,.nil=> .nil
 | _::_,_,.cons r t=>by
   have%[t'|rfl]:=r;exact .cons _ _ (ic t)
def dD:∀{ks:ZB} {us:ZF},StrsAre us ks->aN (ks\3) us
 | _,_,.nil=> .nil
 | _,_,.cons _ t h=> .cons %[t|rfl] (dD h)
section
variable{X:Cx}{K:ZA}
def Ac(h:X.K=K):cJ X (.builtin "sorted") (λxs H Q=>∃a ks,xs=[.ref a]/\SqL K H a (ks\3)/\ ~~~ks<64/\∀l (ss:ZB),H l=none->ss.Perm ks->ss.Pairwise (λa b=>aP b a=false)->Q (.ref l) (upd H l (.lst (ss\3)))):=by
 subst h;refine⟨λpins s E H xs us Q I r h=>?_⟩;have%[a,ks,rfl,j,few|q]:=h;have%[u,rfl|m]:=cu r;cases m;have%[its,f,%[o,n,p,v,G|d]|J]:=I.list j;have L: ~~~its= ~~~ks:=by rw[<-f.length,Z6]
 refine fK (ks:=ks) (λM R w=>wpAny_collect_seq a (.inl rfl) p v d (λh' k=>?_) (!2)) (by omega) λN s' l vs ss n y i z k1 A B k g o c C=>?_
 .exact w _ _ _ (ic f) (.refl _) k rfl rfl
 .have e:=I.keptS k1 A B;refine%[.ref l,_,e.stoodS (o:= .lst _) (e.keptS k g o) c %[?_,vs,n,dD y|C],ρ|q l ss (e.hok.fresh c) i (z few)];rw[Z6,i.length_eq,sizeLine_eq];omega
def oF{P:Program}{w:World}:∀{es:List DictEntry} {vs:List (Key×Value)} {ks:ZB},Pairs (aM P w) es vs->vs\1=ks.map Sum.inr->StrsAre (es.map (·.key)) ks
 | _,_,[],h,e=>by
   cases h with
   | nil=>exact .nil
   | cons _ _ _=>cases e
 | _,_,k::ks,h,e=>by
   cases h with
   | nil=>cases e
   | @cons l m a b c n d=>
     rw[Yq,Yq]at e;injection e with f g
     rcases aZ (c)with⟨i,t,q,_⟩|⟨x,t,q,j⟩
     .simp_all
     .rw[f]at q;cases q;rw[Yq,j];exact .cons _ _ (oF d g)
def Ae(m:X.calm=true):cJ X (.builtin "sorted") (λxs H Q=>∃(a:Addr) (c:List (Key×V)) (ks:ZB),xs=[.ref a]/\H a∣.dK c/\c\1=ks.map Sum.inr/\ ~~~ks<64/\
 ∀l (ss:ZB),H l=none->ss.Perm ks->ss.Pairwise (λa b=>aP b a=false)->Q (.ref l) (upd H l (.lst (ss\3)))):=by
 refine⟨λpins s M H xs us Q I r h=>?_⟩;have%[a,c,ks,rfl,p,e,few|q]:=h;have%[u,rfl|v]:=cu r;cases v;have%[_,lo,vs,w,o,es,N,g,ex,y,_,z|_]:=km I.hok p;have i:=oF z (e▸w.keys.symm);have O:=by
  have:=bj i;rw[Z6,Zb]at this;omega
 refine fK (ks:=ks) (λT R A=>mK lo (I.ok.hd m) %[o,g,ex|y] (by rw[sizeLine_eq];omega) λh' tk k B=>A _ _ _ i (.refl _) k rfl rfl) (by omega) λU s' l vs ss n C j E k1 G J k g o d L=>?_
 have f:=I.keptS k1 G J;refine%[.ref l,_,f.stoodS (o:= .lst _) (f.keptS k g o) d %[?_,vs,n,dD C|L],ρ|q l ss (f.hok.fresh d) j (E few)];rw[Z6,j.length_eq,sizeLine_eq];omega
def xB{w:World}(h:X.w=w)(p:X.calm=true):cJ X (.builtin "sorted") (λxs H Q=>∃a ks,xs=[.ref a]/\H a∣jT w a ks/\ ~~~ks<=1000/\∀l (ss:ZB),H l=none->ss.Perm ks->(~~~ks<64->ss.Pairwise (λa b=>aP b a=false))->Q (.ref l) (upd H l (.lst (ss\3)))):=by
 subst h;refine⟨λpins s E H xs us Q I r h=>?_⟩;have%[a,ks,rfl,v,few|q]:=h;have%[u,rfl|y]:=cu r;cases y;have%[S,_|_]:=(I.hok a _ v)
 refine fK (ks:=ks) (λG R z=>mE (I.ok.hd p) S λm vs ss e d k1 f i A=>z m vs ss e d k1 f i) few λm s' l vs ss n e d B k1 f i k g o c C=>?_
 have j:=I.keptS k1 f i;refine%[.ref l,_,j.stoodS (o:= .lst _) (j.keptS k g o) c %[?_,vs,n,dD e|C],ρ|q l ss (j.hok.fresh c) d B];rw[Z6,d.length_eq,sizeLine_eq];omega
def Af(h:X.K=K):cJ X (.builtin "sorted") (λxs H Q=>∃(a:Addr) (ps:ZG) (m:Nat),xs=[.ref a]/\SqL K H a (ps\0)/\aK H ps/\(∀p∈ps,~~~p.2=m)/\m≠0/\ ~~~ps<=1000/\
 ∀(l:Addr) (ss:ZG),H l=none->ss.Perm ps->Q (.ref l) (upd H l (.lst (ss\0)))):=by
 subst h;refine⟨λpins s J H xs us Q I r h=>?_⟩;have%[a,ps,m,rfl,f,i,j,v,few|q]:=h;have%[u,rfl|w]:=cu r;cases w;have%[its,y,%[o,n,z,A,L|c]|M]:=I.list f;have:=tU y;subst this;refine jY (λN R B=>wpAny_collect_seq a (.inl rfl) z A c (λh' k=>?_) (!2)) (nF I i) j v few λO s' l ss n e k1 C E k g o b G=>?_
 .exact B _ _ (List.Perm.refl _) k rfl rfl
 .have d:=I.keptS k1 C E;refine%[.ref l,_,d.stoodS (o:= .lst _) (d.keptS k g o) b %[?_,ss.map _,n,nG ss|G],ρ|q l ss (d.hok.fresh b) e];rw[Z6,e.length_eq,sizeLine_eq];omega
def Il{k:Nat}{i o:Expr}{ty a:TE}{pos:Pos}(b:cg k X.A)(c:behindInMarks .In o=false)(hi:QE X i ty)(d:QE X o a):QT X (.Compare i [.In] [o] pos) (tB (DU ty a)):=
 ⟨AV (Bw (by have:=b.units;omega) hi.h d.h) c⟩
end
def a8{X:Cx}{K:ZA}{a b:Expr}{c d:TE}{pos:Pos}(h:X.K=K)(e:nq b)(f:QE X a c)(g:QE X b d):QE X (.Subscript a b pos) (tOp (Gi K) c d):=by subst h;exact⟨Bq Gk f.h g.h e⟩
section
#where
end
section
variable(h:Heap)(l1 l2:Addr)
end
section
#where
variable{X:Cx}{K:ZA}{pos:Pos}
end
section
variable{X:Cx}{pos:Pos}
def oG(b:PassesOwn (model X.prog X.w) X.A X.env X.xe)(d:QT X c e)(f:QSs X a g):QS X (.While c a [] pos) (A4 e g):=⟨A5 b d.h f.h⟩
def a7(a:cg k X.A)(b:Gr i)(c:QE X o d)(hi:QE X i ty):QE X (.Subscript o i pos) (Bv d ty):=⟨DV (by have:=a.units;lia) c.h hi.h b⟩
#where
def EB{P:Nat->Value->Prop}(val:Nat->Str)(a:∀i v,P i v->∃t,v= .str (val i) t):CmpOf prog w A .Gt P (λi j=>decide ((val j).cps.toList<(val i).cps.toList)):=λi j b c s Q E hi d h=>by
 have%[t|rfl]:=a i b hi;have%[u|rfl]:=a j c d;exact richCompare_gives (typeIs_str s _ t) (typeIs_str s _ u) PySem.F.slot_str_gt PySem.F.entry_str_gt (PySem.F.args_str_gt_2 _ _) (gives_str_gt _ _ t u) (λx=>nomatch x) h
def yq{P:Nat->Value->Prop}(val:Nat->Str)(a:∀i v,P i v->∃t,v= .str (val i) t):CmpOf prog w A .Lt P (λi j=>decide ((val i).cps.toList<(val j).cps.toList)):=λi j b c s Q E hi d h=>by
 have%[t|rfl]:=a i b hi;have%[u|rfl]:=a j c d;exact richCompare_gives (typeIs_str s _ t) (typeIs_str s _ u) PySem.F.slot_str_lt PySem.F.entry_str_lt (PySem.F.args_str_lt_2 _ _) (gives_str_lt _ _ t u) (λx=>nomatch x) h
def Ck{i:Nat}{v:Value}(h:(#[Value.str x t,Value.str y u]:ZJ)[i]?∣v):∃t,v= .str (if i=0 then x else y) t:=by
 match i,h with
 | 0,h=>exact%[t|by simpa using h.symm]
 | 1,h=>exact%[u|by simpa using h.symm]
 | i+2,h=>simp at h
def vk(a:Nat->Nat->Bool):argBest a 1=if a 1 0=true then 1 else 0:=by simp[argBest]
def tX{x y:Str}(l:A.handled=none)
 (h:∀h' tk,(∀c o,s.heap.get? c∣o->h'.get? c∣o)->Q (if x.cps.toList<y.cps.toList then .str y u else .str x t) {s with heap:=h',toks:=tk}):
 ↥A (call (.builtin "max") [.str x t,.str y u]) Q E s:=by
 have j:(s.heap.push {cls:= .type _,data:= .seq #[.str x t,.str y u]}).IsTuple ⇑s _:=%[_,Zj _ rfl,rfl,0|rfl]
 refine call_max_two (wpAny_pyIter_tuple j ?_);have b:(s.heap.push {cls:= .type "tuple",data:= .seq #[.str x t,.str y u]}).objs.size=⇑s+1:=Zq ..;refine%[_,[_,⇑s],[_],_,_,_,_,ρ,Walks.tuple (A:=A.in1) l _ ⇑s (b▸Zs (Yo _)) _,
  %[%[_,Zj _ rfl,ρ|ρ]|j.push _],λc d=>?_,by simp,EB _ (λ_ _=>Ck)|λv h' tk m n=>?_]
 .rw[Zq,b];rcases mem_cons.mp d with rfl|d
  .simp
  .rcases mem_cons.mp d with rfl|d
   .exact Yn (Yo _)
   .cases d
 .have f:=λc o e=>by
   refine n c o (λi=>?_) (Z7 _ (Z7 _ e));rcases mem_cons.mp i with p|i
   .have:=Zu e;rw[p,b]at this;exact Xm _ (Nat.lt_of_succ_lt this)
   .cases i
  have q:=h h' tk f;have a:(#[Value.str x t,Value.str y u])[argBest _ 1]?∣v:=m;rw[vk]at a;by_cases g:x.cps.toList<y.cps.toList
  .rw[if_pos (by simp[g])]at a;rw[if_pos g]at q;exact(show Value.str y u=v by simpa using a)▸q
  .rw[if_neg (by simp[g])]at a;rw[if_neg g]at q;exact(show Value.str x t=v by simpa using a)▸q
def tY{x y:Str}(l:A.handled=none)
 (h:∀h' tk,(∀c o,s.heap.get? c∣o->h'.get? c∣o)->Q (if y.cps.toList<x.cps.toList then .str y u else .str x t) {s with heap:=h',toks:=tk}):
 ↥A (call (.builtin "min") [.str x t,.str y u]) Q E s:=by
 have j:(s.heap.push {cls:= .type _,data:= .seq #[.str x t,.str y u]}).IsTuple ⇑s _:=%[_,Zj _ rfl,rfl,0|rfl]
 refine call_min_two (wpAny_pyIter_tuple j ?_);have b:(s.heap.push {cls:= .type "tuple",data:= .seq #[.str x t,.str y u]}).objs.size=⇑s+1:=Zq ..;refine%[_,[_,⇑s],[_],_,_,_,_,ρ,Walks.tuple (A:=A.in1) l _ ⇑s (b▸Zs (Yo _)) _,
  %[%[_,Zj _ rfl,ρ|ρ]|j.push _],λc d=>?_,by simp,yq _ (λ_ _=>Ck)|λv h' tk m n=>?_]
 .rw[Zq,b];rcases mem_cons.mp d with rfl|d
  .simp
  .rcases mem_cons.mp d with rfl|d
   .exact Yn (Yo _)
   .cases d
 .have f:=λc o e=>by
   refine n c o (λi=>?_) (Z7 _ (Z7 _ e));rcases mem_cons.mp i with p|i
   .have:=Zu e;rw[p,b]at this;exact Xm _ (Nat.lt_of_succ_lt this)
   .cases i
  have q:=h h' tk f;have a:(#[Value.str x t,Value.str y u])[argBest _ 1]?∣v:=m;rw[vk]at a;by_cases g:y.cps.toList<x.cps.toList
  .rw[if_pos (by simp[g])]at a;rw[if_pos g]at q;exact(show Value.str y u=v by simpa using a)▸q
  .rw[if_neg (by simp[g])]at a;rw[if_neg g]at q;exact(show Value.str x t=v by simpa using a)▸q
def qj{l:Addr}{its:ZJ}{val:Nat->Str}{Q:ZD}(n:A.handled=none)(f:s.heap.IsList l its)(g:0<its.size)(a:∀(i:Nat) v,its[i]?∣v->∃t,v= .str (val i) t)
 (h:∀v h' tk,its[argBest (λi j=>decide ((val i).cps.toList<(val j).cps.toList)) (its.size-1)]?∣v->(∀b o,s.heap.get? b∣o->h'.get? b∣o)->Q v {s with heap:=h',toks:=tk}):
 ↥A (call (.builtin "min") [.ref l]) Q E s:=by
 have c:l<⇑s:=by have%[_,e|_]:=f;exact Zu e
 refine call_min_walk (wpAny_pyIter_list f %[_,[⇑s,l],[⇑s],_,_,_,_,rfl,Walks.list (A:=A.in1) n _ l (Zs c) its,%[%[_,Zj _ rfl,rfl|rfl]|f.push _],λb d=>?_,g,yq val a|λv h' tk p q=>?_])
 .rw[Zq];rcases mem_cons.mp d with rfl|d
  .simp
  .rcases mem_cons.mp d with rfl|d
   .exact Yn c
   .cases d
 .refine h v h' tk p λb o e=>q b o (λm=>?_) (Z7 _ e)
  rcases mem_cons.mp m with r|m
  .exact absurd (r▸Zu e) (Xm _)
  .cases m
def oH(val:Nat->Str):∀k,argBest (λi j=>decide ((val i).cps.toList<(val j).cps.toList)) k<=k/\∀j,j<=k->aP (val j) (val (argBest (λi j=>decide ((val i).cps.toList<(val j).cps.toList)) k))=false
 | 0=>%[Zi _|λj b=>by rw[le_zero.mp b];exact cS _]
 | k+1=>by
   have%[g|d]:=oH val k;rw[argBest];by_cases c:aP (val (k+1)) (val (argBest (λi j=>decide ((val i).cps.toList<(val j).cps.toList)) k))=true
   .have a:=c;unfold aP at a;rw[if_pos a];refine%[Zi _|λj b=>?_];by_cases e:j=k+1
    .exact e▸cS _
    .cases f:aP _ _ with
     | false=>rfl
     | true=>have:=dJ f c;rw[d j ⋯]at this;cases this
   .have a:=c;unfold aP at a;rw[if_neg a];refine%[⋯|λj b=>?_];by_cases e:j=k+1
    .lia
    .exact d j ⋯
end
section
variable{X:Cx}
def Ag(b:X.calm=true):cr X (.builtin "max") (λxs H Q=>∃x y,xs=[.str x,.str y]/\Q (.str (if aP x y=true then y else x)) H):=by
 intro pins s c H xs us Q I r h;have%[x,y,rfl|q]:=h;have%[u,d,rfl,%[t|rfl],t'|rfl]:=kh r;refine tX (I.ok.hd b) λh' tk k=>%[_,H,I.kept k,?_|q]
 by_cases a:x.cps.toList<y.cps.toList
 .rw[if_pos a,if_pos (show aP x y=true from Zf a)];exact%[_|ρ]
 .rw[if_neg a,if_neg (show ¬ aP x y=true from λe=>a (Zo e))];exact%[_|ρ]
def Ah(b:X.calm=true):cr X (.builtin "min") (λxs H Q=>∃x y,xs=[.str x,.str y]/\Q (.str (if aP y x=true then y else x)) H):=by
 intro pins s c H xs us Q I r h;have%[x,y,rfl|q]:=h;have%[u,d,rfl,%[t|rfl],t'|rfl]:=kh r;refine tY (I.ok.hd b) λh' tk k=>%[_,H,I.kept k,?_|q]
 by_cases a:y.cps.toList<x.cps.toList
 .rw[if_pos a,if_pos (show aP y x=true from Zf a)];exact%[_|ρ]
 .rw[if_neg a,if_neg (show ¬ aP y x=true from λe=>a (Zo e))];exact%[_|ρ]
def Ai(z:X.calm=true):cr X (.builtin "min") (λxs H Q=>∃(p:Addr) (ss:ZB),xs=[.ref p]/\SqL X.K H p (ss\3)/\0< ~~~ss/\∀m∈ss,(∀y∈ss,aP y m=false)->Q (.str m) H):=by
 intro pins s M H xs us Q I r h;have%[p,ss,rfl,A,N|q]:=h;have%[u,rfl|f]:=cu r;cases f;have%[its,g,B|O]:=I.list A;have a:= ~~~g;rw[Z6]at a;have C:its.toArray.size= ~~~ss:=by rw[Zp,a]
 have c:∀i v,its.toArray[i]?∣v->∃t,v=Value.str (ss.getD i Str.empty) t:=λi v e=>by
  have e:=↑e
  have hi:i< ~~~ss:=a▸(Xo e).1;have%[u,l|f]:=g.get (by rw[Zl,Z4 hi];rfl);rw[e]at l;have%[t|d]:=f;exact%[t|by rw[Za l,d,Zc,Z4 hi];rfl]
 refine qj (I.ok.hd z) B.isList ⋯ c λv h' tk n k=>?_
 have%[E|o]:=oH _ _;have%[t|d]:=c _ _ n
 generalize argBest _ _=b at E o n d
 have w:b< ~~~ss:=by lia
 have G:ss.getD b Str.empty=ss[b]:=by rw[Zc,Z4 w];rfl
 refine%[.str _,H,I.kept k,%[t|d]|q _ (G▸Yd w) λy J=>?_];have%[j,L|rfl]:=getElem_of_mem J;have:=o j ⋯;rwa[show ss.getD j Str.empty=ss[j] by rw[Zc,Z4 L];rfl]at this
def GZ(a:X.calm=true):cJ X (.builtin "max") (λxs H Q=>∃x y,xs=[.str x,.str y]/\Q (.str (if aP x y=true then y else x)) H):=⟨Ag a⟩
def Cl(a:X.calm=true):cJ X (.builtin "min") (λxs H Q=>∃x y,xs=[.str x,.str y]/\Q (.str (if aP y x=true then y else x)) H):=⟨Ah a⟩
def G0{K:ZA}(h:X.K=K)(a:X.calm=true):cJ X (.builtin "min") (λxs H Q=>∃(p:Addr) (ss:ZB),xs=[.ref p]/\SqL K H p (ss\3)/\0< ~~~ss/\∀m∈ss,(∀y∈ss,aP y m=false)->Q (.str m) H):=by subst h;exact⟨Ai a⟩
#where
def Ak:typeLookup (.type "list") "keys"=pure none:=by rw[typeLookup_type,builtinLookup_eq_fast];kernel_rfl
def Al(l:s.heap.get? a∣o)(m:o.cls= .type "list")(f:o.data= .seq xs k)(n:o.dict=none)(r:A.handled=none)
 (h:∀h' tk,(∀b p,s.heap.get? b∣p->h'.get? b∣p)->Q none {s with heap:=h',toks:=tk}):↥A (getAttr? (.ref a) "keys") Q E s:=by
 have%[c,u,v|y]:=o;simp only at m f n;subst m f n;have%[z,g,d,tk|os]:=s;have q:∀i,(%[z,g,d,i|os]:Shared).TypeIs (.ref a) "list":=λ_=>%[_,l|rfl]
 have C:=sub_AttributeError;have G:=PySem.F.slot_list_getattribute.lookup;have H:=PySem.F.slot_list_getattribute.bind (.ref a);have I:=am_list_getattr_none;unfold getAttr? getAttrBy? getAttrBy
 repeat (any_goals (first|assumption|exact q _|((with_reducible show wpAny _ _ (call (Value.builtin "list.__getattribute__") _ _) _ _ _);refine call_meets PySem.F.slot_list_getattribute (q _) am_entry_list_getattribute (PySem.F.args_list_getattribute_2 _ _) (meets_getattribute_miss_list a xs k y "keys" _ Ak (!1) (!1)) ⟨l,r,λh' i e j=>?_⟩)|wp_step))
 have%[t',J|L]:=j.there;have B:=j.keeps;show wpAny _ _ (getattributeRaised _ _ _ _ _ _ _) _ _ _;unfold getattributeRaised
 repeat (any_goals (first|assumption|wp_step))
 exact h _ _ B
def rC:entryFor table "dict.update.loop"=some Builtin.«dict.update.loop»:=entryFor_of_tree (by kernel_rfl)
def jr:plainId "dict.update.loop"=true:=!0
variable{R:Result->Shared->Prop}{I:Addr}{fp:List Addr}{wr:List Addr}{G:Array GenState->Array GenState->Prop}{n:Nat}{P:Nat->Value->Prop}{St:Nat->Shared->Prop}
variable{K:ZA}
end
def yv{b:Type}{a:List (b×V)}{vs:List (b×Value)}(r:KV a vs):aN (a\2) (vs\2):=by
 induction r with
 | nil=>exact .nil
 | cons h _ c=>exact .cons h.2 c
section
variable{X:Cx}{K:ZA}
abbrev Cm:V->List V->Hp->VK->Prop:=λx vs H Q=>asR x λa=>∃k y,vs=[kV k,y]/\∃b,H a∣.dK b/\ ~~~b<sizeLine/\(∀v,bF b k∣v->Q v H)/\(bF b k=none->Q y (upd H a (.dK (b8 b k y))))
def EC:MtM X "dict.setdefault" Cm:=by
 intro pins s J H x vs v us Q I p r h;have%[a,rfl,k,y,rfl,b,e,L,u|w]:=ef h;cases p;have%[M,A,rfl,B|l]:=kh r;have%[z,m,vs,c|n]:=km I.hok e;refine call_meetsIn slot_dict_setdefault n.typeIs PySem.F.entry_dict_setdefault (PySem.F.args_dict_setdefault_3 _ _ _) (kt_meets_setdefault _ a (nM B) m A) %[vs,n,~~~c▸z,λN hw=>?_|λO h' f C=>?_]
 .have q:=c.val k;cases d:bF b k with
  | none=>
    rw[gE.none_of (o:=valueAt vs k) (d▸q)]at hw;cases hw
  | some i=>
    have%[E,g|j]:=gE.some_of (d▸q);rw[g]at hw;exact(Za hw)▸%[i,H,I.tok _,j|u i d]
 .have d:bF b k=none:=by
   cases d:bF b k with
   | none=>rfl
   | some i=>
     have%[E,g|_]:=gE.some_of (d▸c.val k)
     grind
  exact%[y,_,nt I (e▸True.intro) C (let⟨q,_,_,G,_⟩:=f;%[q|G]) (tw (by have:=dX b k y;lia) m (c.put k l) f),l|w d]
def ig:MtQ X "dict.setdefault" Cm:=⟨EC⟩
abbrev kJ(v a:Addr):HO:= .ext λh=>h.IsValuesView v a
abbrev Cn:V->List V->Hp->VK->Prop:=λx vs H Q=>asR x λa=>vs=[]/\∃b,H a∣.dK b/\∀v,H v=none->Q (.ref v) (upd H v (kJ v a))
def ED:MtM X "dict.values" Cn:=by
 intro pins s w H x vs v us Q I i j h;have%[a,rfl,rfl,l,e|q]:=ef h;cases i;have c:=j.zero;subst c;have%[z,m,vs,n|f]:=km I.hok e;refine call_meetsIn slot_dict_values f.typeIs PySem.F.entry_dict_values (PySem.F.args_dict_values_1 _) (meets_dict_values _ a m) %[%[vs|f]|?_];have g:(s.heap.push {cls:= .type _,data:= .fields _}).IsValuesView ⇑s a:=%[_,Zj _ rfl,rfl|rfl]
 refine%[.ref ⇑s,_,I.laid (o:=kJ ⇑s a) (λb u e=>Z7 _ e) (Zi _) %[g,?_|λy A p k1=>?_],ρ|q _ I.fresh]
 .have%[o,d|_]:=g;exact%[o|d]
 .have%[o,d|r]:=p;exact%[o,k1 _ d|r]
def vo:MtQ X "dict.values" Cn:=⟨ED⟩
def xC(j:X.calm=true):cr X (.type "list") (λxs H Q=>∃(v a:Addr) (b:List (Key×V)),xs=[.ref v]/\H v∣kJ v a/\H a∣.dK b/\∀l,H l=none->Q (.ref l) (upd H l (.lst (b\2)))):=by
 intro pins s M H xs us Q I r h;have%[v,a,b,rfl,m,n|q]:=h;have%[u,rfl|p]:=cu r;cases p;have%[z,N,vs,f|w]:=km I.hok n;have g:=(I.hok _ _ m).1;have%[o,es,y,A|B]:=w;have C:s.heap.DictAt _ a vs y:=%[o,es,A|B]
 have E:= ~~~f;refine PySem.W.kdl_call (kdl_values) (I.ok.hd j) %[g|C] ⋯ λh' tk acc c keep G d=>?_
 have O: ~~~acc.toList= ~~~b:=by rw[Zb,d.1,E]
 refine%[.ref ⇑s,_,I.laid keep (Zi _) ?_,ρ|q _ I.fresh];have e:acc.toList=vs\2:=by
  refine Zz (!2) λi J T=>?_
  have%[k|L]:=d.2 i _ (Array.getElem?_eq_getElem J);have%[U|Y]:=Xo L
  simp_all
 exact%[by rw[Z6];exact z,acc.toList,c,e▸yv f|G]
def EE(c:X.calm=true):cJ X (.type "list") (λxs H Q=>∃(v a:Addr) (b:List (Key×V)),xs=[.ref v]/\H v∣kJ v a/\H a∣.dK b/\∀l,H l=none->Q (.ref l) (upd H l (.lst (b\2)))):=⟨xC c⟩
end
def vp:∀{ss:ZB},z∈ss->∃j,ss[j]?∣z/\(∀m,m<j->∀y,ss[m]?∣y->y≠z)/\(z::ss.eraseIdx j).Perm ss
 | x::ss,h=>by
   by_cases e:x=z
   .exact%[0,by simp[e],λm b=>absurd b ⋯|by simp[e]]
   .have%[j,c,d|f]:=vp ((mem_cons.mp h).resolve_left λq=>e q.symm);refine%[j+1,c,λm b y a=>?_|?_]
    .cases m with
     | zero=>simp at a;exact a▸e
     | succ m=>exact d m ⋯ y (a)
    .exact(List.Perm.swap _ _ _).trans (f.cons _)
section
variable{X:Cx}{K:ZA}
abbrev G1:V->List V->Hp->VK->Prop:=λx vs H Q=>asR x λa=>∃k y,vs=[kV k,y]/\∃b,H a∣.dK b/\Q ((bF b k).getD y) H
def G3:MtM X "dict.get" G1:=by
 intro pins s n H x vs v us Q I f g h;have%[a,rfl,k,y,rfl,b,e|q]:=ef h;cases f;have%[o,i,rfl,j|l]:=kh g;have%[z,m,vs,c|d]:=km I.hok e;exact call_meetsIn slot_dict_get d.typeIs PySem.F.entry_dict_get (PySem.F.args_dict_get_3 _ _ _) (meets_dict_get_default _ a (nM j) m i) %[_,d.mapOf,(bF b k).getD y,H,I.tok _,(c.val k).getD l|q]
def vt:MtQ X "dict.get" G1:=⟨G3⟩
abbrev isZ(z:Str):Value->Bool
 | .str x _=>x==z
 | _=>false
def Am(t:Tok)(r:aN (ss\3) its)(h: ~~~ss= ~~~its)(l:z∈ss):∃(j:Nat) (e:j<its.toArray.size),ss[j]?∣z/\(z::ss.eraseIdx j).Perm ss/\(∀y,y∈its.toArray->MeetsSeq.EqGives y (.str z t) (isZ z y))/\isZ z its.toArray[j]=true/\∀m (a:m<its.toArray.size),m<j->isZ z its.toArray[m]=false:=by
 have%[j,f,n|o]:=vp l;have b:∀m y,its[m]?∣y->∃x t,y=Value.str x t/\ss[m]?∣x:=λm y c=>by
  have a:m< ~~~ss:=h▸(Xo c).1;have%[u,i|p]:=r.get (by rw[Zl,Z4 a];rfl);rw[c]at i;have%[t|q]:=p;exact%[_,t,(Za i).trans q|Z4 a]
 have e:j< ~~~its:=h▸(Xo f).1;refine%[j,e,f,o,λy c=>?_,?_|λm a g=>?_]
 .have%[m|a]:=Xi ↑c;have%[x,t',rfl|_]:=b m y a;exact eqGives_str x z t' t
 .have%[x,t',ex|d]:=b j _ (Z4 e);rw[f]at d;show isZ z its[j]=true;rw[ex,<-Za d];exact beq_self_eq_true z
 .have%[x,t',ex|d]:=b m _ (Z4 a);show isZ z its[m]=false;rw[ex];exact beq_eq_false_iff_ne.mpr (n m g x d)
abbrev tZ:V->List V->Hp->VK->Prop:=λx vs H Q=>asR x λl=>∃z,vs=[.str z]/\∃ss:ZB,H l<*ss\3/\z∈ss/\∀a,(z::a).Perm ss->Q .non (upd H l (.lst (a\3)))
def Ao:MtM X "list.remove" tZ:=by
 intro pins s A H x vs v us Q I c d h;have%[l,rfl,z,rfl,ss,a,f|q]:=ef h;cases c;have%[u,rfl|g]:=d.one;have%[t|rfl]:=g;have%[i,its,n,r,b|e]:=I.lstM a;rw[Z6]at b i;have%[j,m,_,o,p,w|y]:=Am t r b f;refine call_meets F.slot_list_remove %[_,e|rfl] F.entry_list_remove (F.args_list_remove_2 _ _) (MeetsSeq.list_remove l its.toArray n _ _ p j m w y (!2)) %[e,.non,_,I.lset (its':=its.eraseIdx j) a e ?_ ?_ ?_,rfl|q _ o]
 .simp
 .rw[List.eraseIdx_eq_take_drop_succ,Zd,List.map_take,List.map_drop,<-List.eraseIdx_eq_take_drop_succ];exact r.eraseIdx j
 .have:=qJ ss j;rw[Z6]
  lia
def Co:MtQ X "list.remove" tZ:=⟨Ao⟩
end
def Ap:typeLookup (.type "list_reverseiterator") "__len__"=pure none:=by kernel_rfl
def Cp:typeLookup (.type "list_reverseiterator") "__length_hint__"=pure (some (.builtin "list_reverseiterator.__length_hint__")):=by kernel_rfl
section
#where
def qk(hh:A.handled=none)(O:s.heap.IsRevIter I l ((a.size:Int) -1))(U:s.heap.IsList l a)(ne:l≠I)(hz:a.size<=sizeLine)
 (hQ:∀s' acc c,(∀b o,b≠I->s.heap.get? b∣o->s'.heap.get? b∣o)->s'.gens=s.gens->s'.os=s.os->s'.heap.get? ⇑s=some {cls:= .type "list",data:= .seq acc c}->acc.toList=a.toList.reverse->Q (.ref ⇑s) s'):
 ↥A (call (.type "list") [.ref I]) Q E s:=by
 have v:I<⇑s:=let⟨_,i,_⟩:=O;Zu i;have y:l<⇑s:=let⟨_,i,_⟩:=U;Zu i
 generalize p:s.heap.push {cls:=Value.type "list",data:=Data.seq #[]}=G
 have gz:G.objs.size=⇑s+1:=by rw[<-p,Zq]
 have z:∀b o,s.heap.get? b∣o->G.get? b∣o:=λb o e=>by rw[<-p];exact Z7 _ e
 have q:G.get? ⇑s=some {cls:=Value.type "list",data:=Data.seq #[]}:=by rw[<-p];exact Zj _ rfl
 refine callType_codes (Q₁:=λobj g=>obj= .ref ⇑s/\g={s with heap:=G}) F.called_list (F.typeCall_list_1 (Value.ref I)) F.entry_list_init (code_list_new (Value.ref I) %[rfl|by rw[p]]) λobj g j=>?_
 have%[rfl|rfl]:=j;refine%[%[_,q|ρ],F.args_list_init_2 _ _|?_];show ↥A.in1.in1 (Builtin.«list.__init__» %[[.ref ⇑s,.ref I]|[]]) _ _ _;unfold Builtin.«list.__init__»;refine Z2 ?_;refine listItems_at (s:={s with heap:=G}) q rfl ?_;refine Z2 (listUpdate_at (s:={s with heap:=G}) q rfl ?_ (Xh _));have Y:=get?_update_self (Obj.mapSeq λ_=> #[]) q rfl;have f:∀b o,b≠⇑s->G.get? b∣o->(G.update ⇑s (Obj.mapSeq λ_=> #[])).get? b∣o:=λb o B e=>(get?_update_other _ _ (Ne.symm B)).trans e
 refine Z2 (wpAny_letGo ?_)
 generalize G.update ⇑s (Obj.mapSeq λ_=> #[])=h at Y f
 have C:I≠⇑s:=Zs v;have nl:l≠⇑s:=Zs y;have m:h.IsRevIter I l ((a.size:Int) -1):=O.at λo e=>f _ _ C (z _ _ e)
 have H:h.IsList l a:=let⟨o,i,r⟩:=U;%[o,f _ _ nl (z _ _ i)|r];have W:=Walks.listRev (prog:=prog) (w:=w) (A:=A.in1.in1) hh I l ne a;have n:(0<=a.size/\h.IsRevIter I l (↑(a).size-1-((0:Nat):Int))/\h.IsList l a):=%[Xh _,↑m|H]
 show ↥A.in1.in1 (Builtin.List.listExtendWith (.ref ⇑s) (.ref I) .none) _ _ {s with heap:=h};unfold Builtin.List.listExtendWith;have u:Shared.TypeIs {s with heap:=h} (.ref I) "list_reverseiterator":=m.typeIs;refine Z2 (wpAny_typeOf (T:="list_reverseiterator") u ?_);have n1:Builtin.List.listSameRef (.ref ⇑s) (.ref I)=false:=beq_eq_false_iff_ne.mpr (Ne.symm C);have n2:(Value.type "list_reverseiterator"==Value.type "list")=false:=!1
 have n3:(Value.type "list_reverseiterator"==Value.type "tuple")=false:=!1
 simp only[n1,n2,n3,Bool.or_false,Y0,if_false];refine Z2 (W.self 0 {s with heap:=h} _ _ n ?_);refine Z2 (wpAny_holding ?_);unfold Builtin.List.listLengthHint;refine Z2 (wpAny_specialOf (T:="list_reverseiterator") u Ap ?_);show wpAny _ _ (specialOf (.ref I) (!"__length_hint__")>>= _) _ _ _;refine Z2 (wpAny_specialOf u Cp ?_)
 wp_delta
 refine Z2 (wpAny_isInstance (T:="list_reverseiterator") (b:=true) u (by rw[isSubtype_type];kernel_rfl) ?_);simp only[Bool.not_true,Y0,if_false];rw[if_pos (!0)];rw[if_neg (!1)];refine Z3 ?_;rw[if_neg (!0)];have J:⇑s∉[I,l]:=by
  simp only[Yw,X7,or_false,not_or];exact%[Ne.symm C|Ne.symm nl]
 refine Z3 %[plainId_quiet F.plain_extend_loop _|codeAny_extend_loopS W.toS hz _ J _ a.size 0 _ _ _ rfl (Xh _) n Y (ItemsOf.nil _) λs5 acc c5 L M d=>?_];refine%[ρ|hQ s5 acc c5 (λb o B e=>?_) L.gens L.os M ?_]
 .have nb:b≠⇑s:=Zs (Zu e);refine L.heap b o ?_ (f _ _ nb (z _ _ e));simp only[Yw,X7,or_false,not_or];exact%[nb|B]
 .apply ext_getElem?;intro k;have al: ~~~acc.toList=a.size:=Zb▸d.1;by_cases hk:k<a.size
  .have N:k<acc.size:=d.1▸hk;have:=d.2 k acc[k] ∅;rw[List.getElem?_reverse (hk),Zb,getElem?_toList,getElem?_toList,this];simp[N]
  .rw[Xn ⋯,Xn (by simp;lia)]
end
abbrev G4(n:Nat)(a l:Addr)(m:Nat):HO:= .ext λh=>n<=a/\h.IsRevIter a l (m-1)
def Aq{X:Cx}:cr X (.type "reversed") (λxs H Q=>∃(l:Addr) (ys:List V),xs=[.ref l]/\SqL X.K H l ys/\∀r,H r=none->Q (.ref r) (upd H r (G4 X.s₀.heap.objs.size r l ys.length))):=by
 intro pins s a H xs us Q I r h;have%[l,ys,rfl,c|q]:=h;have%[u,rfl|d]:=cu r;cases d;have%[its,f,pl|j]:=I.list c;refine call_reversed_list pl.isList ?_;have g:=I.hok.fresh (Zi _);have J:Inv X pins a H {s with heap:=(s.heap.push (revObj l (its.toArray.size-1)))}:=I.keptS (λb o e=>Z7 _ e) rfl rfl;refine%[.ref ⇑s,_,I.stoodS (o:=G4 X.s₀.heap.objs.size ⇑s l ys.length) J (Zi _) %[%[I.sz|?_],%[_|Zj _ rfl]|λ_ _ ⟨i,x⟩ k=>%[i|x.at λo e=>k o e]],ρ|q _ g];rw[~~~f,<-Zp];exact%[_,Zj _ rfl,ρ|ρ]
def Inv.dropped{X:Cx}(I:Inv X pins l H s)(m:H a∣.ext j)(r:X.s₀.heap.objs.size<=a)(g:∀b o,b≠a->s.heap.get? b∣o->s'.heap.get? b∣o)(v:s'.gens=s.gens)(w:s'.os=s.os):Inv X pins l (drop H a) s':=by
 have d:∀{b:Addr} {o:HO},H b∣o->(∀j,o≠ .ext j)->b≠a:=λe n z=>by
  grind
 have un:Un (frs X.stack) [a] H (drop H a) s.heap s'.heap:=by
  refine%[λb o e _ _ f=>g b o ↑f e,λb o e _ _ f=>%[o.slots|g b o ↑f e],λb o _ n _=>?_,λb o e f=>%[o|g b o ↑f e],λb xs e=>?_,λb o u e=>?_|λb ps e=>%[#[]|?_]]
  .unfold drop;split
   .rfl
   .exact n
  .rw[jp (d e ∅)];exact e
  .rw[jp (d e ∅)];exact e
  .rw[jp (d e ∅)];simpa using e
 have h:HOk X.prog X.w (drop H a) s'.heap:=λb o e=>by
  have nb:b≠a:=λz=>by rw[z,z0]at e;cases e
  rw[jp nb]at e;refine(I.hok b o e).stay (λc u i q=>g c u ?_ q) (λc q=>?_) λc xs q=>?_
  .rcases i with rfl|i
   .exact nb
   .exact d i ∅
  .rw[jp (d q ∅)];exact q
  .rw[jp (d q ∅)];exact q
 exact I.call' w un h (by rw[v];exact I.bare) λb y=>by
  obtain rfl:b=a:=↑y
  refine%[.inr r,λz=>?_,λx c e z=>?_|λp A z=>?_]
  .have:=I.free;grind
  .have:=I.freeC x c e;grind
  .have:=(I.pin p A).2.1;rw[z,m]at this;cases this
def vv{X:Cx}(y:X.calm=true):cr X (.type "list") (λxs H Q=>∃(r l:Addr) (ys:List V),xs=[.ref r]/\H l<*ys/\H r∣G4 X.s₀.heap.objs.size r l ys.length/\∀p,drop H r p=none->p≠r->Q (.ref p) (upd (drop H r) p (.lst ys.reverse))):=by
 intro pins s L H xs us Q I r h;have%[a,l,ys,rfl,g,f|q]:=h;have%[u,rfl|A]:=cu r;cases A;have%[z,its,n,B,m|e]:=I.lstM g;have%[%[v|b]|_]:=I.hok a _ f;have i:l≠a:=λz=>by rw[z,f]at g;cases g
 have sz:its.toArray.size= ~~~ys:=!2
 refine qk (I.ok.hd y) (by rw[sz];exact b) %[_,e,rfl,n|rfl] i (by rw[sz];exact z) λs' acc c C E j G d=>?_
 have w:=I.dropped f v (λ_ _ _ e=>e) rfl rfl;have J:=I.dropped f v C E j;have lt:=let⟨_,j,_⟩:=b;Zu j;refine%[.ref ⇑s,_,w.stoodS (o:= .lst ys.reverse) J (Zi _) %[?_,acc.toList,c,?_|?_],ρ|q _ (w.hok.fresh (Zi _)) (X1 lt)]
 .rw[List.length_reverse];exact z
 .rw[d];exact B.reverse
 .exact G
abbrev vw(b:TE):TE:=λc H Q=>b c H λv a=>∃l ys,v= .ref l/\a l<*ys/\∀p,a p=none->Q (.ref p) (upd a p (.lst ys.reverse))
def Cq{X:Cx}(h:X.calm=true)(i:Gl X "reversed")(j:X.mg "reversed"=none)(a:Gl X "list")(b:X.mg "list"=none)(d:aS e=false)(m:QE X e n):
 QE X (.Call (.Name "list" o) [.Call (.Name "reversed" s) [e] [] u] [] w) (vw n):=by
 have y:QE X (.Call (.Name _ s) [e] [] u) _:=ctE ⟨Aq⟩ i j PyProof.Rows.boot_reversed rfl rfl (by simp[d]) (paE d (⟨GL m.h⟩) aq);have z:=ctE (p:=o) (pos:=w) ⟨vv h⟩ a b boot_list rfl rfl rfl (paE rfl y aq);refine⟨GM z.h λB H Q q=>?_⟩;refine%[_,q|λv C ⟨l,ys,A,c,q⟩=>%[l,ys,by rw[A],SqL.of c|λr f=>?_]];refine%[r,l,ys,ρ,by rw[ao (aw c f)];exact c,aa|λp g _=>?_];rw[BX f]at g ⊢;exact q p g
section
variable{X:Cx}
abbrev G5:R2:=λx y H Q=>asR x λa=>asR y λb=>∃xs,H a<*xs/\H b<*[]/\Q (.bl (decide (xs≠[]))) H
def G6(B:X.A.units+64<cLine):OpR X (compareOp .NotEq) G5:=by
 intro pins s C H x y v u Q I l m h;have%[a,rfl|o]:=ef h;have%[b,rfl,xs,p,w|q]:=ef o;cases l;cases m;have%[z,its,n,r,g|e]:=I.lstM p;have%[E,its2,i,G,d|c]:=I.lstM w;obtain rfl:its2=[]:=length_eq_zero_iff.mp d.symm;by_cases f:xs=[]
 .subst f;obtain rfl:its=[]:=length_eq_zero_iff.mp g.symm;exact richCompare_meets_room (op:= .NotEq) %[_,e|rfl] %[_,c|rfl] PySem.F.slot_list_ne PySem.F.entry_list_ne (PySem.F.args_list_ne_2 _ _) (SeqAt.list_neAt a b #[] #[] n i none none #[] #[] rfl λ_=>true) %[e,c,λj h=>absurd h (X6 j),by simp,.bl _,H,I,rfl|q] ⋯
 .have A:its.toArray.size≠0:=by
   rw[Zp,<-g];exact λq=>f (length_eq_zero_iff.mp q)
  rw[Zf f]at q;exact richCompare_meets_room (op:= .NotEq) %[_,e|rfl] %[_,c|rfl] PySem.F.slot_list_ne PySem.F.entry_list_ne (PySem.F.args_list_ne_2 _ _) (SeqAt.list_ne_lengthsAt a b its.toArray #[] n i none none #[] #[] ↑A) %[e,c,by simp,.bl true,H,I,rfl|q] ⋯
def rD(a:cg k X.A):OpQ X (compareOp .NotEq) G5:=⟨G6 a.units⟩
#where
def fh(I:List i->j->Shared->Prop):∀(xs:List i) (b:j) (s:Shared),I xs b s->
 (∀x r b s,I (x::r) b s->↥A (f x b) (λy s'=>match y with| .done c=>Q c s'| .yield c=>I r c s') E s)->(∀b s,I [] b s->Q b s)->↥A (forIn xs b f) Q E s
 |[],b,s,h,_,a=>by
  exact Z3 (a b s h)
 | x::r,b,s,h,d,a=>by
   rw[forIn_cons];refine Z2 (wpAny_mono (d x r b s h) (λy s' g=>?_) λ_ _ e=>e);cases y with
   | done c=>exact Z3 g
   | yield c=>exact fh I r c s' g d a
def Cr:∀c {Q:Bool->Shared->Prop},(∀b∈c,∃d,bx w b d s.heap)->Q true s->↥A (setsQuiet c) Q E s:=by
 intro c Q h l;refine Z2 (fh (λr b s'=>(∀b∈r,∃d,bx w b d s.heap)/\b=(none,())/\s'=s) c _ s %[h,rfl|rfl] ?_ ?_)
 .intro x r b s' %[g,rfl|rfl];have%[d,o,es,C,t,ss,m,n,p,q,G,v,f,H,y,B|i]:=g x Zm;refine Z2 (wpAny_setEntries_of m p y (Z2 ?_));rw[<-forIn_toList];refine fh (λr b a=>(∀e∈r,∃z u,e=(hashStr w z,Value.str z u))/\b=(none,())/\a=s') es.toList _ _ %[f,rfl|rfl] ?_ ?_
  .intro e r b a %[j,rfl|rfl];have%[z,u|rfl]:=j e Zm;exact Z3 %[λe h=>j e (Zk _ h),rfl|rfl]
  .intro b a %[_,rfl|rfl];exact Z3 %[λe h=>g e (Zk _ h),rfl|rfl]
 .intro b s' %[_,rfl|rfl];exact Z3 l
abbrev hsE(w:World)(p:Str×Tok):Int×Value:=(hashStr w p.1,.str p.1 p.2)
def bx.texts{a:Addr}{h:Heap}{o:Obj}{es:Array (Int×Value)}(c:StrsAre (es.toList\2) ss)(f:ss.Perm ks)(d:∀e∈es.toList,∃z u,e=(hashStr w z,Value.str z u))(xs:List (Int×Value))(b:xs.Perm es.toList):∃zs:List (Str×Tok),xs=zs.map (hsE w)/\(zs\1).Perm ks:=by
 have all:∀l,(∀e∈l,∃z u,e=(hashStr w z,Value.str z u))->∃zs:List _,l=zs.map (hsE w):=λl=>by
  induction l with
  | nil=>exact λ_=>%[[]|rfl]
  | cons e l g=>
    intro h;have%[z,u|rfl]:=h e Zm;have%[zs|rfl]:=g λx b=>h x (Zk _ b)
    exact%[(z,u)::zs|ρ]
 have%[zs|rfl]:=all xs λe i=>d e (b.mem_iff.mp i)
 refine%[zs,ρ|?_];have%[ts,j|m]:=cF c (b.map _);have e:ts=zs\1:=by
  rw[<-j.strs,Ys,Ys];rfl
 exact e▸m.trans f
def rE{f:List Addr}{c:ZI}{Q:Array (Int×Value)->Shared->Prop}(U:bx w a ks s.heap)(hO:∀b∈f,∃js,bx w b js s.heap)(n:∀r,c∣r->r≠a/\bx w r [] s.heap)
 (hQ:∀(zs:List (Str×Tok)) (d:Drawn) (h':Heap),(zs\1).Perm ks->(∀b o,c≠some b->s.heap.get? b∣o->h'.get? b∣o)->(∀r,c∣r->bx w r [] h')->Q (zs.map (hsE w)).toArray {s with heap:=h',drawn:=d}):
 ↥A (setWalkUnseen a f c) Q E s:=by
 have%[o,es,ep,t,ss,Y,ac,hd,J,hp,ae,L,I,hf,M|i]:=id U;have g:∀(xs:List _) d h',xs.Perm es.toList->(∀b o,c≠some b->s.heap.get? b∣o->h'.get? b∣o)->(∀r,c∣r->bx w r [] h')->Q xs.toArray {s with heap:=h',drawn:=d}:=λxs d h' hx u h2=>by
  have%[zs,rfl|hz]:=bx.texts (a:=a) (h:=h') (o:=o) J hp L xs hx;exact hQ zs d h' hz u h2
 have walk:↥A (setWalk a) Q E s:=by
  refine Z2 (wpAny_setState_of Y hd hf ?_);show wpAny _ _ (if aW w=true then _ else _) _ _ _;by_cases N:aW w=true
  .rw[if_pos N];refine Z2 (wpAny_askSetting (Z3 ?_));have:=g (pickOrder (w.params.setOrder a ep) es).toList s.drawn s.heap (qX _ _) (λ_ _ _ e=>e) λr e=>(n r e).2
   exact this
  .rw[if_neg N]
   split
   .exact Z2 (tK es.size es.toList _ _ ∅ λys d p=>Z3 (g ys d s.heap p (λ_ _ _ e=>e) λr e=>(n r e).2))
   .refine Z2 ?_;show wpAny _ _ (if(!t.led&&decide _)=true then unsupported _ else pure ()) _ _ _;rw[i,show aW w=false by simpa using N];refine Z3 (Z3 ?_);have:=g es.toList s.drawn s.heap (.refl _) (λ_ _ _ e=>e) λr e=>(n r e).2
    exact this
 refine Z2 (wpAny_setState_of Y hd hf ?_);show wpAny _ _ (if(aW w||t.led&&t.plain||decide _)=true then _ else _) _ _ _;by_cases u:(aW w||t.led&&t.plain||decide (es.size<=1))=true
 .rw[if_pos u];exact walk
 .rw[if_neg u];refine Z2 (Cr _ (λb I=>?_) ?_)
  .rcases mem_cons.mp I with e|e
   .exact e▸%[_|U]
   .exact hO b e
  refine Z2 (wpAny_rule ?_);cases c with
  | none=>
    have:=g es.toList s.drawn s.heap (.refl _) (λ_ _ _ e=>e) λr e=>(n r e).2
    exact Z3 this
  | some r=>
    have%[ne,o2,O,ag,q,ai,j,v,l,y,T,B,C,G,H,ab|m]:=n r rfl;dsimp only;refine Z2 (wpAny_setState_of j l H ?_)
    split
    .refine Z2 (wpAny_storeSet_of j l ?_ (fits_of_scanBound G));have:=g es.toList s.drawn _ (.refl _) (λb o I e=>((SameBut.update s.heap r (Obj.putSet O {q with led:=q.led&&t.led,plain:=q.plain&&t.plain})).2 b λz=>I (by rw[z])).trans e) λr' e=>?_
     .exact Z3 this
     .cases e;exact(bx.stored (t':={q with led:=q.led&&t.led,plain:=q.plain&&t.plain}) j v l y T B C G H (by rw[(M λz=>u (by rw[z];simp)),Bool.and_false]) (by rw[m,i,Bool.and_self])).2
    .have:=g es.toList s.drawn s.heap (.refl _) (λ_ _ _ e=>e) λr e=>(n r e).2
     exact Z3 this
def EF(h:jF (Sum.inr z) (Value.str y u)=true):y=z:=by
 rcases aZ h with⟨i,t',a,b⟩|⟨c,t',a,b⟩
 .lia
 grind
def vx{ks:ZB}(g:s.heap.get? a∣o)(i:o.data= .set es G t)(b:∀e∈es.toList,∃z u,e=(hashStr w z,Value.str z u))(B:es.size<scanBound)(l:t.fits es.size=true)
 (m:∀r,(r=none->∀e∈es.toList,∀u,e.2≠ .str z u)->(∀j,r∣j->∃u,es.toList[j]?∣(hashStr w z,.str z u))->Q r s):↥A (setFind a (.str z tk) (hashStr w z)) Q E s:=by
 have n:ElemsOf (aM prog w) es.toList:=qW b;have c:(aM prog w).is (Sum.inr z) (.str z tk)=true:=dG z tk;refine Z2 (wpAny_setState_of g i l ?_);dsimp only;rw[byScan_of rfl B n];refine Z2 (wpAny_rule (Z2 (wpAny_setScan_of c g i l n ?_)));cases p:List.findIdx? _ es.toList with
 | some j=>
   have%[v,d|_]:=List.findIdx?_eq_some_iff_getElem.mp p;dsimp only;rw[zero_add];refine Z3 (m _ (λh=>(nomatch h)) λH e=>?_);cases e;have%[y,u|f]:=b _ (Yd v);rw[f]at d;rw[EF (u:=u) d]at f;exact%[u|by rw[Z4 v,f]]
 | none=>
   refine Z3 (m none (λ_ e C u q=>?_) λj e=>(nomatch e));have:=List.findIdx?_eq_none_iff.mp p e C;rw[q,show(aM prog w).is (Sum.inr z) (Value.str z u)=true from dG z u]at this;cases this
def dAq{P D M n i b:Nat}(h:P=n/\P+D<=M)(hi:i<n):min i P+(P-(i+1))=n-1/\min i P+(P-(i+1))+(min b D+1+(D-b))<=M:=by
 obtain⟨rfl,h⟩:=h
 have e:=Nat.sub_add_min_cancel D b
 have k:i+1+(P-(i+1))=P:=Nat.add_sub_of_le hi
 rw[Nat.min_eq_left (Nat.le_of_lt hi),Nat.min_comm b D]
 generalize min D b=x at e ⊢
 generalize D-b=y at e ⊢
 generalize P-(i+1)=z at k ⊢
 exact ⟨by lia,by lia⟩
def As{t:SetTable}(h:t.fits n=true)(hi:i<n):(t.drop i).fits (n-1)=true/\(t.drop i).led=t.led/\(t.drop i).plain=t.plain:=by
 unfold SetTable.fits at h ⊢;rw[Zv,beq_iff_eq,decide_eq_true_eq]at h;unfold SetTable.drop;have:t.place[i]?∣t.place[i]:=by simp
 rw[this];refine%[?_,ρ|ρ];rw[Zv,beq_iff_eq,decide_eq_true_eq];unfold SetTable.fill at h ⊢;simp only[SetTable.eraseAt,SetTable.insertAt,size_append,Array.size_extract,Xl,Nat.min_self,Nat.sub_zero]
 first|exact dAq h hi|lia
def xD(h:i<es.size):(SetTable.eraseAt es i).toList=es.toList.eraseIdx i:=by
 rw[List.eraseIdx_eq_take_drop_succ,SetTable.eraseAt,Xg,toList_extract,toList_extract,List.extract_eq_take_drop,List.extract_eq_take_drop];simp;exact Zn ∅
def vy{ks:ZB}(H:bx w a ks s.heap)(l:∀h' b,SameBut a s.heap h'->bx w a (ks.erase z) h'->Q b {s with heap:=h'}):↥A (setDiscardHashed a (.str z tk) (hashStr w z)) Q E s:=by
 have%[o,es,ep,t,ss,g,m,h,c,I,n,d,J,p,v|f]:=id H;refine Z2 (vx (ks:=ks) g h d J p λr L M=>?_);cases r with
 | none=>
   have N:z∉ks:=λq=>by
    have%[u|j]:=(dY c).mpr (I.mem_iff.mpr q);have%[e,y|O]:=Xr j;exact L rfl e y u O
   rw[List.erase_of_not_mem N]at l;exact Z3 (l s.heap false (SameBut.refl a s.heap) H)
 | some i=>
   have%[u|j]:=M i rfl;have hi:i<es.size:=(Xo j).1;have B:((hashStr w z,Value.str z u)::(SetTable.eraseAt es i).toList).Perm es.toList:=by
    rw[xD hi];have:=g9 (xs:=es.toList) (hi);rwa[(Xo j).2]at this
   have%[ts,C|T]:=cF c (B.map _);cases C with
   | cons _ _ C=>
   have%[U,Y|d3]:=As p hi;have G:(SetTable.eraseAt es i).size=es.size-1:=by
    rw[<-Zb,<-Zb,<-B.length_eq];simp
   refine Z2 (wpAny_setState_of g h p ?_);dsimp only;refine Z2 (wpAny_storeSet_of g h (Z2 (wpAny_point (Z3 (l _ true (SameBut.update s.heap a _) (bx.stored g m h C ((List.cons_perm_iff_perm_erase.mp (T.trans I)).2) (n.erase z) (λe y=>d e (B.mem_iff.mp (Zk _ y))) ?_ ?_ ?_ ?_).2)))) (fits_of_scanBound ?_))
   .lia
   .exact G▸U
   .exact d3▸v ⋯
   .exact Y▸f
   .lia
end
def yw(h:_ST.WF t es)(a:es.size<=t.mask):t.fits es.size=true:=by
 unfold SetTable.fits SetTable.fill;rw[h.size,h.dum];simpa using a
section
#where
abbrev t4(w:World)(a:Addr)(n:Nat)(h:Heap):Prop:=∃o b t,h.get? a∣o/\o.ExactSet/\o.data= .set #[] b t/\t.place= #[]/\t.dummies= #[]/\t.led=(!aW w)/\(∃k,t.mask+1=2^k)/\7<=t.mask/\n<=t.mask
def t4.fits{t:SetTable}(a:t.place= #[])(b:t.dummies= #[]):t.fits (#[]:Array (Int×Value)).size=true:=by
 unfold SetTable.fits SetTable.fill;rw[a,b];simp
def EG{n:Nat}{Q:Unit->Shared->Prop}(a:s.heap.get? r∣aX w)(f:n<=1000)(c:∀h',SameBut r s.heap h'->t4 w r n h'->Q () {s with heap:=h'}):↥A (setRoomFor r n) Q E s:=by
 have d:(SetTable.fresh 0 0 (!aW w)).fits _=true:=t4.fits rfl rfl;refine Z2 (wpAny_setState_of a rfl d ?_);show wpAny _ _ (match(if(0+n)*5>=7*3 then some ((0+n)*2)else none)with|some x=>setRelay r x|_=>pure ()) _ _ _;by_cases h:(0+n)*5>=7*3
 .rw[if_pos h];refine _ST.relay_w a rfl d ∅ ⋯ λb t' P W l p g m2=>c _ (SameBut.update s.heap r _) ?_
  obtain rfl:b= #[]:=by
   have:=P.length_eq;simpa using this
  have e:=by
   have q:=get?_update_self (Obj.putSet #[] t') a (by rfl);rwa[putSet_of #[] t' rfl]at q
  exact%[_,_,t',e,%[ρ,ρ|ρ],ρ,Array.eq_empty_of_size_eq_zero W.size,W.dum,l,W.pow,W.big|⋯]
 .rw[if_neg h];exact Z3 (c s.heap (SameBut.refl r s.heap) %[_,_,_,a,%[rfl,rfl|rfl],rfl,rfl,rfl,rfl,%[3|rfl],Zi 7|by show n<=7;lia])
def Cs{ks:ZB}(L:bx w a ks s.heap)(M:s.heap.get? r∣aX w)(N:r≠a)(h1:1<= ~~~ks)(h2: ~~~ks<=1000)(O:∀h',SameBut r s.heap h'->bx w r ks h'->Q () {s with heap:=h'}):↥A (setMerge r a) Q E s:=by
 have%[o,es,ep,t,ss,T,U,Y,m,C,y,z,hb,G,B|d]:=id L;have hn:es.size= ~~~ks:=by
  have q:=bj m;rw[Z6,Zb,C.length_eq]at q;exact q
 have pl:t.plain=false:=B ⋯;unfold setMerge;rw[if_neg ↑N];refine Z2 (wpAny_setState_of T Y G ?_);dsimp only;rw[if_neg (λh:es.isEmpty=true=>by have:=Zo h;lia)];refine Z2 (EG M ⋯ λh' sb ⟨o2,ab,n,g,u,i,H,I,J,k2,b2,m2⟩=>Z2 (wpAny_setState_of (s:={s with heap:=h'}) g i (t4.fits H I) ?_));dsimp only;have j:n.fill=0:=by unfold SetTable.fill;rw[H,I];rfl
 have put:∀(b:Array (Int×Value)) (t':SetTable),b.toList.Perm es.toList->t'.fits b.size=true->t'.plain=false->t'.led=(!aW w)->↥A (storeSet r b t') Q E {s with heap:=h'}:=λb t' P f p l=>by
  have sz:b.size=es.size:=by rw[<-Zb,P.length_eq,Zb]
  have%[ts,r1|r2]:=cF m (P\2);exact wpAny_storeSet_of (s:={s with heap:=h'}) g i (O _ (sb.trans (SameBut.update h' r _)) (bx.stored (w:=w) g u i r1 (r2.trans C) y (λe he=>z e (P.mem_iff.mp he)) ⋯ f p l).2) (fits_of_scanBound ⋯)
 unfold SetTable.road;rw[j,if_neg (!1)]
 split
 .exact put es _ (.refl _) G (by show(n.plain&&t.plain)=false;rw[pl,Bool.and_false]) (by show(n.led&&t.led)=_;rw[J,d,Bool.and_self])
 .have%[k|hk]:=k2;have%[t',c,e1,e2,e3,e4,e5,W|P]:=_ST.laid_ok hk b2 es ⋯ n.finger n.moves _ _;have sz:(c.filterMap (es[·]?)).size=es.size:=by rw[<-Zb,P.length_eq,Zb]
  rw[e1];refine Z2 ?_;show wpAny _ A (if((c.filterMap _).size != es.size)=true then _ else pure _) _ E _;rw[if_neg (by simp[sz])];exact Z3 (put _ t' P (show t'.fits _=true from yw W (by rw[sz,e2];lia)) (by rw[e4,pl,Bool.and_false]) (by rw[e3,J,d,Bool.and_self]))
 .rename_i v
  split at v<;> cases v
end
def bx.nd(S:bx w a ks h):ks.Nodup:=by
 have%[_,_,_,_,_,_,_,_,_,_,h|_]:=S;exact h
section
#where
def t5(c:bx w b f s.heap)(d:Q true s):↥A (Builtin.Frozenset.isAnySet (.ref b)) Q E s:=by
 have%[o,es,g,t,ss,e,a|_]:=c;exact Z2 (wpAny_isInstance (b:=true) %[o,e|a.1] (by kernel_rfl) (Z3 d))
def kK(d:bx w b e s.heap)(f:Q e.length s):↥A (Builtin.Frozenset.sizeOf b) Q E s:=by
 have%[o,es,u,t,ss,g,h,i,a,j,l,m,v,n,p|c]:=d;have r:=by
  have q:=bj a;rw[Z6,Zb,j.length_eq]at q;exact q
 exact Z2 (wpAny_setEntries_of g i n (Z3 (r▸f)))
def Ct(M:bx w r ks s.heap)(N:bx w b O s.heap)(ne:r≠b)(big: ~~~O< ~~~ks)(few: ~~~ks<=900)
 (hQ:∀h' d ms,(∀c o,c≠r->s.heap.get? c∣o->h'.get? c∣o)->(∀x,x∈ms↔x∈ks/\x∉O)->bx w r ms h'->Q () {s with heap:=h',drawn:=d}):↥A (Builtin.Frozenset.differenceUpdate nm r (.ref b)) Q E s:=by
 unfold Builtin.Frozenset.differenceUpdate;rw[if_neg (by simpa using ne.symm)];refine Z2 (t5 N ?_);rw[if_pos rfl];refine Z2 (Z3 (Z2 (kK N (Z2 (kK M ?_)))));rw[if_neg ⋯];have%[o,es,ep,t,ss,ho,ak,hd,al,hp,an,as,hb,hf,a0|ai]:=id N;have y:∀(s':Shared) (Y:Nat->Shared->Prop),s'.heap.get? b∣o->Y ep s'->↥A (setEpoch b) Y E s':=λs' Y e q=>by
  unfold setEpoch;exact Z2 (wpAny_setState_of e hd hf (Z3 q))
 refine Z2 (y s _ ho (Z2 (wpAny_holding (Z2 (rE N (λc i=>%[ks|(Xq i)▸M]) (λ_ e=>(nomatch e)) λzs d h1 pz k1 _=>Z2 ?_)))));rw[<-forIn_toList];refine fh (λxs _ s'=>∃f rest h',zs=f++rest/\xs=rest.map (hsE w)/\s'={s with heap:=h',drawn:=d}/\(∀c o,c≠r->s.heap.get? c∣o->h'.get? c∣o)/\∃ms,bx w r ms h'/\∀x,x∈ms↔x∈ks/\x∉f\1) _ _ _
  %[[],zs,h1,rfl,rfl,rfl,λc o _ e=>k1 c o ∅ e,ks,M.keep λo e=>k1 r o ∅ e|by simp] ?_ ?_
 .intro x xs _ s' %[f,rest,h',T,ex,rfl,U,ms,S|g];cases rest with
  | nil=>cases ex
  | cons p rest=>
  rw[Yq]at ex;injection ex with ab ac
  subst ab;refine Z2 (wpAny_holding (vy (z:=p.1) (tk:=p.2) (s:={s with heap:=h',drawn:=d}) S λh2 bb sb S2=>Z2 ?_));unfold Builtin.Frozenset.unchanged;have B:∀c o,c≠r->s.heap.get? c∣o->h2.get? c∣o:=λc o i e=>(sb.2 c i).trans (U c o i e)
  refine Z2 (y {s with heap:=h2,drawn:=d} _ (B b o ne.symm ho) ?_);rw[if_neg ∅];refine Z3 (Z3 %[f++[p],rest,h2,by rw[T,Ze];rfl,ac,rfl,B,_,S2|λx=>?_]);rw[S.nd.mem_erase_iff,g,Zd,Yt,Yq,map_nil,Yz,not_or]
  constructor
  .exact λ⟨a,b,c⟩=>%[b,c|a]
  .exact λ⟨b,c,a⟩=>%[a,b|c]
 .intro _ s' %[f,rest,h',T,ex,rfl,U,ms,S|g];obtain rfl:rest=[]:=by
   cases rest with
   | nil=>rfl
   | cons p rest=>cases ex
  rw[Zx]at T;have g:∀x,x∈ms↔x∈ks/\x∉O:=λx=>by rw[g,<-T,pz.mem_iff]
  have ae: ~~~ms≠0:=λe=>by
   have:=_ST.nodup_sub M.nd (m:=O) λx hx=>Decidable.byContradiction λq=>by
    have:=(g x).mpr %[hx|q];rw[length_eq_zero_iff.mp e]at this;cases this
   lia
  have sub:=_ST.nodup_sub S.nd λx hx=>((g x).mp hx).1
  refine Z3 ?_;have%[o2,j,a1,t2,a2,n,C,u,h,G,H,I,a3,J,L|v]:=id S;have hn:=by
   have q:=bj h;rw[Z6,Zb,G.length_eq]at q;exact q
  refine Z2 (wpAny_setState_of n u J ?_);dsimp only
  split
  .rw[show SetTable.grown j.size=j.size*4 by unfold SetTable.grown;rw[if_neg ⋯]];refine _ST.relay_w n u J ⋯ ⋯ λag t' P W l p m1 m2=>?_
   have sz:ag.size=j.size:=by rw[<-Zb,P.length_eq,Zb]
   have%[ts,r1|r2]:=cF h (P\2);exact hQ _ d ms (λc o i e=>((SameBut.update h' r _).2 c i).trans (U c o i e)) g (bx.stored n C u r1 (r2.trans G) H (λe he=>I e (P.mem_iff.mp he)) ⋯ (yw W ⋯) (p▸L ⋯) (l▸v)).2
  .exact Z3 (hQ h' d ms U g S)
def vz(a:Q (.ref ⇑s) {s with heap:=s.heap.push (aX w)}):↥A (newSet (.type "set")) Q E s:=by
 exact Z2 (Z2 (wpAny_askSetting (Z3 (wpAny_newObj_type a))))
def vA(d:bx w a ks s.heap)(e:Q (.type "set") s):↥A (Builtin.Frozenset.baseOf a) Q E s:=by
 have%[o,es,g,t,ss,f,c|_]:=d;exact Z2 (wpAny_isInstance (b:=true) %[o,f|c.1] (by kernel_rfl) (Z3 e))
def EH(n:bx w a ks s.heap)(B:bx w b H s.heap)(few: ~~~ks<=900)
 (hQ:∀h' d ms,(∀c o,s.heap.get? c∣o->h'.get? c∣o)->(∀x,x∈ms↔x∈ks/\x∉H)->bx w ⇑s ms h'->Q (.ref ⇑s) {s with heap:=h',drawn:=d}):↥A (Builtin.Frozenset.difference nm a (.ref b)) Q E s:=by
 have lt:∀{c:Addr} {ls:ZB},bx w c ls s.heap->c≠⇑s:=λ{c ls} h=>by
  have%[o,_,_,_,_,T|_]:=h;exact Zs (Zu T)
 have I:∀c o,s.heap.get? c∣o->(s.heap.push (aX w)).get? c∣o:=λc o e=>Z7 _ e
 have U:(s.heap.push (aX w)).get? ⇑s∣aX w:=Zj _ rfl;have Y:=n.keep λo e=>I a o e
 have O1:=B.keep λo e=>I b o e
 unfold Builtin.Frozenset.difference;dsimp only;refine Z2 (t5 B ?_);rw[if_neg (!1)];refine Z2 (Z3 ?_);rw[if_neg ∅,if_pos rfl];refine Z2 (kK B (Z2 (kK n ?_)))
 generalize hG:s.heap.push (aX w)=G at I U Y O1
 split
 .refine Z2 (wpAny_rule (Z2 ?_));unfold Builtin.Frozenset.copyOf;refine Z2 (vA n (Z2 (vz ?_)));rw[hG];refine Z2 (Z3 (Z2 (Cs (s:={s with heap:=G}) Y U (Ne.symm (lt n)) ⋯ ⋯ λh1 sb R1=>Z3 ?_)));have k1:∀c o,s.heap.get? c∣o->h1.get? c∣o:=λc o e=>(sb.2 c (Zs (Zu e))).trans (I c o e)
  exact Z2 (Z3 (Z2 (wpAny_holding (Ct (s:={s with heap:=h1}) R1 (B.keep λo e=>k1 b o e) (Ne.symm (lt B)) ⋯ few λi d ms k2 v M=>Z3 (hQ i d ms (λc o e=>k2 c o (Zs (Zu e)) (k1 c o e)) v M)))))
 .refine Z2 (vA n (Z2 (vz ?_)));rw[hG];refine Z2 (Z3 ?_);have%[o,es,ep,t,ss,T,a1,hd,a2,hp,a3,a4,hb,hf,a5|al]:=id Y;have J:∀(s':Shared) (Q':Nat->Shared->Prop),s'.heap.get? a∣o->Q' ep s'->↥A (setEpoch a) Q' E s':=λs' Q' e q=>by
   unfold setEpoch;exact Z2 (wpAny_setState_of e hd hf (Z3 q))
  refine Z2 (J {s with heap:=G} _ T ?_);rw[if_pos rfl];refine Z2 (wpAny_holding (Z2 (rE (s:={s with heap:=G}) Y (λc y=>?_) (λr e=>⟨by cases e;exact Ne.symm (lt n),by cases e;exact bx.empty U⟩) λzs d h1 pz k1 r1=>Z2 ?_)))
  .simp only[Yw,X7,or_false]at y;rcases y with rfl|rfl
   .exact%[_|O1]
   .exact%[_|bx.empty U]
  rw[<-forIn_toList];refine fh (λxs _ s'=>∃f rest h',zs=f++rest/\xs=rest.map (hsE w)/\s'={s with heap:=h',drawn:=d}/\(∀c o,c≠⇑s->G.get? c∣o->h'.get? c∣o)/\∃ms,bx w ⇑s ms h'/\ ~~~ms<= ~~~f/\∀x,x∈ms↔x∈f\1/\x∉H) _ _ _
   %[[],zs,h1,rfl,rfl,rfl,(λc o y e=>k1 c o (λq=>y (Za q).symm) e),[],r1 _ rfl,Zi _|by simp] ?_ ?_
  .intro x xs _ s' %[f,rest,h',C,ex,rfl,g,ms,M,ml|v];cases rest with
   | nil=>cases ex
   | cons p rest=>
   rw[Yq]at ex;injection ex with ab L
   subst ab;have zl: ~~~zs= ~~~ks:=by rw[<-pz.length_eq,Z6]
   have pl: ~~~f< ~~~ks:=by rw[<-zl,C,Z9,Zr];lia
   rw[if_pos rfl];have l:∀(i:Heap) Qx,(∀c o,c≠⇑s->G.get? c∣o->i.get? c∣o)->Qx (.yield ⟨⟩) {s with heap:=i,drawn:=d}->↥A (Builtin.Frozenset.unchanged nm a ep>>= λ_=>pure (ForInStep.yield PUnit.unit)) Qx E {s with heap:=i,drawn:=d}:=λi Qx k2 q=>by
    refine Z2 ?_;unfold Builtin.Frozenset.unchanged;refine Z2 (J {s with heap:=i,drawn:=d} _ (k2 a o (lt n) T) ?_);rw[if_neg ∅];exact Z3 (Z3 q)
   have mem:∀x,x∈(f++[p])\1↔x∈f\1\/x=p.1:=λx=>by rw[Zd,Yt,Yq,map_nil,Yz]
   have%[o2,a6,ba,t2,bc,ac,an,ae,m,N,as,O,ag,ai,a0|ak]:=id O1;refine Z2 (wpAny_holding (Z2 (vx (ks:=H) (z:=p.1) (tk:=p.2) (g b o2 (lt B) ac) ae O ag ai λq q1 q2=>Z2 (Z3 ?_))));cases q with
   | none=>
     have hz:p.1∉H:=λz=>by
      have%[u|hu]:=(dY m).mpr (N.mem_iff.mpr z);have%[e,he|q3]:=Xr hu;exact q1 rfl e he u q3
     rw[if_pos (by rfl)];refine Z2 (kA (z:=p.1) (tk:=p.2) M (by rw[show scanBound=4096 from rfl];lia) λi bb sb M2=>Z3 ?_);have k2:=λc o y e=>(sb.2 c y).trans (g c o y e)
     refine l i _ k2 %[f++[p],rest,i,by rw[C,Ze];rfl,L,rfl,k2,_,M2,?_|λx=>?_]
     .rw[Z9,Yk]
      split
      .lia
      .rw[Z9,Yk];lia
     .rw[mem];by_cases hx:x=p.1
      .subst hx;refine%[λ_=>%[.inr rfl|hz]|λ_=>?_]
       split
       .rename_i h;exact h
       .exact Yv _ Zm
      .split
       .rw[v];exact%[λh=>%[.inl h.1|h.2]|λh=>%[h.1.resolve_right hx|h.2]]
       .rw[Yt,Yz,v];exact%[λh=>let h:=h.resolve_right hx;%[.inl h.1|h.2]|λh=> .inl %[h.1.resolve_right hx|h.2]]
   | some j=>
     have hz:p.1∈H:=by
      have%[u|hu]:=q2 j rfl;exact N.mem_iff.mp ((dY m).mp %[u|Xs %[_,Z8 hu|rfl]])
     rw[if_neg ∅];refine Z3 (l h' _ g %[f++[p],rest,h',by rw[C,Ze];rfl,L,rfl,g,ms,M,by rw[Z9];lia|λx=>?_]);rw[v,mem];refine%[λh=>%[.inl h.1|h.2]|λh=>%[h.1.resolve_right λe=>h.2 (e▸hz)|h.2]]
  .intro _ s' %[f,rest,h',C,ex,rfl,g,ms,M,ml|v];obtain rfl:rest=[]:=by
    cases rest with
    | nil=>rfl
    | cons p rest=>cases ex
   rw[Zx]at C;exact Z3 (Z3 (hQ h' d ms (λc o e=>g c o (Zs (Zu e)) (I c o e)) (λx=>by rw[v,<-C,pz.mem_iff]) M))
end
def t7:entryFor table "set.__sub__"=some Builtin.«frozenset.__sub__»:=entryFor_alias (id':="frozenset.__sub__") (by kernel_rfl) rfl (!0) (by kernel_rfl)
section
variable{X:Cx}
abbrev Cu(w:World):R2:=λx y H Q=>asR x λa=>asR y λb=>∃ks c,H a∣jT w a ks/\H b∣jT w b c/\ ~~~ks<=900/\∀l ms,H l=none->(∀x,x∈ms↔x∈ks/\x∉c)->ms.Nodup->Q (.ref l) (upd H l (jT w l ms))
def EI:OpR X (binaryOp .Sub) (Cu X.w):=by
 intro pins s w H x y v u Q I i j h;have%[a,rfl|l]:=ef h;have%[b,rfl,ks,z,m,n,few|q]:=ef l;cases i;cases j;have%[S,_|_]:=(I.hok a _ m)
 have%[O,_|_]:=(I.hok b _ n)
 have e:∀{c:Addr} {ls:ZB},bx X.w c ls s.heap->s.TypeIs (.ref c) _:=λ{c ls} h=>by
  have%[o,es,A,t,ss,f,g|_]:=h;exact%[o,f|g.1]
 refine wpAny_binaryOp_same (e S) (e O) F.fills_set_sub F.slot_set_sub (wpAny_call_entry F.slot_set_sub (e S) t7 (Z2 (Z2 (Z3 (Z3 (Z2 (Z2 (t5 S (t5 O (Z2 (Z3 (Z2 (EH S O few λh' d ms k p M=>Z3 %[_,rfl,by simp,.ref ⇑s,_,I.stoodS (o:=jT X.w ⇑s ms) (I.keptS k rfl rfl) (Zi _) %[M,?_|λ_ _ r k1=>bx.keep r k1],rfl|q _ ms (I.hok.fresh (Zi _)) p M.nd])))))))))))) (F.args_set_sub_2 _ _));have%[o,_,_,_,_,f|_]:=M;exact%[o|f]
def G7(h:X.w=w):OpQ X (binaryOp .Sub) (Cu w):=by subst h;exact⟨EI⟩
end
def kL{X:Cx}(a:cg k X.A)(b:behindInMarks .NotIn o=false)(hi:QE X i ty)(c:QE X o d):QT X (.Compare i [.NotIn] [o] pos) (tB (tz ty d)):=
 ⟨AV (zJ (by have:=a.units;lia) hi.h c.h) b⟩
open PySem PySem.Spec PyProof.Rows PySem.SeqAt
section
variable{X:Cx}
variable{K:ZA}{pos:Pos}
def af(i:Nat){x:Str}(h:(X.N[i]?,X.env.scope.names.lookup x,x==("__debug__":Str),x==("__classdict__":Str))=(some x,some .local,false,false)):QE X (.Name x pos) (pZ i):=by
 simp only[Prod.mk.injEq]at h;exact vn i h.1 (.inl h.2.1) h.2.2.1 h.2.2.2
def bK(i:Nat){x:Str}(h:(X.N[i]?,X.env.scope.names.lookup x,x==("__debug__":Str),x==("__classdict__":Str))=(some x,some .cell,false,false)):QE X (.Name x pos) (pZ i):=by
 simp only[Prod.mk.injEq]at h;exact vn i h.1 (.inr (.inl h.2.1)) h.2.2.1 h.2.2.2
def aH{mg:ZC}{j k:Nat}{x:Str}{ps:ZB}{sp:Sp}{p:Pos}{e:Expr}{es:List Expr}{t:TA}(C:Cal X.prog X.w K mg X.base j x ps sp)(a:cg k X.A)(h:(X.K,X.mg,X.env.kindOf x,Nat.ble j k,x==("__debug__":Str),(e::es).any aS)=(K,mg,some .globalImplicit,true,false,false))(b:QA X (e::es) t):QE X (.Call (.Name x p) (e::es) [] pos) (uB sp [] E0 t):=by
 simp only[Prod.mk.injEq]at h;have%[rfl,rfl|h]:=h;exact calE C a h.1 h.2.1 h.2.2.1 h.2.2.2 b
def FA{mg:ZC}{j k:Nat}{x:Str}{ps:ZB}{sp:Sp}{p:Pos}{e:Expr}{es:List Expr}{t:TA}(C:Ez X.prog X.w K mg X.base j x ps sp)(c:vg K mg x)(a:cg k X.A)(h:(X.K,X.mg,X.env.kindOf x,Nat.ble (j+1) k,x==("__debug__":Str),(e::es).any aS)=(K,mg,some .globalImplicit,true,false,false))(b:QA X (e::es) t):QE X (.Call (.Name x p) (e::es) [] pos) (x4 (cU mg x) sp [] E0 t):=by
 simp only[Prod.mk.injEq]at h;have%[rfl,rfl|h]:=h;exact Ij C c a h.1 h.2.1 h.2.2.1 h.2.2.2 b
def oI{mg:ZC}{j k:Nat}{x m:Str}{ps:ZB}{sp:Sp}{a:Pos}{o:Expr}{b:TE}{pl:Sem Bool}(C:Ab X.prog X.w K mg X.base j x m ps sp)(c:vg K mg x)(e:cg k X.A)(h:(X.K,X.mg,Nat.ble j k)=(K,mg,true))
 (g:eval (.Call (.Attribute o m a) [] [] pos) X.env=(do
  let d<-eval o X.env
  standAt a.atName
  let(f,first)<-holding [d] (getMethod d m pl)
  callWith pos f first (backTo pos (starEach [] X.env)) (backToKw pos (keywordEach [] X.env)))) (i:QE X o b):QE X (.Call (.Attribute o m a) [] [] pos) (xZ (cU mg x) m sp [] E0 b wJ):=by
 simp only[Prod.mk.injEq]at h;have%[rfl,rfl|h]:=h;exact GX C c e h g i
def cbO{x:Str}{id:String}{r:List V->Hp->VK->Prop}{p:Pos}{e:Expr}{es:List Expr}{t:TA}(a:cJ X (.builtin id) r)(b:X.mg x=none)(c:bootBuiltins x∣.builtin id)(h:(X.env.kindOf x,x==("__name__":Str),x==("__debug__":Str),(e::es).any aS)=(some .globalImplicit,false,false,false))(d:QA X (e::es) t):QE X (.Call (.Name x p) (e::es) [] pos) (tCB r t):=by
 simp only[Prod.mk.injEq]at h;exact cbE a h.1 b c h.2.1 h.2.2.1 h.2.2.2 d
def ctO{x:Str}{T:String}{r:List V->Hp->VK->Prop}{p:Pos}{e:Expr}{es:List Expr}{t:TA}(a:cJ X (.type T) r)(b:X.mg x=none)(c:bootBuiltins x∣.type T)(h:(X.env.kindOf x,x==("__name__":Str),x==("__debug__":Str),(e::es).any aS)=(some .globalImplicit,false,false,false))(d:QA X (e::es) t):QE X (.Call (.Name x p) (e::es) [] pos) (tCB r t):=by
 simp only[Prod.mk.injEq]at h;exact ctE a h.1 b c h.2.1 h.2.2.1 h.2.2.2 d
def bmO{o e:Expr}{es:List Expr}{d:TE}{t:TA}{name:Str}{a b:Pos}{T id:String}{r:V->List V->Hp->VK->Prop}(f:PlainAttrs T)(slot:Slot T name id)(c:typeOf (.builtin id)=pure (.type "method_descriptor"))(g:MtQ X id r)
 (h:(X.K,jn o,(e::es).any aS,Nat.blt (e::es).length 30,a.endLine==b.line)=(K,false,false,true,true)) (i:QE X o d) (j:QA X (e::es) t):QE X (.Call (.Attribute o name a) (e::es) [] b) (tBM K T r d t):=by
 simp only[Prod.mk.injEq]at h;have%[rfl|h]:=h;exact bmE rfl f slot c g h.1 h.2.1 h.2.2.1 h.2.2.2 i j
def aJ(i:Nat){x:Str}{e:Expr}{b:TE}{a:Pos}(c:X.N.Nodup)(h:(X.N[i]?,X.env.scope.names.lookup x,gY e)=(some x,some .local,false))(d:QE X e b):QS X (.Assign [.Name x a] e pos) (sM b (kg i)):=by
 simp only[Prod.mk.injEq]at h;exact uL i c h.1 (.inl h.2.1) (.inr h.2.1) h.2.2 d
def aI(i:Nat){x:Str}(a:X.N.Nodup)(h:(X.N[i]?,X.env.scope.names.lookup x)=(some x,some .local)):QG X (.Name x pos) (kg i):=by
 simp only[Prod.mk.injEq]at h;exact qT i a h.1 (.inl h.2) (.inr h.2)
#where
variable{x:Addr}{C:Addr}{name:Str}{v:Value}{ox:Obj}
variable{o:Expr}{value:Expr}{nm:Str}{ta:TE}{tv:TE}{pos':Pos}
variable{P:Program}{mg:ZC}{base:Heap}{x:Str}{qual:Str}{st:Stmt}{N:ZB}{ps:ZB}{k:Nat}{sp:Sp}
end
def t8(r:aN xs us)(h:j<us.toArray.size):∃x,xs[j]?∣x/\aV x us.toArray[j]:=by
 have l:=h;have a:j< ~~~xs:= ~~~r▸l;have%[u,b|c]:=r.get (i:=j) (x:=xs[j]) ∅
 simp_all
section
variable{X:Cx}{pins:ZE}{σ:St}{H:Hp}{s:Shared}
end
section
variable{X:Cx}
nonrec abbrev Im:R2:=λx y H Q=>∃a b xs,x= .ref a/\y= .ref b/\H a<*xs/\H b<*[]/\Q (.bl (decide (xs=[]))) H
def G8(p:X.A.units+64<cLine):OpR X (compareOp .Eq) Im:=by
 intro pins s r H x y v u Q I d f h;have%[a,b,xs,rfl,rfl,m,n|q]:=h;cases d;cases f;have%[us,d,i|_]:=I.list (SqL.of m);have%[vs,f,l|_]:=I.list (SqL.of n);obtain rfl:vs=[]:=length_eq_zero_iff.mp f.length.symm;by_cases g:xs=[]
 .subst g;obtain rfl:us=[]:=length_eq_zero_iff.mp d.length.symm;have c:=RcAt.lists (A:=X.A) (e:=λ_=>true) i.isList l.isList rfl ⋯ λj o w=>absurd o (X6 _)
  exact c _ _ _ _ %[.bl _,H,I,rfl|q]
 .rw[Zh g]at q;have c:=RcAt.lists_lengths (A:=X.A) i.isList l.isList (by
   have: ~~~us≠0:= ~~~d▸λq=>g (length_eq_zero_iff.mp q)
   simpa using this) ⋯
  exact c _ _ _ _ %[.bl _,H,I,rfl|q]
def dinE(a:cg k X.A)(b:behindInMarks .In o=false)(hi:QE X i ty)(c:QE X o d):QE X (.Compare i [.In] [o] pos) (DU ty d):=⟨FM (Bw (by have:=a.units;lia) hi.h c.h) b⟩
def FB(a:cg k X.A):OpQ X (compareOp .Eq) Im:=⟨G8 a.units⟩
variable{pins:ZE}{σ:St}{H:Hp}{s:Shared}
def Cv{k:ZB}{x:V}{j:Nat}(h:(k\3)[j]?∣x):∃z,k[j]?∣z/\x= .str z:=by
 rw[Zl]at h;have%[z,e|rfl]:=map_eq_some_iff.mp h;exact%[z,e|ρ]
def vB{k l:ZB}(h:k\3=l\3):k=l:=(List.map_inj_right λ_ _=>V.str.inj).mp h
def Cw(I:Inv X pins σ H s){A:Around}{a b:Addr}{k l:ZB}(g:H a&&&k\3)(f:H b&&&l\3)(q:A.units<cLine):EqAt A s (.ref a) (.ref b) (decide (k=l)):=by
 by_cases e:a=b
 .subst e;rw[g]at f;rw[Zf (vB (HO.tup.inj (Za f)))];exact EqAt.same _
 .have%[us,m,r|_]:=I.tuple (SqT.of g);have%[vs,n,v|_]:=I.tuple (SqT.of f);have d:=RcAt.tuples r v q λj o p=>by
   have%[x,ex|w]:=t8 m o;have%[y,B|C]:=t8 n p;have%[z,E|rfl]:=Cv ex;have%[u,G|rfl]:=Cv B;have:=Br (A:=A.in1) (s:=s) w C rfl rfl;rw[show eqV _ _=decide (k[j]? =l[j]?) by rw[E,G];show(z==u)=_;by_cases c:z=u<;> simp[c]]at this;exact this
  rw[show((List.range _).all _&&us.toArray.size==vs.toArray.size)=decide (k=l) by
   rw[Zp,Zp,<-m.length,<-n.length,Bool.eq_iff_iff,Zv,all_eq_true,decide_eq_true_iff];refine%[λ⟨o,p⟩=>ext_getElem? λi=>?_|λh=>by lia]
   grind]at d
  exact EqAt.of_refs e d
end
section
variable{X:Cx}
nonrec abbrev yx:R2:=λx y H Q=>∃(a p:Addr) (k:ZB) (ws:ZG),x= .ref a/\y= .ref p/\H a&&&k\3/\H p∣.lst (ws\0)/\(∀t∈ws,H t.1&&&t.2\3)/\k∈ws\2/\Q (.bl false) H
open Classical in
def At(f:X.A.units+64<cLine):OpR X (compareOp .NotIn) yx:=by
 intro pins s C H x y v u Q I g i h;have%[a,p,k,ws,rfl,rfl,l,m,hw,n|q]:=h;cases g;cases i;have%[us,r,pl|_]:=I.list (SqL.of m);have of:∀y∈us,∃t∈ws,y= .ref t.1:=λy c=>by
  have%[j,d|rfl]:=getElem_of_mem c;have%[x,ex|rr]:=t8 r (d);rw[Zl]at ex;have%[t,b|rfl]:=map_eq_some_iff.mp ex;exact%[t,Z8 b|(rr)]
 refine notIn_listAt (λv=>decide (∃t∈ws,v= .ref t.1/\t.2=k)) pl.isList (λy c=>?_) %[.bl false,H,I,?_|q]
 .have%[t,b|rfl]:=of y ↑c;have:=Cw I (A:=X.A.in1) (hw t b) l ⋯;rw[show decide _=decide (t.2=k)from ?_]
  .exact this
  .rw[Bool.eq_iff_iff,decide_eq_true_iff,decide_eq_true_iff];refine%[λ⟨t',o,w,z⟩=>?_|λh=>%[t,b,ρ|h]];have e:=hw t' o;rw[<-Value.ref.inj w,hw t b]at e;rw[<-z,vB (HO.tup.inj (Za e))]
 .have%[t,b|e]:=Xr n;have%[j|d]:=Xi b;have%[u,f|B]:=r.get (by rw[Zl,d];rfl);cases B;rw[show us.toArray.any _=true from ?_]
  .rfl
  .rw[List.any_toArray,any_eq_true];exact%[_,Z8 f|Zf %[t,b,ρ|e]]
def Cy(a:cg k X.A):OpQ X (compareOp .NotIn) yx:=⟨At a.units⟩
def lS:∀{a:ZL} {us:ZF},aN (a\4) us->∃ps:List (Int×Tok),ps\1=a/\us=ps.map λp=>Value.int p.1 p.2
 |[],_,.nil=>%[[],rfl|rfl]
 | n::a,_,.cons r v=>by
   have%[t|rfl]:=r;have%[ps,rfl|rfl]:=lS v;exact%[(n,t)::ps,ρ|ρ]
end
abbrev oJ(L:List Addr)(c:Addr->Obj)(H:Hp):Hp:=λb=>if b∈L then(match H b with|some (.dK a)=>some (.frz (c b) (.dK a))|x=>x)else H b
def jt(h:b∈L)(e:H b∣.dK a):oJ L c H b∣.frz (c b) (.dK a):=by
 unfold oJ;rw[if_pos h,e]
def iW(h:b∉L):oJ L a H b=H b:=if_neg h
def eD(h:∀a,H b≠some (.dK a)):oJ L d H b=H b:=by
 unfold oJ;by_cases c:b∈L
 .rw[if_pos c];cases e:H b with
  | none=>rfl
  | some o=>cases o<;> first|rfl|exact(h _ e).elim
 .rw[if_neg c]
section
variable{P:Program}{w:World}{K:ZA}{mg:ZC}{base:Heap}{k:Nat}{f:Addr}{fd:FuncData}{ps:ZB}{sp:Sp}
def EJ(x:HOk P w H h):HOk P w (oJ L (λb=>(h.get? b).getD default) H) h:=by
 intro b o e;have st:∀{b:Addr} {o:HO},ck P w H h b o->ck P w (oJ L (λb=>(h.get? b).getD default) H) h b o:=λq=>q.stay (λ_ _ _ q=>q) (λc q=>by rw[eD (λa z=>by lia)];exact q) λc xs q=>by rw[eD (λa z=>by rw[q]at z;cases z)];exact q
 by_cases c:b∈L
 .by_cases d:∃a,H b∣.dK a
  .have%[a|d]:=d;rw[jt c d]at e;cases e;have%[i|g]:=(x b _ d).there;exact%[by rw[g];rfl|st (x b _ d)]
  .rw[eD (λa z=>d %[a|z])]at e;exact st (x b o e)
 .rw[iW c]at e;exact st (x b o e)
def G9(u:Un fs [] H c h h'):Un fs [] H (oJ L g c) h h':=by
 refine%[u.keep,u.slot,λb o e n d=>?_,u.there,λb xs e=>?_,λb o v e=>?_|λb q e=>?_]
 .have:=u.free b o e n d;rw[eD (λa z=>by lia)];exact this
 .have:=u.tups b xs e;rw[eD (λa z=>by rw[this]at z;cases z)];exact this
 .have:=u.frzs b o v e;rw[eD (λa z=>by rw[this]at z;cases z)];exact this
 .have%[m|this]:=u.tbls b q e;exact%[m|by rw[eD (λa z=>by rw[this]at z;cases z)];exact this]
def eB.freeze(F:eB P w K mg base CX0 k f fd ps sp):eB P w K mg base CX0 k f fd ps (λvs H Q E=>sp vs H (λv b=>∃L,∀c,Q v (oJ L c b)) E):=by
 refine%[λvs H Q E=>F.len vs H _ E|λA outer s H args us vs Q E d g h i j=>codeAny_mono (F.run A outer s H args us vs _ E d g h i j) λr s' a=>?_];cases r with
 | error e=>exact a
 | ok l=>
   cases l with
   | ret u=>
     have%[v,z,m,n,o,p,q,L|y]:=a;exact%[v,_,m,n,G9 o,EJ p,q|y _]
   | next=>exact a
   | brk=>exact a
   | cont=>exact a
def eB.frozen(F:eB P w K mg base CX0 k f fd ps sp):eB P w K mg base CX0 k f fd ps (λvs H Q E=>∃d a,~~~vs= ~~~ps/\H d∣.dK a/\∀o,sp vs (upd H d (.frz o (.dK a))) (λv M=>Q v (upd M d (.dK a))) E):=by
 refine%[λvs H Q E ⟨d,a,l,_⟩=>l|λA outer s H args us vs Q E N g C O ⟨d,a,_,G,T⟩=>?_];have%[o|U]:=(g.hok d _ G).there;have h:∀{b:Addr},H b=none->b≠d:=λe z=>by rw[z,G]at e;cases e
 have m:∀{b:Addr} {u:HO},H b∣u->(∀q,u≠ .dK q)->b≠d:=λe n z=>by rw[z,G]at e;cases e;exact n _ rfl
 have st:∀{b:Addr} {u:HO},ck P w H s.heap b u->ck P w (upd H d (.frz o (.dK a))) s.heap b u:=λq=>q.stay (λ_ _ _ q=>q) (λc q=>(ao (m q λ_ z=>nomatch z))▸q) λc xs q=>(ao (m q λ_ z=>nomatch z))▸q
 have I:wL P w K mg base A outer s (upd H d (.frz o _)):=⟨g.frames,g.mod,λb i e=>%[(g.bs b i e).1|by rw[ao (h (g.bs b i e).2)];exact(g.bs b i e).2],g.bsz,g.funs,λb C=>by rw[ao (h (g.frf b C))];exact g.frf b C,λb u e=>by
  by_cases c:b=d
  .subst c;rw[aa]at e;cases e;exact%[U|st (g.hok b _ G)]
  .rw[ao c]at e;exact st (g.hok b u e),g.bare⟩
 refine codeAny_mono (F.run A outer s _ args us vs _ E N I C O (T o)) λr s' p=>?_
 cases r with
 | error e=>exact p
 | ok Y=>
   cases Y with
   | next=>exact p
   | brk=>exact p
   | cont=>exact p
   | ret u=>
     have%[v,J,h1,h2,j,L,h5|h6]:=p;have hf:=j.frzs d o _ aa;have y:∀{b:Addr} {u:HO},J b∣u->(∀o q,u≠ .frz o q)->b≠d:=λe n z=>by grind
     have B:∀{b:Addr} {u:HO},ck P w J s'.heap b u->ck P w (upd J d (.dK a)) s'.heap b u:=λq=>q.stay (λ_ _ _ q=>q) (λc q=>(ao (y q λ_ _ z=>nomatch z))▸q) λc xs q=>(ao (y q λ_ _ z=>nomatch z))▸q
     refine%[v,_,h1,h2,%[λb i e n=>j.keep b i e ((ao (h n))▸n),λb i e n=>j.slot b i e ((ao (h n))▸n),λb i e n hx=>?_,j.there,λb xs e=>?_,λb i u e=>?_|λb q e=>?_],λb u e=>?_,h5|h6]
     .rw[ao (h n)];exact j.free b i e ((ao (h n))▸n) hx
     .have n:=m e λ_ z=>nomatch z
      rw[ao n];exact j.tups b xs ((ao n)▸e)
     .have n:=m e λ_ z=>nomatch z
      rw[ao n];exact j.frzs b i u ((ao n)▸e)
     .have n:=m e λ_ z=>nomatch z
      rw[ao n];exact j.tbls b q ((ao n)▸e)
     .by_cases c:b=d
      .subst c;rw[aa]at e;cases e;exact B (L b _ hf).2
      .rw[ao c]at e;exact B (L b u e)
end
abbrev Itk(d:Addr)(o:Obj)(a:List (Key×V)):It:=⟨λi H=>H d∣.frz o (.dK a)/\i< ~~~a,λi H x b=>b=H/\∃k v,a[i]?∣(k,v)/\x=kV k,λi H=>H d∣.frz o (.dK a)/\ ~~~a<=i⟩
abbrev rF(c:TE):TI:=λe H R=>c e H λv b=>∃d o a,v= .ref d/\b d∣.frz o (.dK a)/\R (Itk d o a) b
def EK(h:jF k v=true):aV (kV k) v:=by
 rcases aZ h with⟨i,t,rfl,rfl⟩|⟨x,t,rfl,rfl⟩
 .exact%[t|ρ]
 .exact%[t|ρ]
def Ha{a:List _}{vs:List _}(r:KV a vs){i:Nat}{k:Key}{v:V}(e:a[i]?∣(k,v)):∃u,vs[i]?∣(k,u)/\aV v u:=by
 induction r generalizing i with
 | nil=>cases e
 | @cons p q ps qs b t c=>
   cases i with
   | zero=>
     obtain rfl:p=(k,v):=Za e;exact%[q.2,by rw[show k=q.1 from b.1];rfl|b.2]
   | succ i=>exact c e
def oK(r:KV a vs): ~~~a= ~~~vs:=by
 induction r with
 | nil=>rfl
 | cons _ _ b=>simp_all
section
variable{P:Program}{w:World}{K:ZA}{tg:Expr}
def Cz{X:Cx}(I:Inv X pins m H s)(e:H d∣.frz o (.dK a))(b:o.data= .dict es f):∃vs,KV a vs/\s.heap.DictAt (aM X.prog X.w) d vs f:=by
 have%[g,n,p,vs,r,q,h,i,g',j,c|l]:=I.hok d _ e;rw[g]at g';cases g';rw[b]at c;cases c;exact%[vs,r,_,es,g,j,b|l]
def CA(d it:Addr)(o:Obj)(kvs:List _):p7 P w K tg (Itk d o kvs) [it] it (λi h=>∃es ep,o.data= .dict es ep/\h.IsKeyIter it d i kvs.length ep) where
 mem:=by simp
 obj:=λi h st b hb=>by
  have e:=↑hb
  subst e;have%[_,_,_,o,e,c|d]:=st;exact%[o,e|λv z=>by rw[d]at z;cases z]
 keep:=λi h h' ⟨es,ep,ho,st⟩ k=>%[es,ep,ho|st.at λo e=>k it ∅ o e]
 item:=by
  intro X hP hw hK hc i pins s σ H E I hf st hg;subst hP hw hK;have%[es,ep,ho|st]:=st;have%[hd|hi]:=hg;have%[vs,r|da]:=Cz I hd ho;have ln:=oK r;have%[u,hu|ru]:=Ha r (Z4 hi);have%[f0,f1,f2,f3,f4|f5]:=hf it ∅;rw[ln]at st;refine wpAny_pyNext_dict_item st da hu λkey h' hk st' sb=>?_
  rw[<-ln]at st';have%[o',e,c|dd]:=id st';exact%[key,ρ|qD e c dd (!1) %[_,H,(I.turned (λb o hb e=>(sb.2 b hb).trans e) f0 f1 f3 f4 f5),EK hk,%[ρ,_,_,Z4 hi|ρ],%[es,ep,ho|st']|λb hb=>(hf b hb).1]]
 done:=by
  intro X hP hw hK hc i pins s σ H E I hf st hg;subst hP hw hK;have%[es,ep,ho|st]:=st;have%[hd|hi]:=hg;have%[vs,r|da]:=Cz I hd ho;have ln:=oK r;have%[f0,f1,f2,f3,f4|f5]:=hf it ∅;rw[ln]at st;exact wpAny_pyNext_dict_end (I.ok.hd hc) st da (Xn ⋯) λh' eb=>%[rfl|I.turned (λb o hb e=>eb b o hb e) f0 f1 f3 f4 f5]
 self:=λ_ _ _ _ _ ⟨_,_,_,st⟩ h=>wpAny_pyIter_keyiter st h
def EM{X:Cx}(m:PE X l n):PI X tg l (rF n):=by
 intro pins s p H R I h;refine thP (m pins s p H _ I h) λv c x u a y z=>?_
 have%[d,o,f,e,A|q]:=z;subst e;cases y;have%[g,M,B,vs,r,C,es,i,g',E,j|G]:=a.hok d _ A;have J:c.heap.DictAt _ d vs i:=%[C,es,g',E,j|G]
 rw[g]at g';cases g';refine wpAny_pyIter_dict B J %[⇑c,[⇑c],_,_,u,rfl,a.kept λb o e=>Z7 _ e,CA d _ o f,%[es,i,j,_,Zj _ rfl,rfl|by rw[oK r];rfl],λb L=>?_|q];have e:=↑L
 subst e;exact a.fpOk (Zi _) (a.hok.fresh (Zi _))
def yA{X:Cx}(a:QE X l b):QI X tg l (rF b):=⟨EM a.h⟩
variable{elts:List Expr}{kt:Nat}{tp:Pos}
end
section
variable{X:Cx}
abbrev Io:V->List V->Hp->VK->Prop:=λx vs H Q=>asR x λa=>∃b,vs=[.ref b]/\∃c more,a≠b/\H a∣.dK c/\H b∣.dK more/\ ~~~c+ ~~~more<=sizeLine/\Q .non (upd H a (.dK (gU c more)))
def Hb:MtM X "dict.update" Io:=by
 intro pins s C H x vs v us Q I m n h;have%[a,rfl,b,rfl,o,more,p,g,r,i|q]:=ef h;cases m;have%[u,rfl|w]:=n.one;cases w;have%[z,y,vs,d|j]:=km I.hok g;have%[E,e,ms,c|f]:=km I.hok r;exact call_meetsIn slot_dict_update j.typeIs PySem.F.entry_dict_update (PySem.F.args_dict_update_2 _ _) (meets_dict_update _ a b p e) %[vs,ms,j,f,by rw[<-oK d,<-oK c];exact i|λh' l G A=>%[.non,_,nt I (g▸True.intro) A (let⟨q,_,_,B,_⟩:=l;%[q|B]) (tw (Yg (jI _ _) i) y (KV.merge c d) l),rfl|q]]
def vC:MtQ X "dict.update" Io:=⟨Hb⟩
end
def Cal.freeze{P:Program}{K:ZA}(C:Cal P w K mg base k x ps sp):Cal P w K mg base k x ps (λvs H Q E=>sp vs H (λv a=>∃L,∀b,Q v (oJ L b a)) E):=by
 have%[f,c,F|r]:=C.ex;exact%[f,c,F.freeze|r]
def Cal.imp{P:Program}{K:ZA}(C:Cal P w K mg base k x ps sp)(h:∀vs H Q E,a vs H Q E->sp vs H Q E):Cal P w K mg base k x ps a:=by
 have%[f,b,F|r]:=C.ex;exact%[f,b,F.imp h|r]
def Cal.frozen{P:Program}{K:ZA}(C:Cal P w K mg base k x ps sp):Cal P w K mg base k x ps (λvs H Q E=>sp vs H Q E\/∃d a,~~~vs= ~~~ps/\H d∣.dK a/\∀o,sp vs (upd H d (.frz o (.dK a))) (λv i=>Q v (upd i d (.dK a))) E):=by
 have%[f,j,F|r]:=C.ex;refine%[f,j,%[λvs H Q E h=>h.elim (F.len vs H Q E) (F.frozen.len vs H Q E)|λA outer s H args us vs Q E b c e g h=>h.elim (F.run A outer s H args us vs Q E b c e g) (F.frozen.run A outer s H args us vs Q E b c e g)]|r]
section
variable{X:Cx}
variable{prog:Program}{w:World}{A:Around}{R:Result->Shared->Prop}{I S:Addr}{fp wr:List Addr}{n:Nat}{P:Nat->Value->Prop}{St:Nat->Heap->Prop}{val:Nat->Int}{kn:Str}{d:Value}
abbrev Top(val:Nat->Int)(n:Nat)(v:Value):Prop:=∃m t,v= .int m t/\(∃j,j<n/\val j=m)/\∀j,j<n->val j<=m
def Top.step(h:Top val i v)(x:Int)(t:Tok)(e:val i=x):if x>(match v with| .int m _=>m|_=>0)then Top val (i+1) (.int x t)else Top val (i+1) v:=by
 have%[m,t',rfl,%[j,a|c]|b]:=h;show if x>m then _ else _
 split
 .refine%[x,t,ρ,%[i,⋯|e]|λj a=>?_];rcases Nat.lt_succ_iff_lt_or_eq.mp a with h|h
  .have:=b j h
   lia
  .rw[h,e];exact Int.le_refl _
 .refine%[m,t',ρ,%[j,⋯|c]|λj a=>?_];rcases Nat.lt_succ_iff_lt_or_eq.mp a with h|h
  .exact b j h
  .rw[h,e]
   lia
def Au(W:Walks prog w A.in1 I fp wr n P St)(T:∀i v,P i v->∃t,v= .int (val i) t)(G:S∉fp):∀(k i:Nat) (s:Shared) (l:ZJ) (c:Nat),n-i=k->i<=n->St i s.heap->
 s.heap.get? S=some {cls:= .type "list",dict:=none,data:= .seq l c,slots:= #[]}->(i=0/\l= #[]\/∃v,l= #[v,v]/\Top val i v)->
 (∀v h' tk,(n=0/\v=d\/Top val n v)->(∀b o,b∉wr->b≠S->s.heap.get? b∣o->h'.get? b∣o)->R (.ok (.ret v)) {s with heap:=h',toks:=tk})->
 codeAny (model prog w) A (.builtin "max.loop" %[[.ref I,.none,.ref S]|[(kn,d)]]) R s:=by
 have H:S∉wr:=λh=>G (W.sub _ h)
 have a:(toString "max"++toString ".loop":String)="max.loop":=!1
 intro k
 induction k with
 | zero=>
   intro i s l c U hi y J N L;obtain rfl:i=n:=by lia
   refine codeAny_builtin F.entry_max_loop ?_;rw[Around.under_plainId F.plain_max_loop _];refine Z2 (wpAny_seqItems J rfl ?_);refine Z2 (wpAny_tryCatch (W.done s _ _ y λh' tk z=>?_));have f:=z S _ H J;rcases N with⟨rfl,rfl⟩|⟨v,rfl,M⟩
   .exact Z2 (wpAny_rule (Z3 (L d _ tk (.inl %[rfl|rfl]) λb o p _ e=>z b o p e)))
   .refine Z2 (wpAny_updateSeq f rfl (Z2 (wpAny_letGo (Z3 ?_))));exact L v _ tk (.inr M) λb o p g e=>(get?_update_other _ _ (Ne.symm g)).trans (z b o p e)
 | succ k Q=>
   intro i s l c U hi y J N L;have B:i<n:=Nat.lt_of_sub_eq_succ U
   refine codeAny_builtin F.entry_max_loop ?_;rw[Around.under_plainId F.plain_max_loop _];refine Z2 (wpAny_seqItems J rfl ?_);refine Z2 (wpAny_tryCatch (W.item i s _ _ B y λu h' tk Y r z=>?_));have f:=z S _ H J;have%[t|rfl]:=T i u Y;have up:∀(x:ZJ),(∃v,x= #[v,v]/\Top val (i+1) v)->codeAny (model prog w) A (.builtin "max.loop" %[[.ref I,.none,.ref S]|[(kn,d)]]) R {s with heap:=h'.update S (Obj.mapSeq λ_=>x),toks:=tk}:=λx hx=>
    Q (i+1) _ x _ (congrArg Nat.pred U) B (W.frame _ _ _ r λb p o e=>(get?_update_other _ _ (λh:S=b=>G (by rw[h];exact p))).trans e) (get?_update_self _ f rfl) (.inr hx)
     λv O C q E=>L v O C q λb o p g e=>E b o p g ((get?_update_other _ _ (Ne.symm g)).trans (z b o p e))
   rcases N with⟨rfl,rfl⟩|⟨v,rfl,M⟩
   .refine Z2 (Z3 (Z2 (wpAny_updateSeq f rfl ?_)));rw[a];exact Z3 %[plainId_quiet F.plain_max_loop _|up _ %[_,rfl,_,_,rfl,%[0,⋯|rfl]|λj hj=>by rw[show j=0 by lia];exact Int.le_refl _]]
   .have st:=M.step _ t rfl;have%[m,t',rfl,_|_]:=M;refine Z2 (Z3 ?_);refine Z2 (wpAny_tryCatch (wpAny_holding (Z2 (CmpOf.ints_gt (P:=λj v=>∃t,v= .int (if j=0 then val i else m) t) (λj=>if j=0 then val i else m) (λ_ _ h=>h) 0 1 _ _ _ _ _ %[t|rfl] %[t'|rfl] ?_))));refine Z2 (wpAny_holding (wpAny_truthy_bool ?_));refine Z2 (wpAny_letGo (Z3 ?_))
    split
    .rename_i h
     have c:val i>m:=Zo h;refine Z2 (wpAny_updateSeq f rfl (Z2 (wpAny_letGo ?_)));rw[a];exact Z3 %[plainId_quiet F.plain_max_loop _|up _ %[_,rfl|by rwa[if_pos c]at st]]
    .rename_i h
     have c: ¬ val i>m:=λc=>h (Zf c)
     refine Z2 (wpAny_letGo ?_);rw[a];exact Z3 %[plainId_quiet F.plain_max_loop _|Q (i+1) _ _ _ (congrArg Nat.pred U) B r f (.inr %[_,rfl|by rwa[if_neg c]at st]) λv O C q E=>L v O C q λb o p g e=>E b o p g (z b o p e)]
end
def Av(a d:Value):argsOk "max" %[[a]|[("default",d)]]:=by kernel_rfl
def yB{id:String}(c:argsOk id a)(h:Q () s):↥A (match Manifest.signature? id with|some b=>Bind.checkArgs id b a|none=>pure ()) Q E s:=by
 cases e:Manifest.signature? id with
 | none=>exact Z3 h
 | some b=>
   simp only[argsOk,e]at c;show wpAny _ _ (Bind.checkArgs id b a) _ _ s;rw[c];exact Z3 h
def Aw{prog:Program}{w:World}{A:Around}{E:ZD}{s:Shared}{l:Addr}{ps:List (Int×Tok)}{d:Value}{Q:ZD}(g:A.handled=none)(i:s.heap.IsList l (intItems ps.toArray))
 (h:∀v h' tk,(ps.toArray.size=0/\v=d\/Top (numAt ps.toArray) ps.toArray.size v)->(∀b o,s.heap.get? b∣o->h'.get? b∣o)->Q v {s with heap:=h',toks:=tk}):
 ↥A (call (.builtin "max") [.ref l] [("default",d)]) Q E s:=by
 have a:(toString "max"++toString ".loop":String)="max.loop":=!1
 refine wpAny_call (codeAny_call_builtin F.plain_max F.entry_max ?_);simp only[checkBuiltinCall,F.kind_max];refine yB (Av _ _) ?_;refine Z2 (wpAny_of_eq (show Builtin.Builtins.bindParams "max" ["key","default"] 0 %[[]|[("default",d)]]=pure [none,some d]from rfl) ?_);refine Z2 (Z3 ?_);refine Z2 (iter_intList i λp e st c f=>?_);subst e;refine Z2 (wpAny_newObj_type ?_);rw[a];refine Z3 %[plainId_quiet F.plain_max_loop _|Au (Walks.list (A:=A.in1) g _ l f (intItems ps.toArray)) (val:=numAt ps.toArray) (λ_ _=>intItems_at) (λj=>Xm _ (c _ j)) _ 0 _ #[] 0 rfl (Xh _) %[st.1.at λo e=>Z7 _ e|st.2.at λo e=>Z7 _ e] (Zj _ rfl) (.inl %[rfl|rfl]) λv h' tk q m=>?_];refine h v h' tk (by simpa [intItems]using q) (old_kept λb o n e=>m b o n (Zs (Zu e)) (Z7 _ e))
section
variable{X:Cx}{e v:Expr}{te tv:TE}{p pos kpos:Pos}
abbrev CB(K:ZA)(te tv:TE):TE:=λc H Q=>te c H λx f=>tv c f λy d=>∃(a:Addr) (b:ZL) (z:Int),x= .ref a/\y= .int z/\SqL K d a (b\4)/\∀m,(b=[]/\m=z\/m∈b/\∀y∈b,y<=m)->Q (.int m) d
def EN(C:X.calm=true)(E:Gl X "max")(g:X.mg "max"=none)(G:aS e=false)(J:PE X e te)(L:PE X v tv):PE X (.Call (.Name "max" p) [e] [%[some "default",v|kpos]] pos) (CB X.K te tv):=by
 intro pins s l H Q I h;have d:=aA (es:=[]) (env:=X.env) G;refine wpAny_Call_Name_kw (fZ I E g boot_max ?_);refine callWith_kw (thP (sQ J wK d pos pins s l H (λvs n=>match vs with|[x]=>tv l n λy c=>∃(a:Addr) (b:ZL) (z:Int),x= .ref a/\y= .int z/\SqL X.K c a (b\4)/\∀m,(b=[]/\m=z\/m∈b/\∀y∈b,y<=m)->Q (.int m) c|_=>False) I h) λus M vs n N O r=>?_) (by rw[d];rfl) (by rw[d];rfl) rfl rfl
 match vs,r with
 |[x],r=>
  have%[u,rfl|T]:=cu O;refine thP (x5 L Bl pos pins M l n (λzs c=>match zs with|[y]=>∃a b z,x= .ref a/\y= .int z/\SqL X.K c a (b\4)/\∀m,(b=[]/\m=z\/m∈b/\∀y∈b,y<=m)->Q (.int m) c|_=>False) N r) λws s2 zs c w U Y=>?_
  match zs,Y with
  |[y],⟨a,b,z,e1,e2,ha,q⟩=>
   subst e1 e2;have%[u2,rfl,t|rfl]:=cu U;cases T;have%[its,rv,hl|hz]:=w.list ha;have%[ps,rfl|rfl]:=lS rv;refine Aw (I.ok.hd C) (by rw[show intItems ps.toArray=(ps.map λp=>Value.int p.1 p.2).toArray by simp[intItems]];exact hl.isList) λv h' tk o A=>?_
   have f:∀i h,numAt ps.toArray i=ps[i].1:=λi h=>by simp[numAt,h]
   have sz:ps.toArray.size= ~~~ps:=rfl;rw[sz]at o;rcases o with⟨o,rfl⟩|⟨m,t',rfl,⟨j,B,ej⟩,g⟩
   .exact%[.int z,c,w.kept A,%[t|ρ]|q z (.inl %[by rw[length_eq_zero_iff.mp o];rfl|ρ])]
   .refine%[.int m,c,w.kept A,%[t'|ρ]|q m (.inr %[Xs %[_,Yd B|by rw[<-f j B,ej]]|λy hy=>?_])];have%[p,hp|rfl]:=Xr hy;have%[i,hi|rfl]:=getElem_of_mem hp;rw[<-f i hi];exact g i hi
variable{K:ZA}
def Ip(h:X.K=K)(a:X.calm=true)(b:X.mg "max"=none)(c:Gl X "max")(d:aS e=false)(f:QE X e te)(g:QE X v tv):QE X (.Call (.Name "max" p) [e] [%[some "default",v|kpos]] pos) (CB K te tv):=by
 subst h;exact⟨EN a c b d f.h g.h⟩
variable{prog:Program}{w:World}{A:Around}{s:Shared}{E:ZD}
def lT{xs:List V}{us:ZF}(r:aN xs us):∀is:List Nat,aN (is.filterMap (xs[·]?)) (is.filterMap (us.toArray[·]?))
 |[]=> .nil
 | i::is=>by
   have h:us.toArray[i]? =us[i]? :=by simp
   rw[Y2,Y2,h];by_cases c:i< ~~~xs
   .have%[u,a|b]:=r.get (i:=i) (x:=xs[i]) ∅;rw[a,Z4 c];exact .cons b (lT r is)
   .rw[Xn (by omega),Xn (by have:= ~~~r;omega)];exact lT r is
variable{pins:ZE}{σ:St}{H:Hp}
end
abbrev qo(key:Nat->Str)(val:Nat->V)(n:Nat):List (Key×V):=(List.range n).foldl (λa j=>b8 a (Sum.inr (key j)) (val j)) []
def lU(key:Nat->Str)(val:Nat->V)(n:Nat):qo key val (n+1)=b8 (qo key val n) (Sum.inr (key n)) (val n):=by
 unfold qo;rw[Xa,foldl_append];rfl
def oM(key:Nat->Str)(val:Nat->V):∀n,~~~(qo key val n)<=n
 | 0=>Zi _
 | n+1=>by
   rw[lU];have:=dX (qo key val n) (Sum.inr (key n)) (val n);have:=oM key val n
   lia
section
variable{prog:Program}{w:World}{A:Around}{R:Result->Shared->Prop}{I:Addr}{fp wr:List Addr}{G:Array GenState->Array GenState->Prop}{n:Nat}{P:Nat->Value->Prop}{St:Nat->Shared->Prop}
def xE(W:WalksS prog w A.in1 I fp wr G n P St)(d:Addr)(z:d∉fp)(B:Nat->Addr)(key:Nat->Str)(val:Nat->V)(O:∀i v,P i v->v= .ref (B i))(L:∀i,i<n->B i∉d::wr)(p:n<=sizeLine):
 ∀(k i:Nat) (j:Int) (s:Shared),n-i=k->i<=n->St i s->(∃vs,KV (qo key val i) vs/\s.heap.DictOf (aM prog w) d vs)->
  (∀i,i<n->∃a t u m,s.heap.get? (B i)∣a/\a.cls= .type "tuple"/\a.data= .seq #[.str (key i) t,u] m/\aV (val i) u)->
  (∀s',Moved (d::wr) G s s'->(∃vs,KV (qo key val n) vs/\s'.heap.DictOf (aM prog w) d vs)->R (.ok (.ret .none)) s')->codeAny (model prog w) A (.builtin "dict.update.loop" %[[.ref d,.ref I,.int j 0,.none]|[]]) R s:=by
 have out:d∉wr:=λh=>z (W.sub _ h)
 have more:∀b∈wr,b∈d::wr:=λb p=>Zk _ p
 have c:∀{h h':Heap} {vs:List (Key×Value)},(∀o,h.get? d∣o->h'.get? d∣o)->h.DictOf (aM prog w) d vs->h'.DictOf (aM prog w) d vs:=λk D=>by
  have%[o,es,Q,T|r]:=D;exact%[o,es,Q,k o T|r]
 intro k
 induction k with
 | zero=>
   intro i j s U hi st C M f;have e:i=n:=by lia
   subst e;refine codeAny_builtin rC ?_;rw[Around.under_plainId jr _];show wpAny _ A.in1 (pyNext (.ref I)>>= _) _ _ s;refine Z2 (W.done s _ _ st λl y=>?_);show wpAny _ A.in1 (Builtin.Dict.addKeywords d []>>= _) _ _ l;refine Z2 (Z3 ?_);show wpAny _ A.in1 (ret Value.none) _ _ l;have%[vs,r|D]:=C;exact Z3 (f l (y.mono more) %[vs,r|c (λo e=>y.heap d o out e) D])
 | succ k Y=>
   intro i j s U hi st C M f;have lt:i<n:=Nat.lt_of_sub_eq_succ U
   refine codeAny_builtin rC ?_;rw[Around.under_plainId jr _];show wpAny _ A.in1 (pyNext (.ref I)>>= _) _ _ s;refine Z2 (W.item i s _ _ lt st λv l pv E y=>?_);obtain rfl:=O i v pv;have%[vs,r|D]:=C;have D1:=c (h':=l.heap) (λo e=>y.heap d o out e) D;have N:∀i,i<n->∃a t u m,l.heap.get? (B i)∣a/\a.cls= .type "tuple"/\a.data= .seq #[.str (key i) t,u] m/\aV (val i) u:=λi hi=>by
    have%[a,t,u,m,g|q]:=M i hi;exact%[a,t,u,m,y.heap _ _ (λh=>L i hi (more _ h)) g|q]
   have%[a,t,u,m,g,hc,hd|ru]:=N i lt;refine Z2 (wpAny_holding (Z2 (wpAny_tryCatch ?_)));refine Z2 (wpAny_typeOf %[_,g|hc] ?_);refine Z2 (wpAny_seqItems g hd (Z3 ?_));have vl: ~~~vs<=sizeLine:=by
    rw[<-r.length];exact Yg (oM key val i) ⋯
   refine wpAny_holding (wpAny_dictSet_pairs (mw prog w (key i) t) D1 λh2 D2 H=>?_);refine Z3 %[plainId_quiet jr _|Y (i+1) _ _ (congrArg Nat.pred U) lt (W.frame _ l _ _ E (Yf _) λb p o e=>?_) %[_,by rw[lU];exact r.put _ ru|D2] (λi hi=>?_) λs3 m3 J=>?_]
   .rw[H.2 b (λq:b=d=>z (q▸p))];exact e
   .have%[a,t,u,m,g|q]:=N i hi;exact%[a,t,u,m,(H.2 _ (λq=>L i hi (by rw[q];exact Zm))).trans g|q]
   .refine f s3 (Moved.trans W.gtrans ((y.mono more).then_heap (Yf _) λb o p e=>?_) m3) J;rw[H.2 b (λq:b=d=>p (by rw[q];exact Zm))];exact e
end
section
#where
def lV{l:Addr}{o:Obj}{a:ZJ}{c:Nat}{M:Nat->Addr}{key:Nat->Str}{val:Nat->V}{Q:ZD}(hh:A.handled=none)(hx:s.heap.get? l∣o)(N:o.cls= .type "list")(j:o.data= .seq a c)(hd:o.dict=none)(hb:a.size<=sizeLine)
 (hv:∀(i:Nat) v,a[i]?∣v->v= .ref (M i)) (hT:∀i,i<a.size->∃d t u m,s.heap.get? (M i)∣d/\d.cls= .type "tuple"/\d.data= .seq #[.str (key i) t,u] m/\aV (val i) u)
 (hQ:∀(h':Heap) (tk:Nat) vs,KV (qo key val a.size) vs->h'.DictOf (aM prog w) ⇑s vs->(∀b o,s.heap.get? b∣o->h'.get? b∣o)->Q (.ref ⇑s) {s with heap:=h',toks:=tk}):
 ↥A (call (.type "dict") [.ref l]) Q E s:=by
 refine callType_codes (Q₁:=λobj n=>obj= .ref ⇑s/\n={s with heap:=s.heap.push {cls:= .type "dict",data:= .dict #[]}}) PySem.F.kt_called_dict (PySem.F.kt_typeCall_dict_1 _) PySem.F.entry_dict_init (kt_code_dict_new _ %[rfl|rfl]) ?_;intro obj n %[rfl|rfl];have f:(s.heap.push {cls:= .type "dict",data:= .dict #[]}).DictOf (aM prog w) ⇑s []:=Heap.DictOf.new s.heap;have p:(s.heap.push {cls:= .type "dict",data:= .dict #[]}).get? l∣o:=Z7 _ hx;refine%[f.typeIs,PySem.F.args_dict_init_2 _ _|?_];unfold Builtin.«dict.__init__»;refine Z2 ?_;unfold Builtin.Dict.selfAndRest;refine Z2 (wpAny_notOrdered_dict f.typeIs ?_);show wpAny _ _ (pure (⇑s,[Value.ref l])) _ _ _;refine Z3 ?_;show wpAny _ _ (Builtin.Dict.updateFrom "dict.__init__" ⇑s (.ref l) [] .none) _ _ _;unfold Builtin.Dict.updateFrom;refine Z2 (wpAny_typeOf (T:="list") %[_,p|N] ?_);have h2:A.in1.in1.handled=none:=by simp[hh]
 refine Z2 (Al p N j hd h2 λI ab O=>?_);refine Z2 (wpAny_rule ?_);have y:I.IsList l a:=%[o,O _ _ p,N,c|j]
 refine Z2 (wpAny_pyIter_list y ?_);refine Z3 %[plainId_quiet jr _|?_];have z:∀b d,s.heap.get? b∣d->I.get? b∣d:=λb d e=>O _ _ (Z7 _ e)
 have B:=Zu hx;have d1:∃C es J,I.get? ⇑s∣C/\_:=let⟨C,es,J,g,r⟩:=f;%[C,es,J,O _ _ g|r];have h:⇑s<I.objs.size:=by have%[_,_,_,g|_]:=d1;exact Zu g
 refine xE ((Walks.list h2 _ l (Zs (Nat.lt_trans B h)) a).toS) ⇑s ?_ M key val hv (λi hi=>?_) hb a.size 0 0 _ ⋯ (Xh _) %[%[_,Zj _ rfl,rfl|rfl]|y.push _] %[[],.nil|?_] (λi hi=>?_) ?_
 .simp only[Yw,X7,or_false,not_or];exact%[Zs h|X1 B]
 .have%[d,t,u,m,g|_]:=hT i hi;have G:=Zu g;simp only[Yw,X7,or_false,not_or];exact%[Zs G|Zs (Nat.lt_trans G h)]
 .have%[C,es,J,g|r]:=d1;exact%[C,es,J,Z7 _ g|r]
 .have%[d,t,u,m,g|q]:=hT i hi;exact%[d,t,u,m,Z7 _ (z _ _ g)|q]
 .intro s3 L %[vs,r|dd];have%[h',g',d',U|Y]:=s3;have eg:g'=s.gens:=L.gens;have ed:d'=s.drawn:=L.drawn;have eo:Y=s.os:=L.os;subst eg;subst ed;subst eo;refine%[ρ|hQ h' U vs r dd λb d e=>?_];have H:=Zu e;refine L.heap b d ?_ (Z7 _ (z _ _ e));simp only[Yw,X7,or_false,not_or];exact%[Zs H|Zs (Nat.lt_trans H h)]
end
abbrev kM(ps:List (Addr×Str×V)):List (Key×V):=ps.foldl (λa q=>b8 a (Sum.inr q.2.1) q.2.2) []
def rG(ps:List _)(key:Nat->Str)(val:Nat->V)(b:∀i q,ps[i]?∣q->key i=q.2.1/\val i=q.2.2):qo key val ps.length=kM ps:=by
 have:∀n,n<= ~~~ps->qo key val n=kM (ps.take n):=λn=>by
  induction n with
  | zero=>intro _;rfl
  | succ n c=>
    intro h;have a:=Z4 (show n< ~~~ps by lia);have%[d|e]:=b n _ a;rw[lU,c ⋯,Xc,a,d,e];unfold kM;rw[foldl_append];rfl
 simp_all
section
variable{X:Cx}{K:ZA}
def xF(E:X.calm=true):cr X (.type "dict") (λxs H Q=>∃p ps,xs=[.ref p]/\SqL X.K H p (ps\0)/\(∀q∈ps,H q.1&&&[.str q.2.1,q.2.2])/\∀l,H l=none->Q (.ref l) (upd H l (.dK (kM ps)))):=by
 intro pins s σ H xs us Q I r h;have%[p,ps,rfl,G,J|q]:=h;have%[u,rfl|f]:=cu r;cases f;have%[its,y,%[o,n,L,j,M|d]|z]:=I.list G;have c:= ~~~y;rw[Z6]at c z;have w:its.toArray.size= ~~~ps:=!2
 have N:∀(i:Nat) v,its.toArray[i]?∣v->v= .ref ((ps[i]?.map _).getD 0):=λi v e=>by
  have e:=↑e
  have hi:i< ~~~ps:=by rw[c];exact(Xo e).1
  have%[u,A|f]:=y.get (by rw[Zl,Z4 hi];rfl);rw[e]at A;rw[Za A,Z4 hi];exact f
 refine lV (key:=λi=>(ps[i]?.map (·.2.1)).getD Str.empty) (val:=λi=>(ps[i]?.map (·.2.2)).getD .non) (I.ok.hd E) L j d M ⋯ N (λi hi=>?_) λh' tk vs B O k=>?_
 .have hi:i< ~~~ps:=by lia
  rw[Z4 hi];have%[_,ts,rt,T,g,c1,m|C]:=(I.hok _ _ (J _ (Yd hi)))
  have%[a,b,e,%[t|U]|Y]:=kh rt;rw[e,U]at C;exact%[T,t,b,m,g,c1,C|Y]
 .rw[w,rG ps _ _ (λi q e=>by rw[e];exact%[ρ|ρ])]at B;have hl: ~~~(kM ps)<=sizeLine:=by
   rw[<-rG ps (λi=>(ps[i]?.map _).getD Str.empty) (λi=>(ps[i]?.map _).getD .non) (λi q e=>by rw[e];exact%[ρ|ρ])];exact Yg (oM _ _ _) z
  refine%[.ref ⇑s,_,I.laid k (Zi _) (tw hl ?_ B O),ρ|q _ I.fresh];exact beq_eq_false_iff_ne.mpr (Ne.symm (Zs I.big))
def EO(h:X.K=K)(a:X.calm=true)(_:cg k X.A):cJ X (.type "dict") (λxs H Q=>∃p ps,xs=[.ref p]/\SqL K H p (ps\0)/\(∀q∈ps,H q.1&&&[.str q.2.1,q.2.2])/\∀l,H l=none->Q (.ref l) (upd H l (.dK (kM ps)))):=by subst h;exact⟨xF a⟩
abbrev evI(n:Nat):List Nat:=sliceRange (sliceBounds none none (some 2) n).1 (sliceBounds none none (some 2) n).2.1 (sliceBounds none none (some 2) n).2.2
abbrev EQ(e b:TE):TE:=λd H Q=>e d H λx f=>b d f λy c=>∃a xs,x= .ref a/\c a<*xs/\y= .int 2/\∀p:Addr,c p=none-> ~~~((evI xs.length).filterMap (xs[·]?))<= ~~~xs->Q (.ref p) (upd c p (.lst ((evI xs.length).filterMap (xs[·]?))))
def Hc{e st:Expr}{m c:TE}{pos p:Pos}(w:PE X e m)(g:PE X st c):PE X (.Subscript e (.Slice none none (some st) p) pos) (EQ m c):=by
 intro pins s i H Q I h;refine Subscript_ (thP (w pins s i H _ I h) λv z x A B C E=>?_);refine wpAny_Slice (evalPart_none_step (evalPart_none_step (evalPart_some_step (thP (g pins z i A _ B E) λu f y G J L ⟨a,xs,ex,M,N,q⟩=>?_))));subst ex N;cases C;have%[j|rfl]:=(L)
 have l:Inv X pins i G {f with heap:=f.heap.push {cls:= .type "slice",data:= .fields #[.none,.none,.int 2 j]}}:=J.kept λb O q=>Z7 _ q
 have T:(f.heap.push {cls:= .type _,data:= .fields #[.none,.none,.int 2 j]}).IsSliceOf ⇑f _ _ _:=Heap.IsSliceOf.new ..;have%[its,r,n|U]:=l.list (SqL.of M);have d:= ~~~r;refine tail_any n.isList.typeIs slot_list_getitem.lookup (wpAny_getItem_list_slice n.isList T .none .none (.int 2 j) ∅ ?_ (!2)) (by with_unfolding_all rfl);have sz:=slicePick_size_le its.toArray none none (some 2);unfold slicePick at sz ⊢;rw[show its.toArray.size= ~~~xs by exact d.symm]at sz ⊢;have pv:=lT r (evI xs.length);have o: ~~~((evI xs.length).filterMap (xs[·]?))<= ~~~xs:=by rw[pv.length];exact sz
 refine%[.ref _,_,l.laid (λb O q=>Z7 _ q) (Zi _) ?_,ρ|q _ (l.hok.fresh (Zi _)) o];exact%[Yg o U,_,0,pv|Zj _ rfl]
def Iq{e st:Expr}{c a:TE}{pos d:Pos}(f:QE X e c)(b:QE X st a):QE X (.Subscript e (.Slice none none (some st) d) pos) (EQ c a):=⟨Hc f.h b.h⟩
end
abbrev Ir(K:ZA)(c:TE):TI:=λd H R=>c d H λx b=>asR x λa=>(∃xs,SqL K b a xs)/\R (Itl K a) b
def cc{X:Cx}{K:ZA}{g l:Expr}{f:TE}(h:X.K=K)(i:QE X l f):QI X g l (Ir K f):=by
 subst h;refine⟨λpins s j H R I h=>thP (i.h pins s j H _ I h) λv c x m d n r=>?_⟩;have%[a,rfl,%[xs|u]|q]:=ef r;cases n;have%[its,y,p|z]:=d.list u;exact wpAny_pyIter_list p.isList ⟨⇑c,[⇑c],_,_,m,rfl,d.kept (t':=c.toks) λb o e=>Z7 _ e,qE a _,%[_,Zj _ rfl,rfl|rfl],λb w=>by
  obtain rfl:b=⇑c:=↑w
  exact d.fpOk (Zi _) (d.hok.fresh (Zi _)),q⟩
def FC{X:Cx}:OpQ X (binaryOp .Add) DQ:=⟨Bu⟩
def Iu{X:Cx}{K:ZA}{e:Expr}{lo hi:Option Expr}{a:TE}{b c:TO}{d pos:Pos}(h:X.K=K)(f:QE X e a)(g:QO X lo b)(i:QO X hi c):QE X (.Subscript e (.Slice lo hi none d) pos) (tSl (Gn K) a b c):=by subst h;exact⟨Bo DO f.h g.h i.h⟩
def d7{X:Cx}:OpQ X (binaryOp .Add) BE:=⟨nL⟩
open PySem
def Iv{K:ZA}{z:Str}{H:Hp}:tyV K "str" (.str z) H=True:=eq_true rfl
def tyL{K:ZA}{l:Addr}{H:Hp}{xs:List V}(h:SqL K H l xs):tyV K "list" (.ref l) H:= .inl %[rfl,_|h]
def tyD{K:ZA}{l:Addr}{H:Hp}{a}(h:H l∣.dK a):tyV K "dict" (.ref l) H:= .inr (.inr (.inl %[rfl|.inl %[_|h]]))
abbrev Iw(K:ZA)(n:Nat)(t:TGs):TG:=λv b H Q=>asR v λa=>∃xs,SqL K H a xs/\ ~~~xs=n/\t xs b H Q
def Ix{X:Cx}{K:ZA}{es:List Expr}{t:TGs}{k}{pos:Pos}(f:X.K=K)(g:X.calm=true)(c:es.any aS=false)(h:QGs X es t):QG X (.Tuple es k pos) (Iw K es.length t):=by
 subst f;refine⟨λpins s i H v u Q I r hw=>?_⟩;have%[a,rfl,xs,j,l|hw]:=ef hw;cases r;have%[its,d,p|q]:=I.list j;rw[assign_Tuple];refine Z2 (wpAny_standAt ?_);unfold unpack;have m: ~~~(assignEach es X.env)=its.toArray.size:=by rw[(eV c).1,<-l];simpa using d.length
 rw[m,(eV c).2];exact Z2 (wpAny_holding (PySem.W.kun_itemsOf (I.ok.hd g) p.isList λh' n=>h.h pins _ i H xs _ Q (I.kept λb o e=>n b o (Zs (Zu e)) e) ↑d hw))
def Ax{X:Cx}(A:X.calm=true):cJ X (.builtin "sorted") (λxs H Q=>∃(v a:Addr) (c:List (Key×V)) (ks:ZB),xs=[.ref v]/\H v∣kJ v a/\H a∣.dK c/\c\2=ks\3/\ ~~~ks<64/\
 ∀l (ss:ZB),H l=none->ss.Perm ks->ss.Pairwise (λa b=>aP b a=false)->Q (.ref l) (upd H l (.lst (ss\3)))):=by
 refine⟨λpins s σ H xs us Q I r h=>?_⟩;have%[v,a,c,ks,rfl,B,C,f,few|q]:=h;have%[u,rfl|E]:=cu r;cases E;have%[z,hd,vs,j|G]:=km I.hok C;have p:=(I.hok _ _ B).1;have%[o,es,J,L|M]:=G;have N:s.heap.DictAt _ a vs J:=%[o,es,L|M]
 have vl:= ~~~j;have kl: ~~~c= ~~~ks:=by have:=congrArg List.length f;rwa[Z6,Z6]at this
 have O:StrsAre (vs\2) ks:=ic (f▸yv j);refine fK (ks:=ks) (λE1 R T=>mJ kdl_values (I.ok.hd A) %[p|N] (by rw[sizeLine_eq];omega) λh' tk acc k U d=>?_) (by omega) λs1 s' l vs ss n Y y q3 k1 g1 o1 k g o m gl=>?_
 .have e:acc.toList=vs\2:=by
   refine Zz (by rw[Zb,d.1,Z6]) λi h1 h2=>?_
   have%[k|ek]:=d.2 i _ (Array.getElem?_eq_getElem h1);have%[h3|e3]:=Xo ek
   simp_all
  rw[e];exact T _ _ _ O (.refl _) k rfl rfl
 .have w:=I.keptS k1 g1 o1;refine%[.ref l,_,w.stoodS (o:= .lst _) (w.keptS k g o) m %[?_,vs,n,dD Y|gl],ρ|q l ss (w.hok.fresh m) y (q3 few)];rw[Z6,y.length_eq,sizeLine_eq];omega
def ce{v:Type}{K:ZA}{l D:Addr}{us:List v}{f:v->V}{c:St}{H:Hp}{g:TG}{w:TT}{z:TE}{A:Hp->Prop}(Pv:Nat->List V->St->Hp->Prop)(B:Pv 0 [] c H)(r:∀i ys c H,Pv i ys c H->H l<*us.map f)
 (C:∀i ys c H (hi:i< ~~~us),Pv i ys c H->g (f us[i]) c H λa s=>w a s λb d=>if b=true then z a d λy q=>CK D us.length i Pv ys a y q else CN us.length i Pv ys a d) (E:∀ys c H,Pv us.length ys c H->A H):
 ∃W:Nat->Nat->List V->St->Hp->Prop,(∃m,W 0 m [] c H)/\∀i m ys h j,W i m ys h j->((Itl K l).stop i j/\A j)\/
  ((Itl K l).go i j/\∀x u,(Itl K l).yld i j x u->g x h u λa s=>w a s λb d=>if b=true then z a d λy q=>∃zs o,q D<*zs/\ ~~~zs<sizeLine/\o<m/\W (i+1) o (ys++[y]) a (upd q D (.lst (zs++[y])))
    else∃o,o<m/\W (i+1) o ys a d):=
 c9 (n:= ~~~us) Pv B (λi ys c H hi p=>%[_,f us[i],SqL.of (r _ _ _ _ p)|by simp[hi]]) (λys c H p=>%[_,SqL.of (r _ _ _ _ p)|by simp]) (λi ys c H hi p x u ⟨e,G⟩=>by
  subst e;have:=G _ (SqL.of (r _ _ _ _ p));rw[Zl,Z4 hi]at this;obtain rfl:f us[i]=x:=Za this;exact C i ys c _ hi p) E
def br{j:Type}{K:ZA}{a:Addr}{us:List j}{f:j->V}{b:St}{H:Hp}{g:TG}{l:TS}{D:lL}(Pv:Nat->St->Hp->Prop)(q:Pv 0 b H)(r:∀i b H,Pv i b H->H a<*us.map f)
 (s:∀i u b H,us[i]?∣u->Pv i b H->g (f u) b H λc h=>l {D with nx:=Pv (i+1),ct:=Pv (i+1),bk:=D.nx} c h) (v:∀b H,Pv us.length b H->D.nx b H):
 ∃W:Nat->Nat->St->Hp->Prop,(∃m,W 0 m b H)/\∀i m b H,W i m b H->
  ((Itl K a).stop i H/\D.nx b H)\/((Itl K a).go i H/\∃N:St->Hp->Prop,(∀d e,N d e->∃n,n<m/\W (i+1) n d e)/\∀x e,(Itl K a).yld i H x e->g x b e λc h=>l {D with nx:=N,ct:=N,bk:=D.nx} c h):=
 eS (xs:=us.map f) Pv q (λi b H _ p=>SqL.of (r i b H p)) (λi x b H o p=>by
  rw[Zl]at o;have%[u,w|rfl]:=map_eq_some_iff.mp o;exact s i u b H w p) (by rw[Z6];exact v)
section
variable{prog:Program}{w:World}{A:Around}{R:Result->Shared->Prop}{I S:Addr}{fp wr:List Addr}{n:Nat}{P:Nat->Value->Prop}{St:Nat->Heap->Prop}{val:Nat->Int}{kn:Str}{d:Value}
abbrev Bot(val:Nat->Int)(n:Nat)(v:Value):Prop:=∃m t,v= .int m t/\(∃j,j<n/\val j=m)/\∀j,j<n->m<=val j
def Bot.step(h:Bot val i v)(x:Int)(t:Tok)(e:val i=x):if x<(match v with| .int m _=>m|_=>0)then Bot val (i+1) (.int x t)else Bot val (i+1) v:=by
 have%[m,t',rfl,%[j,a|c]|b]:=h;show if x<m then _ else _
 split
 .refine%[x,t,ρ,%[i,⋯|e]|λj a=>?_];rcases Nat.lt_succ_iff_lt_or_eq.mp a with h|h
  .have:=b j h
   lia
  .rw[h,e];exact Int.le_refl _
 .refine%[m,t',ρ,%[j,⋯|c]|λj a=>?_];rcases Nat.lt_succ_iff_lt_or_eq.mp a with h|h
  .exact b j h
  .rw[h,e]
   lia
def Ay(W:Walks prog w A.in1 I fp wr n P St)(T:∀i v,P i v->∃t,v= .int (val i) t)(G:S∉fp):∀(k i:Nat) (s:Shared) (l:ZJ) (c:Nat),n-i=k->i<=n->St i s.heap->
 s.heap.get? S=some {cls:= .type "list",dict:=none,data:= .seq l c,slots:= #[]}->(i=0/\l= #[]\/∃v,l= #[v,v]/\Bot val i v)->
 (∀v h' tk,(n=0/\v=d\/Bot val n v)->(∀b o,b∉wr->b≠S->s.heap.get? b∣o->h'.get? b∣o)->R (.ok (.ret v)) {s with heap:=h',toks:=tk})->
 codeAny (model prog w) A (.builtin "min.loop" %[[.ref I,.none,.ref S]|[(kn,d)]]) R s:=by
 have H:S∉wr:=λh=>G (W.sub _ h)
 have a:(toString "min"++toString ".loop":String)="min.loop":=!1
 intro k
 induction k with
 | zero=>
   intro i s l c U hi y J N L;obtain rfl:i=n:=by lia
   refine codeAny_builtin F.entry_min_loop ?_;rw[Around.under_plainId F.plain_min_loop _];refine Z2 (wpAny_seqItems J rfl ?_);refine Z2 (wpAny_tryCatch (W.done s _ _ y λh' tk z=>?_));have f:=z S _ H J;rcases N with⟨rfl,rfl⟩|⟨v,rfl,M⟩
   .exact Z2 (wpAny_rule (Z3 (L d _ tk (.inl %[rfl|rfl]) λb o p _ e=>z b o p e)))
   .refine Z2 (wpAny_updateSeq f rfl (Z2 (wpAny_letGo (Z3 ?_))));exact L v _ tk (.inr M) λb o p g e=>(get?_update_other _ _ (Ne.symm g)).trans (z b o p e)
 | succ k Q=>
   intro i s l c U hi y J N L;have B:i<n:=Nat.lt_of_sub_eq_succ U
   refine codeAny_builtin F.entry_min_loop ?_;rw[Around.under_plainId F.plain_min_loop _];refine Z2 (wpAny_seqItems J rfl ?_);refine Z2 (wpAny_tryCatch (W.item i s _ _ B y λu h' tk Y r z=>?_));have f:=z S _ H J;have%[t|rfl]:=T i u Y;have up:∀(x:ZJ),(∃v,x= #[v,v]/\Bot val (i+1) v)->codeAny (model prog w) A (.builtin "min.loop" %[[.ref I,.none,.ref S]|[(kn,d)]]) R {s with heap:=h'.update S (Obj.mapSeq λ_=>x),toks:=tk}:=λx hx=>
    Q (i+1) _ x _ (congrArg Nat.pred U) B (W.frame _ _ _ r λb p o e=>(get?_update_other _ _ (λh:S=b=>G (by rw[h];exact p))).trans e) (get?_update_self _ f rfl) (.inr hx)
     λv O C q E=>L v O C q λb o p g e=>E b o p g ((get?_update_other _ _ (Ne.symm g)).trans (z b o p e))
   rcases N with⟨rfl,rfl⟩|⟨v,rfl,M⟩
   .refine Z2 (Z3 (Z2 (wpAny_updateSeq f rfl ?_)));rw[a];exact Z3 %[plainId_quiet F.plain_min_loop _|up _ %[_,rfl,_,_,rfl,%[0,⋯|rfl]|λj hj=>by rw[show j=0 by lia];exact Int.le_refl _]]
   .have st:=M.step _ t rfl;have%[m,t',rfl,_|_]:=M;refine Z2 (Z3 ?_);refine Z2 (wpAny_tryCatch (wpAny_holding (Z2 (CmpOf.ints_lt (P:=λj v=>∃t,v= .int (if j=0 then val i else m) t) (λj=>if j=0 then val i else m) (λ_ _ h=>h) 0 1 _ _ _ _ _ %[t|rfl] %[t'|rfl] ?_))));refine Z2 (wpAny_holding (wpAny_truthy_bool ?_));refine Z2 (wpAny_letGo (Z3 ?_))
    split
    .rename_i h
     have c:val i<m:=Zo h;refine Z2 (wpAny_updateSeq f rfl (Z2 (wpAny_letGo ?_)));rw[a];exact Z3 %[plainId_quiet F.plain_min_loop _|up _ %[_,rfl|by rwa[if_pos c]at st]]
    .rename_i h
     have c: ¬ val i<m:=λc=>h (Zf c)
     refine Z2 (wpAny_letGo ?_);rw[a];exact Z3 %[plainId_quiet F.plain_min_loop _|Q (i+1) _ _ _ (congrArg Nat.pred U) B r f (.inr %[_,rfl|by rwa[if_neg c]at st]) λv O C q E=>L v O C q λb o p g e=>E b o p g (z b o p e)]
end
def Az(a d:Value):argsOk "min" %[[a]|[("default",d)]]:=by kernel_rfl
def AA{prog:Program}{w:World}{A:Around}{E:ZD}{s:Shared}{l:Addr}{ps:List (Int×Tok)}{d:Value}{Q:ZD}(g:A.handled=none)(i:s.heap.IsList l (intItems ps.toArray))
 (h:∀v h' tk,(ps.toArray.size=0/\v=d\/Bot (numAt ps.toArray) ps.toArray.size v)->(∀b o,s.heap.get? b∣o->h'.get? b∣o)->Q v {s with heap:=h',toks:=tk}):
 ↥A (call (.builtin "min") [.ref l] [("default",d)]) Q E s:=by
 have a:(toString "min"++toString ".loop":String)="min.loop":=!1
 refine wpAny_call (codeAny_call_builtin F.plain_min F.entry_min ?_);simp only[checkBuiltinCall,F.kind_min];refine yB (Az _ _) ?_;refine Z2 (wpAny_of_eq (show Builtin.Builtins.bindParams "min" ["key","default"] 0 %[[]|[("default",d)]]=pure [none,some d]from rfl) ?_);refine Z2 (Z3 ?_);refine Z2 (iter_intList i λp e st c f=>?_);subst e;refine Z2 (wpAny_newObj_type ?_);rw[a];refine Z3 %[plainId_quiet F.plain_min_loop _|Ay (Walks.list (A:=A.in1) g _ l f (intItems ps.toArray)) (val:=numAt ps.toArray) (λ_ _=>intItems_at) (λj=>Xm _ (c _ j)) _ 0 _ #[] 0 rfl (Xh _) %[st.1.at λo e=>Z7 _ e|st.2.at λo e=>Z7 _ e] (Zj _ rfl) (.inl %[rfl|rfl]) λv h' tk q m=>?_];refine h v h' tk (by simpa [intItems]using q) (old_kept λb o n e=>m b o n (Zs (Zu e)) (Z7 _ e))
section
variable{X:Cx}{e v:Expr}{te tv:TE}{p pos kpos:Pos}
abbrev CC(K:ZA)(te tv:TE):TE:=λc H Q=>te c H λx f=>tv c f λy d=>∃(a:Addr) (b:ZL) (z:Int),x= .ref a/\y= .int z/\SqL K d a (b\4)/\∀m,(b=[]/\m=z\/m∈b/\∀y∈b,m<=y)->Q (.int m) d
def ER(C:X.calm=true)(E:Gl X "min")(g:X.mg "min"=none)(G:aS e=false)(J:PE X e te)(L:PE X v tv):PE X (.Call (.Name "min" p) [e] [%[some "default",v|kpos]] pos) (CC X.K te tv):=by
 intro pins s l H Q I h;have d:=aA (es:=[]) (env:=X.env) G;refine wpAny_Call_Name_kw (fZ I E g boot_min ?_);refine callWith_kw (thP (sQ J wK d pos pins s l H (λvs n=>match vs with|[x]=>tv l n λy c=>∃(a:Addr) (b:ZL) (z:Int),x= .ref a/\y= .int z/\SqL X.K c a (b\4)/\∀m,(b=[]/\m=z\/m∈b/\∀y∈b,m<=y)->Q (.int m) c|_=>False) I h) λus M vs n N O r=>?_) (by rw[d];rfl) (by rw[d];rfl) rfl rfl
 match vs,r with
 |[x],r=>
  have%[u,rfl|T]:=cu O;refine thP (x5 L Bl pos pins M l n (λzs c=>match zs with|[y]=>∃a b z,x= .ref a/\y= .int z/\SqL X.K c a (b\4)/\∀m,(b=[]/\m=z\/m∈b/\∀y∈b,m<=y)->Q (.int m) c|_=>False) N r) λws s2 zs c w U Y=>?_
  match zs,Y with
  |[y],⟨a,b,z,e1,e2,ha,q⟩=>
   subst e1 e2;have%[u2,rfl,t|rfl]:=cu U;cases T;have%[its,rv,hl|hz]:=w.list ha;have%[ps,rfl|rfl]:=lS rv;refine AA (I.ok.hd C) (by rw[show intItems ps.toArray=(ps.map λp=>Value.int p.1 p.2).toArray by simp[intItems]];exact hl.isList) λv h' tk o A=>?_
   have f:∀i h,numAt ps.toArray i=ps[i].1:=λi h=>by simp[numAt,h]
   have sz:ps.toArray.size= ~~~ps:=rfl;rw[sz]at o;rcases o with⟨o,rfl⟩|⟨m,t',rfl,⟨j,B,ej⟩,g⟩
   .exact%[.int z,c,w.kept A,%[t|ρ]|q z (.inl %[by rw[length_eq_zero_iff.mp o];rfl|ρ])]
   .refine%[.int m,c,w.kept A,%[t'|ρ]|q m (.inr %[Xs %[_,Yd B|by rw[<-f j B,ej]]|λy hy=>?_])];have%[p,hp|rfl]:=Xr hy;have%[i,hi|rfl]:=getElem_of_mem hp;rw[<-f i hi];exact g i hi
def Iy{K:ZA}(h:X.K=K)(a:X.calm=true)(b:X.mg "min"=none)(c:Gl X "min")(d:aS e=false)(f:QE X e te)(g:QE X v tv):QE X (.Call (.Name "min" p) [e] [%[some "default",v|kpos]] pos) (CC K te tv):=by
 subst h;exact⟨ER a c b d f.h g.h⟩
end
end _LL
namespace _CU
open PySem _LL
inductive cL (S:Str->Str->Prop):Str->Str->Prop
 | refl (x:Str):cL S x x
 | step {x y z:Str}:cL S x y->(S y z\/S z y)->cL S x z
def cL.trans{S:Str->Str->Prop}(h:cL S x y)(g:cL S y z):cL S x z:=by
 induction g with
 | refl=>exact h
 | step _ s a=>exact .step a s
def cL.one{S:Str->Str->Prop}(h:S x y\/S y x):cL S x y:= .step (.refl x) h
def cL.symm{S:Str->Str->Prop}(h:cL S x y):cL S y x:=by
 induction h with
 | refl=>exact .refl _
 | step _ s a=>exact(cL.one s.symm).trans a
def cL.mono{S R:Str->Str->Prop}(m:∀a b,S a b->R a b)(h:cL S x y):cL R x y:=by
 induction h with
 | refl=>exact .refl _
 | step _ s c=>exact .step c (s.imp (m _ _) (m _ _))
def cL.within{S:Str->Str->Prop}{p:Str->Prop}(w:∀a b,S a b->p a/\p b)(h:cL S x y)(c:p x):p y:=by
 induction h with
 | refl=>exact c
 | step _ s _=>
   rcases s with s|s
   .exact(w _ _ s).2
   .exact(w _ _ s).1
abbrev bN(S:Str->Str->Prop)(z r:Str):Prop:=cL S z r/\∀y,cL S z y->aP y r=false
def bN.one{S:Str->Str->Prop}(h:bN S z r)(g:bN S z a):r=a:=by
 by_cases e:r=a
 .exact e
 .have:=dL (g.2 _ h.1) e;rw[h.2 _ g.1]at this;cases this
structure bL (ls:ZB) (f r:Str->Str) (S:Str->Str->Prop):Prop where
 ws:∀a b,S a b->a∈ls/\b∈ls
 fin:∀z∈ls,f z∈ls
 rin:∀z∈ls,r z∈ls
 rf:∀z∈ls,r (f z)=r z
 fr:∀z∈ls,f (r z)=r z
 fix:∀z∈ls,f z=z->r z=z
 dec:∀z∈ls,f z≠z->aP (f z) z=true
 le:∀z∈ls,aP z (r z)=false
 cl:∀x∈ls,∀y∈ls,r x=r y↔cL S x y
def bL.rr{S:Str->Str->Prop}(F:bL ls f r S)(h:z∈ls):r (r z)=r z:=F.fix _ (F.rin z h) (F.fr z h)
def bL.conn{S:Str->Str->Prop}(F:bL ls f r S)(h:z∈ls):cL S z (r z):=(F.cl z h _ (F.rin z h)).mp (F.rr h).symm
def bL.least{S:Str->Str->Prop}(F:bL ls f r S){z:Str}(h:z∈ls):bN S z (r z):=by
 refine%[F.conn h|λy c=>?_];have a:=c.within F.ws h;rw[(F.cl z h y a).mpr c];exact F.le y a
def bL.start(ls:ZB):bL ls id id (λ_ _=>False):=by
 refine%[λ_ _ h=>h.elim,λz h=>h,λz h=>h,λ_ _=>rfl,λ_ _=>rfl,λ_ _ _=>rfl,λz _ h=>(h rfl).elim,λz _=>cS z|λx a y b=>%[λe=>?_|λc=>?_]]
 .rw[show x=y from e];exact .refl _
 .induction c with
  | refl=>rfl
  | step _ s _=>simp_all
def bL.join{S:Str->Str->Prop}(F:bL ls f r S){a b M m:Str}(p:a∈ls)(q:b∈ls)(A:M=if aP (r a) (r b)=true then r b else r a)(B:m=if aP (r b) (r a)=true then r b else r a):
 bL ls (λx=>if x=M then m else f x) (λx=>if r x=M then m else r x) (λx y=>S x y\/(x=a/\y=b)):=by
 have g:(M=r a/\m=r b)\/(M=r b/\m=r a):=by
  rw[A,B];cases e:aP _ _ with
  | true=>
    have:aP (r b) (r a)=false:=by
     cases i:aP _ _ with
     | false=>rfl
     | true=>have:=dJ e i;rw[cS]at this;cases this
    exact this▸ .inr %[rfl|rfl]
  | false=>
    cases i:aP _ _ with
    | true=>exact .inl %[rfl|rfl]
    | false=>
      have:r a=r b:=by
       by_cases h:r a=r b
       .exact h
       .have:=dL e h;rw[i]at this;cases this
      exact this▸ .inl %[rfl|rfl]
 have lt:m≠M->aP m M=true:=by
  rw[A,B];cases e:aP _ _ with
  | true=>
    cases i:aP _ _ with
    | true=>intro h;exact(h rfl).elim
    | false=>intro _;exact e
  | false=>
    cases i:aP _ _ with
    | true=>intro _;exact i
    | false=>intro h;exact(h rfl).elim
 have O:=F.rin a p;have Q:=F.rin b q;have C:m∈ls:=by rcases g with⟨_,h⟩|⟨_,h⟩<;> rw[h]<;> assumption
 have E:r M=M:=by rcases g with⟨h,_⟩|⟨h,_⟩<;> rw[h]<;> apply F.rr<;> assumption
 have J:r m=m:=by rcases g with⟨_,h⟩|⟨_,h⟩<;> rw[h]<;> apply F.rr<;> assumption
 have L:cL (λx y=>S x y\/(x=a/\y=b)) M m:=by
  have c1:cL (λx y=>S x y\/(x=a/\y=b)) _ _:=(((F.conn p).mono λ_ _=> .inl).symm.trans (.one (.inl (.inr %[rfl|rfl])))).trans ((F.conn q).mono λ_ _=> .inl);rcases g with⟨j,l⟩|⟨j,l⟩
  .rw[j,l];exact c1
  .rw[j,l];exact c1.symm
 have o:∀x∈ls,cL _ x (if r x=M then m else r x):=λx w=>by
  have c:=(F.conn w).mono (R:=λx y=>S x y\/(x=a/\y=b)) λ_ _=> .inl
  by_cases e:r x=M
  .rw[if_pos e];rw[e]at c;exact c.trans L
  .rw[if_neg e];exact c
 have G:(if r a=M then m else r a)=(if r b=M then m else r b):=by
  rcases g with⟨j,l⟩|⟨j,l⟩
  .rw[if_pos j.symm];by_cases e:r b=M
   .rw[if_pos e]
   .rw[if_neg e];exact l
  .rw[if_pos j.symm];by_cases e:r a=M
   .rw[if_pos e]
   .rw[if_neg e];exact l.symm
 refine%[λx y h=>?_,λz d=>?_,λz d=>?_,λz d=>?_,λz d=>?_,λz d h=>?_,λz d h=>?_,λz d=>?_|λx w y H=>%[λe=>?_|λc=>?_]]
 .rcases h with h|⟨rfl,rfl⟩
  .exact F.ws x y h
  .exact%[p|q]
 .split
  .exact C
  .exact F.fin z d
 .split
  .exact C
  .exact F.rin z d
 .by_cases e:z=M
  .rw[if_pos e,e,E,if_pos rfl,J]
   split<;> rfl
  .rw[if_neg e,F.rf z d]
 .by_cases e:r z=M
  .rw[if_pos e]
   split
   .rfl
   .exact(by rcases g with⟨_,h⟩|⟨_,h⟩<;> rw[h]<;> apply F.fr<;> assumption)
  .rw[if_neg e,if_neg e];exact F.fr z d
 .by_cases e:z=M
  .rw[if_pos e]at h;rw[e,E,if_pos rfl,<-e];exact h
  .rw[if_neg e]at h;rw[F.fix z d h,if_neg e]
 .by_cases e:z=M
  .rw[if_pos e]at h ⊢;rw[e]at h ⊢;exact lt h
  .rw[if_neg e]at h ⊢;exact F.dec z d h
 .by_cases e:r z=M
  .rw[if_pos e];cases i:aP z m with
   | false=>rfl
   | true=>
     have n:=F.le z d;rw[e]at n;by_cases em:m=M
     .rw[em]at i;rw[n]at i;cases i
     .have:=dJ i (lt em);rw[n]at this;cases this
  .rw[if_neg e];exact F.le z d
 .have c:=(o x w)
  rw[e]at c;exact c.trans (o y H).symm
 .have ws:∀x y,(S x y\/(x=a/\y=b))->x∈ls/\y∈ls:=λx y h=>by
   rcases h with h|⟨rfl,rfl⟩
   .exact F.ws x y h
   .exact%[p|q]
  clear H
  induction c with
  | refl=>rfl
  | step c s N=>
    rename_i u v
    have I:=c.within ws w;rw[N];rcases s with(s|⟨rfl,rfl⟩)|(s|⟨rfl,rfl⟩)
    .rw[(F.cl u I v (F.ws u v s).2).mpr (.one (.inl s))]
    .exact G
    .rw[(F.cl u I v (F.ws v u s).1).mpr (.one (.inr s))]
    .exact G.symm
def bL.short{S:Str->Str->Prop}(F:bL ls f r S)(b:z∈ls):bL ls (λx=>if x=z then f (f z)else f x) r S:=by
 have d:f z≠z->aP (f _) z=true:=λh=>by
  have g:=F.dec z b h;by_cases e:f (f z)=f z
  .exact e▸g
  .exact dJ (F.dec _ (F.fin z b) e) g
 refine%[F.ws,λx a=>?_,F.rin,λx a=>?_,λx a=>?_,λx a h=>?_,λx a h=>?_,F.le|F.cl]
 .split
  .exact F.fin _ (F.fin z b)
  .exact F.fin x a
 .by_cases e:x=z
  .rw[if_pos e,F.rf _ (F.fin z b),F.rf z b,e]
  .rw[if_neg e];exact F.rf x a
 .by_cases e:r x=z
  .rw[if_pos e];have:=F.fr x a
   simp_all
  .rw[if_neg e];exact F.fr x a
 .by_cases e:x=z
  .rw[if_pos e]at h;rw[e]at h ⊢;by_cases c:f z=z
   .exact F.fix z b c
   .have:=d c;rw[h,cS]at this;cases this
  .rw[if_neg e]at h;exact F.fix x a h
 .by_cases e:x=z
  .rw[if_pos e]at h ⊢;rw[e]at h ⊢;refine d λc=>h ?_
   rw[c,c]
  .rw[if_neg e]at h ⊢;exact F.dec x a h
def bL.done{S:Str->Str->Prop}(F:bL ls f r S)(a:z∈ls)(h:∀w∈ls,aP w z=true->f w=r w):f (f z)=r z:=by
 by_cases e:f z=z
 .rw[e,e];exact(F.fix z a e).symm
 .rw[h _ (F.fin z a) (F.dec z a e),F.rf z a]
abbrev Ed(ks:List ZB)(a b:Str):Prop:=∃z,[a,b,z]∈ks
inductive Rch (ks:List ZB):Str->Str->Prop
 | one {a b:Str}:Ed ks a b->Rch ks a b
 | more {a b c:Str}:Rch ks a b->Ed ks b c->Rch ks a c
def Rch.trans(h:Rch ks a b)(g:Rch ks b c):Rch ks a c:=by
 induction g with
 | one e=>exact .more h e
 | more _ e d=>exact .more d e
def Rch.closed{R:Str->Prop}(a:∀y,Ed ks s y->R y)(h:∀x y,R x->Ed ks x y->R y)(r:Rch ks s y):R y:=by
 induction r with
 | one e=>exact a _ e
 | more _ e b=>exact h _ _ b e
def rH{ks:List _}{laid:ZB}(h:∀i x,laid[i]?∣x->∀y,Ed ks x y->y∈laid.take i){i:Nat}{x y:Str}(hi:laid[i]?∣x)(r:Rch ks x y):∃j,j<i/\laid[j]?∣y:=by
 have b:∀i y,y∈laid.take i->∃j,j<i/\laid[j]?∣y:=λi y d=>by
  have%[j|c]:=Xi d;have f:=(Xo c).1;rw[Yl]at f;exact%[j,⋯|by rwa[Yc ⋯]at c]
 refine r.closed (λy e=>b i y (h i x hi y e)) λa y ⟨j,m,c⟩ e=>?_
 have%[g,n|l]:=b j y (h j a c y e);exact%[g,⋯|l]
def ES{laid:ZB}(h:∀(i:Nat) x,laid[i]?∣x->∀y,Ed ks x y->y∈laid.take i){x:Str}(a:x∈laid): ¬ Rch ks x x:=by
 intro r;have%[i|hi]:=Xi a;have:∀n i:Nat,i<=n->laid[i]? ≠some x:=λn=>by
  induction n with
  | zero=>
    intro i hi e;have%[j,b|_]:=rH h e r
    lia
  | succ n c=>
    intro i hi e;have%[j,b|d]:=rH h e r;exact c j ⋯ d
 exact this i i (Zi _) hi
abbrev Wal:List ZB->Str->Str->Prop
 |[],a,b=>a=b
 | k::r,a,b=>∃c z,k=[a,c,z]/\Wal r c b
def Wal.app:∀{us vs:List ZB} {a:Str},Wal us a b->Wal vs b c->Wal (us++vs) a c
 |[],_,_,h,g=>h▸g
 | _::_,_,_,⟨d,z,e,h⟩,g=>%[d,z,e|h.app g]
abbrev Dst(ks:List ZB)(s:Str)(n:Nat)(x:Str):Prop:=∃us:List _,~~~us=n/\(∀k∈us,k∈ks)/\Wal us s x
def Dst.nil:Dst ks s 0 s:=%[[],rfl,λ_ h=>(nomatch h)|rfl]
def Dst.app(h:Dst ks s n x)(g:Dst ks x m y):Dst ks s (n+m) y:=by
 have%[us,f,a|b]:=h;have%[vs,i,c|d]:=g;exact%[us++vs,!2,λk e=>(Xp e).elim (a k) (c k)|b.app d]
def Ed.dst(e:Ed ks s x):Dst ks s 1 x:=by
 have%[z|e]:=e;exact%[[[s,x,z]],ρ,λk a=>(Xq a)▸e,x,z,ρ|ρ]
def Dst.last:∀{n:Nat} {s:Str},Dst ks s (n+1) x->∃y,Dst ks s n y/\Ed ks y x
 | n,s,⟨[],a,_,_⟩=>(nomatch a)
 | 0,s,⟨[k],_,b,c,z,e,h⟩=>%[s,.nil,z|by rw[<-h,<-e];exact b k Zm]
 | 0,s,⟨_::_::_,a,_,_⟩=>absurd a ∅
 | n+1,s,⟨k::r,a,b,c,z,e,h⟩=>by
   have%[y,d|f]:=Dst.last %[r,↑a,λk g=>b k (Zk _ g)|h];have:Ed ks s c:=%[z|e▸b k Zm]
   exact%[y,Nat.add_comm 1 n▸this.dst.app d|f]
def Rch.dst(h:Rch ks a b):∃n,Dst ks a (n+1) b:=by
 induction h with
 | one e=>exact%[0|e.dst]
 | more _ e c=>
   have%[n|h]:=c;exact%[n+1|h.app e.dst]
def Dst.rch:∀{n:Nat} {b:Str},Dst ks a (n+1) b->Rch ks a b
 | 0,b,h=>by
   have%[y,%[us,d,_|c]|e]:=h.last;rw[length_eq_zero_iff.mp d]at c;rw[c];exact .one e
 | n+1,b,h=>by
   have%[y,h|e]:=h.last;exact .more h.rch e
structure Lev (ks:List ZB) (st:Str) (rs:List (Str×Addr×ZB)) (d:Str->Nat) (k:Nat) (F:ZB):Prop where
 nd:(rs\1).Nodup
 by_:∀r∈rs,r.2.2∈ks/\∃p z,r.2.2=[p,r.1,z]/\((p=st/\d r.1=1)\/(p≠st/\p∈rs\1/\d r.1=d p+1))
 le:∀x∈rs\1,d x<=k
 edge:∀x,x∈F↔(k=0/\x=st)\/(1<=k/\x∈rs\1/\d x=k)
 all:∀n x,1<=n->n<=k->Dst ks st n x->x∈rs\1/\d x<=n
section
variable{ks:List ZB}{st:Str}{rs:List (Str×Addr×ZB)}{d:Str->Nat}{k:Nat}{F:ZB}
def Lev.nil:Lev ks st [] (λ_=>0) 0 [st]:=
 %[X4,λ_ h=>(nomatch h),λ_ h=>(nomatch h),λx=>by simp|λn x a b=>by lia]
def Lev.dst(h:Lev ks st rs d k F)(a:x∈rs\1):1<=d x/\Dst ks st (d x) x:=by
 have:∀m x,x∈rs\1->d x<=m->1<=d x/\Dst ks st (d x) x:=λm=>by
  induction m with
  | zero=>
    intro x a l;have%[r,b|rfl]:=Xr a;obtain⟨_,p,z,_,⟨_,e⟩|⟨_,_,e⟩⟩:=h.by_ r b<;> lia
  | succ m g=>
    intro x a l;have%[r,b|rfl]:=Xr a;have%[c,p,z,i|q]:=h.by_ r b;rw[i]at c;have f:Ed ks p r.1:=%[z|c]
    rcases q with⟨rfl,e⟩|⟨_,j,e⟩
    .rw[e];exact%[Zi _|f.dst]
    .exact e▸%[⋯|(g p j ⋯).2.app f.dst]
 exact this _ x a (Zi _)
def Lev.min(h:Lev ks st rs d k F)(a:x∈rs\1)(g:Dst ks st (n+1) x):d x<=n+1:=by
 by_cases c:n+1<=k
 .exact(h.all _ x ⋯ c g).2
 .have:=h.le x a
  lia
def Lev.stop(h:Lev ks st rs d k []):∀{n:Nat},Dst ks st (n+1) x->x∈rs\1:=by
 have k1:=Nat.pos_of_ne_zero λc=>(nomatch (h.edge st).mpr (.inl %[c|rfl]))
 have:∀n x,Dst ks st (n+1) x->x∈rs.map _:=λn=>by
  induction n with
  | zero=>exact λx g=>(h.all 1 x (Zi _) k1 g).1
  | succ n a=>
    intro x g;have%[y,b|e]:=g.last;have q:=a y b;have l:=h.le y q;have f:d y≠k:=λc=>(nomatch (h.edge y).mpr (.inr %[k1,q|c]))
    exact(h.all _ x ⋯ ⋯ ((h.dst q).2.app e.dst)).1
 exact λ{n}=>this n x
def Lev.step(h:Lev ks st rs d k F)(nd:((rs++new)\1).Nodup)(G:∀r∈new,r.2.2∈ks/\∃p z,p∈F/\r.2.2=[p,r.1,z])
 (v:∀x∈F,∀y,Ed ks x y->y∈(rs++new)\1):Lev ks st (rs++new) (λx=>if x∈new\1 then k+1 else d x) (k+1) (new\1):=by
 have o:=nd;rw[Zd,X2]at o;have f:∀{x},x∈rs\1->x∉new\1:=λ{x} a b=>o.2.2 x a x b rfl
 have mem:∀{x},x∈(rs++new)\1↔x∈rs\1\/x∈new\1:=λ{x}=>by rw[Zd,Yt]
 have w:∀x∈(rs++new)\1,(if x∈new\1 then k+1 else d x)<=k+1:=λx l=>by
  by_cases c:x∈new\1
  .rw[if_pos c];exact Zi _
  .rw[if_neg c];have:=h.le x ((mem.mp l).resolve_right c);lia
 refine%[nd,λr H=>?_,w,λx=>?_|λn x n1 N g=>?_]
 .rcases Xp H with q|q
  .have%[u,p,z,e|g]:=h.by_ r q;refine%[u,p,z,e|?_];rw[if_neg (f (Xs %[r,q|rfl]))];refine g.imp_right λ⟨a,b,c⟩=>%[a,mem.mpr (.inl b)|?_]
   rw[if_neg (f b)];exact c
  .have%[u,p,z,I|e]:=G r q;have A:r.1∈new\1:=Xs %[r,q|rfl];refine%[u,p,z,e|?_];rw[if_pos A];rcases(h.edge p).mp I with⟨rfl,rfl⟩|⟨k1,b,c⟩
   .exact .inl %[rfl|rfl]
   .refine .inr %[λps=>?_,mem.mpr (.inl b)|by rw[if_neg (f b),c]];have:Ed ks st r.1:=%[z|by rw[<-ps,<-e];exact u]
    exact f (h.all 1 _ (Zi _) k1 this.dst).1 A
 .refine%[λl=> .inr %[⋯,mem.mpr (.inr l)|if_pos l]|λl=>?_];rcases l with⟨a,_⟩|⟨_,a,b⟩
  .lia
  .refine(mem.mp a).resolve_left λc=>?_
   rw[if_neg (f c)]at b;have:=h.le x c
   lia
 .have i:∀{m},1<=m->m<=k->Dst ks st m x->x∈(rs++new).map _/\(if x∈new.map _ then k+1 else d x)<=m:=λa b g=>by
   have%[s|B]:=h.all _ x a b g;exact%[mem.mpr (.inl s)|by rw[if_neg (f s)];exact B]
  by_cases c:n<=k
  .exact i n1 c g
  .obtain rfl:n=k+1:=by lia
   have j:x∈(rs++new).map _->x∈(rs++new).map _/\(if x∈new.map _ then k+1 else d x)<=k+1:=λa=>%[a|w x a]
   have%[y,C|e]:=g.last;by_cases J:k=0
   .subst J;have%[us,L,_|E]:=C;rw[length_eq_zero_iff.mp L]at E;exact j (v y ((h.edge y).mpr (.inl %[rfl|(E).symm])) x e)
   .have%[s|B]:=h.all k y ⋯ (Zi _) C;by_cases M:d y=k
    .exact j (v y ((h.edge y).mpr (.inr %[⋯,s|M])) x e)
    .exact j (i ⋯ ⋯ ((h.dst s).2.app e.dst)).1
end
structure Sho (ks:List _) (a b:Str) (us:List _):Prop where
 sub:∀k∈us,k∈ks
 wal:Wal us a b
 pos:0< ~~~us
 min:∀n,Dst ks a (n+1) b-> ~~~us<=n+1
def Sho.dst(h:Sho ks a b us):∃n,~~~us=n+1/\Dst ks a (n+1) b:=
 %[~~~us-1,by have:=h.pos;lia,us,by have:=h.pos;lia,h.sub|h.wal]
def Sho.rch(h:Sho ks a b us):Rch ks a b:=by
 have%[n,_|d]:=h.dst;exact d.rch
def Hd{U:ZB}(h:∀x∈U,∃y∈U,Ed ks x y)(i:∀x,¬ Rch ks x x){x:Str}(j:x∈U):False:=by
 have:∀n,∃a p,~~~p=n/\(a::p).Nodup/\(∀y∈a::p,y∈U)/\∀y∈p,Rch ks y a:=λn=>by
  induction n with
  | zero=>exact%[x,[],ρ,by simp,↑j|λ_ h=>(nomatch h)]
  | succ n m=>
    have%[a,p,l,nd,d|r]:=m;have%[b,o|e]:=h a (d a Zm);have g:∀y∈a::p,Rch ks y b:=λy f=>by
     rcases mem_cons.mp f with rfl|q
     .exact .one e
     .exact .more (r y q) e
    refine%[b,a::p,!2,nodup_cons.mpr %[λc=>i b (g b c)|nd],λy f=>?_|g];rcases mem_cons.mp f with rfl|q
    .exact o
    .exact d y q
 have%[a,p,l,nd,d|_]:=this U.length;have:=_ST.nodup_sub nd d;rw[Zr]at this
 lia
abbrev Let(rows:ZB)(c:Nat):Prop:=c≠46/\∃r∈rows,c∈r.cps.toList
abbrev ET(rows:ZB)(a b:Nat):Prop:=a≠46/\a≠b/\∃(i j:Nat) (r c:Str),rows[i]?∣r/\rows[i+1]?∣c/\r.cps[j]?∣a/\c.cps[j]?∣b
def gM:c∈cR rows↔Let rows c:=by
 unfold cR Let;rw[List.mem_filter,uW,List.mem_flatten,decide_eq_true_eq]
 constructor
 .rintro⟨⟨l,e,b⟩,a⟩;have%[r,d|rfl]:=Xr e;exact%[a,r,d|b]
 .rintro⟨a,r,d,b⟩;exact%[%[_,Xs %[r,d|ρ]|b]|a]
def yC(h:sgn a=sgn b):a=b:=by
 have:(#[a]:Array Nat)= #[b]:=by injection h
 simpa using this
abbrev St(a:Bool)(c d:Int):Prop:=c<=d+(if a=true then 1 else 0)/\d<=c+(if a=true then 1 else 2)
abbrev sg(a s:Int):Nat:=if a<0 then 46 else 97+((a*5+s)%26).toNat
abbrev Iz(a:List ZL)(b:Int)(k:Nat):Str:=⟨(a.map λc=>sg (c.getD k 0) b).toArray⟩
abbrev drawn(a:List ZL)(hi:Nat)(b:Int):ZB:=(List.range hi).map (Iz a b)
abbrev there(b:List ZL):ZL:=((List.range 8).filter λa:Nat=>b.any λc=>decide ((a:Int)∈c)).map λa:Nat=>a
abbrev vD(rows:ZB):Prop:=∃m:List _,~~~m<=26/\∀a b,ET rows a b->[sgn a,sgn b]∈m
end _CU
namespace _KK
open PySem _LL _CU
nonrec abbrev ZqS:=Lean.Syntax
nonrec def zqn:Lean.Name->Array ZqS->ZqS:= .node .none
nonrec def zqa:String->ZqS:= .atom .none
nonrec def zqi(s:String):ZqS:=Lean.mkIdent s.toName
nonrec def zqh:ZqS:=zqn `Lean.Parser.Term.hole #[zqa "_"]
nonrec def zqf(k:Nat)(b:ZqS):ZqS:=zqn `Lean.Parser.Term.fun #[zqa "fun",zqn `Lean.Parser.Term.basicFun #[zqn `null (Array.replicate k zqh),zqn `null #[],zqa "=>",b]]
nonrec def zqd(c:Char):ZqS:=Lean.Syntax.mkNumLit (toString (c.toNat-48))
nonrec def zqe(a:Array ZqS)(x:String):ZqS:=if x="r"then zqi "rfl"else if x="n"then a[0]! else if x="h"then a.back! else if x="_"then zqh else if x="f"then zqf 2 (zqi "rfl") else if x="g"then zqf 1 (zqi "rfl") else if ~~~x>1 then zqi x else zqn `Lean.Parser.Term.namedArgument #[zqa "(",zqi x,zqa ":=",zqi x,zqa ")"]
nonrec def zqx(r:Array ZqS):ZqS:=if r[0]!.isAtom then(if r[0]!.getAtomVal=""then zqf 3 r[1]! else r[1]!)else if r.size<2 then r[0]! else zqn `Lean.Parser.Term.app #[r[0]!,zqn `null (r.extract 1 r.size)]
nonrec def zqp(s t:String):Nat:=(s.splitOn t).head!.length
nonrec def zqs(t:String)(a:Array ZqS)(l:List Char)(k:List (List String×Array ZqS)):List Char×List (List String×Array ZqS):=
 let f:=k.head!
 let k:=k.tail
 let x:=f.1.headD ""
 let w:=f.1.tail
 let c:=l.headD ' '
 if f.1.isEmpty then(l,(k.head!.1,k.head!.2.push (zqx f.2))::k.tail)
 else if x="#"then(l.tail,(w,f.2.push (zqd c))::k)
 else if x="L"then(l,(["*"],#[zqa ""])::(w,f.2)::k)
 else if x="*"then
  if c.isDigit then(l.tail,(["r"],#[zqi "af",zqd c])::(w,f.2)::k)
  else if c='?'then(l.drop 2,(w,f.2.push a[l[1]!.toNat-48]!)::k)
  else
   let p:=zqp "~]`" c.toString
   let q:=if p<3 then 1 else 0
   let s:=((t.splitOn "|")[(74+84*p)*q+zqp "ABCDEFGHIJKLMNOPQRSTUVWXYZabcdefghijklmnopqrstuvwxyz!$%&'()*+,./:;<=>^_|}[0123456789" l[q]!.toString]!).splitOn " "
   (l.drop (q+1),(s.tail,#[zqi s.head!])::(w,f.2)::k)
 else(l,(w,f.2.push (zqe a x))::k)
nonrec def zqt(t:String)(a:Array ZqS)(l:List Char):Nat->ZqS
 |n=>(n.fold (λ_ _ s=>if ~~~s.2=1&&s.2.head!.1.isEmpty then s else zqs t a s.1 s.2) (l,[(["*"],#[zqa "1"])])).2.head!.2[1]!
nonrec def zqm(s:Lean.StrLit)(a:Array Lean.Term):Lean.MacroM Lean.Term:=
 return⟨zqt "paE r * *|aq|aj * *|ar *|ay|aH * h r *|aJ # n r *|aL *|opE * * *|QSs.h *|aI # n r|a8 K r f * *|bh * r * *|gsE r * *|ifS * * *|aR|bK # r|bR PassesOwn.never r r * * *|cc K r *|cB K r f * *|cn *|a7 h f * *|cE|aI # * r|cx|cb|cm r *|bI|aC.of *|cC|cX * r r * L L L|eX K r g *|cbO * T.a8 PySem.boot_len r *|di K r|eC K r r r *|gi *|eBl|bB|iJ * r * *|wT *|dZ h r * * *|jC *|Z1|Z0|eW|bmO K plainAttrs_list PySem.F.slot_list_append PySem.F.type_list_append * r * *|fI|eY *|orW * *|eZ|nW|cbO * T.ac boot_isinstance r *|iQ K r|d7|qa *|kx r T.aj r *|tG * *|tF *|cbO * T.a7 boot_sorted r *|gZ|qb|uM|uK|af # r|uL # n r * * r *|tH * *|kz *|oI * T.o_Ground h r r *|gvE T.am r r|lP|zZ f * *|ctO * T.a5 boot_list r *|rD h|gvE T.an r r|gvE T.au r r|ctO * T.a6 boot_set r *|qV K r r T.ae r *|pjE * *|cO T|nZ K r|oG PassesOwn.never * *|bmO K plainAttrs_dict slot_dict_get type_dict_get * r * *|vt|kL h r * *|zR|dS T|Em K r *|En K r|x9|qT # n r * *|EA K r r * *|cbO * T.a0 PyProof.Rows.boot_min r *|dc T|df T|eJ T|ctO * T.ah boot_int r *|BN|bmO K plainAttrs_str slot_str_join type_str_join * r * *|wW K r|wU * * r * * *|cbO * T.aa boot_all r *|BM K r r|orV * *|BS K w r r r|bmO K plainAttrs_list slot_list_extend type_list_extend * r * *|n5|GK *|im T|GY K r r *|ik T|n8 # n r * * r * r r * L L L|GE *|GF r r r * *|d9 T|dO T|Hh K r plainAttrs_list PySem.F.slot_list_append PySem.F.type_list_append * r r r r * *|bmO K plainAttrs_dict slot_dict_setdefault PySem.F.type_dict_setdefault * r * *|ig|wV|ee T|yA *|gvE T.az r r|jk T|Fo r T.aj r r *|lz T|gvE T.ap r r|Fu r T.af r r *|bmO K plainAttrs_str PySem.F.slot_str_split PySem.F.type_str_split * r * *|yf|lA T|l8 T|Fz K r r T.af r r *|Iu K r * * *|Fp *|noO|rB P w r r r|Cf K P w r r r r h|gvE T.ax r r|gvE T.ay r r|Fw *|Fv|Il h r * *|bmO K plainAttrs_dict slot_dict_update PySem.F.type_dict_update * r * *|vC|Ix K r r r *|fF T|Cl r|HY K r plainAttrs_dict slot_dict_values PySem.F.type_dict_values * r r *|vo|sw T|je T|jd T|Fq|jf T|ye K r|lJ T|IH K r g *|fW T|gvE T.aA r r|jh T|mV T|FA * T.o_Ground h r *|vR T|Iq * *|uf T|GH|qT # * r * *|gvE T.ar r r|zY w r r|gvE T.aq r r|CI T|pi T|j4 T|gvE T.ao r r|Ik K r T.t_LAYER_WORDS r r|Ik K r T.t_YEAR_WORDS r r|AI T|AH T|CJ T|gvE T.av r r|pC T|gvE T.aw r r|vN T|AF T|Ac K r|xM T|uh T|vQ T|nh T|Af K r|FC|pD T|lI T|AD T|vT T|Ae r|AK T|GG|xP T|HZ r|xQ T|cbO * T.a1 PyProof.Rows.boot_max r *|GZ r|ni T|EE r|qw T|xS T|Cq r r T.a9 r T.a5 r *|v4 T|C1 T|j9 T|G0 K r r|bmO K plainAttrs_list PySem.F.slot_list_remove PySem.F.type_list_remove * r * *|Co|xB w r r|G7 w r|ut T|E7 T|no T|qz T|GW|xT T|Aa r|Ax r|AM T|Fh T|ifE * * *|dinE h r * *|Ip K r r T.a1 r r * *|mo T|Iy K r r T.a0 r r * *|gvE T.aB r r|mr T|ke T|Cy h|pY T|we T|wn T|pT T|qB T|Dd T|Fi T|lK T|kf T|ctO * T.al PyProof.Rows.boot_dict r *|EO K r r h|FB h|ur T" (a.map (·.raw)) s.getString.toList 9999⟩
nonrec abbrev ZM:=List V
nonrec abbrev ZN:=List (Addr×List V)
local macro_rules|`(%[$s:str,$x,*|$y])=>zqm s (x.getElems.push y)|`(%[$s:str|$y])=>zqm s #[y]
local macro_rules|`(tactic|lk)=>do
 let x<-("aU AY jB fG jG sM kg xX tB Dp tOr FN AW FR tIf tOp tUn tC FH FI tCB uB wJ xY Gd Ge wB tBM DP tSl Bn sU D0 rI rI0 rU Gu Gx rEq rNe BF BE BG DQ Gp Gh Gi Gj Ei HW yd yc wX ti Dw Iw A2 FV Fs Ft Ir Fy xZ x4 F9 Ga GI nO DU tz wM wN Bv Cm Cn G1 tZ G5 Cu vw rIn Gn tf x8 A6 A7 Ej Iv Hy Hz HA".splitOn " ").toArray.mapM λs=>`(Lean.Parser.Tactic.simpLemma|↓$(Lean.mkIdent s.toName):ident)
 let y<-("og DD zv F6 HB HC HD List.getElem?_cons_zero List.getElem?_cons_succ List.set_cons_zero List.set_cons_succ Option.some.injEq V.int.injEq V.str.injEq V.bl.injEq V.ref.injEq V.ty.injEq List.cons.injEq reduceCtorEq and_true true_and and_false false_and or_false false_or or_true true_or exists_false exists_eq_left' exists_eq_left exists_eq_right exists_eq_right' exists_and_left exists_and_right exists_eq cons_append nil_append Zx exists_const and_assoc Int.zero_add Bool.not_true Bool.not_false Y0 if_true if_false eq_self".splitOn " ").toArray.mapM λs=>`(Lean.Parser.Tactic.simpLemma|$(Lean.mkIdent s.toName):ident)
 `(tactic|simp only[$(x++y),*])
local macro_rules|`(!$n:ident)=>`(some (V.ref $n))
local macro_rules|`(-$n:ident)=>`(some (V.str $n))
local macro_rules|`(#[$n:num])=>`((show $n≤sizeLine by decide))|`(#[$x])=>`(paE rfl $x aq)|`(#[$x,$y,*])=>`(paE rfl $x #[$y,*])
local macro_rules|`(tactic|walk)=>`(tactic|refine⟨rfl,rfl,rfl,?_,rfl,?_,?_⟩<;>decide +kernel)
def zq0{P:List Value->Prop}(h:P []):∀u,~~~u=0->P u:=λu e=>by rw[List.length_eq_zero_iff.mp e];exact h
def zq1{n:Nat}{P:List Value->Prop}(h:∀a,∀u,~~~u=n->P (a::u)):∀u,~~~u=n+1->P u:=λu e=>by
 cases u with
 |nil=>cases e
 |cons a u=>exact h a u (Nat.succ.inj e)
local macro_rules|`(tactic|room)=>`(tactic|(intro _ _ _ _ _ _;(repeat(refine zq1 λ_=>?_));exact zq0 rfl))
set_option hygiene false in
local macro_rules|`(↑$n:num)=>`(af $n rfl)|`(↑($x,$y))=>`(show bA _ _ _ $x $y=true from rfl)|`(↑[$x,*])=>`(show([$x,*]:ZB).Nodup from by decide)
set_option hygiene false in
local macro_rules|`($a>>$b)=>`(a8 (K:=K) rfl (λ_ _=>rfl) $a $b)
abbrev top(i:Nat):Stmt:=PySem.Challenge.pw_digbook_k74_whole_bounds_or_a_clash.main.body.getD i (.Pass %[0,0,0|0])
noncomputable section
nonrec abbrev gN:Stmt:=top 1
def bu:ax ["ground","names","layer","word","one","other"] ["ground"] (ap gN):=by walk
nonrec abbrev iB:Stmt:=top 2
def dM:ax ["names","one","other","first","second"] ["names","one","other"] (ap iB):=by walk
nonrec abbrev fi:Stmt:=top 3
def ei:ax ["names","layer"] ["names","layer"] (ap fi):=by walk
nonrec abbrev oN:Stmt:=top 4
def fM:ax ["ground","names","groups","layer"] ["ground"] (ap oN):=by walk
nonrec abbrev kN:Stmt:=top 5
def qp:ax ["ground","layer"] ["ground","layer"] (ap kN):=by walk
nonrec abbrev iC:Stmt:=top 6
def lW:ax ["ground"] ["ground"] (ap iC):=by walk
nonrec abbrev yD:Stmt:=top 7
def vE:ax ["ground","names"] ["ground"] (ap yD):=by walk
nonrec abbrev gO:Stmt:=top 16
def kO:ax ["found"] ["found"] (ap gO):=by walk
nonrec abbrev fj:Stmt:=top 17
def jD:ax ["found"] ["found"] (ap fj):=by walk
nonrec abbrev rJ:Stmt:=top 18
def jZ:ax ["found","side","groups","link"] ["found","side"] (ap rJ):=by walk
nonrec abbrev iX:Stmt:=top 19
def bg:ax ["names","found","beneath","above","waits","name","ready","laid","least","link"] ["names","found"] (ap iX):=by walk
nonrec abbrev iY:Stmt:=top 20
def du:ax ["beneath","start","goal","reached","edge"] ["beneath","start","goal"] (ap iY):=by walk
nonrec abbrev mL:Stmt:=top 21
def eE:ax ["beneath","edge","reached","further","name","link"] ["beneath","edge","reached"] (ap mL):=by walk
nonrec abbrev vF:Stmt:=top 22
def rK:ax ["reached","start","goal","way"] ["reached","start","goal"] (ap vF):=by walk
nonrec abbrev jK:Stmt:=top 23
def cY:ax ["names","found","beneath","reach","name","link"] ["names","found"] (ap jK):=by walk
nonrec abbrev iD:Stmt:=top 25
def bP:ax ["names","found","beneath","shortest","name","way"] ["names","found"] (ap iD):=by walk
nonrec abbrev kP:Stmt:=top 26
def qq:ax ["names","found"] ["names","found"] (ap kP):=by walk
nonrec abbrev iZ:Stmt:=top 27
def d8:ax ["ground","found","torn_by"] ["ground"] (ap iZ):=by walk
nonrec abbrev yE:Stmt:=top 29
def vG:ax ["ground","one","other","beneath"] ["ground","one","other"] (ap yE):=by walk
nonrec abbrev i4:Stmt:=top 30
def iE:ax ["ground","found"] ["ground"] (ap i4):=by walk
nonrec abbrev rL:Stmt:=top 37
def xG:ax ["thing"] ["thing"] (ap rL):=by walk
nonrec abbrev rN:Stmt:=top 38
def ii:ax ["text","rows","number","row"] ["text"] (ap rN):=by walk
nonrec abbrev vH:Stmt:=top 39
def AB:ax ["row"] ["row"] (ap vH):=by walk
nonrec abbrev i5:Stmt:=top 40
def m8:ax ["row","above"] ["row","above"] (ap i5):=by walk
nonrec abbrev kQ:Stmt:=top 41
def qr:ax ["rows"] ["rows"] (ap kQ):=by walk
nonrec abbrev rO:Stmt:=top 42
def xH:ax ["text"] ["text"] (ap rO):=by walk
nonrec abbrev oO:Stmt:=top 43
def d0:ax ["text","rows","pairs","above","row"] ["text"] (ap oO):=by walk
nonrec abbrev fk:Stmt:=top 44
def jE:ax ["above","row"] ["above","row"] (ap fk):=by walk
nonrec abbrev kR:Stmt:=top 53
def dR:ax ["cuts","names","number","thing"] ["cuts"] (ap kR):=by walk
nonrec abbrev i6:Stmt:=top 54
def m9:ax ["thing"] ["thing"] (ap i6):=by walk
nonrec abbrev vJ:Stmt:=top 55
def AC:ax ["thing"] ["thing"] (ap vJ):=by walk
nonrec abbrev iF:Stmt:=top 56
def dN:ax ["sayings","layers","number","thing"] ["sayings","layers"] (ap iF):=by walk
nonrec abbrev mM:Stmt:=top 57
def t9:ax ["thing","layers"] ["thing","layers"] (ap mM):=by walk
nonrec abbrev iG:Stmt:=top 58
def lZ:ax ["thing","texts"] ["thing","texts"] (ap iG):=by walk
nonrec abbrev rP:Stmt:=top 59
def xI:ax ["thing"] ["thing"] (ap rP):=by walk
nonrec abbrev kS:Stmt:=top 60
def qt:ax ["name","letter"] ["name","letter"] (ap kS):=by walk
nonrec abbrev mN:Stmt:=top 61
def eF:ax ["cuts","layers","name","text"] ["cuts"] (ap mN):=by walk
nonrec abbrev i7:Stmt:=top 62
def bX:ax ["cuts","ties","name","text","upper","lower"] ["cuts"] (ap i7):=by walk
nonrec abbrev fN:Stmt:=top 63
def cG:ax ["sayings","ties","number","saying"] ["sayings"] (ap fN):=by walk
nonrec abbrev vK:Stmt:=top 68
def dw:ax ["ground","reach","sinces","bys","told","name","least","greatest"] ["ground"] (ap vK):=by walk
nonrec abbrev kT:Stmt:=top 69
def gu:ax ["ground","word","names","sayings"] ["ground","word"] (ap kT):=by walk
nonrec abbrev gP:Stmt:=top 70
def kU:ax ["sinces","reach","name"] ["sinces","reach","name"] (ap gP):=by walk
nonrec abbrev mO:Stmt:=top 71
def uc:ax ["bys","reach","name"] ["bys","reach","name"] (ap mO):=by walk
nonrec abbrev fO:Stmt:=top 72
def j3:ax ["reach","upper","lower"] ["reach","upper","lower"] (ap fO):=by walk
nonrec abbrev gQ:Stmt:=top 73
def bv:ax ["ground","reach","bys","pairs","number","name","year"] ["ground"] (ap gQ):=by walk
nonrec abbrev yF:Stmt:=top 74
def i8:ax ["ground","pairs","since","by","sayings"] ["ground"] (ap yF):=by walk
nonrec abbrev fo:Stmt:=top 75
def eA:ax ["ground","one","other","found"] ["ground","one","other"] (ap fo):=by walk
nonrec abbrev jL:Stmt:=top 77
def oP:ax ["_law_script","_law_k"] ["_law_script","_law_k"] (ap jL):=by walk
nonrec abbrev kW:Stmt:=top 78
def cQ:ax ["_law_cell","_law_k","_law_number","_law_found","_law_j"] ["_law_cell","_law_k"] (ap kW):=by walk
nonrec abbrev kX:Stmt:=top 79
def bO:ax ["_law_script","_law_k","_law_base","_law_many","_law_cell","_law_mixed_one","_law_digits_here","_law_turn"] ["_law_script","_law_k","_law_base","_law_many"] (ap kX):=by walk
nonrec abbrev kY:Stmt:=top 80
def qu:ax ["_law_rank","_law_way"] ["_law_rank","_law_way"] (ap kY):=by walk
nonrec abbrev rQ:Stmt:=top 81
def ci:ax ["_law_digits_here","_law_way","_law_wide","_law_high","_law_columns","_law_j","_law_air","_law_rank","_law_column","_law_k"] ["_law_digits_here","_law_way"] (ap rQ):=by walk
nonrec abbrev mP:Stmt:=top 82
def eG:ax ["_law_name","_law_way","_law_rows","_law_ranks_here","_law_rank","_law_letter_here"] ["_law_name","_law_way","_law_rows"] (ap mP):=by walk
nonrec abbrev oQ:Stmt:=top 83
def cZ:ax ["_law_script","_law_head","_law_cuts_here","_law_ranks_here","_law_k","_law_name","_law_rows"] ["_law_script"] (ap oQ):=by walk
nonrec abbrev rR:Stmt:=top 84
def xJ:ax ["_law_one","_law_other","_law_ranks_here"] ["_law_one","_law_other","_law_ranks_here"] (ap rR):=by walk
nonrec abbrev oR:Stmt:=top 85
def cD:ax ["_law_digits_here","_law_ranks_here","_law_torn","_law_wild","_law_names","_law_one","_law_other","_law_saying","_law_alike","_law_year"] ["_law_digits_here","_law_ranks_here","_law_torn","_law_wild"] (ap oR):=by walk
nonrec abbrev kZ:Stmt:=top 86
def cj:ax ["_law_script","_law_cuts_here","_law_ranks_here","_law_sayings","_law_torn","_law_wild","_law_k"] ["_law_script"] (ap kZ):=by walk
nonrec abbrev i9:Stmt:=top 87
def bY:ax ["_law_name","_law_text","_law_rows","_law_ties_here","_law_upper","_law_lower","_law_k"] ["_law_name","_law_text"] (ap i9):=by walk
nonrec abbrev oS:Stmt:=top 88
def c7:ax ["_law_cuts_here","_law_sayings","_law_ties_here","_law_name","_law_text","_law_number","_law_saying"] ["_law_cuts_here","_law_sayings"] (ap oS):=by walk
nonrec abbrev mQ:Stmt:=top 89
def bw:ax ["_law_cuts_here","_law_sayings","_law_homes_here","_law_name","_law_text","_law_sign","_law_pairs","_law_turn","_law_word","_law_one","_law_other","_law_least"] ["_law_cuts_here","_law_sayings"] (ap mQ):=by walk
nonrec abbrev mR:Stmt:=top 90
def dE:ax ["_law_cuts_here","_law_sayings","_law_homes_here","_law_laid","_law_one","_law_other","_law_source"] ["_law_cuts_here","_law_sayings","_law_homes_here"] (ap mR):=by walk
nonrec abbrev rS:Stmt:=top 91
def bC:ax ["_law_laid","_law_one","_law_steps","_law_later","_law_earlier","_law_source","_law_far_here","_law_row","_law_many","_law_ahead","_law_deposit","_law_other"] ["_law_laid","_law_one"] (ap rS):=by walk
nonrec abbrev jM:Stmt:=top 92
def fA:ax ["_law_laid","_law_homes_here","_law_beneath_here","_law_deposit"] ["_law_laid","_law_homes_here"] (ap jM):=by walk
nonrec abbrev ja:Stmt:=top 93
def ng:ax ["_law_beneath_here"] ["_law_beneath_here"] (ap ja):=by walk
nonrec abbrev jb:Stmt:=top 94
def bZ:ax ["_law_found","_law_laid","_law_one","_law_other","_law_here","_law_later","_law_earlier","_law_source"] ["_law_found","_law_laid","_law_one","_law_other"] (ap jb):=by walk
nonrec abbrev oU:Stmt:=top 95
def d5:ax ["_law_years_here","_law_sayings","_law_homes_here","_law_laid","_law_later","_law_earlier","_law_source","_law_saying"] ["_law_years_here","_law_sayings","_law_homes_here","_law_laid"] (ap oU):=by walk
nonrec abbrev fP:Stmt:=top 96
def bD:ax ["_law_told","_law_ends","_law_sayings","_law_homes_here","_law_laid","_law_since","_law_by","_law_saying","_law_least","_law_greatest"] ["_law_told","_law_ends","_law_sayings","_law_homes_here","_law_laid"] (ap fP):=by walk
nonrec abbrev mS:Stmt:=top 97
def db:ax ["_law_ground_here","_law_cuts_here","_law_sayings","_law_homes_here","_law_laid","_law_ends","_law_told","_law_at"] ["_law_ground_here","_law_cuts_here","_law_sayings"] (ap mS):=by walk
nonrec abbrev lc:Stmt:=top 98
def oV:ax ["_law_script","_law_cuts_here","_law_sayings","_law_ground_here","_law_beside"] ["_law_script"] (ap lc):=by walk
nonrec abbrev cf:Stmt:=ko (top 52) 0
def fB:ax ["self","cuts","sayings","layers"] ["self","cuts","sayings"] (ap cf):=by walk
nonrec abbrev qv:Stmt:=ko (top 52) 1
def CD:ax ["self"] ["self"] (ap qv):=by walk
nonrec abbrev cz:Stmt:=ko (top 52) 2
def lj:ax ["self"] ["self"] (ap cz):=by walk
nonrec abbrev cN:Stmt:=ko (top 52) 3
def l7:ax ["self"] ["self"] (ap cN):=by walk
nonrec abbrev dm:Stmt:=ko (top 52) 4
end
def oW:ax ["self"] ["self"] (ap dm):=by walk
inductive oX (K:ZA)
 | mk (a:Addr) (ns:ZL) (k:Int):vs=[.ref a,.int k]->SqL K H a (ns\4)->0<=k->Q (.int (ns.getD k.toNat 0)) H->oX K vs H Q E0
inductive rT
 | mk (c k:Int):vs=[.int c,.int k]->0<=k->k<=100->(∀v,Q (.int v) H)->rT vs H Q E0
inductive rV (K:ZA)
 | mk (a:Addr) (ns:ZL) (k b m:Int):vs=[.ref a,.int k,.int b,.int m]->SqL K H a (ns\4)->0<=k->k<=100->2<=b->b<=1000->0<=m->m<=100->(∀l H' (xs:ZL),ah H H'->H l=none->H' l<*xs\4-> ~~~xs=m.toNat->(∀x∈xs,0<=x/\x<b)->Q (.ref l) H')->rV K vs H Q E0
structure Txc (K:ZA) (mg:ZC):Prop where
 o_Ground:vg K mg "Ground"
 n_Ground_kept_cuts:f9 K (cU mg "Ground") "kept_cuts"
 n_Ground_kept_sayings:f9 K (cU mg "Ground") "kept_sayings"
 n_Ground_kept_layers:f9 K (cU mg "Ground") "kept_layers"
 n_Ground_kept_ties:f9 K (cU mg "Ground") "kept_ties"
 i_Ground:Ci K mg "Ground" "Ground.__init__" cf ["self","cuts","sayings"]
 m_Ground_sayings:vh K mg "Ground" "sayings" "Ground.sayings" cz ["self"]
 m_Ground_layers:vh K mg "Ground" "layers" "Ground.layers" cN ["self"]
 m_Ground_ties:vh K mg "Ground" "ties" "Ground.ties" dm ["self"]
 t_YEAR_WORDS:GvT K mg "YEAR_WORDS" [.str "since",.str "by"]
 t_LAYER_WORDS:GvT K mg "LAYER_WORDS" [.str "later",.str "same"]
structure Txt (K:ZA) (mg:ZC):Prop extends Txc K mg where
 a0:mg "min"=none
 a1:mg "max"=none
 a5:mg "list"=none
 a6:mg "set"=none
 a7:mg "sorted"=none
 a8:mg "len"=none
 a9:mg "reversed"=none
 aa:mg "all"=none
 ab:mg "str"=none
 ac:mg "isinstance"=none
 ae:mg "enumerate"=none
 af:mg "zip"=none
 ag:mg "tuple"=none
 ah:mg "int"=none
 ai:mg "bool"=none
 aj:mg "range"=none
 ak:mg "abs"=none
 al:mg "dict"=none
 am:Gv mg "LATER" (.int 0)
 an:Gv mg "EARLIER" (.int 1)
 ao:Gv mg "LONGEST_NAME" (.int 8)
 ap:Gv mg "LETTERS" (.str "abcdefghijklmnopqrstuvwxyz")
 aq:Gv mg "MOST_ROWS" (.int 40)
 ar:Gv mg "MOST_SIGNS" (.int 40)
 au:Gv mg "AIR" (.str ".")
 av:Gv mg "MOST_CUTS" (.int 8)
 aw:Gv mg "MOST_SAYINGS" (.int 60)
 ax:Gv mg "FIRST_YEAR" (.int (-9999))
 ay:Gv mg "LAST_YEAR" (.int 9999)
 az:Gv mg "YEAR" (.int 2)
 aA:Gv mg "DEPOSIT" (.int 1)
 aB:Gv mg "NUMBER" (.int 0)
 aC:aF K mg "names_by_layer" gN ["ground"]
 aD:aF K mg "join_deposits" iB ["names","one","other"]
 aE:aF K mg "least_pointed_to" fi ["names","layer"]
 aG:aF K mg "deposits" oN ["ground"]
 aH:aF K mg "deposit_of" kN ["ground","layer"]
 aI:aF K mg "deposit_names" iC ["ground"]
 aJ:aF K mg "links" yD ["ground"]
 aK:aF K mg "links_by_later" gO ["found"]
 aL:aF K mg "links_by_earlier" fj ["found"]
 aM:aF K mg "grouped" rJ ["found","side"]
 aN:aF K mg "laid_in_turn" iX ["names","found"]
 aO:aF K mg "shortest_way" iY ["beneath","start","goal"]
 aP:aF K mg "next_edge" mL ["beneath","edge","reached"]
 aQ:aF K mg "way_to" vF ["reached","start","goal"]
 aR:aF K mg "all_beneath" jK ["names","found"]
 aS:aF K mg "shortest_ring" iD ["names","found"]
 aT:aF K mg "never_laid" kP ["names","found"]
 aU:aF K mg "untorn_links" iZ ["ground"]
 aV:aF K mg "chain" yE ["ground","one","other"]
 aW:aF K mg "earlier_ones" i4 ["ground"]
 aX:aF K mg "is_name" rL ["thing"]
 aY:aF K mg "rows_of" rN ["text"]
 aZ:aF K mg "is_row" vH ["row"]
 b0:aF K mg "lies_beneath" i5 ["row","above"]
 b1:aF K mg "letters_in" kQ ["rows"]
 b2:aF K mg "letters" rO ["text"]
 b3:aF K mg "meetings" oO ["text"]
 b4:aF K mg "meetings_between" fk ["above","row"]
 b5:aF K mg "check_cuts" kR ["cuts"]
 b6:aF K mg "is_named_cut" i6 ["thing"]
 b7:aF K mg "is_cut" vJ ["thing"]
 b8:aF K mg "check_sayings" iF ["sayings","layers"]
 b9:aF K mg "is_saying" mM ["thing","layers"]
 ba:aF K mg "is_text_among" iG ["thing","texts"]
 bb:aF K mg "is_year" rP ["thing"]
 bc:aF K mg "layer_name" kS ["name","letter"]
 bd:aF K mg "layers_of" mN ["cuts"]
 be:aF K mg "ties_of_cuts" i7 ["cuts"]
 bf:aF K mg "ties_of_sayings" fN ["sayings"]
 bg:aF K mg "bounds" vK ["ground"]
 bh:aF K mg "years_said" kT ["ground","word"]
 bi:aF K mg "sinces_beneath" gP ["sinces","reach","name"]
 bj:aF K mg "bys_above" mO ["bys","reach","name"]
 bm:aF K mg "is_one_or_later" fO ["reach","upper","lower"]
 bn:aF K mg "clashing_pairs" gQ ["ground"]
 bo:aF K mg "clash" yF ["ground"]
 bp:aF K mg "chain_or_nothing" fo ["ground","one","other"]
 bq:aF K mg "_law_cell_at" jL ["_law_script","_law_k"]
 br:aF K mg "_law_spread" kW ["_law_cell","_law_k"]
 bt:aF K mg "_law_digits" kX ["_law_script","_law_k","_law_base","_law_many"]
 bu:aF K mg "_law_letter" kY ["_law_rank","_law_way"]
 bv:aF K mg "_law_cut" rQ ["_law_digits_here","_law_way"]
 bw:aF K mg "_law_ranks" mP ["_law_name","_law_way","_law_rows"]
 bx:aF K mg "_law_cuts" oQ ["_law_script"]
 bz:aF K mg "_law_tie" rR ["_law_one","_law_other","_law_ranks_here"]
 bA:aF K mg "_law_said" oR ["_law_digits_here","_law_ranks_here","_law_torn","_law_wild"]
 bB:aF K mg "_law_ground" kZ ["_law_script"]
 bC:aF K mg "_law_cut_ties" i9 ["_law_name","_law_text"]
 bD:aF K mg "_law_ties" oS ["_law_cuts_here","_law_sayings"]
 bE:aF K mg "_law_homes" mQ ["_law_cuts_here","_law_sayings"]
 bF:aF K mg "_law_links" mR ["_law_cuts_here","_law_sayings","_law_homes_here"]
 bG:aF K mg "_law_far" rS ["_law_laid","_law_one"]
 bH:aF K mg "_law_beneath" jM ["_law_laid","_law_homes_here"]
 bI:aF K mg "_law_has_ring" ja ["_law_beneath_here"]
 bJ:aF K mg "_law_is_chain" jb ["_law_found","_law_laid","_law_one","_law_other"]
 bK:aF K mg "_law_fits" oU ["_law_years_here","_law_sayings","_law_homes_here","_law_laid"]
 bL:aF K mg "_law_clash_right" fP ["_law_told","_law_ends","_law_sayings","_law_homes_here","_law_laid"]
 bM:aF K mg "_law_holds" mS ["_law_ground_here","_law_cuts_here","_law_sayings"]
section
variable{P:Program}{w:World}{K:ZA}{mg:ZC}{base:Heap}
def cA{n:Nat}(h:n<=5000):n<=sizeLine:=Yg h (!1)
def aD{n:Nat}(h:n<=5000):n<sizeLine:=Nat.lt_of_le_of_lt h (!1)
def ah.upd{H:Hp}{p:Addr}{o:HO}(h:H p=none):ah H (upd H p o):=λb u e=>by rw[ao (aw e h)];exact e
def ah.set{H a:Hp}{p:Addr}{o:HO}(c:ah H a)(h:H p=none):ah H (_LL.upd a p o):=λb u e=>by rw[ao (aw e h)];exact c b u e
def IA{b:Type}(xs:List b){i:Int}(d:0<=i)(e:i<(~~~xs:Int)):∃c,atI xs i∣c/\c∈xs:=by
 have%[j|rfl]:=Xk d;have a:j< ~~~xs:=by lia
 exact%[xs[j],b7 (by simp[a])|Yd a]
def oY(xs:ZL){i:Int}(b:0<=i)(d:i<(~~~xs:Int)):∃c,atI (xs\4) i∣V.int c/\c∈xs:=by
 have%[j|rfl]:=Xk b;have a:j< ~~~xs:=by lia
 exact%[xs[j],b7 (by simp[a])|Yd a]
def FD:(hJ.cps.toList.length:Int)=26:=!0
def dS(T:Txt K mg):Cal P w K mg base 1 "_law_cell_at" ["_law_script","_law_k"] (oX K):=by
 .exists T.bq,oP,g,m,%[a,c,k,rfl,d,i|q];refine%[_,%["JCOM~K1ghA0BDHT01PDHE"|0]|?_]
  show aU _ _ _ [!a,some (.int k)] H;lk;refine%[_,.inl %[_,d|ρ]|bJ (λb=>?_) λb=>?_]
  .have b:=Zo b;rw[Z6]at b;refine%[_,d,.int (c.getD k.toNat 0),?_|q];have%[j|rfl]:=Xk i;have l:j< ~~~c:=by lia
   exact b7 (by simp[l])
  .have b: ¬ k<(~~~(c\4):Int):=↑b
   rw[Z6]at b;have e:c.getD k.toNat 0=0:=by
    rw[Zc,Xn ⋯];rfl
   rw[e]at q;exact q
def uf(T:Txt K mg):Cal P w K mg base 1 "_law_spread" ["_law_cell","_law_k"] rT:=by
 .exists T.br,cQ,j,B,%[c,k,rfl,C,G|q];refine%[_,%["JCG2IbIbIY0EIxE1ECG3ECR&AEBK4CG2IYIbIbIbIbIx22IxIbIxIx444E2IxE14EEDG3IbIx3EIYI^2EEDH3"|cQ.nd]|?_]
  show aU _ _ _ [some (.int c),some (.int k),none,none,none] H;refine am λI k1 _=>?_
  lk;refine%[!1,.inl %[!1|!1]|k1 _ _ (am λJ k2 _=>?_)];have d:0<=c%2147483647+977*k+5/\c%2147483647+977*k+5<2^40:=by lia -verbose
  generalize c%2147483647+977*k+5=n at d
  lk;refine k2 _ _ (am λL l _=>az λe p=>?_);lk;refine%[!1,!1|p _ _ (cP (λi a b=>∃(n v:Int) (o:Option V),a=[some (.int c),some (.int k),some (.int n),some (.int v),o]/\b=H/\0<=n/\n<2^40) %[_,_,_,ρ,ρ|d] ?_ ?_)]
  .intro i a b hi %[n,v,o,rfl,rfl,r|n1];show aU _ _ _ [some (.int c),some (.int k),some (.int n),some (.int v),some (.int (0+i))] _;rw[Int.zero_add];refine am λM u _=>?_
   lk;refine%[.inl %[(by lia -verbose)|(by lia -verbose)],.inl %[(by lia -verbose)|(by lia -verbose)],.inr %[(by lia -verbose)|(by lia -verbose)],.inr %[(by lia -verbose)|(by lia -verbose)],.inl %[!1|!1],!1|u _ _ (aB λN y _=>?_)];have g:=Int.emod_nonneg (n*n+(i*i*i+7)*n+104729*k+i+1) (by decide:(2147483629:Int)≠0);have z:=Int.emod_lt_of_pos (n*n+(i*i*i+7)*n+104729*k+i+1) (by decide:(0:Int)<2147483629)
   generalize (n*n+((i:Int)*i*i+7)*n+104729*k+i+1)%2147483629=m at g z
   lk;exact%[.inr %[!1|!1],%[!1|!1],!1|y _ _ %[m,_,_,ρ,ρ,g|(by lia -verbose)]]
  .intro a b %[n,v,o,rfl,rfl,r|n1];refine l _ _ ?_;lk;exact q v
def ik(T:Txt K mg):Cal P w K mg base 2 "_law_digits" ["_law_script","_law_k","_law_base","_law_many"] (rV K):=by
 .exists T.bt,bO,U,u,%[a,n,k,b,m,rfl,I,J,k1,b2,b1,m0,m1|q];refine%[_,%["JCG4F~LA0A1BCG5F]GA4A1BCOMZIYF~LA0AEBEEDG4EPCG6UBCR&A3BK7DOM+4ECatl6AIY42BDG4I^42Catl6AIY52BDG5I^52DH6",bO.nd|u]|?_]
  show aU _ _ _ [!a,some (.int k),some (.int b),some (.int m),none,none,none,none] H;refine am λD1 k1 _=>?_
  lk;refine%[a,n,k,ρ,I,J|k1 _ _ (am λD2 k2 _=>?_)]
  generalize n.getD k.toNat 0=c
  lk;refine%[_,_,ρ,J,⋯|λv=>k2 _ _ (am λY k3 _=>?_)];lk;refine%[a,n,0,ρ,I,!1,_,ρ,!1|?_]
  suffices L:∀M:Int,Y.nx [!a,some (.int k),some (.int b),some (.int m),some (.int M),some (.int v),none,none] H from bJ (λ_=>L 0) λ_=>L c
  intro M;refine k3 _ _ (am λD4 k4 _=>?_);lk;refine%[Xh _|λl z=>k4 _ _ (am λD5 k5 _=>az λN hK=>?_)];lk;refine%[⋯,⋯|hK _ _ (cP (λi B j=>∃(c v:Int) (o:Option V) (xs:ZL),B=[!a,some (.int k),some (.int b),some (.int m),some (.int c),some (.int v),!l,o]/\ah H j/\j l<*xs\4/\ ~~~xs=i/\∀x∈xs,0<=x/\x<b) %[_,_,_,[],ρ,ah.upd z,aa,ρ|λ_ h=>nomatch h] ?_ ?_)]
  .intro i B j hi %[c,v,o,xs,rfl,C,e,r|g];have put:∀v:Int,ah H (upd j l (.lst (xs\4++[.int (v%b)])))/\∃d:ZL,upd j l (.lst (xs\4++[.int (v%b)])) l<*d\4/\ ~~~d=i+1/\∀x∈d,0<=x/\x<b:=λv=>
    ⟨ah.set C z,xs++[v%b],by rw[aa,Zd];rfl,by rw[Z9,r];rfl,λy hy=>by
     rcases Xp hy with q|q
     .exact g y q
     .rw[Xq q];exact%[Int.emod_nonneg _ ⋯|Int.emod_lt_of_pos _ ⋯]⟩
   have len: ~~~(xs\4)<sizeLine:=by rw[Z6,r];exact aD ⋯
   show jB _ _ _ _ [!a,some (.int k),some (.int b),some (.int m),some (.int c),some (.int v),!l,some (.int (0+i))] j;refine aB λD6 O _=>?_
   lk;refine bJ (λ_=>?_) λ_=>?_
   .have%[G,d|p]:=put c;exact%[tyL (SqL.of e),⋯,_,e,len,%[⋯|⋯]|O _ _ %[_,_,_,d,ρ,G|p]]
   .have%[G,d|p]:=put v;exact%[tyL (SqL.of e),⋯,_,e,len,%[⋯|⋯]|O _ _ %[_,_,_,d,ρ,G|p]]
  .intro B j %[c,v,o,xs,rfl,C,e,r|g];refine k5 _ _ ?_;lk;exact q l j xs C z e r g
abbrev mlt(w:Int):Int:=if w%4=0 then 1 else if w%4=1 then 25 else if w%4=2 then 7 else 5
abbrev ltr(r w:Int):Nat:=97+((r*mlt w+w)%26).toNat
def EU(r w:Int):e7 (ltr r w)=true:=by
 have all:∀i:Fin 26,e7 (97+i.1)=true:=!0
 exact all %[((r*mlt w+w)%26).toNat|by omega]
def ug(r w:Int):ltr r w≠46:=by unfold ltr;omega
abbrev EV(w:Int)(hi:Nat)(c:List Nat):Prop:= ~~~c=hi/\∃a:Nat,∀(k x:Nat),c[k]?∣x->(k<a->x=46)/\(a<=k->∃r:Int,0<=r/\r<16/\x=ltr r w)
abbrev oZ(a:List (List Nat))(k:Nat):Str:=⟨(a.map λc=>c.getD k 46).toArray⟩
abbrev bE(a:List (List Nat))(hi:Nat):ZB:=(List.range hi).map (oZ a)
def eO{a:List (List Nat)}{hi k:Nat}{z:Str}(h:(bE a hi)[k]?∣z):k<hi/\z=oZ a k:=by
 unfold bE at h;rw[Zl]at h;by_cases b:k<hi
 .rw[List.getElem?_range b]at h;exact%[b|(Za h).symm]
 simp_all
def lq{a:List (List Nat)}{k j c:Nat}(h:(oZ a k).cps[j]?∣c):∃b,a[j]?∣b/\c=b.getD k 46:=by
 have h:(a.map λc=>c.getD k 46)[j]?∣c:=by simpa [oZ]using h
 rw[Zl]at h;cases e:a[j]? with
 | none=>simp_all
 | some b=>rw[e]at h;exact%[b,ρ|(Za h).symm]
def lv{a:List Nat}{hi k:Nat}(b: ~~~a=hi)(c:k<hi):a[k]?∣a.getD k 46:=!2
structure fQ (w:Int) (cols:List (List Nat)) (hi:Nat):Prop where
 h1:1<=hi
 h5:hi<=5
 w1:1<= ~~~cols
 w4: ~~~cols<=4
 ok:∀c∈cols,EV w hi c
 fst:∃col,cols[0]?∣col/\∃r:Int,0<=r/\r<16/\col[hi-1]?∣ltr r w
section
variable{w:Int}{cols:List (List Nat)}{hi:Nat}
def fQ.let_(d:fQ w cols hi){k j c:Nat}(e:k<hi)(h:(oZ cols k).cps[j]?∣c):c=46\/∃r:Int,0<=r/\r<16/\c=ltr r w:=by
 have%[a,f|rfl]:=lq h;have%[g,b|i]:=d.ok a (Z8 f);have:=i k _ (lv g e);by_cases c:k<b
 .exact .inl (this.1 c)
 .exact .inr (this.2 (by omega))
def fQ.cut(d:fQ w cols hi):cK (bE cols hi):=by
 have len: ~~~(bE cols hi)=hi:=by unfold bE;rw[Z6,Yj]
 have b:∀z∈bE cols hi,∃k,k<hi/\z=oZ cols k:=λz f=>by
  have%[k|e]:=Xi f;exact%[k|eO e]
 have C:=d.h1;have E:=d.h5;have G:=d.w4;refine%[by omega,by omega,%[~~~cols,d.w1,by omega|λz f=>?_],λz f=>?_,λi r H s u j c I v y m=>?_|?_]
 .have%[k,_|rfl]:=b z f;simp[oZ]
 .have%[k,h|rfl]:=b z f;rw[all_eq_true];intro c n;have%[j|A]:=Xi n;rcases d.let_ h (j:=j) ↑A with rfl|⟨r,_,_,rfl⟩
  .decide +kernel
  .unfold okc;rw[EU,Bool.or_true]
 .have%[hi1|rfl]:=eO s;have%[hi2|rfl]:=eO u;have%[a,l|rfl]:=lq v;have%[p,g|rfl]:=lq y;rw[l]at g;cases g;have%[q,o|h]:=d.ok a (Z8 l);by_cases B:i+1<o
  .exact(h i _ (lv q hi1)).1 (by omega)
  .have%[r,_,_|e]:=(h _ _ (lv q hi2)).2 (by omega);exact absurd (e.symm.trans m) (ug r w)
 .have%[a,l,r,_,_|e]:=d.fst;refine%[oZ cols (hi-1),Xs %[hi-1,by rw[mem_range];omega|ρ],ltr r w,Xs %[a,Z8 l|?_]|ug r w];rw[Zc,e];rfl
def fQ.few(d:fQ w cols hi):vD (bE cols hi):=by
 refine%[(List.range 4).flatMap λi=>(List.range 4).map λj=>[sgn ((cols.getD j []).getD i 46),sgn ((cols.getD j []).getD (i+1) 46)],by simp[List.length_flatMap,Xa]|?_];intro a b %[_,_,i,j,r,p,g,h,m|n];have%[hi1|rfl]:=eO g;have%[hi2|rfl]:=eO h;have%[o,e|rfl]:=lq m;have%[f,c|rfl]:=lq n;rw[e]at c;cases c;have q:=d.h5;have s:=d.w4;have:=(Xo e).1;refine mem_flatMap.mpr %[i,mem_range.mpr (by omega)|Xs %[j,mem_range.mpr (by omega)|?_]];rw[Zc (l:=cols),e];rfl
def fQ.lets(d:fQ w cols hi){c:Nat}(h:Let (bE cols hi) c):∃r:Int,0<=r/\r<16/\c=ltr r w:=by
 have%[a,r,f|b]:=h;have%[k|e]:=Xi f;have%[g|rfl]:=eO e;have%[j|i]:=Xi b;exact(d.let_ g (j:=j) ↑i).resolve_left a
def fQ.ex(d:fQ w cols hi):∃r:Int,0<=r/\r<16/\Let (bE cols hi) (ltr r w):=by
 have%[r,b,c,e|f]:=d.cut.some';have l:Let (bE cols hi) c:=%[f,r,b|e]
 have%[a,g,h|rfl]:=d.lets l;exact%[a,g,h|l]
end
inductive rW
 | mk (r w:Int):vs=[.int r,.int w]->0<=r->r<=100->0<=w->w<=100->(∀H',ah H H'->Q (.str (sgn (ltr r w))) H')->rW vs H Q E0
def CF(a:0<=i)(c:i<26):atI hJ.cps.toList i∣(97+i.toNat):=by
 have%[j|rfl]:=Xk a;have b:j<26:=by omega
 have all:∀j:Fin 26,hJ.cps.toList[j.1]?∣(97+j.1):=!0
 exact b7 (all %[j|b])
def m4(w:Int):w%4=0\/w%4=1\/w%4=2\/w%4=3:=by
 have a:=Int.emod_nonneg w (show(4:Int)≠0 by decide)
 have b:=Int.emod_lt_of_pos w (show(0:Int)<4 by decide)
 generalize w%4=x at a b ⊢
 lia
def lz(T:Txt K mg):Cal P w K mg base 1 "_law_letter" ["_law_rank","_law_way"] rW:=by
 .exists T.bu,qu,b,g,%[r,w,rfl,i,j,l,m|c];refine%[_,%["JDH_WIYIbIx0TUAEAEAEAEBIY1E1E"|0]|?_];show fG _ _ [some (.int r),some (.int w)] H;lk;refine%[#[4]|λp d=>%[!1,_,SqL.of aa,.int (mlt w),?_,_,ρ,.inr ?_,!1,#[26],_,CF (by omega) (by omega)|c _ (ah.upd d)]]
  all_goals
   unfold mlt;rcases(m4 w)with e|e|e|e<;> rw[e]<;> first|rfl|decide
inductive CG (K:ZA)
 | mk (a:Addr) (xs:ZL) (w:Int):vs=[.ref a,.int w]->SqL K H a (xs\4)-> ~~~xs=30->(∀x∈xs,0<=x/\x<6)->0<=w->w<=100->(∀l H' (cols:List (List Nat)) (hi:Nat),ah H H'->H l=none->H' l<*(bE cols hi)\3->fQ w cols hi->Q (.ref l) H')->CG K vs H Q E0
abbrev IB(H:Hp)(cs:List (Addr×List Nat)):Prop:=∀p∈cs,H p.1∣.lst (p.2.map λx=>V.str (sgn x))
def EV.put{w:Int}{a i:Nat}{c:List Nat}(h:∀(k x:Nat),c[k]?∣x->(k<a->x=46)/\(a<=k->∃r:Int,0<=r/\r<16/\x=ltr r w))(g: ~~~c=i)(j:a<=i){r:Int}(b:0<=r)(d:r<16)(k x:Nat)(e:(c++[ltr r w])[k]?∣x):(k<a->x=46)/\(a<=k->∃r:Int,0<=r/\r<16/\x=ltr r w):=by
 by_cases f:k< ~~~c
 .rw[Ya f]at e;exact h k x e
 .have:k= ~~~c:=by
   have:=(Xo e).1;simp at this
   lia
  subst this;rw[Yb ⋯,sub_self]at e;cases e;exact%[λz=>by lia|λ_=>%[r,b,d|ρ]]
def yG:∀n:Nat,(List.replicate n [V.str (!".")]).flatten=(List.replicate n 46).map λx=>V.str (sgn x)
 | 0=>rfl
 | n+1=>by rw[replicate_succ,List.flatten_cons,yG n,replicate_succ,Yq];rfl
def AD(T:Txt K mg):Cal P w K mg base 2 "_law_cut" ["_law_digits_here","_law_way"] (CG K):=by
 .exists T.bv,ci,bb,hr,%[a,xs,w,rfl,hs,hx,hb,w0,w1|kk];have get:∀i:Int,0<=i->i<30->∃c,atI (xs\4) i∣V.int c/\0<=c/\c<6:=λi h0 h1=>by
   have%[c,e|hm]:=oY xs h0 (by lia -verbose);exact%[c,e|hb c hm]
  have%[c0,g0,l0|u0]:=get 0 (!1) (!1);have%[c1,g1,l1|u1]:=get 1 (!1) (!1);refine%[_,%["JCG2IbEIYT0EECG3IbEIYT0EEC:4qrUBCR&A2BK5CG6IYT0IbE5Ib3~V~WAm+5EBCG7IYT0IbE5ECG8I]HUAWB6CR~xA6A3BK9Catl8AF~yA7A1BBDG7Ib7IYT0IbIbEIxE59EDatlQ4A8BDHec?1&A3B]I0?2qry~X~YWAec?3SQ1X0?4yT0Q1B",ci.nd,↑(["_law_k","_law_columns"],[(1,4)]),↑["_law_k","_law_columns"],↑(["_law_column","_law_k"],[(1,0)]),↑["_law_column","_law_k"]|hr]|?_]
  show aU _ _ _ [!a,some (.int w),none,none,none,none,none,none,none,none] H;refine am λD1 k1 _=>?_
  lk;refine%[_,hs,_,g0,c0,ρ,!1|k1 _ _ (am λD2 k2 _=>?_)];lk;refine%[_,hs,_,g1,c1,ρ,!1|k2 _ _ (am λD3 k3 _=>?_)];obtain⟨N,ew,bc,be⟩:∃N:Nat,1+c0%4=N/\1<=N/\N<=4:=%[(1+c0%4).toNat,(by lia -verbose),(by lia -verbose)|(by lia -verbose)]
  obtain⟨hi,eh,hi1,a6⟩:∃hi:Nat,1+c1%5=hi/\1<=hi/\hi<=5:=%[(1+c1%5).toNat,(by lia -verbose),(by lia -verbose)|(by lia -verbose)]
  rw[ew,eh];clear ew eh;lk;refine%[Xh _|λL hL=>k3 _ _ (am λD4 k4 _=>az λv hK=>?_)];lk;refine%[(by lia -verbose),(by lia -verbose)|hK _ _ (cP (λi g l=>∃(o5 o6 o7 o8 o9:Option V) (cs:List (Addr×List Nat)),g=[!a,some (.int w),some (.int N),some (.int hi),!L,o5,o6,o7,o8,o9]/\ah H l/\l L∣.lst (cs\0)/\ ~~~cs=i/\IB l cs/\(∀p∈cs,p.1≠L/\EV w hi p.2)/\
   ∀p:Addr×List Nat,cs[0]?∣p->∃r:Int,0<=r/\r<16/\p.2[hi-1]?∣ltr r w)
   %[_,_,_,_,_,[],ρ,ah.upd hL,aa,ρ,(λ_ h=>nomatch h),(λ_ h=>nomatch h)|λ_ h=>nomatch h] ?_ ?_)]
  .intro j g l m %[o5,o6,o7,o8,o9,cs,rfl,sm,y,ac,ae,B|ag];show aU _ _ _ [!a,some (.int w),some (.int N),some (.int hi),!L,some (.int (0+j)),o6,o7,o8,o9] l;rw[Int.zero_add];have%[c2,g2,l2|u2]:=get (2+j) (by lia -verbose) (by lia -verbose);have%[c6,g6,l6|u6]:=get (6+j) (by lia -verbose) (by lia -verbose);refine am λD5 k5 _=>?_
   lk;obtain⟨m,ej,bf,bl⟩:∃m:Nat,(hi+if decide (0<(j:Int))=true then 1 else 0:Int)=m/\(j=0->m=hi)/\hi<=m:=by
    by_cases c:0<(j:Int)
    .exact%[hi+1,by rw[if_pos (Zf c)];rfl,λe=>by lia -verbose|(by lia -verbose)]
    .exact%[hi,by rw[if_neg ↑c];simp,λ_=>rfl|Zi _]
   have bm:m<=hi+1:=by split at ej<;> lia -verbose
   rw[ej];clear ej;refine%[_,sm.seq hs,_,g2,c2,ρ,(by lia -verbose)|k5 _ _ (am λD6 k6 _=>?_)];obtain⟨d,ea,al⟩:∃d:Nat,c2%(m:Int)=d/\d<m:=%[(c2%(m:Int)).toNat,by have:=Int.emod_nonneg c2 (b:=m) (by lia -verbose);lia -verbose|by have:=Int.emod_lt_of_pos c2 (b:=m) (by lia -verbose);have:=Int.emod_nonneg c2 (b:=m) (by lia -verbose);lia -verbose]
   rw[ea];clear ea;lk;refine%[_,sm.seq hs,_,g6,c6,ρ,!1|k6 _ _ (am λD7 k7 _=>?_)];lk;refine%[#[1]|λp hp=>%[_,aa,(by lia -verbose),(by lia -verbose),by rw[Yk];exact Ye (aD (by lia -verbose))|λC hC=>k7 _ _ (am λD8 k8 _=>az λv hK=>?_)]];have s1:=(ah.upd (o:= .lst [V.str (!".")]) hp).trans (ah.upd (o:= .lst (List.replicate (d:Int).toNat [V.str (!".")]).flatten) hC);have fC:=(ah.upd (o:= .lst [V.str (!".")]) hp).free hC;have a0:upd (upd l p (.lst [V.str (!".")])) C (.lst (List.replicate (d:Int).toNat [V.str (!".")]).flatten) C∣.lst ((List.replicate d 46).map λx=>V.str (sgn x)):=by
    rw[aa,Int.toNat_natCast,yG]
   generalize upd (upd l p (.lst [V.str (!".")])) C (.lst (List.replicate (d:Int).toNat [V.str (!".")]).flatten)=H1 at s1 a0
   have a1:C≠L:=λe=>by rw[e,y]at fC;cases fC
   lk;refine%[(by lia -verbose),(by lia -verbose),(by lia -verbose),(by lia -verbose)|hK _ _ (cP (λi g I=>∃(r:Int) (o9:Option V) (c:List Nat),g=[!a,some (.int w),some (.int N),some (.int hi),!L,some (.int j),some (.int d),some (.int r),!C,o9]/\ah l I/\I C∣.lst (c.map λx=>V.str (sgn x))/\ ~~~c=d+i/\0<=r/\r<=3+2*i/\(∀(k x:Nat),c[k]?∣x->(k<d->x=46)/\(d<=k->∃r:Int,0<=r/\r<16/\x=ltr r w)))
    %[_,_,_,ρ,s1,a0,by simp,(by lia -verbose),(by lia -verbose)|λk x e=>?_] ?_ ?_)]
   .have:=List.getElem?_replicate (a:=46) (n:=d) (i:=k);rw[e]at this
    split at this
    .cases this;exact%[λ_=>rfl|λz=>by lia -verbose]
    .cases this
   .intro i g I hi2 %[r,o9,c,rfl,u,O,cl,r0,r1|U];show aU _ _ _ [!a,some (.int w),some (.int N),some (.int hi),!L,some (.int j),some (.int d),some (.int r),!C,some (.int (d+i))] I;refine am λD9 k9 _=>?_
    lk;have%[cd,gd,ld|ud]:=get (10+5*j+(d+i)) (by lia -verbose) (by lia -verbose);refine%[tyL (SqL.of O),r,w,ρ,r0,(by lia -verbose),w0,w1|λH3 s3=>%[_,s3 _ _ O,by rw[Z6,cl];exact aD (by lia -verbose)|k9 _ _ (aB λbn ba _=>?_)]];have Y:ah l (upd H3 C (.lst ((c.map λx=>V.str (sgn x)) ++[V.str (sgn (ltr r w))]))):=ah.set (u.trans s3) fC;lk;exact%[.inl %[!1|!1],_,(sm.trans Y).seq hs,_,gd,cd,ρ,!1|ba _ _ %[_,_,c++[ltr r w],ρ,Y,by rw[aa,Zd];rfl,by rw[Z9,cl];rfl,(by lia -verbose),(by lia -verbose)|EV.put U cl (by lia -verbose) r0 (by lia -verbose)]]
   .intro g I %[r,o9,c,rfl,u,O,cl,r0,r1|U];refine k8 _ _ (aB λD9 k9 _=>?_);lk;have bt: ~~~c=max d hi:=by lia -verbose
    refine%[tyL (SqL.of (u _ _ y)),_,u _ _ y,by rw[Z6,ac];exact aD (by lia -verbose)|k9 _ _ %[_,_,_,_,_,cs++[(C,c)],ρ,ah.set (sm.trans u) hL,by rw[aa,Zd];rfl,by rw[Z9,ac];rfl,λq M=>?_,λq M=>?_|λq M=>?_]]
    .rcases Xp M with z|z
     .rw[ao (B q z).1];exact u _ _ (ae q z)
     .rw[Xq z,ao a1];exact O
    .rcases Xp M with z|z
     .exact B q z
     .rw[Xq z];exact%[a1,by show ~~~c=hi;lia -verbose,d|U]
    .by_cases j0:j=0
     .obtain rfl:cs=[]:=length_eq_zero_iff.mp (by lia -verbose);cases M;have:=U (hi-1) (c[hi-1]'(by lia -verbose)) (Z4 (by lia -verbose));have%[r,a,b|e]:=this.2 (by lia -verbose);exact%[r,a,b|by rw[Z4 (by lia -verbose:hi-1< ~~~c),e]]
     .rw[Ya (by lia -verbose)]at M;exact ag q M
  .intro g l %[o5,o6,o7,o8,o9,cs,rfl,sm,y,ac,ae,B|ag];refine k4 _ _ ?_;lk;refine aG λv hK=>?_
   lk;have a2: ~~~cs=N:=by lia -verbose
   refine%[(by lia -verbose),(by lia -verbose)|hK _ _ λF hF=>?_];refine c9 (J:=Itr 0 hi) (n:=hi) (D:=F) (λq ts g I=>(∃o,g=[o,!L])/\ah l I/\I F<*ts/\ts=((List.range q).map (oZ (cs\2)))\3)
    %[%[none|rfl],ah.upd hF,aa|rfl] (λq _ _ l M _=>M) (λ_ _ l _=>Zi _) ?_ ?_
   .intro q ts g I M %[%[o|rfl],u,ai|ht] x H3 %[e2|e3];subst e2 e3;lk;refine aG λv hK=>?_
    lk;have ab:=u _ _ y;refine%[%[_|SqL.of ab]|hK _ _ λG hG=>?_];refine c9 (J:=Itl K L) (n:=N) (D:=G) (λr zs g H4=>(∃o,g=[o,some (.int q)])/\ah H3 H4/\H4 G<*zs/\zs=(((cs.take r).map λp=>p.2.getD q 46).map sgn)\3)
     %[%[none|rfl],ah.upd hG,aa|rfl]
     (λr _ _ H4 a3 ak=>%[_,V.ref (cs[r]'(by lia -verbose)).1,SqL.of (ak.2.1 _ _ ab)|by simp[show r< ~~~cs by lia -verbose]]) (λ_ _ H4 ak=>%[_,SqL.of (ak.2.1 _ _ ab)|by simp[a2]]) ?_ ?_
    .intro r zs g H4 a3 %[%[o|rfl],Y,an|hz] x H5 %[e2|hx];subst e2;have as:r< ~~~cs:=by lia -verbose
     have a4:=hx _ (SqL.of (Y _ _ ab));rw[Zl,Z4 as]at a4;obtain rfl:x=V.ref cs[r].1:=(Za a4).symm;have hm:=Yd as;lk;refine%[_,SqL.of (Y _ _ (u _ _ (ae _ hm))),V.str (sgn (cs[r].2.getD q 46)),?_|CK.mk a3 an (by rw[hz,Z6,Z6,Z6,Yl];exact aD (by lia -verbose)) %[%[_|ρ],ah.set Y hG,aa|?_]]
     .refine b7 ?_;rw[Zl,lv (B _ hm).2.1 (by lia -verbose)];rfl
     .rw[hz,Xc,Zd,Zd,Zd,Z4 as];rfl
    intro zs g H4 %[_,Y,an|hz];rw[Zn (by lia -verbose)]at hz;lk;refine%[(cs.map λp=>p.2.getD q 46).map sgn,by rw[<-hz];exact SqL.of an,?_|CK.mk M (Y _ _ ai) (by rw[ht,Z6,Z6,Yj];exact aD (by lia -verbose)) %[%[_|ρ],ah.set (u.trans Y) hF,aa|?_]]
    .rw[yh,Z6,Z6,show(!"").length=0 from rfl]
     lia -verbose
    .rw[ht,Xa,Zd,Zd,show Txt.join (!"") ((cs.map λp=>p.2.getD q 46).map sgn)=Str.join (!"") ((cs.map λp=>p.2.getD q 46).map sgn)from StrLaws.glued_eq_join _ _,xh];have e:oZ (cs\2) q=⟨(cs.map λp=>p.2.getD q 46).toArray⟩:=by
      unfold oZ;rw[Ys];rfl
     rw[<-e];rfl
   .intro ts g I %[_,u,ai|ht];have a5:0< ~~~cs:=by lia -verbose
    refine kk F I (cs\2) hi (sm.trans u) (sm.free hF) (by rw[ai,ht];rfl) %[hi1,a6,by rw[Z6];lia -verbose,by rw[Z6];lia -verbose,λc hc=>?_,cs[0].2,by rw[Zl,Z4 a5];rfl|ag _ (Z4 a5)];have%[p,hp|rfl]:=Xr hc;exact(B p hp).2
inductive rX
 | mk (z:Str):vs=[.str z]-> ~~~z<=1000->(∀H',ah H H'->Q (.bl (tN z)) H')->rX vs H Q E0
inductive pc
 | mk (row above:Str):vs=[.str row,.str above]-> ~~~row<=1000-> ~~~above<=1000->(∀H',ah H H'->Q (.bl (e8 row above)) H')->pc vs H Q E0
inductive jN (K:ZA)
 | mk (a rows):vs=[.ref a]->SqL K H a (rows\3)->(rows.map (·.length)).sum<=3000->(∀r∈rows,r.cps.toList.all okc=true)->(∀l H' ss,ah H H'->H l=none->H' l<*ss\3->ss.Perm (aQ ((cR rows).map sgn))->PyProof.Rows.sortedS ss=true->Q (.ref l) H')->jN K vs H Q E0
inductive pd
 | mk (rows:ZB):vs=[.str (Str.join nl rows)]->cK rows->(∀l H',ah H H'->H l=none->H' l<*rows\3->Q (.ref l) H')->pd vs H Q E0
def ju(z:Str)(i:Nat)(c:Nat)(h:z.cps[i]?∣c):(z.cps.toList.take i++[c])=z.cps.toList.take (i+1):=by
 have h':z.cps.toList[i]?∣c:=↑h
 have%[a|e]:=Xo h';rw[List.take_succ_eq_append_getElem a,e]
def CH(c d:Nat):((⟨([c].toArray)⟩:Str)=⟨([d].toArray)⟩)↔c=d:=by
 simp
def pf(c:Nat):((⟨([c].toArray)⟩)=!".")↔c=46:=CH c 46
def CI(T:Txt K mg):Cal P w K mg base 1 "is_row" ["row"] rX:=by
 .exists T.aZ,AB,y,N,%[z,rfl,O|k];refine%[_,%["JDH'~Z,,EghA0B]J(~a~bAec?1~M0X0?2y~cmZ0~A(m~N0~zB",0,↑(["sign"],[])|↑["sign"]]|?_];show fG _ _ [-z] H;lk;refine%[cA ⋯|bJ (λl=>bJ (λm=>?_) λm=>?_) λl=>?_]
  .refine aG λu B=>?_
   lk;refine B _ _ λD v=>?_
   refine c9 (J:=Its z) (n:=z.cps.size) (D:=D) (λi ys d a=>(∃o,d=[o])/\ah H a/\a D<*ys/\ys=(z.cps.toList.take i).map (λc=>V.bl (okc c))) %[%[none|rfl],ah.upd v,aa|rfl]
    (λi _ _ _ hi _=>hi) (λ_ _ _ _=>Zi _) ?_ ?_
   .intro i ys d a hi %[%[o|rfl],p,q|g] x C %[G,c,I|rfl];subst G;have j: ~~~ys=i:=by
     rw[g,Z6,Yl];have: ~~~z.cps.toList=z.cps.size:=by simp
     lia
    have L:i<1000:=by
     have: ~~~z=z.cps.size:=rfl
     lia
    have put:∀b:Bool,b=okc c->CK D z.cps.size i (λi ys d a=>(∃o,d=[o])/\ah H a/\a D<*ys/\ys=(z.cps.toList.take i).map (λc=>V.bl (okc c))) ys [some (.str ⟨([c].toArray)⟩)] (.bl b) C:=λb M=>
     CK.mk hi q (j▸aD ⋯) %[%[_|rfl],ah.set p v,aa|by rw[M,g,<-ju z i c I,Zd];rfl]
    lk;refine bJ (λr=>put true ?_) λr=>put _ ?_
    .have:=(pf c).mp (Zo r);unfold okc;rw[Zf this,Bool.true_or]
    .have: ¬ c=46:=λe=>(λe=>r (Zf e)) ((pf c).mpr e)
     unfold okc;rw[Zh this,Bool.false_or,tD];rfl
   .intro ys d a %[_,p,q|g];lk;refine%[z.cps.toList.map okc,?_|?_]
    .have e:z.cps.toList.take z.cps.size=z.cps.toList:=by
      apply Zn;simp
     rw[e]at g;have:(z.cps.toList.map okc).map V.bl=ys:=by rw[g,Ys];rfl
     rw[this];exact SqL.of q
    .have e:tN z=(z.cps.toList.map okc).all id:=by
      unfold tN;rw[l,m,all_map]
      all_goals rfl
     exact e▸k a p
  .rw[Bool.not_eq_true]at m;have e:tN z=false:=by unfold tN;rw[m,Bool.and_false,Bool.false_and]
   rw[e]at k;exact k H (ah.refl H)
  .rw[Bool.not_eq_true]at l;have e:tN z=false:=by unfold tN;rw[l,Bool.false_and,Bool.false_and]
   rw[e]at k;exact k H (ah.refl H)
abbrev mT(p:Nat×Nat):Bool:=!decide (p.2=46)||decide (p.1=46)
def ph(x y:Str)(i c d:Nat)(b:x.cps[i]?∣c)(f:y.cps[i]?∣d):((List.zip x.cps.toList y.cps.toList).take i++[(c,d)])=(List.zip x.cps.toList y.cps.toList).take (i+1):=by
 have h:(List.zip x.cps.toList y.cps.toList)[i]?∣(c,d):=List.getElem?_zip_eq_some.mpr %[↑b|↑f];have%[a|e]:=Xo h;rw[List.take_succ_eq_append_getElem a,e]
def pi(T:Txt K mg):Cal P w K mg base 1 "lies_beneath" ["row","above"] pc:=by
 .exists T.b0,m8,I,hr,%[row,a,rfl,L,M|k];refine%[_,%["JCOMughA0BghA1BDHkPDH~a~bAec?1~!A1A0BiNX0?2NX1?2dy~cmu1~A(mZ0~AB",0,↑(["high","low"],[])|↑["high","low"]]|?_]
  show aU _ _ _ [-row,-a] H;refine am λD1 k1 N=>?_
  lk;refine%[cA ⋯,cA ⋯|bJ (λj=>?_) λj=>?_]
  .have j: ¬ ((~~~row:Int)= ~~~a):=↑j
   have e:e8 row a=false:=by
    unfold e8;rw[Zh ⋯,Bool.false_and]
   rw[e]at k;exact N _ _ (k H (ah.refl H))
  .have j: ~~~row= ~~~a:=by
    have:(~~~row:Int)= ~~~a:=↑j
    lia
   refine k1 _ _ ?_;have u:row.cps.size=a.cps.size:=j;have v: ~~~(List.zip a.cps.toList row.cps.toList)=a.cps.size:=by rw[length_zip];simp[u]
   lk;refine aG λB O=>?_
   lk;refine O _ _ λD C=>?_
   refine c9 (J:=Itz a row) (n:=a.cps.size) (D:=D) (λi ys l g=>(∃q r,l=[q,r])/\ah H g/\g D<*ys/\ys=((List.zip a.cps.toList row.cps.toList).take i).map (λp=>V.bl (mT p))) %[%[none,none|rfl],ah.upd C,aa|rfl]
    (λi _ _ _ hi _=>%[hi|⋯]) (λ_ _ _ _=>%[Zi _,⋯|.inl rfl]) ?_ ?_
   .intro i ys l g hi %[%[q,r|rfl],y,z|m] x H2 %[c,d,TT,U,Y,G,rfl|rfl];have o: ~~~ys=i:=by rw[m,Z6,Yl,v];lia
    have ab:i<1000:=by
     have: ~~~a=a.cps.size:=rfl
     lia
    have put:∀b:Bool,b=mT (c,d)->CK D a.cps.size i (λi ys l g=>(∃q r,l=[q,r])/\ah H g/\g D<*ys/\ys=((List.zip a.cps.toList row.cps.toList).take i).map (λp=>V.bl (mT p))) ys [some (.str ⟨([c].toArray)⟩),some (.str ⟨([d].toArray)⟩)] (.bl b) (upd g TT (.tup [.str ⟨([c].toArray)⟩,.str ⟨([d].toArray)⟩])):=λb eb=>
     CK.mk hi (ah.upd G _ _ z) (o▸aD ⋯) %[%[_,_|rfl],ah.set (y.trans (ah.upd G)) C,aa|by rw[eb,m,<-ph a row i c d U Y,Zd];rfl]
    lk;refine%[_,SqT.of aa,ρ,_,_,ρ,_,_,ρ,ρ,ρ|?_];simp only[V.str.injEq,pf];refine bJ (λh=>put true ?_) λh=>%[⟨⟩|put _ ?_]
    .unfold mT;rw[h,Bool.true_or]
    .unfold mT;rw[Bool.not_eq_true]at h;rw[h,Bool.false_or]
   .intro ys l g %[_,y,z|m];lk;refine%[(List.zip a.cps.toList row.cps.toList).map mT,?_|?_]
    .have e:(List.zip a.cps.toList row.cps.toList).take a.cps.size=List.zip a.cps.toList row.cps.toList:=Zn ⋯;rw[e]at m;have:((List.zip a.cps.toList row.cps.toList).map mT).map V.bl=ys:=by rw[m,Ys];rfl
     rw[this];exact SqL.of z
    .have e:e8 row a=((List.zip a.cps.toList row.cps.toList).map mT).all id:=by
      unfold e8;rw[Zf j,all_map,Bool.true_and];rfl
     exact e▸k g y
def AE(h:(rows.map (·.length)).sum<=3000):(Str.join (!"") rows).length<=3000:=by
 have:=StrLaws.join_length_le (!"") rows;rw[show(!"").length=0 from rfl]at this
 lia
def lA(T:Txt K mg):Cal P w K mg base 1 "letters_in" ["rows"] (jN K):=by
 .exists T.b1,qr,N,hr,%[a,rows,rfl,O,g,v|k];refine%[_,%["JDH)]KA~B~dAec?1~M~X~YWA0BX0?2vMu0~A0BB",0,↑(["sign"],[])|↑["sign"]]|?_];show fG _ _ [!a] H;lk;refine aG λG U=>?_
  lk;refine%[rows,O,by rw[show(!"").length=0 from rfl];lia|?_];rw[show Txt.join (!"") rows=Str.join (!"") rows from StrLaws.glued_eq_join _ _];have j:=AE g;have b:=jo v;unfold cR at b k
  generalize Str.join (!"") rows=z at j b k ⊢
  refine U _ _ λD I=>?_
  refine c9 (J:=Its z) (n:=z.cps.size) (D:=D) (λi ys y m=>(∃o,y=[o])/\ah H m/\m D<*ys/\ys=((z.cps.toList.take i).filter (λc=>decide (c≠46))).map (λc=>V.str (sgn c))) %[%[none|rfl],ah.upd I,aa|rfl]
   (λi _ _ _ hi _=>hi) (λ_ _ _ _=>Zi _) ?_ ?_
  .intro i ys y m hi %[%[o|rfl],r,u|d] x H2 %[Y,c,L|rfl];subst Y;have M: ~~~ys<=i:=by
    rw[d,Z6];have:=Yi (λc=>decide (c≠46)) (z.cps.toList.take i);rw[Yl]at this
    lia
   have ab:i<3000:=by
    have: ~~~z=z.cps.size:=rfl
    lia
   lk;simp only[pf];refine bJ (λB=>?_) λB=>?_
   .refine CK.mk hi u (aD ⋯) %[%[_|rfl],ah.set r I,aa|?_];rw[<-ju z i c L,Y3,Zd,d];have:decide (c≠46)=true:=↑B
    rw[Y4,this];rfl
   .refine CN.mk hi %[%[_|rfl],r,u|?_];rw[<-ju z i c L,Y3,Zd,d];have:decide (c≠46)=false:=↑B
    rw[Y4,this];simp
  .intro ys y m %[_,r,u|d];have e:z.cps.toList.take z.cps.size=z.cps.toList:=by
    apply Zn;simp
   rw[e]at d;lk;have ac:=Yi (λc=>decide (c≠46)) z.cps.toList;have ae: ~~~z.cps.toList= ~~~z:=by simp[Str.length]
   refine%[(z.cps.toList.filter (λc=>decide (c≠46))).map sgn,?_,by rw[Z6];lia|λS hS=>%[_,aa,?_|λl ss p hp C=>?_]]
   .rw[Ys];have:(z.cps.toList.filter (λc=>decide (c≠46))).map (V.str ∘ sgn)=ys:=by rw[d];rfl
    rw[this];exact SqL.of u
   .have:=jU b
    lia
   .have q:ah H (upd m S (jT w S (aQ ((z.cps.toList.filter (λc=>decide (c≠46))).map sgn)))):=r.trans (ah.upd hS);exact k l _ ss (q.trans (ah.upd p)) (q.free p) aa hp C
def l8(T:Txt K mg):Cal P w K mg base 2 "rows_of" ["text"] pd:=by
 .exists T.aY,ii,al,N,%[rows,rfl,a|k];have%[wd,w1,w2|hw]:=a.wide;have O:=a.text;have u:=a.split;refine%[_,%["JCOpfz!A0A?1BD*PCG1~$~%0AWBCR~CA1BiNK2NK3dCOnwMZ2]L%pfF]MA3BD*PDOn;M+2E<pfF]NA3AT1I~O2EBD*PCOMZghAF~&A1BBED*PDH1",ii.nd,(blE (v:= .ty "str") rfl T.ab boot_str rfl rfl rfl)|N]|?_]
  generalize Str.join nl rows=z at O u
  show aU _ _ _ [-z,none,none,none] H;refine am λD1 k1 _=>?_
  lk;refine%[.type "str",.str z,true,by rfl|p9 (k1 _ _ (am λD2 k2 _=>?_))];lk;refine%[!1,Yg (by lia: ~~~z+2<=5000) (!1)|λl hl=>k2 _ _ ?_];rw[show(!"\n")=nl from rfl,u];refine am λD3 k3 _=>az λag hK=>?_
  lk;have U:ah H (upd H l (.lst (rows\3))):=ah.upd hl;refine%[_,SqL.of aa|hK _ _ (iS (λi L g=>∃Y o3,L=[-z,!l,Y,o3]/\ah H g/\g l<*rows\3) %[none,none,ρ,U|aa] (λi L g _ ⟨_,_,_,_,q⟩=>SqL.of q) ?_ ?_)]
  .intro i x TT L g y %[Y,o3,rfl,sm|j] hT;obtain⟨r,m,rfl⟩:∃r,rows[i]?∣r/\x=V.str r:=by
    rw[Zl]at y;cases e:rows[i]? with
    | none=>rw[e]at y;cases y
    | some r=>rw[e]at y;exact%[r,ρ|(Za y).symm]
   have ai:i< ~~~rows:=(Xo m).1;have ak:=a.high;have B:ah H (upd g TT (.tup [.int i,.str r])):=sm.trans (ah.upd hT);have o:upd g TT (.tup [.int i,.str r]) l<*rows\3:=ah.upd hT _ _ j;have C:upd g TT (.tup [.int i,.str r]) TT&&&[.int i,.str r]:=aa
   generalize upd g TT (.tup [.int i,.str r])=HT at B o C
   have G: ~~~r<=1000:=by
    have: ~~~r=wd:=hw r (Z8 m)
    lia
   refine%[_,SqT.of C,ρ,_,_,ρ,_,_,ρ,ρ|?_];show aU _ _ _ [-z,!l,some (.int i),-r] HT;refine am λD4 k4 _=>?_
   have go:∀p,ah HT p->D4.nx [-z,!l,some (.int i),-r] p:=by
    intro p b;refine k4 _ _ (aB λD5 k5 _=>?_);have I:∀M,ah HT M->D5.nx [-z,!l,some (.int i),-r] M:=λM n=>k5 _ _ %[_,_,rfl,B.trans n|n l _ o]
    lk;refine bJ (λJ=>?_) λ_=>I _ b
    have J:0<(i:Int):=Zo J;obtain⟨d,rfl⟩:∃d,i=d+1:=%[i-1|⋯]
    have ab:d< ~~~rows:=by lia
    have ac:rows[d]?∣rows[d]:=by simp
    have e1:(((d+1:Nat):Int) -1)=(d:Int):=by lia
    refine%[_,SqL.of (b l _ o),.str rows[d],e1▸b7 ∅,r,rows[d],ρ,G,?_|λM n=>%[_,ρ|?_]]
    .have:rows[d].length=wd:=hw _ (Yd ab)
     lia
    .rw[a.beneath ac m];exact p9 (I _ (b.trans n))
   lk;rw[if_neg ⋯];refine%[r,ρ,G|λp b=>%[_,ρ|?_]];rw[a.row (Z8 m)];exact p9 (go p b)
  .intro L g %[Y,o3,rfl,sm|j];refine k3 _ _ ?_;lk;refine%[l,rows,ρ,SqL.of j,by have:=a.sum;lia,a.sign|λl2 p ss b an ae J as=>%[_,.inl %[_,SqL.of ae|ρ]|?_]];rw[if_neg]
   .exact k l p (sm.trans b) hl (b l _ j)
   .intro h0;have h0:=Zo h0;rw[Z6]at h0;have:ss=[]:=length_eq_zero_iff.mp ⋯;rw[this]at J;have hm:=J.symm.eq_nil;have%[c|hc]:=List.exists_mem_of_ne_nil _ a.signs_ne;have:sgn c∈aQ ((cR rows).map sgn):=bd.mpr (Xs %[c,hc|rfl]);rw[hm]at this;cases this
abbrev fS(p:Nat×Nat):Option ZB:=if p.1≠46/\p.1≠p.2 then some [sgn p.1,sgn p.2]else none
abbrev pj(u r:Str):List ZB:=(List.zip u.cps.toList r.cps.toList).filterMap fS
def d6(H:Hp):aK H []:=λp a=>by cases a
def aE(h:aK H ps)(s:∀b z,H b&&&z->c b&&&z):aK c ps:=λp a=>%[(h p a).1|s _ _ (h p a).2]
def eP(h:aK H ps)(a:q.2≠[])(b:H q.1&&&q.2\3):aK H (ps++[q]):=λp c=>by
 rcases Xp c with z|z
 .exact h p z
 .rw[Xq z];exact%[a|b]
def pq(a:aK H ps)(b:aK H qs):aK H (ps++qs):=λp c=>(Xp c).elim (a p) (b p)
inductive FE
 | mk (u r:Str):vs=[.str u,.str r]-> ~~~u<=40-> ~~~r= ~~~u->(∀l H' ps,ah H H'->H l=none->H' l∣.lst (ps\0)->aK H' ps->ps\2=pj u r->Q (.ref l) H')->FE vs H Q E0
inductive yH
 | mk (rows:ZB):vs=[.str (Str.join nl rows)]->cK rows->(∀l H' ss,ah H H'->H l=none->H' l<*ss\3->ss.Perm (aQ ((cR rows).map sgn))->PyProof.Rows.sortedS ss=true->Q (.ref l) H')->yH vs H Q E0
def AF(T:Txt K mg):Cal P w K mg base 3 "letters" ["text"] yH:=by
 .exists T.b2,xH,d,b,%[rows,rfl,a|e];refine%[_,%["JDHF~&AF~'A0BB",0|b],rows,ρ,a|λl r c u g=>%[l,rows,ρ,SqL.of g,by have:=a.sum;lia,a.sign|λi j ss m n o p q=>e i j ss (c.trans m) (c.free n) o p q]]
def j4(T:Txt K mg):Cal P w K mg base 1 "meetings_between" ["above","row"] FE:=by
 .exists T.b4,jE,ac,hr,%[u,r,rfl,hu,ae|kk];have ag: ~~~u=u.cps.size:=rfl;have ai: ~~~r=r.cps.size:=rfl;refine%[_,%["JDHec?1~!A0A1BiNX0?2NX1?2dvn;Mu0~A<Mu01jA0A1B",0,↑(["high","low"],[])|↑["high","low"]]|?_];show fG _ _ [-u,-r] H;lk;refine aG λab hK=>?_
  lk;refine hK _ _ λD O=>?_
  refine c9 (J:=Itz u r) (n:=u.cps.size) (D:=D) (λi ys U l=>(∃o1 o2,U=[o1,o2])/\ah H l/\l D<*ys/\ ~~~ys<=i/\∃ps:ZG,ys=ps\0/\aK l ps/\ps\2=((List.zip u.cps.toList r.cps.toList).take i).filterMap fS)
   %[%[none,none|rfl],ah.upd O,aa,Zi _,[],rfl,d6 _|rfl] (λi _ _ _ hi _=>%[hi|⋯]) (λ_ _ _ _=>%[Zi _,⋯|.inl rfl]) ?_ ?_
  .intro i ys U l hi %[%[o1,o2|rfl],Y,hl,I,ps,L,m|j] x H2 %[c,d,TT,hc,hd,hT,rfl|rfl];have v:=ah.upd (o:= .tup [.str ⟨([c].toArray)⟩,.str ⟨([d].toArray)⟩]) hT;have nx:=ph u r i c d hc hd;have a:=v _ _ hl;have C:upd l TT (.tup [.str ⟨([c].toArray)⟩,.str ⟨([d].toArray)⟩]) TT&&&[.str ⟨([c].toArray)⟩,.str ⟨([d].toArray)⟩]:=aa;have g:aK (upd l TT (.tup [.str ⟨([c].toArray)⟩,.str ⟨([d].toArray)⟩])) ps:=λp G=>%[(m p G).1|v _ _ (m p G).2]
   have y:=Y.trans v
   generalize upd l TT (.tup [.str ⟨([c].toArray)⟩,.str ⟨([d].toArray)⟩])=HT at v a C g y
   refine%[_,SqT.of C,ρ,_,_,ρ,_,_,ρ,ρ|?_];show Dp _ _ [some (.str ⟨([c].toArray)⟩),some (.str ⟨([d].toArray)⟩)] HT _;lk;simp only[pf,CH];have ak:D≠TT:=λe=>by rw[e,C]at a;cases a
   refine bJ (λM=>bJ (λN=>?_) λN=>?_) λM=>?_
   .have M:c≠46:=↑M
    have N:c≠d:=↑N
    refine%[show 2<=sizeLine from !1|λp G=>?_];have B:=ah.upd (o:= .tup [V.str ⟨([c].toArray)⟩,V.str ⟨([d].toArray)⟩]) G;have al:p≠D:=λe=>by rw[e,a]at G;cases G
    refine CK.mk hi (B _ _ a) (aD ⋯) %[%[_,_|rfl],ah.set (y.trans B) O,aa,by rw[Z9,Yk];lia,ps++[(p,[sgn c,sgn d])],by rw[L,Zd];rfl,?_|?_]
    .have keep:∀b z,upd HT p _ b&&&z->upd _ D (.lst (ys++[V.ref p])) b&&&z:=λb z e=>by
      have:b≠D:=λe2=>by rw[e2,B _ _ a]at e;cases e
      rw[ao this];exact e
     exact aE (eP (aE g λb z e=>B _ _ e) ∅ (by rw[aa];rfl)) keep
    .rw[Zd,j,<-nx,Y1];have:fS (c,d)∣[sgn c,sgn d]:=if_pos %[M|N];rw[Y2,this];rfl
   .refine CN.mk hi %[%[_,_|rfl],y,a,⋯,ps,L,g|?_];rw[j,<-nx,Y1];have:fS (c,d)=none:=if_neg λq=>q.2 ↑N
    rw[Y2,this];simp
   .refine CN.mk hi %[%[_,_|rfl],y,a,⋯,ps,L,g|?_];rw[j,<-nx,Y1];have:fS (c,d)=none:=if_neg λq=>q.1 ↑M
    rw[Y2,this];simp
  .intro ys U l %[_,Y,hl,I,ps,L,m|j];rw[Zn (by rw[length_zip];simp;lia)]at j;exact kk D l ps Y O (by rw[hl,L]) m j
def vL{K:ZA}{xs ys:ZM}{g:TG}{q:TS}{D:lL}(Pv:Nat->St->Hp->Prop)(s:Pv 0 c H)(u: ~~~ys<= ~~~xs)(z:∀i c H,i<= ~~~ys->Pv i c H->SqL K H a xs/\SqL K H b ys)
 (A:∀i x y T c H,xs[i]?∣x->ys[i]?∣y->Pv i c H->H T=none->g (.ref T) c (upd H T (.tup [x,y])) λd j=>q {D with nx:=Pv (i+1),ct:=Pv (i+1),bk:=D.nx} d j) (B:∀c H,Pv ys.length c H->D.nx c H):
 ∃W:Nat->Nat->St->Hp->Prop,(∃m,W 0 m c H)/\∀i m c H,W i m c H->
  ((z8 K a b).stop i H/\D.nx c H)\/((z8 K a b).go i H/\∃N:St->Hp->Prop,(∀f h,N f h->∃r,r<m/\W (i+1) r f h)/\∀x h,(z8 K a b).yld i H x h->g x c h λd j=>q {D with nx:=N,ct:=N,bk:=D.nx} d j):=by
 refine%[λi m c H=>m= ~~~ys-i/\i<= ~~~ys/\Pv i c H,%[~~~ys,by simp,Xh _|s]|?_];intro i m c H %[rfl,hi|p];have%[l|n]:=z i c H hi p;by_cases o:i< ~~~ys
 .have C:xs[i]?∣xs[i]:=by simp[show i< ~~~xs by lia]
  have E:ys[i]?∣ys[i]:=by simp
  refine .inr %[%[xs,ys,_,_,l,n,C|E],Pv _,λf h G=>%[~~~ys-(i+1),⋯,rfl,o|G]|λv h y=>?_];have%[T,I,J,L,rfl,rfl,M|O]:=y;exact A i I J T c H (M xs l) (O ys n) p L
 .have e:i= ~~~ys:=by lia
  subst e;exact .inl %[%[xs,ys,l,n,⋯,Zi _|.inr rfl]|B c H p]
abbrev bM(rows:ZB)(i:Nat):List ZB:=(List.range i).flatMap λj=>pj (rows.getD j ⟨([].toArray)⟩) (rows.getD (j+1) ⟨([].toArray)⟩)
def lB(rows:ZB)(i:Nat):bM rows (i+1)=bM rows i++pj (rows.getD i ⟨([].toArray)⟩) (rows.getD (i+1) ⟨([].toArray)⟩):=by
 unfold bM;rw[Xa,flatMap_append];simp
def xK(u r:Str): ~~~(pj u r)<= ~~~u:=by
 refine Yg (length_filterMap_le _ _) ?_;rw[length_zip];have: ~~~u.cps.toList= ~~~u:=by simp[Str.length]
 lia
def l9(h:k∈bM rows (~~~rows-1)):∃a b,k=[sgn a,sgn b]/\ET rows a b:=by
 have%[j,d|g]:=mem_flatMap.mp h;have f:∀j h,rows.getD j ⟨([].toArray)⟩=rows[j]:=λj h=>by simp[h]
 have d:=mem_range.mp d;have%[%[a|b],i|e]:=mem_filterMap.mp g;unfold fS at e
 split at e
 .rename_i h
  have%[q|c]:=Xi i;rw[List.getElem?_zip_eq_some,f j ⋯,f _ ⋯]at c;exact%[a,b,(Za e).symm,h.1,h.2,j,q,rows[j],rows[j+1],Z4 _,Z4 _,by simpa using c.1|by simpa using c.2]
 .lia
def rY(m:cK rows)(h:ET rows a b):Let rows a/\Let rows b:=by
 have%[n1,n,i,j,r,c,d,f,g|l]:=h;refine%[%[n1,r,Z8 d|Z8 ↑g],λe=>n1 (m.fall i r c d f j a b g l e),c,Z8 f|Z8 ↑l]
def rZ(rows:ZB)(h:rows≠[]):Bp (rows\3) (some 1) none=(rows.drop 1)\3:=by
 unfold Bp;rw[_HT.sIx_none,show(some (1))∣((1:Nat):Int)from rfl,_HT.sIx_nat,Z6,min_eq_left (length_pos_iff.mpr h),<-List.map_drop,<-List.map_take];rw[Zn (Yh▸Zi _)]
inductive yJ
 | mk (rows:ZB):vs=[.str (Str.join nl rows)]->cK rows->vD rows->(∀l H' ss,ah H H'->H l=none->H' l∣.lst (ss\0)->aK H' ss-> ~~~ss<=26->(∀t∈ss,∃a b,t.2=[sgn a,sgn b]/\Let rows a/\Let rows b)->(∀k,k∈ss\2↔k∈bM rows (~~~rows-1))->Q (.ref l) H')->yJ vs H Q E0
def xM(T:Txt K mg):Cal P w K mg base 3 "meetings" ["text"] yJ:=by
 refine T.b3.cal d0 (λH vs Q E h=>?_)
 .have%[rows,rfl,c,%[mm,ml|a5]|kk]:=h;refine%[ρ|λf bn A outer s hr=>?_];have%[wd,w1,w2|ab]:=c.wide;have hp:1<= ~~~rows:=c.pos;have bf:=c.high;have a6:rows≠[]:=length_pos_iff.mp hp;refine%[_,%["JCG1F~'A0BCG2UBCR~(A1A~)1~*E~+BiNK3NK4dDa~e~f2AF]OA3A4BBDH)~,A~B~.A2BB",d0.nd|hr]|?_]
  show aU _ _ _ [some (.str (Str.join nl rows)),none,none,none,none] H;refine am λD1 k1 r1=>?_
  lk;refine%[rows,ρ,c|λR H1 s1 f1 hR=>k1 _ _ (am λD2 k2 r2=>?_)];lk;refine%[Xh _|λL hL=>k2 _ _ (am λD3 k3 r3=>az λbl hK=>?_)];have s2:=ah.upd (o:= .lst []) hL;have G:=s2 _ _ hR;have I:upd H1 L (.lst []) L<*[]:=aa;have fL:H L=none:=s1.free hL;have ac:=s1.trans s2
  generalize upd H1 L (.lst [])=H2 at s2 G I ac
  lk;refine%[_,SqL.of G|λp hp=>?_];rw[rZ rows a6];have s3:=ah.upd (o:= .lst ((rows.drop 1)\3)) hp;have J:=s3 _ _ G;have ae:=s3 _ _ I;have M:upd H2 p (.lst ((rows.drop 1)\3)) p<*(rows.drop 1)\3:=aa;have ag:=ac.trans s3;have ba:L≠R:=λe=>by rw[e,hR]at hL;cases hL
  have bb:p≠L:=λe=>by rw[e,I]at hp;cases hp
  generalize upd H2 p (.lst ((rows.drop 1)\3))=H3 at s3 J ae M ag
  refine%[%[_|SqL.of J],%[_|SqL.of M]|hK _ _ (vL (xs:=rows\3) (ys:=(rows.drop 1)\3) (λi σ l=>(∃o3 o4,σ=[some (.str (Str.join nl rows)),!R,!L,o3,o4])/\ah H l/\l R<*rows\3/\l p<*(rows.drop 1)\3/\
   ∃ps:ZG,l L∣.lst (ps\0)/\aK l ps/\ps\2=bM rows i/\ ~~~ps<=40*i) %[%[none,none|ρ],ag,J,M,[],ae,d6 _,ρ|Xh _] (by rw[Z6,Z6,Yh];lia) (λi σ l _ q=>%[SqL.of q.2.2.1|SqL.of q.2.2.2.1]) ?_ ?_)]
  .intro i x y TT σ l hx hy %[%[o3,o4|rfl],sm,ai,ak,ps,N,g,n|al] hT;rw[Zl]at hx hy;have%[u,hu|rfl]:=map_eq_some_iff.mp hx;have%[r,B|rfl]:=map_eq_some_iff.mp hy;rw[getElem?_drop,Nat.add_comm]at B;have bt:i+1< ~~~rows:=(Xo B).1;have ul: ~~~u=wd:=ab u (Z8 hu);have rl: ~~~r=wd:=ab r (Z8 B);have j:=ah.upd (o:= .tup [V.str u,V.str r]) hT;have an:upd l TT (.tup [V.str u,V.str r]) TT&&&[V.str u,V.str r]:=aa;have as:=j _ _ ai;have a0:=j _ _ ak;have v:=j _ _ N;have C:aK (upd l TT (.tup [V.str u,V.str r])) ps:=aE g λb z e=>j _ _ e
   have a1:=sm.trans j
   generalize upd l TT (.tup [V.str u,V.str r])=HT at j an as a0 v C a1
   refine%[_,SqT.of an,ρ,_,_,ρ,_,_,ρ,ρ|?_];refine aB λD4 k4 r4=>?_
   lk;refine%[tyL (SqL.of v),u,r,ρ,⋯,⋯|λl4 H4 ps4 Y f4 h4 a2 e4=>?_];have b0:l4≠L:=λe=>by rw[e,v]at f4;cases f4
   have bm: ~~~ps4<=40:=by
    have: ~~~(ps4\2)= ~~~(pj u r):=by rw[e4]
    rw[Z6]at this;have:=xK u r
    lia
   refine%[_,ρ,_,Y _ _ v,_,h4,by rw[Z6,Z6];exact cA ⋯|k4 _ _ ?_];have O:∀b z,H4 b&&&z->upd H4 L (.lst ((ps\0) ++ps4\0)) b&&&z:=λb z e=>by
    have:b≠L:=λe2=>by rw[e2,Y _ _ v]at e;cases e
    rw[ao this];exact e
   have bc:R≠L:=Ne.symm ba;refine%[%[_,_|ρ],λb u' e=>?_,(ao bc)▸Y _ _ as,(ao bb)▸Y _ _ a0,ps++ps4,by rw[aa,Zd],aE (pq (aE C λb z e=>Y _ _ e) a2) O,?_|by rw[Z9];lia]
   .rw[ao (aw e fL)];exact Y _ _ (a1 _ _ e)
   .rw[Zd,n,e4,lB];have g1:rows.getD i ⟨([].toArray)⟩=u:=by rw[Zc,hu];rfl
    have g2:rows.getD (i+1) ⟨([].toArray)⟩=r:=by rw[Zc,B];rfl
    rw[g1,g2]
  .intro σ l %[%[o3,o4|rfl],sm,ai,ak,ps,N,g,n|al];rw[Z6,Yh]at n;refine k3 _ _ ?_;lk;have U:∀q∈ps,∃a b,q.2=[sgn a,sgn b]/\ET rows a b:=λq d=>l9 (n▸Xs %[q,d|rfl])
   have a3:∀q∈ps,q.2∈mm:=λq d=>by
    have%[a,b,e|h]:=U q d;rw[e];exact a5 a b h
   refine%[ps,SqL.of N,g,%[mm,⋯|a3]|λl5 be=>?_];have s5:=ah.upd (o:=oC P w l5 (bo ps)) be;have few: ~~~(bo ps)<=26:=by
    have:=_ST.nodup_sub (dQ ps) (m:=mm) λk hk=>by
     have%[q,d|rfl]:=Xr hk;exact a3 q (bz ps q d)
    rw[Z6]at this
    lia
   refine%[bo ps,aa,λq d=>%[(g q (bz ps q d)).1|s5 _ _ (g q (bz ps q d)).2],2,λq d=>?_,!1,⋯|λl6 ss a4 pm=>?_]
   .have%[a,b,e|_]:=U q (bz ps q d);rw[e];rfl
   have s6:=ah.upd (o:= .lst (ss\0)) a4;refine kk l6 _ ss ((sm.trans s5).trans s6) ((sm.trans s5).free a4) aa (λq d=>?_) (pm.length_eq▸few) (λq d=>?_) λk=>?_
   .have:=g q (bz ps q (pm.mem_iff.mp d));exact%[this.1|s6 _ _ (s5 _ _ this.2)]
   .have%[a,b,e|h]:=U q (bz ps q (pm.mem_iff.mp d));exact%[a,b,e|rY c h]
   .rw[(pm.map _).mem_iff,h9,n]
abbrev fT(z:Str):Bool:=(decide (1<=(~~~z:Int))&&decide ((~~~z:Int)<=8))&&z.cps.toList.all e7
inductive pA
 | mk (z:Str):vs=[.str z]->fT z=true->(∀H',ah H H'->Q (.bl true) H')->pA vs H Q E0
inductive vM (K:ZA)
 | mk (z:Str) (p:Addr) (ts:ZB):vs=[.str z,.ref p]->(SqL K H p (ts\3)\/SqT K H p (ts\3))->Q (.bl (decide (z∈ts))) H->vM K vs H Q E0
inductive pB
 | mk (i:Int):vs=[.int i]-> -9999<=i->i<=9999->Q (.bl true) H->pB vs H Q E0
abbrev mU(ls:ZB)(vs:ZM):Prop:=
 (∃w a b:Str,vs=[.str w,.str a,.str b]/\(w="later"\/w="same")/\a∈ls/\b∈ls/\a≠b)\/
 ∃w a y,vs=[.str w,.str a,.int y]/\(w="since"\/w="by")/\a∈ls/\ -9999<=y/\y<=9999
inductive lC (K:ZA)
 | mk (t p xs ls):vs=[.ref t,.ref p]->H t&&&xs->SqL K H p (ls\3)->mU ls xs->Q (.bl true) H->lC K vs H Q E0
abbrev lnS(n z:Str):Str:=Str.empty++n++Str.ofString "."++z
inductive jO
 | mk (n z:Str):vs=[.str n,.str z]-> ~~~n<=100-> ~~~z<=100->Q (.str (lnS n z)) H->jO vs H Q E0
def EW(z:Str)(ts:ZB):inV (V.str z) (ts\3)=decide (z∈ts):=by
 unfold inV
 induction ts with
 | nil=>rfl
 | cons c r a=>
   show((c==z)||_)=_
   grind
def AG(ts:ZB):(ts\3).all jH=true:=by simp[jH]
def AH(T:Txt K mg):Cal P w K mg base 1 "is_name" ["thing"] pA:=by
 .exists T.aX,xG,y,N,%[z,rfl,B|k];refine%[_,%["JCOpfz!A0A?1BDHkPDH'~Z,,EghA0B]P(~a~bAec?2~M0X0?3ym~N0~zB",0,(blE (v:= .ty "str") rfl T.ab boot_str rfl rfl rfl),↑(["sign"],[])|↑["sign"]]|?_]
  show aU _ _ _ [-z] H;have a:=B;unfold fT at a;rw[Zv,Zv]at a;have%[%[C|q]|b]:=a;have O: ~~~z<=8:=by have:=Zo q;lia
  lk;refine%[.type "str",.str z,true,by rfl|?_];lk;refine%[cA ⋯|?_];rw[if_pos C,if_pos q];refine aG λr G=>?_
  lk;refine G _ _ λD u=>?_
  refine c9 (J:=Its z) (n:=z.cps.size) (D:=D) (λi ys l d=>(∃o,l=[o])/\ah H d/\d D<*ys/\ys=(z.cps.toList.take i).map (λc=>V.bl (e7 c))) %[%[none|rfl],ah.upd u,aa|rfl]
   (λi _ _ _ hi _=>hi) (λ_ _ _ _=>Zi _) ?_ ?_
  .intro i ys l d hi %[%[o|rfl],m,p|g] x U %[I,c,L|rfl];subst I;lk;have j: ~~~ys=i:=by
    rw[g,Z6,Yl];have: ~~~z.cps.toList=z.cps.size:=by simp
    lia
   have M:i<1000:=by
    have: ~~~z=z.cps.size:=rfl
    lia
   refine CK.mk hi p (j▸aD ⋯) %[%[_|rfl],ah.set m u,aa|?_];rw[tD,g,<-ju z i c L,Zd]
   all_goals rfl
  .intro ys l d %[_,m,p|g];refine%[D,ρ,(z.cps.toList.map e7),?_|?_]
   .have e:z.cps.toList.take z.cps.size=z.cps.toList:=by
     apply Zn;simp
    rw[e]at g;have:(z.cps.toList.map e7).map V.bl=ys:=by rw[g,Ys];rfl
    rw[this];exact SqL.of p
   .have e:(z.cps.toList.map e7).all id=true:=by
     rw[all_map];exact b
    rw[e];exact k d m
def cO(T:Txt K mg):Cal P w K mg base 1 "is_text_among" ["thing","texts"] (vM K):=by
 .exists T.ba,lZ,a,c,%[z,p,ts,rfl,b|k];refine%[_,%["JDH'z!A0A?1B(m~N01",0|(blE (v:= .ty "str") rfl T.ab boot_str rfl rfl rfl)]|?_];show fG _ _ [some _,some _] H;lk;refine%[.type _,.str z,true,by rfl|?_];rw[<-EW]at k;exact%[_,b,ρ,AG ts|k]
def AI(T:Txt K mg):Cal P w K mg base 1 "is_year" ["thing"] pB:=by
 .exists T.bb,xI,a,d,%[i,rfl,b,c|k];refine%[_,%["JCOnwpfz!A0A?1B%fz!A0A?2BDHkPDH~Z,,~/0~:",0,(blE (v:= .ty "int") rfl T.ah boot_int rfl rfl rfl)|(blE (v:= .ty "bool") rfl T.ai PyProof.Rows.boot_bool rfl rfl rfl)]|?_]
  show aU _ _ _ [some (.int i)] H;lk;refine%[.type _,.int i,true,by rfl,.type _,.int i,false,by rfl|?_];rw[if_pos (Zf b),Zf c];exact k
def im(T:Txt K mg):Cal P w K mg base 1 "layer_name" ["name","letter"] jO:=by
 .exists T.bc,qt,d,j,%[n,z,rfl,l,m|k];refine%[_,%["JDH~;~D~g0~DW~D~g1~<"|0]|?_];show fG _ _ [-n,some _] H;lk;have e:∀a b:Str,~~~(a++b)= ~~~a+ ~~~b:=λa b=>size_append
  have g:Str.empty.length=0:=rfl;have i:(!".").length=1:=rfl;have c:∀k,k<=1000->k<=sizeLine:=λk o=>cA ⋯
  refine%[c _ ⋯,c _ ?_,c _ ?_,c _ ⋯,c _ ?_,c _ ?_|k]<;> simp only[e,g,i]<;> lia
def vN(T:Txt K mg):Cal P w K mg base 2 "is_saying" ["thing","layers"] (lC K):=by
 .exists T.b9,t9,n,d,%[t,p,xs,ls,rfl,m,g,ok|k];refine%[_,%["JCOnwpfz!A0A?1B%MughA0BEDHkPCOfF~EAL0EA]QBDH'F~EAL0EA1B'F~EAL0EA1B(muL0EL0EPCOfF~EAL0EA]RBDH'F~EAL0EA1B(F]SAL0EBPDHk",0,(blE (v:= .ty "tuple") rfl T.ag boot_tuple rfl rfl rfl)|d]|?_]
  show aU _ _ _ [!t,!p] H;lk;refine%[.type "tuple",.tup m,true,by rfl|?_];have st:=SqT.of (K:=K) m;rcases ok with⟨c,a,b,rfl,hw,i,o,j⟩|⟨c,a,y,rfl,hw,i,r,u⟩
  .have l:decide (c∈([!"later",!"same"]:ZB))=true:=by rcases hw with rfl|rfl<;> decide
   lk;refine%[3,.inr %[_,st|ρ]|?_];rw[if_neg (!1)];refine%[_,st,_,ρ|λq e=>%[c,q,[!"later",!"same"],ρ,.inr (e H),_,ρ|?_]];rw[l];lk;refine%[_,st,_,ρ,a,p,ls,ρ,.inl g,_,ρ|?_];rw[Zf i];lk;refine%[_,st,_,ρ,b,p,ls,ρ,.inl g,_,ρ|?_];rw[Zf o];lk;refine%[_,st,_,ρ,_,st,_,ρ,ρ|?_];rw[show(!decide (V.str a=V.str b))=true from by simp[j]];exact k
  .have l:decide (c∈([!"later",!"same"]:ZB))=false:=by rcases hw with rfl|rfl<;> decide
   have z:decide (c∈([!"since",!"by"]:ZB))=true:=by rcases hw with rfl|rfl<;> decide
   lk;refine%[3,.inr %[_,st|ρ]|?_];rw[if_neg (!1)];refine%[_,st,_,ρ|λq e=>%[c,q,[!"later",!"same"],ρ,.inr (e H),_,ρ|?_]];rw[l];lk;refine%[_,st,_,ρ|λq e=>%[c,q,[!"since",!"by"],ρ,.inr (e H),_,ρ|?_]];rw[z];lk;refine%[_,st,_,ρ,a,p,ls,ρ,.inl g,_,ρ|?_];rw[Zf i];lk;exact%[_,st,_,ρ,y,ρ,r,u|k]
abbrev bU(H:Hp)(cs:ZH):Prop:=∀p∈cs,H p.1&&&[.str p.2.1,.str (Str.join nl p.2.2)]/\fT p.2.1=true/\cK p.2.2
def bU.up(h:bU H cs)(s:ah H b):bU b cs:=λp a=>%[s _ _ (h p a).1|(h p a).2]
inductive sd
 | mk (rows:ZB):vs=[.str (Str.join nl rows)]->cK rows->(∀H',ah H H'->Q (.bl true) H')->sd vs H Q E0
inductive vO
 | mk (p:Addr×Str×ZB):vs=[.ref p.1]->bU H [p]->(∀H',ah H H'->Q (.bl true) H')->vO vs H Q E0
abbrev cV(cs:ZH):ZM:=cs\0
inductive jP
 | mk (l cs):vs=[.ref l]->H l<*cV cs->bU H cs->(cs.map λp=>p.2.1).Nodup->1<= ~~~cs-> ~~~cs<=8->(∀H',ah H H'->Q .non H')->jP vs H Q E0
abbrev bp(H:Hp)(ls:ZB)(qs:ZN):Prop:=∀q∈qs,H q.1&&&q.2/\mU ls q.2
def bp.up(h:bp H ls qs)(s:ah H b):bp b ls qs:=λp a=>%[s _ _ (h p a).1|(h p a).2]
inductive gT (K:ZA)
 | mk (l r ls qs):vs=[.ref l,.ref r]->H l∣.lst (qs\0)->H r<*ls\3->bp H ls qs-> ~~~qs<=60->(∀H',ah H H'->Q .non H')->gT K vs H Q E0
def CJ(T:Txt K mg):Cal P w K mg base 3 "is_cut" ["thing"] sd:=by
 .exists T.b7,AC,b,c,%[rows,rfl,a|k];refine%[_,(QSs.h (aj (tryN (λ_ _ h=>h) (ar (cm rfl (aH (l8 T) c rfl #[↑0]))))
   (ar (aL eBl))))|?_]
  show aU _ _ _ [some (.str (Str.join nl rows))] H;lk;exact%[rows,ρ,a|λl d e g i=>k d e]
def pC(T:Txt K mg):Cal P w K mg base 4 "is_named_cut" ["thing"] vO:=by
 .exists T.b6,m9,e,c,%[p,rfl,g|k];have%[b,i|a]:=g p (mem_singleton.mpr rfl);refine%[_,%["JDH'z!A0A?1B'mZghA0BE'F]TAL0EB(F]UAL0EB",0,(blE (v:= .ty "tuple") rfl T.ag boot_tuple rfl rfl rfl)|c]|?_];show fG _ _ [some _] H;lk;refine%[.type _,.tup b,true,by rfl|?_];have st:=SqT.of (K:=K) b;refine%[2,.inr %[_,st|ρ],_,st,_,ρ,p.2.1,ρ,i|λm d=>?_];lk;exact%[_,SqT.of (d _ _ b),_,ρ,p.2.2,ρ,a|λj l=>k j (d.trans l)]
def uh(T:Txt K mg):Cal P w K mg base 5 "check_cuts" ["cuts"] jP:=by
 .exists T.b5,dR,ai,J,%[l,cs,rfl,C,L,M,h1,h8|k];have u: ~~~(cV cs)= ~~~cs:=Z6 _;refine%[_,%["JCOnwpfz!A0A?1B%MZghA0BED*PCG1sDR~CA0BiNK2NK3dCOnwMZ2]VwpfF]WA3B%~=L3E1D*PDok1L3E",dR.nd,(blE (v:= .ty "list") rfl T.a5 boot_list rfl rfl rfl)|J]|?_]
  show aU _ _ _ [!l,none,none,none] H;refine am λD1 k1 _=>?_
  lk;refine%[.type "list",.lst C,true,by rfl|?_];lk;refine%[~~~cs,.inl %[_,SqL.of C|u.symm]|?_];rw[if_neg (by simp only[decide_eq_true_eq];lia)];refine k1 _ _ (am λD2 k2 _=>?_);lk;refine λd N=>k2 _ _ (aB λD3 k3 _=>az λag hK=>?_)
  lk;refine%[_,SqL.of (ah.upd N _ _ C)|hK _ _ (iS (λi G c=>∃O U a,G=[!l,!d,O,U]/\ah H c/\c d∣.dK a/\a\1=(cs.take i).map λp=>Sum.inr p.2.1) %[none,none,[],ρ,ah.upd N,aa|ρ] (λi G c _ ⟨_,_,_,_,q,_⟩=>SqL.of (q _ _ C)) ?_ ?_)]
  .intro i x TT G c I %[O,U,a,rfl,Y,y|g] hT;have hi:i< ~~~cs:=u▸(Xo I).1;obtain⟨q,hq,rfl⟩:∃q,cs[i]?∣q/\x=V.ref q.1:=by
    unfold cV at I;rw[Zl,Z4 hi]at I;exact%[cs[i],Z4 hi|(Za I).symm]
   have b:ah H (upd c TT (.tup [.int i,.ref q.1])):=Y.trans (ah.upd hT);have z:upd c TT (.tup [.int i,.ref q.1]) TT&&&[.int i,.ref q.1]:=aa;have r:=ah.upd (o:= .tup [.int i,.ref q.1]) hT _ _ y
   generalize upd c TT (.tup [.int i,.ref q.1])=HT at b r z
   have m:=L q (Z8 hq);refine%[_,SqT.of z,ρ,_,_,ρ,_,_,ρ,ρ|?_];show aU _ _ _ [!l,!d,some (.int i),some (.ref q.1)] HT;refine am λD4 k4 _=>?_
   lk;rw[if_neg (by simp only[decide_eq_true_eq];lia)];refine%[q,ρ,λp hp=>(Xq hp)▸%[b _ _ m.1|m.2]|λH2 B=>%[true,ρ|?_]];rw[if_neg ∅];have n:(Sum.inr q.2.1:Key)∉a\1:=by
    rw[g];intro hm;have%[q',ab|e]:=Xr hm;have e:q'.2.1=q.2.1:=Sum.inr.inj e;have%[j|hj]:=Xi ab;have ac:j<i:=by
     have:=(Xo hj).1;rw[Yl]at this
     lia
    rw[Yc ac]at hj;have n1:(cs.map λp=>p.2.1)[j]?∣q.2.1:=by rw[Zl,hj,<-e];rfl
    have:=iL M n1 (by rw[Zl,hq];rfl)
    lia
   refine%[_,SqT.of (B _ _ (b _ _ m.1)),_,ρ,_,bQ.k (k:=Sum.inr q.2.1) (B _ _ r)|?_];have hv:bF a (Sum.inr q.2.1:Key)=none:=by
    cases e:bF a (Sum.inr q.2.1:Key)with
    | none=>rfl
    | some v=>exact absurd (DY e) n
   rw[hv,if_neg ∅];refine k4 _ _ (aB λD5 k5 _=>?_);lk;have ae: ~~~a=i:=by
    have:=congrArg List.length g;rw[Z6,Z6,Yl]at this
    lia
   refine%[_,SqT.of (B _ _ (b _ _ m.1)),_,ρ,_,eT.k (k:=Sum.inr q.2.1) (B _ _ r) (ae▸aD ⋯)|k5 _ _ %[_,_,_,ρ,ah.set (b.trans B) N,aa|?_]];rw[lR,if_neg n,g,Xc,Zd,hq];rfl
  .intro G c %[O,U,a,rfl,Y,y|g];exact k3 _ _ (k c Y)
def nh(T:Txt K mg):Cal P w K mg base 3 "check_sayings" ["sayings","layers"] (gT K):=by
 .exists T.b8,dN,z,B,%[l,r,ls,qs,rfl,g,j,m,C|k];refine%[_,%["JCOpfz!A0A?1BD*PDR~CA0BiNK2NK3dDOnwMZ2]X%pfF]YA3A1BD*P",dN.nd,(blE (v:= .ty "list") rfl T.a5 boot_list rfl rfl rfl)|B]|?_]
  show aU _ _ _ [!l,!r,none,none] H;refine am λN k1 _=>?_
  lk;refine%[.type "list",.lst g,true,by rfl|?_];lk;refine k1 _ _ (aB λO G _=>az λy I=>?_);lk;refine%[_,SqL.of g|I _ _ (iS (λi e b=>∃n o,e=[!l,!r,n,o]/\ah H b) %[none,none,ρ|ah.refl H] (λi e b _ ⟨_,_,_,q⟩=>SqL.of (q _ _ g)) ?_ ?_)]
  .intro i x TT e b p %[n,o,rfl|u] J;have hi:i< ~~~qs:=(Z6 _)▸(Xo p).1;obtain⟨q,L,rfl⟩:∃q,qs[i]?∣q/\x=V.ref q.1:=by
    rw[Zl,Z4 hi]at p;exact%[qs[i],Z4 hi|(Za p).symm]
   have a:ah H (upd b TT (.tup [.int i,.ref q.1])):=u.trans (ah.upd J);have c:upd b TT (.tup [.int i,.ref q.1]) TT&&&[.int i,.ref q.1]:=aa
   generalize upd b TT (.tup [.int i,.ref q.1])=HT at a c
   have d:=m q (Z8 L);refine%[_,SqT.of c,ρ,_,_,ρ,_,_,ρ,ρ|?_];show jB _ _ _ _ [!l,!r,some (.int i),some (.ref q.1)] HT;refine aB λU M _=>?_
   lk;rw[if_neg ⋯];refine%[q.1,r,q.2,ls,ρ,a _ _ d.1,SqL.of (a _ _ j),d.2,true,ρ|?_];rw[if_neg ∅];exact M _ _ %[_,_,rfl|a]
  .intro e b %[n,o,rfl|u];exact G _ _ (k b u)
abbrev lyr(p:Addr×Str×ZB):ZB:=(aQ ((cR p.2.2).map sgn)).map (lnS p.2.1)
inductive lD
 | mk (l cs):vs=[.ref l]->H l<*cV cs->bU H cs-> ~~~cs<=3-> ~~~(cs.flatMap lyr)<=63->(∀r H' (ls:ZB),ah H H'->H r=none->H' r<*ls\3->ls.Perm (cs.flatMap lyr)->ls.Pairwise (λa b=>aP b a=false)->Q (.ref r) H')->lD vs H Q E0
abbrev dz(ls:ZB)(k:ZB):Prop:=∃a b z,k=[a,b,z]/\a∈ls/\b∈ls
abbrev Sml(z:Str):Prop:= ~~~z<=30/\∀c∈z.cps.toList,c<16^8
abbrev AJ(ls:ZB)(k:ZB):Prop:=dz ls k/\∀z∈k,Sml z
def vP(h:fT z=true):Sml z:=by
 unfold fT at h;rw[Zv,Zv]at h;refine%[⋯|λc a=>?_];have:=(q0.mp (all_eq_true.mp h.2 c a)).2
 lia
def Sml.app{a b:Str}(f:∀c∈a.cps.toList,c<16^8)(g:∀c∈b.cps.toList,c<16^8):∀c∈(a++b).cps.toList,c<16^8:=λc d=>by
 have e:(a++b).cps.toList=a.cps.toList++b.cps.toList:=Xg;rw[e]at d;exact(Xp d).elim (f c) (g c)
def EX(h:c<1000):∀x∈(sgn c).cps.toList,x<16^8:=λx a=>by
 have e:=by simpa [sgn]using a
 lia
def md{c:Nat}(h:fT n=true)(d:c<1000):Sml (lnS n (sgn c)):=by
 have e:∀a b:Str,~~~(a++b)= ~~~a+ ~~~b:=λa b=>size_append
 have l: ~~~n<=8:=by
  unfold fT at h
  grind
 refine%[?_|Sml.app (Sml.app (Sml.app (λc d=>(nomatch d)) (vP h).2) (!0)) (EX d)];unfold lnS;rw[e,e,e,show Str.empty.length=0 from rfl,show(!".").length=1 from rfl,show(sgn c).length=1 from rfl]
 lia
def xN(h:cK rows)(l:Let rows c):c<1000:=by
 have:=(q0.mp (jo h.sign c (gM.mpr l))).2
 lia
def EY(b:fT p.2.1=true)(d:cK p.2.2):∀z∈lyr p,Sml z:=λz e=>by
 have%[y,f|rfl]:=Xr e;have%[c,a|rfl]:=Xr (bd.mp f);exact md b (xN d (gM.mp a))
def He(e:Sml a)(f:Sml b)(g:Sml c):∀z∈[a,b,c],Sml z:=λz d=>by
 simp only[Yw,X7,or_false]at d;rcases d with rfl|rfl|rfl
 .exact e
 .exact f
 .exact g
def EZ(i:Nat)(h:i<=100):Sml (Str.empty++Str.ofString "#"++Str.ofString (toString (i:Int))):=by
 have all:∀j:Fin 101,Sml (Str.empty++Str.ofString "#"++Str.ofString (toString ((j.1)))):=by
  unfold Sml;decide +kernel
 exact all %[i|⋯]
def dz.three(h:dz ls k): ~~~k=3:=by
 have%[a,b,z,rfl|_]:=h;rfl
def dz.mono(h:dz ls k)(s:∀x∈ls,x∈ms):dz ms k:=by
 have%[a,b,z,e,c|d]:=h;exact%[a,b,z,e,s a c|s b d]
def jv(h:Let p.2.2 a):lnS p.2.1 (sgn a)∈lyr p:=
 Xs %[_,bd.mpr (Xs %[a,gM.mpr h|rfl])|rfl]
abbrev lE(n:Str)(k:ZB):ZB:=k.map (lnS n) ++[n]
abbrev ui(i:Nat):Str:=Str.empty++Str.ofString "#"++Str.ofString (toString (i:Int))
abbrev cH(cs:ZH):List ZB:=cs.flatMap λp=>(bM p.2.2 (~~~p.2.2-1)).map (lE p.2.1)
abbrev gA(i:Nat):ZM->Option ZB
 |[.str w,.str a,.str b]=>if w=Str.ofString "later" then some [a,b,ui i]else none
 | _=>none
abbrev cI(qs:ZN)(n:Nat):List ZB:=(List.range n).filterMap λj=>qs[j]?.bind λq=>gA j q.2
def lF{cs:List _}{i:Nat}{q:Addr×Str×ZB}(a:cs[i]?∣q):cH (cs.take (i+1))=cH (cs.take i) ++(bM q.2.2 (~~~q.2.2-1)).map (lE q.2.1):=by
 unfold cH;rw[Xc,a,flatMap_append];show _++([q].flatMap _)=_;rw[List.flatMap_singleton]
def eI(a:qs[i]?∣q):cI qs (i+1)=cI qs i++(gA i q.2).toList:=by
 unfold cI;rw[Xa,Y1];refine congrArg _ ?_;rw[Y2,a];rw[Option.bind_some];cases gA i q.2<;> rfl
inductive lG
 | mk (l cs):vs=[.ref l]->H l<*cV cs->bU H cs->(∀p∈cs,vD p.2.2)-> ~~~cs<=3->(∀r H' ts,ah H H'->H r=none->H' r∣.lst (ts\0)->aK H' ts->(∀t∈ts,AJ (cs.flatMap lyr) t.2)-> ~~~ts<=78->(∀k,k∈ts\2↔k∈cH cs)->Q (.ref r) H')->lG vs H Q E0
inductive lH
 | mk (l ls qs):vs=[.ref l]->H l∣.lst (qs\0)->bp H ls qs->(∀z∈ls,Sml z)-> ~~~qs<=63->(∀r H' ts,ah H H'->H r=none->H' r∣.lst (ts\0)->aK H' ts->(∀t∈ts,AJ ls t.2)-> ~~~ts<= ~~~qs->ts\2=cI qs qs.length->Q (.ref r) H')->lH vs H Q E0
def jc{z:Str}(h:fT z=true): ~~~z<=8:=by
 unfold fT at h;rw[Zv,Zv]at h;have:=Zo h.1.2
 lia
def j6{cs:List Nat}{z:Str}(h:z∈aQ (cs.map sgn)):∃c∈cs,z=sgn c:=by
 have:=bd.mp h;have%[c,a|rfl]:=Xr this;exact%[c,a|ρ]
def vQ(T:Txt K mg):Cal P w K mg base 4 "layers_of" ["cuts"] lD:=by
 .exists T.bd,eF,ae,hr,%[l,cs,rfl,hl,C,h8,ag|k];have g: ~~~(cV cs)= ~~~cs:=Z6 _;refine%[_,%["JCG1UBCRS0iN~P2qrNK3dDa~e~f1Aec?1SF]ZA3BX0?2yF~hAQ1A0BBDH)]aA1B",eF.nd,↑(["letter","name"],[(1,2)]),↑["letter","name"]|hr]|?_]
  show aU _ _ _ [!l,none,none,none] H;refine am λD1 k1 _=>?_
  lk;refine%[Xh _|λL G=>k1 _ _ (am λD2 k2 _=>az λm I=>?_)];lk;refine%[%[_|SqL.of (ah.upd G _ _ hl)]|I _ _ (eS (λi d a=>∃J M,d=[!l,!L,J,M]/\ah H a/\∃ms:ZB,a L<*ms\3/\ms.Perm ((cs.take i).flatMap lyr)/\ ~~~ms<=26*i)
   %[none,none,ρ,ah.upd G,[],aa,List.Perm.refl _|Xh _] (λi d a _ ⟨_,_,_,q,_⟩=>SqL.of (q _ _ hl)) ?_ ?_)]
  .intro i x d a v %[J,M,rfl,n,ms,y,p|N];have hi:i< ~~~cs:=g▸(Xo v).1;obtain⟨q,hq,rfl⟩:∃q,cs[i]?∣q/\x=V.ref q.1:=by
    unfold cV at v;rw[Zl,Z4 hi]at v;exact%[cs[i],Z4 hi|(Za v).symm]
   have b:=C q (Z8 hq);refine%[_,SqT.of (n _ _ b.1),ρ,_,_,ρ,_,_,ρ,ρ|aB λD3 k3 _=>?_];show jG _ _ [!l,!L,some (.str q.2.1),some (.str (Str.join nl q.2.2))] a;lk;refine%[tyL (SqL.of y)|aG λm I=>?_];lk;refine%[q.2.2,ρ,b.2.2|λl2 H2 ss s2 f2 h2 O q2=>?_];lk;refine%[%[_|SqL.of h2]|I _ _ λF hF=>?_];have few: ~~~ss<=26:=O.length_eq▸jU λc hc=>jo b.2.2.sign c hc
   have one:∀z∈ss,~~~z=1:=λz hz=>by
    have%[c,_|rfl]:=j6 (O.mem_iff.mp hz);rfl
   refine ce (λj ts d a=>(∃o,d=[o,some (.str q.2.1)])/\ah H2 a/\a F<*ts/\ts=((ss.take j).map (lnS q.2.1))\3)
    %[%[none|rfl],ah.upd hF,aa|rfl] (λ_ _ _ a U=>U.2.1 _ _ h2) ?_ ?_
   .intro j ts d H4 Y %[%[o|rfl],B,ab|e];lk;refine%[_,_,ρ,by have:=jc b.2.1;lia,by rw[one _ (Yd Y)];decide|CK.mk Y ab (by rw[e,Z6,Z6,Yl];exact aD ⋯) %[%[_|ρ],ah.set B hF,aa|?_]];rw[e,Xc,Zd,Zd,Z4 Y];rfl
   intro ts d H3 %[_,B,ac|e];rw[Zn (Zi _)]at e;lk;refine%[_,B _ _ (s2 _ _ y),_,ac,(by rw[e,Z6,Z6,Z6];exact cA ⋯)|k3 _ _ %[_,_,ρ,ah.set (n.trans (s2.trans B)) G,ms++ss.map (lnS q.2.1),?_,?_|?_]]
   .rw[aa,e,Zd]
   .rw[Xc,hq,flatMap_append];refine p.append ?_;show List.Perm _ ([q].flatMap lyr);rw[List.flatMap_singleton];exact O.map _
   .rw[Z9,Z6]
    lia
  .intro d a %[J,M,rfl,n,ms,y,p|N];refine k2 _ _ ?_;lk;rw[g,Zn (Zi _)]at p;exact%[ms,SqL.of y,by rw[p.length_eq];lia|λr ss u p' q'=>k r _ ss (n.trans (ah.upd u)) (n.free u) aa (p'.trans p) q']
def pD(T:Txt K mg):Cal P w K mg base 4 "ties_of_cuts" ["cuts"] lG:=by
 .exists T.be,bX,a5,hr,%[l,cs,rfl,hl,a2,a3,h8|k];have ae: ~~~(cV cs)= ~~~cs:=Z6 _;refine%[_,%["JCG1UBCRS0iNK2NK3dDRSF]bA3BiNK4NK5dDatl1AjAF~hA2A4BAF~hA2A5BA2BBDH1",bX.nd|hr]|?_]
  show aU _ _ _ [!l,none,none,none,none,none] H;refine am λD1 k1 _=>?_
  lk;refine%[Xh _|λL hL=>k1 _ _ (am λD2 k2 _=>az λag hK=>?_)];lk;refine%[%[_|SqL.of (ah.upd hL _ _ hl)]|hK _ _ (eS (λi B G=>∃o2 o3 I J,B=[!l,!L,o2,o3,I,J]/\ah H G/\∃ts:ZG,G L∣.lst (ts\0)/\aK G ts/\(∀t∈ts,AJ (cs.flatMap lyr) t.2)/\ ~~~ts<=26*i/\∀k,k∈ts\2↔k∈cH (cs.take i))
   %[none,none,none,none,ρ,ah.upd hL,[],aa,d6 _,λt ht=>(nomatch ht),Xh _|λk=>Iff.rfl] (λi B G _ ⟨_,_,_,_,_,q,_⟩=>SqL.of (q _ _ hl)) ?_ ?_)]
  .intro i x B G M %[o2,o3,I,J,rfl,sm,ts,hm,U,Y,ai|d];have hi:i< ~~~cs:=by rw[<-ae];exact(Xo M).1
   obtain⟨q,hq,rfl⟩:∃q,cs[i]?∣q/\x=V.ref q.1:=by
    unfold cV at M;rw[Zl,Z4 hi]at M;exact%[cs[i],Z4 hi|(Za M).symm]
   have g:=a2 q (Z8 hq);refine%[_,SqT.of (sm _ _ g.1),ρ,_,_,ρ,_,_,ρ,ρ|?_];refine aB λD3 k3 _=>?_
   show uA _ _ _ _ [!l,!L,some (.str q.2.1),some (.str (Str.join nl q.2.2)),I,J] G;refine az λag hK=>?_
   lk;have qm:=Z8 hq;refine%[q.2.2,ρ,g.2.2,a3 q qm|?_];intro l2 H2 ss s2 f2 h2 t2 few ak all2;have a4:=jc g.2.1;have al:l2≠L:=λe=>by rw[e,hm]at f2;cases f2
   have an: ~~~(ss\0)= ~~~ss:=Z6 _;refine%[l2,ρ,%[_|SqL.of h2]|hK _ _ (eS (xs:=ss\0) (λj B n=>∃I J,B=[!l,!L,some (.str q.2.1),some (.str (Str.join nl q.2.2)),I,J]/\ah H n/\n l2∣.lst (ss\0)/\aK n ss/\∃c:ZG,n L∣.lst (c\0)/\aK n c/\(∀t∈c,AJ (cs.flatMap lyr) t.2)/\ ~~~c<=26*i+j/\c\2=ts\2 ++((ss.take j)\2).map (lE q.2.1))
    %[_,_,ρ,sm.trans s2,h2,t2,ts,s2 _ _ hm,aE U λb z e=>s2 _ _ e,Y,⋯|(Zx _).symm] (λj B n _ ⟨_,_,_,_,q,_⟩=>SqL.of q) ?_ ?_)]
   .intro j x B n M %[I,J,rfl,ab,as,r,c,C,u,ac,v|m];have hj:j< ~~~ss:=an▸(Xo M).1;rw[Zl,Z4 hj]at M;obtain rfl:x=V.ref ss[j].1:=(Za M).symm;have N:=Yd hj;have%[a,b,a0,la|lb]:=ak _ N;have O:=(r _ N).2;rw[a0]at O;refine%[_,SqT.of O,ρ,_,_,ρ,_,_,ρ,ρ|aB λD4 k4 _=>?_];show jG _ _ [!l,!L,some (.str q.2.1),some (.str (Str.join nl q.2.2)),some (.str (sgn a)),some (.str (sgn b))] n;lk;refine%[tyL (SqL.of C),q.2.1,sgn a,ρ,⋯,(show 1<=100 by decide)|?_];refine%[q.2.1,sgn b,ρ,⋯,(show 1<=100 by decide)|?_];refine%[#[3]|λp hp=>?_];have sp:=ah.upd (o:= .tup [V.str (lnS q.2.1 (sgn a)),V.str (lnS q.2.1 (sgn b)),V.str q.2.1]) hp;have gp:upd n p (.tup [V.str (lnS q.2.1 (sgn a)),V.str (lnS q.2.1 (sgn b)),V.str q.2.1]) p=_:=aa
    generalize upd n p _=H4 at sp gp
    have a1:=sp _ _ C;have y:∀b z,H4 b&&&z->upd H4 L (.lst (c\0 ++[V.ref p])) b&&&z:=λb z e=>by
     have:b≠L:=λe2=>by rw[e2,a1]at e;cases e
     rw[ao this];exact e
    refine%[_,a1,by rw[Z6];exact Nat.lt_of_le_of_lt (show ~~~c<=10000 by lia) (!1)|k4 _ _ %[_,_,ρ,ah.set (ab.trans sp) hL,(ao al)▸sp _ _ as,aE (aE r λb z e=>sp _ _ e) y,c++[(p,[lnS q.2.1 (sgn a),lnS q.2.1 (sgn b),q.2.1])],?_,?_,?_,?_|?_]]
    .rw[aa,Zd];rfl
    .exact aE (eP (aE u λb z e=>sp _ _ e) ∅ gp) y
    .intro t ht;rcases Xp ht with z|z
     .exact ac t z
     .rw[Xq z];exact%[%[_,_,_,ρ,mem_flatMap.mpr %[q,qm|jv la]|mem_flatMap.mpr %[q,qm|jv lb]]|He (md g.2.1 (xN g.2.2 la)) (md g.2.1 (xN g.2.2 lb)) (vP g.2.1)]
    .rw[Z9,Yk];lia
    .rw[Zd,m,Ze,Xc,Z4 hj,Zd,Zd];show _++(_++[_])=_++(_++[lE q.2.1 ss[j].2]);rw[a0];rfl
   .intro B n %[I,J,rfl,ab,as,r,c,C,u,ac,v|m];rw[an]at v m;rw[Zn (Zi _)]at m;refine k3 _ _ %[_,_,_,_,rfl,ab,c,C,u,ac,⋯|λk=>?_];rw[m,lF hq,Yt,Yt,d,Yx,Yx];exact or_congr Iff.rfl (exists_congr λz=>and_congr_left λ_=>all2 z)
  .intro B G %[o2,o3,I,J,rfl,sm,ts,hm,U,Y,ai|d];refine k2 _ _ ?_;lk;rw[ae]at ai d;rw[Zn (Zi _)]at d;exact k L G ts sm hL hm U Y ⋯ d
def lI(T:Txt K mg):Cal P w K mg base 1 "ties_of_sayings" ["sayings"] lH:=by
 .exists T.bf,cG,ai,hr,%[l,ls,qs,rfl,hl,ab,r,ak|k];have G: ~~~(qs\0)= ~~~qs:=Z6 _;refine%[_,%["JCG1UBCR~CA0BiNK2NK3dDOMZL3EWDatl1AjAL3EAL3EA~;~DW~D~g2~<BBPDH1"|cG.nd]|?_]
  show aU _ _ _ [!l,none,none,none] H;refine am λD1 k1 _=>?_
  lk;refine%[Xh _|λL N=>k1 _ _ (am λD2 k2 _=>az λae hK=>?_)];lk;refine%[_,SqL.of (ah.upd N _ _ hl)|hK _ _ (iS (λi O n=>∃o2 o3,O=[!l,!L,o2,o3]/\ah H n/\∃ts:ZG,n L∣.lst (ts\0)/\aK n ts/\(∀t∈ts,AJ ls t.2)/\ ~~~ts<=i/\ts\2=cI qs i)
   %[none,none,ρ,ah.upd N,[],aa,d6 _,λt ht=>(nomatch ht),Xh _|ρ] (λi O n _ ⟨_,_,_,q,_⟩=>SqL.of (q _ _ hl)) ?_ ?_)]
  .intro i x TT O n hx %[o2,o3,rfl,sm,ts,hm,u,g,v|d] hT;have hi:i< ~~~qs:=by rw[<-G];exact(Xo hx).1
   obtain⟨q,U,rfl⟩:∃q,qs[i]?∣q/\x=V.ref q.1:=by
    rw[Zl,Z4 hi]at hx;exact%[qs[i],Z4 hi|(Za hx).symm]
   have s0:=ah.upd (o:= .tup [.int i,.ref q.1]) hT;have j:ah H (upd n TT (.tup [.int i,.ref q.1])):=sm.trans s0;have I:upd n TT (.tup [.int i,.ref q.1]) TT&&&[.int i,.ref q.1]:=aa;have m:=s0 _ _ hm;have c:=aE u λb z e=>s0 _ _ e
   generalize upd n TT (.tup [.int i,.ref q.1])=HT at j I m c
   have J:=ab q (Z8 U);refine%[_,SqT.of I,ρ,_,_,ρ,_,_,ρ,ρ|?_];show jB _ _ _ _ [!l,!L,some (.int i),some (.ref q.1)] HT;refine aB λD4 k4 _=>?_
   lk;have st:=SqT.of (K:=K) (j _ _ J.1);have ag: ~~~(Str.ofString (toString (i:Int)))<=21:=by
    have e:=PySem.int_text_length_le10 (a:=(i:Int)) (k:=20) (!1) (by have:(i:Int).natAbs=i:=rfl;lia);rw[PySem.ofString_length];lia
   have e1:(Str.empty++Str.ofString "#").length=1:=!0
   have ea:∀a b:Str,~~~(a++b)= ~~~a+ ~~~b:=λa b=>size_append
   have add:∀a b:Str,a∈ls->b∈ls->gA i q.2∣[a,b,ui i]->∀p,HT p=none->∃x,upd HT p (.tup [.str a,.str b,V.str (Str.empty++Str.ofString "#"++Str.ofString (toString (i:Int)))]) L<*x/\ ~~~x<sizeLine/\D4.nx [!l,!L,some (.int i),some (.ref q.1)] (upd (upd HT p (.tup [.str a,.str b,V.str (Str.empty++Str.ofString "#"++Str.ofString (toString (i:Int)))])) L (.lst (x++[V.ref p]))):=by
    intro a b Y mb ac p hp;have tn:=eI U;rw[ac,<-d]at tn;unfold ui at tn
    generalize hz:Str.empty++Str.ofString "#"++Str.ofString (toString (i:Int))=z at tn ⊢
    have sp:=ah.upd (o:= .tup [V.str a,V.str b,V.str z]) hp;have gp:upd HT p (.tup [V.str a,V.str b,V.str z]) p=_:=aa
    generalize upd HT p (.tup [V.str a,V.str b,V.str z])=H4 at sp gp
    have M:=sp _ _ m;have B:∀b z,H4 b&&&z->upd H4 L (.lst (ts\0 ++[V.ref p])) b&&&z:=λb z e=>by
     have:b≠L:=λe2=>by rw[e2,M]at e;cases e
     rw[ao this];exact e
    refine%[_,M,by rw[Z6];exact aD ⋯|k4 _ _ %[_,_,ρ,ah.set (j.trans sp) N,ts++[(p,[a,b,z])],?_,?_,?_,?_|?_]]
    .rw[aa,Zd];rfl
    .exact aE (eP (aE c λb z e=>sp _ _ e) ∅ gp) B
    .intro t ht;rcases Xp ht with z|z
     .exact g t z
     .rw[Xq z];exact%[%[_,_,_,ρ,Y|mb]|He (r a Y) (r b mb) (hz▸EZ i ⋯)]
    .rw[Z9,Yk];lia
    .rw[tn,Zd];rfl
   rcases J.2 with⟨wd,a,b,e,hw,Y,mb,_⟩|⟨wd,a,y,e,hw,_⟩
   .rw[e]at st;refine%[_,st,_,ρ,ρ|bJ (λC=>?_) λC=>?_]
    .refine%[tyL (SqL.of m),_,st,_,ρ,_,st,_,ρ,cA ⋯,?_,cA (by rw[ea];lia),cA (by rw[ea];lia),#[3]|add a b Y mb (e▸if_pos (V.str.inj (Zo C)))];have:(i:Int).natAbs=i:=rfl
     lia
    .refine k4 _ _ %[_,_,rfl,j,ts,m,c,g,⋯|?_];rw[eI U,e,show gA i [V.str wd,V.str a,V.str b]=none from if_neg λz=>C (Zf (by rw[z])),d];exact(Zx _).symm
   .rw[e]at st;refine%[_,st,_,ρ,ρ|?_];rw[if_neg (by rcases hw with rfl|rfl<;> decide)];refine k4 _ _ %[_,_,rfl,j,ts,m,c,g,⋯|?_];rw[eI U,e,d];exact(Zx _).symm
  .intro O n %[o2,o3,rfl,sm,ts,hm,u,g,v|d];refine k2 _ _ ?_;lk;rw[G]at v d;exact k L n ts sm N hm u g v d
structure GrF (mg:ZC) (H:Hp) (g c2 c3 c4:Addr) (qs:ZN) (ls:ZB) (ts:ZG):Prop where
 at_:∃dx c1,H g∣.ins (cU mg "Ground") dx [("kept_cuts",.ref c1),("kept_sayings",.ref c2),("kept_layers",.ref c3),("kept_ties",.ref c4)]
 a2:H c2∣.lst (qs\0)
 a3:H c3<*ls\3
 a4:H c4∣.lst (ts\0)
 sa:bp H ls qs
 tu:aK H ts
def GrF.up(h:GrF mg H g a c3 c qs ls ts)(s:ah H d):GrF mg d g a c3 c qs ls ts:=by
 have%[f,c1|i]:=h.at_;exact%[%[f,c1|s _ _ i],s _ _ h.a2,s _ _ h.a3,s _ _ h.a4,h.sa.up s|aE h.tu λb z e=>s _ _ e]
inductive sf (mg:ZC)
 | mk (g c2 c3 c4 qs ls ts):vs=[.ref g]->GrF mg H g c2 c3 c4 qs ls ts->(∀l,H l=none->Q (.ref l) (upd H l (.lst (ls\3))))->sf mg vs H Q E0
inductive pE (mg:ZC)
 | mk (g c2 c3 c4 qs ls ts):vs=[.ref g]->GrF mg H g c2 c3 c4 qs ls ts->(∀l,H l=none->Q (.ref l) (upd H l (.lst (qs\0))))->pE mg vs H Q E0
inductive yK (mg:ZC)
 | mk (g c2 c3 c4 qs ls ts):vs=[.ref g]->GrF mg H g c2 c3 c4 qs ls ts->(∀l,H l=none->Q (.ref l) (upd H l (.lst (ts\0))))->yK mg vs H Q E0
inductive uj (mg:ZC)
 | mk (g l m dx cs qs):vs=[.ref g,.ref l,.ref m]->H g∣.ins (cU mg "Ground") dx []->H l<*cV cs->H m∣.lst (qs\0)->bU H cs->(cs.map λp=>p.2.1).Nodup->1<= ~~~cs-> ~~~cs<=3->(∀p∈cs,vD p.2.2)-> ~~~(cs.flatMap lyr)<=63->(∀ls,ls.Perm (cs.flatMap lyr)->bp H ls qs)-> ~~~qs<=40->(∀H' ls ts c2 c3 c4,(∀b o,b≠g->H b∣o->H' b∣o)->GrF mg H' g c2 c3 c4 qs ls ts->(∀t∈ts,AJ ls t.2)->(∀z∈ls,Sml z)->(∀k,k∈ts\2↔k∈cH cs\/k∈cI qs qs.length)-> ~~~ts<=150->ls.Perm (cs.flatMap lyr)->ls.Pairwise (λa b=>aP b a=false)->Q .non H')->uj mg vs H Q E0
def vR(T:Txt K mg):Ez P w K mg base 6 "Ground" ["self","cuts","sayings"] (uj mg):=by
 .exists T.i_Ground,fB,bb,hr,%[g,l,m,c,cs,qs,rfl,L,hl,hm,i,ak,h1,h8,al,an,y,bc|k];refine%[_,%["JCaF]cA1BCG3F]dA1BCaF]eA2A3BC~Q0|~FA1BC~Q0|~FA2BC~Q03D~Q0)]fAI]gF]hA1BF]iA2BB",fB.nd|hr]|?_]
  show aU _ _ _ [!g,!l,!m,none] H;refine am λD1 k1 _=>?_
  lk;refine%[l,cs,ρ,hl,i,ak,h1,⋯|λH1 s1=>k1 _ _ (am λD2 k2 _=>?_)];lk;refine%[l,cs,ρ,s1 _ _ hl,i.up s1,h8,an|λr H2 ls s2 f2 h2 M q2=>k2 _ _ (am λD3 k3 _=>?_)];have N:=s1.trans s2;lk;refine%[m,r,ls,qs,ρ,N _ _ hm,h2,(y ls M).up N,⋯|λH3 s3=>k3 _ _ (am λD4 k4 _=>?_)];have n:=N.trans s3;have OC:=T.o_Ground.cls;have ac:∀z∈ls,Sml z:=λz hz=>by
   have%[p,u|hz]:=mem_flatMap.mp (M.mem_iff.mp hz);exact EY (i p u).2.1 (i p u).2.2 z hz
  have gl:l≠g:=λe=>by rw[e,L]at hl;cases hl
  have gm:m≠g:=λe=>by rw[e,L]at hm;cases hm
  have gr:r≠g:=λe=>by rw[e,s1 _ _ L]at f2;cases f2
  lk;refine%[_,.inl (SqL.of (n _ _ hl))|λc1 B=>%[_,_,_,ah.upd B _ _ (n _ _ L),OC,T.n_Ground_kept_cuts,(by show 0<1000;decide)|k4 _ _ (am λD5 k5 _=>?_)]];have as:c1≠g:=λe=>by rw[e,n _ _ L]at B;cases B
  have a0:=ah.upd (o:= .lst (cV cs)) B;have b4:∀b o,b≠g->H3 b∣o->upd (upd H3 c1 (.lst (cV cs))) g (.ins (cU mg "Ground") c (dH (!"kept_cuts") (V.ref c1) [])) b∣o:=λb o a e=>by rw[ao a];exact a0 _ _ e
  have g4:upd (upd H3 c1 (.lst (cV cs))) g (.ins (cU mg "Ground") c (dH (!"kept_cuts") (V.ref c1) [])) g∣.ins (cU mg "Ground") c [("kept_cuts",V.ref c1)]:=aa;have a4:upd (upd H3 c1 (.lst (cV cs))) g (.ins (cU mg "Ground") c (dH (!"kept_cuts") (V.ref c1) [])) c1<*cV cs:=by rw[ao as];exact aa
  generalize upd (upd H3 c1 (.lst (cV cs))) g (.ins (cU mg "Ground") c (dH (!"kept_cuts") (V.ref c1) []))=H4 at b4 g4 a4
  have n4:∀b,H4 b=none->b≠g:=λb a e=>by rw[e,g4]at a;cases a
  lk;refine%[_,.inl (SqL.of (b4 _ _ gm (n _ _ hm)))|λd O=>%[_,_,_,ah.upd O _ _ g4,OC,T.n_Ground_kept_sayings,(by show 1<1000;decide)|k5 _ _ (am λD6 k6 _=>?_)]];have U:=n4 d O;have sc2:=ah.upd (o:= .lst (qs\0)) O;have b5:∀b o,b≠g->H4 b∣o->upd (upd H4 d (.lst (qs\0))) g (.ins (cU mg "Ground") c (dH (!"kept_sayings") (V.ref d) [("kept_cuts",V.ref c1)])) b∣o:=λb o a e=>(ao a)▸sc2 _ _ e
  have g5:upd (upd H4 d (.lst (qs\0))) g (.ins (cU mg "Ground") c (dH (!"kept_sayings") (V.ref d) [("kept_cuts",V.ref c1)])) g∣.ins (cU mg "Ground") c [("kept_cuts",V.ref c1),("kept_sayings",V.ref d)]:=by rw[aa];rfl
  have a5:upd (upd H4 d (.lst (qs\0))) g (.ins (cU mg "Ground") c (dH (!"kept_sayings") (V.ref d) [("kept_cuts",V.ref c1)])) d∣.lst (qs\0):=(ao U)▸aa
  generalize upd (upd H4 d (.lst (qs\0))) g (.ins (cU mg "Ground") c (dH (!"kept_sayings") (V.ref d) [("kept_cuts",V.ref c1)]))=H5 at b5 g5 a5
  lk;refine%[_,_,_,g5,OC,T.n_Ground_kept_layers,(by show 2<1000;decide)|k6 _ _ (aB λD7 k7 _=>?_)];have b6:∀b o,b≠g->H5 b∣o->upd H5 g (.ins (cU mg "Ground") c (dH (!"kept_layers") (V.ref r) [("kept_cuts",V.ref c1),("kept_sayings",V.ref d)])) b∣o:=λb o a e=>(ao a)▸e
  have g6:upd H5 g (.ins (cU mg "Ground") c (dH (!"kept_layers") (V.ref r) [("kept_cuts",V.ref c1),("kept_sayings",V.ref d)])) g∣.ins (cU mg "Ground") c [("kept_cuts",V.ref c1),("kept_sayings",V.ref d),("kept_layers",V.ref r)]:=by rw[aa];rfl
  generalize upd H5 g (.ins (cU mg "Ground") c (dH (!"kept_layers") (V.ref r) [("kept_cuts",V.ref c1),("kept_sayings",V.ref d)]))=H6 at b6 g6
  have ae:∀b o,b≠g->H3 b∣o->H6 b∣o:=λb o a e=>b6 b o a (b5 b o a (b4 b o a e))
  have v:∀b o,b≠g->H b∣o->H6 b∣o:=λb o a e=>ae b o a (n _ _ e)
  have ag:bU H6 cs:=λp u=>⟨v _ _ (λe=>by have:=(i p u).1;rw[e,L]at this;cases this) (i p u).1,(i p u).2⟩
  have j:bp H6 ls qs:=λq Y=>⟨v _ _ (λe=>by have:=(y ls M q Y).1;rw[e,L]at this;cases this) (y ls M q Y).1,(y ls M q Y).2⟩
  lk;refine%[l,cs,ρ,v _ _ gl hl,ag,al,h8|λt1 H7 ts s7 f7 h7 a1 ab be a2=>?_];lk;refine%[m,ls,qs,ρ,s7 _ _ (v _ _ gm hm),j.up s7,ac,⋯|λt2 H8 us s8 f8 a3 a6 ai bf ba=>?_];lk;have J:aK H8 (ts++us):=pq (aE a1 λb z e=>s8 _ _ e) a6;have g8:=s8 _ _ (s7 _ _ g6);refine%[_,s8 _ _ h7,_,a3,by rw[Z6,Z6,PySem.sizeLine_eq];lia|λp u=>%[ts++us,Zd▸SqL.of aa,aE J λb z e=>ah.upd u _ _ e,3,?_,!1,by rw[Z9];lia|λc4 ss C G=>%[_,_,_,ah.upd C _ _ (ah.upd u _ _ g8),OC,T.n_Ground_kept_ties,(by show 3<1000;decide)|k7 _ _ ?_]]]
  .intro t ht;rcases Xp ht with z|z
   .exact(ab t z).1.three
   .exact(ai t z).1.three
  .have b9:∀b o,b≠g->H8 b∣o->upd (upd (upd H8 p (.lst (ts\0 ++us\0))) c4 (.lst (ss\0))) g (.ins (cU mg "Ground") c (dH (!"kept_ties") (V.ref c4) [("kept_cuts",V.ref c1),("kept_sayings",V.ref d),("kept_layers",V.ref r)])) b∣o:=λb o a e=>(ao a)▸((ah.upd (o:= .lst (ts\0 ++us\0)) u).trans (ah.upd (o:= .lst (ss\0)) C)) _ _ e
   have I:∀b o,b≠g->H6 b∣o->_:=λb o a e=>b9 b o a (s8 _ _ (s7 _ _ e))
   refine k _ ls ss d r c4 (λb o a e=>I b o a (v b o a e)) %[%[c,c1|?_],?_,?_,?_,?_|?_] (λt ht=>?_) ac (λk=>by rw[(G.map _).mem_iff,Zd,Yt,a2,ba]) (by rw[G.length_eq,Z9];lia) M q2
   .rw[aa];rfl
   .exact I _ _ U (b6 _ _ U a5)
   .exact I _ _ gr (ae _ _ gr (s3 _ _ h2))
   .rw[ao (λe=>by rw[e,ah.upd u _ _ g8]at C;cases C)];exact aa
   .exact λq Y=>⟨I _ _ (λe=>by have:=(j q Y).1;rw[e,g6]at this;cases this) (j q Y).1,(j q Y).2⟩
   .intro t ht;have:=J t (G.mem_iff.mp ht);exact%[this.1|b9 _ _ (λe=>by have q:=this.2;rw[e,g8]at q;cases q) this.2]
   .rcases Xp (G.mem_iff.mp ht)with z|z
    .exact%[(ab t z).1.mono λx=>M.mem_iff.mpr|(ab t z).2]
    .exact ai t z
def d9(T:Txt K mg):Ab P w K mg base 1 "Ground" "layers" ["self"] (sf mg):=by
 .exists T.m_Ground_layers,l7,b,j,%[g,c,c3,d,qs,ls,ts,rfl,a|k];have%[m,c1|e]:=a.at_;refine%[_,%["JDH|~FA~i0B"|0]|?_];show fG _ _ [some _] H;lk;exact%[_,_,_,e,T.o_Ground.cls,T.n_Ground_kept_layers,_,ρ,_,ρ,_,.inl (SqL.of a.a3)|λl i=>k l i]
def dO(T:Txt K mg):Ab P w K mg base 1 "Ground" "sayings" ["self"] (pE mg):=by
 .exists T.m_Ground_sayings,lj,b,j,%[g,c,c3,d,qs,ls,ts,rfl,a|k];have%[m,c1|e]:=a.at_;refine%[_,%["JDH|~FA~i0B"|0]|?_];show fG _ _ [some _] H;lk;exact%[_,_,_,e,T.o_Ground.cls,T.n_Ground_kept_sayings,_,ρ,_,ρ,_,.inl (SqL.of a.a2)|λl i=>k l i]
def qw(T:Txt K mg):Ab P w K mg base 1 "Ground" "ties" ["self"] (yK mg):=by
 .exists T.m_Ground_ties,oW,b,j,%[g,c,c3,d,qs,ls,ts,rfl,a|k];have%[m,c1|e]:=a.at_;refine%[_,%["JDH|~FA~i0B"|0]|?_];show fG _ _ [some _] H;lk;exact%[_,_,_,e,T.o_Ground.cls,T.n_Ground_kept_ties,_,ρ,_,ρ,_,.inl (SqL.of a.a4)|λl i=>k l i]
def emB{p q:Int}(e:97+(p%26).toNat=97+(q%26).toNat):(p-q)%26=0:=Int.emod_eq_emod_iff_emod_sub_eq_zero.mp ((Int.toNat_of_nonneg (Int.emod_nonneg p (show(26:Int)≠0 by decide))).symm.trans ((congrArg Int.ofNat (Nat.add_left_cancel e)).trans (Int.toNat_of_nonneg (Int.emod_nonneg q (show(26:Int)≠0 by decide)))))
def yL{r a w:Int}(d:0<=r)(f:r<16)(b:0<=a)(c:a<16)(e:ltr r w=ltr a w):r=a:=by
 have all:∀m∈[(1:Int),25,7,5],∀x y:Fin 16,((x.1:Int)*m-y.1*m)%26=0->x=y:=by decide +kernel
 have mm:mlt w∈[(1:Int),25,7,5]:=by
  unfold mlt
  split
  .exact .head _
  .split
   .exact .tail _ (.head _)
   .split
    .exact .tail _ (.tail _ (.head _))
    .exact .tail _ (.tail _ (.tail _ (.head _)))
 obtain ⟨x,rfl⟩:=Int.eq_ofNat_of_zero_le d
 obtain ⟨y,rfl⟩:=Int.eq_ofNat_of_zero_le b
 have k:=emB e
 rw[Int.add_sub_add_right]at k
 exact congrArg (λk:Fin 16=>(k.1:Int)) (all _ mm ⟨x,Int.ofNat_lt.mp f⟩ ⟨y,Int.ofNat_lt.mp c⟩ k)
def si(n:Str):Str.empty++n=n:=kC (by show(([].toArray) ++n.cps).toList=_;simp)
def jw(n z:Str):n++Str.ofString "."++z=lnS n z:=by unfold lnS;rw[si]
def uk{n:Str}{c a:Nat}(e:lnS n (sgn c)=lnS n (sgn a)):c=a:=by
 have:=congrArg (λz:Str=>z.cps.toList) e;have:((Str.empty++n++Str.ofString ".").cps++ ([c].toArray)).toList=((Str.empty++n++Str.ofString ".").cps++ ([a].toArray)).toList:=this;simpa using this
abbrev xO(rows:ZB)(c:Nat):Bool:=rows.any λz=>decide (c∈z.cps.toList)
abbrev j7(nm:Str)(w:Int)(rows:ZB)(n:Nat):List (Str×Int):=((List.range n).filter λr:Nat=>xO rows (ltr r w)).map λr:Nat=>(lnS nm (sgn (ltr r w)),(r:Int))
abbrev rkD(rs:List (Str×Int)):List (Key×V):=rs.map λp=>(Sum.inr p.1,V.int p.2)
def pF(p:Str->Bool):∀rows:ZB,decide ((rows.filter p)\3≠[])=rows.any p
 |[]=>rfl
 | z::r=>by
   have:=pF p r;cases c:p z
   .rw[Y4,c,Zw,c];exact this
   .rw[Y4,c,Zw,c];rfl
def yM(nm:Str)(w:Int)(rows:ZB)(n:Nat):j7 nm w rows (n+1)=j7 nm w rows n++if xO rows (ltr n w)=true then [(lnS nm (sgn (ltr n w)),(n:Int))]else []:=by
 unfold j7;rw[Xa,Y3,Zd]
 congr 1
 by_cases c:xO rows (ltr n w)=true
 .rw[if_pos c,Y4,if_pos c];rfl
 .rw[if_neg c,Y4,if_neg c];rfl
def uo{z:Str}:∀{rs:List (Str×Int)},z∉rs\1->bF (rkD rs) (Sum.inr z)=none
 |[],_=>rfl
 | p::rs,h=>by
   rw[Yq,Yw,not_or]at h;rw[show rkD (p::rs)=(Sum.inr p.1,V.int p.2)::rkD rs from rfl,cW (λq=>h.1 (Sum.inr.inj q).symm)];exact uo h.2
def Hf{nm:Str}{w:Int}{rows:ZB}{n:Nat}(h:n<16):lnS nm (sgn (ltr n w))∉(j7 nm w rows n)\1:=λa=>by
 have%[p,b|e]:=Xr a;have%[r,c|rfl]:=Xr b;have:=mem_range.mp (List.mem_filter.mp c).1;have:=yL ⋯ ⋯ ⋯ ⋯ (uk e)
 lia
inductive vS
 | mk (nm:Str) (w:Int) (l:Addr) (rows:ZB):vs=[.str nm,.int w,.ref l]->0<=w->w<=100-> ~~~nm<=8->H l<*rows\3-> ~~~rows<=100->(∀d H',ah H H'->H d=none->H' d∣.dK (rkD (j7 nm w rows 16))->Q (.ref d) H')->vS vs H Q E0
def vT(T:Txt K mg):Cal P w K mg base 2 "_law_ranks" ["_law_name","_law_way","_law_rows"] vS:=by
 .exists T.bw,eG,ab,I,%[nm,w,l,rows,rfl,w0,w1,nl,hl,rl|kk];refine%[_,%["JCG3sCR&AEBK4C:5qrF~yA4A1BDOM}ec?1S2X0?2vM~NQ100UBDo43I$I$0WQ5PDH3",eG.nd,↑(["_law_row","_law_letter_here"],[(1,5)]),↑["_law_row","_law_letter_here"]|I]|?_]
  show aU _ _ _ [-nm,some (.int w),!l,none,none,none] H;refine am λD1 k1 _=>?_
  lk;refine λd J=>k1 _ _ (am λD2 k2 _=>az λm L=>?_)
  lk;refine%[!1,!1|L _ _ (cP (λi g U=>∃M v,g=[-nm,some (.int w),!l,!d,M,v]/\ah H U/\U d∣.dK (rkD (j7 nm w rows i))) %[_,_,ρ,ah.upd J|aa] ?_ ?_)]
  .intro i g y hi %[M,v,rfl,B|j];show aU _ _ _ [-nm,some (.int w),!l,!d,some (.int (0+i)),v] y;rw[Int.zero_add];refine am λD3 k3 _=>?_
   lk;refine%[i,w,ρ,⋯,⋯,w0,w1|λH2 Y=>k3 _ _ (aB λD4 k4 _=>?_)];lk;refine aG λm L=>?_
   lk;have n:=Y _ _ (B _ _ hl);refine%[%[_|SqL.of n]|L _ _ λF hF=>?_];refine ce (λq ts g C=>(∃o,g=[o,some (.str (sgn (ltr i w)))])/\ah H2 C/\C F<*ts/\ts=((rows.take q).filter λz=>decide (ltr i w∈z.cps.toList))\3)
    %[%[none|rfl],ah.upd hF,aa|rfl] (λ_ _ _ H4 N=>N.2.1 _ _ n) ?_ ?_
   .intro q ts g H4 O %[%[o|rfl],G,a|r];lk;rw[show(!(Builtin.Str.occurrences rows[q] (sgn (ltr i w)) 0 rows[q].length 1).isEmpty)=decide (ltr i w∈rows[q].cps.toList)from tD _ _];have tk:∀b,decide (ltr i w∈rows[q].cps.toList)=b->((rows.take (q+1)).filter λz=>decide (ltr i w∈z.cps.toList))\3=ts++if b=true then [V.str rows[q]]else []:=λb hb=>by
     rw[r,Xc,Z4 O,Y3,Zd]
     congr 1
     show List.map V.str (List.filter _ [rows[q]])=_;rw[Y4,hb];cases b<;> rfl
    refine bJ (λc=>CK.mk O a (by rw[r,Z6];exact aD (Yg (Yi _ _) (by rw[Yl];lia))) %[%[_|rfl],ah.set G hF,aa|?_]) λc=>CN.mk O %[%[_|rfl],G,a|?_]
    .rw[tk _ c];rfl
    .rw[tk false ↑c];simp
   .intro ts g C %[_,G,a|r];rw[Xf]at r;have e:decide (ts≠[])=xO rows (ltr i w):=by
     rw[r];exact pF _ rows
    refine%[Xh _|λp hp=>%[F,ρ,ts,ah.upd hp _ _ a,aa|?_]];rw[e,jw];have s4:ah y (upd C p (.lst [])):=(Y.trans G).trans (ah.upd hp);have u:=s4 _ _ j;have sH:=B.trans s4;refine bJ (λc=>?_) λc=>?_
    .have:=yM nm w rows i;rw[if_pos c]at this;refine%[by rw[PySem.sizeLine_eq];show ~~~nm+1<=_;lia,by rw[PySem.sizeLine_eq,Str.length_append];show ~~~nm+1+1<=_;lia,_,eT.k (k:=Sum.inr (lnS nm (sgn (ltr i w)))) u (by unfold rkD j7;rw[Z6,Z6];exact aD (Yg (Yi _ _) (by rw[Yj];lia)))|k4 _ _ %[_,_,ρ,ah.set sH J|?_]];rw[aa,dh _ (uo (Hf hi)),this];unfold rkD;rw[Zd];rfl
    .refine k4 _ _ %[_,_,rfl,sH|?_];rw[u,yM,if_neg c,Zx]
  .intro g y %[M,v,rfl,B|j];refine k2 _ _ ?_;lk;exact kk d y B J j
abbrev qx(c:Int):Str:=if c%3=0 then Str.ofString "pit" else if c%3=1 then Str.ofString "a" else Str.ofString "zone"
abbrev nmN(c1 a:Int)(k:Nat):Str:=qx c1++sgn (97+((a+9*k)%26).toNat)
def Hg{c:Int}:e7 (97+(c%26).toNat)=true:=by
 have all:∀i:Fin 26,e7 (97+i.1)=true:=!0
 exact all %[(c%26).toNat|⋯]
def CL(c1 a:Int)(k:Nat):fT (nmN c1 a k)=true:=by
 have p:∀z:Str,~~~z<=7->z.cps.toList.all e7=true->fT (z++sgn (97+((a+9*k)%26).toNat))=true:=λz d b=>by
  have c: ~~~(z++sgn (97+((a+9*k)%26).toNat))= ~~~z+1:=Str.length_append _ _;unfold fT;rw[c,show(z++sgn (97+((a+9*k)%26).toNat)).cps.toList=z.cps.toList++[97+((a+9*k)%26).toNat] by show(z.cps++ ([_].toArray)).toList=_;simp,List.all_append,b];simp only[Zv,decide_eq_true_eq];exact%[%[⋯|⋯],True.intro|by rw[all_cons,Hg];rfl]
 unfold nmN qx
 split
 .exact p _ (!0) (!0)
 .split
  .exact p _ (!0) (!0)
  .exact p _ (!0) (!0)
def yN{c1 a:Int}{k b:Nat}(h:k<3)(h':b<3)(e:nmN c1 a k=nmN c1 a b):k=b:=by
 have e:((qx c1).cps++ ([97+((a+9*k)%26).toNat].toArray)).toList=((qx c1).cps++ ([97+((a+9*b)%26).toNat].toArray)).toList:=congrArg (λz:Str=>z.cps.toList) e;have:97+((a+9*k)%26).toNat=97+((a+9*b)%26).toNat:=↑e
 have all:∀x y:Fin 3,(9*(x.1:Int)-9*y.1)%26=0->x=y:=by decide +kernel
 have e:=emB this
 rw[Int.add_sub_add_left]at e
 exact congrArg (λk:Fin 3=>k.1) (all ⟨k,h⟩ ⟨b,h'⟩ e)
def vU{n a:Str}{c b:Nat}(e:lnS n (sgn c)=lnS a (sgn b)):n=a:=by
 rw[<-jw,<-jw]at e;have e:(n.cps++ ([46].toArray) ++ ([c].toArray)).toList=(a.cps++ ([46].toArray) ++ ([b].toArray)).toList:=congrArg (λz:Str=>z.cps.toList) e;have e:n.cps.toList++[46,c]=a.cps.toList++[46,b]:=↑e
 exact kC (List.append_inj_left' e rfl)
structure vV (cs:ZH) (rs:List (Str×Int)):Prop where
 dr:∀p∈cs,∃w cols hi,fQ w cols hi/\p.2.2=bE cols hi
 rk:∀q∈rs,q.1∈cs.flatMap lyr/\0<=q.2/\q.2<16
 nd:(rs\1).Nodup
 len: ~~~rs<=16* ~~~cs
 ne:cs≠[]->rs≠[]
def vW:∀{more rs:List (Str×Int)},((rs++more)\1).Nodup->gU (rkD rs) (rkD more)=rkD (rs++more)
 |[],rs,_=>by rw[Zx];rfl
 | p::more,rs,h=>by
   have e:rs++p::more=(rs++[p]) ++more:=by simp
   have a:p.1∉rs\1:=by
    rw[Zd,X2]at h;exact λq=>h.2.2 _ q p.1 Zm rfl
   rw[e]at h ⊢;rw[<-vW h];show gU (b8 (rkD rs) (Sum.inr p.1) (V.int p.2)) (rkD more)=_;rw[dh _ (uo a)];unfold rkD;rw[Zd];rfl
def CM{p:Addr×Str×ZB}{z:Str}(h:z∈lyr p):∃c,z=lnS p.2.1 (sgn c):=by
 have%[y,a|rfl]:=Xr h;have%[c,_|rfl]:=Xr (bd.mp a);exact%[c|ρ]
def pG{nm:Str}{w:Int}{rows:ZB}{n:Nat}{q:Str×Int}:q∈j7 nm w rows n↔∃r:Nat,r<n/\xO rows (ltr r w)=true/\q=(lnS nm (sgn (ltr r w)),(r:Int)):=by
 unfold j7;rw[Yx];simp only[List.mem_filter,mem_range];exact%[λ⟨r,⟨a,b⟩,e⟩=>%[r,a,b|e.symm]|λ⟨r,a,b,e⟩=>%[r,%[a|b]|e.symm]]
def vX{rows:ZB}{c:Nat}(h:c≠46):xO rows c=true↔Let rows c:=by
 unfold xO Let;rw[any_eq_true];exact%[λ⟨z,a,b⟩=>%[h,z,a|Zo b]|λ⟨_,z,a,b⟩=>%[z,a|Zf b]]
def vV.snoc{cs:ZH}{rs:List (Str×Int)}(h:vV cs rs){a:Addr}{nm:Str}{w:Int}{b:List (List Nat)}{hi:Nat}(d:fQ w b hi)(fr:nm∉cs.map (·.2.1)):vV (cs++[(a,nm,bE b hi)]) (rs++j7 nm w (bE b hi) 16):=by
 refine%[λp g=>?_,λq f=>?_,?_,?_|λ_=>?_]
 .rcases Xp g with g|g
  .exact h.dr p g
  .rw[Xq g];exact%[w,b,hi,d|ρ]
 .rw[flatMap_append,Yt];rcases Xp f with f|f
  .exact%[.inl (h.rk q f).1|(h.rk q f).2]
  .have%[r,m,o|rfl]:=pG.mp f;exact%[.inr (mem_flatMap.mpr %[_,List.mem_singleton_self _|jv (p:=(a,nm,bE b hi)) ((vX (ug _ _)).mp o)]),by show(0:Int)<=(r:Int);lia|by show(r:Int)<16;lia]
 .rw[Zd,X2];refine%[h.nd,?_|λx i y j e=>?_]
  .unfold j7;rw[Ys,X3,X9];refine Xj (λ{x y} i j n e=>n ?_) (nodup_iff_pairwise_ne.mp (nodup_range.filter _));have s:=mem_range.mp (List.mem_filter.mp i).1;have B:=mem_range.mp (List.mem_filter.mp j).1;have:=yL ⋯ ⋯ ⋯ ⋯ (uk e)
   lia
  .have%[p,g|rfl]:=Xr i;have%[q,f|rfl]:=Xr j;have%[c,u|v]:=mem_flatMap.mp (h.rk p g).1;have%[l|z]:=CM v;have%[r,_,_|rfl]:=pG.mp f;exact fr (Xs %[c,u|vU (z.symm.trans e)])
 .rw[Z9,Z9,Yk];have s:=h.len;have: ~~~(j7 nm w (bE b hi) 16)<=16:=by
   unfold j7;rw[Z6];exact Yg (Yi _ _) (by rw[Yj];lia)
  lia
 .have%[r,A,m|l]:=d.ex;have%[r|rfl]:=Xk A;intro e;have:(lnS nm (sgn (ltr r w)),(r:Int))∈rs++j7 nm w (bE b hi) 16:=mem_append.mpr (.inr (pG.mpr %[r,⋯,(vX (ug _ _)).mpr l|rfl]));rw[e]at this;exact nomatch this
inductive yO (K:ZA)
 | mk (a:Addr) (ns:ZL):vs=[.ref a]->SqL K H a (ns\4)->(∀(t l1 l2:Addr) H' (cs:ZH) (rs:List (Str×Int)),ah H H'->H' t<*[.ref l1,.ref l2]->H l1=none->H' l1<*cV cs->H' l2∣.dK (rkD rs)->1<= ~~~cs-> ~~~cs<=3->bU H' cs->(cs.map (·.2.1)).Nodup->vV cs rs->Q (.ref t) H')->yO K vs H Q E0
def xP(T:Txt K mg):Cal P w K mg base 3 "_law_cuts" ["_law_script"] (yO K):=by
 .exists T.bx,cZ,bc,hr,%[a,ns,rfl,hs|kk];refine%[_,%["JCG1F~jA0AEAEAEBCG2UBCG3sCR&AIbEIYT1EEBK4CG5I$TUAWAWAWBIYT1EE_WIYIbT1EIxE4ECG6F]jAF~jA0AIbE4AEAEBAT1IbE4BCatl2AjA5A~X~YWA6BBBDa~>~^3AF]kA5AT1IbE4A6BBDHUA2A3B",cZ.nd|hr]|?_]
  show aU _ _ _ [!a,none,none,none,none,none,none] H;refine am λD1 k1 _=>?_
  lk;refine%[a,ns,1,26,6,ρ,hs,!1,!1,!1,!1,!1,!1|λhd H1 xs s1 _ M hx hb=>k1 _ _ (am λD2 k2 _=>?_)];have get:∀i:Int,0<=i->i<6->∃c,atI (xs\4) i∣V.int c/\0<=c/\c<26:=λi h0 h1=>by
   have%[c,e|hm]:=oY xs h0 (by rw[hx];exact h1);exact%[c,e|hb c hm]
  have%[c0,g0,l0|u0]:=get 0 (!1) (!1);have%[c1,g1,l1|u1]:=get 1 (!1) (!1);have%[j,g2,l2|u2]:=get 2 (!1) (!1);lk;refine%[Xh _|λC hC=>k2 _ _ (am λD3 k3 _=>?_)];have sC:=s1.trans (ah.upd (o:= .lst []) hC);lk;refine λD hD=>k3 _ _ (am λD4 k4 _=>az λbb hK=>?_)
  have sD:=ah.upd (o:= .dK []) hD;have ac:C≠D:=λe=>by rw[e,aa]at hD;cases hD
  have fC:=s1.free hC;have al:hd≠C:=λe=>by rw[e,hC]at M;cases M
  have fD:=sC.free hD;have ae:=sD _ _ (ah.upd (o:= .lst []) hC _ _ M);lk;obtain⟨n,en,n1,n3⟩:∃n:Nat,1+c0%3=n/\1<=n/\n<=3:=%[(1+c0%3).toNat,(by lia -verbose),(by lia -verbose)|(by lia -verbose)]
  refine%[_,SqL.of ae,_,g0,c0,ρ,!1|?_];rw[en];refine%[(by lia -verbose),(by lia -verbose)|hK _ _ (cP (λi σ B=>∃(o4 o5 o6:Option V) (cs:ZH) (rs:List (Str×Int)),σ=[!a,!hd,!C,!D,o4,o5,o6]/\ah H B/\B hd<*xs\4/\B C<*cV cs/\B D∣.dK (rkD rs)/\bU B cs/\vV cs rs/\cs.map (·.2.1)=(List.range i).map (nmN c1 j))
   %[_,_,_,[],[],ρ,sC.trans sD,ae,sD _ _ aa,aa,(λ_ h=>nomatch h),%[(λ_ h=>nomatch h),(λ_ h=>nomatch h),X4,Xh _|λh=>(h rfl).elim]|ρ] ?_ ?_)]
  .intro i σ B hi %[o4,o5,o6,cs,rs,rfl,sm,l,v,G,m,ok|u];show aU _ _ _ [!a,!hd,!C,!D,some (.int (0+i)),o5,o6] B;rw[Int.zero_add];have i3:i<3:=by lia -verbose
   have%[cw,gw,lw|uw]:=get (3+i) (by lia -verbose) (by lia -verbose);refine am λD5 k5 _=>?_
   lk;refine%[#[3]|λp hp=>?_];have sp:=ah.upd (o:= .lst [V.str (!"pit"),V.str (!"a"),V.str (!"zone")]) hp;refine%[_,SqL.of (sp _ _ l),_,g1,c1,ρ,!1,_,SqL.of aa,.str (qx c1),?_,_,SqL.of (sp _ _ l),_,g2,.inl %[!1|!1],j,ρ,!1,#[26],_,CF (by lia -verbose) (by lia -verbose),_,ρ,?_|k5 _ _ (am λD6 k6 _=>?_)]
   .unfold qx;rcases(show c1%3=0\/c1%3=1\/c1%3=2 by lia -verbose)with e|e|e<;> rw[e]<;> rfl
   .have: ~~~(qx c1)<=4:=by
     unfold qx
     split
     .decide +kernel
     .split<;> decide +kernel
    rw[PySem.sizeLine_eq];show(qx c1).length+1<=_
    lia -verbose
   have ag:fT (nmN c1 j i)=true:=CL c1 j i;have an:nmN c1 j i∉cs.map (·.2.1):=λh=>by
    rw[u]at h;have%[k,hk|e]:=Xr h;have:=mem_range.mp hk;have:=yN (by lia -verbose) i3 e
    lia -verbose
   have ai:∀q:Addr,∀r,(cs++[(q,nmN c1 j i,r)]).map (λp:Addr×Str×ZB=>p.2.1)=(List.range (i+1)).map (nmN c1 j):=λq r=>by rw[Zd,u,Xa,Zd];rfl
   have as:qx c1++(⟨([97+((j+9*(i:Int))%26).toNat].toArray)⟩:Str)=nmN c1 j i:=rfl;rw[as];lk;have be:=hp
   generalize upd B p (.lst [V.str (!"pit"),V.str (!"a"),V.str (!"zone")])=H2 at sp
   refine%[a,ns,2+i,6,30,ρ,(sm.trans sp).seq hs,(by lia -verbose),(by lia -verbose),!1,!1,!1,!1|λds H3 ys s3 _ a0 hy a1=>%[_,SqL.of ((sp.trans s3) _ _ l),_,gw,ds,ys,cw,ρ,SqL.of a0,hy,a1,lw,(by lia -verbose)|λR H4 g I s4 fR hR dr=>k6 _ _ (am λD7 k7 _=>?_)]];have s5:=sp.trans (s3.trans s4);have N:=s5 _ _ v;lk;have cl: ~~~cs=i:=by have:=congrArg List.length u;rwa[Z6,Z6,Yj]at this
   refine%[tyL (SqL.of N),bE g I,SqL.of hR,?_,#[2]|λt ht=>?_]
   .have:=dr.cut.sum;have:=dr.cut.high;rw[show(!"\n").length=1 from rfl]
    lia -verbose
   have ej:Txt.join (!"\n") (bE g I)=Str.join nl (bE g I):=StrLaws.glued_eq_join _ _;rw[ej];have st:=ah.upd (o:= .tup [V.str (nmN c1 j i),V.str (Str.join nl (bE g I))]) ht;have gt:upd H4 t (.tup [V.str (nmN c1 j i),V.str (Str.join nl (bE g I))]) t=_:=aa
   generalize upd H4 t (.tup [V.str (nmN c1 j i),V.str (Str.join nl (bE g I))])=H5 at st gt
   have a2:t≠C:=λe=>by rw[e,N]at ht;cases ht
   refine%[_,st _ _ N,by unfold cV;rw[Z6,cl];exact aD (by lia -verbose)|k7 _ _ (aB λD8 k8 _=>?_)];have O:∀b o,b≠C->B b∣o->upd H5 C (.lst (cV cs++[V.ref t])) b∣o:=λb o n e=>by rw[ao n];exact st _ _ (s5 _ _ e)
   have a3:upd H5 C (.lst (cV cs++[V.ref t])) C<*cV (cs++[(t,nmN c1 j i,bE g I)]):=by rw[aa];unfold cV;rw[Zd];rfl
   lk;have a4:R≠C:=λe=>by rw[e,(sp.trans s3) _ _ v]at fR;cases fR
   have sC:ah H (upd H5 C (.lst (cV cs++[V.ref t]))):=ah.set (sm.trans (s5.trans st)) fC;have J:=O _ _ (Ne.symm ac) G;have U:bU (upd H5 C (.lst (cV cs++[V.ref t]))) (cs++[(t,nmN c1 j i,bE g I)]):=λq L=>by
    rcases Xp L with z|z
    .refine%[O _ _ (λe=>?_) (m q z).1|(m q z).2];have:=(m q z).1;rw[e,v]at this;cases this
    .rw[Xq z];exact%[by rw[ao a2];exact gt,ag|dr.cut]
   have Y:=ok.snoc (a:=t) dr an;have ak:=O _ _ al l;refine%[tyD J,_,SqL.of ak,_,gw,_,_,_,_,ρ,lw,(by lia -verbose),jc ag,(by rw[ao a4];exact st _ _ hR),?_|λd H7 s7 fd a5=>?_]
   .have:=dr.cut.high
    lia -verbose
   have a6:D≠d:=λe=>by rw[<-e,J]at fd;cases fd
   have ba:=s7 _ _ J;have ab:∀b o,b≠D->upd H5 C (.lst (cV cs++[V.ref t])) b∣o->upd H7 D (.dK (gU (rkD rs) (rkD (j7 (nmN c1 j i) cw (bE g I) 16)))) b∣o:=λb o n e=>by rw[ao n];exact s7 _ _ e
   refine%[d,ρ,_,_,a6,ba,a5,?_|k8 _ _ %[_,_,_,_,_,ρ,ah.set (sC.trans s7) fD,ab _ _ (λe=>by rw[e,G]at l;cases l) ak,ab _ _ ac a3,by rw[aa,vW Y.nd],λq L=>?_,Y|ai _ _]]
   .have:=Y.len;rw[Z9]at this;unfold rkD;rw[Z6,Z6];rw[Z9,Yk,cl]at this;exact Ye (aD (by lia -verbose))
   .refine%[ab _ _ (λe=>?_) (U q L).1|(U q L).2];have:=(U q L).1;rw[e,J]at this;cases this
  .intro σ B %[o4,o5,o6,cs,rs,rfl,sm,l,v,G,m,ok|u];refine k4 _ _ ?_;lk;refine%[#[2]|λp hp=>?_];have sp:=ah.upd (o:= .lst [V.ref C,V.ref D]) hp;have cl: ~~~cs=n:=by have:=congrArg List.length u;rw[Z6,Z6,Yj]at this;lia -verbose
   refine kk p C D _ cs rs (sm.trans sp) aa fC (sp _ _ v) (sp _ _ G) (by lia -verbose) (by lia -verbose) (λq L=>%[sp _ _ (m q L).1|(m q L).2]) ?_ ok;rw[u,X3,X9];refine Xj (λ{x y} hx hy ne e=>ne (yN ?_ ?_ e)) (nodup_iff_pairwise_ne.mp nodup_range)
   .have:=mem_range.mp hx;lia -verbose
   .have:=mem_range.mp hy;lia -verbose
def uq{rs:List (Str×Int)}(nd:(rs\1).Nodup){z:Str}(h:z∈rs\1):∃r,(z,r)∈rs/\bF (rkD rs) (Sum.inr z)∣V.int r:=by
 induction rs with
 | nil=>exact nomatch h
 | cons p rs a=>
   rw[Yq,nodup_cons]at nd;by_cases e:p.1=z
   .subst e;exact%[p.2,Zm|dW rfl]
   .have%[r,b|c]:=a nd.2 ((mem_cons.mp h).resolve_left λq=>e q.symm);refine%[r,Zk _ b|?_];rw[show rkD (p::rs)=(Sum.inr p.1,V.int p.2)::rkD rs from rfl,cW (λq=>e (Sum.inr.inj q))];exact c
inductive CO
 | mk (one other:Str) (d:Addr) (rs:List (Str×Int)):vs=[.str one,.str other,.ref d]->H d∣.dK (rkD rs)->(rs\1).Nodup->one∈rs\1->other∈rs\1->(∀(t:Addr) H' (w a b:Str),ah H H'->H t=none->H' t&&&[.str w,.str a,.str b]->(w="later"\/w="same")->((a=one/\b=other)\/(a=other/\b=one))->Q (.ref t) H')->CO vs H Q E0
def AK(T:Txt K mg):Cal P w K mg base 1 "_law_tie" ["_law_one","_law_other","_law_ranks_here"] CO:=by
 .exists T.bz,xJ,m,g,%[one,c,d,rs,rfl,i,nd,n,o|q];have%[r,C|v1]:=uq nd n;have%[u,m2|v]:=uq nd o;have j:bQ H d (.str one) (some (.int r)):=v1▸bQ.k (k:=Sum.inr one) i;have l:bQ H d (.str c) (some (.int u)):=v▸bQ.k (k:=Sum.inr c) i;refine%[_,%["JCOM~KV20V21DHjAWA0A1BPCOM+V20V21DHjAWA1A0BPDHjAWA0A1B",0|g]|?_]
  show aU _ _ _ [-one,-c,!d] H;have tup:∀(w a b:Str),(w="later"\/w="same")->((a=one/\b=c)\/(a=c/\b=one))->[V.str w,V.str a,V.str b].length<=sizeLine/\∀(p:Addr),H p=none->Q (.ref p) (upd H p (.tup [.str w,.str a,.str b])):=λw a b hw h=>%[#[3]|λp e=>q p _ w a b (ah.upd e) e aa hw h]
  refine am λG k1 z=>?_
  lk;refine%[_,j,_,l,_,ρ,_,ρ|bJ (λ_=>?_) λ_=>k1 _ _ (am λI k2 B=>?_)]
  .have%[x|y]:=tup "later" one c (.inl rfl) (.inl %[rfl|rfl]);exact%[x|λp e=>z _ _ (y p e)]
  lk;refine%[_,j,_,l,_,ρ,_,ρ|bJ (λ_=>?_) λ_=>k2 _ _ ?_]
  .have%[x|y]:=tup "later" c one (.inl rfl) (.inr %[rfl|rfl]);exact%[x|λp e=>B _ _ (y p e)]
  lk;exact tup "same" one c (.inr rfl) (.inl %[rfl|rfl])
inductive yP (K:ZA)
 | mk (l d:Addr) (xs:ZL) (rs:List (Str×Int)) (torn wild:Bool):vs=[.ref l,.ref d,.bl torn,.bl wild]->H l<*xs\4-> ~~~xs=6->(∀x∈xs,0<=x/\x<211)->H d∣.dK (rkD rs)->(rs\1).Nodup->rs≠[]-> ~~~rs<=63->(∀q∈rs,0<=q.2/\q.2<16)->(∀(t:Addr) H' (xs:ZM),ah H H'->H' t&&&xs->mU (rs\1) xs->Q (.ref t) H')->yP K vs H Q E0
def xQ(T:Txt K mg):Cal P w K mg base 2 "_law_said" ["_law_digits_here","_law_ranks_here","_law_torn","_law_wild"] (yP K):=by
 .exists T.bA,cD,bc,hr,%[l,d,xs,rs,m,r,rfl,hl,hx,hb,hd,nd,ne,rl,rb|kk];have get:∀i:Int,0<=i->i<6->∃c,atI (xs\4) i∣V.int c/\0<=c/\c<211:=λi h0 h1=>by
   have%[c,e|hm]:=oY xs h0 ⋯;exact%[c,e|hb c hm]
  have%[c0,g0,l0|u0]:=get 0 (!1) (!1);have%[c1,g1,l1|u1]:=get 1 (!1) (!1);have%[c2,g2,l2|u2]:=get 2 (!1) (!1);have%[c3,g3,l3|u3]:=get 3 (!1) (!1);have%[c4,g4,l4|u4]:=get 4 (!1) (!1);refine%[_,%["JCG4)]lAQ1BC:5qrT4IYT0EghA4BCG6T4IYT0EghA4BCOn;M~KIYT0EEE<MuQ56CG7F]mAQ5A6AQ1BCOn;f2<MZIYT0EEEDHjAL7EAL7EAL7EBPDH7PCOMZIYT0EEEC~k8rqc?1S4X0?2vn;MZVQ20VQ2Q1<Mu0Q10DOM}8UBDHjAWAQ5AT8IYT0EghA8BBPPCG9IbI~OEIxEVQ1Q5I^T0EECOf3DG9I~OI]n9T0EEPCOMZIYT0EEEDHjAWAQ5ATUA9A~lEB~V~WAmZIYT0EEEBBPDHjAWAQ5ATUAIb9EAEB~V~WAmZIYT0EEEBB",cD.nd,↑(["_law_name","_law_one","_law_ranks_here"],[(1,5),(2,1)]),↑["_law_name","_law_one","_law_ranks_here"]|hr]|?_]
  show aU _ _ _ [!l,!d,some (.bl m),some (.bl r),none,none,none,none,none,none] H;refine am λD1 k1 _=>?_
  lk;refine%[_,hd,rs\1,by unfold rkD;rw[Ys,Ys];rfl,by rw[Z6];lia|λL ss hL pm _=>k1 _ _ (am λD2 k2 _=>?_)];have s1:=ah.upd (o:= .lst (ss\3)) hL;have C:upd H L (.lst (ss\3)) L=_:=aa
  generalize upd H L (.lst (ss\3))=H1 at s1 C
  have G:=s1 _ _ hl;have ag:=s1 _ _ hd;have sl: ~~~ss= ~~~rs:=by rw[pm.length_eq,Z6]
  have ba:0< ~~~rs:=length_pos_iff.mpr ne;have Y:∀{ys:ZB} (n:Int),0< ~~~ys->∃z,atI (ys\3) (n%(~~~ys:Int))∣V.str z/\z∈ys:=λ{ys} n M=>by
   have h0:=Int.emod_nonneg n (show(~~~ys:Int)≠0 by lia);have h1:=Int.emod_lt_of_pos n (show(0:Int)<(~~~ys:Int) by lia)
   generalize n%(~~~ys:Int)=i at h0 h1
   have%[j|rfl]:=Xk h0;have hj:j< ~~~ys:=by lia
   exact%[ys[j],b7 (by simp[hj])|Yd hj]
  have%[one,e1|m1]:=Y (ys:=ss) c1 ⋯;have%[g,e2|m2]:=Y (ys:=ss) c2 ⋯;have N:=pm.mem_iff.mp m1;have ai:=pm.mem_iff.mp m2;have al: ~~~(ss\3)= ~~~ss:=Z6 _;lk;refine%[_,SqL.of G,_,g1,~~~ss,.inl %[_,SqL.of C|al.symm],c1,ρ,⋯,_,SqL.of C,_,e1|k2 _ _ (am λD3 k3 _=>?_)];lk;refine%[_,SqL.of G,_,g2,~~~ss,.inl %[_,SqL.of C|al.symm],c2,ρ,⋯,_,SqL.of C,_,e2|k3 _ _ (am λD4 k4 r4=>?_)];lk;have%[r1,a0|v1]:=uq nd N;have be:=rb _ a0;have dg:∀I,ah H1 I->bQ I d (.str one) (some (.int r1)):=λI s2=>v1▸bQ.k (k:=Sum.inr one) (s2 _ _ ag)
  suffices rest:∀oo,D4.nx [!l,!d,some (.bl m),some (.bl r),!L,-one,-g,oo,none,none] H1 by
   refine%[_,SqL.of G,_,g0,c0,ρ,!1|bJ (λ_=>bJ (λac=>?_) λ_=>rest _) λ_=>rest _];have ac:one≠g:=↑ac
   refine%[_,_,_,_,ρ,ag,nd,N,ai|λt I w a b s2 ft B hw an=>?_];have J:=s2 _ _ G;have ok:∀a b,((a=one/\b=g)\/(a=g/\b=one))->mU (rs\1) [.str w,.str a,.str b]:=λa b h=>by
    rcases h with⟨rfl,rfl⟩|⟨rfl,rfl⟩
    .exact .inl %[w,_,_,rfl,hw,N,ai|ac]
    .exact .inl %[w,_,_,rfl,hw,ai,N|Ne.symm ac]
   have a1:=ok a b an;have a2:=ok b a (an.elim (λh=> .inr %[h.2|h.1]) λh=> .inl %[h.2|h.1]);have ab:D4.rt (.ref t) I:=r4 _ _ (kk t I _ (s1.trans s2) B a1);refine bJ (λ_=>?_) λ_=>ab
   refine%[_,SqL.of J,_,g3,c3,ρ,!1|bJ (λ_=>?_) λ_=>ab];refine%[t,ρ,_,SqT.of B,.str w,ρ,t,ρ,_,SqT.of B,.str b,ρ,t,ρ,_,SqT.of B,.str a,ρ,#[3]|λp M=>r4 _ _ (kk p _ _ (s1.trans (s2.trans (ah.upd M))) aa a2)]
  intro oo;refine k4 _ _ (am λD5 k5 r5=>?_);lk
  suffices yr:∀o8 I,ah H1 I->D5.nx [!l,!d,some (.bl m),some (.bl r),!L,-one,-g,oo,o8,none] I by
   refine%[_,SqL.of G,_,g0,c0,ρ,!1|bJ (λ_=>?_) λ_=>yr _ _ (ah.refl H1)];refine aG λbb hK=>?_
   lk;refine%[%[_|SqL.of C]|hK _ _ λF hF=>?_];refine ce (λq ts σ I=>(∃o,σ=[o,-one,!d])/\ah H1 I/\I F<*ts/\∃ys:ZB,ts=ys\3/\ ~~~ys<=q/\∀y∈ys,y∈rs\1/\y≠one)
    %[%[none|rfl],ah.upd hF,aa,[],rfl,Xh _|λ_ h=>nomatch h] (λ_ _ _ H4 a3=>a3.2.1 _ _ C) ?_ ?_
   .intro q ts σ H4 hq %[%[o|rfl],s3,O,ys,B,yl|U];have as:=pm.mem_iff.mp (Yd hq);have%[rq,mq|vq]:=uq nd as;have gq:bQ H4 d (.str ss[q]) (some (.int rq)):=vq▸bQ.k (k:=Sum.inr ss[q]) (s3 _ _ ag);lk;refine%[_,gq,_,dg _ s3,ρ|bJ (λ_=>bJ (λc=>?_) λ_=>?_) λ_=>?_]
    .have c:ss[q]≠one:=↑c
     exact CK.mk hq O (by rw[B,Z6];exact aD ⋯) ⟨%[_|rfl],ah.set s3 hF,aa,ys++[ss[q]],by rw[B,Zd];rfl,by rw[Z9];exact Xb yl,λy hy=>by
      rcases Xp hy with z|z
      .exact U y z
      .rw[Xq z];exact%[as|c]⟩
    .exact CN.mk hq %[%[_|rfl],s3,O,ys,B,⋯|U]
    .exact CN.mk hq %[%[_|rfl],s3,O,ys,B,⋯|U]
   .intro ts σ H3 %[_,s3,O,ys,B,yl|U];refine%[Xh _|λp M=>%[F,ρ,ts,ah.upd M _ _ O,aa|bJ (λc=>?_) λ_=>?_]]
    .have a4:0< ~~~ys:=by
      cases ys with
      | nil=>exact absurd B (Zo c)
      | cons=>exact succ_pos _
     have%[z,ez|mz]:=Y (ys:=ys) c2 a4;have sp:=ah.upd (o:= .lst []) M;have ak:=sp _ _ O;rw[B]at ak;refine%[_,SqL.of ((s3.trans sp) _ _ G),_,g2,~~~ys,.inl %[_,SqL.of ak|(Z6 _).symm],c2,ρ,⋯,F,ρ,_,SqL.of ak,_,ez,#[3]|λt a5=>r5 _ _ (kk t _ _ (s1.trans ((s3.trans sp).trans (ah.upd a5))) aa (.inl %[_,_,_,ρ,.inr rfl,N,(U z mz).1|Ne.symm (U z mz).2]))]
    .exact yr _ _ (s3.trans (ah.upd M))
  intro o8 I s2;refine k5 _ _ (am λD6 k6 _=>?_);lk;have J:=s2 _ _ G;have a6:=s1.trans s2;refine%[_,dg _ s2,_,ρ,.inl %[!1|!1],_,SqL.of J,_,g3,c3,ρ,%[!1|!1]|k6 _ _ (am λD7 k7 _=>?_)];have yb: -900<=800-100*r1+c3/5/\800-100*r1+c3/5<=900:=by lia
  generalize 800-100*r1+c3/5=y at yb
  lk
  suffices ab:∀y:Int,-2000<=y->y<=2000->D7.nx [!l,!d,some (.bl m),some (.bl r),!L,-one,-g,oo,o8,some (.int y)] I from
   bJ (λ_=>%[_,SqL.of J,_,g4,c4,rfl|ab _ ⋯ ⋯]) λ_=>ab _ ⋯ ⋯
  intro y y0 y1;refine k7 _ _ (am λD8 k8 r8=>?_);have pk:∀(u v:Int) (b:Bool),atI [V.int u,V.int v] (if b=true then 1 else 0)∣V.int (if b=true then v else u):=λu v b=>by cases b<;> rfl
  have ae:∀(w:Str) (u:Int) (p:Addr) (H3:Hp),(w="since"\/w="by")-> -9999<=u->u<=9999->ah I H3->H3 p=none->Q (.ref p) (upd H3 p (.tup [.str w,.str one,.int u])):=λw u p H3 hw u0 u1 s3 M=>kk p _ _ (a6.trans (s3.trans (ah.upd M))) aa (.inr %[w,one,u,rfl,hw,N,u0|u1])
  lk;refine%[_,SqL.of J,_,g0,c0,ρ,!1|bJ (λ_=>?_) λ_=>k8 _ _ ?_]
  .refine%[#[2]|λp M=>%[_,SqL.of (ah.upd M _ _ J),_,g4,c4,ρ,!1,_,SqL.of aa,_,pk _ _ _,#[3]|λt B=>r8 _ _ (ae _ _ t _ (.inl rfl) ?_ ?_ (ah.upd M) B)]]<;> split<;> lia
  .lk;refine%[#[2]|λp M=>%[_,SqL.of (ah.upd M _ _ J),_,g4,c4,ρ,!1,_,SqL.of aa,_,pk _ _ _,#[3]|λt B=>ae _ _ t _ (.inr rfl) ?_ ?_ (ah.upd M) B]]<;> split<;> lia
def io{H:Hp}{M:Addr}{xs ys:ZM}(h:H M<*xs):∀b z,H b&&&z->upd H M (.lst ys) b&&&z:=λb z e=>by
 rw[ao (λa=>by rw[a,h]at e;cases e)];exact e
def mU.sub{ls ms:ZB}{vs:ZM}(h:mU ls vs)(m:∀z∈ls,z∈ms):mU ms vs:=by
 rcases h with⟨w,a,b,e,hw,c,d,n⟩|⟨w,a,y,e,hw,c,d⟩
 .exact .inl %[w,a,b,e,hw,m a c,m b d|n]
 .exact .inr %[w,a,y,e,hw,m a c|d]
def yQ:∀{cs:ZH},(∀p∈cs,∃w a hi,fQ w a hi/\p.2.2=bE a hi)-> ~~~(cs.flatMap lyr)<=16* ~~~cs
 |[],_=>Zi _
 | q::cs,h=>by
   have j:=yQ (cs:=cs) λp b=>h p (Zk _ b)
   have%[w,a,hi,d|e]:=h q Zm;have:=_ST.nodup_sub (dA ((cR q.2.2).map sgn)) (m:=(List.range 16).map λr:Nat=>sgn (ltr r w)) λy f=>by
    have%[c,g|rfl]:=Xr (bd.mp f);have%[r,i,l|rfl]:=d.lets (e▸gM.mp g);exact Xs %[r.toNat,mem_range.mpr ⋯|by rw[Int.toNat_of_nonneg i]]
   rw[Z6,Yj]at this;rw[flatMap_cons,Z9,Zr,lyr,Z6]
   lia
structure qy (H:Hp) (cs:ZH) (qs:ZN):Prop where
 c1:1<= ~~~cs
 c3: ~~~cs<=3
 ca:bU H cs
 nd:(cs.map (·.2.1)).Nodup
 few:∀p∈cs,vD p.2.2
 ly: ~~~(cs.flatMap lyr)<=63
 sa:bp H (cs.flatMap lyr) qs
 ql: ~~~qs<=36
inductive sj (K:ZA)
 | mk (a:Addr) (ns:ZL):vs=[.ref a]->SqL K H a (ns\4)-> ~~~ns<=1000->(∀(t l1 l2:Addr) H' (cs:ZH) (qs:ZN),ah H H'->H' t<*[.ref l1,.ref l2]->H' l1<*cV cs->H' l2∣.lst (qs\0)->qy H' cs qs->Q (.ref t) H')->sj K vs H Q E0
def ur(T:Txt K mg):Cal P w K mg base 4 "_law_ground" ["_law_script"] (sj K):=by
 .exists T.bB,cj,a0,M,%[a,r,rfl,hs,hn|kk];refine%[_,%["JC~mF]oA0B~_NK1NK2dCG3UBCG4mZIYI^F~LA0AEBEEECG5mZIYI^F~LA0AEBEEECR~xAEA~R]pAghA0BAEBBK6Datl3AF]qAF~jA0A6AEAEBA2A4A5BBDHUA1A3B",cj.nd|M]|?_]
  show aU _ _ _ [!a,none,none,none,none,none,none] H;refine am λD1 k1 _=>?_
  lk;refine%[a,r,ρ,hs|λt C D H1 cs rs s1 N _ hC hD c1 c3 ca ac ok=>%[t,ρ,_,SqL.of N,ρ,_,_,ρ,_,_,ρ,ρ|k1 _ _ (am λD2 k2 _=>?_)]];lk;refine%[Xh _|λL B=>k2 _ _ (am λD3 k3 _=>?_)];have sL:=s1.trans (ah.upd (o:= .lst []) B);have u:=sL.seq hs;lk;refine%[a,r,0,ρ,u,!1,_,ρ,%[!1|!1],!1|k3 _ _ (am λD4 k4 _=>?_)]
  generalize decide (r.getD (Int.toNat 0) 0/2%6=1)=g
  lk;refine%[a,r,0,ρ,u,!1,_,ρ,%[!1|!1],!1|k4 _ _ ?_]
  generalize decide (r.getD (Int.toNat 0) 0/12%2=1)=j
  refine am λD5 k5 _=>az λan hK=>?_
  lk;have fL:=s1.free B;have ae:C≠L:=λe=>by rw[e,B]at hC;cases hC
  have ag:D≠L:=λe=>by rw[e,B]at hD;cases hD
  have O:=ah.upd (o:= .lst []) B _ _ hC;have U:=ah.upd (o:= .lst []) B _ _ hD;have v:bU (upd H1 L (.lst [])) cs:=λp hp=>%[ah.upd (o:= .lst []) B _ _ (ca p hp).1|(ca p hp).2]
  have G:upd H1 L (.lst []) L<*[]:=aa
  generalize upd H1 L (.lst [])=H2 at sL u O U v G
  refine%[~~~r,.inl %[_,u|(Z6 _).symm],!1,!1,by split<;> lia,by split<;> lia|?_]
  generalize hm:((if 41<(~~~r:Int)then 41 else(~~~r:Int)) -5).toNat=m
  have a1:m<=36:=by split at hm<;> lia
  refine hK _ _ (cP (λi σ I=>∃(o6:Option V) (qs:ZN),σ=[!a,!C,!D,!L,some (.bl g),some (.bl j),o6]/\ah H I/\(∀b o,b≠L->H2 b∣o->I b∣o)/\I L∣.lst (qs\0)/\ ~~~qs=i/\bp I (cs.flatMap lyr) qs)
   %[_,[],rfl,sL,(λb o _ e=>e),G,rfl|λ_ h=>nomatch h] ?_ ?_)
  .intro i σ I hi %[o6,qs,rfl,sH,Y,l,ql|J];show jG _ _ [!a,!C,!D,!L,some (.bl g),some (.bl j),some (.int (5+i))] I;refine aB λD6 k6 _=>?_
   lk;refine%[tyL (SqL.of l),a,r,5+i,211,6,ρ,sH.seq hs,⋯,⋯,!1,!1,!1,!1|λdl H3 xs s3 _ ai hx hb=>%[dl,D,xs,rs,g,j,ρ,ai,hx,hb,s3 _ _ (Y _ _ ag U),ok.nd,ok.ne (λe=>by rw[e]at c1;cases c1),by have:=ok.len;lia,λq c=>(ok.rk q c).2|λt H4 zs s4 N ak=>?_]];have y:=s3.trans s4;have ab:=y _ _ l;have al:t≠L:=λe=>by rw[e,ab]at N;cases N
   refine%[_,ab,by rw[Z6,ql];exact aD ⋯|k6 _ _ %[_,qs++[(t,zs)],ρ,ah.set (sH.trans y) fL,λb o n e=>by rw[ao n];exact y _ _ (Y b o n e),by rw[aa,Zd];rfl,by rw[Z9,ql];rfl|λq c=>?_]];rcases Xp c with z|z
   .refine%[?_|(J q z).2];rw[ao (λe=>by have:=(J q z).1;rw[e,l]at this;cases this)];exact y _ _ (J q z).1
   .rw[Xq z];refine%[by rw[ao al];exact N|ak.sub λz hz=>?_];have%[q,c|rfl]:=Xr hz;exact(ok.rk q c).1
  .intro σ I %[o6,qs,rfl,sH,Y,l,ql|J];refine k5 _ _ ?_;lk;refine%[#[2]|λp hp=>?_];have sp:=ah.upd (o:= .lst [V.ref C,V.ref L]) hp;refine kk p C L _ cs qs (sH.trans sp) aa (sp _ _ (Y _ _ ae O)) (sp _ _ l) %[c1,c3,λq c=>%[sp _ _ (Y _ _ (λe=>?_) (v q c).1)|(v q c).2],ac,λq c=>?_,by have:=yQ ok.dr;lia,λq c=>%[sp _ _ (J q c).1|(J q c).2]|⋯]
   .have:=(v q c).1;rw[e,G]at this;cases this
   .have%[w,as,hi,d|e]:=ok.dr q c;rw[e];exact d.few
abbrev NmD(ls:ZB)(f:Str->Str):List (Key×V):=ls.map λz=>(Sum.inr z,V.str (f z))
def fE:∀{ls:ZB},z∈ls->bF (NmD ls f) (Sum.inr z)∣.str (f z)
 |[],h=>(nomatch h)
 | x::ls,h=>by
   by_cases e:x=z
   .subst e;exact dW rfl
   .rw[show NmD _ f=(Sum.inr x,V.str _)::NmD ls f from rfl,cW (λq=>e (Sum.inr.inj q))];exact fE (by rcases mem_cons.mp h with q|q;exact(e q.symm).elim;exact q)
def CP:((NmD ls f).any λa=>decide (a.1=(Sum.inr z:Key)))=true↔z∈ls:=by
 rw[any_eq_true]
 constructor
 .rintro⟨a,b,c⟩;have%[x,d|rfl]:=Xr b
  simp_all
 .intro h;exact%[_,Xs %[z,h|ρ]|Zf rfl]
def pH(h:z∈ls):b8 (NmD ls f) (Sum.inr z) (.str v)=NmD ls (λx=>if x=z then v else f x):=by
 unfold b8;rw[if_pos (CP.mpr h)];unfold NmD;rw[Ys];refine Yp λx _=>?_
 show(if(Sum.inr x)=Sum.inr z then((Sum.inr x),V.str v)else(Sum.inr x,V.str _))=(Sum.inr x,V.str (if x=z then v else f x))
 by_cases e:x=z
 .rw[if_pos (congrArg _ e),if_pos e]
 .rw[if_neg (λq=>e (Sum.inr.inj q)),if_neg e]
def CQ(h:z∉ls):b8 (NmD ls id) (Sum.inr z) (.str z)=NmD (ls++[z]) id:=by
 unfold b8;rw[if_neg (λq=>h (CP.mp q))];unfold NmD;rw[Zd];rfl
abbrev yS(ls:ZB)(z:Str):Nat:=iV (ls.map λu=>[u]) [z]
def pJ(a:x∈ls)(h:aP x y=true):yS ls x<yS ls y:=by
 have:=nD (ks:=ls.map λu=>[u]) (y:=[y]) (Xs %[x,a|rfl]);rw[oE,h]at this;exact Zo this.symm
abbrev a9(qs:ZN)(a b:Str):Prop:=∃q∈qs,q.2=[.str "same",.str a,.str b]
def jx{S R:Str->Str->Prop}(F:bL ls f r S)(h:∀a b,S a b↔R a b):bL ls f r R:=by
 rw[funext λa=>funext λb=>(propext (h a b)).symm];exact F
inductive CS
 | mk (d z ls f r S):vs=[.ref d,.str z]->H d∣.dK (NmD ls f)->bL ls f r S->z∈ls->Q (.str (r z)) H->CS vs H Q E0
inductive yT
 | mk (d a b ls f r S):vs=[.ref d,.str a,.str b]->H d∣.dK (NmD ls f)->bL ls f r S->a∈ls->b∈ls-> ~~~ls<=5000->(∀f' r',bL ls f' r' (λx y=>S x y\/(x=a/\y=b))->Q .non (upd H d (.dK (NmD ls f'))))->yT vs H Q E0
def fF(T:Txt K mg):Cal P w K mg base 1 "least_pointed_to" ["names","layer"] CS:=by
 .exists T.aE,ei,o,g,%[d,z,ls,p,r,S,rfl,q,F,u|i];refine%[_,%["JC~GMuV011DG1V01DH1",ei.nd|g]|am λv k1 _=>⟨λm j e=>∃y,j=[some _,-y]/\e=H/\y∈ls/\r y=r z/\m=yS ls y,%[_,z,ρ,ρ,u,ρ|ρ],?_⟩]
  intro m j e %[y,rfl,rfl,a,b|rfl];lk;have l:=by
   have:=bQ.k (k:=Sum.inr y) q;rw[fE a]at this;exact this
  refine%[_,l,ρ|bJ (λh=>?_) λh=>?_]
  .have h:=↑h
   refine%[λc n=>c=[some _,some _]/\n=e,?_,_,l,ρ|ρ];intro c n %[rfl|rfl];exact%[_,pJ (F.fin y a) (F.dec y a h),p y,ρ,ρ,F.fin y a,(F.rf y a).trans b|ρ]
  .refine k1 _ _ ?_;rw[<-b,F.fix y a ↑h]at i;exact i
def ni(T:Txt K mg):Cal P w K mg base 2 "join_deposits" ["names","one","other"] yT:=by
 .exists T.aD,dM,l,c,%[d,a,b,ls,p,r,S,rfl,e,F,g,i,m|n];refine%[_,%["JCG3F~|A0A1BCG4F~|A0A2BDo~R~}A3A4B0]r]sA3A4B",dM.nd|c]|?_]
  show aU _ _ _ [!d,-a,-b,none,none] H;refine am λq k1 _=>?_
  lk;refine%[d,a,ls,p,r,S,ρ,e,F,g|k1 _ _ (am λu k2 _=>?_)];lk;refine%[d,b,ls,p,r,S,ρ,e,F,i|k2 _ _ (aB λv o _=>?_)];lk;have J:=F.join g i rfl rfl;have j:(if aP (r a) (r b)=true then r b else r a)∈ls:=by
   split
   .exact F.rin b i
   .exact F.rin a g
  generalize (if aP (r a) (r b)=true then r b else r a)=M at J j
  refine%[_,eT.k (k:=Sum.inr M) e (by unfold NmD;rw[Z6,PySem.sizeLine_eq];lia)|o _ _ ?_];rw[pH j];exact n _ _ J
def xR{qs:ZN}{q:Addr×ZM}(c:qs[i]?∣q)(a b:Str):a9 (qs.take (i+1)) a b↔a9 (qs.take i) a b\/q.2=[.str "same",.str a,.str b]:=by
 unfold a9;rw[Xc,c]
 simp_all
def ip{ls:ZB}(c:ls.Pairwise (λa b=>aP b a=false)){i:Nat}{z w:Str}(d:ls[i]?∣z)(hw:w∈ls)(h:aP w z=true):w∈ls.take i:=by
 rw[<-Xd i ls]at hw;rcases Xp hw with e|e
 .exact e
 .have%[hi|f]:=Xo d;have%[j,g|rfl]:=getElem_of_mem e;rw[List.getElem_drop]at h;rw[Yh]at g;by_cases l:j=0
  .subst l;rw[<-f]at h;simp only[add_zero]at h;rw[cS]at h;cases h
  .have:=List.pairwise_iff_getElem.mp c i (i+j) hi ⋯ ⋯
   grind
inductive vY (mg:ZC)
 | mk (g c2 c3 c4 qs ls ts):vs=[.ref g]->GrF mg H g c2 c3 c4 qs ls ts->ls.Nodup->ls.Pairwise (λa b=>aP b a=false)-> ~~~ls<=5000->(∀d H' r,ah H H'->H d=none->H' d∣.dK (NmD ls r)->(∀z∈ls,r z∈ls/\bN (a9 qs) z (r z))->Q (.ref d) H')->vY mg vs H Q E0
def j8{H:Hp}{g b c3 c:Addr}{qs:List _}{ls:ZB}{ts:List _}{m:Str}{R:Prop}(h:GrF mg H g b c3 c qs ls ts)(d:m="layers"\/m="sayings"\/m="ties")(k:R):∃a fs,H g∣.ins (cU mg "Ground") a fs/\List.lookup m fs=none/\R:=by
 have%[a,c1|e]:=h.at_;exact⟨a,_,e,by rcases d with rfl|rfl|rfl<;> rfl,k⟩
def dc(T:Txt K mg):Cal P w K mg base 3 "names_by_layer" ["ground"] (vY mg):=by
 .exists T.aC,bu,an,J,%[g,c2,c3,c4,qs,ls,ts,rfl,hg,nd,so,al|kk];have lm: ~~~(ls\3)= ~~~ls:=Z6 _;have qm: ~~~(qs\0)= ~~~qs:=Z6 _;refine%[_,%["JCG1sCRS=~n0K2Do212CRS=~o0iNK3NK4NK5dDOMZ3WDaF]tA1A4A5BPCRS=~n0K2DoV1V1212DH1",bu.nd|J]|?_]
  show aU _ _ _ [!g,none,none,none,none,none] H;refine am λD1 k1 _=>?_
  lk;intro d hd;refine k1 _ _ (am λD2 k2 _=>az λL hK=>?_);have s1:=ah.upd (o:= .dK []) hd;have U:upd H d (.dK []) d∣.dK (NmD (ls.take 0) id):=aa
  generalize upd H d (.dK [])=H1 at s1 U
  lk;have ab:=hg.up s1;refine j8 ab (.inl rfl) %[g,c2,c3,c4,qs,ls,ts,rfl,ab|λY M=>%[Y,rfl,%[_|SqL.of aa]|hK _ _ ?_]];have s2:=ah.upd (o:= .lst (ls\3)) M;have ac:upd H1 Y (.lst (ls\3)) Y=_:=aa;have n1:Y≠d:=λe=>by rw[e,U]at M;cases M
  have U:=s2 _ _ U
  generalize upd H1 Y (.lst (ls\3))=H2 at s2 ac U
  refine br (λi m j=>(∃n p u v,m=[!g,!d,n,p,u,v])/\ah H j/\j Y<*ls\3/\j d∣.dK (NmD (ls.take i) id))
   %[%[_,_,_,_|rfl],s1.trans s2,ac|U] (λi m j h=>h.2.2.1) ?_ ?_
  .intro i z m j B %[%[n,p,u,v|rfl],l,I|c];show nO _ _ _ _ [!g,!d,-z,p,u,v] j;refine aB λD3 k3 _=>?_
   lk;have zn:z∉ls.take i:=λhm=>by
    have h:=nd;rw[<-Xd i ls,X2]at h;exact h.2.2 z hm z (Z8 (i:=0) ((getElem?_drop)▸B)) rfl
   refine%[_,eT.k (k:=Sum.inr z) c (by unfold NmD;rw[Z6,Yl,PySem.sizeLine_eq];lia)|k3 _ _ %[%[_,_,_,_|ρ],ah.set l hd,(ao n1).trans I|?_]];rw[aa,CQ zn,Xc,B];rfl
  intro m H3 %[%[n,p,u,v|rfl],l,I|c];rw[Zn (Zi _)]at c;refine k2 _ _ (am λD4 k4 _=>az λL hK=>?_);lk;have ae:=hg.up l;refine j8 ae (.inr (.inl rfl)) %[g,c2,c3,c4,qs,ls,ts,rfl,ae|λl2 N=>%[l2,rfl,%[_|SqL.of aa]|hK _ _ ?_]];have s4:=ah.upd (o:= .lst (qs\0)) N;have ag:upd H3 l2 (.lst (qs\0)) l2=_:=aa;have n2:l2≠d:=λe=>by rw[e,c]at N;cases N
  have c:=s4 _ _ c;have ai:=l.trans s4
  generalize upd H3 l2 (.lst (qs\0))=H4 at s4 ag c ai
  refine br (λi m j=>(∃n p u v,m=[!g,!d,n,p,u,v])/\ah H j/\j l2∣.lst (qs\0)/\∃f r,j d∣.dK (NmD ls f)/\bL ls f r (a9 (qs.take i)))
   %[%[_,_,_,_|rfl],ai,ag,id,id,c|jx (bL.start ls) λa b=>%[λh=>h.elim|λ⟨q,hq,_⟩=>(nomatch hq)]] (λi m j h=>h.2.2.1) ?_ ?_
  .intro i q m j hq %[%[n,p,u,v|rfl],l,I,f,r,c|F];have%[q1|q2]:=hg.sa q (Z8 hq);have st:=l _ _ q1;have C:=xR hq;rcases q2 with⟨wd,a,b,e,hw,ha,hb,_⟩|⟨wd,a,y,e,hw,_⟩
   .rw[e]at st C;refine%[_,SqT.of st,ρ,_,_,ρ,_,_,ρ,_,_,ρ,ρ|?_];show jB _ _ _ _ [!g,!d,n,-wd,-a,-b] j;refine aB λD5 k5 _=>?_
    lk;refine bJ (λh=>?_) λh=>?_
    .have h:wd=Str.ofString "same":=↑h
     refine%[d,a,b,ls,f,r,_,ρ,c,F,ha,hb,al|λf' r' F'=>k5 _ _ %[%[_,_,_,_|ρ],ah.set l hd,(ao n2).trans I,f',r',aa|jx F' λx y=>?_]];rw[C,h];refine or_congr Iff.rfl %[λ⟨e1,e2⟩=>by rw[e1,e2]|λe=>?_];simp only[List.cons.injEq,V.str.injEq,and_true,true_and]at e;exact%[e.1.symm|e.2.symm]
    .have h:wd≠Str.ofString "same":=↑h
     refine k5 _ _ %[%[_,_,_,_|rfl],l,I,f,r,c|jx F λx y=>?_];rw[C];refine%[.inl|λe=>e.resolve_right λe=>h ?_];simp only[List.cons.injEq,V.str.injEq]at e;exact e.1
   .rw[e]at st C;refine%[_,SqT.of st,ρ,_,_,ρ,_,_,ρ,_,_,ρ,ρ|?_];show jB _ _ _ _ [!g,!d,n,-wd,-a,some (.int y)] j;refine aB λD5 k5 _=>?_
    lk;rw[if_neg (by rcases hw with rfl|rfl<;> decide)];refine k5 _ _ %[%[_,_,_,_|rfl],l,I,f,r,c|jx F λx z=>?_];rw[C];refine%[.inl|λe=>e.resolve_right λe=>?_];simp at e
  intro m H5 %[%[n,p,u,v|rfl],l,I,f,r,c|F];rw[Zn (Zi _)]at F;refine k4 _ _ (am λD6 k6 _=>az λL hK=>?_);lk;have ak:=hg.up l;refine j8 ak (.inl rfl) %[g,c2,c3,c4,qs,ls,ts,rfl,ak|λl3 O=>%[l3,rfl,%[_|SqL.of aa]|hK _ _ ?_]];have s6:=ah.upd (o:= .lst (ls\3)) O;have n3:l3≠d:=λe=>by rw[e,c]at O;cases O
  have c:=s6 _ _ c;refine br (λi m j=>(∃n p u v,m=[!g,!d,n,p,u,v])/\ah H j/\j l3<*ls\3/\∃f,j d∣.dK (NmD ls f)/\bL ls f r (a9 qs)/\∀z∈ls.take i,f z=r z)
   %[%[_,_,_,_|rfl],(l.trans s6),aa,f,c,F|λz B=>(nomatch B)] (λi m j h=>h.2.2.1) ?_ ?_
  .intro i z m j B %[%[n,p,u,v|rfl],l,I,f,c,F|G];have zm:=Z8 B;show nO _ _ _ _ [!g,!d,-z,p,u,v] j;refine aB λD7 k7 _=>?_
   lk;have get:=λy hy=>by
    have:=bQ.k (k:=Sum.inr y) c;rw[fE hy]at this;exact this
   refine%[_,get z zm,_,get _ (F.fin z zm),_,eT.k (k:=Sum.inr z) c (by unfold NmD;rw[Z6,PySem.sizeLine_eq];lia)|k7 _ _ %[%[_,_,_,_|ρ],ah.set l hd,(ao n3).trans I,_,?_,F.short zm|λy hy=>?_]]
   .rw[aa,pH zm]
   .rw[Xc,B]at hy;by_cases e:y=z
    .rw[if_pos e,e];exact F.done zm λw hw h=>G w (ip so B hw h)
    .rw[if_neg e];rcases Xp hy with h|h
     .exact G y h
     .exact(e (Xq h)).elim
  intro m H7 %[%[n,p,u,v|rfl],l,I,f,c,F|G];rw[Zn (Zi _)]at G;refine k6 _ _ ?_;lk;refine kk d H7 r l hd ?_ λz B=>%[F.rin z B|F.least B]
  rw[c];unfold NmD;rw[Yp λz B=>by rw[G z B]]
def Hh{X:Cx}{K:ZA}{T id:String}(h:X.K=K)(l:PlainAttrs T)(slot:Slot T name id)(g:typeOf (.builtin id)=pure (.type "method_descriptor"))(m:MtQ X id r)
 (b:attributeBase o name X.env (eval o X.env)=eval o X.env) (a:(e::es).any aS=false) (i:Nat.blt (e::es).length 30=true) (c:(d.endLine==f.line)=true) (n:QE X o p) (q:QA X (e::es) t):
 QE X (.Call (.Attribute o name d) (e::es) [] f) (tBM K T r p t):=by
 have j:=a;rw[Zw,X8]at j;refine⟨BI h l slot g m.h n.h q.h b ?_ c (aA j.1) (gX j.2)⟩;rw[tE a];have:decide (~~~(e::es)+ ~~~([]:List Keyword)+(if([]:List Keyword).isEmpty then 0 else 1)<30)=true:=Zf ((Nat.blt_eq.mp i));rw[this];rfl
abbrev grp(r:Str->Str)(xs:ZB):List (Str×ZB):=(xs.filter λz=>decide (r z=z)).map λz=>(z,xs.filter λx=>decide (r x=z))
def AL(h:∀z∈xs,r z=b z):grp r xs=grp b xs:=by
 unfold grp;rw[List.filter_congr λz a=>by rw[h z a]];refine Yp λz a=>?_
 rw[List.filter_congr λx c=>by rw[h x c]]
def E4(a:r z=z)(b:z∉xs)(c:∀x∈xs,r x∈xs):grp r (xs++[z])=grp r xs++[(z,[z])]:=by
 unfold grp;rw[Y3,Zd];refine congr (congrArg _ (Yp λw hw=>?_)) ?_
 .have:w≠z:=λe=>b (e▸(List.mem_filter.mp hw).1)
  rw[Y3,Y6 (by rw[a];simpa using this.symm),Y8,Zx]
 .rw[Y7 (by rw[a];simp),Y8];show [(z,_)]=_;rw[Y3,Y7 (by rw[a];simp),Y8,filter_eq_nil_iff.mpr λx d=>?_]
  .rfl
  .intro e;exact b ((Zo e)▸c x d)
def E5(a:r z≠z):grp r (xs++[z])=(grp r xs).map λp=>if p.1=r z then(p.1,p.2++[z])else p:=by
 unfold grp;rw[Y3,Y6 ↑a,Y8,Zx,Ys];refine Yp λw hw=>?_
 show(w,_)=if w=r z then(w,_)else(w,_)
 rw[Y3];by_cases e:w=r z
 .rw[if_pos e,Y7 (by simpa using e.symm),Y8]
 .rw[if_neg e,Y6 (by simpa using λq=>e q.symm),Y8,Zx]
def jy:y∈(grp r xs)\1↔y∈xs/\r y=y:=by
 unfold grp
 simp_all
def mf(h:xs.Nodup):((grp r xs)\1).Nodup:=by
 unfold grp;rw[Ys,show((λx=>x.1) ∘ λz=>(z,List.filter _ xs))=id from rfl,map_id];exact h.filter _
abbrev yU(S:Str->Str->Prop)(ls:ZB)(ds:List ZB):Prop:=∃r:Str->Str,(∀z∈ls,r z∈ls/\bN S z (r z))/\ds=(grp r ls)\2
def yU.one{S:Str->Str->Prop}(h:yU S ls ds)(g:yU S ls es):ds=es:=by
 have%[r,b|rfl]:=h;have%[d,c|rfl]:=g;rw[AL λz a=>(b z a).2.one (c z a).2]
noncomputable abbrev Gs(a:Type):=List (Str×Addr×List a)
abbrev gD{a:Type}(b:Gs a):List (Key×V):=b.map λg=>(Sum.inr g.1,V.ref g.2.1)
def jz:∀{a:Gs b},y∉a\1->bF (gD a) (Sum.inr y)=none
 |[],_=>rfl
 | g::a,h=>by
   rw[Yq,Yw,not_or]at h;rw[show gD _=(Sum.inr g.1,V.ref _)::gD a from rfl,cW (λq=>h.1 (Sum.inr.inj q).symm)];exact jz h.2
def dU:∀{a:Gs d},bF (gD a) (Sum.inr y)∣v->∃g∈a,g.1=y/\v= .ref g.2.1
 |[],h=>(nomatch h)
 | g::a,h=>by
   rw[show gD _=(Sum.inr g.1,V.ref _)::gD a from rfl]at h;by_cases e:g.1=y
   .rw[dW (congrArg Sum.inr e)]at h;exact%[g,Zm,e|(Za h).symm]
   .rw[cW (λq=>e (Sum.inr.inj q))]at h;have%[g',b|c]:=dU h;exact%[g',Zk _ b|c]
def gB:∀{a:Gs b},g∈a->bF (gD a) (Sum.inr g.1)≠none
 | x::a,h,c=>by
   rw[show gD _=(Sum.inr x.1,V.ref _)::gD a from rfl]at c;by_cases e:x.1=g.1
   .rw[dW (congrArg Sum.inr e)]at c;cases c
   .rw[cW (λq=>e (Sum.inr.inj q))]at c;rcases mem_cons.mp h with q|q
    .exact e (by rw[q])
    .exact gB q c
abbrev nH(H:Hp)(a:ZG):Prop:=∀g∈a,H g.1<*g.2\3
def nH.up{H a:Hp}{b:List _}(h:nH H b)(s:ah H a):nH a b:=λg c=>s _ _ (h g c)
structure iH {α:Type} (f:α->V) (H0 H:Hp) (d:Addr) (gs:Gs α):Prop where
 at_:H d∣.dK (gD gs)
 la:∀g∈gs,H0 g.2.1=none/\H g.2.1<*g.2.2.map f
 nd:(gs.map (·.2.1)).Nodup
def E6{f:Type}{c:Gs f}(d:(c\1).Nodup){g h:Str×Addr×List f}(i:g∈c)(j:h∈c)(e:g.1=h.1):g=h:=by
 induction c with
 | nil=>cases i
 | cons x xs l=>
   rw[Yq,nodup_cons]at d;rcases mem_cons.mp i with a|a<;> rcases mem_cons.mp j with b|b
   .rw[a,b]
   .exact(d.1 (by rw[<-a,e];exact Xs %[_,b|rfl])).elim
   .exact(d.1 (by rw[<-b,<-e];exact Xs %[_,a|rfl])).elim
   .exact l d.2 a b
def CT{f:Type}{c:Gs f}(d:(c.map (·.2.1)).Nodup){g h:Str×Addr×List f}(i:g∈c)(j:h∈c)(e:g.2.1=h.2.1):g=h:=by
 induction c with
 | nil=>cases i
 | cons x xs l=>
   rw[Yq,nodup_cons]at d;rcases mem_cons.mp i with a|a<;> rcases mem_cons.mp j with b|b
   .rw[a,b]
   .exact(d.1 (by rw[<-a,e];exact Xs %[_,b|rfl])).elim
   .exact(d.1 (by rw[<-b,<-e];exact Xs %[_,a|rfl])).elim
   .exact l d.2 a b
abbrev mj{a:Type}(y:Str)(z:a)(b:Gs a):Gs a:=b.map λg=>if g.1=y then(g.1,g.2.1,g.2.2++[z])else g
def Hj(y:Str)(z:b)(a:Gs b):gD (mj y z a)=gD a:=by
 unfold mj gD;rw[Ys];refine Yp λg _=>?_
 show(Sum.inr (if g.1=y then(g.1,g.2.1,g.2.2++[z])else g).1,V.ref (if g.1=y then(g.1,g.2.1,g.2.2++[z])else g).2.1)=_
 split<;> rfl
def Hk(y:Str)(z:b)(a:Gs b):(mj y z a).map (·.2.1)=a.map (·.2.1):=by
 unfold mj;rw[Ys];refine Yp λg _=>?_
 show(if g.1=y then(g.1,g.2.1,g.2.2++[z])else g).2.1=_
 split<;> rfl
def Hl(y:Str)(z:b)(a:Gs b):(mj y z a).map (λg=>(g.1,g.2.2))=(a.map λg=>(g.1,g.2.2)).map λp=>if p.1=y then(p.1,p.2++[z])else p:=by
 unfold mj;rw[Ys,Ys];refine Yp λg _=>?_
 show((if g.1=y then(g.1,g.2.1,g.2.2++[z])else g).1,(if g.1=y then(g.1,g.2.1,g.2.2++[z])else g).2.2)=if g.1=y then(g.1,g.2.2++[z])else(g.1,g.2.2)
 split<;> rfl
def iH.up{a:Type}{f:a->V}{b H c:Hp}{d:Addr}{e:Gs a}(h:iH f b H d e)(s:ah H c):iH f b c d e:=%[s _ _ h.at_,λg i=>%[(h.la g i).1|s _ _ (h.la g i).2]|h.nd]
def iH.add{a:Type}{f:a->V}{l H:Hp}{d:Addr}{b:Gs a}(h:iH f l H d b)(m:(b\1).Nodup){g:Str×Addr×List a}(c:g∈b)(z:a):iH f l (upd H g.2.1 (.lst (g.2.2.map f++[f z]))) d (mj g.1 z b):=by
 refine%[?_,λg' j=>?_|by rw[Hk];exact h.nd]
 .rw[Hj,ao (λe=>by have:=(h.la g c).2;rw[<-e,h.at_]at this;cases this)];exact h.at_
 .have%[n,i|rfl]:=Xr j;by_cases e:n.1=g.1
  .rw[if_pos e];obtain rfl:=E6 m i c e;refine%[(h.la _ c).1|?_];rw[aa,Zd];rfl
  .rw[if_neg e];refine%[(h.la _ i).1|?_];rw[ao (λq=>e (by rw[CT h.nd i c q]))];exact(h.la _ i).2
def iH.new{l:Gs n}(h:iH f m H d l)(s:ah m H)(j:H e=none)(y:Str)(z:n)(o:y∉l\1):iH f m (upd (upd (upd H e (.lst [])) d (.dK (b8 (gD l) (Sum.inr y) (.ref e)))) e (.lst [f z])) d (l++[(y,e,[z])]):=by
 refine%[?_,λg i=>?_|?_]
 .rw[ao (λq=>by rw[<-q,h.at_]at j;cases j),aa,dh _ (jz o)];unfold gD;rw[Zd];rfl
 .rcases Xp i with i|i
  .refine%[(h.la g i).1|?_];have q:=(h.la g i).2;rw[ao (λc=>by rw[c,j]at q;cases q),ao (λc=>by rw[c,h.at_]at q;cases q),ao (λc=>by rw[c,j]at q;cases q)];exact q
  .rw[Xq i];exact%[s.free j|aa]
 .rw[Zd,X2];refine%[h.nd,by simp|λa p b r c=>?_];have%[g,i|rfl]:=Xr p;have q:=(h.la g i).2
  simp_all
inductive yV (mg:ZC)
 | mk (g c2 c3 c4 qs ls ts):vs=[.ref g]->GrF mg H g c2 c3 c4 qs ls ts->ls.Nodup->ls.Pairwise (λa b=>aP b a=false)-> ~~~ls<=5000->(∀l H' ss,ah H H'->H l=none->H' l∣.lst (ss\0)->nH H' ss->(∀s∈ss,H s.1=none)->yU (a9 qs) ls (ss\2)-> ~~~ss<=5000->Q (.ref l) H')->yV mg vs H Q E0
inductive CU (mg:ZC)
 | mk (g c2 c3 c4 qs ls ts z):vs=[.ref g,.str z]->GrF mg H g c2 c3 c4 qs ls ts->ls.Nodup->ls.Pairwise (λa b=>aP b a=false)-> ~~~ls<=5000->z∈ls->(∀H' m,ah H H'->bN (a9 qs) z m->Q (.str m) H')->CU mg vs H Q E0
def xS(T:Txt K mg):Cal P w K mg base 4 "deposits" ["ground"] (yV mg):=by
 .exists T.aG,fM,a5,C,%[g,c2,c3,c4,qs,ls,ts,rfl,hg,nd,so,ak|kk];have lm: ~~~(ls\3)= ~~~ls:=Z6 _;refine%[_,%["JCG1F~SA0BCG2sCRS=~n0K3Da~pl~q~r2AV13AUBBA3BDH|]uA~[~02B",fM.nd|C]|?_]
  show aU _ _ _ [!g,none,none,none] H;refine am λD1 k1 _=>?_
  lk;refine%[g,c2,c3,c4,qs,ls,ts,ρ,hg,nd,so,ak|λd H1 r s1 fd I C=>k1 _ _ (am λD2 k2 _=>?_)];lk;intro e fe;refine k2 _ _ (am λD3 k3 _=>az λa4 hK=>?_);have al:d≠e:=λc=>by rw[c,fe]at I;cases I
  have s2:=ah.upd (o:= .dK []) fe;have ge:upd H1 e (.dK []) e∣.dK (gD ([]:Gs Str)):=aa;have I:=s2 _ _ I;have fe:=s1.free fe;have U:=s1.trans s2
  generalize upd H1 e (.dK [])=H2 at s2 ge I U
  lk;have ab:=hg.up U;refine j8 ab (.inl rfl) %[g,c2,c3,c4,qs,ls,ts,rfl,ab|λl1 an=>%[l1,rfl,%[_|SqL.of aa]|hK _ _ ?_]];have s3:=ah.upd (o:= .lst (ls\3)) an;have J:upd H2 l1 (.lst (ls\3)) l1=_:=aa;have I:=s3 _ _ I;have ge:=s3 _ _ ge;have ac:=U.trans s3
  generalize upd H2 l1 (.lst (ls\3))=H3 at s3 J I ge ac
  have r2:∀z∈ls,r (r z)=r z:=λz L=>by
   have h:=(C z L)
   have h2:=(C _ h.1).2;exact h2.one %[.refl _|λy c=>h.2.2 y (h.2.1.trans c)]
  have ae:∀z∈ls,r z≠z->aP (r z) z=true:=λz L h=>dL ((C z L).2.2 z (.refl _)) h.symm
  obtain⟨M,as,a0,a1,Y,s0⟩:∃M:Hp,M e=none/\M d∣.dK (NmD ls r)/\M l1<*ls\3/\ah H M/\ah M H3:=by
   refine%[λa=>if a=e then none else H3 a,if_pos rfl,?_,?_,λa o h=>?_|λa o h=>?_]
   .exact(if_neg (λc=>al c)).trans I
   .exact(if_neg (λc=>by rw[c,ge]at J;cases J)).trans J
   .exact(if_neg (λc=>by rw[c,fe]at h;cases h)).trans (ac _ _ h)
   .have h:(if a=e then none else H3 a)∣o:=h
    split at h
    .cases h
    .exact h
  refine br (λi σ H'=>(∃o3,σ=[!g,!d,!e,o3])/\ah M H'/\∃u,iH V.str M H' e u/\u.map (λg=>(g.1,g.2.2))=grp r (ls.take i))
   %[%[_|rfl],s0,[],%[ge,λg hg=>(nomatch hg)|X4]|rfl] (λi σ H' h=>h.2.1 _ _ a1) ?_ ?_
  .intro i z σ H' L %[%[o3|rfl],N,u,b|n];have zm:=Z8 L;have i1:i< ~~~ls:=(Xo L).1;show jG _ _ [!g,!d,!e,-z] H';refine aB λD4 k4 _=>?_
   lk;have get:=bQ.k (k:=Sum.inr z) (N _ _ a0);rw[fE zm]at get;have gk:u\1=(grp r (ls.take i))\1:=by rw[<-n,Ys];rfl
   have ag:(u\1).Nodup:=by rw[gk];exact mf (nd.sublist (List.take_sublist _ _))
   have gl: ~~~u<= ~~~ls:=by
    have:=_ST.nodup_sub ag (m:=ls) λy hy=>by rw[gk,jy]at hy;exact Yy hy.1
    rw[Z6]at this;exact this
   have zn:z∉ls.take i:=λhm=>by
    have h:=nd;rw[<-Xd i ls,X2]at h;exact h.2.2 z hm z (Z8 (i:=0) (by rw[getElem?_drop];exact L)) rfl
   have tk:ls.take (i+1)=ls.take i++[z]:=by rw[Xc,L];rfl
   refine%[tyD (b.at_),_,get,#[0]|λp O=>%[Sum.inr (r z),ρ,gD u,?_,?_,λv hv=>?_|λhv=>?_]]
   .rw[ao (λc=>by rw[<-c,b.at_]at O;cases O)];exact b.at_
   .unfold gD;rw[Z6];exact aD ⋯
   .have%[q,B,e1|rfl]:=dU hv;have a2:q.1∈u\1:=Xs %[q,B|rfl];have ai:=a2;rw[gk,jy,e1]at ai;have rn:r z≠z:=λc=>zn (by exact c▸ai.1)
    have sp:=ah.upd (o:= .lst []) O;have hl:=sp _ _ (b.la q B).2;have G:=(b.up sp).add ag B z;have ml: ~~~q.2.2<= ~~~ls:=by
     have:(q.1,q.2.2)∈grp r (ls.take i):=n▸Xs %[q,B|rfl];have%[y,hy|c]:=Xr this;exact((Prod.mk.inj c).2)▸Yg (Yi _ _) (by rw[Yl];lia)
    refine%[tyL (SqL.of hl),_,ρ,_,hl,by rw[Z6];exact aD ⋯|k4 _ _ %[%[_|ρ],ah.set (N.trans sp) (b.la q B).1,_,G|?_]];rw[Hl,n,tk,E5 rn,e1]
   .have nk:r z∉u\1:=λh=>by
     have%[q,B|c]:=Xr h;have:=gB B;rw[c,hv]at this;exact this rfl
    have rz:r z=z:=Decidable.byContradiction λc=>nk (by rw[gk,jy];exact%[ip so L (C z zm).1 (ae z zm c)|r2 z zm])
    have de:e≠p:=λq=>by rw[<-q,b.at_]at O;cases O
    rw[rz]at hv nk ⊢;have gp:upd (upd H' p (.lst [])) e (.dK (b8 (gD u) (Sum.inr z) (.ref p))) p<*[]:=by rw[ao de.symm,aa]
    refine%[tyL (SqL.of gp),[],gp,(show 0<sizeLine by decide)|k4 _ _ %[%[_|ρ],ah.set (ah.set (N.trans (ah.upd O)) as) (N.free O),_,b.new N O z z nk|?_]];rw[Zd,n,tk,E4 rz zn λx hx=>?_]
    .rfl
    .have%[j|hj]:=List.mem_iff_getElem?.mp hx;have xm:=Yy hx;by_cases c:r x=x
     .rw[c];exact hx
     .have ji:j<i:=by have:=(Xo hj).1;rw[Yl]at this;lia
      rw[Yc ji]at hj;exact List.take_subset_take_left _ (Ye ji) (ip so hj (C x xm).1 (ae x xm c))
  intro σ H' %[%[o3|rfl],N,u,b|n];rw[Zn (Zi _)]at n;refine k3 _ _ ?_;lk;have gk:u\1=(grp r ls)\1:=by rw[<-n,Ys];rfl
  have gl: ~~~u<= ~~~ls:=by
   have:=_ST.nodup_sub (l:=u\1) (gk▸mf nd) (m:=ls) λy hy=>by rw[gk,jy]at hy;exact hy.1
   rw[Z6]at this;exact this
  refine%[tyD (b.at_),%[_|b.at_]|λv fv=>%[e,aa,_,ah.upd fv _ _ b.at_|λl fl=>?_]];have sv:=ah.upd (o:=kJ v e) fv;have sl:=ah.upd (o:= .lst ((gD u)\2)) fl;have a3:=N.trans (sv.trans sl);refine kk l _ (u\2) (Y.trans a3) ((Y.trans (N.trans sv)).free fl) ?_ (λs hs=>?_) (λs hs=>?_) %[r,C|?_] (by rw[Z6];lia)
  .rw[aa];unfold gD;rw[Ys,Ys];rfl
  .have%[q,B|rfl]:=Xr hs;exact sl _ _ (sv _ _ (b.la q B).2)
  .have%[q,B|rfl]:=Xr hs;exact Y.free (b.la q B).1
  .rw[<-n,Ys,Ys];rfl
structure cq (S:Str->Str->Prop) (ks0 ks:List _):Prop where
 nd:ks.Nodup
 mem:∀k,k∈ks↔∃a b z a' b',[a,b,z]∈ks0/\bN S a a'/\bN S b b'/\k=[a',b',z]
def cq.mm{S:Str->Str->Prop}{a ks ms:List ZB}(h:cq S a ks)(g:cq S a ms)(k:ZB):k∈ks↔k∈ms:=(h.mem k).trans (g.mem k).symm
def II{ks ms:List ZB}(e:∀k,k∈ks↔k∈ms):Ed ks=Ed ms:=by
 funext a b;simp only[Ed,e]
def vZ{ks ms:List ZB}(e:∀k,k∈ks↔k∈ms):Dst ks=Dst ms:=by
 funext a n b;simp only[Dst,e]
def pK{ks ms:List ZB}(e:∀k,k∈ks↔k∈ms):Rch ks=Rch ms:=by
 funext a b;have q:∀{ks},Rch ks a b↔∃n,Dst ks a (n+1) b:=%[Rch.dst|λ⟨_,h⟩=>h.rch]
 rw[propext q,propext q,vZ e]
abbrev iq(r:Str->Str):ZB->ZB
 |[a,b,z]=>[r a,r b,z]
 | k=>k
def pL{S:Str->Str->Prop}{c:List ZB}{ls:ZB}{r:Str->Str}(l:∀k∈c,dz ls k)(f:∀z∈ls,bN S z (r z))(k:ZB):k∈c.map (iq r)↔∃a b z g h,[a,b,z]∈c/\bN S a g/\bN S b h/\k=[g,h,z]:=by
 rw[Yx]
 constructor
 .rintro⟨t,d,rfl⟩;have%[a,b,z,rfl,i|j]:=l t d;exact%[a,b,z,r a,r b,d,f a i,f b j|ρ]
 .rintro⟨a,b,z,g,h,d,m,n,rfl⟩;have%[x,y,u,e,i|j]:=l _ d;simp only[List.cons.injEq,and_true]at e;have%[rfl,rfl|rfl]:=e;exact%[_,d|by rw[<-(f a i).one m,<-(f b j).one n];rfl]
inductive v0 (mg:ZC)
 | mk (g c2 c3 c4:Addr) (qs:ZN) (ls:ZB) (ts:ZG):vs=[.ref g]->GrF mg H g c2 c3 c4 qs ls ts->ls.Nodup->ls.Pairwise (λa b=>aP b a=false)-> ~~~ls<=5000-> ~~~ts<=150->(∀k∈ts\2,dz ls k)->(∀l H' ss,ah H H'->H l=none->H' l∣.lst (ss\0)->aK H' ss->cq (a9 qs) (ts\2) (ss\2)-> ~~~ss<=150->Q (.ref l) H')->v0 mg vs H Q E0
def E7(T:Txt K mg):Cal P w K mg base 4 "links" ["ground"] (v0 mg):=by
 .exists T.aJ,vE,as,n,%[g,O,c3,U,qs,ls,ts,rfl,hg,nd,so,Y,a0,h3|kk];refine%[_,%["JC:1qrF~SA0BDH)~,A~B~.Aec?1S=]v0iNX0?2NX1?2NX2?2dyjAVQ30AVQ31A2BBB",vE.nd,↑(["later","earlier","source","names"],[(3,1)]),↑["later","earlier","source","names"]|n]|?_]
  show aU _ _ _ [!g,none] H;refine am λD1 k1 _=>?_
  lk;refine%[g,O,c3,U,qs,ls,ts,ρ,hg,nd,so,Y|λd H1 r s1 fd hd n=>k1 _ _ ?_];lk;refine aG λan hK=>?_
  lk;have u:=hg.up s1;refine j8 u (.inr (.inr rfl)) %[g,O,c3,U,qs,ls,ts,rfl,u|λJ ab=>%[J,rfl,%[_|SqL.of aa]|hK _ _ λF hF=>?_]];have L:=ah.upd (o:= .lst (ts\0)) ab;have v:upd H1 J (.lst (ts\0)) J=_:=aa
  generalize upd H1 J (.lst (ts\0))=H2 at L v hF
  have ac:=L _ _ hd;have ae:=(u.up L).tu;refine ce (λj vs σ M=>(∃o1 o2 o3,σ=[o1,o2,o3,!d])/\ah H2 M/\M F<*vs/\∃ps:ZG,vs=ps\0/\aK M ps/\ps\2=((ts.take j)\2).map (iq r))
   %[%[none,none,none|rfl],ah.upd hF,aa,[],rfl,d6 _|rfl] (λ_ _ _ M ag=>ag.2.1 _ _ v) ?_ ?_
  .intro j vs σ H4 hj %[%[o1,o2,o3|rfl],B,C,ps,N,i|c];have tj:=Yd hj;have%[a,b,z,e,ha|hb]:=h3 _ (Xs %[_,tj|rfl]);have st:=B _ _ (ae _ tj).2;rw[e]at st;have get:∀y∈ls,bQ H4 d (.str y) (some (.str (r y))):=λy hy=>by
    have:=bQ.k (k:=Sum.inr y) (B _ _ ac);rw[fE hy]at this;exact this
   refine%[_,SqT.of st,ρ,_,_,ρ,_,_,ρ,_,_,ρ,ρ|?_];show D0 [-a,-b,-z,!d] _ _;lk;refine%[_,get a ha,_,get b hb,#[3]|λp hp=>?_];have sp:=ah.upd (o:= .tup [V.str (r a),V.str (r b),V.str z]) hp;have gp:upd H4 p (.tup [V.str (r a),V.str (r b),V.str z]) p=_:=aa
   generalize upd H4 p (.tup [V.str (r a),V.str (r b),V.str z])=H5 at sp gp ⊢
   have keep:=io (ys:=vs++[V.ref p]) (sp _ _ C);have pl:=congrArg List.length c;rw[Z6,Z6,Z6,Yl]at pl;refine CK.mk hj (sp _ _ C) (by rw[N,Z6];exact aD ⋯) %[%[_,_,_|rfl],ah.set (B.trans sp) hF,aa,ps++[(p,[r a,r b,z])],by rw[N,Zd];rfl,aE (eP (aE i λb z e=>sp _ _ e) ∅ gp) keep|?_];rw[Zd,c,Xc,Z4 hj,Zd,Zd];show _++[_]=_++[iq r ts[j].2];rw[e];rfl
  intro vs σ H3 %[_,B,ai,ps,N,i|c];rw[Zn (Zi _)]at c;have pl:=congrArg List.length c;rw[Z6,Z6,Z6]at pl;have p3:∀q∈ps,~~~q.2=3:=λq l=>by
   have:q.2∈ps\2:=Xs %[q,l|rfl];rw[c]at this;have%[k,hk|e]:=Xr this;have%[a,b,z,rfl|_]:=h3 k hk;rw[<-e];rfl
  refine%[F,ρ,ps,by rw[<-N];exact SqL.of ai,i,%[ps\2,by rw[Z6];lia|λq l=>Xs %[q,l|ρ]]|λl5 ak=>?_];have s5:=ah.upd (o:=oC P w l5 (bo ps)) ak;have few: ~~~(bo ps)<=150:=by
   have:=_ST.nodup_sub (dQ ps) (m:=ps\2) λk hk=>by
    have%[q,l|rfl]:=Xr hk;exact Xs %[q,bz ps q l|rfl]
   rw[Z6,Z6]at this
   lia
  refine%[bo ps,aa,λq l=>%[(i q (bz ps q l)).1|s5 _ _ (i q (bz ps q l)).2],3,λq l=>p3 q (bz ps q l),!1,⋯|λl6 ss G pm=>?_];have s6:=ah.upd (o:= .lst (ss\0)) G;have I:=s1.trans (L.trans (B.trans s5));have pk:(ss\2).Perm ((bo ps)\2):=pm.map _;refine kk l6 _ ss (I.trans s6) (I.free G) aa (λq l=>?_) %[pk.nodup_iff.mpr (dQ ps)|λk=>?_] (by rw[pm.length_eq];exact few)
  .have al:=pm.mem_iff.mp l;have:=i q (bz ps q al);exact%[this.1|s6 _ _ (s5 _ _ this.2)]
  .rw[pk.mem_iff,h9,c];exact pL h3 (λz hz=>(n z hz).2) k
def CV{S:Str->Str->Prop}(c:ls.Pairwise (λa b=>aP b a=false))(h:∀z∈ls,r z∈ls/\bN S z (r z))(f:p∈grp r ls):p.2[0]?∣p.1:=by
 unfold grp at f;have%[z,i|rfl]:=Xr f;have%[j|l]:=List.mem_filter.mp i;have d:z∈ls.filter (λx=>decide (r x=z)):=List.mem_filter.mpr %[j|l];have c:=c.sublist (List.filter_sublist (p:=λx=>decide (r x=z)));have all:∀x∈ls.filter (λx=>decide (r x=z)),aP x z=false:=λx m=>by
  have%[n|o]:=List.mem_filter.mp m;rw[<-Zo o];exact(h x n).2.2 x (.refl _)
 show(ls.filter λx=>decide (r x=z))[0]?∣z
 generalize ls.filter (λx=>decide (r x=z))=g at all d c
 cases g with
 | nil=>cases d
 | cons y g=>
   rw[List.getElem?_cons_zero];rcases mem_cons.mp d with e|e
   .rw[e]
   .have a:=(List.pairwise_cons.mp c).1 z e;by_cases q:y=z
    .rw[q]
    .have:=dL (all y Zm) q;rw[a]at this;cases this
structure sk (S:Str->Str->Prop) (ls ns:ZB):Prop where
 nd:ns.Nodup
 mem:∀x,x∈ns↔x∈ls/\bN S x x
 so:ns.Pairwise (λa b=>aP b a=false)
 ne:ls≠[]->ns≠[]
def Hm{S:Str->Str->Prop}{ls:ZB}{r:Str->Str}(b:∀z∈ls,r z∈ls/\bN S z (r z))(h:ls≠[]):(grp r ls)\1≠[]:=by
 have%[z|e]:=List.exists_mem_of_ne_nil _ h;have%[c|a]:=b z e;have f:bN S (r z) (r z):=%[a.1.symm.trans a.1|λy d=>a.2 y (a.1.trans d)]
 exact List.ne_nil_of_mem (jy.mpr %[c|(b _ c).2.one f])
def Ho{r:Str->Str}{xs:ZB}(h:xs.Pairwise (λa b=>aP b a=false)):((grp r xs)\1).Pairwise (λa b=>aP b a=false):=by
 unfold grp;rw[Ys];show List.Pairwise _ (List.map (λz=>z) _);rw[List.map_id'];exact h.filter _
inductive sr (mg:ZC)
 | mk (g c2 c3 c4 qs ls ts):vs=[.ref g]->GrF mg H g c2 c3 c4 qs ls ts->ls.Nodup->ls.Pairwise (λa b=>aP b a=false)-> ~~~ls<=5000->(∀l H' ns,ah H H'->H l=none->H' l<*ns\3->sk (a9 qs) ls ns->Q (.ref l) H')->sr mg vs H Q E0
def ee(T:Txt K mg):Cal P w K mg base 5 "deposit_names" ["ground"] (sr mg):=by
 .exists T.aI,lW,L,a,%[g,v,c3,y,qs,ls,ts,rfl,M,nd,e,i|N];refine%[_,%["JDHec?1SF]wA0BX0?2yT0E",0,↑(["group"],[]),↑["group"]|a]|?_];show fG _ _ [!g] H;lk;refine aG λB O=>?_
  lk;refine%[g,v,c3,y,qs,ls,ts,ρ,M,nd,e,i|λU Y ss C f1 G la _ ⟨r,a,I⟩ ab=>%[U,ρ,%[_|SqL.of G]|O _ _ λF l=>?_]];have sg: ~~~ss= ~~~(grp r ls):=by
   have:=congrArg List.length I;rwa[Z6,Z6]at this
  refine ce (λj vs m n=>(∃J,m=[J])/\ah Y n/\n F<*vs/\vs=(((grp r ls).take j)\1)\3)
   %[%[none|rfl],ah.upd l,aa|rfl] (λ_ _ _ n o=>o.2.1 _ _ G) ?_ ?_
  .intro j vs m H4 p %[%[J|rfl],d,q|b];have u:j< ~~~(grp r ls):=by lia
   have e2:ss[j].2=(grp r ls)[j].2:=by
    have:=congrArg (λz=>z[j]?) I;simpa [p,u]using this
   lk;refine%[_,SqL.of (d _ _ (la _ (Yd p))),_,(show atI (ss[j].2\3) ((0:Nat):Int)∣_ from b7 (by rw[Zl,e2,(CV e a (Yd u))];rfl))|?_];refine CK.mk p q (by rw[b,Z6,Z6,Yl];exact aD ⋯) %[%[_|rfl],ah.set d l,aa|?_];rw[b,Xc,Z4 u,Zd,Zd];rfl
  intro vs m H3 %[_,d,c|b];rw[Zn ⋯]at b;rw[b]at c;refine N F H3 _ (C.trans d) (C.free l) c %[mf nd,λx=>?_,Ho e|Hm a];rw[jy];refine%[λh=>%[h.1|by have:=(a x h.1).2;rwa[h.2]at this]|λh=>%[h.1|(a x h.1).2.one h.2]]
abbrev GrB(H:Hp)(d:Addr)(ss:ZG)(i:Nat):Prop:=∃a,H d∣.dK a/\∀n:Str,(∃l,bF a (Sum.inr n)∣.ref l/\H l∣.lst ((ss.filter λt=>decide (t.2[i]? =some n))\0))\/(bF a (Sum.inr n)=none/\∀t∈ss,t.2[i]? ≠some n)
def GrB.up(h:GrB H d ss i)(s:ah H e):GrB e d ss i:=by
 have%[c,f|g]:=h;exact%[c,s _ _ f|λn=>(g n).imp_left λ⟨l,a,b⟩=>%[l,a|s _ _ b]]
abbrev cT(H:Hp)(a:ZB)(ss:ZG):Prop:=∀t∈ss,H t.1&&&t.2\3/\dz a t.2
def cT.up(h:cT H b ss)(s:ah H c):cT c b ss:=λt a=>%[s _ _ (h t a).1|(h t a).2]
def Hq(h:dz c k)(hi:i<2):∃n,k[i]?∣n/\n∈c:=by
 have%[a,b,z,rfl,d|e]:=h
 match i,hi with
 | 0,_=>exact%[a,ρ|d]
 | 1,_=>exact%[b,ρ|e]
abbrev TxK(H:Hp)(d:Addr):Prop:=∀a,H d∣.dK a->∃ks:ZB,a\1=ks.map Sum.inr/\ks.Nodup
inductive pM
 | mk (l:Addr) (i:Nat) (ns:ZB) (ss:ZG):vs=[.ref l,.int i]->i<2->H l∣.lst (ss\0)->cT H ns ss-> ~~~ss<=150->(∀d H',ah H H'->H d=none->GrB H' d ss i->TxK H' d->Q (.ref d) H')->pM vs H Q E0
inductive CW (i:Nat)
 | mk (l:Addr) (ns:ZB) (ss:ZG):vs=[.ref l]->H l∣.lst (ss\0)->cT H ns ss-> ~~~ss<=150->(∀d H',ah H H'->H d=none->GrB H' d ss i->Q (.ref d) H')->CW i vs H Q E0
inductive CY
 | mk (l:Addr) (ns:ZB) (ss:ZG):vs=[.ref l]->H l∣.lst (ss\0)->cT H ns ss-> ~~~ss<=150->(∀d H',ah H H'->H d=none->GrB H' d ss 0->TxK H' d->Q (.ref d) H')->CY vs H Q E0
def sw(T:Txt K mg):Cal P w K mg base 1 "grouped" ["found","side"] pM:=by
 .exists T.aM,jZ,ag,hr,%[l,i,ns,ss,rfl,hi,hl,ab,ai|kk];have ak: ~~~(ss\0)= ~~~ss:=Z6 _;refine%[_,%["JCG2sCRS0K3Da~pl~q~r2AL31AUBBA3BDH2"|jZ.nd]|?_]
  show aU _ _ _ [!l,some (.int i),none,none] H;refine am λD1 k1 _=>?_
  lk;intro e fe;refine k1 _ _ (am λD2 k2 _=>az λae hK=>?_);lk;have se:=ah.upd (o:= .dK []) fe;refine%[%[_|SqL.of (se _ _ hl)]|hK _ _ ?_];refine br (λj σ u=>(∃o3,σ=[!l,some (.int i),!e,o3])/\ah H u/\∃m,iH (λt:Addr×ZB=>V.ref t.1) H u e m/\(m\1).Nodup/\(∀g∈m,g.2.2=(ss.take j).filter λt=>decide (t.2[i]?∣g.1))/\∀n,n∈m\1↔∃t∈ss.take j,t.2[i]?∣n)
   %[%[_|rfl],se,[],%[aa,λg B=>(nomatch B)|X4],X4,λg B=>(nomatch B)|by simp] (λj σ u h=>h.2.1 _ _ hl) ?_ ?_
  .intro j t σ u I %[%[o3|rfl],J,m,d,O,L|U];have tm:=Z8 I;have j1:j< ~~~ss:=(Xo I).1;have%[n,M|_]:=Hq (ab t tm).2 hi;have tk:ss.take (j+1)=ss.take j++[t]:=by rw[Xc,I];rfl
   show jG _ _ [!l,some (.int i),!e,some (.ref t.1)] u;refine aB λD4 k4 _=>?_
   lk;have gl: ~~~m<= ~~~ss:=by
    have:m\1 ⊆ ss.filterMap λt=>t.2[i]? :=λy hy=>by
     have%[t,I|e]:=(U y).mp hy;exact mem_filterMap.mpr %[t,Yy I|e]
    have:=_ST.nodup_sub O λx hx=>this hx
    rw[Z6]at this;exact Yg this (length_filterMap_le _ _)
   have st:=J _ _ (ab t tm).1;have keys:∀(N:Gs (Addr×ZB)),(∀y,y∈N\1↔y∈m\1\/y=n)->∀y,y∈N\1↔∃t∈ss.take (j+1),t.2[i]?∣y:=λN h y=>by
    rw[h,U,tk]
    constructor
    .rintro(⟨t',h1,h2⟩|rfl)
     .exact%[t',Yu _ h1|h2]
     .exact%[t,Yv _ Zm|M]
    .rintro⟨t',h1,h2⟩;rcases Xp h1 with q|q
     .exact .inl %[t',q|h2]
     .rw[Xq q,M]at h2;exact .inr (Za h2).symm
   refine%[tyD (d.at_),_,SqT.of st,_,b7 (show(t.2\3)[i]?∣.str n by rw[Zl,M];rfl),#[0]|λp C=>%[Sum.inr n,ρ,gD m,?_,?_,λv Y=>?_|λY=>?_]]
   .rw[ao (λc=>by rw[<-c,d.at_]at C;cases C)];exact d.at_
   .unfold gD;rw[Z6];exact aD ⋯
   .have%[q,r,e1|rfl]:=dU Y;have sp:=ah.upd (o:= .lst []) C;have hl:=sp _ _ (d.la q r).2;have G:=(d.up sp).add O r t;have ml: ~~~q.2.2<= ~~~ss:=by
     rw[L q r];exact Yg (Yi _ _) (by rw[Yl];lia)
    have ka:(mj q.1 t m)\1=m\1:=by
     unfold mj;rw[Ys];refine Yp λg _=>?_
     show(if g.1=q.1 then(g.1,g.2.1,g.2.2++[t])else g).1=_
     split<;> rfl
    refine%[tyL (SqL.of hl),_,ρ,_,hl,by rw[Z6];exact aD ⋯|k4 _ _ %[%[_|ρ],ah.set (J.trans sp) (d.la q r).1,_,G,by rw[ka];exact O,λg B=>?_|keys _ λy=>?_]]
    .unfold mj at B;have%[g0,h0|rfl]:=Xr B;rw[tk,Y3];by_cases c:g0.1=q.1
     .rw[if_pos c];show g0.2.2++[t]=_++List.filter (λt=>decide (t.2[i]?∣g0.1)) [t];rw[L g0 h0,Y7 (by rw[M,c,e1];simp),Y8]
     .rw[if_neg c,L g0 h0,Y6 (by rw[M,<-e1];simpa using λz=>c z.symm),Y8,Zx]
    .rw[ka];exact%[.inl|λh=>h.elim id λh=>by rw[h,<-e1];exact Xs %[q,r|ρ]]
   .have nk:n∉m\1:=λh=>by
     have%[q,r|c]:=Xr h;have:=gB r;rw[c,Y]at this;exact this rfl
    have de:e≠p:=λq=>by rw[<-q,d.at_]at C;cases C
    have gp:upd (upd u p (.lst [])) e (.dK (b8 (gD m) (Sum.inr n) (.ref p))) p<*[]:=by rw[ao de.symm,aa]
    refine%[tyL (SqL.of gp),[],gp,(show 0<sizeLine by decide)|k4 _ _ %[%[_|ρ],ah.set (ah.set (J.trans (ah.upd C)) fe) (J.free C),_,d.new J C n t nk,?_,λg B=>?_|keys _ λy=>?_]]
    .rw[Zd,X2];exact%[O,by simp|λa ha b hb c=>nk (by rw[<-show b=n from Xq hb,<-c];exact ha)]
    .rw[tk,Y3];rcases Xp B with q|q
     .have c:g.1≠n:=λc=>nk (by rw[<-c];exact Xs %[g,q|rfl])
      rw[L g q,Y6 (by rw[M];simpa using λz=>c z.symm),Y8,Zx]
     .rw[Xq q];show [t]=_++List.filter (λt=>decide (t.2[i]?∣n)) [t];rw[Y7 (by rw[M];simp),Y8,filter_eq_nil_iff.mpr λt' ac c=>nk ((U n).mpr %[t',ac|Zo c])];rfl
    .rw[Zd,Yt,Yq,map_nil,Yz]
  .intro σ u %[%[o3|rfl],J,m,d,O,L|U];rw[Zn (Zi _)]at L U;refine k2 _ _ ?_;lk;refine kk e u J fe %[_,d.at_|λn=>?_] (λal h=>by rw[d.at_]at h;cases h;exact%[m\1,by unfold gD;rw[Ys,Ys];rfl|O]);cases Y:bF (gD m) (Sum.inr n)with
   | none=>
     refine .inr %[rfl|λt I c=>?_];have%[q,r|c]:=Xr ((U n).mpr %[t,I|c]);have:=gB r;rw[c,Y]at this;exact this rfl
   | some v=>
     have%[q,r,e1|rfl]:=dU Y;refine .inl %[_,rfl|?_];rw[(d.la q r).2,L q r,e1]
def fU(T:Txt K mg):Cal P w K mg base 2 "links_by_later" ["found"] CY:=by
 .exists T.aK,kO,d,e,%[l,c,ss,rfl,g,a,b|i];refine%[_,%["JDHF~1A0A>B",0|e]|?_];show fG _ _ [!l] H;lk;exact%[l,0,c,ss,ρ,!1,g,a,b|i]
def df(T:Txt K mg):Cal P w K mg base 2 "links_by_later" ["found"] (CW 0):=
 (fU T).imp λvs H Q E ⟨l,e,ss,f,g,h,i,j⟩=>%[l,e,ss,f,g,h,i|λd m a b c _=>j d m a b c]
inductive CZ
 | mk (l:Addr) (ns:ZB) (ss:ZG):vs=[.ref l]->H l∣.lst (ss\0)->cT H ns ss-> ~~~ss<=150->(∀d H' o kvs,ah H H'->H' d∣.frz o (.dK kvs)->(∃ks:ZB,kvs\1=ks.map Sum.inr/\ks.Nodup)->(∀n:Str,(∃l,bF kvs (Sum.inr n)∣.ref l/\H' l∣.lst ((ss.filter λt=>decide (t.2[0]? =some n))\0))\/(bF kvs (Sum.inr n)=none/\∀t∈ss,t.2[0]? ≠some n))->Q (.ref d) H')->CZ vs H Q E0
def yW(T:Txt K mg):Cal P w K mg base 2 "links_by_later" ["found"] CZ:=
 (fU T).freeze.imp λvs H Q E ⟨l,i,ss,j,m,p,q,r⟩=>%[l,i,ss,j,m,p,q|λd A s u ⟨a,b,g⟩ v=>%[[d]|λy=>r d _ (y d) a (λc o e=>(iW (λh=>by rw[Xq h,u]at e;cases e)).trans (s _ _ e)) (jt Zm b) (v a b) λn=>(g n).imp_left λ⟨l,z,f⟩=>%[l,z|(eD λa c=>by rw[f]at c;cases c).trans f]]]
def j9(T:Txt K mg):Cal P w K mg base 2 "links_by_earlier" ["found"] (CW 1):=by
 .exists T.aL,jD,j,m,%[l,i,ss,rfl,n,e,g|o];refine%[_,%["JDHF~1A0A[B",0|m]|?_];show fG _ _ [!l] H;lk;exact%[l,1,i,ss,ρ,!1,n,e,g|λd p a b c _=>o d p a b c]
structure ReB (ss:ZG) (rs:Gs Str):Prop where
 nd:(rs\1).Nodup
 sub:∀r∈rs,r.2∈ss/\r.2.2[1]?∣r.1
def ReB.len(h:ReB ss rs): ~~~rs<= ~~~ss:=by
 have:=_ST.nodup_sub h.nd (m:=ss.filterMap λt=>t.2[1]?) λx a=>by
  have%[r,b|rfl]:=Xr a;exact mem_filterMap.mpr %[r.2|h.sub r b]
 rw[Z6]at this;exact Yg this (length_filterMap_le _ _)
def ReB.snoc(h:ReB ss rs)(d:(a,[p,y,z])∈ss)(e:y∉rs\1):ReB ss (rs++[(y,a,[p,y,z])]):=by
 refine%[?_|λr f=>?_]
 .rw[Zd,X2];exact%[h.nd,by simp|λa g b i c=>e (by rw[<-show b=y from Xq i,<-c];exact g)]
 .rcases Xp f with q|q
  .exact h.sub r q
  .rw[Xq q];exact%[d|ρ]
abbrev c8(d:Addr)(H a:Hp):Prop:=∀b o,b≠d->H b∣o->a b∣o
def c8.trans(h:c8 d H c)(g:c8 d c a):c8 d H a:=λb o n e=>g b o n (h b o n e)
def c8.of(h:ah H a):c8 d H a:=λb o _ e=>h b o e
def GrB.x(h:GrB H b ss i)(s:c8 d H f)(n:b≠d)(m:H d∣.dK o):GrB f b ss i:=by
 have%[e,g|j]:=h;exact%[e,s _ _ n g|λn=>(j n).imp_left λ⟨l,a,b⟩=>%[l,a|s _ _ (λc=>by lia) b]]
def cT.x(h:cT H e ss)(s:c8 d H f)(g:H d∣.dK i):cT f e ss:=λt a=>%[s _ _ (λc=>by have b:=(h t a).1;grind) (h t a).1|(h t a).2]
def GrB.get(h:GrB f b ss i)(s:c8 d f H)(nb:b≠d)(q:∀xs,f d≠some (.lst xs))(r:H p=none)(n:Str):∃e a,upd H p (.lst []) b∣.dK e/\(bF e (Sum.inr n)).getD (.ref p)= .ref a/\upd H p (.lst []) a∣.lst ((ss.filter λt=>decide (t.2[i]? =some n))\0)/\(a=p\/∃o,f a∣o):=by
 have%[e,m|u]:=h;have sp:=ah.upd (o:= .lst []) r;rcases u n with⟨l,g,j⟩|⟨g,v⟩
 .exact%[e,l,sp _ _ (s _ _ nb m),by rw[g];rfl,sp _ _ (s _ _ (λc=>q _ (c▸j)) j)|.inr %[_|j]]
 .refine%[e,p,sp _ _ (s _ _ nb m),by rw[g];rfl,?_|.inl rfl];rw[filter_eq_nil_iff.mpr λt y c=>v t y (Zo c)];exact aa
inductive yX
 | mk (b e d:Addr) (ns F:ZB) (ss:List _) (rs:Gs Str):vs=[.ref b,.ref e,.ref d]->b≠d->GrB H b ss 0->cT H ns ss-> ~~~ss<=150->H e<*F\3->H d∣.dK (gD rs)->ReB ss rs->(∀g H' new,c8 d H H'->H g=none->H' g<*(new\1)\3->H' d∣.dK (gD (rs++new))->ReB ss (rs++new)->(∀r∈new,∃p∈F,r.2.2[0]?∣p)->(∀x∈F,∀y,Ed (ss\2) x y->y∈(rs++new)\1)->Q (.ref g) H')->yX vs H Q E0
def v4(T:Txt K mg):Cal P w K mg base 1 "next_edge" ["beneath","edge","reached"] yX:=by
 .exists T.aP,eE,be,hr,%[b,e,d,ns,F,ss,rs,rfl,ai,hb,ak,bf,he,hd,a4|kk];have Fm: ~~~(F\3)= ~~~F:=Z6 _;have ed:e≠d:=λc=>by rw[c,hd]at he;cases he
  refine%[_,%["JCG3UBCRS1K4DRS~H~I0A4AUBBK5DO~JL5[2Co52L5[Datl3AL5[BPDH3",eE.nd|hr]|?_]
  show aU _ _ _ [!b,!e,!d,none,none,none] H;refine am λD1 k1 _=>?_
  lk;refine%[#[0]|λg fg=>k1 _ _ (am λD2 k2 _=>az λal hK=>?_)];have gd:g≠d:=λc=>by rw[c,hd]at fg;cases fg
  have s1:=ah.upd (o:= .lst []) fg;have gg:upd H g (.lst []) g<*(([]:Gs Str)\1)\3:=aa
  generalize upd H g (.lst [])=H1 at s1 gg
  lk;refine%[%[_|SqL.of (s1 _ _ he)]|hK _ _ ?_];refine br (λi U Y=>(∃o4 o5,U=[!b,!e,!d,!g,o4,o5])/\c8 d H Y/\∃new:Gs Str,Y g<*(new\1)\3/\Y d∣.dK (gD (rs++new))/\ReB ss (rs++new)/\(∀r∈new,∃p∈F,r.2.2[0]?∣p)/\∀x∈F.take i,∀y,Ed (ss\2) x y->y∈(rs++new)\1)
   %[%[_,_|rfl],c8.of s1,[],gg,by rw[Zx];exact s1 _ _ hd,by rw[Zx];exact a4,λr hr=>(nomatch hr)|λx hx=>(nomatch hx)] (λi U Y h=>h.2.1 _ _ ed he) ?_ ?_
  .intro i n U Y hn %[%[o4,o5|rfl],sm,new,hg,l,J,ae|m];have tk:F.take (i+1)=F.take i++[n]:=by rw[Xc,hn];rfl
   show uA _ _ _ _ [!b,!e,!d,!g,-n,o5] Y;refine aB λD3 k3 _=>az λal hK=>?_
   lk;refine%[tyD (sm _ _ ai hb.choose_spec.1),#[0]|λp hp=>?_];have%[a5,a,an,a6,L|ba]:=hb.get sm ai (λxs c=>by rw[hd]at c;cases c) hp n;have ag:a≠g:=by
    rcases ba with rfl|⟨o,ho⟩
    .exact λc=>by rw[c,hg]at hp;cases hp
    .exact λc=>by rw[c,fg]at ho;cases ho
   have ad:a≠d:=λc=>by
    have:=L;rw[c,ao (λc=>by rw[c,hp]at l;cases l),l]at this;cases this
   have sp:=ah.upd (o:= .lst []) hp;have hg:=sp _ _ hg;have l:=sp _ _ l;have sm:=sm.trans (c8.of sp)
   generalize upd Y p (.lst [])=H2 at an L sp hg l sm ⊢
   generalize as:(ss.filter λt=>decide (t.2[0]?∣n))=ts at L
   have tm: ~~~(ts\0)= ~~~ts:=Z6 _;have bb:∀t∈ts,t∈ss/\∃y z,t.2=[n,y,z]:=λt ht=>by
    rw[<-as]at ht;have%[h1|h2]:=List.mem_filter.mp ht;have%[x,y,z,e|_]:=(ak t h1).2;have h2:=Zo h2;rw[e]at h2;exact%[h1,y,z|by rw[e,show x=n from Za h2]]
   refine%[Sum.inr n,ρ,a5,an,a,a6,%[_|SqL.of L]|hK _ _ ?_];refine br (λj U O=>(∃o5,U=[!b,!e,!d,!g,-n,o5])/\c8 d H O/\O a∣.lst (ts\0)/\∃new:Gs Str,O g<*(new\1)\3/\O d∣.dK (gD (rs++new))/\ReB ss (rs++new)/\(∀r∈new,∃p∈F,r.2.2[0]?∣p)/\(∀x∈F.take i,∀y,Ed (ss\2) x y->y∈(rs++new)\1)/\∀t∈ts.take j,∀y,t.2[1]?∣y->y∈(rs++new)\1)
    %[%[_|rfl],sm,L,new,hg,l,J,ae,m|λt ht=>(nomatch ht)] (λj U O h=>h.2.2.1) ?_ ?_
   .intro j t U O ht %[%[o5|rfl],M,N,new,ab,G,B,C,u|ac];have%[a0,y,z|et]:=bb t (Z8 ht);have I:=(ak.x M hd t a0).1;rw[et]at I;have bc:ts.take (j+1)=ts.take j++[t]:=by rw[Xc,ht];rfl
    show jB _ _ _ _ [!b,!e,!d,!g,-n,some (.ref t.1)] O;refine aB λD4 k4 _=>?_
    lk;refine%[_,SqT.of I,_,ρ,_,bQ.k (k:=Sum.inr y) G|?_];have a1:∀(nw:Gs Str),(∀x∈(rs++new)\1,x∈(rs++nw)\1)->y∈(rs++nw)\1->(∀x∈F.take i,∀y,Ed (ss\2) x y->y∈(rs++nw)\1)/\∀t∈ts.take (j+1),∀y,t.2[1]?∣y->y∈(rs++nw)\1:=λnw mono hy=>by
     refine%[λx hx y h=>mono y (u x hx y h)|λt' a2 y' h=>?_];rw[bc]at a2;rcases Xp a2 with q|q
     .exact mono y' (ac t' q y' h)
     .rw[Xq q,et]at h;rw[<-show y=y' from Za h];exact hy
    cases hv:bF (gD (rs++new)) (Sum.inr y)with
    | some v=>
      rw[if_neg ∅];have%[q,hq,e1|_]:=dU hv;have%[n1|n2]:=a1 new (λ_ h=>h) (by rw[<-e1];exact Xs %[q,hq|rfl]);exact k4 _ _ %[%[_|rfl],M,N,new,ab,G,B,C,n1|n2]
    | none=>
      rw[if_pos (by rfl)];have hy:y∉(rs++new)\1:=λh=>by
       have%[q,hq|c]:=Xr h;have:=gB hq;rw[c,hv]at this;exact this rfl
      have ln:=B.len;have nl: ~~~new<=150:=by rw[Z9]at ln;lia
      refine%[_,SqT.of I,_,ρ,_,eT.k (k:=Sum.inr y) G (by unfold gD;rw[Z6];exact aD ⋯)|?_];rw[dh _ hv];have e1:gD (rs++new) ++[(Sum.inr y,V.ref t.1)]=gD (rs++(new++[(y,t.1,[n,y,z])])):=by
       unfold gD;rw[<-Ze,Zd (l₂:=[_])];rfl
      rw[e1];have u1:∀c o,c≠d->O c∣o->upd O d (.dK (gD (rs++(new++[(y,t.1,[n,y,z])])))) c∣o:=λc o h e=>(ao h)▸e
      have a3:=u1 _ _ gd ab;have R:=B.snoc (p:=n) (y:=y) (z:=z) (a:=t.1) (et▸a0) hy;rw[Ze]at R;have%[n1|n2]:=a1 (new++[(y,t.1,[n,y,z])]) (λx hx=>by rw[<-Ze,Zd];exact Yu _ hx) (by rw[<-Ze,Zd];exact Yv _ Zm);refine%[tyL (SqL.of a3),_,SqT.of (u1 _ _ (λc=>by rw[c,G]at I;cases I) I),_,ρ,_,a3,by rw[Z6,Z6];exact aD ⋯|k4 _ _ %[%[_|ρ],λc o h e=>?_,(ao ag).trans (u1 _ _ ad N),_,?_,(ao gd.symm).trans aa,R,?_,n1|n2]]
      .rw[ao (aw e fg)];exact u1 _ _ h (M _ _ h e)
      .rw[aa,Zd,Zd];rfl
      .intro r hr;rcases Xp hr with q|q
       .exact C r q
       .rw[Xq q];exact%[n,Z8 hn|ρ]
   .intro U O %[%[o5|rfl],M,N,new,ab,G,B,C,u|ac];rw[Zn (Zi _)]at ac;refine k3 _ _ %[%[_,_|rfl],M,new,ab,G,B,C|λx hx y ⟨z,hy⟩=>?_];rw[tk]at hx;rcases Xp hx with q|q
    .exact u x q y %[z|hy]
    .rw[Xq q]at hy;have%[t,ht|et]:=Xr hy;exact ac t (as▸List.mem_filter.mpr %[ht|by rw[et];simp]) y (by rw[et];rfl)
  .intro U Y %[%[o4,o5|rfl],sm,new,hg,l,J,ae|m];rw[Zn (Zi _)]at m;refine k2 _ _ ?_;lk;exact kk g Y new sm fg hg l J ae m
def sB{b:Bool}(h: ¬ (not b)=true):b=true:=by
 cases b
 .exact absurd rfl h
 .rfl
def kb{rs:Gs Str}{y:Str}(h:y∈rs\1):∃r∈rs,r.1=y/\bF (gD rs) (Sum.inr y)∣.ref r.2.1:=by
 cases b:bF (gD rs) _ with
 | none=>
   have%[q,a|c]:=Xr h;have:=gB a;rw[c,b]at this;exact(this rfl).elim
 | some v=>
   have%[q,a,e|rfl]:=dU b;exact%[q,a,e|ρ]
inductive C0
 | mk (d st goal ns F ss rs dd k):vs=[.ref d,.str st,.str goal]->H d∣.dK (gD rs)->ReB ss rs->Lev (ss\2) st rs dd k F->k<=200->cT H ns ss->goal∈rs\1->(∀l H' (ws:List _),ah H H'->H l=none->H' l∣.lst (ws\0)->(∀t∈ws,t∈ss)->Wal (ws\2) st goal-> ~~~ws=dd goal->Q (.ref l) H')->C0 vs H Q E0
def C1(T:Txt K mg):Cal P w K mg base 1 "way_to" ["reached","start","goal"] C0:=by
 .exists T.aQ,rK,ab,j,%[d,st,a,ns,F,ss,rs,i,k,rfl,hd,C,l,hk,G,n|kk];refine%[_,%["JCG3UAV02BC~GMuLT3~lE>1Datl3AV0LT3~lE>BDH]x3",rK.nd|j]|?_]
  show aU _ _ _ [!d,-st,-a,none] H;refine am λD1 k1 _=>?_
  lk;have%[r,I,e1|hv]:=kb n;have get:=bQ.k (k:=Sum.inr a) hd;rw[hv]at get;refine%[_,get,#[1]|λb fw=>k1 _ _ (am λD2 k2 _=>?_)];have s1:=ah.upd (o:= .lst [V.ref r.2.1]) fw;have gw:upd H b (.lst [V.ref r.2.1]) b∣.lst (([]:ZG).reverse\0 ++[V.ref r.2.1]):=aa
  generalize upd H b (.lst [V.ref r.2.1])=H1 at s1 gw
  refine⟨λm σ u=>σ=[!d,-st,-a,!b]/\ah H u/\∃(us:ZG) (r:Str×Addr×ZB),r∈rs/\m=i r.1/\u b∣.lst (us.reverse\0 ++[.ref r.2.1])/\(∀t∈us,t∈ss)/\Wal (us\2) r.1 a/\ ~~~us+m=i a,%[_,rfl,s1,[],r,I,rfl,gw,λt h=>(nomatch h),e1|by rw[e1];simp],?_⟩;intro m σ H2 %[rfl,v,us,r,j,rfl,hw,y,B|hl];have%[ac,p,z,J|hp]:=l.by_ r j;have e:=(C.sub r j).1;have g:=v _ _ (G _ e).1;rw[J]at g;have gl:=l.le a n;lk;refine%[_,SqL.of hw,_,uE _ _,_,ρ,_,SqT.of g,_,ρ,ρ|bJ (λh=>?_) λh=>?_]
  .have h:p≠st:=↑h
   have%[_,L|ae]:=hp.resolve_left λc=>h c.1
   have%[r',M,N|O]:=kb L;have get:=bQ.k (k:=Sum.inr p) (v _ _ hd);rw[O]at get;refine⟨λU u=>∃Y,Y<i r.1/\U=[!d,-st,-a,!b]/\ah H u/\∃(us:ZG) (r:Str×Addr×ZB),r∈rs/\Y=i r.1/\u b∣_/\(∀t∈us,t∈ss)/\Wal (us\2) r.1 a/\ ~~~us+Y=i a,λ_ _ h=>h,tyL (SqL.of hw),_,SqL.of hw,_,uE _ _,_,rfl,_,SqT.of g,_,rfl,_,get,_,hw,by rw[Z9,Z6,List.length_reverse,Yk];exact aD ⋯,_,?_,rfl,ah.set v fw,r.2::us,r',M,rfl,?_,?_,?_,?_⟩
   .rw[N];lia
   .rw[aa,List.reverse_cons,Zd];rfl
   .intro t ht;rcases mem_cons.mp ht with q|q
    .exact q▸e
    .exact y t q
   .exact%[r.1,z,J.trans (by rw[N])|B]
   .rw[Zr,N];lia
  .have h:p=st:=↑h
   refine k2 _ _ ?_;lk;refine%[_,hw|λq fq=>kk q _ (r.2::us) (v.trans (ah.upd fq)) (v.free fq) ?_ (λt ht=>?_) %[r.1,z,J.trans (by rw[h])|B] (by rw[Zr];lia)]
   .rw[aa,List.reverse_append,<-List.map_reverse,List.reverse_reverse];rfl
   .rcases mem_cons.mp ht with q|q
    .exact q▸e
    .exact y t q
inductive v5
 | mk (b st goal ns ss):vs=[.ref b,.str st,.str goal]->GrB H b ss 0->cT H ns ss-> ~~~ss<=150->(∀H',ah H H'-> ¬ Rch (ss\2) st goal->Q .non H')->(∀l H' (ws:List _),ah H H'->H l=none->H' l∣.lst (ws\0)->(∀t∈ws,t∈ss)->Sho (ss\2) st goal (ws\2)-> ~~~ws<=200->Q (.ref l) H')->v5 vs H Q E0
abbrev IC(H:Hp)(b d:Addr)(st a:Str)(ss:ZG)(m:Nat)(f:_LL.St)(c:Hp):Prop:=∃e F rs g k,f=[!b,-st,-a,!d,!e]/\ah H c/\c e<*F\3/\c d∣.dK (gD rs)/\ReB ss rs/\Lev (ss\2) st rs g k F/\k<= ~~~rs+1/\(F≠[]->k<= ~~~rs)/\m=2*(150-rs.length) +F.length.min 1
def jd(T:Txt K mg):Cal P w K mg base 2 "shortest_way" ["beneath","start","goal"] v5:=by
 .exists T.aO,du,a0,C,%[b,st,i,ns,ss,rfl,hb,G,ae,kn|ky];refine%[_,%["JCG3sCG4UA1BC~Gn;M+ghA4BE<~J23DG4F]yA0A4A3BCO~J23DH.PDHF]zA3A1A2B",du.nd|C]|?_]
  show aU _ _ _ [!b,-st,-i,none,none] H;refine am λD1 k1 _=>?_
  lk;intro d fd;refine k1 _ _ (am λD2 k2 _=>?_);have ag:b≠d:=λc=>by
   have%[a1,N|_]:=hb;rw[c,fd]at N;cases N
  have s1:=ah.upd (o:= .dK []) fd;have B:upd H d (.dK []) d∣.dK (gD ([]:Gs Str)):=aa
  generalize upd H d (.dK [])=H1 at s1 B
  lk;refine%[#[1]|λe fe=>k2 _ _ (am λD3 k3 _=>?_)];have s2:=ah.upd (o:= .lst [V.str st]) fe;have O:upd H1 e (.lst [V.str st]) e<*[st]\3:=aa;have B:=s2 _ _ B;have U:=s1.trans s2
  generalize upd H1 e (.lst [V.str st])=H2 at U O B
  refine%[IC H b d st i ss,%[_,e,[st],[],_,_,ρ,U,O,B,%[X4|λ_ h=>(nomatch h)],.nil,by simp,λ_=>Zi _|ρ]|?_];intro m σ H3 %[e,F,rs,dd,k,rfl,I,O,B,J,j,hk,ai|rfl];have fm: ~~~(F\3)= ~~~F:=Z6 _;have get:=bQ.k (k:=Sum.inr i) B;have rl:=J.len;have L:i∈rs\1↔(bF (gD rs) (Sum.inr i)).isSome=true:=by
   refine%[λh=>?_|λh=>?_]
   .have%[r,_,_|e]:=kb h;rw[e];rfl
   .have%[v|hv]:=isSome_iff_exists.mp h;have%[q,hq,c|_]:=dU hv;exact c▸Xs %[q,hq|rfl]
  lk;have Y:(i∉rs\1->F=[])->D3.nx [!b,-st,-i,!d,!e] H3:=λh=>by
   refine k3 _ _ (am λD4 k4 r4=>?_);lk;refine%[_,get|bJ (λq=>?_) λq=>?_]
   .have q:i∉rs\1:=λc=>by rw[L.mp c]at q;cases q
    refine r4 _ _ (kn H3 I λr=>q ?_);have%[n|hn]:=r.dst;rw[h q]at j;exact j.stop hn
   .have q:i∈rs\1:=L.mpr (sB q);refine k4 _ _ ?_;lk;refine%[d,st,i,ns,F,ss,rs,dd,k,ρ,B,J,j,⋯,G.up I,q|λl H' ws s' fl hl ab ak wl=>ky l H' ws (I.trans s') (I.free fl) hl ab %[λk hk=>?_,ak,?_|λn hn=>?_] (by rw[wl];have:=j.le _ q;lia)]
    .have%[t,ht|rfl]:=Xr hk;exact Xs %[t,ab t ht|rfl]
    .rw[Z6,wl];exact(j.dst q).1
    .rw[Z6,wl];exact j.min q hn
  refine%[_,.inl %[_,SqL.of O|ρ]|bJ (λh=>?_) λh=>Y λ_=>?_]
  .have h:0< ~~~F:=by
    rw[fm]at h;have:=Zo h
    lia
   refine%[_,get|bJ (λq=>⟨λal H'=>∃m',m'<2*(150-rs.length) +F.length.min 1/\IC H b d st i ss m' al H',λ_ _ h=>h,b,e,d,ns,F,ss,rs,ρ,ag,hb.up I,G.up I,ae,O,B,J,λg H4 new sx fg hg an u as M=>?_⟩) λq=>Y λc=>absurd (L.mpr (sB q)) c];have ln:=u.len;rw[Z9]at ln;have ac:F.length.min 1=1:=Nat.min_eq_right h;have kF:=ai λc=>by rw[c]at h;cases h
   refine%[_,?_,g,new\1,rs++new,_,_,ρ,(λc o ec=>sx c o (λz=>by rw[z,fd]at ec;cases ec) (I _ _ ec)),hg,an,u,j.step u.nd (λr C=>?_) M,?_,λnn=>?_|ρ]
   .rw[ac,Z9,Z6];cases new with
    | nil=>simp
    | cons a r=>
      rw[Zr]at ln ⊢;have:(~~~r+1).min 1<=1:=Nat.min_le_right _ _
      lia
   .have%[N|h2]:=u.sub r (Yv _ C);have%[p,hp|h3]:=as r C;have%[x,y,z,e|_]:=(G r.2 N).2;rw[e]at h2 h3;exact%[Xs %[_,N|ρ],p,z,hp|by rw[e,show x=p from Za h3,show y=r.1 from Za h2]]
   .rw[Z9];lia
   .cases new with
    | nil=>exact absurd rfl nn
    | cons a r=>rw[Z9,Zr];lia
  .cases F with
   | nil=>rfl
   | cons x F=>exact absurd (Zf (by rw[fm,Zr];lia)) h
abbrev VD(ls:ZB)(g:Str->V):List (Key×V):=ls.map λz=>(Sum.inr z,g z)
def gC:∀{ls:ZB},z∈ls->bF (VD ls g) (Sum.inr z)∣g z
 | x::ls,h=>by
   by_cases e:x=z
   .subst e;exact dW rfl
   .rw[show VD _ g=(Sum.inr x,g x)::VD ls g from rfl,cW (λq=>e (Sum.inr.inj q))];exact gC ((mem_cons.mp h).resolve_left λq=>e q.symm)
def ir:∀{ls:ZB},z∉ls->bF (VD ls g) (Sum.inr z)=none
 |[],_=>rfl
 | x::ls,h=>by
   rw[Yw,not_or]at h;rw[show VD _ g=(Sum.inr x,g x)::VD ls g from rfl,cW (λq=>h.1 (Sum.inr.inj q).symm)];exact ir h.2
def C2(h:z∈ls):b8 (VD ls g) (Sum.inr z) v=VD ls (λx=>if x=z then v else g x):=by
 unfold b8;rw[if_pos (by rw[iO,gC h];rfl)];unfold VD;rw[Ys];refine Yp λx _=>?_
 show(if(Sum.inr x)=Sum.inr z then((Sum.inr x),v)else(Sum.inr x,g x))=(Sum.inr x,if x=z then v else g x)
 by_cases e:x=z
 .rw[if_pos (congrArg _ e),if_pos e]
 .rw[if_neg (λq=>e (Sum.inr.inj q)),if_neg e]
abbrev cnt(ss:ZG)(L:ZB)(n:Str):Nat:=ss.countP λt=>decide (t.2[0]?∣n)&&t.2[1]?.all λy=>decide (y∉L)
def E8(ss:List _)(n:Str):cnt ss [] n= ~~~(ss.filter λt=>decide (t.2[0]?∣n)):=by
 unfold cnt;rw[<-List.countP_eq_length_filter]
 simp_all
def C3(h:cnt ss L m=0)(e:Ed (ss\2) m y):y∈L:=by
 have%[z|a]:=e;have%[t,b|c]:=Xr a;have:=List.countP_eq_zero.mp h t b
 simp_all
def v6(b:m∉L):∀ss:ZG,cnt ss L n=cnt ss (L++[m]) n+(ss.filter λt=>decide (t.2[1]?∣m)).countP λt=>decide (t.2[0]?∣n)
 |[]=>rfl
 | t::ss=>by
   have c:=v6 (n:=n) b ss;unfold cnt at c ⊢;rw[countP_cons,countP_cons,c];cases d:t.2[1]? with
   | none=>rw[Y6 ⋯];simp only[Option.all_none];lia
   | some y=>
     by_cases e:y=m
     .subst e;rw[Y7 (by rw[d];simp),countP_cons];by_cases a:t.2[0]?∣n
      .simp[a,b];lia
      .simp[a]
     .rw[Y6 (by rw[d];simpa using e)];by_cases a:t.2[0]?∣n
      .by_cases f:y∈L
       .simp[f]
       .simp[a,f,e];lia
      .simp[a]
structure ID (ss:ZG) (ns L R:ZB):Prop where
 nd:(L++R).Nodup
 mem:∀x,x∈L++R↔x∈ns/\cnt ss L x=0
 ord:∀i x,L[i]?∣x->∀y,Ed (ss\2) x y->y∈L.take i
abbrev IE(f:Hp)(l m b a w e ld:Addr)(d:ZB)(ss:ZG)(k:Nat)(g:_LL.St)(c:Hp):Prop:=∃h i j L R,g=[!l,!m,!b,!a,!w,h,!e,!ld,i,j]/\ah f c/\c w∣.dK (VD d λn=> .int (cnt ss L n))/\c e<*R\3/\c ld<*L\3/\ID ss d L R/\k= ~~~d-L.length
inductive yY
 | mk (l m ns ss):vs=[.ref l,.ref m]->H l<*ns\3->ns.Nodup-> ~~~ns<=63->H m∣.lst (ss\0)->cT H ns ss-> ~~~ss<=150->(∀r H' (L:ZB),ah H H'->H' r<*L\3->L.Nodup->(∀x∈L,x∈ns)->(∀i x,L[i]?∣x->∀y,Ed (ss\2) x y->y∈L.take i)->(∀x∈ns,x∉L->∃y,Ed (ss\2) x y/\y∈ns/\y∉L)->Q (.ref r) H')->yY vs H Q E0
def je(T:Txt K mg):Cal P w K mg base 3 "laid_in_turn" ["names","found"] yY:=by
 .exists T.aN,bg,c6,hr,%[l,m,d,ss,rfl,hl,nn,nl,hm,ag,b1|kk];have nm: ~~~(d\3)= ~~~d:=Z6 _;refine%[_,%["JCG2F~TA1BCG3F]!A1BC:4qrsCRS0K5DoghA~H~I2A5AUBBBQ45C~k6rqc?1S0X0?2vMZVQ10E0CG7UBC~GM+ghA6BECG8~R]$A6BCa]%]&6A8BCatl7A8BDRS~H~I3A8AUBBK9CoI~OVQ4L9>EQ4L9>DOMZVQ4L9>EDatl6AL9>BPDH7",bg.nd,↑(["name","waits"],[(1,4)]),↑["name","waits"]|hr]|?_]
  show aU _ _ _ [!l,!m,none,none,none,none,none,none,none,none] H;refine am λD1 k1 _=>?_
  lk;refine%[m,d,ss,ρ,hm,ag,b1|λb H1 s1 fb hb=>k1 _ _ (am λD2 k2 _=>?_)];lk;refine%[m,d,ss,ρ,s1 _ _ hm,ag.up s1,b1|λa H2 s2 fa ha=>k2 _ _ (am λD3 k3 _=>?_)];have Y:=s1.trans s2;have hb:=hb.up s2;lk;intro w fw;refine k3 _ _ (am λD4 k4 _=>az λa4 hK=>?_);have s3:=ah.upd (o:= .dK []) fw;have gw:upd H2 w (.dK []) w∣.dK (VD (d.take 0) λn=> .int (cnt ss [] n)):=aa
  generalize upd H2 w (.dK [])=H3 at s3 gw
  have co:=Y.trans s3;lk;refine%[%[_|SqL.of (co _ _ hl)]|hK _ _ ?_];have cs:b≠w:=λc=>by
   have%[ab,h1|_]:=hb;rw[c,fw]at h1;cases h1
  have ct:a≠w:=λc=>by
   have%[ab,h1|_]:=ha;rw[c,fw]at h1;cases h1
  have b2:∀xs,H2 w≠some (.lst xs):=λxs c=>by rw[fw]at c;cases c
  refine br (λi M u=>(∃o5,M=[!l,!m,!b,!a,!w,o5,none,none,none,none])/\ah H2 u/\u w∣.dK (VD (d.take i) λn=> .int (cnt ss [] n)))
   %[%[_|rfl],s3|gw] (λi M u h=>h.2.1 _ _ (Y _ _ hl)) ?_ ?_
  .intro i n M u hn %[%[o5|rfl],sm|hw];have i1:i< ~~~d:=(Xo hn).1;show nO _ _ _ _ [!l,!m,!b,!a,!w,-n,none,none,none,none] u;refine aB λD5 k5 _=>?_
   lk;refine%[tyD (sm _ _ hb.choose_spec.1),#[0]|λp hp=>?_];have%[ab,al,cv,ai,N|b3]:=hb.get (c8.of sm) cs b2 hp n;have sp:=ah.upd (o:= .lst []) hp;refine%[Sum.inr n,ρ,ab,cv,_,by rw[ai];exact .inl %[_,SqL.of N|ρ],_,eT.k (k:=Sum.inr n) (sp _ _ hw) (by unfold VD;rw[Z6,Yl];exact aD ⋯)|k5 _ _ %[%[_|ρ],ah.set (sm.trans sp) fw|?_]];have zn:n∉d.take i:=λhm=>by
    have h:=nn;rw[<-Xd i d,X2]at h;exact h.2.2 n hm n (Z8 (i:=0) (by rw[getElem?_drop];exact hn)) rfl
   rw[aa,dh _ (ir zn),Z6,<-E8,Xc,hn];unfold VD;rw[Zd];rfl
  .intro M u %[%[o5|rfl],sm|hw];rw[Zn (Zi _)]at hw;refine k4 _ _ (am λD5 k5 _=>aG λa4 hK=>?_);lk;have b4:=sm _ _ (Y _ _ hl);refine%[%[_|SqL.of b4]|hK _ _ λG ac=>?_];refine ce (λj vs M H3=>(∃o1,M=[o1,!w])/\ah u H3/\H3 G<*vs/\vs=((d.take j).filter λn=>decide (cnt ss [] n=0))\3)
    %[%[none|rfl],ah.upd ac,aa|rfl] (λ_ _ _ H3 cw=>cw.2.1 _ _ b4) ?_ ?_
   .intro j vs M H4 hj %[%[o1|rfl],I,b5|hv];have get:=bQ.k (k:=Sum.inr d[j]) (I _ _ hw);rw[gC (Yd hj)]at get;lk;refine%[_,get,ρ|bJ (λh=>?_) λh=>?_]
    .have h:cnt ss [] d[j]=0:=↑h
     refine CK.mk hj b5 (by rw[hv,Z6];have:=Yi (λn=>decide (cnt ss [] n=0)) (d.take j);rw[Yl]at this;exact aD ⋯) %[%[_|rfl],ah.set I ac,aa|?_];rw[hv,Xc,Z4 hj,Y3,Zd];show _=_++(List.filter _ [d[j]])\3;rw[Y7 ↑h];rfl
    .have h:cnt ss [] d[j]≠0:=↑h
     refine CN.mk hj %[%[_|rfl],I,b5|?_];rw[hv,Xc,Z4 hj,Y3,Zd];show _=_++(List.filter _ [d[j]])\3;rw[Y6 ↑h];simp
   intro vs M H3 %[_,I,ak|hv];rw[Zn (Zi _)]at hv;rw[hv]at ak;refine k5 _ _ (am λD6 k6 _=>?_);have O:=I _ _ hw;have a6:=sm.trans I;have ba:w≠G:=λc=>by rw[<-c,hw]at ac;cases ac
   have bb:=sm.free ac;lk;refine%[#[0]|λld fld=>k6 _ _ (am λD7 k7 _=>?_)];have s4:=ah.upd (o:= .lst []) fld;have bc:upd H3 ld (.lst []) ld<*([]:ZB)\3:=aa;have b6:w≠ld:=λc=>by rw[<-c,O]at fld;cases fld
   have be:G≠ld:=λc=>by rw[<-c,ak]at fld;cases fld
   have bf:=s4 _ _ O;have bl:=s4 _ _ ak;have bm:=a6.trans s4;have fld:=a6.free fld
   generalize upd H3 ld (.lst [])=H4 at s4 bc bf bl bm
   refine%[IE H2 l m b a w G ld d ss,%[_,o5,none,none,[],_,ρ,bm,bf,bl,bc,%[nn.filter _,λx=>by simp|λi x e=>by simp at e]|ρ]|?_];clear bm bf bl bc ak O hw hv I a6 sm;intro k M H5 %[o5,o8,o9,L,R,rfl,sm,hw,hR,hL,v|rfl];have Rm: ~~~(R\3)= ~~~R:=Z6 _;have da: ~~~L+ ~~~R<= ~~~d:=by
    rw[<-Z9];exact _ST.nodup_sub v.nd λx hx=>((v.mem x).mp hx).1
   lk;refine%[~~~R,.inl %[_,SqL.of hR|Rm.symm]|bJ (λh=>?_) λh=>?_]
   .have h:0< ~~~R:=by have:=Zo h;lia
    refine⟨λcM u=>∃m',m'< ~~~d-L.length/\IE H2 l m b a w G ld d ss m' cM u,λ_ _ h=>h,R,SqL.of hR,h,λx hx _=>%[tyL (SqL.of hR),R,hR,hx|λR1 pm=>?_]⟩;have u1:=ah.set (o:= .lst (R1\3)) sm bb;have bn:upd H5 G (.lst (R1\3)) G=_:=aa;have bt:upd H5 G (.lst (R1\3)) w=_:=(ao ba).trans hw;have an:upd H5 G (.lst (R1\3)) ld=_:=(ao be.symm).trans hL
    generalize upd H5 G (.lst (R1\3))=H6 at u1 bn bt an ⊢
    refine%[tyL (SqL.of an),_,an,by rw[Z6];exact aD ⋯|aB λdd c0 _=>az λa4 hK=>?_];have u2:=ah.set (o:= .lst (L\3++[.str x])) u1 fld;have as:upd H6 ld (.lst (L\3++[.str x])) ld<*(L++[x])\3:=by rw[aa,Zd];rfl
    have a0:upd H6 ld (.lst (L\3++[.str x])) w=_:=(ao b6).trans bt;have a1:upd H6 ld (.lst (L\3++[.str x])) G=_:=(ao be).trans bn
    generalize upd H6 ld (.lst (L\3++[.str x]))=H7 at u2 as a0 a1 ⊢
    lk;refine%[tyD (u2 _ _ ha.choose_spec.1),#[0]|λp hp=>?_];have%[ab,al,ai,c1,N|b3]:=ha.get (c8.of u2) ct b2 hp x;have b0:∀{c:Addr} {o:HO},H7 c∣o->H2 c=none->al≠c:=λ{c o} h1 h2=>by
     rcases b3 with rfl|⟨o',ho⟩
     .exact λz=>by rw[z,h1]at hp;cases hp
     .exact λz=>by rw[z,h2]at ho;cases ho
    have c2:=b0 a0 fw;have c3:=b0 a1 bb;have all:=b0 as fld;have sp:=ah.upd (o:= .lst []) hp;have O:=sp _ _ a0;have b9:=sp _ _ a1;have ca:=sp _ _ as;have u3:=u2.trans sp
    generalize upd H7 p (.lst [])=H8 at ai N O b9 ca u3 ⊢
    clear u1 u2 a0 a1 as bt bn an hp sp
    generalize cd:(ss.filter λt=>decide (t.2[1]?∣x))=ts at N
    have tm: ~~~(ts\0)= ~~~ts:=Z6 _;have xL:x∉L:=λc=>(nodup_append.mp v.nd).2.2 x c x hx rfl
    have pr:(L++[x] ++R1).Perm (L++R):=by
     rw[Ze];exact pm.append_left L
    have f0:∀n,cnt ss L n=cnt ss (L++[x]) n+(ts.drop 0).countP λt=>decide (t.2[0]?∣n):=λn=>by rw[drop_zero,<-cd];exact v6 xL ss
    have c4:∀t∈ts,∃n z,t.2=[n,x,z]/\n∈d/\H t.1&&&[n,x,z]\3:=λt ht=>by
     rw[<-cd]at ht;have%[h1|h2]:=List.mem_filter.mp ht;have%[h3,n,y,z,e,hn|_]:=ag t h1;have h2:=Zo h2;rw[e]at h2 h3;obtain rfl:y=x:=Za h2;exact%[n,z,e,hn|h3]
    refine%[Sum.inr x,ρ,ab,ai,al,c1,%[_|SqL.of N]|hK _ _ ?_];refine br (λj M u=>(∃o9,M=[!l,!m,!b,!a,!w,o5,!G,!ld,-x,o9])/\ah H2 u/\u al∣.lst (ts\0)/\u w∣.dK (VD d λn=> .int ((cnt ss (L++[x]) n+(ts.drop j).countP λt=>decide (t.2[0]? =some n):Nat):Int))/\u ld<*(L++[x])\3/\∃Rj:ZB,u G<*Rj\3/\(L++[x] ++Rj).Nodup/\∀y,y∈L++[x] ++Rj↔y∈d/\cnt ss (L++[x]) y+((ts.drop j).countP λt=>decide (t.2[0]?∣y))=0)
     %[%[_|rfl],u3,N,by rw[O];exact congrArg (λg=>some (HO.dK (VD d g))) (funext λn=>by rw[f0 n]),ca,R1,b9,pr.nodup_iff.mpr v.nd|λy=>by rw[<-f0,pr.mem_iff];exact v.mem y] (λj M u h=>h.2.2.1) ?_ ?_
    .intro j t M u ht %[%[o9|rfl],a2,B,J,U,Rj,C,rn|rz];have jl:=(Xo ht).1;have%[n,z,et,hn|r]:=c4 t (Z8 ht);have r:=a2 _ _ (Y _ _ r);have dr:ts.drop j=t::ts.drop (j+1):=by rw[Zy jl,(Xo ht).2]
     rw[dr]at J rz;have get:=bQ.k (k:=Sum.inr n) J;rw[gC hn]at get;have de:=(nodup_append.mp rn)
     have rl: ~~~Rj<= ~~~d:=by
      have:=_ST.nodup_sub rn λy hy=>((rz y).mp hy).1
      rw[Z9]at this
      lia
     show aU _ _ _ [!l,!m,!b,!a,!w,o5,!G,!ld,-x,some (.ref t.1)] u;refine am λdg c5 _=>?_
     lk;have one:∀y,(t::ts.drop (j+1)).countP (λt=>decide (t.2[0]?∣y))=((ts.drop (j+1)).countP λt=>decide (t.2[0]?∣y)) +if y=n then 1 else 0:=λy=>by
      rw[countP_cons,et];by_cases c:y=n
      .rw[if_pos c,if_pos (by rw[c];simp)]
      .rw[if_neg c,if_neg (by simpa using λq=>c q.symm)]
     refine%[_,SqT.of r,_,ρ,_,get,_,ρ,_,SqT.of r,_,ρ,_,eT.k (k:=Sum.inr n) J (by unfold VD;rw[Z6];exact aD ⋯)|c5 _ _ (aB λdk ch _=>?_)];rw[C2 hn];have e1:(λy=>if y=n then V.int (((cnt ss (L++[x]) n+(t::ts.drop (j+1)).countP λt=>decide (t.2[0]?∣n):Nat):Int) -1)else V.int ((cnt ss (L++[x]) y+(t::ts.drop (j+1)).countP λt=>decide (t.2[0]?∣y):Nat):Int))=λy=>V.int ((cnt ss (L++[x]) y+(ts.drop (j+1)).countP λt=>decide (t.2[0]?∣y):Nat):Int):=funext λy=>by
      rw[one,one];by_cases c:y=n
      .rw[if_pos c,c,if_pos rfl]
       congr 1
       lia
      .rw[if_neg c,if_neg c];rfl
     rw[e1];have v1:=ah.set (o:= .dK (VD d λy=>V.int ((cnt ss (L++[x]) y+(ts.drop (j+1)).countP λt=>decide (t.2[0]?∣y):Nat):Int))) a2 fw;have a3:upd u w (.dK (VD d λy=>V.int ((cnt ss (L++[x]) y+(ts.drop (j+1)).countP λt=>decide (t.2[0]?∣y):Nat):Int))) w=_:=aa;have ae:∀c o,c≠w->u c∣o->upd u w (.dK (VD d λy=>V.int ((cnt ss (L++[x]) y+(ts.drop (j+1)).countP λt=>decide (t.2[0]?∣y):Nat):Int))) c∣o:=λc o h e=>(ao h)▸e
     generalize upd u w (.dK (VD d λy=>V.int ((cnt ss (L++[x]) y+(ts.drop (j+1)).countP λt=>decide (t.2[0]?∣y):Nat):Int)))=H9 at v1 a3 ae
     have r:=ae _ _ (λc=>by rw[c,J]at r;cases r) r;have B:=ae _ _ c2 B;have U:=ae _ _ b6.symm U;have C:=ae _ _ ba.symm C;have get:=bQ.k (k:=Sum.inr n) a3;rw[gC hn]at get;have cl:n∉L++[x] ++Rj:=λc=>by
      have:=((rz n).mp c).2;rw[one,if_pos rfl]at this
      lia
     have a5:∀y,y≠n->(y∈L++[x] ++Rj↔y∈d/\cnt ss (L++[x]) y+((ts.drop (j+1)).countP λt=>decide (t.2[0]?∣y))=0):=λy c=>by
      rw[rz y,one,if_neg c];rfl
     lk;refine%[_,SqT.of r,_,ρ,_,get,ρ|bJ (λh=>?_) λh=>?_]
     .have h:cnt ss (L++[x]) n+((ts.drop (j+1)).countP λt=>decide (t.2[0]?∣n))=0:=by
       have:=V.int.inj (Zo h)
       lia
      have tr:t.1≠G:=λc=>by rw[c,C]at r;cases r
      refine%[tyL (SqL.of C),_,SqT.of r,_,ρ,_,C,by rw[Z6];exact aD ⋯|ch _ _ %[%[_|ρ],ah.set v1 bb,(ao c3).trans B,(ao ba).trans a3,(ao be.symm).trans U,Rj++[n],by rw[aa,Zd];rfl,?_|λy=>?_]]
      .rw[<-Ze,X2];exact%[rn,by simp|λa ha b hb c=>cl (by rw[<-Xq hb,<-c];exact ha)]
      .rw[<-Ze,Yt,Yz];by_cases c:y=n
       .rw[c];exact%[λ_=>%[hn|h]|λ_=> .inr rfl]
       .rw[<-a5 y c];exact%[λq=>q.resolve_right c|.inl]
     .refine ch _ _ %[%[_|rfl],v1,B,a3,U,Rj,C,rn|λy=>?_];by_cases c:y=n
      .rw[c];exact%[λq=>absurd q cl|λq=>absurd (Zf (congrArg (λi:Nat=>V.int i) q.2)) h]
      .exact a5 y c
    .intro M u %[%[o9|rfl],a2,B,J,U,Rj,C,rn|rz];rw[List.drop_length]at J rz;refine c0 _ _ %[_,?_,o5,_,o9,L++[x],Rj,rfl,a2,J,C,U,%[rn,rz|λi y hi y' e=>?_]|rfl]
     .rw[Z9,Yk]
      lia
     .by_cases il:i< ~~~L
      .rw[Ya il]at hi;rw[Xe (Ye il)];exact v.ord i y hi y' e
      .have ie:i= ~~~L:=by
        have:=(Xo hi).1;rw[Z9,Yk]at this
        lia
       subst ie;rw[Yb (Zi _),sub_self,List.getElem?_cons_zero]at hi;obtain rfl:=Za hi;rw[Xe (Zi _),Xf];exact C3 ((v.mem x).mp (Yv _ hx)).2 e
   .refine k7 _ _ ?_;lk;have R0:R=[]:=by
     cases R with
     | nil=>rfl
     | cons x R=>exact absurd (Zf (by rw[Zr];lia)) h
    subst R0;have mem:=v.mem;have nd:=v.nd;rw[Zx]at mem nd;refine kk ld H5 L (Y.trans sm) hL nd (λx hx=>((mem x).mp hx).1) v.ord λx hx nx=>?_
    have:cnt ss L x≠0:=λc=>nx ((mem x).mpr %[hx|c])
    have%[t,ht|q]:=List.countP_pos_iff.mp (Nat.pos_of_ne_zero this);have%[a,b,z,e,_|hb]:=(ag t ht).2;rw[e]at q;simp only[Zv]at q;exact%[b,%[z|by rw[<-(Za (Zo q.1)),<-e];exact Xs %[t,ht|ρ]],hb|Zo q.2]
inductive v7
 | mk (l m ns ss):vs=[.ref l,.ref m]->H l<*ns\3->ns.Nodup-> ~~~ns<=63->H m∣.lst (ss\0)->cT H ns ss-> ~~~ss<=150->(∀r H' (us:ZB),ah H H'->H' r<*us\3->(∀x∈ns,Rch (ss\2) x x->x∈us)->Q (.ref r) H')->v7 vs H Q E0
structure pN (H:Hp) (ks:List ZB) (ss:ZG) (r:Addr) (ws:ZG) (x:Str):Prop where
 at_:H r∣.lst (ws\0)
 sub:∀t∈ws,t∈ss
 sho:Sho ks x x (ws\2)
 len: ~~~ws<=200
def pN.up(h:pN H ks ss r ws x)(s:ah H a):pN a ks ss r ws x:=%[s _ _ h.at_,h.sub,h.sho|h.len]
inductive v8
 | mk (l m ns ss):vs=[.ref l,.ref m]->H l<*ns\3->ns.Nodup-> ~~~ns<=63->H m∣.lst (ss\0)->cT H ns ss-> ~~~ss<=150->(∀H',ah H H'->(∀x,¬ Rch (ss\2) x x)->Q .non H')->(∀r H' ws x,ah H H'->pN H' (ss\2) ss r ws x->(∀y n,Dst (ss\2) y (n+1) y-> ~~~ws<=n+1)->Q (.ref r) H')->v8 vs H Q E0
def ut(T:Txt K mg):Cal P w K mg base 4 "never_laid" ["names","found"] v7:=by
 .exists T.aT,qq,C,G,%[l,m,a,ss,rfl,n,I,nl,J,g,i|M];refine%[_,%["JDH)]'AI](~B~dA0B~B~dAF~2A0A1BBB",0|G]|?_];show fG _ _ [!l,!m] H;lk;refine%[a,SqL.of n,⋯|λp N=>?_];have b:=ah.upd (o:=jT w p (aQ a)) N;have y:upd H p (jT w p (aQ a)) p=_:=aa
  generalize upd H p (jT w p (aQ a))=H1 at b y ⊢
  refine%[l,m,a,ss,ρ,b _ _ n,I,nl,b _ _ J,g.up b,i|λr H2 L z O U Y j _=>?_];have Ll:=_ST.nodup_sub U Y;refine%[r,ρ,L,SqL.of O,⋯|λq fq=>?_];have B:=ah.upd (o:=jT w q (aQ L)) fq;have fl:=_ST.nodup_sub (dA a) λx d=>bd.mp d
  refine%[_,(B _ _ (z _ _ y)),_,aa,⋯|λu ms fu e mn=>%[ms,aa,?_|λv us fv pu _=>?_]]
  .have:=_ST.nodup_sub mn λx d=>bd.mp ((e x).mp d).1
   lia
  .refine M v _ us (b.trans (z.trans (B.trans ((ah.upd fu).trans (ah.upd fv))))) aa λx d rx=>?_
   rw[pu.mem_iff,e];exact%[bd.mpr d|λc=>ES j (bd.mp c) rx]
def v9{d:ZB}{ss:ZG}(h:∀t∈ss,dz d t.2){x y:Str}(r:Rch (ss\2) x y):x∈d:=by
 induction r with
 | one e=>
   have%[z|g]:=e;have%[t,i|f]:=Xr g;have%[a,b,c,e,j|_]:=h t i;rw[e]at f;exact((List.cons.inj f).1)▸j
 | more _ _ l=>exact l
def no(T:Txt K mg):Cal P w K mg base 5 "shortest_ring" ["names","found"] v8:=by
 .exists T.aS,bP,ae,hr,%[l,m,N,ss,rfl,hl,nn,nl,hm,c,u,kn|ky];refine%[_,%["JCG2F~TA1BCG3.CRSF])A0A1BK4CG5F~3A2A4A4BDOn;M~s5.<nwM~43.%M~KghA5BghA3BDG35PDH3",bP.nd|hr]|?_]
  show aU _ _ _ [!l,!m,none,none,none,none] H;refine am λD1 k1 _=>?_
  lk;refine%[m,N,ss,ρ,hm,c,u|λb H1 O fb hb=>k1 _ _ (am λD2 k2 _=>?_)];lk;refine k2 _ _ (am λD3 k3 _=>az λac hK=>?_);lk;refine%[l,m,N,ss,ρ,O _ _ hl,nn,nl,O _ _ hm,c.up O,u|λr H2 us s2 G I=>%[r,ρ,%[_|SqL.of G]|hK _ _ ?_]];have z:=O.trans s2;refine br (λi U g=>(∃v o4 Y,U=[!l,!m,!b,some v,o4,Y]/\((v= .non/\∀x∈us.take i,¬ Rch (ss\2) x x)\/∃q ws x,v= .ref q/\pN g (ss\2) ss q ws x/\∀y∈us.take i,∀n,Dst (ss\2) y (n+1) y-> ~~~ws<=n+1))/\ah H2 g)
   %[%[_,_,_,rfl|.inl %[rfl|λx hx=>(nomatch hx)]]|λ_ _ e=>e] (λi U g h=>h.2 _ _ G) ?_ ?_
  .intro i n U g hn %[%[v,o4,Y,rfl|J]|j];have tk:us.take (i+1)=us.take i++[n]:=by rw[Xc,hn];rfl
   show aU _ _ _ [!l,!m,!b,some v,-n,Y] g;refine am λD4 k4 _=>?_
   lk;refine%[b,n,n,N,ss,ρ,hb.up (s2.trans j),c.up (z.trans j),u,λH3 B nr=>k4 _ _ (aB λD5 k5 _=>?_)|λq H3 ws B _ C sub rr rl=>k4 _ _ (aB λD5 k5 _=>?_)]
   .lk;rw[if_neg ∅];refine k5 _ _ %[%[v,_,_,rfl|J.imp (λh=>%[h.1|λx hx=>?_]) λ⟨q,ws,x,e,C,o⟩=>%[q,ws,x,e,C.up B|λy a m d=>?_]]|j.trans B]
    .rw[tk]at hx;rcases Xp hx with h'|h'
     .exact h.2 x h'
     .rw[Xq h'];exact nr
    .rw[tk]at a;rcases Xp a with h'|h'
     .exact o y h' m d
     .rw[Xq h']at d;exact(nr d.rch).elim
   .lk;rw[if_pos ∅];have wl:∀zs:ZG,~~~(zs\0)= ~~~zs:=λzs=>Z6 _
    have p:=λm d=>by
     have:=rr.min m d;rwa[Z6]at this
    have put:(∀y∈us.take i,∀m,Dst (ss\2) y (m+1) y-> ~~~ws<=m+1)->D5.nx [!l,!m,!b,!q,-n,!q] H3:=λo=>k5 _ _ ⟨%[_,_,_,rfl|.inr ⟨q,ws,n,rfl,%[C,sub,rr|rl],λy a m d=>by
     rw[tk]at a;rcases Xp a with h'|h'
     .exact o y h' m d
     .rw[Xq h']at d;exact p m d⟩],j.trans B⟩
    rcases J with⟨rfl,ab⟩|⟨q',L,x',rfl,M,o⟩
    .rw[if_pos ∅];exact put λy a m d=>(ab y a d.rch).elim
    .rw[if_neg ∅];refine%[_,.inl %[_,SqL.of C|(wl ws).symm],_,.inl %[_,SqL.of (B _ _ M.at_)|(wl L).symm]|bJ (λlt=>put λy a m d=>?_) λlt=>k5 _ _ %[%[_,_,_,ρ|.inr %[q',L,x',ρ,M.up B|λy a m d=>?_]]|j.trans B]]
     .have:=o y a m d;have:=Zo lt
      lia
     .rw[tk]at a;rcases Xp a with h'|h'
      .exact o y h' m d
      .rw[Xq h']at d;have:=p m d
       lia
  .intro U g %[%[v,o4,Y,rfl|J]|j];rw[Zn (Zi _)]at J;refine k3 _ _ ?_;lk;rcases J with⟨rfl,h⟩|⟨q,ws,x,rfl,C,o⟩
   .exact kn g (z.trans j) λx rx=>h x (I x (v9 (λt ht=>(c t ht).2) rx) rx) rx
   .exact ky q g ws x (z.trans j) C λy n d=>o y (I y (v9 (λt ht=>(c t ht).2) d.rch) d.rch) n d
def iu{S:Str->Str->Prop}(h:bN S z m)(c:cL S z x):bN S x m:=%[c.symm.trans h.1|λy d=>h.2 y (c.trans d)]
def fV(h:bp H ls qs)(a b:Str)(s:a9 qs a b):a∈ls/\b∈ls:=by
 have%[q,d|e]:=s;rcases(h q d).2 with⟨f,x,y,c,_,g,i,_⟩|⟨f,x,y,c,_⟩
 .rw[c]at e;simp only[List.cons.injEq,V.str.injEq,and_true]at e;rw[<-e.2.1,<-e.2.2];exact%[g|i]
 .rw[c]at e;simp at e
structure iK (mg:ZC) (H:Hp) (g:Addr) (qs:ZN) (ls:ZB) (ts:ZG):Prop where
 gr:∃c2 c3 c4,GrF mg H g c2 c3 c4 qs ls ts
 nd:ls.Nodup
 so:ls.Pairwise (λa b=>aP b a=false)
 ll: ~~~ls<=63
 tl: ~~~ts<=150
 t3:∀k∈ts\2,dz ls k
 sm:∀k∈ts\2,∀z∈k,Sml z
 lm:∀z∈ls,Sml z
def iK.up(h:iK mg H g qs ls ts)(s:ah H a):iK mg a g qs ls ts:=by
 have%[b,c3,c|d]:=h.gr;exact%[%[b,c3,c|d.up s],h.nd,h.so,h.ll,h.tl,h.t3,h.sm|h.lm]
def iK.ends(h:iK mg H g qs ls ts)(f:cq (a9 qs) (ts\2) lk)(i:k∈lk):∃a b z,k=[a,b,z]/\(a∈ls/\bN (a9 qs) a a)/\b∈ls/\bN (a9 qs) b b:=by
 have%[q,c3,r|j]:=h.gr;have%[a,b,z,l,m,n,c,d|rfl]:=(f.mem k).mp i;have%[x,y,u,e,o|p]:=h.t3 _ n;simp only[List.cons.injEq,and_true]at e;have%[rfl,rfl|rfl]:=e;have ws:=fV j.sa;exact%[l,m,z,ρ,%[c.1.within ws o|iu c c.1],d.1.within ws p|iu d d.1]
def iK.short(h:iK mg H g qs ls ts)(d:cq (a9 qs) (ts\2) lk)(f:k∈lk): ~~~k<=3/\∀z∈k,Sml z:=by
 have%[o,c3,p|i]:=h.gr;have%[a,b,z,q,r,c,j,l|rfl]:=(d.mem k).mp f;have%[x,y,u,e,m|n]:=h.t3 _ c;simp only[List.cons.injEq,and_true]at e;have%[rfl,rfl|rfl]:=e;have ws:=fV i.sa;exact%[Zi _|He (h.lm _ (j.1.within ws m)) (h.lm _ (l.1.within ws n)) (h.sm _ c z ∅)]
def iK.names(h:iK mg H g qs ls ts)(d:cq (a9 qs) (ts\2) lk)(c:sk (a9 qs) ls f):∀k∈lk,dz f k:=λk i=>by
 have%[a,b,z,e,j|l]:=h.ends d i;exact%[a,b,z,e,(c.mem a).mpr j|(c.mem b).mpr l]
def iK.ties(h:iK mg H g qs ls ts)(c:cq (a9 qs) (ts\2) lk):∀k∈lk,dz ls k:=λk d=>by
 have%[a,b,z,e,f|i]:=h.ends c d;exact%[a,b,z,e,f.1|i.1]
def pO(a:aK H ss)(h:∀k∈ss\2,dz b k):cT H b ss:=λt q=>%[(a t q).2|h _ (Xs %[t,q|rfl])]
inductive sE (mg:ZC)
 | mk (g:Addr) (qs:ZN) (ls:ZB) (ts:ZG):vs=[.ref g]->iK mg H g qs ls ts->(∀lk,cq (a9 qs) (ts\2) lk->∀x,¬ Rch lk x x)->(∀l H' ns (ss:ZG),ah H H'->H' l∣.lst (ss\0)->cT H' ns ss-> ~~~ss<=150->cq (a9 qs) (ts\2) (ss\2)->Q (.ref l) H')->sE mg vs H Q E0
def jf(T:Txt K mg):Cal P w K mg base 6 "untorn_links" ["ground"] (sE mg):=by
 .exists T.aU,d8,B,d,%[g,qs,ls,ts,rfl,a,C|G];have%[i,c3,j|n]:=a.gr;have O:=a.ll;refine%[_,%["JCG1F]*A0BCG2F]+AF~tA0BA1BCOM~s2.D*PDH1",d8.nd|d]|?_]
  show aU _ _ _ [!g,none,none] H;refine am λU k1 _=>?_
  lk;refine%[g,i,c3,j,qs,ls,ts,ρ,n,a.nd,a.so,⋯,a.tl,a.t3|λm Y ss o fm p I lk q=>k1 _ _ (am λD2 k2 _=>?_)];lk;refine%[g,i,c3,j,qs,ls,ts,ρ,n.up o,a.nd,a.so,⋯|λl H2 u e fl J c=>?_];have v:=pO I (a.names lk c);refine%[l,m,u,ss,ρ,J,c.nd,?_,e _ _ p,v.up e,q,λy z _=>k2 _ _ (am λD3 L _=>?_)|λr y ws x z M _=>(C _ lk x M.sho.rch).elim]
  .have:=_ST.nodup_sub c.nd λx N=>((c.mem x).mp N).1
   lia
  .lk;rw[if_neg ∅];refine L _ _ ?_;lk;have b:=e.trans z;exact G m y u ss (o.trans b) (b _ _ p) (v.up b) q lk
abbrev SD(M:ZB):List (Key×V):=VD M λ_=> .bl true
def C4:∃M2,b8 (SD M) (Sum.inr x) (.bl true)=SD M2/\(M.Nodup->M2.Nodup)/\∀y,y∈M2↔y∈M\/y=x:=by
 by_cases c:x∈M
 .refine%[M,?_,λh=>h|λy=>%[.inl|λh=>h.elim (λh=>h) λe=>e▸c]];unfold SD;rw[C2 c]
  simp_all
 .refine%[M++[x],?_,λh=>nodup_append.mpr %[h,by simp|λa d b f e=>c (by rw[<-Xq f,<-e];exact d)]|λy=>by simp];unfold SD;rw[dh _ (ir c)];unfold VD;rw[Zd];rfl
def wa:∀{R M:ZB},∃M2,gU (SD M) (SD R)=SD M2/\(M.Nodup->M2.Nodup)/\∀y,y∈M2↔y∈M\/y∈R
 |[],M=>%[M,rfl,λh=>h|λy=>by simp]
 | x::R,M=>by
   have%[M1,a,n1|b]:=C4;have%[M2,c,d|m2]:=wa (R:=R);refine%[M2,?_,λh=>d (n1 h)|λy=>by rw[m2,b,Yw,or_assoc]];show gU (b8 _ (Sum.inr x) (.bl true)) (SD R)=_;rw[a,c]
def sF(r:Rch ks a c):∃y,Ed ks a y/\(y=c\/Rch ks y c):=by
 induction r with
 | one e=>exact%[_,e|.inl rfl]
 | more _ e b=>
   have%[y,h|q]:=b;exact%[y,h|.inr (q.elim (λq=>q▸ .one e) λq=> .more q e)]
def Hr{b:ZB}{ss:ZG}(h:∀t∈ss,dz b t.2){x y:Str}(r:Rch (ss\2) x y):y∈b:=by
 have:∃a,Ed (ss\2) a y:=by
  cases r with
  | one e=>exact%[_|e]
  | more _ e=>exact%[_|e]
 have%[a,z|d]:=this;have%[t,f|c]:=Xr d;have%[u,v,w,e,_|g]:=h t f;rw[e]at c;exact((List.cons.inj (List.cons.inj c).2).1)▸g
structure Rea (H:Hp) (ks:List ZB) (rs:Gs Str):Prop where
 nd:(rs\1).Nodup
 ad:(rs.map (·.2.1)).Nodup
 at_:∀r∈rs,H r.2.1∣.dK (SD r.2.2)/\r.2.2.Nodup/\∀y,y∈r.2.2↔Rch ks r.1 y
inductive yZ
 | mk (l m ns ss):vs=[.ref l,.ref m]->H l<*ns\3->ns.Nodup-> ~~~ns<=63->H m∣.lst (ss\0)->cT H ns ss-> ~~~ss<=150->(∀x,¬ Rch (ss\2) x x)->(∀d H' rs,ah H H'->H d=none->H' d∣.dK (gD rs)->Rea H' (ss\2) rs->(∀r∈rs,r.2.1≠d/\H r.2.1=none)->(∀x,x∈rs\1↔x∈ns)->Q (.ref d) H')->yZ vs H Q E0
def pP(T:Txt K mg):Cal P w K mg base 4 "all_beneath" ["names","found"] yZ:=by
 .exists T.aR,cY,cv,u,%[l,m,ns,ss,rfl,hl,nn,nl,hm,O,bb,nr|kk];refine%[_,%["JCG2F~TA1BCG3sCRSF~2A0A1BK4Cos34DRS~H~I2A4AUBBK5CokV34L5[Da~>~^V34AV3L5[BDH3",cY.nd|u]|?_]
  show aU _ _ _ [!l,!m,none,none,none,none] H;refine am λD1 k1 _=>?_
  lk;refine%[m,ns,ss,ρ,hm,O,bb|λb H1 s1 fb hb=>k1 _ _ (am λD2 k2 _=>?_)];lk;intro d fd;refine k2 _ _ (am λD3 k3 _=>az λbc hK=>?_);have s2:=ah.upd (o:= .dK []) fd;have hd:upd H1 d (.dK []) d∣.dK (gD ([]:Gs Str)):=aa;have Y:=s1.trans s2;have be:b≠d:=λc=>by
   have%[bf,G|_]:=hb;rw[c,fd]at G;cases G
  have bl:=s1.free fd;have bm:=hb.up s2
  generalize upd H1 d (.dK [])=H2 at s2 hd Y bm
  lk;refine%[l,m,ns,ss,ρ,Y _ _ hl,nn,nl,Y _ _ hm,O.up Y,bb|λr H3 L s3 ak Ln Ls cd rest=>%[r,ρ,%[_|SqL.of ak]|hK _ _ ?_]];have cw:=s2.trans s3;have bn:∀x∈ns,x∈L:=λx hx=>Decidable.byContradiction λc=>Hd (ks:=ss\2) (U:=ns.filter λx=>decide (x∉L)) (λx hx=>by
   have%[G|J]:=List.mem_filter.mp hx;have%[y,e,yn|yl]:=rest x G (Zo J);exact%[y,List.mem_filter.mpr %[yn|Zf yl]|e]) nr (List.mem_filter.mpr %[hx|Zf c])
  have Lm: ~~~(L\3)= ~~~L:=Z6 _;have Ll:=_ST.nodup_sub Ln Ls;have bt:=bm.up s3;have al:=Y.trans s3;refine br (λi σ C=>(∃o4 o5,σ=[!l,!m,!b,!d,o4,o5])/\c8 d H3 C/\∃rs:Gs Str,C d∣.dK (gD rs)/\Rea C (ss\2) rs/\(∀r∈rs,r.2.1≠d/\H3 r.2.1=none)/\rs\1=L.take i)
   %[%[_,_|rfl],λ_ _ _ e=>e,[],s3 _ _ hd,%[X4,X4|λ_ h=>(nomatch h)],λ_ h=>(nomatch h)|rfl] (λi σ C h=>h.2.1 _ _ (λc=>by have:=s3 _ _ hd;rw[<-c,ak]at this;cases this) ak) ?_ ?_
  .intro i n σ C hn %[%[o4,o5|rfl],sm,rs,ac,g,rn|rk];have tk:L.take (i+1)=L.take i++[n]:=by rw[Xc,hn];rfl
   show aU _ _ _ [!l,!m,!b,!d,-n,o5] C;refine am λD4 k4 _=>?_
   lk;intro e fe;have B:e≠d:=λc=>by rw[c,ac]at fe;cases fe
   have an:n∉rs\1:=by
    rw[rk];intro c;have%[j|hj]:=Xi c;have jl:=(Xo hj).1;rw[Yl]at jl;rw[Yc ⋯]at hj;have:=iL Ln hj hn
    lia
   have rl: ~~~rs<=63:=by
    have: ~~~(rs\1)<= ~~~L:=by rw[rk,Yl];lia
    rw[Z6]at this
    lia
   have e3:H3 e=none:=by
    cases q:H3 e with
    | none=>rfl
    | some o=>rw[sm e o B q]at fe;cases fe
   refine%[_,eT.k (k:=Sum.inr n) (ah.upd fe _ _ ac) (by unfold gD;rw[Z6];exact aD ⋯)|k4 _ _ ?_];rw[dh _ (jz an),show gD rs++[(Sum.inr n,V.ref e)]=gD (rs++[(n,e,[])]) by unfold gD;rw[Zd];rfl];have he:upd (upd C e (.dK [])) d (.dK (gD (rs++[(n,e,[])]))) e∣.dK (SD []):=by rw[ao B,aa];rfl
   have b0:upd (upd C e (.dK [])) d (.dK (gD (rs++[(n,e,[])]))) d=_:=aa;have o4:∀c o,c≠d->C c∣o->upd (upd C e (.dK [])) d (.dK (gD (rs++[(n,e,[])]))) c∣o:=λc o h q=>by rw[ao h,ao (aw q fe)];exact q
   generalize upd (upd C e (.dK [])) d (.dK (gD (rs++[(n,e,[])])))=H4 at he b0 o4
   have as:c8 d H3 H4:=λc o h q=>o4 c o h (sm c o h q)
   refine aB λD5 k5 _=>az λbc hK=>?_
   lk;refine%[tyD (as _ _ be bt.choose_spec.1),#[0]|λp hp=>?_];have%[bf,a,b1,ch,ag|cl]:=bt.get as be (λxs c=>by rw[s3 _ _ hd]at c;cases c) hp n;have sp:=ah.upd (o:= .lst []) hp;have he:=sp _ _ he;have a0:=sp _ _ b0;have a1:=as.trans (c8.of sp);have a2:∀c o,c≠d->C c∣o->upd H4 p (.lst []) c∣o:=λc o h q=>sp _ _ (o4 c o h q)
   have ae:a≠e:=by
    rcases cl with rfl|⟨o,ho⟩
    .exact λc=>by rw[c]at hp;have:=he;rw[c,aa]at this;cases this
    .exact λc=>by rw[c,e3]at ho;cases ho
   generalize upd H4 p (.lst [])=H5 at b1 ag he a0 a1 a2 ⊢
   generalize b2:(ss.filter λt=>decide (t.2[0]?∣n))=ts at ag
   have tm: ~~~(ts\0)= ~~~ts:=Z6 _;have co:∀t∈ts,t∈ss/\∃y z,t.2=[n,y,z]:=λt ht=>by
    rw[<-b2]at ht;have%[G|J]:=List.mem_filter.mp ht;have%[x,y,z,e|_]:=(O t G).2;have J:=Zo J;rw[e]at J;exact%[G,y,z|by rw[e,show x=n from Za J]]
   refine%[Sum.inr n,ρ,bf,b1,a,ch,%[_|SqL.of ag]|hK _ _ ?_];refine br (λj σ N=>(∃o5,σ=[!l,!m,!b,!d,-n,o5])/\c8 e H5 N/\∃M:ZB,N e∣.dK (SD M)/\M.Nodup/\(∀y∈M,Rch (ss\2) n y)/\∀t∈ts.take j,∀y,t.2[1]?∣y->y∈M/\∀z,Rch (ss\2) y z->z∈M)
    %[%[_|rfl],λ_ _ _ q=>q,[],he,X4,λ_ h=>(nomatch h)|λ_ h=>(nomatch h)] (λj σ N h=>h.2.1 _ _ ae ag) ?_ ?_
   .intro j t σ N ht %[%[o5|rfl],v,M,hM,Mn,Mr|Md];have%[b3,y,z|et]:=co t (Z8 ht);show aU _ _ _ [!l,!m,!b,!d,-n,some (.ref t.1)] N;refine am λD6 k6 _=>?_
    lk;have a3:∀c o,c≠d->c≠e->H3 c∣o->N c∣o:=λc o G J q=>v c o J (a1 c o G q)
    have te:∀c zs,H3 c&&&zs->N c&&&zs:=λc zs q=>a3 c _ (λz=>by rw[z,s3 _ _ hd]at q;cases q) (λz=>by rw[z,e3]at q;cases q) q
    have t6:=te _ _ (al _ _ (O t b3).1);rw[et]at t6;have a4:=v d _ B.symm a0;have ai:bF (gD (rs++[(n,e,([]:ZB))])) (Sum.inr n)∣.ref e:=by
     have%[r,cs,e1|hv]:=kb (rs:=rs++[(n,e,[])]) (y:=n) ∅;rcases Xp cs with q|q
     .exact(an (by exact e1▸Xs %[r,q|rfl])).elim
     .rw[Xq q]at hv;exact hv
    have gn:=bQ.k (k:=Sum.inr n) a4;rw[ai]at gn;have ed:Ed (ss\2) n y:=%[z|et▸Xs %[t,b3|rfl]]
    have yt:=cd i n hn y ed;rw[<-rk]at yt;have%[M1,e1,n1|m1]:=C4 (M:=M) (x:=y);have a5:∀U:ZB,U.Nodup->(∀x∈U,Rch (ss\2) n x)-> ~~~U<=63:=λU G J=>Yg (_ST.nodup_sub G λx hx=>Hr (λt ht=>(O t ht).2) (J x hx)) nl
    have Ml:=a5 M Mn Mr;refine%[_,gn,_,SqT.of t6,_,ρ,e,ρ,_,eT.k (k:=Sum.inr y) hM (by unfold SD VD;rw[Z6];exact aD ⋯)|k6 _ _ (aB λD7 k7 _=>?_)];rw[e1];have b4:∀x∈M1,Rch (ss\2) n x:=λx hx=>((m1 x).mp hx).elim (Mr x) λq=>q▸ .one ed
    have a6:upd N e (.dK (SD M1)) e∣.dK (SD M1):=aa;have u7:∀c o,c≠e->N c∣o->upd N e (.dK (SD M1)) c∣o:=λc o h q=>(ao h)▸q
    generalize upd N e (.dK (SD M1))=H7 at a6 u7
    have b5:=bQ.k (k:=Sum.inr n) (u7 _ _ B.symm a4);rw[ai]at b5;have%[ry,I,ey|gy]:=kb (rs:=rs++[(n,e,[])]) (y:=y) (Zd▸Yu _ yt);have I:ry∈rs:=by
     rcases Xp I with q|q
     .exact q
     .rw[Xq q]at ey;exact(nr n (.one (by rw[<-show n=y from ey]at ed;exact ed))).elim
    have b6:=bQ.k (k:=Sum.inr y) (u7 _ _ B.symm a4);rw[gy]at b6;have ba:ry.2.1≠e:=aw (g.at_ ry I).1 fe;have ct:=u7 _ _ ba (v _ _ ba (a2 _ _ (rn ry I).1 (g.at_ ry I).1));lk;have%[M2,e2,n2|m2]:=wa (R:=ry.2.2) (M:=M1);have ab:=(g.at_ ry I).2;rw[ey]at ab;have cM:=a5 M1 (n1 Mn) b4;have Rl:=a5 ry.2.2 ab.1 λx hx=>(Rch.one ed).trans ((ab.2 x).mp hx)
    refine%[_,b5,tyD (a6),_,SqT.of (u7 _ _ (λc=>by rw[c,hM]at t6;cases t6) t6),_,ρ,_,b6,ry.2.1,ρ,_,_,ba.symm,a6,ct,by unfold SD VD;rw[Z6,Z6,PySem.sizeLine_eq];lia|?_];rw[e2];refine k7 _ _ %[%[_|rfl],λc o h q=>(ao h)▸u7 c o h (v c o h q),M2,aa,n2 (n1 Mn),λx hx=>?_|λt' b9 x ex=>?_]
    .rcases(m2 x).mp hx with q|q
     .exact b4 x q
     .exact(Rch.one ed).trans ((ab.2 x).mp q)
    .rw[Xc,ht]at b9;rcases Xp b9 with q|q
     .have%[G|J]:=Md t' q x ex;exact%[(m2 x).mpr (.inl ((m1 x).mpr (.inl G)))|λz hz=>(m2 z).mpr (.inl ((m1 z).mpr (.inl (J z hz))))]
     .rw[show t'=t from Xq q,et]at ex;obtain rfl:y=x:=Za ex;exact%[(m2 y).mpr (.inl ((m1 y).mpr (.inr rfl)))|λz hz=>(m2 z).mpr (.inr ((ab.2 z).mpr hz))]
   .intro σ N %[%[o5|rfl],v,M,hM,Mn,Mr|Md];rw[Zn (Zi _)]at Md;have all:∀y,y∈M↔Rch (ss\2) n y:=λy=>%[Mr y|λr=>by
     have%[x,%[z|hz]|q]:=sF r;have%[t,ht|et]:=Xr hz;have h:=Md t (b2▸List.mem_filter.mpr %[ht|by rw[et];simp]) x (by rw[et];rfl);exact q.elim (λq=>q▸h.1) λq=>h.2 y q]
    have ca:∀r∈rs,r.2.1≠e:=λr u=>aw (g.at_ r u).1 fe
    refine k5 _ _ %[%[_,_|rfl],λc o h q=>v c o (aw q e3) (a1 c o h q),rs++[(n,e,M)],?_,%[?_,?_|λr u=>?_],λr u=>?_|by rw[Zd,rk,tk];rfl]
    .rw[v d _ B.symm a0];unfold gD;rw[Zd,Zd];rfl
    .rw[Zd,X2];exact%[g.nd,by simp|λa ha b hb c=>an (by rw[<-show b=n from Xq hb,<-c];exact ha)]
    .rw[Zd,X2];refine%[g.ad,by simp|λa ha b hb c=>?_];have%[r,u|rfl]:=Xr ha;exact ca r u (c.trans (Xq hb))
    .rcases Xp u with q|q
     .exact%[v _ _ (ca r q) (a2 _ _ (rn r q).1 (g.at_ r q).1)|(g.at_ r q).2]
     .rw[Xq q];exact%[hM,Mn|all]
    .rcases Xp u with q|q
     .exact rn r q
     .rw[Xq q];exact%[B|e3]
  .intro σ C %[%[o4,o5|rfl],sm,rs,ac,g,rn|rk];rw[Zn (Zi _)]at rk;refine k3 _ _ ?_;lk;exact kk d C rs (λc o e=>sm c o (aw e bl) (al _ _ e)) bl ac g (λr u=>%[(rn r u).1|al.free (rn r u).2]) λx=>rk▸%[Ls x|bn x]
structure ReF (H:Hp) (ks:List ZB) (d:Addr) (rs:Gs Str):Prop where
 at_:∃o,H d∣.frz o (.dK (gD rs))
 nd:(rs\1).Nodup
 in_:∀r∈rs,(∃o,H r.2.1∣.frz o (.dK (SD r.2.2)))/\r.2.2.Nodup/\∀y,y∈r.2.2↔Rch ks r.1 y
def ReF.up(h:ReF H ks d rs)(s:ah H b):ReF b ks d rs:=
 %[h.at_.imp λo e=>s _ _ e,h.nd|λr a=>%[(h.in_ r a).1.imp λo e=>s _ _ e|(h.in_ r a).2]]
def ReF.same{H:Hp}{ks ms:List ZB}{d:Addr}{rs:Gs Str}(h:ReF H ks d rs)(e:∀k,k∈ks↔k∈ms):ReF H ms d rs:=%[h.at_,h.nd|by rw[<-pK e];exact h.in_]
inductive y3
 | mk (l m ns ss):vs=[.ref l,.ref m]->H l<*ns\3->ns.Nodup-> ~~~ns<=63->H m∣.lst (ss\0)->cT H ns ss-> ~~~ss<=150->(∀x,¬ Rch (ss\2) x x)->(∀d H' rs,ah H H'->ReF H' (ss\2) d rs->(∀x,x∈rs\1↔x∈ns)->Q (.ref d) H')->y3 vs H Q E0
def qz(T:Txt K mg):Cal P w K mg base 4 "all_beneath" ["names","found"] y3:=by
 refine(pP T).freeze.imp λvs H Q E zqw=>?_;have%[l,m,f,ss,g,h,i,j,n,p,s,u|v]:=zqw;refine %[l,m,f,ss,g,h,i,j,n,p,s,u|λd C rs y G z a A B=>%[d::rs.map _|λI=>v d _ rs (λc o e=>?_) %[%[_|jt Zm z],a.nd|λr b=>%[%[_|jt (Zk _ (Xs %[r,b|ρ])) (a.at_ r b).1]|(a.at_ r b).2]] B]]
 rw[iW]
 .exact y c o e
 .intro q;rcases mem_cons.mp q with rfl|q
  .lia
  .have%[r,b|rfl]:=Xr q;rw[(A r b).2]at e;cases e
inductive y4 (mg:ZC)
 | mk (g qs ls ts):vs=[.ref g]->iK mg H g qs ls ts->(∀lk,cq (a9 qs) (ts\2) lk->∀x,¬ Rch lk x x)->(∀d H' rs lk ns,ah H H'->cq (a9 qs) (ts\2) lk->sk (a9 qs) ls ns->ReF H' lk d rs->(∀x,x∈rs\1↔x∈ns)->Q (.ref d) H')->y4 mg vs H Q E0
def jh(T:Txt K mg):Cal P w K mg base 7 "earlier_ones" ["ground"] (y4 mg):=by
 .exists T.aW,iE,p,c,%[g,qs,ls,ts,rfl,a,j|q];have%[r,c3,u|v]:=a.gr;have O:=a.ll;refine%[_,%["JCG1F~5A0BDHF],AF~tA0BA1B",iE.nd|c]|?_]
  show aU _ _ _ [some _,none] H;refine am λU k1 _=>?_
  lk;refine%[g,qs,ls,ts,ρ,a,j|λl Y y ss n z B C lk=>k1 _ _ ?_];lk;refine%[g,r,c3,u,qs,ls,ts,ρ,v.up n,a.nd,a.so,⋯|λm H2 e i fm G b=>?_];have nl: ~~~e<=63:=by
   have:=_ST.nodup_sub b.nd λx I=>((b.mem x).mp I).1
   lia
  refine%[m,l,e,ss,ρ,G,b.nd,nl,i _ _ z,λt o=>%[i _ _ (B t o).1|a.names lk b _ (Xs %[t,o|ρ])],C,j _ lk|λd J rs L M N=>q d J rs _ e (n.trans (i.trans L)) lk b M N]
def pQ{S:Str->Str->Prop}{P:Str->Prop}{x y:Str}(h:cL S x y)(e:P x)(d: ¬ P y):∃a b,(S a b\/S b a)/\P a/\ ¬ P b/\cL S x a:=by
 induction h with
 | refl=>exact(d e).elim
 | @step y z c s f=>
   by_cases p:P y
   .exact%[y,z,s,p,d|c]
   .exact f p
structure Rnd (ls:ZB) (ps:List (Str×Str)) (S:Str->Str->Prop) (f:Str->Str) (r:Nat):Prop where
 con:∀z∈ls,cL S z (f z)
 dn:∀z∈ls,aP z (f z)=false
 cnt:∀m∈ls,bN S m m->(∀z∈ls,cL S m z->f z=m)\/r<= ~~~(ps.filter λp=>decide (f p.1=m/\f p.2=m))
def Rnd.nil{ls:ZB}{ps:List (Str×Str)}{S:Str->Str->Prop}:Rnd ls ps S id 0:=%[λz _=> .refl z,λz _=>cS z|λm a _=> .inr (Xh _)]
def y6{c:Type}{p q:c->Bool}:∀{l:List c},(∀x∈l,p x=true->q x=true)-> ~~~(l.filter p)<= ~~~(l.filter q)
 |[],_=>Zi _
 | x::l,h=>by
   have e:=y6 (l:=l) λy d=>h y (Zk _ d)
   have f:=h x Zm;rw[Y4,Y4];cases a:p x<;> cases b:q x<;> simp_all
   lia
def y8{d:Type}{p q:d->Bool}:∀{l:List d},(∀x∈l,p x=true->q x=true)->(∃x∈l,q x=true/\p x=false)-> ~~~(l.filter p)< ~~~(l.filter q)
 |[],_,h=>(nomatch h.choose_spec.1)
 | x::l,h,⟨y,c,e,f⟩=>by
   have sub:∀y∈l,p y=true->q y=true:=λy c=>h y (Zk _ c)
   have g:=h x Zm;rw[Y4,Y4];rcases mem_cons.mp c with rfl|c
   .have:=y6 sub;rw[e,f];simp
    lia
   .have i:=y8 sub %[y,c,e|f];cases a:p x<;> cases b:q x<;> simp_all
    lia
structure Mid (ls:ZB) (S T:Str->Str->Prop) (f g:Str->Str):Prop where
 con:∀z∈ls,cL S z (g z)
 le:∀z∈ls,aP (f z) (g z)=false
 don:∀a b,T a b->aP (f a) (g b)=false/\aP (f b) (g a)=false
def dP{x y z:Str}(b:aP y x=false)(a:aP z y=false):aP z x=false:=by
 cases h:aP z x
 .rfl
 .by_cases e:y=x
  .rw[e,h]at a;cases a
  .rw[dJ h (dL b e)]at a;cases a
def Mid.step{ls:ZB}{S T:Str->Str->Prop}{f g:Str->Str}{a b:Str}(h:Mid ls S T f g)(ws:∀x y,S x y->x∈ls/\y∈ls)(s:S a b)(sub:∀x y,T x y->S x y){v:Str}(j:v=if aP (g b) (g a)=true then g b else g a):
 Mid ls S (λx y=>T x y\/(x=a/\y=b)) f (λx=>if x=b then v else if x=a then v else g x):=by
 have%[l|m]:=ws _ _ s;have v1:aP (g a) v=false:=by
  rw[j];split
  .cases q:aP (g a) (g b)
   .rfl
   .rename_i c;have:=dJ c q;rw[cS]at this;cases this
  .exact cS _
 have n:aP (g b) v=false:=by
  rw[j];split
  .exact cS _
  .rename_i c;simpa using c
 have o:cL S a v:=by
  rw[j];split
  .exact(cL.one (.inl s)).trans (h.con b m)
  .exact h.con a l
 have d:∀x∈ls,aP (g x) (if x=b then v else if x=a then v else g x)=false:=λx _=>by
  split
  .rename_i e;rw[e];exact n
  .split
   .rename_i e;rw[e];exact v1
   .exact cS _
 refine%[λz i=>?_,λz i=>dP (d z i) (h.le z i)|λx y t=>?_]
 .split
  .rename_i e;rw[e];exact(cL.one (.inr s)).trans o
  .split
   .rename_i e;rw[e];exact o
   .exact h.con z i
 .rcases t with t|⟨rfl,rfl⟩
  .have%[p|r]:=ws _ _ (sub _ _ t);exact%[dP (d y r) (h.don x y t).1|dP (d x p) (h.don x y t).2]
  .refine%[?_|?_]
   .rw[if_pos rfl];exact dP v1 (h.le x l)
   .rw[if_pos (rfl:x=x),ite_self];exact dP n (h.le y m)
def Rnd.step{ls:ZB}{ps:List (Str×Str)}{S:Str->Str->Prop}{f g:Str->Str}{r:Nat}(h:Rnd ls ps S f r)(n:∀x y,S x y↔(x,y)∈ps)(ws:∀x y,S x y->x∈ls/\y∈ls)(M:Mid ls S S f g):Rnd ls ps S g (r+1):=by
 refine%[M.con,λz d=>dP (M.le z d) (h.dn z d)|λm o A=>?_];have i:∀{y},cL S m y->aP m y=false->y=m:=λ{y} c l=>by
  by_cases q:y=m
  .exact q
  .have:=dL (A.2 _ c) q;rw[l]at this;cases this
 have j:∀z∈ls,f z=m->g z=m:=λz d e=>by
  have c:=h.con z d;have l:=M.le z d;rw[e]at c l;exact i (c.symm.trans (M.con z d)) l
 rcases h.cnt m o A with q|q
 .exact .inl λz d c=>j z d (q z d c)
 .by_cases all:∀z∈ls,cL S m z->f z=m
  .exact .inl λz d c=>j z d (all z d c)
  .obtain⟨z,d,c,u⟩:∃z,z∈ls/\cL S m z/\f z≠m:=by
    simp only[Classical.not_forall]at all;have%[z,d,c|u]:=all;exact%[z,d,c|u]
   have G:f m=m:=i (h.con m o) (h.dn m o);have%[a,b,s,v,B|H]:=pQ (P:=λx=>f x=m) c G u;have I:b∈ls:=s.elim (λs=>(ws _ _ s).2) λs=>(ws _ _ s).1
   have C:g b=m:=i ((H.trans (.one s)).trans (M.con b I)) (by
    rcases s with s|s
    .have:=(M.don a b s).1;rwa[v]at this
    .have:=(M.don b a s).2;rwa[v]at this)
   have E:g a=m:=j a (s.elim (λs=>(ws _ _ s).1) λs=>(ws _ _ s).2) v;have:=y8 (p:=λp:Str×Str=>decide (f p.1=m/\f p.2=m)) (q:=λp=>decide (g p.1=m/\g p.2=m)) (l:=ps) (λp q h=>by
    have e:=Zo h;have:=ws _ _ ((n p.1 p.2).mpr q);exact Zf %[j _ this.1 e.1|j _ this.2 e.2]) (by
    rcases s with s|s
    .exact%[(a,b),(n a b).mp s,Zf %[E|C]|Zh λh=>B h.2]
    .exact%[(b,a),(n b a).mp s,Zf %[C|E]|Zh λh=>B h.1])
   exact .inr ⋯
def C5{ls:ZB}{S:Str->Str->Prop}(ws:∀x y,S x y->x∈ls/\y∈ls):∀(n:Nat) {z:Str},yS ls z<=n->z∈ls->∃m,bN S z m:=λn=>by
 induction n with
 | zero=>
   intro z f a;refine%[z,.refl z|λy c=>?_];cases q:aP y z
   .rfl
   .have:=pJ (c.within ws a) q
    lia
 | succ n g=>
   intro z f a;by_cases all:∀y,cL S z y->aP y z=false
   .exact%[z,.refl z|all]
   .simp only[Classical.not_forall]at all;have%[y,c|q]:=all;have b:=c.within ws a;have:=pJ b ↑q;have%[m|e]:=g ⋯ b;exact%[m,c.trans e.1|λu d=>e.2 u (c.symm.trans d)]
def Rnd.done{ls:ZB}{ps:List (Str×Str)}{S:Str->Str->Prop}{f:Str->Str}(h:Rnd ls ps S f ps.length)(l:∀x y,S x y↔(x,y)∈ps)(ws:∀x y,S x y->x∈ls/\y∈ls){z:Str}(j:z∈ls):f z∈ls/\bN S z (f z):=by
 have%[m|g]:=C5 ws _ (Zi _) j;have i:=g.1.within ws j;have d:bN S m m:=%[.refl m|λy c=>g.2 y (g.1.trans c)]
 have e:f z=m:=by
  rcases h.cnt m i d with q|q
  .exact q z j g.1.symm
  .have all:=List.length_filter_eq_length_iff.mp (Nat.le_antisymm (Yi _ _) q);have o:f m=m:=(bN.one %[h.con m i|λy c=>dP (h.dn m i) (d.2 y c)] d)
   refine Classical.byContradiction λp=>?_
   have%[a,b,s,r,n|_]:=pQ (P:=λx=>f x=m) g.1.symm o p;rcases s with s|s
   .exact n (Zo (all _ ((l a b).mp s))).2
   .exact n (Zo (all _ ((l b a).mp s))).1
 rw[e];exact%[i|g]
def wb{c:Nat}(h:c≠10):∀{rows:ZB},c∈(Str.join nl rows).cps.toList↔∃r∈rows,c∈r.cps.toList
 |[]=>by simp[Str.join,Str.empty]
 |[x]=>by simp[Str.join]
 | x::y::r=>by
   have a:=wb h (rows:=y::r);rw[show(Str.join nl (x::y::r)).cps.toList=_ from eL nl x y r,Yt,Yt,a];have:c∉nl.cps.toList:=λq=>h (by simpa using (show c∈[10]from q))
   simp[this]
def E9{z:Str}{g:TG}{j:TS}{D:lL}{a:_LL.St}{H:Hp}(Pv:Nat->_LL.St->Hp->Prop)(n:Pv 0 a H)
 (o:∀i c a H,z.cps[i]?∣c->Pv i a H->g (.str (sgn c)) a H λb h=>j {D with nx:=Pv (i+1),ct:=Pv (i+1),bk:=D.nx} b h) (q:∀a H,Pv z.cps.size a H->D.nx a H):
 ∃W:Nat->Nat->_LL.St->Hp->Prop,(∃m,W 0 m a H)/\∀i m a H,W i m a H->
  ((Its z).stop i H/\D.nx a H)\/((Its z).go i H/\∃N:_LL.St->Hp->Prop,(∀d e,N d e->∃l,l<m/\W (i+1) l d e)/\∀x e,(Its z).yld i H x e->g x a e λb h=>j {D with nx:=N,ct:=N,bk:=D.nx} b h):=by
 refine%[λi m a H=>m=z.cps.size-i/\i<=z.cps.size/\Pv i a H,%[z.cps.size,by simp,Xh _|n]|?_];intro i m a H %[rfl,hi|p];by_cases f:i<z.cps.size
 .refine .inr %[f,Pv _,λd e r=>%[z.cps.size-(i+1),⋯,rfl,f|r]|λx e y=>?_];have%[rfl,c,s|rfl]:=y;exact o i c a _ s p
 .obtain rfl:i=z.cps.size:=by lia
  exact .inl %[Zi _|q a H p]
def y9{p:Addr×Str×ZB}{z:Str}:z∈lyr p↔∃c,Let p.2.2 c/\z=lnS p.2.1 (sgn c):=by
 constructor
 .intro h;have%[y,b|rfl]:=Xr h;have%[c,a|rfl]:=Xr (bd.mp b);exact%[c,gM.mp a|ρ]
 .rintro⟨c,a,rfl⟩;exact jv a
def uu{H:Hp}:∀{cs:ZH},bU H cs-> ~~~(cs.flatMap lyr)<=26* ~~~cs
 |[],_=>Zi _
 | q::cs,h=>by
   have b:=uu (cs:=cs) λp a=>h p (Zk _ a)
   have: ~~~(lyr q)<=26:=by
    unfold lyr;rw[Z6];exact jU (jo (h q Zm).2.2.sign)
   rw[flatMap_cons,Z9,Zr]
   lia
abbrev qA(q:Addr×ZM):Bool:=decide (q.2[0]?∣.str (!"same"))
abbrev prT(q:Addr×ZM):Str×Str:=match q.2 with|[_,.str a,.str b]=>(a,b)|_=>(Str.empty,Str.empty)
def zb{ls:ZB}{q:Addr×ZM}(h:mU ls q.2)(e:qA q=true):∃a b,q.2=[.str (!"same"),.str a,.str b]/\a∈ls/\b∈ls/\prT q=(a,b):=by
 have e:=Zo e;rcases h with⟨w,a,b,h,_,c,d,_⟩|⟨w,a,y,h,hw,_⟩
 .rw[h]at e;obtain rfl:w=Str.ofString "same":=V.str.inj (Za e);exact%[a,b,h,c,d|by unfold prT;rw[h]]
 .rw[h]at e;have:=V.str.inj (Za e);rw[this]at hw;exact absurd hw (!1)
def Fa{H:Hp}{ls:ZB}{qs:ZN}(h:bp H ls qs)(a b:Str):a9 qs a b↔(a,b)∈(qs.filter qA).map prT:=by
 constructor
 .rintro⟨q,c,e⟩;exact Xs %[q,List.mem_filter.mpr %[c|by unfold qA;rw[e];exact Zf rfl]|by unfold prT;rw[e]]
 .intro m;have%[q,c|e]:=Xr m;have%[d|f]:=List.mem_filter.mp c;have%[x,y,g,_,_|i]:=zb (h q d).2 f;rw[i]at e;cases e;exact%[q,d|g]
inductive wc
 | mk (l m:Addr) (cs:ZH) (qs:ZN):vs=[.ref l,.ref m]->H l<*cV cs->H m∣.lst (qs\0)->bU H cs->bp H (cs.flatMap lyr) qs-> ~~~cs<=3-> ~~~qs<=40->(∀d H' ms f,ah H H'->H d=none->H' d∣.dK (NmD ms f)->ms.Nodup->(∀z,z∈ms↔z∈cs.flatMap lyr)->(∀z∈ms,f z∈ms/\bN (a9 qs) z (f z))->Q (.ref d) H')->wc vs H Q E0
def we(T:Txt K mg):Cal P w K mg base 1 "_law_homes" ["_law_cuts_here","_law_sayings"] wc:=by
 .exists T.bE,bw,b1,hr,%[l,m,cs,qs,rfl,hl,hm,ca,sa,c3,bb|kk];have qm: ~~~(qs\0)= ~~~qs:=Z6 _;have as: ~~~(cV cs)= ~~~cs:=Z6 _;refine%[_,%["JCG2sCRS0iNK3NK4dDR~M4K5DOM~65WDoI$I$3W52I$I$3W5PC~k6rqc?1S1X0?2vMZL0EW0CR&AghA6BBK7DRS6iNK8NK9NK:dCG;~R~}AV29AV2/:BCo/;29Do/;2/:DH2",bw.nd,↑(["_law_saying"],[]),↑["_law_saying"]|hr]|?_]
  show aU _ _ _ [!l,!m,none,none,none,none,none,none,none,none,none,none] H;refine am λD1 k1 _=>?_
  lk;intro d fd;refine k1 _ _ (am λD2 k2 _=>az λN hK=>?_);have s1:=ah.upd (o:= .dK []) fd;lk;refine%[%[_|SqL.of (s1 _ _ hl)]|hK _ _ (eS (λi n J=>∃o3 o4 U ms,n=[!l,!m,!d,o3,o4,U,none,none,none,none,none,none]/\ah H J/\J d∣.dK (NmD ms id)/\ms.Nodup/\∀z,z∈ms↔z∈(cs.take i).flatMap lyr)
   %[_,_,_,[],ρ,s1,aa,X4|λz=>Iff.rfl] (λi n J _ ⟨_,_,_,_,_,q,_⟩=>SqL.of (q _ _ hl)) ?_ ?_)]
  .intro i x n H1 hx %[o3,o4,U,ms,rfl,O,hd,nd|mem];have hi:i< ~~~cs:=by rw[<-as];exact(Xo hx).1
   obtain⟨q,hq,rfl⟩:∃q,cs[i]?∣q/\x=V.ref q.1:=by
    unfold cV at hx;rw[Zl,Z4 hi]at hx;exact%[cs[i],Z4 hi|(Za hx).symm]
   have a0:=Z8 hq;have%[a1,bc|be]:=ca q a0;have tk:cs.take (i+1)=cs.take i++[q]:=by rw[Xc,hq];rfl
   have tx:∀c,c≠10->c≠46->(c∈(Str.join nl q.2.2).cps.toList↔Let q.2.2 c):=λc I L=>by
    rw[wb I];exact%[λh=>%[L|h]|λh=>h.2]
   have b2:=jc bc
   generalize Str.join nl q.2.2=tt at tx a1
   refine%[_,SqT.of (O _ _ a1),ρ,_,_,ρ,_,_,ρ,ρ|?_];refine aB λD3 k3 _=>az λN hK=>?_
   lk;refine hK _ _ (E9 (λj n J=>∃U ms,n=[!l,!m,!d,some (.str q.2.1),-tt,U,none,none,none,none,none,none]/\ah H J/\J d∣.dK (NmD ms id)/\ms.Nodup/\∀z,z∈ms↔z∈(cs.take i).flatMap lyr\/∃c∈tt.cps.toList.take j,c≠10/\c≠46/\z=lnS q.2.1 (sgn c))
    %[_,ms,rfl,O,hd,nd|λz=>by rw[mem];simp] ?_ ?_)
   .intro j c n H2 hc %[U,ms,rfl,O,hd,nd|mem];have B:tt.cps.toList[j]?∣c:=↑hc
    have ka:tt.cps.toList.take (j+1)=tt.cps.toList.take j++[c]:=by rw[Xc,B];rfl
    show jB _ _ _ _ [!l,!m,!d,some (.str q.2.1),-tt,some (.str (sgn c)),none,none,none,none,none,none] H2;refine aB λD4 k4 _=>?_
    lk;have bf: ~~~ms<=100:=by
     have:=_ST.nodup_sub nd (m:=cs.flatMap lyr) λz hz=>by
      rcases(mem z).mp hz with h|⟨c,hc,I,L,rfl⟩
      .have%[p,hp|e]:=mem_flatMap.mp h;exact mem_flatMap.mpr %[p,Yy hp|e]
      .exact mem_flatMap.mpr %[q,a0|y9.mpr %[c,(tx c I L).mp (Yy hc)|rfl]]
     have:=uu ca
     lia
    rw[show(!!(Builtin.Str.occurrences (!".\n") (sgn c) 0 (!".\n").length 1).isEmpty)=!decide (c∈(!".\n").cps.toList)from congrArg not (tD _ _),jw];have a2:c∈(!".\n").cps.toList↔c=46\/c=10:=by
     rw[show(!".\n").cps.toList=[46,10]from rfl];simp
    have ag: ~~~q.2.1+(!".").length<=sizeLine:=by rw[PySem.sizeLine_eq];show ~~~q.2.1+1<=_;lia
    have ai:(q.2.1++Str.ofString ".").length+ ~~~(sgn c)<=sizeLine:=by rw[PySem.sizeLine_eq,Str.length_append];show ~~~q.2.1+1+1<=_;lia
    refine bJ (λh=>?_) λh=>?_
    .have h: ¬ (c=46\/c=10):=λe=>by rw[Zf (a2.mpr e)]at h;cases h
     have a3:∀z,(z∈(cs.take i).flatMap lyr\/∃c∈tt.cps.toList.take (j+1),c≠10/\c≠46/\z=lnS q.2.1 (sgn c))↔z∈ms\/z=lnS q.2.1 (sgn c):=λz=>by
      rw[mem,ka]
      constructor
      .rintro(h|⟨c',B,I,L,e⟩)
       .exact .inl (.inl h)
       .rcases Xp B with u|u
        .exact .inl (.inr %[c',u,I,L|e])
        .rw[Xq u]at e;exact .inr e
      .rintro((h|⟨c',B,I,L,e⟩)|e)
       .exact .inl h
       .exact .inr %[c',Yu _ B,I,L|e]
       .exact .inr %[c,Yv _ Zm,λe=>h (.inr e),λe=>h (.inl e)|e]
     refine%[ag,ai,ag,ai,_,eT.k (k:=Sum.inr (lnS q.2.1 (sgn c))) hd (by unfold NmD;rw[Z6];exact aD ⋯)|?_];by_cases ac:lnS q.2.1 (sgn c)∈ms
     .refine k4 _ _ %[_,ms,rfl,ah.set O fd,?_,nd|λz=>by rw[a3];exact%[.inl|λh=>h.elim id λe=>e▸ac]];rw[aa,pH ac];exact congrArg (λf=>some (HO.dK (NmD ms f))) (funext λx=>by by_cases e:x=lnS q.2.1 (sgn c)<;> simp[e])
     .refine k4 _ _ %[_,ms++[lnS q.2.1 (sgn c)],rfl,ah.set O fd,by rw[aa,CQ ac],?_|λz=>by rw[a3,Yt,Yz]];rw[X2];exact%[nd,by simp|λa ha b hb e=>ac (by rw[<-Xq hb,<-e];exact ha)]
    .refine k4 _ _ %[_,ms,rfl,O,hd,nd|λz=>?_];have h:c=46\/c=10:=by
      rw[<-a2];simpa using h
     rw[mem,ka];refine or_congr Iff.rfl %[λ⟨c',B,r⟩=>%[c',Yu _ B|r]|λ⟨c',B,I,L,e⟩=>?_];rcases Xp B with u|u
     .exact%[c',u,I,L|e]
     .rw[Xq u]at I L;exact(h.elim L I).elim
   .intro n H2 %[U,ms,rfl,O,hd,nd|mem];refine k3 _ _ %[_,_,_,ms,rfl,O,hd,nd|λz=>?_];rw[mem,tk,flatMap_append,Yt];refine or_congr Iff.rfl ?_;rw[show List.flatMap lyr [q]=lyr q by simp,y9];have e:tt.cps.toList.take tt.cps.size=tt.cps.toList:=Zn ∅;rw[e]
    constructor
    .rintro⟨c,hc,I,L,e⟩;exact%[c,(tx c I L).mp hc|e]
    .rintro⟨c,hc,e⟩;have a4:c≠10:=by
      have%[_,r,hr|bl]:=hc;exact BT (all_eq_true.mp (be.sign r hr) c bl)
     exact%[c,(tx c a4 hc.1).mpr hc,a4,hc.1|e]
  .intro n H1 %[o3,o4,U,ms,rfl,O,hd,nd|mem];rw[as,Xf]at mem;refine k2 _ _ (am λD3 k3 _=>?_);lk;refine aG λN hK=>?_
   lk;have a5:=O _ _ hm;refine%[%[_|SqL.of a5]|hK _ _ λF hF=>?_];refine ce (λj vs n H7=>(∃o1,n=[o1])/\ah H1 H7/\H7 F<*vs/\vs=((qs.take j).filter qA)\0)
    %[%[none|rfl],ah.upd hF,aa|rfl] (λ_ _ _ H7 bm=>bm.2.1 _ _ a5) ?_ ?_
   .intro j vs n H8 hj %[%[o1|rfl],s7,a6|hv];have%[ht|so]:=sa _ (Yd hj);have st:=SqT.of (K:=K) (s7 _ _ (O _ _ ht));have fe:∀b:Bool,qA qs[j]=b->((qs.take (j+1)).filter qA)\0=vs++if b=true then [V.ref qs[j].1]else []:=λb hb=>by
     rw[hv,Xc,Z4 hj,Y3,Zd]
     congr 1
     show List.map _ (List.filter qA [qs[j]])=_;rw[Y4,hb];cases b<;> rfl
    have vl: ~~~vs<sizeLine:=by rw[hv,Z6];exact aD (Yg (Yi _ _) (by rw[Yl];lia))
    obtain⟨w,r,ew⟩:∃w r,qs[j].2=V.str w::r:=by
     rcases so with⟨w,a,b,e,_⟩|⟨w,a,y,e,_⟩
     .exact%[_,_|e]
     .exact%[_,_|e]
    rw[ew]at st;have is:qA qs[j]=decide (w=!"same"):=by
     unfold qA;rw[ew];simp
    lk;refine%[_,st,.str w,(show atI (V.str w::r) ((0:Nat):Int)∣.str w from b7 rfl),ρ|bJ (λc=>CK.mk hj a6 vl %[%[_|ρ],ah.set s7 hF,aa|?_]) λc=>CN.mk hj %[%[_|ρ],s7,a6|?_]]
    .rw[fe true (by rw[is];simpa using c)];rfl
    .rw[fe false (by rw[is];simpa using c)];simp
   intro vs n H3 %[_,s3,ae|rfl];rw[Zn (Zi _)]at ae
   generalize ak:qs.filter qA=us at ae
   have pI:=Fa sa;rw[ak]at pI;have ul: ~~~us<=40:=by rw[<-ak];exact Yg (Yi _ _) bb
   have tu:∀q∈us,H q.1&&&q.2/\∃a b,q.2=[.str (!"same"),.str a,.str b]/\a∈ms/\b∈ms/\prT q=(a,b):=λq hq=>by
    rw[<-ak]at hq;have%[I|L]:=List.mem_filter.mp hq;have%[a,b,e,ha,hb|h]:=zb (sa q I).2 L;exact%[(sa q I).1,a,b,e,(mem a).mpr ha,(mem b).mpr hb|h]
   have ws:∀a b,a9 qs a b->a∈ms/\b∈ms:=λa b h=>by
    have:=fV sa a b h;exact%[(mem a).mpr this.1|(mem b).mpr this.2]
   have bf: ~~~ms<=100:=by
    have:=_ST.nodup_sub nd (m:=cs.flatMap lyr) λz hz=>(mem z).mp hz
    have:=uu ca
    lia
   have um: ~~~(us\0)= ~~~us:=Z6 _;refine k3 _ _ (am λD4 k4 _=>az λN hK=>?_);lk;have bn:=O.trans s3;refine%[~~~us,.inl %[_,SqL.of ae|um.symm],⋯,⋯|hK _ _ (cP (λi n J=>∃o7 o8 o9 G C f,n=[!l,!m,!d,o3,o4,U,!F,o7,o8,o9,G,C]/\ah H J/\J F∣.lst (us\0)/\J d∣.dK (NmD ms f)/\Rnd ms (us.map prT) (a9 qs) f i)
    %[_,_,_,_,_,id,ρ,bn,ae,s3 _ _ hd|.nil] ?_ ?_)]
   .intro i n H5 hi %[o7,o8,o9,G,C,f,rfl,s5,al,an|R];show uA _ _ _ _ [!l,!m,!d,o3,o4,U,!F,some (.int (0+i)),o8,o9,G,C] H5;refine aB λD6 k6 _=>az λN hK=>?_
    lk;refine%[%[_|SqL.of al]|hK _ _ (br (λj n J=>∃o7 o8 o9 G C g,n=[!l,!m,!d,o3,o4,U,!F,o7,o8,o9,G,C]/\ah H J/\J F∣.lst (us\0)/\J d∣.dK (NmD ms g)/\Mid ms (a9 qs) (λa b=>(a,b)∈(us.take j).map prT) f g)
     %[_,_,_,_,_,f,ρ,s5,al,an,R.con,λz _=>cS _|λa b h=>(nomatch h)] (λj n J ⟨_,_,_,_,_,_,_,_,q,_⟩=>q) ?_ ?_)]
    .intro j q n H6 hq %[o7,o8,o9,G,C,g,rfl,s6,Y,ab|M];have ba:=Z8 hq;have%[q1,a,b,e,ha,hb|pe]:=tu q ba;have st:=SqT.of (K:=K) (s6 _ _ q1);rw[e]at st;have get:∀y∈ms,bQ H6 d (.str y) (some (.str (g y))):=λy hy=>by
      have:=bQ.k (k:=Sum.inr y) ab;rw[fE hy]at this;exact this
     have bt:a9 qs a b:=(pI a b).mpr (Xs %[q,ba|pe]);refine%[_,st,ρ,_,_,ρ,_,_,ρ,_,_,ρ,ρ|?_];show aU _ _ _ [!l,!m,!d,o3,o4,U,!F,o7,some (.str (!"same")),-a,-b,C] H6;refine am λD7 k7 _=>?_
     lk;refine%[_,get a ha,_,get b hb,_,ρ,_,ρ|k7 _ _ (am λD8 k8 _=>?_)]
     generalize hv:(if aP (g b) (g a)=true then g b else g a)=v
     have hn:∀g,~~~(NmD ms g)<sizeLine:=λg=>by unfold NmD;rw[Z6];exact aD ⋯
     have P1:=eT.k (k:=Sum.inr a) (v:= .str v) ab (hn g);rw[pH ha]at P1;have b0:F≠d:=λc=>by rw[c,ab]at Y;cases Y
     lk;refine%[_,P1|k8 _ _ (aB λD9 k9 _=>?_)];have P2:=eT.k (k:=Sum.inr b) (v:= .str v) (H:=upd H6 d (.dK (NmD ms λx=>if x=a then v else g x))) aa (hn _);rw[pH hb,Dj]at P2;lk;refine%[_,P2|k9 _ _ %[_,_,_,_,_,_,ρ,ah.set s6 fd,(ao b0).trans Y,aa|?_]];have M2:=M.step ws bt (λx y h=>(pI x y).mpr ((List.map_subset prT (List.take_subset j us)) h)) hv.symm;refine%[M2.con,M2.le|λx y t=>M2.don x y ?_];have t:(x,y)∈(us.take (j+1)).map prT:=t;rw[Xc,hq,Zd]at t;rcases Xp t with z|z
     .exact .inl z
     .have z:(x,y)=prT q:=↑z
      rw[pe]at z;cases z;exact .inr %[rfl|rfl]
    .intro n H6 %[o7,o8,o9,G,C,g,rfl,s6,Y,ab|M];rw[Zn (Zi _)]at M;exact k6 _ _ %[_,_,_,_,_,g,rfl,s6,Y,ab|R.step pI ws %[M.con,M.le|λa b s=>M.don a b ((pI a b).mp s)]]
   .intro n H5 %[o7,o8,o9,G,C,f,rfl,s5,al,an|R];refine k4 _ _ ?_;lk;have R:Rnd ms (us.map prT) (a9 qs) f (us.map prT).length:=by rw[Z6];simpa using R
    exact kk d H5 ms f s5 fd an nd mem λz hz=>R.done pI ws hz
def IF{rows:ZB}{i n:Nat}(h:i<=n){k:ZB}(a:k∈bM rows i):k∈bM rows n:=by
 unfold bM at a ⊢;have%[j,b|e]:=mem_flatMap.mp a;exact mem_flatMap.mpr %[j,mem_range.mpr (Zg (mem_range.mp b) h)|e]
def Fb{p:Nat×Nat}{k:ZB}(h:fS p∣k):[p].filterMap fS=[k]:=by rw[Y2,h];rfl
def Fc{p:Nat×Nat}(h:fS p=none):[p].filterMap fS=[]:=by rw[Y2,h];rfl
def Fd(c e:Nat):inV (V.str ⟨([c].toArray)⟩) [V.str (!"."),V.str ⟨([e].toArray)⟩]=decide (c=46\/c=e):=by
 have a:eqV (V.str (!".")) (V.str ⟨([c].toArray)⟩)=decide (c=46):=by
  show(Str.ofString "."==(⟨([c].toArray)⟩:Str))=_;by_cases h:c=46
  .subst h;rfl
  .rw[Zh h];exact beq_eq_false_iff_ne.mpr λq=>h (yC (show sgn 46=sgn c from q)).symm
 have b:eqV (V.str ⟨([e].toArray)⟩) (V.str ⟨([c].toArray)⟩)=decide (c=e):=by
  show((⟨([e].toArray)⟩:Str)==(⟨([c].toArray)⟩:Str))=_;by_cases h:c=e
  .subst h;simp
  .rw[Zh h];exact beq_eq_false_iff_ne.mpr λq=>h (yC (show sgn e=sgn c from q)).symm
 unfold inV;simp only[Zw,List.any_nil,a,b,Bool.or_false,Bool.decide_or]
inductive wg
 | mk (n:Str) (rows:ZB):vs=[.str n,.str (Str.join nl rows)]->cK rows-> ~~~n<=8->(∀r H' (ts:ZG),ah H H'->H r=none->H' r∣.lst (ts\0)->aK H' ts->ts\2=(bM rows (~~~rows-1)).map (lE n)-> ~~~ts<=1600->Q (.ref r) H')->wg vs H Q E0
def pR(T:Txt K mg):Cal P w K mg base 1 "_law_cut_ties" ["_law_name","_law_text"] wg:=by
 .exists T.bC,bY,b4,hr,%[n,rows,rfl,a,b5|kk];have%[wd,w1,w2|a1]:=a.wide;have bn:=a.text;have a2:=a.split;have b6:=a.high;have bt:=a.pos
  generalize Str.join nl rows=z at bn a2
  refine%[_,%["JCG2~$~%1AWBCG3UBCR~(A2A~)2~*E~+BiNK4NK5dDR&AghA4BBK6DOM~6_46jAWA_56BDatl3AjAI$I$0W_46AI$I$0W_56A0BBPDH3"|bY.nd]|?_]
  show aU _ _ _ [-n,-z,none,none,none,none,none] H;refine am λD1 k1 _=>?_
  lk;refine%[!1,Yg (by lia: ~~~z+2<=5000) (!1)|λR hR=>k1 _ _ ?_];rw[show(!"\n")=nl from rfl,a2];have sR:=ah.upd (o:= .lst (rows\3)) hR;have gR:upd H R (.lst (rows\3)) R=_:=aa
  generalize upd H R (.lst (rows\3))=H1 at sR gR
  refine am λD2 k2 _=>?_
  lk;refine%[Xh _|λL hL=>k2 _ _ (am λD3 k3 _=>az λa3 hK=>?_)];have sL:=sR.trans (ah.upd (o:= .lst []) hL);have gL:upd H1 L (.lst []) L<*[]:=aa;have M:=ah.upd (o:= .lst []) hL _ _ gR;have fL:=sR.free hL
  generalize upd H1 L (.lst [])=g at sL gL M
  lk;refine%[_,SqL.of M|λp hp=>?_];rw[rZ rows (length_pos_iff.mp bt)];have s3:=ah.upd (o:= .lst ((rows.drop 1)\3)) hp;have N:=s3 _ _ M;have a4:=s3 _ _ gL;have O:upd g p (.lst ((rows.drop 1)\3)) p<*(rows.drop 1)\3:=aa;have a5:=sL.trans s3;have b0:R≠L:=λe=>by rw[e,hL]at gR;cases gR
  have b1:p≠L:=λe=>by rw[e,gL]at hp;cases hp
  generalize upd g p (.lst ((rows.drop 1)\3))=H3 at s3 N a4 O a5
  refine%[%[_|SqL.of N],%[_|SqL.of O]|hK _ _ (vL (xs:=rows\3) (ys:=(rows.drop 1)\3) (λi G l=>(∃o4 o5 I,G=[-n,-z,!R,!L,o4,o5,I])/\ah H l/\l R<*rows\3/\l p<*(rows.drop 1)\3/\
   ∃ps:ZG,l L∣.lst (ps\0)/\aK l ps/\ps\2=(bM rows i).map (lE n)/\ ~~~ps<=40*i) %[%[_,_,_|ρ],a5,N,O,[],a4,d6 _,ρ|Xh _] (by rw[Z6,Z6,Yh];lia) (λi G l _ h=>%[SqL.of h.2.2.1|SqL.of h.2.2.2.1]) ?_ ?_)]
  .intro i x y TT G l hx hy %[%[o4,o5,I|rfl],sm,a6,ba,ps,U,Y,B|m] hT;rw[Zl]at hx hy;have%[u,hu|rfl]:=map_eq_some_iff.mp hx;have%[r,C|rfl]:=map_eq_some_iff.mp hy;rw[getElem?_drop,Nat.add_comm]at C;have b9:i+1< ~~~rows:=(Xo C).1;have ul:u.cps.size=wd:=a1 u (Z8 hu);have rl:r.cps.size=wd:=a1 r (Z8 C);have d:=ah.upd (o:= .tup [V.str u,V.str r]) hT;have bb:upd l TT (.tup [V.str u,V.str r]) TT&&&[V.str u,V.str r]:=aa;have bc:=d _ _ a6;have be:=d _ _ ba;have bf:=d _ _ U;have J:aK (upd l TT (.tup [V.str u,V.str r])) ps:=aE Y λb z e=>d _ _ e
   have bl:=sm.trans d
   generalize upd l TT (.tup [V.str u,V.str r])=HT at d bb bc be bf J bl
   have g1:rows.getD i ⟨([].toArray)⟩=u:=by rw[Zc,hu];rfl
   have g2:rows.getD (i+1) ⟨([].toArray)⟩=r:=by rw[Zc,C];rfl
   have b2:bM rows (i+1)=bM rows i++(List.zip u.cps.toList r.cps.toList).filterMap fS:=by rw[lB,g1,g2];rfl
   refine%[_,SqT.of bb,ρ,_,_,ρ,_,_,ρ,ρ|?_];show uA _ _ _ _ [-n,-z,!R,!L,-u,-r,I] HT;refine aB λD4 k4 _=>az λa3 hK=>?_
   lk;have us: ~~~u=wd:=ul;refine%[by rw[us];exact Ye (aD ⋯),⋯,⋯|?_];rw[us,Int.toNat_natCast];refine hK _ _ (cP (λj G g=>∃I,G=[-n,-z,!R,!L,-u,-r,I]/\ah H g/\g R<*rows\3/\g p<*(rows.drop 1)\3/\
    ∃ps:ZG,g L∣.lst (ps\0)/\aK g ps/\ps\2=(bM rows i++((List.zip u.cps.toList r.cps.toList).take j).filterMap fS).map (lE n)/\ ~~~ps<=40*i+j)
    %[_,rfl,bl,bc,be,ps,bf,J,by rw[B];simp|m] ?_ ?_)
   .intro j G g hj %[I,rfl,ab,ag,ai,qs,ak,tq,qe|ql];show jB _ _ _ _ [-n,-z,!R,!L,-u,-r,some (.int (0+j))] g;rw[Int.zero_add];obtain⟨c,hc⟩:∃c,u.cps[j]?∣c:=%[u.cps[j]|by simp[show j<u.cps.size by lia]]
    obtain⟨e,he⟩:∃e,r.cps[j]?∣e:=%[r.cps[j]|by simp[show j<r.cps.size by lia]]
    have nx:=ph u r j c e hc he;have ac:atI u.cps.toList (j:Int)∣c:=b7 ↑hc;have ae:atI r.cps.toList (j:Int)∣e:=b7 ↑he;refine aB λD5 k5 _=>?_
    lk;have l1: ~~~n+(!".").length<=sizeLine:=cA (by show ~~~n+1<=_;lia);have l2:∀c:Nat,(n++Str.ofString ".").length+ ~~~(⟨([c].toArray)⟩:Str)<=sizeLine:=λc=>cA (by
     have e:(n++Str.ofString ".").length= ~~~n+(!".").length:=size_append;have e1: ~~~(⟨([c].toArray)⟩:Str)=1:=rfl;have e2:(!".").length=1:=rfl
     lia)
    have lu: ~~~u<=sizeLine:=by rw[us];exact Ye (aD ⋯)
    have lr: ~~~r<=sizeLine:=by rw[show ~~~r=wd from rl];exact Ye (aD ⋯)
    refine%[lu,c,ac,lr,e,ae,#[2]|λt ht=>%[_,.inr (SqT.of aa),ρ,ρ|?_]];rw[Fd];have st:=ah.upd (o:= .tup [V.str (!"."),V.str ⟨([e].toArray)⟩]) ht;have al:=aE tq λb z e=>st _ _ e
    have v:=st _ _ ak;have an:=ab.trans st;have as:=st _ _ ag;have a0:=st _ _ ai
    generalize upd g t (.tup [V.str (!"."),V.str ⟨([e].toArray)⟩])=H4 at st al v an as a0
    have stay:fS (c,e)=none->(bM rows i++((List.zip u.cps.toList r.cps.toList).take (j+1)).filterMap fS).map (lE n)=qs\2:=λe=>by rw[qe,<-nx,Y1,Fc e,Zx]
    refine bJ (λh=>?_) λh=>?_
    .have h: ¬ (c=46\/c=e):=↑h
     refine%[tyL (SqL.of v),l1,lu,c,ac,l2 c,l1,lr,e,ae,l2 e,#[3]|λq hq=>?_];rw[jw,jw];have sq:=ah.upd (o:= .tup [V.str (lnS n ⟨([c].toArray)⟩),V.str (lnS n ⟨([e].toArray)⟩),V.str n]) hq;have bm:=sq _ _ v;have b3:q≠L:=λe=>by rw[e,v]at hq;cases hq
     refine%[_,bm,by rw[Z6];exact aD ⋯|k5 _ _ %[_,ρ,ah.set (an.trans sq) fL,(ao b0).trans (sq _ _ as),(ao b1).trans (sq _ _ a0),qs++[(q,[lnS n ⟨([c].toArray)⟩,lnS n ⟨([e].toArray)⟩,n])],by rw[aa,Zd];rfl,eP (aE (aE al λb z e=>sq _ _ e) (io bm)) ∅ ((ao b3).trans aa),?_|by rw[Z9];exact Xb ql]];rw[<-nx,Y1,Fb (if_pos %[λe=>h (.inl e)|λe=>h (.inr e)]),<-Ze,Zd,Zd,qe];rfl
    .refine k5 _ _ %[_,rfl,an,as,a0,qs,v,al,(stay (if_neg λq=>?_)).symm|⋯];rw[Zh (λe=>e.elim q.1 q.2)]at h;exact h rfl
   .intro G g %[I,rfl,ab,ag,ai,qs,ak,tq,qe|ql];rw[Zn (by rw[length_zip];simp;lia),<-b2]at qe;exact k4 _ _ %[%[_,_,_|rfl],ab,ag,ai,qs,ak,tq,qe|⋯]
  .intro G l %[%[o4,o5,I|rfl],sm,a6,ba,ps,U,Y,B|m];rw[Z6,Yh]at B m;refine k3 _ _ ?_;lk;exact kk L l ps sm fL U Y B ⋯
inductive wj
 | mk (l m:Addr) (cs:ZH) (qs:ZN) (ls:ZB):vs=[.ref l,.ref m]->H l<*cV cs->H m∣.lst (qs\0)->bU H cs->bp H ls qs-> ~~~cs<=3-> ~~~qs<=40->(∀r H' (ts:ZG),ah H H'->H' r∣.lst (ts\0)->aK H' ts->ts\2=cH cs++cI qs qs.length->Q (.ref r) H')->wj vs H Q E0
def xT(T:Txt K mg):Cal P w K mg base 2 "_law_ties" ["_law_cuts_here","_law_sayings"] wj:=by
 .exists T.bD,c7,a1,hr,%[l,m,cs,qs,ls,rfl,hl,hm,ca,sa,c3,a2|kk];have O: ~~~(cV cs)= ~~~cs:=Z6 _;refine%[_,(QSs.h (aj (aJ 2 c7.nd rfl (cn aq))
   (aj (bR PassesOwn.never rfl rfl (cc (K:=K) rfl ↑0) (eC (K:=K) rfl rfl rfl (gsE rfl (aI 3 c7.nd rfl) (gsE rfl (aI 4 c7.nd rfl) cC)))
   (ar (aJ 2 c7.nd rfl (opE FC ↑2 (aH (pR T) hr rfl #[↑3,↑4])))))
   (aj (bR PassesOwn.never rfl rfl (qV (K:=K) rfl rfl T.ae rfl #[↑1]) (eC (K:=K) rfl rfl rfl (gsE rfl (aI 5 c7.nd rfl) (gsE rfl (aI 6 c7.nd rfl) cC)))
   (ar (ifS (bh cb rfl (↑6>>ay) cE)
    (ar (cm rfl (bmO (K:=K) plainAttrs_list PySem.F.slot_list_append PySem.F.type_list_append bB rfl ↑2 #[(gi #[(↑6>>ay),(↑6>>ay),opE d7 cE (ctO ⟨sP⟩ T.ab boot_str rfl #[↑5])])])))
    aR)))
   (ar (aL ↑2))))))|?_]
  show aU _ _ _ [!l,!m,none,none,none,none,none] H;refine am λD1 k1 _=>?_
  lk;refine%[Xh _|λL hL=>k1 _ _ (am λD2 k2 _=>az λU hK=>?_)];have sL:=ah.upd (o:= .lst []) hL;lk;refine%[%[_|SqL.of (sL _ _ hl)]|hK _ _ (eS (λi u c=>∃L Y o4 ts,u=[!l,!m,!L,Y,o4,none,none]/\ah H c/\H L=none/\c L∣.lst (ts.map λt:Addr×ZB=>V.ref t.1)/\aK c ts/\ts\2=cH (cs.take i)/\ ~~~ts<=1600*i)
   %[L,_,_,[],ρ,sL,hL,aa,d6 _,ρ|Xh _] (λi u c _ ⟨_,_,_,_,_,q,_⟩=>SqL.of (q _ _ hl)) ?_ ?_)]
  .intro i x u H1 B %[L,Y,o4,ts,rfl,n,fL,C,G,g|tl];have hi:i< ~~~cs:=by rw[<-O];exact(Xo B).1
   obtain⟨q,hq,rfl⟩:∃q,cs[i]?∣q/\x=V.ref q.1:=by
    unfold cV at B;rw[Zl,Z4 hi]at B;exact%[cs[i],Z4 hi|(Za B).symm]
   have%[ak,al|an]:=ca q (Z8 hq);refine%[_,SqT.of (n _ _ ak),ρ,_,_,ρ,_,_,ρ,ρ|?_];show sM _ _ _ [!l,!m,!L,some (.str q.2.1),some (.str (Str.join nl q.2.2)),none,none] H1;refine aB λD3 k3 _=>?_
   lk;refine%[_,_,ρ,an,jc al|λr H2 us s2 fr hr tu ue ul=>%[r,ρ,_,s2 _ _ C,_,hr,by rw[Z6,Z6];exact Ye (aD ⋯)|λp I=>k3 _ _ %[p,_,_,ts++us,ρ,(n.trans s2).trans (ah.upd I),(n.trans s2).free I,by rw[aa,Zd],aE (pq (aE G λb z e=>s2 _ _ e) tu) (λb z e=>ah.upd I _ _ e),by rw[Zd,g,ue,lF hq]|by rw[Z9];lia]]]
  .intro u H1 %[L,Y,o4,ts,rfl,n,fL,C,G,g|tl];rw[O,Xf]at g;refine k2 _ _ (am λD3 k3 _=>az λU hK=>?_);lk;have ab: ~~~(qs\0)= ~~~qs:=Z6 _;refine%[_,SqL.of (n _ _ hm)|hK _ _ (iS (λi u c=>∃o5 o6,u=[!l,!m,!L,Y,o4,o5,o6]/\ah H c/\∃ts:ZG,c L∣.lst (ts\0)/\aK c ts/\ts\2=cH cs++cI qs i/\ ~~~ts<=4800+i)
    %[_,_,ρ,n,ts,C,G,by rw[g,show cI qs 0=[]from rfl,Zx]|⋯] (λi u c _ ⟨_,_,_,q,_⟩=>SqL.of (q _ _ hm)) ?_ ?_)]
   .intro i x TT u c B %[o5,o6,rfl,n,ts,J,G,g|tl] hT;have hi:i< ~~~qs:=by rw[<-ab];exact(Xo B).1
    obtain⟨q,hq,rfl⟩:∃q,qs[i]?∣q/\x=V.ref q.1:=by
     rw[Zl,Z4 hi]at B;exact%[qs[i],Z4 hi|(Za B).symm]
    have s0:=ah.upd (o:= .tup [.int i,.ref q.1]) hT;have j:ah H (upd c TT (.tup [.int i,.ref q.1])):=n.trans s0;have ac:upd c TT (.tup [.int i,.ref q.1]) TT&&&[.int i,.ref q.1]:=aa;have d:=s0 _ _ J;have v:=aE G λb z e=>s0 _ _ e
    generalize upd c TT (.tup [.int i,.ref q.1])=HT at j ac d v
    have ae:=sa q (Z8 hq);have st:=SqT.of (K:=K) (j _ _ ae.1);have M:=eI hq;refine%[_,SqT.of ac,ρ,_,_,ρ,_,_,ρ,ρ|?_];show jB _ _ _ _ [!l,!m,!L,Y,o4,some (.int i),some (.ref q.1)] HT;refine aB λD4 k4 _=>?_
    lk;rcases ae.2 with⟨wd,a,b,e,hw,ma,mb,_⟩|⟨wd,a,y,e,hw,_⟩
    .rw[e]at st M;refine%[_,st,_,ρ,ρ|bJ (λN=>?_) λN=>?_]
     .rw[show gA i [V.str wd,V.str a,V.str b]∣[a,b,ui i]from if_pos (V.str.inj (Zo N))]at M;have a0: ~~~(Str.ofString (toString (i:Int)))<=21:=by
       have e:=PySem.int_text_length_le10 (a:=(i:Int)) (k:=20) (!1) (by have:(i:Int).natAbs=i:=rfl;lia);rw[PySem.ofString_length];lia
      have e1:(!"#").length=1:=!0
      have ag:(i:Int).natAbs.log2<1920:=Nat.lt_of_le_of_lt (Nat.log2_le_self _) (by have:(i:Int).natAbs=i:=rfl;lia);refine%[tyL (SqL.of d),_,st,_,ρ,_,st,_,ρ,ag,cA ⋯,#[3]|λp I=>?_];rw[show Str.ofString "#"++Str.ofString (toString (i:Int))=ui i from by unfold ui;rw[si]];have sp:=ah.upd (o:= .tup [V.str a,V.str b,V.str (ui i)]) I;have ai:=sp _ _ d;have as:p≠L:=λe=>by rw[e,d]at I;cases I
      refine%[_,ai,by rw[Z6];exact aD ⋯|k4 _ _ %[_,_,ρ,ah.set (j.trans sp) fL,ts++[(p,[a,b,ui i])],by rw[aa,Zd];rfl,eP (aE (aE v λb z e=>sp _ _ e) (io ai)) ∅ ((ao as).trans aa),?_|by rw[Z9];exact Xb tl]];rw[M,Zd,g,<-Ze];rfl
     .rw[show gA i [V.str wd,V.str a,V.str b]=none from if_neg λz=>N (Zf (by rw[z]))]at M;refine k4 _ _ %[_,_,rfl,j,ts,d,v,?_|⋯];rw[M,g,Option.toList_none,Zx]
    .rw[e]at st M;refine%[_,st,_,ρ,ρ|?_];rw[if_neg (by rcases hw with rfl|rfl<;> decide)];refine k4 _ _ %[_,_,rfl,j,ts,d,v,?_|⋯];rw[M,g];show _=_++(_++[]);rw[Zx]
   .intro u c %[o5,o6,rfl,n,ts,J,G,g|tl];rw[ab]at g;refine k3 _ _ ?_;lk;exact kk L c ts n J G g
abbrev jA(a:List (List Key×V))(m:ZB->Prop):Prop:=∃ks:List ZB,a\1=ks.map (λk=>k.map Sum.inr)/\ks.Nodup/\∀k,k∈ks↔m k
def C6{c:List (List Key×V)}{m j:ZB->Prop}(h:jA c m)(k:ZB)(v:V)(f:∀z,j z↔m z\/z=k):jA (b8 c (k.map Sum.inr) v) j:=by
 have%[ks,g,l|i]:=h;have n:(k.map (Sum.inr:Str->Key))∈c\1↔k∈ks:=by
  rw[g,Yx]
  constructor
  .rintro⟨z,p,e⟩;rw[<-nE _ _ e];exact p
  .intro d;exact%[k,d|ρ]
 by_cases d:k∈ks
 .refine%[ks,by rw[lR,if_pos (n.mpr d)];exact g,l|λz=>?_];rw[i,f]
  constructor
  .exact .inl
  .rintro(e|e)
   .exact e
   .rw[e];exact(i k).mp d
 .refine%[ks++[k],by rw[lR,if_neg (λq=>d (n.mp q)),g,Zd];rfl,?_|λz=>?_]
  .rw[X2];exact%[l,by simp|λa o b r e=>by rw[Xq r]at e;rw[e]at o;exact d o]
  .rw[Yt,i,Yz,f]
def Hw{a:List (List Key×V)}{m b:ZB->Prop}(h:jA a m)(e:∀k,m k↔b k):jA a b:=by
 have%[ks,c,d|f]:=h;exact%[ks,c,d|λk=>(f k).trans (e k)]
def Fe{a:List (List Key×V)}{m:ZB->Prop}{B:List ZB}(h:jA a m)(s:∀k,m k->k∈B): ~~~a<= ~~~B:=by
 have%[ks,b,c|d]:=h;have:=_ST.nodup_sub c (m:=B) λk e=>s k ((d k).mp e)
 have l:=congrArg List.length b;rw[Z6,Z6]at l
 lia
def Ff{rows:ZB}(h:vD rows)(e:cK rows):∃m:List ZB,~~~m<=26/\∀k,k∈m↔k∈bM rows (~~~rows-1):=by
 have%[m,c|d]:=h;refine%[m.filter λk=>decide (k∈bM rows (~~~rows-1)),Yg (Yi _ _) c|λk=>?_];rw[List.mem_filter,decide_eq_true_iff];refine%[λh=>h.2|λh=>%[?_|h]];have%[a,b,rfl|mt]:=l9 h;exact d a b mt
def wk{H:Hp}:∀{cs:ZH},bU H cs->(∀p∈cs,vD p.2.2)->∃ks:List ZB,~~~ks<=26* ~~~cs/\∀k,k∈ks↔k∈cH cs
 |[],_,_=>%[[],Zi _|λk=>Iff.rfl]
 | q::cs,h,f=>by
   have%[ks,d|b]:=wk (cs:=cs) (λp a=>h p (Zk _ a)) λp a=>f p (Zk _ a)
   have%[m,e|c]:=Ff (f q Zm) (h q Zm).2.2;refine%[m.map (lE q.2.1) ++ks,by rw[Z9,Z6,Zr];lia|λk=>?_];unfold cH at b ⊢;rw[flatMap_cons,Yt,Yt,b,Yx,Yx];exact or_congr (exists_congr λz=>and_congr_left λ_=>c z) Iff.rfl
def zc{H:Hp}{cs:ZH}{qs:ZN}(i:bU H cs)(l:bp H (cs.flatMap lyr) qs){n:Nat}{k:ZB}(h:k∈cH cs\/k∈cI qs n):dz (cs.flatMap lyr) k:=by
 rcases h with h|h
 .have%[p,c|h]:=mem_flatMap.mp h;have%[z,m|rfl]:=Xr h;have%[a,b,rfl|mt]:=l9 m;have%[o|r]:=rY (i p c).2.2 mt;exact%[_,_,_,ρ,mem_flatMap.mpr %[p,c|jv o]|mem_flatMap.mpr %[p,c|jv r]]
 .have%[j,v|e]:=mem_filterMap.mp h;cases d:qs[j]? with
  | none=>rw[d]at e;cases e
  | some q=>
    rw[d]at e;rcases(l q (Z8 d)).2 with⟨g,a,b,f,hw,s,u,_⟩|⟨g,a,y,f,hw,_⟩
    .have e:gA j q.2∣k:=e;rw[f]at e;have e:(if g=Str.ofString "later" then some [a,b,ui j]else none)∣k:=e
     split at e
     .cases e;exact%[_,_,_,ρ,s|u]
     .cases e
    .have e:gA j q.2∣k:=e;rw[f]at e;cases e
inductive sG
 | mk (l m d:Addr) (cs:ZH) (qs:ZN) (ms:ZB) (g:Str->Str) (ks0:List ZB):vs=[.ref l,.ref m,.ref d]->H l<*cV cs->H m∣.lst (qs\0)->bU H cs->bp H (cs.flatMap lyr) qs-> ~~~cs<=3-> ~~~qs<=40->H d∣.dK (NmD ms g)->(∀z,z∈ms↔z∈cs.flatMap lyr)->(∀z∈ms,g z∈ms/\bN (a9 qs) z (g z))-> ~~~ks0<=150->(∀k,k∈ks0↔k∈cH cs\/k∈cI qs qs.length)->(∀r H' (ss:ZG),ah H H'->H r=none->H' r∣.lst (ss\0)->aK H' ss->cq (a9 qs) ks0 (ss\2)->(∀k∈ss\2,dz ms k)-> ~~~ss<=150->Q (.ref r) H')->sG vs H Q E0
def wn(T:Txt K mg):Cal P w K mg base 3 "_law_links" ["_law_cuts_here","_law_sayings","_law_homes_here"] sG:=by
 .exists T.bF,dE,a2,hr,%[l,m,d,cs,qs,ms,g,c,rfl,hl,hm,ca,sa,c3,ai,hd,mem,lg,a0,N|kk];refine%[_,%["JCG3].CRSF]/A0A1BiNK4NK5NK6dDok3jAV24AV25A6BDH)]:A3B",dE.nd|hr]|?_]
  show aU _ _ _ [!l,!m,!d,none,none,none,none] H;refine am λD1 k1 _=>?_
  lk;intro L hL;have O:=ah.upd (o:= .dT []) hL;refine k1 _ _ (am λD2 k2 _=>az λa1 hK=>?_);lk;refine%[l,m,cs,qs,_,ρ,O _ _ hl,O _ _ hm,(λp hp=>%[O _ _ (ca p hp).1|(ca p hp).2]),(λq hq=>%[O _ _ (sa q hq).1|(sa q hq).2]),c3,ai|λr H1 ts s1 B tt te=>%[r,ρ,%[_|SqL.of B]|hK _ _ ?_]];have ak:=O.trans s1;have G:=s1 _ _ (show upd H L (.dT []) L∣.dT [] from aa);have I:∀k,k∈ts\2↔k∈c:=λk=>by rw[te,Yt,N]
  have tok:∀k∈c,dz ms k:=λk j=>by
   have%[a,b,z,e,U|Y]:=zc ca sa ((N k).mp j);exact%[a,b,z,e,(mem a).mpr U|(mem b).mpr Y]
  have al:r≠L:=λe=>by rw[e,G]at B;cases B
  have ab:∀n k,k∈((ts.take n)\2).map (iq g)->k∈c.map (iq g):=λn k j=>by
   have%[t,M|e]:=Xr j;exact Xs %[t,(I t).mp ((List.map_subset _ (List.take_subset n ts)) M)|e]
  have tm: ~~~(ts\0)= ~~~ts:=Z6 _;refine br (λi σ H'=>∃o4 o5 o6,σ=[!l,!m,!d,!L,o4,o5,o6]/\ah H H'/\(∀b o,b≠L->H1 b∣o->H' b∣o)/\∃u,H' L∣.dT u/\jA u λk=>k∈((ts.take i)\2).map (iq g))
   %[_,_,_,rfl,ak,(λb o _ e=>e),[],G,[],rfl,X4|λk=>Iff.rfl] (λi σ H' ⟨_,_,_,_,_,q,_⟩=>q _ _ al B) ?_ ?_
  .intro i t σ H2 M %[o4,o5,o6,rfl,s2,sx,u,J|v];have ac:=Z8 M;have%[a,b,z,et,U|Y]:=tok _ ((I t.2).mp (Xs %[t,ac|rfl]));have C:=(tt t ac).2;rw[et]at C;have st:=SqT.of (K:=K) (sx _ _ (λe=>by rw[e,G]at C;cases C) C);have an:=s2 _ _ hd;have get:∀y∈ms,bQ H2 d (.str y) (some (.str (g y))):=λy hy=>by
    have:=bQ.k (k:=Sum.inr y) an;rw[fE hy]at this;exact this
   refine%[_,st,ρ,_,_,ρ,_,_,ρ,_,_,ρ,ρ|?_];show nO _ _ _ _ [!l,!m,!d,!L,-a,-b,-z] H2;refine aB λD3 k3 _=>?_
   lk;refine%[_,get a U,_,get b Y,#[3]|λp hp=>?_];have sp:=ah.upd (o:= .tup [V.str (g a),V.str (g b),V.str z]) hp;have as:=Fe v (ab i);rw[Z6]at as;refine%[_,eT.t (k:=(iq g [a,b,z]).map Sum.inr) (sp _ _ J) (by rw[aa];rfl) (by rw[PySem.sizeLine_eq];lia)|k3 _ _ %[_,_,_,ρ,λb o e=>by rw[ao (aw e hL)];exact sp _ _ (s2 _ _ e),(λb o n e=>by rw[ao n];exact sp _ _ (sx b o n e)),_,aa|C6 v _ _ λk=>?_]];rw[Xc,M,Zd,Zd,Yt,<-et];exact or_congr Iff.rfl Yz
  .intro σ H2 %[o4,o5,o6,rfl,s2,sx,u,J|v];rw[Xf]at v;refine k2 _ _ ?_;lk;have%[ks,q1,q2|q3]:=v;have q3:∀k,k∈ks↔k∈c.map (iq g):=λk=>by
    refine(q3 k).trans ?_;dsimp only;rw[Yx,Yx];exact exists_congr λt=>and_congr_left λ_=>I t
   have lk:=pL tok (λz hz=>(lg z hz).2);have few: ~~~ks<=150:=by
    have:=_ST.nodup_sub q2 (m:=c.map (iq g)) λk j=>(q3 k).mp j
    rw[Z6]at this
    lia
   have ae:∀k∈ks,dz ms k:=λk j=>by
    have%[t,M|rfl]:=Xr ((q3 k).mp j);have%[a,b,z,rfl,U|Y]:=tok t M;exact%[_,_,_,ρ,(lg a U).1|(lg b Y).1]
   have h3:∀k∈ks,~~~k=3:=λk j=>by
    have%[a,b,z,rfl|_]:=ae k j;rfl
   refine%[u,J,ks,q1,3,h3,!1,⋯|λr ss ag ta pm=>?_];have s3:=ah.upd (o:= .lst (ss\0)) ag;exact kk r _ ss (s2.trans s3) (s2.free ag) aa (aE ta λb z e=>s3 _ _ e) %[pm.nodup_iff.mpr q2|λk=>by rw[pm.mem_iff,q3,lk]] (λk j=>ae k (pm.mem_iff.mp j)) (by have:=pm.length_eq;rw[Z6]at this;lia)
def Fg(a:z∉ls)(e:∀x∈ls,h x=g x):b8 (VD ls g) (Sum.inr z) (h z)=VD (ls++[z]) h:=by
 rw[dh _ (ir a)];unfold VD;rw[Zd];exact congrArg (·++_) (Yp λx b=>by rw[e x b])
abbrev sc2(t:Addr×ZB):Str:=t.2.getD 1 Str.empty
abbrev StB(H:Hp)(d:Addr)(ss:ZG):Prop:=∃a,H d∣.dK a/\∀n:Str,(∃l,bF a (Sum.inr n)∣.ref l/\H l∣.lst (((ss.filter λt=>decide (t.2[0]? =some n)).map sc2)\3))\/(bF a (Sum.inr n)=none/\∀t∈ss,t.2[0]? ≠some n)
def StB.up{H e:Hp}{d:Addr}{ss:ZG}(h:StB H d ss)(s:ah H e):StB e d ss:=by
 have%[c,f|g]:=h;exact%[c,s _ _ f|λn=>(g n).imp_left λ⟨l,a,b⟩=>%[l,a|s _ _ b]]
def StB.at{H i:Hp}{e d q p:Addr}{ss:ZG}(h:StB H e ss)(m:e≠d)(r:∃x,H d∣.dK x)(s:H q=none)(f:∀b o,b≠d->b≠q->H b∣o->i b∣o)(u:∃x,i q<*x)(y:i p=none)(n:Str):
 ∃g a,upd i p (.lst []) e∣.dK g/\(bF g (Sum.inr n)).getD (.ref p)= .ref a/\upd i p (.lst []) a∣.lst (((ss.filter λt=>decide (t.2[0]? =some n)).map sc2)\3)/\a≠q:=by
 have%[g,z|B]:=h;have sp:=ah.upd (o:= .lst []) y;have A:=sp _ _ (f e _ m (aw z s) z);rcases B n with⟨l,v,j⟩|⟨v,C⟩
 .exact⟨g,l,A,by rw[v];rfl,sp _ _ (f l _ (λc=>by have%[x|r]:=r;rw[c,r]at j;cases j) (aw j s) j),aw j s⟩
 .refine%[g,p,A,by rw[v];rfl,?_|λc=>by have%[x|e]:=u;rw[<-c,y]at e;cases e];rw[filter_eq_nil_iff.mpr λt E c=>C t E (Zo c)];exact aa
def StB.fr{H m:Hp}{e d q:Addr}{ss:ZG}(h:StB H e ss)(g:e≠d)(i:∃x,H d∣.dK x)(p:H q=none)(f:∀b o,b≠d->b≠q->H b∣o->m b∣o):StB m e ss:=by
 have%[j,r|s]:=h;exact%[j,f e _ g (aw r p) r|λn=>(s n).imp_left λ⟨l,u,a⟩=>%[l,u|f l _ (λc=>by have%[x|i]:=i;rw[c,i]at a;cases a) (aw a p) a]]
inductive C7
 | mk (l:Addr) (st:Str) (ns:ZB) (ss:ZG):vs=[.ref l,.str st]->H l∣.lst (ss\0)->cT H ns ss-> ~~~ss<=150->(∀d H' (F:ZB) (g:Str->Int),ah H H'->H d=none->H' d∣.dK (VD F λx=> .int (g x))->F.Nodup->(∀y,y∈F↔Rch (ss\2) st y)->Q (.ref d) H')->C7 vs H Q E0
abbrev IG(H:Hp)(l e d:Addr)(st:Str)(ss:ZG)(m:Nat)(h:_LL.St)(b:Hp):Prop:=∃(r:Addr) (a:Int) (i j n o c f:Option V) (R F:ZB) (g:Str->Int),h=[!l,-st,!e,i,j,n,!d,!r,some (.int a),o,c,f]/\ah H b/\StB b e ss/\b r<*R\3/\b d∣.dK (VD F λx=> .int (g x))/\F.Nodup/\(∀y∈F,Rch (ss\2) st y)/\(∀x∈R,x=st\/x∈F)/\(∀x,(x=st\/x∈F)->x∈R\/∀y,Ed (ss\2) x y->y∈F)/\m=2*(150-F.length) +R.length.min 1
def AM(T:Txt K mg):Cal P w K mg base 1 "_law_far" ["_law_laid","_law_one"] C7:=by
 .exists T.bG,bC,dd,hr,%[l,st,ns,ss,rfl,hl,ba,dg|kk];have dk: ~~~(ss\0)= ~~~ss:=Z6 _;refine%[_,%["JCG2sCRS0iNK3NK4NK5dDa~pl~q~r2A3AUBBA4BCG6sCG7UA1BCG8EC~GM}7UBCG8Ib8ECG9UBCRS7K:DRS~H~I2A/:AUBBK;DO~J/;6Co86/;Datl9A/;BPDG79DH6",bC.nd|hr]|?_]
  show aU _ _ _ [!l,-st,none,none,none,none,none,none,none,none,none,none] H;refine am λD1 k1 _=>?_
  lk;intro e fe;refine k1 _ _ (am λD2 k2 _=>az λas hK=>?_);lk;have se:=ah.upd (o:= .dK []) fe;refine%[%[_|SqL.of (se _ _ hl)]|hK _ _ ?_];refine br (λj L C=>(∃o3 o4 o5,L=[!l,-st,!e,o3,o4,o5,none,none,none,none,none,none])/\ah H C/\∃M:Gs Str,iH V.str H C e M/\(M\1).Nodup/\(∀g∈M,g.2.2=((ss.take j).filter λt=>decide (t.2[0]?∣g.1)).map sc2)/\∀n,n∈M\1↔∃t∈ss.take j,t.2[0]?∣n)
   %[%[_,_,_|rfl],se,[],%[aa,λg hg=>(nomatch hg)|X4],X4,(λg hg=>nomatch hg)|by simp] (λj L C h=>h.2.1 _ _ hl) ?_ ?_
  .intro j t L C U %[%[o3,o4,o5|rfl],sm,M,I,gn,gf|gk];have tm:=Z8 U;have j1:j< ~~~ss:=(Xo U).1;have%[cv,n,y,z,et|_]:=ba t tm;have hn:t.2[0]?∣n:=by rw[et];rfl
   have hy:sc2 t=y:=by unfold sc2;rw[et];rfl
   have tk:ss.take (j+1)=ss.take j++[t]:=by rw[Xc,U];rfl
   have bb:=sm _ _ cv;rw[et]at bb;refine%[_,SqT.of bb,ρ,_,_,ρ,_,_,ρ,_,_,ρ,ρ|?_];show jG _ _ [!l,-st,!e,-n,-y,-z,none,none,none,none,none,none] C;refine aB λD4 k4 _=>?_
   lk;have gl: ~~~M<= ~~~ss:=by
    have:M\1 ⊆ ss.filterMap λt=>t.2[0]? :=λy hy=>by
     have%[t,U|e]:=(gk y).mp hy;exact mem_filterMap.mpr %[t,Yy U|e]
    have:=_ST.nodup_sub gn λx O=>this O
    rw[Z6]at this;exact Yg this (length_filterMap_le _ _)
   have keys:∀(a0:Gs Str),(∀y,y∈a0\1↔y∈M\1\/y=n)->∀y,y∈a0\1↔∃t∈ss.take (j+1),t.2[0]?∣y:=λa0 h y=>by
    rw[h,gk,tk]
    constructor
    .rintro(⟨t',h1,h2⟩|rfl)
     .exact%[t',Yu _ h1|h2]
     .exact%[t,Yv _ Zm|hn]
    .rintro⟨t',h1,h2⟩;rcases Xp h1 with q|q
     .exact .inl %[t',q|h2]
     .rw[Xq q,hn]at h2;exact .inr (Za h2).symm
   refine%[tyD (I.at_),#[0]|λp hp=>%[Sum.inr n,ρ,gD M,?_,?_,λv hv=>?_|λhv=>?_]]
   .rw[ao (λc=>by rw[<-c,I.at_]at hp;cases hp)];exact I.at_
   .unfold gD;rw[Z6];exact aD ⋯
   .have%[q,hq,e1|rfl]:=dU hv;have sp:=ah.upd (o:= .lst []) hp;have hl:=sp _ _ (I.la q hq).2;have G:=(I.up sp).add gn hq y;have ml: ~~~q.2.2<= ~~~ss:=by
     rw[gf q hq,Z6];exact Yg (Yi _ _) (by rw[Yl];lia)
    have ka:(mj q.1 y M)\1=M\1:=by
     unfold mj;rw[Ys];refine Yp λg _=>?_
     show(if g.1=q.1 then(g.1,g.2.1,g.2.2++[y])else g).1=_
     split<;> rfl
    refine%[tyL (SqL.of hl),_,ρ,_,hl,by rw[Z6];exact aD ⋯|k4 _ _ %[%[_,_,_|ρ],ah.set (sm.trans sp) (I.la q hq).1,_,G,by rw[ka];exact gn,λg hg=>?_|keys _ λy=>?_]]
    .unfold mj at hg;have%[g0,h0|rfl]:=Xr hg;rw[tk,Y3,Zd];by_cases c:g0.1=q.1
     .rw[if_pos c];show g0.2.2++[y]=_++(List.filter (λt=>decide (t.2[0]?∣g0.1)) [t]).map sc2;rw[gf g0 h0,Y7 (by rw[hn,c,e1];simp),Y8,Yq,map_nil,hy]
     .rw[if_neg c,gf g0 h0,Y6 (by rw[hn,<-e1];simpa using λz=>c z.symm),Y8,map_nil,Zx]
    .rw[ka];exact%[.inl|λh=>h.elim id λh=>by rw[h,<-e1];exact Xs %[q,hq|ρ]]
   .have nk:n∉M\1:=λh=>by
     have%[q,hq|c]:=Xr h;have:=gB hq;rw[c,hv]at this;exact this rfl
    have de:e≠p:=λq=>by rw[<-q,I.at_]at hp;cases hp
    have gp:upd (upd C p (.lst [])) e (.dK (b8 (gD M) (Sum.inr n) (.ref p))) p<*[]:=by rw[ao de.symm,aa]
    refine%[tyL (SqL.of gp),[],gp,(show 0<sizeLine by decide)|k4 _ _ %[%[_,_,_|ρ],ah.set (ah.set (sm.trans (ah.upd hp)) fe) (sm.free hp),_,I.new sm hp n y nk,?_,λg hg=>?_|keys _ λy=>?_]]
    .rw[Zd,X2];exact%[gn,by simp|λa ha b hb c=>nk (by rw[<-show b=n from Xq hb,<-c];exact ha)]
    .rw[tk,Y3,Zd];rcases Xp hg with q|q
     .have c:g.1≠n:=λc=>nk (by rw[<-c];exact Xs %[g,q|rfl])
      rw[gf g q,Y6 (by rw[hn];simpa using λz=>c z.symm),Y8,map_nil,Zx]
     .rw[Xq q];show [y]=_++(List.filter (λt=>decide (t.2[0]?∣n)) [t]).map sc2;rw[Y7 (by rw[hn];simp),Y8,filter_eq_nil_iff.mpr λt' cw c=>nk ((gk n).mpr %[t',cw|Zo c]),Yq,hy];rfl
    .rw[Zd,Yt,Yq,map_nil,Yz]
  .intro L C %[%[o3,o4,o5|rfl],sm,M,I,gn,gf|gk];rw[Zn (Zi _)]at gf gk;have hb:StB C e ss:=⟨_,I.at_,λn=>by
    cases hv:bF (gD M) (Sum.inr n)with
    | none=>
      refine .inr %[rfl|λt U c=>?_];have%[q,hq|c]:=Xr ((gk n).mpr %[t,U|c]);have:=gB hq;rw[c,hv]at this;exact this rfl
    | some v=>
      have%[q,hq,e1|rfl]:=dU hv;refine .inl %[_,rfl|?_];rw[(I.la q hq).2,gf q hq,e1]⟩
   refine k2 _ _ (am λD3 k3 _=>?_);lk;intro d fd;have s1:=ah.upd (o:= .dK []) fd;refine k3 _ _ (am λD4 k4 _=>?_);have bc:=hb.up s1;have be:upd C d (.dK []) d∣.dK (VD [] λx=> .int ((λ_=>0:Str->Int) x)):=aa;have bf:=sm.trans s1;have bl:=sm.free fd;have a1:e≠d:=λc=>by
    have%[bm,h1|_]:=hb;rw[c,fd]at h1;cases h1
   generalize upd C d (.dK [])=H1 at bc be bf
   lk;refine%[#[1]|λr0 cM=>k4 _ _ (am λD5 k5 _=>?_)];have s2:=ah.upd (o:= .lst [V.str st]) cM;have bn:upd H1 r0 (.lst [V.str st]) r0<*[st]\3:=aa;have bt:=s2 _ _ be;have b0:=bc.up s2;have b1:=bf.trans s2
   generalize upd H1 r0 (.lst [V.str st])=H2 at b1 bn bt b0
   lk;refine k5 _ _ (am λD6 k6 _=>?_);refine%[IG H l e d st ss,%[_,r0,0,o3,o4,o5,none,none,none,[st],[],_,ρ,b1,b0,bn,bt,X4,(λ_ h=>nomatch h),(λx h=>Xq h▸ .inl rfl),(λx h=> .inl (h.elim (λh=>h▸Zm) λh=>nomatch h))|ρ]|?_];intro m L H3 %[r,B,o3,o4,o5,o9,ae,J,R,F,g,rfl,s3,c0,b2,b3,Fn,Fr,c1,cl|rfl];lk;have few:∀{X:ZB},X.Nodup->(∀y∈X,Rch (ss\2) st y)-> ~~~X<=150:=λ{X} xn xr=>by
    have:=_ST.nodup_sub xn (m:=ss.map sc2) λy hy=>by
     have:∃a,Ed (ss\2) a y:=by
      cases xr y hy with
      | one e=>exact%[_|e]
      | more _ e=>exact%[_|e]
     have%[a,z|N]:=this;have%[t,U|et]:=Xr N;exact Xs %[t,U|by unfold sc2;rw[et];rfl]
    rw[Z6]at this
    lia
   refine%[Xh _|λp fp=>%[R\3,ah.upd fp _ _ b2,aa|bJ (λh=>?_) λh=>?_]]
   .have R0:R≠[]:=λc=>by rw[c]at h;exact absurd rfl (Zo h)
    have s4:=ah.upd (o:= .lst []) fp;have Y:=s4 _ _ b2;have ab:=s4 _ _ b3;have ai:=c0.up s4;have a2:=s3.trans s4
    generalize upd H3 p (.lst [])=H4 at Y ab ai a2
    refine⟨λc2 C=>∃m',m'<2*(150-F.length) +R.length.min 1/\IG H l e d st ss m' c2 C,λ_ _ h=>h,Xh _,λq fq=>az λas hK=>?_⟩;have a3:d≠q:=aw ab fq;have c3:=a2.free fq;have f0:∀b o,b≠d->b≠q->H4 b∣o->upd H4 q (.lst []) b∣o:=λb o _ n e=>by rw[ao n];exact e
    have b4:upd H4 q (.lst []) q<*([]:ZB)\3:=aa;have b5:upd H4 q (.lst []) d∣.dK (VD (F++[]) λx=> .int (g x)):=by rw[ao a3,Zx];exact ab
    have b6:=a2.trans (ah.upd (o:= .lst []) fq);have b9:r≠d:=λc=>by rw[c,ab]at Y;cases Y
    have ca:r≠q:=aw Y fq
    generalize upd H4 q (.lst [])=H5 at f0 b4 b5 b6
    lk;refine%[%[_|SqL.of (f0 _ _ b9 ca Y)]|hK _ _ ?_];have Rm: ~~~(R\3)= ~~~R:=Z6 _;refine br (λi L C=>∃(ae J:Option V) (A:ZB) (g:Str->Int),L=[!l,-st,!e,o3,o4,o5,!d,!r,some (.int (B+1)),!q,ae,J]/\ah H C/\(∀b o,b≠d->b≠q->H4 b∣o->C b∣o)/\C q<*A\3/\C d∣.dK (VD (F++A) λx=> .int (g x))/\(F++A).Nodup/\(∀y∈A,Rch (ss\2) st y)/\∀x∈R.take i,∀y,Ed (ss\2) x y->y∈F++A)
     %[_,_,[],g,rfl,b6,f0,b4,b5,by rw[Zx];exact Fn,(λ_ h=>nomatch h)|λ_ h=>nomatch h] (λi L C ⟨_,_,_,_,_,_,f,_⟩=>f _ _ b9 ca Y) ?_ ?_
    .intro i n L H6 hn %[ae,J,A,g,rfl,s6,f6,ak,a4,An,Ar|Ad];have tk:R.take (i+1)=R.take i++[n]:=by rw[Xc,hn];rfl
     have nR:n=st\/Rch (ss\2) st n:=(c1 n (Z8 hn)).imp id (Fr n);show uA _ _ _ _ [!l,-st,!e,o3,o4,o5,!d,!r,some (.int (B+1)),!q,-n,J] H6;refine aB λD7 k7 _=>az λas hK=>?_
     lk;have%[dn,cd|_]:=id ai;refine%[tyD (f6 e _ a1 (aw cd fq) cd),#[0]|λp2 ch=>?_];have%[bm,a,co,c4,ac|c5]:=ai.at a1 %[_|ab] fq f6 %[_|ak] ch n;have sp:=ah.upd (o:= .lst []) ch;have cs:=sp _ _ ak;have a5:=sp _ _ a4;have s7:=s6.trans sp;have f7:∀b o,b≠d->b≠q->H4 b∣o->upd H6 p2 (.lst []) b∣o:=λb o n1 n2 e=>sp _ _ (f6 b o n1 n2 e)
     have c6:a≠d:=λc=>by rw[c,a5]at ac;cases ac
     generalize upd H6 p2 (.lst [])=H7 at co ac cs a5 s7 f7
     refine%[Sum.inr n,ρ,bm,co,a,c4,%[_|SqL.of ac]|hK _ _ ?_];have yI:∀y,y∈(ss.filter λt=>decide (t.2[0]?∣n)).map sc2↔Ed (ss\2) n y:=λy=>by
      rw[Yx]
      constructor
      .rintro⟨t,U,rfl⟩;have%[h1|h2]:=List.mem_filter.mp U;have%[_,x,y,z,et|_]:=ba t h1;have h2:=Zo h2;rw[et]at h2;obtain rfl:x=n:=Za h2;exact%[z|Xs %[t,h1|by unfold sc2;rw[et];rfl]]
      .rintro⟨z,N⟩;have%[t,U|et]:=Xr N;exact%[t,List.mem_filter.mpr %[U|Zf (by rw[et];rfl)]|by unfold sc2;rw[et];rfl]
     generalize (ss.filter λt=>decide (t.2[0]?∣n)).map sc2=ys at ac yI
     have ym: ~~~(ys\3)= ~~~ys:=Z6 _;refine br (λj L C=>∃(J:Option V) (A:ZB) (g:Str->Int),L=[!l,-st,!e,o3,o4,o5,!d,!r,some (.int (B+1)),!q,-n,J]/\ah H C/\(∀b o,b≠d->b≠q->H4 b∣o->C b∣o)/\C a<*ys\3/\C q<*A\3/\C d∣.dK (VD (F++A) λx=> .int (g x))/\(F++A).Nodup/\(∀y∈A,Rch (ss\2) st y)/\(∀x∈R.take i,∀y,Ed (ss\2) x y->y∈F++A)/\∀y∈ys.take j,y∈F++A)
      %[_,A,g,rfl,s7,f7,ac,cs,a5,An,Ar,Ad|λ_ h=>nomatch h] (λj L C ⟨_,_,_,_,_,_,h,_⟩=>h) ?_ ?_
     .intro j y L H8 hy %[J,A,g,rfl,s8,f8,a6,an,ag,An,Ar,Ad|Aj];have tj:ys.take (j+1)=ys.take j++[y]:=by rw[Xc,hy];rfl
      have yR:Rch (ss\2) st y:=by
       have e:=(yI y).mp (Z8 hy);rcases nR with rfl|h
       .exact .one e
       .exact .more h e
      have al:=few An λz N=>(Xp N).elim (Fr z) (Ar z)
      have vl: ~~~(VD (F++A) λx=>V.int (g x))<sizeLine:=by unfold VD;rw[Z6];exact aD ⋯
      show jB _ _ _ _ [!l,-st,!e,o3,o4,o5,!d,!r,some (.int (B+1)),!q,-n,-y] H8;refine aB λD8 k8 _=>?_
      lk;refine%[_,bQ.k (k:=Sum.inr y) ag|bJ (λc=>?_) λc=>?_]
      .have yn:y∉F++A:=λh=>by rw[gC h]at c;cases c
       have P:=eT.k (k:=Sum.inr y) (v:= .int (B+1)) ag vl;have da:q≠d:=Ne.symm a3;have ct:=(ao (o:= .dK (b8 (VD (F++A) λx=>V.int (g x)) (Sum.inr y) (V.int (B+1)))) da).trans an;have vd:=Fg (g:=λx=>V.int (g x)) (h:=λx=>V.int (if x=y then B+1 else g x)) yn λx O=>by
        show V.int (if x=y then B+1 else g x)=V.int (g x);rw[if_neg (λc:x=y=>yn (c▸O))]
       rw[if_pos rfl]at vd;refine%[_,P,tyL (SqL.of ct),_,ct,by rw[Z6];rw[Z9]at al;exact aD ⋯|k8 _ _ %[_,A++[y],λx=>if x=y then B+1 else g x,ρ,ah.set (ah.set s8 bl) c3,(λb o n1 n2 e=>by rw[ao n2,ao n1];exact f8 b o n1 n2 e),by rw[ao c5,ao c6];exact a6,by rw[aa,Zd];rfl,by rw[ao a3,aa,vd,Ze],?_,(λz N=>?_),(λx O z e=>?_)|λz N=>?_]]
       .rw[<-Ze,X2];exact%[An,by simp|λa ha b hb e=>yn (by rw[<-Xq hb,<-e];exact ha)]
       .rcases Xp N with u|u
        .exact Ar z u
        .rw[Xq u];exact yR
       .rw[<-Ze];exact Yu _ (Ad x O z e)
       .rw[<-Ze];rw[tj]at N;rcases Xp N with u|u
        .exact Yu _ (Aj z u)
        .exact Yv _ u
      .have yn:y∈F++A:=Decidable.byContradiction λh=>by rw[ir h]at c;exact c rfl
       refine k8 _ _ %[_,A,g,rfl,s8,f8,a6,an,ag,An,Ar,Ad|λz N=>?_];rw[tj]at N;rcases Xp N with u|u
       .exact Aj z u
       .rw[Xq u];exact yn
     .intro L H8 %[J,A,g,rfl,s8,f8,a6,an,ag,An,Ar,Ad|Aj];rw[Xf]at Aj;refine k7 _ _ %[_,_,A,g,rfl,s8,f8,an,ag,An,Ar|λx O y e=>?_];rw[tk]at O;rcases Xp O with z|z
      .exact Ad x z y e
      .rw[Xq z]at e;exact Aj y ((yI y).mpr e)
    .intro L H6 %[ae,J,A,g,rfl,s6,f6,ak,a4,An,Ar|Ad];rw[Xf]at Ad;have al:=few An λz N=>(Xp N).elim (Fr z) (Ar z)
     rw[Z9]at al;have rp:R.length.min 1=1:=Nat.min_eq_right (length_pos_iff.mpr R0);dsimp only;lk;refine%[_,?_,q,B+1,o3,o4,o5,_,ae,J,A,F++A,g,ρ,s6,ai.fr a1 %[_|ab] fq f6,ak,a4,An,(λy hy=>(Xp hy).elim (Fr y) (Ar y)),(λx O=> .inr (Yv _ O)),λx O=>?_|ρ]
     .rw[Z9,rp];cases A with
      | nil=>simp
      | cons a A=>
        rw[Zr]at al ⊢;have:(~~~A+1).min 1=1:=Nat.min_eq_right ⋯
        lia
     .by_cases hA:x∈A
      .exact .inl hA
      .refine .inr λy e=>?_
       rcases cl x (O.imp id λh=>(Xp h).resolve_right hA)with h|h
       .exact Ad x h y e
       .exact Yu _ (h y e)
   .have R0:R=[]:=by
     have:=h;cases R with
     | nil=>rfl
     | cons a R=>exact absurd (Zf ∅) h
    subst R0;have s4:=ah.upd (o:= .lst []) fp;refine k6 _ _ ?_;lk;refine kk d _ F g (s3.trans s4) bl (s4 _ _ b3) Fn λy=>%[Fr y|λr=>?_]
    exact r.closed (R:=(·∈F)) ((cl st (.inl rfl)).resolve_left λh=>nomatch h) λx y O e=>((cl x (.inr O)).resolve_left λh=>nomatch h) y e
structure Ben (H:Hp) (ks:List ZB) (rs:Gs Str):Prop where
 nd:(rs\1).Nodup
 at_:∀r∈rs,(∃g:Str->Int,H r.2.1∣.dK (VD r.2.2 λx=> .int (g x)))/\r.2.2.Nodup/\∀y,y∈r.2.2↔Rch ks r.1 y
structure BeF (H:Hp) (ks:List ZB) (d:Addr) (rs:Gs Str):Prop where
 at_:∃o,H d∣.frz o (.dK (gD rs))
 nd:(rs\1).Nodup
 in_:∀r∈rs,(∃g:Str->Int,H r.2.1∣.dK (VD r.2.2 λx=> .int (g x)))/\r.2.2.Nodup/\∀y,y∈r.2.2↔Rch ks r.1 y
def BeF.up{H a:Hp}{ks:List ZB}{d:Addr}{rs:Gs Str}(h:BeF H ks d rs)(s:ah H a):BeF a ks d rs:=
 %[h.at_.imp λo e=>s _ _ e,h.nd|λr b=>%[(h.in_ r b).1.imp λg e=>s _ _ e|(h.in_ r b).2]]
inductive zd
 | mk (l d:Addr) (ns ms:ZB) (ss:ZG) (f:Str->Str):vs=[.ref l,.ref d]->H l∣.lst (ss\0)->cT H ns ss-> ~~~ss<=150->H d∣.dK (NmD ms f)-> ~~~ms<=63->(∀b H' (rs:Gs Str),ah H H'->H b=none->H' b∣.dK (gD rs)->Ben H' (ss\2) rs->(∀r∈rs,r.2.1≠b/\H r.2.1=none)->(∀x,x∈rs\1↔∃z∈ms,f z=x)->Q (.ref b) H')->zd vs H Q E0
inductive C8
 | mk (l d:Addr) (ns ms:ZB) (ss:ZG) (f:Str->Str):vs=[.ref l,.ref d]->H l∣.lst (ss\0)->cT H ns ss-> ~~~ss<=150->H d∣.dK (NmD ms f)-> ~~~ms<=63->(∀b H' (rs:Gs Str),ah H H'->BeF H' (ss\2) b rs->(∀x,x∈rs\1↔∃z∈ms,f z=x)->Q (.ref b) H')->C8 vs H Q E0
def pS(T:Txt K mg):Cal P w K mg base 2 "_law_beneath" ["_law_laid","_law_homes_here"] zd:=by
 refine T.bH.cal fA (λH vs Q E h=>?_)
 .have%[l,d,ns,ms,ss,f,rfl,hl,ab,ac,hd,ai|kk]:=h;refine%[ρ|λ_ al A outer s q=>?_];refine%[_,%["JCG2sCRS)];A~[~01BK3DO~J32DoF]<A0A3B23PDH2",fA.nd|q]|?_]
  show aU _ _ _ [!l,!d,none,none] H;refine am λD1 k1 _=>?_
  lk;intro b fb;have s1:=ah.upd (o:= .dK []) fb;have J:upd H b (.dK []) b∣.dK (gD ([]:Gs Str)):=aa;refine k1 _ _ (am λD2 k2 _=>az λak hK=>?_)
  generalize upd H b (.dK [])=H1 at s1 J
  lk;have y:=s1 _ _ hd;refine%[tyD y,%[_|y]|λv fv=>%[d,?_,_,ah.upd fv _ _ y,ms.map f,by unfold NmD;rw[Ys,Ys];rfl,by rw[Z6];lia|λz zs fz pz _=>?_]]
  .exact aa
  have s2:=(ah.upd (o:=kJ v d) fv).trans (ah.upd (o:= .lst (zs\3)) fz);have m:upd (upd H1 v (kJ v d)) z (.lst (zs\3)) z<*zs\3:=aa;have L:=s1.trans s2;have B:=s2 _ _ J
  generalize upd (upd H1 v (kJ v d)) z (.lst (zs\3))=H2 at s2 m L B
  have zl: ~~~zs<=100:=by rw[pz.length_eq,Z6];lia
  have ae:z≠b:=λc=>by rw[c,B]at m;cases m
  have zm: ~~~(zs\3)= ~~~zs:=Z6 _;refine%[%[_|SqL.of m]|hK _ _ (br (λi U M=>∃(o3:Option V) (rs:Gs Str),U=[!l,!d,!b,o3]/\ah H M/\M z<*zs\3/\M b∣.dK (gD rs)/\Ben M (ss\2) rs/\(∀r∈rs,r.2.1≠b/\H r.2.1=none)/\(∀x,x∈rs\1↔x∈zs.take i)/\ ~~~rs<=i)
   %[_,[],ρ,L,m,B,%[X4|λ_ h=>(nomatch h)],(λ_ h=>nomatch h),(λx=>Iff.rfl)|Zi _] (λi U M ⟨_,_,_,_,h,_⟩=>h) ?_ ?_)]
  .intro i n U H3 hn %[o3,rs,rfl,C,G,j,p,N,I|rl];have il:=(Xo hn).1;have tk:zs.take (i+1)=zs.take i++[n]:=by rw[Xc,hn];rfl
   show jB _ _ _ _ [!l,!d,!b,-n] H3;refine aB λD3 k3 _=>?_
   lk;refine%[_,bQ.k (k:=Sum.inr n) j|bJ (λc=>?_) λc=>?_]
   .have Y:n∉rs\1:=λh=>by
     have%[r,q|e]:=Xr h;have:=gB q;rw[e]at this;cases hv:bF (gD rs) (Sum.inr n)with
     | none=>exact this hv
     | some v=>rw[hv]at c;cases c
    refine%[l,n,ns,ss,ρ,C _ _ hl,ab.up C,ac|λe H4 F g s4 fe he Fn Fr=>?_];have ag:=s4 _ _ j;have O:e≠b:=λc=>by rw[c,j]at fe;cases fe
    have nv:bF (gD rs) (Sum.inr n)=none:=jz Y;have pk:b8 (gD rs) (Sum.inr n) (.ref e)=gD (rs++[(n,e,F)]):=by
     rw[dh _ nv];unfold gD;rw[Zd];rfl
    refine%[_,eT.k (k:=Sum.inr n) (v:= .ref e) ag (by unfold gD;rw[Z6];exact aD ⋯)|k3 _ _ %[_,rs++[(n,e,F)],ρ,ah.set (C.trans s4) fb,(ao ae).trans (s4 _ _ G),by rw[aa,pk],%[?_|λr q=>?_],λr q=>?_,λx=>?_|by rw[Z9];exact Xb rl]]
    .rw[Zd,X2];exact%[p.nd,by simp|λa ha b hb e=>Y (by rw[<-show b=n by simpa using hb,<-e];exact ha)]
    .rcases Xp q with u|u
     .have%[%[g|e1]|r2]:=p.at_ r u;exact%[%[g|by rw[ao (N r u).1];exact s4 _ _ e1]|r2]
     .rw[Xq u];exact%[%[g|by rw[ao O];exact he],Fn|Fr]
    .rcases Xp q with u|u
     .exact N r u
     .rw[Xq u];exact%[O|C.free fe]
    .rw[Zd,Yt,I,tk,Yt];exact or_congr Iff.rfl ∅
   .refine k3 _ _ %[_,rs,rfl,C,G,j,p,N,λx=>?_|⋯];have Y:n∈rs\1:=Decidable.byContradiction λh=>by rw[jz h]at c;exact c rfl
    rw[I,tk,Yt];exact%[.inl|λh=>h.elim id λh=>by rw[Xq h];exact(I n).mp Y]
  .intro U H3 %[o3,rs,rfl,C,G,j,p,N,I|rl];rw[Xf]at I;refine k2 _ _ ?_;lk;exact kk b H3 rs C fb j p N λx=>by rw[I,pz.mem_iff,Yx]
def qB(T:Txt K mg):Cal P w K mg base 2 "_law_beneath" ["_law_laid","_law_homes_here"] C8:=by
 refine(pS T).freeze.imp λvs H Q E zqw=>?_;have%[l,d,m,ms,ss,f,p,q,s,u,v,y|z]:=zqw;refine %[l,d,m,ms,ss,f,p,q,s,u,v,y|λb j rs A B C a G I=>%[[b]|λJ=>?_]]
 have out:∀c,c≠b->oJ [b] J j c=j c:=λc n=>iW λh=>n (Xq h)
 exact z b _ rs (λc o e=>(out c (aw e B)).trans (A _ _ e)) %[%[_|jt Zm C],a.nd|λr i=>%[(a.at_ r i).1.imp λg e=>(out _ (G r i).1).trans e|(a.at_ r i).2]] I
def C9{M:ZB}{g:Str->V}{y:Str}:(bF (VD M g) (Sum.inr y)).isSome=true↔y∈M:=by
 by_cases c:y∈M
 .rw[gC c];simp[c]
 .rw[ir c];simp[c]
def BeF.get{H:Hp}{ks:List ZB}{d:Addr}{rs:Gs Str}(h:BeF H ks d rs){x:Str}(b:x∈rs\1):∃a M,bQ H d (.str x) (some (.ref a))/\(∃g:Str->Int,H a∣.dK (VD M λx=> .int (g x)))/\M.Nodup/\∀y,y∈M↔Rch ks x y:=by
 have%[o|c]:=h.at_;have%[r,e,rfl|f]:=kb b;exact%[r.2.1,r.2.2,.inl %[_,Sum.inr r.1,.inr %[o|c],ρ|f.symm]|h.in_ r e]
inductive wo
 | mk (b:Addr) (ks:List ZB) (rs:Gs Str):vs=[.ref b]->BeF H ks b rs-> ~~~rs<=1000->(∀H' v,ah H H'->(v=true↔∃x∈rs\1,Rch ks x x)->Q (.bl v) H')->wo vs H Q E0
def pT(T:Txt K mg):Cal P w K mg base 1 "_law_has_ring" ["_law_beneath_here"] wo:=by
 .exists T.bI,ng,ab,e,%[b,ks,rs,rfl,N,rl|kk];have%[o|B]:=N.at_;refine%[_,%["JDHm}ec?1~uQ0X0?2v~=0VQ100UB",0,↑(["_law_deposit","_law_beneath_here"],[(1,0)]),↑["_law_deposit","_law_beneath_here"]|e]|?_];show fG _ _ [!b] H;lk;refine aG λO hK=>?_
  unfold rF;lk;refine%[_,_,B|hK _ _ λF U=>?_];have gl: ~~~(gD rs)= ~~~rs:=Z6 _;refine c9 (J:=Itk b o (gD rs)) (n:= ~~~(gD rs)) (D:=F) (λi ts C m=>(∃Y,C=[Y,!b])/\ah H m/\m F<*ts/\ ~~~ts<=i/\(ts≠[]↔∃r∈rs.take i,Rch ks r.1 r.1))
   %[%[none|rfl],ah.upd U,aa,Zi _|by simp] (λi _ _ m hi j=>%[j.2.1 _ _ B|hi]) (λ_ _ m j=>%[j.2.1 _ _ B|Zi _]) ?_ ?_
  .intro i ts C m hi %[%[Y|rfl],y,d,tl|z] x H2 %[e2,k,v,hk|G];subst e2;have il:i< ~~~rs:=by lia
   obtain⟨r,l⟩:∃r,rs[i]?∣r:=%[_|Z4 il]
   have I:(gD rs)[i]?∣(Sum.inr r.1,V.ref r.2.1):=by unfold gD;rw[Zl,l];rfl
   rw[I]at hk;cases hk;obtain rfl:x=V.str r.1:=G;have%[a,M,ga,%[g|ha],_|hM]:=(N.up y).get (Xs %[r,Z8 l|rfl]);have tk:rs.take (i+1)=rs.take i++[r]:=by rw[Xc,l];rfl
   lk;refine%[_,ga,a,ρ,_,.inl %[_,Sum.inr r.1,.inl ha,ρ|ρ]|bJ (λc=>CK.mk hi d (aD ⋯) %[%[_|ρ],ah.set y U,aa,by rw[Z9];exact Xb tl|?_]) λc=>CN.mk hi %[%[_|ρ],y,d,⋯|?_]]
   .rw[tk];exact%[λ_=>%[r,Yv _ Zm|(hM _).mp (C9.mp c)]|λ_=>by simp]
   .rw[z,tk];refine%[λ⟨q,L,h⟩=>%[q,Yu _ L|h]|λ⟨q,L,h⟩=>?_];rcases Xp L with u|u
    .exact%[q,u|h]
    .rw[Xq u]at h;exact(c (C9.mpr ((hM _).mpr h))).elim
  .intro ts C m %[_,y,d,tl|z];rw[gl,Xf]at z;refine%[Xh _|λp hp=>%[F,ρ,ts,ah.upd hp _ _ d,aa|kk _ _ (y.trans (ah.upd hp)) ?_]];rw[decide_eq_true_iff,z];exact%[λ⟨r,e,h⟩=>%[r.1,Xs %[r,e|ρ]|h]|λ⟨x,G,h⟩=>by have%[r,e|rfl]:=Xr G;exact%[r,e|h]]
def wp:∀{xs:List s},(xs.map nm).Nodup->(∀p∈xs,(f p).Nodup)->(∀p∈xs,∀x∈f p,∃c,x=lnS (nm p) (sgn c))->(xs.flatMap f).Nodup
 |[],_,_,_=>X4
 | p::xs,h,l,i=>by
   rw[Yq,nodup_cons]at h;rw[flatMap_cons,X2];refine%[l p Zm,wp h.2 (λq g=>l q (Zk _ g)) (λq g=>i q (Zk _ g))|λa m b n e=>?_];have%[q,g|j]:=mem_flatMap.mp n;have%[c|o]:=i p Zm a m;have%[d|r]:=i q (Zk _ g) b j;exact h.1 (Xs %[q,g|(vU (o.symm.trans (e.trans r))).symm])
def AN(p:Addr×Str×ZB):(lyr p).Nodup:=by
 unfold lyr;rw[X3,X9];refine Xj (λ{x y} b e a f=>?_) (nodup_iff_pairwise_ne.mp (dA ((cR p.2.2).map sgn)));have%[c,_|rfl]:=j6 b;have%[d,_|rfl]:=j6 e;exact a (by rw[uk f])
def uv{cs:ZH}(a:(cs.map λp=>p.2.1).Nodup){ls:ZB}(h:ls.Perm (cs.flatMap lyr)):ls.Nodup:=by
 rw[h.nodup_iff];exact wp (nm:=λp:Addr×Str×ZB=>p.2.1) a (λp _=>AN p) λp c x b=>CM b
structure pU (H:Hp) (cs:ZH) (qs:ZN):Prop where
 ca:bU H cs
 nd:(cs.map λp=>p.2.1).Nodup
 p1:1<= ~~~cs
 p3: ~~~cs<=3
 few:∀p∈cs,vD p.2.2
 ly: ~~~(cs.flatMap lyr)<=63
 sa:∀ls:ZB,ls.Perm (cs.flatMap lyr)->bp H ls qs
 q20: ~~~qs<=40
def pU.up(h:pU H cs qs)(s:ah H a):pU a cs qs:=
 %[h.ca.up s,h.nd,h.p1,h.p3,h.few,h.ly,λls p=>(h.sa ls p).up s|h.q20]
inductive pV (K:ZA)
 | mk (a:Addr) (ns:ZL):vs=[.ref a]->SqL K H a (ns\4)->DX H-> ~~~ns<=63->(∀H',Q (.bl true) H')->pV K vs H Q E0
def ze{R:Hp->Prop}(i:H g=none)(h:H c=none)(m:H a<*cV cs)(n:H b∣.lst (qs\0))(p:pU H cs qs)
 (k:∀d ls ts,ah H d->iK mg d g qs ls ts->ls.Perm (cs.flatMap lyr)->(∀k,k∈ts\2↔k∈cH cs\/k∈cI qs qs.length)->R d):
 uj mg [.ref g,.ref a,.ref b] (upd (upd H c (.own g)) g (.ins (cU mg "Ground") c [])) (λv r=>v= .non/\R r) E0:=by
 have f:ah H (upd (upd H c (.own g)) g (.ins (cU mg "Ground") c [])):=λb o e=>by
  rw[ao (aw e i),ao (aw e h)];exact e
 refine%[g,a,b,c,cs,qs,ρ,aa,f _ _ m,f _ _ n,p.ca.up f,p.nd,p.p1,p.p3,p.few,p.ly,λls q=>(p.sa ls q).up f,p.q20|λd ls ts s c3 u y z tk A B C pl E=>%[ρ|k d ls ts (λb o e=>y b o (aw e i) (f _ _ e)) %[%[s,c3,u|z],uv p.nd pl,E,by rw[pl.length_eq];exact p.ly,C,λk j=>?_,λk j=>?_|A] pl B]]<;> have%[t,l|rfl]:=Xr j
 .exact(tk t l).1
 .exact(tk t l).2
def _root_._CU.Sho.same{ks ms us:List ZB}{a b:Str}(h:Sho ks a b us)(e:∀k,k∈ks↔k∈ms):Sho ms a b us:=%[λk c=>(e k).mp (h.sub k c),h.wal,h.pos|by rw[<-vZ e];exact h.min]
structure iI (mg:ZC) (H:Hp) (g:Addr) (qs:ZN) (ls:ZB) (ts:ZG) (lk:List ZB):Prop where
 gr:iK mg H g qs ls ts
 li:cq (a9 qs) (ts\2) lk
 nr:∀x,¬ Rch lk x x
def iI.up{mg:ZC}{H a:Hp}{g:Addr}{qs:ZN}{ls:ZB}{ts:ZG}{lk:List ZB}(h:iI mg H g qs ls ts lk)(s:ah H a):iI mg a g qs ls ts lk:=%[h.gr.up s,h.li|h.nr]
def iI.all{mg:ZC}{H:Hp}{g:Addr}{qs:ZN}{ls:ZB}{ts:ZG}{lk:List ZB}(h:iI mg H g qs ls ts lk)(a:List ZB)(h':cq (a9 qs) (ts\2) a):∀x,¬ Rch a x x:=by
 rw[pK (h'.mm h.li)];exact h.nr
abbrev Up(lk:List ZB)(a b:Str):Prop:=a=b\/Rch lk a b
inductive wq (mg:ZC)
 | mk (g:Addr) (qs:ZN) (ls:ZB) (ts:ZG) (lk:List ZB) (z u a b:Str):vs=[.ref g,.str z,.str u]->iI mg H g qs ls ts lk->z∈ls->u∈ls->bN (a9 qs) z a->bN (a9 qs) u b->(∀H',ah H H'-> ¬ Rch lk a b->Q .non H')->(∀l H' (ws:ZG),ah H H'->H l=none->H' l∣.lst (ws\0)->aK H' ws->(∀t∈ws,t.2∈lk)->Wal (ws\2) a b-> ~~~ws<=200->Q (.ref l) H')->wq mg vs H Q E0
inductive Da (mg:ZC)
 | mk (g:Addr) (qs:ZN) (ls:ZB) (ts:ZG) (lk:List ZB) (z u a b:Str):vs=[.ref g,.str z,.str u]->iI mg H g qs ls ts lk->z∈ls->u∈ls->bN (a9 qs) z a->bN (a9 qs) u b->Up lk a b->(∀l H' (ws:ZG),ah H H'->H' l∣.lst (ws\0)->aK H' ws->(∀t∈ws,t.2∈lk)->Wal (ws\2) a b-> ~~~ws<=200->Q (.ref l) H')->Da mg vs H Q E0
def lJ(T:Txt K mg):Cal P w K mg base 4 "deposit_of" ["ground","layer"] (CU mg):=by
 .exists T.aH,qp,j,a,%[g,c,c3,e,qs,ls,ts,z,rfl,l,nd,m,b,i|n];refine%[_,%["JDHVF~SA0B1",0|a]|?_];show fG _ _ [!g,-z] H;lk;refine%[g,c,c3,e,qs,ls,ts,ρ,l,nd,m,b|λd o r p u q a=>?_];have:=bQ.k (k:=Sum.inr z) q;rw[fE i]at this;exact%[d,ρ,_,this|n o (r z) p (a z i).2]
def Fh(T:Txt K mg):Cal P w K mg base 7 "chain" ["ground","one","other"] (wq mg):=by
 .exists T.aV,vG,ab,n,%[g,qs,ls,ts,lk,z,u,a,b,rfl,C,hz,hu,za,ub,kn|ky];have c:=C.gr;have%[O,c3,U|Y]:=c.gr;have ll:=c.ll;refine%[_,%["JCG3F~TAF~5A0BBDHF~3A3AF~7A0A1BAF~7A0A2BB",vG.nd|n]|?_]
  show aU _ _ _ [!g,-z,-u,none] H;refine am λD1 k1 _=>?_
  lk;refine%[g,qs,ls,ts,ρ,c,C.all|λl H1 ns ss s1 hl la sl G=>?_];refine%[l,ns,ss,ρ,hl,la,sl|λd H2 s2 fd hd=>k1 _ _ ?_];have e:=G.mm C.li;have i:=s1.trans s2;lk;refine%[g,O,c3,U,qs,ls,ts,z,ρ,Y.up i,c.nd,c.so,⋯,hz|λH3 a' s3 I=>?_];have J:=i.trans s3;refine%[g,O,c3,U,qs,ls,ts,u,ρ,Y.up J,c.nd,c.so,⋯,hu|λH4 b' s4 L=>?_];obtain rfl:=I.one za;obtain rfl:=L.one ub;have j:=s3.trans s4;have m:=i.trans j;have o:=la.up (s2.trans j);refine%[d,_,_,ns,ss,ρ,hd.up j,o,sl,λM B n1=>kn M (m.trans B) (by rw[<-pK e];exact n1)|λq M ws B fq hq p sh r=>ky q M ws (m.trans B) (m.free fq) hq (λt N=>?_) (λt N=>(e _).mp (Xs %[t,p t N|ρ])) sh.wal r];have%[h1,x,y,v,e3|_]:=o t (p t N);exact%[by rw[e3];simp|B _ _ h1]
def ke(T:Txt K mg):Cal P w K mg base 8 "chain_or_nothing" ["ground","one","other"] (Da mg):=by
 .exists T.bp,eA,i,j,%[g,qs,ls,ts,lk,z,u,a,b,rfl,m,o,q,r,v,up|d];refine%[_,%["JCG3F]=A0A1A2BDH]>M~43.UB3",eA.nd|j]|?_]
  show aU _ _ _ [!g,-z,-u,none] H;refine am λI k1 _=>?_
  lk;refine%[g,qs,ls,ts,lk,z,u,a,b,ρ,m,o,q,r,v,λe s n=>k1 _ _ ?_|λl e ws s J y B sub c C=>k1 _ _ ?_]
  .lk;rw[if_pos ∅];exact%[Xh _|λp G=>d p _ [] (s.trans (ah.upd G)) aa (d6 _) (λ_ h=>nomatch h) (up.resolve_right n) (Xh _)]
  .lk;rw[if_neg ∅];exact d l e ws s y B sub c C
abbrev Hs(K:ZA)(b:TE):TT:=λc H Q=>b c H λx a=>∃k,zv K x a k/\Q k a
def IH{X:Cx}{K:ZA}{a:Expr}{c:TE}(h:X.K=K)(d:∀b,isTrue a X.env b=(do let v<-b;standAt a.pos;holding [v] (truthy v)))(e:QE X a c):QT X a (Hs K c):=eX h d e
noncomputable abbrev Yr:=Addr×Nat×Str×Int
abbrev jQ(H:Hp)(ys:List Yr):Prop:=∀t∈ys,H t.1&&&[.int t.2.1,.str t.2.2.1,.int t.2.2.2]
def jQ.up{H a:Hp}{ys:List Yr}(h:jQ H ys)(s:ah H a):jQ a ys:=λt b=>s _ _ (h t b)
def Ht{M:ZB}{y:Str}:(bF (SD M) (Sum.inr y)).isSome=true↔y∈M:=by
 by_cases c:y∈M
 .unfold SD;rw[gC c];simp[c]
 .unfold SD;rw[ir c];simp[c]
inductive Db
 | mk (d:Addr) (x y:Str) (ks:List ZB) (rs:Gs Str):vs=[.ref d,.str x,.str y]->ReF H ks d rs->x∈rs\1->(∀b:Bool,(b=true↔Up ks x y)->Q (.bl b) H)->Db vs H Q E0
abbrev upB(ks:List ZB)(a b:Str):Bool:= @decide (Up ks a b) (Classical.propDecidable _)
def iw{ks:List ZB}{a b:Str}:upB ks a b=true↔Up ks a b:= @decide_eq_true_iff _ (Classical.propDecidable _)
inductive ux (up:Bool)
 | mk (l d:Addr) (x:Str) (ks:List ZB) (rs:Gs Str) (ys:List Yr):vs=[.ref l,.ref d,.str x]->H l∣.lst (ys\0)->jQ H ys->ReF H ks d rs->x∈rs\1->(∀t∈ys,t.2.2.1∈rs\1)-> ~~~ys<=60->(∀r H',ah H H'->H r=none->H' r∣.lst ((ys.filter λt=>if up then upB ks t.2.2.1 x else upB ks x t.2.2.1)\0)->Q (.ref r) H')->ux up vs H Q E0
def eQ{ys:List Yr}{p:Yr->Bool}{j:Nat}(a:j< ~~~ys):(ys.take (j+1)).filter p=(ys.take j).filter p++if p ys[j]=true then [ys[j]]else []:=by
 rw[Xc,Z4 a,Y3];rw[show(some ys[j]).toList=[ys[j]]from rfl,Y4,Y8]
def jj{ys:List Yr}{p:Yr->Bool}{j:Nat}(h: ~~~ys<=60): ~~~(((ys.take j).filter p)\0)<=60:=by
 rw[Z6];exact Yg (Yi _ _) (Yg (List.length_take_le' ..) h)
def fW(T:Txt K mg):Cal P w K mg base 1 "is_one_or_later" ["reach","upper","lower"] Db:=by
 .exists T.bm,j3,j,e,%[d,x,y,ks,rs,rfl,g,l|i];refine%[_,%["JDH~cmZ12(]^2V01",0|e]|?_];show fG _ _ [!d,-x,-y] H;have%[r,a,m|n]:=kb l;have%[o|p]:=g.at_;have%[%[q|b],nd|mem]:=g.in_ r a;lk;by_cases c:x=y
  .rw[if_pos (Zf c)];exact i true %[λ_=> .inl c|λ_=>rfl]
  .rw[if_neg (by simp[c])];refine%[_,.inl %[_,Sum.inr x,.inr %[o|p],ρ|n.symm],_,ρ,_,.inl %[_,Sum.inr y,.inr %[q|b],ρ|ρ]|i _ ?_];rw[Ht,mem,m];exact%[.inr|λh=>h.resolve_left c]
def mo(T:Txt K mg):Cal P w K mg base 2 "sinces_beneath" ["sinces","reach","name"] (ux false):=by
 .exists T.bi,kU,v,y,%[l,d,x,ks,rs,ys,rfl,q,z,B,C,O,G|I];refine%[_,%["JDHec?1S0X0?2v~8F~9AQ1AQ2AL0]AB0",0,↑(["said","reach","name"],[(1,1),(2,2)]),↑["said","reach","name"]|y]|?_];show fG _ _ [!l,!d,-x] H;refine aG λr J=>?_
  lk;refine%[%[_|SqL.of q]|J _ _ λF m=>?_];refine ce (λj vs n e=>(∃u,n=[u,!d,-x])/\ah H e/\e F<*vs/\vs=(((ys.take j).filter λt=>upB ks x t.2.2.1)\0))
   %[%[none|rfl],ah.upd m,aa|rfl] (λ_ _ _ e o=>o.2.1 _ _ q) ?_ ?_
  .intro j vs n e i %[%[u|rfl],g,a|rfl];have L:=Yd i;have M:=g _ _ (z _ L);unfold Hs;lk;refine%[_,SqT.of M,_,ρ,d,x,_,ks,rs,ρ,B.up g,C|λb N=>%[b,ρ|?_]];obtain rfl:b=upB ks x ys[j].2.2.1:=Bool.eq_iff_iff.mpr (N.trans iw.symm);refine bJ (λc=>CK.mk i a (by have:=jj (p:=λt=>upB ks x t.2.2.1) (j:=j) G;exact aD ⋯) %[%[_|rfl],ah.set g m,aa|?_]) λc=>CN.mk i %[%[_|rfl],g,a|?_]
   .rw[eQ i,if_pos c,Zd];rfl
   .rw[eQ i,if_neg c,Zx]
  .intro vs n e %[_,g,a|rfl];rw[Zn (Zi _)]at a;exact I F e g m a
def mV(T:Txt K mg):Cal P w K mg base 2 "bys_above" ["bys","reach","name"] (ux true):=by
 .exists T.bj,uc,y,z,%[l,d,x,ks,rs,ys,rfl,q,B,C,O,G,I|J];refine%[_,%["JDHec?1S0X0?2v~8F~9AQ1AL0]AAQ2B0",0,↑(["said","reach","name"],[(1,1),(2,2)]),↑["said","reach","name"]|z]|?_];show fG _ _ [!l,!d,-x] H;refine aG λr L=>?_
  lk;refine%[%[_|SqL.of q]|L _ _ λF m=>?_];refine ce (λj vs n e=>(∃u,n=[u,!d,-x])/\ah H e/\e F<*vs/\vs=(((ys.take j).filter λt=>upB ks t.2.2.1 x)\0))
   %[%[none|rfl],ah.upd m,aa|rfl] (λ_ _ _ e o=>o.2.1 _ _ q) ?_ ?_
  .intro j vs n e i %[%[u|rfl],g,a|rfl];have v:=Yd i;have M:=g _ _ (B _ v);unfold Hs;lk;refine%[_,SqT.of M,_,ρ,d,_,x,ks,rs,ρ,C.up g,G _ v|λb N=>%[b,ρ|?_]];obtain rfl:b=upB ks ys[j].2.2.1 x:=Bool.eq_iff_iff.mpr (N.trans iw.symm);refine bJ (λc=>CK.mk i a (by have:=jj (p:=λt=>upB ks t.2.2.1 x) (j:=j) I;exact aD ⋯) %[%[_|rfl],ah.set g m,aa|?_]) λc=>CN.mk i %[%[_|rfl],g,a|?_]
   .rw[eQ i,if_pos c,Zd];rfl
   .rw[eQ i,if_neg c,Zx]
  .intro vs n e %[_,g,a|rfl];rw[Zn (Zi _)]at a;exact J F e g m a
abbrev YS(qs:ZN)(b:Str)(n:Nat)(d:Str)(y:Int):Prop:=∃q a,qs[n]?∣q/\q.2=[.str b,.str a,.int y]/\bN (a9 qs) a d
inductive wt (mg:ZC)
 | mk (g:Addr) (wd:Str) (qs:ZN) (ls:ZB) (ts:ZG):vs=[.ref g,.str wd]->iK mg H g qs ls ts->(wd="since"\/wd="by")-> ~~~qs<=60->(∀l H' (ys:List Yr),ah H H'->H l=none->H' l∣.lst (ys\0)->jQ H' ys->(∀n d y,(n,d,y)∈ys\2↔YS qs wd n d y)-> ~~~ys<=60->Q (.ref l) H')->wt mg vs H Q E0
def eJ(T:Txt K mg):Cal P w K mg base 4 "years_said" ["ground","word"] (wt mg):=by
 .exists T.bh,gu,ai,M,%[g,B,qs,ls,ts,rfl,hg,hw,ql|kk];have%[c2,c3,c4|gr]:=hg.gr;have ll:=hg.ll;refine%[_,%["JC:2qrF~SA0BCG3=~o0DHec?1~CA3BiNX0?2NX1?2dvMZL1EQ3jA0AVQ2L1EAL1EB",gu.nd,↑(["number","saying","names","word"],[(2,2),(3,1)]),↑["number","saying","names","word"]|M]|?_]
  show aU _ _ _ [!g,-B,none,none] H;refine am λD1 k1 _=>?_
  lk;refine%[g,c2,c3,c4,qs,ls,ts,ρ,gr,hg.nd,hg.so,⋯|λd H1 r s1 fd hd M=>k1 _ _ (am λD2 k2 _=>?_)];have C:=gr.up s1;lk;refine j8 C (.inr (.inl rfl)) %[g,c2,c3,c4,qs,ls,ts,rfl,C|λl1 ab=>k2 _ _ ?_];have s2:=ah.upd (o:= .lst (qs\0)) ab;have m:upd H1 l1 (.lst (qs\0)) l1=_:=aa;have sa:=(C.up s2).sa;have hd:=s2 _ _ hd;have G:=s1.trans s2
  generalize upd H1 l1 (.lst (qs\0))=H2 at s2 m hd G sa
  refine aG λag hK=>?_
  lk;refine%[_,SqL.of m|hK _ _ λF hF=>?_];refine c9 (J:=Ite K l1 (qs\0)) (n:= ~~~qs) (D:=F) (λj vs O l=>(∃o1 o2,O=[o1,o2,!d,-B])/\ah H2 l/\l F<*vs/\∃ys:List Yr,vs=ys\0/\jQ l ys/\ ~~~ys<=j/\∀n d y,(n,d,y)∈ys\2↔n<j/\YS qs B n d y)
   %[%[none,none|rfl],ah.upd hF,aa,[],rfl,(λ_ h=>nomatch h),Zi _|by simp] (λj ys O l z I=>%[SqL.of (I.2.1 _ _ m)|by rwa[Z6]]) (λys O l I=>%[SqL.of (I.2.1 _ _ m)|by rw[Z6];exact Zi _]) ?_ ?_
  .intro j vs O l z %[%[o1,o2|rfl],u,i,ys,rfl,L,yl|ym] _ _ %[x,t0,hx,ac,rfl|rfl];rw[Zl,Z4 z]at hx;obtain rfl:V.ref qs[j].1=x:=Za hx;have sT:=ah.upd (o:= .tup [.int j,.ref qs[j].1]) ac;have g0:upd l t0 (.tup [.int j,.ref qs[j].1]) t0=_:=aa;have i:=sT _ _ i;have L:=L.up sT;have u:=u.trans sT
   generalize upd l t0 (.tup [.int j,.ref qs[j].1])=H3 at sT g0 i L u
   have%[tu|ok]:=(sa.up u) _ (Yd z);refine%[_,SqT.of g0,ρ,_,_,ρ,_,_,ρ,ρ|?_];show xX _ [some (.int j),some (.ref qs[j].1),!d,-B] _ _;lk;have ex:∃N v1 v2,qs[j].2=[.str N,v1,v2]/\(N=B->∃a y,v1=V.str a/\v2=V.int y/\a∈ls):=by
    rcases ok with⟨N,a,b,e,ae,_⟩|⟨N,a,y,e,_,U,_⟩
    .refine%[_,_,_,e|λc=>?_];subst c;rcases hw with rfl|rfl<;> rcases ae with h|h<;> exact absurd h (!1)
    .exact%[_,_,_,e|λ_=>%[a,y,ρ,ρ|U]]
   have%[N,v1,v2,e|he]:=ex;rw[e]at tu;refine%[_,SqT.of tu,_,ρ,ρ|bJ (λc=>?_) λc=>?_]
   .obtain rfl:N=B:=V.str.inj (Zo c);have%[a,y,rfl,rfl|U]:=he rfl;have get:=bQ.k (k:=Sum.inr a) (u _ _ hd);rw[fE U]at get;refine%[_,SqT.of tu,_,ρ,_,get,_,SqT.of tu,_,ρ,#[3]|λp hp=>?_];have sp:=ah.upd (o:= .tup [.int j,.str (r a),.int y]) hp;have gp:upd H3 p (.tup [.int j,.str (r a),.int y]) p=_:=aa
    generalize upd H3 p (.tup [.int j,.str (r a),.int y])=H4 at sp gp ⊢
    refine CK.mk z (sp _ _ i) (by rw[Z6];exact aD ⋯) %[%[_,_|rfl],ah.set (u.trans sp) hF,aa,ys++[(p,j,r a,y)],by rw[Zd];rfl,λt ht=>?_,by rw[Z9];exact Xb yl|λn d' y'=>?_]
    .refine io (sp _ _ i) _ _ ?_;rcases Xp ht with q|q
     .exact sp _ _ (L t q)
     .rw[Xq q];exact gp
    .rw[Zd,Yt,ym];show _\/(n,d',y')∈[(j,r a,y)]↔_;rw[Yz]
     constructor
     .rintro(⟨Y,v⟩|h)
      .exact%[⋯|v]
      .cases h;exact%[Yo _,_,a,Z4 z,e|(M a U).2]
     .rintro⟨Y,v⟩;rcases Nat.lt_succ_iff_lt_or_eq.mp Y with h|rfl
      .exact .inl %[h|v]
      .have%[q,a',e1,e2|l2]:=v;rw[Z4 z]at e1;cases e1;rw[e]at e2;cases e2;rw[(M a U).2.one l2];exact .inr rfl
   .refine CN.mk z %[%[_,_|rfl],u,i,ys,rfl,L,⋯|λn d' y'=>?_];rw[ym]
    constructor
    .rintro⟨Y,v⟩;exact%[⋯|v]
    .rintro⟨Y,v⟩;refine%[?_|v];rcases Nat.lt_succ_iff_lt_or_eq.mp Y with h|rfl
     .exact h
     .have%[q,a',e1,e2|_]:=v;rw[Z4 z]at e1;cases e1;rw[e]at e2;cases e2;exact absurd (Zf rfl) c
  .intro vs O l %[_,u,i,ys,rfl,L,yl|ym];exact kk F l ys (G.trans u) (G.free hF) i L (λn d y=>(ym n d y).trans %[λh=>h.2|λh=>⟨by have%[q,_,e|_]:=h;exact(Xo e).1,h⟩]) ⋯
def YS.in_{mg:ZC}{H:Hp}{g:Addr}{qs:ZN}{ls f:ZB}{ts:ZG}{i d:Str}{n:Nat}{y:Int}(b:iK mg H g qs ls ts)(j:sk (a9 qs) ls f)(h:YS qs i n d y):d∈f:=by
 have%[q,a,m,c|l]:=h;have%[s,c3,u|b]:=b.gr;have o:a∈ls:=by
  rcases(b.sa q (Z8 m)).2 with⟨p,x,z,e,_⟩|⟨p,x,z,e,_,r,_⟩
  .rw[e]at c;cases c
  .rw[e]at c;cases c;exact r
 exact(j.mem d).mpr %[l.1.within (fV b.sa) o|iu l l.1]
abbrev Lo(qs:ZN)(lk:List ZB)(x:Str)(m:Int):Prop:=(m= -9999\/∃n d,YS qs "since" n d m/\Up lk x d)/\∀n d y,YS qs "since" n d y->Up lk x d->y<=m
abbrev Hi(qs:ZN)(lk:List ZB)(x:Str)(m:Int):Prop:=(m=9999\/∃n d,YS qs "by" n d m/\Up lk d x)/\∀n d y,YS qs "by" n d y->Up lk d x->m<=y
abbrev AO(H:Hp)(qs:ZN)(lk:List ZB)(bs:Gs Int):Prop:=∀b∈bs,∃lo hi,b.2.2=[lo,hi]/\H b.2.1&&&[.int lo,.int hi]/\Lo qs lk b.1 lo/\Hi qs lk b.1 hi
def AO.up{H a:Hp}{qs:ZN}{lk:List ZB}{bs:Gs Int}(h:AO H qs lk bs)(s:∀b z,H b&&&z->a b&&&z):AO a qs lk bs:=λb c=>by
 have%[lo,hi,e,d|f]:=h b c;exact%[lo,hi,e,s _ _ d|f]
def Dc{a:Type}{rs:Gs a}{y:Str}(h:y∈rs\1):∃r∈rs,r.1=y/\bF (gD rs) (Sum.inr y)∣.ref r.2.1:=by
 have%[r,b|rfl]:=Xr h;cases e:bF (gD rs) (Sum.inr r.1)with
 | none=>exact absurd e (gB b)
 | some v=>
   have%[g,c,d|rfl]:=dU e;exact%[g,c,d|ρ]
inductive pW (mg:ZC)
 | mk (g:Addr) (qs:ZN) (ls:ZB) (ts:ZG) (lk:List ZB):vs=[.ref g]->iI mg H g qs ls ts lk-> ~~~qs<=60->(∀d H' ns (bs:Gs Int),ah H H'->H d=none->H' d∣.dK (gD bs)->AO H' qs lk bs->(bs\1).Nodup->sk (a9 qs) ls ns->(∀x,x∈bs\1↔x∈ns)->Q (.ref d) H')->pW mg vs H Q E0
def AQ(T:Txt K mg):Cal P w K mg base 8 "bounds" ["ground"] (pW mg):=by
 .exists T.bg,dw,b4,N,%[g,qs,ls,ts,lk,rfl,ak,ql|kk];have O:=ak.gr;have%[c2,c3,c4|gr]:=O.gr;have ll:=O.ll;refine%[_,%["JCG1F]BA0BCG2F~UA0AWBCG3F~UA0AWBCG4sCRSF~tA0BK5CG6]_ec?1SF]|A2A1A5BX0?2yL0~v~/CG7]}ec?1SF]CA3A1A5BX0?2yL0~v~:DojA6A7B45DH4",dw.nd,↑(["said"],[]),↑["said"]|N]|?_]
  show aU _ _ _ [!g,none,none,none,none,none,none,none] H;refine am λD1 k1 _=>?_
  lk;refine%[g,qs,ls,ts,ρ,O,ak.all|λd H1 rs b5 ns s1 a6 hn U rn=>k1 _ _ (am λD2 k2 _=>?_)];have U:=U.same (a6.mm ak.li);lk;refine%[g,_,qs,ls,ts,ρ,O.up s1,.inl rfl,ql|λl1 H2 ys s2 b6 Y ya ym yl=>k2 _ _ (am λD3 k3 _=>?_)];have al:=s1.trans s2;lk;refine%[g,_,qs,ls,ts,ρ,O.up al,.inr rfl,ql|λl2 H3 zs s3 b9 ab za zm zl=>k3 _ _ (am λD4 k4 _=>?_)];have an:=al.trans s3;lk;intro e fe;refine k4 _ _ (am λD5 k5 _=>az λb3 hK=>?_);have s4:=ah.upd (o:= .dK []) fe;have ge:upd H3 e (.dK []) e=_:=aa;have U:=(U.up (s2.trans s3)).up s4;have Y:=(s3.trans s4) _ _ Y;have ya:=ya.up (s3.trans s4);have ab:=s4 _ _ ab;have za:=za.up s4;have ac:=an.trans s4;have fe:=an.free fe
  generalize upd H3 e (.dK [])=H4 at s4 ge U Y ya ab za ac
  lk;refine%[g,c2,c3,c4,qs,ls,ts,ρ,gr.up ac,O.nd,O.so,⋯|λm H5 ae s5 fm hm v=>?_];refine%[m,ρ,%[_|SqL.of hm]|hK _ _ ?_];have ge:=s5 _ _ ge;have bb:m≠e:=λc=>by rw[c,ge]at hm;cases hm
  have fX:∀{u:Hp},c8 e H5 u->∀{c o},H4 c∣o->(∀xs,o≠ .dK xs)->u c∣o:=λ{u} B {c o} h q=>B c o (λz=>by rw[z]at h;have:=s5 _ _ h;rw[ge]at this;exact q _ (Za this).symm) (s5 _ _ h)
  refine br (us:=ae) (f:=V.str) (λi G u=>(∃o5 o6 o7,G=[!g,!d,!l1,!l2,!e,o5,o6,o7])/\c8 e H5 u/\∃bs:Gs Int,u e∣.dK (gD bs)/\AO u qs lk bs/\bs\1=ae.take i)
   %[%[_,_,_|rfl],(λ_ _ _ h=>h),[],ge,(λ_ h=>nomatch h)|rfl] (λi G u I=>I.2.1 _ _ bb hm) ?_ ?_
  .intro i x G u hx %[%[o5,o6,o7|rfl],B,bs,he,ba|be];show aU _ _ _ [!g,!d,!l1,!l2,!e,-x,o6,o7] u;refine am λD6 k6 _=>?_
   lk;unfold CB;refine aG λbc bf=>?_
   lk;have rx:x∈rs\1:=(rn x).mpr ((hn.mem x).mpr ((v.mem x).mp (Z8 hx)));have as:ReF u lk d rs:=%[U.at_.imp λo h=>fX B h (λ_=>nofun),U.nd|λr N=>%[(U.in_ r N).1.imp λo h=>fX B h (λ_=>nofun)|(U.in_ r N).2]]
   refine%[l1,d,x,lk,rs,ys,ρ,fX B Y (λ_=>nofun),(λt a=>fX B (ya t a) (λ_=>nofun)),as,rx,(λt a=>(rn _).mpr (((ym _ _ _).mp (Xs %[t,a|ρ])).in_ O hn)),yl|λr H6 s6 fr ag=>%[r,ρ,%[_|SqL.of ag]|bf _ _ λF hF=>?_]];have a0:jQ H6 (ys.filter λt=>if false=true then upB lk t.2.2.1 x else upB lk x t.2.2.1):=λt a=>s6 _ _ (fX B (ya t (List.mem_filter.mp a).1) (λ_=>nofun))
   have um:∀m,m∈(ys.filter λt=>if false=true then upB lk t.2.2.1 x else upB lk x t.2.2.1).map (·.2.2.2)↔∃n d',YS qs "since" n d' m/\Up lk x d':=λm=>by
    rw[Yx]
    constructor
    .rintro⟨t,a,rfl⟩;have%[J|L]:=List.mem_filter.mp a;exact%[_,_,(ym _ _ _).mp (Xs %[t,J|ρ])|iw.mp L]
    .rintro⟨n,d',J,L⟩;have%[t,a|e]:=Xr ((ym _ _ _).mpr J);exact%[t,List.mem_filter.mpr %[a|by rw[e];exact iw.mpr L]|by rw[e]]
   have ul:=jj (p:=λt=>if false=true then upB lk t.2.2.1 x else upB lk x t.2.2.1) (j:= ~~~ys) yl;rw[Xf,Z6]at ul
   generalize (ys.filter λt=>if false=true then upB lk t.2.2.1 x else upB lk x t.2.2.1)=us at ag a0 um ul
   refine ce (λj vs G H7=>(∃o1,G=[o1])/\ah H6 H7/\H7 F<*vs/\vs=((us.take j).map λt=>V.int t.2.2.2)) %[%[none|rfl],ah.upd hF,aa|rfl] (λ_ _ _ H7 I=>I.2.1 _ _ ag) ?_ ?_
   .intro j vs G H7 M %[%[o1|rfl],sm,l|rfl];have tu:=sm _ _ (a0 _ (Yd M));lk;refine%[_,SqT.of tu,_,ρ|CK.mk M l (by rw[Z6,Yl];exact aD ⋯) %[%[_|ρ],ah.set sm hF,aa|by rw[Xc,Z4 M,Zd];rfl]]
   .intro vs G H7 %[_,sm,l|rfl];rw[Zn (Zi _)]at l;have C:=s6.trans sm;refine%[F,us.map (·.2.2.2),_,ρ,ρ,SqL.of (by rw[Ys];exact l)|λlo bm=>k6 _ _ (am λD7 k7 _=>?_)];lk;unfold CC;refine aG λbn bt=>?_
    lk;refine%[l2,d,x,lk,rs,zs,ρ,C _ _ (fX B ab (λ_=>nofun)),(λt a=>C _ _ (fX B (za t a) (λ_=>nofun))),as.up C,rx,(λt a=>(rn _).mpr (((zm _ _ _).mp (Xs %[t,a|ρ])).in_ O hn)),zl|λr2 H8 s8 ca ai=>%[r2,ρ,%[_|SqL.of ai]|bt _ _ λF2 a1=>?_]];have a2:jQ H8 (zs.filter λt=>if true=true then upB lk t.2.2.1 x else upB lk x t.2.2.1):=λt a=>s8 _ _ (C _ _ (fX B (za t (List.mem_filter.mp a).1) (λ_=>nofun)))
    have vm:∀m,m∈(zs.filter λt=>if true=true then upB lk t.2.2.1 x else upB lk x t.2.2.1).map (·.2.2.2)↔∃n d',YS qs "by" n d' m/\Up lk d' x:=λm=>by
     rw[Yx]
     constructor
     .rintro⟨t,a,rfl⟩;have%[J|L]:=List.mem_filter.mp a;exact%[_,_,(zm _ _ _).mp (Xs %[t,J|ρ])|iw.mp L]
     .rintro⟨n,d',J,L⟩;have%[t,a|e]:=Xr ((zm _ _ _).mpr J);exact%[t,List.mem_filter.mpr %[a|by rw[e];exact iw.mpr L]|by rw[e]]
    have vl:=jj (p:=λt=>if true=true then upB lk t.2.2.1 x else upB lk x t.2.2.1) (j:= ~~~zs) zl;rw[Xf,Z6]at vl
    generalize (zs.filter λt=>if true=true then upB lk t.2.2.1 x else upB lk x t.2.2.1)=a3 at ai a2 vm vl
    refine ce (λj vs G H9=>(∃o1,G=[o1])/\ah H8 H9/\H9 F2<*vs/\vs=((a3.take j).map λt=>V.int t.2.2.2)) %[%[none|rfl],ah.upd a1,aa|rfl] (λ_ _ _ H9 I=>I.2.1 _ _ ai) ?_ ?_
    .intro j vs G H9 M %[%[o1|rfl],sm,l|rfl];have tu:=sm _ _ (a2 _ (Yd M));lk;refine%[_,SqT.of tu,_,ρ|CK.mk M l (by rw[Z6,Yl];exact aD ⋯) %[%[_|ρ],ah.set sm a1,aa|by rw[Xc,Z4 M,Zd];rfl]]
    .intro vs G H9 %[_,b0,l|rfl];rw[Zn (Zi _)]at l;have a4:=s8.trans b0;refine%[F2,a3.map (·.2.2.2),_,ρ,ρ,SqL.of (by rw[Ys];exact l)|λhi b1=>k7 _ _ (aB λD8 k8 _=>?_)];lk;have L1:Lo qs lk x lo:=by
      rcases bm with⟨h0,rfl⟩|⟨J,L⟩
      .exact%[.inl rfl|λn d' y hy hu=>by have:=(um y).mpr %[n,d',hy|hu];rw[h0]at this;cases this]
      .exact%[.inr ((um lo).mp J)|λn d' y hy hu=>L y ((um y).mpr %[n,d',hy|hu])]
     have L2:Hi qs lk x hi:=by
      rcases b1 with⟨h0,rfl⟩|⟨J,L⟩
      .exact%[.inl rfl|λn d' y hy hu=>by have:=(vm y).mpr %[n,d',hy|hu];rw[h0]at this;cases this]
      .exact%[.inr ((vm hi).mp J)|λn d' y hy hu=>L y ((vm y).mpr %[n,d',hy|hu])]
     refine%[#[2]|λp hp=>?_];have sp:=ah.upd (o:= .tup [.int lo,.int hi]) hp;have gp:upd H9 p (.tup [.int lo,.int hi]) p=_:=aa;have sA:=(C.trans a4).trans sp;have b2:p≠e:=λc=>by have:=(C.trans a4) _ _ he;rw[<-c,hp]at this;cases this
     generalize upd H9 p (.tup [.int lo,.int hi])=a5 at sp gp sA
     have xn:x∉bs\1:=λc=>by
      rw[be]at c;have%[j|M]:=Xi c;have jl:=(Xo M).1;rw[Yl]at jl;rw[Yc ⋯]at M;have:=iL v.nd M hx
      lia
     have bl:=congrArg List.length be;rw[Z6,Yl]at bl;have nl:=_ST.nodup_sub v.nd λx hx=>((v.mem x).mp hx).1
     have keep:∀b z,u b&&&z->upd a5 e (.dK (gD (bs++[(x,p,[lo,hi])]))) b&&&z:=λb z h=>by
      rw[ao (λc=>by rw[c,he]at h;cases h)];exact sA _ _ h
     refine%[_,eT.k (k:=Sum.inr x) (sA _ _ he) (by unfold gD;rw[Z6];exact aD ⋯)|?_];rw[dh _ (jz xn)];show D8.nx _ (upd a5 e (.dK (gD bs++[(Sum.inr x,V.ref p)])));rw[show gD bs++[(Sum.inr x,V.ref p)]=gD (bs++[(x,p,[lo,hi])]) by unfold gD;rw[Zd];rfl];refine k8 _ _ %[%[_,_,_|rfl],(λb o h q=>by rw[ao h];exact sA _ _ (B b o h q)),_,aa,λb hb=>?_|?_]
     .rcases Xp hb with q|q
      .exact(ba.up keep) b q
      .rw[Xq q];exact%[lo,hi,ρ,by rw[ao b2];exact gp,L1|L2]
     .rw[Zd,be,Xc,hx];rfl
  .intro G u %[%[o5,o6,o7|rfl],B,bs,he,ba|be];rw[Zn (Zi _)]at be;refine k5 _ _ ?_;lk;exact kk e u ae bs (λb o h=>B b o (aw h fe) ((ac.trans s5) _ _ h)) fe he ba (by rw[be];exact v.nd) v (λx=>by rw[be])
inductive sI (mg:ZC)
 | mk (g:Addr) (qs:ZN) (ls:ZB) (ts:ZG) (lk:List ZB):vs=[.ref g]->iI mg H g qs ls ts lk-> ~~~qs<=60->(∀d H' ns (bs:Gs Int) o,ah H H'->H' d∣.frz o (.dK (gD bs))->AO H' qs lk bs->(bs\1).Nodup->sk (a9 qs) ls ns->(∀x,x∈bs\1↔x∈ns)->Q (.ref d) H')->sI mg vs H Q E0
def Dd(T:Txt K mg):Cal P w K mg base 8 "bounds" ["ground"] (sI mg):=
 (AQ T).freeze.imp λvs H Q E ⟨g,qs,ls,ts,lk,a,f,i,j⟩=>%[g,qs,ls,ts,lk,a,f,i|λd y l bs m n p q nd r s=>%[[d]|λu=>j d _ l bs (u d) (λc o e=>(iW (λh=>by rw[Xq h,n]at e;cases e)).trans (m _ _ e)) (jt Zm p) (q.up λb z e=>(eD λv c=>by rw[e]at c;cases c).trans e) nd r s]]
abbrev Cls(qs:ZN)(lk:List ZB)(i j:Nat):Prop:=∃d x y z,YS qs "since" i d y/\YS qs "by" j x z/\Up lk x d/\y>z
abbrev PrN(H:Hp)(ps:List (Addr×Nat×Nat)):Prop:=∀t∈ps,H t.1&&&[.int t.2.1,.int t.2.2]
inductive De (mg:ZC)
 | mk (g:Addr) (qs:ZN) (ls:ZB) (ts:ZG) (lk:List ZB):vs=[.ref g]->iI mg H g qs ls ts lk-> ~~~qs<=60->(∀l H' (ps:List (Addr×Nat×Nat)),ah H H'->H' l∣.lst (ps\0)->PrN H' ps->(∀i j,(i,j)∈ps\2↔Cls qs lk i j)-> ~~~ps<=3600->Q (.ref l) H')->De mg vs H Q E0
def mr(T:Txt K mg):Cal P w K mg base 8 "clashing_pairs" ["ground"] (De mg):=by
 .exists T.bn,bv,ba,U,%[g,qs,ls,ts,lk,rfl,ak,ql|kk];have hg:=ak.gr;refine%[_,%["JCG1F]BA0BCG2F~UA0AWBCG3UBCRSF~UA0AWBiN~P4qrNK5N~P6qrdDa~e~f3Aec?1SF]CA2A1A5BX0?2vM+Q2L0~vjAQ1AL0][BBDH3",bv.nd,↑(["said","number","year"],[(1,4),(2,6)]),↑["said","number","year"]|U]|?_]
  show aU _ _ _ [!g,none,none,none,none,none,none] H;refine am λD1 k1 _=>?_
  lk;refine%[g,qs,ls,ts,ρ,hg,ak.all|λd H1 rs bb ns s1 a0 hn v rn=>k1 _ _ (am λD2 k2 _=>?_)];have v:=v.same (a0.mm ak.li);lk;refine%[g,_,qs,ls,ts,ρ,hg.up s1,.inr rfl,ql|λl2 H2 zs s2 bc m za zm zl=>k2 _ _ (am λD3 k3 _=>?_)];have ag:=s1.trans s2;lk;refine%[Xh _|λL hL=>k3 _ _ (am λD4 k4 _=>az λa6 hK=>?_)];have sL:=ah.upd (o:= .lst []) hL;have gL:upd H2 L (.lst []) L=_:=aa;have v:=(v.up s2).up sL;have a1:l2≠L:=λc=>by rw[c,hL]at m;cases m
  have m:=sL _ _ m;have za:=za.up sL;have fL:=ag.free hL;have Y:=ag.trans sL
  generalize upd H2 L (.lst [])=H3 at sL gL v m za Y
  lk;refine%[g,_,qs,ls,ts,ρ,hg.up Y,.inl rfl,ql|λl1 H4 ys s4 ai al ya ym yl=>%[l1,ρ,%[_|SqL.of al]|hK _ _ ?_]];have a2:l1≠L:=λc=>by rw[c,gL]at ai;cases ai
  have gL:=s4 _ _ gL;have v:=v.up s4;have m:=s4 _ _ m;have za:=za.up s4;refine br (us:=ys) (f:=λt=>V.ref t.1) (λi J B=>(∃o4 o5 o6,J=[!g,!d,!l2,!L,o4,o5,o6])/\c8 L H4 B/\∃ps:List (Addr×Nat×Nat),B L∣.lst (ps\0)/\PrN B ps/\ ~~~ps<=60*i/\∀a b,(a,b)∈ps\2↔∃t∈ys.take i,t.2.1=a/\∃u∈zs,u.2.1=b/\Up lk u.2.2.1 t.2.2.1/\t.2.2.2>u.2.2.2)
   %[%[_,_,_|rfl],(λ_ _ _ h=>h),[],gL,(λ_ h=>nomatch h),Zi _|by simp] (λi J B ab=>ab.2.1 _ _ a2 al) ?_ ?_
  .intro i x J B hx %[%[o4,o5,o6|rfl],sx,ps,C,pa,pl|pm];have fX:∀{c o},H4 c∣o->(∀xs,o≠ .lst xs)->B c∣o:=λ{c o} h q=>sx c o (λz=>by rw[z,gL]at h;exact q _ (Za h).symm) h
   have xm:=Z8 hx;have tx:=fX (ya x xm) (λ_=>nofun);have a3:ReF B lk d rs:=%[v.at_.imp λo h=>fX h (λ_=>nofun),v.nd|λr U=>%[(v.in_ r U).1.imp λo h=>fX h (λ_=>nofun)|(v.in_ r U).2]]
   have an:jQ B zs:=λt n=>fX (za t n) (λ_=>nofun)
   have rx:x.2.2.1∈rs\1:=(rn _).mpr (((ym _ _ _).mp (Xs %[x,xm|rfl])).in_ hg hn);refine%[_,SqT.of tx,ρ,_,_,ρ,_,_,ρ,_,_,ρ,ρ|?_];show jG _ _ [!g,!d,!l2,!L,some (.int x.2.1),some (.str x.2.2.1),some (.int x.2.2.2)] B;refine aB λD5 k5 _=>?_
   lk;refine%[tyL (SqL.of C)|?_];refine aG λa4 a5=>?_
   lk;refine%[l2,d,_,lk,rs,zs,ρ,sx _ _ a1 m,an,a3,rx,(λt n=>(rn _).mpr (((zm _ _ _).mp (Xs %[t,n|ρ])).in_ hg hn)),zl|λr H5 s5 fr ac=>%[r,ρ,%[_|SqL.of ac]|a5 _ _ λF hF=>?_]];have ul:=jj (p:=λt=>if true=true then upB lk t.2.2.1 x.2.2.1 else upB lk x.2.2.1 t.2.2.1) (j:= ~~~zs) zl;rw[Xf,Z6]at ul;have um:∀u,u∈(zs.filter λt=>if true=true then upB lk t.2.2.1 x.2.2.1 else upB lk x.2.2.1 t.2.2.1)↔u∈zs/\Up lk u.2.2.1 x.2.2.1:=λu=>by
    rw[List.mem_filter];exact and_congr_right λ_=>iw
   generalize (zs.filter λt=>if true=true then upB lk t.2.2.1 x.2.2.1 else upB lk x.2.2.1 t.2.2.1)=us at ac um ul
   have ua:jQ H5 us:=λt n=>s5 _ _ (an t ((um t).mp n).1)
   refine ce (λj vs J M=>(∃o1,J=[o1,some (.int x.2.1),some (.int x.2.2.2)])/\ah H5 M/\M F<*vs/\∃l:List (Addr×Nat×Nat),vs=l\0/\PrN M l/\ ~~~l<=j/\l\2=((us.take j).filter λu=>decide (u.2.2.2<x.2.2.2)).map λu=>(x.2.1,u.2.1))
    %[%[none|rfl],ah.upd hF,aa,[],rfl,(λ_ h=>nomatch h),Zi _|rfl] (λ_ _ _ M ab=>ab.2.1 _ _ ac) ?_ ?_
   .intro j vs J M hj %[%[o1|rfl],sm,G,l,rfl,ra,rl|rm];have tu:=sm _ _ (ua _ (Yd hj));lk;refine%[_,SqT.of tu,_,ρ,_,ρ|bJ (λc=>%[_,SqT.of tu,_,ρ,#[2]|λp hp=>?_]) λc=>CN.mk hj %[%[_|ρ],sm,G,l,ρ,ra,⋯|?_]]
    .have sp:=ah.upd (o:= .tup [.int x.2.1,.int us[j].2.1]) hp;have gp:upd M p (.tup [.int x.2.1,.int us[j].2.1]) p=_:=aa
     generalize upd M p (.tup [.int x.2.1,.int us[j].2.1])=H7 at sp gp ⊢
     refine CK.mk hj (sp _ _ G) (by rw[Z6];exact aD ⋯) %[%[_|rfl],ah.set (sm.trans sp) hF,aa,l++[(p,x.2.1,us[j].2.1)],by rw[Zd];rfl,λt n=>?_,by rw[Z9];exact Xb rl|?_]
     .refine io (sp _ _ G) _ _ ?_;rcases Xp n with q|q
      .exact sp _ _ (ra t q)
      .rw[Xq q];exact gp
     .rw[eQ hj,if_pos c,Zd,Zd,rm];rfl
    .rw[eQ hj,if_neg c,Zx,rm]
   .intro vs J M %[_,sm,G,l,rfl,ra,rl|rm];rw[Zn (Zi _)]at rm;have ae:=s5.trans sm;have as:=ae _ _ C;have be:F≠L:=λc=>by rw[c,s5 _ _ C]at hF;cases hF
    refine%[F,ρ,_,as,_,G,by rw[Z6,Z6,PySem.sizeLine_eq];have:=(Xo hx).1;lia|k5 _ _ %[%[_,_,_|ρ],(λb o h q=>by rw[ao h];exact ae _ _ (sx b o h q)),ps++l,by rw[aa,Zd],λt n=>?_,by rw[Z9];lia|λa b=>?_]]
    .refine io as _ _ ?_;rcases Xp n with q|q
     .exact ae _ _ (pa t q)
     .exact ra t q
    .rw[Zd,Yt,pm,rm,Xc,hx];show _↔∃t∈ys.take i++[x],_
     constructor
     .rintro(⟨t,n,h⟩|h)
      .exact%[t,Yu _ n|h]
      .have%[u,N|e]:=Xr h;have%[I|O]:=List.mem_filter.mp N;cases e;exact%[x,Yv _ Zm,ρ,u,((um u).mp I).1,ρ,((um u).mp I).2|Zo O]
     .rintro⟨t,n,rfl,u,N,rfl,I,O⟩;rcases Xp n with q|q
      .exact .inl %[t,q,rfl,u,N,rfl,I|O]
      .obtain rfl:=Xq q;exact .inr (Xs %[u,List.mem_filter.mpr %[(um u).mpr %[N|I]|Zf O]|rfl])
  .intro J B %[%[o4,o5,o6|rfl],sx,ps,C,pa,pl|pm];rw[Zn (Zi _)]at pm;refine k4 _ _ ?_;lk;refine kk L B ps (λb o h=>sx b o (aw h fL) ((Y.trans s4) _ _ h)) C pa (λi j=>(pm i j).trans ?_) ⋯
   constructor
   .rintro⟨t,n,rfl,u,N,rfl,I,O⟩;exact%[_,_,_,_,(ym _ _ _).mp (Xs %[t,n|ρ]),(zm _ _ _).mp (Xs %[u,N|ρ]),I|O]
   .rintro⟨d',x,y,z,I,O,h3,h4⟩;have%[t,n|e1]:=Xr ((ym _ _ _).mpr I);have%[u,N|e2]:=Xr ((zm _ _ _).mpr O);exact%[t,n,by rw[e1],u,N,by rw[e2],by rw[e1,e2];exact h3|by rw[e1,e2];exact h4]
def fY{H:Hp}{ls:ZB}{qs:ZN}{q:Addr×ZM}{c a:Str}{y:Int}(d:bp H ls qs)(m:q∈qs)(b:q.2=[.str c,.str a,.int y]):H q.1&&&[.str c,.str a,.int y]/\a∈ls/\ -9999<=y/\y<=9999:=by
 have%[h|ok]:=d q m;rw[b]at h;rcases ok with⟨f,x,z,e,_⟩|⟨f,x,z,e,_,g,i⟩
 .rw[e]at b;cases b
 .rw[e]at b;cases b;exact%[h,g|i]
inductive wu (mg:ZC)
 | mk (g:Addr) (qs:ZN) (ls:ZB) (ts:ZG) (lk:List ZB):vs=[.ref g]->iI mg H g qs ls ts lk-> ~~~qs<=60->(∀H',ah H H'->(∀i j,¬ Cls qs lk i j)->Q .non H')->(∀(t l:Addr) H' (i j:Nat) (ws:ZG) d x y z,ah H H'->H' t&&&[.int i,.int j,.ref l]->H' l∣.lst (ws\0)->aK H' ws->(∀t∈ws,t.2∈lk)->Wal (ws\2) x d-> ~~~ws<=200->YS qs "since" i d y->YS qs "by" j x z->Up lk x d->y>z->Q (.ref t) H')->wu mg vs H Q E0
def Fi(T:Txt K mg):Cal P w K mg base 9 "clash" ["ground"] (wu mg):=by
 .exists T.bo,i8,ae,I,%[g,qs,ls,ts,lk,rfl,J,ql,kn|ky];have hg:=J.gr;refine%[_,%["JCG1F]0A0BCOMZghA1BEDH.PCG2LT1EECG3LT1EECG4=~o0DHjA2A3AF]1A0ALT43EALT42EBB",i8.nd|I]|?_]
  show aU _ _ _ [!g,none,none,none,none] H;refine am λD1 k1 _=>?_
  lk;refine%[g,qs,ls,ts,lk,ρ,J,ql|λl L ps M n v u pl=>k1 _ _ (am λD2 k2 r2=>?_)];lk;refine%[_,.inl %[_,SqL.of n|ρ]|?_];rw[Z6]
  match ps,v,u,n with
  |[],v,u,n=>
   rw[if_pos ∅];exact r2 _ _ (kn L M λi j c=>nomatch (u i j).mpr c)
  | p::ps,v,u,n=>
    rw[if_neg (by simp;lia)];have gp:=v p Zm;have B:atI ((p::ps)\0) ((0:Nat):Int)∣V.ref p.1:=b7 rfl;have%[d,x,y,z,h1,h2,h3|h4]:=(u p.2.1 p.2.2).mp Zm;have%[q1,a1,N,C|l1]:=h1;have%[q2,a2,O,G|l2]:=h2;clear u v pl;refine k2 _ _ (am λD3 k3 _=>?_);lk;refine%[_,SqL.of n,_,B,_,ρ,_,SqT.of gp,_,ρ|k3 _ _ (am λD4 k4 _=>?_)];lk;refine%[_,SqL.of n,_,B,_,ρ,_,SqT.of gp,_,ρ|k4 _ _ (am λD5 k5 _=>?_)];have%[c2,c3,c4|U]:=(hg.up M).gr;lk;refine j8 U (.inr (.inl rfl)) %[g,c2,c3,c4,qs,ls,ts,rfl,U|λr fr=>k5 _ _ ?_];have Y:=ah.upd (o:= .lst (qs\0)) fr;have a:upd L r (.lst (qs\0)) r=_:=aa;have sa:=(U.up Y).sa;have m:=M.trans Y
    generalize upd L r (.lst (qs\0))=H2 at Y a sa m
    lk;have%[t1,i1|_]:=fY sa (Z8 N) C;have%[t2,i2|_]:=fY sa (Z8 O) G;refine%[_,SqL.of a,_,b7 (by rw[Zl,O];rfl),_,ρ,_,SqT.of t2,_,ρ,_,SqL.of a,_,b7 (by rw[Zl,N];rfl),_,ρ,_,SqT.of t1,_,ρ,g,qs,ls,ts,lk,a2,a1,x,d,ρ,J.up m,i2,i1,l2,l1,h3|λl' H3 ws s3 ab tu sub ac wl=>%[#[3]|λt ht=>?_]];have sp:=ah.upd (o:= .tup [.int p.2.1,.int p.2.2,.ref l']) ht;exact ky t l' _ _ _ ws d x y z (m.trans (s3.trans sp)) aa (sp _ _ ab) (aE tu λb z e=>sp _ _ e) sub ac wl %[q1,a1,N,C|l1] %[q2,a2,O,G|l2] h3 h4
def Hu{h:Str->V}{z:Str}{v:V}{ls:ZB}(a:z∉ls):b8 (ls.map λz=>((Sum.inr z:Key),h z)) (Sum.inr z) v=(ls.map λz=>((Sum.inr z:Key),h z)) ++[(Sum.inr z,v)]:=by
 unfold b8;rw[if_neg];rw[any_eq_true];rintro⟨e,b,c⟩;have%[x,d|rfl]:=Xr b;exact a (Sum.inr.inj (Zo c)▸d)
def zf{h:Str->V}:∀{ms ls:ZB},(ls++ms).Nodup->(ms.map λz=>((Sum.inr z:Key),h z)).foldl (λacc a=>b8 acc a.1 a.2) (ls.map λz=>((Sum.inr z:Key),h z))=(ls++ms).map λz=>((Sum.inr z:Key),h z)
 |[],ls,_=>by simp
 | m::ms,ls,nd=>by
   have nm:m∉ls:=λq=>(nodup_append.mp nd).2.2 m q m Zm rfl
   rw[Yq,Y9,Hu nm,show(ls.map λz=>((Sum.inr z:Key),h z)) ++[(Sum.inr m,h m)]=(ls++[m]).map λz=>((Sum.inr z:Key),h z) by simp,zf ↑nd];simp
def Df{h:Str->V}{ls:ZB}(nd:ls.Nodup){ps:List (Addr×Str×V)}(e:ps\2=ls.map λz=>(z,h z)):kM ps=ls.map λz=>((Sum.inr z:Key),h z):=by
 have a:=congrArg (List.map λq:Str×V=>((Sum.inr q.1:Key),q.2)) e;rw[Ys,Ys]at a;rw[show kM ps=(ps.map ((λq:Str×V=>((Sum.inr q.1:Key),q.2)) ∘ (·.2))).foldl (λacc b=>b8 acc b.1 b.2) [] by rw[List.foldl_map];rfl,a];exact zf (ls:=[]) ↑nd
def Dg{d:Type}{g:Str×d->Int}:∀{bs:List (Str×d)},(bs\1).Nodup->∃f:Str->Int,∀b∈bs,f b.1=g b
 |[],_=>%[λ_=>0|λ_ h=>nomatch h]
 | b::bs,nd=>by
   rw[Yq,nodup_cons]at nd;have%[f|i]:=Dg (g:=g) nd.2;refine%[λx=>if x=b.1 then g b else f x|λc a=>?_];rcases mem_cons.mp a with rfl|a
   .exact if_pos rfl
   .show(if c.1=b.1 then g b else f c.1)=_;rw[if_neg (λe:c.1=b.1=>nd.1 (e▸Xs %[c,a|rfl]))];exact i c a
section
variable{qs:ZN}{lk:List ZB}{x y z:Str}{m n:Int}
def Up.trans(h:Up lk x y)(g:Up lk y z):Up lk x z:=by
 rcases h with rfl|h
 .exact g
 .rcases g with rfl|g
  .exact .inr h
  .exact .inr (h.trans g)
def YS.rg{H:Hp}{ls:ZB}(b:bp H ls qs){c d:Str}{i:Nat}{v:Int}(h:YS qs c i d v): -9999<=v/\v<=9999:=by
 have%[q,a,e,f|_]:=h;exact(fY b (Z8 e) f).2.2
def Lo.rg{H:Hp}{ls:ZB}(a:bp H ls qs)(h:Lo qs lk x m): -9999<=m/\m<=9999:=by
 rcases h.1 with rfl|⟨_,_,q,_⟩
 .lia
 .exact q.rg a
def Hi.rg{H:Hp}{ls:ZB}(a:bp H ls qs)(h:Hi qs lk x m): -9999<=m/\m<=9999:=by
 rcases h.1 with rfl|⟨_,_,q,_⟩
 .lia
 .exact q.rg a
def Lo.mono{H:Hp}{ls:ZB}(a:bp H ls qs)(h:Lo qs lk x m)(g:Lo qs lk y n)(u:Up lk x y):n<=m:=by
 rcases g.1 with rfl|⟨_,_,q,v⟩
 .exact(h.rg a).1
 .exact h.2 _ _ _ q (u.trans v)
def Hi.mono{H:Hp}{ls:ZB}(a:bp H ls qs)(h:Hi qs lk x m)(g:Hi qs lk y n)(u:Up lk x y):n<=m:=by
 rcases h.1 with rfl|⟨_,_,q,v⟩
 .exact(g.rg a).2
 .exact g.2 _ _ _ q (v.trans u)
def wv(a:∀i j,¬ Cls qs lk i j){i j:Nat}{d u:Str}(h:YS qs "since" i d m)(g:YS qs "by" j u n)(up:Up lk u d):m<=n:=by
 have:=a i j;exact Int.not_lt.mp λc=>this %[_,_,_,_,h,g,up|c]
def Lo.le_by{H:Hp}{ls:ZB}(a:bp H ls qs)(b:∀i j,¬ Cls qs lk i j)(h:Lo qs lk x m){j:Nat}{u:Str}(g:YS qs "by" j u n)(up:Up lk u x):m<=n:=by
 rcases h.1 with rfl|⟨_,_,q,v⟩
 .exact(g.rg a).1
 .exact wv b q g (up.trans v)
def Hi.since_le{H:Hp}{ls:ZB}(a:bp H ls qs)(b:∀i j,¬ Cls qs lk i j)(h:Hi qs lk x m){j:Nat}{u:Str}(g:YS qs "since" j u n)(up:Up lk x u):n<=m:=by
 rcases h.1 with rfl|⟨_,_,q,v⟩
 .exact(g.rg a).2
 .exact wv b g q (v.trans up)
def Lo.le_hi{H:Hp}{ls:ZB}(a:bp H ls qs)(b:∀i j,¬ Cls qs lk i j)(h:Lo qs lk x m)(g:Hi qs lk x n):m<=n:=by
 rcases g.1 with rfl|⟨_,_,q,v⟩
 .exact(h.rg a).2
 .exact h.le_by a b q v
end
inductive pX
 | mk (l m:Addr) (a b:Str) (ws ss:ZG):vs=[.ref l,.ref m,.str a,.str b]->H l∣.lst (ws\0)->aK H ws->H m∣.lst (ss\0)->aK H ss->(∀t∈ws,t.2∈ss\2)->Wal (ws\2) a b-> ~~~ws<=200->(∀H',ah H H'->Q (.bl true) H')->pX vs H Q E0
def Dh{b:Str}{us:List ZB}{i:Nat}{k:ZB}{x:Str}(a:us[i]?∣k)(h:Wal (us.drop i) x b):∃y z,k=[x,y,z]/\Wal (us.drop (i+1)) y b:=by
 rw[Zy (Xo a).1]at h;have%[c,z,e|h]:=h;rw[(Xo a).2]at e;exact%[c,z,e|h]
def pY(T:Txt K mg):Cal P w K mg base 1 "_law_is_chain" ["_law_found","_law_laid","_law_one","_law_other"] pX:=by
 .exists T.bJ,bZ,a0,hr,%[l,m,a,b,ws,ss,rfl,u,hw,hm,hs,sub,ab,wl|kk];refine%[_,%["JCOnwpfz!A0A?1B%M}ec?2S0X0?3vM]20Q10UBDHkPCOM}ec?4S0X0?5vpfz!A0A?6B0UBDHkPCG42CRS0iNK5NK6NK7dCOMu54DHkPDG46DHmZ43",bZ.nd,(blE (v:= .ty "list") rfl T.a5 boot_list rfl rfl rfl),↑(["_law_link","_law_laid"],[(1,1)]),↑["_law_link","_law_laid"],↑(["_law_link"],[]),↑["_law_link"],(blE (v:= .ty "tuple") rfl T.ag boot_tuple rfl rfl rfl)|hr]|?_]
  show aU _ _ _ [!l,!m,-a,-b,none,none,none,none] H;refine am λD1 k1 r1=>?_
  lk;refine%[_,.lst u,true,ρ|?_];refine p9 ?_;refine aG λas hK=>?_
  lk;refine%[%[_|SqL.of u]|hK _ _ λE2 ac=>?_];refine ce (λj vs d c=>(∃B,d=[B,!m])/\ah H c/\c E2<*vs/\vs=[])
   %[%[none|rfl],ah.upd ac,aa|rfl] (λ_ _ _ c g=>g.2.1 _ _ u) ?_ ?_
  .intro j vs d H2 C %[%[B|rfl],n,q|rfl];lk;have G:=Yd C;exact%[_,_,ws[j].2,ss,ρ,ρ,n _ _ (hw _ G).2,n _ _ hm,(λt N=>n _ _ (hs t N).2),sub _ G,false,ρ|p9 (CN.mk C %[%[_|ρ],n,q|ρ])]
  intro vs d H1 %[_,s1,ae|rfl];refine%[Xh _|λp I=>%[E2,ρ,[],ah.upd I _ _ ae,aa|?_]];rw[if_neg ∅];have O:=s1.trans (ah.upd (o:= .lst []) I)
  generalize upd H1 p (.lst [])=H2 at O
  refine k1 _ _ (am λD2 k2 r2=>?_);lk;refine aG λag ai=>?_
  lk;have J:=O _ _ u;refine%[%[_|SqL.of J]|ai _ _ λE3 r=>?_];refine ce (λj vs d c=>(∃B,d=[B])/\ah H2 c/\c E3<*vs/\vs=[])
   %[%[none|rfl],ah.upd r,aa|rfl] (λ_ _ _ c g=>g.2.1 _ _ J) ?_ ?_
  .intro j vs d H3 C %[%[B|rfl],n,q|rfl];lk;exact%[_,.tup ((O.trans n) _ _ (hw _ (Yd C)).2),true,ρ|p9 (CN.mk C %[%[_|ρ],n,q|ρ])]
  intro vs d H3 %[_,s3,r|rfl];refine%[Xh _|λp I=>%[E3,ρ,[],ah.upd I _ _ r,aa|?_]];rw[if_neg ∅];have U:=(O.trans s3).trans (ah.upd (o:= .lst []) I)
  generalize upd H3 p (.lst [])=H4 at U
  refine k2 _ _ (am λD3 k3 r3=>?_);lk;refine k3 _ _ (am λD4 k4 r4=>az λak al=>?_);lk;have L:=U _ _ u;refine%[%[_|SqL.of L]|al _ _ ?_];refine br (us:=ws) (f:=λt=>V.ref t.1) (λi d c=>c=H4/\∃(x:Str) (o5 o6 o7:Option V),d=[!l,!m,-a,-b,-x,o5,o6,o7]/\Wal ((ws.map λt:Addr×ZB=>t.2).drop i) x b) %[rfl,a,_,_,_,rfl|ab] (λi d c h=>h.1▸L) ?_ ?_
  .intro i t d c N %[e,x,o5,o6,o7,rfl|Y];subst e;have%[y,z,et|an]:=Dh (k:=t.2) (by rw[Zl,N];rfl) Y;have M:=U _ _ (hw t (Z8 N)).2;rw[et]at M;refine%[_,SqT.of M,ρ,_,_,ρ,_,_,ρ,_,_,ρ,ρ|?_];show aU _ _ _ [!l,!m,-a,-b,-x,-x,-y,-z] c;refine am λD5 k5 r5=>?_
   lk;rw[if_neg ∅];refine k5 _ _ ?_;lk;exact an
  .intro d c %[e,x,o5,o6,o7,rfl|Y];subst e;rw[List.drop_of_length_le (by rw[Z6];exact Zi _)]at Y;obtain rfl:x=b:=Y;refine k4 _ _ ?_;lk;rw[Zf trivial];exact kk _ U
inductive zg
 | mk (d m h l:Addr) (o:Obj) (L ms:ZB) (fy:Str->Int) (hm:Str->Str) (qs:ZN) (ss:ZG):vs=[.ref d,.ref m,.ref h,.ref l]->H d∣.frz o (.dK (VD L λx=> .int (fy x)))-> ~~~L<=63->H m∣.lst (qs\0)->bp H ms qs->H h∣.dK (NmD ms hm)->(∀z∈ms,hm z∈L)->H l∣.lst (ss\0)->cT H L ss->(∀x y,Ed (ss\2) x y->fy y<=fy x)->(∀q∈qs,∀a y,q.2=[.str "since",.str a,.int y]->y<=fy (hm a))->(∀q∈qs,∀a y,q.2=[.str "by",.str a,.int y]->fy (hm a)<=y)->(∀x∈L,-9999<=fy x/\fy x<=9999)->(∀H',ah H H'->Q (.bl true) H')->zg vs H Q E0
def kf(T:Txt K mg):Cal P w K mg base 1 "_law_fits" ["_law_years_here","_law_sayings","_law_homes_here","_law_laid"] zg:=by
 .exists T.bK,d5,a0,C,%[d,m,h,l,o,L,ms,u,hm,qs,ss,rfl,hd,Ll,ab,sa,hh,ac,hl,la,f1,f2,f3,f4|kk];refine%[_,(QSs.h (aj (bR PassesOwn.never rfl rfl (cc (K:=K) rfl ↑3) (eC (K:=K) rfl rfl rfl (gsE rfl (aI 4 d5.nd rfl) (gsE rfl (aI 5 d5.nd rfl) (gsE rfl (aI 6 d5.nd rfl) cC))))
   (ar (ifS (bh zR rfl (a7 C (λ_ _=>rfl) (bK 0 rfl) ↑4) (a7 C (λ_ _=>rfl) (bK 0 rfl) ↑5))
    (ar (aL eBl))
    aR)))
   (aj (bR PassesOwn.never rfl rfl (cc (K:=K) rfl ↑1) (aI 7 d5.nd rfl)
   (aj (ifS (wT (tH (bh cb rfl (↑7>>ay) cE) (kz (bh zR rfl (a7 C (λ_ _=>rfl) (bK 0 rfl) (a7 C (λ_ _=>rfl) ↑2 (↑7>>ay))) (↑7>>ay)))))
    (ar (aL eBl))
    aR)
    (ar (ifS (wT (tH (bh cb rfl (↑7>>ay) cE) (kz (bh qb rfl (a7 C (λ_ _=>rfl) (bK 0 rfl) (a7 C (λ_ _=>rfl) ↑2 (↑7>>ay))) (↑7>>ay)))))
    (ar (aL eBl))
    aR))))
   (ar (aL (iJ (FB C) rfl (cX (aC.of ↑(["_law_deposit","_law_years_here"],[(1,0)])) rfl rfl (yA (bK 0 rfl)) (λ_ _ _=>(aI 0 ↑["_law_deposit","_law_years_here"] rfl)) (λ_ _ _=>(eY (bh qb rfl (cbO ⟨Be⟩ T.ak boot_abs rfl #[(a7 C (λ_ _=>rfl) (bK 1 rfl) ↑0)]) ay))) (λ_ _ _=>↑0)) (cn aq)))))))|?_]
  show aU _ _ _ [!d,!m,!h,!l,none,none,none,none] H;have get:∀x∈L,bQ H d (.str x) (some (.int (u x))):=λx hx=> .inl %[_,Sum.inr x,.inr %[o|hd],rfl|(gC (g:=λx=>V.int (u x)) hx).symm]
  refine am λD1 k1 r1=>az λas hK=>?_
  lk;refine%[%[_|SqL.of hl]|hK _ _ ?_];refine br (us:=ss) (f:=λt=>V.ref t.1) (λi c j=>j=H/\∃(G I M N:Option V),c=[!d,!m,!h,!l,G,I,M,N]) %[rfl,_,_,_,_|rfl] (λi c j h=>h.1▸hl) ?_ ?_
  .intro i t c j ht %[rfl,G,I,M,N|rfl];have tm:=Z8 ht;have%[ae,x,y,z,et,hx|hy]:=la t tm;rw[et]at ae;have:=f1 x y %[z|Xs %[t,tm|et]];refine%[_,SqT.of ae,ρ,_,_,ρ,_,_,ρ,_,_,ρ,ρ|?_];show jB _ _ _ _ [!d,!m,!h,!l,-x,-y,-z,N] j;lk;refine%[_,get x hx,_,get y hy,_,ρ,_,ρ|?_];rw[if_neg (by simp;lia)];exact%[_|ρ]
  .intro c j %[rfl,G,I,M,N|rfl];refine k1 _ _ (am λD2 k2 r2=>az λag ai=>?_);lk;refine%[%[_|SqL.of ab]|ai _ _ ?_];refine br (us:=qs) (f:=λt=>V.ref t.1) (λi c Y=>Y=j/\∃(G I M N:Option V),c=[!d,!m,!h,!l,G,I,M,N]) %[rfl,_,_,_,_|rfl] (λi c Y h=>h.1▸ab) ?_ ?_
   .intro i q c Y hq %[rfl,G,I,M,N|rfl];have qm:=Z8 hq;have%[r|ok]:=sa q qm;show aU _ _ _ [!d,!m,!h,!l,G,I,M,some (.ref q.1)] Y;refine am λD3 k3 r3=>?_
    lk;rcases ok with⟨w',a,b,e,B,_⟩|⟨w',a,y,e,B,ha,_⟩
    .rw[e]at r;refine%[_,SqT.of r,_,ρ,ρ|?_];rw[if_neg (by rcases B with rfl|rfl<;> decide)];refine k3 _ _ ?_;lk;refine%[_,SqT.of r,_,ρ,ρ|?_];rw[if_neg (by rcases B with rfl|rfl<;> decide)];exact%[_|ρ]
    .have q2:=f2 q qm a y;have q3:=f3 q qm a y;rw[e]at r q2 q3;have gh:=bQ.k (k:=Sum.inr a) hh;rw[fE ha]at gh;rcases B with rfl|rfl
     .refine%[_,SqT.of r,_,ρ,ρ|?_];rw[if_pos (!1)];have:=q2 rfl;refine%[_,SqT.of r,_,ρ,_,gh,_,get _ (ac a ha),_,SqT.of r,_,ρ,_,ρ,_,ρ|?_];rw[if_neg (by simp;lia)];refine k3 _ _ ?_;lk;refine%[_,SqT.of r,_,ρ,ρ|?_];rw[if_neg (!1)];exact%[_|ρ]
     .refine%[_,SqT.of r,_,ρ,ρ|?_];rw[if_neg (!1)];refine k3 _ _ ?_;lk;have:=q3 rfl;refine%[_,SqT.of r,_,ρ,ρ|?_];rw[if_pos (!1)];refine%[_,SqT.of r,_,ρ,_,gh,_,get _ (ac a ha),_,SqT.of r,_,ρ,_,ρ,_,ρ|?_];rw[if_neg (by simp;lia)];exact%[_|ρ]
   .intro c Y %[rfl,G,I,M,N|rfl];refine k2 _ _ ?_;lk;refine aG λak al=>?_
    unfold rF;lk;refine%[_,_,hd|al _ _ λF hF=>?_];have vl: ~~~(VD L λx=>V.int (u x))= ~~~L:=Z6 _;refine c9 (J:=Itk d o (VD L λx=>V.int (u x))) (n:= ~~~(VD L λx=>V.int (u x))) (D:=F) (λi ts c j=>(∃o1,c=[o1,!d])/\ah Y j/\j F<*ts/\ts=[])
     %[%[none|rfl],ah.upd hF,aa|rfl] (λi _ _ j hi O=>%[O.2.1 _ _ hd|hi]) (λ_ _ j O=>%[O.2.1 _ _ hd|Zi _]) ?_ ?_
    .intro i ts c j hi %[%[o1|rfl],sm,U|rfl] x H3 %[e2,k,v,hk|hx];subst e2;have il:i< ~~~L:=by lia
     have an:(VD L λx=>V.int (u x))[i]?∣(Sum.inr L[i],V.int (u L[i])):=by unfold VD;rw[Zl,Z4 il];rfl
     rw[an]at hk;cases hk;obtain rfl:x=V.str L[i]:=hx;have%[b1|b2]:=f4 _ (Yd il);lk;refine%[_,.inl %[_,Sum.inr L[i],.inr %[o|sm _ _ hd],ρ|(gC (g:=λx=>V.int (u x)) (Yd il)).symm],_,ρ|?_];rw[if_neg (by rw[decide_eq_true_iff];split<;> lia)];exact CN.mk hi %[%[_|rfl],sm,U|rfl]
    .intro ts c j %[_,sm,U|rfl];refine%[Xh _|λp hp=>?_];exact%[F,p,[],ρ,ρ,ah.upd hp _ _ U,aa|by rw[Zf rfl];exact kk _ (sm.trans (ah.upd hp))]
inductive sJ
 | mk (t e m h l c:Addr) (i j:Nat) (o:Obj) (ms:ZB) (hm:Str->Str) (qs:ZN) (ws ss:ZG) (bs:Gs Int) (q1 q2:Addr×ZM) (a1 a2:Str) (y z:Int):vs=[.ref t,.ref e,.ref m,.ref h,.ref l]->H t&&&[.int i,.int j,.ref c]->H c∣.lst (ws\0)->aK H ws->H m∣.lst (qs\0)->bp H ms qs->H h∣.dK (NmD ms hm)->H l∣.lst (ss\0)->aK H ss->(∀t∈ws,t.2∈ss\2)-> ~~~ws<=200->qs[i]?∣q1->q1.2=[.str "since",.str a1,.int y]->qs[j]?∣q2->q2.2=[.str "by",.str a2,.int z]->z<y->Wal (ws\2) (hm a2) (hm a1)->H e∣.frz o (.dK (gD bs))->(∀x,x=hm a1\/x=hm a2->∃p lo hi,bF (gD bs) (Sum.inr x)∣.ref p/\H p&&&[.int lo,.int hi]/\hi<lo)->(∀H',ah H H'->Q (.bl true) H')->sJ vs H Q E0
def lK(T:Txt K mg):Cal P w K mg base 2 "_law_clash_right" ["_law_told","_law_ends","_law_sayings","_law_homes_here","_law_laid"] sJ:=by
 .exists T.bL,bD,ai,u,%[t,e,m,h,l,c,i,j,o,ms,n,qs,ws,ss,bs,d,g,M,N,y,z,rfl,O,hc,hw,B,sa,hh,hl,hs,sub,wl,e1,U,e2,Y,zy,ab,he,hb|kk];have%[C,i1|_]:=fY sa (Z8 e1) U;have%[G,i2|_]:=fY sa (Z8 e2) Y;have gh:∀{b:Hp},ah H b->∀a∈ms,bQ b h (.str a) (some (.str (n a))):=λ{b} sm a ha=>by
   have:=bQ.k (k:=Sum.inr a) (sm _ _ hh);rwa[fE ha]at this
  have s0:ah H H:=λ_ _ h=>h
  have ac:atI (qs\0) (i:Int)∣V.ref d.1:=b7 (by rw[Zl,e1];rfl);have ae:atI (qs\0) (j:Int)∣V.ref g.1:=b7 (by rw[Zl,e2];rfl);refine%[_,%["JCG5T2L0ECG6T2L0ECOnwMuL5EWwMuL6EW%M,L5EL6EDHkPCOpfF]3AL0EA4AV3L6EAV3L5EBDHkPCRSUA5A6BK7C~mV1V3L7EiNK8NK9dDOM,89DHkPDHk",bD.nd|u]|?_]
  show aU _ _ _ [!t,!e,!m,!h,!l,none,none,none,none,none] H;refine am λD1 k1 _=>?_
  lk;refine%[_,SqT.of O,_,ρ,_,ρ,_,SqL.of B,_,ac|k1 _ _ (am λD2 k2 _=>?_)];lk;refine%[_,SqT.of O,_,ρ,_,ρ,_,SqL.of B,_,ae|k2 _ _ (am λD3 k3 _=>?_)];lk;refine%[_,SqT.of C,_,ρ,ρ|?_];rw[if_neg (!1)];refine%[_,SqT.of G,_,ρ,ρ|?_];rw[if_neg (!1)];refine%[_,SqT.of C,_,ρ,_,SqT.of G,_,ρ,_,ρ,_,ρ|?_];rw[if_neg (by simp;lia)];refine k3 _ _ (am λD4 k4 _=>?_);lk;refine%[_,SqT.of O,_,ρ,_,SqT.of G,_,ρ,_,gh s0 N i2,_,SqT.of C,_,ρ,_,gh s0 M i1,c,l,_,_,ws,ss,ρ,hc,hw,hl,hs,sub,ab,wl|λH1 s1=>%[true,ρ|p9 (k4 _ _ (am λD5 k5 _=>az λag hK=>?_))]];lk;refine%[#[2]|λF hF=>%[%[_|SqL.of aa]|hK _ _ ?_]];have r:=s1.trans (ah.upd (o:= .lst [.ref d.1,.ref g.1]) hF);have gF:upd H1 F (.lst [.ref d.1,.ref g.1]) F=_:=aa
  generalize upd H1 F (.lst [.ref d.1,.ref g.1])=H2 at r gF
  refine eS (xs:=[V.ref d.1,V.ref g.1]) (λi I b=>b=H2/\∃(o7 J L:Option V),I=[!t,!e,!m,!h,!l,some (.ref d.1),some (.ref g.1),o7,J,L]) %[rfl,_,_,_|rfl] (λi I b _ h=>h.1▸SqL.of gF) ?_ ?_
  .intro k v I b hv %[rfl,o7,J,L|rfl];obtain⟨q,wd,a,yy,rfl,tq,ha,hx⟩:∃(q:Addr) (wd a:Str) (yy:Int),v=V.ref q/\b q&&&[.str wd,.str a,.int yy]/\a∈ms/\(n a=n M\/n a=n N):=by
    have:=Z8 hv;simp only[Yw,X7,or_false]at this;rcases this with rfl|rfl
    .exact%[_,_,_,_,ρ,r _ _ C,i1|.inl rfl]
    .exact%[_,_,_,_,ρ,r _ _ G,i2|.inr rfl]
   have%[p,lo,hi,hv,hp|lt]:=hb _ hx;show aU _ _ _ [!t,!e,!m,!h,!l,some (.ref d.1),some (.ref g.1),!q,J,L] b;refine am λD6 k6 _=>?_
   lk;refine%[_,SqT.of tq,_,ρ,_,gh r a ha,_,.inl %[_,Sum.inr (n a),.inr %[o|r _ _ he],ρ|hv.symm],p,ρ,_,SqT.of (r _ _ hp),ρ,_,_,ρ,_,_,ρ,ρ|k6 _ _ ?_];lk;rw[if_neg (by simp;lia)];exact%[_|ρ]
  .intro I b %[rfl,o7,J,L|rfl];refine k5 _ _ ?_;lk;exact kk _ r
structure mv (mg:ZC) (H:Hp) (g l1 l2:Addr) (cs:ZH) (qs:ZN) (ls:ZB) (ts:ZG):Prop where
 gd:qy H cs qs
 h1:H l1<*cV cs
 h2:H l2∣.lst (qs\0)
 gr:iK mg H g qs ls ts
 pl:ls.Perm (cs.flatMap lyr)
 tm:∀k,k∈ts\2↔k∈cH cs\/k∈cI qs qs.length
inductive ww (mg:ZC)
 | mk (g l1 l2:Addr) (cs:ZH) (qs:ZN) (ls:ZB) (ts:ZG):vs=[.ref g,.ref l1,.ref l2]->mv mg H g l1 l2 cs qs ls ts->(∀H',ah H H'->Q (.bl true) H')->ww mg vs H Q E0
def jk(T:Txt K mg):Cal P w K mg base 10 "_law_holds" ["_law_ground_here","_law_cuts_here","_law_sayings"] (ww mg):=by
 have kf:=λT:Txt K mg=>(kf (P:=P) (w:=w) (base:=base) T).frozen
 refine T.bM.cal db (λH vs Q E h=>?_)
 .have%[ab,l1,l2,cs,qs,ls,ts,rfl,%[L,h1,h2,gr,pl|tm]|kk]:=h;refine%[ρ|λf cM A outer s hr=>?_];have c0:=L.ql;refine%[_,%["JCG3F]4A1A2BCG4F]5A1A2A3BCOfF]6AF]7A4A3BBDHkPC:5qrF]8A0BCG6F]9A0BCOM~s6.DHF`AA6AQ5A2A3A4BPCR&AEB~P7qrDOpfF`BA`C`DAec?1~uQ5X0?2yjA0ALVQ20Q1BBA2A3A4BDHkPDHm`Eec?3~uQ5X0?4vM+LVQ10ELVQ10E0UB",db.nd,↑(["_law_deposit","_law_at","_law_ends"],[(1,7),(2,5)]),↑["_law_deposit","_law_at","_law_ends"],↑(["_law_deposit","_law_ends"],[(1,5)]),↑["_law_deposit","_law_ends"]|hr]|?_]
  show aU _ _ _ [!ab,!l1,!l2,none,none,none,none,none] H;refine am λD2 k2 _=>?_
  lk;refine%[l1,l2,cs,qs,ρ,h1,h2,L.ca,L.sa,L.c3,⋯|λd H2 ms g s2 fd hd nd mem lg=>k2 _ _ (am λD3 k3 _=>?_)];have%[kc,c1|ag]:=wk L.ca L.few;have ml: ~~~ms<=63:=Yg (_ST.nodup_sub nd λz Y=>(mem z).mp Y) L.ly;have b2:bU H2 cs:=λp N=>%[s2 _ _ (L.ca p N).1|(L.ca p N).2]
  have b3:bp H2 (cs.flatMap lyr) qs:=λq hq=>%[s2 _ _ (L.sa q hq).1|(L.sa q hq).2]
  lk;refine%[l1,l2,d,cs,qs,ms,g,kc++cI qs qs.length,ρ,s2 _ _ h1,s2 _ _ h2,b2,b3,L.c3,⋯,hd,mem,lg,?_,λk=>by rw[Yt,ag]|λr H3 ss s3 fr al tu lk tk sl=>k3 _ _ (am λD4 k4 r4=>?_)]
  .have:=length_filterMap_le (λj=>qs[j]?.bind λq=>gA j q.2) (List.range qs.length);rw[Yj]at this;have:=L.c3;rw[Z9];unfold cI
   lia
  have la:=pO tu tk;lk;refine%[r,d,ms,ms,ss,g,ρ,al,la,sl,s3 _ _ hd,ml|λb H4 rs s4 be rk=>?_];have rl: ~~~rs<=63:=by
   have:=_ST.nodup_sub be.nd (m:=ms.map g) λx hx=>Xs ((rk x).mp hx)
   rw[Z6,Z6]at this
   lia
  refine%[b,_,rs,ρ,be,⋯|λH5 v s5 vI=>?_];have ac:=s2.trans (s3.trans (s4.trans s5));refine%[v,ρ|bJ (λ_=>r4 _ _ (kk _ ac)) λhv=>k4 _ _ (am λD6 k6 _=>?_)];have ends:∀x y,Ed (ss\2) x y->x∈rs\1/\y∈rs\1:=λx y ⟨z,Y⟩=>by
   have%[a,b,z',a',b',hm,ha,hb|e]:=(lk.mem _).mp Y;cases e;have%[u,v,w,e,hu|hv]:=zc L.ca L.sa (n:= ~~~qs) (by rw[Yt,ag]at hm;exact hm);cases e;have hu:=(mem a).mpr hu;have hv:=(mem b).mpr hv;exact%[(rk _).mpr %[a,hu|(lg a hu).2.one ha]|(rk _).mpr %[b,hv|(lg b hv).2.one hb]]
  have nr:∀x,¬ Rch (ss\2) x x:=λx r=>hv (vI.mpr ⟨x,by
   have%[y,e|_]:=sF r;exact(ends x y e).1,r⟩)
  have a4:cq (a9 qs) (ts\2) (ss\2):=%[lk.nd|λk=>by simp only[tm,<-ag,<-Yt];exact lk.mem k]
  have ak:iI mg H5 ab qs ls ts (ss\2):=%[gr.up ac,a4|nr]
  have a5:=(s4.trans s5) _ _ al;have a6:aK H5 ss:=aE tu λb z e=>s5 _ _ (s4 _ _ e)
  have bb:=(s3.trans (s4.trans s5)) _ _ hd;have bc:=ac _ _ h2;have B:bp H5 ms qs:=λq hq=>%[ac _ _ (L.sa q hq).1|(L.sa q hq).2.sub λz Y=>(mem z).mpr Y]
  clear hv vI be al tu la ends nr a4;lk;refine%[ab,qs,ls,ts,_,ρ,ak,⋯|λe H6 ns bs o s6 he ba bn hn bm=>k6 _ _ (am λD7 k7 _=>?_)];lk;refine%[ab,qs,ls,ts,_,ρ,ak.up s6,⋯,λH7 s7 nc=>k7 _ _ (am λD8 k8 r8=>?_)|λt c H7 i j ws dd x y z s7 ht hc hw sub b4 wl hy Y up yz=>k7 _ _ (am λD8 k8 r8=>?_)]
  .lk;rw[if_neg ∅];refine k8 _ _ (am λD9 k9 r9=>az λcw hK=>?_);lk;have C:=s6.trans s7;refine%[!1,!1|hK _ _ (cP (λi σ H'=>(∃o7,σ=[!ab,!l1,!l2,!d,!r,!e,some .non,o7])/\ah H7 H') %[%[_|ρ]|λ_ _ h=>h] ?_ ?_)]
   .intro i σ H' hi %[%[o7|rfl]|sm];show jB _ _ _ _ [!ab,!l1,!l2,!d,!r,!e,some .non,some (.int (0+i))] H';lk;refine aG λan as=>?_
    unfold rF;lk;have G:=sm _ _ (s7 _ _ he);refine%[_,_,G|as _ _ λF hF=>?_];have gl: ~~~(gD bs)= ~~~bs:=Z6 _;have b5:=_ST.nodup_sub bn (m:=ls) λx hx=>((hn.mem x).mp ((bm x).mp hx)).1
    rw[Z6]at b5;have ll:=gr.ll;have%[O|bf]:=Dg (g:=λb:Str×Addr×ZL=>b.2.2.getD i 0) bn;refine c9 (J:=Itk e o (gD bs)) (n:= ~~~(gD bs)) (D:=F) (λj vs σ I=>(∃o1,σ=[o1,some (.int i),!e])/\ah H' I/\I F<*vs/\∃ps:List (Addr×Str×V),vs=ps\0/\(∀q∈ps,I q.1&&&[.str q.2.1,q.2.2])/\ps\2=(bs.take j).map λb=>(b.1,V.int (O b.1)))
     %[%[none|rfl],ah.upd hF,aa,[],rfl,(λ_ h=>nomatch h)|rfl] (λj _ _ I hj U=>%[U.2.1 _ _ G|hj]) (λ_ _ I U=>%[U.2.1 _ _ G|Zi _]) ?_ ?_
    .intro j vs σ I hj %[%[o1|rfl],s8,M,ps,rfl,pa|pe] xx H9 %[e2,k,v,hk|hx];subst e2;have jl:j< ~~~bs:=by lia
     have a0:(gD bs)[j]?∣(Sum.inr bs[j].1,V.ref bs[j].2.1):=by unfold gD;rw[Zl,Z4 jl];rfl
     rw[a0]at hk;cases hk;obtain rfl:xx=V.str bs[j].1:=hx;have%[b,hb,eb|hv]:=Dc (Xs %[_,Yd jl|rfl]:bs[j].1∈bs\1);have%[lo,a3,e3,N|_]:=ba b hb;have N:=s8 _ _ (sm _ _ (s7 _ _ N));have fe:=bf b hb;rw[eb,e3]at fe;have ai:atI [V.int lo,V.int a3] (i:Int)∣V.int (O bs[j].1):=by
      rw[fe];obtain rfl|rfl:i=0\/i=1:=by lia
      .rfl
      .rfl
     lk;refine%[_,.inl %[_,Sum.inr bs[j].1,.inr %[o|s8 _ _ G],ρ|hv.symm],_,ρ,_,SqT.of N,_,ai,#[2]|λp b6=>?_];have sp:=ah.upd (o:= .tup [.str bs[j].1,.int (O bs[j].1)]) b6;have gp:upd H9 p (.tup [.str bs[j].1,.int (O bs[j].1)]) p=_:=aa
     generalize upd H9 p (.tup [.str bs[j].1,.int (O bs[j].1)])=b9 at sp gp ⊢
     have ca:=congrArg List.length pe;rw[Z6,Z6,Yl]at ca;refine CK.mk hj (sp _ _ M) (by rw[Z6];exact aD ⋯) %[%[_|rfl],ah.set (s8.trans sp) hF,aa,ps++[(p,bs[j].1,V.int (O bs[j].1))],by rw[Zd];rfl,λq hq=>?_|?_]
     .refine io (sp _ _ M) _ _ ?_;rcases Xp hq with q'|q'
      .exact sp _ _ (pa q q')
      .rw[Xq q'];exact gp
     .rw[Zd,pe,Xc,Z4 jl,Zd];rfl
    .intro vs σ I %[_,s8,M,ps,rfl,pa|pe];rw[gl,Xf]at pe;refine%[F,ρ,ps,SqL.of M,pa|λl hl=>?_];rw[show kM ps=VD (bs\1) λx=>V.int (O x)from Df bn (by rw[pe,Ys];rfl)];refine .inr %[rfl,l,_,aa|λo'=>?_];have sA:ah I (upd (upd I l (.dK (VD (bs\1) λx=>V.int (O x)))) l (.frz o' (.dK (VD (bs\1) λx=>V.int (O x))))):=ah.set (ah.upd hl) hl;have g1:upd (upd I l (.dK (VD (bs\1) λx=>V.int (O x)))) l (.frz o' (.dK (VD (bs\1) λx=>V.int (O x)))) l=_:=aa;have fl:=(sm.trans s8).free hl
     generalize upd (upd I l (.dK (VD (bs\1) λx=>V.int (O x)))) l (.frz o' (.dK (VD (bs\1) λx=>V.int (O x))))=H9 at sA g1 ⊢
     have bl:=(sm.trans s8).trans sA;have ae:=C.trans bl;have AT:∀u∈ns,(i=0/\Lo qs (ss\2) u (O u))\/(i=1/\Hi qs (ss\2) u (O u)):=λu hu=>by
      have%[b,hb|rfl]:=Xr ((bm u).mpr hu);have%[lo,a3,e3,_,h1|h2]:=ba b hb;have fe:=bf b hb;rw[e3]at fe;obtain rfl|rfl:i=0\/i=1:=by lia
      .exact .inl %[rfl|fe▸h1]
      .exact .inr %[rfl|fe▸h2]
     have gn:∀a∈ms,g a∈ns:=λa ha=>(hn.mem _).mpr %[pl.mem_iff.mpr ((mem _).mp (lg a ha).1)|iu (lg a ha).2 (lg a ha).2.1]
     have nm:=ak.gr.names ak.li hn;have bt:∀q∈qs,∀wd a y,q.2=[.str wd,.str a,.int y]->a∈ms/\∃n,YS qs wd n (g a) y:=λq qm wd a y eq=>by
      have%[_,ha|_]:=fY B qm eq;have%[n|cd]:=Xi qm;exact%[ha,n,q,a,cd,eq|(lg a ha).2]
     refine%[l,l2,d,r,o',bs\1,ms,O,g,qs,ss,ρ,g1,by rw[Z6];lia,ae _ _ bc,B.up ae,ae _ _ bb,(λz Y=>(bm _).mpr (gn z Y)),ae _ _ a5,pO (aE a6 λb z e=>ae _ _ e) (λk hk=>?_),λx y ed=>?_,λq qm a y eq=>?_,λq qm a y eq=>?_,λx hx=>?_|λb9 ch=>%[true,ρ|p9 %[%[_|ρ]|ah.set (bl.trans ch) fl]]]
     .have%[x,y,z,ek,hx|hy]:=nm k hk;exact%[x,y,z,ek,(bm _).mpr hx|(bm _).mpr hy]
     .have%[z|Y]:=ed;have%[x',y',z',ek,hx|hy]:=nm _ Y;cases ek;have up:Up (ss\2) x y:= .inr (.one %[z|Y]);rcases AT x hx with⟨i0,a⟩|⟨i1,a⟩
      .rcases AT y hy with⟨_,b⟩|⟨i1,b⟩
       .exact a.mono B b up
       .lia
      .rcases AT y hy with⟨i0,b⟩|⟨_,b⟩
       .lia
       .exact a.mono B b up
     .have%[ha,n|ys]:=bt q qm _ a y eq;rcases AT _ (gn a ha)with⟨_,b⟩|⟨_,b⟩
      .exact b.2 _ _ _ ys (.inl rfl)
      .exact b.since_le B nc ys (.inl rfl)
     .have%[ha,n|ys]:=bt q qm _ a y eq;rcases AT _ (gn a ha)with⟨_,b⟩|⟨_,b⟩
      .exact b.le_by B nc ys (.inl rfl)
      .exact b.2 _ _ _ ys (.inl rfl)
     .rcases AT x ((bm x).mp hx)with⟨_,b⟩|⟨_,b⟩
      .exact b.rg B
      .exact b.rg B
   .intro σ H' %[%[o7|rfl]|sm];refine k9 _ _ ?_;lk;refine aG λan as=>?_
    unfold rF;lk;have G:=sm _ _ (s7 _ _ he);refine%[_,_,G|as _ _ λF hF=>?_];have gl: ~~~(gD bs)= ~~~bs:=Z6 _;refine c9 (J:=Itk e o (gD bs)) (n:= ~~~(gD bs)) (D:=F) (λj vs σ I=>(∃o1,σ=[o1,!e])/\ah H' I/\I F<*vs/\vs=[])
     %[%[none|rfl],ah.upd hF,aa|rfl] (λj _ _ I hj U=>%[U.2.1 _ _ G|hj]) (λ_ _ I U=>%[U.2.1 _ _ G|Zi _]) ?_ ?_
    .intro j vs σ I hj %[%[o1|rfl],s8,M|rfl] xx H9 %[e2,k,v,hk|hx];subst e2;have jl:j< ~~~bs:=by lia
     have a0:(gD bs)[j]?∣(Sum.inr bs[j].1,V.ref bs[j].2.1):=by unfold gD;rw[Zl,Z4 jl];rfl
     rw[a0]at hk;cases hk;obtain rfl:xx=V.str bs[j].1:=hx;have%[b,hb,eb|hv]:=Dc (Xs %[_,Yd jl|rfl]:bs[j].1∈bs\1);have%[lo,a3,e3,N,q1|q2]:=ba b hb;have N:=s8 _ _ (sm _ _ (s7 _ _ N));have lh:=q1.le_hi B nc q2;have gg:bQ H9 e (.str bs[j].1) (some (.ref b.2.1)):= .inl %[_,Sum.inr bs[j].1,.inr %[o|s8 _ _ G],rfl|hv.symm];lk;refine%[_,gg,_,ρ,_,SqT.of N,_,ρ,_,gg,_,ρ,_,SqT.of N,_,ρ,_,ρ,_,ρ|?_];rw[if_neg (by simp;lia)];exact CN.mk hj %[%[_|rfl],s8,M|rfl]
    .intro vs σ I %[_,s8,M|rfl];refine%[Xh _|λp N=>%[F,p,[],ρ,ρ,ah.upd N _ _ M,aa|?_]];rw[Zf rfl];exact kk _ (ac.trans (C.trans (sm.trans (s8.trans (ah.upd N)))))
  .lk;rw[if_pos ∅];have C:=s6.trans s7;have key:∀u,Up (ss\2) u dd->Up (ss\2) x u->u∈ns->∃p lo hi,bF (gD bs) (Sum.inr u)∣.ref p/\H7 p&&&[.int lo,.int hi]/\hi<lo:=λu u1 u2 hu=>by
    have%[b,hb,rfl|hv]:=Dc ((bm u).mpr hu);have%[lo,hi,_,N,cl|co]:=ba b hb;have:=cl.2 _ _ _ hy u1;have:=co.2 _ _ _ Y u2;exact%[_,lo,hi,hv,s7 _ _ N|⋯]
   have k1:=key dd (.inl rfl) up (hy.in_ ak.gr hn);have k2:=key x up (.inl rfl) (Y.in_ ak.gr hn);have%[q1,a1,e1,b0|ct]:=hy;have%[q2,a2,e2,b1|cv]:=Y;have%[_,i1|_]:=fY B (Z8 e1) b0;have%[_,i2|_]:=fY B (Z8 e2) b1;obtain rfl:=(lg a1 i1).2.one ct;obtain rfl:=(lg a2 i2).2.one cv;exact%[t,e,l2,d,r,c,i,j,o,ms,g,qs,ws,ss,bs,q1,q2,a1,a2,y,z,ρ,ht,hc,hw,C _ _ bc,B.up C,C _ _ bb,C _ _ a5,aE a6 λb z e=>C _ _ e,sub,wl,e1,b0,e2,b1,yz,b4,s7 _ _ he,(λu hu=>hu.elim (λh=>h▸k1) λh=>h▸k2)|λH' s8=>r8 _ _ (kk _ (ac.trans (C.trans s8)))]
def wx{a b:Type}(f:a->b)(xs:List a)(is:List Nat):is.filterMap ((xs.map f)[·]?)=(is.filterMap (xs[·]?)).map f:=by
 rw[List.map_filterMap];exact congrArg (λg=>List.filterMap g is) (funext λi=>Zl ..)
def Di{a:Type}{xs:List a}{is:List Nat}{q:a}(h:q∈is.filterMap (xs[·]?)):q∈xs:=by
 have%[i,_|e]:=mem_filterMap.mp h;exact Z8 e
def qy.sub{H:Hp}{cs:ZH}{qs rs:ZN}(h:qy H cs qs)(r:∀q∈rs,q∈qs)(l: ~~~rs<= ~~~qs):qy H cs rs:=%[h.c1,h.c3,h.ca,h.nd,h.few,h.ly,λq a=>h.sa q (r q a)|Yg l h.ql]
def qy.up{H a:Hp}{cs:ZH}{qs:ZN}(h:qy H cs qs)(s:ah H a):qy a cs qs:=%[h.c1,h.c3,h.ca.up s,h.nd,h.few,h.ly,h.sa.up s|h.ql]
def qy.pair{H:Hp}{cs:ZH}{qs:ZN}(h:qy H cs qs):pU H cs qs:=%[h.ca,h.nd,h.c1,h.c3,h.few,h.ly,λls p q a=>%[(h.sa q a).1|(h.sa q a).2.sub λz b=>p.mem_iff.mpr b]|by have:=h.ql;lia]
def mv.up{mg:ZC}{H a:Hp}{g b c:Addr}{cs:ZH}{qs:ZN}{ls:ZB}{ts:ZG}(h:mv mg H g b c cs qs ls ts)(s:ah H a):mv mg a g b c cs qs ls ts:=%[h.gd.up s,s _ _ h.h1,s _ _ h.h2,h.gr.up s,h.pl|h.tm]
def Hv{f:Addr}{U:FuncData}(F:Fun K "law" "law" lc f U)(T:Txt K mg):eB P w K mg base CX0 12 f U ["_law_script"] (pV K):=by
 refine F.ok oV (by intro a b c d h;have%[_,_,rfl|_]:=h;rfl) (λab A outer s H vs Q E j h=>?_)
 .have%[a,Y,rfl,hs,ho,hn|kk]:=h;refine%[_,%["JC~mF`FA0B~_NK1NK2dCG3]D]EA1A2BCG4]D]EA1A]F2EBCOnwpfF~wA3A1A2B%pfF~wA4A1A]F2EBDHkPDHF~wA3A1A2B",oV.nd|j]|?_]
  show aU _ _ _ [!a,none,none,none,none] H;refine am λD1 k1 _=>?_
  lk;refine%[a,Y,ρ,hs,⋯|λt l v H1 cs qs s1 ht h1 h2 gd=>%[t,ρ,_,SqL.of ht,ρ,_,_,ρ,_,_,ρ,ρ|k1 _ _ (am λD2 k2 _=>?_)]];lk;refine λg dx fg y ac=>ze fg y h1 h2 gd.pair λz ls ts B gr pl tm=>k2 _ _ (am λD3 k3 _=>?_)
  have d:mv mg z g l v cs qs ls ts:=%[gd.up B,B _ _ h1,B _ _ h2,gr,pl|tm]
  lk;unfold EQ;lk;refine%[_,d.h2|λb fb C=>?_];simp only[wx,Z6]at C ⊢;have q2:∀q∈(evI qs.length).filterMap (qs[·]?),q∈qs:=λq hq=>Di hq
  generalize G:(evI qs.length).filterMap (qs[·]?)=e at C q2 ⊢
  have u:=ah.upd (o:= .lst (e\0)) fb;have gb:upd z b (.lst (e\0)) b=_:=aa
  generalize upd z b (.lst (e\0))=H3 at u gb ⊢
  have m:=(d.up u).gd.sub q2 C;refine λg2 ae I n _=>ze I n (d.up u).h1 gb m.pair λH4 p r u3 J L M=>k3 _ _ (am λD5 k5 r5=>?_)
  have d:=(d.up u).up u3;lk;refine%[g,l,v,cs,qs,ls,ts,ρ,d|λH5 s5=>%[true,ρ|p9 ?_]];unfold EQ;lk;refine%[_,(d.up s5).h2|λc fc N=>?_];simp only[wx,Z6,G]at N ⊢;have u6:=ah.upd (o:= .lst (e\0)) fc;have gc:upd H5 c (.lst (e\0)) c=_:=aa
  generalize upd H5 c (.lst (e\0))=H6 at u6 gc ⊢
  have i:=s5.trans u6;have O:mv mg H6 g2 l c cs e p r:=%[(m.up u3).up i,(d.up i).h1,gc,J.up i,L|M]
  refine%[g2,l,c,cs,e,p,r,ρ,O|λH7 s7=>%[true,ρ|p9 (k5 _ _ ?_)]];lk;exact%[g,l,v,cs,qs,ls,ts,ρ,(d.up i).up s7|λH8 _=>kk H8]
end
abbrev dfm:= @GC
abbrev gvm:= @HX
def all_mk{l:PySem.W.OpenLaw}{w:World}{K:ZA}{h:Heap}{mg:ZC}{fa af:Addr}(X:K.In h)(G:h.Ns mainGlobals mg)(hfa:mg "law"=some (.ref fa))
 {bc ao:ZI} {bd:ZK} {be aq ar au ag av:Value}
 (F:Txc K mg->Txt K mg)
 (bf:nsIn K mainGlobals "law"=some (some (.ref af))) (bg:K.lookup af=some %[be,bc,.func (fnOf "law" "law" (dq lc) (cp lc) (ap lc) .none aq ar au ao ag av)|bd]) (bh:codeIn K ag "law"=true) (bi:keepIn K (.ref af)=true)
 {aa:Addr}
 (aw:nsIn K mainGlobals "Ground"=some (some (.ref aa)))
 (bj:plainGet K aa Str.empty=true)
 (bk:hasDictIn K aa=true)
 (bl:plainOver K aa=true)
 (bm:findIn K (.ref aa) "__setattr__"=some (some (.builtin "object.__setattr__")))
 (bn:findIn K (.ref aa) "kept_cuts"=some none)
 (bo:findIn K (.ref aa) "kept_sayings"=some none)
 (bp:findIn K (.ref aa) "kept_layers"=some none)
 (bq:findIn K (.ref aa) "kept_ties"=some none)
 {ab:Addr} {br bs:ZI} {bt:ZK} {bu bv bw bx ax bz:Value}
 (b0:findIn K (.ref aa) "__init__"=some (some (.ref ab)))
 (ay:K.lookup ab=some %[bu,br,.func (fnOf "__init__" "Ground.__init__" (dq cf) (cp cf) (ap cf) .none bv bw bx bs ax bz)|bt])
 (az:codeIn K ax "Ground.__init__"=true)
 (a0:keepIn K (.ref ab)=true)
 (b1:isFn K (.ref ab)=true)
 (b2:makesIn K aa=true)
 (b3:keepIn K (.ref aa)=true)
 {ac:Addr} {b4 b5:ZI} {b6:ZK} {b7 b8 b9 ca a1 cb:Value}
 (cc:findIn K (.ref aa) "sayings"=some (some (.ref ac)))
 (a2:K.lookup ac=some %[b7,b4,.func (fnOf "sayings" "Ground.sayings" (dq cz) (cp cz) (ap cz) .none b8 b9 ca b5 a1 cb)|b6])
 (a3:codeIn K a1 "Ground.sayings"=true)
 (ah:keepIn K (.ref ac)=true)
 (cd:isFn K (.ref ac)=true)
 {ad:Addr} {ce cg:ZI} {ch:ZK} {ci cj ck cl a4 cm:Value}
 (cn:findIn K (.ref aa) "layers"=some (some (.ref ad)))
 (a5:K.lookup ad=some %[ci,ce,.func (fnOf "layers" "Ground.layers" (dq cN) (cp cN) (ap cN) .none cj ck cl cg a4 cm)|ch])
 (a6:codeIn K a4 "Ground.layers"=true)
 (ai:keepIn K (.ref ad)=true)
 (co:isFn K (.ref ad)=true)
 {ae:Addr} {cq cr:ZI} {cs:ZK} {ct cu cv cw a7 cx:Value}
 (cy:findIn K (.ref aa) "ties"=some (some (.ref ae)))
 (a8:K.lookup ae=some %[ct,cq,.func (fnOf "ties" "Ground.ties" (dq dm) (cp dm) (ap dm) .none cu cv cw cr a7 cx)|cs])
 (a9:codeIn K a7 "Ground.ties"=true)
 (aj:keepIn K (.ref ae)=true)
 (c0:isFn K (.ref ae)=true)
 {ba:Addr} {ak:Obj} {al:ZJ} {c1:Nat}
 (c2:nsIn K mainGlobals "YEAR_WORDS"=some (some (.ref ba)))
 (c3:K.lookup ba∣ak)
 (c4:ak.cls= .type "tuple")
 (c5:ak.data= .seq al c1)
 (c6:al.size<=sizeLine)
 (c7:aN [.str "since",.str "by"] al.toList)
 {bb:Addr} {am:Obj} {an:ZJ} {c8:Nat}
 (c9:nsIn K mainGlobals "LAYER_WORDS"=some (some (.ref bb)))
 (da:K.lookup bb∣am)
 (db:am.cls= .type "tuple")
 (dc:am.data= .seq an c8)
 (dd:an.size<=sizeLine)
 (de:aN [.str "later",.str "same"] an.toList)
 :∃fd:FuncData,(∀(s:Shared) (v:Value),BindsTo s fd %[[v]|[]] [("_law_script",v)])/\∀base:Heap,K.In base->base.Ns mainGlobals mg->eB l.prog w K mg base CX0 12 fa fd ["_law_script"] (pV K):=by
 have e:=hfa.symm.trans (mg_of X G bf);cases e;have df:=Ep (mg_of X G aw);subst df;have T:Txt K mg:=F %[%[mg_of X G aw,bj,bk,bl|bm],
  bn,
  bo,
  bp,
  bq,
  %[ab,_,%[b2,b0,b1|b3],eU ay az a0|(eU ay az a0).binds (by room)],
  %[ac,_,%[cc,cd|ah],eU a2 a3 ah|(eU a2 a3 ah).binds (by room)],
  %[ad,_,%[cn,co|ai],eU a5 a6 ai|(eU a5 a6 ai).binds (by room)],
  %[ae,_,%[cy,c0|aj],eU a8 a9 aj|(eU a8 a9 aj).binds (by room)],
  Cj X G c2 c3 c4 c5 c6 c7|
  Cj X G c9 da db dc dd de]
 exact%[fnOf "law" "law" (dq lc) (cp lc) (ap lc) .none aq ar au ao ag av,λs v=> .of_eq rfl|λbase _ _=>Hv (eU (st:=lc) bg bh bi) T]
def walk{l:PySem.W.OpenLaw}{q:Program}{b:ZB}{j:(Str->Option Value)->Heap->Prop}{e:World->Heap->Prop}{d:DefRec}{K:Params->ZA}(m:l.most∣63)(c:d.params.defaults=[])
 (o:∀(w:World) (h:Heap),e w h->(K w.params).In h)
 (F:∀(w:World) (mg:ZC) (g:Addr) (h:Heap),(K w.params).In h->h.Ns mainGlobals mg->mg d.name∣.ref g->
  ∃i:FuncData,(∀(s:Shared) (u:Value),BindsTo s i %[[u]|[]] [("_law_script",u)])/\∀base:Heap,(K w.params).In base->base.Ns mainGlobals mg->eB l.prog w (K w.params) mg base CX0 12 g i ["_law_script"] (pV (K w.params))):
 PySem.W.WalkO q b j e l.row.toRowW d [] (λf vs=>PySem.call f vs):=
 _LL.walk_of (n:=63) (k:=12) (x:="_law_script") (CX:=λ_=>CX0) (sp:=λw=>pV (K w.params)) m (!1) c %[rfl,!1,!1|rfl] o F (λ_ _ a p r v y=>%[a,p,rfl,y,v,r|λ_=>rfl]) λ_ _ _ _ _ z=>z
end _KK
end
open PySem PySem.W PyProof.Rows
set_option maxRecDepth 100000 in
theorem PySem.Challenge.cw_digbook_k74_whole_bounds_or_a_clash_holds : PySem.Challenge.rw_digbook_k74_whole_bounds_or_a_clash.Holds := by
 w_on;o_law;k_head;(case hw=>w_witness2)
 k_fill
 refine _KK.walk (l:=PySem.Challenge.rw_digbook_k74_whole_bounds_or_a_clash) rfl rfl (λw h Y=>PySem.W.kIn_of Y) ?F
 case F=>
  intro w mg fa h KX G hmg;apply _KK.all_mk KX G hmg
  (case F=>
   intro C
   constructor
   exact C
   all_goals first|exact PySem.W.mg_none_of KX G (by k_is)|(refine' _KK.gvm KX G ?z ?r;(case z=>k_is);(case r=>exact⟨_,rfl⟩))|(refine' _KK.dfm KX G ?a ?l ?c ?k ?b;(case a=>k_is);(case l=>k_is);(case c=>k_is);(case k=>k_is);(case b=>intro _ _ _ _ _ _;(repeat(refine _KK.zq1 λ_=>?_));exact _KK.zq0 rfl)))
  any_goals first|k_is|rfl|decide|exact .cons ⟨_,rfl⟩ (.cons ⟨_,rfl⟩ (.nil))
