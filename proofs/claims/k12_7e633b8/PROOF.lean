import PyProof.Rows.All
import Wide.All
import OpenK.AllK
import Wide.FinOn
import Lean
import PyProof.EqAt
import PyProof.EqKinds
import PyProof.TupleCall
import PyProof.ExcInit
import PyProof.ExcClass2
import PyProof.InstStoreFacts
import OpenK.KOwn
import PyProof.RulesAs
import PyProof.ExcAttrAll.ValueError
import KE.KIsAll
import KE.KRevSl
import KE.KRevIter
import PyProof.Rows.SortRuns
import PySem.SetTable
import PySem.SetOps
import PyProof.TupleKey
import PyProof.SetKind
import PyProof.Rows.SetObj
import KE.KDictSum
import PySem.Challenge.RW_digbook_k12_ties
structure PySem.W.Fast:Prop where(tw3672146686811809914 tw6964622368691824323 tw13112483982867281503 tw7803147134495933948 tw13668971218473002317 tw3282948402635139456 tw193397515010537404 tw6774170649802793024 tw6353522092238308822 tw1613123521842900972 tw17342750958411713839 tw10905091741098172256 tw9664605985087804511 tw18215798498919905125 tw16478828841612518622 tw12192690720974304016 tw17665265797396083258 tw14894482444920296408 tw9746444688530356365 tw12286367454915455338 tw7477525074779363054 tw14812068095670692820 tw2063182323553721668 tw2915772003886189143 tw8527593143977733618 tw5736426938193436410 tw3623009210320531881 tw577939115578524507 tw12842134111662529205 tw16318288107068056136 tw8415744950721617669 tw4472787292410657950 tw15801237052439272593 tw2712150517062487304 tw2786563148067139747 tw1455444676751972268 tw5096844064392973253 tw18144372527180155639 tw16195386010927885454 tw7003834580150907833 tw2709007319338866258 tw14186234655796079144 tw18058200008101876013 tw138277300788545254 tw5349250119214669210 tw12025741222815420559 tw1501361535413227110 tw2412699780047302639 tw17632694268225183140 tw17221341667388099341 tw14335856484353419885 tw6323184476047150118 tw10445029679416639166 tw7908096213511705444 tw16922548803789977833 tw9739432935569723631 tw15261037770436289645 tw9932137355996305569 tw5644371342657421926 tw12438526298846615655 tw8985218915947559657 tw261003628469312969 tw1886510764013891783 tw8252149925781316388 tw14674269362339040823 tw14123670476501338678 tw13088439651941015927 tw13572813696603363980 tw16033768846788417686 tw12839946943406340265 tw4641680629558285763 tw11142459293842978136 tw12666756420690071806 tw10298675936330165925 tw3766340801805370158 tw11264708993634689694 tw18088414142109882883 tw2483988473023856663 tw9929100680799682501 tw1091627918417963658 tw1117332207784750330 tw14469988009429883609 tw7244858908538238716 tw1127757706122636606 tw7549165799760515003 tw7519000640951283356 tw871128093837086006 tw7869973341913244323 tw1662593944571794193 tw1349303990862473577 tw17695495879006890248 tw11096828297575286033 tw9331979963365356058 tw14549096936440142183 tw11008036896396276899 tw12846911438911636084 tw5070641371842562180 tw378829244130337713 tw17999664121883633253 tw8712864083040600053 tw18418487130763571202 tw14757716680992319844 tw1388857920104535750 tw9224574241535935804 tw1685634870984415040 tw13121467587749554540 tw6855159922143600789 tw15441815309961167466 tw13160021727933745343 tw6093554234899600308 tw6364381304843318275 tw13653418351431316157 tw9045530699522116686 tw4652083076156483144 tw15265951044895039193 tw12259767045831070973 tw7488180261498089847 tw8772190770834461711 tw11756014852598379897 tw3416587546036559302 tw16291281941257897551 tw17321286660507814850 tw13514161928765456951 tw8993489861709573906 tw4127962614805017437 tw13088050919328994717 tw16853866733744396058 tw9807066754358814122 tw4384656562595534922 tw12604390759676209964 tw11488496589224566979 tw3007912323422760797 tw15991893737181197293 tw2417875093992302476 tw12068279399617982084 tw5286514953514455949 tw6953473900558945569 tw10189197713055971267 tw11639326833758913503 tw2220544764848370473 tw17358609519660739744 tw5922937311694197091 tw7987277017666107920 tw5843433048436588876 tw9029839491328696750 tw13196263014135144542 tw9869430659196246127 tw850247704351602298 tw7801710599447408110 tw6815061564661359802 tw5896683419794478444 tw5568953282123403289 tw3402511688345782710 tw3152088689155859599 tw14463328826341671918 tw14178668795892057022 tw10846204571350088310 tw8180282935749159919 tw776567815539332170 tw7484253375634331811 tw7286201503430564783 tw5501299840285928132 tw522783010743519586 tw4047589098843304262 tw3393715513903657106 tw3112076805145282250 tw16185362122721924987 tw15565982857586385689 tw15407589531468288838 tw14155010246286582328 tw13750349940369372194 tw12970925558852174336 tw11247140114712225043 tw10671039483039815824 tw843496477622671852 tw6646107829903463344 tw2695919120463250486 tw4251252826186717967 tw2334355772736055610 tw16232068464769538524 tw10270755335221608971 tw1380229582464907795 tw11082842549429706197 tw833311270562264902 tw776237051000148625 tw2675302696283015886 tw12424463832397816607 tw10899338523820634119 tw9567920972888802060 tw7139069022026620909 tw15280659082794554424 tw12125204085431521728 tw15148220474829557011 tw10717474901708201255 tw4371573798385793496 tw2785173547151168321 tw15679565338673199430 tw8710053564263476050 tw6686219183367554789 tw584461249338892211:0=0)
theorem Y0{α:Sort _}{b:Prop}{a:α}:a=a∨b:=Or.inl rfl
theorem Y1{α:Sort _}{b:Prop}{a:α}:b∨a=a:=Or.inr rfl
theorem Y2:type_of% @PySem.wpAny_bind:=@PySem.wpAny_bind
theorem Y3:type_of% @PySem.wpAny_pure:=@PySem.wpAny_pure
theorem Y4:type_of% @List.getElem?_eq_getElem:=@List.getElem?_eq_getElem
theorem Y6:type_of% @List.length_map:=@List.length_map
theorem Y7:type_of% @PySem.Heap.get?_push_of_some:=@PySem.Heap.get?_push_of_some
theorem Y8:type_of% @List.mem_of_getElem?:=@List.mem_of_getElem?
theorem Y9:type_of% @List.length_append:=@List.length_append
theorem X1:type_of% @Option.some.inj:=@Option.some.inj
theorem X2:type_of% @Array.length_toList:=@Array.length_toList
theorem X3:type_of% @List.getD_eq_getElem?_getD:=@List.getD_eq_getElem?_getD
theorem X4:type_of% @List.map_append:=@List.map_append
theorem X6:type_of% @List.append_assoc:=@List.append_assoc
theorem X7:type_of% @decide_eq_true:=@decide_eq_true
theorem X8:type_of% @Nat.lt_of_lt_of_le:=@Nat.lt_of_lt_of_le
theorem X9:type_of% @decide_eq_false:=@decide_eq_false
theorem W1:type_of% @Nat.le_refl:=@Nat.le_refl
theorem W3:type_of% @PySem.Heap.get?_push_size:=@PySem.Heap.get?_push_size
theorem W4:type_of% @List.mem_cons_of_mem:=@List.mem_cons_of_mem
theorem W5:type_of% @List.getElem?_map:=@List.getElem?_map
theorem W6:type_of% @List.mem_cons_self:=@List.mem_cons_self
theorem W7:type_of% @List.take_of_length_le:=@List.take_of_length_le
theorem W8:type_of% @of_decide_eq_true:=@of_decide_eq_true
theorem W9:type_of% @List.size_toArray:=@List.size_toArray
theorem V0:type_of% @PySem.Heap.size_push:=@PySem.Heap.size_push
theorem V1:type_of% @List.length_cons:=@List.length_cons
theorem V3:type_of% @Array.getD_eq_getD_getElem?:=@Array.getD_eq_getD_getElem?
theorem V4:type_of% @Nat.ne_of_lt:=@Nat.ne_of_lt
theorem V6:type_of% @Bool.false_ne_true:=@Bool.false_ne_true
theorem V7:type_of% @PySem.Heap.lt_size:=@PySem.Heap.lt_size
open Array (getD_eq_getD_getElem? getElem?_toList length_toList mem_toList_iff size_append size_map toList_append toList_push)
open Bool (and_eq_true false_eq_true or_eq_false_iff or_eq_true)
open List (all_cons all_eq_true all_map any_cons any_eq_true any_map append_nil cons_append drop_drop drop_zero ext_getElem ext_getElem? filterMap_append filterMap_cons filter_append filter_cons find?_cons flatMap_append flatten_cons foldl_cons forIn_cons forIn_nil getD_eq_getElem?_getD getElem?_append_left getElem?_append_right getElem?_drop getElem?_map getElem?_take getElem_mem getElem_of_mem length_append length_cons length_drop length_eq_zero_iff length_map length_nil length_pos_iff length_range length_singleton length_take length_zip lookup_cons map_append map_congr_left map_cons map_id map_map map_nil map_take mem_append mem_append_left mem_append_right mem_cons mem_cons_of_mem mem_cons_self mem_filterMap mem_flatMap mem_map mem_of_mem_drop mem_of_mem_take mem_range mem_singleton nil_append nodup_append nodup_cons nodup_iff_pairwise_ne nodup_nil nodup_range not_mem_nil of_mem_zip pairwise_append pairwise_map perm_append_comm range_succ replicate_succ size_toArray take_add_one take_append_drop take_of_length_le toList_toArray)
open Nat (add_mod add_mul add_sub_cancel add_sub_cancel_left add_zero le_add_right le_of_lt le_refl le_succ le_trans lt_of_lt_of_le lt_succ_of_lt lt_succ_self min_eq_left mod_lt mul_add mul_assoc ne_of_gt ne_of_lt not_lt_zero one_mul pow_add pow_succ sub_self succ_pos zero_add zero_le)
open Option (bind_eq_some_iff getD_none getD_some map_eq_some_iff)
open PyProof.Rows (boot_abs boot_all boot_int boot_isinstance boot_list boot_max boot_min boot_set boot_sorted boot_str boot_tuple)
open PySem.F (called_set plainAttrs_list plainAttrs_str slot_str_join type_str_join)
open PySem.Heap (ExtBut SameBut get?_push_of_some get?_push_size get?_update_other get?_update_self lt_size push)
open PySem.W (KatTups Looks callWith_K cellsFrom_some codeIn emptyDict findIn fnOf handedIn hasDictIn instObj isFn kat_kind keepIn kia_one kitOne kitx_dict kitx_list lookIn makesIn methodObj mg_none_of mg_of nsIn plainGet plainGet_of plainOver takerIn)
set_option maxHeartbeats 0
set_option Elab.async false
set_option linter.all false
set_option maxRecDepth 100000
namespace L2
open PySem PySem.Spec PyProof.Rows
noncomputable abbrev Key:=Sum Int Str
noncomputable def jt:Key->Value->Bool
 | .inl k,v=>Value.isInt k v
 | .inr x,v=>Value.isStrOf x v
noncomputable def keyH(w:World):Key->Int
 | .inl k=>hashInt k
 | .inr x=>hashStr w x
theorem bj:∀{k:Key} {v:Value},jt k v=true->(∃i t,k=Sum.inl i/\v=Value.int i t)\/(∃x t,k=Sum.inr x/\v=Value.str x t)
 | .inl i,v,h=>by
   obtain⟨t,e⟩:=Value.isInt_shape (k:=i) (v:=v) h;exact .inl ⟨i,t,rfl,e⟩
 | .inr x,v,h=>by
   obtain⟨t,e⟩:=Value.isStrOf_shape (x:=x) (v:=v) h;exact .inr ⟨x,t,rfl,e⟩
theorem rK(i:Int)(t:Tok):jt (.inl i) (.int i t)=true:=by simp[jt,Value.isInt]
theorem eT(x:Str)(t:Tok):jt (.inr x) (.str x t)=true:=by simp[jt,Value.isStrOf]
theorem xT(a b:Int):decide ((Sum.inl a:Key)=Sum.inl b)=(a==b):=by
 by_cases e:a=b
 ·subst e;simp
 ·have h: ¬ (Sum.inl a:Key)=Sum.inl b:=fun q=>e (Sum.inl.inj q)
  rw[X9 h];exact(beq_eq_false_iff_ne.mpr e).symm
theorem xU(a b:Str):decide ((Sum.inr a:Key)=Sum.inr b)=decide (a=b):=by
 by_cases e:a=b
 ·subst e;simp
 ·have h: ¬ (Sum.inr a:Key)=Sum.inr b:=fun q=>e (Sum.inr.inj q)
  rw[X9 h,X9 e]
theorem xV(a:Int)(b:Str):decide ((Sum.inl a:Key)=Sum.inr b)=false:=X9 (fun q=>nomatch q)
theorem xW(a:Str)(b:Int):decide ((Sum.inr a:Key)=Sum.inl b)=false:=X9 (fun q=>nomatch q)
noncomputable def aM(prog:Program)(w:World):PySem.KeyKind prog w Key where
 is:=jt
 hash:=keyH w
 inj:=fun v a b ha hb=>by
  rcases bj ha with⟨i,t,rfl,rfl⟩|⟨x,t,rfl,rfl⟩
  ·rcases bj hb with⟨j,u,rfl,e⟩|⟨y,u,rfl,e⟩
   ·injection e with e1 _;rw[e1]
   ·exact nomatch e
  ·rcases bj hb with⟨j,u,rfl,e⟩|⟨y,u,rfl,e⟩
   ·exact nomatch e
   ·injection e with e1 _;rw[e1]
 byValue:=fun k v h=>by
  rcases bj h with⟨i,t,rfl,rfl⟩|⟨x,t,rfl,rfl⟩<;> rfl
 pyHash:=fun hv h=>by
  rcases bj hv with⟨i,t,rfl,rfl⟩|⟨x,t,rfl,rfl⟩
  ·exact wpAny_pyHash_int h
  ·exact wpAny_pyHash_str h
 eqBool:=fun hu hv h=>by
  rcases bj hu with⟨i,t,rfl,rfl⟩|⟨x,t,rfl,rfl⟩
  ·rcases bj hv with⟨j,u,rfl,rfl⟩|⟨y,u,rfl,rfl⟩
   ·rw[xT]at h;exact wpAny_eqBool_int h
   ·rw[xV]at h;exact SeqAt.EqAt.int_str i t y u _ _ _ _ h
  ·rcases bj hv with⟨j,u,rfl,rfl⟩|⟨y,u,rfl,rfl⟩
   ·rw[xW]at h;exact SeqAt.EqAt.str_int x t j u _ _ _ _ h
   ·rw[xU]at h;exact wpAny_eqBool_str h
 «strs»:=fun k x t v h=>by
  rcases bj h with⟨i,u,rfl,e⟩|⟨y,u,rfl,e⟩
  ·exact nomatch e
  ·injection e with e1 _
   subst e1;cases v<;> rfl
theorem nL(prog:Program)(w:World)(i:Int)(t:Tok):(aM prog w).is (.inl i) (.int i t)=true:=rK i t
theorem nM(prog:Program)(w:World)(x:Str)(t:Tok):(aM prog w).is (.inr x) (.str x t)=true:=eT x t
inductive V where
 | non|bl (b:Bool)|int (i:Int)|str (x:Str)|byt (b:Array UInt8)|flt (b:UInt64)|ref (a:Addr)|ty (n:String)
 deriving DecidableEq
noncomputable def aE:V->Value->Prop
 | .non,u=>u=Value.none
 | .bl b,u=>u=Value.bool b
 | .int i,u=>∃t,u=Value.int i t
 | .str x,u=>∃t,u=Value.str x t
 | .byt b,u=>∃t,u=Value.bytes b t
 | .flt b,u=>∃t,u=Value.float b t
 | .ref a,u=>u=Value.ref a
 | .ty n,u=>u=Value.type n
noncomputable abbrev aH:List V->List Value->Prop:=Paired aE
theorem aH.length{xs:List V}{us:List Value}(r:aH xs us):xs.length=us.length:=Paired.length r
theorem aH.get:∀{xs:List V} {us:List Value} {i:Nat} {x:V},aH xs us->xs[i]? =some x->∃u,us[i]? =some u/\aE x u
 | _,_,_,_,.nil,e=>by simp at e
 | _,_,0,_,.cons r _,e=>by simp at e;subst e;exact⟨_,rfl,r⟩
 | _,_,i+1,x,.cons _ t,e=>by
   obtain⟨u,h1,h2⟩:=aH.get (i:=i) (x:=x) t (by simpa using e);exact⟨u,by simpa using h1,h2⟩
theorem aH.append:∀{xs ys:List V} {us ws:List Value},aH xs us->aH ys ws->aH (xs++ys) (us++ws)
 | _,_,_,_,.nil,s=>s
 | _,_,_,_,.cons r t,s=> .cons r (aH.append t s)
theorem aH.take:∀{xs:List V} {us:List Value} (n:Nat),aH xs us->aH (xs.take n) (us.take n)
 | _,_,0,_=> .nil
 | _,_,_+1,.nil=> .nil
 | _,_,n+1,.cons r t=> .cons r (aH.take n t)
theorem aH.drop:∀{xs:List V} {us:List Value} (n:Nat),aH xs us->aH (xs.drop n) (us.drop n)
 | _,_,0,r=>r
 | _,_,_+1,.nil=> .nil
 | _,_,n+1,.cons _ t=>aH.drop n t
noncomputable def iq:Option V->Option Value->Prop
 | some v,some u=>aE v u
 | none,none=>True
 | _,_=>False
noncomputable def KV{κ:Type}:List (κ×V)->List (κ×Value)->Prop:=Paired fun(p:κ×V) (q:κ×Value)=>p.1=q.1/\aE p.2 q.2
noncomputable def kV:Key->V
 | .inl i=> .int i
 | .inr x=> .str x
inductive HO where
 | lst (xs:List V)
 | tup (xs:List V)
 | dK (kvs:List (Key×V))|dT (kvs:List (List Key×V))
 | set (S:Int->Bool) (n:Nat)
 | ins (C dx:Addr) (fs:List (Str×V))
 | own (x:Addr)
 | xd (fs:List (Str×V))
 | met (f x:Addr)
 | rng (lo hi:Int)
 | frz (o:Obj) (u:HO)
 | tbl (ps:Array Value)
 | ext (φ:Heap->Prop)
noncomputable abbrev Hp:=Addr->Option HO
noncomputable def upd(H:Hp)(a:Addr)(o:HO):Hp:=fun b=>if b=a then some o else H b
theorem aa{H:Hp}{a:Addr}{o:HO}:upd H a o a=some o:=by unfold upd;rw[if_pos rfl]
theorem ak{H:Hp}{a b:Addr}{o:HO}(h:b≠a):upd H a o b=H b:=by unfold upd;rw[if_neg h]
theorem zz{H:Hp}{a b:Addr}{o u:HO}(h:H a=some o)(h':H b=some u)(d:o≠u):a≠b:=by
 intro e;subst e;rw[h]at h';exact d (X1 h')
theorem ao{H:Hp}{a b:Addr}{o:HO}(h:H a=some o)(h':H b=none):a≠b:=by
 intro e;subst e;rw[h]at h';cases h'
section
variable(P:Program)(w:World)
noncomputable def bA(H:Hp)(h:Heap)(a:Addr):HO->Prop
 | .lst xs=>xs.length<=sizeLine/\∃(its:List Value) (n:Nat),aH xs its/\h.get? a=some {cls:= .type "list",data:= .seq its.toArray n}
 | .tup xs=>xs.length<=sizeLine/\∃its:List Value,aH xs its/\IsTup h a its.toArray
 | .dK kvs=>kvs.length<=sizeLine/\(a==sysModules)=false/\∃vs,KV kvs vs/\h.DictOf (aM P w) a vs
 | .dT kvs=>kvs.length<=sizeLine/\(a==sysModules)=false/\∃xs:List (List Key×Addr×Value),
  Paired (fun(p:List Key×V) (q:List Key×Addr×Value)=>p.1=q.1/\H q.2.1=some (.tup (p.1.map kV))/\aE p.2 q.2.2) kvs xs/\
  ∃o es ep,h.get? a=some o/\o.ExactDict/\o.data= .dict es ep/\es.toList=xs.map (entryOfKey (tupleKind (aM P w)))/\(xs.map (·.1)).Nodup
 | .set S n=>h.SetOf (intKind P w) a S n
 | .ins C dx fs=>H dx=some (.own a)/\fs.length<=1000/\dx≠a/\h.get? a=some (instObj C dx)/\
  ∃mA,h.Ns1 dx mA/\(∀f,iq (fs.lookup f) (mA f))/\PySem.Within mA (fs.map (·.1))
 | .own _=>∃o,h.get? a=some o
 | .xd fs=>∃mA,h.Ns1 a mA/\∀f,iq (fs.lookup f) (mA f)
 | .rng lo hi=>∃t u v,h.get? a=some {cls:= .type "range",data:= .fields #[.int lo t,.int hi u,.int 1 v]}
 | .frz o u=>h.get? a=some o/\bA H h a u
 | .tbl ps=>h.get? a=some {cls:= .none,data:= .fields ps}
 | .met f x=>h.get? a=some (methodObj (.ref f) (.ref x))
 | .ext φ=>φ h/\(∃o,h.get? a=some o)/\∀h1 h2:Heap,φ h1->(∀o,h1.get? a=some o->h2.get? a=some o)->φ h2
noncomputable def HOk(H:Hp)(h:Heap):Prop:=∀a o,H a=some o->bA P w H h a o
end
section
variable{P:Program}{w:World}{H H':Hp}{h h':Heap}{a:Addr}{o:HO}
theorem bA.lt(x:bA P w H h a o):a<h.objs.size:=by
 cases o with
 | lst xs=>obtain⟨_,_,_,_,e⟩:=x;exact V7 e
 | tup xs=>obtain⟨_,_,_,p⟩:=x;exact p.lt
 | dK kvs=>obtain⟨_,_,_,_,o,_,_,e,_⟩:=x;exact V7 e
 | dT kvs=>obtain⟨_,_,_,_,o,_,_,e,_⟩:=x;exact V7 e
 | set S n=>obtain⟨o,_,_,_,e,_⟩:=x;exact V7 e
 | ins C dx fs=>obtain⟨_,_,_,e,_⟩:=x;exact V7 e
 | own y=>obtain⟨_,e⟩:=x;exact V7 e
 | xd fs=>obtain⟨_,⟨_,_,_,e,_⟩,_⟩:=x;exact V7 e
 | rng lo hi=>obtain⟨_,_,_,e⟩:=x;exact V7 e
 | frz ob u=>obtain⟨e,_⟩:=x;exact V7 e
 | tbl ps=>exact V7 (show h.get? a=some _ from x)
 | met f y=>exact V7 (show h.get? a=some _ from x)
 | ext φ=>obtain⟨_,⟨_,e⟩,_⟩:=x;exact V7 e
theorem Paired.mapP{α β:Type}{F G:α->β->Prop}:∀{l₁:List α} {l₂:List β},Paired F l₁ l₂->(∀a b,F a b->G a b)->Paired G l₁ l₂
 | _,_,.nil,_=> .nil
 | _,_,.cons r t,f=> .cons (f _ _ r) (Paired.mapP t f)
theorem bA.stay(x:bA P w H h a o)(k:∀b u,(b=a\/H b=some (.own a))->h.get? b=some u->h'.get? b=some u)
 (ho:∀b,H b=some (.own a)->H' b=some (.own a)) (ht:∀b xs,H b=some (.tup xs)->H' b=some (.tup xs)):bA P w H' h' a o:=by
 induction o with
 | lst xs=>obtain⟨z,its,n,r,e⟩:=x;exact⟨z,its,n,r,k _ _ (.inl rfl) e⟩
 | tup xs=>obtain⟨z,its,r,ob,e,c⟩:=x;exact⟨z,its,r,ob,k _ _ (.inl rfl) e,c⟩
 | dK kvs=>obtain⟨z,y,vs,r,ob,es,ep,e,c⟩:=x;exact⟨z,y,vs,r,ob,es,ep,k _ _ (.inl rfl) e,c⟩
 | dT kvs=>
   obtain⟨z,y,xs,r,ob,es,ep,e,c⟩:=x;exact⟨z,y,xs,Paired.mapP r fun p q z=>⟨z.1,ht _ _ z.2.1,z.2.2⟩,ob,es,ep,k _ _ (.inl rfl) e,c⟩
 | set S n=>obtain⟨ob,es,ep,t,e,c⟩:=x;exact⟨ob,es,ep,t,k _ _ (.inl rfl) e,c⟩
 | ins C dx fs=>
   obtain⟨d,z,ne,e,mA,⟨od,es,ep,e2,c⟩,r⟩:=x;exact⟨ho _ d,z,ne,k _ _ (.inl rfl) e,mA,⟨od,es,ep,k _ _ (.inr d) e2,c⟩,r⟩
 | own y=>obtain⟨ob,e⟩:=x;exact⟨ob,k _ _ (.inl rfl) e⟩
 | xd fs=>obtain⟨mA,⟨od,es,ep,e,c⟩,r⟩:=x;exact⟨mA,⟨od,es,ep,k _ _ (.inl rfl) e,c⟩,r⟩
 | rng lo hi=>obtain⟨t,u,v,e⟩:=x;exact⟨t,u,v,k _ _ (.inl rfl) e⟩
 | frz ob u ih=>obtain⟨e,q⟩:=x;exact⟨k _ _ (.inl rfl) e,ih q⟩
 | tbl ps=>
   have e:h.get? a=some {cls:= .none,data:= .fields ps}:=x;show h'.get? a=some {cls:= .none,data:= .fields ps};exact k a _ (.inl rfl) e
 | met f y=>
   have e:h.get? a=some (methodObj (.ref f) (.ref y)):=x;show h'.get? a=some (methodObj (.ref f) (.ref y));exact k a _ (.inl rfl) e
 | ext φ=>obtain⟨p,⟨o,e⟩,st⟩:=x;exact⟨st _ _ p fun o q=>k _ _ (.inl rfl) q,⟨o,k _ _ (.inl rfl) e⟩,st⟩
theorem HOk.lt(x:HOk P w H h)(e:H a=some o):a<h.objs.size:=(x a o e).lt
theorem HOk.fresh(x:HOk P w H h)(e:h.objs.size<=a):H a=none:=by
 cases q:H a with
 | none=>rfl
 | some u=>exact absurd (X8 (x.lt q) e) (Nat.lt_irrefl _)
theorem HOk.kept(x:HOk P w H h)(k:∀b u,h.get? b=some u->h'.get? b=some u):HOk P w H h':=fun a o e=>
 (x a o e).stay (fun b u _ q=>k b u q) (fun _ q=>q) fun _ _ q=>q
theorem HOk.laid(x:HOk P w H h)(k:∀b u,h.get? b=some u->h'.get? b=some u)(hp:h.objs.size<=a)(new:bA P w (upd H a o) h' a o):HOk P w (upd H a o) h':=fun b u e=>by
 have hn:=x.fresh hp;by_cases hb:b=a
 ·subst hb;rw[aa]at e;cases e;exact new
 ·rw[ak hb]at e;exact(x b u e).stay (fun c v _ q=>k c v q) (fun c q=>by rw[ak (ao q hn)];exact q) fun c xs q=>by rw[ak (ao q hn)];exact q
end
noncomputable def Rd(H:Hp)(a:Addr)(u:HO):Prop:=H a=some u\/∃o,H a=some (.frz o u)
theorem Rd.ok{P:Program}{w:World}{H:Hp}{h:Heap}{a:Addr}{u:HO}(r:Rd H a u)(x:HOk P w H h):bA P w H h a u:=by
 rcases r with r|⟨o,r⟩
 ·exact x a u r
 ·obtain⟨_,q⟩:=x a _ r;exact q
noncomputable def Mut:Option HO->Prop
 | some (.lst _)=>True
 | some (.dK _)=>True
 | some (.dT _)=>True
 | some (.set _ _)=>True
 | some (.ins _ _ _)=>True
 | some (.ext _)=>True
 | _=>False
section
variable{P:Program}{w:World}{H:Hp}{h h':Heap}{x e:Addr}{o':HO}
theorem HOk.write(ok:HOk P w H h)(mu:Mut (H x))(he:e=x\/H e=some (.own x))(k:∀b u,b≠e->h.get? b=some u->h'.get? b=some u)(heo:∃u,h'.get? e=some u)
 (new:bA P w (upd H x o') h' x o'):HOk P w (upd H x o') h':=fun b u q=>by
 have nown:∀c y,H c=some (.own y)->c≠x:=fun c y r z=>by subst z;rw[r]at mu;exact mu
 have ntup:∀c xs,H c=some (.tup xs)->c≠x:=fun c xs r z=>by subst z;rw[r]at mu;exact mu
 by_cases hb:b=x
 ·subst hb;rw[aa]at q;cases q;exact new
 ·rw[ak hb]at q;by_cases hbe:b=e
  ·have q':H b=some (.own x):=by
    rcases he with z|z
    ·exact absurd (hbe.trans z) hb
    ·rw[hbe];exact z
   rw[q]at q';cases q';obtain⟨v,hv⟩:=heo;exact⟨v,by rw[hbe];exact hv⟩
  ·refine(ok b u q).stay (fun c v hc r=>k c v ?_ r) (fun c r=>by rw[ak (nown c b r)];exact r) fun c xs r=>by rw[ak (ntup c xs r)];exact r
   rcases hc with rfl|hc
   ·exact hbe
   ·rintro rfl;rcases he with z|z
    ·exact nown c b hc z
    ·rw[hc]at z;cases z;exact hb rfl
end
structure Un (fs ex:List Addr) (H H':Hp) (h h':Heap):Prop where
 keep:∀b o,h.get? b=some o->H b=none->b∉fs->b∉ex->h'.get? b=some o
 slot:∀b o,h.get? b=some o->H b=none->b∈fs->b∉ex->∃sl,h'.get? b=some {o with slots:=sl}
 free:∀b o,h.get? b=some o->H b=none->b∉ex->H' b=none
 there:∀b o,h.get? b=some o->b∉ex->∃o',h'.get? b=some o'
 tups:∀b xs,H b=some (.tup xs)->H' b=some (.tup xs)
 frzs:∀b o u,H b=some (.frz o u)->H' b=some (.frz o u)
 tbls:∀b ps,H b=some (.tbl ps)->∃more,H' b=some (.tbl (ps++more))
section
variable{fs fs' ex ex':List Addr}{H H1 H2:Hp}{h h1 h2 h':Heap}{a x e:Addr}{o:HO}
theorem Un.any(u:Un fs ex H H1 h h1){b:Addr}{ob:Obj}(q:h.get? b=some ob)(n:H b=none)(hx:b∉ex):∃sl,h1.get? b=some {ob with slots:=sl}:=by
 by_cases hb:b∈fs
 ·exact u.slot b ob q n hb hx
 ·exact⟨ob.slots,u.keep b ob q n hb hx⟩
theorem Un.trans(a:Un fs ex H H1 h h1)(b:Un fs ex H1 H2 h1 h2):Un fs ex H H2 h h2 where
 keep:=fun c ob q n hc hx=>b.keep c ob (a.keep c ob q n hc hx) (a.free c ob q n hx) hc hx
 slot:=fun c ob q n hc hx=>by
  obtain⟨sl,e1⟩:=a.slot c ob q n hc hx;obtain⟨sl',e2⟩:=b.slot c _ e1 (a.free c ob q n hx) hc hx;exact⟨sl',e2⟩
 free:=fun c ob q n hx=>by
  obtain⟨o',e1⟩:=a.there c ob q hx;exact b.free c o' e1 (a.free c ob q n hx) hx
 there:=fun c ob q hx=>by
  obtain⟨o',e1⟩:=a.there c ob q hx;exact b.there c o' e1 hx
 tups:=fun c xs q=>b.tups c xs (a.tups c xs q)
 frzs:=fun c ob xs q=>b.frzs c ob xs (a.frzs c ob xs q)
 tbls:=fun c ps q=>by
  obtain⟨m1,e1⟩:=a.tbls c ps q;obtain⟨m2,e2⟩:=b.tbls c _ e1;exact⟨m1++m2,by rw[e2,Array.append_assoc]⟩
theorem Un.kept(k:∀b u,h.get? b=some u->h'.get? b=some u):Un fs ex H H h h':=
 ⟨fun b ob q _ _ _=>k b ob q,fun b ob q _ _ _=>⟨ob.slots,k b ob q⟩,fun _ _ _ n _=>n,fun b ob q _=>⟨ob,k b ob q⟩,fun _ _ q=>q,fun _ _ _ q=>q,fun _ ps q=>⟨#[],by rw[q];simp⟩⟩
theorem Un.refl:Un fs ex H H h h:=Un.kept fun _ _ q=>q
theorem Un.laid(k:∀b u,h.get? b=some u->h'.get? b=some u)(hp:h.objs.size<=a)(hn:H a=none):Un fs ex H (upd H a o) h h' where
 keep:=fun b u q _ _ _=>k b u q
 slot:=fun b u q _ _ _=>⟨u.slots,k b u q⟩
 free:=fun b u q n _=>by rw[ak (V4 (X8 (V7 q) hp))];exact n
 there:=fun b u q _=>⟨u,k b u q⟩
 tups:=fun b xs q=>by rw[ak (ao q hn)];exact q
 frzs:=fun b u xs q=>by rw[ak (ao q hn)];exact q
 tbls:=fun b ps q=>⟨#[],by rw[ak (ao q hn),q];simp⟩
theorem Un.write(mu:Mut (H x))(he:e=x\/H e=some (.own x))(k:∀b u,b≠e->h.get? b=some u->h'.get? b=some u)(heo:∃u,h'.get? e=some u):Un fs ex H (upd H x o) h h':=by
 have hx:∀b,H b=none->b≠x:=fun b n z=>by subst z;rw[n]at mu;exact mu
 have hb:∀b,H b=none->b≠e:=fun b n z=>by
  subst z;rcases he with r|r
  ·exact hx b n r
  ·rw[n]at r;cases r
 have hm:∀b u,H b=some u-> ¬ Mut (some u)->b≠x:=fun b u q nm z=>by subst z;rw[q]at mu;exact nm mu
 refine⟨fun b u q n _ _=>k b u (hb b n) q,fun b u q n _ _=>⟨u.slots,k b u (hb b n) q⟩,fun b u q n _=>by rw[ak (hx b n)];exact n,fun b u q _=>?_,
  fun b xs q=>by rw[ak (hm b _ q fun z=>z)];exact q,fun b u xs q=>by rw[ak (hm b _ q fun z=>z)];exact q,fun b ps q=>⟨#[],by rw[ak (hm b _ q fun z=>z),q];simp⟩⟩
 by_cases hbe:b=e
 ·subst hbe;exact heo
 ·exact⟨u,k b u hbe q⟩
end
noncomputable def trk(h:Heap)(H:Hp):List Addr:=(List.range h.objs.size).filter fun a=>(H a).isSome
noncomputable def mJ(h:Heap)(H:Hp):Heap:=PySem.W.hideAll h (trk h H)
theorem rL(h:Heap)(H:Hp):(mJ h H).objs.size=h.objs.size:=PySem.W.hideAll_size _ _
theorem tK{h:Heap}{H:Hp}{b:Addr}{o:Obj}(e:h.get? b=some o)(n:H b=none):(mJ h H).get? b=some o:=
 PySem.W.hideAll_get _ e fun hm=>by
  have q:(H b).isSome=true:=(List.mem_filter.mp hm).2;rw[n]at q;simp at q
theorem vN{h:Heap}{H:Hp}{b:Addr}{o:Obj}(e:(mJ h H).get? b=some o):h.get? b=some o/\H b=none:=by
 have e':h.get? b=some o:=PySem.W.of_hideAll (trk h H) e;refine⟨e',?_⟩;cases q:H b with
 | none=>rfl
 | some x=>
   have hm:b∈trk h H:=List.mem_filter.mpr ⟨mem_range.mpr (V7 e'),by simp[q]⟩;have z:(mJ h H).get? b=none:=PySem.W.hideAll_none (trk h H) hm;rw[z]at e;cases e
noncomputable def vO(g h:Heap)(L:Addr):List (Addr×Obj):=(List.range h.objs.size).filterMap fun a=>if a=L\/(g.get? a).isSome=true then none else(h.get? a).map fun o=>(a,o)
noncomputable def rest(g h:Heap)(L d:Addr):List (Addr×Obj):=(vO g h L).filter fun p=>decide (p.1≠d)
structure Mod (K:PySem.W.Frag) (mg:Str->Option Value) (base:Heap):Prop where
 kin:K.In base
 glob:base.Ns mainGlobals mg
 blt:∃mb,base.Ns builtinsNs mb/\∀x:Str,x≠"__name__"->mb x=bootBuiltins x
 nolimit:base.NoLimit
structure Cx where
 prog:Program
 w:World
 K:PySem.W.Frag
 mg:Str->Option Value
 base:Heap
 A:Around
 N:List Str
 s₀:Shared
 H₀:Hp
 env:Env
 outer:List Env
 stack:List Env
 ex:List Addr
 fn:Str->Bool
 calm:Bool
 pn:List (Addr×Obj)
 xe:Value->Shared->Prop
noncomputable def frs(l:List Env):List Addr:=l.filterMap (·.frame)
noncomputable abbrev Cx.fs(X:Cx):List Addr:=frs X.outer
noncomputable def Vis(sc:Scope)(x:Str):Prop:=sc.names.lookup x=some .local\/sc.names.lookup x=some .cell\/sc.names.lookup x=some .free
noncomputable def Loc(sc:Scope)(x:Str):Prop:=sc.names.lookup x=some .local\/sc.names.lookup x=some .cell
noncomputable def Look(env:Env)(h:Heap)(m:Str->Option Value)(x:Str)(u:Value):Prop:=
 (env.kindOf x=some .local/\m x=some u)\/((env.kindOf x=some .cell\/env.kindOf x=some .free)/\∃c,env.cells.lookup x=some c/\h.IsCell c (some u))
structure Cx.Ok (X:Cx):Prop where
 mod:Mod X.K X.mg X.base
 kind:X.env.scope.kind= .function
 glob:X.env.globals=mainGlobals
 blt:X.env.builtins=builtinsNs
 above:X.s₀.heap.objs.size<=X.env.locals
 inj:∀x y c,X.env.cells.lookup x=some c->X.env.cells.lookup y=some c->x=y
 has:∀x,(X.env.kindOf x=some .cell\/X.env.kindOf x=some .free)->∃c,X.env.cells.lookup x=some c
 cab:∀x c,X.fn x=true->X.env.cells.lookup x=some c->X.s₀.heap.objs.size<=c
 hd:X.calm=true->X.A.handled=none
 frames:X.A.frames=some X.stack
 stk:X.stack=X.outer\/(X.stack=X.env::X.outer/\X.env.frame=some X.env.locals)
 exf:∀b∈X.ex,b≠X.env.locals/\∀x c,X.env.cells.lookup x=some c->c≠b
 bs:∀b o,X.base.get? b=some o->X.s₀.heap.get? b=some o/\X.H₀ b=none
 bsz:X.base.objs.size<=X.s₀.heap.objs.size
 noex:∀b o,X.base.get? b=some o->b∉X.ex
 exfs:∀b∈X.ex,b∉X.fs
 funs:X.s₀.heap.FunFrames X.base X.outer
 frf:∀b∈X.fs,X.H₀ b=none
structure Inv (X:Cx) (pins:List (Addr×Obj)) (σ:List (Option V)) (H:Hp) (s:Shared):Prop where
 ok:X.Ok
 os:s.os=X.s₀.os
 bare:AllBare s.gens
 base:Un X.fs X.ex X.H₀ H X.s₀.heap s.heap
 loc:∃m,s.heap.Ns X.env.locals m/\∀(i:Nat) (x:Str) (v:V),X.N[i]? =some x->σ[i]? =some (some v)->Vis X.env.scope x->∃u,aE v u/\Look X.env s.heap m x u
 cell:∀x c,X.env.cells.lookup x=some c->∃v,s.heap.IsCell c v
 free:H X.env.locals=none
 freeC:∀x c,X.env.cells.lookup x=some c->H c=none
 pin:∀p∈X.pn++pins,s.heap.get? p.1=some p.2/\H p.1=none/\p.1≠X.env.locals/\p.1∉X.fs/\∀v,p.2.data≠ .cell v
 hok:HOk X.prog X.w H s.heap
 len:σ.length=X.N.length
section
variable{X:Cx}{pins:List (Addr×Obj)}{σ:List (Option V)}{H H':Hp}{s:Shared}{h':Heap}
theorem Cx.Ok.nofr(ok:X.Ok){b:Addr}{o:Obj}(e:X.base.get? b=some o):b∉X.fs:=fun hb=>by
 have:=(ok.funs.mem hb).1;rw[e]at this;cases this
theorem Inv.bs(I:Inv X pins σ H s):∀b o,X.base.get? b=some o->s.heap.get? b=some o/\H b=none:=fun b o e=>
 ⟨I.base.keep b o (I.ok.bs b o e).1 (I.ok.bs b o e).2 (I.ok.nofr e) (I.ok.noex b o e),I.base.free b o (I.ok.bs b o e).1 (I.ok.bs b o e).2 (I.ok.noex b o e)⟩
theorem Inv.bk(I:Inv X pins σ H s):∀b o,X.base.get? b=some o->s.heap.get? b=some o:=fun b o e=>(I.bs b o e).1
theorem Inv.mod(I:Inv X pins σ H s):Mod X.K X.mg X.base:=I.ok.mod
theorem Inv.kIn(I:Inv X pins σ H s):X.K.In s.heap:=I.ok.mod.kin.keeps I.bk
theorem Inv.lt(I:Inv X pins σ H s):X.env.locals<s.heap.objs.size:=let⟨_,hn,_⟩:=I.loc;hn.lt
theorem Inv.sz(I:Inv X pins σ H s):X.s₀.heap.objs.size<=s.heap.objs.size:=le_trans I.ok.above (le_of_lt I.lt)
theorem Inv.nofs(I:Inv X pins σ H s){a:Addr}(h:s.heap.objs.size<=a):a∉X.fs:=fun hb=>by
 obtain⟨_,o,ho,_⟩:=I.ok.funs.mem hb;exact absurd (X8 (V7 ho) (le_trans I.sz h)) (Nat.lt_irrefl _)
theorem Inv.cne(I:Inv X pins σ H s):∀x c,X.env.cells.lookup x=some c->c≠X.env.locals:=fun x c e z=>by
 obtain⟨v,o,ho,hd⟩:=I.cell x c e;obtain⟨m,⟨o',es,ep,ho',hd',_⟩,_⟩:=I.loc;rw[z,ho']at ho;cases ho;rw[hd']at hd;cases hd
theorem Inv.funs(I:Inv X pins σ H s):s.heap.FunFrames X.base X.outer:=by
 have all:∀(l:List Env),(∀b∈frs l,b∈X.fs)->X.s₀.heap.FunFrames X.base l->s.heap.FunFrames X.base l:=by
  intro l
  induction l with
  | nil=>intro _ _;trivial
  | cons env r ih=>
    intro hs hl;obtain⟨hk,⟨L,o,hf,hn,ho,hd⟩,hr⟩:=hl;have hL:L∈X.fs:=hs L (by unfold frs;rw[filterMap_cons,hf];exact W6);obtain⟨sl,e⟩:=I.base.slot L o ho (I.ok.frf L hL) hL fun z=>I.ok.exfs L z hL
    exact⟨hk,⟨L,_,hf,hn,e,hd⟩,ih (fun b hb=>hs b (by unfold frs;rw[filterMap_cons,hf];exact W4 _ hb)) hr⟩
 exact all X.outer (fun _ hb=>hb) I.ok.funs
theorem Inv.stack(I:Inv X pins σ H s):s.heap.FunFrames X.base X.stack:=by
 rcases I.ok.stk with e|⟨e,hf⟩
 ·rw[e];exact I.funs
 ·rw[e];obtain⟨m,hn,_⟩:=I.loc;refine .cons (by rw[I.ok.kind];decide) hf hn ?_ I.funs;exact Heap.get?_none_of_le (le_trans I.ok.bsz I.ok.above)
theorem Inv.stkSub(I:Inv X pins σ H s):∀b∈frs X.stack,b∈X.env.locals::X.fs:=fun b hb=>by
 rcases I.ok.stk with e|⟨e,hf⟩
 ·rw[e]at hb;exact W4 _ hb
 ·rw[e]at hb;unfold frs at hb;rw[filterMap_cons,hf]at hb;exact hb
theorem Inv.stkFree(I:Inv X pins σ H s):∀b∈frs X.stack,H b=none:=fun b hb=>by
 rcases mem_cons.mp (I.stkSub b hb)with e|hb
 ·rw[e];exact I.free
 ·obtain⟨_,o,ho,_⟩:=I.ok.funs.mem hb;exact I.base.free b o ho (I.ok.frf b hb) fun z=>I.ok.exfs b z hb
theorem Inv.step{g':Array GenState}{t':Nat}{d':Drawn}{ch:List Addr}(I:Inv X pins σ H s)
 (hch:∀b∈ch,(b∈X.ex\/X.s₀.heap.objs.size<=b)/\b≠X.env.locals/\(∀x c,X.env.cells.lookup x=some c->c≠b)/\∀p∈X.pn++pins,p.1≠b)
 (keep:∀b o,b≠X.env.locals->b∉X.fs->b∉ch->s.heap.get? b=some o->H b=none->h'.get? b=some o)
 (slot:∀b o,b≠X.env.locals->b∈X.fs->b∉ch->s.heap.get? b=some o->H b=none->∃sl,h'.get? b=some {o with slots:=sl}) (free:∀b o,b∉ch->s.heap.get? b=some o->H b=none->H' b=none)
 (there:∀b o,b∉ch->s.heap.get? b=some o->∃o',h'.get? b=some o')
 (tups:∀b xs,H b=some (.tup xs)->H' b=some (.tup xs)) (frzs:∀b o u,H b=some (.frz o u)->H' b=some (.frz o u)) (tbls:∀b ps,H b=some (.tbl ps)->∃more,H' b=some (.tbl (ps++more)))
 (ns:∀m,s.heap.Ns X.env.locals m->h'.Ns X.env.locals m) (hok:HOk X.prog X.w H' h') (hg:AllBare g'):
 Inv X pins σ H' {s with heap:=h',gens:=g',drawn:=d',toks:=t'}:=by
 have neL:∀b o,X.s₀.heap.get? b=some o->b≠X.env.locals:=fun b o e=>V4 (X8 (V7 e) I.ok.above)
 have neC:∀b o,X.s₀.heap.get? b=some o->b∉X.ex->b∉ch:=fun b o e hx hb=>by
  rcases(hch b hb).1 with z|z
  ·exact hx z
  ·exact absurd (X8 (V7 e) z) (Nat.lt_irrefl _)
 have cellK:∀x c,X.env.cells.lookup x=some c->∀v,s.heap.IsCell c v->h'.IsCell c v:=fun x c e v ⟨o,ho,hd⟩=>by
  have nch:c∉ch:=fun z=>(hch c z).2.2.1 x c e rfl
  by_cases hc:c∈X.fs
  ·obtain⟨sl,q⟩:=slot c o (I.cne x c e) hc nch ho (I.freeC x c e);exact⟨_,q,hd⟩
  ·exact⟨o,keep c o (I.cne x c e) hc nch ho (I.freeC x c e),hd⟩
 refine⟨I.ok,I.os,hg,⟨fun b o e n hb hx=>?_,fun b o e n hb hx=>?_,fun b o e n hx=>?_,fun b o e hx=>?_,fun b xs e=>tups b xs (I.base.tups b xs e),fun b o xs e=>frzs b o xs (I.base.frzs b o xs e),fun b ps e=>?_⟩,?_,fun x c e=>?_,?_,fun x c e=>?_,fun p hp=>?_,hok,I.len⟩
 ·exact keep b o (neL b o e) hb (neC b o e hx) (I.base.keep b o e n hb hx) (I.base.free b o e n hx)
 ·obtain⟨sl,e1⟩:=I.base.slot b o e n hb hx;obtain⟨sl',e2⟩:=slot b _ (neL b o e) hb (neC b o e hx) e1 (I.base.free b o e n hx);exact⟨sl',e2⟩
 ·obtain⟨o',e1⟩:=I.base.there b o e hx;exact free b o' (neC b o e hx) e1 (I.base.free b o e n hx)
 ·obtain⟨o',e1⟩:=I.base.there b o e hx;exact there b o' (neC b o e hx) e1
 ·obtain⟨m1,e1⟩:=I.base.tbls b ps e;obtain⟨m2,e2⟩:=tbls b _ e1;exact⟨m1++m2,by rw[e2,Array.append_assoc]⟩
 ·obtain⟨m,hn,hl⟩:=I.loc;refine⟨m,ns m hn,fun i x v e1 e2 e3=>?_⟩;obtain⟨u,r,l⟩:=hl i x v e1 e2 e3;refine⟨u,r,?_⟩;rcases l with l|⟨k,c,e,z⟩
  ·exact .inl l
  ·exact .inr ⟨k,c,e,cellK x c e _ z⟩
 ·obtain⟨v,z⟩:=I.cell x c e;exact⟨v,cellK x c e v z⟩
 ·obtain⟨m,⟨o,_,_,ho,_⟩,_⟩:=I.loc;exact free _ o (fun z=>(hch _ z).2.1 rfl) ho I.free
 ·obtain⟨v,o,ho,hd⟩:=I.cell x c e;exact free c o (fun z=>(hch c z).2.2.1 x c e rfl) ho (I.freeC x c e)
 ·obtain⟨e,n,ne,nf,d⟩:=I.pin p hp;have nch:p.1∉ch:=fun z=>(hch p.1 z).2.2.2 p hp rfl
  exact⟨keep p.1 p.2 ne nf nch e n,free p.1 p.2 nch e n,ne,nf,d⟩
theorem Inv.un{t':Nat}(I:Inv X pins σ H s)(u:Un X.fs [] H H' s.heap h')(hok:HOk X.prog X.w H' h'):Inv X pins σ H' {s with heap:=h',toks:=t'}:=by
 obtain⟨m,⟨o,es,ep,ho,r⟩,_⟩:=id I.loc;obtain⟨sl,hL⟩:=u.any ho I.free (by simp);exact I.step (g':=s.gens) (d':=s.drawn) (ch:=[]) (fun _ z=>nomatch z) (fun b o _ hb _ e n=>u.keep b o e n hb (by simp)) (fun b o _ hb _ e n=>u.slot b o e n hb (by simp)) (fun b o _ e n=>u.free b o e n (by simp)) (fun b o _ e=>u.there b o e (by simp)) u.tups u.frzs u.tbls (fun m' hm=>by
  obtain⟨o',es',ep',ho',r'⟩:=hm;rw[ho]at ho';cases ho';exact⟨_,es',ep',hL,r'⟩) hok I.bare
theorem Inv.call{g':Array GenState}{t':Nat}{d':Drawn}{ch:List Addr}(I:Inv X pins σ H s)(u:Un (frs X.stack) ch H H' s.heap h')(hok:HOk X.prog X.w H' h')(hg:AllBare g')
 (hch:∀b∈ch,(b∈X.ex\/X.s₀.heap.objs.size<=b)/\b≠X.env.locals/\(∀x c,X.env.cells.lookup x=some c->c≠b)/\∀p∈X.pn++pins,p.1≠b):
 Inv X pins σ H' {s with heap:=h',gens:=g',drawn:=d',toks:=t'}:=by
 obtain⟨m,⟨o,es,ep,ho,r⟩,_⟩:=id I.loc;obtain⟨sl,hL⟩:=u.any ho I.free fun z=>(hch _ z).2.1 rfl
 exact I.step (ch:=ch) hch (fun b o hL hb hc e n=>u.keep b o e n (fun z=>(mem_cons.mp (I.stkSub b z)).elim hL hb) hc) (fun b o _ _ hc e n=>u.any e n hc) (fun b o hc e n=>u.free b o e n hc) (fun b o hc e=>u.there b o e hc) u.tups u.frzs u.tbls (fun m' hm=>by
  obtain⟨o',es',ep',ho',r'⟩:=hm;rw[ho]at ho';cases ho';exact⟨_,es',ep',hL,r'⟩) hok hg
theorem Inv.turned{t':Nat}{it:Addr}(I:Inv X pins σ H s)(k:∀b o,b≠it->s.heap.get? b=some o->h'.get? b=some o)(hn:H it=none)(hL:it≠X.env.locals)
 (h1:it∈X.ex\/X.s₀.heap.objs.size<=it) (h2:∀x c,X.env.cells.lookup x=some c->c≠it) (h3:∀p∈X.pn++pins,p.1≠it):Inv X pins σ H {s with heap:=h',toks:=t'}:=by
 have nit:∀b u,H b=some u->b≠it:=fun b u e z=>by rw[z,hn]at e;cases e
 refine I.step (g':=s.gens) (d':=s.drawn) (ch:=[it]) (fun b hb=>?_) (fun b o _ _ hc e _=>k b o (fun z=>hc (by simp[z])) e) (fun b o _ _ hc e _=>⟨o.slots,k b o (fun z=>hc (by simp[z])) e⟩) (fun _ _ _ _ n=>n)
  (fun b o hc e=>⟨o,k b o (fun z=>hc (by simp[z])) e⟩) (fun _ _ e=>e) (fun _ _ _ e=>e) (fun b ps e=>⟨#[],by rw[e];simp⟩) (fun m hm=>?_) (fun b u e=>?_) I.bare
 ·have e:b=it:=by simpa using hb
  subst e;exact⟨h1,hL,h2,h3⟩
 ·obtain⟨o,es,ep,ho,r⟩:=hm;exact⟨o,es,ep,k _ o (Ne.symm hL) ho,r⟩
 ·refine(I.hok b u e).stay (fun c v hc q=>k c v ?_ q) (fun _ q=>q) fun _ _ q=>q
  rcases hc with z|z
  ·rw[z];exact nit b u e
  ·exact nit c _ z
theorem Inv.tok(I:Inv X pins σ H s)(t:Nat):Inv X pins σ H {s with toks:=t}:=I.un (h':=s.heap) (t':=t) Un.refl I.hok
theorem Inv.kept{t':Nat}(I:Inv X pins σ H s)(k:∀b u,s.heap.get? b=some u->h'.get? b=some u):Inv X pins σ H {s with heap:=h',toks:=t'}:=I.un (Un.kept k) (I.hok.kept k)
theorem Inv.laid{a:Addr}{o:HO}{t':Nat}(I:Inv X pins σ H s)(k:∀b u,s.heap.get? b=some u->h'.get? b=some u)(hp:s.heap.objs.size<=a)(new:bA X.prog X.w (upd H a o) h' a o):
 Inv X pins σ (upd H a o) {s with heap:=h',toks:=t'}:=I.un (Un.laid k hp (I.hok.fresh hp)) (I.hok.laid k hp new)
theorem Inv.write{x e:Addr}{o:HO}{t':Nat}(I:Inv X pins σ H s)(mu:Mut (H x))(he:e=x\/H e=some (.own x))(k:∀b u,b≠e->s.heap.get? b=some u->h'.get? b=some u)(heo:∃u,h'.get? e=some u)
 (new:bA X.prog X.w (upd H x o) h' x o):Inv X pins σ (upd H x o) {s with heap:=h',toks:=t'}:=I.un (Un.write mu he k heo) (I.hok.write mu he k heo new)
theorem Inv.pins_of{pins':List (Addr×Obj)}(I:Inv X pins σ H s)(h:∀p∈pins',s.heap.get? p.1=some p.2/\H p.1=none/\p.1≠X.env.locals/\p.1∉X.fs/\∀v,p.2.data≠ .cell v):Inv X pins' σ H s:=
 ⟨I.ok,I.os,I.bare,I.base,I.loc,I.cell,I.free,I.freeC,fun p hp=>(mem_append.mp hp).elim (fun z=>I.pin p (mem_append_left _ z)) (h p),I.hok,I.len⟩
theorem j9{N:List Str}(hN:N.Nodup){i j:Nat}{x:Str}(a:N[i]? =some x)(b:N[j]? =some x):i=j:=by
 obtain⟨h1,e1⟩:=List.getElem?_eq_some_iff.mp a;obtain⟨h2,e2⟩:=List.getElem?_eq_some_iff.mp b;exact(List.getElem_inj hN).mp (e1.trans e2.symm)
theorem rM{M:Model}{A:Around}{E:Value->Shared->Prop}{i:Nat}{x:Str}{v:V}{u:Value}{Q:Unit->Shared->Prop}(I:Inv X pins σ H s)(hN:X.N.Nodup)(hi:X.N[i]? =some x)(hx:Loc X.env.scope x)(r:aE v u)
 (h:∀s',Inv X pins (σ.set i (some v)) H s'->(∃a,SameBut a s.heap s'.heap/\(a=X.env.locals\/X.env.cells.lookup x=some a))->Q () s') (hf:X.fn x=true\/X.env.scope.names.lookup x=some .local):wpAny M A (storeName X.env x u) Q E s:=by
 obtain⟨m,hn,hl⟩:=id I.loc;have hcls:(X.env.scope.kind== .class||(X.env.scope.kind== .module&&X.env.locals != X.env.globals))=false:=by rw[I.ok.kind];rfl
 have hiσ:i<σ.length:=by rw[I.len];exact(List.getElem?_eq_some_iff.mp hi).1
 have cne:=I.cne;have tracked:∀{a:Addr} {h':Heap},(∃o,s.heap.get? a=some o/\H a=none)->SameBut a s.heap h'->HOk X.prog X.w H h':=fun{a h'} ha hs b ob e=>by
  obtain⟨_,_,hfree⟩:=ha;refine(I.hok b ob e).stay (fun c w' hc q=>(hs.2 c ?_).trans q) (fun _ q=>q) fun _ _ q=>q
  rintro rfl;rcases hc with rfl|hc
  ·rw[hfree]at e;cases e
  ·rw[hfree]at hc;cases hc
 rcases hx with hk|hk
 ·refine wpAny_storeName_local hk hn (fun h' hn' hs=>?_) hcls;obtain⟨oL,_,_,hoL,_⟩:=id hn;refine h _ ⟨I.ok,I.os,I.bare,⟨fun b o e n hb hx=>?_,fun b o e n hb hx=>?_,I.base.free,fun b o e hx=>?_,I.base.tups,I.base.frzs,I.base.tbls⟩,⟨_,hn',fun j y v' e1 e2 e3=>?_⟩,fun y c e=>?_,I.free,I.freeC,fun p hp=>?_,tracked ⟨oL,hoL,I.free⟩ hs,by simpa using I.len⟩ ⟨_,hs,.inl rfl⟩
  ·exact(hs.2 b (V4 (X8 (V7 e) I.ok.above))).trans (I.base.keep b o e n hb hx)
  ·obtain⟨sl,e1⟩:=I.base.slot b o e n hb hx;exact⟨sl,(hs.2 b (V4 (X8 (V7 e) I.ok.above))).trans e1⟩
  ·obtain⟨o',e1⟩:=I.base.there b o e hx;exact⟨o',(hs.2 b (V4 (X8 (V7 e) I.ok.above))).trans e1⟩
  ·by_cases hj:j=i
   ·subst hj;rw[hi]at e1;cases e1;rw[List.getElem?_set_self hiσ]at e2;cases e2;exact⟨u,r,.inl ⟨hk,by simp⟩⟩
   ·rw[List.getElem?_set_ne (Ne.symm hj)]at e2;obtain⟨u',r',q⟩:=hl j y v' e1 e2 e3;refine⟨u',r',?_⟩;rcases q with⟨k,e⟩|⟨k,c,e,z⟩
    ·refine .inl ⟨k,?_⟩;have:y≠x:=fun e=>hj (j9 hN e1 (e▸hi))
     simp[this,e]
    ·exact .inr ⟨k,c,e,z.sameBut hs (cne y c e)⟩
  ·obtain⟨w',z⟩:=I.cell y c e;exact⟨w',z.sameBut hs (cne y c e)⟩
  ·obtain⟨e,n,ne,nf,d⟩:=I.pin p hp;exact⟨(hs.2 p.1 ne).trans e,n,ne,nf,d⟩
 ·have hfn:X.fn x=true:=by
   rcases hf with z|z
   ·exact z
   ·rw[z]at hk;cases hk
  obtain⟨c,hc⟩:=I.ok.has x (.inl hk);obtain⟨w',z⟩:=I.cell x c hc;refine wpAny_storeName_cell I.ok.kind hk hc z (fun h' hc' hs=>?_);obtain⟨oc,hoc,hocd⟩:=id z;refine h {s with heap:=h'} ⟨I.ok,I.os,I.bare,⟨fun b o e n hb hx=>?_,fun b o e n hb hx=>?_,I.base.free,fun b o e hx=>?_,I.base.tups,I.base.frzs,I.base.tbls⟩,⟨m,hn.sameBut hs (Ne.symm (cne x c hc)),fun j y v' e1 e2 e3=>?_⟩,fun y c' e=>?_,I.free,I.freeC,fun p hp=>?_,tracked ⟨oc,hoc,I.freeC x c hc⟩ hs,by simpa using I.len⟩ ⟨c,hs,.inr hc⟩
  ·exact(hs.2 b (V4 (X8 (V7 e) (I.ok.cab x c hfn hc)))).trans (I.base.keep b o e n hb hx)
  ·obtain⟨sl,e1⟩:=I.base.slot b o e n hb hx;exact⟨sl,(hs.2 b (V4 (X8 (V7 e) (I.ok.cab x c hfn hc)))).trans e1⟩
  ·obtain⟨o',e1⟩:=I.base.there b o e hx;exact⟨o',(hs.2 b (V4 (X8 (V7 e) (I.ok.cab x c hfn hc)))).trans e1⟩
  ·by_cases hj:j=i
   ·subst hj;rw[hi]at e1;cases e1;rw[List.getElem?_set_self hiσ]at e2;cases e2;exact⟨u,r,.inr ⟨.inl hk,c,hc,hc'⟩⟩
   ·rw[List.getElem?_set_ne (Ne.symm hj)]at e2;obtain⟨u',r',q⟩:=hl j y v' e1 e2 e3;refine⟨u',r',?_⟩;rcases q with q|⟨k,c',e,z'⟩
    ·exact .inl q
    ·refine .inr ⟨k,c',e,z'.sameBut hs ?_⟩;rintro rfl;exact hj (j9 hN e1 (I.ok.inj _ _ _ e hc▸hi))
  ·by_cases hcc:c'=c
   ·subst hcc;exact⟨_,hc'⟩
   ·obtain⟨w2,z2⟩:=I.cell y c' e;exact⟨w2,z2.sameBut hs hcc⟩
  ·obtain⟨e,n,ne,nf,d⟩:=I.pin p hp;refine⟨(hs.2 p.1 ?_).trans e,n,ne,nf,d⟩;intro q;rw[q,hoc]at e;have q':oc=p.2:=X1 e;exact d w' (by rw[<-q'];exact hocd)
theorem kc{M:Model}{A:Around}{E:Value->Shared->Prop}{i:Nat}{x:Str}{v:V}{u:Value}{Q:Unit->Shared->Prop}(I:Inv X pins σ H s)(hN:X.N.Nodup)(hi:X.N[i]? =some x)(hx:Loc X.env.scope x)(r:aE v u)
 (h:∀s',Inv X pins (σ.set i (some v)) H s'->Q () s') (hf:X.fn x=true\/X.env.scope.names.lookup x=some .local):wpAny M A (storeName X.env x u) Q E s:=
 rM I hN hi hx r (fun s' I' _=>h s' I') hf
theorem Inv.call'{s':Shared}{ch:List Addr}(I:Inv X pins σ H s)(ho:s'.os=s.os)(u:Un (frs X.stack) ch H H' s.heap s'.heap)(hok:HOk X.prog X.w H' s'.heap)(hg:AllBare s'.gens)
 (hch:∀b∈ch,(b∈X.ex\/X.s₀.heap.objs.size<=b)/\b≠X.env.locals/\(∀x c,X.env.cells.lookup x=some c->c≠b)/\∀p∈X.pn++pins,p.1≠b):Inv X pins σ H' s':=by
 obtain⟨h',g',d',t',o'⟩:=s';have e:o'=s.os:=ho;subst e;exact I.call (g':=g') (t':=t') (d':=d') u hok hg hch
end
noncomputable abbrev XK:=Value->Option Addr->Hp->Prop
noncomputable abbrev St:=List (Option V)
noncomputable abbrev VK:=V->Hp->Prop
noncomputable abbrev TE:=St->Hp->VK->Prop
noncomputable abbrev TT:=St->Hp->(Bool->Hp->Prop)->Prop
noncomputable abbrev TA:=St->Hp->(List V->Hp->Prop)->Prop
structure gO where
 nx:St->Hp->Prop
 rt:VK
 bk:St->Hp->Prop:=fun _ _=>False
 ct:St->Hp->Prop:=fun _ _=>False
noncomputable abbrev TS:=gO->St->Hp->Prop
noncomputable def EP(X:Cx)(pins:List (Addr×Obj))(σ:St)(Q:VK)(u:Value)(s':Shared):Prop:=∃v H',Inv X pins σ H' s'/\aE v u/\Q v H'
noncomputable def TP(X:Cx)(pins:List (Addr×Obj))(σ:St)(Q:Bool->Hp->Prop)(b:Bool)(s':Shared):Prop:=∃H',Inv X pins σ H' s'/\Q b H'
noncomputable def AP(X:Cx)(pins:List (Addr×Obj))(σ:St)(Q:List V->Hp->Prop)(us:List Value)(s':Shared):Prop:=∃vs H',Inv X pins σ H' s'/\aH vs us/\Q vs H'
noncomputable def SP(X:Cx)(pins:List (Addr×Obj))(D:gO)(f:Flow)(s':Shared):Prop:=
 match f with
 | .next=>∃σ' H',Inv X pins σ' H' s'/\D.nx σ' H'
 | .brk=>∃σ' H',Inv X pins σ' H' s'/\D.bk σ' H'
 | .cont=>∃σ' H',Inv X pins σ' H' s'/\D.ct σ' H'
 | .ret u=>∃v σ' H',Inv X pins σ' H' s'/\aE v u/\D.rt v H'
noncomputable def PE(X:Cx)(e:Expr)(t:TE):Prop:=
 ∀(pins:List (Addr×Obj)) (s:Shared) (σ:St) (H:Hp) (Q:VK),Inv X pins σ H s->t σ H Q->wpAny (model X.prog X.w) X.A (eval e X.env) (EP X pins σ Q) X.xe s
noncomputable def PT(X:Cx)(e:Expr)(t:TT):Prop:=
 ∀(pins:List (Addr×Obj)) (s:Shared) (σ:St) (H:Hp) (Q:Bool->Hp->Prop),Inv X pins σ H s->t σ H Q->wpAny (model X.prog X.w) X.A (isTrue e X.env (eval e X.env)) (TP X pins σ Q) X.xe s
noncomputable def PW(X:Cx)(e:Expr)(t:TT):Prop:=
 ∀(whole:Sem Value) (pins:List (Addr×Obj)) (s:Shared) (σ:St) (H:Hp) (Q:Bool->Hp->Prop),Inv X pins σ H s->t σ H Q->wpAny (model X.prog X.w) X.A (isTrue e X.env whole) (TP X pins σ Q) X.xe s
theorem PW.pt{X:Cx}{e:Expr}{t:TT}(h:PW X e t):PT X e t:=h _
noncomputable def PA(X:Cx)(es:List Expr)(t:TA):Prop:=
 ∀(pos:Pos) (pins:List (Addr×Obj)) (s:Shared) (σ:St) (H:Hp) (Q:List V->Hp->Prop),Inv X pins σ H s->t σ H Q->wpAny (model X.prog X.w) X.A (spliced (backTo pos (starEach es X.env))) (AP X pins σ Q) X.xe s
noncomputable def PS(X:Cx)(st:Stmt)(t:TS):Prop:=
 ∀(pins:List (Addr×Obj)) (s:Shared) (σ:St) (H:Hp) (D:gO),Inv X pins σ H s->t D σ H->wpAny (model X.prog X.w) X.A (exec st X.env) (SP X pins D) X.xe s
noncomputable def PSs(X:Cx)(st:List Stmt)(t:TS):Prop:=
 ∀(pins:List (Addr×Obj)) (s:Shared) (σ:St) (H:Hp) (D:gO),Inv X pins σ H s->t D σ H->wpAny (model X.prog X.w) X.A (execs st X.env) (SP X pins D) X.xe s
theorem thn{α:Type}{t:Sem α}{Q Q':α->Shared->Prop}{M:Model}{A:Around}{E:Value->Shared->Prop}{s:Shared}(h:wpAny M A t Q E s)(hQ:∀a s,Q a s->Q' a s):wpAny M A t Q' E s:=wpAny_mono h hQ fun _ _ x=>x
section
variable{X:Cx}
noncomputable def asI(x:V)(f:Int->Prop):Prop:=match x with| .int i=>f i|_=>False
noncomputable def asB(x:V)(f:Bool->Prop):Prop:=match x with| .bl i=>f i|_=>False
noncomputable def asR(x:V)(f:Addr->Prop):Prop:=match x with| .ref i=>f i|_=>False
theorem zA{i:Int}{f:Int->Prop}:asI (.int i) f=f i:=rfl
theorem zB{i:Bool}{f:Bool->Prop}:asB (.bl i) f=f i:=rfl
theorem zC{i:Addr}{f:Addr->Prop}:asR (.ref i) f=f i:=rfl
theorem fQ{x:V}{f:Int->Prop}(h:asI x f):∃i,x= .int i/\f i:=by
 cases x<;> first|exact⟨_,rfl,h⟩|exact h.elim
theorem lJ{x:V}{f:Bool->Prop}(h:asB x f):∃i,x= .bl i/\f i:=by
 cases x<;> first|exact⟨_,rfl,h⟩|exact h.elim
theorem nN{x:V}{f:Addr->Prop}(h:asR x f):∃i,x= .ref i/\f i:=by
 cases x<;> first|exact⟨_,rfl,h⟩|exact h.elim
theorem zD{x:V}{f:Int->Prop}:asI x f=∃i,x= .int i/\f i:=propext ⟨fQ,fun⟨_,e,q⟩=>by subst e;exact q⟩
theorem zE{x:V}{f:Bool->Prop}:asB x f=∃i,x= .bl i/\f i:=propext ⟨lJ,fun⟨_,e,q⟩=>by subst e;exact q⟩
theorem zF{x:V}{f:Addr->Prop}:asR x f=∃i,x= .ref i/\f i:=propext ⟨nN,fun⟨_,e,q⟩=>by subst e;exact q⟩
noncomputable def nO:Nat->TE
 | 0,some v::_,H,Q=>Q v H
 | i+1,_::σ,H,Q=>nO i σ H Q
 | _,_,_,_=>False
theorem xX{v:V}{σ:St}{H:Hp}{Q:VK}:nO 0 (some v::σ) H Q=Q v H:=rfl
theorem xY{i:Nat}{o:Option V}{σ:St}{H:Hp}{Q:VK}:nO (i+1) (o::σ) H Q=nO i σ H Q:=rfl
theorem tL{H:Hp}{Q:VK}:∀{i:Nat} {σ:St},nO i σ H Q->∃v,σ[i]? =some (some v)/\Q v H
 | 0,some v::_,h=>⟨v,rfl,h⟩
 | 0,none::_,h=>h.elim
 | 0,[],h=>h.elim
 | _+1,[],h=>h.elim
 | i+1,_::σ,h=>tL (i:=i) (σ:=σ) h
noncomputable def tC(v:V):TE:=fun _ H Q=>Q v H
theorem tM{i:Nat}{x:Str}{pos:Pos}(hN:X.N[i]? =some x)(hv:Vis X.env.scope x)(hd:(x==("__debug__":Str))=false)(hcd:(x==("__classdict__":Str))=false):PE X (.Name x pos) (nO i):=by
 intro pins s σ H Q I h;obtain⟨v,e,h⟩:=tL h;obtain⟨m,hn,hl⟩:=I.loc;obtain⟨u,r,l⟩:=hl i x v hN e hv;have fin:EP X pins σ Q u s:=⟨v,H,I,r,h⟩
 rcases l with⟨hk,hm⟩|⟨hk,c,hc,hcell⟩
 ·exact wpAny_Name (wpAny_loadName_local I.ok.kind hk hn hm fin) hd
 ·rcases hk with hk|hk
  ·exact wpAny_Name (wpAny_loadName_cell I.ok.kind hk hc hcell fin) hd
  ·exact wpAny_Name (wpAny_loadName_free I.ok.kind hk hc hcell fin hcd) hd
theorem xZ{i j pos}:PE X (.Constant (.int i) j pos) (tC (.int i)):=fun _ _ _ H _ I h=>wpAny_Constant_int ⟨.int i,H,I.tok _,⟨_,rfl⟩,h⟩
theorem zG{b j pos}:PE X (.Constant (.bool b) j pos) (tC (.bl b)):=fun _ _ _ H _ I h=>Constant_bool ⟨.bl b,H,I,rfl,h⟩
theorem x4{x j pos}:PE X (.Constant (.str x) j pos) (tC (.str x)):=fun _ _ _ H _ I h=>Calls.Constant_str ⟨.str x,H,I.tok _,⟨_,rfl⟩,h⟩
noncomputable def Gl(X:Cx)(x:Str):Prop:=X.env.kindOf x=some .globalImplicit
theorem mK{E:Value->Shared->Prop}{pins:List (Addr×Obj)}{s:Shared}{σ:St}{H:Hp}{x:Str}{u:Value}{pos:Pos}{Q:Value->Shared->Prop}(I:Inv X pins σ H s)(hg:Gl X x)(hm:X.mg x=some u)(h:Q u s)
 (hd:(x==("__debug__":Str))=false):wpAny (model X.prog X.w) X.A (eval (.Name x pos) X.env) Q E s:=
 Calls.Name_function_global I.ok.kind hg (Calls.loadGlobal_global (by rw[I.ok.glob];exact I.mod.glob.keeps I.bk) hm h) hd
theorem gY{E:Value->Shared->Prop}{pins:List (Addr×Obj)}{s:Shared}{σ:St}{H:Hp}{x:Str}{u:Value}{pos:Pos}{Q:Value->Shared->Prop}(I:Inv X pins σ H s)(hg:Gl X x)(hm:X.mg x=none)(hv:bootBuiltins x=some u)(h:Q u s)
 (hn:x≠"__name__":=by decide) (hd:(x==("__debug__":Str))=false:=by decide):wpAny (model X.prog X.w) X.A (eval (.Name x pos) X.env) Q E s:=by
 obtain⟨mb,h1,h2⟩:=I.mod.blt;exact Calls.Name_function_global I.ok.kind hg (Calls.loadGlobal_builtin (by rw[I.ok.glob];exact I.mod.glob.keeps I.bk) hm (by rw[I.ok.blt];exact h1.keeps I.bk) ((h2 x hn).trans hv) h) hd
theorem vP{x:Str}{v:V}{u:Value}{pos:Pos}(hg:Gl X x)(hm:X.mg x=some u)(r:aE v u)(hd:(x==("__debug__":Str))=false):PE X (.Name x pos) (tC v):=
 fun _ _ _ H _ I h=>mK I hg hm ⟨v,H,I,r,h⟩ hd
theorem vQ{x:Str}{v:V}{u:Value}{pos:Pos}(hg:Gl X x)(hm:X.mg x=none)(hv:bootBuiltins x=some u)(r:aE v u)(hn:x≠"__name__")(hd:(x==("__debug__":Str))=false):PE X (.Name x pos) (tC v):=
 fun _ _ _ H _ I h=>gY I hg hm hv ⟨v,H,I,r,h⟩ hn hd
variable{a b:Expr}{ta tb:TE}{pos:Pos}
noncomputable def PC(X:Cx)(op:CmpOp)(a b:Expr)(t:TE):Prop:=
 ∀(pins:List (Addr×Obj)) (s:Shared) (σ:St) (H:Hp) (Q:VK),Inv X pins σ H s->t σ H Q->
  wpAny (model X.prog X.w) X.A (eval a X.env) (fun v s₁=>wpAny (model X.prog X.w) X.A (eval b X.env) (fun u s₂=>wpAny (model X.prog X.w) X.A (compareOp op v u) (EP X pins σ Q) X.xe s₂) X.xe s₁) X.xe s
theorem zH(b:Expr){op:CmpOp}(h:op≠ .In)(h2:op≠ .NotIn):behindInMarks op b=false:=by
 have e1:(op==CmpOp.In)=false:=by cases op<;> first|rfl|exact absurd rfl h
 have e2:(op==CmpOp.NotIn)=false:=by cases op<;> first|rfl|exact absurd rfl h2
 cases b<;> simp[behindInMarks,e1,e2]
noncomputable def tB(t:TE):TT:=fun σ H Q=>t σ H fun x H1=>asB x fun c=>Q c H1
theorem x5{op:CmpOp}{t:TE}(h:PC X op a b t)(h1:behindInMarks op b=false):PT X (.Compare a [op] [b] pos) (tB t):=by
 intro pins s σ H Q I hw;refine wpAny_isTrue_Compare1 (thn (h pins s σ H _ I hw) fun v s1 h1=>thn h1 fun u s2 h2=>thn h2 fun c s3 ⟨x,H1,I1,r1,q1⟩=>?_) h1;obtain⟨d,rfl,q⟩:=lJ q1;cases r1;exact wpAny_truthy_bool ⟨H1,I1,q⟩
variable{tA tB':TT}{rest:List Expr}
noncomputable def vR(t u:TT):TT:=fun σ H Q=>t σ H fun c H1=>if c=true then u σ H1 Q else Q false H1
noncomputable def tOr(t u:TT):TT:=fun σ H Q=>t σ H fun c H1=>if c=true then Q true H1 else u σ H1 Q
noncomputable def x6(t:TT):TT:=fun σ H Q=>t σ H fun c H1=>Q (!c) H1
theorem vS(ha:PT X a tA):PW X (.BoolOp .And [a] pos) tA:=by
 intro wh pins s σ H Q I h;refine isTrue_and (thn (ha pins s σ H Q I h) fun c s1 e=>?_);cases c with
 | true=>exact isTrue_and_nil e
 | false=>exact e
theorem x8(ha:PT X a tA):PW X (.BoolOp .Or [a] pos) tA:=by
 intro wh pins s σ H Q I h;refine isTrue_or (thn (ha pins s σ H Q I h) fun c s1 e=>?_);cases c with
 | false=>exact isTrue_or_nil e
 | true=>exact e
theorem x9(ha:PT X a tA)(hb:PW X (.BoolOp .And (b::rest) pos) tB'):PW X (.BoolOp .And (a::b::rest) pos) (vR tA tB'):=by
 intro wh pins s σ H Q I h;refine isTrue_and (thn (ha pins s σ H _ I h) fun c s1 ⟨H1,I1,q1⟩=>?_);cases c with
 | true=>exact hb wh pins s1 σ H1 Q I1 q1
 | false=>exact⟨H1,I1,q1⟩
theorem zI(ha:PT X a tA)(hb:PW X (.BoolOp .Or (b::rest) pos) tB'):PW X (.BoolOp .Or (a::b::rest) pos) (tOr tA tB'):=by
 intro wh pins s σ H Q I h;refine isTrue_or (thn (ha pins s σ H _ I h) fun c s1 ⟨H1,I1,q1⟩=>?_);cases c with
 | true=>exact⟨H1,I1,q1⟩
 | false=>exact hb wh pins s1 σ H1 Q I1 q1
theorem ya(ha:PT X a tA):PT X (.UnaryOp .Not a pos) (x6 tA):=by
 intro pins s σ H Q I h;exact isTrue_not (ha pins s σ H (fun c H1=>Q (!c) H1) I h)
noncomputable def tN(ta tb:TE):TE:=fun σ H Q=>ta σ H fun x H1=>asB x fun c=>if c=true then tb σ H1 Q else Q (.bl false) H1
noncomputable def yb(ta tb:TE):TE:=fun σ H Q=>ta σ H fun x H1=>asB x fun c=>if c=true then Q (.bl true) H1 else tb σ H1 Q
noncomputable def zJ(ta:TE):TE:=fun σ H Q=>ta σ H fun x H1=>asB x fun c=>Q (.bl (!c)) H1
theorem yc{op}{t:TE}(h:PE X a t):PE X (.BoolOp op [a] pos) t:=fun pins s σ H Q I hw=>BoolOp_one (h pins s σ H Q I hw)
theorem yd(ha:PE X a ta)(hb:PE X (.BoolOp .And (b::rest) pos) tb):PE X (.BoolOp .And (a::b::rest) pos) (tN ta tb):=by
 intro pins s σ H Q I h;refine BoolOp_and (thn (ha pins s σ H _ I h) fun v s1 ⟨x,H1,I1,r1,q1⟩=>?_);obtain⟨c,rfl,q1⟩:=lJ q1;cases r1;refine wpAny_truthy_bool ?_;cases c with
 | true=>exact hb pins s1 σ H1 Q I1 q1
 | false=>exact⟨.bl false,H1,I1,rfl,q1⟩
theorem zK(ha:PE X a ta)(hb:PE X (.BoolOp .Or (b::rest) pos) tb):PE X (.BoolOp .Or (a::b::rest) pos) (yb ta tb):=by
 intro pins s σ H Q I h;refine BoolOp_or (thn (ha pins s σ H _ I h) fun v s1 ⟨x,H1,I1,r1,q1⟩=>?_);obtain⟨c,rfl,q1⟩:=lJ q1;cases r1;refine wpAny_truthy_bool ?_;cases c with
 | false=>exact hb pins s1 σ H1 Q I1 q1
 | true=>exact⟨.bl true,H1,I1,rfl,q1⟩
noncomputable def tIf(t:TT)(ta tb:TE):TE:=fun σ H Q=>t σ H fun c H1=>if c=true then ta σ H1 Q else tb σ H1 Q
end
noncomputable def SqL(K:PySem.W.Frag)(H:Hp)(a:Addr)(xs:List V):Prop:=
 Rd H a (.lst xs)\/
  ∃(o:Obj) (its:Array Value) (n:Nat),K.lookup a=some o/\o.cls= .type "list"/\o.dict=none/\o.data= .seq its n/\its.size<=sizeLine/\aH xs its.toList
noncomputable def SqT(K:PySem.W.Frag)(H:Hp)(a:Addr)(xs:List V):Prop:=
 Rd H a (.tup xs)\/
  ∃(o:Obj) (its:Array Value) (n:Nat),K.lookup a=some o/\o.cls= .type "tuple"/\o.data= .seq its n/\its.size<=sizeLine/\aH xs its.toList
noncomputable def absV:Value->Option V
 | .none=>some .non
 | .bool b=>some (.bl b)
 | .int i _=>some (.int i)
 | .str x _=>some (.str x)
 | .bytes b _=>some (.byt b)
 | .float b _=>some (.flt b)
 | .ref a=>some (.ref a)
 | .type n=>some (.ty n)
 | _=>none
theorem aE.abs{x:V}{u:Value}(r:aE x u):absV u=some x:=by
 cases x with
 | non=>cases r;rfl
 | bl _=>cases r;rfl
 | int _=>obtain⟨t,rfl⟩:=r;rfl
 | str _=>obtain⟨t,rfl⟩:=r;rfl
 | byt _=>obtain⟨t,rfl⟩:=r;rfl
 | flt _=>obtain⟨t,rfl⟩:=r;rfl
 | ref _=>cases r;rfl
 | ty _=>cases r;rfl
theorem aE.inj{x y:V}{u:Value}(r:aE x u)(q:aE y u):x=y:=X1 (r.abs.symm.trans q.abs)
theorem aH.inj:∀{xs ys:List V} {us:List Value},aH xs us->aH ys us->xs=ys
 | _,_,_,.nil,.nil=>rfl
 | _,_,_,.cons r t,.cons r' t'=>by rw[r.inj r',aH.inj t t']
section
variable{X:Cx}{pins:List (Addr×Obj)}{σ:St}{H:Hp}{s:Shared}{a:Addr}{xs ys:List V}
theorem SqL.of{K:PySem.W.Frag}(h:H a=some (.lst xs)):SqL K H a xs:= .inl (.inl h)
theorem SqT.of{K:PySem.W.Frag}(h:H a=some (.tup xs)):SqT K H a xs:= .inl (.inl h)
theorem Inv.list(I:Inv X pins σ H s)(h:SqL X.K H a xs):∃its:List Value,aH xs its/\PlainL s.heap a its.toArray/\xs.length<=sizeLine:=by
 rcases h with h|⟨o,its,n,hk,hc,hd,hs,hz,r⟩
 ·obtain⟨z,its,n,r,e⟩:=h.ok I.hok;exact⟨its,r,⟨_,n,e,rfl,rfl,rfl⟩,z⟩
 ·refine⟨its.toList,r,⟨o,n,I.kIn a o hk,hc,hd,by simpa using hs⟩,?_⟩;have e:=r.length;simp only[X2]at e
  lia
theorem Inv.tuple(I:Inv X pins σ H s)(h:SqT X.K H a xs):∃its:List Value,aH xs its/\IsTup s.heap a its.toArray/\xs.length<=sizeLine:=by
 rcases h with h|⟨o,its,n,hk,hc,hs,hz,r⟩
 ·obtain⟨z,its,r,p⟩:=h.ok I.hok;exact⟨its,r,p,z⟩
 ·refine⟨its.toList,r,⟨o,I.kIn a o hk,hc,n,by simpa using hs⟩,?_⟩;have e:=r.length;simp only[X2]at e
  lia
theorem Inv.list_inj(I:Inv X pins σ H s)(h:SqL X.K H a xs)(h':SqL X.K H a ys):xs=ys:=by
 obtain⟨its,r,⟨o,n,e,_,_,d⟩,_⟩:=I.list h;obtain⟨its',r',⟨o',n',e',_,_,d'⟩,_⟩:=I.list h';rw[e]at e';cases e';rw[d]at d';injection d' with d1 _
 have:its=its':=by simpa using congrArg Array.toList d1
 subst this;exact r.inj r'
theorem Inv.tuple_inj(I:Inv X pins σ H s)(h:SqT X.K H a xs)(h':SqT X.K H a ys):xs=ys:=by
 obtain⟨its,r,⟨o,e,_,n,d⟩,_⟩:=I.tuple h;obtain⟨its',r',⟨o',e',_,n',d'⟩,_⟩:=I.tuple h';rw[e]at e';cases e';rw[d]at d';injection d' with d1 _
 have:its=its':=by simpa using congrArg Array.toList d1
 subst this;exact r.inj r'
end
noncomputable abbrev Cx.wish(X:Cx)(E:Value->Shared->Prop):Cx:={X with xe:=E}
noncomputable abbrev Cx.nox(X:Cx):Cx:=X.wish fun _ _=>False
theorem Cx.Ok.wish{X:Cx}(ok:X.Ok)(E:Value->Shared->Prop):(X.wish E).Ok:=
 ⟨ok.mod,ok.kind,ok.glob,ok.blt,ok.above,ok.inj,ok.has,ok.cab,ok.hd,ok.frames,ok.stk,ok.exf,ok.bs,ok.bsz,ok.noex,ok.exfs,ok.funs,ok.frf⟩
theorem Cx.Ok.unwish{X:Cx}{E:Value->Shared->Prop}(ok:(X.wish E).Ok):X.Ok:=
 ⟨ok.mod,ok.kind,ok.glob,ok.blt,ok.above,ok.inj,ok.has,ok.cab,ok.hd,ok.frames,ok.stk,ok.exf,ok.bs,ok.bsz,ok.noex,ok.exfs,ok.funs,ok.frf⟩
section
variable{X:Cx}{pins:List (Addr×Obj)}{σ:St}{H:Hp}{s:Shared}{E:Value->Shared->Prop}
theorem Inv.wish(I:Inv X pins σ H s)(E:Value->Shared->Prop):Inv (X.wish E) pins σ H s:=⟨I.ok.wish E,I.os,I.bare,I.base,I.loc,I.cell,I.free,I.freeC,I.pin,I.hok,I.len⟩
theorem Inv.unwish(I:Inv (X.wish E) pins σ H s):Inv X pins σ H s:=⟨I.ok.unwish,I.os,I.bare,I.base,I.loc,I.cell,I.free,I.freeC,I.pin,I.hok,I.len⟩
theorem SP.unwish{D:gO}{f:Flow}{s':Shared}(h:SP (X.wish E) pins D f s'):SP X pins D f s':=by
 cases f with
 | next=>obtain⟨σ',H',I,q⟩:=h;exact⟨σ',H',I.unwish,q⟩
 | brk=>obtain⟨σ',H',I,q⟩:=h;exact⟨σ',H',I.unwish,q⟩
 | cont=>obtain⟨σ',H',I,q⟩:=h;exact⟨σ',H',I.unwish,q⟩
 | ret u=>obtain⟨v,σ',H',I,r,q⟩:=h;exact⟨v,σ',H',I.unwish,r,q⟩
theorem PSs.nox{st:List Stmt}{t:TS}(h:PSs X.nox st t):PSs X st t:=fun pins s σ H D I hw=>
 wpAny_mono (h pins s σ H D (I.wish _) hw) (fun _ _ q=>q.unwish) fun _ _ z=>False.elim z
end
section
variable{X:Cx}{st:Stmt}{rest:List Stmt}{t u:TS}{e:Expr}{te:TE}{pos:Pos}
noncomputable def tO:TS:=fun D σ H=>D.nx σ H
noncomputable def cf(t u:TS):TS:=fun D σ H=>t {D with nx:=u D} σ H
theorem vT:PSs X [] tO:=fun _ _ σ H _ I h=>wpAny_execs_nil ⟨σ,H,I,h⟩
theorem tP(h1:PS X st t)(h2:PSs X rest u):PSs X (st::rest) (cf t u):=by
 intro pins s σ H D I h;refine wpAny_execs_cons (thn (h1 pins s σ H {D with nx:=u D} I h) fun f s1 q=>?_);cases f with
 | next=>
   obtain⟨σ',H',I',q⟩:=q;exact h2 pins s1 σ' H' D I' q
 | ret v=>exact q
 | brk=>exact q
 | cont=>exact q
theorem vU(h1:PS X st t):PSs X [st] t:=by
 intro pins s σ H D I h;refine wpAny_execs_cons (thn (h1 pins s σ H D I h) fun f s1 q=>?_);cases f with
 | next=>exact wpAny_execs_nil q
 | ret v=>exact q
 | brk=>exact q
 | cont=>exact q
theorem Inv.quiet{pins:List (Addr×Obj)}{σ:St}{H:Hp}{s:Shared}(I:Inv X pins σ H s):interactive X.env=false:=by simp[interactive,I.ok.kind]
noncomputable def ke(te:TE):TS:=fun D σ H=>te σ H fun _ H1=>D.nx σ H1
theorem vV(he:PE X e te)(hs:swapsWith e none pos.line X.env=pure false):PS X (.Expr e pos) (ke te):=by
 intro pins s σ H D I h;exact wpAny_Expr_any (thn (he pins s σ H _ I h) fun v s1 ⟨x,H1,I1,r1,q1⟩=>⟨σ,H1,I1,q1⟩) I.quiet hs
noncomputable def kf(te:TE):TS:=fun D σ H=>te σ H D.rt
theorem ye(he:PE X e te):PS X (.Return (some e) pos) (kf te):=by
 intro pins s σ H D I h;exact wpAny_Return_some (thn (he pins s σ H _ I h) fun v s1 ⟨x,H1,I1,r1,q1⟩=>⟨x,σ,H1,I1,r1,q1⟩)
noncomputable def zL:TS:=fun D _ H=>D.rt .non H
noncomputable def i4(c:TT)(t u:TS):TS:=fun D σ H=>c σ H fun b H1=>if b=true then t D σ H1 else u D σ H1
theorem zM{c:Expr}{a b:List Stmt}{tc:TT}(hc:PT X c tc)(ha:PSs X a t)(hb:PSs X b u):PS X (.If c a b pos) (i4 tc t u):=by
 intro pins s σ H D I h;refine wpAny_If (thn (hc pins s σ H _ I h) fun d s1 ⟨H1,I1,q1⟩=>?_);cases d with
 | true=>exact ha pins s1 σ H1 D I1 q1
 | false=>exact hb pins s1 σ H1 D I1 q1
noncomputable def tQ:TS:=fun _ _ _=>False
theorem tR:PS X st tQ:=fun _ _ _ _ _ _ h=>h.elim
end
noncomputable abbrev TG:=V->St->Hp->(St->Hp->Prop)->Prop
noncomputable abbrev TGs:=List V->St->Hp->(St->Hp->Prop)->Prop
noncomputable def PG(X:Cx)(target:Expr)(t:TG):Prop:=
 ∀(pins:List (Addr×Obj)) (s:Shared) (σ:St) (H:Hp) (v:V) (u:Value) (Q:St->Hp->Prop),Inv X pins σ H s->aE v u->t v σ H Q->
  wpAny (model X.prog X.w) X.A (assign target X.env u) (fun _ s'=>∃σ' H',Inv X pins σ' H' s'/\Q σ' H') X.xe s
noncomputable def PGs(X:Cx)(ts:List Expr)(t:TGs):Prop:=
 ∀(pins:List (Addr×Obj)) (s:Shared) (σ:St) (H:Hp) (vs:List V) (us:List Value) (Q:St->Hp->Prop),Inv X pins σ H s->aH vs us->t vs σ H Q->
  wpAny (model X.prog X.w) X.A (assignInOrder ((assignEach ts X.env).map (·.2)) us) (fun _ s'=>∃σ' H',Inv X pins σ' H' s'/\Q σ' H') X.xe s
noncomputable abbrev TSet:=V->V->V->Hp->(Hp->Prop)->Prop
section
variable{X:Cx}{pos:Pos}
noncomputable def ju(i:Nat):TG:=fun v σ H Q=>Q (σ.set i (some v)) H
theorem vW{i:Nat}{x:Str}(hN:X.N.Nodup)(hi:X.N[i]? =some x)(hx:Loc X.env.scope x)(hf:X.fn x=true\/X.env.scope.names.lookup x=some .local):PG X (.Name x pos) (ju i):=by
 intro pins s σ H v u Q I r h;exact wpAny_assign_Name (kc I hN hi hx r (fun s' I'=>⟨_,H,I',h⟩) hf)
noncomputable def yf:TGs:=fun vs σ H Q=>vs=[]/\Q σ H
noncomputable def tT(t:TG)(u:TGs):TGs:=fun vs σ H Q=>∃v r,vs=v::r/\t v σ H fun σ' H'=>u r σ' H' Q
theorem vX:PGs X [] yf:=by
 intro pins s σ H vs us Q I r h;obtain⟨e,h⟩:=h;subst e;cases r;exact assignInOrder_nil ⟨σ,H,I,h⟩
theorem tU{e:Expr}{es:List Expr}{t:TG}{u:TGs}(h1:PG X e t)(h2:PGs X es u)
 (hs:(assignEach (e::es) X.env).map (·.2)=assign e X.env::(assignEach es X.env).map (·.2)):PGs X (e::es) (tT t u):=by
 intro pins s σ H vs us Q I r h;obtain⟨v,vr,e1,h⟩:=h;subst e1;cases r with
 | cons r rr=>
   rw[hs];refine assignInOrder_cons (thn (h1 pins s σ H _ _ _ I r h) fun _ s1 ⟨σ1,H1,I1,q1⟩=>?_);exact h2 pins s1 σ1 H1 _ _ Q I1 rr q1
noncomputable def vY(K:PySem.W.Frag)(n:Nat)(t:TGs):TG:=fun v σ H Q=>asR v fun a=>∃xs,SqT K H a xs/\xs.length=n/\t xs σ H Q
theorem yg{es:List Expr}{k:Nat}{t:TGs}{n:Nat}(hc:X.calm=true)(h:PGs X es t)
 (hn:(assignEach es X.env).length=n) (hst:(assignEach es X.env).findIdx? (·.1)=none):PG X (.Tuple es k pos) (vY X.K n t):=by
 intro pins s σ H v u Q I r hw;obtain⟨a,e1,xs,hq,hl,hw⟩:=nN hw;clear ‹vY _ _ _ _ _ _ _›;subst e1;cases r;obtain⟨its,rv,ht,hz⟩:=I.tuple hq;refine assign_Tuple_tuple (I.ok.hd hc) ht (by simp[hn,<-hl,rv.length]) hst fun h' hx=>?_
 have I1:Inv X pins σ H {s with heap:=h'}:=I.kept (t':=s.toks) fun b o e=>hx b o (V4 (V7 e)) e
 exact h pins _ σ H xs _ Q I1 (by simpa using rv) hw
noncomputable def gSub(to ti:TE)(t:TSet):TG:=fun v σ H Q=>to σ H fun o H1=>ti σ H1 fun i H2=>t o i v H2 fun H3=>Q σ H3
noncomputable def nP(te:TE)(g:TG):TS:=fun D σ H=>te σ H fun x H1=>g x σ H1 D.nx
theorem yh{tg e:Expr}{te:TE}{g:TG}(he:PE X e te)(hg:PG X tg g)(hs:swapsWithSole [tg] e pos.line X.env=pure false)(hw:swappedStores [tg] e X.env=pure none)
 (h1:(assignEach [tg] X.env).map (·.2)=[assign tg X.env]):PS X (.Assign [tg] e pos) (nP te g):=by
 intro pins s σ H D I h;refine wpAny_Assign_stores (thn (he pins s σ H _ I h) fun v s1 ⟨x,H1,I1,r1,q1⟩=>?_) hs hw;rw[h1];exact thn (hg pins s1 σ H1 x v _ I1 r1 q1) fun _ s2 q=>q
theorem tV{i:Nat}{x:Str}{e:Expr}{te:TE}{pos':Pos}(hN:X.N.Nodup)(hi:X.N[i]? =some x)(hx:Loc X.env.scope x)(he:PE X e te)(hs:swapsWith e (some (.Name x pos')) pos.line X.env=pure false)(hf:X.fn x=true\/X.env.scope.names.lookup x=some .local):
 PS X (.Assign [.Name x pos'] e pos) (nP te (ju i)):=by
 intro pins s σ H D I h;refine wpAny_Assign_Name (thn (he pins s σ H _ I h) fun v s1 ⟨y,H1,I1,r1,q1⟩=>?_) hs;exact kc I1 hN hi hx r1 (fun s2 I2=>⟨_,H1,I2,q1⟩) hf
end
section
variable{X:Cx}{pos:Pos}
end
structure It where
 go:Nat->Hp->Prop
 yld:Nat->Hp->V->Hp->Prop
 stop:Nat->Hp->Prop
noncomputable def jL(X:Cx)(pins:List (Addr×Obj))(H:Hp)(b:Addr):Prop:=
 H b=none/\b≠X.env.locals/\b∉X.fs/\(b∈X.ex\/X.s₀.heap.objs.size<=b)/\(∀x c,X.env.cells.lookup x=some c->c≠b)/\∀p∈X.pn++pins,p.1≠b
theorem Inv.fpOk{X:Cx}{pins:List (Addr×Obj)}{σ:St}{H H':Hp}{s:Shared}{b:Addr}(I:Inv X pins σ H s)(hb:s.heap.objs.size<=b)(hn:H' b=none):jL X pins H' b:=by
 refine⟨hn,ne_of_gt (X8 I.lt hb),I.nofs hb,.inr (le_trans I.sz hb),fun x c e z=>?_,fun p hp z=>?_⟩
 ·obtain⟨v,q⟩:=I.cell x c e;exact absurd (X8 q.lt (by rw[z];exact hb)) (Nat.lt_irrefl _)
 ·exact absurd (X8 (V7 (I.pin p hp).1) (by rw[z];exact hb)) (Nat.lt_irrefl _)
structure mL (P:Program) (w:World) (K:PySem.W.Frag) (tg:Expr) (J:It) (fp:List Addr) (it:Addr) (tn:Nat->Heap->Prop):Prop where
 mem:it∈fp
 obj:∀i h,tn i h->∀b∈fp,∃o,h.get? b=some o/\∀v,o.data≠ .cell v
 keep:∀i h h',tn i h->(∀b∈fp,∀o,h.get? b=some o->h'.get? b=some o)->tn i h'
 item:∀(X:Cx),X.prog=P->X.w=w->X.K=K->X.calm=true->∀(i:Nat) (pins:List (Addr×Obj)) (s:Shared) (σ:St) (H:Hp) (E:Value->Shared->Prop),Inv X pins σ H s->(∀b∈fp,jL X pins H b)->tn i s.heap->J.go i H->
  wpAny (model P w) X.A (pyNext (.ref it)) (fun r s1=>∃u,r=some u/\
   wpAny (model P w) X.A (letOwnedTupleGo tg (.ref it) u) (fun _ s2=>∃x H',Inv X pins σ H' s2/\aE x u/\J.yld i H x H'/\tn (i+1) s2.heap/\∀b∈fp,H' b=none) E s1) E s
 done:∀(X:Cx),X.prog=P->X.w=w->X.K=K->X.calm=true->∀(i:Nat) (pins:List (Addr×Obj)) (s:Shared) (σ:St) (H:Hp) (E:Value->Shared->Prop),Inv X pins σ H s->(∀b∈fp,jL X pins H b)->tn i s.heap->J.stop i H->
  wpAny (model P w) X.A (pyNext (.ref it)) (fun r s1=>r=none/\Inv X pins σ H s1) E s
 self:∀(A:Around) (i:Nat) (s:Shared) (Q:Value->Shared->Prop) (E:Value->Shared->Prop),tn i s.heap->Q (.ref it) s->wpAny (model P w) A (pyIter (.ref it)) Q E s
noncomputable abbrev TI:=St->Hp->(It->Hp->Prop)->Prop
noncomputable def PIE(X:Cx)(pins:List (Addr×Obj))(σ:St)(tg:Expr)(R:It->Hp->Prop)(itv:Value)(s2:Shared):Prop:=
 ∃(it:Addr) (fp:List Addr) (tn:Nat->Heap->Prop) (J:It) (H':Hp),itv= .ref it/\Inv X pins σ H' s2/\mL X.prog X.w X.K tg J fp it tn/\tn 0 s2.heap/\(∀b∈fp,jL X pins H' b)/\R J H'
noncomputable def PI(X:Cx)(tg iter:Expr)(wi:TI):Prop:=
 ∀(pins:List (Addr×Obj)) (s:Shared) (σ:St) (H:Hp) (R:It->Hp->Prop),Inv X pins σ H s->wi σ H R->
  wpAny (model X.prog X.w) X.A (eval iter X.env) (fun v s1=>wpAny (model X.prog X.w) X.A (pyIter v) (PIE X pins σ tg R) X.xe s1) X.xe s
theorem nQ{M:Model}{A:Around}{E:Value->Shared->Prop}{s:Shared}{tg:Expr}{it:Addr}{u:Value}{o:Obj}{n:String}{vs:Array Value}{Q:Unit->Shared->Prop}(ho:s.heap.get? it=some o)(hc:o.cls= .type n)(hd:o.data= .fields vs)
 (hn:["enumerate","zip","dict_itemiterator","dict_reverseitemiterator","odict_iterator","itertools.zip_longest","itertools.pairwise"].contains n=false) (hQ:Q () s):wpAny M A (letOwnedTupleGo tg (.ref it) u) Q E s:=by
 unfold letOwnedTupleGo;cases tg<;> first
  | exact Y3 hQ
  |(cases u<;> first
   | exact Y3 hQ
   |(refine Y2 (wpAny_load ho ?_)
     rw[hc,hd];show wpAny M A (if(["enumerate","zip","dict_itemiterator","dict_reverseitemiterator","odict_iterator","itertools.zip_longest","itertools.pairwise"].contains n&&vs[0]? ==some (rawInt _))=true then _ else _) Q E s;rw[if_neg (by intro h;rw[hn,Bool.false_and]at h;cases h)];exact Y3 hQ))
noncomputable def Itl(K:PySem.W.Frag)(a:Addr):It:=
 ⟨fun i H=>∃xs x,SqL K H a xs/\xs[i]? =some x,fun i H x H'=>H'=H/\∀xs,SqL K H a xs->xs[i]? =some x,fun i H=>∃xs,SqL K H a xs/\xs.length<=i⟩
noncomputable def Itt(K:PySem.W.Frag)(a:Addr):It:=
 ⟨fun i H=>∃xs x,SqT K H a xs/\xs[i]? =some x,fun i H x H'=>H'=H/\∀xs,SqT K H a xs->xs[i]? =some x,fun i H=>∃xs,SqT K H a xs/\xs.length<=i⟩
noncomputable def Itr(lo:Int)(n:Nat):It:=⟨fun i _=>i<n,fun i H x H'=>H'=H/\x= .int (lo+i),fun i _=>n<=i⟩
theorem rN{P:Program}{w:World}{K:PySem.W.Frag}{tg:Expr}(a it:Addr):mL P w K tg (Itl K a) [it] it (fun i h=>h.IsListIter it a i) where
 mem:=by simp
 obj:=fun i h st b hb=>by
  have e:b=it:=by simpa using hb
  subst e;obtain⟨o,e,c,d⟩:=st;exact⟨o,e,fun v z=>by rw[d]at z;cases z⟩
 keep:=fun i h h' st k=>st.at fun o e=>k it (by simp) o e
 item:=by
  intro X hP hw hK hc i pins s σ H E I hf st hg;subst hP hw hK;obtain⟨xs,x,hq,hx⟩:=hg;obtain⟨its,rv,p,hz⟩:=I.list hq;obtain⟨u,hu,ru⟩:=rv.get hx;obtain⟨f0,f1,f2,f3,f4,f5⟩:=hf it (by simp);refine wpAny_pyNext_list_item st p.isList (x:=u) (by simpa using hu) fun h' st' sb=>?_
  have I1:Inv X pins σ H {s with heap:=h'}:=I.turned (t':=s.toks) (fun b o hb e=>(sb.2 b hb).trans e) f0 f1 f3 f4 f5;obtain⟨o,e,c,d⟩:=id st';exact⟨u,rfl,nQ (s:={s with heap:=h'}) e c d (by decide) ⟨x,H,I1,ru,⟨rfl,fun ys hy=>by rw[I.list_inj hy hq];exact hx⟩,st',fun b hb=>(hf b hb).1⟩⟩
 done:=by
  intro X hP hw hK hc i pins s σ H E I hf st hg;subst hP hw hK;obtain⟨xs,hq,hx⟩:=hg;obtain⟨its,rv,p,hz⟩:=I.list hq;obtain⟨f0,f1,f2,f3,f4,f5⟩:=hf it (by simp);have hl:=rv.length;exact wpAny_pyNext_list_end (I.ok.hd hc) st p.isList (by simp;lia) fun h' eb=>⟨rfl,I.turned (t':=s.toks) (fun b o hb e=>eb b o hb e) f0 f1 f3 f4 f5⟩
 self:=fun _ _ _ _ _ st h=>wpAny_pyIter_listiter st h
theorem pJ{P:Program}{w:World}{K:PySem.W.Frag}{tg:Expr}(a it:Addr):mL P w K tg (Itt K a) [it] it (fun i h=>h.IsTupleIter it a i) where
 mem:=by simp
 obj:=fun i h st b hb=>by
  have e:b=it:=by simpa using hb
  subst e;obtain⟨o,e,c,d⟩:=st;exact⟨o,e,fun v z=>by rw[d]at z;cases z⟩
 keep:=fun i h h' st k=>st.at fun o e=>k it (by simp) o e
 item:=by
  intro X hP hw hK hc i pins s σ H E I hf st hg;subst hP hw hK;obtain⟨xs,x,hq,hx⟩:=hg;obtain⟨its,rv,p,hz⟩:=I.tuple hq;obtain⟨u,hu,ru⟩:=rv.get hx;obtain⟨f0,f1,f2,f3,f4,f5⟩:=hf it (by simp);refine wpAny_pyNext_tuple_item st (show s.heap.IsTuple a its.toArray from p) (x:=u) (by simpa using hu) fun h' st' sb=>?_
  have I1:Inv X pins σ H {s with heap:=h'}:=I.turned (t':=s.toks) (fun b o hb e=>(sb.2 b hb).trans e) f0 f1 f3 f4 f5;obtain⟨o,e,c,d⟩:=id st';exact⟨u,rfl,nQ (s:={s with heap:=h'}) e c d (by decide) ⟨x,H,I1,ru,⟨rfl,fun ys hy=>by rw[I.tuple_inj hy hq];exact hx⟩,st',fun b hb=>(hf b hb).1⟩⟩
 done:=by
  intro X hP hw hK hc i pins s σ H E I hf st hg;subst hP hw hK;obtain⟨xs,hq,hx⟩:=hg;obtain⟨its,rv,p,hz⟩:=I.tuple hq;obtain⟨f0,f1,f2,f3,f4,f5⟩:=hf it (by simp);have hl:=rv.length;exact wpAny_pyNext_tuple_end (I.ok.hd hc) st (show s.heap.IsTuple a its.toArray from p) (by simp;lia) fun h' eb=>⟨rfl,I.turned (t':=s.toks) (fun b o hb e=>eb b o hb e) f0 f1 f3 f4 f5⟩
 self:=fun _ _ _ _ _ st h=>wpAny_pyIter_tupleiter st h
theorem pK{P:Program}{w:World}{K:PySem.W.Frag}{tg:Expr}(it:Addr)(lo:Int)(n:Nat):mL P w K tg (Itr lo n) [it] it (fun i h=>IsRangeIter h it (lo+(i:Nat)*1) ((n:Int) -(i:Nat)) 1) where
 mem:=by simp
 obj:=fun i h st b hb=>by
  have e:b=it:=by simpa using hb
  subst e;exact⟨_,st,fun v z=>by
   have z':Data.fields _=Data.cell v:=z;cases z'⟩
 keep:=fun i h h' st k=>k it (by simp) _ st
 item:=by
  intro X hP hw hK hc i pins s σ H E I hf st hg;subst hP hw hK;obtain⟨f0,f1,f2,f3,f4,f5⟩:=hf it (by simp);have W:=Walks.range (prog:=X.prog) (w:=X.w) (I.ok.hd hc) it lo 1 n;refine W.item i s _ _ hg st fun v h' tk hv st' kk=>?_
  obtain⟨t,rfl⟩:=hv;have I1:Inv X pins σ H {s with heap:=h',toks:=tk}:=I.turned (fun b o hb e=>kk b o (by simpa using hb) e) f0 f1 f3 f4 f5;refine⟨_,rfl,nQ (s:={s with heap:=h',toks:=tk}) (n:="range_iterator") st' rfl rfl (by decide) ⟨.int (lo+i),H,I1,⟨t,?_⟩,⟨rfl,rfl⟩,st',fun b hb=>(hf b hb).1⟩⟩;rw[Int.mul_one]
 done:=by
  intro X hP hw hK hc i pins s σ H E I hf st hg;subst hP hw hK;obtain⟨f0,f1,f2,f3,f4,f5⟩:=hf it (by simp);exact wpAny_pyNext_range_end (I.ok.hd hc) st (by have:n<=i:=hg;lia) fun h' eb=>⟨rfl,I.turned (t':=s.toks) (fun b o hb e=>eb b o hb e) f0 f1 f3 f4 f5⟩
 self:=fun _ _ _ _ _ st h=>wpAny_pyIter_rangeiter st h
section
variable{X:Cx}{tg:Expr}
theorem tW{pins:List (Addr×Obj)}{σ:St}{H:Hp}{s:Shared}{R:It->Hp->Prop}{E:Value->Shared->Prop}{lo hi:Int}{t u v:Tok}{tk:Nat}(I:Inv X pins σ H s)(h1: -(2^62)<=lo)(h2:lo<2^62)(h3: -(2^62)<=hi)(h4:hi<2^62)
 (q:R (Itr lo (hi-lo).toNat) H):wpAny (model X.prog X.w) X.A (pyIter (.ref s.heap.objs.size)) (PIE X pins σ tg R) E {s with heap:=s.heap.push {cls:= .type "range",data:= .fields #[.int lo t,.int hi u,.int 1 v]},toks:=tk}:=by
 refine wpAny_pyIter_range (IsRange.new ..) (small_one h1 h2 h3 h4) ?_;have I1:Inv X pins σ H {s with heap:=s.heap.push {cls:= .type "range",data:= .fields #[.int lo t,.int hi u,.int 1 v]},toks:=tk}:=I.kept fun b o e=>Y7 _ e
 refine⟨(s.heap.push {cls:= .type "range",data:= .fields #[.int lo t,.int hi u,.int 1 v]}).objs.size,[(s.heap.push {cls:= .type "range",data:= .fields #[.int lo t,.int hi u,.int 1 v]}).objs.size],_,_,H,rfl,
  I1.kept (t':=tk) fun b o e=>Y7 _ e,pK _ lo (hi-lo).toNat,?_,fun b hb=>?_,q⟩
 ·have e1:lo+((0:Nat):Int)*1=lo:=by simp
  have e2:(((hi-lo).toNat:Nat):Int) -((0:Nat):Int)=Builtin.Range.rangeSize lo hi 1:=by rw[rangeSize_one];split<;> lia
  show IsRangeIter _ _ (lo+((0:Nat):Int)*1) ((((hi-lo).toNat:Nat):Int) -((0:Nat):Int)) 1;rw[e1,e2];exact W3 _ rfl
 ·have e:b=(s.heap.push {cls:= .type "range",data:= .fields #[.int lo t,.int hi u,.int 1 v]}).objs.size:=by simpa using hb
  subst e;exact I1.fpOk (W1 _) (I1.hok.fresh (W1 _))
noncomputable def tX(ta:TA):TI:=fun σ H R=>ta σ H fun vs H1=>∃j:Int,vs=[.int j]/\ -(2^62)<=j/\j<2^62/\R (Itr 0 j.toNat) H1
noncomputable def zN(ta:TA):TI:=fun σ H R=>ta σ H fun vs H1=>∃i j:Int,vs=[.int i,.int j]/\(-(2^62)<=i/\i<2^62/\ -(2^62)<=j/\j<2^62)/\R (Itr i (j-i).toNat) H1
theorem rO{a:Expr}{ta:TA}{p pos:Pos}(hg:Gl X "range")(hm:X.mg "range"=none)(ha:PA X [a] ta)(hs:starEach [a] X.env=[(false,eval a X.env)]):PI X tg (.Call (.Name "range" p) [a] [] pos) (tX ta):=by
 intro pins s σ H R I h;refine Call_ (gY I hg hm boot_range (PyProof.Rows.callWith_type1 (thn (ha pos pins s σ H _ I h) fun us s1 ⟨vs,H1,I1,r1,q1⟩=>?_) hs rfl));obtain⟨j,e,q1,q2,q⟩:=q1;subst e;cases r1 with
 | cons r rr=>
   cases rr;obtain⟨t,rfl⟩:=r;exact call_range_1 (tW I1 (by lia) (by lia) q1 q2 (by simpa using q))
noncomputable def pL(wi:TI)(g:TG)(tb:TS):TS:=fun D σ H=>wi σ H fun J H1=>∃W:Nat->Nat->St->Hp->Prop,(∃m,W 0 m σ H1)/\∀i m σ H,W i m σ H->
 (J.stop i H/\D.nx σ H)\/(J.go i H/\∃N:St->Hp->Prop,(∀σ' H',N σ' H'->∃m',m'<m/\W (i+1) m' σ' H')/\∀x H',J.yld i H x H'->g x σ H' fun σ2 H2=>tb {D with nx:=N,ct:=N,bk:=D.nx} σ2 H2)
noncomputable def i5(fp:List Addr)(h:Heap):List (Addr×Obj):=fp.filterMap fun b=>(h.get? b).map fun o=>(b,o)
theorem d5{fp:List Addr}{h:Heap}{b:Addr}{o:Obj}(hb:b∈fp)(e:h.get? b=some o):(b,o)∈i5 fp h:=mem_filterMap.mpr ⟨b,hb,by rw[e];rfl⟩
theorem rP{fp:List Addr}{h:Heap}{p:Addr×Obj}(hp:p∈i5 fp h):p.1∈fp/\h.get? p.1=some p.2:=by
 obtain⟨b,hb,e⟩:=mem_filterMap.mp hp;cases q:h.get? b with
 | none=>rw[q]at e;cases e
 | some o=>
   rw[q]at e;have e':(b,o)=p:=X1 e;subst e';exact⟨hb,q⟩
theorem Inv.pinned{pins:List (Addr×Obj)}{σ:St}{H:Hp}{s:Shared}{fp:List Addr}(I:Inv X pins σ H s)(hf:∀b∈fp,jL X pins H b)(ho:∀b∈fp,∃o,s.heap.get? b=some o/\∀v,o.data≠ .cell v):Inv X (pins++i5 fp s.heap) σ H s:=
 I.pins_of fun p hp=>(mem_append.mp hp).elim (fun z=>I.pin p (mem_append_right _ z)) fun z=>by
  obtain⟨hb,e⟩:=rP z;obtain⟨f0,f1,f2,_⟩:=hf p.1 hb;obtain⟨o,e',d⟩:=ho p.1 hb;rw[e]at e';cases e';exact⟨e,f0,f1,f2,d⟩
theorem Inv.unpinned{pins pl:List (Addr×Obj)}{σ:St}{H:Hp}{s:Shared}(I:Inv X (pins++pl) σ H s):Inv X pins σ H s:=I.pins_of fun p hp=>I.pin p (mem_append_right _ (mem_append_left _ hp))
theorem yi{iter:Expr}{body:List Stmt}{wi:TI}{g:TG}{tb:TS}{pos:Pos}(hp:PassesOwn (model X.prog X.w) X.A X.env X.xe)(hc:X.calm=true)(hi:PI X tg iter wi)(hg:PG X tg g)(hb:PSs X body tb)
 (hs:∀x,foldedSetIterable iter X.env x=pure x):PS X (.For tg iter body [] pos) (pL wi g tb):=by
 intro pins s σ H D I h;refine wpAny_For (thn (hi pins s σ H _ I h) fun v s1 h1=>thn h1 fun itv s2 h2=>?_) hs;obtain⟨it,fp,tn,J,H2,e,I2,T,st2,f2,W,⟨m0,w0⟩,turn⟩:=h2;subst e;have stat:∀{H':Hp},(∀b∈fp,H' b=none)->∀b∈fp,jL X pins H' b:=fun hn b hb=>⟨hn b hb,(f2 b hb).2⟩
 refine codeAny_forLoop_any (fun n s'=>∃i σ' H',Inv X pins σ' H' s'/\tn i s'.heap/\(∀b∈fp,H' b=none)/\W i n σ' H') ?_ m0 ⟨0,σ,H2,I2,st2,fun b hb=>(f2 b hb).1,w0⟩;rintro n s3 ⟨i,σ3,H3,I3,st3,fr3,w3⟩;rcases turn i n σ3 H3 w3 with⟨stop,qn⟩|⟨go,N,hN,step⟩
 ·refine wpAny_passesOwn hp (thn (T.done X rfl rfl rfl hc i pins s3 σ3 H3 X.xe I3 (stat fr3) st3 stop) fun r s4 ⟨hr,I4⟩=>?_);subst hr;exact wpAny_execs_nil ⟨σ3,H3,I4,qn⟩
 ·refine wpAny_passesOwn hp (thn (T.item X rfl rfl rfl hc i pins s3 σ3 H3 X.xe I3 (stat fr3) st3 go) fun r s4 ⟨u,hr,h4⟩=>?_);subst hr;refine wpAny_passesOwn hp (thn h4 fun _ s5 ⟨x,H5,I5,r5,y5,st5,fr5⟩=>?_);have I5':=I5.pinned (stat fr5) (T.obj _ _ st5);refine wpAny_passesOwn hp (thn (hg _ s5 σ3 H5 x u _ I5' r5 (step x H5 y5)) fun _ s6 ⟨σ6,H6,I6,q6⟩=>?_);refine wpAny_passesOwn hp (thn (hb _ s6 σ6 H6 _ I6 q6) fun f s7 q7=>?_);have again:∀{σ7:St} {H7:Hp},Inv X (pins++i5 fp s5.heap) σ7 H7 s7->N σ7 H7->∃m,m<n/\∃i σ' H',Inv X pins σ' H' s7/\tn i s7.heap/\(∀b∈fp,H' b=none)/\W i m σ' H':=fun{σ7 H7} I7 n7=>by
   obtain⟨m',hm,w7⟩:=hN σ7 H7 n7;refine⟨m',hm,i+1,σ7,H7,I7.unpinned,T.keep _ _ _ st5 fun b hb o e=>(I7.pin (b,o) (mem_append_right _ (mem_append_right _ (d5 hb e)))).1,fun b hb=>?_,w7⟩;obtain⟨o,e,d⟩:=T.obj _ _ st5 b hb;exact(I7.pin (b,o) (mem_append_right _ (mem_append_right _ (d5 hb e)))).2.1
  cases f with
  | next=>obtain⟨σ7,H7,I7,n7⟩:=q7;exact again I7 n7
  | cont=>obtain⟨σ7,H7,I7,n7⟩:=q7;exact again I7 n7
  | brk=>obtain⟨σ7,H7,I7,q7⟩:=q7;exact⟨σ7,H7,I7.unpinned,q7⟩
  | ret v=>obtain⟨x7,σ7,H7,I7,r7,q7⟩:=q7;exact⟨x7,σ7,H7,I7.unpinned,r7,q7⟩
end
theorem eU{K:PySem.W.Frag}{a:Addr}{xs:List V}{g:TG}{tb:TS}{D:gO}{σ:St}{H:Hp}(Pv:Nat->St->Hp->Prop)(h0:Pv 0 σ H)(hl:∀i σ H,i<=xs.length->Pv i σ H->SqL K H a xs)
 (hs:∀i x σ H,xs[i]? =some x->Pv i σ H->g x σ H fun σ2 H2=>tb {D with nx:=Pv (i+1),ct:=Pv (i+1),bk:=D.nx} σ2 H2) (hd:∀σ H,Pv xs.length σ H->D.nx σ H):
 ∃W:Nat->Nat->St->Hp->Prop,(∃m,W 0 m σ H)/\∀i m σ H,W i m σ H->
  ((Itl K a).stop i H/\D.nx σ H)\/((Itl K a).go i H/\∃N:St->Hp->Prop,(∀σ' H',N σ' H'->∃m',m'<m/\W (i+1) m' σ' H')/\∀x H',(Itl K a).yld i H x H'->g x σ H' fun σ2 H2=>tb {D with nx:=N,ct:=N,bk:=D.nx} σ2 H2):=by
 refine⟨fun i m σ H=>m=xs.length-i/\i<=xs.length/\Pv i σ H,⟨xs.length,by simp,zero_le _,h0⟩,?_⟩;rintro i m σ H ⟨rfl,hi,p⟩;have q:=hl i σ H hi p;by_cases hlt:i<xs.length
 ·refine .inr ⟨⟨xs,xs[i],q,by simp[hlt]⟩,Pv (i+1),fun σ' H' p'=>⟨xs.length-(i+1),by lia,rfl,hlt,p'⟩,fun x H' y=>?_⟩;obtain⟨e,y⟩:=y;subst e;exact hs i x σ _ (y xs q) p
 ·have e:i=xs.length:=by lia
  subst e;exact .inl ⟨⟨xs,q,W1 _⟩,hd σ H p⟩
theorem cp{lo:Int}{n:Nat}{g:TG}{tb:TS}{D:gO}{σ:St}{H:Hp}(Pv:Nat->St->Hp->Prop)(h0:Pv 0 σ H)
 (hs:∀i σ H,i<n->Pv i σ H->g (.int (lo+i)) σ H fun σ2 H2=>tb {D with nx:=Pv (i+1),ct:=Pv (i+1),bk:=D.nx} σ2 H2) (hd:∀σ H,Pv n σ H->D.nx σ H):
 ∃W:Nat->Nat->St->Hp->Prop,(∃m,W 0 m σ H)/\∀i m σ H,W i m σ H->
  ((Itr lo n).stop i H/\D.nx σ H)\/((Itr lo n).go i H/\∃N:St->Hp->Prop,(∀σ' H',N σ' H'->∃m',m'<m/\W (i+1) m' σ' H')/\∀x H',(Itr lo n).yld i H x H'->g x σ H' fun σ2 H2=>tb {D with nx:=N,ct:=N,bk:=D.nx} σ2 H2):=by
 refine⟨fun i m σ H=>m=n-i/\i<=n/\Pv i σ H,⟨n,by simp,zero_le _,h0⟩,?_⟩;rintro i m σ H ⟨rfl,hi,p⟩;by_cases hlt:i<n
 ·refine .inr ⟨hlt,Pv (i+1),fun σ' H' p'=>⟨n-(i+1),by lia,rfl,hlt,p'⟩,fun x H' y=>?_⟩;obtain⟨e,y⟩:=y;subst e y;exact hs i σ _ hlt p
 ·have e:i=n:=by lia
  subst e;exact .inl ⟨W1 _,hd σ H p⟩
noncomputable abbrev R2:=V->V->Hp->VK->Prop
noncomputable def OpR(X:Cx)(f:Value->Value->Sem Value)(r:R2):Prop:=
 ∀(pins:List (Addr×Obj)) (s:Shared) (σ:St) (H:Hp) (x y:V) (v u:Value) (Q:VK),Inv X pins σ H s->aE x v->aE y u->r x y H Q->
  wpAny (model X.prog X.w) X.A (f v u) (EP X pins σ Q) X.xe s
noncomputable def UnR(X:Cx)(f:Value->Sem Value)(r:V->Hp->VK->Prop):Prop:=
 ∀(pins:List (Addr×Obj)) (s:Shared) (σ:St) (H:Hp) (x:V) (v:Value) (Q:VK),Inv X pins σ H s->aE x v->r x H Q->
  wpAny (model X.prog X.w) X.A (f v) (EP X pins σ Q) X.xe s
noncomputable def cG(X:Cx)(f:Value)(r:List V->Hp->VK->Prop):Prop:=
 ∀(pins:List (Addr×Obj)) (s:Shared) (σ:St) (H:Hp) (xs:List V) (us:List Value) (Q:VK),Inv X pins σ H s->aH xs us->r xs H Q->
  wpAny (model X.prog X.w) X.A (call f us) (EP X pins σ Q) X.xe s
noncomputable def TruR(X:Cx)(r:V->Hp->(Bool->Hp->Prop)->Prop):Prop:=
 ∀(pins:List (Addr×Obj)) (s:Shared) (σ:St) (H:Hp) (x:V) (v:Value) (Q:Bool->Hp->Prop),Inv X pins σ H s->aE x v->r x H Q->
  wpAny (model X.prog X.w) X.A (truthy v) (TP X pins σ Q) X.xe s
noncomputable def tOp(r:R2)(ta tb:TE):TE:=fun σ H Q=>ta σ H fun x H1=>tb σ H1 fun y H2=>r x y H2 Q
noncomputable def tUn(r:V->Hp->VK->Prop)(ta:TE):TE:=fun σ H Q=>ta σ H fun x H1=>r x H1 Q
noncomputable def rI(C:Int->Int->Prop)(g:Int->Int->V):R2:=fun x y H Q=>asI x fun i=>asI y fun j=>C i j/\Q (g i j) H
noncomputable def rI0(g:Int->Int->V):R2:=fun x y H Q=>asI x fun i=>asI y fun j=>Q (g i j) H
noncomputable def rU(g:Int->V):V->Hp->VK->Prop:=fun x H Q=>asI x fun i=>Q (g i) H
section
variable{X:Cx}{a b c:Expr}{ta tb tc:TE}{pos:Pos}
theorem yj(ha:PE X a ta)(hb:PE X b tb){pins:List (Addr×Obj)}{s:Shared}{σ:St}{H:Hp}{R:V->V->Hp->Prop}(I:Inv X pins σ H s)
 (h:ta σ H fun x H1=>tb σ H1 fun y H2=>R x y H2) {Q:Value->Shared->Prop} {f:Value->Value->Sem Value}
 (hf:∀v u s2 x y H2,Inv X pins σ H2 s2->aE x v->aE y u->R x y H2->wpAny (model X.prog X.w) X.A (f v u) Q X.xe s2):
 wpAny (model X.prog X.w) X.A (eval a X.env) (fun v s₁=>wpAny (model X.prog X.w) X.A (eval b X.env) (fun u s₂=>wpAny (model X.prog X.w) X.A (f v u) Q X.xe s₂) X.xe s₁) X.xe s:=by
 refine thn (ha pins s σ H _ I h) fun v s1 ⟨x,H1,I1,r1,q1⟩=>?_
 refine thn (hb pins s1 σ H1 _ I1 q1) fun u s2 ⟨y,H2,I2,r2,q2⟩=>?_
 exact hf v u s2 x y H2 I2 r1 r2 q2
theorem zO{op:Operator}{r:R2}(ho:OpR X (binaryOp op) r)(ha:PE X a ta)(hb:PE X b tb):PE X (.BinOp a op b pos) (tOp r ta tb):=by
 intro pins s σ H Q I h;exact wpAny_BinOp (yj ha hb I h fun v u s2 x y H2 I2 rx ry q=>ho pins s2 σ H2 x y v u Q I2 rx ry q)
theorem zP{op:UnaryOp}{r:V->Hp->VK->Prop}(ho:UnR X (unaryOp op) r)(ha:PE X a ta):PE X (.UnaryOp op a pos) (tUn r ta):=by
 intro pins s σ H Q I h;exact UnaryOp_ (thn (ha pins s σ H _ I h) fun v s1 ⟨x,H1,I1,r1,q1⟩=>ho pins s1 σ H1 x v Q I1 r1 q1)
theorem opI{f:Value->Value->Sem Value}{C:Int->Int->Prop}{g:Int->Int->Int}
 (rule:∀(i j:Int) (t u:Tok) (s:Shared) (Q:Value->Shared->Prop) (E:Value->Shared->Prop),C i j->Q (.int (g i j) s.toks) {s with toks:=s.toks+1}->wpAny (model X.prog X.w) X.A (f (.int i t) (.int j u)) Q E s):
 OpR X f (rI C fun i j=> .int (g i j)):=by
 intro pins s σ H x y v u Q I rx ry h;obtain⟨i,rfl,h2⟩:=fQ h;obtain⟨j,rfl,hc,q⟩:=fQ h2;obtain⟨t,rfl⟩:=rx;obtain⟨t',rfl⟩:=ry;exact rule i j t t' s _ _ hc ⟨.int (g i j),H,I.tok _,⟨_,rfl⟩,q⟩
theorem zQ{f:Value->Value->Sem Value}{g:Int->Int->Int}
 (rule:∀(i j:Int) (t u:Tok) (s:Shared) (Q:Value->Shared->Prop) (E:Value->Shared->Prop),Q (.int (g i j) s.toks) {s with toks:=s.toks+1}->wpAny (model X.prog X.w) X.A (f (.int i t) (.int j u)) Q E s):
 OpR X f (rI0 fun i j=> .int (g i j)):=by
 intro pins s σ H x y v u Q I rx ry h;obtain⟨i,rfl,h2⟩:=fQ h;obtain⟨j,rfl,q⟩:=fQ h2;obtain⟨t,rfl⟩:=rx;obtain⟨t',rfl⟩:=ry;exact rule i j t t' s _ _ ⟨.int (g i j),H,I.tok _,⟨_,rfl⟩,q⟩
theorem yk{f:Value->Value->Sem Value}{g:Int->Int->Bool}
 (rule:∀(i j:Int) (t u:Tok) (s:Shared) (Q:Value->Shared->Prop) (E:Value->Shared->Prop),Q (.bool (g i j)) s->wpAny (model X.prog X.w) X.A (f (.int i t) (.int j u)) Q E s):
 OpR X f (rI0 fun i j=> .bl (g i j)):=by
 intro pins s σ H x y v u Q I rx ry h;obtain⟨i,rfl,h2⟩:=fQ h;obtain⟨j,rfl,q⟩:=fQ h2;obtain⟨t,rfl⟩:=rx;obtain⟨t',rfl⟩:=ry;exact rule i j t t' s _ _ ⟨.bl (g i j),H,I,rfl,q⟩
noncomputable def zR(i j:Int):Prop:=0<j/\j<1073741824
noncomputable def tY(i j:Int):Prop:=(-(2^64)<i/\i<2^64)\/(-(2^64)<j/\j<2^64)
theorem tY.ok{i j:Int}(h:tY i j):IntMulOk i j:=by
 rcases h with⟨h1,h2⟩|⟨h1,h2⟩
 ·exact .of_left (intBits_le_64 h1 h2)
 ·exact .of_right (intBits_le_64 h1 h2)
theorem tZ:OpR X (binaryOp .Add) (rI0 fun i j=> .int (i+j)):=zQ fun _ _ _ _ _ _ _ q=>add_int q
theorem yl:OpR X (binaryOp .Sub) (rI0 fun i j=> .int (i-j)):=zQ fun _ _ _ _ _ _ _ q=>sub_int q
theorem t8:OpR X (binaryOp .Mult) (rI tY fun i j=> .int (i*j)):=opI fun _ _ _ _ _ _ _ hc q=>mul_int q hc.ok
theorem vZ:OpR X (binaryOp .FloorDiv) (rI zR fun i j=> .int (i/j)):=opI fun i j _ _ _ _ _ hc q=>by
 have h1:(0:Int)<j:=hc.1;have h2:j<1073741824:=hc.2;exact floordiv_int (by lia) (by rw[Int.fdiv_eq_ediv_of_nonneg i (by lia)];exact q) (.inl (PyProof.noPylong_small (by lia)))
theorem ym:OpR X (binaryOp .Mod) (rI (fun _ j=>0<j) fun i j=> .int (i%j)):=opI fun i j _ _ _ _ _ hc q=>by
 have h1:(0:Int)<j:=hc;exact mod_int' (by lia) (by rw[Int.fmod_eq_emod_of_nonneg i (by lia)];exact q)
theorem unI{f:Value->Sem Value}{g:Int->Int}
 (rule:∀(i:Int) (t:Tok) (s:Shared) (Q:Value->Shared->Prop) (E:Value->Shared->Prop),Q (.int (g i) s.toks) {s with toks:=s.toks+1}->wpAny (model X.prog X.w) X.A (f (.int i t)) Q E s):
 UnR X f (rU fun i=> .int (g i)):=by
 intro pins s σ H x v Q I rx h;obtain⟨i,rfl,q⟩:=fQ h;obtain⟨t,rfl⟩:=rx;exact rule i t s _ _ ⟨.int (g i),H,I.tok _,⟨_,rfl⟩,q⟩
theorem yn:UnR X (unaryOp .USub) (rU fun i=> .int (-i)):=unI fun _ _ _ _ _ q=>neg_int q
end
noncomputable def yo:V->V->Bool
 | .non,.non=>true| .non,.int _=>true| .int _,.non=>true| .non,.bl _=>true| .bl _,.non=>true| .non,.str _=>true| .str _,.non=>true
 | .int _,.int _=>true| .bl _,.bl _=>true| .str _,.str _=>true| .byt _,.byt _=>true
 | .int _,.str _=>true| .str _,.int _=>true| .bl _,.str _=>true| .str _,.bl _=>true
 | _,_=>false
noncomputable def rEq:R2:=fun x y H Q=>yo x y=true/\Q (.bl (decide (x=y))) H
noncomputable def rNe:R2:=fun x y H Q=>yo x y=true/\Q (.bl (!decide (x=y))) H
theorem qV{i j:Int}:decide (V.int i=V.int j)=(i==j):=by
 rw[Bool.eq_iff_iff];simp
theorem ua{i j:Bool}:decide (V.bl i=V.bl j)=(i==j):=by
 rw[Bool.eq_iff_iff];simp
theorem qW{i j:Str}:decide (V.str i=V.str j)=(i==j):=by
 rw[Bool.eq_iff_iff];simp
theorem qX{i j:Array UInt8}:decide (V.byt i=V.byt j)=(i.toList==j.toList):=by
 rw[Bool.eq_iff_iff];cases i;cases j;simp
section
variable{X:Cx}{a b c:Expr}{ta tb tc:TE}{pos:Pos}
theorem aW{pins:List (Addr×Obj)}{σ:St}{H:Hp}{s:Shared}{Q:VK}{k k':Bool}(I:Inv X pins σ H s)(q:Q (.bl k) H)(e:k=k'):EP X pins σ Q (.bool k') s:=by
 subst e;exact⟨.bl k,H,I,rfl,q⟩
theorem zS:OpR X (compareOp .Eq) rEq:=by
 intro pins s σ H x y v u Q I rx ry h;obtain⟨hs,q⟩:=h;cases x with
 | non=>
   cases rx;cases y with
   | non=>cases ry;exact PySem.EqNone.eq_none_none (aW I q (by simp))
   | bl j=>cases ry;exact PySem.EqNone.eq_none_bool (aW I q (by simp))
   | int j=>obtain⟨t',rfl⟩:=ry;exact PySem.EqNone.eq_none_int (aW I q (by simp))
   | str j=>obtain⟨t',rfl⟩:=ry;exact PySem.EqNone.eq_none_str (aW I q (by simp))
   | _=>exact absurd (show false=true from hs) V6
 | bl i=>
   cases rx;cases y with
   | non=>cases ry;exact PySem.EqNone.eq_bool_none (aW I q (by simp))
   | bl j=>cases ry;exact eq_bool (aW I q ua)
   | str j=>obtain⟨t',rfl⟩:=ry;exact PySem.EqMixed.eq_bool_str (aW I q (by simp))
   | _=>exact absurd (show false=true from hs) V6
 | int i=>
   obtain⟨t,rfl⟩:=rx;cases y with
   | non=>cases ry;exact PySem.EqNone.eq_int_none (aW I q (by simp))
   | int j=>obtain⟨t',rfl⟩:=ry;exact eq_int (aW I q qV)
   | str j=>obtain⟨t',rfl⟩:=ry;exact PySem.EqMixed.eq_int_str (aW I q (by simp))
   | _=>exact absurd (show false=true from hs) V6
 | str i=>
   obtain⟨t,rfl⟩:=rx;cases y with
   | non=>cases ry;exact PySem.EqNone.eq_str_none (aW I q (by simp))
   | bl j=>cases ry;exact PySem.EqMixed.eq_str_bool (aW I q (by simp))
   | int j=>obtain⟨t',rfl⟩:=ry;exact PySem.EqMixed.eq_str_int (aW I q (by simp))
   | str j=>obtain⟨t',rfl⟩:=ry;exact eq_str (aW I q qW)
   | _=>exact absurd (show false=true from hs) V6
 | byt i=>
   obtain⟨t,rfl⟩:=rx;cases y with
   | byt j=>obtain⟨t',rfl⟩:=ry;exact PySem.W.eq_bytes (aW I q qX)
   | _=>exact absurd (show false=true from hs) V6
 | _=>cases y<;> exact absurd (show false=true from hs) V6
theorem xy:OpR X (compareOp .NotEq) rNe:=by
 intro pins s σ H x y v u Q I rx ry h;obtain⟨hs,q⟩:=h;cases x with
 | non=>
   cases rx;cases y with
   | non=>cases ry;exact PySem.EqNone.ne_none_none (aW I q (by simp))
   | bl j=>cases ry;exact PySem.EqNone.ne_none_bool (aW I q (by simp))
   | int j=>obtain⟨t',rfl⟩:=ry;exact PySem.EqNone.ne_none_int (aW I q (by simp))
   | str j=>obtain⟨t',rfl⟩:=ry;exact PySem.EqNone.ne_none_str (aW I q (by simp))
   | _=>exact absurd (show false=true from hs) V6
 | bl i=>
   cases rx;cases y with
   | non=>cases ry;exact PySem.EqNone.ne_bool_none (aW I q (by simp))
   | bl j=>cases ry;exact ne_bool (aW I q (congrArg not ua))
   | str j=>obtain⟨t',rfl⟩:=ry;exact PySem.EqMixed.ne_bool_str (aW I q (by simp))
   | _=>exact absurd (show false=true from hs) V6
 | int i=>
   obtain⟨t,rfl⟩:=rx;cases y with
   | non=>cases ry;exact PySem.EqNone.ne_int_none (aW I q (by simp))
   | int j=>obtain⟨t',rfl⟩:=ry;exact ne_int (aW I q (congrArg not qV))
   | str j=>obtain⟨t',rfl⟩:=ry;exact PySem.EqMixed.ne_int_str (aW I q (by simp))
   | _=>exact absurd (show false=true from hs) V6
 | str i=>
   obtain⟨t,rfl⟩:=rx;cases y with
   | non=>cases ry;exact PySem.EqNone.ne_str_none (aW I q (by simp))
   | bl j=>cases ry;exact PySem.EqMixed.ne_str_bool (aW I q (by simp))
   | int j=>obtain⟨t',rfl⟩:=ry;exact PySem.EqMixed.ne_str_int (aW I q (by simp))
   | str j=>obtain⟨t',rfl⟩:=ry;exact ne_str (aW I q (congrArg not qW))
   | _=>exact absurd (show false=true from hs) V6
 | byt i=>
   obtain⟨t,rfl⟩:=rx;cases y with
   | byt j=>obtain⟨t',rfl⟩:=ry;exact PySem.W.ne_bytes (aW I q (congrArg not qX))
   | _=>exact absurd (show false=true from hs) V6
 | _=>cases y<;> exact absurd (show false=true from hs) V6
theorem zT:OpR X (compareOp .Lt) (rI0 fun i j=> .bl (decide (i<j))):=yk fun _ _ _ _ _ _ _ q=>lt_int q
theorem zU:OpR X (compareOp .LtE) (rI0 fun i j=> .bl (decide (i<=j))):=yk fun _ _ _ _ _ _ _ q=>le_int q
theorem zV:OpR X (compareOp .Gt) (rI0 fun i j=> .bl (decide (j<i))):=yk fun _ _ _ _ _ _ _ q=>gt_int q
theorem rQ:OpR X (compareOp .In) (fun x y H Q=>∃i j,x= .str i/\y= .str j/\Q (.bl (!(Builtin.Str.occurrences j i 0 j.length 1).isEmpty)) H):=by
 intro pins s σ H x y v u Q I rx ry h;obtain⟨i,j,rfl,rfl,q⟩:=h;obtain⟨t,rfl⟩:=rx;obtain⟨t',rfl⟩:=ry;exact in_str (aW I q rfl)
theorem OpR.or{f:Value->Value->Sem Value}{r r':R2}(h:OpR X f r)(h':OpR X f r'):OpR X f (fun x y H Q=>r x y H Q\/r' x y H Q):=by
 intro pins s σ H x y v u Q I rx ry q;rcases q with q|q
 ·exact h pins s σ H x y v u Q I rx ry q
 ·exact h' pins s σ H x y v u Q I rx ry q
theorem nomark(b:Expr){op:CmpOp}(h:op≠ .In)(h2:op≠ .NotIn):behindInMarks op b=false:=by
 have e1:(op==CmpOp.In)=false:=by cases op<;> first|rfl|exact absurd rfl h
 have e2:(op==CmpOp.NotIn)=false:=by cases op<;> first|rfl|exact absurd rfl h2
 cases b<;> simp[behindInMarks,e1,e2]
theorem wa{op:CmpOp}{r:R2}(ho:OpR X (compareOp op) r)(ha:PE X a ta)(hb:PE X b tb)(hm:behindInMarks op b=false):PE X (.Compare a [op] [b] pos) (tOp r ta tb):=by
 intro pins s σ H Q I h;exact wpAny_Compare1 (yj ha hb I h fun v u s2 x y H2 I2 rx ry q=>ho pins s2 σ H2 x y v u Q I2 rx ry q) hm
noncomputable def ub(t:TE):TT:=fun σ H Q=>t σ H fun x H'=>asB x fun k=>Q k H'
theorem wb{op:CmpOp}{r:R2}(ho:OpR X (compareOp op) r)(ha:PE X a ta)(hb:PE X b tb)(hm:behindInMarks op b=false):PT X (.Compare a [op] [b] pos) (ub (tOp r ta tb)):=by
 intro pins s σ H Q I h;refine wpAny_isTrue_Compare1 (thn (ha pins s σ H _ I h) fun v s1 ⟨x,H1,I1,r1,q1⟩=>thn (hb pins s1 σ H1 _ I1 q1) fun u s2 ⟨y,H2,I2,r2,q2⟩=>
  thn (ho pins s2 σ H2 x y v u _ I2 r1 r2 q2) fun c s3 ⟨z,H3,I3,r3,q3⟩=>?_) hm
 obtain⟨k,rfl,q3⟩:=lJ q3;cases r3;exact wpAny_truthy_bool ⟨H3,I3,q3⟩
noncomputable def pM(r r':R2)(ta tb tc:TE):TE:=fun σ H Q=>ta σ H fun x H1=>tb σ H1 fun y H2=>r x y H2 fun z H3=>asB z fun k=>
 (if k=true then tc σ H3 fun w' H4=>r' y w' H4 Q else Q (.bl false) H3)
theorem uc{op op':CmpOp}{r r':R2}(ho:OpR X (compareOp op) r)(ho':OpR X (compareOp op') r')(ha:PE X a ta)(hb:PE X b tb)(hc:PE X c tc)
 (hm:lastMarks [op,op'] [b,c]=false):PE X (.Compare a [op,op'] [b,c] pos) (pM r r' ta tb tc):=by
 intro pins s σ H Q I h;refine Compare_chain (thn (ha pins s σ H _ I h) fun v s1 ⟨x,H1,I1,r1,q1⟩=>chain_link (thn (hb pins s1 σ H1 _ I1 q1) fun u s2 ⟨y,H2,I2,r2,q2⟩=>
  thn (ho pins s2 σ H2 x y v u _ I2 r1 r2 q2) fun d s3 ⟨z,H3,I3,r3,q3⟩=>?_)) hm
 obtain⟨k,rfl,q3⟩:=lJ q3;cases r3;refine wpAny_truthy_bool ?_;cases k with
 | false=>exact ite_ff ⟨.bl false,H3,I3,rfl,q3⟩
 | true=>exact ite_tt (chain_last (thn (hc pins s3 σ H3 _ I3 q3) fun w' s4 ⟨z',H4,I4,r4,q4⟩=>ho' pins s4 σ H4 y z' u w' Q I4 r2 r4 q4))
noncomputable def ud(K:PySem.W.Frag)(x:V)(H:Hp)(k:Bool):Prop:=
 match x with
 | .non=>k=false
 | .bl b=>k=b
 | .int i=>k=(i != 0)
 | .str y=>y.length<=sizeLine/\k=((y.length:Int) != 0)
 | .byt y=>y.size<=sizeLine/\k=((y.size:Int) != 0)
 | .ref p=>(∃xs,SqL K H p xs/\k=!xs.isEmpty)\/(∃xs,SqT K H p xs/\k=!xs.isEmpty)\/∃kvs,H p=some (.dK kvs)/\k=!kvs.isEmpty
 | _=>False
theorem pN{κ:Type}{kvs:List (κ×V)}{vs:List (κ×Value)}(r:KV kvs vs):(!vs.isEmpty)=!kvs.isEmpty:=by
 cases r<;> rfl
theorem kg{xs:List V}{its:List Value}(r:aH xs its):(!its.toArray.isEmpty)=!xs.isEmpty:=by
 cases r<;> simp
theorem kh:(sizeLine:Nat)<2^63:=by rw[sizeLine_eq];decide
theorem yp:TruR X (fun x H Q=>∃k,ud X.K x H k/\Q k H):=by
 intro pins s σ H x v Q I rx h;obtain⟨k,e,q⟩:=h;have hl:=kh;have hs:sizeLine=16777216:=sizeLine_eq;cases x with
 | non=>
   cases rx;have e':k=false:=e;subst e';exact truthy_none ⟨H,I,q⟩
 | bl b=>
   cases rx;have e':k=b:=e;subst e';exact wpAny_truthy_bool ⟨H,I,q⟩
 | int i=>
   obtain⟨t,rfl⟩:=rx;have e':k=(i != 0):=e;subst e';exact PySem.P.truthy_int ⟨H,I,q⟩
 | str y=>
   obtain⟨t,rfl⟩:=rx;obtain⟨hy,e'⟩:y.length<=sizeLine/\k=((y.length:Int) != 0):=e;subst e';exact PySem.P.truthy_str (by lia) ⟨H,I.tok _,q⟩
 | byt y=>
   obtain⟨t,rfl⟩:=rx;obtain⟨hy,e'⟩:y.size<=sizeLine/\k=((y.size:Int) != 0):=e;subst e';exact PySem.W.truthy_bytes (by lia) ⟨H,I.tok _,q⟩
 | ref p=>
   cases rx;have e':(∃xs,SqL X.K H p xs/\k=!xs.isEmpty)\/(∃xs,SqT X.K H p xs/\k=!xs.isEmpty)\/∃kvs,H p=some (.dK kvs)/\k=!kvs.isEmpty:=e;rcases e' with⟨xs,hx,e'⟩|⟨xs,hx,e'⟩|⟨kvs,hx,e'⟩
   ·subst e';obtain⟨its,r,pl,hz⟩:=I.list hx;have hlen:=r.length;exact wpAny_truthy_list pl.isList (by simp only[W9];lia) ⟨H,I.tok _,by rw[kg r];exact q⟩
   ·subst e';obtain⟨its,r,pl,hz⟩:=I.tuple hx;have hlen:=r.length;exact truthy_tuple pl (by simp only[W9];lia) ⟨H,I.tok _,by rw[kg r];exact q⟩
   ·subst e';obtain⟨hz,hS,vs,r,m⟩:kvs.length<=sizeLine/\(p==sysModules)=false/\∃vs,KV kvs vs/\s.heap.DictOf (aM X.prog X.w) p vs:=I.hok p _ hx;have hlen:kvs.length=vs.length:=Paired.length r;exact wpAny_truthy_dict hS m (by lia) ⟨H,I.tok _,by rw[pN r];exact q⟩
 | _=>exact(show False from e).elim
theorem ue(ha:PE X a ta)(he:∀whole,isTrue a X.env whole=(do let v<-whole;standAt a.pos;holding [v] (truthy v))):
 PT X a (fun σ H Q=>ta σ H fun x H'=>∃k,ud X.K x H' k/\Q k H'):=by
 intro pins s σ H Q I h;exact isTrue_plain (thn (ha pins s σ H _ I h) fun v s1 ⟨x,H1,I1,r1,q1⟩=>yp pins s1 σ H1 x v Q I1 r1 q1) (he _)
theorem pO:OpR X (binaryOp .Add) (fun x y H Q=>∃i j,x= .str i/\y= .str j/\i.length+j.length<=sizeLine/\Q (.str (i++j)) H):=by
 intro pins s σ H x y v u Q I rx ry h;obtain⟨i,j,rfl,rfl,hz,q⟩:=h;obtain⟨t,rfl⟩:=rx;obtain⟨t',rfl⟩:=ry;exact add_str (fun t' tk=>⟨.str (i++j),H,I.tok _,⟨_,rfl⟩,q⟩) hz
theorem d6{x:V}{us:List Value}(r:aH [x] us):∃u,us=[u]/\aE x u:=by
 cases r with
 | cons r1 r2=>cases r2;exact⟨_,rfl,r1⟩
theorem nR{x y:V}{us:List Value}(r:aH [x,y] us):∃u w',us=[u,w']/\aE x u/\aE y w':=by
 cases r with
 | cons r1 r2=>
   cases r2 with
   | cons r3 r4=>cases r4;exact⟨_,_,rfl,r1,r3⟩
theorem uf:cG X (.builtin "abs") (fun xs H Q=>∃i,xs=[.int i]/\Q (.int (if i<0 then -i else i)) H):=by
 intro pins s σ H xs us Q I r h;obtain⟨i,rfl,q⟩:=h;obtain⟨u,rfl,t,rfl⟩:=d6 r;exact call_abs_int fun u tk=>⟨.int (if i<0 then -i else i),H,I.tok _,⟨_,rfl⟩,q⟩
theorem rR(hc:X.calm=true):cG X (.builtin "max") (fun xs H Q=>∃i j,xs=[.int i,.int j]/\Q (.int (if j>i then j else i)) H):=by
 intro pins s σ H xs us Q I r h;obtain⟨i,j,rfl,q⟩:=h;obtain⟨u,w',rfl,⟨t,rfl⟩,t',rfl⟩:=nR r;refine max_two_ints (I.ok.hd hc) fun h' tk k=>⟨_,H,I.kept k,?_,q⟩
 by_cases hj:j>i
 ·rw[if_pos hj,if_pos hj];exact⟨_,rfl⟩
 ·rw[if_neg hj,if_neg hj];exact⟨_,rfl⟩
theorem rS(hc:X.calm=true):cG X (.builtin "min") (fun xs H Q=>∃i j,xs=[.int i,.int j]/\Q (.int (if j<i then j else i)) H):=by
 intro pins s σ H xs us Q I r h;obtain⟨i,j,rfl,q⟩:=h;obtain⟨u,w',rfl,⟨t,rfl⟩,t',rfl⟩:=nR r;refine min_two_ints (I.ok.hd hc) fun h' tk k=>⟨_,H,I.kept k,?_,q⟩
 by_cases hj:j<i
 ·rw[if_pos hj,if_pos hj];exact⟨_,rfl⟩
 ·rw[if_neg hj,if_neg hj];exact⟨_,rfl⟩
theorem rT:cG X (.type "int") (fun xs H Q=>(∃i,xs=[.int i]/\Q (.int i) H)\/∃k,xs=[.bl k]/\Q (.int (if k then 1 else 0)) H):=by
 intro pins s σ H xs us Q I r h;rcases h with⟨i,rfl,q⟩|⟨k,rfl,q⟩
 ·obtain⟨u,rfl,t,rfl⟩:=d6 r;exact call_int_int ⟨.int i,H,I,⟨_,rfl⟩,q⟩
 ·obtain⟨u,rfl,r1⟩:=d6 r;cases r1;exact call_int_bool ⟨.int (if k then 1 else 0),H,I.tok _,⟨_,rfl⟩,q⟩
theorem mM:cG X (.type "str") (fun xs H Q=>∃i,xs=[.int i]/\i.natAbs.log2<1920/\Q (.str (toString i)) H):=by
 intro pins s σ H xs us Q I r h;obtain⟨i,rfl,hz,q⟩:=h;obtain⟨u,rfl,t,rfl⟩:=d6 r;exact PySem.P.str_of_int hz ⟨.str _,H,I.tok _,⟨_,rfl⟩,q⟩
noncomputable def wc(K:PySem.W.Frag)(x:V)(H:Hp)(n:Nat):Prop:=
 match x with
 | .str y=>y.length<=sizeLine/\n=y.length
 | .byt y=>y.size<=sizeLine/\n=y.size
 | .ref p=>(∃xs,SqL K H p xs/\n=xs.length)\/∃xs,SqT K H p xs/\n=xs.length
 | _=>False
theorem ug:cG X (.builtin "len") (fun xs H Q=>∃x n,xs=[x]/\wc X.K x H n/\Q (.int n) H):=by
 intro pins s σ H xs us Q I r h;obtain⟨x,n,rfl,e,q⟩:=h;obtain⟨u,rfl,rx⟩:=d6 r;have hl:=kh;have hs:sizeLine=16777216:=sizeLine_eq;cases x with
 | str y=>
   obtain⟨t,rfl⟩:=rx;obtain⟨hy,e'⟩:y.length<=sizeLine/\n=y.length:=e;subst e';exact len_str (by lia) ⟨.int _,H,I.tok _,⟨_,rfl⟩,q⟩
 | byt y=>
   obtain⟨t,rfl⟩:=rx;obtain⟨hy,e'⟩:y.size<=sizeLine/\n=y.size:=e;subst e';exact PySem.W.len_bytes (by lia) ⟨.int _,H,I.tok _,⟨_,rfl⟩,q⟩
 | ref p=>
   cases rx;have e':(∃xs,SqL X.K H p xs/\n=xs.length)\/∃xs,SqT X.K H p xs/\n=xs.length:=e;rcases e' with⟨xs,hx,e'⟩|⟨xs,hx,e'⟩
   ·subst e';obtain⟨its,r',pl,hz⟩:=I.list hx;have hlen:=r'.length;exact Calls.call_len_list pl.isList (by simp only[W9];lia) ⟨.int xs.length,H,I.tok _,⟨_,by simp only[W9];rw[hlen]⟩,q⟩
   ·subst e';obtain⟨its,r',pl,hz⟩:=I.tuple hx;have hlen:=r'.length;exact len_tuple pl (by simp only[W9];lia) ⟨.int xs.length,H,I.tok _,⟨_,by simp only[W9];rw[hlen]⟩,q⟩
 | _=>exact(show False from e).elim
end
structure pP (h:Heap) (x dx C:Addr) (mA:Str->Option Value):Prop where
 obj:h.get? x=some (instObj C dx)
 ns:h.Ns1 dx mA
 ne:dx≠x
theorem rV{h:Heap}{dx:Addr}{mA:Str->Option Value}(n:h.Ns1 dx mA):∃od,h.get? dx=some od/\∀name,lookIn name od=some (mA name):=by
 obtain⟨o,es,ep,ho,hd,hk,_,hm⟩:=n;refine⟨o,ho,fun name=>?_⟩;have e:=hm name;unfold nsFind findBy at e;rw[<-Array.find?_toList]at e;unfold lookIn;rw[hd];dsimp only
 split
 ·rename_i y q
  rw[q]at e;exact congrArg some e
 ·rename_i q
  rw[q]at e;have a:es.toList.any (·.refKey)=false:=by
   rw[List.any_eq_false];intro y hy;obtain⟨z,t,hkey⟩:=hk y (mem_toList_iff.mp hy);simp[DictEntry.refKey,hkey]
  have a': ¬ es.toList.any (·.refKey)=true:=by rw[a];exact V6
  rw[if_neg a'];exact congrArg some e
theorem pP.look{h:Heap}{x dx C:Addr}{mA:Str->Option Value}(I:pP h x dx C mA):∃od,PySem.W.InstAt h x (instObj C dx) C (some od)/\∀name,lookIn name od=some (mA name):=
 let⟨od,ho,hl⟩:=rV I.ns
 ⟨od,⟨I.obj,rfl,rfl,ho⟩,hl⟩
section
variable{prog:Program}{w:World}{A:Around}{E:Value->Shared->Prop}{s:Shared}{K:PySem.W.Frag}{x dx C f:Addr}{mA:Str->Option Value}{name:Str}{v:Value}
theorem we{expr:Bool}{Q:Value->Shared->Prop}(X:K.In s.heap)(I:pP s.heap x dx C mA)(hg:plainGet K C name=true)(hh:hasDictIn K C=true)
 (ha:findIn K (.ref C) name=some none) (hv:mA name=some v) (hv':handedIn v=true) (h:Q v {s with toks:=s.toks+1}):
 wpAny (model prog w) A (getAttr (.ref x) name expr) Q E s:=by
 obtain⟨od,J,hl⟩:=I.look;exact PySem.W.get_value X J (plainGet_of hg).1 (PySem.W.findObj_own hh ha rfl (by rw[hl,hv])) hv' h
theorem uh{pl:Sem Bool}{Q:Value×List Value->Shared->Prop}(X:K.In s.heap)(I:pP s.heap x dx C mA)(hg:plainGet K C name=true)
 (hf:findIn K (.ref C) name=some (some (.ref f))) (ht:isFn K (.ref f)=true) (hv:mA name=none) (h:Q (.ref f,[.ref x]) s):
 wpAny (model prog w) A (getMethod (.ref x) name pl) Q E s:=by
 obtain⟨od,J,hl⟩:=I.look;exact PySem.W.method_fn X J (plainGet_of hg).1 (plainGet_of hg).2 hf (beq_iff_eq.mp ht) (by show(lookIn name od).map (·.isSome)=some false;rw[hl,hv];rfl) h
theorem wg{ns:List Str}{Q:Unit->Shared->Prop}(X:K.In s.heap)(I:pP s.heap x dx C mA)
 (hs:findIn K (.ref C) "__setattr__"=some (some (.builtin "object.__setattr__"))) (hp:plainOver K C=true) (ht:takerIn K C name=some none) (hh:hasDictIn K C=true)
 (hw:PySem.Within mA ns) (hsz:ns.length<=sizeLine)
 (h:∀h',pP h' x dx C (fun y=>if y=name then some v else mA y)->SameBut dx s.heap h'->Q () {s with heap:=h',toks:=s.toks+2}):
 wpAny (model prog w) A (setAttr (.ref x) name v) Q E s:=by
 obtain⟨od,J,hl⟩:=I.look;refine PySem.W.set_plain X J hs (PySem.W.osa_open (s:={s with toks:=s.toks+1}) (r:=none) X J hp ht fun b=>?_);obtain⟨cd,hc,hd'⟩:=PySem.W.any_some hh;have hx:s.heap.get? x=some ⟨.ref C,some dx,.plain,#[]⟩:=I.obj;refine Y2 (Y3 (Y2 (Y2 (wpAny_loadPart hx (Y2 (Looks.here (s:={s with toks:=s.toks+1}) (PySem.W.looks_clsIn X hc) ?_))))));rw[hd'];refine Y3 (a:=some dx) (Y2 (Y3 (Y2 ?_)));refine wpAny_nsSet1 (s:={s with toks:=s.toks+1}) I.ns fun h' hn2 hs2=>?_
 obtain⟨oD,esD,epD,hoD,hdD,hcD⟩:=hn2.count (PySem.Within.cons name v hw);refine Y2 (wpAny_lookBehind hoD (by rw[hdD];exact pastItsLine_dict (le_trans hcD (by rw[V1];lia))) ?_);exact Y3 (h _ ⟨(hs2.2 _ (Ne.symm I.ne)).trans I.obj,hn2,I.ne⟩ hs2)
theorem uk{R:Result->Shared->Prop}{vs:List Value}{kw:List (Str×Value)}(X:K.In s.heap)(hm:makesIn K C=true)
 (hi:findIn K (.ref C) "__init__"=some (some (.ref f))) (hf:PySem.W.typeIn K (.ref f)=some (.type "function"))
 (h:codeAny (model prog w) (A.under (.builtin "type.__call__" ⟨.ref C::vs,kw⟩)) (.call (.ref f) ⟨.ref (s.heap.objs.size+1)::vs,kw⟩) (PySem.W.InitBack (s.heap.objs.size+1) R)
  {s with heap:=(s.heap.push emptyDict).push (instObj C s.heap.objs.size)}):
 codeAny (model prog w) A (.call (.ref C) ⟨vs,kw⟩) R s:=by
 obtain⟨hh,g,d,t,os⟩:=s;exact PySem.W.make_core (PySem.W.makes_of X hm) (PySem.W.looks_findIn X hi) (fun self=>PySem.W.bind_fn X self hf) (.inl rfl) h
end
noncomputable def db(f:Str)(v:V):List (Str×V)->List (Str×V)
 |[]=>[(f,v)]
 |(g,x)::r=>if g=f then(g,v)::r else(g,x)::db f v r
theorem jv(f g:Str)(v:V):∀fs:List (Str×V),(db f v fs).lookup g=if g=f then some v else fs.lookup g
 |[]=>by
  show List.lookup g [(f,v)]=_;by_cases h:g=f
  ·have hb:(g==f)=true:=beq_iff_eq.mpr h;simp only[List.lookup,hb,if_pos h]
  ·have hb:(g==f)=false:=beq_eq_false_iff_ne.mpr h;simp only[List.lookup,hb,if_neg h]
 |(k,x)::r=>by
  have ih:=jv f g v r;rw[show db f v ((k,x)::r)=(if k=f then(k,v)::r else(k,x)::db f v r)from rfl];by_cases hk:k=f
  ·rw[if_pos hk];by_cases h:g=k
   ·have hb:(g==k)=true:=beq_iff_eq.mpr h;simp only[List.lookup,hb,if_pos (h.trans hk)]
   ·have hb:(g==k)=false:=beq_eq_false_iff_ne.mpr h;simp only[List.lookup,hb,if_neg (fun e:g=f=>h (e.trans hk.symm))]
  ·rw[if_neg hk];by_cases h:g=k
   ·have hb:(g==k)=true:=beq_iff_eq.mpr h;simp only[List.lookup,hb,if_neg (fun e:g=f=>hk (h.symm.trans e))]
   ·have hb:(g==k)=false:=beq_eq_false_iff_ne.mpr h;simp only[List.lookup,hb];exact ih
theorem i7(f:Str)(v:V):∀fs:List (Str×V),f∈(db f v fs).map (·.1)/\∀g,g∈fs.map (·.1)->g∈(db f v fs).map (·.1)
 |[]=>⟨by simp[db],fun g h=>by simp at h⟩
 |(k,x)::r=>by
  obtain⟨i1,i2⟩:=i7 f v r;rw[show db f v ((k,x)::r)=(if k=f then(k,v)::r else(k,x)::db f v r)from rfl];by_cases hk:k=f
  ·rw[if_pos hk];subst hk;exact⟨by simp,fun g h=>by simpa using h⟩
  ·rw[if_neg hk];refine⟨?_,fun g h=>?_⟩
   ·rw[map_cons];exact W4 _ i1
   ·rw[map_cons]at h ⊢;rcases mem_cons.mp h with e|e
    ·exact mem_cons.mpr (.inl e)
    ·exact W4 _ (i2 g e)
theorem jw(f:Str)(v:V):∀fs:List (Str×V),(db f v fs).length<=fs.length+1
 |[]=>by simp[db]
 |(k,x)::r=>by
  have ih:=jw f v r;rw[show db f v ((k,x)::r)=(if k=f then(k,v)::r else(k,x)::db f v r)from rfl];by_cases hk:k=f
  ·rw[if_pos hk,V1,V1];lia
  ·rw[if_neg hk,V1,V1];lia
theorem iq.some_of{v:V}{o:Option Value}(r:iq (some v) o):∃u,o=some u/\aE v u:=by
 cases o with
 | none=>exact(show False from r).elim
 | some u=>exact⟨u,rfl,r⟩
theorem iq.none_of{o:Option Value}(r:iq none o):o=none:=by
 cases o with
 | none=>rfl
 | some u=>exact(show False from r).elim
theorem rW{v:V}{u:Value}(r:aE v u):handedIn u=true:=by
 cases v with
 | non=>cases(show u=Value.none from r);rfl
 | bl b=>cases(show u=Value.bool b from r);rfl
 | int i=>obtain⟨t,e⟩:=(show∃t,u=Value.int i t from r);cases e;rfl
 | str x=>obtain⟨t,e⟩:=(show∃t,u=Value.str x t from r);cases e;rfl
 | byt b=>obtain⟨t,e⟩:=(show∃t,u=Value.bytes b t from r);cases e;rfl
 | flt b=>obtain⟨t,e⟩:=(show∃t,u=Value.float b t from r);cases e;rfl
 | ref a=>cases(show u=Value.ref a from r);rfl
 | ty n=>cases(show u=Value.type n from r);rfl
section
variable{P:Program}{w:World}{H H':Hp}{h h':Heap}{a C dx:Addr}{fs fs':List (Str×V)}
theorem jV(hok:HOk P w H h)(e:H a=some (.ins C dx fs)):∃mA,pP h a dx C mA/\(∀f,iq (fs.lookup f) (mA f))/\PySem.Within mA (fs.map (·.1))/\fs.length<=1000/\H dx=some (.own a):=by
 obtain⟨d,z,ne,ob,mA,n,r,q⟩:=(show bA P w H h a (.ins C dx fs)from hok a _ e)
 exact⟨mA,⟨ob,n,ne⟩,r,q,z,d⟩
end
structure Cls (K:PySem.W.Frag) (C:Addr):Prop where
 pg:plainGet K C Str.empty=true
 hd:hasDictIn K C=true
 po:plainOver K C=true
 sa:findIn K (.ref C) "__setattr__"=some (some (.builtin "object.__setattr__"))
theorem Cls.get{K:PySem.W.Frag}{C:Addr}(c:Cls K C)(f:Str):plainGet K C f=true:=c.pg
noncomputable def eM(K:PySem.W.Frag)(C:Addr)(f:Str):Prop:=findIn K (.ref C) f=some none
theorem eM.taker{K:PySem.W.Frag}{C:Addr}{f:Str}(n:eM K C f):takerIn K C f=some none:=by
 unfold takerIn;rw[show findIn K (.ref C) f=some none from n];rfl
structure wj (K:PySem.W.Frag) (C:Addr) (m:Str) (f:Addr):Prop where
 at_:findIn K (.ref C) m=some (some (.ref f))
 fn:isFn K (.ref f)=true
 kp:keepIn K (.ref f)=true
section
variable{X:Cx}{pins:List (Addr×Obj)}{σ:St}{H:Hp}{s:Shared}{a C dx:Addr}{fs:List (Str×V)}{f:Str}{v:V}{A:Around}{E:Value->Shared->Prop}
theorem pQ{b:Bool}{Q:Value->Shared->Prop}(I:Inv X pins σ H s)(e:H a=some (.ins C dx fs))(c:Cls X.K C)(n:eM X.K C f)(l:fs.lookup f=some v)
 (h:∀u s',Inv X pins σ H s'->aE v u->Q u s'):wpAny (model X.prog X.w) A (getAttr (.ref a) f b) Q E s:=by
 obtain⟨mA,O,r,_,_,_⟩:=jV I.hok e;obtain⟨u,hu,ru⟩:=iq.some_of (v:=v) (o:=mA f) (by rw[<-l];exact r f);exact we I.kIn O (c.get f) c.hd n hu (rW ru) (h u _ (I.tok _) ru)
theorem pR{m:Str}{g:Addr}{pl:Sem Bool}{Q:Value×List Value->Shared->Prop}(I:Inv X pins σ H s)(e:H a=some (.ins C dx fs))(c:Cls X.K C)(k:wj X.K C m g)(l:fs.lookup m=none)
 (h:Q (.ref g,[.ref a]) s):wpAny (model X.prog X.w) A (getMethod (.ref a) m pl) Q E s:=by
 obtain⟨mA,O,r,_,_,_⟩:=jV I.hok e;have hn:mA m=none:=iq.none_of (by rw[<-l];exact r m);exact uh I.kIn O (c.get m) k.at_ k.fn hn h
theorem pS{y:V}{u:Value}{Q:Unit->Shared->Prop}(I:Inv X pins σ H s)(e:H a=some (.ins C dx fs))(c:Cls X.K C)(n:eM X.K C f)(hl:fs.length<1000)(ry:aE y u)
 (h:∀s',Inv X pins σ (upd H a (.ins C dx (db f y fs))) s'->Q () s'):wpAny (model X.prog X.w) A (setAttr (.ref a) f u) Q E s:=by
 obtain⟨mA,O,r,wi,_,ho⟩:=jV I.hok e;have hz:(fs.map (·.1)).length<=sizeLine:=by rw[Y6,sizeLine_eq];lia
 refine wg I.kIn O c.sa c.po n.taker c.hd wi hz fun h' O' sb=>h _ ?_
 have hd:∃o,h'.get? dx=some o:=let⟨o,_,_,e',_⟩:=O'.ns;⟨o,e'⟩;refine I.write (x:=a) (e:=dx) (by rw[e];exact True.intro) (.inr ho) (fun b q hb z=>(sb.2 b hb).trans z) hd ?_;refine⟨by rw[ak O.ne];exact ho,?_,O.ne,O'.obj,_,O'.ns,fun g=>?_,fun g hg=>?_⟩
 ·have:=jw f y fs;lia
 ·show iq ((db f y fs).lookup g) (if g=f then some u else mA g);rw[jv];by_cases q:g=f
  ·rw[if_pos q,if_pos q];exact ry
  ·rw[if_neg q,if_neg q];exact r g
 ·by_cases q:g=f
  ·rw[q];exact(i7 f y fs).1
  ·refine(i7 f y fs).2 g (wi g fun z=>hg ?_);show(if g=f then some u else mA g)=none;rw[if_neg q];exact z
theorem Inv.made(I:Inv X pins σ H s):Inv X pins σ (upd (upd H s.heap.objs.size (.own (s.heap.objs.size+1))) (s.heap.objs.size+1) (.ins C s.heap.objs.size []))
 {s with heap:=(s.heap.push emptyDict).push (instObj C s.heap.objs.size)}:=by
 have e1:(s.heap.push emptyDict).get? s.heap.objs.size=some emptyDict:=W3 s.heap rfl;have e2:((s.heap.push emptyDict).push (instObj C s.heap.objs.size)).get? (s.heap.objs.size+1)=some (instObj C s.heap.objs.size):=by
  have:=W3 (s.heap.push emptyDict) (o:=instObj C s.heap.objs.size) rfl;rwa[V0]at this
 have e3:(s.heap.push emptyDict).Ns s.heap.objs.size (fun _=>none):=⟨emptyDict,#[],_,e1,rfl,(fun e he=>absurd he (by simp)),fun _=>rfl⟩
 have I1:=I.laid (a:=s.heap.objs.size) (o:= .own (s.heap.objs.size+1)) (h':=s.heap.push emptyDict) (t':=s.toks) (fun b u q=>Y7 _ q) (W1 _) ⟨_,e1⟩;refine I1.laid (a:=s.heap.objs.size+1) (o:= .ins C s.heap.objs.size []) (t':=s.toks) (fun b u q=>Y7 _ q) (Nat.le_of_eq (V0 _ _)) ?_;have ne:s.heap.objs.size≠s.heap.objs.size+1:=V4 (lt_succ_self _);refine⟨by rw[ak ne,aa],zero_le _,ne,e2,fun _=>none,(Heap.Ns1.of_empty e3).at fun o q=>Y7 _ q,fun _=>True.intro,fun y hy=>absurd rfl hy⟩
theorem wk{prog:Program}{w:World}{env:Env}{e:Expr}{f:Str}{pos:Pos}{s:Shared}{Q:Value->Shared->Prop}(hb:attributeBase e f env (eval e env)=eval e env)
 (h:wpAny (model prog w) A (eval e env) (fun o s₁=>wpAny (model prog w) A (getAttr o f true) Q E s₁) E s):wpAny (model prog w) A (eval (.Attribute e f pos) env) Q E s:=
 Attribute_any_ h (by rw[arm_eval_Attribute,hb])
end
noncomputable def yq(K:PySem.W.Frag)(ta:TE)(f:Str):TE:=fun σ H Q=>ta σ H fun x H1=>∃a C dx fs v,x= .ref a/\H1 a=some (.ins C dx fs)/\Cls K C/\eM K C f/\fs.lookup f=some v/\Q v H1
noncomputable def yr(K:PySem.W.Frag)(ta tv:TE)(f:Str):TS:=fun D σ H=>tv σ H fun y H1=>ta σ H1 fun x H2=>∃a C dx fs,x= .ref a/\H2 a=some (.ins C dx fs)/\Cls K C/\eM K C f/\fs.length<1000/\
 D.nx σ (upd H2 a (.ins C dx (db f y fs)))
section
variable{X:Cx}{o e value:Expr}{f:Str}{pos pos' tpos:Pos}{ta tv:TE}
theorem yt(he:PE X e ta)(hb:attributeBase e f X.env (eval e X.env)=eval e X.env):PE X (.Attribute e f pos) (yq X.K ta f):=by
 intro pins s σ H Q I h;refine wk hb (thn (he pins s σ H _ I h) fun u s1 ⟨x,H1,I1,rx,a,C,dx,fs,v,ex,ea,c,n,l,q⟩=>?_);subst ex;obtain rfl:u=Value.ref a:=rx;exact pQ I1 ea c n l fun u' s2 I2 ru=>⟨v,H1,I2,ru,q⟩
theorem yu(ha:PE X o ta)(hv:PE X value tv)(hs:swapsWith value (some (.Attribute o f pos')) pos.line X.env=pure false):PS X (.Assign [.Attribute o f pos'] value pos) (yr X.K ta tv f):=by
 intro pins s σ H D I h;refine plainObj_wpAny_Assign_Attribute (thn (hv pins s σ H _ I h) fun u s1 ⟨y,H1,I1,ry,q⟩=>thn (ha pins s1 σ H1 _ I1 q) fun ov s2 ⟨x,H2,I2,rx,a,C,dx,fs,ex,ea,c,n,l,q2⟩=>?_) hs;subst ex;obtain rfl:ov=Value.ref a:=rx;exact pS I2 ea c n l ry fun s3 I3=>⟨σ,_,I3,q2⟩
end
section
variable{X:Cx}{pins:List (Addr×Obj)}{σ:St}{H:Hp}{s:Shared}{A:Around}{E:Value->Shared->Prop}{Q:Value->Shared->Prop}{c:Value}{b:Bool}
inductive gZ (K:PySem.W.Frag) (H:Hp):V->Value->Prop where
 | non:gZ K H .non (.type "NoneType")
 | bl (x:Bool):gZ K H (.bl x) (.type "bool")
 | int (i:Int):gZ K H (.int i) (.type "int")
 | str (x:Str):gZ K H (.str x) (.type "str")
 | flt (x:UInt64):gZ K H (.flt x) (.type "float")
 | lst {a:Addr} {xs:List V} (e:H a=some (.lst xs)):gZ K H (.ref a) (.type "list")
 | frz {a:Addr} {o:Obj} {xs:List V} (e:H a=some (.frz o (.lst xs))):gZ K H (.ref a) (.type "list")
 | tup {a:Addr} {xs:List V} (e:H a=some (.tup xs)):gZ K H (.ref a) (.type "tuple")
 | dK {a:Addr} {kvs:List (Key×V)} (e:H a=some (.dK kvs)):gZ K H (.ref a) (.type "dict")
 | dT {a:Addr} {kvs:List (List Key×V)} (e:H a=some (.dT kvs)):gZ K H (.ref a) (.type "dict")
 | ins {a C dx:Addr} {fs:List (Str×V)} (e:H a=some (.ins C dx fs)) (cl:Cls K C) (ha:findIn K (.ref C) "__class__"=some (some (.builtin "object.__class__")))
  (hn:PySem.W.specialIn K (.builtin "object.__class__") "__get__"=some (some (.builtin "getset_descriptor.__get__"))) (htk:PySem.W.takesIn K (.builtin "object.__class__")=some true)
  (hm:PySem.W.mroIn K C (.type "object")=some true):gZ K H (.ref a) (.ref C)
theorem rX{x:V}{u t:Value}(I:Inv X pins σ H s)(rx:aE x u)(ty:gZ X.K H x t)(e:kitOne X.K t c=some b)(h:∀tk,Q (.bool b) {s with toks:=tk}):
 wpAny (model X.prog X.w) A (call (.builtin "isinstance") [u,c]) Q E s:=by
 cases ty with
 | non=>cases(show u=Value.none from rx);exact kia_one PySem.W.kitx_none I.kIn True.intro e (fun z=>nomatch z) h
 | bl y=>cases(show u=Value.bool y from rx);exact kia_one PySem.W.kitx_bool I.kIn True.intro e (fun z=>nomatch z) h
 | int i=>obtain⟨t,q⟩:=(show∃t,u=Value.int i t from rx);cases q;exact kia_one PySem.W.kitx_int I.kIn True.intro e (fun z=>nomatch z) h
 | str y=>obtain⟨t,q⟩:=(show∃t,u=Value.str y t from rx);cases q;exact kia_one PySem.W.kitx_str I.kIn True.intro e (fun z=>nomatch z) h
 | flt y=>obtain⟨t,q⟩:=(show∃t,u=Value.float y t from rx);cases q;exact kia_one PySem.W.kitx_float I.kIn True.intro e (fun z=>nomatch z) h
 | @lst a xs ea=>
   cases(show u=Value.ref a from rx);obtain⟨_,_,n,_,h1⟩:=(show bA X.prog X.w H s.heap a (.lst xs)from I.hok a _ ea)
   exact kia_one kitx_list I.kIn ⟨_,h1,rfl⟩ e (fun z=>nomatch z) h
 | @frz a ob xs ea=>
   cases(show u=Value.ref a from rx);obtain⟨_,_,_,n,_,h1⟩:=(show bA X.prog X.w H s.heap a (.frz ob (.lst xs))from I.hok a _ ea)
   exact kia_one kitx_list I.kIn ⟨_,h1,rfl⟩ e (fun z=>nomatch z) h
 | @tup a xs ea=>
   cases(show u=Value.ref a from rx);obtain⟨_,_,_,p⟩:=(show bA X.prog X.w H s.heap a (.tup xs)from I.hok a _ ea)
   obtain⟨o,h1,h2,_⟩:=p;exact kia_one PySem.W.kitx_tuple I.kIn ⟨o,h1,h2⟩ e (fun z=>nomatch z) h
 | @dK a kvs ea=>
   cases(show u=Value.ref a from rx);obtain⟨_,_,vs,_,p⟩:=(show bA X.prog X.w H s.heap a (.dK kvs)from I.hok a _ ea)
   obtain⟨o,es,ep,h1,h2,_⟩:=p;exact kia_one kitx_dict I.kIn ⟨o,h1,h2.1⟩ e (fun z=>nomatch z) h
 | @dT a kvs ea=>
   cases(show u=Value.ref a from rx);obtain⟨_,_,xs,_,o,es,ep,h1,h2,_⟩:=(show bA X.prog X.w H s.heap a (.dT kvs)from I.hok a _ ea)
   exact kia_one kitx_dict I.kIn ⟨o,h1,h2.1⟩ e (fun z=>nomatch z) h
 | @ins a C dx fs ea cl ha hn htk hm=>
   cases(show u=Value.ref a from rx);obtain⟨mA,O,_⟩:=jV I.hok ea;obtain⟨od,J,_⟩:=O.look;exact kia_one (PySem.W.kitx_own (cl.get _) cl.hd ha hn htk hm) I.kIn J e (fun z=>nomatch z) h
end
structure cr (k:Nat) (A:Around):Prop where
 hd:A.handled=none
 dp:A.depth+3*k+5<recursionLimit
 un:A.units+16*k+200<cLine
theorem cr.mono{j k:Nat}{A:Around}(r:cr k A)(h:j<=k):cr j A:=⟨r.hd,by have:=r.dp;lia,by have:=r.un;lia⟩
theorem cr.deeper{k:Nat}{A:Around}(r:cr (k+1) A)(env:Env):cr k (A.deeper env):=
 ⟨r.hd,by have:=r.dp;show A.depth+1+3*k+5<_;lia,by have:=r.un;show A.units+3+16*k+200<_;lia⟩
theorem pT{A:Around}{C:Addr}{us:List Value}{kw:List (Str×Value)}:(A.under (.builtin "type.__call__" ⟨.ref C::us,kw⟩)).depth=A.depth+1:=by
 first|rfl|simp[Around.under,Code.weight,Code.isCreation,Code.isGuard,Code.isCaller,Code.frames,Code.isFrame,guardIds]
theorem pU{A:Around}{C:Addr}{us:List Value}{kw:List (Str×Value)}:(A.under (.builtin "type.__call__" ⟨.ref C::us,kw⟩)).units=A.units+1:=by
 first|rfl|simp[Around.under,Code.cUnits,Code.frames,Code.isFrame]
theorem cr.make{k:Nat}{A:Around}(r:cr (k+1) A)(C:Addr)(us:List Value)(kw:List (Str×Value)):cr k (A.under (.builtin "type.__call__" ⟨.ref C::us,kw⟩)):=
 ⟨r.hd,by have:=r.dp;rw[pT];lia,by have:=r.un;rw[pU];lia⟩
theorem cr.depth{k:Nat}{A:Around}(r:cr k A):A.depth<recursionLimit:=by have:=r.dp;lia
theorem cr.units{k:Nat}{A:Around}(r:cr k A):A.units+64<cLine:=by have:=r.un;lia
noncomputable def um:TA:=fun _ H Q=>Q [] H
noncomputable def uo(ta:TE)(tr:TA):TA:=fun σ H Q=>ta σ H fun x H1=>tr σ H1 fun xs H2=>Q (x::xs) H2
section
variable{X:Cx}{e:Expr}{es:List Expr}{te:TE}{t:TA}{pos:Pos}
theorem yv:PA X [] um:=fun _ _ _ _ H Q I h=>Calls.spliced_nil ⟨[],H,I,.nil,h⟩
theorem wl(ha:PE X e te)(hr:PA X es t)(hs:starEach (e::es) X.env=(false,eval e X.env)::starEach es X.env):PA X (e::es) (uo te t):=by
 intro pos pins s σ H Q I h;rw[hs];show wpAny _ _ (spliced ((false,eval e X.env)::backTo pos (starEach es X.env))) _ _ s;refine Calls.spliced_cons (thn (ha pins s σ H _ I h) fun u s1 ⟨x,H1,I1,r1,q1⟩=>?_);exact thn (hr pos pins s1 σ H1 _ I1 q1) fun us s2 ⟨xs,H2,I2,r2,q2⟩=>⟨x::xs,H2,I2,.cons r1 r2,q2⟩
noncomputable def yw(t:TA):TE:=fun σ H Q=>t σ H fun xs H1=>xs.length<=sizeLine/\∀p,H1 p=none->Q (.ref p) (upd H1 p (.tup xs))
noncomputable def yx(t:TA):TE:=fun σ H Q=>t σ H fun xs H1=>xs.length<=sizeLine/\∀p,H1 p=none->Q (.ref p) (upd H1 p (.lst xs))
theorem yy{x1}(h:PA X es t):PE X (.Tuple es x1 pos) (yw t):=by
 intro pins s σ H Q I hq;refine wpAny_Tuple_spliced (thn (h pos pins s σ H _ I hq) fun us s1 ⟨xs,H1,I1,r,z,q⟩=>⟨by rw[<-r.length];exact z,?_⟩);have hf:H1 s1.heap.objs.size=none:=I1.hok.fresh (W1 _);refine⟨.ref s1.heap.objs.size,upd H1 s1.heap.objs.size (.tup xs),I1.laid (t':=s1.toks) (fun b u e=>Y7 _ e) (W1 _) ?_,rfl,q _ hf⟩;exact⟨z,us,r,_,W3 _ rfl,rfl,_,rfl⟩
theorem yz(h:PA X es t):PE X (.List es pos) (yx t):=by
 intro pins s σ H Q I hq;refine wpAny_List_spliced (thn (h pos pins s σ H _ I hq) fun us s1 ⟨xs,H1,I1,r,z,q⟩=>⟨by rw[<-r.length];exact z,?_⟩);have hf:H1 s1.heap.objs.size=none:=I1.hok.fresh (W1 _);refine⟨.ref s1.heap.objs.size,upd H1 s1.heap.objs.size (.lst xs),I1.laid (t':=s1.toks) (fun b u e=>Y7 _ e) (W1 _) ?_,rfl,q _ hf⟩;exact⟨z,us,0,r,W3 _ rfl⟩
end
noncomputable abbrev Sp:=List V->Hp->VK->XK->Prop
noncomputable abbrev CXT:=List Env->Hp->Shared->XK->Value->Shared->Prop
structure pV (P:Program) (w:World) (K:PySem.W.Frag) (mg:Str->Option Value) (base:Heap) (A:Around) (outer:List Env) (s:Shared) (H:Hp):Prop where
 frames:A.frames=some outer
 mod:Mod K mg base
 bs:∀b o,base.get? b=some o->s.heap.get? b=some o/\H b=none
 bsz:base.objs.size<=s.heap.objs.size
 funs:s.heap.FunFrames base outer
 frf:∀b∈frs outer,H b=none
 hok:HOk P w H s.heap
 bare:AllBare s.gens
noncomputable def CE(outer:List Env)(P:Program)(w:World)(H:Hp)(s:Shared)(Q:VK)(u:Value)(s':Shared):Prop:=
 ∃v H',s'.os=s.os/\AllBare s'.gens/\Un (frs outer) [] H H' s.heap s'.heap/\HOk P w H' s'.heap/\aE v u/\Q v H'
noncomputable def CR(CX:CXT)(outer:List Env)(P:Program)(w:World)(H:Hp)(s:Shared)(Q:VK)(E:XK)(r:Result)(s':Shared):Prop:=
 match r with
 | .ok (.ret u)=>CE outer P w H s Q u s'
 | .ok _=>False
 | .error e=>CX outer H s E e s'
structure hJ (P:Program) (w:World) (K:PySem.W.Frag) (mg:Str->Option Value) (base:Heap) (CX:CXT) (k:Nat) (f:Addr) (fd:FuncData) (ps:List Str) (sp:Sp):Prop where
 len:∀vs H Q E,sp vs H Q E->vs.length=ps.length
 run:∀(A:Around) (outer:List Env) (s:Shared) (H:Hp) (args:Args) (us:List Value) (vs:List V) (Q:VK) (E:XK),cr k A->pV P w K mg base A outer s H->BindsTo s fd args (ps.zip us)->aH vs us->sp vs H Q E->
  codeAny (model P w) A (.call (.ref f) args) (CR CX outer P w H s Q E) s
theorem pV.make{P:Program}{w:World}{K:PySem.W.Frag}{mg:Str->Option Value}{base:Heap}{A:Around}{outer:List Env}{s:Shared}{H:Hp}(e:pV P w K mg base A outer s H)(C:Addr)(us:List Value)(kw:List (Str×Value)):
 pV P w K mg base (A.under (.builtin "type.__call__" ⟨.ref C::us,kw⟩)) outer s H:=⟨by first|exact e.frames|(simpa [Around.under,Code.envs,Code.isFrame,pushEnvs]using e.frames),e.mod,e.bs,e.bsz,e.funs,e.frf,e.hok,e.bare⟩
section
variable{X:Cx}{pins:List (Addr×Obj)}{σ:St}{H:Hp}{s s':Shared}
theorem Inv.env0(I:Inv X pins σ H s):pV X.prog X.w X.K X.mg X.base X.A X.stack s H:=
 ⟨I.ok.frames,I.ok.mod,I.bs,le_trans I.ok.bsz I.sz,I.stack,I.stkFree,I.hok,I.bare⟩
theorem Inv.after{Q:VK}{u:Value}(I:Inv X pins σ H s)(h:CE X.stack X.prog X.w H s Q u s'):EP X pins σ Q u s':=by
 obtain⟨v,H',os,bare,un,hok,r,q⟩:=h;obtain⟨hh,g,d,t,os'⟩:=s';obtain rfl:os'=s.os:=os;exact⟨v,H',I.call (h':=hh) (g':=g) (d':=d) (t':=t) (ch:=[]) un hok bare (fun b z=>absurd z (by simp)),r,q⟩
end
noncomputable def qY(sp:Sp)(dvs:List V)(E:XK)(t:TA):TE:=fun σ H Q=>t σ H fun vs H1=>sp (vs++dvs) H1 Q E
noncomputable def uq(C:Addr)(m:Str)(sp:Sp)(dvs:List V)(E:XK)(ta:TE)(t:TA):TE:=fun σ H Q=>ta σ H fun x H1=>∃a dx fs,x= .ref a/\H1 a=some (.ins C dx fs)/\fs.lookup m=none/\
 t σ H1 fun vs H2=>sp (x::(vs++dvs)) H2 Q E
noncomputable def ur(C:Addr)(sp:Sp)(dvs:List V)(E:XK)(t:TA):TE:=fun σ H Q=>t σ H fun vs H1=>∀x dx,H1 x=none->H1 dx=none->dx≠x->
 sp (.ref x::(vs++dvs)) (upd (upd H1 dx (.own x)) x (.ins C dx [])) (fun v H2=>v= .non/\Q (.ref x) H2) E
noncomputable def eI(K:PySem.W.Frag)(fd:FuncData)(ps:List Str)(ds:List Value):Prop:=
 ∀(s:Shared) (us:List Value),K.In s.heap->(us++ds).length=ps.length->BindsTo s fd ⟨us,[]⟩ (ps.zip (us++ds))
theorem eI.all{K:PySem.W.Frag}{fd:FuncData}{ps:List Str}(h:∀us:List Value,us.length=ps.length->bindArgs fd ⟨us,[]⟩=pure (ps.zip us)):eI K fd ps []:=fun s us _ hl=>by
 rw[append_nil]at hl ⊢;exact .of_eq (h us hl)
noncomputable def hV(CX:CXT)(X:Cx)(E:XK):Prop:=∀(pins:List (Addr×Obj)) (σ:St) (H:Hp) (s:Shared) (e:Value) (s':Shared),Inv X pins σ H s->CX X.stack H s E e s'->X.xe e s'
section
variable{X:Cx}{CX:CXT}{k:Nat}{f C:Addr}{fd:FuncData}{ps:List Str}{sp:Sp}{dvs:List V}{ds:List Value}{E:XK}{x m:Str}{p pos apos:Pos}{e o:Expr}{es:List Expr}{ta:TE}{t:TA}
theorem ut{pins:List (Addr×Obj)}{σ:St}{H:Hp}{s:Shared}{Q:VK}{us:List Value}{vs:List V}(F:hJ X.prog X.w X.K X.mg X.base CX k f fd ps sp)(hr:cr k X.A)(hb:eI X.K fd ps ds)(hd:aH dvs ds)(hx:hV CX X E)
 (I:Inv X pins σ H s) (r:aH vs us) (h:sp (vs++dvs) H Q E):wpAny (model X.prog X.w) X.A (call (.ref f) us) (EP X pins σ Q) X.xe s:=by
 have r2:aH (vs++dvs) (us++ds):=r.append hd;have hl:(us++ds).length=ps.length:=by rw[<-r2.length];exact F.len _ _ _ _ h
 refine wpAny_call (codeAny_mono (F.run X.A X.stack s H ⟨us,[]⟩ (us++ds) (vs++dvs) Q E hr I.env0 (hb s us I.kIn hl) r2 h) fun r s' hq=>?_);cases r with
 | error e=>exact hx pins σ H s e s' I hq
 | ok fl=>
   cases fl with
   | ret u=>exact I.after hq
   | next=>exact False.elim hq
   | brk=>exact False.elim hq
   | cont=>exact False.elim hq
theorem wn(F:hJ X.prog X.w X.K X.mg X.base CX k f fd ps sp)(hr:cr k X.A)(hg:Gl X x)(hm:X.mg x=some (.ref f))(hk:keepIn X.K (.ref f)=true)(hb:eI X.K fd ps ds)(hd:aH dvs ds)(hx:hV CX X E)
 (ha:PA X (e::es) t) (hdb:(x==("__debug__":Str))=false) (he:starEach (e::es) X.env=(false,eval e X.env)::starEach es X.env) (hpl:(backTo pos (starEach es X.env)).any (·.1)=false):
 PE X (.Call (.Name x p) (e::es) [] pos) (qY sp dvs E t):=by
 intro pins s σ H Q I h;refine wpAny_Call_Name_kw (mK I hg hm ?_ hdb);refine callWith_K (h₀:=X.base) I.ok.mod.kin hk (thn (ha pos pins s σ H _ I h) fun us s1 ⟨vs,H1,I1,r,q⟩=>⟨I1.kIn,?_⟩) he hpl;exact ut F hr hb hd hx I1 r q
theorem uu{pl:Sem Bool}(he:PE X o ta)(c:Cls X.K C)(hm:wj X.K C m f)(F:hJ X.prog X.w X.K X.mg X.base CX k f fd ps sp)(hr:cr k X.A)(hb:eI X.K fd ps ds)(hd:aH dvs ds)(hx:hV CX X E)
 (ht:eval (.Call (.Attribute o m apos) [] [] pos) X.env=(do
  let ov<-eval o X.env
  standAt apos.atName
  let(f,first)<-holding [ov] (getMethod ov m pl)
  callWith pos f first (backTo pos (starEach [] X.env)) (backToKw pos (keywordEach [] X.env)))):
 PE X (.Call (.Attribute o m apos) [] [] pos) (uq C m sp dvs E ta um):=by
 intro pins s σ H Q I h;refine PySem.W.methodCall_KW (pl:=pl) (thn (he pins s σ H _ I h) fun u s1 ⟨x,H1,I1,rx,a,dx,fs,ex,ea,l,q⟩=>?_) ht;subst ex;obtain rfl:u=Value.ref a:=rx;refine pR I1 ea c hm l ?_;exact PySem.W.callWith_K0 (first:=[.ref a]) I1.kIn hm.kp (ut (us:=[.ref a]) (vs:=[.ref a]) F hr hb hd hx I1 (.cons rfl .nil) q)
structure Mk (K:PySem.W.Frag) (C f:Addr):Prop where
 makes:makesIn K C=true
 init:findIn K (.ref C) "__init__"=some (some (.ref f))
 fn:isFn K (.ref f)=true
 kp:keepIn K (.ref C)=true
theorem uv{pins:List (Addr×Obj)}{σ:St}{H:Hp}{s:Shared}{Q:VK}{us:List Value}{vs:List V}(M:Mk X.K C f)(F:hJ X.prog X.w X.K X.mg X.base CX k f fd ps sp)(hr:cr (k+1) X.A)(hb:eI X.K fd ps ds)(hd:aH dvs ds)
 (hx:hV CX X E) (I:Inv X pins σ H s) (r:aH vs us)
 (h:∀x dx,H x=none->H dx=none->dx≠x->sp (.ref x::(vs++dvs)) (upd (upd H dx (.own x)) x (.ins C dx [])) (fun v H2=>v= .non/\Q (.ref x) H2) E):
 wpAny (model X.prog X.w) X.A (call (.ref C) us) (EP X pins σ Q) X.xe s:=by
 have hq:=h (s.heap.objs.size+1) s.heap.objs.size (I.hok.fresh (le_succ _)) (I.hok.fresh (W1 _)) (V4 (lt_succ_self _));have I2:=Inv.made (C:=C) I;have r2:aH (V.ref (s.heap.objs.size+1)::(vs++dvs)) (Value.ref (s.heap.objs.size+1)::(us++ds)):= .cons rfl (r.append hd);have hl:(Value.ref (s.heap.objs.size+1)::us++ds).length=ps.length:=by
  have e:=r2.length;rw[F.len _ _ _ _ hq]at e;exact e.symm
 refine wpAny_call (uk (f:=f) I.kIn M.makes M.init (beq_iff_eq.mp M.fn) (codeAny_mono (F.run _ X.stack _ _ ⟨Value.ref (s.heap.objs.size+1)::us,[]⟩ (Value.ref (s.heap.objs.size+1)::(us++ds)) _ _ E (hr.make C us [])
  (I2.env0.make C us []) (hb _ (Value.ref (s.heap.objs.size+1)::us) I2.kIn hl) r2 hq) fun r s' hq'=>?_))
 cases r with
 | error e=>exact hx pins σ _ _ e s' I2 hq'
 | ok fl=>
   cases fl with
   | ret u=>
     obtain⟨v,H',I3,rv,ev,q3⟩:=I2.after hq';subst ev;exact⟨rv,V.ref (s.heap.objs.size+1),H',I3,rfl,q3⟩
   | next=>exact False.elim hq'
   | brk=>exact False.elim hq'
   | cont=>exact False.elim hq'
theorem wo(M:Mk X.K C f)(F:hJ X.prog X.w X.K X.mg X.base CX k f fd ps sp)(hr:cr (k+1) X.A)(hg:Gl X x)(hm:X.mg x=some (.ref C))(hb:eI X.K fd ps ds)(hd:aH dvs ds)(hx:hV CX X E)
 (ha:PA X (e::es) t) (hdb:(x==("__debug__":Str))=false) (he:starEach (e::es) X.env=(false,eval e X.env)::starEach es X.env) (hpl:(backTo pos (starEach es X.env)).any (·.1)=false):
 PE X (.Call (.Name x p) (e::es) [] pos) (ur C sp dvs E t):=by
 intro pins s σ H Q I h;refine wpAny_Call_Name_kw (mK I hg hm ?_ hdb);refine callWith_K (h₀:=X.base) I.ok.mod.kin M.kp (thn (ha pos pins s σ H _ I h) fun us s1 ⟨vs,H1,I1,r,q⟩=>⟨I1.kIn,?_⟩) he hpl;exact uv M F hr hb hd hx I1 r q
end
section
variable{X:Cx}{CX:CXT}{k:Nat}{f C:Addr}{fd:FuncData}{ps ks:List Str}{sp:Sp}{E:XK}{x m:Str}{p pos apos kpos:Pos}{e o:Expr}{es:List Expr}{kws:List Keyword}{te ta:TE}{t tk:TA}{nm:Option Str}
variable{g:List Value->List Value->List Value}{gV:List V->List V->List V}
end
structure au (N P:List Str) (sc:Scope):Prop where
 kind:sc.kind= .function
 co:sc.isCoroutine=false
 gen:sc.isGenerator=false
 nd:N.Nodup
 pre:N.take P.length=P
 par:∀x∈P,sc.names.lookup x=some .local\/sc.names.lookup x=some .cell
 nofree:∀y∈sc.names,y.2≠ .free
theorem lK{kindOf:Str->Option NameKind}{x:Str}:∀{binds:List (Str×Value)} {m:Str->Option Value},(∀v,(x,v)∉binds)->bindL kindOf binds m x=m x
 |[],_,_=>rfl
 |(n,v)::r,m,h=>by
  unfold bindL;rw[lK fun w hw=>h w (W4 _ hw)]
  split
  ·have:x≠n:=by rintro rfl;exact h v W6
   simp[this]
  ·rfl
theorem lL{kindOf:Str->Option NameKind}{x:Str}:∀{binds:List (Str×Value)} {m:Str->Option Value},(∀v,(x,v)∉binds)->bindC kindOf binds m x=m x
 |[],_,_=>rfl
 |(n,v)::r,m,h=>by
  unfold bindC;rw[lL fun w hw=>h w (W4 _ hw)]
  split
  ·rfl
  ·have:x≠n:=by rintro rfl;exact h v W6
   simp[this]
theorem lM{kindOf:Str->Option NameKind}{x:Str}{v:Value}:∀{P:List Str} {vs:List Value} {i:Nat} {m:Str->Option Value},P.Nodup->P[i]? =some x->vs[i]? =some v->kindOf x=some .local->
 bindL kindOf (P.zip vs) m x=some v
 |[],_,_,_,_,h,_,_=>by simp at h
 | _::_,[],_,_,_,_,h,_=>by simp at h
 | p::P,w::vs,0,m,nd,h1,h2,hk=>by
   simp at h1 h2;subst h1;subst h2;show bindL kindOf ((p,w)::P.zip vs) m p=_;unfold bindL;rw[lK fun v hv=>(nodup_cons.mp nd).1 (of_mem_zip hv).1,if_pos hk];simp
 | p::P,w::vs,i+1,m,nd,h1,h2,hk=>by
   show bindL kindOf ((p,w)::P.zip vs) m x=_;unfold bindL;exact lM (i:=i) (nodup_cons.mp nd).2 (by simpa using h1) (by simpa using h2) hk
theorem lN{kindOf:Str->Option NameKind}{x:Str}{v:Value}:∀{P:List Str} {vs:List Value} {i:Nat} {m:Str->Option Value},P.Nodup->P[i]? =some x->vs[i]? =some v->kindOf x≠some .local->
 bindC kindOf (P.zip vs) m x=some v
 |[],_,_,_,_,h,_,_=>by simp at h
 | _::_,[],_,_,_,_,h,_=>by simp at h
 | p::P,w::vs,0,m,nd,h1,h2,hk=>by
   simp at h1 h2;subst h1;subst h2;show bindC kindOf ((p,w)::P.zip vs) m p=_;unfold bindC;rw[lL fun v hv=>(nodup_cons.mp nd).1 (of_mem_zip hv).1,if_neg hk];simp
 | p::P,w::vs,i+1,m,nd,h1,h2,hk=>by
   show bindC kindOf ((p,w)::P.zip vs) m x=_;unfold bindC;exact lN (i:=i) (nodup_cons.mp nd).2 (by simpa using h1) (by simpa using h2) hk
noncomputable def fR(N:List Str)(vs:List V):St:=vs.map some++List.replicate (N.length-vs.length) none
noncomputable def mN(CX:CXT)(P:Program)(w:World)(K:PySem.W.Frag)(mg:Str->Option Value)(base:Heap)(N:List Str)(qual:Str)(scope:Scope)(f:Addr)(cd:Value)(A:Around)(outer:List Env)(s:Shared)(H:Hp)(E:XK):Cx where
 prog:=P
 w:=w
 K:=K
 mg:=mg
 base:=base
 A:=A.deeper (envOfC qual scope s.heap.objs.size f cd)
 N:=N
 s₀:=s
 H₀:=H
 env:=envOfC qual scope s.heap.objs.size f cd
 outer:=outer
 stack:=envOfC qual scope s.heap.objs.size f cd::outer
 ex:=[]
 calm:=true
 fn:=fun _=>true
 pn:=[]
 xe:=fun e s'=>wpAny (model P w) (A.deeper (envOfC qual scope s.heap.objs.size f cd)) (leaving (envOfC qual scope s.heap.objs.size f cd) e) (fun _ s''=>CX outer H s E e s'') (fun e' s''=>CX outer H s E e' s'') s'
theorem nS{sc:Scope}{n:Nat}{x:Str}(h:sc.names.lookup x=some .cell):∃c,(cellsFrom n sc.names []).lookup x=some c:=by
 have q:=cellsFrom_some sc.names n [] (.inl h);exact Option.isSome_iff_exists.mp q
theorem rY{CX:CXT}{P:Program}{w:World}{K:PySem.W.Frag}{mg:Str->Option Value}{base:Heap}{N ps:List Str}{qual:Str}{scope:Scope}{f:Addr}{cd:Value}{A:Around}{outer:List Env}{s s1:Shared}{H:Hp}{E:XK}{us:List Value}{vs:List V}
 (S:au N ps scope) (hd:A.handled=none) (e0:pV P w K mg base A outer s H) (hl:vs.length=ps.length) (r:aH vs us)
 (x:InCallC s s.heap.objs.size (bindL (envOfC qual scope s.heap.objs.size f cd).kindOf (ps.zip us) fun _=>none) (cellsFrom (s.heap.objs.size+1) scope.names []) (bindC (envOfC qual scope s.heap.objs.size f cd).kindOf (ps.zip us) fun _=>none) s1):
 Inv (mN CX P w K mg base N qual scope f cd A outer s H E) [] (fR N vs) H s1:=by
 have hpl:ps.length<=N.length:=by have:=congrArg List.length S.pre;rw[length_take]at this;lia
 obtain⟨h1,tk,rfl,hk⟩:=x.done;have noA:∀b:Addr,b∉(mN CX P w K mg base N qual scope f cd A outer s H E).ex:=fun b z=>absurd (show b∈([]:List Addr)from z) (by simp)
 refine⟨⟨e0.mod,S.kind,rfl,rfl,W1 _,fun y z c h1 h2=>?_,fun y hy=>?_,fun y c _ h=>?_,fun _=>hd,Around.frames_deeper e0.frames,.inr ⟨rfl,rfl⟩,fun b z=>absurd z (noA b),e0.bs,e0.bsz,fun b _ _=>noA b,fun b z=>absurd z (noA b),e0.funs,e0.frf⟩,
  rfl,e0.bare,Un.kept hk,⟨_,x.toInCall.ns,fun i y v h1 h2 h3=>?_⟩,fun y c h=>⟨_,x.cell y c h⟩,e0.hok.fresh (W1 _),fun y c h=>?_,fun p hp=>absurd (show p∈([]:List (Addr×Obj))from hp) (by simp),e0.hok.kept hk,?_⟩
 ·exact name_of_addr x.apart (PySem.mem_of_lookup h1) (PySem.mem_of_lookup h2)
 ·have hy:scope.names.lookup y=some .cell\/scope.names.lookup y=some .free:=hy;rcases hy with hy|hy
  ·exact nS hy
  ·exact absurd rfl (S.nofree _ (PySem.mem_of_lookup hy))
 ·exact le_of_lt (x.above y c (PySem.mem_of_lookup h))
 ·have hi:i<vs.length:=by
   unfold fR at h2;by_cases hi:i<vs.length
   ·exact hi
   ·rw[getElem?_append_right (by simpa using hi)]at h2;rw[List.getElem?_replicate]at h2
    split at h2<;> cases h2
  have ha:vs[i]? =some v:=by
   unfold fR at h2;rw[getElem?_append_left (by simpa using hi),W5]at h2;cases e:vs[i]? with
   | none=>rw[e]at h2;cases h2
   | some a=>rw[e]at h2;cases h2;rfl
  obtain⟨u,hu,rv⟩:=r.get ha;have hp:ps[i]? =some y:=by
   rw[<-S.pre,List.getElem?_take_of_lt (by lia)];exact h1
  have ndP:ps.Nodup:=by rw[<-S.pre];exact S.nd.sublist (List.take_sublist _ _)
  refine⟨u,rv,?_⟩;rcases S.par y (Y8 hp)with k|k
  ·exact .inl ⟨k,lM ndP hp hu k⟩
  ·obtain⟨c,e⟩:=nS (n:=s.heap.objs.size+1) k;refine .inr ⟨.inl k,c,e,?_⟩;have q:=x.cell y c e;rw[lN ndP hp hu (by show scope.names.lookup y≠_;rw[k];decide)]at q;exact q
 ·exact e0.hok.fresh (le_of_lt (x.above y c (PySem.mem_of_lookup h)))
 ·unfold fR;show _=N.length;rw[Y9,Y6,List.length_replicate]
  lia
theorem zW{CX:CXT}{P:Program}{w:World}{K:PySem.W.Frag}{mg:Str->Option Value}{base:Heap}{k:Nat}{f:Addr}{name qual:Str}{params:Arguments}{body:List Stmt}{scope:Scope}{dV kV doc pm cdv ct oc:Value}{an od:Option Addr}
 {osl:Array (Option Value)} {N ps:List Str} {sp:Sp} (lk:K.lookup f=some ⟨oc,od,.func (fnOf name qual params body scope dV kV doc pm an cdv ct),osl⟩) (hcd:codeIn K cdv qual=true) (S:au N ps scope)
 (len:∀vs H Q E,sp vs H Q E->vs.length=ps.length)
 (hbody:∀(A:Around) (outer:List Env) (s:Shared) (H:Hp) (vs:List V) (Q:VK) (E:XK),cr k (A.deeper (envOfC qual scope s.heap.objs.size f cdv))->sp vs H Q E->
  ∃t,PSs (mN CX P w K mg base N qual scope f cdv A outer s H E) body t/\t {nx:=fun _ H'=>Q .non H',rt:=Q} (fR N vs) H):
 hJ P w K mg base CX (k+1) f (fnOf name qual params body scope dV kV doc pm an cdv ct) ps sp:=by
 refine⟨len,fun A outer s H args us vs Q E hr e0 hb r hsp=>?_⟩;have hl:=len _ _ _ _ hsp;have KX:K.In s.heap:=e0.mod.kin.keeps fun b o e=>(e0.bs b o e).1
 have lim:s.heap.NoLimit:=e0.mod.nolimit.keeps fun b o e=>(e0.bs b o e).1
 have hkind:∀y∈ps.zip us,scope.names.lookup y.1=some .local\/(scope.names.lookup y.1=some .cell/\((cellsFrom (s.heap.objs.size+1) scope.names []).lookup y.1).isSome=true):=fun⟨n,v⟩ hy=>by
  rcases S.par n (of_mem_zip hy).1 with q|q
  ·exact .inl q
  ·exact .inr ⟨q,cellsFrom_some _ _ _ (.inl q)⟩
 refine codeAny_call_function hr.depth (KX _ _ lk) rfl S.co S.gen rfl (PySem.W.codeRec_of KX hcd) (hb _ _ _ _ ?_);refine wpAny_newFunctionEnv_cells S.kind hkind fun env he s1 x=>?_
 subst he;refine⟨lim.keeps x.toInCall.keep,codeAny_func ?_⟩;obtain⟨t,ht,hq⟩:=hbody A outer s H vs Q E (hr.deeper _) hsp;have I:Inv (mN CX P w K mg base N qual scope f cdv A outer s H E) [] (fR N vs) H s1:=rY S hr.hd e0 hl r x;refine wpAny_mono (ht [] s1 (fR N vs) H _ I hq) (fun fl s' hs=>?_) fun e s' hs=>hs
 have fin:∀{σ':St} {H':Hp} {v:V} {u:Value},Inv (mN CX P w K mg base N qual scope f cdv A outer s H E) [] σ' H' s'->aE v u->Q v H'->CE outer P w H s Q u s':=
  fun{σ' H' v u} J rv q=>⟨v,H',J.os,J.bare,J.base,J.hok,rv,q⟩
 cases fl with
 | ret u=>
   obtain⟨v,σ',H',J,rv,q⟩:=hs;exact fin J rv q
 | next=>
   obtain⟨σ',H',J,q⟩:=hs;exact fin (v:=V.non) (u:=Value.none) J rfl q
 | brk=>
   obtain⟨_,_,_,q⟩:=hs;exact False.elim q
 | cont=>
   obtain⟨_,_,_,q⟩:=hs;exact False.elim q
section
variable{X:Cx}{x:Str}{p pos:Pos}{e:Expr}{es:List Expr}{t:TA}{id T:String}{r:List V->Hp->VK->Prop}
noncomputable def tCB(r:List V->Hp->VK->Prop)(t:TA):TE:=fun σ H Q=>t σ H fun vs H1=>r vs H1 Q
theorem uw(hc:cG X (.builtin id) r)(hg:Gl X x)(hm:X.mg x=none)(hv:bootBuiltins x=some (.builtin id))(ha:PA X (e::es) t)(hn:x≠"__name__")(hdb:(x==("__debug__":Str))=false)
 (he:starEach (e::es) X.env=(false,eval e X.env)::starEach es X.env) (hpl:(backTo pos (starEach es X.env)).any (·.1)=false):PE X (.Call (.Name x p) (e::es) [] pos) (tCB r t):=by
 intro pins s σ H Q I h;refine wpAny_Call_Name_kw (gY I hg hm hv ?_ hn hdb);exact PyProof.Rows.callWith_builtin1 (thn (ha pos pins s σ H _ I h) fun us s1 ⟨vs,H1,I1,r1,q1⟩=>hc pins s1 σ H1 vs us Q I1 r1 q1) he hpl
theorem rZ(hc:cG X (.type T) r)(hg:Gl X x)(hm:X.mg x=none)(hv:bootBuiltins x=some (.type T))(ha:PA X (e::es) t)(hn:x≠"__name__")(hdb:(x==("__debug__":Str))=false)
 (he:starEach (e::es) X.env=(false,eval e X.env)::starEach es X.env) (hpl:(backTo pos (starEach es X.env)).any (·.1)=false):PE X (.Call (.Name x p) (e::es) [] pos) (tCB r t):=by
 intro pins s σ H Q I h;refine wpAny_Call_Name_kw (gY I hg hm hv ?_ hn hdb);exact PyProof.Rows.callWith_type1 (thn (ha pos pins s σ H _ I h) fun us s1 ⟨vs,H1,I1,r1,q1⟩=>hc pins s1 σ H1 vs us Q I1 r1 q1) he hpl
end
end L2
namespace HT
open PySem PyProof.Rows
section
open PySem.SeqAt
open PySem.AutoSeq1 (wpAny_loadPart')
open PySem.MeetsSeq PySem.MeetsSeq2 PySem.MeetsSeq3
end
section
variable{prog:Program}{w:World}{A:Around}{E:Value->Shared->Prop}{s:Shared}
noncomputable def sIx(n d:Nat):Option Int->Nat
 | none=>d
 | some v=>if v<0 then(v+(n:Int)).toNat else min v.toNat n
theorem sIx_none(n d:Nat):sIx n d none=d:=rfl
theorem sIx_nat(n d k:Nat):sIx n d (some (k:Int))=min k n:=by
 show(if(k:Int)<0 then((k:Int) +(n:Int)).toNat else min (k:Int).toNat n)=min k n;rw[if_neg (by lia),Int.toNat_natCast]
theorem yA(n d:Nat)(hd:d<=n)(o:Option Int):sIx n d o<=n:=by
 cases o with
 | none=>exact hd
 | some v=>
   show(if v<0 then(v+(n:Int)).toNat else min v.toNat n)<=n;by_cases hv:v<0
   ·rw[if_pos hv];lia
   ·rw[if_neg hv];exact Nat.min_le_right _ _
theorem qZ(v:Int)(n d:Nat):(if v<0 then max (v+(n:Int)) 0 else min v (n:Int))=((sIx n d (some v):Nat):Int):=by
 show(if v<0 then max (v+(n:Int)) 0 else min v (n:Int))=(((if v<0 then(v+(n:Int)).toNat else min v.toNat n):Nat):Int)
 by_cases hv:v<0
 ·simp only[if_pos hv];lia
 ·simp only[if_neg hv];lia
theorem pW(lo hi:Option Int)(n:Nat):Builtin.Slice.sliceAdjust lo hi 1 (n:Int)=(((sIx n 0 lo:Nat):Int),((sIx n n hi:Nat):Int)):=by
 have h1: ¬ ((1:Int)<0):=by lia
 unfold Builtin.Slice.sliceAdjust;simp only[h1,if_false];refine Prod.ext ?_ ?_
 ·cases lo with
  | none=>rfl
  | some v=>exact qZ v n 0
 ·cases hi with
  | none=>rfl
  | some v=>exact qZ v n n
theorem pX(i j:Nat):Builtin.Slice.slicePlaces (i:Int) (j:Int) 1=j-i:=by
 unfold Builtin.Slice.slicePlaces;have h1:(1:Int)>0:=by lia
 simp only[h1,if_true,Int.ediv_one]
 split<;> lia
theorem ki{v:Value}{o:Option Int}{Q:Option Int->Shared->Prop}(p:IsPart v o)(h:Q o s):wpAny (model prog w) A (Builtin.Slice.slicePartIndex v) Q E s:=by
 cases p with
 | none=>exact slicePart_none h
 | int i t=>exact slicePart_int h
theorem i8{sl:Addr}{vl vu:Value}{lo hi:Option Int}{n:Nat}{Q:Int×Int×Nat->Shared->Prop}(hs:s.heap.IsSliceOf sl vl vu .none)(pl:IsPart vl lo)(pu:IsPart vu hi)
 (h:Q (((sIx n 0 lo:Nat):Int),1,sIx n n hi-sIx n 0 lo) s):wpAny (model prog w) A (Builtin.Slice.sliceApplied (.ref sl) (pure (n:Int))) Q E s:=by
 obtain⟨os,hos,hcs,hds⟩:=id hs;unfold Builtin.Slice.sliceApplied Builtin.Slice.sliceFields;refine Y2 (Y2 (wpAny_field hos hds (x:=vl) rfl (Y2 (wpAny_field hos hds (x:=vu) rfl (Y2 (wpAny_field hos hds (x:= .none) rfl (Y3 ?_)))))));refine Y2 (slicePart_none ?_);show wpAny _ _ (if((1:Int)==0)=true then _ else _) _ _ s;rw[if_neg (by decide)];refine Y2 (ki pl (Y2 (ki pu (Y2 (Y3 ?_)))));show wpAny _ _ (match Builtin.Slice.sliceAdjust lo hi 1 (n:Int)with|(lo,hi)=>pure (lo,(1:Int),Builtin.Slice.slicePlaces lo hi 1)) _ _ s;rw[pW lo hi n];show wpAny _ _ (pure (((sIx n 0 lo:Nat):Int),(1:Int),Builtin.Slice.slicePlaces ((sIx n 0 lo:Nat):Int) ((sIx n n hi:Nat):Int) 1)) _ _ s;rw[pX];exact Y3 h
theorem uy(xs:Array Value)(i k:Nat):((List.range k).filterMap fun(m:Nat)=>xs[((i:Int) +(m:Int)*1).toNat]?).toArray=((xs.toList.drop i).take k).toArray:=by
 have e:(fun(m:Nat)=>xs[((i:Int) +(m:Int)*1).toNat]?)=fun m=>xs[i+m]? :=by
  funext m;have:((i:Int) +(m:Int)*1).toNat=i+m:=by lia
  rw[this]
 rw[e];have:=pick_run xs i k;rw[List.filterMap_map]at this;have e2:((fun x=>xs[x]?) ∘ fun x=>i+x)=fun m=>xs[i+m]? :=rfl
 rw[e2]at this;rw[this]
theorem getItem_tuple_cut{t sl:Addr}{items:Array Value}{vl vu:Value}{lo hi:Option Int}{Q:Value->Shared->Prop}(ht:IsTup s.heap t items)(hs:s.heap.IsSliceOf sl vl vu .none)(pl:IsPart vl lo)(pu:IsPart vu hi)
 (hw: ¬ (sIx items.size 0 lo=0/\sIx items.size items.size hi=items.size))
 (h:Q (.ref s.heap.objs.size) {s with heap:=s.heap.push {cls:= .type "tuple",data:= .seq ((items.toList.drop (sIx items.size 0 lo)).take (sIx items.size items.size hi-sIx items.size 0 lo)).toArray}})
 (hsz:items.size<=sizeLine):wpAny (model prog w) A (getItem (.ref t) (.ref sl)) Q E s:=by
 have htake:sizeOk (.seq ((items.toList.drop (sIx items.size 0 lo)).take (sIx items.size items.size hi-sIx items.size 0 lo)).toArray):=by
  show((items.toList.drop (sIx items.size 0 lo)).take (sIx items.size items.size hi-sIx items.size 0 lo)).toArray.size<=sizeLine;rw[W9,length_take,length_drop,X2]
  lia
 have hj:sIx items.size items.size hi<=items.size:=yA _ _ (W1 _) hi;obtain⟨os,hos,hcs,hds⟩:=id hs;have hTs:s.TypeIs (.ref sl) "slice":=⟨os,hos,hcs⟩
 unfold getItem
 try with_reducible refine wpAny_holding ?_
 first|refine Y2 (Y3 ?_)|skip
 refine Y2 (wpAny_sequenceKey ht.typeIs (by decide) ?_);refine Y2 (wpAny_callSpecial?_slot (name:=Str.ofString "__getitem__") ht.typeIs PyProof.Rows.slot_tuple_getitem
  (wpAny_call_entry PyProof.Rows.slot_tuple_getitem ht.typeIs entry_tuple_getitem ?_ (args_tuple_getitem _ _)))
 show wpAny _ _ (Builtin.Tuple.tupleItemsOf (.ref t)>>= _) _ _ s;refine Y2 (tupleItemsOf_ ht ?_);refine Y2 (wpAny_typeOf hTs ?_);rw[if_pos (by decide)];refine Y2 (i8 hs pl pu ?_);have hno: ¬ ((((sIx items.size 0 lo:Nat):Int)==0&&(1:Int)==1&&(sIx items.size items.size hi-sIx items.size 0 lo)==items.size)=true):=by
  intro q;rw[and_eq_true,and_eq_true]at q;have q1:((sIx items.size 0 lo:Nat):Int)=0:=eq_of_beq q.1.1;have q2:sIx items.size items.size hi-sIx items.size 0 lo=items.size:=eq_of_beq q.2;exact hw ⟨by lia,by lia⟩
 show wpAny _ _ (if(((sIx items.size 0 lo:Nat):Int)==0&&(1:Int)==1&&(sIx items.size items.size hi-sIx items.size 0 lo)==items.size)=true then _ else _) _ _ s;rw[if_neg hno,uy]
 first
  | exact Y2 (m:=Builtin.Tuple.tupleExact _) (wpAny_newObj_type (Y3 ⟨_,rfl,Y3 h⟩) htake)
  | exact Y2 (m:=Builtin.Tuple.tupleExact _) (wpAny_newObj_type (Y2 (Y3 (Y3 ⟨_,rfl,Y3 h⟩))) htake)
  | exact Y2 (Y2 (m:=Builtin.Tuple.tupleExact _) (wpAny_newObj_type (Y3 (Y3 ⟨_,rfl,Y3 h⟩)) htake))
  | exact Y2 (Y2 (m:=Builtin.Tuple.tupleExact _) (wpAny_newObj_type (Y3 ⟨_,rfl,Y3 h⟩) htake))
end
end HT
namespace L2
open PySem PySem.Spec PyProof.Rows
noncomputable abbrev TO:=St->Hp->(Option Int->Hp->Prop)->Prop
noncomputable def PO(X:Cx)(e:Option Expr)(t:TO):Prop:=
 ∀(pins:List (Addr×Obj)) (s:Shared) (σ:St) (H:Hp) (Q:Option Int->Hp->Prop),Inv X pins σ H s->t σ H Q->
  wpAny (model X.prog X.w) X.A (evalPart e X.env) (fun u s'=>∃o H',Inv X pins σ H' s'/\IsPart u o/\Q o H') X.xe s
noncomputable def mO:TO:=fun _ H Q=>Q none H
noncomputable def uz(t:TE):TO:=fun σ H Q=>t σ H fun x H1=>asI x fun i=>Q (some i) H1
section
variable{X:Cx}{e:Expr}{te:TE}{lo hi:Option Expr}{tl th:TO}{pos p2:Pos}
theorem wq:PO X none mO:=by
 intro pins s σ H Q I h;rw[evalPart_none];exact Y3 ⟨none,H,I,.none,h⟩
theorem wt(h:PE X e te):PO X (some e) (uz te):=by
 intro pins s σ H Q I hw;rw[evalPart_some];refine thn (h pins s σ H _ I hw) fun u s1 ⟨x,H1,I1,r1,q1⟩=>?_
 obtain⟨i,rfl,q⟩:=fQ q1;obtain⟨t,rfl⟩:=r1;exact⟨some i,H1,I1,.int i t,q⟩
noncomputable def SlR(X:Cx)(r:V->Option Int->Option Int->Hp->VK->Prop):Prop:=
 ∀(pins:List (Addr×Obj)) (s:Shared) (σ:St) (H:Hp) (x:V) (v vl vu:Value) (lo hi:Option Int) (sl:Addr) (Q:VK),Inv X pins σ H s->aE x v->s.heap.IsSliceOf sl vl vu .none->IsPart vl lo->IsPart vu hi->r x lo hi H Q->
  ∃T id,typeLookup (.type T) "__getitem__"=pure (some (.builtin id))/\s.TypeIs v T/\wpAny (model X.prog X.w) X.A (getItem v (.ref sl)) (EP X pins σ Q) X.xe s
theorem SlR.or{r r':V->Option Int->Option Int->Hp->VK->Prop}(h:SlR X r)(h':SlR X r'):SlR X (fun x lo hi H Q=>r x lo hi H Q\/r' x lo hi H Q):=by
 intro pins s σ H x v vl vu lo hi sl Q I rx hs pl pu q;rcases q with q|q
 ·exact h pins s σ H x v vl vu lo hi sl Q I rx hs pl pu q
 ·exact h' pins s σ H x v vl vu lo hi sl Q I rx hs pl pu q
noncomputable def tSl(r:V->Option Int->Option Int->Hp->VK->Prop)(te:TE)(tl th:TO):TE:=fun σ H Q=>te σ H fun x H1=>tl σ H1 fun l H2=>th σ H2 fun u H3=>r x l u H3 Q
theorem nT{r:V->Option Int->Option Int->Hp->VK->Prop}(hr:SlR X r)(he:PE X e te)(hl:PO X lo tl)(hu:PO X hi th):PE X (.Subscript e (.Slice lo hi none p2) pos) (tSl r te tl th):=by
 intro pins s σ H Q I h;refine Subscript_ (thn (he pins s σ H _ I h) fun v s1 ⟨x,H1,I1,r1,q1⟩=>?_);refine wpAny_Slice (thn (hl pins s1 σ H1 _ I1 q1) fun vl s2 ⟨l,H2,I2,pl,q2⟩=>thn (hu pins s2 σ H2 _ I2 q2) fun vu s3 ⟨u,H3,I3,pu,q3⟩=>?_);rw[evalPart_none];refine Y3 ?_;have I4:Inv X pins σ H3 {s3 with heap:=s3.heap.push {cls:= .type "slice",data:= .fields #[vl,vu,.none]}}:=I3.kept (t':=s3.toks) fun b ob q=>Y7 _ q
 obtain⟨T,id,hT,ht,hg⟩:=hr pins {s3 with heap:=s3.heap.push {cls:= .type "slice",data:= .fields #[vl,vu,.none]}} σ H3 x v vl vu l u s3.heap.objs.size Q I4 r1 (Heap.IsSliceOf.new ..) pl pu q3;show wpAny (model X.prog X.w) X.A (subscriptTail e (.Slice lo hi none p2) v (.ref s3.heap.objs.size)) (EP X pins σ Q) X.xe {s3 with heap:=s3.heap.push {cls:= .type "slice",data:= .fields #[vl,vu,.none]}};exact tail_any (ops:=[.ref s3.heap.objs.size,v]) ht hT hg (by with_unfolding_all rfl)
noncomputable def gP(xs:List V)(lo hi:Option Int):List V:=(xs.drop (HT.sIx xs.length 0 lo)).take (HT.sIx xs.length xs.length hi-HT.sIx xs.length 0 lo)
theorem jx(xs:List V)(lo hi:Option Int):(gP xs lo hi).length<=xs.length:=by
 unfold gP;rw[length_take,length_drop]
 lia
noncomputable def yB(K:PySem.W.Frag):V->Option Int->Option Int->Hp->VK->Prop:=fun x lo hi H Q=>∃a xs,x= .ref a/\SqT K H a xs/\
 ¬ (HT.sIx xs.length 0 lo=0/\HT.sIx xs.length xs.length hi=xs.length)/\∀p,H p=none->Q (.ref p) (upd H p (.tup (gP xs lo hi)))
theorem yC:SlR X (yB X.K):=by
 intro pins s σ H x v vl vu lo hi sl Q I rx hs pl pu h;obtain⟨a,xs,rfl,hx,hw,q⟩:=h;cases rx;obtain⟨its,r,ht,hz⟩:=I.tuple hx;have hlen:its.toArray.size=xs.length:=by rw[W9];exact r.length.symm
 refine⟨"tuple",_,PyProof.Rows.slot_tuple_getitem.lookup,ht.typeIs,?_⟩;refine HT.getItem_tuple_cut ht hs pl pu (by rw[hlen];exact hw) ?_ (by rw[hlen];exact hz);rw[hlen];refine⟨.ref s.heap.objs.size,_,I.laid (t':=s.toks) (o:= .tup (gP xs lo hi)) (fun b ob q=>Y7 _ q) (W1 _) ?_,rfl,q _ (I.hok.fresh (W1 _))⟩;exact⟨le_trans (jx xs lo hi) hz,_,(r.drop (HT.sIx xs.length 0 lo)).take (HT.sIx xs.length xs.length hi-HT.sIx xs.length 0 lo),IsTup.new _ _⟩
end
noncomputable def ixN(n:Nat)(i:Int):Option Nat:=if 0<=i then(if i<n then some i.toNat else none)else if -(n:Int)<=i then some (i+n).toNat else none
noncomputable def atI{α:Type}(xs:List α)(i:Int):Option α:=(ixN xs.length i).bind fun j=>xs[j]?
theorem wu{n:Nat}{i:Int}{j:Nat}(h:ixN n i=some j):seqIndex? i n=some j/\j<n/\ -(n:Int)<=i/\i<n:=by
 unfold ixN at h;by_cases h0:0<=i
 ·rw[if_pos h0]at h;by_cases h1:i<n
  ·rw[if_pos h1]at h;have e:i.toNat=j:=X1 h;exact⟨by rw[seqIndex_of h0 h1,e],by lia,by lia,h1⟩
  ·rw[if_neg h1]at h;cases h
 ·rw[if_neg h0]at h;by_cases h1: -(n:Int)<=i
  ·rw[if_pos h1]at h;have e:(i+n).toNat=j:=X1 h;exact⟨by rw[seqIndex_neg (by lia) h1,e],by lia,h1,by lia⟩
  ·rw[if_neg h1]at h;cases h
theorem mP{α:Type}{xs:List α}{i:Int}{v:α}(h:atI xs i=some v):∃j,seqIndex? i xs.length=some j/\xs[j]? =some v/\j<xs.length/\ -(xs.length:Int)<=i/\i<xs.length:=by
 unfold atI at h;cases e:ixN xs.length i with
 | none=>rw[e]at h;cases h
 | some j=>
   rw[e]at h;obtain⟨h1,h2,h3,h4⟩:=wu e;exact⟨j,h1,h,h2,h3,h4⟩
theorem bN{α:Type}{xs:List α}{j:Nat}{v:α}(h:xs[j]? =some v):atI xs (j:Int)=some v:=by
 have hj:j<xs.length:=(List.getElem?_eq_some_iff.mp h).1;have e:ixN xs.length (j:Int)=some j:=by
  unfold ixN;rw[if_pos (by lia),if_pos (by lia)];simp
 unfold atI;rw[e];exact h
noncomputable def jW(b:Expr):Prop:=∀o i,subscripted b false o i=operate [o,i] (getItem o i)
noncomputable def IxR(X:Cx)(r:R2):Prop:=
 ∀(value slice:Expr) (pins:List (Addr×Obj)) (s:Shared) (σ:St) (H:Hp) (x y:V) (v u:Value) (Q:VK),Inv X pins σ H s->aE x v->aE y u->r x y H Q->
  subscripted slice false v u=operate [v,u] (getItem v u)->wpAny (model X.prog X.w) X.A (subscriptTail value slice v u) (EP X pins σ Q) X.xe s
noncomputable def MtR(X:Cx)(id:String)(r:V->List V->Hp->VK->Prop):Prop:=
 ∀(pins:List (Addr×Obj)) (s:Shared) (σ:St) (H:Hp) (x:V) (xs:List V) (v:Value) (us:List Value) (Q:VK),Inv X pins σ H s->aE x v->aH xs us->r x xs H Q->
  wpAny (model X.prog X.w) X.A (call (.builtin id) (v::us)) (EP X pins σ Q) X.xe s
section
variable{X:Cx}{a b:Expr}{ta tb:TE}{pos:Pos}
theorem uA{r:R2}(hr:IxR X r)(ha:PE X a ta)(hb:PE X b tb)(hs:jW b):PE X (.Subscript a b pos) (tOp r ta tb):=by
 intro pins s σ H Q I h;exact Subscript_ (yj ha hb I h fun v u s2 x y H2 I2 rx ry q=>hr a b pins s2 σ H2 x y v u Q I2 rx ry q (hs _ _))
noncomputable def wv(K:PySem.W.Frag):R2:=fun x y H Q=>asR x fun p=>asI y fun i=>∃xs,SqL K H p xs/\∃v,atI xs i=some v/\Q v H
noncomputable def ww(K:PySem.W.Frag):R2:=fun x y H Q=>asR x fun p=>asI y fun i=>∃xs,SqT K H p xs/\∃v,atI xs i=some v/\Q v H
noncomputable def wx:R2:=fun x y H Q=>∃z i c,x= .str z/\y= .int i/\z.length<=sizeLine/\atI z.cps.toList i=some c/\Q (.str ⟨#[c]⟩) H
theorem wy:IxR X (wv X.K):=by
 intro value slice pins s σ H x y v u Q I rx ry h hs;obtain⟨p,rfl,h2⟩:=nN h;obtain⟨i,rfl,xs,hq,z,he,q⟩:=fQ h2;cases rx;obtain⟨t,rfl⟩:=ry;obtain⟨its,r,pl,hz⟩:=I.list hq;obtain⟨j,h1,h2,h3,h4,h5⟩:=mP he;obtain⟨w,ew,rw'⟩:=r.get h2;have hl:=r.length;have hn:=kh;have fin:EP X pins σ Q w s:=⟨z,H,I,rw',q⟩
 by_cases h0:0<=i
 ·have hj:i.toNat=j:=by
   rw[seqIndex_of h0 h5]at h1;exact X1 h1
  exact item_listR pl.isList h0 (by lia) (by rw[hj];simpa using ew) fin hs
 ·have hj:(i+(its.toArray.size:Int)).toNat=j:=by
   rw[seqIndex_neg (by lia) h4]at h1;rw[W9,<-hl];exact X1 h1
  exact subscriptTail_builtinR (x:=w) pl.isList.typeIs slot_list_getitem.lookup
   (wpAny_getItem_list_neg (Q:=fun r s'=>r=w/\EP X pins σ Q r s') pl.isList (by lia) (by rw[W9]<;> lia) (by lia) (by rw[hj];simpa using ew) ⟨rfl,fin⟩) hs
theorem yD:IxR X (ww X.K):=by
 intro value slice pins s σ H x y v u Q I rx ry h hs;obtain⟨p,rfl,h2⟩:=nN h;obtain⟨i,rfl,xs,hq,z,he,q⟩:=fQ h2;cases rx;obtain⟨t,rfl⟩:=ry;obtain⟨its,r,pl,hz⟩:=I.tuple hq;obtain⟨j,h1,h2,h3,h4,h5⟩:=mP he;obtain⟨w,ew,rw'⟩:=r.get h2;have hl:=r.length;have hn:=kh;have fin:EP X pins σ Q w s:=⟨z,H,I,rw',q⟩
 exact subscriptTail_builtinR (x:=w) pl.typeIs slot_tuple_getitem.lookup
  (getItem_tuple (j:=j) (Q:=fun r s'=>r=w/\EP X pins σ Q r s') pl (by lia) (by lia) (by rw[W9,<-hl];exact h1) (by simpa using ew) ⟨rfl,fin⟩) hs
theorem yE:IxR X wx:=by
 intro value slice pins s σ H x y v u Q I rx ry h hs;obtain⟨z,i,c,rfl,rfl,hz,he,q⟩:=h;obtain⟨t,rfl⟩:=rx;obtain⟨t',rfl⟩:=ry;obtain⟨j,h1,h2,h3,h4,h5⟩:=mP he;have hl:z.cps.toList.length=z.length:=by simp[Str.length]
 rw[hl]at h1 h4 h5;have hn:=kh;exact tail_any (typeIs_str s z t) slot_str_getitem.lookup (getItem_str (c:=c) (by
  have e1:decide (i< -(2^63:Int))=false:=X9 (by lia);have e2:decide (i>=2^63)=false:=X9 (by lia);rw[e1,e2,Bool.or_false]) (by rw[h1];simpa using h2) ⟨.str ⟨#[c]⟩,H,I.tok _,⟨_,rfl⟩,q⟩) hs
noncomputable def rIx(K:PySem.W.Frag):R2:=fun x y H Q=>wv K x y H Q\/ww K x y H Q\/wx x y H Q
noncomputable def zX:V->V->V->Hp->(Hp->Prop)->Prop:=fun o i v H Q=>∃p xs k j,o= .ref p/\i= .int k/\H p=some (.lst xs)/\ixN xs.length k=some j/\Q (upd H p (.lst (xs.set j v)))
theorem mQ(lo hi:Option Int)(n:Nat):(sliceBounds lo hi none n).1=((HT.sIx n 0 lo:Nat):Int)/\(sliceBounds lo hi none n).2.1=((HT.sIx n n hi:Nat):Int)/\(sliceBounds lo hi none n).2.2=1:=by
 refine⟨?_,?_,rfl⟩
 ·cases lo with
  | none=>simp[sliceBounds,HT.sIx]
  | some i=>
    simp only[sliceBounds,HT.sIx,getD_none,show(1:Int)>0 by decide,if_true];by_cases h:i<0
    ·simp only[h,if_true]<;> lia
    ·simp only[h,if_false]<;> lia
 ·cases hi with
  | none=>simp[sliceBounds,HT.sIx]
  | some i=>
    simp only[sliceBounds,HT.sIx,getD_none,show(1:Int)>0 by decide,if_true];by_cases h:i<0
    ·simp only[h,if_true]<;> lia
    ·simp only[h,if_false]<;> lia
theorem lv(its:List Value)(lo hi:Option Int):slicePick its.toArray lo hi none=((its.drop (HT.sIx its.length 0 lo)).take (HT.sIx its.length its.length hi-HT.sIx its.length 0 lo)).toArray:=by
 obtain⟨h1,h2,h3⟩:=mQ lo hi its.toArray.size;unfold slicePick;rw[h1,h2,h3];simp only[sliceRange_one,pick_run,W9]<;> rfl
noncomputable def wz(K:PySem.W.Frag):V->Option Int->Option Int->Hp->VK->Prop:=fun x lo hi H Q=>∃a xs,x= .ref a/\SqL K H a xs/\∀p,H p=none->Q (.ref p) (upd H p (.lst (gP xs lo hi)))
theorem ra:SlR X (wz X.K):=by
 intro pins s σ H x v vl vu lo hi sl Q I rx hs pl pu h;obtain⟨a,xs,rfl,hx,q⟩:=h;cases rx;obtain⟨its,r,ht,hz⟩:=I.list hx;have hlen:=r.length;refine⟨"list",_,slot_list_getitem.lookup,ht.isList.typeIs,?_⟩;refine wpAny_getItem_list_slice ht.isList hs pl pu .none (by simp) ?_ (by rw[W9]<;> lia);rw[lv,<-hlen];refine⟨.ref s.heap.objs.size,_,I.laid (t':=s.toks) (o:= .lst (gP xs lo hi)) (fun b ob q=>Y7 _ q) (W1 _) ?_,rfl,q _ (I.hok.fresh (W1 _))⟩;exact⟨le_trans (jx xs lo hi) hz,_,0,(r.drop (HT.sIx xs.length 0 lo)).take (HT.sIx xs.length xs.length hi-HT.sIx xs.length 0 lo),W3 _ rfl⟩
noncomputable def eV:V->Bool
 | .non=>true
 | .bl _=>true
 | .int _=>true
 | .str _=>true
 | _=>false
noncomputable def eqV:V->V->Bool
 | .non,.non=>true
 | .bl a,.bl b=>a==b
 | .bl a,.int b=>(if a then 1 else 0)==b
 | .int a,.bl b=>a==(if b then 1 else 0)
 | .int a,.int b=>a==b
 | .str a,.str b=>a==b
 | _,_=>false
theorem yF{A:Around}{s:Shared}{y x:V}{u v:Value}(ry:aE y u)(rx:aE x v)(fy:eV y=true)(fx:eV x=true):SeqAt.EqAt A s u v (eqV y x):=by
 cases y with
 | non=>
   cases ry;cases x with
   | non=>cases rx;exact SeqAt.EqAt.same _
   | bl b=>cases rx;exact SeqAt.EqAt.none_bool b
   | int b=>obtain⟨t,rfl⟩:=rx;exact SeqAt.EqAt.none_int b t
   | str b=>obtain⟨t,rfl⟩:=rx;exact SeqAt.EqAt.none_str b t
   | _=>exact absurd (show false=true from fx) V6
 | bl a=>
   cases ry;cases x with
   | non=>cases rx;exact SeqAt.EqAt.bool_none a
   | bl b=>cases rx;exact SeqAt.EqAt.bool_bool a b
   | int b=>obtain⟨t,rfl⟩:=rx;exact SeqAt.EqAt.bool_int a b t
   | str b=>obtain⟨t,rfl⟩:=rx;exact SeqAt.EqAt.bool_str a b t
   | _=>exact absurd (show false=true from fx) V6
 | int a=>
   obtain⟨t',rfl⟩:=ry;cases x with
   | non=>cases rx;exact SeqAt.EqAt.int_none a t'
   | bl b=>cases rx;exact SeqAt.EqAt.int_bool a t' b
   | int b=>obtain⟨t,rfl⟩:=rx;exact SeqAt.EqAt.int_int a t' b t
   | str b=>obtain⟨t,rfl⟩:=rx;exact SeqAt.EqAt.int_str a t' b t
   | _=>exact absurd (show false=true from fx) V6
 | str a=>
   obtain⟨t',rfl⟩:=ry;cases x with
   | non=>cases rx;exact SeqAt.EqAt.str_none a t'
   | bl b=>cases rx;exact SeqAt.EqAt.str_bool a t' b
   | int b=>obtain⟨t,rfl⟩:=rx;exact SeqAt.EqAt.str_int a t' b t
   | str b=>obtain⟨t,rfl⟩:=rx;exact SeqAt.EqAt.str_str a t' b t
   | _=>exact absurd (show false=true from fx) V6
 | _=>exact absurd (show false=true from fy) V6
noncomputable def eqU(x:V)(u:Value):Bool:=match u with
 | .none=>eqV .non x
 | .bool b=>eqV (.bl b) x
 | .int i _=>eqV (.int i) x
 | .str z _=>eqV (.str z) x
 | _=>false
theorem uB{x y:V}{u:Value}(r:aE y u)(f:eV y=true):eqU x u=eqV y x:=by
 cases y with
 | non=>cases r;rfl
 | bl b=>cases r;rfl
 | int i=>obtain⟨t,rfl⟩:=r;rfl
 | str z=>obtain⟨t,rfl⟩:=r;rfl
 | _=>exact absurd (show false=true from f) V6
theorem mR{x:V}:∀{xs:List V} {us:List Value},aH xs us->xs.all eV=true->us.any (eqU x)=xs.any fun y=>eqV y x
 | _,_,.nil,_=>rfl
 | y::xs,u::us,.cons r t,f=>by
   rw[all_cons,and_eq_true]at f;rw[any_cons,any_cons,uB r f.1,mR t f.2]
theorem kj{A:Around}{s:Shared}{x:V}{v:Value}(rx:aE x v)(fx:eV x=true):∀{xs:List V} {us:List Value},aH xs us->xs.all eV=true->∀u∈us,SeqAt.EqAt A s u v (eqU x u)
 | _,_,.nil,_=>fun u hu=>by cases hu
 | y::xs,u::us,.cons r t,f=>fun u' hu=>by
   rw[all_cons,and_eq_true]at f;rcases mem_cons.mp hu with rfl|hu
   ·rw[uB r f.1];exact yF r rx f.1 fx
   ·exact kj rx fx t f.2 u' hu
noncomputable def inV(x:V)(xs:List V):Bool:=xs.any fun y=>eqV y x
noncomputable def rIn(K:PySem.W.Frag)(neg:Bool):R2:=fun x y H Q=>∃p xs,y= .ref p/\(SqL K H p xs\/SqT K H p xs)/\eV x=true/\xs.all eV=true/\Q (.bl (if neg then !inV x xs else inV x xs)) H
theorem r0:OpR X (compareOp .In) (rIn X.K false):=by
 intro pins s σ H x y v u Q I rx ry h;obtain⟨p,xs,rfl,hq,fx,fs,q⟩:=h;cases ry;rcases hq with hq|hq
 ·obtain⟨its,r,pl,hz⟩:=I.list hq;refine SeqAt.in_listAt (eqU x) pl.isList (fun w hw=>kj rx fx r fs w (by simpa using hw)) ⟨.bl _,H,I,rfl,?_⟩;rw[show its.toArray.any (eqU x)=its.any (eqU x) by simp,mR r fs];exact q
 ·obtain⟨its,r,pl,hz⟩:=I.tuple hq;refine SeqAt.in_tupleAt (eqU x) pl (fun w hw=>kj rx fx r fs w (by simpa using hw)) ⟨.bl _,H,I,rfl,?_⟩;rw[show its.toArray.any (eqU x)=its.any (eqU x) by simp,mR r fs];exact q
theorem mS:cG X (.type "list") (fun xs H Q=>∃p ys,xs=[.ref p]/\(SqL X.K H p ys\/SqT X.K H p ys)/\∀l,H l=none->Q (.ref l) (upd H l (.lst ys))):=by
 intro pins s σ H xs us Q I r h;obtain⟨p,ys,rfl,hq,q⟩:=h;obtain⟨u,rfl,rx⟩:=d6 r;cases rx;have fin:∀(its:List Value),aH ys its->ys.length<=sizeLine->∀(h':Heap) (c':Nat),(∀b o',s.heap.get? b=some o'->h'.get? b=some o')->
  h'.get? s.heap.objs.size=some {cls:= .type "list",dict:=none,data:= .seq its.toArray c',slots:= #[]}->EP X pins σ Q (.ref s.heap.objs.size) {s with heap:=h'}:=fun its r' hz h' c' kp e=>
  ⟨.ref s.heap.objs.size,_,I.laid (t':=s.toks) kp (W1 _) (show bA X.prog X.w _ h' _ (.lst ys)from⟨hz,its,c',r',e⟩),rfl,q _ (I.hok.fresh (W1 _))⟩
 rcases hq with hq|hq
 ·obtain⟨its,r',pl,hz⟩:=I.list hq;have hlen:=r'.length;obtain⟨o,ho,hc,n,hd⟩:=pl.isList;exact call_list_seq p (.inl rfl) ho hc hd (fun h' c' kp e=>fin its r' hz h' c' kp e) (by simp only[W9]<;> lia)
 ·obtain⟨its,r',pl,hz⟩:=I.tuple hq;have hlen:=r'.length;obtain⟨o,ho,hc,n,hd⟩:=pl;exact call_list_seq p (.inr rfl) ho hc hd (fun h' c' kp e=>fin its r' hz h' c' kp e) (by simp only[W9]<;> lia)
noncomputable def tyV(K:PySem.W.Frag)(T:String)(x:V)(H:Hp):Prop:=match x with
 | .str _=>T="str"
 | .int _=>T="int"
 | .ref p=>(T="list"/\∃xs,SqL K H p xs)\/(T="tuple"/\∃o,K.lookup p=some o/\o.cls= .type "tuple"/\o.dict=none)\/
  (T="dict"/\((∃kvs,H p=some (.dK kvs))\/∃kvs,H p=some (.dT kvs)))\/(T="set"/\∃S n,H p=some (.set S n))
 | _=>False
theorem yG{pins:List (Addr×Obj)}{σ:St}{H:Hp}{s:Shared}{T:String}{x:V}{v:Value}(I:Inv X pins σ H s)(r:aE x v)(ty:tyV X.K T x H):
 s.TypeIs v T/\∀a,v= .ref a->∃ob,s.heap.get? a=some ob/\ob.dict=none:=by
 cases x with
 | str z=>
   obtain⟨t,rfl⟩:=r;cases(show T="str" from ty);exact⟨typeIs_str s z t,fun _ e=>nomatch e⟩
 | int i=>
   obtain⟨t,rfl⟩:=r;cases(show T="int" from ty);exact⟨typeIs_int s i t,fun _ e=>nomatch e⟩
 | ref p=>
   cases r;rcases ty with⟨rfl,xs,hq⟩|⟨rfl,o,hk,hc,hd⟩|⟨rfl,hk⟩|⟨rfl,S,n,hk⟩
   ·obtain⟨its,_,pl,_⟩:=I.list hq;refine⟨pl.isList.typeIs,fun a e=>?_⟩;cases e;obtain⟨o,n,e,c,hd,_⟩:=pl;exact⟨o,e,hd⟩
   ·refine⟨⟨o,I.kIn p o hk,hc⟩,fun a e=>?_⟩;cases e;exact⟨o,I.kIn _ o hk,hd⟩
   ·have z:∃o,s.heap.get? p=some o/\o.ExactDict:=by
     rcases hk with⟨kvs,hk⟩|⟨kvs,hk⟩
     ·obtain⟨_,_,_,_,o,_,_,e,ex,_⟩:=I.hok p _ hk;exact⟨o,e,ex⟩
     ·obtain⟨_,_,_,_,o,_,_,e,ex,_⟩:=I.hok p _ hk;exact⟨o,e,ex⟩
    obtain⟨o,e,ex⟩:=z;refine⟨⟨o,e,ex.1⟩,fun a e2=>?_⟩;cases e2;exact⟨o,e,ex.2.1⟩
   ·obtain⟨o,_,_,_,e,ex,_⟩:=I.hok p _ hk;refine⟨⟨o,e,ex.1⟩,fun a e2=>?_⟩;cases e2;exact⟨o,e,ex.2.1⟩
 | _=>exact False.elim ty
noncomputable def tBM0(K:PySem.W.Frag)(T:String)(r:V->List V->Hp->VK->Prop)(to:TE):TE:=fun σ H Q=>to σ H fun x H1=>tyV K T x H1/\r x [] H1 Q
noncomputable def tBM(K:PySem.W.Frag)(T:String)(r:V->List V->Hp->VK->Prop)(to:TE)(t:TA):TE:=fun σ H Q=>to σ H fun x H1=>tyV K T x H1/\t σ H1 fun xs H2=>r x xs H2 Q
variable{o e:Expr}{es:List Expr}{to:TE}{t:TA}{name:Str}{apos cpos:Pos}{T id:String}{r:V->List V->Hp->VK->Prop}
theorem zY(pa:PlainAttrs T)(slot:Slot T name id)(hty:typeOf (.builtin id)=pure (.type "method_descriptor"))(hm:MtR X id r)(ho:PE X o to)(ha:PA X (e::es) t)
 (hbase:attributeBase o name X.env (eval o X.env)=eval o X.env)
 (hfew:((backTo cpos (starEach (e::es) X.env)).all (fun x=>!x.1)&&(backToKw cpos (keywordEach [] X.env)).all (fun x=>x.1.isSome)
  && decide ((e::es).length+([]:List Keyword).length+(if([]:List Keyword).isEmpty then 0 else 1)<30))=true)
 (hline:(apos.endLine==cpos.line)=true) (hs:starEach (e::es) X.env=(false,eval e X.env)::starEach es X.env) (hplain:(backTo cpos (starEach es X.env)).any (·.1)=false):
 PE X (.Call (.Attribute o name apos) (e::es) [] cpos) (tBM X.K T r to t):=by
 intro pins s σ H Q I h;refine wpAny_Call_method_late hbase hfew hline rfl (thn (ho pins s σ H _ I h) fun v s1 ⟨x,H1,I1,r1,ty,q1⟩=>?_);obtain⟨h1,h2⟩:=yG I1 r1 ty;refine⟨T,id,pa,slot,hty,h1,h2,?_⟩;have hA:=ha cpos pins s1 σ H1 _ I1 q1;rw[hs]at hA ⊢;refine Calls.callWith_builtin (by show(false||(backTo cpos (starEach es X.env)).any (·.1))=false;rw[hplain]<;> rfl) (Calls.evalArgs_plain ?_);exact thn hA fun us s2 ⟨vs,H2,I2,r2,q2⟩=>hm pins s2 σ H2 x vs v us Q I2 r1 r2 q2
end
noncomputable def MtM(X:Cx)(id:String)(r:V->List V->Hp->VK->Prop):Prop:=
 ∀(pins:List (Addr×Obj)) (s:Shared) (σ:St) (H:Hp) (x:V) (xs:List V) (v:Value) (us:List Value) (Q:VK),Inv X pins σ H s->aE x v->aH xs us->r x xs H Q->
  wpAny (model X.prog X.w) X.A (call (.builtin id) (v::us)) (EP X pins σ Q) X.xe s
theorem aH.one:∀{x:V} {us:List Value},aH [x] us->∃u,us=[u]/\aE x u
 | _,_,.cons r .nil=>⟨_,rfl,r⟩
theorem aH.rep{xs:List V}{us:List Value}(h:aH xs us):∀k:Nat,aH (List.replicate k xs).flatten (List.replicate k us).flatten
 | 0=> .nil
 | k+1=>by
   rw[replicate_succ,replicate_succ,flatten_cons,flatten_cons];exact aH.append h (aH.rep h k)
theorem lO(its:List Value):∀(k:Nat) (acc:List Value),
 List.foldl (fun x1 x2=>x1++x2) acc.toArray (List.replicate k its.toArray)=(acc++(List.replicate k its).flatten).toArray
 | 0,acc=>by simp
 | k+1,acc=>by
   have e:acc.toArray++its.toArray=(acc++its).toArray:=by simp
   have e2:(acc++its) ++(List.replicate k its).flatten=acc++(List.replicate (k+1) its).flatten:=by
    rw[replicate_succ,flatten_cons,X6]
   rw[<-e2,<-lO its k (acc++its),<-e,replicate_succ,foldl_cons]
section
variable{X:Cx}{pins:List (Addr×Obj)}{σ:St}{H:Hp}{s:Shared}{l b:Addr}{xs ys zs:List V}
theorem Inv.lset{its its':List Value}{n:Nat}{f:Array Value->Array Value}{t':Nat}(I:Inv X pins σ H s)(hH:H l=some (.lst xs))
 (e:s.heap.get? l=some {cls:= .type "list",data:= .seq its.toArray n}) (hf:f its.toArray=its'.toArray) (hv:aH ys its') (hz:ys.length<=sizeLine):
 Inv X pins σ (upd H l (.lst ys)) {s with heap:=s.heap.update l (Obj.mapSeq f),toks:=t'}:=by
 have q:=PySem.IsL.update e f;rw[hf]at q;refine I.write (x:=l) (e:=l) (by rw[hH];exact trivial) (.inl rfl) (fun b' u hb hu=>(get?_update_other s.heap (Obj.mapSeq f) (Ne.symm hb)).trans hu) ⟨_,q⟩ ?_;exact⟨hz,its',_,hv,q⟩
theorem Inv.lnew{its:List Value}{t':Nat}(I:Inv X pins σ H s)(hv:aH ys its)(hz:ys.length<=sizeLine):
 Inv X pins σ (upd H s.heap.objs.size (.lst ys)) {s with heap:=s.heap.push {cls:= .type "list",data:= .seq its.toArray},toks:=t'}:=
 I.laid (fun _ _ q=>Y7 _ q) (W1 _) ⟨hz,its,0,hv,W3 _ rfl⟩
theorem Inv.fresh(I:Inv X pins σ H s):H s.heap.objs.size=none:=I.hok.fresh (W1 _)
theorem Inv.lstM(I:Inv X pins σ H s)(hH:H l=some (.lst xs)):xs.length<=sizeLine/\∃(its:List Value) (n:Nat),aH xs its/\xs.length=its.length/\s.heap.get? l=some {cls:= .type "list",data:= .seq its.toArray n}:=by
 obtain⟨z,its,n,r,e⟩:=I.hok l _ hH;exact⟨z,its,n,r,r.length,e⟩
theorem nU{n:Nat}(h:n<=sizeLine):Builtin.List.listTooLong n=false:=by
 unfold Builtin.List.listTooLong;exact X9 (by lia)
end
section
variable{X:Cx}
noncomputable def mT:V->List V->Hp->VK->Prop:=fun x vs H Q=>asR x fun l=>∃y,vs=[y]/\∃xs,H l=some (.lst xs)/\xs.length<sizeLine/\Q .non (upd H l (.lst (xs++[y])))
theorem lP:MtM X "list.append" mT:=by
 intro pins s σ H x vs v us Q I rx rv h;obtain⟨l,rfl,y,rfl,xs,hH,hz,q⟩:=nN h;cases rx;obtain⟨u,rfl,ru⟩:=rv.one;obtain⟨z,its,n,r,hl,e⟩:=I.lstM hH;refine call_meets F.slot_list_append ⟨_,e,rfl⟩ F.entry_list_append (F.args_list_append_2 _ _) (PySem.list_append l its.toArray n u (by rw[W9];lia)) ⟨e,?_⟩;refine⟨.non,_,I.lset (its':=its++[u]) hH e (by simp) (r.append (.cons ru .nil)) ?_,rfl,q⟩;rw[Y9,length_singleton]
 lia
noncomputable def mU:V->List V->Hp->VK->Prop:=fun x vs H Q=>∃l b xs zs,x= .ref l/\vs=[.ref b]/\H l=some (.lst xs)/\H b=some (.lst zs)/\xs.length+zs.length<=sizeLine/\Q .non (upd H l (.lst (xs++zs)))
theorem r8:MtM X "list.extend" mU:=by
 intro pins s σ H x vs v us Q I rx rv h;obtain⟨l,b,xs,zs,rfl,rfl,hH,hB,hz,q⟩:=h;cases rx;obtain⟨u,rfl,ru⟩:=rv.one;cases ru;obtain⟨z,its,n,r,hl,e⟩:=I.lstM hH;obtain⟨z2,its2,n2,r2,hl2,e2⟩:=I.lstM hB;have hsz:its.toArray.size+its2.toArray.size<=sizeLine:=by rw[W9,W9];lia
 have hlong: ¬ (!its.toArray.isEmpty&&Builtin.List.listTooLong (its.toArray.size+its2.toArray.size))=true:=by
  rw[nU hsz,Bool.and_false];exact V6
 refine call_meets F.slot_list_extend ⟨_,e,rfl⟩ F.entry_list_extend (F.args_list_extend_2 _ _)
  (AutoSeq1.list_extend_list_list_0 l its.toArray n b its2.toArray n2 hlong (by rw[W9];lia) (by lia)) ⟨e,e2,?_⟩
 refine⟨.non,_,I.lset (its':=its++its2) hH e (by simp) (r.append r2) ?_,rfl,q⟩;rw[Y9]
 lia
noncomputable def yH:V->List V->Hp->VK->Prop:=fun x vs H Q=>∃l xs,x= .ref l/\vs=[]/\H l=some (.lst xs)/\Q .non (upd H l (.lst []))
noncomputable def yI:R2:=fun x y H Q=>∃l b xs zs,x= .ref l/\y= .ref b/\H l=some (.lst xs)/\H b=some (.lst zs)/\xs.length+zs.length<=sizeLine/\∀p,H p=none->Q (.ref p) (upd H p (.lst (xs++zs)))
theorem yJ:OpR X (binaryOp .Add) yI:=by
 intro pins s σ H x y v u Q I rx ry h;obtain⟨l,b,xs,zs,rfl,rfl,hH,hB,hz,q⟩:=h;cases rx;cases ry;obtain⟨z,its,n,r,hl,e⟩:=I.lstM hH;obtain⟨z2,its2,n2,r2,hl2,e2⟩:=I.lstM hB;refine PySem.P.add_list e e2 ?_ (by rw[W9,W9];lia);have ea:its.toArray++its2.toArray=(its++its2).toArray:=by simp
 rw[ea];exact⟨.ref _,_,I.lnew (t':=s.toks) (r.append r2) (by rw[Y9];lia),rfl,q _ I.fresh⟩
noncomputable def yK:R2:=fun x y H Q=>∃l k xs,x= .ref l/\y= .int k/\H l=some (.lst xs)/\ -(2^63)<=k/\k<2^63/\xs.length*k.toNat<=sizeLine/\
 ∀p,H p=none->Q (.ref p) (upd H p (.lst (List.replicate k.toNat xs).flatten))
theorem wA{α:Type}(xs:List α)(k:Nat):(List.replicate k xs).flatten.length=k*xs.length:=by
 induction k with
 | zero=>simp
 | succ k ih=>rw[replicate_succ,flatten_cons,Y9,ih,Nat.succ_mul,Nat.add_comm]
theorem yL:OpR X (binaryOp .Mult) yK:=by
 intro pins s σ H x y v u Q I rx ry h;obtain⟨l,k,xs,rfl,rfl,hH,h1,h2,hz,q⟩:=h;cases rx;obtain⟨t,rfl⟩:=ry;obtain⟨z,its,n,r,hl,e⟩:=I.lstM hH;have hlen:its.toArray.size*k.toNat<=sizeLine:=by rw[W9,<-hl];exact hz
 have hcap: ¬ its.toArray.size*k.toNat>(2^63-1)/8:=by
  have:(sizeLine:Nat)<=(2^63-1)/8:=by decide
  lia
 have hfit: ¬ (!Builtin.List.listFitsIndex k)=true:=by
  rw[fitsIndex_both h1 h2];exact V6
 have hlong: ¬ Builtin.List.listTooLong (its.toArray.size*k.toNat)=true:=by
  rw[nU hlen];exact V6
 have hnew:List.foldl (fun x1 x2=>x1++x2) #[] (List.replicate (if its.toArray.isEmpty=true then 0 else k.toNat) its.toArray)=(List.replicate k.toNat its).flatten.toArray:=by
  have f0:∀m:Nat,List.foldl (fun x1 x2=>x1++x2) #[] (List.replicate m its.toArray)=(List.replicate m its).flatten.toArray:=fun m=>by
   have:=lO its m [];rw[nil_append]at this;exact this
  rw[f0];cases its with
  | nil=>simp
  | cons a r'=>rw[if_neg (by simp)]
 refine wpAny_binaryOp_repeat_ref (T:="list") (U:="int") (by decide) ⟨_,e,rfl⟩ (fun s'=>typeIs_int s' k t) noFill_list_mul F.fills_int_mul F.slot_int_rmul repeat_list F.slot_int_index.lookup
  (call_meets F.slot_int_rmul (typeIs_int s k t) F.entry_int_rmul (F.args_int_rmul_2 _ _) (int___rmul___int_list k t l its.toArray n)
   ⟨e,rfl,⟨_,e,rfl⟩,call_meets F.slot_list_mul ⟨_,e,rfl⟩ F.entry_list_mul (F.args_list_mul_2 _ _) (AutoListH.list___mul___list_int_3 l its.toArray n k t hfit hcap hlong) ⟨e,?_⟩⟩)
 rw[hnew];exact⟨.ref _,_,I.lnew (t':=s.toks) (r.rep k.toNat) (by rw[wA,Nat.mul_comm];exact hz),rfl,q _ I.fresh⟩
end
section
variable{prog:Program}{w:World}{A:Around}{E:Value->Shared->Prop}{s:Shared}
end
section
variable{X:Cx}
end
section
variable{κ:Type}[DecidableEq κ]
noncomputable def ir(kvs:List (κ×V))(k:κ):Option V:=(kvs.find? fun kv=>decide (kv.1=k)).map (·.2)
noncomputable def hW(kvs:List (κ×V))(k:κ)(v:V):List (κ×V):=
 if(kvs.any fun kv=>decide (kv.1=k))=true then kvs.map (fun kv=>if kv.1=k then(kv.1,v)else kv)else kvs++[(k,v)]
theorem kl{p:κ×V}{r:List (κ×V)}{k:κ}(e:p.1=k):ir (p::r) k=some p.2:=by simp[ir,find?_cons,e]
theorem km{p:κ×V}{r:List (κ×V)}{k:κ}(e: ¬ p.1=k):ir (p::r) k=ir r k:=by simp[ir,find?_cons,e]
theorem kn(k:κ):∀kvs:List (κ×V),(kvs.any fun kv=>decide (kv.1=k))=(ir kvs k).isSome
 |[]=>rfl
 | p::r=>by
   rw[any_cons];by_cases e:p.1=k
   ·simp only[kl e,X7 e,Bool.true_or,Option.isSome_some]
   ·rw[km e,X9 e,Bool.false_or];exact kn k r
theorem jy(kvs:List (κ×V))(k:κ)(v:V):(hW kvs k v).length<=kvs.length+1:=by
 unfold hW
 split
 ·rw[Y6];lia
 ·rw[Y9,V1,length_nil];lia
theorem iq.isSome_eq{o:Option V}{u:Option Value}(r:iq o u):o.isSome=u.isSome:=by
 cases o with
 | none=>cases u with
   | none=>rfl
   | some _=>exact(show False from r).elim
 | some _=>cases u with
   | none=>exact(show False from r).elim
   | some _=>rfl
theorem KV.val{kvs:List (κ×V)}{vs:List (κ×Value)}(r:KV kvs vs)(k:κ):iq (ir kvs k) (valueAt vs k):=by
 unfold KV at r
 induction r with
 | nil=>exact True.intro
 | @cons p q ps qs h t ih=>
   obtain⟨h1,h2⟩:=h;by_cases e:p.1=k
   ·have e':q.1=k:=h1.symm.trans e;have b:valueAt (q::qs) k=some q.2:=by simp[valueAt,find?_cons,e']
    rw[kl e,b];exact h2
   ·have e': ¬ q.1=k:=fun z=>e (h1.trans z)
    have b:valueAt (q::qs) k=valueAt qs k:=by simp[valueAt,find?_cons,e']
    rw[km e,b];exact ih
theorem KV.any{kvs:List (κ×V)}{vs:List (κ×Value)}(r:KV kvs vs)(k:κ):(kvs.any fun kv=>decide (kv.1=k))=vs.any fun kv=>decide (kv.1=k):=by
 unfold KV at r
 induction r with
 | nil=>rfl
 | cons h t ih=>rw[any_cons,any_cons,ih,h.1]
theorem KV.repl{kvs:List (κ×V)}{vs:List (κ×Value)}(r:KV kvs vs)(k:κ){y:V}{u:Value}(ry:aE y u):
 KV (kvs.map fun kv=>if kv.1=k then(kv.1,y)else kv) (vs.map fun kv=>if kv.1=k then(kv.1,u)else kv):=by
 unfold KV at r ⊢
 induction r with
 | nil=>exact .nil
 | @cons p q ps qs h t ih=>
   rw[map_cons,map_cons];refine .cons ?_ ih;obtain⟨h1,h2⟩:=h;by_cases e:p.1=k
   ·rw[if_pos e,if_pos (h1.symm.trans e)];exact⟨h1,ry⟩
   ·rw[if_neg e,if_neg (fun z=>e (h1.trans z))];exact⟨h1,h2⟩
theorem KV.put{kvs:List (κ×V)}{vs:List (κ×Value)}(r:KV kvs vs)(k:κ){y:V}{u:Value}(ry:aE y u):KV (hW kvs k y) (stored vs k u):=by
 unfold hW stored;rw[r.any k];by_cases e:(vs.any fun kv=>decide (kv.1=k))=true
 ·rw[if_pos e,if_pos e];exact r.repl k ry
 ·rw[if_neg e,if_neg e];exact Paired.snoc r ⟨rfl,ry⟩
theorem KV.length{kvs:List (κ×V)}{vs:List (κ×Value)}(r:KV kvs vs):kvs.length=vs.length:=Paired.length r
end
theorem uC{P:Program}{w:World}{k:Key}{u:Value}(r:aE (kV k) u):(aM P w).is k u=true:=by
 cases k with
 | inl i=>obtain⟨t,e⟩:=(show∃t,u=Value.int i t from r);subst e;exact nL P w i t
 | inr x=>obtain⟨t,e⟩:=(show∃t,u=Value.str x t from r);subst e;exact nM P w x t
theorem lQ{P:Program}{w:World}:∀{ks:List Key} {us:List Value},aH (ks.map kV) us->ItemsAre (aM P w) ks us
 |[],_,r=>by rw[map_nil]at r;cases r;exact .nil
 | k::ks,_,r=>by
   rw[map_cons]at r;cases r with
   | cons h t=>exact .cons (uC h) (lQ t)
noncomputable abbrev KT(H:Hp):List (List Key×V)->List (List Key×Addr×Value)->Prop:=Paired fun p q=>p.1=q.1/\H q.2.1=some (.tup (p.1.map kV))/\aE p.2 q.2.2
theorem KT.val{H:Hp}{kvs:List (List Key×V)}{xs:List (List Key×Addr×Value)}(r:KT H kvs xs)(k:List Key):iq (ir kvs k) ((atKey xs k).map (·.2)):=by
 induction r with
 | nil=>exact True.intro
 | @cons p q ps qs h t ih=>
   obtain⟨h1,_,h2⟩:=h;by_cases e:p.1=k
   ·have e':q.1=k:=h1.symm.trans e;have b:atKey (q::qs) k=some q.2:=by simp[atKey,find?_cons,e']
    rw[kl e,b];exact h2
   ·have e': ¬ q.1=k:=fun z=>e (h1.trans z)
    have b:atKey (q::qs) k=atKey qs k:=by simp[atKey,find?_cons,e']
    rw[km e,b];exact ih
theorem KT.repl{H:Hp}{kvs:List (List Key×V)}{xs:List (List Key×Addr×Value)}(r:KT H kvs xs)(k:List Key){y:V}{u:Value}(ry:aE y u):
 KT H (kvs.map fun kv=>if kv.1=k then(kv.1,y)else kv) (xs.map (putAt k u)):=by
 induction r with
 | nil=>exact .nil
 | @cons p q ps qs h t ih=>
   rw[map_cons,map_cons];refine .cons ?_ ih;obtain⟨h1,h2,h3⟩:=h;unfold putAt;by_cases e:p.1=k
   ·rw[if_pos e,if_pos (h1.symm.trans e)];exact⟨h1,h2,ry⟩
   ·rw[if_neg e,if_neg (fun z=>e (h1.trans z))];exact⟨h1,h2,h3⟩
theorem KT.put{H:Hp}{kvs:List (List Key×V)}{xs:List (List Key×Addr×Value)}(r:KT H kvs xs)(k:List Key){b:Addr}{y:V}{u:Value}(hb:H b=some (.tup (k.map kV)))(ry:aE y u):
 KT H (hW kvs k y) (storedH xs k b u):=by
 have e:(kvs.any fun kv=>decide (kv.1=k))=(atKey xs k).isSome:=by
  rw[kn,(r.val k).isSome_eq,Option.isSome_map]
 unfold hW storedH;rw[e];by_cases q:(atKey xs k).isSome=true
 ·rw[if_pos q,if_pos q];exact r.repl k ry
 ·rw[if_neg q,if_neg q];exact Paired.snoc r ⟨rfl,hb,ry⟩
theorem KT.keeps{H H':Hp}{kvs:List (List Key×V)}{xs:List (List Key×Addr×Value)}(r:KT H kvs xs)(ht:∀b ys,H b=some (.tup ys)->H' b=some (.tup ys)):KT H' kvs xs:=
 Paired.mapP r fun _ _ z=>⟨z.1,ht _ _ z.2.1,z.2.2⟩
section
variable{P:Program}{w:World}{H:Hp}{h:Heap}{a:Addr}
theorem xz{u:HO}(ok:HOk P w H h)(e:Rd H a u):bA P w H h a u:=e.ok ok
theorem xA{kvs:List (Key×V)}(ok:HOk P w H h)(e:Rd H a (.dK kvs)):kvs.length<=sizeLine/\(a==sysModules)=false/\∃vs,KV kvs vs/\h.DictOf (aM P w) a vs:=
 show bA P w H h a (.dK kvs)from xz ok e
theorem zZ{kvs:List (Key×V)}(ok:HOk P w H h)(e:H a=some (.dK kvs)):kvs.length<=sizeLine/\(a==sysModules)=false/\∃vs,KV kvs vs/\h.DictOf (aM P w) a vs:=xA ok (.inl e)
theorem pY{ks:List Key}(ok:HOk P w H h)(e:H a=some (.tup (ks.map kV))):(tupleKind (aM P w)).is h ks a:=by
 obtain⟨_,its,r,o,h1,h2,n,h3⟩:=(show bA P w H h a (.tup (ks.map kV))from ok a _ e)
 exact⟨o,its.toArray,n,h1,h2,h3,by simpa using lQ r⟩
theorem xB{kvs:List (List Key×V)}(ok:HOk P w H h)(e:Rd H a (.dT kvs)):kvs.length<=sizeLine/\(a==sysModules)=false/\
 ∃xs,KT H kvs xs/\h.DictOfH (tupleKind (aM P w)) a xs:=by
 obtain⟨z,y,xs,r,o,es,ep,h1,h2,h3,h4,h5⟩:=(show bA P w H h a (.dT kvs)from xz ok e)
 refine⟨z,y,xs,r,o,es,ep,h1,h2,h3,h4,fun x hx=>?_,h5⟩;have all:∀{l:List (List Key×V)} {m:List (List Key×Addr×Value)},KT H l m->∀x∈m,(tupleKind (aM P w)).is h x.1 x.2.1:=by
  intro l m q
  induction q with
  | nil=>intro x hx;exact nomatch hx
  | @cons p q ps qs hq t ih=>
    intro x hx;rcases mem_cons.mp hx with e|hx
    ·subst e;exact pY ok (by rw[<-hq.1];exact hq.2.1)
    ·exact ih x hx
 exact all r x hx
theorem xC{kvs:List (List Key×V)}(ok:HOk P w H h)(e:H a=some (.dT kvs)):kvs.length<=sizeLine/\(a==sysModules)=false/\
 ∃xs,KT H kvs xs/\h.DictOfH (tupleKind (aM P w)) a xs:=xB ok (.inl e)
end
noncomputable def uD(H:Hp)(a:Addr)(y:V)(r:Option V):Prop:=
 (∃kvs k,Rd H a (.dK kvs)/\y=kV k/\r=ir kvs k)\/∃kvs k b,Rd H a (.dT kvs)/\y= .ref b/\H b=some (.tup (k.map kV))/\r=ir kvs k
noncomputable def mV(H:Hp)(a:Addr)(y v:V)(H':Hp):Prop:=
 (∃kvs k,H a=some (.dK kvs)/\y=kV k/\kvs.length<sizeLine/\H'=upd H a (.dK (hW kvs k v)))\/
 ∃kvs k b,H a=some (.dT kvs)/\y= .ref b/\H b=some (.tup (k.map kV))/\kvs.length<sizeLine/\H'=upd H a (.dT (hW kvs k v))
theorem uD.k{H:Hp}{a:Addr}{kvs:List (Key×V)}{k:Key}(e:H a=some (.dK kvs)):uD H a (kV k) (ir kvs k):= .inl ⟨kvs,k,.inl e,rfl,rfl⟩
theorem mV.k{H:Hp}{a:Addr}{kvs:List (Key×V)}{k:Key}{v:V}(e:H a=some (.dK kvs))(hl:kvs.length<sizeLine):mV H a (kV k) v (upd H a (.dK (hW kvs k v))):= .inl ⟨kvs,k,e,rfl,hl,rfl⟩
theorem mV.t{H:Hp}{a b:Addr}{kvs:List (List Key×V)}{k:List Key}{v:V}(e:H a=some (.dT kvs))(eb:H b=some (.tup (k.map kV)))(hl:kvs.length<sizeLine):
 mV H a (.ref b) v (upd H a (.dT (hW kvs k v))):= .inr ⟨kvs,k,b,e,rfl,eb,hl,rfl⟩
section
variable{X:Cx}{pins:List (Addr×Obj)}{σ:St}{H:Hp}{s:Shared}{a:Addr}{y v:V}{u r:Value}{o:Option V}{A:Around}{E:Value->Shared->Prop}
theorem Inv.big(I:Inv X pins σ H s):sysModules<s.heap.objs.size:=by
 have h:mainGlobals<s.heap.objs.size:=(I.mod.glob.keeps I.bk).lt;exact Nat.lt_trans (by decide) h
theorem d_in{Q:Value->Shared->Prop}(hu:A.units+1<cLine)(I:Inv X pins σ H s)(g:uD H a y o)(ry:aE y u)(h:∀s',Inv X pins σ H s'->Q (.bool o.isSome) s'):
 wpAny (model X.prog X.w) A (compareOp .In u (.ref a)) Q E s:=by
 rcases g with⟨kvs,k,e,ey,l⟩|⟨kvs,k,b,e,ey,eb,l⟩
 ·subst ey;obtain⟨z,hd,vs,rel,dd⟩:=xA I.hok e;refine wpAny_in_of (uC ry) hd dd.mapOf ?_;rw[<-(rel.val k).isSome_eq,<-l];exact h _ (I.tok _)
 ·subst ey;cases(show u=Value.ref b from ry);obtain⟨z,hd,xs,rel,dd⟩:=xB I.hok e;refine wpAny_in_heap (tupleKind_room_in1 hu) (pY I.hok eb) hd dd ?_;have q:=(rel.val k).isSome_eq;rw[Option.isSome_map]at q;rw[<-q,<-l];exact h _ (I.tok _)
theorem rb{h':Heap}{t':Nat}{ob:HO}(I:Inv X pins σ H s)(mu:Mut (H a))(hs:SameBut a s.heap h')(he:∃q,h'.get? a=some q)(new:bA X.prog X.w (upd H a ob) h' a ob):
 Inv X pins σ (upd H a ob) {s with heap:=h',toks:=t'}:=
 I.write (x:=a) (e:=a) mu (.inl rfl) (fun b q hb z=>(hs.2 b hb).trans z) he new
theorem yM{P:Program}{w:World}{H':Hp}{h':Heap}{kvs:List (Key×V)}{vs:List (Key×Value)}(z:kvs.length<=sizeLine)(hd:(a==sysModules)=false)(rel:KV kvs vs)(dd:h'.DictOf (aM P w) a vs):
 bA P w H' h' a (.dK kvs):=⟨z,hd,vs,rel,dd⟩
theorem sd{H':Hp}{Q:Unit->Shared->Prop}(hu:A.units+1<cLine)(I:Inv X pins σ H s)(g:mV H a y v H')(ry:aE y u)(rv:aE v r)(h:∀s',Inv X pins σ H' s'->Q () s'):
 wpAny (model X.prog X.w) A (setItem (.ref a) u r) Q E s:=by
 rcases g with⟨kvs,k,e,ey,l,eH⟩|⟨kvs,k,b,e,ey,eb,l,eH⟩
 ·subst ey eH;obtain⟨z,hd,vs,rel,dd⟩:=zZ I.hok e;have hz:vs.length<=sizeLine:=by rw[<-rel.length];exact z
  have hl:(hW kvs k v).length<=sizeLine:=by have:=jy kvs k v;lia
  refine wpAny_setItem_pairs (hsz:=hz) (uC ry) dd fun h' dd' hs=>h _ ?_
  have he:∃q,h'.get? a=some q:=let⟨q,_,_,hq,_⟩:=dd';⟨q,hq⟩;exact rb I (by rw[e];exact True.intro) hs he (yM hl hd (rel.put k rv) dd')
 ·subst ey eH;cases(show u=Value.ref b from ry);obtain⟨z,hd,xs,rel,dd⟩:=xC I.hok e;have hz:xs.length<=sizeLine:=by rw[<-Paired.length rel];exact z
  have hl:(hW kvs k v).length<=sizeLine:=by have:=jy kvs k v;lia
  refine wpAny_setItem_heap (hsz:=hz) (tupleKind_room_in1 hu) (pY I.hok eb) dd fun h' dd' hs=>h _ ?_
  obtain⟨q,es,ep,hq,h2,h3,h4,_,h5⟩:=dd';refine rb I (by rw[e];exact True.intro) hs ⟨q,hq⟩ ⟨hl,hd,_,(rel.put k eb rv).keeps fun c ys ec=>?_,q,es,ep,hq,h2,h3,h4,h5⟩;rw[ak (zz ec e (fun z=>nomatch z))];exact ec
end
section
variable{X:Cx}{pins:List (Addr×Obj)}{σ:St}{H:Hp}{s:Shared}{a:Addr}{kvs:List (Key×V)}{k:Key}{u:Value}{A:Around}{E:Value->Shared->Prop}
end
noncomputable def yN(ty td:TE):TE:=fun σ H Q=>ty σ H fun y H1=>td σ H1 fun x H2=>∃a o,x= .ref a/\uD H2 a y o/\Q (.bl o.isSome) H2
noncomputable def uE(td ty tv:TE):TS:=fun D σ H=>tv σ H fun v H1=>td σ H1 fun x H2=>ty σ H2 fun y H3=>∃a H4,x= .ref a/\mV H3 a y v H4/\D.nx σ H4
section
variable{X:Cx}{o i e value:Expr}{pos pos' tpos:Pos}{td ty tv:TE}
theorem yO(hu:X.A.units+1<cLine)(hi:PE X i ty)(ho:PE X o td):PC X .In i o (yN ty td):=by
 intro pins s σ H Q I h;refine thn (hi pins s σ H _ I h) fun iv s1 ⟨y,H1,I1,ry,q1⟩=>thn (ho pins s1 σ H1 _ I1 q1) fun u s2 ⟨x,H2,I2,rx,a,ov,ex,g,q2⟩=>?_
 subst ex;obtain rfl:u=Value.ref a:=rx;exact d_in hu I2 g ry fun s3 I3=>⟨.bl ov.isSome,H2,I3,rfl,q2⟩
theorem wB(hu:X.A.units+1<cLine)(ho:PE X o td)(hi:PE X i ty)(hv:PE X value tv)(hs:swapsWith value (some (.Subscript o i pos')) pos.line X.env=pure false):
 PS X (.Assign [.Subscript o i pos'] value pos) (uE td ty tv):=by
 intro pins s σ H D I h;refine wpAny_Assign_Subscript (thn (hv pins s σ H _ I h) fun r s1 ⟨v,H1,I1,rv,q1⟩=>thn (ho pins s1 σ H1 _ I1 q1) fun u s2 ⟨x,H2,I2,rx,q2⟩=>thn (hi pins s2 σ H2 _ I2 q2) fun iv s3 ⟨y,H3,I3,ry,a,H4,ex,g,q3⟩=>?_) hs;subst ex;obtain rfl:u=Value.ref a:=rx;exact sd hu I3 g ry rv fun s4 I4=>⟨σ,H4,I4,q3⟩
end
theorem uF{P:Program}{w:World}{H:Hp}(h:Heap)(hb:sysModules<h.objs.size):bA P w H (h.push {cls:= .type "dict",data:= .dict #[]}) h.objs.size (.dK []):=
 ⟨zero_le _,beq_eq_false_iff_ne.mpr (Ne.symm (V4 hb)),[],.nil,Heap.DictOf.new h⟩
theorem uG{P:Program}{w:World}{H:Hp}(h:Heap)(hb:sysModules<h.objs.size):bA P w H (h.push {cls:= .type "dict",data:= .dict #[]}) h.objs.size (.dT []):=
 ⟨zero_le _,beq_eq_false_iff_ne.mpr (Ne.symm (V4 hb)),[],.nil,_,#[],0,W3 _ rfl,⟨rfl,rfl,rfl⟩,rfl,rfl,nodup_nil⟩
noncomputable def pZ:TE:=fun _ H Q=>∀p,H p=none->Q (.ref p) (upd H p (.dK []))
noncomputable def p7:TE:=fun _ H Q=>∀p,H p=none->Q (.ref p) (upd H p (.dT []))
section
variable{X:Cx}{pos:Pos}
theorem uH:PE X (.Dict [] [] pos) pZ:=fun pins s σ H Q I h=>
 wpAny_Dict_empty ⟨.ref s.heap.objs.size,_,I.laid (a:=s.heap.objs.size) (o:= .dK []) (t':=s.toks) (fun _ _ q=>Y7 _ q) (W1 _) (uF s.heap I.big),rfl,h _ (I.hok.fresh (W1 _))⟩
theorem uI:PE X (.Dict [] [] pos) p7:=fun pins s σ H Q I h=>
 wpAny_Dict_empty ⟨.ref s.heap.objs.size,_,I.laid (a:=s.heap.objs.size) (o:= .dT []) (t':=s.toks) (fun _ _ q=>Y7 _ q) (W1 _) (uG s.heap I.big),rfl,h _ (I.hok.fresh (W1 _))⟩
end
section
variable{X:Cx}{pins:List (Addr×Obj)}{σ:St}{H:Hp}{s:Shared}{a:Addr}{y d:V}{u r:Value}{o:Option V}{A:Around}{E:Value->Shared->Prop}
end
section
variable{X:Cx}{o e f:Expr}{apos cpos:Pos}{td ty tx:TE}
end
section
variable{X:Cx}{pins:List (Addr×Obj)}{σ:St}{H:Hp}{s:Shared}{a:Addr}{kvs:List (Key×V)}{A:Around}{E:Value->Shared->Prop}
end
section
variable{X:Cx}{pins:List (Addr×Obj)}{σ:St}{H:Hp}{s:Shared}{a:Addr}{y:V}{u:Value}{A:Around}{E:Value->Shared->Prop}
end
end L2
namespace Att
open PySem PySem.W PySem.Calls PyProof.Rows
theorem jM{P:Params}{h:Heap}:∀(ns:List Int) (vs:List Value),WellAll P h vs (ns.map WData.int)->IntsAre vs ns:=by
 intro ns
 induction ns with
 | nil=>
   intro vs w;rw[map_nil]at w;cases w;exact .nil
 | cons n ns ih=>
   intro vs w;rw[map_cons]at w;cases w with
   | cons a b=>
     cases a;exact .cons _ _ (ih _ b)
theorem se{l:OpenLaw}{n:Nat}(hn:l.most=some n){P:Params}{h:Heap}{args:List WData}{vals:List Value}
 (hpre:l.row.toRowW.claim.pre args=true) (hwl:WellAll P h vals args):
 ∃a vs ns,vals=[Value.ref a]/\args=[WData.list (ns.map WData.int)]/\h.get? a=some {cls:= .type "list",data:= .seq vs.toArray}/\IntsAre vs ns/\ns.length<=n:=by
 have hsh:WShape.hasAll [] args [.list .int]=true:=(pre_splitW hpre).1;have hc:l.pre.holds [] {args:=args}=true:=(pre_splitW hpre).2;obtain⟨d,r,rfl,h1,h2⟩:=hasAllW_cons hsh;obtain rfl:=hasAllW_nil h2;obtain⟨xs,rfl,h3⟩:=hasW_list h1;obtain⟨ns,rfl⟩:=items_int h3;have hlen:ns.length<=n:=by
  unfold OpenLaw.pre at hc;have h4:(WTm.not (.lt (.lit (.int (n:Int))) (.len (.arg 0)))).holds [] {args:=[.list (ns.map .int)]}=true:=by
   have h4:=(holds_andW hc).1;rw[hn]at h4;exact h4
  have h5:=condW_of h4 (w_not (w_lt w_lit (w_len_list (w_arg rfl))));rw[Y6]at h5;refine Nat.le_of_not_lt fun q=>?_
  have q':(n:Int)<((ns.length:Nat):Int):=by lia
  first
   |(rw[X7 q']at h5;exact absurd h5 (by decide))
   |(simp at h5;lia)
 cases hwl with
 | cons w1 w2=>
   cases w2;cases w1 with
   | list ho hall=>exact⟨_,_,ns,rfl,rfl,ho,jM ns _ hall,hlen⟩
theorem sf(l:OpenLaw)(args:List WData):l.row.toRowW.claim.post args (.bool true) args=true:=
 postW_of (r:=l.row.toRowW) (X:=(true==true))
  (show WShape.has [] (.bool true) .bool=true by first|rfl|decide|simp[WShape.has,WShape.arms,WShape.armsAll])
  (show(WTm.eq .res (.lit (.bool true))).value [] {args:=args,res:=some (.bool true),after:=args}=some (.bool (true==true))from w_eq_bool (w_res rfl) w_lit) rfl
theorem attach_call{l:OpenLaw}{n:Nat}{q:Program}{loose:List Str}{XP:(Str->Option Value)->Heap->Prop}{YP:World->Heap->Prop}{d:DefRec}
 (hn:l.most=some n) (hdf:d.params.defaults=[])
 (call:∀(w:World) (s₀ s₁:Shared) (mg mb:Str->Option Value) (fa:Addr) (o:Obj) (pm cd doc:Value) (a:Addr) (vs:List Value) (ns:List Int),
  Ground q loose [] XP w s₀ mg mb s₁.heap->YP w s₁.heap->
  s₁.heap.get? fa=some o->o.data= .func (docDef d.name d.params d.body d.scope pm cd doc)->s₁.heap.CodeRec cd d.name->mg d.name=some (.ref fa)->
  s₁.heap.get? a=some {cls:= .type "list",data:= .seq vs.toArray}->IntsAre vs ns->ns.length<=n->s₁.gens= #[]->
  codeAny (model l.prog w) callerA (.call (.ref fa) ⟨[.ref a],[]⟩) (fun r s'=>r= .ok (.ret (.bool true))/\OldK s₁.heap s'.heap/\s'.os=s₁.os/\AllBare s'.gens) s₁):
 WalkO q loose XP YP l.row.toRowW d [] (fun f vs=>PySem.call f vs):=by
 intro w s₀ s₁ mg mb G Y fa o pm cd doc dV kV ho hd hcd hD hmg hg args vals as hpre hlay hrd hwl hlo;obtain rfl:dV= .none:=Dflts.none hD hdf;obtain rfl:kV= .none:=Dflts.noKw hD;obtain⟨a,vs,ns,rfl,rfl,hobj,hints,hlen⟩:=se hn hpre hwl;refine enter_call (codeAny_mono (call w s₀ s₁ mg mb fa o pm cd doc a vs ns G Y ho (fd_plain hd) hcd hmg hobj hints hlen hg) fun r s' hq=>?_);obtain⟨rfl,h2,h3,h4⟩:=hq;exact⟨.inl ⟨.bool true,.bool true,[],rfl,fun _=>rfl,.bool true,sf l _,fun _=>⟨List.Pairwise.nil,fun _ hm=>(nomatch hm)⟩⟩,h2,h3,h4⟩
section
variable{prog:Program}{w:World}{A:Around}{E:Value->Shared->Prop}{s:Shared}{K:Frag}
end
end Att
namespace L2
open PySem PySem.Spec PyProof.Rows
theorem lR:∀{vs:List Value} {ns:List Int},IntsAre vs ns->aH (ns.map V.int) vs
 | _,_,.nil=> .nil
 | _,_,.cons n t h=> .cons ⟨t,rfl⟩ (lR h)
noncomputable def wC(H:Hp):Prop:=∀b,H b=none\/∃o xs,H b=some (.frz o (.lst xs))
theorem law_call{P:Program}{w:World}{K:PySem.W.Frag}{mg mb:Str->Option Value}{CX:CXT}{k:Nat}{fa a:Addr}{fd:FuncData}{x:Str}{sp:Sp}{s₁:Shared}{vs:List Value}{ns:List Int}
 (KX:K.In s₁.heap) (hns:s₁.heap.Ns mainGlobals mg) (hb:s₁.heap.Ns builtinsNs mb) (hbb:∀x:Str,x≠"__name__"->mb x=bootBuiltins x) (hlim:s₁.heap.NoLimit) (hg:s₁.gens= #[])
 (ha:s₁.heap.get? a=some {cls:= .type "list",data:= .seq vs.toArray}) (hi:IntsAre vs ns) (hl:ns.length<=sizeLine) (hr:cr k callerA)
 (F:∀base:Heap,K.In base->base.Ns mainGlobals mg->hJ P w K mg base CX k fa fd [x] sp) (hbind:∀(s:Shared) (u:Value),BindsTo s fd ⟨[u],[]⟩ [(x,u)])
 (hsp:∀H:Hp,wC H->SqL K H a (ns.map V.int)->sp [.ref a] H (fun v _=>v= .bl true) fun _ _ _=>False)
 (hCX:∀H e s',CX [] H s₁ (fun _ _ _=>False) e s'->False):
 codeAny (model P w) callerA (.call (.ref fa) ⟨[.ref a],[]⟩) (fun r s'=>r= .ok (.ret (.bool true))/\OldK s₁.heap s'.heap/\s'.os=s₁.os/\AllBare s'.gens) s₁:=by
 have rv:=lR hi;have lenV:=hi.length;have core:∀H:Hp,wC H->SqL K H a (ns.map V.int)->HOk P w H s₁.heap->(∀b,H b≠none->b=a)->(H a≠none->K.lookup a=none)->
  codeAny (model P w) callerA (.call (.ref fa) ⟨[.ref a],[]⟩) (fun r s'=>r= .ok (.ret (.bool true))/\OldK s₁.heap s'.heap/\s'.os=s₁.os/\AllBare s'.gens) s₁:=by
  intro H hO hS hok hA hK;have base_of:∀{b:Addr} {o:Obj},s₁.heap.get? b=some o->H b=none->(mJ s₁.heap H).get? b=some o:=fun e n=>tK e n
  have noA:∀{b:Addr} {o:Obj} {es:Array DictEntry} {ep:Nat},s₁.heap.get? b=some o->o.data= .dict es ep->H b=none:=fun{b o es ep} e d=>by
   cases q:H b with
   | none=>rfl
   | some u=>
     have e':b=a:=hA b (by rw[q];simp);subst e';rw[ha]at e;cases e;have d':Data.seq vs.toArray _=Data.dict es ep:=d;cases d'
  have nsK:∀{b:Addr} {m:Str->Option Value},s₁.heap.Ns b m->(mJ s₁.heap H).Ns b m:=fun{b m} ⟨o,es,ep,e,d,r⟩=>⟨o,es,ep,base_of e (noA e d),d,r⟩
  have hKb:K.In (mJ s₁.heap H):=fun b o e=>base_of (KX b o e) (by
   cases q:H b with
   | none=>rfl
   | some u=>
     have e':b=a:=hA b (by rw[q];simp);subst e';rw[hK (by rw[q];simp)]at e;cases e)
  have hM:Mod K mg (mJ s₁.heap H):=⟨hKb,nsK hns,⟨mb,nsK hb,hbb⟩,let⟨mc,h1,h2⟩:=hlim;⟨mc,nsK h1,h2⟩⟩
  have e0:pV P w K mg (mJ s₁.heap H) callerA [] s₁ H:=⟨rfl,hM,fun b o e=>vN e,Nat.le_of_eq (rL _ _),trivial,fun b hb=>absurd (show b∈([]:List Addr)from hb) (by simp),hok,.of_eq hg⟩
  refine codeAny_mono ((F _ hKb (nsK hns)).run callerA [] s₁ H ⟨[.ref a],[]⟩ [.ref a] [.ref a] _ _ hr e0 (hbind s₁ (.ref a)) (.cons rfl .nil) (hsp H hO hS)) fun r s' h=>?_
  cases r with
  | error e=>exact(hCX H e s' h).elim
  | ok fl=>
    cases fl with
    | next=>exact False.elim h
    | brk=>exact False.elim h
    | cont=>exact False.elim h
    | ret u=>
      obtain⟨v,H',os,bare,un,hok',r',q⟩:=h;have q':v= .bl true:=q;subst q';obtain rfl:u=Value.bool true:=r';refine⟨rfl,OldK.of_keep fun b o e=>?_,os,bare⟩;cases q:H b with
      | none=>exact un.keep b o e q (by intro z;exact absurd (show b∈([]:List Addr)from z) (by simp)) (by simp)
      | some u=>
        rcases hO b with z|⟨ob,xs,z⟩
        ·rw[q]at z;cases z
        ·have z2:=un.frzs b ob _ z;obtain⟨e1,_⟩:=hok b _ z;obtain⟨e2,_⟩:=hok' b _ z2;rw[e]at e1;cases e1;exact e2
 cases hk:K.lookup a with
 | some o=>
   have e:=KX a o hk;rw[ha]at e;cases e;refine core (fun _=>none) (fun _=> .inl rfl) (.inr ⟨_,vs.toArray,_,hk,rfl,rfl,rfl,by rw[W9,lenV];exact hl,by simpa using rv⟩) (fun b u z=>by have z':(none:Option HO)=some u:=z;cases z') (fun b z=>absurd rfl z) fun z=>absurd rfl z
 | none=>
   refine core (fun b=>if b=a then some (.frz {cls:= .type "list",data:= .seq vs.toArray} (.lst (ns.map V.int)))else none) (fun b=>?_) (.inl (.inr ⟨{cls:= .type "list",data:= .seq vs.toArray},if_pos rfl⟩)) (fun b u z=>?_) (fun b z=>?_) fun _=>hk
   ·by_cases hb:b=a
    ·exact .inr ⟨_,_,if_pos hb⟩
    ·exact .inl (if_neg hb)
   ·by_cases hb:b=a
    ·have z':=(if_pos hb).symm.trans z;cases z';subst hb;exact⟨ha,by rw[Y6];exact hl,vs,_,rv,ha⟩
    ·have z':=(if_neg hb).symm.trans z;cases z'
   ·by_cases hb:b=a
    ·exact hb
    ·exact absurd (if_neg hb) z
theorem walk_of{l:PySem.W.OpenLaw}{n k:Nat}{q:Program}{loose:List Str}{XP:(Str->Option Value)->Heap->Prop}{YP:World->Heap->Prop}{d:DefRec}{K:Params->PySem.W.Frag}{CX:World->CXT}{sp:World->Sp}{x:Str}
 (hn:l.most=some n) (hn2:n<=sizeLine) (hdf:d.params.defaults=[]) (hr:cr k callerA)
 (hY:∀(w:World) (h:Heap),YP w h->(K w.params).In h)
 (F:∀(w:World) (mg:Str->Option Value) (fa:Addr) (h:Heap),(K w.params).In h->h.Ns mainGlobals mg->mg d.name=some (.ref fa)->
  ∃fd:FuncData,(∀(s:Shared) (u:Value),BindsTo s fd ⟨[u],[]⟩ [(x,u)])/\
   ∀base:Heap,(K w.params).In base->base.Ns mainGlobals mg->hJ l.prog w (K w.params) mg base (CX w) k fa fd [x] (sp w))
 (hsp:∀(w:World) (H:Hp) (a:Addr) (ns:List Int),ns.length<=n->wC H->SqL (K w.params) H a (ns.map V.int)->sp w [.ref a] H (fun v _=>v= .bl true) fun _ _ _=>False)
 (hCX:∀(w:World) (H:Hp) (s:Shared) (e:Value) (s':Shared),CX w [] H s (fun _ _ _=>False) e s'->False):
 PySem.W.WalkO q loose XP YP l.row.toRowW d [] (fun f vs=>PySem.call f vs):=by
 refine Att.attach_call hn hdf fun w s₀ s₁ mg mb fa o pm cd doc a vs ns G Y ho hd hcd hmg hobj hints hlen hg=>?_
 have KX:=hY w _ Y;obtain⟨fd,hb,hF⟩:=F w mg fa _ KX G.T.g hmg;exact law_call KX G.T.g G.T.b G.T.builtins G.T.nolimit hg hobj hints (le_trans hlen hn2) hr hF hb (fun H hO hS=>hsp w H a ns hlen hO hS) fun H e s'=>hCX w H s₁ e s'
noncomputable def iu(s:Stmt)(j:Nat):Stmt:=match s with
 | .ClassDef _ _ _ body _ _ _ _ _ _ _=>body.getD j (.Pass ⟨0,0,0,0⟩)
 | _=> .Pass ⟨0,0,0,0⟩
noncomputable def av(s:Stmt):Arguments:=match s with
 | .FunctionDef _ a _ _ _ _ _ _ _ _=>a
 | _=>{posonlyargs:=[],args:=[],vararg:=none,kwonlyargs:=[],kw_defaults:=[],kwarg:=none,defaults:=[]}
noncomputable def ar(s:Stmt):List Stmt:=match s with
 | .FunctionDef _ _ b _ _ _ _ _ _ _=>b
 | _=>[]
noncomputable def af(s:Stmt):Scope:=match s with
 | .FunctionDef _ _ _ _ _ _ sc _ _ _=>sc
 | _=>{kind:= .function,names:=[],isGenerator:=false,isCoroutine:=false}
noncomputable abbrev CX0:CXT:=fun _ _ _ _ _ _=>False
noncomputable abbrev E0:XK:=fun _ _ _=>False
theorem uJ{X:Cx}:hV CX0 X E0:=fun _ _ _ _ _ _ _ h=>h.elim
structure Fun (K:PySem.W.Frag) (x qual:Str) (st:Stmt) (f:Addr) (fd:FuncData):Prop where
 ex:∃(oc:Value) (od:Option Addr) (kV doc pm:Value) (an:Option Addr) (cdv ct:Value) (osl:Array (Option Value)),
  fd=fnOf x qual (av st) (ar st) (af st) .none kV doc pm an cdv ct/\K.lookup f=some ⟨oc,od,.func fd,osl⟩/\codeIn K cdv qual=true
 kp:keepIn K (.ref f)=true
section
variable{P:Program}{w:World}{K:PySem.W.Frag}{mg:Str->Option Value}{base:Heap}
theorem Fun.ok{x qual:Str}{st:Stmt}{f:Addr}{fd:FuncData}{N ps:List Str}{k:Nat}{sp:Sp}(F:Fun K x qual st f fd)(S:au N ps (af st))(len:∀vs H Q E,sp vs H Q E->vs.length=ps.length)
 (hbody:∀(cdv:Value) (A:Around) (outer:List Env) (s:Shared) (H:Hp) (vs:List V) (Q:VK) (E:XK),cr k (A.deeper (envOfC qual (af st) s.heap.objs.size f cdv))->sp vs H Q E->
  ∃t,PSs (mN CX0 P w K mg base N qual (af st) f cdv A outer s H E).nox (ar st) t/\t {nx:=fun _ H'=>Q .non H',rt:=Q} (fR N vs) H):hJ P w K mg base CX0 (k+1) f fd ps sp:=by
 obtain⟨oc,od,kV,doc,pm,an,cdv,ct,osl,rfl,lk,hcd⟩:=F.ex;refine zW lk hcd S len fun A outer s H vs Q E hr hsp=>?_
 obtain⟨t,h,q⟩:=hbody cdv A outer s H vs Q E hr hsp;exact⟨t,h.nox,q⟩
theorem Fun.binds{x qual:Str}{st:Stmt}{f:Addr}{fd:FuncData}{ps:List Str}(F:Fun K x qual st f fd)
 (h:∀(kV doc pm:Value) (an:Option Addr) (cdv ct:Value) (us:List Value),us.length=ps.length->bindArgs (fnOf x qual (av st) (ar st) (af st) .none kV doc pm an cdv ct) ⟨us,[]⟩=pure (ps.zip us)):eI K fd ps []:=by
 obtain⟨oc,od,kV,doc,pm,an,cdv,ct,osl,rfl,lk,hcd⟩:=F.ex;exact .all (h kV doc pm an cdv ct)
theorem h9{x qual:Str}{st:Stmt}{f:Addr}{oc:Value}{od an:Option Addr}{osl:Array (Option Value)}{kV doc pm cdv ct:Value}(l:K.lookup f=some ⟨oc,od,.func (fnOf x qual (av st) (ar st) (af st) .none kV doc pm an cdv ct),osl⟩)
 (c:codeIn K cdv qual=true) (k:keepIn K (.ref f)=true):Fun K x qual st f (fnOf x qual (av st) (ar st) (af st) .none kV doc pm an cdv ct):=⟨⟨oc,od,kV,doc,pm,an,cdv,ct,osl,rfl,l,c⟩,k⟩
end
section
variable{X:Cx}
theorem pv(i:Nat){x:Str}{pos:Pos}(hN:X.N[i]? =some x)(hv:Vis X.env.scope x)(hd:(x==("__debug__":Str))=false)
 (hcd:(x==("__classdict__":Str))=false):PE X (.Name x pos) (nO i):=tM hN hv hd hcd
end
theorem yP{A B:Prop}(h:B):if false=true then A else B:=by
 rw[if_neg V6];exact h
theorem cF{c A B:Prop}[Decidable c](h1:c->A)(h2: ¬ c->B):if c then A else B:=by
 by_cases h:c
 ·rw[if_pos h];exact h1 h
 ·rw[if_neg h];exact h2 h
noncomputable def ag(H H':Hp):Prop:=∀b o,H b=some o->H' b=some o
theorem ag.refl(H:Hp):ag H H:=fun _ _ h=>h
theorem ag.trans{H H1 H2:Hp}(a:ag H H1)(b:ag H1 H2):ag H H2:=fun c o h=>b c o (a c o h)
theorem ag.free{H H':Hp}(e:ag H H'){l:Addr}(h:H' l=Option.none):H l=Option.none:=by
 cases q:H l with
 | none=>rfl
 | some o=>
   rw[e l o q]at h;cases h
theorem ag.seq{K:PySem.W.Frag}{H H':Hp}{a:Addr}{xs:List V}(e:ag H H')(h:SqL K H a xs):SqL K H' a xs:=by
 rcases h with(h|⟨o,h⟩)|h
 ·exact .inl (.inl (e _ _ h))
 ·exact .inl (.inr ⟨o,e _ _ h⟩)
 ·exact .inr h
section
variable{X:Cx}
end
section
variable{κ:Type}[DecidableEq κ]
theorem wD{kvs:List (κ×V)}{k:κ}{v:V}(h:ir kvs k=some v):k∈kvs.map (·.1):=by
 have q:(kvs.any fun kv=>decide (kv.1=k))=true:=by
  rw[kn,h]
  all_goals rfl
 obtain⟨p,hp,e⟩:=any_eq_true.mp q;exact mem_map.mpr ⟨p,hp,W8 e⟩
theorem jX:∀{l:List κ} {k:κ},l.Nodup-> ¬ k∈l->(l++[k]).Nodup
 |[],k,_,_=>by simp
 | a::r,k,h,hk=>by
   obtain⟨h1,h2⟩:=nodup_cons.mp h;show(a::(r++[k])).Nodup;refine nodup_cons.mpr ⟨fun m=>?_,jX h2 fun m=>hk (mem_cons.mpr (Or.inr m))⟩;rcases mem_append.mp m with q|q
   ·exact h1 q
   ·exact hk (mem_cons.mpr (Or.inl (mem_singleton.mp q).symm))
end
noncomputable def jN(env:Env):List (Str×NameKind)->List (Str×Addr)->List (Str×Addr)
 |[],acc=>acc
 |(n,k)::r,acc=>jN env r (if k= .free then(n,(env.cells.lookup n).getD 0)::acc else acc)
theorem ko{env:Env}:∀(names:List (Str×NameKind)) (acc:List (Str×Addr)),(∀y∈names,y.2= .free->∃c,env.cells.lookup y.1=some c)->
 (forIn names acc fun x r=>match x with
  |(name,kind)=>if(kind==NameKind.free)=true then do let a<-cellOf env name;pure (ForInStep.yield ((name,a)::r))else pure (ForInStep.yield r):Sem (List (Str×Addr)))=pure (jN env names acc)
 |[],acc,_=>rfl
 |(n,k)::r,acc,h=>by
  have ih:=fun acc=>ko (env:=env) r acc fun y hy=>h y (W4 _ hy)
  rw[forIn_cons];by_cases hk:k= .free
  ·subst hk;obtain⟨c,e⟩:=h (n,.free) W6 rfl;have e1:cellOf env n=pure c:=by unfold cellOf;rw[e]
   simp only[beq_self_eq_true,if_true,e1,pure_bind];rw[ih];show _=pure (jN env r (if(NameKind.free:NameKind)= .free then(n,(env.cells.lookup n).getD 0)::acc else acc));rw[if_pos rfl,e]
   all_goals rfl
  ·have hb:(k==NameKind.free)=false:=by simpa using hk
   simp only[hb,false_eq_true,if_false,pure_bind];rw[ih];show _=pure (jN env r (if k= .free then(n,(env.cells.lookup n).getD 0)::acc else acc));rw[if_neg hk]
theorem wE{env:Env}{scope:Scope}(h:∀y∈scope.names,y.2= .free->∃c,env.cells.lookup y.1=some c):closureFor scope env=pure (jN env scope.names []):=by
 unfold closureFor;have e:=ko scope.names [] h;simp only[bind_pure];exact e
theorem nV{env:Env}{x:Str}{c:Addr}:∀(names:List (Str×NameKind)) (acc:List (Str×Addr)),(∀y∈names,y.2= .free->∃c,env.cells.lookup y.1=some c)->
 (∀y d,acc.lookup y=some d->env.cells.lookup y=some d)->(jN env names acc).lookup x=some c->env.cells.lookup x=some c
 |[],acc,_,ha,e=>ha x c e
 |(n,k)::r,acc,h,ha,e=>by
  refine nV r _ (fun y hy=>h y (W4 _ hy)) (fun y d q=>?_) e;by_cases hk:k= .free
  ·rw[if_pos hk,lookup_cons]at q;obtain⟨c',e'⟩:=h (n,k) W6 hk;cases hy:y==n with
   | true=>
     rw[hy]at q;have:=eq_of_beq hy;subst this;rw[e']at q ⊢;exact q
   | false=>rw[hy]at q;exact ha y d q
  ·rw[if_neg hk]at q;exact ha y d q
theorem kq{env:Env}{x:Str}:∀(names:List (Str×NameKind)) (acc:List (Str×Addr)),(∃c,acc.lookup x=some c)->∃c,(jN env names acc).lookup x=some c
 |[],_,h=>h
 |(n,k)::r,acc,h=>by
  refine kq r _ ?_;by_cases hk:k= .free
  ·rw[if_pos hk,lookup_cons];cases hy:x==n with
   | true=>exact⟨_,rfl⟩
   | false=>exact h
  ·rw[if_neg hk];exact h
theorem kr{env:Env}{x:Str}:∀(names:List (Str×NameKind)) (acc:List (Str×Addr)),(x,NameKind.free)∈names->∃c,(jN env names acc).lookup x=some c
 |[],_,h=>by simp at h
 |(n,k)::r,acc,h=>by
  rcases mem_cons.mp h with e|h
  ·cases e;refine kq r _ ?_;rw[if_pos rfl,lookup_cons,beq_self_eq_true];exact⟨_,rfl⟩
  ·exact kr r _ h
noncomputable def be(X:Cx)(scope:Scope)(N':List Str)(s₃:Shared)(H₃:Hp)(fp:List Addr):Cx:=
 {X with
  N:=N'
  s₀:=s₃
  H₀:=H₃
  env:=compEnvC scope (cellsFrom (s₃.heap.objs.size+1) scope.names (jN X.env scope.names [])) s₃.heap.objs.size X.env
  outer:=X.stack
  stack:=X.stack
  ex:=fp
  fn:=fun x=>decide (scope.names.lookup x=some .cell)
  pn:=[]
  xe:=fun _ _=>False}
structure aG (X:Cx) (scope:Scope) (N':List Str) (cap:List (Nat×Nat)):Prop where
 kind:scope.kind= .function
 cell:∀y∈scope.names,y.2= .cell->scope.names.lookup y.1=some .cell
 loc:∀y∈scope.names,y.2= .local->scope.names.lookup y.1=some .local
 free:∀y∈scope.names,y.2= .free->X.env.kindOf y.1=some .cell\/X.env.kindOf y.1=some .free
 capt:∀p∈cap,∃x,N'[p.1]? =some x/\X.N[p.2]? =some x/\scope.names.lookup x=some .free
noncomputable def lS(n:Nat)(cap:List (Nat×Nat))(σ:St):St:=(List.range n).map fun j=>(cap.lookup j).bind fun i=>(σ[i]?).join
theorem jz:∀{l:List (Nat×Nat)} {j i:Nat},l.lookup j=some i->(j,i)∈l
 |[],_,_,h=>by simp at h
 |(a,b)::r,j,i,h=>by
  rw[lookup_cons]at h;cases hj:j==a with
  | true=>
    rw[hj]at h;have:=eq_of_beq hj;subst this;have e:b=i:=X1 h;subst e;exact W6
  | false=>rw[hj]at h;exact W4 _ (jz h)
theorem jA{env:Env}{names:List (Str×NameKind)}{x:Str}{k:NameKind}(h:(names.map fun(n,k)=>if(k==NameKind.free&&env.scope.kind== .function&&env.kindOf n==some .cell)then(n,NameKind.cell)else(n,k)).lookup x=some k)
 (hk:k= .cell\/k= .free):(x,NameKind.free)∈names\/(x,NameKind.cell)∈names:=by
 have m:=PySem.mem_of_lookup h;obtain⟨⟨n,k'⟩,hm,e⟩:=mem_map.mp m;by_cases hb:(k'==NameKind.free&&env.scope.kind== .function&&env.kindOf n==some .cell)=true
 ·have e':((n,NameKind.cell):Str×NameKind)=(x,k):=by rw[<-e];simp only[hb,if_true]
  cases e';have:k'= .free:=by
   simp only[and_eq_true,beq_iff_eq]at hb;exact hb.1.1
  subst this;exact .inl hm
 ·have e':((n,k'):Str×NameKind)=(x,k):=by rw[<-e];simp only[hb];rfl
  cases e';rcases hk with rfl|rfl
  ·exact .inr hm
  ·exact .inl hm
theorem dS:∀(names:List (Str×NameKind)) (n:Nat) (acc:List (Str×Addr)),cellsFrom n names acc=cellsFrom n names [] ++acc
 |[],_,_=>rfl
 |(x,k)::r,n,acc=>by
  unfold cellsFrom
  split
  ·rw[dS r (n+1) ((x,n)::acc),dS r (n+1) [(x,n)],X6];rfl
  ·exact dS r n acc
theorem i9{x:Str}{c:Addr}:∀{names:List (Str×NameKind)} {n:Nat},(x,c)∈cellsFrom n names []->(x,NameKind.cell)∈names
 |[],_,h=>nomatch h
 |(y,k)::r,n,h=>by
  unfold cellsFrom at h
  split at h
  ·rename_i hk
   rw[dS]at h;rcases mem_append.mp h with q|q
   ·exact W4 _ (i9 q)
   ·have:=mem_singleton.mp q;cases this;rw[beq_iff_eq.mp hk];exact W6
  ·exact W4 _ (i9 h)
theorem jB{x:Str}{c:Addr}{names:List (Str×NameKind)}{n:Nat}{acc:List (Str×Addr)}(h:(cellsFrom n names acc).lookup x=some c):(x,c)∈cellsFrom n names []\/((cellsFrom n names []).lookup x=none/\acc.lookup x=some c):=by
 rw[dS,List.lookup_append]at h;cases e:(cellsFrom n names []).lookup x with
 | none=>rw[e]at h;exact .inr ⟨rfl,by simpa using h⟩
 | some d=>
   rw[e]at h;have:d=c:=by simpa using h
   rw[<-this];exact .inl (PySem.mem_of_lookup e)
theorem iw{env:Env}:∀{names:List (Str×NameKind)} {x:Str},names.lookup x=some .free->
 (names.map fun(n,k)=>if(k==NameKind.free&&env.scope.kind== .function&&env.kindOf n==some .cell)then(n,NameKind.cell)else(n,k)).lookup x=some .cell\/
 (names.map fun(n,k)=>if(k==NameKind.free&&env.scope.kind== .function&&env.kindOf n==some .cell)then(n,NameKind.cell)else(n,k)).lookup x=some .free
 |[],_,h=>by simp at h
 |(n,k)::r,x,h=>by
  have ih:= @iw env r x;simp only[map_cons];cases hx:x==n with
  | true=>
    rw[lookup_cons,hx]at h;have hk:k= .free:=X1 h;subst hk;by_cases hc:((NameKind.free==NameKind.free)&&env.scope.kind== .function&&env.kindOf n==some .cell)=true
    ·rw[if_pos hc,lookup_cons,hx];exact .inl rfl
    ·rw[if_neg hc,lookup_cons,hx];exact .inr rfl
  | false=>
    rw[lookup_cons,hx]at h;have h:=ih h;by_cases hc:(k==NameKind.free&&env.scope.kind== .function&&env.kindOf n==some .cell)=true
    ·rw[if_pos hc,lookup_cons,hx];exact h
    ·rw[if_neg hc,lookup_cons,hx];exact h
section
variable{X:Cx}{pins:List (Addr×Obj)}{σ:St}{H:Hp}{s:Shared}
theorem Inv.kindL(I:Inv X pins σ H s){x:Str}(h:X.env.kindOf x=some .cell\/X.env.kindOf x=some .free):∃c,X.env.cells.lookup x=some c:=I.ok.has x h
theorem Inv.block{scope:Scope}{N':List Str}{cap:List (Nat×Nat)}{fp:List Addr}{h₁:Heap}{tk:Nat}(S:aG X scope N' cap)(I:Inv X pins σ H s)(hf:∀b∈fp,jL X pins H b)(hlt:∀b∈fp,b<s.heap.objs.size)
 (hn:h₁.Ns s.heap.objs.size (fun _=>none)) (old:∀b u,s.heap.get? b=some u->h₁.get? b=some u) (nc:CellsOk h₁ (s.heap.objs.size+1) (cellsFrom (s.heap.objs.size+1) scope.names [])):
 Inv (be X scope N' s H fp) [] (lS N'.length cap σ) H {s with heap:=h₁,toks:=tk}:=by
 have hfr:∀y∈scope.names,y.2= .free->∃c,X.env.cells.lookup y.1=some c:=fun y hy hk=>I.kindL (S.free y hy hk)
 have cl_old:∀x c,(jN X.env scope.names []).lookup x=some c->X.env.cells.lookup x=some c:=fun x c e=>nV scope.names [] hfr (fun _ _ q=>by simp at q) e
 have two:∀x c,(cellsFrom (s.heap.objs.size+1) scope.names (jN X.env scope.names [])).lookup x=some c->((x,c)∈cellsFrom (s.heap.objs.size+1) scope.names []/\h₁.IsCell c none/\s.heap.objs.size+1<=c)\/(X.env.cells.lookup x=some c/\c<s.heap.objs.size):=fun x c e=>by
  rcases jB e with q|⟨_,q⟩
  ·exact .inl ⟨q,nc.empty x c q⟩
  ·have q':=cl_old x c q;obtain⟨v,ob,ho,_⟩:=I.cell x c q';exact .inr ⟨q',V7 ho⟩
 refine⟨⟨I.ok.mod,S.kind,I.ok.glob,I.ok.blt,W1 _,fun x y c h1 h2=>?_,fun x hx=>?_,fun x c hq e=>?_,I.ok.hd,I.ok.frames,.inl rfl,fun b hb'=>⟨?_,fun x c e=>?_⟩,I.bs,
  le_trans I.ok.bsz I.sz,fun b u e hb'=>?_,fun b hb' hs=>?_,I.stack,I.stkFree⟩,rfl,I.bare,Un.kept old,⟨_,hn,fun j x v e1 e2 e3=>?_⟩,fun x c e=>?_,I.hok.fresh (W1 _),fun x c e=>?_,fun p hp=>?_,I.hok.kept old,?_⟩
 ·rcases two x c h1 with⟨q1,_,q2⟩|⟨q1,q2⟩<;> rcases two y c h2 with⟨r1,_,r2⟩|⟨r1,r2⟩
  ·exact name_of_addr nc.apart q1 r1
  ·exact absurd r2 (Nat.not_lt_of_le (le_trans (le_succ _) q2))
  ·exact absurd q2 (Nat.not_lt_of_le (le_trans (le_succ _) r2))
  ·exact I.ok.inj x y c q1 r1
 ·have hx':(relabel scope X.env).names.lookup x=some .cell\/(relabel scope X.env).names.lookup x=some .free:=hx;have:(x,NameKind.free)∈scope.names\/(x,NameKind.cell)∈scope.names:=by
   rcases hx' with q|q
   ·exact jA q (.inl rfl)
   ·exact jA q (.inr rfl)
  refine Option.isSome_iff_exists.mp (cellsFrom_some scope.names _ _ ?_);rcases this with q|q
  ·exact .inr (Option.isSome_iff_exists.mpr (kr scope.names [] q))
  ·exact .inl (S.cell _ q rfl)
 ·have hq:scope.names.lookup x=some .cell:=W8 hq;rcases jB e with q|⟨q,_⟩
  ·have:=(nc.empty x c q).2;show s.heap.objs.size<=c
   lia
  ·have:=cellsFrom_some scope.names (s.heap.objs.size+1) [] (.inl hq);rw[q]at this;cases this
 ·exact V4 (hlt b hb')
 ·rcases two x c e with⟨_,_,q⟩|⟨q,_⟩
  ·exact fun z=>absurd (hlt b hb') (Nat.not_lt_of_le (le_trans (le_succ _) (z▸q)))
  ·exact(hf b hb').2.2.2.2.1 x c q
 ·rcases(hf b hb').2.2.2.1 with z|z
  ·exact I.ok.noex b u e z
  ·exact absurd (X8 (V7 e) (le_trans I.ok.bsz z)) (Nat.lt_irrefl _)
 ·rcases mem_cons.mp (I.stkSub b hs)with z|z
  ·exact(hf b hb').2.1 z
  ·exact(hf b hb').2.2.1 z
 ·
  have hj:∃i,cap.lookup j=some i/\σ[i]? =some (some v):=by
   have e2':((List.range N'.length).map fun j=>(cap.lookup j).bind fun i=>(σ[i]?).join)[j]? =some (some v):=e2;rw[W5]at e2';cases hr:(List.range N'.length)[j]? with
   | none=>rw[hr]at e2';cases e2'
   | some j'=>
     rw[hr]at e2';have hj':j'=j:=by
      have:=List.getElem?_eq_some_iff.mp hr;obtain⟨h1,h2⟩:=this;simpa using h2.symm
     subst hj';have e3':((cap.lookup j').bind fun i=>(σ[i]?).join)=some v:=X1 e2';cases hc:cap.lookup j' with
     | none=>rw[hc]at e3';cases e3'
     | some i=>
       rw[hc]at e3';refine⟨i,rfl,?_⟩;have e4:(σ[i]?).join=some v:=e3';cases hs:σ[i]? with
       | none=>rw[hs]at e4;cases e4
       | some w=>rw[hs]at e4;have:w=some v:=e4;rw[this]
  obtain⟨i,hc,hi⟩:=hj;obtain⟨y,n1,n2,n3⟩:=S.capt (j,i) (jz hc);have hxy:y=x:=X1 (n1.symm.trans e1);subst hxy;have vis:X.env.kindOf y=some .cell\/X.env.kindOf y=some .free:=S.free _ (PySem.mem_of_lookup n3) rfl;obtain⟨m,hm,hl⟩:=I.loc;obtain⟨u,r,l⟩:=hl i y v n2 hi (by rcases vis with q|q;exact .inr (.inl q);exact .inr (.inr q));refine⟨u,r,.inr ⟨?_,?_⟩⟩
  ·exact iw n3
  ·rcases l with⟨k,_⟩|⟨_,c,hcell,hv⟩
   ·rcases vis with q|q
    ·rw[k]at q;cases q
    ·rw[k]at q;cases q
   ·obtain⟨c',hc'⟩:=kr (env:=X.env) scope.names [] (PySem.mem_of_lookup n3);have:=cl_old y c' hc';rw[hcell]at this;have e5:c=c':=X1 this;subst e5;obtain⟨ob,ho,hd⟩:=hv;refine⟨c,?_,ob,old c ob ho,hd⟩;show(cellsFrom _ _ _).lookup y=some c;rw[dS,List.lookup_append];cases e6:(cellsFrom (s.heap.objs.size+1) scope.names []).lookup y with
    | none=>simpa using hc'
    | some d=>
      have:=S.cell _ (i9 (PySem.mem_of_lookup e6)) rfl;rw[n3]at this;cases this
 ·rcases two x c e with⟨_,q,_⟩|⟨q,_⟩
  ·exact⟨none,q⟩
  ·obtain⟨v,ob,ho,hd⟩:=I.cell x c q;exact⟨v,ob,old c ob ho,hd⟩
 ·rcases two x c e with⟨_,_,q⟩|⟨q,_⟩
  ·exact I.hok.fresh (by lia)
  ·exact I.freeC x c q
 ·exact absurd (show p∈([]:List (Addr×Obj))from hp) (by simp)
 ·show(lS N'.length cap σ).length=N'.length;unfold lS;rw[Y6,length_range]
end
noncomputable def PTs(X:Cx)(ifs:List Expr)(t:TT):Prop:=
 ∀(pins:List (Addr×Obj)) (s:Shared) (σ:St) (H:Hp) (Q:Bool->Hp->Prop),Inv X pins σ H s->t σ H Q->
  wpAny (model X.prog X.w) X.A (forIn ifs true fun c r=>if r=true then do let ok<-isTrue c X.env (eval c X.env);pure (ForInStep.yield ok)else pure (ForInStep.yield r)) (TP X pins σ Q) X.xe s
noncomputable def wF:TT:=fun _ H Q=>Q true H
theorem wG{X:Cx}:PTs X [] wF:=fun _ _ _ H _ I h=>wpAny_tests_nil ⟨H,I,h⟩
theorem wH{X:Cx}{c:Expr}{t:TT}(h:PT X c t):PTs X [c] t:=fun pins s σ H Q I q=>wpAny_tests_one (h pins s σ H Q I q)
noncomputable def lT(wi:TI)(n:Nat)(cap:List (Nat×Nat))(g:TG)(tc:TT)(te:TE):TE:=fun σ H Q=>wi σ H fun J H1=>∀D,H1 D=none->∃W:Nat->Nat->List V->St->Hp->Prop,
 (∃m,W 0 m [] (lS n cap σ) (upd H1 D (.lst [])))/\∀i m ys σ' H',W i m ys σ' H'->(J.stop i H'/\Q (.ref D) H')\/
  (J.go i H'/\∀x H2,J.yld i H' x H2->g x σ' H2 fun σ2 H3=>tc σ2 H3 fun b H4=>if b=true then te σ2 H4 fun y H5=>∃zs m',H5 D=some (.lst zs)/\zs.length<sizeLine/\m'<m/\W (i+1) m' (ys++[y]) σ2 (upd H5 D (.lst (zs++[y])))
   else∃m',m'<m/\W (i+1) m' ys σ2 H4)
theorem wI{M:Model}{A:Around}{E:Value->Shared->Prop}{s:Shared}{scope:Scope}{globals:Addr}{closure:List (Str×Addr)}{qual:Str}{func:Option Addr}{code:Value}{env:Env}{builtins:Addr}{Q:Env->Shared->Prop}
 (hQ:∀h',h'.Ns s.heap.objs.size (fun _=>none)->(∀b u,s.heap.get? b=some u->h'.get? b=some u)->CellsOk h' (s.heap.objs.size+1) (cellsFrom (s.heap.objs.size+1) scope.names [])->
  Q (newEnv scope s.heap.objs.size globals (cellsFrom (s.heap.objs.size+1) scope.names closure) qual func code (some env) builtins) {s with heap:=h'}):wpAny M A (newFunctionEnv scope globals closure [] qual func code (some env) builtins) Q E s:=by
 simp only[newFunctionEnv,Option.isSome_some,if_true];refine Y2 (wpAny_alloc ?_);refine Y2 (wpAny_layCells _ (fun name kind cells=>by cases hkc:kind==NameKind.cell<;> simp[hkc]) _ _ _ _ ?_);have ok:=cellsFrom_ok scope.names (s.heap.push {cls:= .type "dict",data:= .dict #[]}) (s.heap.objs.size+1) [] ⟨fun _ _ hm=>(nomatch hm),List.Pairwise.nil⟩ (by rw[V0];exact W1 _);rw[V0]at ok;rw[show({s with heap:=s.heap.push {cls:= .type "dict",data:= .dict #[]}}:Shared).heap.objs.size=s.heap.objs.size+1 from V0 ..];rw[forIn_nil];exact Y2 (Y3 (Y3 (hQ _ ((Heap.Ns.new s.heap (.type "dict")).keeps (pushCells_keeps _ _)) (fun b u e=>pushCells_keeps _ _ b u (Y7 _ e)) ok)))
theorem lU{X:Cx}{tg iter elt:Expr}{ifs:List Expr}{scope:Scope}{pos ipos:Pos}{N':List Str}{cap:List (Nat×Nat)}{wi:TI}{g:TG}{tc:TT}{te:TE}{use:Option (Value->Sem Unit)}{pins:List (Addr×Obj)}{s:Shared}{σ:St}{H:Hp}{Q:VK}{QQ:Value->Shared->Prop}(S:aG X scope N' cap)(hc:X.calm=true)(hi:PI X tg iter wi)
 (hg:∀s₃ H₃ fp,PG (be X scope N' s₃ H₃ fp) tg g) (ht:∀s₃ H₃ fp,PTs (be X scope N' s₃ H₃ fp) ifs tc) (he:∀s₃ H₃ fp,PE (be X scope N' s₃ H₃ fp) elt te)
 (hs:∀x,foldedSetIterable iter X.env x=pure x) (I:Inv X pins σ H s) (h:lT wi N'.length cap g tc te σ H Q)
 (hfin:∀(D C:Addr) (H5:Hp) (s6:Shared) (fl:Flow) (m:Str->Option Value),s6.heap.Ns C m->jL X pins H5 C->(∀h',SameBut C s6.heap h'->Inv X pins σ H5 {s6 with heap:=h'})->Q (.ref D) H5->compPost (model X.prog X.w) X.A X.xe use QQ (.ref D) C (.ok fl) s6):
 wpAny (model X.prog X.w) X.A (comprehension (.ListComp elt [⟨tg,iter,ifs,0⟩] scope pos) scope X.env ipos (newList []) false (eval iter X.env) use) QQ X.xe s:=by
 have hfr:∀y∈scope.names,y.2= .free->∃c,X.env.cells.lookup y.1=some c:=fun y hy hk=>I.kindL (S.free y hy hk)
 refine wpAny_comprehension_free (use:=use) rfl hs (wE hfr) S.kind S.loc (thn (hi pins s σ H _ I h) fun v s1 h1=>thn h1 fun itv s2 h2=>?_);obtain⟨it,fp,tn,J,H2,e,I2,T,st2,f2,R⟩:=h2;subst e;refine wpAny_newObj_type (wI fun h₁ hns₁ hold₁ hnc₁=>?_);dsimp only at hns₁ hold₁ hnc₁ ⊢;have I3:Inv X pins σ (upd H2 s2.heap.objs.size (.lst [])) {s2 with heap:=s2.heap.push {cls:= .type "list",data:= .seq ([]:List Value).toArray}}:=I2.lnew (its:=[]) (t':=s2.toks) .nil (zero_le _);have hD:H2 s2.heap.objs.size=none:=I2.fresh;have hlt2:∀b∈fp,b<s2.heap.objs.size:=fun b hb=>by obtain⟨o,ho,_⟩:=T.obj 0 _ st2 b hb;exact V7 ho
 generalize hs3:({s2 with heap:=s2.heap.push {cls:= .type "list",data:= .seq ([]:List Value).toArray}}:Shared)=s3 at I3
 have hs3h:s3.heap=s2.heap.push {cls:= .type "list",data:= .seq ([]:List Value).toArray}:=by rw[<-hs3]
 have sz3:s3.heap.objs.size=s2.heap.objs.size+1:=by rw[hs3h,V0]
 have f3:∀b∈fp,jL X pins (upd H2 s2.heap.objs.size (.lst [])) b:=fun b hb=>⟨by rw[ak (V4 (hlt2 b hb))];exact(f2 b hb).1,(f2 b hb).2⟩
 have hlt3:∀b∈fp,b<s3.heap.objs.size:=fun b hb=>by rw[sz3];exact lt_succ_of_lt (hlt2 b hb)
 obtain⟨W,⟨m0,w0⟩,turn⟩:=R _ hD;have hns3:h₁.Ns s3.heap.objs.size (fun _=>none):=by rw[hs3h];exact hns₁
 have hold3:∀b u,s3.heap.get? b=some u->h₁.get? b=some u:=by rw[hs3h];exact hold₁
 have hnc3:CellsOk h₁ (s3.heap.objs.size+1) (cellsFrom (s3.heap.objs.size+1) scope.names []):=by rw[hs3h];exact hnc₁
 have I4:Inv (be X scope N' s3 (upd H2 s2.heap.objs.size (.lst [])) fp) [] (lS N'.length cap σ) (upd H2 s2.heap.objs.size (.lst [])) {s3 with heap:=h₁,toks:=s3.toks}:=I3.block S f3 hlt3 hns3 hold3 hnc3;have st4:tn 0 h₁:=T.keep _ _ _ st2 fun b hb o e=>hold3 b o (by rw[hs3h];exact Y7 _ e)
 have hX':(be X scope N' s3 (upd H2 s2.heap.objs.size (.lst [])) fp).env=compEnvC scope (cellsFrom (s3.heap.objs.size+1) scope.names (jN X.env scope.names [])) s3.heap.objs.size X.env:=rfl;have stat:∀{H':Hp},(∀b∈fp,H' b=none)->∀b∈fp,jL (be X scope N' s3 (upd H2 s2.heap.objs.size (.lst [])) fp) [] H' b:=fun hn b hb=>
  ⟨hn b hb,(I4.ok.exf b hb).1,I4.ok.exfs b hb,.inl hb,(I4.ok.exf b hb).2,fun p hp=>absurd (show p∈([]:List (Addr×Obj))from hp) (by simp)⟩
 have loop:codeAny (model X.prog X.w) X.A (.compLoop (.ListComp elt [⟨tg,iter,ifs,0⟩] scope pos) 0 (.ref it) (.ref s2.heap.objs.size) (be X scope N' s3 (upd H2 s2.heap.objs.size (.lst [])) fp).env)
  (compPost (model X.prog X.w) X.A X.xe use QQ (.ref s2.heap.objs.size) s3.heap.objs.size) {s3 with heap:=h₁,toks:=s3.toks}:=by
  refine codeAny_loop rfl (fun n s'=>∃i ys σ' H',Inv (be X scope N' s3 (upd H2 s2.heap.objs.size (.lst [])) fp) [] σ' H' s'/\tn i s'.heap/\(∀b∈fp,H' b=none)/\W i n ys σ' H') ?_ m0 ⟨0,[],_,_,I4,st4,fun b hb=>(f3 b hb).1,w0⟩;rintro n s5 ⟨i,ys,σ5,H5,I5,st5,fr5,w5⟩;show wpAny _ X.A ((compTurn (.ListComp elt [⟨tg,iter,ifs,0⟩] scope pos) 0 (.ref it) (.ref s2.heap.objs.size) (be X scope N' s3 (upd H2 s2.heap.objs.size (.lst [])) fp).env).onRaise (fun x=>do noteFrame x (be X scope N' s3 (upd H2 s2.heap.objs.size (.lst [])) fp).env;theTreesLotGoes x)) _ _ s5;refine wpAny_noted ?_;rw[compTurn_list];refine Y2 (wpAny_standAt (Y2 ?_));rcases turn i n ys σ5 H5 w5 with⟨stop,q⟩|⟨go,step⟩
  ·refine thn (T.done (be X scope N' s3 (upd H2 s2.heap.objs.size (.lst [])) fp) rfl rfl rfl hc i [] s5 σ5 H5 _ I5 (stat fr5) st5 stop) fun r s6 ⟨hr,I6⟩=>?_
   subst hr;refine Y3 ?_;obtain⟨m6,hn6,_⟩:=I6.loc;refine hfin s2.heap.objs.size s3.heap.objs.size H5 s6 _ m6 hn6 (I2.fpOk (by rw[sz3];exact le_succ _) I6.free) (fun h' sb=>?_) q;have u6:Un (frs X.stack) fp (upd H2 s2.heap.objs.size (.lst [])) H5 s3.heap s6.heap:=I6.base;have ne6:∀b u,s3.heap.get? b=some u->b≠s3.heap.objs.size:=fun b u e=>V4 (V7 e)
   have u7:Un (frs X.stack) fp (upd H2 s2.heap.objs.size (.lst [])) H5 s3.heap h':=⟨fun b u e n hb hx=>(sb.2 b (ne6 b u e)).trans (u6.keep b u e n hb hx),fun b u e n hb hx=>by
    obtain⟨sl,q⟩:=u6.slot b u e n hb hx;exact⟨sl,(sb.2 b (ne6 b u e)).trans q⟩,u6.free,fun b u e hx=>by
    obtain⟨o',q⟩:=u6.there b u e hx;exact⟨o',(sb.2 b (ne6 b u e)).trans q⟩,u6.tups,u6.frzs,u6.tbls⟩
   have u8:Un (frs X.stack) fp H2 (upd H2 s2.heap.objs.size (.lst [])) s2.heap s3.heap:=Un.laid (fun b u e=>by rw[hs3h];exact Y7 _ e) (W1 _) hD;have ok7:HOk X.prog X.w H5 h':=fun b u e=>by
    have hne:∀c w,H5 c=some w->c≠s3.heap.objs.size:=fun c w q z=>by
     have:H5 s3.heap.objs.size=none:=I6.free;rw[z,this]at q;cases q
    refine(I6.hok b u e).stay (fun c w hc' q=>(sb.2 c ?_).trans q) (fun _ q=>q) fun _ _ q=>q
    rcases hc' with z|z
    ·rw[z];exact hne b u e
    ·exact hne c _ z
   exact I2.call' (s':={s6 with heap:=h'}) (ch:=fp) (by show s6.os=s2.os;rw[I6.os,<-hs3];rfl) (u8.trans u7) ok7 I6.bare fun b hb=>⟨(f2 b hb).2.2.2.1,(f2 b hb).2.1,(f2 b hb).2.2.2.2.1,(f2 b hb).2.2.2.2.2⟩
  ·refine thn (T.item (be X scope N' s3 (upd H2 s2.heap.objs.size (.lst [])) fp) rfl rfl rfl hc i [] s5 σ5 H5 _ I5 (stat fr5) st5 go) fun r s6 ⟨u,hr,h6⟩=>?_
   subst hr;refine Y2 (thn h6 fun _ s7 ⟨x,H7,I7,r7,y7,st7,fr7⟩=>?_);have I7':=I7.pinned (stat fr7) (T.obj _ _ st7);have lift:∀{α:Type} {t:Sem α} {Q1:α->Shared->Prop} {E2:Value->Shared->Prop} {s':Shared},wpAny (model X.prog X.w) X.A t Q1 (fun _ _=>False) s'->wpAny (model X.prog X.w) X.A t Q1 E2 s':=fun h=>wpAny_mono h (fun _ _ q=>q) fun _ _ f=>f.elim
   have back:∀{σ8:St} {H8:Hp} {s8:Shared},Inv (be X scope N' s3 (upd H2 s2.heap.objs.size (.lst [])) fp) ([] ++i5 fp s7.heap) σ8 H8 s8->
    Inv (be X scope N' s3 (upd H2 s2.heap.objs.size (.lst [])) fp) [] σ8 H8 s8/\tn (i+1) s8.heap/\∀b∈fp,H8 b=none:=fun{σ8 H8 s8} I8=>by
    refine⟨I8.unpinned,T.keep _ _ _ st7 fun b hb o e=>(I8.pin (b,o) (mem_append_right _ (mem_append_right _ (d5 hb e)))).1,fun b hb=>?_⟩;obtain⟨o,e,d⟩:=T.obj _ _ st7 b hb;exact(I8.pin (b,o) (mem_append_right _ (mem_append_right _ (d5 hb e)))).2.1
   refine Y2 (lift (thn (hg s3 _ fp _ s7 σ5 H7 x u _ I7' r7 (step x H7 y7)) fun _ s8 ⟨σ8,H8,I8,q8⟩=>?_));refine Y2 (lift (thn (ht s3 _ fp _ s8 σ8 H8 _ I8 q8) fun b s9 ⟨H9,I9,q9⟩=>?_));cases b with
   | false=>
     obtain⟨m',hm,w9⟩:=(by simpa using q9:∃m',m'<n/\W (i+1) m' ys σ8 H9)
     obtain⟨J1,J2,J3⟩:=back I9;exact Y3 ⟨rfl,m',hm,i+1,ys,σ8,H9,J1,J2,J3,w9⟩
   | true=>
     have q9:=(by simpa using q9:te σ8 H9 fun y H5=>∃zs m',H5 s2.heap.objs.size=some (.lst zs)/\zs.length<sizeLine/\m'<n/\W (i+1) m' (ys++[y]) σ8 (upd H5 s2.heap.objs.size (.lst (zs++[y]))))
     refine Y2 (Y2 (lift (thn (he s3 _ fp _ s9 σ8 H9 _ I9 q9) fun u2 s10 ⟨y,H10,I10,r10,zs,m',hz,hl,hm,w10⟩=>?_)));refine Y2 (lift (thn (lP _ s10 σ8 H10 (.ref s2.heap.objs.size) [y] (.ref s2.heap.objs.size) [u2] (fun v H'=>v= .non/\H'=upd H10 s2.heap.objs.size (.lst (zs++[y]))) I10 rfl (.cons r10 .nil) ⟨_,rfl,_,hz,hl,rfl,rfl⟩) fun u3 s11 ⟨v3,H11,I11,r11,e11,e12⟩=>?_));subst e12;obtain⟨J1,J2,J3⟩:=back I11;exact Y3 (Y3 ⟨rfl,m',hm,i+1,ys++[y],σ8,_,J1,J2,J3,w10⟩)
 have hloop:codeAny (model X.prog X.w) X.A (.compStart (.ListComp elt [⟨tg,iter,ifs,0⟩] scope pos) 0 (.ref it) (.ref s2.heap.objs.size) (be X scope N' s3 (upd H2 s2.heap.objs.size (.lst [])) fp).env)
  (compPost (model X.prog X.w) X.A X.xe use QQ (.ref s2.heap.objs.size) s3.heap.objs.size) {s3 with heap:=h₁,toks:=s3.toks}:=
  codeAny_compStart_list loop (T.self _ 0 _ _ _ st4 loop)
 subst hs3;exact hloop
theorem wJ{X:Cx}{tg iter elt:Expr}{ifs:List Expr}{scope:Scope}{pos:Pos}{N':List Str}{cap:List (Nat×Nat)}{wi:TI}{g:TG}{tc:TT}{te:TE}(S:aG X scope N' cap)(hc:X.calm=true)(hi:PI X tg iter wi)
 (hg:∀s₃ H₃ fp,PG (be X scope N' s₃ H₃ fp) tg g) (ht:∀s₃ H₃ fp,PTs (be X scope N' s₃ H₃ fp) ifs tc) (he:∀s₃ H₃ fp,PE (be X scope N' s₃ H₃ fp) elt te)
 (hs:∀x,foldedSetIterable iter X.env x=pure x):
 PE X (.ListComp elt [⟨tg,iter,ifs,0⟩] scope pos) (lT wi N'.length cap g tc te):=by
 intro pins s σ H Q I h;rw[eval_ListComp];exact lU S hc hi hg ht he hs I h fun D C H5 s6 fl m hn _ k q=>⟨m,hn,fun h' sb=>⟨.ref D,H5,k h' sb,rfl,q⟩⟩
noncomputable def Its(z:Str):It:=⟨fun i _=>i<z.cps.size,fun i H x H'=>H'=H/\∃c,z.cps[i]? =some c/\x= .str ⟨#[c]⟩,fun i _=>z.cps.size<=i⟩
theorem p9{P:Program}{w:World}{K:PySem.W.Frag}{tg:Expr}(it:Addr)(z:Str)(t:Tok):mL P w K tg (Its z) [it] it (fun i h=>h.IsStrIter it "str_ascii_iterator" z t i) where
 mem:=by simp
 obj:=fun i h st b hb=>by
  have e:b=it:=by simpa using hb
  subst e;obtain⟨o,e,c,d⟩:=st;exact⟨o,e,fun v z=>by rw[d]at z;cases z⟩
 keep:=fun i h h' st k=>by
  obtain⟨o,e,r⟩:=st;exact⟨o,k it (by simp) o e,r⟩
 item:=by
  intro X hP hw hK hc i pins s σ H E I hf st hg;subst hP hw hK;have hlt:i<z.cps.size:=hg;obtain⟨f0,f1,f2,f3,f4,f5⟩:=hf it (by simp);refine wpAny_pyNext_ascii_item st (c:=z.cps[i]) (by simp[hlt]) fun h' st' sb=>?_
  have I1:Inv X pins σ H {s with heap:=h',toks:=s.toks+1}:=I.turned (t':=s.toks+1) (fun b o hb e=>(sb.2 b hb).trans e) f0 f1 f3 f4 f5;obtain⟨o,e,c,d⟩:=id st';exact⟨_,rfl,nQ (s:={s with heap:=h',toks:=s.toks+1}) e c d (by decide) ⟨.str ⟨#[z.cps[i]]⟩,H,I1,⟨_,rfl⟩,⟨rfl,_,by simp[hlt],rfl⟩,st',fun b hb=>(hf b hb).1⟩⟩
 done:=by
  intro X hP hw hK hc i pins s σ H E I hf st hg;subst hP hw hK;have hle:z.cps.size<=i:=hg;obtain⟨f0,f1,f2,f3,f4,f5⟩:=hf it (by simp);exact wpAny_pyNext_ascii_end (I.ok.hd hc) st (by simp[hle]) fun h' eb=>⟨rfl,I.turned (t':=s.toks) (fun b o hb e=>eb b o hb e) f0 f1 f3 f4 f5⟩
 self:=fun _ _ _ _ _ st h=>wpAny_pyIter_striter_ascii st h
theorem si{P:Program}{w:World}{K:PySem.W.Frag}{tg:Expr}(it:Addr)(z:Str)(t:Tok):mL P w K tg (Its z) [it] it (fun i h=>h.IsStrIter it "str_iterator" z t i) where
 mem:=by simp
 obj:=fun i h st b hb=>by
  have e:b=it:=by simpa using hb
  subst e;obtain⟨o,e,c,d⟩:=st;exact⟨o,e,fun v z=>by rw[d]at z;cases z⟩
 keep:=fun i h h' st k=>by
  obtain⟨o,e,r⟩:=st;exact⟨o,k it (by simp) o e,r⟩
 item:=by
  intro X hP hw hK hc i pins s σ H E I hf st hg;subst hP hw hK;have hlt:i<z.cps.size:=hg;obtain⟨f0,f1,f2,f3,f4,f5⟩:=hf it (by simp);refine wpAny_pyNext_wide_item st (c:=z.cps[i]) (by simp[hlt]) fun h' st' sb=>?_
  have I1:Inv X pins σ H {s with heap:=h',toks:=s.toks+1}:=I.turned (t':=s.toks+1) (fun b o hb e=>(sb.2 b hb).trans e) f0 f1 f3 f4 f5;obtain⟨o,e,c,d⟩:=id st';exact⟨_,rfl,nQ (s:={s with heap:=h',toks:=s.toks+1}) e c d (by decide) ⟨.str ⟨#[z.cps[i]]⟩,H,I1,⟨_,rfl⟩,⟨rfl,_,by simp[hlt],rfl⟩,st',fun b hb=>(hf b hb).1⟩⟩
 done:=by
  intro X hP hw hK hc i pins s σ H E I hf st hg;subst hP hw hK;have hle:z.cps.size<=i:=hg;obtain⟨f0,f1,f2,f3,f4,f5⟩:=hf it (by simp);exact wpAny_pyNext_wide_end (I.ok.hd hc) st (by simp[hle]) fun h' eb=>⟨rfl,I.turned (t':=s.toks) (fun b o hb e=>eb b o hb e) f0 f1 f3 f4 f5⟩
 self:=fun _ _ _ _ _ st h=>wpAny_pyIter_striter_wide st h
noncomputable def CK(D:Addr)(n i:Nat)(Pv:Nat->List V->St->Hp->Prop)(ys:List V)(σ:St)(y:V)(H:Hp):Prop:=
 ∃zs m',H D=some (.lst zs)/\zs.length<sizeLine/\m'<n-i/\(m'=n-(i+1)/\i+1<=n/\Pv (i+1) (ys++[y]) σ (upd H D (.lst (zs++[y]))))
noncomputable def CN(n i:Nat)(Pv:Nat->List V->St->Hp->Prop)(ys:List V)(σ:St)(H:Hp):Prop:=∃m',m'<n-i/\(m'=n-(i+1)/\i+1<=n/\Pv (i+1) ys σ H)
theorem CK.mk{D:Addr}{n i:Nat}{Pv:Nat->List V->St->Hp->Prop}{ys zs:List V}{σ:St}{y:V}{H:Hp}(hi:i<n)(hz:H D=some (.lst zs))(hl:zs.length<sizeLine)(p:Pv (i+1) (ys++[y]) σ (upd H D (.lst (zs++[y])))):CK D n i Pv ys σ y H:=
 ⟨zs,n-(i+1),hz,hl,by lia,rfl,hi,p⟩
theorem CN.mk{n i:Nat}{Pv:Nat->List V->St->Hp->Prop}{ys:List V}{σ:St}{H:Hp}(hi:i<n)(p:Pv (i+1) ys σ H):CN n i Pv ys σ H:=⟨n-(i+1),by lia,rfl,hi,p⟩
theorem cu{J:It}{n:Nat}{g:TG}{tc:TT}{te:TE}{D:Addr}{σ:St}{H:Hp}{QD:Hp->Prop}(Pv:Nat->List V->St->Hp->Prop)(h0:Pv 0 [] σ H)(hgo:∀i ys σ H,i<n->Pv i ys σ H->J.go i H)(hstop:∀ys σ H,Pv n ys σ H->J.stop n H)
 (hs:∀i ys σ H,i<n->Pv i ys σ H->∀x H2,J.yld i H x H2->g x σ H2 fun σ2 H3=>tc σ2 H3 fun b H4=>if b=true then te σ2 H4 fun y H5=>CK D n i Pv ys σ2 y H5 else CN n i Pv ys σ2 H4) (hd:∀ys σ H,Pv n ys σ H->QD H):
 ∃W:Nat->Nat->List V->St->Hp->Prop,(∃m,W 0 m [] σ H)/\∀i m ys σ' H',W i m ys σ' H'->(J.stop i H'/\QD H')\/
  (J.go i H'/\∀x H2,J.yld i H' x H2->g x σ' H2 fun σ2 H3=>tc σ2 H3 fun b H4=>if b=true then te σ2 H4 fun y H5=>∃zs m',H5 D=some (.lst zs)/\zs.length<sizeLine/\m'<m/\W (i+1) m' (ys++[y]) σ2 (upd H5 D (.lst (zs++[y])))
   else∃m',m'<m/\W (i+1) m' ys σ2 H4):=by
 refine⟨fun i m ys σ H=>m=n-i/\i<=n/\Pv i ys σ H,⟨n,by simp,zero_le _,h0⟩,?_⟩;rintro i m ys σ H ⟨rfl,hi,p⟩;by_cases hlt:i<n
 ·exact .inr ⟨hgo i ys σ H hlt p,fun x H2 y=>hs i ys σ H hlt p x H2 y⟩
 ·have e:i=n:=by lia
  subst e;exact .inl ⟨hstop ys σ H p,hd ys σ H p⟩
theorem rc:∀{bs:List Bool} {us:List Value} {i:Nat} {v:Value},aH (bs.map V.bl) us->us[i]? =some v->∃b,bs[i]? =some b/\v= .bool b
 |[],_,_,_,r,e=>by rw[map_nil]at r;cases r;simp at e
 | b::bs,_,i,v,r,e=>by
   rw[map_cons]at r;cases r with
   | cons r1 r2=>
     cases(show _=Value.bool b from r1);cases i with
     | zero=>simp at e;exact⟨b,rfl,e.symm⟩
     | succ i=>
       obtain⟨b',h1,h2⟩:=rc (bs:=bs) (i:=i) r2 (by simpa using e);exact⟨b',by simpa using h1,h2⟩
theorem ku(bs:List Bool):(List.range bs.length).all (fun i=>bs.getD i false)=bs.all id:=by
 have e:(List.range bs.length).map (fun i=>bs.getD i false)=bs:=by
  apply ext_getElem
  ·simp
  ·intro i h1 h2;simp[X3,h2]
 have:(List.range bs.length).all (fun i=>bs.getD i false)=((List.range bs.length).map fun i=>bs.getD i false).all id:=by rw[all_map];rfl
 rw[this,e]
theorem uK{X:Cx}(hc:X.calm=true):cG X (.builtin "all") (fun xs H Q=>∃(p:Addr) (bs:List Bool),xs=[.ref p]/\SqL X.K H p (bs.map V.bl)/\Q (.bl (bs.all id)) H):=by
 intro pins s σ H xs us Q I r h;obtain⟨p,bs,rfl,hq,q⟩:=h;obtain⟨u,rfl,ru⟩:=d6 r;cases ru;obtain⟨its,rv,pl,hz⟩:=I.list hq;have hh:X.A.in1.handled=none:=I.ok.hd hc;have hp:p<s.heap.objs.size:=by obtain⟨o,ho,_⟩:=pl.isList;exact V7 ho
 have hlen:bs.length=its.toArray.size:=by rw[W9,<-rv.length,Y6]
 refine call_all_walk (wpAny_pyIter_list pl.isList ?_);refine⟨s.heap.objs.size,[s.heap.objs.size,p],[s.heap.objs.size],its.toArray.size,_,_,fun i=>bs.getD i false,rfl,Walks.list (A:=X.A.in1) hh _ p (V4 hp) its.toArray,⟨⟨_,W3 _ rfl,rfl,rfl⟩,pl.isList.push _⟩,?_,?_⟩
 ·intro i v s' Q' E' hv hQ;obtain⟨b,hb,rfl⟩:=rc (i:=i) rv (by simpa using hv);have e:bs.getD i false=b:=by rw[X3,hb];rfl
  have hQ:Q' (bs.getD i false) s':=hQ;rw[e]at hQ;exact wpAny_truthy_bool hQ
 ·intro h' tk hk;rw[<-hlen,ku];refine⟨.bl (bs.all id),H,I.kept (t':=tk) fun b o e=>hk b o ?_ (Y7 _ e),rfl,q⟩;have:=V7 e;intro hb;exact absurd (mem_singleton.mp hb) (V4 this)
noncomputable def yQ:V->Option Int->Option Int->Hp->VK->Prop:=fun x lo hi H Q=>∃z,x= .str z/\z.length<=sizeLine/\Q (.str (Txt.slice z lo hi)) H
theorem yR{X:Cx}:SlR X yQ:=by
 intro pins s σ H x v vl vu lo hi sl Q I rx hs pl pu h;obtain⟨z,rfl,hz,q⟩:=h;obtain⟨t,rfl⟩:=rx;refine⟨"str",_,F.slot_str_getitem.lookup,typeIs_str _ _ _,?_⟩;have fin:∀l u,(Txt.slice z l u).length<=sizeLine:=fun l u=>le_trans (Txt.slice_le z _ _) hz
 cases pl with
 | none=>
   cases pu with
   | none=>exact wpAny_getItem_str_slice (l:=none) (u:=none) (st:=none) hs rfl (post_val_or_str ⟨fin _ _,fun t' k=>⟨.str (Txt.slice z _ _),H,I.tok k,⟨_,rfl⟩,q⟩⟩)
   | int j uj=>exact wpAny_getItem_str_slice (l:=none) (u:=some (j,uj)) (st:=none) hs rfl (post_val_or_str ⟨fin _ _,fun t' k=>⟨.str (Txt.slice z _ _),H,I.tok k,⟨_,rfl⟩,q⟩⟩)
 | int i ui=>
   cases pu with
   | none=>exact wpAny_getItem_str_slice (l:=some (i,ui)) (u:=none) (st:=none) hs rfl (post_val_or_str ⟨fin _ _,fun t' k=>⟨.str (Txt.slice z _ _),H,I.tok k,⟨_,rfl⟩,q⟩⟩)
   | int j uj=>exact wpAny_getItem_str_slice (l:=some (i,ui)) (u:=some (j,uj)) (st:=none) hs rfl (post_val_or_str ⟨fin _ _,fun t' k=>⟨.str (Txt.slice z _ _),H,I.tok k,⟨_,rfl⟩,q⟩⟩)
theorem fk:∀{ss:List Str} {us:List Value},aH (ss.map V.str) us->StrsAre us ss
 |[],_,r=>by rw[map_nil]at r;cases r;exact .nil
 | x::ss,_,r=>by
   rw[map_cons]at r;cases r with
   | cons r1 r2=>
     obtain⟨t,e⟩:=r1;subst e;exact .cons x t (fk r2)
theorem lV:∀{ss:List Str} {us:List Value},StrsAre us ss->aH (ss.map V.str) us
 | _,_,.nil=> .nil
 | _,_,.cons x t h=> .cons ⟨t,rfl⟩ (lV h)
noncomputable def re(K:PySem.W.Frag):V->List V->Hp->VK->Prop:=fun x vs H Q=>∃(z:Str) (l:Addr) (ss:List Str),x= .str z/\vs=[.ref l]/\SqL K H l (ss.map V.str)/\(ss.map (·.length)).sum+ss.length*z.length<=16777216/\Q (.str (Txt.join z ss)) H
theorem wK{X:Cx}:MtM X "str.join" (re X.K):=by
 intro pins s σ H x vs v us Q I rx rv h;obtain⟨z,l,ss,rfl,rfl,hq,hw,q⟩:=h;obtain⟨t,rfl⟩:=rx;obtain⟨u,rfl,ru⟩:=rv.one;cases ru;obtain⟨its,r,pl,hz⟩:=I.list hq;exact PyProof.Rows.join_list pl.isList (fk r) hw fun t' k=>⟨.str (Txt.join z ss),H,I.tok k,⟨_,rfl⟩,q⟩
theorem uL{X:Cx}:cG X (.builtin "isinstance") (fun xs H Q=>∃x n t b,xs=[x,.ty n]/\gZ X.K H x t/\kitOne X.K t (.type n)=some b/\Q (.bl b) H):=by
 intro pins s σ H xs us Q I r h;obtain⟨x,n,t,b,rfl,ty,e,q⟩:=h;obtain⟨u,u2,rfl,ru,ru2⟩:=nR r;cases(show u2=Value.type n from ru2);exact rX I ru ty e fun tk=>⟨.bl b,H,I.tok tk,rfl,q⟩
theorem lW(z:Str)(c i:Nat):Builtin.Str.subAt z ⟨#[c]⟩ i=decide (z.cps[i]? =some c):=by
 unfold Builtin.Str.subAt;have hl:(⟨#[c]⟩:Str).length=1:=rfl;rw[hl];by_cases hi:i<z.cps.size
 ·have e:z.cps.extract i (i+1)= #[z.cps[i]]:=by
   apply Array.ext
   ·simp;lia
   ·intro j h1 h2;simp at h2;subst h2;simp
  show(z.cps.extract i (i+1)== #[c])=_;rw[e,Array.getElem?_eq_getElem hi];by_cases hc:z.cps[i]=c
  ·subst hc;simp
  ·have h1:(#[z.cps[i]]== #[c])=false:=by simpa using hc
   rw[h1];exact(X9 fun q=>hc (X1 q)).symm
 ·have e:z.cps.extract i (i+1)= #[]:=by
   apply Array.ext
   ·simp;lia
   ·intro j h1 h2;simp at h2
  show(z.cps.extract i (i+1)== #[c])=_;rw[e,Array.getElem?_eq_none (by lia)];simp
theorem uM(z:Str)(c:Nat):(!(Builtin.Str.occurrences z ⟨#[c]⟩ 0 z.length 1).isEmpty)=decide (c∈z.cps.toList):=by
 rcases StrLaws.occ_head z ⟨#[c]⟩ 1 (W1 _)with⟨e,hn⟩|⟨i,r,e,ha,_⟩
 ·rw[e];refine(X9 fun hm=>?_).symm;obtain⟨j,hj,e2⟩:=List.mem_iff_getElem.mp hm;have hj':j<z.cps.size:=by simpa using hj
  refine hn j ⟨?_,?_⟩
  ·show j+1<=z.cps.size;lia
  ·rw[lW];exact X7 (by rw[Array.getElem?_eq_getElem hj'];simpa using e2)
 ·rw[e];refine(X7 ?_).symm;have h2:=ha.2;rw[lW]at h2;have h3:=W8 h2;have:=Array.mem_of_getElem? h3;simpa using this
section
variable{X:Cx}
noncomputable abbrev xD:R2:=fun x y H Q=>∃i j,x= .str i/\y= .str j/\i.length+j.length<=sizeLine/\Q (.str (i++j)) H
noncomputable abbrev uN:R2:=fun x y H Q=>rI0 (fun i j=> .int (i+j)) x y H Q\/(xD x y H Q\/yI x y H Q)
theorem wL:OpR X (binaryOp .Add) uN:=tZ.or (pO.or yJ)
noncomputable abbrev uO:R2:=fun x y H Q=>rI tY (fun i j=> .int (i*j)) x y H Q\/yK x y H Q
theorem wM:OpR X (binaryOp .Mult) uO:=t8.or yL
noncomputable abbrev yS:R2:=rEq
theorem yT:OpR X (compareOp .Eq) yS:=zS
noncomputable abbrev yU:R2:=rNe
theorem yV:OpR X (compareOp .NotEq) yU:=xy
noncomputable abbrev z5:R2:=fun x y H Q=>∃i j,x= .str i/\y= .str j/\Q (.bl (!(Builtin.Str.occurrences j i 0 j.length 1).isEmpty)) H
noncomputable abbrev wN(K:PySem.W.Frag):R2:=fun x y H Q=>z5 x y H Q\/rIn K false x y H Q
theorem yW:OpR X (compareOp .In) (wN X.K):=rQ.or r0
noncomputable abbrev wO(K:PySem.W.Frag):V->Option Int->Option Int->Hp->VK->Prop:=fun x lo hi H Q=>wz K x lo hi H Q\/(yB K x lo hi H Q\/yQ x lo hi H Q)
theorem yX:SlR X (wO X.K):=ra.or (yC.or yR)
noncomputable def wP(K:PySem.W.Frag)(tl:TE):TI:=fun σ H R=>tl σ H fun x H1=>(∃a,x= .ref a/\(∃xs,SqL K H1 a xs)/\R (Itl K a) H1)\/(∃a,x= .ref a/\(∃xs,SqT K H1 a xs)/\R (Itt K a) H1)\/∃z,x= .str z/\R (Its z) H1
theorem yY{tg l:Expr}{tl:TE}(hl:PE X l tl):PI X tg l (wP X.K tl):=by
 intro pins s σ H R I h;refine thn (hl pins s σ H _ I h) fun v s1 ⟨x,H1,I1,r1,q1⟩=>?_
 have fpok:∀b∈[s1.heap.objs.size],jL X pins H1 b:=fun b hb=>by
  have e:b=s1.heap.objs.size:=by simpa using hb
  subst e;exact I1.fpOk (W1 _) (I1.hok.fresh (W1 _))
 rcases q1 with⟨a,e,⟨xs,hq⟩,q⟩|⟨a,e,⟨xs,hq⟩,q⟩|⟨z,e,q⟩
 ·subst e;cases r1;obtain⟨its,rv,p,hz⟩:=I1.list hq;refine wpAny_pyIter_list p.isList ?_;exact⟨s1.heap.objs.size,[s1.heap.objs.size],_,_,H1,rfl,I1.kept (t':=s1.toks) fun b o e=>Y7 _ e,rN a _,⟨_,W3 _ rfl,rfl,rfl⟩,fpok,q⟩
 ·subst e;cases r1;obtain⟨its,rv,p,hz⟩:=I1.tuple hq;refine wpAny_pyIter_tuple (show s1.heap.IsTuple a its.toArray from p) ?_;exact⟨s1.heap.objs.size,[s1.heap.objs.size],_,_,H1,rfl,I1.kept (t':=s1.toks) fun b o e=>Y7 _ e,pJ a _,⟨_,W3 _ rfl,rfl,rfl⟩,fpok,q⟩
 ·subst e;obtain⟨t,rfl⟩:=r1;cases ha:z.cps.all (·<128)with
  | true=>
    refine wpAny_pyIter_ascii ha ?_;exact⟨s1.heap.objs.size,[s1.heap.objs.size],_,_,H1,rfl,I1.kept (t':=s1.toks) fun b o e=>Y7 _ e,p9 _ z t,⟨_,W3 _ rfl,rfl,rfl⟩,fpok,q⟩
  | false=>
    refine wpAny_pyIter_wide ha ?_;exact⟨s1.heap.objs.size,[s1.heap.objs.size],_,_,H1,rfl,I1.kept (t':=s1.toks) fun b o e=>Y7 _ e,si _ z t,⟨_,W3 _ rfl,rfl,rfl⟩,fpok,q⟩
end
noncomputable def cP(sc:Scope)(N:List Str)(scope:Scope)(N':List Str)(cap:List (Nat×Nat)):Bool:=
 decide (scope.kind= .function)&&scope.names.all (fun y=>(decide (y.2≠ .cell)||decide (scope.names.lookup y.1=some .cell))&&(decide (y.2≠ .local)||decide (scope.names.lookup y.1=some .local))&&(decide (y.2≠ .free)||decide (sc.names.lookup y.1=some .cell)||decide (sc.names.lookup y.1=some .free)))&&
  cap.all fun p=>match N'[p.1]? with
   | some x=>decide (N[p.2]? =some x)&&decide (scope.names.lookup x=some .free)
   | none=>false
theorem aG.of{X:Cx}{scope:Scope}{N':List Str}{cap:List (Nat×Nat)}(h:cP X.env.scope X.N scope N' cap=true):aG X scope N' cap:=by
 unfold cP at h;rw[and_eq_true,and_eq_true,all_eq_true,all_eq_true]at h;obtain⟨⟨h1,h2⟩,h3⟩:=h;refine⟨W8 h1,fun y hy hl=>?_,fun y hy hl=>?_,fun y hy hf=>?_,fun p hp=>?_⟩
 ·have:=h2 y hy;simp only[and_eq_true,or_eq_true,decide_eq_true_eq]at this;exact this.1.1.resolve_left fun q=>q hl
 ·have:=h2 y hy;simp only[and_eq_true,or_eq_true,decide_eq_true_eq]at this;exact this.1.2.resolve_left fun q=>q hl
 ·have:=h2 y hy;simp only[and_eq_true,or_eq_true,decide_eq_true_eq]at this;rcases this.2 with(q|q)|q
  ·exact absurd hf q
  ·exact .inl q
  ·exact .inr q
 ·have:=h3 p hp;cases e:N'[p.1]? with
  | none=>rw[e]at this;cases this
  | some x=>
    rw[e]at this;simp only[and_eq_true,decide_eq_true_eq]at this;exact⟨x,rfl,this.1,this.2⟩
structure Gv (mg:Str->Option Value) (x:Str) (v:V):Prop where
 ex:∃u,mg x=some u/\aE v u
theorem xE{X:Cx}{x:Str}{v:V}{pos:Pos}(g:Gv X.mg x v)(hg:Gl X x)(hd:(x==("__debug__":Str))=false):PE X (.Name x pos) (tC v):=by
 obtain⟨u,h,r⟩:=g.ex;exact vP hg h r hd
structure Cal (P:Program) (w:World) (K:PySem.W.Frag) (mg:Str->Option Value) (base:Heap) (k:Nat) (x:Str) (ps:List Str) (sp:Sp):Prop where
 ex:∃f fd,hJ P w K mg base CX0 k f fd ps sp/\mg x=some (.ref f)/\keepIn K (.ref f)=true/\eI K fd ps []
structure bu (K:PySem.W.Frag) (mg:Str->Option Value) (x:Str) (st:Stmt) (ps:List Str):Prop where
 ex:∃f fd,Fun K x x st f fd/\mg x=some (.ref f)/\eI K fd ps []
theorem bu.cal{P:Program}{w:World}{K:PySem.W.Frag}{mg:Str->Option Value}{base:Heap}{x:Str}{st:Stmt}{N ps:List Str}{k:Nat}{sp:Sp}(D:bu K mg x st ps)(S:au N ps (af st))(len:∀vs H Q E,sp vs H Q E->vs.length=ps.length)
 (hbody:∀(f:Addr) (cdv:Value) (A:Around) (outer:List Env) (s:Shared) (H:Hp) (vs:List V) (Q:VK) (E:XK),cr k (A.deeper (envOfC x (af st) s.heap.objs.size f cdv))->sp vs H Q E->
  ∃t,PSs (mN CX0 P w K mg base N x (af st) f cdv A outer s H E).nox (ar st) t/\t {nx:=fun _ H'=>Q .non H',rt:=Q} (fR N vs) H):Cal P w K mg base (k+1) x ps sp:=by
 obtain⟨f,fd,F,hm,hb⟩:=D.ex;exact⟨f,fd,F.ok S len (hbody f),hm,F.kp,hb⟩
theorem yZ{X:Cx}{j k:Nat}{x:Str}{ps:List Str}{sp:Sp}{p pos:Pos}{e:Expr}{es:List Expr}{t:TA}(C:Cal X.prog X.w X.K X.mg X.base j x ps sp)(hr:cr k X.A)(hg:Gl X x)(hx:hV CX0 X E0)(ha:PA X (e::es) t)(hjk:j<=k)
 (hdb:(x==("__debug__":Str))=false) (he:starEach (e::es) X.env=(false,eval e X.env)::starEach es X.env) (hpl:(backTo pos (starEach es X.env)).any (·.1)=false):
 PE X (.Call (.Name x p) (e::es) [] pos) (qY sp [] E0 t):=by
 obtain⟨f,fd,F,hm,hk,hb⟩:=C.ex;exact wn F (hr.mono hjk) hg hm hk hb .nil hx ha hdb he hpl
theorem bd{K:PySem.W.Frag}{h:Heap}{mg:Str->Option Value}{x:Str}{st:Stmt}{ps:List Str}{f:Addr}{oc:Value}{od an:Option Addr}{osl:Array (Option Value)}{kV doc pm cdv ct:Value}(X:K.In h)(G:h.Ns mainGlobals mg)
 (a:nsIn K mainGlobals x=some (some (.ref f))) (l:K.lookup f=some ⟨oc,od,.func (fnOf x x (av st) (ar st) (af st) .none kV doc pm an cdv ct),osl⟩) (c:codeIn K cdv x=true) (k:keepIn K (.ref f)=true)
 (b:∀(kV doc pm:Value) (an:Option Addr) (cdv ct:Value) (us:List Value),us.length=ps.length->bindArgs (fnOf x x (av st) (ar st) (af st) .none kV doc pm an cdv ct) ⟨us,[]⟩=pure (ps.zip us)):bu K mg x st ps:=
 ⟨f,_,h9 l c k,mg_of X G a,(h9 l c k).binds b⟩
theorem iz{K:PySem.W.Frag}{h:Heap}{mg:Str->Option Value}{x:Str}{v:V}{u:Value}(X:K.In h)(G:h.Ns mainGlobals mg)(a:nsIn K mainGlobals x=some (some u))(r:aE v u):Gv mg x v:=⟨u,mg_of X G a,r⟩
theorem ja{t u:TS}{D:gO}{σ:St}{H:Hp}(h:∀nx:St->Hp->Prop,(∀σ' H',u D σ' H'->nx σ' H')->t {D with nx:=nx} σ H):cf t u D σ H:=h _ fun _ _ x=>x
theorem aD{wi:TI}{g:TG}{tb:TS}{D:gO}{σ:St}{H:Hp}(h:∀Kont:It->Hp->Prop,(∀J H1,(∃W:Nat->Nat->St->Hp->Prop,(∃m,W 0 m σ H1)/\∀i m σ H,W i m σ H->
 (J.stop i H/\D.nx σ H)\/(J.go i H/\∃N:St->Hp->Prop,(∀σ' H',N σ' H'->∃m',m'<m/\W (i+1) m' σ' H')/\∀x H',J.yld i H x H'->g x σ H' fun σ2 H2=>tb {D with nx:=N,ct:=N,bk:=D.nx} σ2 H2))->Kont J H1)->wi σ H Kont):pL wi g tb D σ H:=h _ fun _ _ x=>x
theorem bh{wi:TI}{n:Nat}{cap:List (Nat×Nat)}{g:TG}{tc:TT}{te:TE}{σ:St}{H:Hp}{Q:VK}(h:∀Kont:It->Hp->Prop,(∀J H1,(∀D,H1 D=none->∃W:Nat->Nat->List V->St->Hp->Prop,
 (∃m,W 0 m [] (lS n cap σ) (upd H1 D (.lst [])))/\∀i m ys σ' H',W i m ys σ' H'->(J.stop i H'/\Q (.ref D) H')\/
  (J.go i H'/\∀x H2,J.yld i H' x H2->g x σ' H2 fun σ2 H3=>tc σ2 H3 fun b H4=>if b=true then te σ2 H4 fun y H5=>∃zs m',H5 D=some (.lst zs)/\zs.length<sizeLine/\m'<m/\W (i+1) m' (ys++[y]) σ2 (upd H5 D (.lst (zs++[y])))
   else∃m',m'<m/\W (i+1) m' ys σ2 H4))->Kont J H1)->wi σ H Kont):lT wi n cap g tc te σ H Q:=h _ fun _ _ x=>x
section
variable{X:Cx}{K:PySem.W.Frag}
theorem za(h:X.K=K):OpR X (compareOp .In) (wN K):=by subst h;exact yW
theorem slK(h:X.K=K):SlR X (wO K):=by subst h;exact yX
theorem sj(h:X.K=K):cG X (.builtin "len") (fun xs H Q=>∃x n,xs=[x]/\wc K x H n/\Q (.int n) H):=by subst h;exact ug
theorem sk(h:X.K=K)(hc:X.calm=true):cG X (.builtin "all") (fun xs H Q=>∃(p:Addr) (bs:List Bool),xs=[.ref p]/\SqL K H p (bs.map V.bl)/\Q (.bl (bs.all id)) H):=by subst h;exact uK hc
theorem sq(h:X.K=K):cG X (.builtin "isinstance") (fun xs H Q=>∃x n t b,xs=[x,.ty n]/\gZ K H x t/\kitOne K t (.type n)=some b/\Q (.bl b) H):=by subst h;exact uL
theorem qb(h:X.K=K):cG X (.type "list") (fun xs H Q=>∃p ys,xs=[.ref p]/\(SqL K H p ys\/SqT K H p ys)/\∀l,H l=none->Q (.ref l) (upd H l (.lst ys))):=by subst h;exact mS
theorem uP(h:X.K=K):MtR X "str.join" (re K):=by subst h;exact wK
theorem sr{a:Expr}{ta:TE}(h:X.K=K)(ha:PE X a ta)(he:∀whole,isTrue a X.env whole=(do let v<-whole;standAt a.pos;holding [v] (truthy v))):PT X a (fun σ H Q=>ta σ H fun x H'=>∃k,ud K x H' k/\Q k H'):=by subst h;exact ue ha he
theorem wQ{tg l:Expr}{tl:TE}(h:X.K=K)(hl:PE X l tl):PI X tg l (wP K tl):=by subst h;exact yY hl
variable{o e:Expr}{es:List Expr}{to:TE}{t:TA}{name:Str}{apos cpos:Pos}{T id:String}{r:V->List V->Hp->VK->Prop}
theorem zb(h:X.K=K)(pa:PlainAttrs T)(slot:Slot T name id)(hty:typeOf (.builtin id)=pure (.type "method_descriptor"))(hm:MtR X id r)(ho:PE X o to)(ha:PA X (e::es) t)
 (hbase:attributeBase o name X.env (eval o X.env)=eval o X.env)
 (hfew:((backTo cpos (starEach (e::es) X.env)).all (fun x=>!x.1)&&(backToKw cpos (keywordEach [] X.env)).all (fun x=>x.1.isSome)
  && decide ((e::es).length+([]:List Keyword).length+(if([]:List Keyword).isEmpty then 0 else 1)<30))=true)
 (hline:(apos.endLine==cpos.line)=true) (hs:starEach (e::es) X.env=(false,eval e X.env)::starEach es X.env) (hplain:(backTo cpos (starEach es X.env)).any (·.1)=false):
 PE X (.Call (.Attribute o name apos) (e::es) [] cpos) (tBM K T r to t):=by
 subst h;exact zY pa slot hty hm ho ha hbase hfew hline hs hplain
end
structure qc (z TI TO i1 i2:Addr):Prop where
 TIz:TI≠z
 TOz:TO≠z
 i1z:i1≠z
 i2z:i2≠z
 TITO:TI≠TO
 TIi1:TI≠i1
 TIi2:TI≠i2
 TOi1:TO≠i1
 TOi2:TO≠i2
 i12:i1≠i2
section
variable{prog:Program}{w:World}{A:Around}{E:Value->Shared->Prop}{s:Shared}{z TI TO i1 i2:Addr}{fp1 fp2:List Addr}{n1 n2 i:Nat}{P1 P2:Nat->Value->Prop}{St1 St2:Nat->Heap->Prop}
theorem uQ{a b:Value}{Q:Value->Shared->Prop}(D1:Draws prog w A i1 fp1 n1 P1 St1)(D2:Draws prog w A i2 fp2 n2 P2 St2)(D:qc z TI TO i1 i2)(m1:∀b∈fp1,b≠z/\b≠TO/\b≠i2)(m2:∀b∈fp2,b≠z/\b≠TO/\b≠i1)
 (hz:IsZip s.heap z TI TO .none) (hTI:IsPair s.heap TI (.ref i1) (.ref i2)) (hTO:IsPair s.heap TO a b) (h1:St1 i s.heap) (h2:St2 i s.heap) (l1:i<n1) (l2:i<n2)
 (hQ:∀x y h' tk,P1 i x->P2 i y->IsZip h' z TI TO (rawInt s.heap.objs.size)->IsPair h' TO x y->St1 (i+1) h'->St2 (i+1) h'->IsPair h' s.heap.objs.size x y->
  (∀c o,c≠z->c≠TO->c≠i1->c≠i2->s.heap.get? c=some o->h'.get? c=some o)->Q (.ref s.heap.objs.size) {s with heap:=h',toks:=tk}):
 wpAny (model prog w) A (Builtin.«zip.__next__» ⟨[.ref z],[]⟩) (fun fin s'=>∃v,fin= .done (.ret v)/\Q v s') E s:=by
 have fr1:∀{k h h' c},(∀b∈fp1,b≠c)->SameBut c h h'->St1 k h->St1 k h':=fun hc sb st=>D1.frame _ _ _ st fun b hb o e=>(sb.2 b (hc b hb)).trans e
 have fr2:∀{k h h' c},(∀b∈fp2,b≠c)->SameBut c h h'->St2 k h->St2 k h':=fun hc sb st=>D2.frame _ _ _ st fun b hb o e=>(sb.2 b (hc b hb)).trans e
 show wpAny _ _ (field (.ref z) 2>>= _) _ _ _;refine Y2 (wpAny_field hz rfl (x:= .bool false) rfl ?_);show wpAny _ _ (field (.ref z) 3>>= _) _ _ _;refine Y2 (wpAny_field hz rfl (x:= .ref TI) rfl (Y2 (wpAny_seqItems hTI rfl ?_)));show wpAny _ _ (Builtin.SmallTypes.ownedTupleIsFree (.ref z)>>= _) _ _ _;refine Y2 ?_;unfold Builtin.SmallTypes.ownedTupleIsFree;refine Y2 (wpAny_field hz rfl (x:= .none) rfl (Y3 ?_));simp only[if_true];refine Y2 (wpAny_rule (Y2 (wpAny_field hz rfl (x:= .ref TO) rfl (Y2 (wpAny_setField_rec hz (by simp) fun g1 hz1 sb1=>?_)))));replace hz1:IsZip g1 z TI TO .ellipsis:=hz1;refine Y2 ?_;simp only[List.zipIdx_cons,List.zipIdx_nil,forIn_cons,forIn_nil];refine Y2 (Y2 (wpAny_onRaise ?_));show wpAny _ _ (Builtin.SmallTypes.nextOf (.ref i1)>>= _) _ _ _;refine Y2 (D1.item i _ _ _ l1 (fr1 (fun b hb=>(m1 b hb).1) sb1 h1) fun x g2 tk2 px st2 sb2=>Y3 ?_);replace sb2:SameBut i1 g1 g2:=sb2;have hTO2:IsPair g2 TO a b:=(sb2.2 _ D.TOi1).trans ((sb1.2 _ D.TOz).trans hTO);refine Y2 (wpAny_seqItems hTO2 rfl (Y2 (wpAny_updateSeq_pair (s:={s with heap:=g2,toks:=tk2}) hTO2 fun g3 hTO3 sb3=>?_)));replace hTO3:IsPair g3 TO x b:=hTO3;replace sb3:SameBut TO g2 g3:=sb3;refine Y2 (wpAny_letGo (Y3 (Y2 (Y2 (wpAny_onRaise ?_)))));show wpAny _ _ (Builtin.SmallTypes.nextOf (.ref i2)>>= _) _ _ _;have h2':St2 i g3:=fr2 (fun b hb=>(m2 b hb).2.1) sb3 (fr2 (fun b hb=>(m2 b hb).2.2) sb2 (fr2 (fun b hb=>(m2 b hb).1) sb1 h2));refine Y2 (D2.item i _ _ _ l2 h2' fun y g4 tk4 py st4 sb4=>Y3 ?_);replace sb4:SameBut i2 g3 g4:=sb4;have hTO4:IsPair g4 TO x b:=(sb4.2 _ D.TOi2).trans hTO3;refine Y2 (wpAny_seqItems hTO4 rfl (Y2 (wpAny_updateSeq_pair (s:={s with heap:=g4,toks:=tk4}) hTO4 fun g5 hTO5 sb5=>?_)));replace hTO5:IsPair g5 TO x y:=hTO5;replace sb5:SameBut TO g4 g5:=sb5;refine Y2 (wpAny_letGo (Y3 (Y3 (Y2 (wpAny_seqItems hTO5 rfl (Y2 (wpAny_newTuple ?_)))))));have hsz:g5.objs.size=s.heap.objs.size:=by rw[sb5.1,sb4.1,sb3.1,sb2.1,sb1.1]
 have hz5:IsZip g5 z TI TO .ellipsis:=(sb5.2 _ D.TOz.symm).trans ((sb4.2 _ D.i2z.symm).trans ((sb3.2 _ D.TOz.symm).trans ((sb2.2 _ D.i1z.symm).trans hz1)));have hk5:∀c o,c≠z->c≠TO->c≠i1->c≠i2->s.heap.get? c=some o->g5.get? c=some o:=fun c o c1 c2 c3 c4 e=>
  (sb5.2 c c2).trans ((sb4.2 c c4).trans ((sb3.2 c c2).trans ((sb2.2 c c3).trans ((sb1.2 c c1).trans e))))
 have h15:St1 (i+1) g5:=fr1 (fun b hb=>(m1 b hb).2.1) sb5 (fr1 (fun b hb=>(m1 b hb).2.2) sb4 (fr1 (fun b hb=>(m1 b hb).2.1) sb3 st2));have h25:St2 (i+1) g5:=fr2 (fun b hb=>(m2 b hb).2.1) sb5 st4;have hzlt:z<g5.objs.size:=V7 hz5;have hTOlt:TO<g5.objs.size:=V7 hTO5;show wpAny _ _ (Builtin.SmallTypes.ownedTupleHandOut (.ref z) (.ref g5.objs.size)>>= _) _ _ _;refine Y2 ?_;unfold Builtin.SmallTypes.ownedTupleHandOut;have hz6:IsZip (g5.push {cls:= .type "tuple",data:= .seq #[x,y]}) z TI TO .ellipsis:=Y7 _ hz5;refine Y2 (wpAny_setField_rec (s:={s with heap:=g5.push {cls:= .type "tuple",data:= .seq #[x,y]},toks:=tk4}) hz6 (by simp) fun g7 hz7 sb7=>?_);replace hz7:IsZip g7 z TI TO (rawInt g5.objs.size):=hz7;replace sb7:SameBut z (g5.push {cls:= .type "tuple",data:= .seq #[x,y]}) g7:=sb7;refine wpAny_setField_rec (s:={s with heap:=g7,toks:=tk4}) hz7 (by simp) fun g8 hz8 sb8=>?_
 replace hz8:IsZip g8 z TI TO (rawInt g5.objs.size):=hz8;replace sb8:SameBut z g7 g8:=sb8;have up:∀c o,c≠z->g5.get? c=some o->g8.get? c=some o:=fun c o c1 e=>(sb8.2 c c1).trans ((sb7.2 c c1).trans (Y7 _ e))
 have hT8:IsPair g8 g5.objs.size x y:=(sb8.2 _ (ne_of_gt hzlt)).trans ((sb7.2 _ (ne_of_gt hzlt)).trans (W3 _ rfl));have h18:St1 (i+1) g8:=D1.frame _ _ _ h15 fun b hb o e=>up b o (m1 b hb).1 e
 have h28:St2 (i+1) g8:=D2.frame _ _ _ h25 fun b hb o e=>up b o (m2 b hb).1 e
 rw[hsz]at hz8 hT8;refine Y3 ⟨_,rfl,?_⟩;show Q (.ref g5.objs.size) _;rw[hsz];exact hQ x y g8 tk4 px py hz8 (up _ _ D.TOz hTO5) h18 h28 hT8 fun c o c1 c2 c3 c4 e=>up c o c1 (hk5 c o c1 c2 c3 c4 e)
theorem uR{a b:Value}{Q:Fin->Shared->Prop}(D1:Draws prog w A i1 fp1 n1 P1 St1)(D2:Draws prog w A i2 fp2 n2 P2 St2)(D:qc z TI TO i1 i2)(m1:∀b∈fp1,b≠z/\b≠TO/\b≠i2)(m2:∀b∈fp2,b≠z/\b≠TO/\b≠i1)
 (hz:IsZip s.heap z TI TO .none) (hTI:IsPair s.heap TI (.ref i1) (.ref i2)) (hTO:IsPair s.heap TO a b) (h1:St1 i s.heap) (h2:St2 i s.heap) (l1:i<=n1) (l2:i<=n2) (hend:i=n1\/i=n2)
 (hE:∀h' e tk,(∀c o,c≠z->c≠TO->c≠i1->c≠i2->s.heap.get? c=some o->h'.get? c=some o)->(∃o,h'.get? e=some o/\o.cls= .type "StopIteration")->E (.ref e) {s with heap:=h',toks:=tk}):
 wpAny (model prog w) A (Builtin.«zip.__next__» ⟨[.ref z],[]⟩) Q E s:=by
 have fr1:∀{k h h' c},(∀b∈fp1,b≠c)->SameBut c h h'->St1 k h->St1 k h':=fun hc sb st=>D1.frame _ _ _ st fun b hb o e=>(sb.2 b (hc b hb)).trans e
 have fr2:∀{k h h' c},(∀b∈fp2,b≠c)->SameBut c h h'->St2 k h->St2 k h':=fun hc sb st=>D2.frame _ _ _ st fun b hb o e=>(sb.2 b (hc b hb)).trans e
 show wpAny _ _ (field (.ref z) 2>>= _) _ _ _;refine Y2 (wpAny_field hz rfl (x:= .bool false) rfl ?_);show wpAny _ _ (field (.ref z) 3>>= _) _ _ _;refine Y2 (wpAny_field hz rfl (x:= .ref TI) rfl (Y2 (wpAny_seqItems hTI rfl ?_)));show wpAny _ _ (Builtin.SmallTypes.ownedTupleIsFree (.ref z)>>= _) _ _ _;refine Y2 ?_;unfold Builtin.SmallTypes.ownedTupleIsFree;refine Y2 (wpAny_field hz rfl (x:= .none) rfl (Y3 ?_));simp only[if_true];refine Y2 (wpAny_rule (Y2 (wpAny_field hz rfl (x:= .ref TO) rfl (Y2 (wpAny_setField_rec hz (by simp) fun g1 hz1 sb1=>?_)))));replace hz1:IsZip g1 z TI TO .ellipsis:=hz1;refine Y2 ?_;simp only[List.zipIdx_cons,List.zipIdx_nil,forIn_cons,forIn_nil];refine Y2 (Y2 (wpAny_onRaise ?_));show wpAny _ _ (Builtin.SmallTypes.nextOf (.ref i1)>>= _) _ _ _;have h1':St1 i g1:=fr1 (fun b hb=>(m1 b hb).1) sb1 h1;by_cases c1:i<n1
 ·have e2:i=n2:=by lia
  refine Y2 (D1.item i _ _ _ c1 h1' fun x g2 tk2 px st2 sb2=>Y3 ?_);replace sb2:SameBut i1 g1 g2:=sb2;have hTO2:IsPair g2 TO a b:=(sb2.2 _ D.TOi1).trans ((sb1.2 _ D.TOz).trans hTO);refine Y2 (wpAny_seqItems hTO2 rfl (Y2 (wpAny_updateSeq_pair (s:={s with heap:=g2,toks:=tk2}) hTO2 fun g3 hTO3 sb3=>?_)));replace sb3:SameBut TO g2 g3:=sb3;refine Y2 (wpAny_letGo (Y3 (Y2 (Y2 (wpAny_onRaise ?_)))));show wpAny _ _ (Builtin.SmallTypes.nextOf (.ref i2)>>= _) _ _ _;have h2':St2 n2 g3:=e2▸fr2 (fun b hb=>(m2 b hb).2.1) sb3 (fr2 (fun b hb=>(m2 b hb).2.2) sb2 (fr2 (fun b hb=>(m2 b hb).1) sb1 h2));refine Y2 (D2.done _ _ _ h2' fun g4 e sb4 he=>?_);replace sb4:ExtBut i2 g3 g4:=sb4;obtain⟨oe,hoe,hce⟩:=he;have hz4:IsZip g4 z TI TO .ellipsis:=sb4 _ _ D.i2z.symm ((sb3.2 _ D.TOz.symm).trans ((sb2.2 _ D.i1z.symm).trans hz1));have hez:e≠z:=fun x=>by subst x;rw[hz4]at hoe;cases hoe;simp at hce
  refine wpAny_setField_rec (s:={s with heap:=g4,toks:=tk2}) hz4 (by simp) fun g5 _ sb5=>?_
  replace sb5:SameBut z g4 g5:=sb5;exact hE g5 e tk2 (fun c o d1 d2 d3 d4 x=>(sb5.2 c d1).trans (sb4 c o d4 ((sb3.2 c d2).trans ((sb2.2 c d3).trans ((sb1.2 c d1).trans x))))) ⟨oe,(sb5.2 e hez).trans hoe,hce⟩
 ·have e1:i=n1:=by lia
  refine Y2 (D1.done _ _ _ (e1▸h1') fun g2 e sb2 he=>?_);replace sb2:ExtBut i1 g1 g2:=sb2;obtain⟨oe,hoe,hce⟩:=he;have hz2:IsZip g2 z TI TO .ellipsis:=sb2 _ _ D.i1z.symm hz1;have hez:e≠z:=fun x=>by subst x;rw[hz2]at hoe;cases hoe;simp at hce
  refine wpAny_setField_rec (s:={s with heap:=g2}) hz2 (by simp) fun g3 _ sb3=>?_
  replace sb3:SameBut z g2 g3:=sb3;exact hE g3 e s.toks (fun c o d1 _ d3 _ x=>(sb3.2 c d1).trans (sb2 c o d3 ((sb1.2 c d1).trans x))) ⟨oe,(sb3.2 e hez).trans hoe,hce⟩
end
noncomputable def Itz(x y:Str):It:=⟨fun i _=>i<x.cps.size/\i<y.cps.size,fun i H v H'=>∃c d T,x.cps[i]? =some c/\y.cps[i]? =some d/\H T=none/\v= .ref T/\H'=upd H T (.tup [.str ⟨#[c]⟩,.str ⟨#[d]⟩]),
 fun i _=>i<=x.cps.size/\i<=y.cps.size/\(i=x.cps.size\/i=y.cps.size)⟩
noncomputable def ZSt(z TI TO i1 i2:Addr)(S1 S2:Nat->Heap->Prop)(i:Nat)(h:Heap):Prop:=IsZip h z TI TO .none/\IsPair h TI (.ref i1) (.ref i2)/\(∃a b,IsPair h TO a b)/\S1 i h/\S2 i h
theorem gD(prog:Program)(w:World)(x:Str)(t:Tok)(it:Addr):∀A:Around,A.handled=none->
 Draws prog w A it [it] x.cps.size (fun i v=>∃c u,x.cps[i]? =some c/\v= .str ⟨#[c]⟩ u) (fun i h=>h.IsStrIter it (strIterType x) x t i):=by
 intro A hh;unfold strIterType;cases ha:x.cps.all (·<128)with
 | true=>exact Draws.strAscii hh it x t
 | false=>exact Draws.strWide hh it x t
theorem uS{P:Program}{w:World}{K:PySem.W.Frag}{elts:List Expr}{kt:Nat}{tp:Pos}(z TI TO i1 i2:Addr)(x y:Str)(t u:Tok)(D:qc z TI TO i1 i2):
 mL P w K (.Tuple elts kt tp) (Itz x y) [z,TI,TO,i1,i2] z (ZSt z TI TO i1 i2 (fun i h=>h.IsStrIter i1 (strIterType x) x t i) (fun i h=>h.IsStrIter i2 (strIterType y) y u i)) where
 mem:=by simp
 obj:=fun i h st b hb=>by
  obtain⟨hz,hTI,⟨a,c,hTO⟩,⟨o1,e1,_,d1⟩,o2,e2,_,d2⟩:=st;simp only[mem_cons,not_mem_nil,or_false]at hb;rcases hb with rfl|rfl|rfl|rfl|rfl
  ·exact⟨_,hz,fun v q=>nomatch q⟩
  ·exact⟨_,hTI,fun v q=>nomatch q⟩
  ·exact⟨_,hTO,fun v q=>nomatch q⟩
  ·exact⟨o1,e1,fun v q=>by rw[d1]at q;cases q⟩
  ·exact⟨o2,e2,fun v q=>by rw[d2]at q;cases q⟩
 keep:=fun i h h' st k=>by
  obtain⟨hz,hTI,⟨a,c,hTO⟩,⟨o1,e1,r1⟩,o2,e2,r2⟩:=st;exact⟨k z (by simp) _ hz,k TI (by simp) _ hTI,⟨a,c,k TO (by simp) _ hTO⟩,⟨o1,k i1 (by simp) _ e1,r1⟩,o2,k i2 (by simp) _ e2,r2⟩
 item:=by
  intro X hP hw hK hc i pins s σ H E I hf st hg;subst hP hw hK;obtain⟨hz,hTI,⟨a,c,hTO⟩,h1,h2⟩:=st;obtain⟨g1,g2⟩:i<x.cps.size/\i<y.cps.size:=hg;have hT:s.TypeIs (.ref z) "zip":=⟨_,hz,rfl⟩
  have hh:X.A.in1.handled=none:=I.ok.hd hc;unfold pyNext;refine Y2 (wpAny_attempt (wpAny_callSpecial?_slot (name:=Str.ofString "__next__") hT F.slot_zip_next (wpAny_call_entry F.slot_zip_next hT F.entry_zip_next
   (uQ (gD _ _ x t i1 _ hh) (gD _ _ y u i2 _ hh) D (fun b hb=>by rw[show b=i1 by simpa using hb];exact⟨D.i1z,Ne.symm D.TOi1,D.i12⟩) (fun b hb=>by rw[show b=i2 by simpa using hb];exact⟨D.i2z,Ne.symm D.TOi2,Ne.symm D.i12⟩) hz hTI hTO h1 h2 g1 g2 fun v1 v2 h' tk p1 p2 a1 a2 a3 a4 a5 hk=>Y3 ?_) (F.args_zip_next_1 _))))
  obtain⟨c1,u1,e1,rfl⟩:=p1;obtain⟨c2,u2,e2,rfl⟩:=p2;refine⟨_,rfl,wpAny_letOwnedTupleGo_zip (s:={s with heap:=h',toks:=tk}) a1 fun h'' hz'' sb=>?_⟩;replace sb:SameBut z h' h'':=sb;have zlt:z<s.heap.objs.size:=V7 hz;have Tne:s.heap.objs.size≠z:=ne_of_gt zlt;have hT2:h''.get? s.heap.objs.size=some {cls:= .type "tuple",data:= .seq #[.str ⟨#[c1]⟩ u1,.str ⟨#[c2]⟩ u2]}:=(sb.2 _ Tne).trans a5;have turn1:Inv X pins σ H {s with heap:=h'',toks:=tk}:=by
   have nit:∀b v,H b=some v->b∉[z,TI,TO,i1,i2]:=fun b v e hb=>by rw[(hf b hb).1]at e;cases e
   have kk:∀b o,b∉[z,TI,TO,i1,i2]->s.heap.get? b=some o->h''.get? b=some o:=fun b o hb e=>by
    simp only[mem_cons,not_mem_nil,or_false,not_or]at hb;exact(sb.2 b hb.1).trans (hk b o hb.1 hb.2.2.1 hb.2.2.2.1 hb.2.2.2.2 e)
   refine I.step (g':=s.gens) (d':=s.drawn) (ch:=[z,TI,TO,i1,i2]) (fun b hb=>⟨(hf b hb).2.2.2.1,(hf b hb).2.1,(hf b hb).2.2.2.2.1,(hf b hb).2.2.2.2.2⟩) (fun b o _ _ hc e _=>kk b o hc e) (fun b o _ _ hc e _=>⟨o.slots,kk b o hc e⟩) (fun _ _ _ _ n=>n)
    (fun b o hc e=>⟨o,kk b o hc e⟩) (fun _ _ e=>e) (fun _ _ _ e=>e) (fun b ps e=>⟨#[],by rw[e];simp⟩) (fun m hm=>?_) (fun b v e=>?_) I.bare
   ·obtain⟨o,es,ep,ho,r⟩:=hm;exact⟨o,es,ep,kk _ o (fun hb=>(hf _ hb).2.1 rfl) ho,r⟩
   ·refine(I.hok b v e).stay (fun c' v' hc' q=>kk c' v' ?_ q) (fun _ q=>q) fun _ _ q=>q
    rcases hc' with q'|q'
    ·rw[q'];exact nit b v e
    ·exact nit c' _ q'
  have Hn:H s.heap.objs.size=none:=I.fresh;have I2:Inv X pins σ (upd H s.heap.objs.size (.tup [.str ⟨#[c1]⟩,.str ⟨#[c2]⟩])) {s with heap:=h'',toks:=tk}:=by
   have nf:s.heap.objs.size∉X.fs:=I.nofs (W1 _);refine⟨turn1.ok,turn1.os,turn1.bare,?_,turn1.loc,turn1.cell,?_,?_,?_,?_,turn1.len⟩
   ·have lt0:∀b o,X.s₀.heap.get? b=some o->b≠s.heap.objs.size:=fun b o e=>V4 (X8 (V7 e) I.sz)
    refine⟨turn1.base.keep,turn1.base.slot,fun b o e n hx=>?_,turn1.base.there,fun b xs e=>?_,fun b o v e=>?_,fun b ps e=>?_⟩
    ·rw[ak (lt0 b o e)];exact turn1.base.free b o e n hx
    ·rw[ak (ao (turn1.base.tups b xs e) Hn)];exact turn1.base.tups b xs e
    ·rw[ak (ao (turn1.base.frzs b o v e) Hn)];exact turn1.base.frzs b o v e
    ·obtain⟨m,q⟩:=turn1.base.tbls b ps e;exact⟨m,by rw[ak (ao q Hn)];exact q⟩
   ·rw[ak (V4 I.lt)];exact turn1.free
   ·intro x' c' e;obtain⟨v',q⟩:=I.cell x' c' e;rw[ak (V4 q.lt)];exact turn1.freeC x' c' e
   ·intro p hp;obtain⟨e,n,r⟩:=turn1.pin p hp;refine⟨e,?_,r⟩;rw[ak (V4 (V7 (I.pin p hp).1))];exact n
   ·intro b v e;by_cases hb:b=s.heap.objs.size
    ·subst hb;rw[aa]at e;cases e;exact⟨by show 2<=sizeLine;decide,[.str ⟨#[c1]⟩ u1,.str ⟨#[c2]⟩ u2],.cons ⟨_,rfl⟩ (.cons ⟨_,rfl⟩ .nil),_,hT2,rfl,_,rfl⟩
    ·rw[ak hb]at e;refine(turn1.hok b v e).stay (fun _ _ _ q=>q) (fun c' q=>?_) fun c' xs q=>?_
     ·rw[ak (ao q Hn)];exact q
     ·rw[ak (ao q Hn)];exact q
  refine⟨.ref s.heap.objs.size,_,I2,rfl,⟨c1,c2,_,e1,e2,Hn,rfl,rfl⟩,⟨hz'',(sb.2 _ D.TIz).trans (hk _ _ D.TIz D.TITO D.TIi1 D.TIi2 hTI),⟨_,_,(sb.2 _ D.TOz).trans a2⟩,?_,?_⟩,fun b hb=>?_⟩
  ·obtain⟨o,e,r⟩:=a3;exact⟨o,(sb.2 _ D.i1z).trans e,r⟩
  ·obtain⟨o,e,r⟩:=a4;exact⟨o,(sb.2 _ D.i2z).trans e,r⟩
  ·have:b<s.heap.objs.size:=by
    simp only[mem_cons,not_mem_nil,or_false]at hb;obtain⟨o1,q1,_⟩:=h1;obtain⟨o2,q2,_⟩:=h2;rcases hb with rfl|rfl|rfl|rfl|rfl
    ·exact V7 hz
    ·exact V7 hTI
    ·exact V7 hTO
    ·exact V7 q1
    ·exact V7 q2
   rw[ak (V4 this)];exact(hf b hb).1
 done:=by
  intro X hP hw hK hc i pins s σ H E I hf st hg;subst hP hw hK;obtain⟨hz,hTI,⟨a,c,hTO⟩,h1,h2⟩:=st;obtain⟨g1,g2,g3⟩:i<=x.cps.size/\i<=y.cps.size/\(i=x.cps.size\/i=y.cps.size):=hg;have hT:s.TypeIs (.ref z) "zip":=⟨_,hz,rfl⟩
  have hh:X.A.in1.handled=none:=I.ok.hd hc;unfold pyNext;refine Y2 (wpAny_attempt (wpAny_callSpecial?_slot (name:=Str.ofString "__next__") hT F.slot_zip_next (wpAny_call_entry F.slot_zip_next hT F.entry_zip_next
   (uR (gD _ _ x t i1 _ hh) (gD _ _ y u i2 _ hh) D (fun b hb=>by rw[show b=i1 by simpa using hb];exact⟨D.i1z,Ne.symm D.TOi1,D.i12⟩) (fun b hb=>by rw[show b=i2 by simpa using hb];exact⟨D.i2z,Ne.symm D.TOi2,Ne.symm D.i12⟩) hz hTI hTO h1 h2 g1 g2 g3 fun h' e tk hk he=>?_) (F.args_zip_next_1 _))))
  obtain⟨o,ho,hco⟩:=he;refine Y2 (wpAny_isInstance (T:="StopIteration") (b:=true) ⟨o,ho,hco⟩ isSubtype_stop (Y3 ⟨rfl,?_⟩));have nit:∀b v,H b=some v->b∉[z,TI,TO,i1,i2]:=fun b v e hb=>by rw[(hf b hb).1]at e;cases e
  have kk:∀b o,b∉[z,TI,TO,i1,i2]->s.heap.get? b=some o->h'.get? b=some o:=fun b o hb e=>by
   simp only[mem_cons,not_mem_nil,or_false,not_or]at hb;exact hk b o hb.1 hb.2.2.1 hb.2.2.2.1 hb.2.2.2.2 e
  refine I.step (g':=s.gens) (d':=s.drawn) (ch:=[z,TI,TO,i1,i2]) (fun b hb=>⟨(hf b hb).2.2.2.1,(hf b hb).2.1,(hf b hb).2.2.2.2.1,(hf b hb).2.2.2.2.2⟩) (fun b o _ _ hc e _=>kk b o hc e) (fun b o _ _ hc e _=>⟨o.slots,kk b o hc e⟩) (fun _ _ _ _ n=>n)
   (fun b o hc e=>⟨o,kk b o hc e⟩) (fun _ _ e=>e) (fun _ _ _ e=>e) (fun b ps e=>⟨#[],by rw[e];simp⟩) (fun m hm=>?_) (fun b v e=>?_) I.bare
  ·obtain⟨o',es,ep,ho',r⟩:=hm;exact⟨o',es,ep,kk _ o' (fun hb=>(hf _ hb).2.1 rfl) ho',r⟩
  ·refine(I.hok b v e).stay (fun c' v' hc' q=>kk c' v' ?_ q) (fun _ q=>q) fun _ _ q=>q
   rcases hc' with q'|q'
   ·rw[q'];exact nit b v e
   ·exact nit c' _ q'
 self:=fun _ _ _ _ _ st h=>wpAny_pyIter_zip st.1 h
noncomputable def bE:Expr->Bool
 | .Starred _ _=>true
 | _=>false
theorem ay{e:Expr}{es:List Expr}{env:Env}(h:bE e=false):starEach (e::es) env=(false,eval e env)::starEach es env:=by
 cases e<;> first|rfl|exact absurd h (by simp[bE])
theorem dh{e:Expr}{es:List Expr}{env:Env}(h:bE e=false):assignEach (e::es) env=(false,assign e env)::assignEach es env:=by
 cases e<;> first|rfl|exact absurd h (by simp[bE])
theorem gE{pos:Pos}{env:Env}:∀{es:List Expr},es.any bE=false->(backTo pos (starEach es env)).any (·.1)=false
 |[],_=>rfl
 | e::es,h=>by
   rw[any_cons,or_eq_false_iff]at h;rw[ay h.1];have:=gE (pos:=pos) (env:=env) h.2;cases es with
   | nil=>rfl
   | cons e2 es2=>
     simp only[backTo]at this ⊢;simpa using this
theorem rf{pos:Pos}{env:Env}:∀{es:List Expr},es.any bE=false->(backTo pos (starEach es env)).all (fun x=>!x.1)=true
 |[],_=>rfl
 | e::es,h=>by
   rw[any_cons,or_eq_false_iff]at h;rw[ay h.1];have:=rf (pos:=pos) (env:=env) h.2;cases es with
   | nil=>rfl
   | cons e2 es2=>
     simp only[backTo]at this ⊢;simpa using this
theorem ic{env:Env}:∀{es:List Expr},es.any bE=false->(assignEach es env).length=es.length/\(assignEach es env).findIdx? (·.1)=none
 |[],_=>⟨rfl,rfl⟩
 | e::es,h=>by
   rw[any_cons,or_eq_false_iff]at h;rw[dh h.1];have ih:=ic (env:=env) h.2;refine⟨by rw[V1,V1,ih.1],?_⟩;rw[List.findIdx?_cons,ih.2];rfl
noncomputable def gF:Expr->Bool
 | .ListComp _ _ _ _=>true
 | .SetComp _ _ _ _=>true
 | .DictComp _ _ _ _ _=>true
 | _=>false
theorem iA{e:Expr}{t:Option Expr}{l:Nat}{env:Env}(h:gF e=false):swapsWith e t l env=pure false:=by
 cases e<;> first|rfl|exact absurd h (by simp[gF])
noncomputable def qd:Expr->Bool
 | .Tuple _ _ _=>true
 | _=>false
theorem qe{t e:Expr}{env:Env}(h:qd e=false):swappedStores [t] e env=pure none:=by
 cases e with
 | Tuple _ _ _=>exact absurd h (by simp[qd])
 | _=>cases t<;> rfl
noncomputable def jY:Expr->Bool
 | .Call _ _ _ _=>true
 | _=>false
theorem jC{o:Expr}{a:Str}{env:Env}{w:Sem Value}(h:jY o=false):attributeBase o a env w=w:=by
 cases o<;> first|rfl|exact absurd h (by simp[jY])
noncomputable def kx:Expr->Bool
 | .Set _ _ _=>true
 | _=>false
theorem jb{e:Expr}{env:Env}(h:kx e=false)(x:Value):foldedSetIterable e env x=pure x:=by
 cases e<;> first|rfl|exact absurd h (by simp[kx])
structure QE (X:Cx) (e:Expr) (t:TE):Prop where
 h:PE X e t
structure QT (X:Cx) (e:Expr) (t:TT):Prop where
 h:PT X e t
structure QW (X:Cx) (e:Expr) (t:TT):Prop where
 h:PW X e t
structure QA (X:Cx) (es:List Expr) (t:TA):Prop where
 h:PA X es t
structure QS (X:Cx) (st:Stmt) (t:TS):Prop where
 h:PS X st t
structure QSs (X:Cx) (st:List Stmt) (t:TS):Prop where
 h:PSs X st t
structure QG (X:Cx) (e:Expr) (t:TG):Prop where
 h:PG X e t
structure QGs (X:Cx) (es:List Expr) (t:TGs):Prop where
 h:PGs X es t
structure QI (X:Cx) (tg iter:Expr) (wi:TI):Prop where
 h:PI X tg iter wi
structure QO (X:Cx) (e:Option Expr) (t:TO):Prop where
 h:PO X e t
structure QTs (X:Cx) (ifs:List Expr) (t:TT):Prop where
 h:PTs X ifs t
structure OpQ (X:Cx) (f:Value->Value->Sem Value) (r:R2):Prop where
 h:OpR X f r
structure dM (X:Cx) (f:Value) (r:List V->Hp->VK->Prop):Prop where
 h:cG X f r
structure MtQ (X:Cx) (id:String) (r:V->List V->Hp->VK->Prop):Prop where
 h:MtR X id r
section
variable{X:Cx}{K:PySem.W.Frag}{pos:Pos}
theorem am{i j}:QE X (.Constant (.int i) j pos) (tC (.int i)):=⟨xZ⟩
theorem eBl{b j}:QE X (.Constant (.bool b) j pos) (tC (.bl b)):=⟨zG⟩
theorem bS{x j}:QE X (.Constant (.str x) j pos) (tC (.str x)):=⟨x4⟩
theorem vn(i:Nat){x:Str}(hN:X.N[i]? =some x)(hv:Vis X.env.scope x)(hd:(x==("__debug__":Str))=false)(hcd:(x==("__classdict__":Str))=false):QE X (.Name x pos) (nO i):=⟨tM hN hv hd hcd⟩
theorem gvE{x:Str}{v:V}(g:Gv X.mg x v)(hg:Gl X x)(hd:(x==("__debug__":Str))=false):QE X (.Name x pos) (tC v):=⟨xE g hg hd⟩
theorem blE{x:Str}{v:V}{u:Value}(hg:Gl X x)(hm:X.mg x=none)(hv:bootBuiltins x=some u)(r:aE v u)(hn:(x==("__name__":Str))=false)(hd:(x==("__debug__":Str))=false):QE X (.Name x pos) (tC v):=
 ⟨vQ hg hm hv r (fun e=>by subst e;cases hn) hd⟩
theorem ai:QA X [] um:=⟨yv⟩
theorem paE{e:Expr}{es:List Expr}{te:TE}{t:TA}(hs:bE e=false)(ha:QE X e te)(hr:QA X es t):QA X (e::es) (uo te t):=⟨wl ha.h hr.h (ay hs)⟩
theorem bC{j k:Nat}{x:Str}{ps:List Str}{sp:Sp}{p:Pos}{e:Expr}{es:List Expr}{t:TA}(C:Cal X.prog X.w X.K X.mg X.base j x ps sp)(hr:cr k X.A)(hg:Gl X x)(hjk:Nat.ble j k=true)
 (hdb:(x==("__debug__":Str))=false) (he:(e::es).any bE=false) (ha:QA X (e::es) t):
 QE X (.Call (.Name x p) (e::es) [] pos) (qY sp [] E0 t):=by
 rw[any_cons,or_eq_false_iff]at he;exact⟨yZ C hr hg uJ ha.h (Nat.le_of_ble_eq_true hjk) hdb (ay he.1) (gE he.2)⟩
theorem cbE{x:Str}{id:String}{r:List V->Hp->VK->Prop}{p:Pos}{e:Expr}{es:List Expr}{t:TA}(hc:dM X (.builtin id) r)(hg:Gl X x)(hm:X.mg x=none)(hv:bootBuiltins x=some (.builtin id))(hn:(x==("__name__":Str))=false)(hdb:(x==("__debug__":Str))=false)
 (he:(e::es).any bE=false) (ha:QA X (e::es) t):QE X (.Call (.Name x p) (e::es) [] pos) (tCB r t):=by
 rw[any_cons,or_eq_false_iff]at he;exact⟨uw hc.h hg hm hv ha.h (fun e=>by subst e;cases hn) hdb (ay he.1) (gE he.2)⟩
theorem ctE{x:Str}{T:String}{r:List V->Hp->VK->Prop}{p:Pos}{e:Expr}{es:List Expr}{t:TA}(hc:dM X (.type T) r)(hg:Gl X x)(hm:X.mg x=none)(hv:bootBuiltins x=some (.type T))(hn:(x==("__name__":Str))=false)(hdb:(x==("__debug__":Str))=false)
 (he:(e::es).any bE=false) (ha:QA X (e::es) t):QE X (.Call (.Name x p) (e::es) [] pos) (tCB r t):=by
 rw[any_cons,or_eq_false_iff]at he;exact⟨rZ hc.h hg hm hv ha.h (fun e=>by subst e;cases hn) hdb (ay he.1) (gE he.2)⟩
theorem bmE{o e:Expr}{es:List Expr}{to:TE}{t:TA}{name:Str}{apos cpos:Pos}{T id:String}{r:V->List V->Hp->VK->Prop}(h:X.K=K)(pa:PlainAttrs T)(slot:Slot T name id)(hty:typeOf (.builtin id)=pure (.type "method_descriptor"))(hm:MtQ X id r)
 (hbase:jY o=false) (hfew:(e::es).any bE=false) (h30:Nat.blt (e::es).length 30=true) (hline:(apos.endLine==cpos.line)=true) (ho:QE X o to) (ha:QA X (e::es) t):
 QE X (.Call (.Attribute o name apos) (e::es) [] cpos) (tBM K T r to t):=by
 have he:=hfew;rw[any_cons,or_eq_false_iff]at he;refine⟨zb h pa slot hty hm.h ho.h ha.h (jC hbase) ?_ hline (ay he.1) (gE he.2)⟩;rw[rf hfew];have h30':(e::es).length<30:=Nat.blt_eq.mp h30;have:decide ((e::es).length+([]:List Keyword).length+(if([]:List Keyword).isEmpty then 0 else 1)<30)=true:=X7 (by simpa using h30');rw[this];rfl
theorem fS{tg a:Expr}{ta:TA}{p:Pos}(hg:Gl X "range")(hm:X.mg "range"=none)(hs:bE a=false)(ha:QA X [a] ta):QI X tg (.Call (.Name "range" p) [a] [] pos) (tX ta):=⟨rO hg hm ha.h (ay hs)⟩
theorem ie{tg l:Expr}{tl:TE}(h:X.K=K)(hl:QE X l tl):QI X tg l (wP K tl):=⟨wQ h hl.h⟩
section
variable{a b c:Expr}{ta tb tc:TE}{op op':CmpOp}{r r':R2}
theorem qf(ho:OpQ X (compareOp op) r)(ho':OpQ X (compareOp op') r')(hm:lastMarks [op,op'] [b,c]=false)(ha:QE X a ta)(hb:QE X b tb)(hc:QE X c tc):QE X (.Compare a [op,op'] [b,c] pos) (pM r r' ta tb tc):=⟨uc ho.h ho'.h ha.h hb.h hc.h hm⟩
theorem jO(ho:OpQ X (compareOp op) r)(hm:behindInMarks op b=false)(ha:QE X a ta)(hb:QE X b tb):QE X (.Compare a [op] [b] pos) (tOp r ta tb):=⟨wa ho.h ha.h hb.h hm⟩
theorem cH(ho:OpQ X (compareOp op) r)(hm:behindInMarks op b=false)(ha:QE X a ta)(hb:QE X b tb):QT X (.Compare a [op] [b] pos) (ub (tOp r ta tb)):=⟨wb ho.h ha.h hb.h hm⟩
theorem opE{op:Operator}(ho:OpQ X (binaryOp op) r)(ha:QE X a ta)(hb:QE X b tb):QE X (.BinOp a op b pos) (tOp r ta tb):=⟨zO ho.h ha.h hb.h⟩
theorem uT(ha:QE X a ta):QE X (.UnaryOp .USub a pos) (tUn (rU fun i=> .int (-i)) ta):=⟨zP yn ha.h⟩
theorem slE{p2:Pos}{lo hi:Option Expr}{tl th:TO}(h:X.K=K)(ha:QE X a ta)(hl:QO X lo tl)(hu:QO X hi th):QE X (.Subscript a (.Slice lo hi none p2) pos) (tSl (wO K) ta tl th):=⟨nT (slK h) ha.h hl.h hu.h⟩
theorem noO:QO X none mO:=⟨wq⟩
theorem iB(h:QE X a ta):QO X (some a) (uz ta):=⟨wt h.h⟩
theorem mW{op}(h:QE X a ta):QE X (.BoolOp op [a] pos) ta:=⟨yc h.h⟩
theorem lw{rest:List Expr}(ha:QE X a ta)(hb:QE X (.BoolOp .And (b::rest) pos) tb):QE X (.BoolOp .And (a::b::rest) pos) (tN ta tb):=⟨yd ha.h hb.h⟩
theorem orV{rest:List Expr}(ha:QE X a ta)(hb:QE X (.BoolOp .Or (b::rest) pos) tb):QE X (.BoolOp .Or (a::b::rest) pos) (yb ta tb):=⟨zK ha.h hb.h⟩
theorem dc{es:List Expr}{t:TA}(h:QA X es t):QE X (.List es pos) (yx t):=⟨yz h.h⟩
theorem de{es:List Expr}{t:TA}{x1}(h:QA X es t):QE X (.Tuple es x1 pos) (yw t):=⟨yy h.h⟩
theorem z6:QE X (.Dict [] [] pos) pZ:=⟨uH⟩
variable{tA tB':TT}{rest:List Expr}
theorem gQ(ha:QT X a tA):QT X (.UnaryOp .Not a pos) (x6 tA):=⟨ya ha.h⟩
theorem kz(ha:QT X a tA):QW X (.BoolOp .And [a] pos) tA:=⟨vS ha.h⟩
theorem lz(ha:QT X a tA):QW X (.BoolOp .Or [a] pos) tA:=⟨x8 ha.h⟩
theorem mX(ha:QT X a tA)(hb:QW X (.BoolOp .And (b::rest) pos) tB'):QW X (.BoolOp .And (a::b::rest) pos) (vR tA tB'):=⟨x9 ha.h hb.h⟩
theorem orW(ha:QT X a tA)(hb:QW X (.BoolOp .Or (b::rest) pos) tB'):QW X (.BoolOp .Or (a::b::rest) pos) (tOr tA tB'):=⟨zI ha.h hb.h⟩
theorem wT(h:QW X a tA):QT X a tA:=⟨PW.pt h.h⟩
theorem eN(h:X.K=K)(he:∀whole,isTrue a X.env whole=(do let v<-whole;standAt a.pos;holding [v] (truthy v)))(ha:QE X a ta):QT X a (fun σ H Q=>ta σ H fun x H'=>∃k,ud K x H' k/\Q k H'):=⟨sr h ha.h he⟩
theorem lA:QTs X [] wF:=⟨wG⟩
theorem uU(h:QT X c tA):QTs X [c] tA:=⟨wH h.h⟩
end
theorem fT{tg iter elt:Expr}{ifs:List Expr}{scope:Scope}{N':List Str}{cap:List (Nat×Nat)}{wi:TI}{g:TG}{tc:TT}{te:TE}(S:aG X scope N' cap)(hc:X.calm=true)(hs:kx iter=false)(hi:QI X tg iter wi)
 (hg:∀s₃ H₃ fp,QG (be X scope N' s₃ H₃ fp) tg g) (ht:∀s₃ H₃ fp,QTs (be X scope N' s₃ H₃ fp) ifs tc) (he:∀s₃ H₃ fp,QE (be X scope N' s₃ H₃ fp) elt te):
 QE X (.ListComp elt [⟨tg,iter,ifs,0⟩] scope pos) (lT wi N'.length cap g tc te):=⟨wJ S hc hi.h (fun s₃ H₃ fp=>(hg s₃ H₃ fp).h) (fun s₃ H₃ fp=>(ht s₃ H₃ fp).h) (fun s₃ H₃ fp=>(he s₃ H₃ fp).h) (jb hs)⟩
theorem bM:QSs X [] tO:=⟨vT⟩
theorem ah{st:Stmt}{rest:List Stmt}{t u:TS}(h1:QS X st t)(h2:QSs X rest u):QSs X (st::rest) (cf t u):=⟨tP h1.h h2.h⟩
theorem ap{st:Stmt}{t:TS}(h1:QS X st t):QSs X [st] t:=⟨vU h1.h⟩
theorem ifS{c:Expr}{a b:List Stmt}{tc:TT}{t u:TS}(hc:QT X c tc)(ha:QSs X a t)(hb:QSs X b u):QS X (.If c a b pos) (i4 tc t u):=⟨zM hc.h ha.h hb.h⟩
theorem bF{e:Expr}{te:TE}(he:QE X e te):QS X (.Return (some e) pos) (kf te):=⟨ye he.h⟩
theorem fV{st:Stmt}:QS X st tQ:=⟨tR⟩
theorem eG{tg iter:Expr}{body:List Stmt}{wi:TI}{g:TG}{tb:TS}(hp:PassesOwn (model X.prog X.w) X.A X.env X.xe)(hc:X.calm=true)(hs:kx iter=false)(hi:QI X tg iter wi)(hg:QG X tg g)(hb:QSs X body tb):
 QS X (.For tg iter body [] pos) (pL wi g tb):=⟨yi hp hc hi.h hg.h hb.h (jb hs)⟩
theorem bg(i:Nat){x:Str}{e:Expr}{te:TE}{pos':Pos}(hN:X.N.Nodup)(hi:X.N[i]? =some x)(hx:Loc X.env.scope x)(hf:X.fn x=true\/X.env.scope.names.lookup x=some .local)(hs:gF e=false)(he:QE X e te):
 QS X (.Assign [.Name x pos'] e pos) (nP te (ju i)):=⟨tV hN hi hx he.h (iA hs) hf⟩
theorem dq{e:Expr}{te:TE}(hs:gF e=false)(he:QE X e te):QS X (.Expr e pos) (ke te):=⟨vV he.h (iA hs)⟩
theorem wR{tg e:Expr}{te:TE}{g:TG}(hs:gF e=false)(hw:qd e=false)(hst:bE tg=false)(he:QE X e te)(hg:QG X tg g):QS X (.Assign [tg] e pos) (nP te g):=
 ⟨yh he.h hg.h (iA hs) (qe hw) (by rw[dh hst];rfl)⟩
theorem az(i:Nat){x:Str}(hN:X.N.Nodup)(hi:X.N[i]? =some x)(hx:Loc X.env.scope x)(hf:X.fn x=true\/X.env.scope.names.lookup x=some .local):QG X (.Name x pos) (ju i):=⟨vW hN hi hx hf⟩
theorem cU:QGs X [] yf:=⟨vX⟩
theorem gsE{e:Expr}{es:List Expr}{t:TG}{u:TGs}(hs:bE e=false)(h1:QG X e t)(h2:QGs X es u):QGs X (e::es) (tT t u):=⟨tU h1.h h2.h (by rw[dh hs];rfl)⟩
theorem fq{es:List Expr}{k:Nat}{t:TGs}(hK:X.K=K)(hc:X.calm=true)(hs:es.any bE=false)(h:QGs X es t):QG X (.Tuple es k pos) (vY K es.length t):=by
 subst hK;exact⟨yg hc h.h (ic hs).1 (ic hs).2⟩
theorem bT:OpQ X (binaryOp .Add) uN:=⟨wL⟩
theorem nW:OpQ X (binaryOp .Sub) (rI0 fun i j=> .int (i-j)):=⟨yl⟩
theorem mY:OpQ X (binaryOp .Mult) uO:=⟨wM⟩
theorem bv:OpQ X (binaryOp .Mod) (rI (fun _ j=>0<j) fun i j=> .int (i%j)):=⟨ym⟩
theorem dH:OpQ X (binaryOp .FloorDiv) (rI zR fun i j=> .int (i/j)):=⟨vZ⟩
theorem eJ:OpQ X (compareOp .Eq) yS:=⟨yT⟩
theorem fK:OpQ X (compareOp .NotEq) yU:=⟨yV⟩
theorem sv:OpQ X (compareOp .Lt) (rI0 fun i j=> .bl (decide (i<j))):=⟨zT⟩
theorem sw:OpQ X (compareOp .LtE) (rI0 fun i j=> .bl (decide (i<=j))):=⟨zU⟩
theorem wS:OpQ X (compareOp .Gt) (rI0 fun i j=> .bl (decide (j<i))):=⟨zV⟩
theorem sC(h:X.K=K):OpQ X (compareOp .In) (wN K):=⟨za h⟩
noncomputable abbrev rg:R2:=fun x y H Q=>∃i j,x= .str i/\y= .str j/\Q (.bl (!(!(Builtin.Str.occurrences j i 0 j.length 1).isEmpty))) H
noncomputable abbrev wU(K:PySem.W.Frag):R2:=fun x y H Q=>rg x y H Q\/rIn K true x y H Q
theorem df(h:X.K=K):dM X (.builtin "len") (fun xs H Q=>∃x n,xs=[x]/\wc K x H n/\Q (.int n) H):=⟨sj h⟩
theorem uV(h:X.K=K)(hc:X.calm=true):dM X (.builtin "all") (fun xs H Q=>∃(p:Addr) (bs:List Bool),xs=[.ref p]/\SqL K H p (bs.map V.bl)/\Q (.bl (bs.all id)) H):=⟨sk h hc⟩
theorem xF(hc:X.calm=true):dM X (.builtin "max") (fun xs H Q=>∃i j,xs=[.int i,.int j]/\Q (.int (if j>i then j else i)) H):=⟨rR hc⟩
theorem z7(hc:X.calm=true):dM X (.builtin "min") (fun xs H Q=>∃i j,xs=[.int i,.int j]/\Q (.int (if j<i then j else i)) H):=⟨rS hc⟩
theorem fW(h:X.K=K):dM X (.builtin "isinstance") (fun xs H Q=>∃x n t b,xs=[x,.ty n]/\gZ K H x t/\kitOne K t (.type n)=some b/\Q (.bl b) H):=⟨sq h⟩
theorem xG:dM X (.type "int") (fun xs H Q=>(∃i,xs=[.int i]/\Q (.int i) H)\/∃k,xs=[.bl k]/\Q (.int (if k then 1 else 0)) H):=⟨rT⟩
theorem ig(h:X.K=K):dM X (.type "list") (fun xs H Q=>∃p ys,xs=[.ref p]/\(SqL K H p ys\/SqT K H p ys)/\∀l,H l=none->Q (.ref l) (upd H l (.lst ys))):=⟨qb h⟩
theorem bX:MtQ X "list.append" mT:=⟨lP⟩
theorem nZ:MtQ X "list.extend" mU:=⟨r8⟩
theorem mZ(h:X.K=K):MtQ X "str.join" (re K):=⟨uP h⟩
end
open PySem PySem.Spec PyProof.Rows PySem.SeqAt
section
variable{X:Cx}{pins:List (Addr×Obj)}{σ:St}{H:Hp}{s:Shared}{h':Heap}{tk:Nat}{fp:List Addr}
theorem Inv.moved(I:Inv X pins σ H s)(hf:∀b∈fp,jL X pins H b)(kk:∀b o,b∉fp->s.heap.get? b=some o->h'.get? b=some o):Inv X pins σ H {s with heap:=h',toks:=tk}:=by
 have nit:∀b v,H b=some v->b∉fp:=fun b v e hb=>by rw[(hf b hb).1]at e;cases e
 refine I.step (g':=s.gens) (d':=s.drawn) (ch:=fp) (fun b hb=>⟨(hf b hb).2.2.2.1,(hf b hb).2.1,(hf b hb).2.2.2.2.1,(hf b hb).2.2.2.2.2⟩) (fun b o _ _ hc e _=>kk b o hc e) (fun b o _ _ hc e _=>⟨o.slots,kk b o hc e⟩) (fun _ _ _ _ n=>n)
  (fun b o hc e=>⟨o,kk b o hc e⟩) (fun _ _ e=>e) (fun _ _ _ e=>e) (fun b ps e=>⟨#[],by rw[e];simp⟩) (fun m hm=>?_) (fun b v e=>?_) I.bare
 ·obtain⟨o,es,ep,ho,r⟩:=hm;exact⟨o,es,ep,kk _ o (fun hb=>(hf _ hb).2.1 rfl) ho,r⟩
 ·refine(I.hok b v e).stay (fun c' v' hc' q=>kk c' v' ?_ q) (fun _ q=>q) fun _ _ q=>q
  rcases hc' with q'|q'
  ·rw[q'];exact nit b v e
  ·exact nit c' _ q'
theorem Inv.stood{a:Addr}{o:HO}(I:Inv X pins σ H s)(J:Inv X pins σ H {s with heap:=h',toks:=tk})(ha:s.heap.objs.size<=a)(new:bA X.prog X.w (upd H a o) h' a o):Inv X pins σ (upd H a o) {s with heap:=h',toks:=tk}:=by
 have Hn:H a=none:=I.hok.fresh ha;have lt0:∀b o,X.s₀.heap.get? b=some o->b≠a:=fun b o e=>V4 (X8 (X8 (V7 e) I.sz) ha)
 refine⟨J.ok,J.os,J.bare,?_,J.loc,J.cell,?_,?_,?_,?_,J.len⟩
 ·refine⟨J.base.keep,J.base.slot,fun b o e n hx=>?_,J.base.there,fun b xs e=>?_,fun b o v e=>?_,fun b ps e=>?_⟩
  ·rw[ak (lt0 b o e)];exact J.base.free b o e n hx
  ·rw[ak (ao (J.base.tups b xs e) Hn)];exact J.base.tups b xs e
  ·rw[ak (ao (J.base.frzs b o v e) Hn)];exact J.base.frzs b o v e
  ·obtain⟨m,q⟩:=J.base.tbls b ps e;exact⟨m,by rw[ak (ao q Hn)];exact q⟩
 ·rw[ak (V4 (X8 I.lt ha))];exact J.free
 ·intro x' c' e;obtain⟨v',q⟩:=I.cell x' c' e;rw[ak (V4 (X8 q.lt ha))];exact J.freeC x' c' e
 ·intro p hp;obtain⟨e,n,r⟩:=J.pin p hp;refine⟨e,?_,r⟩;rw[ak (V4 (X8 (V7 (I.pin p hp).1) ha))];exact n
 ·intro b v e;by_cases hb:b=a
  ·subst hb;rw[aa]at e;cases e;exact new
  ·rw[ak hb]at e;refine(J.hok b v e).stay (fun _ _ _ q=>q) (fun c' q=>?_) fun c' xs q=>?_
   ·rw[ak (ao q Hn)];exact q
   ·rw[ak (ao q Hn)];exact q
end
noncomputable def qg:V->List V->Hp->VK->Prop:=fun x vs H Q=>∃z y,x= .str z/\vs=[.str y]/\1<=y.length/\z.length+2<=sizeLine/\∀l,H l=none->Q (.ref l) (upd H l (.lst ((Txt.split z y).map V.str)))
theorem lZ:∀(ss:List Str) (k:Nat),aH (ss.map V.str) (strsFrom k ss)
 |[],_=> .nil
 | _::r,k=> .cons ⟨_,rfl⟩ (lZ r (k+1))
theorem uW{X:Cx}:MtM X "str.split" qg:=by
 intro pins s σ H x vs v us Q I rx rv h;obtain⟨z,y,rfl,rfl,h1,hz,q⟩:=h;obtain⟨t,rfl⟩:=rx;obtain⟨u0,rfl,ru⟩:=rv.one;obtain⟨u,rfl⟩:=ru;have hy0:(y.length==0)=false:=by simp;lia
 have hsl:=split_le z y;by_cases c1:(decide (z.length<y.length)||decide (Builtin.Str.strKind z<Builtin.Str.strKind y))=true
 ·have e:Txt.split z y=[z]:=if_pos c1;rw[e]at q;exact call_meets F.slot_str_split (typeIs_str _ _ _) F.entry_str_split (F.args_str_split_2 _ _) (meets_str_split_cannot_occur z y t u c1) ⟨.ref _,_,I.lnew (ys:=[.str z]) (its:=[.str z t]) (t':=s.toks) (.cons ⟨_,rfl⟩ .nil) (by show 1<=sizeLine;decide),rfl,q _ I.fresh⟩
 ·have c1':=Bool.eq_false_iff.mpr c1;by_cases c2:(Builtin.Str.occurrences z y 0 z.length (z.length+1)).isEmpty=true
  ·have e:Txt.split z y=[z]:=(if_neg c1).trans (if_pos c2);rw[e]at q;exact call_meets F.slot_str_split (typeIs_str _ _ _) F.entry_str_split (F.args_str_split_2 _ _) (meets_str_split_not_found z y t u c1' hy0 c2) ⟨.ref _,_,I.lnew (ys:=[.str z]) (its:=[.str z t]) (t':=s.toks) (.cons ⟨_,rfl⟩ .nil) (by show 1<=sizeLine;decide),rfl,q _ I.fresh⟩
  ·have e:Txt.split z y=Builtin.Str.partsBetween z (Builtin.Str.occurrences z y 0 z.length (z.length+1)) y.length:=(if_neg c1).trans (if_neg c2);have hl2:(Builtin.Str.partsBetween z (Builtin.Str.occurrences z y 0 z.length (z.length+1)) y.length).length<=sizeLine:=by rw[<-e];lia
   refine call_meets F.slot_str_split (typeIs_str _ _ _) F.entry_str_split (F.args_str_split_2 _ _) (meets_str_split_sep z y t u c1' hy0 (Bool.eq_false_iff.mpr c2) (by lia) hl2) ?_;rw[<-e]at hl2 ⊢;exact⟨.ref _,_,I.lnew (its:=strsFrom s.toks (Txt.split z y)) (t':=s.toks+(Txt.split z y).length) (lZ _ _) (by rw[Y6];exact hl2),rfl,q _ I.fresh⟩
theorem rh{X:Cx}:MtQ X "str.split" qg:=⟨uW⟩
noncomputable def Ite(K:PySem.W.Frag)(a:Addr)(xs:List V):It:=⟨fun i H=>SqL K H a xs/\i<xs.length,fun i H v H'=>∃x T,xs[i]? =some x/\H T=none/\v= .ref T/\H'=upd H T (.tup [.int i,x]),fun i H=>SqL K H a xs/\xs.length<=i⟩
noncomputable def ESt(e it a:Addr)(i:Nat)(h:Heap):Prop:=(∃old,IsEnum h e it i old)/\h.IsListIter it a i
theorem sD{P:Program}{w:World}{K:PySem.W.Frag}{elts:List Expr}{kt:Nat}{tp:Pos}(e it a:Addr)(xs:List V)(hne:e≠it):mL P w K (.Tuple elts kt tp) (Ite K a xs) [e,it] e (ESt e it a) where
 mem:=by simp
 obj:=fun i h st b hb=>by
  obtain⟨⟨old,he⟩,o1,e1,_,d1⟩:=st;simp only[mem_cons,not_mem_nil,or_false]at hb;rcases hb with rfl|rfl
  ·exact⟨_,he,fun v q=>nomatch q⟩
  ·exact⟨o1,e1,fun v q=>by rw[d1]at q;cases q⟩
 keep:=fun i h h' st k=>by
  obtain⟨⟨old,he⟩,o1,e1,r1⟩:=st;exact⟨⟨old,k e (by simp) _ he⟩,o1,k it (by simp) _ e1,r1⟩
 item:=by
  intro X hP hw hK hc i pins s σ H E I hf st hg;subst hP hw hK;obtain⟨⟨old,he⟩,hit⟩:=st;obtain⟨hq,hi⟩:SqL X.K H a xs/\i<xs.length:=hg;obtain⟨its,rv,p,hz⟩:=I.list hq;obtain⟨u,hu,ru⟩:=rv.get (i:=i) (x:=xs[i]) (by simp[hi]);refine wpAny_pyNext_enum_item he hit p.isList (x:=u) (by simpa using hu) hne fun h1 he1 hit1 ht1 hz1 hk1=>⟨_,rfl,?_⟩
  refine wpAny_letOwnedTupleGo_enum (s:={s with heap:=h1,toks:=s.toks+1}) he1 fun h2 he2 sb2=>?_
  replace sb2:SameBut e h1 h2:=sb2;have elt:e<s.heap.objs.size:=V7 he;have ilt:it<s.heap.objs.size:=by obtain⟨o,q,_⟩:=hit;exact V7 q
  have kk:∀b o,b∉[e,it]->s.heap.get? b=some o->h2.get? b=some o:=fun b o hb q=>by
   simp only[mem_cons,not_mem_nil,or_false,not_or]at hb;exact(sb2.2 b hb.1).trans (hk1 b o hb.1 hb.2 q)
  have J:Inv X pins σ H {s with heap:=h2,toks:=s.toks+1}:=I.moved hf kk;have hT:h2.get? s.heap.objs.size=some {cls:= .type "tuple",data:= .seq #[.int i s.toks,u]}:=(sb2.2 _ (ne_of_gt elt)).trans ht1;have I2:Inv X pins σ (upd H s.heap.objs.size (.tup [.int i,xs[i]])) {s with heap:=h2,toks:=s.toks+1}:=
   I.stood J (W1 _) ⟨by show 2<=sizeLine;decide,[.int i s.toks,u],.cons ⟨_,rfl⟩ (.cons ru .nil),_,hT,rfl,_,rfl⟩
  refine⟨.ref s.heap.objs.size,_,I2,rfl,⟨xs[i],_,by simp[hi],I.fresh,rfl,rfl⟩,⟨⟨u,by rw[Int.natCast_succ];exact he2⟩,?_⟩,fun b hb=>?_⟩
  ·obtain⟨o,q,r⟩:=hit1;exact⟨o,(sb2.2 _ (Ne.symm hne)).trans q,r⟩
  ·have:b<s.heap.objs.size:=by
    simp only[mem_cons,not_mem_nil,or_false]at hb;rcases hb with rfl|rfl
    ·exact elt
    ·exact ilt
   rw[ak (V4 this)];exact(hf b hb).1
 done:=by
  intro X hP hw hK hc i pins s σ H E I hf st hg;subst hP hw hK;obtain⟨⟨old,he⟩,hit⟩:=st;obtain⟨hq,hi⟩:SqL X.K H a xs/\xs.length<=i:=hg;obtain⟨its,rv,p,hz⟩:=I.list hq;have hl:=rv.length;have hh:X.A.handled=none:=I.ok.hd hc;refine wpAny_pyNext_enum_end hh he hit p.isList (by simp;lia) fun h1 xb=>⟨rfl,I.moved (fp:=[e,it]) (tk:=s.toks) hf fun b o hb q=>?_⟩
  simp only[mem_cons,not_mem_nil,or_false,not_or]at hb;exact xb b o hb.2 q
 self:=fun A i s Q E st h=>by
  obtain⟨⟨old,he⟩,hit⟩:=st;exact wpAny_pyIter_enum he h
noncomputable def xH(K:PySem.W.Frag)(ta:TA):TI:=fun σ H R=>ta σ H fun vs H1=>∃a xs,vs=[.ref a]/\SqL K H1 a xs/\R (Ite K a xs) H1
section
variable{X:Cx}{K:PySem.W.Frag}{pos:Pos}
theorem rj{elts:List Expr}{kt:Nat}{tp p:Pos}{a:Expr}{ta:TA}(hK:X.K=K)(hg:Gl X "enumerate")(hm:X.mg "enumerate"=none)(hs:bE a=false)(ha:QA X [a] ta):
 QI X (.Tuple elts kt tp) (.Call (.Name "enumerate" p) [a] [] pos) (xH K ta):=by
 subst hK
 constructor
 intro pins s σ H R I h;refine Call_ (gY I hg hm boot_enumerate (PyProof.Rows.callWith_type1 (thn (ha.h pos pins s σ H _ I h) fun us s1 ⟨vs,H1,I1,r1,q1⟩=>?_) (ay hs) rfl));obtain⟨l,xs,e,hq,q⟩:=q1;subst e;obtain⟨u,rfl,ru⟩:=d6 r1;cases ru;obtain⟨its,rv,p,hz⟩:=I1.list hq;refine call_enumerate_list p.isList fun h1 he hit hz1 hk=>wpAny_pyIter_enum (s:={s1 with heap:=h1}) he ?_
 have J:Inv X pins σ H1 {s1 with heap:=h1}:=I1.kept (t':=s1.toks) hk;refine⟨s1.heap.objs.size+1,[s1.heap.objs.size+1,s1.heap.objs.size],ESt (s1.heap.objs.size+1) s1.heap.objs.size l,Ite X.K l xs,H1,rfl,J,sD _ _ _ _ (Nat.succ_ne_self _),⟨⟨_,he⟩,hit⟩,fun b hb=>?_,q⟩;simp only[mem_cons,not_mem_nil,or_false]at hb;rcases hb with rfl|rfl
 ·exact I1.fpOk (le_succ _) (I1.hok.fresh (le_succ _))
 ·exact I1.fpOk (W1 _) (I1.hok.fresh (W1 _))
end
section
variable(h:Heap)(x y:Str)(t u:Tok)
noncomputable abbrev zs1:Heap:=h.push {cls:= .type (strIterType x),data:= .fields #[.str x t,.int 0 0]}
noncomputable abbrev zs2:Heap:=(zs1 h x t).push {cls:= .type (strIterType y),data:= .fields #[.str y u,.int 0 0]}
noncomputable abbrev zs3:Heap:=(zs2 h x y t u).push {cls:= .type "tuple",data:= .seq #[.ref h.objs.size,.ref (zs1 h x t).objs.size]}
noncomputable abbrev zs4:Heap:=(zs3 h x y t u).push {cls:= .type "tuple",data:= .seq #[.none,.none]}
noncomputable abbrev zs5:Heap:=(zs4 h x y t u).push {cls:= .type "zip",data:= .fields #[.none,.bool false,.bool false,.ref (zs2 h x y t u).objs.size,.ref (zs3 h x y t u).objs.size]}
end
theorem jP(x y:Str)(t u:Tok):
 Meets (Builtin.«zip.__new__» ⟨[.type "zip",.str x t,.str y u],[]⟩) (fun _ R s=>R (.ok (.ret (.ref (zs4 s.heap x y t u).objs.size))) {s with heap:=zs5 s.heap x y t u}):=
 .of_wp fun prog w A R s hR=>by
  obtain⟨hp,g,d,tk,os⟩:=s;have hsub:=PySem.sub_zip
  wp_walk using wpAny_pyIter_strU (x:=x) (t:=t),wpAny_pyIter_strU (x:=y) (t:=u)
  exact⟨_,rfl,hR⟩
section
variable{prog:Program}{w:World}{A:Around}{E:Value->Shared->Prop}{s:Shared}
theorem kA{x y:Str}{t u:Tok}{Q:Value->Shared->Prop}
 (h:∀h',IsZip h' (s.heap.objs.size+4) (s.heap.objs.size+2) (s.heap.objs.size+3) .none->IsPair h' (s.heap.objs.size+2) (.ref s.heap.objs.size) (.ref (s.heap.objs.size+1))->IsPair h' (s.heap.objs.size+3) .none .none->
  h'.IsStrIter s.heap.objs.size (strIterType x) x t 0->h'.IsStrIter (s.heap.objs.size+1) (strIterType y) y u 0->(∀c o,s.heap.get? c=some o->h'.get? c=some o)->Q (.ref (s.heap.objs.size+4)) {s with heap:=h'}):
 wpAny (model prog w) A (call (.type "zip") [.str x t,.str y u]) Q E s:=by
 refine callType_new F.called_zip (by decide) (F.typeCall_zip_2 _ _) (F.newCall_zip_2 _ _) (fun obj=>F.args_object_init_3 obj _ _) F.entry_zip_new (jP x y t u) ?_;have n1:(zs1 s.heap x t).objs.size=s.heap.objs.size+1:=V0 ..;have n2:(zs2 s.heap x y t u).objs.size=s.heap.objs.size+2:=by rw[V0,n1]
 have n3:(zs3 s.heap x y t u).objs.size=s.heap.objs.size+3:=by rw[V0,n2]
 have n4:(zs4 s.heap x y t u).objs.size=s.heap.objs.size+4:=by rw[V0,n3]
 have k5:∀c o,(zs4 s.heap x y t u).get? c=some o->(zs5 s.heap x y t u).get? c=some o:=fun _ _ q=>Y7 _ q
 have k4:∀c o,(zs3 s.heap x y t u).get? c=some o->(zs5 s.heap x y t u).get? c=some o:=fun c o q=>k5 c o (Y7 _ q)
 have k3:∀c o,(zs2 s.heap x y t u).get? c=some o->(zs5 s.heap x y t u).get? c=some o:=fun c o q=>k4 c o (Y7 _ q)
 have k2:∀c o,(zs1 s.heap x t).get? c=some o->(zs5 s.heap x y t u).get? c=some o:=fun c o q=>k3 c o (Y7 _ q)
 have k1:∀c o,s.heap.get? c=some o->(zs5 s.heap x y t u).get? c=some o:=fun c o q=>k2 c o (Y7 _ q)
 have b5:(zs5 s.heap x y t u).get? (zs4 s.heap x y t u).objs.size=some _:=W3 _ rfl;have b4:(zs5 s.heap x y t u).get? (zs3 s.heap x y t u).objs.size=some _:=k5 _ _ (W3 _ rfl);have b3:(zs5 s.heap x y t u).get? (zs2 s.heap x y t u).objs.size=some _:=k4 _ _ (W3 _ rfl);have b2:(zs5 s.heap x y t u).get? (zs1 s.heap x t).objs.size=some _:=k3 _ _ (W3 _ rfl);have b1:(zs5 s.heap x y t u).get? s.heap.objs.size=some _:=k2 _ _ (W3 _ rfl);show _/\_;rw[n2,n3,n4]at b5;rw[n1,n2]at b3;rw[n3]at b4;rw[n1]at b2;rw[n4];exact⟨⟨_,b5,rfl⟩,h _ b5 b3 b4 ⟨_,b1,rfl,rfl⟩ ⟨_,b2,rfl,rfl⟩ k1⟩
end
noncomputable def xI(ta:TA):TI:=fun σ H R=>ta σ H fun vs H1=>∃x y,vs=[.str x,.str y]/\R (Itz x y) H1
section
variable{X:Cx}{K:PySem.W.Frag}{pos:Pos}
theorem uX{elts:List Expr}{kt:Nat}{tp p:Pos}{a b:Expr}{ta:TA}(hg:Gl X "zip")(hm:X.mg "zip"=none)(hs:bE a=false)(hs2:bE b=false)(ha:QA X [a,b] ta):
 QI X (.Tuple elts kt tp) (.Call (.Name "zip" p) [a,b] [] pos) (xI ta):=by
 constructor
 intro pins s σ H R I h;refine Call_ (gY I hg hm boot_zip (PyProof.Rows.callWith_type1 (thn (ha.h pos pins s σ H _ I h) fun us s1 ⟨vs,H1,I1,r1,q1⟩=>?_) (ay hs) (by rw[ay hs2];rfl)));obtain⟨x,y,e,q⟩:=q1;subst e;obtain⟨u1,u2,rfl,⟨t,rfl⟩,u,rfl⟩:=nR r1;refine kA fun h1 hz hTI hTO hi1 hi2 hk=>wpAny_pyIter_zip (s:={s1 with heap:=h1}) hz ?_
 have J:Inv X pins σ H1 {s1 with heap:=h1}:=I1.kept (t':=s1.toks) hk;have ne:∀i j:Nat,i≠j->s1.heap.objs.size+i≠s1.heap.objs.size+j:=fun i j h e=>h (Nat.add_left_cancel e)
 refine⟨s1.heap.objs.size+4,[s1.heap.objs.size+4,s1.heap.objs.size+2,s1.heap.objs.size+3,s1.heap.objs.size+0,s1.heap.objs.size+1],_,Itz x y,H1,rfl,J,
  uS _ _ _ _ _ x y t u ⟨ne 2 4 (by decide),ne 3 4 (by decide),ne 0 4 (by decide),ne 1 4 (by decide),ne 2 3 (by decide),ne 2 0 (by decide),ne 2 1 (by decide),ne 3 0 (by decide),ne 3 1 (by decide),ne 0 1 (by decide)⟩,
  ⟨hz,hTI,⟨_,_,hTO⟩,hi1,hi2⟩,fun b hb=>?_,q⟩
 have hb':s1.heap.objs.size<=b:=by
  simp only[mem_cons,not_mem_nil,or_false]at hb;rcases hb with rfl|rfl|rfl|rfl|rfl<;> exact le_add_right _ _
 exact I1.fpOk hb' (I1.hok.fresh hb')
noncomputable abbrev z8:R2:=fun x y H Q=>∃z n,x= .str z/\y= .int n/\0<=n/\n<=100000/\z.length<=100/\Q (.str (Txt.mul z n)) H
end
inductive D where
 | non|bl (b:Bool)|int (i:Int)|str (x:Str)|lst (ds:List D)|tup (ds:List D)
mutual
noncomputable def D.beq:D->D->Bool
 | .non,.non=>true
 | .bl a,.bl b=>a==b
 | .bl a,.int b=>(if a then 1 else 0)==b
 | .int a,.bl b=>a==(if b then 1 else 0)
 | .int a,.int b=>a==b
 | .str a,.str b=>a==b
 | .lst as,.lst bs=>D.beqs as bs
 | .tup as,.tup bs=>D.beqs as bs
 | _,_=>false
noncomputable def D.beqs:List D->List D->Bool
 |[],[]=>true
 | a::as,b::bs=>D.beq a b&&D.beqs as bs
 | _,_=>false
end
mutual
noncomputable def D.dep:D->Nat
 | .lst as=>D.deps as+1
 | .tup as=>D.deps as+1
 | _=>0
noncomputable def D.deps:List D->Nat
 |[]=>0
 | a::as=>max (D.dep a) (D.deps as)
end
mutual
noncomputable def Has(K:PySem.W.Frag)(H:Hp):D->V->Prop
 | .non,x=>x= .non
 | .bl b,x=>x= .bl b
 | .int i,x=>x= .int i
 | .str z,x=>x= .str z
 | .lst ds,x=>∃a xs,x= .ref a/\SqL K H a xs/\bK K H ds xs
 | .tup ds,x=>∃a xs,x= .ref a/\SqT K H a xs/\bK K H ds xs
noncomputable def bK(K:PySem.W.Frag)(H:Hp):List D->List V->Prop
 |[],xs=>xs=[]
 | d::ds,xs=>∃y ys,xs=y::ys/\Has K H d y/\bK K H ds ys
end
section
variable{K:PySem.W.Frag}{H H':Hp}
theorem bK.len:∀{ds:List D} {xs:List V},bK K H ds xs->ds.length=xs.length
 |[],_,h=>by simp only[bK]at h;subst h;rfl
 | d::ds,_,h=>by
   simp only[bK]at h;obtain⟨y,ys,rfl,_,h2⟩:=h;rw[V1,V1,bK.len h2]
theorem bK.get:∀{ds:List D} {xs:List V} {i:Nat} {x:V},bK K H ds xs->xs[i]? =some x->∃d,ds[i]? =some d/\Has K H d x
 |[],_,i,x,h,e=>by simp only[bK]at h;subst h;simp at e
 | d::ds,_,i,x,h,e=>by
   simp only[bK]at h;obtain⟨y,ys,rfl,h1,h2⟩:=h;cases i with
   | zero=>simp at e;subst e;exact⟨d,by simp,h1⟩
   | succ i=>
     obtain⟨d',q1,q2⟩:=bK.get (i:=i) h2 (by simpa using e);exact⟨d',by simpa using q1,q2⟩
theorem ag.seqT{a:Addr}{xs:List V}(e:ag H H')(h:SqT K H a xs):SqT K H' a xs:=by
 rcases h with(h|⟨o,h⟩)|h
 ·exact .inl (.inl (e _ _ h))
 ·exact .inl (.inr ⟨o,e _ _ h⟩)
 ·exact .inr h
mutual
theorem ag.has(sm:ag H H'):∀{d:D} {x:V},Has K H d x->Has K H' d x
 | .non,_,h=>by simpa only[Has]using h
 | .bl _,_,h=>by simpa only[Has]using h
 | .int _,_,h=>by simpa only[Has]using h
 | .str _,_,h=>by simpa only[Has]using h
 | .lst ds,_,h=>by
   simp only[Has]at h ⊢;obtain⟨a,xs,e,q,r⟩:=h;exact⟨a,xs,e,sm.seq q,ag.hasL sm r⟩
 | .tup ds,_,h=>by
   simp only[Has]at h ⊢;obtain⟨a,xs,e,q,r⟩:=h;exact⟨a,xs,e,sm.seqT q,ag.hasL sm r⟩
theorem ag.hasL(sm:ag H H'):∀{ds:List D} {xs:List V},bK K H ds xs->bK K H' ds xs
 |[],_,h=>by simpa only[bK]using h
 | d::ds,_,h=>by
   simp only[bK]at h ⊢;obtain⟨y,ys,e,h1,h2⟩:=h;exact⟨y,ys,e,ag.has sm h1,ag.hasL sm h2⟩
end
mutual
theorem D.beq_refl:∀d:D,D.beq d d=true
 | .non=>by simp[D.beq]
 | .bl _=>by simp[D.beq]
 | .int _=>by simp[D.beq]
 | .str _=>by simp[D.beq]
 | .lst ds=>by simp only[D.beq];exact D.beqs_refl ds
 | .tup ds=>by simp only[D.beq];exact D.beqs_refl ds
theorem D.beqs_refl:∀ds:List D,D.beqs ds ds=true
 |[]=>by simp[D.beqs]
 | d::ds=>by simp only[D.beqs];rw[D.beq_refl d,D.beqs_refl ds];rfl
end
theorem D.beqs_all:∀(as bs:List D),as.length=bs.length->(List.range as.length).all (fun j=>D.beq (as.getD j .non) (bs.getD j .non))=D.beqs as bs
 |[],[],_=>by simp[D.beqs]
 | a::as,b::bs,h=>by
   have ih:=D.beqs_all as bs (by simpa using h);rw[V1,List.range_succ_eq_map,all_cons,all_map];simp only[D.beqs];rw[<-ih];rfl
theorem D.beqs_len:∀{as bs:List D},as.length≠bs.length->D.beqs as bs=false
 |[],[],h=>absurd rfl h
 |[],_::_,_=>by simp[D.beqs]
 | _::_,[],_=>by simp[D.beqs]
 | a::as,b::bs,h=>by
   simp only[D.beqs];rw[D.beqs_len (as:=as) (bs:=bs) (by simpa using h),Bool.and_false]
end
section
variable{X:Cx}{pins:List (Addr×Obj)}{σ:St}{H:Hp}{s:Shared}
theorem Inv.seq_apart(I:Inv X pins σ H s){a b:Addr}{xs ys:List V}(h:SqL X.K H a xs)(h':SqT X.K H b ys):a≠b:=by
 obtain⟨its,r,p,_⟩:=I.list h;obtain⟨its',r',p',_⟩:=I.tuple h';exact ne_of_list_tuple p.isList p'
mutual
theorem Has.inj(I:Inv X pins σ H s):∀{d e:D} {x:V},Has X.K H d x->Has X.K H e x->D.beq d e=true
 | .non,e,x,h,h'=>by
   simp only[Has]at h;subst h;cases e<;> simp only[Has]at h'<;> first|rfl|(obtain⟨_,_,q,_⟩:=h';cases q)|cases h'
   all_goals simp[D.beq]
 | .bl b,e,x,h,h'=>by
   simp only[Has]at h;subst h;cases e<;> simp only[Has]at h'<;> first|(obtain⟨_,_,q,_⟩:=h';cases q)|cases h'
   all_goals simp[D.beq]
 | .int i,e,x,h,h'=>by
   simp only[Has]at h;subst h;cases e<;> simp only[Has]at h'<;> first|(obtain⟨_,_,q,_⟩:=h';cases q)|cases h'
   all_goals simp[D.beq]
 | .str z,e,x,h,h'=>by
   simp only[Has]at h;subst h;cases e<;> simp only[Has]at h'<;> first|(obtain⟨_,_,q,_⟩:=h';cases q)|cases h'
   all_goals simp[D.beq]
 | .lst ds,e,x,h,h'=>by
   simp only[Has]at h;obtain⟨a,xs,rfl,q,r⟩:=h;cases e with
   | lst es=>
     simp only[Has]at h';obtain⟨b,ys,e,q',r'⟩:=h';cases e;have e:=I.list_inj q q';subst e;simp only[D.beq];exact bK.inj I r r'
   | tup es=>
     simp only[Has]at h';obtain⟨b,ys,e,q',r'⟩:=h';cases e;exact absurd rfl (I.seq_apart q q')
   | _=>simp only[Has]at h';cases h'
 | .tup ds,e,x,h,h'=>by
   simp only[Has]at h;obtain⟨a,xs,rfl,q,r⟩:=h;cases e with
   | tup es=>
     simp only[Has]at h';obtain⟨b,ys,e,q',r'⟩:=h';cases e;have e:=I.tuple_inj q q';subst e;simp only[D.beq];exact bK.inj I r r'
   | lst es=>
     simp only[Has]at h';obtain⟨b,ys,e,q',r'⟩:=h';cases e;exact absurd rfl (I.seq_apart q' q)
   | _=>simp only[Has]at h';cases h'
theorem bK.inj(I:Inv X pins σ H s):∀{ds es:List D} {xs:List V},bK X.K H ds xs->bK X.K H es xs->D.beqs ds es=true
 |[],es,xs,h,h'=>by
  simp only[bK]at h;subst h;cases es with
  | nil=>simp[D.beqs]
  | cons e es=>simp only[bK]at h';obtain⟨_,_,q,_⟩:=h';cases q
 | d::ds,es,xs,h,h'=>by
   simp only[bK]at h;obtain⟨y,ys,rfl,h1,h2⟩:=h;cases es with
   | nil=>simp only[bK]at h';cases h'
   | cons e es=>
     simp only[bK]at h';obtain⟨y',ys',q,h1',h2'⟩:=h';cases q;simp only[D.beqs];rw[Has.inj I h1 h1',bK.inj I h2 h2'];rfl
end
theorem iC{A:Around}{ds es:List D}{xs ys:List V}{us vs:List Value}(hx:bK X.K H ds xs)(hy:bK X.K H es ys)(rx:aH xs us)(ry:aH ys vs)
 (ih:∀(j:Nat) d e x y u v,ds[j]? =some d->es[j]? =some e->Has X.K H d x->Has X.K H e y->aE x u->aE y v->EqAt A s u v (D.beq d e)) (j:Nat) (h1:j<us.toArray.size) (h2:j<vs.toArray.size):
 EqAt A s us.toArray[j] vs.toArray[j] (D.beq (ds.getD j .non) (es.getD j .non)):=by
 have l1:j<us.length:=by simpa using h1
 have l2:j<vs.length:=by simpa using h2
 have lx:j<xs.length:=by rw[rx.length];exact l1
 have ly:j<ys.length:=by rw[ry.length];exact l2
 obtain⟨d,hd,hd'⟩:=hx.get (i:=j) (x:=xs[j]) (by simp[lx]);obtain⟨e,he,he'⟩:=hy.get (i:=j) (x:=ys[j]) (by simp[ly]);obtain⟨u,hu,ru⟩:=rx.get (i:=j) (x:=xs[j]) (by simp[lx]);obtain⟨v,hv,rv⟩:=ry.get (i:=j) (x:=ys[j]) (by simp[ly]);have eu:us.toArray[j]=u:=by
  have:us[j]? =some us[j]:=by simp[l1]
  rw[this]at hu;simpa using X1 hu
 have ev:vs.toArray[j]=v:=by
  have:vs[j]? =some vs[j]:=by simp[l2]
  rw[this]at hv;simpa using X1 hv
 rw[eu,ev,X3,X3,hd,he];exact ih j d e _ _ u v hd he hd' he' ru rv
theorem uY(I:Inv X pins σ H s){A:Around}{ds es:List D}{xs ys:List V}{a b:Addr}(qx:SqL X.K H a xs)(hx:bK X.K H ds xs)(qy:SqL X.K H b ys)(hy:bK X.K H es ys)(hu:A.units<cLine)
 (ih:∀(j:Nat) d e x y u v,ds[j]? =some d->es[j]? =some e->Has X.K H d x->Has X.K H e y->aE x u->aE y v->EqAt A.in1 s u v (D.beq d e)):RcAt A s (.ref a) (.ref b) (D.beqs ds es):=by
 obtain⟨us,rx,px,_⟩:=I.list qx;obtain⟨vs,ry,py,_⟩:=I.list qy;have n1:us.toArray.size=ds.length:=by rw[W9,<-rx.length,hx.len]
 have n2:vs.toArray.size=es.length:=by rw[W9,<-ry.length,hy.len]
 by_cases hl:ds.length=es.length
 ·rw[<-D.beqs_all ds es hl,<-n1];exact RcAt.lists px.isList py.isList (by rw[n1,n2,hl]) hu (iC hx hy rx ry ih)
 ·rw[D.beqs_len hl];exact RcAt.lists_lengths px.isList py.isList (by rw[n1,n2];simpa using hl) hu
theorem wV(I:Inv X pins σ H s){A:Around}{ds es:List D}{xs ys:List V}{a b:Addr}(qx:SqT X.K H a xs)(hx:bK X.K H ds xs)(qy:SqT X.K H b ys)(hy:bK X.K H es ys)(hu:A.units<cLine)
 (ih:∀(j:Nat) d e x y u v,ds[j]? =some d->es[j]? =some e->Has X.K H d x->Has X.K H e y->aE x u->aE y v->EqAt A.in1 s u v (D.beq d e)):RcAt A s (.ref a) (.ref b) (D.beqs ds es):=by
 obtain⟨us,rx,px,_⟩:=I.tuple qx;obtain⟨vs,ry,py,_⟩:=I.tuple qy;have n1:us.toArray.size=ds.length:=by rw[W9,<-rx.length,hx.len]
 have n2:vs.toArray.size=es.length:=by rw[W9,<-ry.length,hy.len]
 have main:=RcAt.tuples (A:=A) (s:=s) (l:=a) (b:=b) (items:=us.toArray) (items2:=vs.toArray) px py hu (iC hx hy rx ry ih);rw[n1,n2]at main;by_cases hl:ds.length=es.length
 ·rw[<-hl,Nat.min_self,D.beqs_all ds es hl]at main;simpa using main
 ·rw[D.beqs_len hl];have e:(ds.length==es.length)=false:=by simpa using hl
  rw[e,Bool.and_false]at main;exact main
theorem cI:∀{ds:List D} {j:Nat} {d:D},ds[j]? =some d->D.dep d<=D.deps ds
 |[],_,_,h=>by simp at h
 | a::as,0,d,h=>by
   simp at h;subst h;simp only[D.deps];exact Nat.le_max_left _ _
 | a::as,j+1,d,h=>by
   have:=cI (ds:=as) (j:=j) (d:=d) (by simpa using h);simp only[D.deps];exact le_trans this (Nat.le_max_right _ _)
theorem n6(I:Inv X pins σ H s):∀(n:Nat) {d e:D} {x y:V} {u v:Value} {A:Around},D.dep d<=n->A.units+n<cLine->Has X.K H d x->Has X.K H e y->aE x u->aE y v->EqAt A s u v (D.beq d e):=by
 intro n
 induction n with
 | zero=>
   intro d e x y u v A hn hu hx hy rx ry;have hu':A.units<cLine:=by lia
   cases d with
   | lst ds=>exact absurd hn (by simp[D.dep])
   | tup ds=>exact absurd hn (by simp[D.dep])
   | non=>
     simp only[Has]at hx;subst hx;cases rx;cases e with
     | non=>simp only[Has]at hy;subst hy;cases ry;simp only[D.beq];exact EqAt.same _
     | bl j=>simp only[Has]at hy;subst hy;cases ry;simp only[D.beq];exact EqAt.none_bool _
     | int j=>simp only[Has]at hy;subst hy;obtain⟨_,rfl⟩:=ry;simp only[D.beq];exact EqAt.none_int _ _
     | str j=>simp only[Has]at hy;subst hy;obtain⟨_,rfl⟩:=ry;simp only[D.beq];exact EqAt.none_str _ _
     | lst j=>simp only[Has]at hy;obtain⟨b,ys,rfl,q,_⟩:=hy;cases ry;obtain⟨vs,_,p,_⟩:=I.list q;simp only[D.beq];exact EqAt.none_list p.isList hu'
     | tup j=>simp only[Has]at hy;obtain⟨b,ys,rfl,q,_⟩:=hy;cases ry;obtain⟨vs,_,p,_⟩:=I.tuple q;simp only[D.beq];exact EqAt.none_tuple p hu'
   | bl i=>
     simp only[Has]at hx;subst hx;cases rx;cases e with
     | non=>simp only[Has]at hy;subst hy;cases ry;simp only[D.beq];exact EqAt.bool_none _
     | bl j=>simp only[Has]at hy;subst hy;cases ry;simp only[D.beq];exact EqAt.bool_bool _ _
     | int j=>simp only[Has]at hy;subst hy;obtain⟨_,rfl⟩:=ry;simp only[D.beq];exact EqAt.bool_int _ _ _
     | str j=>simp only[Has]at hy;subst hy;obtain⟨_,rfl⟩:=ry;simp only[D.beq];exact EqAt.bool_str _ _ _
     | lst j=>simp only[Has]at hy;obtain⟨b,ys,rfl,q,_⟩:=hy;cases ry;obtain⟨vs,_,p,_⟩:=I.list q;simp only[D.beq];exact EqAt.bool_list _ p.isList hu'
     | tup j=>simp only[Has]at hy;obtain⟨b,ys,rfl,q,_⟩:=hy;cases ry;obtain⟨vs,_,p,_⟩:=I.tuple q;simp only[D.beq];exact EqAt.bool_tuple _ p hu'
   | int i=>
     simp only[Has]at hx;subst hx;obtain⟨_,rfl⟩:=rx;cases e with
     | non=>simp only[Has]at hy;subst hy;cases ry;simp only[D.beq];exact EqAt.int_none _ _
     | bl j=>simp only[Has]at hy;subst hy;cases ry;simp only[D.beq];exact EqAt.int_bool _ _ _
     | int j=>simp only[Has]at hy;subst hy;obtain⟨_,rfl⟩:=ry;simp only[D.beq];exact EqAt.int_int _ _ _ _
     | str j=>simp only[Has]at hy;subst hy;obtain⟨_,rfl⟩:=ry;simp only[D.beq];exact EqAt.int_str _ _ _ _
     | lst j=>simp only[Has]at hy;obtain⟨b,ys,rfl,q,_⟩:=hy;cases ry;obtain⟨vs,_,p,_⟩:=I.list q;simp only[D.beq];exact EqAt.int_list _ _ p.isList hu'
     | tup j=>simp only[Has]at hy;obtain⟨b,ys,rfl,q,_⟩:=hy;cases ry;obtain⟨vs,_,p,_⟩:=I.tuple q;simp only[D.beq];exact EqAt.int_tuple _ _ p hu'
   | str i=>
     simp only[Has]at hx;subst hx;obtain⟨_,rfl⟩:=rx;cases e with
     | non=>simp only[Has]at hy;subst hy;cases ry;simp only[D.beq];exact EqAt.str_none _ _
     | bl j=>simp only[Has]at hy;subst hy;cases ry;simp only[D.beq];exact EqAt.str_bool _ _ _
     | int j=>simp only[Has]at hy;subst hy;obtain⟨_,rfl⟩:=ry;simp only[D.beq];exact EqAt.str_int _ _ _ _
     | str j=>simp only[Has]at hy;subst hy;obtain⟨_,rfl⟩:=ry;simp only[D.beq];exact EqAt.str_str _ _ _ _
     | lst j=>simp only[Has]at hy;obtain⟨b,ys,rfl,q,_⟩:=hy;cases ry;obtain⟨vs,_,p,_⟩:=I.list q;simp only[D.beq];exact EqAt.str_list _ _ p.isList hu'
     | tup j=>simp only[Has]at hy;obtain⟨b,ys,rfl,q,_⟩:=hy;cases ry;obtain⟨vs,_,p,_⟩:=I.tuple q;simp only[D.beq];exact EqAt.str_tuple _ _ p hu'
 | succ n ih=>
   intro d e x y u v A hn hu hx hy rx ry;by_cases h0:D.dep d<=n
   ·exact ih h0 (by lia) hx hy rx ry
   have hu':A.units<cLine:=by lia
   cases d with
   | lst ds=>
     simp only[Has]at hx;obtain⟨a,xs,rfl,q,r⟩:=hx;cases rx;have hd:D.deps ds<=n:=by simp only[D.dep]at hn;lia
     cases e with
     | lst es=>
       simp only[Has]at hy;obtain⟨b,ys,rfl,q',r'⟩:=hy;cases ry;simp only[D.beq];by_cases hab:a=b
       ·subst hab;have e:=I.list_inj q q';subst e;rw[bK.inj I r r'];exact EqAt.same _
       ·exact EqAt.of_refs hab (uY I q r q' r' hu' fun j d e x y u v hd' he' hdx hey ru rv=>ih (le_trans (cI hd') hd) (by show A.units+1+n<cLine;lia) hdx hey ru rv)
     | tup es=>
       simp only[Has]at hy;obtain⟨b,ys,rfl,q',_⟩:=hy;cases ry;obtain⟨us,_,p,_⟩:=I.list q;obtain⟨vs,_,p',_⟩:=I.tuple q';simp only[D.beq];exact EqAt.list_tuple p.isList p' hu'
     | non=>simp only[Has]at hy;subst hy;cases ry;obtain⟨us,_,p,_⟩:=I.list q;simp only[D.beq];exact EqAt.list_none p.isList hu'
     | bl k=>simp only[Has]at hy;subst hy;cases ry;obtain⟨us,_,p,_⟩:=I.list q;simp only[D.beq];exact EqAt.list_bool _ p.isList hu'
     | int k=>simp only[Has]at hy;subst hy;obtain⟨t',rfl⟩:=ry;obtain⟨us,_,p,_⟩:=I.list q;simp only[D.beq];exact EqAt.list_int _ _ p.isList hu'
     | str k=>simp only[Has]at hy;subst hy;obtain⟨t',rfl⟩:=ry;obtain⟨us,_,p,_⟩:=I.list q;simp only[D.beq];exact EqAt.list_str _ _ p.isList hu'
   | tup ds=>
     simp only[Has]at hx;obtain⟨a,xs,rfl,q,r⟩:=hx;cases rx;have hd:D.deps ds<=n:=by simp only[D.dep]at hn;lia
     cases e with
     | tup es=>
       simp only[Has]at hy;obtain⟨b,ys,rfl,q',r'⟩:=hy;cases ry;simp only[D.beq];by_cases hab:a=b
       ·subst hab;have e:=I.tuple_inj q q';subst e;rw[bK.inj I r r'];exact EqAt.same _
       ·exact EqAt.of_refs hab (wV I q r q' r' hu' fun j d e x y u v hd' he' hdx hey ru rv=>ih (le_trans (cI hd') hd) (by show A.units+1+n<cLine;lia) hdx hey ru rv)
     | lst es=>
       simp only[Has]at hy;obtain⟨b,ys,rfl,q',_⟩:=hy;cases ry;obtain⟨us,_,p,_⟩:=I.tuple q;obtain⟨vs,_,p',_⟩:=I.list q';simp only[D.beq];exact EqAt.tuple_list p p'.isList hu'
     | non=>simp only[Has]at hy;subst hy;cases ry;obtain⟨us,_,p,_⟩:=I.tuple q;simp only[D.beq];exact EqAt.tuple_none p hu'
     | bl k=>simp only[Has]at hy;subst hy;cases ry;obtain⟨us,_,p,_⟩:=I.tuple q;simp only[D.beq];exact EqAt.tuple_bool _ p hu'
     | int k=>simp only[Has]at hy;subst hy;obtain⟨t',rfl⟩:=ry;obtain⟨us,_,p,_⟩:=I.tuple q;simp only[D.beq];exact EqAt.tuple_int _ _ p hu'
     | str k=>simp only[Has]at hy;subst hy;obtain⟨t',rfl⟩:=ry;obtain⟨us,_,p,_⟩:=I.tuple q;simp only[D.beq];exact EqAt.tuple_str _ _ p hu'
   | _=>exact absurd (zero_le n) h0
end
open PySem PySem.Spec PyProof.Rows PySem.SeqAt
theorem qh{X:Cx}{i:Nat}{x:Str}{px pos':Pos}{tg iter elt:Expr}{ifs:List Expr}{scope:Scope}{pos:Pos}{N':List Str}{cap:List (Nat×Nat)}{wi:TI}{g:TG}{tc:TT}{te:TE}(hN:X.N.Nodup)(hxi:X.N[i]? =some x)(hx:Loc X.env.scope x)(hf:X.fn x=true\/X.env.scope.names.lookup x=some .local)
 (hsw:swapsWith (.ListComp elt [⟨tg,iter,ifs,0⟩] scope pos) (some (.Name x px)) pos'.line X.env=pure true) (S:aG X scope N' cap) (hc:X.calm=true) (hs:∀x,foldedSetIterable iter X.env x=pure x) (hi:PI X tg iter wi)
 (hg:∀s₃ H₃ fp,PG (be X scope N' s₃ H₃ fp) tg g) (ht:∀s₃ H₃ fp,PTs (be X scope N' s₃ H₃ fp) ifs tc) (he:∀s₃ H₃ fp,PE (be X scope N' s₃ H₃ fp) elt te):
 PS X (.Assign [.Name x px] (.ListComp elt [⟨tg,iter,ifs,0⟩] scope pos) pos') (nP (lT wi N'.length cap g tc te) (ju i)):=by
 intro pins s σ H D I h;rw[arm_exec_Assign];refine Y2 (wpAny_standAt ?_);show wpAny _ _ (swapsWith (.ListComp elt [⟨tg,iter,ifs,0⟩] scope pos) (some (.Name x px)) pos'.line X.env>>= _) _ _ _;rw[hsw];refine Y2 (Y3 ?_);rw[if_pos rfl,arm_evalThenUse_ListComp];refine Y2 (Y2 (lU (QQ:=fun _ s'=>wpAny (model X.prog X.w) X.A (pure ()) (fun _ s2=>wpAny (model X.prog X.w) X.A (pure Flow.next) (SP X pins D) X.xe s2) X.xe s') S hc hi hg ht he hs I h fun D' C H5 s6 fl m hn fp k q=>?_));have I6:Inv X pins σ H5 s6:=k s6.heap (SameBut.refl _ _);obtain⟨o,es,ep,ho,hd,hr⟩:=id hn;have I7:Inv X (pins++i5 [C] s6.heap) σ H5 s6:=I6.pinned (fun b hb=>by rw[mem_singleton.mp hb];exact fp) fun b hb=>by
  rw[mem_singleton.mp hb];exact⟨o,ho,fun v z=>by rw[hd]at z;cases z⟩
 show wpAny _ _ (assignAll (.ref D') [assign (.Name x px) X.env]) _ _ _;show wpAny _ _ (assign (.Name x px) X.env (.ref D')) _ _ _;refine wpAny_assign_Name (kc I7 hN hxi hx (v:= .ref D') (u:= .ref D') rfl (fun s8 I8=>?_) hf);have hC:s8.heap.get? C=some o:=(I8.pin (C,o) (mem_append_right _ (mem_append_right _ (d5 (mem_singleton.mpr rfl) ho)))).1;refine⟨m,⟨o,es,ep,hC,hd,hr⟩,fun h' sb=>?_⟩;refine Y3 (Y3 ⟨_,H5,?_,q⟩);refine(I8.unpinned).moved (fp:=[C]) (tk:=s8.toks) (fun b hb=>by rw[mem_singleton.mp hb];exact fp) fun b o' hb e=>(sb.2 b (fun z=>hb (mem_singleton.mpr z))).trans e
theorem sE{elt:Expr}{gens:List Comprehension}{scope:Scope}{pos px:Pos}{x:Str}{l:Nat}{env:Env}(h:(env.blockKind== .function&&env.kindOf x==some .local&&px.line==pos.line&&!(scope.names.any fun(n,k)=>n==x&&(k== .local||k== .cell)))=true):
 swapsWith (.ListComp elt gens scope pos) (some (.Name x px)) l env=pure true:=by
 show(pure (env.blockKind== .function&&env.kindOf x==some .local&&px.line==pos.line&&!(scope.names.any fun(n,k)=>n==x&&(k== .local||k== .cell))):Sem Bool)=pure true;rw[h]
theorem n8{X:Cx}(i:Nat){x:Str}{px pos':Pos}{tg iter elt:Expr}{ifs:List Expr}{scope:Scope}{pos:Pos}{N':List Str}{cap:List (Nat×Nat)}{wi:TI}{g:TG}{tc:TT}{te:TE}(hN:X.N.Nodup)(hxi:X.N[i]? =some x)(hx:Loc X.env.scope x)(hf:X.fn x=true\/X.env.scope.names.lookup x=some .local)
 (hsw:(X.env.blockKind== .function&&X.env.kindOf x==some .local&&px.line==pos.line&&!(scope.names.any fun(n,k)=>n==x&&(k== .local||k== .cell)))=true) (S:aG X scope N' cap) (hc:X.calm=true) (hs:kx iter=false) (hi:QI X tg iter wi)
 (hg:∀s₃ H₃ fp,QG (be X scope N' s₃ H₃ fp) tg g) (ht:∀s₃ H₃ fp,QTs (be X scope N' s₃ H₃ fp) ifs tc) (he:∀s₃ H₃ fp,QE (be X scope N' s₃ H₃ fp) elt te):
 QS X (.Assign [.Name x px] (.ListComp elt [⟨tg,iter,ifs,0⟩] scope pos) pos') (nP (lT wi N'.length cap g tc te) (ju i)):=
 ⟨qh hN hxi hx hf (sE hsw) S hc (jb hs) hi.h (fun s₃ H₃ fp=>(hg s₃ H₃ fp).h) (fun s₃ H₃ fp=>(ht s₃ H₃ fp).h) (fun s₃ H₃ fp=>(he s₃ H₃ fp).h)⟩
section
variable{X:Cx}{pins:List (Addr×Obj)}{σ:St}{H:Hp}{s:Shared}
theorem uZ(I:Inv X pins σ H s){A:Around}{ds es:List D}{xs ys:List V}{a b:Addr}(qx:SqL X.K H a xs)(hx:bK X.K H ds xs)(qy:SqL X.K H b ys)(hy:bK X.K H es ys)(hu:A.units<cLine)
 (ih:∀(j:Nat) d e x y u v,ds[j]? =some d->es[j]? =some e->Has X.K H d x->Has X.K H e y->aE x u->aE y v->EqAt A.in1 s u v (D.beq d e)):RcNeAt A s (.ref a) (.ref b) (!D.beqs ds es):=by
 obtain⟨us,rx,px,_⟩:=I.list qx;obtain⟨vs,ry,py,_⟩:=I.list qy;have n1:us.toArray.size=ds.length:=by rw[W9,<-rx.length,hx.len]
 have n2:vs.toArray.size=es.length:=by rw[W9,<-ry.length,hy.len]
 by_cases hl:ds.length=es.length
 ·rw[<-D.beqs_all ds es hl,<-n1];exact RcNeAt.lists px.isList py.isList (by rw[n1,n2,hl]) hu (iC hx hy rx ry ih)
 ·rw[D.beqs_len hl];exact RcNeAt.lists_lengths px.isList py.isList (by rw[n1,n2];simpa using hl) hu
theorem wW(I:Inv X pins σ H s){A:Around}{ds es:List D}{xs ys:List V}{a b:Addr}(qx:SqT X.K H a xs)(hx:bK X.K H ds xs)(qy:SqT X.K H b ys)(hy:bK X.K H es ys)(hu:A.units<cLine)
 (ih:∀(j:Nat) d e x y u v,ds[j]? =some d->es[j]? =some e->Has X.K H d x->Has X.K H e y->aE x u->aE y v->EqAt A.in1 s u v (D.beq d e)):RcNeAt A s (.ref a) (.ref b) (!D.beqs ds es):=by
 obtain⟨us,rx,px,_⟩:=I.tuple qx;obtain⟨vs,ry,py,_⟩:=I.tuple qy;have n1:us.toArray.size=ds.length:=by rw[W9,<-rx.length,hx.len]
 have n2:vs.toArray.size=es.length:=by rw[W9,<-ry.length,hy.len]
 have main:=RcNeAt.tuples (A:=A) (s:=s) (l:=a) (b:=b) (items:=us.toArray) (items2:=vs.toArray) px py hu (iC hx hy rx ry ih);rw[n1,n2]at main;by_cases hl:ds.length=es.length
 ·rw[<-hl,Nat.min_self,D.beqs_all ds es hl]at main;simpa using main
 ·rw[D.beqs_len hl];have e:(ds.length==es.length)=false:=by simpa using hl
  rw[e,Bool.and_false]at main;exact main
end
section
variable{X:Cx}{K:PySem.W.Frag}
noncomputable abbrev z9(K:PySem.W.Frag):R2:=fun x y H Q=>∃ds es,Has K H (.lst ds) x/\Has K H (.lst es) y/\D.deps ds<=40/\Q (.bl (D.beqs ds es)) H
noncomputable abbrev Aa(K:PySem.W.Frag):R2:=fun x y H Q=>∃ds es,Has K H (.tup ds) x/\Has K H (.tup es) y/\D.deps ds<=40/\Q (.bl (D.beqs ds es)) H
noncomputable abbrev zc(K:PySem.W.Frag):R2:=fun x y H Q=>∃ds es,Has K H (.lst ds) x/\Has K H (.lst es) y/\D.deps ds<=40/\Q (.bl (!D.beqs ds es)) H
noncomputable abbrev zd(K:PySem.W.Frag):R2:=fun x y H Q=>∃ds es,Has K H (.tup ds) x/\Has K H (.tup es) y/\D.deps ds<=40/\Q (.bl (!D.beqs ds es)) H
theorem ze(hu:X.A.units+64<cLine):OpR X (compareOp .NotEq) (zc X.K):=by
 intro pins s σ H x y v u Q I rx ry h;obtain⟨ds,es,hx,hy,hd,q⟩:=h;simp only[Has]at hx hy;obtain⟨a,xs,rfl,qx,hx⟩:=hx;obtain⟨b,ys,rfl,qy,hy⟩:=hy;cases rx;cases ry;exact uZ I qx hx qy hy (by lia) (fun j d e x y u v hd' he' hdx hey ru rv=>n6 I 40 (le_trans (cI hd') hd) (by show X.A.units+1+40<cLine;lia) hdx hey ru rv) _ _ _ _ ⟨.bl _,H,I,rfl,q⟩
theorem zf(hu:X.A.units+64<cLine):OpR X (compareOp .NotEq) (zd X.K):=by
 intro pins s σ H x y v u Q I rx ry h;obtain⟨ds,es,hx,hy,hd,q⟩:=h;simp only[Has]at hx hy;obtain⟨a,xs,rfl,qx,hx⟩:=hx;obtain⟨b,ys,rfl,qy,hy⟩:=hy;cases rx;cases ry;exact wW I qx hx qy hy (by lia) (fun j d e x y u v hd' he' hdx hey ru rv=>n6 I 40 (le_trans (cI hd') hd) (by show X.A.units+1+40<cLine;lia) hdx hey ru rv) _ _ _ _ ⟨.bl _,H,I,rfl,q⟩
noncomputable abbrev rEqB(K:PySem.W.Frag):R2:=fun x y H Q=>rEq x y H Q\/(z9 K x y H Q\/Aa K x y H Q)
noncomputable abbrev Ab(K:PySem.W.Frag):R2:=fun x y H Q=>rNe x y H Q\/(zc K x y H Q\/zd K x y H Q)
theorem xJ{k:Nat}(h:X.K=K)(hr:cr k X.A):OpQ X (compareOp .NotEq) (Ab K):=by subst h;exact⟨xy.or ((ze hr.units).or (zf hr.units))⟩
end
open PySem PySem.Spec PyProof.Rows
theorem bp:Slot "set_iterator" "__next__" "set_iterator.__next__":=
 .of (owner:="set_iterator") (n:="__next__") (by rw[typeLookup_type,builtinLookup_eq_fast];kernel_rfl) (by decide +kernel) (by decide +kernel) (by decide +kernel) (by first|exact .inl (by decide +kernel)|exact .inr (by decide +kernel)) (by rw[isSubtype_type];kernel_rfl)
theorem eW:entryFor table "set_iterator.__next__"=some Builtin.«set_iterator.__next__»:=entryFor_of_tree (by kernel_rfl)
theorem fM(a:Value):argsOk "set_iterator.__next__" ⟨[a],[]⟩:=by unfold argsOk;kernel_rfl
theorem gU:entryFor table "set.__iter__"=some Builtin.«frozenset.__iter__»:=entryFor_alias (id':="frozenset.__iter__") (by kernel_rfl) rfl (by decide +kernel) (by kernel_rfl)
theorem lB(t:SetTable)(n:Nat):(t.orStandIn n).led=t.led:=by unfold SetTable.orStandIn;split<;> rfl
theorem qj(t:SetTable)(es:Array (Int×Value))(h:Int)(x:Value):(layNew t es h x).2.1.led=t.led:=by
 unfold layNew;cases t.freeSlot h with
 | none=>rfl
 | some p=>
   obtain⟨sl,d⟩:=p;exact lB (t.put sl).1 _
theorem m7(t:SetTable)(es:Array (Int×Value))(n:Nat):(relayAll t es n).2.1.led=t.led:=by
 unfold relayAll;cases hr:t.relaid (es.map (·.1)) n with
 | none=>rfl
 | some p=>
   obtain⟨t',ord⟩:=p;simp only
   split
   ·simp only[SetTable.relaid,SetTable.laid]at hr;cases hc:SetTable.layClean (SetTable.sizeAbove n-1) (es.map (·.1))with
    | none=>rw[hc]at hr;cases hr
    | some ow=>rw[hc]at hr;injection hr with hr;injection hr with h1 h2;rw[<-h1]
   ·rfl
theorem kB(t:SetTable)(es:Array (Int×Value))(n:Nat)(hp:t.plain=false):(relayAll t es n).2.1.plain=false:=by
 unfold relayAll;cases hr:t.relaid (es.map (·.1)) n with
 | none=>rfl
 | some p=>
   obtain⟨t',ord⟩:=p;simp only
   split
   ·simp only[SetTable.relaid,SetTable.laid]at hr;cases hc:SetTable.layClean (SetTable.sizeAbove n-1) (es.map (·.1))with
    | none=>rw[hc]at hr;cases hr
    | some ow=>rw[hc]at hr;injection hr with hr;injection hr with h1 h2;rw[<-h1];exact hp
   ·rfl
noncomputable def aN(w:World):Bool:=w.params.followText "set-order"
noncomputable def dN(w:World)(a:Addr)(ks:List Str)(h:Heap):Prop:=
 ∃o es ep t ss,h.get? a=some o/\o.ExactSet/\o.data= .set es ep t/\StrsAre (es.toList.map (·.2)) ss/\ss.Perm ks/\ks.Nodup/\(∀e∈es.toList,∃z u,e=(hashStr w z,.str z u))/\es.size<scanBound/\t.fits es.size=true/\(es.size≠0->t.plain=false)/\t.led=!aN w
theorem sF{prog:Program}{w:World}{l:List (Int×Value)}(h:∀e∈l,∃z u,e=(hashStr w z,.str z u)):ElemsOf (aM prog w) l:=fun e he=>by
 obtain⟨z,u,rfl⟩:=h e he;exact⟨⟨Sum.inr z,eT z u,rfl⟩,rfl⟩
theorem jD:∀{vs:List Value} {ss:List Str} {z:Str},StrsAre vs ss->((∃u,Value.str z u∈vs)↔z∈ss)
 | _,_,z,.nil=>by simp
 | _,_,z,.cons x t h=>by
   have ih:=jD (z:=z) h
   constructor
   ·rintro⟨u,hu⟩;rcases mem_cons.mp hu with e|e
    ·injection e with e1 _;rw[e1];exact W6
    ·exact W4 _ (ih.mp ⟨u,e⟩)
   ·intro hz;rcases mem_cons.mp hz with e|e
    ·rw[e];exact⟨t,W6⟩
    ·obtain⟨u,hu⟩:=ih.mpr e;exact⟨u,W4 _ hu⟩
theorem fX:∀{vs ws:List Value} {ss ts:List Str},StrsAre vs ss->StrsAre ws ts->StrsAre (vs++ws) (ss++ts)
 | _,_,_,_,.nil,h=>h
 | _,_,_,_,.cons x t h,h'=> .cons x t (fX h h')
theorem cg:∀{vs:List Value} {ss:List Str},StrsAre vs ss->vs.length=ss.length
 | _,_,.nil=>rfl
 | _,_,.cons x t h=>by rw[V1,V1,cg h]
theorem dO{vs ws:List Value}{ss:List Str}(h:StrsAre vs ss)(p:ws.Perm vs):∃ts,StrsAre ws ts/\ts.Perm ss:=by
 refine⟨ws.map strOf,strsAre_map ws fun v hv=>h.all v (p.mem_iff.mp hv),?_⟩;have:=p.map strOf;rwa[h.strs]at this
section
variable{prog:Program}{w:World}{A:Around}{E:Value->Shared->Prop}{s:Shared}{a:Addr}
theorem dN.stored{h:Heap}{o:Obj}{es es':Array (Int×Value)}{ep:Nat}{t t':SetTable}{ss ks:List Str}(ho:h.get? a=some o)(hex:o.ExactSet)(hd:o.data= .set es ep t)(h1:StrsAre (es'.toList.map (·.2)) ss)(h2:ss.Perm ks)(h3:ks.Nodup)
 (h4:∀e∈es'.toList,∃z u,e=(hashStr w z,.str z u)) (h5:es'.size<scanBound) (h6:t'.fits es'.size=true) (h7:t'.plain=false) (h8:t'.led=!aN w):
 (h.update a (Obj.putSet es' t')).get? a=some {o with data:= .set es' (ep+1) t'}/\dN w a ks (h.update a (Obj.putSet es' t')):=by
 have hg:(h.update a (Obj.putSet es' t')).get? a=some {o with data:= .set es' (ep+1) t'}:=by
  have q:=get?_update_self (Obj.putSet es' t') ho (by rw[putSet_of es' t' hd];rfl);rwa[putSet_of es' t' hd]at q
 exact⟨hg,_,es',ep+1,t',ss,hg,hex,rfl,h1,h2,h3,h4,h5,h6,fun _=>h7,h8⟩
theorem n9{g:Bool->Sem Unit}(hg:∀(b:Bool) (s₁:Shared) (Q':Unit->Shared->Prop),Q' () s₁->wpAny (model prog w) A (g b) Q' E s₁){o:Obj}{es es1:Array (Int×Value)}{ep:Nat}{t t2:SetTable}{ss ks:List Str}{dum:Bool}{R:Option Bool->Shared->Prop}(ho:s.heap.get? a=some o)(hex:o.ExactSet)(hd:o.data= .set es ep t)
 (h1:StrsAre (es1.toList.map (·.2)) ss) (h2:ss.Perm ks) (h3:ks.Nodup) (h4:∀e∈es1.toList,∃z u,e=(hashStr w z,.str z u)) (h5:es1.size<scanBound) (h6:t2.fits es1.size=true) (h7:t2.plain=false) (h8:t2.led=!aN w)
 (hR:∀h',SameBut a s.heap h'->dN w a ks h'->R (some true) {s with heap:=h'}):
 wpAny (model prog w) A (do
  storeSet a es1 t2
  if(!dum&&t2.tooFull)=true then do
   g (relayAll t2 es1 (SetTable.grown es1.size)).2.2
   storeSet a (relayAll t2 es1 (SetTable.grown es1.size)).1 (relayAll t2 es1 (SetTable.grown es1.size)).2.1
   pure (some true)
  else pure (some true)) R E s:=by
 obtain⟨g1,S1⟩:=dN.stored (w:=w) (es':=es1) (t':=t2) ho hex hd h1 h2 h3 h4 h5 h6 h7 h8;have b1:=SameBut.update s.heap a (Obj.putSet es1 t2);refine Y2 (wpAny_storeSet_of ho hd ?_ (fits_of_scanBound h5))
 split
 ·have p:=relayAll_perm t2 es1 (SetTable.grown es1.size);have f:=relayAll_fits t2 es1 (SetTable.grown es1.size);have l:=m7 t2 es1 (SetTable.grown es1.size);have pl:=kB t2 es1 (SetTable.grown es1.size) h7
  generalize relayAll t2 es1 (SetTable.grown es1.size)=L at p f l pl ⊢
  obtain⟨es2,t3,gv⟩:=L;dsimp only at p f l pl ⊢;have z:es2.size=es1.size:=by rw[<-X2,p.length_eq,X2]
  obtain⟨ts,q1,q2⟩:=dO h1 (p.map (·.2));refine Y2 (hg _ _ _ (Y2 (wpAny_storeSet_of (s:={s with heap:=s.heap.update a (Obj.putSet es1 t2)}) g1 rfl ?_ (fits_of_scanBound (by rw[z];exact h5)))));exact Y3 (hR _ (b1.trans (SameBut.update _ a _)) (dN.stored (w:=w) (es':=es2) (t':=t3) g1 hex rfl q1 (q2.trans h2) h3 (fun e he=>h4 e (p.mem_iff.mp he)) (by rw[z];exact h5) f pl (l.trans h8)).2)
 ·exact Y3 (hR _ b1 S1)
theorem oa{ks:List Str}{z:Str}{tk:Tok}{Q:Bool->Shared->Prop}(hS:dN w a ks s.heap)(hroom:ks.length+1<scanBound)
 (hQ:∀h' b,SameBut a s.heap h'->dN w a (if z∈ks then ks else ks++[z]) h'->Q b {s with heap:=h',toks:=s.toks+1}):wpAny (model prog w) A (setAdd a (.str z tk)) Q E s:=by
 obtain⟨o,es,ep,t,ss,ho,hex,hd,hst,hp,hnd,hel,hb,hf,hpl,hled⟩:=hS;have hn:es.size=ks.length:=by
  have q:=cg hst;rw[Y6,X2,hp.length_eq]at q;exact q
 have hE:ElemsOf (aM prog w) es.toList:=sF hel;have hkey:(aM prog w).is (Sum.inr z) (.str z tk)=true:=eT z tk;unfold setAdd;refine wpAny_holding (Y2 (wpAny_pyHash_str ?_));unfold setAddHashed setAddHashedIn;refine wpAny_holding (Y2 (wpAny_setState_of (s:={s with toks:=s.toks+1}) ho hd hf ?_));dsimp only;rw[byScan_of (knd:=aM prog w) rfl hb hE];simp only[↓reduceIte];unfold setAddByScan;refine Y2 (Y2 (wpAny_rule (Y2 (wpAny_setScan_of (knd:=aM prog w) (k:=Sum.inr z) hkey ho hd hf hE ?_))));have hin:(∃e∈es.toList,(aM prog w).is (Sum.inr z) e.2=true)↔z∈ks:=by
  rw[<-hp.mem_iff,<-jD hst]
  constructor
  ·rintro⟨e,he,q⟩;obtain⟨y,u,rfl⟩:=hel e he;have q:jt (Sum.inr z) (Value.str y u)=true:=q;rcases bj q with⟨i,t',q1,q2⟩|⟨y',t',q1,q2⟩
   ·cases q2
   ·cases q1;exact⟨u,mem_map.mpr ⟨_,he,by injection q2 with e1 _;rw[e1]⟩⟩
  ·rintro⟨u,hu⟩;obtain⟨e,he,q⟩:=mem_map.mp hu;exact⟨e,he,by rw[q];exact eT z u⟩
 cases hr:List.findIdx? (fun e=>(aM prog w).is (Sum.inr z) e.2) es.toList with
 | some j=>
   obtain⟨hj,hpj,_⟩:=List.findIdx?_eq_some_iff_getElem.mp hr;have hz:z∈ks:=hin.mp ⟨es.toList[j],getElem_mem hj,hpj⟩;dsimp only;have q:=hQ s.heap false (SameBut.refl a s.heap) (by rw[if_pos hz];exact⟨o,es,ep,t,ss,ho,hex,hd,hst,hp,hnd,hel,hb,hf,hpl,hled⟩);exact Y3 (Y3 q)
 | none=>
   have hz:z∉ks:=fun q=>by
    obtain⟨e,he,q2⟩:=hin.mpr q;have:=List.findIdx?_eq_none_iff.mp hr e he;rw[q2]at this;cases this
   rw[if_neg hz]at hQ;dsimp only;have lp:=layNew_perm t es (hashStr w z) (.str z tk);have lf:=layNew_fits t es (hashStr w z) (.str z tk);have ll:=qj t es (hashStr w z) (.str z tk)
   generalize hL:layNew t es (hashStr w z) (.str z tk)=L at lp lf ll
   obtain⟨es1,t1,dum,gave⟩:=L;dsimp only at lp lf ll ⊢;rw[toList_push]at lp;have gone:∀(b:Bool) (s₁:Shared) (Q':Unit->Shared->Prop),Q' () s₁->wpAny (model prog w) A (match b with|true=>rule "set.scan.the-table-gave-way"|false=>pure ()) Q' E s₁:=fun b s₁ Q' q=>by
    cases b
    ·exact Y3 q
    ·exact wpAny_rule q
   have hel1:∀e∈es1.toList,∃z u,e=(hashStr w z,.str z u):=fun e he=>by
    rcases mem_append.mp (lp.mem_iff.mp he)with q|q
    ·exact hel e q
    ·rw[mem_singleton.mp q];exact⟨z,tk,rfl⟩
   have q1:StrsAre ((es.toList++[(hashStr w z,Value.str z tk)]).map (·.2)) (ss++[z]):=by
    rw[X4];exact fX hst (.cons z tk .nil)
   obtain⟨ts,q2,q3⟩:=dO q1 (lp.map (·.2));have hp1:ts.Perm (ks++[z]):=q3.trans (hp.append_right _);have hnd1:(ks++[z]).Nodup:=jX hnd hz;have hz1:es1.size=es.size+1:=by rw[<-X2,lp.length_eq,Y9,X2];rfl
   have hb1:es1.size<scanBound:=by rw[hz1,hn];exact hroom
   have fin:∀h',SameBut a s.heap h'->dN w a (ks++[z]) h'->wpAny (model prog w) A (pure true) Q E {s with heap:=h',toks:=s.toks+1}:=fun h' sb S'=>Y3 (hQ h' true sb S')
   refine Y2 (gone _ _ _ ?_);cases hpl1:t1.plain with
   | true=>
     simp only[↓reduceIte];refine Y2 ?_;rw[show hashByValue 8 (Value.str z tk)=pure false from rfl];refine Y3 ?_;simp only[false_eq_true,↓reduceIte];exact n9 (s:={s with toks:=s.toks+1}) gone ho hex hd q2 hp1 hnd1 hel1 hb1 (SetTable.fits_plain_off lf) rfl (ll.trans hled) fun h' sb S'=>fin h' sb S'
   | false=>
     simp only[false_eq_true,↓reduceIte];refine Y2 (Y3 ?_);simp only[↓reduceIte];exact n9 (s:={s with toks:=s.toks+1}) gone ho hex hd q2 hp1 hnd1 hel1 hb1 lf hpl1 (ll.trans hled) fun h' sb S'=>fin h' sb S'
end
open PySem PySem.Spec PyProof.Rows
noncomputable def jQ(ks:List Str)(z:Str):List Str:=if z∈ks then ks else ks++[z]
noncomputable def aI(ss:List Str):List Str:=ss.foldl jQ []
theorem u9(ks:List Str)(z:Str):(jQ ks z).length<=ks.length+1:=by
 unfold jQ;split
 ·lia
 ·rw[Y9];exact W1 _
theorem va{ks:List Str}{z y:Str}:y∈jQ ks z↔y∈ks\/y=z:=by
 unfold jQ;by_cases h:z∈ks
 ·rw[if_pos h];exact⟨.inl,fun q=>q.elim id fun e=>e▸h⟩
 ·rw[if_neg h,mem_append,mem_singleton]
theorem qk{ks:List Str}{z:Str}(h:ks.Nodup):(jQ ks z).Nodup:=by
 unfold jQ;by_cases hz:z∈ks
 ·rw[if_pos hz];exact h
 ·rw[if_neg hz];exact jX h hz
theorem og:∀{ss ks:List Str} {y:Str},y∈ss.foldl jQ ks↔y∈ks\/y∈ss
 |[],ks,y=>by simp
 | z::r,ks,y=>by
   rw[foldl_cons,og,va,mem_cons];exact⟨fun h=>h.elim (fun h=>h.elim .inl fun e=> .inr (.inl e)) fun h=> .inr (.inr h),fun h=>h.elim (fun h=> .inl (.inl h)) fun h=>h.elim (fun e=> .inl (.inr e)) .inr⟩
theorem kC:∀{ss ks:List Str},ks.Nodup->(ss.foldl jQ ks).Nodup
 |[],_,h=>h
 | z::r,ks,h=>by
   rw[foldl_cons];exact kC (qk h)
theorem dP{ss:List Str}{y:Str}:y∈aI ss↔y∈ss:=by unfold aI;rw[og];simp
theorem fY(ss:List Str):(aI ss).Nodup:=kC nodup_nil
theorem oh:∀(ss ks:List Str),(ss.foldl jQ ks).length<=ks.length+ss.length
 |[],ks=>by simp
 | z::r,ks=>by
   have h1:=oh r (jQ ks z);have h2:=u9 ks z;rw[foldl_cons,V1]
   lia
theorem dN.keep{w:World}{a:Addr}{ks:List Str}{h h':Heap}(S:dN w a ks h)(k:∀o,h.get? a=some o->h'.get? a=some o):dN w a ks h':=by
 obtain⟨o,es,ep,t,ss,ho,r⟩:=S;exact⟨o,es,ep,t,ss,k o ho,r⟩
theorem oi(val:Nat->Str)(i:Nat):aI ((List.range (i+1)).map val)=jQ (aI ((List.range i).map val)) (val i):=by
 unfold aI;rw[range_succ,X4,List.foldl_append];rfl
section
variable{prog:Program}{w:World}{A:Around}{R:Result->Shared->Prop}{I:Addr}{fp wr:List Addr}{G:Array GenState->Array GenState->Prop}{n:Nat}{P:Nat->Value->Prop}{St:Nat->Shared->Prop}
theorem lC(W:WalksS prog w A.in1 I fp wr G n P St)(S:Addr)(hSf:S∉fp)(val:Nat->Str)(hval:∀i v,P i v->∃t,v= .str (val i) t)(hb:n+1<scanBound):
 ∀(k i:Nat) (s:Shared),n-i=k->i<=n->St i s->dN w S (aI ((List.range i).map val)) s.heap->
  (∀s',Moved (S::wr) G s s'->dN w S (aI ((List.range n).map val)) s'.heap->R (.ok (.ret .none)) s')->codeAny (model prog w) A (.builtin "set.update.loop" ⟨[.ref S,.ref I],[]⟩) R s:=by
 have out:S∉wr:=fun h=>hSf (W.sub _ h)
 have more:∀b∈wr,b∈S::wr:=fun b hb=>W4 _ hb
 intro k
 induction k with
 | zero=>
   intro i s hk hi st hS fin;have e:i=n:=by lia
   subst e;refine codeAny_builtin F.entry_set_update_loop ?_;rw[Around.under_plainId F.plain_set_update_loop _];show wpAny _ A.in1 (pyNext (.ref I)>>= _) _ _ s;refine Y2 (W.done s _ _ st fun s1 m1=>?_);show wpAny _ A.in1 (ret Value.none) _ _ s1;exact Y3 (fin s1 (m1.mono more) (hS.keep fun o e=>m1.heap S o out e))
 | succ k ih=>
   intro i s hk hi st hS fin;have lt:i<n:=by lia
   refine codeAny_builtin F.entry_set_update_loop ?_;rw[Around.under_plainId F.plain_set_update_loop _];show wpAny _ A.in1 (pyNext (.ref I)>>= _) _ _ s;refine Y2 (W.item i s _ _ lt st fun v s1 pv st1 m1=>?_);obtain⟨t,rfl⟩:=hval i v pv;have hS1:=hS.keep (h':=s1.heap) fun o e=>m1.heap S o out e
   have room:(aI ((List.range i).map val)).length+1<scanBound:=by
    have q:=oh ((List.range i).map val) [];rw[Y6,length_range]at q;unfold aI;simp only[length_nil,zero_add]at q
    lia
   show wpAny _ A.in1 (holding [Value.str (val i) t] (setAdd S (.str (val i) t))>>= _) _ _ s1;refine Y2 (wpAny_holding (oa hS1 room fun h2 b sb hS2=>?_));have hS2':dN w S (aI ((List.range (i+1)).map val)) h2:=by rw[oi];exact hS2
   refine Y3 ⟨plainId_quiet F.plain_set_update_loop _,ih (i+1) _ (by lia) lt (W.frame _ s1 _ _ st1 (le_succ _) fun b hb o e=>?_) hS2' fun s3 m3 hS3=>?_⟩
   ·rw[sb.2 b (fun q:b=S=>hSf (q▸hb))];exact e
   ·refine fin s3 (Moved.trans W.gtrans ((m1.mono more).then_heap (le_succ _) fun b o hb e=>?_) m3) hS3;rw[sb.2 b (fun q:b=S=>hb (by rw[q];exact W6))];exact e
end
section
variable{prog:Program}{w:World}{A:Around}{E:Value->Shared->Prop}{s:Shared}
noncomputable abbrev bo(w:World):Obj:={cls:= .type "set",dict:=none,data:= .set #[] 0 (.fresh 0 0 (!aN w))}
theorem oj(a:Value){Q₁:Value->Shared->Prop}(h:Q₁ (.ref s.heap.objs.size) {s with heap:=s.heap.push (bo w)}):
 codeAny (model prog w) A (.call (.builtin "set.__new__") ⟨[.type "set",a],[]⟩) (wants Q₁ E) s:=by
 refine codeAny_of_tree ?_;show wpAny _ A.in1 (checkBuiltinCall "set.__new__" ⟨[.type "set",a],[]⟩>>= fun _=>again (.builtin "set.__new__" ⟨[.type "set",a],[]⟩)) _ _ s;refine Y2 (wpAny_of_eq (PySem.F.newCall_set_1 a) (Y3 ⟨plainId_quiet PySem.F.plain_set_new _,codeAny_builtin PySem.F.entry_set_new ?_⟩));rw[Around.under_plainId PySem.F.plain_set_new _];unfold Builtin.«set.__new__» Builtin.Frozenset.newClass;have su:=sub_set_self;obtain⟨hp,g,d,tk,os⟩:=s;dsimp only
 wp_walk
 refine wpAny_askSetting (Y3 ?_);dsimp only;simp only[newObj];exact Y2 (wpAny_alloc (Y3 (Y3 h)))
theorem dN.empty{h:Heap}{a:Addr}(e:h.get? a=some (bo w)):dN w a [] h:=
 ⟨_,#[],0,_,[],e,⟨rfl,rfl,rfl⟩,rfl,.nil,.nil,nodup_nil,fun e he=>by simp at he,by decide,rfl,fun q=>absurd rfl q,rfl⟩
theorem om:∀{vs:List Value} {ss:List Str},StrsAre vs ss->∀(i:Nat) (v:Value),vs[i]? =some v->∃t,v= .str (ss.getD i (Str.ofString "")) t
 | _,_,.nil,i,v,h=>by simp at h
 | _,_,.cons x t hr,0,v,h=>by simp at h;exact⟨t,by rw[<-h];rfl⟩
 | _,_,.cons x t hr,i+1,v,h=>by
   obtain⟨u,e⟩:=om hr i v (by simpa using h);exact⟨u,by rw[e];rfl⟩
theorem ql(ss:List Str):(List.range ss.length).map (fun i=>ss.getD i (Str.ofString ""))=ss:=by
 apply ext_getElem
 ·simp
 ·intro i h1 h2;simp[X3,h2]
theorem lD{l:Addr}{items:Array Value}{ss:List Str}{Q:Value->Shared->Prop}(hh:A.handled=none)(hl:s.heap.IsList l items)(hi:StrsAre items.toList ss)(hb:items.size+1<scanBound)
 (hQ:∀(h':Heap) (tk:Nat),dN w s.heap.objs.size (aI ss) h'->(∀b o,s.heap.get? b=some o->h'.get? b=some o)->Q (.ref s.heap.objs.size) {s with heap:=h',toks:=tk}):
 wpAny (model prog w) A (call (.type "set") [.ref l]) Q E s:=by
 obtain⟨c,tl,hmro⟩:=called_set.mro;have hmade:=called_set.made;have hsub:=called_set.sub;refine wpAny_call (codeAny_of_tree ?_);show wpAny _ _ (callAny (.type "set") _) _ _ _;refine Y3 ⟨Code.quiet_builtin _ (by decide +kernel),codeAny_builtin F.entry_type_call ?_⟩;rw[Around.under_plain (weight_type_call_type "set" [.ref l] []) rfl];have ht1:=called_set.notType;have ht2:=called_set.canCreate;have ht3:=PySem.F.typeCall_set_1 (.ref l)
 repeat any_goals first|assumption|wp_step
 refine codeAny_mono (oj (.ref l) (E:=E) (Q₁:=fun obj s₁=>obj= .ref s.heap.objs.size/\s₁={s with heap:=s.heap.push (bo w)}) ⟨rfl,rfl⟩) fun r s₁ hr=>?_
 cases r with
 | error e=>exact hr
 | ok fl=>
   cases fl with
   | ret obj=>
     obtain⟨rfl,rfl⟩:=hr;have gS:(s.heap.push (bo w)).get? s.heap.objs.size=some (bo w):=W3 _ rfl;have tS:Shared.TypeIs {s with heap:=s.heap.push (bo w)} (.ref s.heap.objs.size) "set":=⟨_,gS,rfl⟩
     have hli:=called_set.init.lookup;have hbi:=called_set.init.bind (.ref s.heap.objs.size)
     repeat any_goals first|assumption|wp_step
     refine codeAny_mono (codeAny_call_builtin (R:=wants (fun r s₂=>r= .none/\∃h' tk,s₂={s with heap:=h',toks:=tk}/\dN w s.heap.objs.size (aI ss) h'/\(∀b o,s.heap.get? b=some o->h'.get? b=some o)) E) called_set.init.plain F.entry_set_init (check_set_init_1 tS ?_)) fun r₂ s₂ hr₂=>?_
     ·obtain⟨ol,gl,cl,nl,dl⟩:=hl;obtain⟨ocls,odict,odata,oslots⟩:=ol;simp only at cl dl;subst cl;subst dl;have gl':(s.heap.push (bo w)).get? l=some {cls:= .type "list",dict:=odict,data:= .seq items nl,slots:=oslots}:=Y7 _ gl;have no1:=PySem.F.sub_list_set;have no2:=PySem.F.sub_list_frozenset;have no3:(Value.type "list"==Value.type "dict")=false:=by decide
      have isl:(s.heap.push (bo w)).IsList l items:=⟨_,gl',rfl,nl,rfl⟩
      unfold Builtin.«set.__init__»;unfold noKeywords;unfold Builtin.Frozenset.updateFrom
      generalize hPI:pyIter=PI
      wp_walk
      subst hPI;refine wpAny_pyIter_list isl (Y2 (wpAny_runValue ?_));have llt:l<s.heap.objs.size:=V7 gl;have h3:A.in1.in1.in1.handled=none:=by simp[hh]
      have nz:(s.heap.push (bo w)).objs.size=s.heap.objs.size+1:=V0 ..;have ne1:l≠(s.heap.push (bo w)).objs.size:=by rw[nz];exact V4 (lt_succ_of_lt llt)
      have ne2:s.heap.objs.size∉[(s.heap.push (bo w)).objs.size,l]:=by
       rw[nz];simp only[mem_cons,not_mem_nil,or_false,not_or];exact⟨V4 (lt_succ_self _),ne_of_gt llt⟩
      have hlen:items.size=ss.length:=by rw[<-X2];exact cg hi
      refine lC ((Walks.list h3 _ l ne1 items).toS) s.heap.objs.size ne2 (fun i=>ss.getD i (Str.ofString "")) (fun i v hv=>om hi i v (by rw[getElem?_toList];exact hv)) hb (items.size-0) 0 _ (by lia) (zero_le _)
       ⟨⟨_,W3 _ rfl,rfl,rfl⟩,isl.push _⟩ (dN.empty (Y7 _ gS)) ?_
      intro s3 m3 S3;rw[hlen,ql]at S3;obtain⟨h',g',d',tk',os'⟩:=s3;have eg:g'=s.gens:=m3.gens;have ed:d'=s.drawn:=m3.drawn;have eo:os'=s.os:=m3.os;subst eg;subst ed;subst eo;refine Y3 ?_;show wpAny _ _ (ret Value.none) _ _ _;refine Y3 ⟨rfl,h',tk',rfl,S3,fun b o e=>?_⟩;have blt:=V7 e;refine m3.heap b o ?_ (Y7 _ (Y7 _ e));simp only[mem_cons,not_mem_nil,or_false,not_or,nz];exact⟨V4 blt,V4 (lt_succ_of_lt blt)⟩
     ·cases r₂ with
      | error e=>exact hr₂
      | ok fl₂=>
        cases fl₂ with
        | ret r=>
          obtain⟨rfl,h',tk,rfl,S3,k3⟩:=hr₂
          repeat any_goals first|assumption|wp_step
          exact hQ _ _ S3 k3
        | _=>exact hr₂.elim
   | _=>exact hr.elim
end
section
variable{X:Cx}{K:PySem.W.Frag}
noncomputable def qo(w:World)(a:Addr)(ks:List Str):HO:= .ext (dN w a ks)
theorem vb(hc:X.calm=true):cG X (.type "set") (fun xs H Q=>∃p ss,xs=[.ref p]/\SqL X.K H p (ss.map V.str)/\ss.length<=4000/\∀l,H l=none->Q (.ref l) (upd H l (qo X.w l (aI ss)))):=by
 intro pins s σ H xs us Q I r h;obtain⟨p,ss,rfl,hq,hl,q⟩:=h;obtain⟨u,rfl,ru⟩:=d6 r;cases ru;obtain⟨its,rv,pl,hz⟩:=I.list hq;have hst:=fk rv;have hn:its.toArray.size=ss.length:=by rw[W9];exact cg hst
 refine lD (I.ok.hd hc) pl.isList (ss:=ss) (by simpa using hst) (by rw[hn];show ss.length+1<4096;lia) fun h' tk S k=>?_
 refine⟨.ref s.heap.objs.size,_,I.laid (o:=qo X.w s.heap.objs.size (aI ss)) (t':=tk) k (W1 _) ⟨S,?_,fun h1 h2 S1 k1=>S1.keep k1⟩,rfl,q _ I.fresh⟩;obtain⟨o,_,_,_,_,ho,_⟩:=S;exact⟨o,ho⟩
theorem Ac(h:X.K=K)(hw:X.w=w)(hc:X.calm=true):dM X (.type "set") (fun xs H Q=>∃p ss,xs=[.ref p]/\SqL K H p (ss.map V.str)/\ss.length<=4000/\∀l,H l=none->Q (.ref l) (upd H l (qo w l (aI ss)))):=by subst h;subst hw;exact⟨vb hc⟩
end
open PySem PySem.Spec PyProof.Rows
theorem ii{α:Type}:∀{xs:List α} {i:Nat} (h:i<xs.length),(xs[i]::xs.eraseIdx i).Perm xs
 | x::r,0,_=>by simp
 | x::r,i+1,h=>by
   have ih:=ii (xs:=r) (i:=i) (by simpa using h);simp only[List.getElem_cons_succ,List.eraseIdx_cons_succ];exact(List.Perm.swap _ _ _).trans (.cons _ ih)
section
variable{prog:Program}{w:World}{A:Around}{E:Value->Shared->Prop}{s:Shared}
theorem sG{src:Source}{n:Nat}{Q:Nat->Shared->Prop}(hn:n≠0)(h:∀i d,i<n->Q i {s with drawn:=d}):wpAny (model prog w) A (choose src n) Q E s:=by
 intro Γ p _;show Sem.wp _ _ (.choose src n .pure) _ _ _ _;rw[Sem.wp_choose];exact⟨hn,h _ _ (mod_lt _ (Nat.pos_of_ne_zero hn))⟩
theorem m8{α:Type}:∀(n:Nat) (xs:List α) (s:Shared) (Q:List α->Shared->Prop),xs.length<=n->(∀ys d,ys.Perm xs->Q ys {s with drawn:=d})->wpAny (model prog w) A (drawOrder n xs) Q E s
 | 0,xs,s,Q,hn,h=>by
   have e:xs=[]:=length_eq_zero_iff.mp (Nat.le_zero.mp hn);subst e;exact Y3 (h [] s.drawn .nil)
 | n+1,[],s,Q,hn,h=>Y3 (h [] s.drawn .nil)
 | n+1,x::r,s,Q,hn,h=>by
   unfold drawOrder;refine Y2 (sG (by simp) fun i d hi=>?_);have e:(x::r)[i]? =some ((x::r)[i]):=Y4 hi;rw[e];have l:((x::r).eraseIdx i).length<=n:=by rw[List.length_eraseIdx];simp only[hi,↓reduceIte];simp only[V1]at hn ⊢;lia
   refine Y2 (m8 n ((x::r).eraseIdx i) _ _ l fun ys d2 p=>Y3 (h _ d2 ?_));exact(List.Perm.cons _ p).trans (ii hi)
end
theorem rk{α:Type}(next:Nat->Nat):∀(fuel k:Nat) (left:List α) (out:Array α),left.length<=fuel->(pickOrder.go next fuel k left out).toList.Perm (out.toList++left)
 | 0,k,left,out,h=>by
   have e:left=[]:=length_eq_zero_iff.mp (Nat.le_zero.mp h);subst e;rw[append_nil];exact .refl _
 | fuel+1,k,[],out,h=>by
   unfold pickOrder.go;simp
 | fuel+1,k,x::r,out,h=>by
   unfold pickOrder.go;have hi:next k%(x::r).length<(x::r).length:=mod_lt _ (by simp);rw[Y4 hi];have l:((x::r).eraseIdx (next k%(x::r).length)).length<=fuel:=by rw[List.length_eraseIdx];simp only[hi,↓reduceIte];simp only[V1]at h ⊢;lia
   refine(rk next fuel (k+1) _ _ l).trans ?_;rw[toList_push,X6];exact(List.Perm.refl _).append (ii hi)
theorem md{α:Type}(next:Nat->Nat)(xs:Array α):(pickOrder next xs).toList.Perm xs.toList:=by
 have:=rk next xs.size 0 xs.toList #[] (by simp);simpa [pickOrder]using this
theorem mf(p j:Nat):SetTable.below #[p] j=if p<j then 1 else 0:=by
 unfold SetTable.below;simp only[W9,V1,length_nil,zero_add];unfold SetTable.below.go;simp
 split<;>(unfold SetTable.below.go;rfl)
theorem qp(j:Nat):SetTable.below #[] j=0:=rfl
theorem mj{α:Type}{xs:Array α}(h:xs.size=1):∃p,xs= #[p]:=by
 obtain⟨l⟩:=xs
 match l,h with
 |[p],_=>exact⟨p,rfl⟩
noncomputable def SIt(w:World)(I S T:Addr)(o:Obj)(es:Array (Int×Value))(ep:Nat)(t:SetTable)(ord:List Value)(i:Nat)(h:Heap):Prop:=
 h.get? S=some o/\∃first,h.get? I=some {cls:= .type "set_iterator",dict:=none,data:= .fields #[first,rawInt i,.ref S,rawInt es.size,rawInt ep],slots:= #[]}/\
  ((aN w=true/\first=rawInt 0/\ord=(pickOrder (w.params.setOrder S ep) es).toList.map (·.2))\/
   (aN w=false/\first= .ref T/\T≠I/\∃ps:List Nat,h.get? T=some {cls:= .type "tuple",data:= .seq (ps.map fun(i:Nat)=>rawInt i).toArray}/\ps.length=ord.length/\∀(j p:Nat),ps[j]? =some p->∃e,es[p]? =some e/\ord[j]? =some e.2)\/
   (aN w=false/\es.size<=1/\ord=es.toList.map (·.2)/\(i=0->first=rawInt 0)/\(i=1->∃p:Nat,t.place[0]? =some p/\first=rawInt (p+1))))
theorem SIt.is{w:World}{I S T:Addr}{o:Obj}{es:Array (Int×Value)}{ep:Nat}{t:SetTable}{ord:List Value}{i:Nat}{s:Shared}(h:SIt w I S T o es ep t ord i s.heap):s.TypeIs (.ref I) "set_iterator":=by
 obtain⟨_,f,hI,_⟩:=h;exact⟨_,hI,rfl⟩
section
variable{prog:Program}{w:World}{A:Around}{E:Value->Shared->Prop}{s:Shared}{I S T:Addr}{o:Obj}{es:Array (Int×Value)}{ep:Nat}{t:SetTable}{ord:List Value}
theorem qq{i:Nat}{v:Value}{Q:Option Value->Shared->Prop}(hd:o.data= .set es ep t)(hf:t.fits es.size=true)(hled:t.led=!aN w)(hSI:S≠I)(st:SIt w I S T o es ep t ord i s.heap)(hv:ord[i]? =some v)(hn:ord.length=es.size)
 (hQ:∀h',SIt w I S T o es ep t ord (i+1) h'->SameBut I s.heap h'->Q (some v) {s with heap:=h'}):wpAny (model prog w) A (pyNext (.ref I)) Q E s:=by
 have hT:=st.is;obtain⟨hS,first,hI,m⟩:=st;unfold pyNext;refine Y2 (wpAny_attempt (wpAny_callSpecial?_slot (name:=Str.ofString "__next__") hT bp (wpAny_call_entry bp hT eW ?_ (fM _))));unfold Builtin.«set_iterator.__next__»;refine Y2 (m:=slotArgs _ _ _) (Y3 ?_);refine Y2 (wpAny_fieldsOf hI rfl ?_);show wpAny _ _ (setEntries S>>= _) _ _ _;refine Y2 (wpAny_setEntries_of hS hd hf ?_);rw[if_neg (by simp)];rcases m with⟨bt,rfl,eo⟩|⟨bt,rfl,hTI,ps,hTt,hpl,hps⟩|⟨bt,h1,eo,f0,f1⟩
 ·show wpAny _ _ (setNext S 0 i ep>>= _) _ _ _;refine Y2 ?_;unfold setNext;refine Y2 (wpAny_setState_of hS hd hf ?_);refine Y2 (Y2 (wpAny_askSetting (Y3 ?_)));show wpAny _ _ (if aN w=true then _ else _) _ _ _;rw[if_pos bt];dsimp only;rw[if_neg (show ¬ ((ep != ep)=true) by simp)];refine Y2 ?_;unfold setWalk;refine Y2 (wpAny_setState_of hS hd hf ?_);refine Y2 (Y2 (wpAny_askSetting (Y3 ?_)));show wpAny _ _ (if aN w=true then _ else _) _ _ _;rw[if_pos bt];refine Y2 (wpAny_askSetting (Y3 (Y3 ?_)));have hv':(pickOrder (w.params.setOrder S ep) es)[i]?.map (·.2)=some v:=by
   rw[eo]at hv;simpa using hv
  cases hp:(pickOrder (w.params.setOrder S ep) es)[i]? with
  | none=>rw[hp]at hv';cases hv'
  | some e=>
    rw[hp]at hv';have ev:e.2=v:=by simpa using hv'
    show wpAny _ _ (match((pickOrder (w.params.setOrder S ep) es)[i]?).map fun e=>(e.2,0)with|some (x,next)=>_|none=>_) _ _ _;rw[hp];show wpAny _ _ (setField (.ref I) 0 (rawInt ((0:Nat):Int))>>= _) _ _ _;refine Y2 (wpAny_setField_rec hI (by simp) fun g1 hI1 sb1=>?_);refine Y2 (wpAny_setField_rec (s:={s with heap:=g1}) hI1 (by simp) fun g2 hI2 sb2=>?_);rw[ev];have sb:SameBut I s.heap g2:=sb1.trans sb2;refine Y3 ⟨v,rfl,Y3 (hQ g2 ⟨(sb.2 S hSI).trans hS,_,hI2,.inl ⟨bt,rfl,eo⟩⟩ sb)⟩
 ·show wpAny _ _ (seqItems? (.ref T)>>= _) _ _ _;refine Y2 (wpAny_seqItems hTt rfl ?_);have hi:i<ord.length:=(List.getElem?_eq_some_iff.mp hv).1;have hip:i<ps.length:=by lia
  obtain⟨e,he,hoe⟩:=hps i ps[i] (by simp[hip]);have ev:e.2=v:=by rw[hoe]at hv;exact X1 hv
  have hpl':(ps.map fun(i:Nat)=>rawInt i).toArray[(i:Int).toNat]? =some (rawInt ps[i]):=by simp[hip]
  dsimp only;rw[hpl'];show wpAny _ _ (setNextDrawn S ps[i] ep>>= _) _ _ _;refine Y2 ?_;unfold setNextDrawn;refine Y2 (wpAny_setState_of hS hd hf ?_);dsimp only;rw[if_neg (show ¬ ((ep != ep)=true) by simp),he];refine Y3 ?_;refine Y2 (wpAny_setField_rec hI (by simp) fun g1 hI1 sb1=>?_);rw[ev];exact Y3 ⟨v,rfl,Y3 (hQ g1 ⟨(sb1.2 S hSI).trans hS,_,hI1,.inr (.inl ⟨bt,rfl,hTI,ps,(sb1.2 T hTI).trans hTt,hpl,hps⟩)⟩ sb1)⟩
 ·have hi:i<ord.length:=(List.getElem?_eq_some_iff.mp hv).1;have i0:i=0:=by lia
  subst i0;have f0:=f0 rfl;subst f0;have e1:es.size=1:=by lia
  have pz:t.place.size=1:=by
   simp only[SetTable.fits,and_eq_true,beq_iff_eq,decide_eq_true_eq]at hf;rw[hf.1,e1]
  obtain⟨p,hp⟩:=mj pz;obtain⟨e,he⟩:∃e,es[0]? =some e:=⟨es[0],by simp[e1]⟩
  have ev:e.2=v:=by
   rw[eo]at hv;have:(es[0]?).map (·.2)=some v:=by simpa using hv
   rw[he]at this;simpa using this
  show wpAny _ _ (setNext S 0 0 ep>>= _) _ _ _;refine Y2 ?_;unfold setNext;refine Y2 (wpAny_setState_of hS hd hf ?_);refine Y2 (Y2 (wpAny_askSetting (Y3 ?_)));show wpAny _ _ (if aN w=true then _ else _) _ _ _;rw[if_neg (by rw[bt];decide)];dsimp only
  split
  ·rename_i hdr
   change (!t.plain&&decide (es.size>1))=true at hdr;rw[e1]at hdr;simp at hdr
  ·refine Y2 (m:=(if(!t.led&&!es.isEmpty)=true then unsupported "set:maker-not-led" else pure ())) ?_;rw[hled,bt];refine Y3 ?_;rw[hp,mf];simp only[not_lt_zero,↓reduceIte,he];refine Y3 ?_;show wpAny _ _ (setField (.ref I) 0 (rawInt ((p+1:Nat):Int))>>= _) _ _ _;refine Y2 (wpAny_setField_rec hI (by simp) fun g1 hI1 sb1=>?_);refine Y2 (wpAny_setField_rec (s:={s with heap:=g1}) hI1 (by simp) fun g2 hI2 sb2=>?_);rw[ev];have sb:SameBut I s.heap g2:=sb1.trans sb2;exact Y3 ⟨v,rfl,Y3 (hQ g2 ⟨(sb.2 S hSI).trans hS,_,hI2,.inr (.inr ⟨bt,by lia,eo,fun q=>by lia,fun _=>⟨p,by rw[hp];rfl,rfl⟩⟩)⟩ sb)⟩
theorem oo{α:Type}{Q:α->Shared->Prop}(hh:A.handled=none)(hE:∀h' e,(∀b o,s.heap.get? b=some o->h'.get? b=some o)->(∃o,h'.get? e=some o/\o.cls= .type "StopIteration")->E (.ref e) {s with heap:=h'}):
 wpAny (model prog w) A (newExc (.type "StopIteration") []>>= fun e=>(raiseNew e:Sem α)) Q E s:=by
 refine Y2 ?_;simp only[newExc,newTuple];refine Y2 (wpAny_newObj_type ?_ (by size_fits));refine Y2 (m:=firstArgMember _ _) (wpAny_of_eq (a:=Value.none) (by first|rfl|(simp only[firstArgMember];rfl)) (wpAny_newObj_type ?_ (by size_fits)));refine wpAny_raiseNew_none hh (hE _ _ (fun b o e=>Y7 _ (Y7 _ e)) ⟨_,W3 _ rfl,rfl⟩)
theorem sH{i:Nat}{Q:Option Value->Shared->Prop}(hh:A.handled=none)(hd:o.data= .set es ep t)(hf:t.fits es.size=true)(hled:t.led=!aN w)(st:SIt w I S T o es ep t ord i s.heap)(hi:i=ord.length)(hn:ord.length=es.size)
 (hQ:∀h',(∀b o,b≠I->s.heap.get? b=some o->h'.get? b=some o)->Q none {s with heap:=h'}):wpAny (model prog w) A (pyNext (.ref I)) Q E s:=by
 have hT:=st.is;obtain⟨hS,first,hI,m⟩:=st;have hh1:A.in1.handled=none:=hh;have fin:∀(g:Heap) (Q':Fin->Shared->Prop),SameBut I s.heap g->wpAny (model prog w) A.in1 (newExc (.type "StopIteration") []>>= fun e=>(raiseNew e:Sem Fin)) Q' (fun e s'=>wpAny (model prog w) A (do
  if(<-isInstance e (.type "StopIteration"))then pure none else throw e) Q E s') {s with heap:=g}:=fun g Q' sb=>by
  refine oo hh1 fun h' e k ⟨oe,he,hc⟩=>?_
  refine Y2 (wpAny_isInstance (T:="StopIteration") (b:=true) ⟨oe,he,hc⟩ isSubtype_stop (Y3 (hQ h' fun b o hb q=>k b o ((sb.2 b hb).trans q))))
 unfold pyNext;refine Y2 (wpAny_attempt (wpAny_callSpecial?_slot (name:=Str.ofString "__next__") hT bp (wpAny_call_entry bp hT eW ?_ (fM _))));unfold Builtin.«set_iterator.__next__»;refine Y2 (m:=slotArgs _ _ _) (Y3 ?_);refine Y2 (wpAny_fieldsOf hI rfl ?_);show wpAny _ _ (setEntries S>>= _) _ _ _;refine Y2 (wpAny_setEntries_of hS hd hf ?_);rw[if_neg (by simp)];rcases m with⟨bt,rfl,eo⟩|⟨bt,rfl,hTI,ps,hTt,hpl,hps⟩|⟨bt,h1,eo,f0,f1⟩
 ·show wpAny _ _ (setNext S 0 i ep>>= _) _ _ _;refine Y2 ?_;unfold setNext;refine Y2 (wpAny_setState_of hS hd hf ?_);refine Y2 (Y2 (wpAny_askSetting (Y3 ?_)));show wpAny _ _ (if aN w=true then _ else _) _ _ _;rw[if_pos bt];dsimp only;rw[if_neg (show ¬ ((ep != ep)=true) by simp)];refine Y2 ?_;unfold setWalk;refine Y2 (wpAny_setState_of hS hd hf ?_);refine Y2 (Y2 (wpAny_askSetting (Y3 ?_)));show wpAny _ _ (if aN w=true then _ else _) _ _ _;rw[if_pos bt];refine Y2 (wpAny_askSetting (Y3 (Y3 ?_)));have hp:(pickOrder (w.params.setOrder S ep) es)[i]? =none:=by
   rw[Array.getElem?_eq_none_iff,hi,eo,Y6,X2];exact W1 _
  show wpAny _ _ (match((pickOrder (w.params.setOrder S ep) es)[i]?).map fun e=>(e.2,0)with|some (x,next)=>_|none=>_) _ _ _;rw[hp];show wpAny _ _ (setField (.ref I) 2 .none>>= _) _ _ _;exact Y2 (wpAny_setField_rec hI (by simp) fun g1 _ sb1=>fin g1 _ sb1)
 ·show wpAny _ _ (seqItems? (.ref T)>>= _) _ _ _;refine Y2 (wpAny_seqItems hTt rfl ?_);have hpl':(ps.map fun(i:Nat)=>rawInt i).toArray[(i:Int).toNat]? =none:=by simp;lia
  dsimp only;rw[hpl'];show wpAny _ _ (setField (.ref I) 0 (rawInt 0)>>= _) _ _ _;refine Y2 (wpAny_setField_rec hI (by simp) fun g1 hI1 sb1=>?_);exact Y2 (wpAny_setField_rec (s:={s with heap:=g1}) hI1 (by simp) fun g2 _ sb2=>fin g2 _ (sb1.trans sb2))
 ·have done:∀slot:Nat,first=rawInt slot->SetTable.below t.place slot=es.size->wpAny (model prog w) A.in1 (setNext S slot i ep) (fun a s'=>a=none/\s'=s) (fun _ _=>False) s:=by
   intro slot _ hb;unfold setNext;refine Y2 (wpAny_setState_of hS hd hf ?_);refine Y2 (Y2 (wpAny_askSetting (Y3 ?_)));show wpAny _ _ (if aN w=true then _ else _) _ _ _;rw[if_neg (by rw[bt];decide)];dsimp only
   split
   ·rename_i hdr
    change (!t.plain&&decide (es.size>1))=true at hdr;have:decide (es.size>1)=false:=X9 (by lia);rw[this,Bool.and_false]at hdr;cases hdr
   ·refine Y2 (m:=(if(!t.led&&!es.isEmpty)=true then unsupported "set:maker-not-led" else pure ())) ?_;rw[hled,bt];refine Y3 ?_;rw[hb,show es[es.size]? =none by simp];exact Y3 ⟨rfl,rfl⟩
  have go:∀slot:Nat,first=rawInt slot->SetTable.below t.place slot=es.size->wpAny (model prog w) A.in1 (setNext S slot i ep>>= fun a=>match a with
   | some (x,next)=>(do
     setField (.ref I) 0 (rawInt ↑next)
     setField (.ref I) 1 (rawInt (↑i+1))
     ret x)
   | none=>(do
     setField (.ref I) 2 .none
     let e<-newExc (.type "StopIteration") []
     raiseNew e)) (fun fin s'=>∃v,fin=Fin.done (Flow.ret v)/\wpAny (model prog w) A (pure (some v)) Q E s') (fun e s'=>wpAny (model prog w) A (do
   if(<-isInstance e (.type "StopIteration"))then pure none else throw e) Q E s') s:=by
   intro slot e hb;refine Y2 (wpAny_mono (done slot e hb) (fun a s' ⟨e1,e2⟩=>?_) fun _ _ f=>f.elim);subst e1;subst e2;exact Y2 (wpAny_setField_rec hI (by simp) fun g1 _ sb1=>fin g1 _ sb1)
  have pz:t.place.size=es.size:=by
   simp only[SetTable.fits,and_eq_true,beq_iff_eq,decide_eq_true_eq]at hf;exact hf.1
  by_cases e0:es.size=0
  ·have i0:i=0:=by lia
   subst i0;have f0:=f0 rfl;subst f0;refine go 0 rfl ?_;have:t.place= #[]:=Array.eq_empty_of_size_eq_zero (by lia);rw[this,qp,e0]
  ·have e1:es.size=1:=by lia
   have i1:i=1:=by lia
   subst i1;obtain⟨p,hp,f1⟩:=f1 rfl;subst f1;refine go (p+1) rfl ?_;obtain⟨p',hp'⟩:=mj (by rw[pz,e1]:t.place.size=1);rw[hp']at hp ⊢;have:p'=p:=by simpa using hp
   subst this;rw[mf,if_pos (lt_succ_self _),e1]
end
open PySem PySem.Spec PyProof.Rows
theorem fN:Slot "set_iterator" "__iter__" "set_iterator.__iter__":=
 .of (owner:="set_iterator") (n:="__iter__") (by rw[typeLookup_type,builtinLookup_eq_fast];kernel_rfl) (by decide +kernel) (by decide +kernel) (by decide +kernel) (by first|exact .inl (by decide +kernel)|exact .inr (by decide +kernel)) (by rw[isSubtype_type];kernel_rfl)
theorem jc:entryFor table "set_iterator.__iter__"=some Builtin.«dict_keyiterator.__iter__»:=entryFor_alias (id':="dict_keyiterator.__iter__") (by kernel_rfl) rfl (by decide +kernel) (by kernel_rfl)
theorem jR(a:Value):argsOk "set_iterator.__iter__" ⟨[a],[]⟩:=by unfold argsOk;kernel_rfl
theorem iD:typeLookup (.type "set") "__len__"=pure (some (.builtin "set.__len__")):=by rw[typeLookup_type,builtinLookup_eq_fast];kernel_rfl
section
variable{prog:Program}{w:World}{A:Around}{E:Value->Shared->Prop}{s:Shared}{I S T:Addr}{o:Obj}{es:Array (Int×Value)}{ep:Nat}{t:SetTable}{ord:List Value}
theorem ml(hh:A.handled=none)(hd:o.data= .set es ep t)(hf:t.fits es.size=true)(hled:t.led=!aN w)(hSI:S≠I)(hn:ord.length=es.size):
 Walks prog w A I [I,S,T] [I] ord.length (fun i v=>ord[i]? =some v) (fun i h=>SIt w I S T o es ep t ord i h) where
 sub:=by simp
 frame:=fun i h h' st k=>by
  obtain⟨hS,first,hI,m⟩:=st;refine⟨k S (by simp) _ hS,first,k I (by simp) _ hI,?_⟩;rcases m with m|⟨bt,e,hTI,ps,hTt,r⟩|m
  ·exact .inl m
  ·exact .inr (.inl ⟨bt,e,hTI,ps,k T (by simp) _ hTt,r⟩)
  ·exact .inr (.inr m)
 item:=fun i s Q E hi st hQ=>qq (v:=ord[i]) hd hf hled hSI st (by simp[hi]) hn fun h' st' sb=>hQ _ h' s.toks (by simp[hi]) st' fun b o' hb e=>(sb.2 b (fun q=>hb (by simp[q]))).trans e
 done:=fun s Q E st hQ=>sH hh hd hf hled st rfl hn fun h' k=>hQ h' s.toks fun b o' hb e=>k b o' (fun q=>hb (by simp[q])) e
 self:=fun i s Q E st hQ=>by
  have hT:=st.is;refine wpAny_pyIter_slot hT fN (wpAny_call_entry fN hT jc ?_ (jR _));show wpAny _ _ (ret (.ref I)) _ _ s;exact Y3 ⟨_,rfl,"set_iterator",_,hT,bp.lookup,hQ⟩
theorem vc{ks:List Str}{Q:Value->Shared->Prop}(hS:dN w S ks s.heap)
 (hQ:∀(I T:Addr) (o:Obj) es ep t (ord:List Value) (ss:List Str) (h':Heap) d,(∀b o,s.heap.get? b=some o->h'.get? b=some o)->s.heap.objs.size<=I->S≠I->(T=S\/s.heap.objs.size<=T)->T<h'.objs.size->I<h'.objs.size->o.data= .set es ep t->t.fits es.size=true->t.led=(!aN w)->ord.length=es.size->
  SIt w I S T o es ep t ord 0 h'->StrsAre ord ss->ss.Perm ks->Q (.ref I) {s with heap:=h',drawn:=d}):wpAny (model prog w) A (pyIter (.ref S)) Q E s:=by
 obtain⟨o,es,ep,t,ss,ho,hex,hd,hst,hp,hnd,hel,hb,hf,hpl,hled⟩:=hS;have hT:s.TypeIs (.ref S) "set":=⟨o,ho,hex.1⟩
 have slt:S<s.heap.objs.size:=V7 ho;refine wpAny_pyIter_slot hT F.slot_set_iter (wpAny_call_entry F.slot_set_iter hT gU ?_ (F.args_set_iter_1 _));unfold Builtin.«frozenset.__iter__»;refine Y2 (m:=Builtin.Frozenset.slot0 _ _) (Y2 (m:=slotArgs _ _ _) (Y3 (Y3 ?_)));refine Y2 (m:=Builtin.Frozenset.sizeOf S) (Y2 (wpAny_setEntries_of ho hd hf (Y3 ?_)));refine Y2 (m:=setDrawn S) ?_;unfold setDrawn;refine Y2 (wpAny_setState_of ho hd hf (Y2 (Y2 (wpAny_askSetting (Y3 (Y3 ?_))))));have fin:∀(first:Value) (s1:Shared) (T:Addr) (ord:List Value),s1.heap.get? S=some o->(∃d h1,s1={s with heap:=h1,drawn:=d})->(∀b o,s.heap.get? b=some o->s1.heap.get? b=some o)->T<s1.heap.objs.size->s.heap.objs.size<=s1.heap.objs.size->(T=S\/s.heap.objs.size<=T)->(∃ss,StrsAre ord ss/\ss.Perm ks)->
  ((aN w=true/\first=rawInt 0/\ord=(pickOrder (w.params.setOrder S ep) es).toList.map (·.2))\/(aN w=false/\first= .ref T/\∃ps:List Nat,s1.heap.get? T=some {cls:= .type "tuple",data:= .seq (ps.map fun(i:Nat)=>rawInt i).toArray}/\ps.length=ord.length/\∀(j p:Nat),ps[j]? =some p->∃e,es[p]? =some e/\ord[j]? =some e.2)\/(aN w=false/\es.size<=1/\ord=es.toList.map (·.2)/\first=rawInt 0))->ord.length=es.size->
  wpAny (model prog w) A.in1 (do ret (<-newFields "set_iterator" [first,rawInt 0,.ref S,rawInt es.size,rawInt (<-setEpoch S)])) (fun fin s'=>∃v,fin=Fin.done (Flow.ret v)/\∃T' r,s'.TypeIs v T'/\typeLookup (.type T') "__next__"=pure (some r)/\Q v s') (fun e s'=>E e s') s1:=by
  intro first s1 T ord h1 ⟨d,g1,e1⟩ k1 tl sl hTT ⟨ss',q1,q2⟩ m hn
  subst e1;refine Y2 (wpAny_setEpoch_of h1 hd hf (Y2 (wpAny_newObj_type ?_)));have gI:(g1.push {cls:= .type "set_iterator",data:= .fields #[first,rawInt 0,.ref S,rawInt es.size,rawInt ep]}).get? g1.objs.size=some _:=W3 _ rfl;refine Y3 ⟨_,rfl,"set_iterator",_,⟨_,gI,rfl⟩,bp.lookup,hQ g1.objs.size T o es ep t ord ss' _ d (fun b o' e=>Y7 _ (k1 b o' e)) sl (V4 (V7 h1)) hTT (by rw[V0];exact lt_succ_of_lt tl) (by rw[V0];exact lt_succ_self _) hd hf hled hn ?_ q1 q2⟩;refine⟨Y7 _ h1,first,gI,?_⟩;rcases m with m|⟨bt,e,ps,hTt,r⟩|⟨bt,h1',eo,e⟩
  ·exact .inl m
  ·exact .inr (.inl ⟨bt,e,V4 tl,ps,Y7 _ hTt,r⟩)
  ·exact .inr (.inr ⟨bt,h1',eo,fun _=>e,fun q=>absurd q (by decide)⟩)
 have lst:(es.toList.map (·.2)).length=es.size:=by rw[Y6,X2]
 by_cases bt:aN w=true
 ·show wpAny _ _ (if(!aN w&&_)=true then _ else _) _ _ _;rw[bt,Bool.not_true,Bool.false_and,if_neg (by decide)];refine Y2 (Y3 ?_);have pp:=(md (w.params.setOrder S ep) es).map (·.2);obtain⟨ts,r1,r2⟩:=dO hst pp;exact fin (rawInt 0) s S _ ho ⟨s.drawn,s.heap,rfl⟩ (fun _ _ e=>e) slt (W1 _) (.inl rfl) ⟨ts,r1,r2.trans hp⟩ (.inl ⟨bt,rfl,rfl⟩) (by rw[pp.length_eq,lst])
 ·have bf:aN w=false:=by simpa using bt
  show wpAny _ _ (if(!aN w&&(!t.plain&&decide (es.size>1)))=true then _ else _) _ _ _;by_cases h1:es.size>1
  ·rw[bf,hpl (by lia),X7 h1];simp only[Bool.not_false,Bool.and_self,↓reduceIte];refine Y2 (m8 es.size (List.range es.size) _ _ (by simp) fun ps d pps=>Y2 ?_);refine wpAny_newTuple ?_ (by rw[Y6,pps.length_eq,length_range];exact fits_of_scanBound hb);have lt:∀p∈ps,p<es.size:=fun p q=>mem_range.mp (pps.mem_iff.mp q)
   have er:(List.range es.size).map (fun p=>((es[p]?).map (·.2)).getD .none)=es.toList.map (·.2):=by
    apply ext_getElem
    ·simp
    ·intro i q1 q2;simp at q1;simp[q1]
   have pp:(ps.map (fun p=>((es[p]?).map (·.2)).getD .none)).Perm (es.toList.map (·.2)):=by rw[<-er];exact pps.map _
   obtain⟨ts,r1,r2⟩:=dO hst pp;refine fin (.ref s.heap.objs.size) {s with heap:=_,drawn:=d} s.heap.objs.size (ps.map (fun p=>((es[p]?).map (·.2)).getD .none)) (Y7 _ ho) ⟨d,_,rfl⟩ (fun b o' e=>Y7 _ e) (by show _<(push _ _).objs.size;rw[V0];exact lt_succ_self _) (by show _<=(push _ _).objs.size;rw[V0];exact le_succ _) (.inr (W1 _)) ⟨ts,r1,r2.trans hp⟩
    (.inr (.inl ⟨bf,rfl,ps,W3 _ rfl,by rw[Y6],fun j p q=>?_⟩)) (by rw[pp.length_eq,lst])
   have hlt:=lt p (Y8 q);exact⟨es[p],by simp[hlt],by simp[q,hlt]⟩
  ·rw[bf,X9 h1];simp only[Bool.and_false,false_eq_true,↓reduceIte];refine Y2 (Y3 ?_);exact fin (rawInt 0) s S _ ho ⟨s.drawn,s.heap,rfl⟩ (fun _ _ e=>e) slt (W1 _) (.inl rfl) ⟨ss,hst,hp⟩ (.inr (.inr ⟨bf,by lia,rfl,rfl⟩)) lst
theorem oq{ks:List Str}{Q:List Value->Shared->Prop}(hh:A.handled=none)(hS:dN w S ks s.heap)
 (hQ:∀s' vs ss,StrsAre vs ss->ss.Perm ks->(∀b o,s.heap.get? b=some o->s'.heap.get? b=some o)->s'.gens=s.gens->s'.os=s.os->s.heap.objs.size<=s'.heap.objs.size->Q vs s'):wpAny (model prog w) A (collect (.ref S)) Q E s:=by
 have hT0:∃o es ep t,s.heap.get? S=some o/\o.ExactSet/\o.data= .set es ep t/\t.fits es.size=true/\es.size<scanBound:=by
  obtain⟨o,es,ep,t,ss,ho,hex,hd,_,_,_,_,hb,hf,_⟩:=hS;exact⟨o,es,ep,t,ho,hex,hd,hf,hb⟩
 obtain⟨o0,es0,ep0,t0,ho0,hex0,hd0,hf0,hb0⟩:=hT0;unfold collect;refine Y2 (wpAny_runValue (codeAny_builtin F.entry_proto_collect ?_));rw[Around.under_plainId F.plain_proto_collect _];show wpAny _ A.in1 (newList []>>= fun l=>again (.builtin "list.__iadd__" ⟨[l,.ref S],[]⟩)) _ _ s;refine Y2 (wpAny_newObj_type (Y3 ⟨plainId_quiet F.plain_list_iadd _,codeAny_builtin F.entry_list_iadd ?_⟩));rw[Around.under_plainId F.plain_list_iadd _];have slt:S<s.heap.objs.size:=V7 ho0;show wpAny _ A.in1 (Builtin.List.listExtendWith (.ref s.heap.objs.size) (.ref S) (.ref s.heap.objs.size)) _ _ _;unfold Builtin.List.listExtendWith
 generalize hG:s.heap.push {cls:= .type "list",data:= .seq ([]:List Value).toArray}=G
 have gS:G.get? S=some o0:=by rw[<-hG];exact Y7 _ ho0
 have gz:G.objs.size=s.heap.objs.size+1:=by rw[<-hG,V0]
 have gL:G.get? s.heap.objs.size=some {cls:= .type "list",data:= .seq ([]:List Value).toArray}:=by rw[<-hG];exact W3 _ rfl
 have tS:Shared.TypeIs {s with heap:=G} (.ref S) "set":=⟨o0,gS,hex0.1⟩
 refine Y2 (wpAny_typeOf (T:="set") tS ?_);have n1:Builtin.List.listSameRef (.ref s.heap.objs.size) (.ref S)=false:=by
  show(s.heap.objs.size==S)=false;exact beq_eq_false_iff_ne.mpr (ne_of_gt slt)
 have n2:(Value.type "set"==Value.type "list")=false:=by decide
 have n3:(Value.type "set"==Value.type "tuple")=false:=by decide
 simp only[n1,n2,n3,Bool.or_false,false_eq_true,if_false];have hS1:dN w S ks G:=hS.keep fun o e=>by rw[<-hG];exact Y7 _ e
 refine Y2 (vc (s:={s with heap:=G}) hS1 fun I T o es ep t ord ss h1 d k1 hI hSI hTT hTl hIl hd hf hled hn st q1 q2=>?_);replace k1:∀b o,G.get? b=some o->h1.get? b=some o:=k1;replace hI:G.objs.size<=I:=hI;have gS1:h1.get? S=some o0:=k1 _ _ gS;refine Y2 (wpAny_holding ?_);unfold Builtin.List.listLengthHint;have tS1:Shared.TypeIs {s with heap:=h1,drawn:=d} (.ref S) "set":=⟨o0,gS1,hex0.1⟩
 refine Y2 (wpAny_specialOf (T:="set") tS1 iD ?_)
 wp_delta
 refine Y2 (wpAny_isInstance (T:="set") (b:=true) tS1 (by rw[isSubtype_type];kernel_rfl) ?_);show wpAny _ A.in1 (typeOf (.ref S)>>= _) _ _ _;refine Y2 (wpAny_typeOf (T:="set") tS1 (Y3 ?_));rw[if_pos (by decide)];refine Y2 (wpAny_rule ?_);have gL1:h1.get? s.heap.objs.size=some {cls:= .type "list",data:= .seq ([]:List Value).toArray}:=k1 _ _ gL;refine Y2 ?_;unfold Builtin.List.listTouch;refine Y2 (listUpdate_at (s:={s with heap:=h1,drawn:=d}) gL1 rfl ?_ (zero_le _) (by show 1<=sizeLine+1;lia));have gL2:=get?_update_self (Obj.mapSeq (·.push Value.none)) gL1 rfl;refine listUpdate_at (xs:= #[Value.none]) (n:=1) (s:={s with heap:=h1.update s.heap.objs.size (Obj.mapSeq (·.push Value.none)),drawn:=d}) gL2 rfl ?_ (by show 1<=sizeLine;decide) (by show 0<=sizeLine+1;lia);have gL3:=get?_update_self (Obj.mapSeq (·.pop)) gL2 rfl;have oth:∀b o,b≠s.heap.objs.size->h1.get? b=some o->((h1.update s.heap.objs.size (Obj.mapSeq (·.push Value.none))).update s.heap.objs.size (Obj.mapSeq (·.pop))).get? b=some o:=fun b o hb e=>(get?_update_other _ _ (Ne.symm hb)).trans ((get?_update_other _ _ (Ne.symm hb)).trans e)
 have neI:s.heap.objs.size≠I:=V4 (X8 (by rw[gz];exact lt_succ_self _) hI);have neT:s.heap.objs.size≠T:=by
  rcases hTT with e|e
  ·rw[e];exact ne_of_gt slt
  ·exact V4 (X8 (by show s.heap.objs.size<G.objs.size;rw[gz];exact lt_succ_self _) e)
 have nfp:s.heap.objs.size∉[I,S,T]:=by
  simp only[mem_cons,not_mem_nil,or_false,not_or];exact⟨neI,ne_of_gt slt,neT⟩
 have hbn:ord.length<=sizeLine:=by
  have e:es.size<scanBound:=by
   obtain⟨hS',_⟩:=st;rw[gS1]at hS';cases hS';rw[hd0]at hd;injection hd with e1
   rw[<-e1];exact hb0
  rw[hn];exact fits_of_scanBound e
 have W:=ml (prog:=prog) (A:=A.in1) (T:=T) (show A.in1.handled=none from hh) hd hf hled hSI hn;have st2:=W.frame 0 h1 ((h1.update s.heap.objs.size (Obj.mapSeq (·.push Value.none))).update s.heap.objs.size (Obj.mapSeq (·.pop))) st fun b hb o' e=>oth b o' (fun q=>nfp (q▸hb)) e
 refine Y3 ⟨plainId_quiet F.plain_extend_loop _,codeAny_extend_loopS W.toS hbn _ nfp _ ord.length 0 _ _ _ rfl (zero_le _) st2 gL3 (ItemsOf.nil _) fun s5 acc c5 m5 gL5 hacc=>?_⟩;show wpAny _ A (load s.heap.objs.size>>= _) _ _ s5;refine Y2 (wpAny_load gL5 (Y3 ?_));have ea:acc.toList=ord:=by
  apply ext_getElem?;intro j;by_cases hj:j<ord.length
  ·have hj':j<acc.size:=by rw[hacc.1];exact hj
   have:=hacc.2 j acc[j] (by simp[hj']);rw[this];simp[hj']
  ·have l1:acc.toList.length=ord.length:=by rw[X2];exact hacc.1
   rw[List.getElem?_eq_none (l:=acc.toList) (by lia),List.getElem?_eq_none (l:=ord) (by lia)]
 rw[ea];refine hQ s5 ord ss q1 q2 (fun b o' e=>?_) m5.gens m5.os (le_of_lt (V7 gL5));have blt:=V7 e;refine m5.heap b o' ?_ (oth b o' (V4 blt) (k1 b o' (by rw[<-hG];exact Y7 _ e)));simp only[mem_cons,not_mem_nil,or_false,not_or];exact⟨V4 blt,V4 (X8 blt (le_trans (by rw[gz];exact le_succ _) hI))⟩
end
open PySem PySem.Spec PyProof.Rows
section
variable{X:Cx}{pins:List (Addr×Obj)}{σ:St}{H:Hp}{s s':Shared}
theorem Inv.keptS(I:Inv X pins σ H s)(k:∀b o,s.heap.get? b=some o->s'.heap.get? b=some o)(hg:s'.gens=s.gens)(ho:s'.os=s.os):Inv X pins σ H s':=by
 obtain⟨h',g',d',t',o'⟩:=s';replace hg:g'=s.gens:=hg;replace ho:o'=s.os:=ho;subst hg;subst ho;refine I.step (g':=s.gens) (d':=d') (ch:=[]) (fun b hb=>absurd hb (by simp)) (fun b o _ _ _ e _=>k b o e) (fun b o _ _ _ e _=>⟨o.slots,k b o e⟩) (fun _ _ _ _ n=>n) (fun b o _ e=>⟨o,k b o e⟩) (fun _ _ e=>e) (fun _ _ _ e=>e) (fun b ps e=>⟨#[],by rw[e];simp⟩) (fun m hm=>?_) (fun b v e=>?_) I.bare
 ·obtain⟨o,es,ep,ho,r⟩:=hm;exact⟨o,es,ep,k _ o ho,r⟩
 ·exact(I.hok b v e).stay (fun c' v' _ q=>k c' v' q) (fun _ q=>q) fun _ _ q=>q
theorem Inv.stoodS{a:Addr}{o:HO}(I:Inv X pins σ H s)(J:Inv X pins σ H s')(ha:s.heap.objs.size<=a)(new:bA X.prog X.w (upd H a o) s'.heap a o):Inv X pins σ (upd H a o) s':=by
 have Hn:H a=none:=I.hok.fresh ha;have lt0:∀b o,X.s₀.heap.get? b=some o->b≠a:=fun b o e=>V4 (X8 (X8 (V7 e) I.sz) ha)
 refine⟨J.ok,J.os,J.bare,?_,J.loc,J.cell,?_,?_,?_,?_,J.len⟩
 ·refine⟨J.base.keep,J.base.slot,fun b o e n hx=>?_,J.base.there,fun b xs e=>?_,fun b o v e=>?_,fun b ps e=>?_⟩
  ·rw[ak (lt0 b o e)];exact J.base.free b o e n hx
  ·rw[ak (ao (J.base.tups b xs e) Hn)];exact J.base.tups b xs e
  ·rw[ak (ao (J.base.frzs b o v e) Hn)];exact J.base.frzs b o v e
  ·obtain⟨m,q⟩:=J.base.tbls b ps e;exact⟨m,by rw[ak (ao q Hn)];exact q⟩
 ·rw[ak (V4 (X8 I.lt ha))];exact J.free
 ·intro x' c' e;obtain⟨v',q⟩:=I.cell x' c' e;rw[ak (V4 (X8 q.lt ha))];exact J.freeC x' c' e
 ·intro p hp;obtain⟨e,n,r⟩:=J.pin p hp;refine⟨e,?_,r⟩;rw[ak (V4 (X8 (V7 (I.pin p hp).1) ha))];exact n
 ·intro b v e;by_cases hb:b=a
  ·subst hb;rw[aa]at e;cases e;exact new
  ·rw[ak hb]at e;refine(J.hok b v e).stay (fun _ _ _ q=>q) (fun c' q=>?_) fun c' xs q=>?_
   ·rw[ak (ao q Hn)];exact q
   ·rw[ak (ao q Hn)];exact q
end
section
variable{prog:Program}{w:World}{A:Around}{E:Value->Shared->Prop}{s:Shared}{S:Addr}
theorem qr{ks:List Str}{Q:Value->Shared->Prop}(hh:A.handled=none)(hS:dN w S ks s.heap)(h64:ks.length<64)
 (hQ:∀(s':Shared) (l:Addr) (vs:List Value) (ss:List Str) (n:Nat),StrsAre vs ss->ss.Perm ks->sortedS ss=true->(∀b o,s.heap.get? b=some o->s'.heap.get? b=some o)->s'.gens=s.gens->s'.os=s.os->s.heap.objs.size<=l->s'.heap.get? l=some {cls:= .type "list",data:= .seq vs.toArray n}->Q (.ref l) s'):
 wpAny (model prog w) A (call (.builtin "sorted") [.ref S]) Q E s:=by
 refine Calls.call_function_entry kind_sorted plain_sorted entry_sorted (args_sorted1 _) ?_;unfold Builtin.«sorted»;refine Y2 (m:=checkCount "sorted" 1 1 _) (Y3 ?_);refine Y2 (oq (show A.in1.handled=none from hh) hS fun s1 vs ss q1 q2 k1 g1 o1 sle=>?_);have hl:vs.length<64:=by rw[cg q1,q2.length_eq];exact h64
 refine Y2 (wpAny_newList ?_ (by rw[sizeLine_eq];lia));have gL:(s1.heap.push (seqObj "list" vs.toArray 0)).get? s1.heap.objs.size=some (seqObj "list" vs.toArray 0):=W3 _ rfl;refine Y2 (wpAny_holding (wpAny_call_entry slot_list_sort ⟨_,gL,rfl⟩ entry_list_sort (list_sort_treeK (s:={s1 with heap:=s1.heap.push (seqObj "list" vs.toArray 0)}) strKind_oneLt gL q1.keysOf (fun v₁ v₂ rest e=>keyKind_strs (by rw[<-e];exact q1)) hl fun st' hp hs=>⟨_,rfl,?_⟩) (args_list_sort _)));obtain⟨ts,r1,r2,r3⟩:=sorted_out_str q1 hp hs;obtain⟨n,gl⟩:∃n,(sortedHeap (s1.heap.push (seqObj "list" vs.toArray 0)) s1.heap.objs.size vs ((arrOf st').map (·.2))).get? s1.heap.objs.size=some (seqObj "list" ((arrOf st').map (·.2)) n):=sortedHeap_at gL;refine Y3 ⟨_,rfl,hQ _ s1.heap.objs.size ((arrOf st').map (·.2)).toList ts n r1 (r2.trans q2) r3 (fun b o' e=>?_) g1 o1 sle ?_⟩
 rotate_left
 ·show _=some (seqObj "list" ((arrOf st').map (·.2)).toList.toArray n);rw[Array.toArray_toList];exact gl
 have e1:=k1 b o' e;have blt:=V7 e1;show(sortedHeap _ _ _ _).get? b=_;rw[sortedHeap_old (V4 blt) (by rw[V0];exact lt_succ_of_lt blt)];exact Y7 _ e1
end
section
variable{X:Cx}{K:PySem.W.Frag}
theorem m9(hc:X.calm=true):cG X (.builtin "sorted") (fun xs H Q=>∃a ks,xs=[.ref a]/\H a=some (qo X.w a ks)/\ks.length<64/\∀l ss,H l=none->ss.Perm ks->sortedS ss=true->Q (.ref l) (upd H l (.lst (ss.map V.str)))):=by
 intro pins s σ H xs us Q I r h;obtain⟨a,ks,rfl,ha,hl,q⟩:=h;obtain⟨u,rfl,ru⟩:=d6 r;cases ru;obtain⟨S,_,_⟩:=(show bA X.prog X.w H s.heap a (qo X.w a ks)from I.hok a _ ha)
 refine qr (I.ok.hd hc) S hl fun s' l vs ss n r1 r2 r3 k g o hle gl=>?_
 have hfree:H l=none:=I.hok.fresh hle;have J:Inv X pins σ H s':=I.keptS k g o;refine⟨.ref l,_,I.stoodS (o:= .lst (ss.map V.str)) J hle ⟨?_,vs,n,lV r1,gl⟩,rfl,q l ss hfree r2 r3⟩;rw[Y6,r2.length_eq,sizeLine_eq]
 lia
theorem sI(h:X.w=w)(hc:X.calm=true):dM X (.builtin "sorted") (fun xs H Q=>∃a ks,xs=[.ref a]/\H a=some (qo w a ks)/\ks.length<64/\∀l ss,H l=none->ss.Perm ks->sortedS ss=true->Q (.ref l) (upd H l (.lst (ss.map V.str)))):=by subst h;exact⟨m9 hc⟩
end
theorem al{t u:TS}{D:gO}{σ:St}{H:Hp}(h:∀D':gO,(∀σ' H',u D σ' H'->D'.nx σ' H')->(∀v H',D.rt v H'->D'.rt v H')->t D' σ H):cf t u D σ H:=h _ (fun _ _ x=>x) fun _ _ x=>x
theorem aT{t:TS}{D:gO}{σ:St}{H:Hp}(h:∀D':gO,(∀σ' H',D.nx σ' H'->D'.nx σ' H')->(∀v H',D.rt v H'->D'.rt v H')->t D' σ H):t D σ H:=h _ (fun _ _ x=>x) fun _ _ x=>x
theorem iE{K:PySem.W.Frag}{a:PySem.Addr}{xs:List V}{g:TG}{tb:TS}{D:gO}{σ:St}{H:Hp}(Pv:Nat->St->Hp->Prop)(h0:Pv 0 σ H)(hl:∀i σ H,i<=xs.length->Pv i σ H->SqL K H a xs)
 (hs:∀i x T σ H,xs[i]? =some x->Pv i σ H->H T=none->g (.ref T) σ (upd H T (.tup [.int i,x])) fun σ2 H2=>tb {D with nx:=Pv (i+1),ct:=Pv (i+1),bk:=D.nx} σ2 H2) (hd:∀σ H,Pv xs.length σ H->D.nx σ H):
 ∃W:Nat->Nat->St->Hp->Prop,(∃m,W 0 m σ H)/\∀i m σ H,W i m σ H->
  ((Ite K a xs).stop i H/\D.nx σ H)\/((Ite K a xs).go i H/\∃N:St->Hp->Prop,(∀σ' H',N σ' H'->∃m',m'<m/\W (i+1) m' σ' H')/\∀x H',(Ite K a xs).yld i H x H'->g x σ H' fun σ2 H2=>tb {D with nx:=N,ct:=N,bk:=D.nx} σ2 H2):=by
 refine⟨fun i m σ H=>m=xs.length-i/\i<=xs.length/\Pv i σ H,⟨xs.length,by simp,zero_le _,h0⟩,?_⟩;rintro i m σ H ⟨rfl,hi,p⟩;have q:=hl i σ H hi p;by_cases lt:i<xs.length
 ·refine .inr ⟨⟨q,lt⟩,Pv (i+1),fun σ' H' p'=>⟨xs.length-(i+1),by lia,rfl,lt,p'⟩,fun v H' y=>?_⟩;obtain⟨x,T,e,hT,rfl,rfl⟩:=y;exact hs i x T σ _ e p hT
 ·have e:i=xs.length:=by lia
  subst e;exact .inl ⟨⟨q,W1 _⟩,hd σ H p⟩
section
open PySem PySem.Spec PyProof.Rows
variable{X:Cx}{K:PySem.W.Frag}{pos:Pos}{a b:Expr}{ta tb:TE}
theorem bP:OpQ X (binaryOp .Add) (rI0 fun i j=> .int (i+j)):=⟨tZ⟩
theorem dI:OpQ X (binaryOp .Mult) (rI tY fun i j=> .int (i*j)):=⟨t8⟩
theorem bY(h:X.K=K)(hs:jW b)(ha:QE X a ta)(hb:QE X b tb):QE X (.Subscript a b pos) (tOp (wv K) ta tb):=by subst h;exact⟨uA wy ha.h hb.h hs⟩
theorem zg(hs:jW b)(ha:QE X a ta)(hb:QE X b tb):QE X (.Subscript a b pos) (tOp wx ta tb):=⟨uA yE ha.h hb.h hs⟩
end
end L2
namespace Cut
open PySem L2 PyProof.Rows
noncomputable def cO:Str:="abcdefghijklmnopqrstuvwxyz"
noncomputable def fZ(c:Nat):Bool:=decide (c∈cO.cps.toList)
noncomputable def okc(c:Nat):Bool:=decide (c=46)||fZ c
noncomputable def nl:Str:="\n"
theorem Ad:nl=⟨#[10]⟩:=rfl
theorem sJ{c:Nat}:fZ c=true↔97<=c/\c<=122:=by
 have e:cO.cps.toList=(List.range 26).map (·+97):=by decide +kernel
 unfold fZ;rw[decide_eq_true_iff,e,mem_map]
 constructor
 ·rintro⟨i,h,rfl⟩;have:=mem_range.mp h
  lia
 ·rintro⟨h1,h2⟩;exact⟨c-97,mem_range.mpr (by lia),by lia⟩
theorem zh{c:Nat}(h:okc c=true):c≠10:=by
 intro e;subst e
 revert h
 decide +kernel
structure bQ (rows:List Str):Prop where
 pos:1<=rows.length
 high:rows.length<=40
 wide:∃wd,1<=wd/\wd<=40/\∀r∈rows,r.cps.size=wd
 sign:∀r∈rows,r.cps.toList.all okc=true
 fall:∀(i:Nat) (r r':Str),rows[i]? =some r->rows[i+1]? =some r'->∀(j c c':Nat),r.cps[j]? =some c->r'.cps[j]? =some c'->c'=46->c=46
 some':∃r∈rows,∃c∈r.cps.toList,c≠46
theorem eK{x y:Str}(h:x.cps.toList=y.cps.toList):x=y:=by
 obtain⟨⟨l⟩⟩:=x;obtain⟨⟨m⟩⟩:=y;simp at h;rw[h]
theorem eX(sep x y:Str)(r:List Str):(Str.join sep (x::y::r)).cps.toList=x.cps.toList++sep.cps.toList++(Str.join sep (y::r)).cps.toList:=by
 show((x.cps++sep.cps) ++(Str.join sep (y::r)).cps).toList=_;rw[toList_append,toList_append]
theorem vd{α:Type}[DecidableEq α]{c:α}:∀{a b x y:List α},c∉a->c∉b->a++c::x=b++c::y->a=b/\x=y
 |[],[],_,_,_,_,h=>⟨rfl,(List.cons.inj h).2⟩
 |[],b::bs,_,_,_,hb,h=>absurd (by rw[<-(List.cons.inj h).1];exact W6) hb
 | a::as,[],_,_,ha,_,h=>absurd (by rw[(List.cons.inj h).1];exact W6) ha
 | a::as,b::bs,x,y,ha,hb,h=>by
   obtain⟨h1,h2⟩:=List.cons.inj h;obtain⟨e1,e2⟩:=vd (fun q=>ha (W4 _ q)) (fun q=>hb (W4 _ q)) h2;exact⟨by rw[h1,e1],e2⟩
theorem ot{c:Nat}:∀{ps qs:List Str},ps≠[]->qs≠[]->(∀p∈ps,c∉p.cps.toList)->(∀q∈qs,c∉q.cps.toList)->(Str.join ⟨#[c]⟩ ps).cps.toList=(Str.join ⟨#[c]⟩ qs).cps.toList->ps=qs
 |[],_,h,_,_,_,_=>absurd rfl h
 | _,[],_,h,_,_,_=>absurd rfl h
 |[p],[q],_,_,_,_,e=>by rw[eK (show p.cps.toList=q.cps.toList from e)]
 |[p],q::q2::qs,_,_,hp,_,e=>by
  rw[eX]at e;refine absurd ?_ (hp p W6);rw[show p.cps.toList=(Str.join ⟨#[c]⟩ [p]).cps.toList from rfl,e];simp
 | p::p2::ps,[q],_,_,_,hq,e=>by
   rw[eX]at e;refine absurd ?_ (hq q W6);rw[show q.cps.toList=(Str.join ⟨#[c]⟩ [q]).cps.toList from rfl,<-e];simp
 | p::p2::ps,q::q2::qs,_,_,hp,hq,e=>by
   rw[eX,eX,X6,X6]at e;obtain⟨e1,e2⟩:=vd (c:=c) (hp p W6) (hq q W6) e;rw[eK e1,ot (by simp) (by simp) (fun x hx=>hp x (W4 _ hx)) (fun x hx=>hq x (W4 _ hx)) e2]
theorem qt{rows:List Str}(h0:rows≠[])(h:∀r∈rows,10∉r.cps.toList):Txt.split (Str.join nl rows) nl=rows:=by
 have e:=StrLaws.join_split (Str.join nl rows) nl;rw[Ad]at e ⊢;refine ot (c:=10) ?_ h0 (StrLaws.split_free _ 10) h (by rw[e]);intro q;have:=split_pos (Str.join ⟨#[10]⟩ rows) ⟨#[10]⟩;rw[q]at this;simp at this
theorem bQ.nonl{rows:List Str}(h:bQ rows):∀r∈rows,10∉r.cps.toList:=fun r hr hm=>by
 have:=all_eq_true.mp (h.sign r hr) 10 hm;exact zh this rfl
theorem bQ.split{rows:List Str}(h:bQ rows):Txt.split (Str.join nl rows) nl=rows:=
 qt (fun e=>by have:=h.pos;rw[e]at this;simp at this) h.nonl
theorem nh{α:Type}{f:α->Nat}{B:Nat}:∀{xs:List α},(∀x∈xs,f x<=B)->(xs.map f).sum<=xs.length*B
 |[],_=>by simp
 | x::r,h=>by
   have h1:=nh fun y hy=>h y (W4 _ hy)
   have h2:=h x W6;rw[map_cons,List.sum_cons,V1,Nat.succ_mul]
   lia
theorem bQ.sum{rows:List Str}(h:bQ rows):(rows.map (·.length)).sum<=1600:=by
 obtain⟨wd,_,w2,h3⟩:=h.wide;have:=nh (f:=fun r:Str=>r.length) (B:=40) (xs:=rows) fun r hr=>by have:=h3 r hr;show r.cps.size<=40;lia
 have:=h.high;have h5:rows.length*40<=40*40:=Nat.mul_le_mul_right _ this
 lia
theorem bQ.text{rows:List Str}(h:bQ rows):(Str.join nl rows).length<=2000:=by
 have h1:=StrLaws.join_length_le nl rows;have h2:=h.sum;have h3:=h.high;have h4:nl.length=1:=rfl;rw[h4]at h1
 lia
noncomputable def sgn(c:Nat):Str:=⟨#[c]⟩
theorem kD{cs:List Nat}(h:∀c∈cs,fZ c=true):(aI (cs.map sgn)).length<=26:=by
 have hs:∀x∈aI (cs.map sgn),x∈cO.cps.toList.map sgn:=fun x hx=>by
  obtain⟨c,hc,e⟩:=mem_map.mp (dP.mp hx);exact mem_map.mpr ⟨c,W8 (h c hc),e⟩
 have:=List.Nodup.length_le_of_subset (fY (cs.map sgn)) hs;rw[Y6]at this;have e:cO.cps.toList.length=26:=by decide +kernel
 lia
noncomputable def cv(rows:List Str):List Nat:=(Str.join (Str.ofString "") rows).cps.toList.filter (fun c=>decide (c≠46))
theorem ou:∀(rows:List Str),(Str.join (Str.ofString "") rows).cps.toList=(rows.map (·.cps.toList)).flatten
 |[]=>rfl
 |[x]=>by simp[Str.join]
 | x::y::r=>by
   have e:(Str.ofString "").cps.toList=[]:=rfl;rw[eX,ou (y::r),e,append_nil];simp
theorem mm{rows:List Str}(h:∀r∈rows,r.cps.toList.all okc=true):∀c∈cv rows,fZ c=true:=fun c hc=>by
 unfold cv at hc;rw[List.mem_filter,ou]at hc;obtain⟨h1,h2⟩:=hc;obtain⟨l,hl,hm⟩:=List.mem_flatten.mp h1;obtain⟨r,hr,rfl⟩:=mem_map.mp hl;have:=all_eq_true.mp (h r hr) c hm;unfold okc at this;rw[or_eq_true]at this;rcases this with q|q
 ·exact absurd (W8 q) (W8 h2)
 ·exact q
theorem bQ.signs_ne{rows:List Str}(h:bQ rows):cv rows≠[]:=by
 obtain⟨r,hr,c,hc,hne⟩:=h.some';intro e;have:c∈cv rows:=by
  unfold cv;rw[List.mem_filter,ou];exact⟨List.mem_flatten.mpr ⟨_,mem_map.mpr ⟨r,hr,rfl⟩,hc⟩,X7 hne⟩
 rw[e]at this;cases this
noncomputable def kE(z:Str):Bool:=(decide (1<=(z.length:Int))&&decide ((z.length:Int)<=40))&&z.cps.toList.all okc
noncomputable def d7(row above:Str):Bool:=decide (row.length=above.length)&&(List.zip above.cps.toList row.cps.toList).all fun p=>!decide (p.2=46)||decide (p.1=46)
theorem bQ.row{rows:List Str}(h:bQ rows){r:Str}(hr:r∈rows):kE r=true:=by
 obtain⟨wd,w1,w2,h3⟩:=h.wide;have e:r.length=wd:=h3 r hr;unfold kE;rw[h.sign r hr,e,X7 (by lia),X7 (by lia)];rfl
theorem bQ.beneath{rows:List Str}(h:bQ rows){i:Nat}{r r':Str}(h1:rows[i]? =some r)(h2:rows[i+1]? =some r'):d7 r' r=true:=by
 obtain⟨wd,w1,w2,h3⟩:=h.wide;have e1:r.length=wd:=h3 r (Y8 h1);have e2:r'.length=wd:=h3 r' (Y8 h2);unfold d7;rw[X7 (e2.trans e1.symm),Bool.true_and,all_eq_true];intro p hp;obtain⟨j,hj⟩:=List.getElem?_of_mem hp;rw[List.getElem?_zip_eq_some]at hj;have g1:r.cps[j]? =some p.1:=by simpa using hj.1
 have g2:r'.cps[j]? =some p.2:=by simpa using hj.2
 have:=h.fall i r r' h1 h2 j p.1 p.2 g1 g2;by_cases q:p.2=46
 ·rw[X7 (this q),Bool.or_true]
 ·rw[X9 q];rfl
theorem qu(cs:List Nat):(Str.join (Str.ofString "") (cs.map sgn))=⟨cs.toArray⟩:=by
 refine eK ?_;rw[ou,map_map];show((cs.map (fun c=>[c])).flatten)=cs
 induction cs with
 | nil=>rfl
 | cons c r ih=>rw[map_cons,flatten_cons,ih];rfl
theorem rn:∀cs:List Nat,((cs.map sgn).map (fun x=>x.length)).sum=cs.length
 |[]=>rfl
 | c::r=>by
   rw[map_cons,map_cons,List.sum_cons,rn r,V1];show 1+r.length=r.length+1
   lia
end Cut
namespace Cut
open PySem L2
end Cut
namespace L2
open PySem PySem.Spec PyProof.Rows
noncomputable def Up(B:Heap)(l:List Env)(e:Addr)(cls:Value)(dct:Option Addr)(fl:Option Value)(h:Heap):Prop:=
 B.StaysIn h/\B.get? e=none/\h.FunFrames B l/\∃oe vs,h.get? e=some oe/\oe.cls=cls/\oe.dict=dct/\oe.data= .fields vs/\1<vs.size/\
  match fl with
  | none=>vs[1]? =some .none
  | some f=>∃T oT ts,vs[1]? =some (.ref T)/\B.get? T=none/\T≠e/\h.get? T=some oT/\oT.data= .fields ts/\ts[3]? =some f
section
variable{M:Model}{A:Around}{E:Value->Shared->Prop}{s:Shared}{B:Heap}{env:Env}{outer:List Env}{L e:Addr}{cls:Value}{dct:Option Addr}{Q:Unit->Shared->Prop}
end
section
variable{P:Program}{w:World}{H:Hp}{h:Heap}{a:Addr}{o:HO}
end
section
variable{P:Program}{w:World}{l:List Env}{H H':Hp}{s s':Shared}{ea:Addr}{B h':Heap}{cls:Value}{dx:Option Addr}{fl fl':Option Value}
end
section
variable{P:Program}{w:World}{K:PySem.W.Frag}{mg:Str->Option Value}{base:Heap}{N:List Str}{qual:Str}{scope:Scope}{f:Addr}{cd:Value}{A:Around}{outer:List Env}{s₀:Shared}{H₀:Hp}{E:XK}
end
section
variable{prog:Program}{w:World}{A:Around}{E:Value->Shared->Prop}{h:Heap}{g:Array GenState}{d:Drawn}{t:Nat}{os:OsState}
variable{nm q:Str}{C N:Addr}{bs bm bmB:List Value}{hdct:Bool}{sn:List Str}{sub:List Value}{ab:Bool}{col:Option Bool}{dd:Option Addr}{k0 k1 k2 k3 k5:Option Value}{B newId initId:String}
end
section
variable{prog:Program}{w:World}{A:Around}{E:Value->Shared->Prop}{s:Shared}{K:PySem.W.Frag}{x C:Addr}{name:Str}{v:Value}{ox:Obj}{od:Option Obj}
end
section
variable{X:Cx}{C f:Addr}
end
section
variable{X:Cx}{pins:List (Addr×Obj)}{σ:St}{H:Hp}{s s':Shared}
end
section
variable{X:Cx}{C D f:Addr}{x nm:Str}{p pos pos' apos:Pos}{e o value:Expr}{es:List Expr}{t:TA}{ta tv:TE}{r:List V->Hp->VK->Prop}
end
noncomputable def zi(te:TE):TE:=fun σ H Q=>te σ H fun v H1=>(∃i:Int,v= .int i/\i.natAbs<2^64/\Q (.str (toString i)) H1)\/∃y:Str,v= .str y/\y.length<=sizeLine/\Q (.str y) H1
noncomputable def kF:List TE->Str->TE
 |[],out=>fun σ H Q=>out.length<=sizeLine/\Q (.str out) H
 | t::ts,out=>fun σ H Q=>t σ H fun v H1=>∃y:Str,v= .str y/\(out++y).length<=sizeLine/\kF ts (out++y) σ H1 Q
inductive PJ (X:Cx):List Expr->List TE->Prop
 | nil:PJ X [] []
 | cons {e:Expr} {es:List Expr} {t:TE} {ts:List TE}:PE X e t->PJ X es ts->PJ X (e::es) (t::ts)
section
variable{X:Cx}{e v1 v2:Expr}{rest:List Expr}{te t1 t2:TE}{ts:List TE}{pos:Pos}
theorem zj(he:PE X e te):PE X (.FormattedValue e (-1) none pos) (zi te):=by
 intro pins s σ H Q I h;refine FormattedValue_plain (thn (he pins s σ H _ I h) fun u s1 ⟨v,H1,I1,r,q⟩=>?_);rcases q with⟨i,rfl,hi,q⟩|⟨y,rfl,hy,q⟩
 ·obtain⟨t,rfl⟩:=(show∃t,u=Value.int i t from r)
  have hl:i.natAbs.log2<1920:=by
   by_cases z:i.natAbs=0
   ·rw[z];decide
   ·exact(Nat.log2_lt z).mpr (X8 hi (Nat.pow_le_pow_right (by decide) (by decide)))
  exact formatField_int_small hl ⟨V.str (toString i),H1,I1.tok _,⟨_,rfl⟩,q⟩
 ·obtain⟨t,rfl⟩:=(show∃t,u=Value.str y t from r)
  exact formatField_str (fun t' tk=>⟨.str y,H1,I1.tok _,⟨_,rfl⟩,q⟩) hy
theorem ve{es:List Expr}(h:PJ X es ts):∀(out:Str) (pins:List (Addr×Obj)) (s:Shared) (σ:St) (H:Hp) (Q:VK),Inv X pins σ H s->kF ts out σ H Q->
 wpAny (model X.prog X.w) X.A (joinParts out (evalEach es X.env)) (EP X pins σ Q) X.xe s:=by
 induction h with
 | nil=>exact fun out pins s σ H Q I ⟨hz,q⟩=>joinParts_nil ⟨.str out,H,I.tok _,⟨_,rfl⟩,q⟩ hz
 | cons he _ ih=>
   intro out pins s σ H Q I q;refine joinParts_cons (thn (he pins s σ H _ I q) fun u s1 ⟨v,H1,I1,r,y,ev,hz,q1⟩=>?_);subst ev;obtain⟨t,rfl⟩:=(show∃t,u=Value.str y t from r)
   exact⟨hz,ih _ pins s1 σ H1 Q I1 q1⟩
theorem wX(h:PJ X (v1::v2::rest) ts):PE X (.JoinedStr (v1::v2::rest) pos) (kF ts Str.empty):=fun pins s σ H Q I q=>
 JoinedStr_many (ve h _ pins s σ H Q I q)
end
section
variable{X:Cx}{k:Nat}{f C:Addr}{fd:FuncData}{ps:List Str}{sp:Sp}{x:Str}{p pos cpos:Pos}{e:Expr}{es:List Expr}{te:TE}{t:TA}
end
noncomputable def drop(H:Hp)(a:Addr):Hp:=fun b=>if b=a then none else H b
section
variable{X:Cx}{pins:List (Addr×Obj)}{σ:St}{H:Hp}{s s':Shared}
end
section
variable{M:Model}{A:Around}{E:Value->Shared->Prop}{s:Shared}{K:PySem.W.Frag}{D C e:Addr}{oe:Obj}{b:Bool}{Q:Bool->Shared->Prop}
end
section
variable{X:Cx}{pins pins' pn:List (Addr×Obj)}{σ:St}{H:Hp}{s:Shared}{E:Value->Shared->Prop}
end
section
variable{prog:Program}{w:World}{A:Around}{E:Value->Shared->Prop}{s:Shared}{K:PySem.W.Frag}{x C:Addr}{name:Str}{v:Value}{ox:Obj}{od:Option Obj}
end
section
variable{prog:Program}{w:World}{A:Around}{E:Value->Shared->Prop}{s:Shared}{K:PySem.W.Frag}{x C:Addr}{ox:Obj}{od:Option Obj}
end
section
variable{X:Cx}{pins:List (Addr×Obj)}{σ:St}{H:Hp}{s:Shared}
end
noncomputable def cw(mg:Str->Option Value)(x:Str):Addr:=match mg x with
 | some (.ref C)=>C
 | _=>0
theorem wY{mg:Str->Option Value}{x:Str}{C:Addr}(h:mg x=some (.ref C)):cw mg x=C:=by unfold cw;rw[h]
section
variable{P:Program}{w:World}{K:PySem.W.Frag}{mg:Str->Option Value}{base:Heap}{x qual:Str}{st:Stmt}{N ps:List Str}{k:Nat}{sp:Sp}
end
section
variable{X:Cx}{K:PySem.W.Frag}{pos:Pos}
theorem zk{e:Expr}{te:TE}(he:QE X e te):QE X (.FormattedValue e (-1) none pos) (zi te):=⟨zj he.h⟩
theorem xK:PJ X [] []:= .nil
theorem pjE{e:Expr}{es:List Expr}{t:TE}{ts:List TE}(he:QE X e t)(h:PJ X es ts):PJ X (e::es) (t::ts):= .cons he.h h
theorem xL{v1 v2:Expr}{rest:List Expr}{ts:List TE}(h:PJ X (v1::v2::rest) ts):QE X (.JoinedStr (v1::v2::rest) pos) (kF ts Str.empty):=⟨wX h⟩
end
section
variable{prog:Program}{w:World}{A:Around}{E:Value->Shared->Prop}{s:Shared}
end
section
variable{prog:Program}{w:World}{A:Around}{E:Value->Shared->Prop}{s:Shared}
end
section
variable{prog:Program}{w:World}{A:Around}{E:Value->Shared->Prop}{s:Shared}
end
section
variable{prog:Program}{w:World}{A:Around}{E:Value->Shared->Prop}{s:Shared}
end
section
variable{X:Cx}{K:PySem.W.Frag}{pos:Pos}
end
end L2
namespace SBig
open PySem PyProof.Rows
section
variable(prog:Program)(w:World)(A:Around)(SI:Shared->Prop)
noncomputable def SC{α:Type}(m:StateT SortSt Sem α)(Q:α->SortSt->Prop)(st:SortSt):Prop:=
 ∀s,SI s->wpAny (model prog w) A (m.run st) (fun r s'=>SI s'/\Q r.1 r.2) (fun _ _=>False) s
noncomputable def Cmp(κ:SortKind)(D:Keyed->Prop)(N:Keyed->Nat):Prop:=
 ∀x y s,D x->D y->SI s->wpAny (model prog w) A (keyLt' κ x.1 y.1) (fun b s'=>b=decide (N x<N y)/\SI s') (fun _ _=>False) s
end
section
variable{prog:Program}{w:World}{A:Around}{SI:Shared->Prop}{α β:Type}
theorem ae{a:α}{Q:α->SortSt->Prop}{st:SortSt}(h:Q a st):(SC prog w A SI) (pure a) Q st:=fun s hs=>by
 rw[StateT.run_pure];exact Y3 ⟨hs,h⟩
theorem ad{m:StateT SortSt Sem α}{f:α->StateT SortSt Sem β}{Q:β->SortSt->Prop}{st:SortSt}(h:(SC prog w A SI) m (fun a st'=>(SC prog w A SI) (f a) Q st') st):(SC prog w A SI) (m>>= f) Q st:=fun s hs=>by
 rw[StateT.run_bind];exact Y2 (wpAny_mono (h s hs) (fun r s' h'=>h'.2 s' h'.1) fun _ _ e=>e)
theorem ba{m:StateT SortSt Sem α}{Q Q':α->SortSt->Prop}{st:SortSt}(h:(SC prog w A SI) m Q st)(hq:∀a st',Q a st'->Q' a st'):(SC prog w A SI) m Q' st:=fun s hs=>
 wpAny_mono (h s hs) (fun r s' h'=>⟨h'.1,hq _ _ h'.2⟩) fun _ _ e=>e
theorem dJ{Q:SortSt->SortSt->Prop}{st:SortSt}(h:Q st st):(SC prog w A SI) get Q st:=fun s hs=>by
 rw[StateT.run_get];exact Y3 ⟨hs,h⟩
theorem bz{f:SortSt->SortSt}{Q:PUnit->SortSt->Prop}{st:SortSt}(h:Q ⟨⟩ (f st)):(SC prog w A SI) (modify f) Q st:=fun s hs=>by
 rw[StateT.run_modify];exact Y3 ⟨hs,h⟩
theorem zm{x:SortSt}{Q:PUnit->SortSt->Prop}{st:SortSt}(h:Q ⟨⟩ x):(SC prog w A SI) (set x) Q st:=fun s hs=>by
 rw[StateT.run_set];exact Y3 ⟨hs,h⟩
theorem ro{m:Sem α}{Q:α->SortSt->Prop}{st:SortSt}(h:∀s,SI s->wpAny (model prog w) A m (fun a s'=>SI s'/\Q a st) (fun _ _=>False) s):(SC prog w A SI) (liftM m:StateT SortSt Sem α) Q st:=fun s hs=>by
 show wpAny _ _ ((StateT.lift m:StateT SortSt Sem α).run st) _ _ s;rw[StateT.run_lift];exact Y2 (wpAny_mono (h s hs) (fun a s' h'=>Y3 h') fun _ _ e=>e)
theorem fr{t:String}{Q:Unit->SortSt->Prop}{st:SortSt}(h:Q () st):(SC prog w A SI) (liftM (rule t):StateT SortSt Sem Unit) Q st:=ro fun s hs=>wpAny_rule ⟨hs,h⟩
theorem aK{a b:Nat}{c:β}{f:Nat->β->StateT SortSt Sem (ForInStep β)}{Q:β->SortSt->Prop}{st:SortSt}(I:Nat->β->SortSt->Prop)(hab:a<=b)(h0:I a c st)
 (hs:∀i x st,a<=i->i<b->I i x st->(SC prog w A SI) (f i x) (fun r st'=>match r with| .done y=>Q y st'| .yield y=>I (i+1) y st') st) (he:∀x st,I b x st->Q x st):(SC prog w A SI) (forIn [a:b] c f) Q st:=by
 rw[Std.Legacy.Range.forIn_eq_forIn_range'];have hsz:([a:b]:Std.Legacy.Range).size=b-a:=by simp[Std.Legacy.Range.size]
 show(SC prog w A SI) (forIn (List.range' a ([a:b]:Std.Legacy.Range).size 1) c f) Q st;rw[hsz];have go:∀(d i:Nat) (x:β) (st:SortSt),i+d=b->a<=i->I i x st->(SC prog w A SI) (forIn (List.range' i d 1) x f) Q st:=by
  intro d
  induction d with
  | zero=>
    intro i x st e _ hI;have e:i=b:=by lia
    subst e;rw[List.range'_zero,forIn_nil];exact ae (he x st hI)
  | succ d ih=>
    intro i x st e ha hI;rw[List.range'_succ,forIn_cons];refine ad (ba (hs i x st ha (by lia) hI) fun r st' h'=>?_);cases r with
    | done y=>exact ae h'
    | yield y=>exact ih (i+1) y st' (by lia) (by lia) h'
 exact go (b-a) a c st (by lia) (W1 _) h0
theorem aB{xs:Array Keyed}{i:Nat}{x:Keyed}{Q:Keyed->SortSt->Prop}{st:SortSt}(hx:xs[i]? =some x)(h:Q x st):(SC prog w A SI) (elem' xs i) Q st:=by
 rw[elem'_eq,hx];exact ae h
theorem oz{D:Keyed->Prop}{N:Keyed->Nat}{x y:Keyed}{Q:Option Bool->SortSt->Prop}{st:SortSt}(c:Cmp prog w A SI (kindOf st) D N)(hx:D x)(hy:D y)(h:Q (some (decide (N x<N y))) st):(SC prog w A SI) (lt' x y) Q st:=by
 rw[lt'_eq];refine ad (dJ ?_);refine ad (ro (fun s hs=>wpAny_attempt (wpAny_mono (c x y s hx hy hs) (fun b s' ⟨hb,hs'⟩=>?_) fun _ _ e=>e.elim)));subst hb;exact⟨hs',ae h⟩
theorem wZ{D:Keyed->Prop}{N:Keyed->Nat}{i j:Nat}{x y:Keyed}{Q:Option Bool->SortSt->Prop}{st:SortSt}(c:Cmp prog w A SI (kindOf st) D N)(hi:(arrOf st)[i]? =some x)(hj:(arrOf st)[j]? =some y)(hx:D x)(hy:D y)
 (h:Q (some (decide (N x<N y))) st):(SC prog w A SI) (ltAt' i j) Q st:=by
 rw[ltAt'_eq];refine ad (dJ ?_);exact ad (aB hi (ad (aB hj (oz c hx hy h))))
end
noncomputable def eL:Bool->Keyed->Array Keyed->Nat->Nat->Nat->StateT SortSt Sem (Option Nat):=sortPriv% PySem.Builtin.gallop
theorem qv(left:Bool)(key:Keyed)(arr:Array Keyed)(base n hint:Nat):eL left key arr base n hint=(do
 let beyond (i:Nat):StateT SortSt Sem (Option Bool):=do
  let x<-elem' arr (base+i)
  if left then lt' x key else return (<-lt' key x).map (!·)
 let mut lastofs:=0
 let mut ofs:=1
 let mut lo:=0
 let mut hi:=0
 let some right<-beyond hint|return none
 if right then
  let maxofs:=n-hint
  for _ in [0:n] do
   if ofs>=maxofs then break
   let some more<-beyond (hint+ofs)|return none
   if !more then break
   lastofs:=ofs
   ofs:=2*ofs+1
  lo:=hint+lastofs+1
  hi:=hint+min ofs maxofs
 else
  let maxofs:=hint+1
  for _ in [0:n] do
   if ofs>=maxofs then break
   let some found<-beyond (hint-ofs)|return none
   if found then break
   lastofs:=ofs
   ofs:=2*ofs+1
  lo:=hint+1-min ofs maxofs
  hi:=hint-lastofs
 for _ in [0:n] do
  if lo>=hi then break
  let m:=lo+(hi-lo)/2
  let some more<-beyond m|return none
  if more then lo:=m+1 else hi:=m
 return some hi):=rfl
end SBig
namespace SBig
open PySem PyProof.Rows
section
variable{prog:Program}{w:World}{A:Around}{SI:Shared->Prop}{α β:Type}
noncomputable def bD(N:Keyed->Nat)(left:Bool)(key x:Keyed):Bool:=if left then decide (N x<N key)else !decide (N key<N x)
theorem sK{D:Keyed->Prop}{N:Keyed->Nat}{left:Bool}{key x:Keyed}{arr:Array Keyed}{i:Nat}{Q:Option Bool->SortSt->Prop}{st:SortSt}(c:Cmp prog w A SI (kindOf st) D N)(hk:D key)(hx:arr[i]? =some x)(hd:D x)
 (h:Q (some (bD N left key x)) st):(SC prog w A SI) (do let x<-elem' arr i;if left=true then lt' x key else do let y<-lt' key x;pure (y.map (!·))) Q st:=by
 refine ad (aB hx ?_);cases left with
 | true=>
   rw[if_pos rfl];exact oz c hd hk h
 | false=>
   rw[if_neg (by simp)];exact ad (oz c hk hd (ae h))
theorem cR{D:Keyed->Prop}{N:Keyed->Nat}{left:Bool}{key:Keyed}{arr:Array Keyed}{base n hint:Nat}{Q:Option Nat->SortSt->Prop}{st:SortSt}(c:Cmp prog w A SI (kindOf st) D N)(hk:D key)
 (ha:∀i,i<n->∃x,arr[base+i]? =some x/\D x) (P:Nat->Bool) (hP:∀i x,i<n->arr[base+i]? =some x->P i=bD N left key x) (hmono:∀i j,i<=j->j<n->P j=true->P i=true) (hh:hint<n)
 (h:∀k,k<=n->(∀i,i<k->P i=true)->(∀i,k<=i->i<n->P i=false)->Q (some k) st):(SC prog w A SI) (eL left key arr base n hint) Q st:=by
 have ask:∀(i:Nat) (R:Option Bool->SortSt->Prop),i<n->R (some (P i)) st->(SC prog w A SI) (do let x<-elem' arr (base+i);if left=true then lt' x key else do let y<-lt' key x;pure (y.map (!·))) R st:=fun i R hi hR=>by
  obtain⟨x,hx,hd⟩:=ha i hi;exact sK c hk hx hd (by rw[<-hP i x hi hx];exact hR)
 rw[qv];refine ad (ask hint _ hh ?_);dsimp only
 split
 ·rename_i hr
  refine ad (ba (aK (Q:=fun x st'=>st'=st/\∃l o,x=(none,l,o)/\l<o/\hint+l<n/\P (hint+l)=true/\(n-hint<=o\/(hint+o<n/\P (hint+o)=false)))
   (fun j x st'=>st'=st/\∃l o,x=(none,l,o)/\l<o/\hint+l<n/\P (hint+l)=true/\j<o) (zero_le _) ⟨rfl,0,1,rfl,by lia,by lia,hr,by lia⟩ ?_ ?_) ?_)
  ·rintro j x st' _ hj ⟨rfl,l,o,rfl,hlo,hln,hp,hjo⟩;dsimp only;by_cases hge:o>=n-hint
   ·rw[if_pos hge];exact ae ⟨rfl,l,o,rfl,hlo,hln,hp,.inl hge⟩
   ·rw[if_neg hge];refine ad (ask _ _ (by lia) ?_);dsimp only;cases hq:P (hint+o)with
    | true=>
      rw[if_neg (by simp)];exact ae ⟨rfl,o,_,rfl,by lia,by lia,hq,by lia⟩
    | false=>
      rw[if_pos (by simp)];exact ae ⟨rfl,l,o,rfl,hlo,hln,hp,.inr ⟨by lia,hq⟩⟩
  ·rintro x st' ⟨rfl,l,o,rfl,hlo,hln,hp,hjo⟩;exact⟨rfl,l,o,rfl,hlo,hln,hp,.inl (by lia)⟩
  ·rintro x st0 ⟨e0,l,o,rfl,hlo,hln,hp,ho⟩;subst e0;dsimp only;have z1:∀i,i<hint+l+1->P i=true:=fun i hi=>hmono i _ (by lia) hln hp
   have z2:∀i,hint+min o (n-hint)<=i->i<n->P i=false:=fun i hi hin=>by
    rcases ho with ho|⟨ho,hq⟩
    ·lia
    ·cases hz:P i with
     | false=>rfl
     | true=>rw[hmono _ i (by lia) hin hz]at hq;cases hq
   have z3:hint+l+1<=hint+min o (n-hint):=by lia
   have z4:hint+min o (n-hint)<=n:=by lia
   refine ad (ba (aK (Q:=fun x st'=>st'=st0/\∃k,x=(none,k,k)/\k<=n/\(∀i,i<k->P i=true)/\(∀i,k<=i->i<n->P i=false))
    (fun j x st'=>st'=st0/\∃l k,x=(none,l,k)/\l<=k/\k-l<=n-j/\k<=n/\(∀i,i<l->P i=true)/\(∀i,k<=i->i<n->P i=false)) (zero_le _) ⟨rfl,_,_,rfl,z3,by lia,z4,z1,z2⟩ ?_ ?_) ?_)
   ·rintro j x st' _ hj ⟨rfl,l,k,rfl,hlk,hm,hk,p1,p2⟩;dsimp only;by_cases hge:l>=k
    ·rw[if_pos hge];have:l=k:=by lia
     subst this;exact ae ⟨rfl,l,rfl,hk,p1,p2⟩
    ·rw[if_neg hge];have hmid:l+(k-l)/2<k:=by lia
     refine ad (ask _ _ (by lia) ?_);dsimp only;cases hp:P (l+(k-l)/2)with
     | true=>
       rw[if_pos rfl];exact ae ⟨rfl,_,_,rfl,by lia,by lia,hk,fun i hi=>hmono i _ (by lia) (by lia) hp,p2⟩
     | false=>
       rw[if_neg (by simp)];refine ae ⟨rfl,_,_,rfl,by lia,by lia,by lia,p1,fun i hi hin=>?_⟩;cases hq:P i with
       | false=>rfl
       | true=>rw[hmono _ i hi hin hq]at hp;cases hp
   ·rintro x st' ⟨rfl,l,k,rfl,hlk,hm,hk,p1,p2⟩;have:l=k:=by lia
    subst this;exact⟨rfl,l,rfl,hk,p1,p2⟩
   ·rintro x st' ⟨rfl,k,rfl,hk,p1,p2⟩;exact ae (h k hk p1 p2)
 ·rename_i hr
  have hr:P hint=false:=by simpa using hr
  refine ad (ba (aK (Q:=fun x st'=>st'=st/\∃l o,x=(none,l,o)/\l<o/\l<=hint/\P (hint-l)=false/\(hint+1<=o\/(o<=hint/\P (hint-o)=true)))
   (fun j x st'=>st'=st/\∃l o,x=(none,l,o)/\l<o/\l<=hint/\P (hint-l)=false/\j<o) (zero_le _) ⟨rfl,0,1,rfl,by lia,by lia,hr,by lia⟩ ?_ ?_) ?_)
  ·rintro j x st' _ hj ⟨rfl,l,o,rfl,hlo,hln,hp,hjo⟩;dsimp only;by_cases hge:o>=hint+1
   ·rw[if_pos hge];exact ae ⟨rfl,l,o,rfl,hlo,hln,hp,.inl hge⟩
   ·rw[if_neg hge];refine ad (ask _ _ (by lia) ?_);dsimp only;cases hq:P (hint-o)with
    | false=>
      rw[if_neg (by simp)];exact ae ⟨rfl,o,_,rfl,by lia,by lia,hq,by lia⟩
    | true=>
      rw[if_pos rfl];exact ae ⟨rfl,l,o,rfl,hlo,hln,hp,.inr ⟨by lia,hq⟩⟩
  ·rintro x st' ⟨rfl,l,o,rfl,hlo,hln,hp,hjo⟩;exact⟨rfl,l,o,rfl,hlo,hln,hp,.inl (by lia)⟩
  ·rintro x st0 ⟨e0,l,o,rfl,hlo,hln,hp,ho⟩;subst e0;dsimp only;have z1:∀i,i<hint+1-min o (hint+1)->P i=true:=fun i hi=>by
    rcases ho with ho|⟨ho,hq⟩
    ·lia
    ·exact hmono i _ (by lia) (by lia) hq
   have z2:∀i,hint-l<=i->i<n->P i=false:=fun i hi hin=>by
    cases hz:P i with
    | false=>rfl
    | true=>rw[hmono _ i (by lia) hin hz]at hp;cases hp
   have z3:hint+1-min o (hint+1)<=hint-l:=by lia
   have z4:hint-l<=n:=by lia
   refine ad (ba (aK (Q:=fun x st'=>st'=st0/\∃k,x=(none,k,k)/\k<=n/\(∀i,i<k->P i=true)/\(∀i,k<=i->i<n->P i=false))
    (fun j x st'=>st'=st0/\∃l k,x=(none,l,k)/\l<=k/\k-l<=n-j/\k<=n/\(∀i,i<l->P i=true)/\(∀i,k<=i->i<n->P i=false)) (zero_le _) ⟨rfl,_,_,rfl,z3,by lia,z4,z1,z2⟩ ?_ ?_) ?_)
   ·rintro j x st' _ hj ⟨rfl,l,k,rfl,hlk,hm,hk,p1,p2⟩;dsimp only;by_cases hge:l>=k
    ·rw[if_pos hge];have:l=k:=by lia
     subst this;exact ae ⟨rfl,l,rfl,hk,p1,p2⟩
    ·rw[if_neg hge];have hmid:l+(k-l)/2<k:=by lia
     refine ad (ask _ _ (by lia) ?_);dsimp only;cases hp:P (l+(k-l)/2)with
     | true=>
       rw[if_pos rfl];exact ae ⟨rfl,_,_,rfl,by lia,by lia,hk,fun i hi=>hmono i _ (by lia) (by lia) hp,p2⟩
     | false=>
       rw[if_neg (by simp)];refine ae ⟨rfl,_,_,rfl,by lia,by lia,by lia,p1,fun i hi hin=>?_⟩;cases hq:P i with
       | false=>rfl
       | true=>rw[hmono _ i hi hin hq]at hp;cases hp
   ·rintro x st' ⟨rfl,l,k,rfl,hlk,hm,hk,p1,p2⟩;have:l=k:=by lia
    subst this;exact⟨rfl,l,rfl,hk,p1,p2⟩
   ·rintro x st' ⟨rfl,k,rfl,hk,p1,p2⟩;exact ae (h k hk p1 p2)
end
end SBig
namespace SBig
open PySem PyProof.Rows
noncomputable def kG:Array Keyed->Array Keyed->StateT SortSt Sem (Array Keyed):=sortPriv% PySem.Builtin.mergeLo
noncomputable def kH:Array Keyed->Array Keyed->StateT SortSt Sem (Array Keyed):=sortPriv% PySem.Builtin.mergeHi
noncomputable def cJ:Nat->StateT SortSt Sem Unit:=sortPriv% PySem.Builtin.setMinGallop
theorem cx(g:Nat):cJ g=modify (fun s=>SortSt.mk' (kindOf s) (arrOf s) (pendingOf s) g (failedOf s)):=rfl
theorem oA(a b:Array Keyed):kG a b=(do
 rule "list.sort.merge-lo"
 let total:=a.size+b.size
 let done (out:Array Keyed) (ia ib:Nat):=out++a.extract ia a.size++b.extract ib b.size
 let lastOfA (out:Array Keyed) (ia ib:Nat):=out++b.extract ib b.size++a.extract ia a.size
 let mut out:Array Keyed:= #[<-elem' b 0]
 let mut ia:=0
 let mut ib:=1
 if ib==b.size then return done out ia ib
 if ia+1==a.size then return lastOfA out ia ib
 let mut minGallop:=gallopOf (<-get)
 for _ in [0:total] do
  let mut acount:=0
  let mut bcount:=0
  for _ in [0:total] do
   let some bWins<-lt' (<-elem' b ib) (<-elem' a ia)|return done out ia ib
   if bWins then
    out:=out.push (<-elem' b ib);ib:=ib+1;bcount:=bcount+1;acount:=0
    if ib==b.size then return done out ia ib
    if bcount>=minGallop then break
   else
    out:=out.push (<-elem' a ia);ia:=ia+1;acount:=acount+1;bcount:=0
    if ia+1==a.size then return lastOfA out ia ib
    if acount>=minGallop then break
  rule "list.sort.gallop"
  minGallop:=minGallop+1
  for _ in [0:total] do
   if minGallop>1 then minGallop:=minGallop-1
   cJ minGallop
   let some k<-eL false (<-elem' b ib) a ia (a.size-ia) 0|return done out ia ib
   acount:=k
   if k>0 then
    out:=out++a.extract ia (ia+k);ia:=ia+k
    if ia+1==a.size then return lastOfA out ia ib
    if ia==a.size then return done out ia ib
   out:=out.push (<-elem' b ib);ib:=ib+1
   if ib==b.size then return done out ia ib
   let some k<-eL true (<-elem' a ia) b ib (b.size-ib) 0|return done out ia ib
   bcount:=k
   if k>0 then
    out:=out++b.extract ib (ib+k);ib:=ib+k
    if ib==b.size then return done out ia ib
   out:=out.push (<-elem' a ia);ia:=ia+1
   if ia+1==a.size then return lastOfA out ia ib
   if acount<7&&bcount<7 then break
  minGallop:=minGallop+1
  cJ minGallop
 unsupported "internal:list.sort.merge-bound"):=rfl
noncomputable def Srt(N:Keyed->Nat)(l:List Keyed):Prop:=l.Pairwise fun x y=>N x<=N y
theorem Srt.drop{N:Keyed->Nat}{l:List Keyed}(h:Srt N l)(k:Nat):Srt N (l.drop k):=List.Pairwise.sublist (List.drop_sublist _ _) h
theorem Srt.le{N:Keyed->Nat}{l:List Keyed}(h:Srt N l){i j:Nat}{x y:Keyed}(hij:i<=j)(hx:l[i]? =some x)(hy:l[j]? =some y):N x<=N y:=by
 rcases Nat.eq_or_lt_of_le hij with e|e
 ·subst e;rw[hx]at hy;cases hy;exact W1 _
 ·obtain⟨h1,e1⟩:=List.getElem?_eq_some_iff.mp hx;obtain⟨h2,e2⟩:=List.getElem?_eq_some_iff.mp hy;have:=List.pairwise_iff_getElem.mp h i j h1 h2 e;rwa[e1,e2]at this
theorem bn{l:List Keyed}{k:Nat}{y:Keyed}(h:y∈l.drop k):∃j,k<=j/\j<l.length/\l[j]? =some y:=by
 obtain⟨i,hi⟩:=List.getElem?_of_mem h;rw[getElem?_drop]at hi;exact⟨k+i,by lia,(List.getElem?_eq_some_iff.mp hi).1,hi⟩
theorem gc{l:List Keyed}{i k:Nat}{x:Keyed}(h:x∈(l.drop i).take k):∃j,j<k/\l[i+j]? =some x:=by
 obtain⟨j,hj⟩:=List.getElem?_of_mem h;rw[getElem?_take]at hj
 split at hj
 ·rw[getElem?_drop]at hj;exact⟨j,by assumption,hj⟩
 ·cases hj
theorem Srt.drop_le{N:Keyed->Nat}{l:List Keyed}(h:Srt N l){i:Nat}{x y:Keyed}(hx:l[i]? =some x)(hy:y∈l.drop i):N x<=N y:=by
 obtain⟨j,hj,_,e⟩:=bn hy;exact h.le hj hx e
structure MI (N:Keyed->Nat) (A B out:List Keyed) (ia ib:Nat):Prop where
 perm:(out++A.drop ia++B.drop ib).Perm (A++B)
 srt:Srt N out
 ca:∀x∈out,∀y∈A.drop ia,N x<=N y
 cb:∀x∈out,∀y∈B.drop ib,N x<=N y
theorem MI.zero(N:Keyed->Nat)(A B:List Keyed):MI N A B [] 0 0:=⟨by simp,List.Pairwise.nil,fun _ h=>(nomatch h),fun _ h=>(nomatch h)⟩
theorem MI.takeA{N:Keyed->Nat}{A B out:List Keyed}{ia ib:Nat}(h:MI N A B out ia ib)(hA:Srt N A)(k:Nat)(hle:∀x∈(A.drop ia).take k,∀y∈B.drop ib,N x<=N y):MI N A B (out++(A.drop ia).take k) (ia+k) ib:=by
 have e:A.drop ia=(A.drop ia).take k++A.drop (ia+k):=by rw[<-drop_drop];exact(take_append_drop k _).symm
 have sA:((A.drop ia).take k++A.drop (ia+k)).Pairwise fun x y=>N x<=N y:=by rw[<-e];exact hA.drop ia
 obtain⟨s1,_,s3⟩:=pairwise_append.mp sA;refine⟨?_,pairwise_append.mpr ⟨h.srt,s1,fun x hx y hy=>h.ca x hx y (mem_of_mem_take hy)⟩,fun x hx y hy=>?_,fun x hx y hy=>?_⟩
 ·have p:=h.perm;rw[e]at p;rwa[<-X6]at p
 ·rcases mem_append.mp hx with hx|hx
  ·exact h.ca x hx y (by rw[e];exact mem_append_right _ hy)
  ·exact s3 x hx y hy
 ·rcases mem_append.mp hx with hx|hx
  ·exact h.cb x hx y hy
  ·exact hle x hx y hy
theorem MI.takeB{N:Keyed->Nat}{A B out:List Keyed}{ia ib:Nat}(h:MI N A B out ia ib)(hB:Srt N B)(k:Nat)(hle:∀x∈(B.drop ib).take k,∀y∈A.drop ia,N x<=N y):MI N A B (out++(B.drop ib).take k) ia (ib+k):=by
 have e:B.drop ib=(B.drop ib).take k++B.drop (ib+k):=by rw[<-drop_drop];exact(take_append_drop k _).symm
 have sB:((B.drop ib).take k++B.drop (ib+k)).Pairwise fun x y=>N x<=N y:=by rw[<-e];exact hB.drop ib
 obtain⟨s1,_,s3⟩:=pairwise_append.mp sB;refine⟨?_,pairwise_append.mpr ⟨h.srt,s1,fun x hx y hy=>h.cb x hx y (mem_of_mem_take hy)⟩,fun x hx y hy=>?_,fun x hx y hy=>?_⟩
 ·have p:=h.perm;rw[e]at p;refine List.Perm.trans ?_ p;rw[X6,X6,X6];refine List.Perm.append_left _ ?_;rw[<-X6,<-X6];exact List.Perm.append_right _ perm_append_comm
 ·rcases mem_append.mp hx with hx|hx
  ·exact h.ca x hx y hy
  ·exact hle x hx y hy
 ·rcases mem_append.mp hx with hx|hx
  ·exact h.cb x hx y (by rw[e];exact mem_append_right _ hy)
  ·exact s3 x hx y hy
noncomputable def fP(N:Keyed->Nat)(A B r:List Keyed):Prop:=Srt N r/\r.Perm (A++B)
theorem MI.done{N:Keyed->Nat}{A B out:List Keyed}{ia ib:Nat}(h:MI N A B out ia ib)(hA:Srt N A)(hB:Srt N B)(hx:∀x∈A.drop ia,∀y∈B.drop ib,N x<=N y):fP N A B (out++A.drop ia++B.drop ib):=
 ⟨pairwise_append.mpr ⟨pairwise_append.mpr ⟨h.srt,hA.drop ia,h.ca⟩,hB.drop ib,fun x hx' y hy=>(mem_append.mp hx').elim (fun q=>h.cb x q y hy) fun q=>hx x q y hy⟩,h.perm⟩
theorem MI.last{N:Keyed->Nat}{A B out:List Keyed}{ia ib:Nat}(h:MI N A B out ia ib)(hA:Srt N A)(hB:Srt N B)(hx:∀y∈B.drop ib,∀x∈A.drop ia,N y<=N x):fP N A B (out++B.drop ib++A.drop ia):=by
 refine⟨pairwise_append.mpr ⟨pairwise_append.mpr ⟨h.srt,hB.drop ib,h.cb⟩,hA.drop ia,fun x hx' y hy=>(mem_append.mp hx').elim (fun q=>h.ca x q y hy) fun q=>hx x q y hy⟩,List.Perm.trans ?_ h.perm⟩;rw[X6,X6];exact List.Perm.append_left _ perm_append_comm
theorem iF{l:List Keyed}{i:Nat}{x:Keyed}(h:l[i]? =some x):(l.drop i).take 1=[x]:=by
 obtain⟨hl,e⟩:=List.getElem?_eq_some_iff.mp h;rw[List.drop_eq_getElem_cons hl,e];rfl
theorem MI.oneA{N:Keyed->Nat}{A B out:List Keyed}{ia ib:Nat}{x:Keyed}(h:MI N A B out ia ib)(hA:Srt N A)(hx:A[ia]? =some x)(hle:∀y∈B.drop ib,N x<=N y):MI N A B (out++[x]) (ia+1) ib:=by
 have:=h.takeA hA 1 (by rw[iF hx];intro z hz;rw[mem_singleton.mp hz];exact hle);rwa[iF hx]at this
theorem MI.oneB{N:Keyed->Nat}{A B out:List Keyed}{ia ib:Nat}{x:Keyed}(h:MI N A B out ia ib)(hB:Srt N B)(hx:B[ib]? =some x)(hle:∀y∈A.drop ia,N x<=N y):MI N A B (out++[x]) ia (ib+1):=by
 have:=h.takeB hB 1 (by rw[iF hx];intro z hz;rw[mem_singleton.mp hz];exact hle);rwa[iF hx]at this
theorem gf(a:Array Keyed)(i j:Nat):(a.extract i j).toList=(a.toList.drop i).take (j-i):=by
 rw[Array.toList_extract,List.extract_eq_take_drop]
theorem jZ(a:Array Keyed)(i:Nat):(a.extract i a.size).toList=a.toList.drop i:=by
 rw[gf,W7];rw[length_drop,X2];exact W1 _
noncomputable def SG(st st':SortSt):Prop:=kindOf st'=kindOf st/\arrOf st'=arrOf st/\pendingOf st'=pendingOf st/\failedOf st'=failedOf st
theorem SG.refl(st:SortSt):SG st st:=⟨rfl,rfl,rfl,rfl⟩
theorem SG.set{st st':SortSt}(h:SG st st')(g:Nat):SG st (SortSt.mk' (kindOf st') (arrOf st') (pendingOf st') g (failedOf st')):=h
end SBig
namespace SBig
open PySem PyProof.Rows
section
variable{prog:Program}{w:World}{A:Around}{SI:Shared->Prop}{α β:Type}
theorem aQ{a:Array Keyed}{i:Nat}(h:i<a.size):a[i]? =some a[i]/\a.toList[i]? =some a[i]:=⟨by simp[h],by simp[h]⟩
theorem j1(a:Array Keyed)(i k:Nat):(a.extract i (i+k)).toList=(a.toList.drop i).take k:=by
 rw[gf,add_sub_cancel_left]
theorem mn{N:Keyed->Nat}{a:Array Keyed}{ia:Nat}{key d:Keyed}(hA:Srt N a.toList){i j:Nat}(hij:i<=j)(hj:ia+j<a.size)(h:bD N false key (a.getD (ia+j) d)=true):bD N false key (a.getD (ia+i) d)=true:=by
 have e:∀(i:Nat) (hi:ia+i<a.size),a.getD (ia+i) d=a[ia+i]:=fun i hi=>by simp[Array.getD,hi]
 rw[e j hj]at h;rw[e i (by lia)];have l:=hA.le (i:=ia+i) (j:=ia+j) (by lia) (aQ (by lia)).2 (aQ hj).2;unfold bD at h ⊢;simp only[false_eq_true,if_false,Bool.not_eq_true',decide_eq_false_iff_not]at h ⊢;omega
theorem gG{N:Keyed->Nat}{a:Array Keyed}{ia:Nat}{key d:Keyed}(hA:Srt N a.toList){i j:Nat}(hij:i<=j)(hj:ia+j<a.size)(h:bD N true key (a.getD (ia+j) d)=true):bD N true key (a.getD (ia+i) d)=true:=by
 have e:∀(i:Nat) (hi:ia+i<a.size),a.getD (ia+i) d=a[ia+i]:=fun i hi=>by simp[Array.getD,hi]
 rw[e j hj]at h;rw[e i (by omega)];have l:=hA.le (i:=ia+i) (j:=ia+j) (by omega) (aQ (by omega)).2 (aQ hj).2;unfold bD at h ⊢;simp only[if_true,decide_eq_true_eq]at h ⊢;omega
theorem Ae{N:Keyed->Nat}{a:Array Keyed}{ia n k:Nat}{key d:Keyed}(p1:∀i,i<k->bD N false key (a.getD (ia+i) d)=true)(p2:∀i,k<=i->i<n->bD N false key (a.getD (ia+i) d)=false):
 (∀i x,i<k->a[ia+i]? =some x->N x<=N key)/\∀i x,k<=i->i<n->a[ia+i]? =some x->N key<N x:=by
 refine⟨fun i x hi e=>?_,fun i x hi hn e=>?_⟩
 ·have:=p1 i hi;rw[V3,e]at this;unfold bD at this;simpa using this
 ·have:=p2 i hi hn;rw[V3,e]at this;unfold bD at this;simpa using this
theorem w6{N:Keyed->Nat}{a:Array Keyed}{ia n k:Nat}{key d:Keyed}(p1:∀i,i<k->bD N true key (a.getD (ia+i) d)=true)(p2:∀i,k<=i->i<n->bD N true key (a.getD (ia+i) d)=false):
 (∀i x,i<k->a[ia+i]? =some x->N x<N key)/\∀i x,k<=i->i<n->a[ia+i]? =some x->N key<=N x:=by
 refine⟨fun i x hi e=>?_,fun i x hi hn e=>?_⟩
 ·have:=p1 i hi;rw[V3,e]at this;unfold bD at this;simpa using this
 ·have:=p2 i hi hn;rw[V3,e]at this;unfold bD at this;simpa using this
structure ML (N:Keyed->Nat) (a b out:Array Keyed) (ia ib:Nat):Prop where
 mi:MI N a.toList b.toList out.toList ia ib
 na:ia+1<a.size
 nb:ib<b.size
theorem qw{D:Keyed->Prop}{N:Keyed->Nat}{a b:Array Keyed}{Q:Array Keyed->SortSt->Prop}{st:SortSt}(c:Cmp prog w A SI (kindOf st) D N)(hA:Srt N a.toList)(hB:Srt N b.toList)(dA:∀x∈a.toList,D x)(dB:∀x∈b.toList,D x)
 (ha:1<=a.size) (hb:1<=b.size) (h0:∀x y,b.toList[0]? =some x->a.toList[0]? =some y->N x<=N y) (hl:∀y∈b.toList,∀x∈a.toList.drop (a.size-1),N y<=N x)
 (h:∀r st',SG st st'->fP N a.toList b.toList r.toList->Q r st'):(SC prog w A SI) (kG a b) Q st:=by
 have DA:∀{i:Nat} (hi:i<a.size),D a[i]:=fun hi=>dA _ (by simp)
 have DB:∀{i:Nat} (hi:i<b.size),D b[i]:=fun hi=>dB _ (by simp)
 have fd:∀(out:Array Keyed) (ia ib:Nat),MI N a.toList b.toList out.toList ia ib->(a.size<=ia\/b.size<=ib)->fP N a.toList b.toList (out++a.extract ia a.size++b.extract ib b.size).toList:=fun out ia ib m q=>by
  rw[toList_append,toList_append,jZ,jZ];refine m.done hA hB fun x hx y hy=>?_
  rcases q with q|q
  ·obtain⟨j,h1,h2,_⟩:=bn hx;rw[X2]at h2
   lia
  ·obtain⟨j,h1,h2,_⟩:=bn hy;rw[X2]at h2
   lia
 have fl:∀(out:Array Keyed) (ia ib:Nat),MI N a.toList b.toList out.toList ia ib->ia+1=a.size->fP N a.toList b.toList (out++b.extract ib b.size++a.extract ia a.size).toList:=fun out ia ib m q=>by
  rw[toList_append,toList_append,jZ,jZ];exact m.last hA hB fun y hy x hx=>hl y (mem_of_mem_drop hy) x (by rw[show a.size-1=ia by lia];exact hx)
 rw[oA];refine ad (fr ?_);dsimp only;obtain⟨eb,eb'⟩:=aQ (a:=b) (i:=0) (by lia);refine ad (aB eb ?_);have m0:MI N a.toList b.toList #[b[0]].toList 0 1:=(MI.zero N a.toList b.toList).oneB hB eb' fun y hy=>by
  obtain⟨ea,ea'⟩:=aQ (a:=a) (i:=0) (by lia);exact le_trans (h0 _ _ eb' ea') (hA.drop_le ea' hy)
 by_cases q1:1=b.size
 ·rw[if_pos (by simp[<-q1])];exact ae (h _ st (SG.refl _) (fd _ _ _ m0 (.inr (by lia))))
 rw[if_neg (by simp;lia)];by_cases q2:0+1=a.size
 ·rw[if_pos (by simp[<-q2])];exact ae (h _ st (SG.refl _) (fl _ _ _ m0 q2))
 rw[if_neg (by simp at q2 ⊢;lia)];refine ad (dJ ?_);refine ad (ba (aK (Q:=fun x st'=>SG st st'/\∃r,x.1=some r/\fP N a.toList b.toList r.toList)
  (fun j x st'=>SG st st'/\∃out ia ib g,x=(none,out,ia,ib,g)/\ML N a b out ia ib/\j+1<=out.size) (zero_le _) ⟨SG.refl _,_,_,_,_,rfl,⟨m0,by lia,by lia⟩,W1 _⟩ ?_ ?_) ?_)
 ·rintro j x st1 _ hj ⟨sg,out,ia,ib,g,rfl,m,hsz⟩;dsimp only;refine ad (ba (aK (Q:=fun x st'=>SG st st'/\((∃r o,x=(some r,o)/\fP N a.toList b.toList r.toList)\/∃out ia ib ac bc,x=(none,out,ia,ib,ac,bc)/\ML N a b out ia ib/\j+2<=out.size))
   (fun j2 x st'=>SG st st'/\∃out ia ib ac bc,x=(none,out,ia,ib,ac,bc)/\ML N a b out ia ib/\j+1+j2<=out.size) (zero_le _) ⟨sg,_,_,_,_,_,rfl,m,hsz⟩ ?_ ?_) ?_)
  ·rintro j2 x st2 _ hj2 ⟨sg2,out,ia,ib,ac,bc,rfl,m,hsz⟩;dsimp only;obtain⟨ea,ea'⟩:=aQ (a:=a) (i:=ia) (by have:=m.na;lia);obtain⟨eb,eb'⟩:=aQ (a:=b) (i:=ib) m.nb;refine ad (aB eb (ad (aB ea (ad (oz (by rw[sg2.1];exact c) (DB m.nb) (DA (by have:=m.na;lia)) ?_)))));dsimp only;have hia:ia<a.size:=by have:=m.na;lia
   have hib:=m.nb;by_cases hlt:N b[ib]<N a[ia]
   ·rw[X7 hlt,if_pos rfl];refine ad (aB eb ?_);have m2:MI N a.toList b.toList (out.push b[ib]).toList ia (ib+1):=by
     rw[toList_push];exact m.mi.oneB hB eb' fun y hy=>le_trans (le_of_lt hlt) (hA.drop_le ea' hy)
    by_cases q:ib+1=b.size
    ·rw[if_pos (by simp[q])];exact ae ⟨sg2,.inl ⟨_,_,rfl,fd _ _ _ m2 (.inr (by lia))⟩⟩
    ·rw[if_neg (by simp[q])];have:=m.nb;have m3:ML N a b (out.push b[ib]) ia (ib+1):=⟨m2,m.na,by lia⟩
     split
     ·exact ae ⟨sg2,.inr ⟨_,_,_,_,_,rfl,m3,by rw[Array.size_push];lia⟩⟩
     ·exact ae ⟨sg2,_,_,_,_,_,rfl,m3,by rw[Array.size_push];lia⟩
   ·rw[X9 hlt,if_neg (by simp)];refine ad (aB ea ?_);have m2:MI N a.toList b.toList (out.push a[ia]).toList (ia+1) ib:=by
     rw[toList_push];exact m.mi.oneA hA ea' fun y hy=>le_trans (Nat.le_of_not_lt hlt) (hB.drop_le eb' hy)
    by_cases q:ia+1+1=a.size
    ·rw[if_pos (by simp[q])];exact ae ⟨sg2,.inl ⟨_,_,rfl,fl _ _ _ m2 q⟩⟩
    ·rw[if_neg (by simp[q])];have:=m.na;have m3:ML N a b (out.push a[ia]) (ia+1) ib:=⟨m2,by lia,m.nb⟩
     split
     ·exact ae ⟨sg2,.inr ⟨_,_,_,_,_,rfl,m3,by rw[Array.size_push];lia⟩⟩
     ·exact ae ⟨sg2,_,_,_,_,_,rfl,m3,by rw[Array.size_push];lia⟩
  ·rintro x st2 ⟨sg2,out,ia,ib,ac,bc,rfl,m,hsz⟩;exact⟨sg2,.inr ⟨_,_,_,_,_,rfl,m,by lia⟩⟩
  ·rintro x st2 ⟨sg2,⟨r,o,rfl,gd⟩|⟨out,ia,ib,ac,bc,rfl,m,hsz⟩⟩
   ·exact ae ⟨sg2,r,rfl,gd⟩
   ·dsimp only;refine ad (fr ?_);refine ad (ba (aK (Q:=fun x st'=>SG st st'/\((∃r o,x=(some r,o)/\fP N a.toList b.toList r.toList)\/∃out ia ib g ac bc,x=(none,out,ia,ib,g,ac,bc)/\ML N a b out ia ib/\j+2<=out.size))
     (fun j2 x st'=>SG st st'/\∃out ia ib g ac bc,x=(none,out,ia,ib,g,ac,bc)/\ML N a b out ia ib/\j+2<=out.size) (zero_le _) ⟨sg2,_,_,_,_,_,_,rfl,m,hsz⟩ ?_ ?_) ?_)
    ·rintro j2 x st2 _ hj2 ⟨sg2,out,ia,ib,g,ac,bc,rfl,m,hsz⟩;dsimp only;have hib:=m.nb;obtain⟨eb,eb'⟩:=aQ (a:=b) (i:=ib) hib;by_cases hg:g>1
     all_goals
      first|rw[if_pos hg]|rw[if_neg hg]
      rw[cx];refine ad (bz ?_);refine ad (aB eb ?_);refine ad (cR (by rw[show kindOf _=kindOf st from sg2.1];exact c) (DB hib) (fun i hi=>⟨a[ia+i]'(by lia),(aQ (by lia)).1,DA (by lia)⟩) (fun i=>bD N false b[ib] (a.getD (ia+i) b[ib]))
       (fun i x hi hx=>by rw[V3,hx];rfl) (fun i i' hii hi hp=>mn hA hii (by lia) hp) (by have:=m.na;lia) fun k hk p1 p2=>?_)
      dsimp only;have ga:=Ae p1 p2;have mk:=m.mi.takeA hA k (fun x hx y hy=>by
       obtain⟨i,hi,e⟩:=gc hx;exact le_trans (ga.1 i x hi (by simpa using e)) (hB.drop_le eb' hy))
      by_cases hk00:k>0
      ·rw[if_pos hk00];rw[<-j1,<-toList_append]at mk;by_cases q1:ia+k+1=a.size
       ·rw[if_pos (by simp[q1])];exact ae ⟨sg2.set _,.inl ⟨_,_,rfl,fl _ _ _ mk q1⟩⟩
       rw[if_neg (by simp[q1])];by_cases q2:ia+k=a.size
       ·rw[if_pos (by simp[q2])];exact ae ⟨sg2.set _,.inl ⟨_,_,rfl,fd _ _ _ mk (.inl (by lia))⟩⟩
       rw[if_neg (by simp[q2])];refine ad (aB eb ?_);obtain⟨ia2,hia2⟩:∃ia2,ia2=(ia+k):=⟨_,rfl⟩
       rw[<-hia2]at mk ⊢;have hna2:ia2+1<a.size:=by rw[hia2];exact(by lia)
       obtain⟨ea2,ea2'⟩:=aQ (a:=a) (i:=ia2) (by lia);have mb:=MI.oneB mk hB eb' (fun y hy=>by
        obtain⟨j,h1,h2,e⟩:=bn hy;rw[X2]at h2;exact le_of_lt (ga.2 (j-ia) y (by lia) (by lia) (by rw[show ia+(j-ia)=j by lia];simpa using e)))
       rw[<-toList_push]at mb;by_cases q3:ib+1=b.size
       ·rw[if_pos (by simp[q3])];exact ae ⟨sg2.set _,.inl ⟨_,_,rfl,fd _ _ _ mb (.inr (by lia))⟩⟩
       rw[if_neg (by simp[q3])];refine ad (aB ea2 ?_);refine ad (cR (by rw[show kindOf _=kindOf st from sg2.1];exact c) (DA (by lia)) (fun i hi=>⟨b[ib+1+i]'(by lia),(aQ (by lia)).1,DB (by lia)⟩) (fun i=>bD N true (a[ia2]'(by lia)) (b.getD (ib+1+i) b[ib]))
        (fun i x hi hx=>by rw[V3,hx];rfl) (fun i i' hii hi hp=>gG hB hii (by lia) hp) (by lia) fun k2 hk2 p3 p4=>?_)
       dsimp only;have gb:=w6 p3 p4;have hle3:∀y∈b.toList.drop (ib+1+k2),N (a[ia2]'(by lia))<=N y:=fun y hy=>by
        obtain⟨j,h1,h2,e⟩:=bn hy;rw[X2]at h2;exact gb.2 (j-(ib+1)) y (by lia) (by lia) (by rw[show ib+1+(j-(ib+1))=j by lia];simpa using e)
       have m3:=mb.takeB hB k2 (fun x hx y hy=>by
        obtain⟨i,hi,e⟩:=gc hx;exact le_trans (le_of_lt (gb.1 i x hi (by simpa using e))) (hA.drop_le ea2' hy))
       by_cases hk200:k2>0
       ·rw[if_pos hk200];rw[<-j1,<-toList_append]at m3;by_cases q4:ib+1+k2=b.size
        ·rw[if_pos (by simp[q4])];exact ae ⟨sg2.set _,.inl ⟨_,_,rfl,fd _ _ _ m3 (.inr (by lia))⟩⟩
        rw[if_neg (by simp[q4])];refine ad (aB ea2 ?_);have m4:=MI.oneA m3 hA ea2' hle3;rw[<-toList_push]at m4;by_cases q5:ia2+1+1=a.size
        ·rw[if_pos (by simp[q5])];exact ae ⟨sg2.set _,.inl ⟨_,_,rfl,fl _ _ _ m4 q5⟩⟩
        rw[if_neg (by simp[q5])];have m5:=ML.mk (a:=a) (b:=b) m4 (by lia) (by lia)
        split
        ·exact ae ⟨sg2.set _,.inr ⟨_,_,_,_,_,_,rfl,m5,by simp;lia⟩⟩
        ·exact ae ⟨sg2.set _,_,_,_,_,_,_,rfl,m5,by simp;lia⟩
       ·rw[if_neg hk200];have hk20:k2=0:=by lia
        subst hk20;refine ad (aB ea2 ?_);have m4:=MI.oneA mb hA ea2' hle3;rw[<-toList_push]at m4;by_cases q5:ia2+1+1=a.size
        ·rw[if_pos (by simp[q5])];exact ae ⟨sg2.set _,.inl ⟨_,_,rfl,fl _ _ _ m4 q5⟩⟩
        rw[if_neg (by simp[q5])];have m5:=ML.mk (a:=a) (b:=b) m4 (by lia) (by lia)
        split
        ·exact ae ⟨sg2.set _,.inr ⟨_,_,_,_,_,_,rfl,m5,by simp;omega⟩⟩
        ·exact ae ⟨sg2.set _,_,_,_,_,_,_,rfl,m5,by simp;omega⟩
      ·rw[if_neg hk00];have hk0:k=0:=by lia
       subst hk0;have mk:=m.mi;refine ad (aB eb ?_);obtain⟨ia2,hia2⟩:∃ia2,ia2=ia:=⟨_,rfl⟩
       rw[<-hia2]at mk ⊢;have hna2:ia2+1<a.size:=by rw[hia2];exact m.na
       obtain⟨ea2,ea2'⟩:=aQ (a:=a) (i:=ia2) (by lia);have mb:=MI.oneB mk hB eb' (fun y hy=>by
        obtain⟨j,h1,h2,e⟩:=bn hy;rw[X2]at h2;exact le_of_lt (ga.2 (j-ia) y (by lia) (by lia) (by rw[show ia+(j-ia)=j by lia];simpa using e)))
       rw[<-toList_push]at mb;by_cases q3:ib+1=b.size
       ·rw[if_pos (by simp[q3])];exact ae ⟨sg2.set _,.inl ⟨_,_,rfl,fd _ _ _ mb (.inr (by lia))⟩⟩
       rw[if_neg (by simp[q3])];refine ad (aB ea2 ?_);refine ad (cR (by rw[show kindOf _=kindOf st from sg2.1];exact c) (DA (by lia)) (fun i hi=>⟨b[ib+1+i]'(by lia),(aQ (by lia)).1,DB (by omega)⟩) (fun i=>bD N true (a[ia2]'(by lia)) (b.getD (ib+1+i) b[ib]))
        (fun i x hi hx=>by rw[V3,hx];rfl) (fun i i' hii hi hp=>gG hB hii (by omega) hp) (by omega) fun k2 hk2 p3 p4=>?_)
       dsimp only;have gb:=w6 p3 p4;have hle3:∀y∈b.toList.drop (ib+1+k2),N (a[ia2]'(by omega))<=N y:=fun y hy=>by
        obtain⟨j,h1,h2,e⟩:=bn hy;rw[X2]at h2;exact gb.2 (j-(ib+1)) y (by omega) (by lia) (by rw[show ib+1+(j-(ib+1))=j by lia];simpa using e)
       have m3:=mb.takeB hB k2 (fun x hx y hy=>by
        obtain⟨i,hi,e⟩:=gc hx;exact le_trans (le_of_lt (gb.1 i x hi (by simpa using e))) (hA.drop_le ea2' hy))
       by_cases hk200:k2>0
       ·rw[if_pos hk200];rw[<-j1,<-toList_append]at m3;by_cases q4:ib+1+k2=b.size
        ·rw[if_pos (by simp[q4])];exact ae ⟨sg2.set _,.inl ⟨_,_,rfl,fd _ _ _ m3 (.inr (by omega))⟩⟩
        rw[if_neg (by simp[q4])];refine ad (aB ea2 ?_);have m4:=MI.oneA m3 hA ea2' hle3;rw[<-toList_push]at m4;by_cases q5:ia2+1+1=a.size
        ·rw[if_pos (by simp[q5])];exact ae ⟨sg2.set _,.inl ⟨_,_,rfl,fl _ _ _ m4 q5⟩⟩
        rw[if_neg (by simp[q5])];have m5:=ML.mk (a:=a) (b:=b) m4 (by lia) (by lia)
        split
        ·exact ae ⟨sg2.set _,.inr ⟨_,_,_,_,_,_,rfl,m5,by simp;lia⟩⟩
        ·exact ae ⟨sg2.set _,_,_,_,_,_,_,rfl,m5,by simp;omega⟩
       ·rw[if_neg hk200];have hk20:k2=0:=by lia
        subst hk20;refine ad (aB ea2 ?_);have m4:=MI.oneA mb hA ea2' hle3;rw[<-toList_push]at m4;by_cases q5:ia2+1+1=a.size
        ·rw[if_pos (by simp[q5])];exact ae ⟨sg2.set _,.inl ⟨_,_,rfl,fl _ _ _ m4 q5⟩⟩
        rw[if_neg (by simp[q5])];have m5:=ML.mk (a:=a) (b:=b) m4 (by omega) (by omega)
        split
        ·exact ae ⟨sg2.set _,.inr ⟨_,_,_,_,_,_,rfl,m5,by simp;omega⟩⟩
        ·exact ae ⟨sg2.set _,_,_,_,_,_,_,rfl,m5,by simp;omega⟩
    ·rintro x st2 ⟨sg2,out,ia,ib,g,ac,bc,rfl,m,hsz⟩;exact⟨sg2,.inr ⟨_,_,_,_,_,_,rfl,m,by omega⟩⟩
    ·rintro x st2 ⟨sg2,⟨r,o,rfl,gd⟩|⟨out,ia,ib,g,ac,bc,rfl,m,hsz⟩⟩
     ·exact ae ⟨sg2,r,rfl,gd⟩
     ·dsimp only;rw[cx];exact ad (bz (ae ⟨sg2.set _,_,_,_,_,rfl,m,by lia⟩))
 ·rintro x st1 ⟨sg,out,ia,ib,g,rfl,m,hsz⟩;have:=m.na;have:=m.nb;have q:=m.mi.perm.length_eq;simp only[Y9,length_drop,X2]at q
  lia
 ·rintro x st1 ⟨sg,r,hr,gd⟩;obtain⟨x1,x2⟩:=x;dsimp only at hr;subst hr;exact ae (h r st1 sg gd)
end
end SBig
namespace SBig
open PySem PyProof.Rows
theorem oB(a b:Array Keyed):kH a b=(do
 rule "list.sort.merge-hi"
 let total:=a.size+b.size
 let done (out:Array Keyed) (na nb:Nat):=a.extract 0 na++b.extract 0 nb++out.reverse
 let firstOfB (out:Array Keyed) (na nb:Nat):=b.extract 0 nb++a.extract 0 na++out.reverse
 let mut na:=a.size-1
 let mut nb:=b.size
 let mut out:Array Keyed:= #[<-elem' a na]
 if na==0 then return done out na nb
 if nb==1 then return firstOfB out na nb
 let mut minGallop:=gallopOf (<-get)
 for _ in [0:total] do
  let mut acount:=0
  let mut bcount:=0
  for _ in [0:total] do
   let some aWins<-lt' (<-elem' b (nb-1)) (<-elem' a (na-1))|return done out na nb
   if aWins then
    na:=na-1;out:=out.push (<-elem' a na);acount:=acount+1;bcount:=0
    if na==0 then return done out na nb
    if acount>=minGallop then break
   else
    nb:=nb-1;out:=out.push (<-elem' b nb);bcount:=bcount+1;acount:=0
    if nb==1 then return firstOfB out na nb
    if bcount>=minGallop then break
  rule "list.sort.gallop"
  minGallop:=minGallop+1
  for _ in [0:total] do
   if minGallop>1 then minGallop:=minGallop-1
   cJ minGallop
   let some at_<-eL false (<-elem' b (nb-1)) a 0 na (na-1)|return done out na nb
   let k:=na-at_
   acount:=k
   if k>0 then
    out:=out++(a.extract at_ na).reverse;na:=at_
    if na==0 then return done out na nb
   nb:=nb-1;out:=out.push (<-elem' b nb)
   if nb==1 then return firstOfB out na nb
   let some at_<-eL true (<-elem' a (na-1)) b 0 nb (nb-1)|return done out na nb
   let k:=nb-at_
   bcount:=k
   if k>0 then
    out:=out++(b.extract at_ nb).reverse;nb:=at_
    if nb==1 then return firstOfB out na nb
    if nb==0 then return done out na nb
   na:=na-1;out:=out.push (<-elem' a na)
   if na==0 then return done out na nb
   if acount<7&&bcount<7 then break
  minGallop:=minGallop+1
  cJ minGallop
 unsupported "internal:list.sort.merge-bound"):=rfl
theorem Srt.take{N:Keyed->Nat}{l:List Keyed}(h:Srt N l)(k:Nat):Srt N (l.take k):=List.Pairwise.sublist (List.take_sublist _ _) h
theorem aX{l:List Keyed}{k:Nat}{x:Keyed}(h:x∈l.take k):∃j,j<k/\j<l.length/\l[j]? =some x:=by
 obtain⟨j,hj⟩:=List.getElem?_of_mem h;rw[getElem?_take]at hj
 split at hj
 ·exact⟨j,by assumption,(List.getElem?_eq_some_iff.mp hj).1,hj⟩
 ·cases hj
theorem ni{l:List Keyed}{i k:Nat}{x:Keyed}(h:x∈(l.take k).drop i):∃j,i<=j/\j<k/\j<l.length/\l[j]? =some x:=by
 obtain⟨j,h1,h2,e⟩:=bn h;rw[getElem?_take]at e
 split at e
 ·exact⟨j,h1,by assumption,(List.getElem?_eq_some_iff.mp e).1,e⟩
 ·cases e
structure MH (N:Keyed->Nat) (A B O:List Keyed) (na nb:Nat):Prop where
 perm:(A.take na++B.take nb++O).Perm (A++B)
 srt:Srt N O
 ca:∀x∈A.take na,∀y∈O,N x<=N y
 cb:∀x∈B.take nb,∀y∈O,N x<=N y
theorem MH.zero(N:Keyed->Nat)(A B:List Keyed):MH N A B [] A.length B.length:=⟨by simp,List.Pairwise.nil,fun _ _ _ h=>(nomatch h),fun _ _ _ h=>(nomatch h)⟩
theorem MH.takeA{N:Keyed->Nat}{A B O:List Keyed}{na nb:Nat}(h:MH N A B O na nb)(hA:Srt N A)(k:Nat)(hk:k<=na)(hle:∀y∈(A.take na).drop k,∀x∈B.take nb,N x<=N y):MH N A B ((A.take na).drop k++O) k nb:=by
 have e:A.take na=A.take k++(A.take na).drop k:=by
  have:=(take_append_drop k (A.take na)).symm;rw[List.take_take,min_eq_left hk]at this;exact this
 have sA:(A.take k++(A.take na).drop k).Pairwise fun x y=>N x<=N y:=by rw[<-e];exact hA.take na
 obtain⟨_,s2,s3⟩:=pairwise_append.mp sA;refine⟨?_,pairwise_append.mpr ⟨s2,h.srt,fun x hx y hy=>h.ca x (mem_of_mem_drop hx) y hy⟩,fun x hx y hy=>?_,fun x hx y hy=>?_⟩
 ·refine List.Perm.trans ?_ h.perm;rw[<-X6];refine List.Perm.append_right _ ?_;rw (occs:= .pos [2]) [e];rw[X6,X6];exact List.Perm.append_left _ perm_append_comm
 ·rcases mem_append.mp hy with hy|hy
  ·exact s3 x hx y hy
  ·exact h.ca x (by rw[e];exact mem_append_left _ hx) y hy
 ·rcases mem_append.mp hy with hy|hy
  ·exact hle y hy x hx
  ·exact h.cb x hx y hy
theorem MH.takeB{N:Keyed->Nat}{A B O:List Keyed}{na nb:Nat}(h:MH N A B O na nb)(hB:Srt N B)(k:Nat)(hk:k<=nb)(hle:∀y∈(B.take nb).drop k,∀x∈A.take na,N x<=N y):MH N A B ((B.take nb).drop k++O) na k:=by
 have e:B.take nb=B.take k++(B.take nb).drop k:=by
  have:=(take_append_drop k (B.take nb)).symm;rw[List.take_take,min_eq_left hk]at this;exact this
 have sB:(B.take k++(B.take nb).drop k).Pairwise fun x y=>N x<=N y:=by rw[<-e];exact hB.take nb
 obtain⟨_,s2,s3⟩:=pairwise_append.mp sB;refine⟨?_,pairwise_append.mpr ⟨s2,h.srt,fun x hx y hy=>h.cb x (mem_of_mem_drop hx) y hy⟩,fun x hx y hy=>?_,fun x hx y hy=>?_⟩
 ·refine List.Perm.trans ?_ h.perm;rw[<-X6];refine List.Perm.append_right _ ?_;rw (occs:= .pos [2]) [e];rw[X6]
 ·rcases mem_append.mp hy with hy|hy
  ·exact hle y hy x hx
  ·exact h.ca x hx y hy
 ·rcases mem_append.mp hy with hy|hy
  ·exact s3 x hx y hy
  ·exact h.cb x (by rw[e];exact mem_append_left _ hx) y hy
theorem iG{l:List Keyed}{k:Nat}{x:Keyed}(h:l[k]? =some x):(l.take (k+1)).drop k=[x]:=by
 obtain⟨hl,e⟩:=List.getElem?_eq_some_iff.mp h;rw[List.take_succ_eq_append_getElem hl,e,List.drop_append_of_le_length (by rw[length_take];lia),List.drop_of_length_le (by rw[length_take];lia)];rfl
theorem MH.oneA{N:Keyed->Nat}{A B O:List Keyed}{na nb:Nat}{x:Keyed}(h:MH N A B O (na+1) nb)(hA:Srt N A)(hx:A[na]? =some x)(hle:∀y∈B.take nb,N y<=N x):MH N A B (x::O) na nb:=by
 have:=h.takeA hA na (by omega) (by rw[iG hx];intro z hz;rw[mem_singleton.mp hz];exact hle);rwa[iG hx]at this
theorem MH.oneB{N:Keyed->Nat}{A B O:List Keyed}{na nb:Nat}{x:Keyed}(h:MH N A B O na (nb+1))(hB:Srt N B)(hx:B[nb]? =some x)(hle:∀y∈A.take na,N y<=N x):MH N A B (x::O) na nb:=by
 have:=h.takeB hB nb (by omega) (by rw[iG hx];intro z hz;rw[mem_singleton.mp hz];exact hle);rwa[iG hx]at this
theorem MH.done{N:Keyed->Nat}{A B O:List Keyed}{na nb:Nat}(h:MH N A B O na nb)(hA:Srt N A)(hB:Srt N B)(hx:∀x∈A.take na,∀y∈B.take nb,N x<=N y):fP N A B (A.take na++B.take nb++O):=
 ⟨pairwise_append.mpr ⟨pairwise_append.mpr ⟨hA.take na,hB.take nb,hx⟩,h.srt,fun x hx' y hy=>(mem_append.mp hx').elim (fun q=>h.ca x q y hy) fun q=>h.cb x q y hy⟩,h.perm⟩
theorem MH.first{N:Keyed->Nat}{A B O:List Keyed}{na nb:Nat}(h:MH N A B O na nb)(hA:Srt N A)(hB:Srt N B)(hx:∀y∈B.take nb,∀x∈A.take na,N y<=N x):fP N A B (B.take nb++A.take na++O):=
 ⟨pairwise_append.mpr ⟨pairwise_append.mpr ⟨hB.take nb,hA.take na,hx⟩,h.srt,fun x hx' y hy=>(mem_append.mp hx').elim (fun q=>h.cb x q y hy) fun q=>h.ca x q y hy⟩,List.Perm.trans (List.Perm.append_right _ perm_append_comm) h.perm⟩
theorem w8(a:Array Keyed)(k:Nat):(a.extract 0 k).toList=a.toList.take k:=by rw[gf];simp
theorem no(a:Array Keyed)(i k:Nat):(a.extract i k).toList=(a.toList.take k).drop i:=by
 rw[gf,List.drop_take]
theorem Srt.take_le{N:Keyed->Nat}{l:List Keyed}(h:Srt N l){i:Nat}{x y:Keyed}(hx:l[i]? =some x)(hy:y∈l.take (i+1)):N y<=N x:=by
 obtain⟨j,hj,_,e⟩:=aX hy;exact h.le (by omega) e hx
theorem dr(out:Array Keyed)(x:Keyed):(out.push x).reverse.toList=x::out.reverse.toList:=by simp
theorem np(out p:Array Keyed):(out++p.reverse).reverse.toList=p.toList++out.reverse.toList:=by simp
section
variable{prog:Program}{w:World}{A:Around}{SI:Shared->Prop}{α β:Type}
structure MHS (N:Keyed->Nat) (a b out:Array Keyed) (na nb:Nat):Prop where
 mh:MH N a.toList b.toList out.reverse.toList na nb
 pa:1<=na
 pb:2<=nb
 ma:na<=a.size
 mb:nb<=b.size
theorem qz{D:Keyed->Prop}{N:Keyed->Nat}{a b:Array Keyed}{Q:Array Keyed->SortSt->Prop}{st:SortSt}(c:Cmp prog w A SI (kindOf st) D N)(hA:Srt N a.toList)(hB:Srt N b.toList)(dA:∀x∈a.toList,D x)(dB:∀x∈b.toList,D x)
 (ha:1<=a.size) (hb:1<=b.size) (h0:∀x y,b.toList[0]? =some x->a.toList[0]? =some y->N x<=N y) (hl:∀y∈b.toList,∀x∈a.toList.drop (a.size-1),N y<=N x)
 (h:∀r st',SG st st'->fP N a.toList b.toList r.toList->Q r st'):(SC prog w A SI) (kH a b) Q st:=by
 have DA:∀{i:Nat} (hi:i<a.size),D a[i]:=fun hi=>dA _ (by simp)
 have DB:∀{i:Nat} (hi:i<b.size),D b[i]:=fun hi=>dB _ (by simp)
 have fd:∀(out:Array Keyed) (na nb:Nat),MH N a.toList b.toList out.reverse.toList na nb->(na=0\/nb=0)->fP N a.toList b.toList (a.extract 0 na++b.extract 0 nb++out.reverse).toList:=fun out na nb m q=>by
  rw[toList_append,toList_append,w8,w8];refine m.done hA hB fun x hx y hy=>?_
  rcases q with q|q
  ·obtain⟨j,h1,_⟩:=aX hx
   lia
  ·obtain⟨j,h1,_⟩:=aX hy
   lia
 have ff:∀(out:Array Keyed) (na nb:Nat),MH N a.toList b.toList out.reverse.toList na nb->nb=1->fP N a.toList b.toList (b.extract 0 nb++a.extract 0 na++out.reverse).toList:=fun out na nb m q=>by
  rw[toList_append,toList_append,w8,w8];refine m.first hA hB fun y hy x hx=>?_
  obtain⟨j,h1,h2,e⟩:=aX hy;obtain⟨i,_,h4,e'⟩:=aX hx;have j0:j=0:=by lia
  subst j0;obtain⟨ea,ea'⟩:=aQ (a:=a) (i:=0) (by lia);exact le_trans (h0 _ _ e ea') (hA.le (zero_le _) ea' e')
 rw[oB];refine ad (fr ?_);dsimp only;obtain⟨la,hla⟩:∃la,a.size=la+1:=⟨a.size-1,by lia⟩
 obtain⟨ea,ea'⟩:=aQ (a:=a) (i:=la) (by lia);rw[show a.size-1=la by lia];refine ad (aB ea ?_);have m0:MH N a.toList b.toList #[a[la]].reverse.toList la b.size:=by
  have z:=MH.zero N a.toList b.toList;rw[X2,X2,hla]at z;exact z.oneA hA ea' fun y hy=>hl y (mem_of_mem_take hy) _ (by
   rw[show a.size-1=la by lia];exact Y8 (i:=0) (by rw[getElem?_drop];exact ea'))
 by_cases q1:la=0
 ·rw[if_pos (by simp[q1])];exact ae (h _ st (SG.refl _) (fd _ _ _ m0 (.inl q1)))
 rw[if_neg (by simp[q1])];by_cases q2:b.size=1
 ·rw[if_pos (by simp[q2])];exact ae (h _ st (SG.refl _) (ff _ _ _ m0 q2))
 rw[if_neg (by simp[q2])];refine ad (dJ ?_);refine ad (ba (aK (Q:=fun x st'=>SG st st'/\∃r,x.1=some r/\fP N a.toList b.toList r.toList)
  (fun j x st'=>SG st st'/\∃na nb out g,x=(none,na,nb,out,g)/\MHS N a b out na nb/\j+1<=out.size) (zero_le _) ⟨SG.refl _,_,_,_,_,rfl,⟨m0,by lia,by lia,by lia,by lia⟩,W1 _⟩ ?_ ?_) ?_)
 ·rintro j x st1 _ hj ⟨sg,na,nb,out,g,rfl,m,hsz⟩;dsimp only;refine ad (ba (aK (Q:=fun x st'=>SG st st'/\((∃r o,x=(some r,o)/\fP N a.toList b.toList r.toList)\/∃na nb out ac bc,x=(none,na,nb,out,ac,bc)/\MHS N a b out na nb/\j+2<=out.size))
   (fun j2 x st'=>SG st st'/\∃na nb out ac bc,x=(none,na,nb,out,ac,bc)/\MHS N a b out na nb/\j+1+j2<=out.size) (zero_le _) ⟨sg,_,_,_,_,_,rfl,m,hsz⟩ ?_ ?_) ?_)
  ·rintro j2 x st2 _ hj2 ⟨sg2,na,nb,out,ac,bc,rfl,m,hsz⟩;dsimp only;have pa:=m.pa;have pb:=m.pb;have ma:=m.ma;have mb:=m.mb;obtain⟨na,rfl⟩:∃n,na=n+1:=⟨na-1,by lia⟩
   obtain⟨nb,rfl⟩:∃n,nb=n+1:=⟨nb-1,by lia⟩
   rw[add_sub_cancel,add_sub_cancel];have hia:na<a.size:=by lia
   have hib:nb<b.size:=by lia
   obtain⟨ea,ea'⟩:=aQ (a:=a) (i:=na) hia;obtain⟨eb,eb'⟩:=aQ (a:=b) (i:=nb) hib;refine ad (aB eb (ad (aB ea (ad (oz (by rw[sg2.1];exact c) (DB hib) (DA hia) ?_)))));dsimp only;by_cases hlt:N b[nb]<N a[na]
   ·rw[X7 hlt,if_pos rfl];refine ad (aB ea ?_);have m2:=m.mh.oneA hA ea' fun y hy=>le_trans (hB.take_le eb' hy) (le_of_lt hlt)
    rw[<-dr]at m2;by_cases q:na=0
    ·rw[if_pos (by simp[q])];exact ae ⟨sg2,.inl ⟨_,_,rfl,fd _ _ _ m2 (.inl q)⟩⟩
    ·rw[if_neg (by simp[q])];have m3:MHS N a b (out.push a[na]) na (nb+1):=⟨m2,by lia,by lia,by lia,by lia⟩
     split
     ·exact ae ⟨sg2,.inr ⟨_,_,_,_,_,rfl,m3,by rw[Array.size_push];lia⟩⟩
     ·exact ae ⟨sg2,_,_,_,_,_,rfl,m3,by rw[Array.size_push];lia⟩
   ·rw[X9 hlt,if_neg (by simp)];refine ad (aB eb ?_);have m2:=m.mh.oneB hB eb' fun y hy=>le_trans (hA.take_le ea' hy) (Nat.le_of_not_lt hlt)
    rw[<-dr]at m2;by_cases q:nb=1
    ·rw[if_pos (by simp[q])];exact ae ⟨sg2,.inl ⟨_,_,rfl,ff _ _ _ m2 q⟩⟩
    ·rw[if_neg (by simp[q])];have m3:MHS N a b (out.push b[nb]) (na+1) nb:=⟨m2,by lia,by lia,by lia,by lia⟩
     split
     ·exact ae ⟨sg2,.inr ⟨_,_,_,_,_,rfl,m3,by rw[Array.size_push];lia⟩⟩
     ·exact ae ⟨sg2,_,_,_,_,_,rfl,m3,by rw[Array.size_push];lia⟩
  ·rintro x st2 ⟨sg2,na,nb,out,ac,bc,rfl,m,hsz⟩;exact⟨sg2,.inr ⟨_,_,_,_,_,rfl,m,by lia⟩⟩
  ·rintro x st2 ⟨sg2,⟨r,o,rfl,gd⟩|⟨na,nb,out,ac,bc,rfl,m,hsz⟩⟩
   ·exact ae ⟨sg2,r,rfl,gd⟩
   ·dsimp only;refine ad (fr ?_);refine ad (ba (aK (Q:=fun x st'=>SG st st'/\((∃r o,x=(some r,o)/\fP N a.toList b.toList r.toList)\/∃na nb out g ac bc,x=(none,na,nb,out,g,ac,bc)/\MHS N a b out na nb/\j+2<=out.size))
     (fun j2 x st'=>SG st st'/\∃na nb out g ac bc,x=(none,na,nb,out,g,ac,bc)/\MHS N a b out na nb/\j+2<=out.size) (zero_le _) ⟨sg2,_,_,_,_,_,_,rfl,m,hsz⟩ ?_ ?_) ?_)
    ·rintro j2 x st2 _ hj2 ⟨sg2,na,nb,out,g,ac,bc,rfl,m,hsz⟩;dsimp only;have pa:=m.pa;have pb:=m.pb;have ma:=m.ma;have mb0:=m.mb;obtain⟨nb,rfl⟩:∃n,nb=n+1:=⟨nb-1,by lia⟩
     simp only[add_sub_cancel];have hib:nb<b.size:=by lia
     obtain⟨eb,eb'⟩:=aQ (a:=b) (i:=nb) hib;by_cases hg:g>1
     all_goals
      first|rw[if_pos hg]|rw[if_neg hg]
      rw[cx];refine ad (bz ?_);refine ad (aB eb ?_);refine ad (cR (by rw[show kindOf _=kindOf st from sg2.1];exact c) (DB hib) (fun i hi=>⟨a[0+i]'(by lia),(aQ (by lia)).1,DA (by lia)⟩) (fun i=>bD N false b[nb] (a.getD (0+i) b[nb]))
       (fun i x hi hx=>by rw[V3,hx];rfl) (fun i i' hii hi hp=>mn hA hii (by lia) hp) (by lia) fun k hk p1 p2=>?_)
      dsimp only;have ga:=Ae p1 p2;simp only[zero_add]at ga;have mk:=m.mh.takeA hA k hk (fun y hy x hx=>by
       obtain⟨i,h1,h2,h3,e⟩:=ni hy;exact le_trans (hB.take_le eb' hx) (le_of_lt (ga.2 i y h1 h2 (by simpa using e))))
      by_cases hk00:na-k>0
      ·rw[if_pos hk00];rw[<-no,<-np]at mk;by_cases q1:k=0
       ·rw[if_pos (by simp[q1])];exact ae ⟨sg2.set _,.inl ⟨_,_,rfl,fd _ _ _ mk (.inl q1)⟩⟩
       rw[if_neg (by simp[q1])];refine ad (aB eb ?_);obtain⟨na2,hna2e⟩:∃na2,na2=k:=⟨_,rfl⟩
       rw[<-hna2e]at mk ⊢;have hna2:1<=na2:=by rw[hna2e];exact(by lia)
       have hna2m:na2<=a.size:=by have:=m.ma;lia
       obtain⟨na3,rfl⟩:∃na3,na2=na3+1:=⟨na2-1,by lia⟩
       rw[add_sub_cancel]at*;obtain⟨ea2,ea2'⟩:=aQ (a:=a) (i:=na3) (by lia);have mb:=MH.oneB mk hB eb' (fun y hy=>by
        obtain⟨j,h1,h2,e⟩:=aX hy;rw[X2]at h2;exact ga.1 j y (by lia) (by simpa using e))
       rw[<-dr]at mb;by_cases q3:nb=1
       ·rw[if_pos (by simp[q3])];exact ae ⟨sg2.set _,.inl ⟨_,_,rfl,ff _ _ _ mb q3⟩⟩
       rw[if_neg (by simp[q3])];refine ad (aB ea2 ?_);refine ad (cR (by rw[show kindOf _=kindOf st from sg2.1];exact c) (DA (by lia)) (fun i hi=>⟨b[0+i]'(by lia),(aQ (by lia)).1,DB (by lia)⟩) (fun i=>bD N true (a[na3]'(by lia)) (b.getD (0+i) b[nb]))
        (fun i x hi hx=>by rw[V3,hx];rfl) (fun i i' hii hi hp=>gG hB hii (by lia) hp) (by lia) fun k2 hk2 p3 p4=>?_)
       dsimp only;have gb:=w6 p3 p4;have hle3:∀y∈b.toList.take k2,N y<=N (a[na3]'(by lia)):=fun y hy=>by
        obtain⟨j,h1,h2,e⟩:=aX hy;exact le_of_lt (gb.1 j y h1 (by simpa using e))
       have m3:=mb.takeB hB k2 hk2 (fun y hy x hx=>by
        obtain⟨i,h1,h2,h3,e⟩:=ni hy;exact le_trans (hA.take_le ea2' hx) (gb.2 i y h1 h2 (by simpa using e)))
       by_cases hk200:nb-k2>0
       ·rw[if_pos hk200];rw[<-no,<-np]at m3;by_cases q4:k2=1
        ·rw[if_pos (by simp[q4])];exact ae ⟨sg2.set _,.inl ⟨_,_,rfl,ff _ _ _ m3 q4⟩⟩
        rw[if_neg (by simp[q4])];by_cases q6:k2=0
        ·rw[if_pos (by simp[q6])];exact ae ⟨sg2.set _,.inl ⟨_,_,rfl,fd _ _ _ m3 (.inr q6)⟩⟩
        rw[if_neg (by simp[q6])];refine ad (aB ea2 ?_);have m4:=MH.oneA m3 hA ea2' hle3;rw[<-dr]at m4;by_cases q5:na3=0
        ·rw[if_pos (by simp[q5])];exact ae ⟨sg2.set _,.inl ⟨_,_,rfl,fd _ _ _ m4 (.inl q5)⟩⟩
        rw[if_neg (by simp[q5])];have m5:=MHS.mk (a:=a) (b:=b) m4 (by lia) (by lia) (by lia) (by lia)
        split
        ·exact ae ⟨sg2.set _,.inr ⟨_,_,_,_,_,_,rfl,m5,by simp;lia⟩⟩
        ·exact ae ⟨sg2.set _,_,_,_,_,_,_,rfl,m5,by simp;lia⟩
       ·rw[if_neg hk200];have hk20:k2=nb:=by lia
        subst hk20;refine ad (aB ea2 ?_);have m4:=MH.oneA mb hA ea2' hle3;rw[<-dr]at m4;by_cases q5:na3=0
        ·rw[if_pos (by simp[q5])];exact ae ⟨sg2.set _,.inl ⟨_,_,rfl,fd _ _ _ m4 (.inl q5)⟩⟩
        rw[if_neg (by simp[q5])];have m5:=MHS.mk (a:=a) (b:=b) m4 (by lia) (by lia) (by lia) (by lia)
        split
        ·exact ae ⟨sg2.set _,.inr ⟨_,_,_,_,_,_,rfl,m5,by simp;lia⟩⟩
        ·exact ae ⟨sg2.set _,_,_,_,_,_,_,rfl,m5,by simp;omega⟩
      ·rw[if_neg hk00];have hk0:k=na:=by lia
       subst hk0;have mk:=m.mh;refine ad (aB eb ?_);obtain⟨na2,hna2e⟩:∃na2,na2=k:=⟨_,rfl⟩
       rw[<-hna2e]at mk ⊢;have hna2:1<=na2:=by rw[hna2e];exact(by lia)
       have hna2m:na2<=a.size:=by have:=m.ma;lia
       obtain⟨na3,rfl⟩:∃na3,na2=na3+1:=⟨na2-1,by lia⟩
       rw[add_sub_cancel]at*;obtain⟨ea2,ea2'⟩:=aQ (a:=a) (i:=na3) (by lia);have mb:=MH.oneB mk hB eb' (fun y hy=>by
        obtain⟨j,h1,h2,e⟩:=aX hy;rw[X2]at h2;exact ga.1 j y (by lia) (by simpa using e))
       rw[<-dr]at mb;by_cases q3:nb=1
       ·rw[if_pos (by simp[q3])];exact ae ⟨sg2.set _,.inl ⟨_,_,rfl,ff _ _ _ mb q3⟩⟩
       rw[if_neg (by simp[q3])];refine ad (aB ea2 ?_);refine ad (cR (by rw[show kindOf _=kindOf st from sg2.1];exact c) (DA (by lia)) (fun i hi=>⟨b[0+i]'(by lia),(aQ (by lia)).1,DB (by lia)⟩) (fun i=>bD N true (a[na3]'(by lia)) (b.getD (0+i) b[nb]))
        (fun i x hi hx=>by rw[V3,hx];rfl) (fun i i' hii hi hp=>gG hB hii (by lia) hp) (by lia) fun k2 hk2 p3 p4=>?_)
       dsimp only;have gb:=w6 p3 p4;have hle3:∀y∈b.toList.take k2,N y<=N (a[na3]'(by omega)):=fun y hy=>by
        obtain⟨j,h1,h2,e⟩:=aX hy;exact le_of_lt (gb.1 j y h1 (by simpa using e))
       have m3:=mb.takeB hB k2 hk2 (fun y hy x hx=>by
        obtain⟨i,h1,h2,h3,e⟩:=ni hy;exact le_trans (hA.take_le ea2' hx) (gb.2 i y h1 h2 (by simpa using e)))
       by_cases hk200:nb-k2>0
       ·rw[if_pos hk200];rw[<-no,<-np]at m3;by_cases q4:k2=1
        ·rw[if_pos (by simp[q4])];exact ae ⟨sg2.set _,.inl ⟨_,_,rfl,ff _ _ _ m3 q4⟩⟩
        rw[if_neg (by simp[q4])];by_cases q6:k2=0
        ·rw[if_pos (by simp[q6])];exact ae ⟨sg2.set _,.inl ⟨_,_,rfl,fd _ _ _ m3 (.inr q6)⟩⟩
        rw[if_neg (by simp[q6])];refine ad (aB ea2 ?_);have m4:=MH.oneA m3 hA ea2' hle3;rw[<-dr]at m4;by_cases q5:na3=0
        ·rw[if_pos (by simp[q5])];exact ae ⟨sg2.set _,.inl ⟨_,_,rfl,fd _ _ _ m4 (.inl q5)⟩⟩
        rw[if_neg (by simp[q5])];have m5:=MHS.mk (a:=a) (b:=b) m4 (by omega) (by omega) (by omega) (by omega)
        split
        ·exact ae ⟨sg2.set _,.inr ⟨_,_,_,_,_,_,rfl,m5,by simp;lia⟩⟩
        ·exact ae ⟨sg2.set _,_,_,_,_,_,_,rfl,m5,by simp;lia⟩
       ·rw[if_neg hk200];have hk20:k2=nb:=by lia
        subst hk20;refine ad (aB ea2 ?_);have m4:=MH.oneA mb hA ea2' hle3;rw[<-dr]at m4;by_cases q5:na3=0
        ·rw[if_pos (by simp[q5])];exact ae ⟨sg2.set _,.inl ⟨_,_,rfl,fd _ _ _ m4 (.inl q5)⟩⟩
        rw[if_neg (by simp[q5])];have m5:=MHS.mk (a:=a) (b:=b) m4 (by omega) (by omega) (by omega) (by omega)
        split
        ·exact ae ⟨sg2.set _,.inr ⟨_,_,_,_,_,_,rfl,m5,by simp;omega⟩⟩
        ·exact ae ⟨sg2.set _,_,_,_,_,_,_,rfl,m5,by simp;omega⟩
    ·rintro x st2 ⟨sg2,na,nb,out,g,ac,bc,rfl,m,hsz⟩;exact⟨sg2,.inr ⟨_,_,_,_,_,_,rfl,m,by omega⟩⟩
    ·rintro x st2 ⟨sg2,⟨r,o,rfl,gd⟩|⟨na,nb,out,g,ac,bc,rfl,m,hsz⟩⟩
     ·exact ae ⟨sg2,r,rfl,gd⟩
     ·dsimp only;rw[cx];exact ad (bz (ae ⟨sg2.set _,_,_,_,_,rfl,m,by lia⟩))
 ·rintro x st1 ⟨sg,na,nb,out,g,rfl,m,hsz⟩;have:=m.pa;have:=m.pb;have:=m.ma;have:=m.mb;have q:=m.mh.perm.length_eq;simp only[Y9,length_take,X2,Array.size_reverse]at q
  lia
 ·rintro x st1 ⟨sg,r,hr,gd⟩;obtain⟨x1,x2⟩:=x;dsimp only at hr;subst hr;exact ae (h r st1 sg gd)
end
end SBig
namespace SBig
open PySem PyProof.Rows
theorem oC(i:Nat):mergeAt' i=(do
 let s<-get
 let(some (sa,na,power),some (sb,nb,_)):=((pendingOf s)[i]?,(pendingOf s)[i+1]?)|unsupported "internal:list.sort.pending"
 set (setPending s (((pendingOf s).setIfInBounds i (sa,na+nb,power)).eraseIdxIfInBounds (i+1)))
 let some k<-eL false (<-elem' (arrOf s) sb) (arrOf s) sa na 0|return false
 let(sa,na):=(sa+k,na-k)
 if na==0 then return true
 let some nb<-eL true (<-elem' (arrOf s) (sa+na-1)) (arrOf s) sb nb (nb-1)|return false
 if nb==0 then return true
 let x:=(arrOf s).extract sa sb
 let y:=(arrOf s).extract sb (sb+nb)
 let merged<-if na<=nb then kG x y else kH x y
 modify fun s=>setArr s (merged.toList.zipIdx.foldl (fun a (p,j)=>a.setIfInBounds (sa+j) p) (arrOf s))
 return (failedOf (<-get)).isNone):=rfl
theorem oE:∀(m:List Keyed) (c o:Nat) (a:Array Keyed),o+c+m.length<=a.size->
 ((m.zipIdx c).foldl (fun(a:Array Keyed) (p:Keyed×Nat)=>a.setIfInBounds (o+p.2) p.1) a).toList=a.toList.take (o+c) ++m++a.toList.drop (o+c+m.length)
 |[],c,o,a,_=>by simp
 | x::m,c,o,a,h=>by
   rw[List.zipIdx_cons,foldl_cons];rw[V1]at h;rw[oE m (c+1) o _ (by rw[Array.size_setIfInBounds];lia),Array.toList_setIfInBounds];have hl:o+c<a.toList.length:=by rw[X2];lia
   rw[V1,List.take_set,List.drop_set];rw[show o+(c+1)=o+c+1 by lia,show o+c+1+m.length=o+c+(m.length+1) by lia];rw[if_pos (by lia)];have e:(a.toList.take (o+c+1)).set (o+c) x=a.toList.take (o+c) ++[x]:=by
    rw[List.take_succ_eq_append_getElem hl];rw[List.set_append_right _ _ (by rw[length_take];lia)];rw[length_take,min_eq_left (by lia),sub_self];rfl
   rw[e];simp
section
variable{prog:Program}{w:World}{A:Around}{SI:Shared->Prop}{α β:Type}
theorem qA{D:Keyed->Prop}{N:Keyed->Nat}{i p p2:Nat}{L1 X Y L2:List Keyed}{Q:Bool->SortSt->Prop}{st:SortSt}(c:Cmp prog w A SI (kindOf st) D N)(e:(arrOf st).toList=L1++X++Y++L2)(hX:Srt N X)(hY:Srt N Y)(nX:X≠[])(nY:Y≠[])
 (dX:∀x∈X,D x) (dY:∀x∈Y,D x) (hp:(pendingOf st)[i]? =some (L1.length,X.length,p)) (hp2:(pendingOf st)[i+1]? =some (L1.length+X.length,Y.length,p2)) (hf:failedOf st=none)
 (h:∀Z st',Srt N Z->Z.Perm (X++Y)->(arrOf st').toList=L1++Z++L2->kindOf st'=kindOf st->failedOf st'=none->pendingOf st'=((pendingOf st).setIfInBounds i (L1.length,X.length+Y.length,p)).eraseIdxIfInBounds (i+1)->Q true st'):(SC prog w A SI) (mergeAt' i) Q st:=by
 have lX:0<X.length:=length_pos_iff.mpr nX;have lY:0<Y.length:=length_pos_iff.mpr nY;have sz:(arrOf st).size=L1.length+X.length+Y.length+L2.length:=by
  rw[<-X2,e];simp only[Y9]
 have atX:∀(j:Nat) (hj:j<X.length),(arrOf st)[L1.length+j]? =some X[j]:=fun j hj=>by
  have:(arrOf st).toList[L1.length+j]? =some X[j]:=by
   rw[e,X6,X6,getElem?_append_right (by lia),add_sub_cancel_left,getElem?_append_left hj];simp[hj]
  simpa using this
 have atY:∀(j:Nat) (hj:j<Y.length),(arrOf st)[L1.length+X.length+j]? =some Y[j]:=fun j hj=>by
  have:(arrOf st).toList[L1.length+X.length+j]? =some Y[j]:=by
   rw[e,X6,getElem?_append_right (by rw[Y9];lia),Y9,add_sub_cancel_left,getElem?_append_left hj];simp[hj]
  simpa using this
 have DX:∀(j:Nat) (hj:j<X.length),D X[j]:=fun j hj=>dX _ (getElem_mem hj)
 have DY:∀(j:Nat) (hj:j<Y.length),D Y[j]:=fun j hj=>dY _ (getElem_mem hj)
 have leX:∀(i j:Nat) (hi:i<=j) (hj:j<X.length),N (X[i]'(by lia))<=N X[j]:=fun i j hi hj=>hX.le hi (by simp) (by simp)
 have leY:∀(i j:Nat) (hi:i<=j) (hj:j<Y.length),N (Y[i]'(by lia))<=N Y[j]:=fun i j hi hj=>hY.le hi (by simp) (by simp)
 rw[oC];refine ad (dJ ?_);rw[hp,hp2];dsimp only;refine ad (zm ?_);have eb:=atY 0 lY;rw[add_zero]at eb;refine ad (aB eb ?_);refine ad (cR c (DY 0 lY) (fun i hi=>⟨_,atX i hi,DX i hi⟩) (fun i=>bD N false Y[0] (X.getD i Y[0])) (fun i x hi hx=>by
  rw[atX i hi]at hx;cases hx;rw[X3,Y4 hi];rfl) (fun i j hij hj hq=>?_) lX fun k hk p1 p2=>?_)
 ·rw[X3,Y4 hj]at hq;rw[X3,Y4 (by lia)];have:=leX i j hij hj;unfold bD at hq ⊢;simp only[false_eq_true,if_false,Bool.not_eq_true',decide_eq_false_iff_not,getD_some]at hq ⊢
  lia
 have g1:∀(j:Nat) (hj:j<X.length),j<k->N X[j]<=N Y[0]:=fun j hj hjk=>by
  have:=p1 j hjk;rw[X3,Y4 hj]at this;unfold bD at this;simpa using this
 have g2:∀(j:Nat) (hj:j<X.length),k<=j->N Y[0]<N X[j]:=fun j hj hjk=>by
  have:=p2 j hjk hj;rw[X3,Y4 hj]at this;unfold bD at this;simpa using this
 dsimp only;by_cases q1:X.length-k=0
 ·rw[if_pos (by simp[q1])];refine ae (h (X++Y) _ (pairwise_append.mpr ⟨hX,hY,fun x hx y hy=>?_⟩) (List.Perm.refl _) (by show(arrOf st).toList=_;rw[e];simp) rfl hf rfl);obtain⟨j,hj,rfl⟩:=getElem_of_mem hx;obtain⟨j',hj',rfl⟩:=getElem_of_mem hy;exact le_trans (g1 j hj (by lia)) (leY 0 j' (zero_le _) hj')
 rw[if_neg (by simpa using q1)];have el:=atX (X.length-1) (by lia);rw[show L1.length+k+(X.length-k) -1=L1.length+(X.length-1) by lia];refine ad (aB el ?_);refine ad (cR c (DX _ (by lia)) (fun i hi=>⟨_,atY i hi,DY i hi⟩) (fun i=>bD N true (X[X.length-1]'(by lia)) (Y.getD i Y[0])) (fun i x hi hx=>by
  rw[atY i hi]at hx;cases hx;rw[X3,Y4 hi];rfl) (fun i j hij hj hq=>?_) (by lia) fun k2 hk2 p3 p4=>?_)
 ·rw[X3,Y4 hj]at hq;rw[X3,Y4 (by lia)];have:=leY i j hij hj;unfold bD at hq ⊢;simp only[if_true,decide_eq_true_eq,getD_some]at hq ⊢
  lia
 have g3:∀(j:Nat) (hj:j<Y.length),j<k2->N Y[j]<N (X[X.length-1]'(by lia)):=fun j hj hjk=>by
  have:=p3 j hjk;rw[X3,Y4 hj]at this;unfold bD at this;simpa using this
 have g4:∀(j:Nat) (hj:j<Y.length),k2<=j->N (X[X.length-1]'(by lia))<=N Y[j]:=fun j hj hjk=>by
  have:=p4 j hjk hj;rw[X3,Y4 hj]at this;unfold bD at this;simpa using this
 dsimp only;by_cases q2:k2=0
 ·rw[if_pos (by simp[q2])];refine ae (h (X++Y) _ (pairwise_append.mpr ⟨hX,hY,fun x hx y hy=>?_⟩) (List.Perm.refl _) (by show(arrOf st).toList=_;rw[e];simp) rfl hf rfl);obtain⟨j,hj,rfl⟩:=getElem_of_mem hx;obtain⟨j',hj',rfl⟩:=getElem_of_mem hy;exact le_trans (leX j (X.length-1) (by lia) (by lia)) (g4 j' hj' (by lia))
 rw[if_neg (by simpa using q2)];have ex:((arrOf st).extract (L1.length+k) (L1.length+X.length)).toList=X.drop k:=by
  rw[gf,e,X6,X6,List.drop_append,List.drop_of_length_le (by lia),nil_append,add_sub_cancel_left,List.drop_append_of_le_length (by lia),List.take_append_of_le_length (by rw[length_drop];lia),W7 (by rw[length_drop];lia)]
 have ey:((arrOf st).extract (L1.length+X.length) (L1.length+X.length+k2)).toList=Y.take k2:=by
  rw[j1,e,X6,List.drop_append,List.drop_of_length_le (by rw[Y9];lia),nil_append,Y9,sub_self,drop_zero,List.take_append_of_le_length (by lia)]
 have sx:((arrOf st).extract (L1.length+k) (L1.length+X.length)).size=X.length-k:=by rw[<-X2,ex,length_drop]
 have sy:((arrOf st).extract (L1.length+X.length) (L1.length+X.length+k2)).size=k2:=by rw[<-X2,ey,length_take,min_eq_left hk2]
 have fin:∀(r:Array Keyed) (st1:SortSt),SG (setPending st (((pendingOf st).setIfInBounds i (L1.length,X.length+Y.length,p)).eraseIdxIfInBounds (i+1))) st1->fP N (X.drop k) (Y.take k2) r.toList->
  (SC prog w A SI) (do modify (fun s=>setArr s (r.toList.zipIdx.foldl (fun a (p,j)=>a.setIfInBounds (L1.length+k+j) p) (arrOf s)));let x<-get;pure (failedOf x).isNone) Q st1:=fun r st1 sg gd=>by
  refine ad (bz (ad (dJ (ae ?_))));have hf1:failedOf st1=none:=by rw[sg.2.2.2];exact hf
  show Q (failedOf st1).isNone _;rw[hf1];have lr:r.toList.length=(X.length-k) +k2:=by
   rw[gd.2.length_eq,Y9,length_drop,length_take,min_eq_left hk2]
  refine h (X.take k++r.toList++Y.drop k2) _ ?_ ?_ ?_ sg.1 hf1 sg.2.2.1
  ·have mem:∀y∈r.toList,(∃(j:Nat) (hj:j<X.length),k<=j/\y=X[j])\/∃(j:Nat) (hj:j<Y.length),j<k2/\y=Y[j]:=fun y hy=>by
    rcases mem_append.mp (gd.2.mem_iff.mp hy)with q|q
    ·obtain⟨j,h1,h2,e⟩:=bn q;obtain⟨hj,e⟩:=List.getElem?_eq_some_iff.mp e;exact .inl ⟨j,hj,h1,e.symm⟩
    ·obtain⟨j,h1,h2,e⟩:=aX q;obtain⟨hj,e⟩:=List.getElem?_eq_some_iff.mp e;exact .inr ⟨j,hj,h1,e.symm⟩
   refine pairwise_append.mpr ⟨pairwise_append.mpr ⟨hX.take k,gd.1,fun x hx y hy=>?_⟩,hY.drop k2,fun x hx y hy=>?_⟩
   ·obtain⟨j,h1,h2,e⟩:=aX hx;obtain⟨hj,rfl⟩:=List.getElem?_eq_some_iff.mp e;rcases mem y hy with⟨j',hj',h3,rfl⟩|⟨j',hj',h3,rfl⟩
    ·exact leX j j' (by lia) hj'
    ·exact le_trans (g1 j hj h1) (leY 0 j' (zero_le _) hj')
   ·obtain⟨j,h1,h2,e⟩:=bn hy;obtain⟨hj,rfl⟩:=List.getElem?_eq_some_iff.mp e;rcases mem_append.mp hx with hx|hx
    ·obtain⟨j',h3,h4,e'⟩:=aX hx;obtain⟨hj',rfl⟩:=List.getElem?_eq_some_iff.mp e';exact le_trans (leX j' (X.length-1) (by lia) (by lia)) (g4 j hj h1)
    ·rcases mem x hx with⟨j',hj',h3,rfl⟩|⟨j',hj',h3,rfl⟩
     ·exact le_trans (leX j' (X.length-1) (by lia) (by lia)) (g4 j hj h1)
     ·exact leY j' j (by lia) hj
  ·have p1:(X.take k++r.toList++Y.drop k2).Perm (X.take k++(X.drop k++Y.take k2) ++Y.drop k2):=List.Perm.append_right _ (List.Perm.append_left _ gd.2);refine p1.trans ?_;rw[<-X6,take_append_drop,X6,take_append_drop]
  ·show(setArr st1 _|>arrOf).toList=_;have ea1:arrOf st1=arrOf st:=sg.2.1;show((r.toList.zipIdx).foldl (fun(a:Array Keyed) (p:Keyed×Nat)=>a.setIfInBounds (L1.length+k+p.2) p.1) (arrOf st1)).toList=_;rw[oE _ 0 _ _ (by rw[lr,ea1,sz];lia),ea1,e,lr];have t1:(L1++X++Y++L2).take (L1.length+k+0)=L1++X.take k:=by
    rw[add_zero,X6,X6,List.take_append,W7 (by lia),add_sub_cancel_left,List.take_append_of_le_length (by lia)]
   have t2:(L1++X++Y++L2).drop (L1.length+k+0+(X.length-k+k2))=Y.drop k2++L2:=by
    rw[show L1.length+k+0+(X.length-k+k2)=(L1++X).length+k2 by rw[Y9];lia,X6,List.drop_append,List.drop_of_length_le (by lia),nil_append,add_sub_cancel_left,List.drop_append_of_le_length (by lia)]
   rw[t1,t2];simp
 have pre0:∀x y,((arrOf st).extract (L1.length+X.length) (L1.length+X.length+k2)).toList[0]? =some x->((arrOf st).extract (L1.length+k) (L1.length+X.length)).toList[0]? =some y->N x<=N y:=fun x y hx hy=>by
  rw[ey,getElem?_take,if_pos (by lia),Y4 lY]at hx;rw[ex,getElem?_drop,Y4 (by omega)]at hy;cases hx;cases hy;exact le_of_lt (g2 _ (by lia) (by lia))
 have prel:∀y∈((arrOf st).extract (L1.length+X.length) (L1.length+X.length+k2)).toList,∀x∈((arrOf st).extract (L1.length+k) (L1.length+X.length)).toList.drop (((arrOf st).extract (L1.length+k) (L1.length+X.length)).size-1),N y<=N x:=fun y hy x hx=>by
  rw[ey]at hy;rw[sx,ex,drop_drop]at hx;obtain⟨j,h1,h2,e1⟩:=aX hy;obtain⟨hj,rfl⟩:=List.getElem?_eq_some_iff.mp e1;obtain⟨j',h3,h4,e2⟩:=bn hx;obtain⟨hj',rfl⟩:=List.getElem?_eq_some_iff.mp e2;have:j'=X.length-1:=by lia
  subst this;exact le_of_lt (g3 j hj h1)
 have hXs:Srt N ((arrOf st).extract (L1.length+k) (L1.length+X.length)).toList:=by rw[ex];exact hX.drop k
 have hYs:Srt N ((arrOf st).extract (L1.length+X.length) (L1.length+X.length+k2)).toList:=by rw[ey];exact hY.take k2
 have dXs:∀x∈((arrOf st).extract (L1.length+k) (L1.length+X.length)).toList,D x:=fun x hx=>dX x (by rw[ex]at hx;exact mem_of_mem_drop hx)
 have dYs:∀x∈((arrOf st).extract (L1.length+X.length) (L1.length+X.length+k2)).toList,D x:=fun x hx=>dY x (by rw[ey]at hx;exact mem_of_mem_take hx)
 have gg:∀(r:Array Keyed) (st1:SortSt),SG (setPending st (((pendingOf st).setIfInBounds i (L1.length,X.length+Y.length,p)).eraseIdxIfInBounds (i+1))) st1->fP N ((arrOf st).extract (L1.length+k) (L1.length+X.length)).toList ((arrOf st).extract (L1.length+X.length) (L1.length+X.length+k2)).toList r.toList->
  (SC prog w A SI) (do modify (fun s=>setArr s (r.toList.zipIdx.foldl (fun a (p,j)=>a.setIfInBounds (L1.length+k+j) p) (arrOf s)));let x<-get;pure (failedOf x).isNone) Q st1:=fun r st1 sg gd=>fin r st1 sg (by rw[ex,ey]at gd;exact gd)
 by_cases q3:X.length-k<=k2
 ·rw[if_pos q3];exact ad (qw c hXs hYs dXs dYs (by rw[sx];lia) (by rw[sy];lia) pre0 prel gg)
 ·rw[if_neg q3];exact ad (qz c hXs hYs dXs dYs (by rw[sx];lia) (by rw[sy];lia) pre0 prel gg)
end
end SBig
namespace SBig
open PySem PyProof.Rows
noncomputable def ky(N:Keyed->Nat)(a:Array Keyed)(i:Nat):Nat:=N (a.getD i (Value.none,Value.none))
theorem vf{N:Keyed->Nat}{a:Array Keyed}{i:Nat}{x:Keyed}(h:a[i]? =some x):ky N a i=N x:=by
 unfold ky;rw[V3,h];rfl
theorem oF{N:Keyed->Nat}{a b:Array Keyed}{i j:Nat}(h:a[i]? =b[j]?):ky N a i=ky N b j:=by
 unfold ky;rw[V3,V3,h]
structure CR (st0 st:SortSt) (lo:Nat):Prop where
 kind:kindOf st=kindOf st0
 pend:pendingOf st=pendingOf st0
 fail:failedOf st=failedOf st0
 perm:(arrOf st).Perm (arrOf st0)
 same:∀i,i<lo->(arrOf st)[i]? =(arrOf st0)[i]?
theorem CR.refl(st:SortSt)(lo:Nat):CR st st lo:=⟨rfl,rfl,rfl,Array.Perm.refl _,fun _ _=>rfl⟩
theorem CR.size{st0 st:SortSt}{lo:Nat}(h:CR st0 st lo):(arrOf st).size=(arrOf st0).size:=h.perm.size_eq
theorem CR.rev{st0 st:SortSt}{lo i j:Nat}(h:CR st0 st lo)(hi:lo<=i)(hj:j<=(arrOf st).size):CR st0 (setArr st (mirror (arrOf st) i j ((j-i)/2))) lo:=
 ⟨h.kind,h.pend,h.fail,(mirror_perm _ _ _ _).trans h.perm,fun k hk=>by
  show(mirror (arrOf st) i j ((j-i)/2))[k]? =_;rw[getElem?_mirror_all hj,if_neg (by lia)];exact h.same k hk⟩
theorem qB{N:Keyed->Nat}{a:Array Keyed}{i j:Nat}(hj:j<=a.size)(k:Nat):ky N (mirror a i j ((j-i)/2)) k=if i<=k/\k<j then ky N a (i+j-1-k)else ky N a k:=by
 split
 ·rename_i h
  exact oF (by rw[getElem?_mirror_all hj,if_pos h])
 ·rename_i h
  exact oF (by rw[getElem?_mirror_all hj,if_neg h])
noncomputable def Up(N:Keyed->Nat)(a:Array Keyed)(lo n:Nat):Prop:=∀i j,i<=j->j<n->ky N a (lo+i)<=ky N a (lo+j)
noncomputable def Dn(N:Keyed->Nat)(a:Array Keyed)(lo n:Nat):Prop:=∀i j,i<=j->j<n->ky N a (lo+j)<=ky N a (lo+i)
theorem Up.one(N:Keyed->Nat)(a:Array Keyed)(lo:Nat):Up N a lo 1:=fun i j h1 h2=>by
 rw[show i=j by lia];exact W1 _
theorem Up.step{N:Keyed->Nat}{a:Array Keyed}{lo n:Nat}(h:Up N a lo n)(h1:1<=n)(hn: ¬ ky N a (lo+n)<ky N a (lo+n-1)):Up N a lo (n+1):=fun i j hij hj=>by
 by_cases e:j=n
 ·subst e;by_cases e2:i=j
  ·rw[e2];exact W1 _
  ·have:=h i (j-1) (by lia) (by lia);rw[show lo+(j-1)=lo+j-1 by lia]at this
   lia
 ·exact h i j hij (by lia)
theorem Dn.step{N:Keyed->Nat}{a:Array Keyed}{lo n:Nat}(h:Dn N a lo n)(h1:1<=n)(hn:ky N a (lo+n)<=ky N a (lo+n-1)):Dn N a lo (n+1):=fun i j hij hj=>by
 by_cases e:j=n
 ·subst e;by_cases e2:i=j
  ·rw[e2];exact W1 _
  ·have:=h i (j-1) (by lia) (by lia);rw[show lo+(j-1)=lo+j-1 by lia]at this
   lia
 ·exact h i j hij (by lia)
theorem Dn.rev{N:Keyed->Nat}{a:Array Keyed}{lo n:Nat}(h:Dn N a lo n)(hn:lo+n<=a.size):Up N (mirror a lo (lo+n) ((lo+n-lo)/2)) lo n:=fun i j hij hj=>by
 rw[qB hn,qB hn,if_pos (by lia),if_pos (by lia)];have:=h (n-1-j) (n-1-i) (by lia) (by lia);rw[show lo+(lo+n) -1-(lo+i)=lo+(n-1-i) by lia,show lo+(lo+n) -1-(lo+j)=lo+(n-1-j) by lia];exact this
theorem Dn.same{N:Keyed->Nat}{a:Array Keyed}{lo n i j:Nat}(h:Dn N a lo n)(hj:j<=a.size)(he:∀k k',i<=k->k<j->i<=k'->k'<j->ky N a k=ky N a k'):Dn N (mirror a i j ((j-i)/2)) lo n:=by
 have e:∀k,ky N (mirror a i j ((j-i)/2)) k=ky N a k:=fun k=>by
  rw[qB hj]
  split
  ·exact he _ _ (by lia) (by lia) (by lia) (by lia)
  ·rfl
 intro p q hpq hq;rw[e,e];exact h p q hpq hq
section
variable{prog:Program}{w:World}{A:Around}{SI:Shared->Prop}{α β:Type}
theorem d8{D:Keyed->Prop}{N:Keyed->Nat}{i j lo:Nat}{Q:Option Bool->SortSt->Prop}{st0 st:SortSt}(c:Cmp prog w A SI (kindOf st0) D N)(d:∀x∈(arrOf st0).toList,D x)(r:CR st0 st lo)(hi:i<(arrOf st0).size)(hj:j<(arrOf st0).size)
 (h:Q (some (decide (ky N (arrOf st) i<ky N (arrOf st) j))) st):(SC prog w A SI) (ltAt' i j) Q st:=by
 have dd:∀x∈(arrOf st).toList,D x:=fun x hx=>d x ((Array.perm_iff_toList_perm.mp r.perm).mem_iff.mp hx)
 have hi':i<(arrOf st).size:=by rw[r.size];exact hi
 have hj':j<(arrOf st).size:=by rw[r.size];exact hj
 obtain⟨e1,e1'⟩:=aQ hi';obtain⟨e2,e2'⟩:=aQ hj';refine wZ (by rw[r.kind];exact c) e1 e2 (dd _ (by simp)) (dd _ (by simp)) ?_;rw[vf e1,vf e2]at h;exact h
theorem fu{i j:Nat}{Q:Unit->SortSt->Prop}{st:SortSt}(h:Q () (setArr st (mirror (arrOf st) i j ((j-i)/2)))):(SC prog w A SI) (reverseSlice' i j) Q st:=by
 rw[reverseSlice'_eq];exact bz h
theorem oG{D:Keyed->Prop}{N:Keyed->Nat}{lo nrem:Nat}{Q:Option Nat->SortSt->Prop}{st:SortSt}(c:Cmp prog w A SI (kindOf st) D N)(d:∀x∈(arrOf st).toList,D x)(h1:1<=nrem)(hs:lo+nrem<=(arrOf st).size)
 (h:∀n st',CR st st' lo->1<=n->n<=nrem->Up N (arrOf st') lo n->Q (some n) st'):(SC prog w A SI) (countRun' lo nrem) Q st:=by
 rw[countRun'_eq];refine ad (ba (aK (Q:=fun x st'=>st'=st/\∃n,x=(none,n)/\1<=n/\n<=nrem/\Up N (arrOf st) lo n/\(n=nrem\/ky N (arrOf st) (lo+n)<ky N (arrOf st) (lo+n-1)))
  (fun j x st'=>st'=st/\x=(none,j)/\Up N (arrOf st) lo j) h1 ⟨rfl,rfl,Up.one _ _ _⟩ ?_ ?_) ?_)
 ·rintro j x st' hj1 hj ⟨rfl,rfl,up⟩;dsimp only;refine ad (d8 c d (CR.refl _ lo) (by lia) (by lia) ?_);dsimp only;by_cases q:ky N (arrOf st') (lo+j)<ky N (arrOf st') (lo+j-1)
  ·rw[X7 q,if_pos rfl];exact ae ⟨rfl,j,rfl,hj1,by lia,up,.inr q⟩
  ·rw[X9 q,if_neg (by simp)];exact ae ⟨rfl,rfl,up.step hj1 q⟩
 ·rintro x st' ⟨rfl,rfl,up⟩;exact⟨rfl,nrem,rfl,h1,W1 _,up,.inl rfl⟩
 ·rintro x st1 ⟨e1,n,rfl,n1,n2,up,hq⟩;subst e1;dsimp only;by_cases q1:n=nrem
  ·rw[if_pos (by simp[q1])];exact ae (h n st1 (CR.refl _ _) n1 n2 up)
  rw[if_neg (by simp[q1])];have hq:ky N (arrOf st1) (lo+n)<ky N (arrOf st1) (lo+n-1):=hq.resolve_left q1;have n3:n<nrem:=by lia
  by_cases q2:n>1
  ·rw[if_pos q2];refine ad (d8 c d (CR.refl _ lo) (by lia) (by lia) ?_);dsimp only;by_cases q3:ky N (arrOf st1) lo<ky N (arrOf st1) (lo+n-1)
   ·rw[X7 q3,if_pos rfl];exact ae (h n st1 (CR.refl _ _) n1 n2 up)
   ·rw[X9 q3,if_neg (by simp)];refine ad (fu ?_);have r2:=(CR.refl st1 lo).rev (i:=lo) (j:=lo+n) (W1 _) (by lia);have all:∀i,i<n->ky N (arrOf st1) (lo+i)=ky N (arrOf st1) lo:=fun i hi=>by
     have a1:=up 0 i (zero_le _) hi;have a2:=up i (n-1) (by lia) (by lia);rw[show lo+(n-1)=lo+n-1 by lia]at a2;rw[add_zero]at a1
     lia
    have dn0:Dn N (arrOf st1) lo n:=fun i j hij hj=>by rw[all i (by lia),all j hj];exact W1 _
    have dn1:Dn N (arrOf st1) lo (n+1):=dn0.step n1 (by lia);have dn2:=dn1.same (i:=lo) (j:=lo+n) (by lia) (fun k k' a1 a2 a3 a4=>by
     have b1:=all (k-lo) (by lia);have b2:=all (k'-lo) (by lia);rw[show lo+(k-lo)=k by lia]at b1;rw[show lo+(k'-lo)=k' by lia]at b2;rw[b1,b2])
    refine ad (fr ?_);refine ad (ba (aK (Q:=fun x st'=>CR st1 st' lo/\∃m q,x=(none,m,q)/\q+1<=m/\m<=nrem/\Dn N (arrOf st') lo m/\(∀k k',lo+m-(q+1)<=k->k<lo+m->lo+m-(q+1)<=k'->k'<lo+m->ky N (arrOf st') k=ky N (arrOf st') k'))
     (fun j x st'=>CR st1 st' lo/\∃q,x=(none,j,q)/\q+1<=j/\Dn N (arrOf st') lo j/\(∀k k',lo+j-(q+1)<=k->k<lo+j->lo+j-(q+1)<=k'->k'<lo+j->ky N (arrOf st') k=ky N (arrOf st') k')) (by lia) ⟨r2,0,rfl,by lia,dn2,fun k k' a1 a2 a3 a4=>by rw[show k=k' by lia]⟩ ?_ ?_) ?_)
    ·rintro j x st3 hj1 hj ⟨r3,q,rfl,hqj,dn3,eq3⟩;dsimp only;refine ad (d8 c d r3 (by lia) (by lia) ?_);dsimp only;by_cases hs:ky N (arrOf st3) (lo+j)<ky N (arrOf st3) (lo+j-1)
     ·rw[X7 hs,if_pos rfl];by_cases hq0:q>0
      ·rw[if_pos hq0];refine ad (fu (ae ⟨r3.rev (by lia) (by rw[r3.size];lia),0,rfl,by lia,?_,fun k k' a1 a2 a3 a4=>by rw[show k=k' by lia]⟩));have dn4:Dn N (arrOf st3) lo (j+1):=dn3.step (by lia) (by lia);exact dn4.same (by rw[r3.size];lia) eq3
      ·rw[if_neg hq0];exact ae ⟨r3,0,rfl,by lia,dn3.step (by lia) (by lia),fun k k' a1 a2 a3 a4=>by rw[show k=k' by lia]⟩
     ·rw[X9 hs,if_neg (by simp)];refine ad (d8 c d r3 (by lia) (by lia) ?_);dsimp only;by_cases hl:ky N (arrOf st3) (lo+j-1)<ky N (arrOf st3) (lo+j)
      ·rw[X7 hl,if_pos rfl];exact ae ⟨r3,j,q,rfl,hqj,by lia,dn3,eq3⟩
      ·rw[X9 hl,if_neg (by simp)];have ee:ky N (arrOf st3) (lo+j)=ky N (arrOf st3) (lo+j-1):=by lia
       have all:∀k,lo+j-(q+1)<=k->k<lo+(j+1)->ky N (arrOf st3) k=ky N (arrOf st3) (lo+j-1):=fun k a1 a2=>by
        by_cases e:k=lo+j
        ·rw[e];exact ee
        ·exact eq3 _ _ a1 (by lia) (by lia) (by lia)
       exact ae ⟨r3,q+1,rfl,by lia,dn3.step (by lia) (by lia),fun k k' a1 a2 a3 a4=>(all k (by lia) a2).trans (all k' (by lia) a4).symm⟩
    ·rintro x st3 ⟨r3,q,rfl,hqj,dn3,eq3⟩;exact⟨r3,nrem,q,rfl,hqj,W1 _,dn3,eq3⟩
    ·rintro x st3 ⟨r3,m,q,rfl,hqm,hm,dn3,eq3⟩;dsimp only;by_cases hq0:q>0
     ·rw[if_pos hq0];refine ad (fu ?_);have r4:=r3.rev (i:=lo+m-(q+1)) (j:=lo+m) (by lia) (by rw[r3.size];lia);have dn4:=dn3.same (i:=lo+m-(q+1)) (j:=lo+m) (by rw[r3.size];lia) eq3;refine ad (fu ?_);have r5:=(r4).rev (i:=lo) (j:=lo+m) (W1 _) (by rw[(r4).size];lia);have up5:=(dn4).rev (by rw[(r4).size];lia);refine ad (ba (aK (Q:=fun x st'=>CR st1 st' lo/\∃n,x=(none,n)/\1<=n/\n<=nrem/\Up N (arrOf st') lo n)
       (fun j x st'=>CR st1 st' lo/\x=(none,j)/\Up N (arrOf st') lo j) (by lia) ⟨r5,rfl,up5⟩ ?_ ?_) ?_)
      ·rintro j x st6 hj1 hj ⟨r6,rfl,up6⟩;dsimp only;refine ad (d8 c d r6 (by lia) (by lia) ?_);dsimp only;by_cases q:ky N (arrOf st6) (lo+j)<ky N (arrOf st6) (lo+j-1)
       ·rw[X7 q,if_pos rfl];exact ae ⟨r6,j,rfl,by lia,by lia,up6⟩
       ·rw[X9 q,if_neg (by simp)];exact ae ⟨r6,rfl,up6.step (by lia) q⟩
      ·rintro x st6 ⟨r6,rfl,up6⟩;exact⟨r6,nrem,rfl,h1,W1 _,up6⟩
      ·rintro x st6 ⟨r6,m,rfl,m1,m2,up6⟩;exact ae (h m st6 r6 m1 m2 up6)
     ·rw[if_neg hq0];refine ad (fu ?_);have r5:=(r3).rev (i:=lo) (j:=lo+m) (W1 _) (by rw[(r3).size];lia);have up5:=(dn3).rev (by rw[(r3).size];lia);refine ad (ba (aK (Q:=fun x st'=>CR st1 st' lo/\∃n,x=(none,n)/\1<=n/\n<=nrem/\Up N (arrOf st') lo n)
       (fun j x st'=>CR st1 st' lo/\x=(none,j)/\Up N (arrOf st') lo j) (by lia) ⟨r5,rfl,up5⟩ ?_ ?_) ?_)
      ·rintro j x st6 hj1 hj ⟨r6,rfl,up6⟩;dsimp only;refine ad (d8 c d r6 (by lia) (by lia) ?_);dsimp only;by_cases q:ky N (arrOf st6) (lo+j)<ky N (arrOf st6) (lo+j-1)
       ·rw[X7 q,if_pos rfl];exact ae ⟨r6,j,rfl,by lia,by lia,up6⟩
       ·rw[X9 q,if_neg (by simp)];exact ae ⟨r6,rfl,up6.step (by lia) q⟩
      ·rintro x st6 ⟨r6,rfl,up6⟩;exact⟨r6,nrem,rfl,h1,W1 _,up6⟩
      ·rintro x st6 ⟨r6,m,rfl,m1,m2,up6⟩;exact ae (h m st6 r6 m1 m2 up6)
  ·rw[if_neg q2];have e1:n=1:=by lia
   have r2:=CR.refl st1 lo;have dn2:Dn N (arrOf st1) lo (n+1):=by
    refine Dn.step (fun i j hij hj=>?_) n1 (by lia);rw[show i=j by lia];exact W1 _
   refine ad (fr ?_);refine ad (ba (aK (Q:=fun x st'=>CR st1 st' lo/\∃m q,x=(none,m,q)/\q+1<=m/\m<=nrem/\Dn N (arrOf st') lo m/\(∀k k',lo+m-(q+1)<=k->k<lo+m->lo+m-(q+1)<=k'->k'<lo+m->ky N (arrOf st') k=ky N (arrOf st') k'))
    (fun j x st'=>CR st1 st' lo/\∃q,x=(none,j,q)/\q+1<=j/\Dn N (arrOf st') lo j/\(∀k k',lo+j-(q+1)<=k->k<lo+j->lo+j-(q+1)<=k'->k'<lo+j->ky N (arrOf st') k=ky N (arrOf st') k')) (by lia) ⟨r2,0,rfl,by lia,dn2,fun k k' a1 a2 a3 a4=>by rw[show k=k' by lia]⟩ ?_ ?_) ?_)
   ·rintro j x st3 hj1 hj ⟨r3,q,rfl,hqj,dn3,eq3⟩;dsimp only;refine ad (d8 c d r3 (by lia) (by lia) ?_);dsimp only;by_cases hs:ky N (arrOf st3) (lo+j)<ky N (arrOf st3) (lo+j-1)
    ·rw[X7 hs,if_pos rfl];by_cases hq0:q>0
     ·rw[if_pos hq0];refine ad (fu (ae ⟨r3.rev (by lia) (by rw[r3.size];lia),0,rfl,by lia,?_,fun k k' a1 a2 a3 a4=>by rw[show k=k' by lia]⟩));have dn4:Dn N (arrOf st3) lo (j+1):=dn3.step (by lia) (by lia);exact dn4.same (by rw[r3.size];lia) eq3
     ·rw[if_neg hq0];exact ae ⟨r3,0,rfl,by lia,dn3.step (by lia) (by lia),fun k k' a1 a2 a3 a4=>by rw[show k=k' by lia]⟩
    ·rw[X9 hs,if_neg (by simp)];refine ad (d8 c d r3 (by lia) (by lia) ?_);dsimp only;by_cases hl:ky N (arrOf st3) (lo+j-1)<ky N (arrOf st3) (lo+j)
     ·rw[X7 hl,if_pos rfl];exact ae ⟨r3,j,q,rfl,hqj,by lia,dn3,eq3⟩
     ·rw[X9 hl,if_neg (by simp)];have ee:ky N (arrOf st3) (lo+j)=ky N (arrOf st3) (lo+j-1):=by lia
      have all:∀k,lo+j-(q+1)<=k->k<lo+(j+1)->ky N (arrOf st3) k=ky N (arrOf st3) (lo+j-1):=fun k a1 a2=>by
       by_cases e:k=lo+j
       ·rw[e];exact ee
       ·exact eq3 _ _ a1 (by lia) (by lia) (by lia)
      exact ae ⟨r3,q+1,rfl,by lia,dn3.step (by lia) (by lia),fun k k' a1 a2 a3 a4=>(all k (by lia) a2).trans (all k' (by lia) a4).symm⟩
   ·rintro x st3 ⟨r3,q,rfl,hqj,dn3,eq3⟩;exact⟨r3,nrem,q,rfl,hqj,W1 _,dn3,eq3⟩
   ·rintro x st3 ⟨r3,m,q,rfl,hqm,hm,dn3,eq3⟩;dsimp only;by_cases hq0:q>0
    ·rw[if_pos hq0];refine ad (fu ?_);have r4:=r3.rev (i:=lo+m-(q+1)) (j:=lo+m) (by lia) (by rw[r3.size];lia);have dn4:=dn3.same (i:=lo+m-(q+1)) (j:=lo+m) (by rw[r3.size];lia) eq3;refine ad (fu ?_);have r5:=(r4).rev (i:=lo) (j:=lo+m) (W1 _) (by rw[(r4).size];lia);have up5:=(dn4).rev (by rw[(r4).size];lia);refine ad (ba (aK (Q:=fun x st'=>CR st1 st' lo/\∃n,x=(none,n)/\1<=n/\n<=nrem/\Up N (arrOf st') lo n)
      (fun j x st'=>CR st1 st' lo/\x=(none,j)/\Up N (arrOf st') lo j) (by lia) ⟨r5,rfl,up5⟩ ?_ ?_) ?_)
     ·rintro j x st6 hj1 hj ⟨r6,rfl,up6⟩;dsimp only;refine ad (d8 c d r6 (by lia) (by lia) ?_);dsimp only;by_cases q:ky N (arrOf st6) (lo+j)<ky N (arrOf st6) (lo+j-1)
      ·rw[X7 q,if_pos rfl];exact ae ⟨r6,j,rfl,by lia,by lia,up6⟩
      ·rw[X9 q,if_neg (by simp)];exact ae ⟨r6,rfl,up6.step (by lia) q⟩
     ·rintro x st6 ⟨r6,rfl,up6⟩;exact⟨r6,nrem,rfl,h1,W1 _,up6⟩
     ·rintro x st6 ⟨r6,m,rfl,m1,m2,up6⟩;exact ae (h m st6 r6 m1 m2 up6)
    ·rw[if_neg hq0];refine ad (fu ?_);have r5:=(r3).rev (i:=lo) (j:=lo+m) (W1 _) (by rw[(r3).size];lia);have up5:=(dn3).rev (by rw[(r3).size];lia);refine ad (ba (aK (Q:=fun x st'=>CR st1 st' lo/\∃n,x=(none,n)/\1<=n/\n<=nrem/\Up N (arrOf st') lo n)
      (fun j x st'=>CR st1 st' lo/\x=(none,j)/\Up N (arrOf st') lo j) (by lia) ⟨r5,rfl,up5⟩ ?_ ?_) ?_)
     ·rintro j x st6 hj1 hj ⟨r6,rfl,up6⟩;dsimp only;refine ad (d8 c d r6 (by lia) (by lia) ?_);dsimp only;by_cases q:ky N (arrOf st6) (lo+j)<ky N (arrOf st6) (lo+j-1)
      ·rw[X7 q,if_pos rfl];exact ae ⟨r6,j,rfl,by lia,by lia,up6⟩
      ·rw[X9 q,if_neg (by simp)];exact ae ⟨r6,rfl,up6.step (by lia) q⟩
     ·rintro x st6 ⟨r6,rfl,up6⟩;exact⟨r6,nrem,rfl,h1,W1 _,up6⟩
     ·rintro x st6 ⟨r6,m,rfl,m1,m2,up6⟩;exact ae (h m st6 r6 m1 m2 up6)
end
end SBig
namespace SBig
open PySem PyProof.Rows
section
variable{prog:Program}{w:World}{A:Around}{SI:Shared->Prop}{α β:Type}
theorem CR.move{st0 st:SortSt}{lo k l:Nat}(h:CR st0 st lo)(hk:lo+k<(arrOf st).size)(hl:l<=k):CR st0 (setArr st (bubble (arrOf st) (lo+k) (lo+k-(lo+l)))) lo:=
 ⟨h.kind,h.pend,h.fail,(bubble_perm _ _ _).trans h.perm,fun i hi=>by
  show(bubble (arrOf st) (lo+k) (lo+k-(lo+l)))[i]? =_;rw[getElem?_bubble hk _ (by lia),if_neg (by lia),if_neg (by lia)];exact h.same i hi⟩
theorem rq{N:Keyed->Nat}{a:Array Keyed}{src d:Nat}(hs:src<a.size)(hd:d<=src)(k:Nat):ky N (bubble a src d) k=if k=src-d then ky N a src else if src-d<k/\k<=src then ky N a (k-1)else ky N a k:=by
 by_cases h1:k=src-d
 ·rw[if_pos h1];exact oF (by rw[getElem?_bubble hs d hd,if_pos h1])
 ·rw[if_neg h1];by_cases h2:src-d<k/\k<=src
  ·rw[if_pos h2];exact oF (by rw[getElem?_bubble hs d hd,if_neg h1,if_pos h2])
  ·rw[if_neg h2];exact oF (by rw[getElem?_bubble hs d hd,if_neg h1,if_neg h2])
theorem sL{D:Keyed->Prop}{N:Keyed->Nat}{lo n ok:Nat}{Q:Bool->SortSt->Prop}{st0 st:SortSt}(c:Cmp prog w A SI (kindOf st0) D N)(d:∀x∈(arrOf st0).toList,D x)(r:CR st0 st lo)(h1:1<=ok)(hn:ok<=n)(hs:lo+n<=(arrOf st0).size)(up:Up N (arrOf st) lo ok)
 (h:∀st',CR st0 st' lo->Up N (arrOf st') lo n->Q true st'):(SC prog w A SI) (binarySort' lo n ok) Q st:=by
 rw[binarySort'_eq];rw[show max ok 1=ok by lia];refine ad (ba (aK (Q:=fun x st'=>x=(none,())/\CR st0 st' lo/\Up N (arrOf st') lo n) (fun k x st'=>x=(none,())/\CR st0 st' lo/\Up N (arrOf st') lo k) hn ⟨rfl,r,up⟩ ?_ ?_) ?_)
 ·rintro k x st1 hk1 hk ⟨rfl,r1,up1⟩;dsimp only;have pv:∀i,i<k->lo+i<(arrOf st0).size:=fun i hi=>by lia
  refine ad (ba (aK (Q:=fun x st'=>st'=st1/\∃l,x.1=none/\x.2.1=l/\l<=k/\(∀i,i<l->ky N (arrOf st1) (lo+i)<=ky N (arrOf st1) (lo+k))/\(∀i,l<=i->i<k->ky N (arrOf st1) (lo+k)<ky N (arrOf st1) (lo+i)))
   (fun j x st'=>st'=st1/\∃l q,x=(none,l,q)/\l<=q/\q<=k/\q-l<=k-j/\(∀i,i<l->ky N (arrOf st1) (lo+i)<=ky N (arrOf st1) (lo+k))/\(∀i,q<=i->i<k->ky N (arrOf st1) (lo+k)<ky N (arrOf st1) (lo+i))) (zero_le _)
   ⟨rfl,0,k,rfl,by lia,by lia,by lia,fun i hi=>absurd hi (not_lt_zero _),fun i h1 h2=>by lia⟩ ?_ ?_) ?_)
  ·rintro j x st2 _ hj ⟨rfl,l,q,rfl,hlq,hqk,hm,p1,p2⟩;dsimp only;by_cases hge:l>=q
   ·rw[if_pos hge];have e:l=q:=by lia
    subst e;exact ae ⟨rfl,l,rfl,rfl,hqk,p1,p2⟩
   ·rw[if_neg hge];refine ad (d8 c d r1 (by lia) (by lia) ?_);dsimp only;by_cases hlt:ky N (arrOf st2) (lo+k)<ky N (arrOf st2) (lo+(l+q)/2)
    ·rw[X7 hlt,if_pos rfl];exact ae ⟨rfl,l,_,rfl,by lia,by lia,by lia,p1,fun i a1 a2=>X8 hlt (up1 _ _ a1 a2)⟩
    ·rw[X9 hlt,if_neg (by simp)];exact ae ⟨rfl,_,q,rfl,by lia,by lia,by lia,fun i a1=>le_trans (up1 i ((l+q)/2) (by lia) (by lia)) (by lia),p2⟩
  ·rintro x st2 ⟨rfl,l,q,rfl,hlq,hqk,hm,p1,p2⟩;have e:l=q:=by lia
   subst e;exact⟨rfl,l,rfl,rfl,hqk,p1,p2⟩
  ·rintro⟨x1,x2,x3⟩ st2 ⟨e2,l,e3,e4,hlk,p1,p2⟩;subst e2;dsimp only at e3 e4;subst e3 e4;dsimp only;rw[moveDown'_eq];refine ad (bz (ae ⟨rfl,r1.move (by rw[r1.size];lia) hlk,?_⟩));have hsz:lo+k<(arrOf st2).size:=by rw[r1.size];lia
   intro i j hij hj;show ky N (bubble (arrOf st2) (lo+k) (lo+k-(lo+x2))) (lo+i)<=ky N (bubble (arrOf st2) (lo+k) (lo+k-(lo+x2))) (lo+j);rw[rq hsz (by lia),rq hsz (by lia)];have ed:lo+k-(lo+k-(lo+x2))=lo+x2:=by lia
   rw[ed];by_cases a1:lo+i=lo+x2
   ·rw[if_pos a1];by_cases a2:lo+j=lo+x2
    ·rw[if_pos a2];exact W1 _
    ·rw[if_neg a2,if_pos (by lia)];have:=p2 (j-1) (by lia) (by lia);rw[show lo+(j-1)=lo+j-1 by lia]at this
     lia
   ·rw[if_neg a1];by_cases a3:lo+x2<lo+i/\lo+i<=lo+k
    ·rw[if_pos a3,if_neg (by lia),if_pos (by lia)];have:=up1 (i-1) (j-1) (by lia) (by lia);rw[show lo+(j-1)=lo+j-1 by lia,show lo+(i-1)=lo+i-1 by lia]at this;exact this
    ·rw[if_neg a3];by_cases a4:lo+j=lo+x2
     ·rw[if_pos a4];exact p1 i (by lia)
     ·rw[if_neg a4];by_cases a5:lo+x2<lo+j/\lo+j<=lo+k
      ·rw[if_pos a5];have:=up1 i (j-1) (by lia) (by lia);rw[show lo+(j-1)=lo+j-1 by lia]at this;exact this
      ·rw[if_neg a5];exact up1 i j hij (by lia)
 ·rintro x st1 ⟨rfl,r1,up1⟩;exact⟨rfl,r1,up1⟩
 ·rintro x st1 ⟨rfl,r1,up1⟩;exact ae (h st1 r1 up1)
end
end SBig
namespace SBig
open PySem PyProof.Rows
noncomputable def cE:List (List Keyed×Nat)->Nat->List (Nat×Nat×Nat)
 |[],_=>[]
 |(r,p)::t,o=>(o,r.length,p)::cE t (o+r.length)
noncomputable def aP(rp:List (List Keyed×Nat)):List Keyed:=(rp.map (·.1)).flatten
theorem aY(a b:List (List Keyed×Nat)):aP (a++b)=aP a++aP b:=by simp[aP]
theorem aw(a:List Keyed×Nat)(b:List (List Keyed×Nat)):aP (a::b)=a.1++aP b:=by simp[aP]
theorem cc:∀(a b:List (List Keyed×Nat)) (o:Nat),cE (a++b) o=cE a o++cE b (o+(aP a).length)
 |[],b,o=>by simp[cE,aP]
 |(r,p)::t,b,o=>by
  rw[cons_append,cE,cE,cc t b,aw,Y9,cons_append,Nat.add_assoc]
theorem cS:∀(a:List (List Keyed×Nat)) (o:Nat),(cE a o).length=a.length
 |[],_=>rfl
 |(r,p)::t,o=>by rw[cE,V1,V1,cS t]
structure RI (N:Keyed->Nat) (st0 st:SortSt) (rp:List (List Keyed×Nat)) (rest:List Keyed):Prop where
 kind:kindOf st=kindOf st0
 fail:failedOf st=none
 perm:(arrOf st).toList.Perm (arrOf st0).toList
 arr:(arrOf st).toList=aP rp++rest
 pend:(pendingOf st).toList=cE rp 0
 runs:∀r∈rp,r.1≠[]/\Srt N r.1
theorem RI.size{N:Keyed->Nat}{st0 st:SortSt}{rp:List (List Keyed×Nat)}{rest:List Keyed}(h:RI N st0 st rp rest):(arrOf st).size=(arrOf st0).size:=by
 rw[<-X2,<-X2,h.perm.length_eq]
theorem RI.psize{N:Keyed->Nat}{st0 st:SortSt}{rp:List (List Keyed×Nat)}{rest:List Keyed}(h:RI N st0 st rp rest):(pendingOf st).size=rp.length:=by
 rw[<-X2,h.pend,cS]
section
variable{prog:Program}{w:World}{A:Around}{SI:Shared->Prop}{α β:Type}
theorem fv{D:Keyed->Prop}{N:Keyed->Nat}{st0 st:SortSt}{a b:List (List Keyed×Nat)}{X Y:List Keyed}{p p2 i:Nat}{rest:List Keyed}{Q:Bool->SortSt->Prop}(c:Cmp prog w A SI (kindOf st0) D N)(d:∀x∈(arrOf st0).toList,D x)
 (h:RI N st0 st (a++(X,p)::(Y,p2)::b) rest) (hi:i=a.length) (k:∀Z st',RI N st0 st' (a++(Z,p)::b) rest->Z.length=X.length+Y.length->Q true st'):(SC prog w A SI) (mergeAt' i) Q st:=by
 subst hi;have e:=h.arr;rw[aY,aw,aw]at e;have e':(arrOf st).toList=aP a++X++Y++(aP b++rest):=by rw[e];simp
 have dd:∀x∈(arrOf st).toList,D x:=fun x hx=>d x (h.perm.mem_iff.mp hx)
 have pe:=h.pend;rw[cc,cE,cE,zero_add]at pe;have pl:(cE a 0).length=a.length:=cS a 0;have q1:(pendingOf st)[a.length]? =some ((aP a).length,X.length,p):=by
  have:(pendingOf st).toList[a.length]? =some ((aP a).length,X.length,p):=by
   rw[pe,getElem?_append_right (by lia),pl,sub_self];rfl
  simpa using this
 have q2:(pendingOf st)[a.length+1]? =some ((aP a).length+X.length,Y.length,p2):=by
  have:(pendingOf st).toList[a.length+1]? =some ((aP a).length+X.length,Y.length,p2):=by
   rw[pe,getElem?_append_right (by lia),pl,add_sub_cancel_left];rfl
  simpa using this
 have hX:=h.runs (X,p) (by simp);have hY:=h.runs (Y,p2) (by simp);refine qA (by rw[h.kind];exact c) e' hX.2 hY.2 hX.1 hY.1 (fun x hx=>dd x (by rw[e'];simp[hx])) (fun x hx=>dd x (by rw[e'];simp[hx])) q1 q2 h.fail fun Z st' hZ hp ea hk hf hpe=>?_
 have zl:Z.length=X.length+Y.length:=by rw[hp.length_eq,Y9]
 refine k Z st' ⟨hk.trans h.kind,hf,?_,?_,?_,fun r hr=>?_⟩ zl
 ·refine List.Perm.trans ?_ h.perm;rw[ea,e'];rw[show aP a++X++Y++(aP b++rest)=aP a++(X++Y) ++(aP b++rest) by simp];exact List.Perm.append_right _ (List.Perm.append_left _ hp)
 ·rw[ea,aY,aw];simp
 ·rw[hpe,Array.toList_eraseIdxIfInBounds,Array.toList_setIfInBounds,pe,cc,cE,zero_add];rw[List.set_append_right _ _ (by lia),pl,sub_self,List.set_cons_zero];rw[List.eraseIdx_append_of_length_le (by lia),pl,add_sub_cancel_left,List.eraseIdx_cons_succ,List.eraseIdx_cons_zero];rw[zl,Nat.add_assoc]
 ·rcases mem_append.mp hr with hr|hr
  ·exact h.runs r (mem_append_left _ hr)
  ·rcases mem_cons.mp hr with rfl|hr
   ·refine⟨fun q=>?_,hZ⟩;have hx:=length_pos_iff.mpr hX.1;dsimp only at q hx;rw[q,length_nil]at zl
    lia
   ·exact h.runs r (by simp[hr])
theorem sM{N:Keyed->Nat}{a:Array Keyed}{lo n:Nat}(h:Up N a lo n)(hn:lo+n<=a.size):Srt N ((a.toList.drop lo).take n):=by
 refine List.pairwise_iff_getElem.mpr fun i j hi hj hij=>?_
 have hj':j<n:=by rw[length_take]at hj;lia
 have g:∀(i:Nat) (hi:i<((a.toList.drop lo).take n).length),i<n->N ((a.toList.drop lo).take n)[i]=ky N a (lo+i):=fun i hi hin=>by
  refine(vf ?_).symm;have:((a.toList.drop lo).take n)[i]? =some ((a.toList.drop lo).take n)[i]:=Y4 hi;rw[getElem?_take,if_pos hin,getElem?_drop]at this;simpa using this
 rw[g i hi (by lia),g j hj hj'];exact h i j (by lia) hj'
theorem CR.toRI{N:Keyed->Nat}{st0 st1 st2:SortSt}{rp:List (List Keyed×Nat)}{rest:List Keyed}{lo n:Nat}(h:RI N st0 st1 rp rest)(r:CR st1 st2 lo)(hlo:(aP rp).length=lo)(up:Up N (arrOf st2) lo n)(hn:lo+n<=(arrOf st1).size):
 ∃R rest',RI N st0 st2 rp (R++rest')/\R.length=n/\Srt N R:=by
 have hsz:(arrOf st2).size=(arrOf st1).size:=r.size;refine⟨((arrOf st2).toList.drop lo).take n,(arrOf st2).toList.drop (lo+n),⟨r.kind.trans h.kind,r.fail.trans h.fail,(Array.perm_iff_toList_perm.mp r.perm).trans h.perm,?_,by rw[r.pend];exact h.pend,h.runs⟩,?_,sM up (by lia)⟩
 ·have e:(arrOf st2).toList.take lo=aP rp:=by
   have e1:(arrOf st2).toList.take lo=(arrOf st1).toList.take lo:=by
    apply ext_getElem?;intro i;rw[getElem?_take,getElem?_take]
    split
    ·rename_i hi
     have:=r.same i hi;simpa using this
    ·rfl
   rw[e1,h.arr,List.take_append_of_le_length (by lia),W7 (by lia)]
  rw[<-e];have t1:=take_append_drop lo (arrOf st2).toList;have t2:=take_append_drop n ((arrOf st2).toList.drop lo);rw[drop_drop]at t2;rw[t2,t1]
 ·rw[length_take,length_drop,X2]
  lia
theorem jE{α:Type}(f:α->α):∀(l:List α) (x:α),(l++[x]).modify l.length f=l++[f x]
 |[],x=>rfl
 | y::l,x=>by
   rw[cons_append,V1,List.modify_succ_cons,jE f l x,cons_append]
theorem eY{α:Type}(l:List α):l=[]\/∃a x,l=a++[x]:=by
 by_cases h:l=[]
 ·exact .inl h
 ·exact .inr ⟨l.dropLast,l.getLast h,(List.dropLast_concat_getLast h).symm⟩
theorem mr{α:Type}(l:List α)(h:1<l.length):∃a x y,l=a++x::y::[]:=by
 rcases eY l with rfl|⟨a,y,rfl⟩
 ·simp at h
 ·rcases eY a with rfl|⟨b,x,rfl⟩
  ·simp at h
  ·exact⟨b,x,y,by simp⟩
theorem RI.pushed{N:Keyed->Nat}{st0 st:SortSt}{rp:List (List Keyed×Nat)}{R rest:List Keyed}{lo m:Nat}(h:RI N st0 st rp (R++rest))(hlo:(aP rp).length=lo)(hm:R.length=m)(h1:1<=m)(hR:Srt N R):RI N st0 (setPending st ((pendingOf st).push (lo,m,0))) (rp++[(R,0)]) rest:=by
 refine⟨h.kind,h.fail,h.perm,?_,?_,fun r hr=>?_⟩
 ·show(arrOf st).toList=_;rw[h.arr,aY,aw];simp[aP]
 ·show((pendingOf st).push (lo,m,0)).toList=_;rw[toList_push,h.pend,cc,cE,cE,zero_add,hlo,hm]
 ·rcases mem_append.mp hr with hr|hr
  ·exact h.runs r hr
  ·rw[mem_singleton.mp hr];exact⟨fun q=>by dsimp only at q;rw[q]at hm;simp at hm;lia,hR⟩
theorem RI.powered{N:Keyed->Nat}{st0 st:SortSt}{rp:List (List Keyed×Nat)}{rest:List Keyed}{X:List Keyed}{p:Nat}(pw:Nat)(h:RI N st0 st (rp++[(X,p)]) rest):RI N st0 (setPending st ((pendingOf st).modify ((pendingOf st).size-1) fun x=>(x.fst,x.2.fst,pw))) (rp++[(X,pw)]) rest:=by
 refine⟨h.kind,h.fail,h.perm,?_,?_,fun r hr=>?_⟩
 ·show(arrOf st).toList=_;rw[h.arr,aY,aY,aw,aw]
 ·show((pendingOf st).modify ((pendingOf st).size-1) _).toList=_;rw[Array.toList_modify,h.psize,h.pend,cc,cc];rw[show(rp++[(X,p)]).length-1=(cE rp 0).length by rw[cS];simp];show List.modify (cE rp 0++[_]) _ _=_;rw[jE];rfl
 ·rcases mem_append.mp hr with hr|hr
  ·exact h.runs r (mem_append_left _ hr)
  ·rw[mem_singleton.mp hr];exact h.runs (X,p) (by simp)
theorem sc_sortRuns{D:Keyed->Prop}{N:Keyed->Nat}{Q:Unit->SortSt->Prop}{st:SortSt}(c:Cmp prog w A SI (kindOf st) D N)(d:∀x∈(arrOf st).toList,D x)(h2:1<=(arrOf st).size)(hp:pendingOf st= #[])(hf:failedOf st=none)
 (h:∀st',(arrOf st').toList.Perm (arrOf st).toList->Srt N (arrOf st').toList->failedOf st'=none->Q () st'):(SC prog w A SI) sortRuns' Q st:=by
 rw[sortRuns'_eq];refine ad (dJ ?_);dsimp only;have ri0:RI N st st [] (arrOf st).toList:=⟨rfl,hf,List.Perm.refl _,rfl,by rw[hp];rfl,fun _ h=>(nomatch h)⟩
 refine ad (ba (aK (Q:=fun x st'=>∃rp lo,x=(none,lo)/\RI N st st' rp [])
  (fun j x st'=>∃rp rest lo,x=(none,lo)/\RI N st st' rp rest/\(aP rp).length=lo/\j<=lo/\lo<=(arrOf st).size) (zero_le _) ⟨[],_,0,rfl,ri0,rfl,W1 _,zero_le _⟩ ?_ ?_) ?_)
 ·rintro j x st1 _ hj ⟨rp,rest,lo,rfl,ri,hlo,hjl,hls⟩;dsimp only;have s1:=ri.size;by_cases hge:lo>=(arrOf st).size
  ·rw[if_pos hge];have er:rest=[]:=by
    have:=congrArg List.length ri.arr;rw[Y9,X2,s1,hlo]at this;exact length_eq_zero_iff.mp (by lia)
   subst er;exact ae ⟨rp,lo,rfl,ri⟩
  rw[if_neg hge];have d1:∀x∈(arrOf st1).toList,D x:=fun x hx=>d x (ri.perm.mem_iff.mp hx)
  have c1:Cmp prog w A SI (kindOf st1) D N:=by rw[ri.kind];exact c
  refine ad (oG c1 d1 (by lia) (by lia) fun n st2 r2 n1 n2 up2=>?_);dsimp only;by_cases hmin:n<minRun' (arrOf st).size (arrOf st).size 0
  ·rw[if_pos hmin];refine ad (fr ?_);refine ad (sL c1 d1 r2 n1 (by lia) (by lia) up2 fun st3 r3 up3=>?_);rw[if_neg (by simp)];obtain⟨R,rest',ri3,hR1,hR2⟩:=CR.toRI ri r3 hlo up3 (by lia);refine ad (dJ ?_);rcases eY rp with e0|⟨a0,⟨X0,p0⟩,e0⟩
   ·subst e0;have hb:(pendingOf st3).back? =none:=by
     have:=ri3.psize;rw[length_nil]at this;simp[Array.back?,this]
    rw[hb];dsimp only;exact ad (bz (ae ⟨_,_,_,rfl,ri3.pushed hlo hR1 (by lia) hR2,by rw[aY,Y9,hlo,aw];simp[aP,hR1],by lia,by lia⟩))
   ·have hb:(pendingOf st3).back? =some ((aP a0).length,X0.length,p0):=by
     rw[<-Array.getLast?_toList,ri3.pend,e0,cc,cE,cE,zero_add];simp
    rw[hb];dsimp only;refine ad (ba (aK (Q:=fun x st'=>x=(none,())/\∃rp',RI N st st' rp' (R++rest')/\rp'≠[]/\(aP rp').length=lo) (fun j x st'=>x=(none,())/\∃rp',RI N st st' rp' (R++rest')/\rp'≠[]/\(aP rp').length=lo) (zero_le _) ⟨rfl,rp,ri3,by rw[e0];simp,hlo⟩ ?_ ?_) ?_)
    ·rintro j5 x st5 _ _ ⟨rfl,rp5,ri5,ne5,lo5⟩;refine ad (dJ ?_);by_cases hz:(pendingOf st5).size>1
     ·obtain⟨a5,⟨X5,p5⟩,⟨Y5,q5⟩,rfl⟩:=mr rp5 (by rw[<-ri5.psize];exact hz);have hl5:(pendingOf st5).size-2=a5.length:=by rw[ri5.psize];simp
      have hg5:(pendingOf st5)[(pendingOf st5).size-2]? =some ((aP a5).length,X5.length,p5):=by
       have:(pendingOf st5).toList[a5.length]? =some ((aP a5).length,X5.length,p5):=by
        rw[ri5.pend,cc,getElem?_append_right (by rw[cS];lia),cS,sub_self,zero_add];rfl
       rw[hl5];simpa using this
      rw[if_pos hz,hg5];dsimp only
      split
      ·exact ae ⟨rfl,_,ri5,ne5,lo5⟩
      ·refine ad (fv c d ri5 hl5 fun Z5 st6 ri6 zl6=>?_);rw[if_neg (by simp)];refine ae ⟨rfl,_,ri6,by simp,?_⟩;rw[<-lo5,aY,aY,aw,aw,aw];simp[aP,zl6]
       all_goals lia
     ·rw[if_neg hz];exact ae ⟨rfl,_,ri5,ne5,lo5⟩
    ·rintro x st5 ⟨rfl,rp5,ri5,ne5,lo5⟩;exact⟨rfl,rp5,ri5,ne5,lo5⟩
    ·rintro x st5 ⟨rfl,rp5,ri5,ne5,lo5⟩;dsimp only;obtain⟨a5,⟨X5,p5⟩,rfl⟩:=(eY rp5).resolve_left ne5;refine ad (bz (ad (bz (ae ?_))));have lo6:∀pw:Nat,(aP (a5++[(X5,pw)])).length=lo:=fun pw=>by
      rw[<-lo5,aY,aY,aw,aw]
     exact⟨_,_,_,rfl,(ri5.powered _).pushed (lo6 _) hR1 (by lia) hR2,by rw[aY,Y9,lo6,aw];simp[aP,hR1],by lia,by lia⟩
  ·rw[if_neg hmin];obtain⟨R,rest',ri3,hR1,hR2⟩:=CR.toRI ri r2 hlo up2 (by lia);obtain⟨st3,e3⟩:∃st3,st3=st2:=⟨_,rfl⟩
   subst e3;refine ad (dJ ?_);rcases eY rp with e0|⟨a0,⟨X0,p0⟩,e0⟩
   ·subst e0;have hb:(pendingOf st3).back? =none:=by
     have:=ri3.psize;rw[length_nil]at this;simp[Array.back?,this]
    rw[hb];dsimp only;exact ad (bz (ae ⟨_,_,_,rfl,ri3.pushed hlo hR1 (by lia) hR2,by rw[aY,Y9,hlo,aw];simp[aP,hR1],by lia,by lia⟩))
   ·have hb:(pendingOf st3).back? =some ((aP a0).length,X0.length,p0):=by
     rw[<-Array.getLast?_toList,ri3.pend,e0,cc,cE,cE,zero_add];simp
    rw[hb];dsimp only;refine ad (ba (aK (Q:=fun x st'=>x=(none,())/\∃rp',RI N st st' rp' (R++rest')/\rp'≠[]/\(aP rp').length=lo) (fun j x st'=>x=(none,())/\∃rp',RI N st st' rp' (R++rest')/\rp'≠[]/\(aP rp').length=lo) (zero_le _) ⟨rfl,rp,ri3,by rw[e0];simp,hlo⟩ ?_ ?_) ?_)
    ·rintro j5 x st5 _ _ ⟨rfl,rp5,ri5,ne5,lo5⟩;refine ad (dJ ?_);by_cases hz:(pendingOf st5).size>1
     ·obtain⟨a5,⟨X5,p5⟩,⟨Y5,q5⟩,rfl⟩:=mr rp5 (by rw[<-ri5.psize];exact hz);have hl5:(pendingOf st5).size-2=a5.length:=by rw[ri5.psize];simp
      have hg5:(pendingOf st5)[(pendingOf st5).size-2]? =some ((aP a5).length,X5.length,p5):=by
       have:(pendingOf st5).toList[a5.length]? =some ((aP a5).length,X5.length,p5):=by
        rw[ri5.pend,cc,getElem?_append_right (by rw[cS];lia),cS,sub_self,zero_add];rfl
       rw[hl5];simpa using this
      rw[if_pos hz,hg5];dsimp only
      split
      ·exact ae ⟨rfl,_,ri5,ne5,lo5⟩
      ·refine ad (fv c d ri5 hl5 fun Z5 st6 ri6 zl6=>?_);rw[if_neg (by simp)];refine ae ⟨rfl,_,ri6,by simp,?_⟩;rw[<-lo5,aY,aY,aw,aw,aw];simp[aP,zl6]
       all_goals lia
     ·rw[if_neg hz];exact ae ⟨rfl,_,ri5,ne5,lo5⟩
    ·rintro x st5 ⟨rfl,rp5,ri5,ne5,lo5⟩;exact⟨rfl,rp5,ri5,ne5,lo5⟩
    ·rintro x st5 ⟨rfl,rp5,ri5,ne5,lo5⟩;dsimp only;obtain⟨a5,⟨X5,p5⟩,rfl⟩:=(eY rp5).resolve_left ne5;refine ad (bz (ad (bz (ae ?_))));have lo6:∀pw:Nat,(aP (a5++[(X5,pw)])).length=lo:=fun pw=>by
      rw[<-lo5,aY,aY,aw,aw]
     exact⟨_,_,_,rfl,(ri5.powered _).pushed (lo6 _) hR1 (by lia) hR2,by rw[aY,Y9,lo6,aw];simp[aP,hR1],by lia,by lia⟩
 ·rintro x st1 ⟨rp,rest,lo,rfl,ri,hlo,hjl,hls⟩;have s1:=ri.size;have er:rest=[]:=by
   have:=congrArg List.length ri.arr;rw[Y9,X2,s1,hlo]at this;exact length_eq_zero_iff.mp (by lia)
  subst er;exact⟨rp,lo,rfl,ri⟩
 ·rintro x st1 ⟨rp,lo,rfl,ri⟩;dsimp only;have few:∀(rp:List (List Keyed×Nat)),(∀r∈rp,r.1≠[]/\Srt N r.1)->rp.length<=(aP rp).length:=by
   intro rp
   induction rp with
   | nil=>intro _;exact zero_le _
   | cons r t ih=>
     intro hr;rw[aw,V1,Y9];have:=length_pos_iff.mpr (hr r (by simp)).1;have:=ih fun q hq=>hr q (by simp[hq])
     lia
  have l1:rp.length<=(arrOf st).size:=by
   have a1:=few rp ri.runs;have a2:=congrArg List.length ri.arr;rw[append_nil,X2,ri.size]at a2
   lia
  refine ad (ba (aK (Q:=fun x st'=>x=(none,())/\∃rp,RI N st st' rp []/\rp.length<=1) (fun j x st'=>x=(none,())/\∃rp,RI N st st' rp []/\rp.length<=max 1 ((arrOf st).size-j)) (zero_le _) ⟨rfl,rp,ri,by lia⟩ ?_ ?_) ?_)
  ·rintro j x st2 _ hj ⟨rfl,rp,ri,hl⟩;refine ad (dJ ?_);by_cases hz:(pendingOf st2).size<=1
   ·rw[if_pos hz];exact ae ⟨rfl,rp,ri,by rw[<-ri.psize];exact hz⟩
   rw[if_neg hz];have hz2:1<rp.length:=by rw[<-ri.psize];lia
   have e2:(pendingOf st2).size=rp.length:=ri.psize
   generalize hi0:(if Option.any _ _=true then(pendingOf st2).size-2-1 else(pendingOf st2).size-2)=i
   have hi:i+1<rp.length:=by
    have pick:∀(c:Prop) [Decidable c] (n:Nat),2<=n->(if c then n-2-1 else n-2) +1<n:=fun c _ n hn=>by split<;> lia
    rw[<-hi0,<-e2];exact pick _ _ (by lia)
   clear hi0;obtain⟨a,X,p,Y,q,b,rfl,hl2⟩:∃a X p Y q b,rp=a++(X,p)::(Y,q)::b/\i=a.length:=by
    refine⟨rp.take i,rp[i].1,rp[i].2,rp[i+1].1,rp[i+1].2,rp.drop (i+2),?_,by rw[length_take];lia⟩;have t1:=(take_append_drop i rp).symm;rw[List.drop_eq_getElem_cons (by lia),List.drop_eq_getElem_cons (by lia)]at t1;exact t1
   refine ad (fv c d ri hl2 fun Z st3 ri3 zl=>?_);rw[if_neg (by simp)];refine ae ⟨rfl,_,ri3,?_⟩;simp only[Y9,V1]at hl hi ⊢
   lia
  ·rintro x st2 ⟨rfl,rp,ri,hl⟩;exact⟨rfl,rp,ri,by lia⟩
  ·rintro x st2 ⟨rfl,rp,ri,hl⟩;refine ae (h st2 ri.perm ?_ ri.fail);rw[ri.arr,append_nil]
   match rp,hl,ri.runs with
   |[],_,_=>exact List.Pairwise.nil
   |[r],_,hr=>
    rw[aw];simp only[aP,map_nil,List.flatten_nil,append_nil];exact(hr r (by simp)).2
end
end SBig
namespace STab
open PySem PySem.SetTable
theorem oH:∀k:Nat,∃q,5^(2^k)=1+2^(k+2)*(2*q+1)
 | 0=>⟨0,rfl⟩
 | k+1=>by
   obtain⟨q,e⟩:=oH k;refine⟨q+2^k*(2*q+1)*(2*q+1),?_⟩;rw[pow_succ 2 k,Nat.pow_mul,e]
   generalize hr:2*q+1=r
   have h2:2^(k+2)=4*2^k:=by rw[pow_add];lia
   have h3:2^(k+1+2)=8*2^k:=by rw[show k+1+2=k+3 by lia,pow_add];lia
   rw[h2,h3]
   generalize 2^k=p
   have e1:2*(q+p*r*r) +1=r+2*(p*r*r):=by lia
   rw[e1,mul_assoc 4 p r,mul_assoc 8 p]
   generalize hs:p*r=t
   have m1:p*(r+2*(t*r))=t+2*(t*t):=by
    rw[mul_add,hs];have:p*(2*(t*r))=2*(t*t):=by
     rw[Nat.mul_left_comm,Nat.mul_left_comm p t r,hs]
    lia
   rw[m1,Nat.pow_two,add_mul,one_mul,mul_add,Nat.mul_one];have m2:4*t*(4*t)=16*(t*t):=by rw[Nat.mul_mul_mul_comm]
   rw[m2]
   lia
noncomputable def step(M i:Nat):Nat:=(i*5+1)%M
noncomputable def iter(M:Nat):Nat->Nat->Nat
 | 0,i=>i
 | n+1,i=>step M (iter M n i)
noncomputable def geo:Nat->Nat
 | 0=>0
 | n+1=>geo n*5+1
theorem kI:∀n,4*geo n+1=5^n
 | 0=>rfl
 | n+1=>by
   have:=kI n;rw[pow_succ,<-this,geo]
   lia
theorem iH(M:Nat)(i:Nat):∀n,iter M n i%M=(5^n*i+geo n)%M
 | 0=>by simp[iter,geo]
 | n+1=>by
   have ih:=iH M i n;rw[iter,step,Nat.mod_mod,geo,pow_succ];rw[add_mod,Nat.mul_mod,ih,<-Nat.mul_mod,<-add_mod]
   congr 1
   rw[add_mul];have:5^n*5*i=5^n*i*5:=by rw[Nat.mul_right_comm]
   lia
theorem kJ:∀(k i e:Nat),e<2^k->∃n,n<2^k/\iter (2^k) n i%2^k=e
 | 0,i,e,he=>⟨0,by decide,by simp at he;subst he;simp[Nat.mod_one]⟩
 | k+1,i,e,he=>by
   obtain⟨n,hn,hq⟩:=kJ k i (e%2^k) (mod_lt _ (Nat.two_pow_pos k));have low:∀n,iter (2^(k+1)) n i%2^(k+1)%2^k=iter (2^k) n i%2^k:=fun n=>by
    rw[Nat.mod_mod_of_dvd _ (Nat.pow_dvd_pow 2 (le_succ k)),<-Nat.mod_mod_of_dvd _ (Nat.pow_dvd_pow 2 (le_succ k)),iH,Nat.mod_mod_of_dvd _ (Nat.pow_dvd_pow 2 (le_succ k)),iH]
   obtain⟨q,hq5⟩:=oH k;have gk:geo (2^k)=2^k*(2*q+1):=by
    have g:=kI (2^k);rw[hq5,pow_add]at g;have:2^k*2^2*(2*q+1)=4*(2^k*(2*q+1)):=by
     rw[Nat.mul_right_comm];lia
    lia
   have far:∀n,iter (2^(k+1)) (n+2^k) i%2^(k+1)=(iter (2^(k+1)) n i+2^k)%2^(k+1):=fun n=>by
    rw[iH];have e1:5^(n+2^k)*i+geo (n+2^k)=5^(2^k)*(5^n*i+geo n) +geo (2^k):=by
     have g1:=kI (n+2^k);have g2:=kI n;have g3:=kI (2^k);rw[pow_add]at g1 ⊢;rw[<-g3,<-g2]at g1;rw[<-g3,<-g2]
     generalize geo (n+2^k)=x at g1 ⊢
     generalize geo n=y at g1 ⊢
     generalize geo (2^k)=z at g1 ⊢
     have m1:(4*y+1)*(4*z+1)=16*(y*z) +4*y+4*z+1:=by
      rw[add_mul,mul_add];have:4*y*(4*z)=16*(y*z):=by rw[Nat.mul_mul_mul_comm]
      lia
     have hx:x=4*(y*z) +y+z:=by lia
     have m2:(4*y+1)*(4*z+1)*i=(4*z+1)*((4*y+1)*i):=by rw[Nat.mul_comm (4*y+1),mul_assoc]
     rw[m2,mul_add (4*z+1),hx];have m3:(4*z+1)*y=4*(y*z) +y:=by rw[add_mul,mul_assoc,Nat.mul_comm z y];lia
     lia
    rw[e1,hq5,gk];have hM:2^(k+1)=2*2^k:=by rw[pow_succ];lia
    have hM2:2^(k+2)=2*2^(k+1):=by rw[pow_succ];lia
    have e2:=iH (2^(k+1)) i n
    generalize 5^n*i+geo n=v at e2 ⊢
    have e3:(1+2^(k+2)*(2*q+1))*v+2^k*(2*q+1)=v+2^k+2^(k+1)*(2*((2*q+1)*v) +q):=by
     rw[add_mul,one_mul,hM2];have p1:2*2^(k+1)*(2*q+1)*v=2^(k+1)*(2*((2*q+1)*v)):=by
      simp only[mul_assoc,Nat.mul_left_comm]
     have p2:2^k*(2*q+1)=2^k+2^(k+1)*q:=by
      rw[hM,mul_add,Nat.mul_one];have:2^k*(2*q)=2*2^k*q:=by simp only[mul_assoc,Nat.mul_left_comm]
      lia
     rw[p1,p2,mul_add]
     lia
    rw[e3,Nat.add_mul_mod_self_left,add_mod,<-e2,<-add_mod]
   have hM:2^(k+1)=2*2^k:=by rw[pow_succ];lia
   have l1:=low n;rw[hq]at l1;have b1:iter (2^(k+1)) n i%2^(k+1)<2^(k+1):=mod_lt _ (Nat.two_pow_pos _);have p:0<2^k:=Nat.two_pow_pos k;have f1:=far n;rw[add_mod,Nat.mod_eq_of_lt (by lia:2^k<2^(k+1))]at f1;obtain⟨a,ha⟩:∃a,a=iter (2^(k+1)) n i%2^(k+1):=⟨_,rfl⟩
   rw[<-ha]at l1 b1 f1;have key:a=e\/(a+2^k)%2^(k+1)=e:=by
    have d1:=Nat.div_add_mod a (2^k);have d2:=Nat.div_add_mod e (2^k);have q1:a/2^k<2:=Nat.div_lt_of_lt_mul (by lia);have q2:e/2^k<2:=Nat.div_lt_of_lt_mul (by lia);rw[l1]at d1
    generalize a/2^k=u at d1 q1
    generalize e/2^k=v at d2 q2
    generalize e%2^k=r at d1 d2
    have hu:u=0\/u=1:=by lia
    have hv:v=0\/v=1:=by lia
    rcases hu with rfl|rfl<;> rcases hv with rfl|rfl
    ·left;lia
    ·right
     rw[Nat.mod_eq_of_lt (by lia)]
     lia
    ·right
     rw[show a+2^k=e+2^(k+1) by lia,Nat.add_mod_right,Nat.mod_eq_of_lt he]
    ·left;lia
   rcases key with h|h
   ·exact⟨n,by lia,by rw[<-ha,h]⟩
   ·exact⟨n+2^k,by lia,by rw[f1,h]⟩
end STab
namespace STab
open PySem PySem.SetTable
noncomputable def stand(t:SetTable)(h:Int):Nat->Probe
 | 0=>t.probeStart h
 | n+1=>t.advance (stand t h n)
noncomputable def way(t:SetTable)(h:Int)(n:Nat):Nat:=(stand t h n).j
noncomputable def ax(t:SetTable)(h:Int):Nat->Nat×Nat
 | 0=>(bits h%(t.mask+1),bits h)
 | r+1=>leap t.mask (ax t h r).1 (ax t h r).2
theorem jF(t:SetTable)(h:Int):∀n,(stand t h n).dummy=none
 | 0=>rfl
 | n+1=>by
   have:=jF t h n;show(t.advance (stand t h n)).dummy=none;unfold advance
   split
   ·exact this
   ·exact this
theorem xa(m i:Nat):runEnd m i-i<=9:=by
 unfold runEnd
 split<;> lia
theorem sN(t:SetTable)(h:Int):∀r,∃n,n<=10*r/\∀d,d<=runEnd t.mask (ax t h r).1-(ax t h r).1->
 stand t h (n+d)=⟨(ax t h r).1+d,runEnd t.mask (ax t h r).1-(ax t h r).1-d,(ax t h r).1,(ax t h r).2,none⟩:=by
 have along:∀(n i pb:Nat),stand t h n=⟨i,runEnd t.mask i-i,i,pb,none⟩->∀d,d<=runEnd t.mask i-i->stand t h (n+d)=⟨i+d,runEnd t.mask i-i-d,i,pb,none⟩:=by
  intro n i pb e d
  induction d with
  | zero=>intro _;rw[add_zero,e];rfl
  | succ d ih=>
    intro hd;show t.advance (stand t h (n+d))=_;rw[ih (by lia)];unfold advance;rw[if_pos (by dsimp only;lia)];simp only[Probe.mk.injEq,and_true]
    lia
 intro r
 induction r with
 | zero=>exact⟨0,zero_le _,along 0 _ _ rfl⟩
 | succ r ih=>
   obtain⟨n,hn,e⟩:=ih;have hl:=xa t.mask (ax t h r).1;refine⟨n+(runEnd t.mask (ax t h r).1-(ax t h r).1) +1,by lia,along _ _ (ax t h (r+1)).2 ?_⟩;show t.advance (stand t h _)=_;rw[e _ (W1 _)];unfold advance;rw[if_neg (by dsimp only;lia)];rfl
theorem xc(h:Int):bits h<2^64:=by
 unfold bits;have h1:=Int.emod_nonneg h (by decide:(2^64:Int)≠0);have h2:=Int.emod_lt_of_pos h (by decide:(0:Int)<2^64)
 lia
theorem kK(t:SetTable)(h:Int):∀r,(ax t h r).2=bits h/32^r
 | 0=>by simp[ax]
 | r+1=>by
   show(ax t h r).2/32=_;rw[kK t h r,Nat.div_div_eq_div_mul,pow_succ]
theorem vg(t:SetTable)(h:Int):∀r,(ax t h r).1<t.mask+1
 | 0=>mod_lt _ (succ_pos _)
 | r+1=>mod_lt _ (succ_pos _)
theorem ik(t:SetTable)(h:Int):∀m,(ax t h (12+m)).1=iter (t.mask+1) m (ax t h 12).1
 | 0=>rfl
 | m+1=>by
   show((ax t h (12+m)).1*5+1+(ax t h (12+m)).2/32)%(t.mask+1)=step (t.mask+1) (iter (t.mask+1) m (ax t h 12).1);rw[ik t h m,kK,Nat.div_div_eq_div_mul,<-pow_succ];have hz:bits h/32^(12+m+1)=0:=by
    refine Nat.div_eq_of_lt (X8 (xc h) ?_);exact le_trans (by decide:2^64<=32^13) (Nat.pow_le_pow_right (by decide) (by lia))
   rw[hz,add_zero];rfl
theorem kL{t:SetTable}{k:Nat}(hm:t.mask+1=2^k)(h:Int)(e:Nat)(he:e<=t.mask):∃r,r<turns t.mask/\(ax t h r).1=e:=by
 obtain⟨n,hn,hq⟩:=kJ k (ax t h 12).1 e (by lia);refine⟨12+n,by unfold turns;lia,?_⟩;rw[ik,hm];rw[<-hm]at hq;have:iter (t.mask+1) n (ax t h 12).1<t.mask+1:=by rw[<-ik];exact vg t h _
 rw[Nat.mod_eq_of_lt this]at hq;rw[<-hm];exact hq
theorem qC{t:SetTable}{k:Nat}(hm:t.mask+1=2^k)(h:Int)(e:Nat)(he:e<=t.mask):∃n,n+10<=10*turns t.mask/\way t h n=e:=by
 obtain⟨r,hr,hq⟩:=kL hm h e he;obtain⟨n,hn,hs⟩:=sN t h r;refine⟨n,by lia,?_⟩;have:=hs 0 (zero_le _);unfold way;rw[add_zero]at this;rw[this];exact hq
theorem oI{t:SetTable}(hd:t.dummies= #[]){hashAt:Nat->Int}{h:Int}:∀(fuel n m:Nat),n<=m->m<n+fuel->t.slot (way t h m)= .empty->
 ∃q,n<=q/\q<=m/\(∀j,n<=j->j<q->∃i,t.slot (way t h j)= .live i/\hashAt i≠h)/\
  ((t.slot (way t h q)= .empty/\probe.go t hashAt h fuel (stand t h n)=some (.empty (way t h q) none))\/
   ∃i,t.slot (way t h q)= .live i/\hashAt i=h/\probe.go t hashAt h fuel (stand t h n)=some (.candidate (way t h q) i (stand t h (q+1))))
 | 0,n,m,h1,h2,_=>by lia
 | fuel+1,n,m,h1,h2,he=>by
   have unf:probe.go t hashAt h (fuel+1) (stand t h n)=(match t.slot (stand t h n).j with
    | .empty=>some (.empty (stand t h n).j (stand t h n).dummy)
    | .dummy=>probe.go t hashAt h fuel (t.advance {stand t h n with dummy:=some (stand t h n).j})
    | .live i=>if hashAt i==h then some (.candidate (stand t h n).j i (t.advance (stand t h n)))else probe.go t hashAt h fuel (t.advance (stand t h n))):=rfl
   have ej:(stand t h n).j=way t h n:=rfl;cases hs:t.slot (way t h n)with
   | empty=>
     refine⟨n,W1 _,h1,fun j a b=>by lia,.inl ⟨hs,?_⟩⟩;rw[unf,ej,hs,jF]
   | dummy=>
     exfalso;unfold slot at hs;dsimp only at hs
     split at hs
     ·cases hs
     ·split at hs
      ·rename_i q
       rw[hd]at q;simp[has]at q
      ·cases hs
   | live i=>
     by_cases hq:hashAt i=h
     ·refine⟨n,W1 _,h1,fun j a b=>by lia,.inr ⟨i,hs,hq,?_⟩⟩;rw[unf,ej,hs];dsimp only;rw[if_pos (by simp[hq])];rfl
     ·have hnm:n≠m:=fun q=>by rw[q,he]at hs;cases hs
      obtain⟨q,q1,q2,q3,q4⟩:=oI hd fuel (n+1) m (by lia) (by lia) he;have e2:probe.go t hashAt h (fuel+1) (stand t h n)=probe.go t hashAt h fuel (stand t h (n+1)):=by
       rw[unf,ej,hs];dsimp only;rw[if_neg (by simp[hq])];rfl
      refine⟨q,by lia,q2,fun j a b=>?_,?_⟩
      ·by_cases e:j=n
       ·rw[e];exact⟨i,hs,hq⟩
       ·exact q3 j (by lia) b
      ·rw[e2];exact q4
end STab
namespace STab
open PySem PySem.SetTable
theorem kM(xs:Array Nat)(j:Nat)(hs:∀a b (ha:a<xs.size) (hb:b<xs.size),a<b->xs[a]<xs[b]):∀(fuel lo hi:Nat),hi-lo<=fuel->lo<=hi->hi<=xs.size->(∀i (h:i<xs.size),i<lo->xs[i]<j)->(∀i (h:i<xs.size),hi<=i->j<=xs[i])->
 below.go xs j fuel lo hi<=xs.size/\(∀i (h:i<xs.size),i<below.go xs j fuel lo hi->xs[i]<j)/\(∀i (h:i<xs.size),below.go xs j fuel lo hi<=i->j<=xs[i])
 | 0,lo,hi,h1,h2,h3,h4,h5=>by
   have e:lo=hi:=by lia
   subst e;exact⟨h3,h4,h5⟩
 | fuel+1,lo,hi,h1,h2,h3,h4,h5=>by
   rw[below.go];by_cases hlt:lo<hi
   ·rw[if_pos hlt];dsimp only;have hm:(lo+hi)/2<xs.size:=by lia
    have eg:xs.getD ((lo+hi)/2) j=xs[(lo+hi)/2]:=by simp[Array.getD,hm]
    rw[eg];by_cases hx:xs[(lo+hi)/2]<j
    ·rw[if_pos hx];refine kM xs j hs fuel _ hi (by lia) (by lia) h3 (fun i h hi'=>?_) h5;by_cases e:i=(lo+hi)/2
     ·subst e;exact hx
     ·exact Nat.lt_trans (hs i _ h hm (by lia)) hx
    ·rw[if_neg hx];refine kM xs j hs fuel lo _ (by lia) (by lia) (by lia) h4 (fun i h hi'=>?_);by_cases e:i=(lo+hi)/2
     ·subst e;lia
     ·have:=hs _ i hm h (by lia)
      lia
   ·rw[if_neg hlt];have e:lo=hi:=by lia
    subst e;exact⟨h3,h4,h5⟩
noncomputable def vh(xs:Array Nat):Prop:=∀a b (ha:a<xs.size) (hb:b<xs.size),a<b->xs[a]<xs[b]
theorem il{xs:Array Nat}(hs:vh xs)(j:Nat):below xs j<=xs.size/\(∀i (h:i<xs.size),i<below xs j->xs[i]<j)/\(∀i (h:i<xs.size),below xs j<=i->j<=xs[i]):=
 kM xs j hs xs.size 0 xs.size (by lia) (zero_le _) (W1 _) (fun i h q=>absurd q (not_lt_zero _)) (fun i h q=>by lia)
theorem vi{xs:Array Nat}(hs:vh xs){i j:Nat}(h:xs[i]? =some j):below xs j=i:=by
 obtain⟨b0,b1,b2⟩:=il hs j;obtain⟨hi,e⟩:=Array.getElem?_eq_some_iff.mp h;rcases Nat.lt_trichotomy i (below xs j)with q|q|q
 ·have:=b1 i hi q
  lia
 ·exact q.symm
 ·have h1:below xs j<xs.size:=by lia
  have:=b2 (below xs j) h1 (W1 _);have:=hs _ i h1 hi q
  lia
theorem mt{t:SetTable}(hs:vh t.place){i j:Nat}(h:t.place[i]? =some j):t.slot j= .live i:=by
 unfold slot;dsimp only;rw[vi hs h,h];simp
theorem im{t:SetTable}(hs:vh t.place)(hd:t.dummies= #[])(j:Nat):(∃i,t.place[i]? =some j/\t.slot j= .live i)\/(j∉t.place.toList/\t.slot j= .empty):=by
 by_cases h:j∈t.place.toList
 ·obtain⟨i,hi⟩:=List.getElem?_of_mem h;have hi:t.place[i]? =some j:=by simpa using hi
  exact .inl ⟨i,hi,mt hs hi⟩
 ·refine .inr ⟨h,?_⟩;unfold slot;dsimp only;rw[if_neg,if_neg]
  ·rw[hd];simp[has]
  ·intro q;have q:t.place[below t.place j]? =some j:=by simpa using q
   exact h (mem_toList_iff.mpr (Array.mem_of_getElem? q))
theorem oJ{t t':SetTable}(h:t.mask=t'.mask)(x:Int):∀n,stand t x n=stand t' x n
 | 0=>by
   show t.probeStart x=t'.probeStart x;unfold probeStart;rw[h]
 | n+1=>by
   show t.advance (stand t x n)=t'.advance (stand t' x n);rw[oJ h x n];unfold advance;rw[h]
theorem mv{t t':SetTable}(h:t.mask=t'.mask)(x:Int)(n:Nat):way t x n=way t' x n:=by unfold way;rw[oJ h]
structure WF (t:SetTable) (es:Array (Int×Value)):Prop where
 pow:∃k,t.mask+1=2^k
 big:7<=t.mask
 dum:t.dummies= #[]
 rise:vh t.place
 inb:∀j∈t.place.toList,j<=t.mask
 size:t.place.size=es.size
 chain:∀(i j:Nat) (h:Int) (x:Value),t.place[i]? =some j->es[i]? =some (h,x)->∃n,way t h n=j/\∀m,m<n->way t h m∈t.place.toList
theorem nodup_sub{α:Type}[DecidableEq α]:∀{l m:List α},l.Nodup->(∀x∈l,x∈m)->l.length<=m.length
 |[],_,_,_=>zero_le _
 | x::l,m,hn,hs=>by
   obtain⟨h1,h2⟩:=nodup_cons.mp hn;have hx:x∈m:=hs x W6;have ih:=nodup_sub (m:=m.erase x) h2 fun y hy=>(List.mem_erase_of_ne (fun e:y=x=>h1 (by rw[<-e];exact hy))).mpr (hs y (W4 _ hy))
   rw[List.length_erase_of_mem hx]at ih;have:0<m.length:=List.length_pos_of_mem hx;rw[V1]
   lia
theorem qD{t:SetTable}{es:Array (Int×Value)}(W:WF t es)(R:t.place.size<=t.mask)(h:Int):∃m,m+10<=10*turns t.mask/\way t h m∉t.place.toList/\(∀q,q<m->way t h q∈t.place.toList):=by
 obtain⟨k,hk⟩:=W.pow;have ex:∃e,e<=t.mask/\e∉t.place.toList:=by
  refine Classical.byContradiction fun hno=>?_
  have all:∀e,e<=t.mask->e∈t.place.toList:=fun e he=>Classical.byContradiction fun q=>hno ⟨e,he,q⟩
  have:(List.range (t.mask+1)).length<=t.place.toList.length:=nodup_sub nodup_range fun x hx=>all x (by have:=mem_range.mp hx;lia)
  rw[length_range,X2]at this
  lia
 obtain⟨e,he,hne⟩:=ex;obtain⟨n,hn,hw⟩:=qC hk h e he;have:∀d,∀n,n<=d->n+10<=10*turns t.mask->way t h n∉t.place.toList->∃m,m+10<=10*turns t.mask/\way t h m∉t.place.toList/\(∀q,q<m->way t h q∈t.place.toList):=by
  intro d
  induction d with
  | zero=>
    intro n h0 h1 h2;have:n=0:=by lia
    subst this;exact⟨0,h1,h2,fun q hq=>absurd hq (not_lt_zero _)⟩
  | succ d ih=>
    intro n h0 h1 h2;by_cases hall:∀q,q<n->way t h q∈t.place.toList
    ·exact⟨n,h1,h2,hall⟩
    ·obtain⟨q,hq⟩:=Classical.not_forall.mp hall;obtain⟨q1,q2⟩:=Classical.not_imp.mp hq;exact ih q (by lia) (by lia) q2
 exact this n n (W1 _) hn (by rw[hw];exact hne)
end STab
namespace STab
open PySem PySem.SetTable
theorem iI{α:Type}(xs:Array α)(p:Nat)(x:α)(hp:p<=xs.size):(insertAt xs p x).toList=xs.toList.take p++x::xs.toList.drop p:=by
 unfold insertAt;rw[toList_append,toList_push,Array.toList_extract,Array.toList_extract,List.extract_eq_take_drop,List.extract_eq_take_drop];rw[drop_zero,Nat.sub_zero,W7 (l:=xs.toList.drop p) (by rw[length_drop,X2];exact W1 _)];simp
theorem qE{α:Type}(xs:Array α){p:Nat}(x:α)(hp:p<=xs.size)(i:Nat):(insertAt xs p x)[i]? =if i<p then xs[i]? else if i=p then some x else xs[i-1]? :=by
 have e:(insertAt xs p x)[i]? =(insertAt xs p x).toList[i]? :=by simp
 rw[e,iI xs p x hp];have hl:(xs.toList.take p).length=p:=by rw[length_take,X2];lia
 by_cases h1:i<p
 ·rw[if_pos h1,getElem?_append_left (by lia),getElem?_take,if_pos h1];simp
 ·rw[if_neg h1,getElem?_append_right (by lia),hl];by_cases h2:i=p
  ·rw[if_pos h2,h2,sub_self];rfl
  ·rw[if_neg h2];obtain⟨d,hd⟩:∃d,i-p=d+1:=⟨i-p-1,by lia⟩
   rw[hd,List.getElem?_cons_succ,getElem?_drop];rw[show p+d=i-1 by lia];simp
theorem gi{α:Type}(xs:Array α)(p:Nat)(x:α)(hp:p<=xs.size):(insertAt xs p x).size=xs.size+1:=by
 rw[<-X2,iI xs p x hp,Y9,V1,length_take,length_drop,X2]
 lia
theorem vj(t:SetTable)(h:Int):∀n,(stand t h n).j+(stand t h n).more<=t.mask
 | 0=>by
   show bits h%(t.mask+1) +(runEnd t.mask (bits h%(t.mask+1)) -bits h%(t.mask+1))<=t.mask;have:=mod_lt (bits h) (show 0<t.mask+1 from succ_pos _);unfold runEnd
   split<;> lia
 | n+1=>by
   have ih:=vj t h n;show(t.advance (stand t h n)).j+(t.advance (stand t h n)).more<=t.mask;unfold advance
   split
   ·dsimp only;lia
   ·dsimp only[leap];have:=mod_lt ((stand t h n).i*5+1+(stand t h n).perturb/32) (show 0<t.mask+1 from succ_pos _);unfold runEnd
    split<;> lia
theorem nq(t:SetTable)(h:Int)(n:Nat):way t h n<=t.mask:=by
 have:=vj t h n;unfold way
 lia
theorem WF.put{t:SetTable}{es:Array (Int×Value)}(W:WF t es){h:Int}{x:Value}{m:Nat}(hf:way t h m∉t.place.toList)(hb:∀q,q<m->way t h q∈t.place.toList)(b1 b2:Bool):
 (t.put (way t h m)).2=below t.place (way t h m)/\(t.put (way t h m)).1.mask=t.mask/\(t.put (way t h m)).1.place.size=t.place.size+1/\(t.put (way t h m)).1.led=t.led/\(t.put (way t h m)).1.plain=t.plain/\(t.put (way t h m)).1.moves=t.moves/\
  WF {(t.put (way t h m)).1 with led:=b1,plain:=b2} (insertAt es (t.put (way t h m)).2 (h,x)):=by
 have hd:has t.dummies (way t h m)=false:=by rw[W.dum];simp[has]
 have ep:t.put (way t h m)=({t with place:=insertAt t.place (below t.place (way t h m)) (way t h m)},below t.place (way t h m)):=by
  unfold SetTable.put;dsimp only;rw[hd];rfl
 rw[ep];obtain⟨s0,s1,s2⟩:=il W.rise (way t h m)
 generalize hp:below t.place (way t h m)=p at s0 s1 s2
 have hpe:p<=es.size:=by rw[<-W.size];exact s0
 have s3:∀i (hi:i<t.place.size),p<=i->way t h m<t.place[i]:=fun i hi q=>by
  have:=s2 i hi q;rcases Nat.eq_or_lt_of_le this with e|e
  ·exact absurd (by rw[e];simp) hf
  ·exact e
 have memp:∀y,y∈(insertAt t.place p (way t h m)).toList↔y=way t h m\/y∈t.place.toList:=fun y=>by
  rw[iI _ _ _ s0,mem_append,mem_cons];have:=take_append_drop p t.place.toList
  constructor
  ·rintro(q|q|q)
   ·exact .inr (mem_of_mem_take q)
   ·exact .inl q
   ·exact .inr (mem_of_mem_drop q)
  ·rintro(q|q)
   ·exact .inr (.inl q)
   ·rw[<-this]at q;rcases mem_append.mp q with q|q
    ·exact .inl q
    ·exact .inr (.inr q)
 refine⟨rfl,rfl,gi _ _ _ s0,rfl,rfl,rfl,W.pow,W.big,W.dum,?_,?_,?_,?_⟩
 ·intro a b ha hb' hab;have sz:=gi t.place p (way t h m) s0;have ga:(insertAt t.place p (way t h m))[a]? =some (insertAt t.place p (way t h m))[a]:=by simp[ha]
  have gb:(insertAt t.place p (way t h m))[b]? =some (insertAt t.place p (way t h m))[b]:=by simp[hb']
  show(insertAt t.place p (way t h m))[a]<(insertAt t.place p (way t h m))[b];rw[qE _ _ s0]at ga gb;have hb2:b<t.place.size+1:=by rw[<-sz];exact hb'
  by_cases a1:a<p
  ·rw[if_pos a1]at ga;obtain⟨a2,a3⟩:=Array.getElem?_eq_some_iff.mp ga;rw[<-a3];by_cases b1:b<p
   ·rw[if_pos b1]at gb;obtain⟨b2,b3⟩:=Array.getElem?_eq_some_iff.mp gb;rw[<-b3];exact W.rise a b a2 b2 hab
   ·rw[if_neg b1]at gb;by_cases b2:b=p
    ·rw[if_pos b2]at gb;rw[<-X1 gb];exact s1 a a2 a1
    ·rw[if_neg b2]at gb;obtain⟨b3,b4⟩:=Array.getElem?_eq_some_iff.mp gb;rw[<-b4];exact W.rise a (b-1) a2 b3 (by lia)
  ·rw[if_neg a1]at ga;have b1: ¬ b<p:=by lia
   have b2: ¬ b=p:=by lia
   rw[if_neg b1,if_neg b2]at gb;obtain⟨b3,b4⟩:=Array.getElem?_eq_some_iff.mp gb;rw[<-b4];by_cases a2:a=p
   ·rw[if_pos a2]at ga;rw[<-X1 ga];exact s3 (b-1) b3 (by lia)
   ·rw[if_neg a2]at ga;obtain⟨a3,a4⟩:=Array.getElem?_eq_some_iff.mp ga;rw[<-a4];exact W.rise (a-1) (b-1) a3 b3 (by lia)
 ·intro y hy;rcases(memp y).mp hy with q|q
  ·rw[q];exact nq t h m
  ·exact W.inb y q
 ·show(insertAt t.place p (way t h m)).size=(insertAt es p (h,x)).size;rw[gi _ _ _ s0,gi _ _ _ hpe,W.size]
 ·intro i j h' x' hi he;have wm:∀n,way {t with place:=insertAt t.place p (way t h m),led:=b1,plain:=b2} h' n=way t h' n:=fun n=>mv (t':=t) (by rfl) h' n
  have key:∃n,way t h' n=j/\∀q,q<n->way t h' q∈(insertAt t.place p (way t h m)).toList:=by
   have hi:(insertAt t.place p (way t h m))[i]? =some j:=hi;rw[qE _ _ s0]at hi;rw[qE _ _ hpe]at he;by_cases i1:i<p
   ·rw[if_pos i1]at hi he;obtain⟨n,n1,n2⟩:=W.chain i j h' x' hi he;exact⟨n,n1,fun q hq=>(memp _).mpr (.inr (n2 q hq))⟩
   ·rw[if_neg i1]at hi he;by_cases i2:i=p
    ·rw[if_pos i2]at hi he;cases hi;cases he;exact⟨m,rfl,fun q hq=>(memp _).mpr (.inr (hb q hq))⟩
    ·rw[if_neg i2]at hi he;obtain⟨n,n1,n2⟩:=W.chain (i-1) j h' x' hi he;exact⟨n,n1,fun q hq=>(memp _).mpr (.inr (n2 q hq))⟩
  obtain⟨n,n1,n2⟩:=key;exact⟨n,by rw[wm];exact n1,fun q hq=>by rw[wm];exact n2 q hq⟩
end STab
namespace STab
open PySem PySem.SetTable
noncomputable def nb(t:SetTable)(h:Int):Nat->Nat
 | 0=>0
 | r+1=>nb t h r+(runEnd t.mask (ax t h r).1-(ax t h r).1) +1
theorem vk(t:SetTable)(h:Int):∀r d,d<=runEnd t.mask (ax t h r).1-(ax t h r).1->
 stand t h (nb t h r+d)=⟨(ax t h r).1+d,runEnd t.mask (ax t h r).1-(ax t h r).1-d,(ax t h r).1,(ax t h r).2,none⟩:=by
 have along:∀(n i pb:Nat),stand t h n=⟨i,runEnd t.mask i-i,i,pb,none⟩->∀d,d<=runEnd t.mask i-i->stand t h (n+d)=⟨i+d,runEnd t.mask i-i-d,i,pb,none⟩:=by
  intro n i pb e d
  induction d with
  | zero=>intro _;rw[add_zero,e];rfl
  | succ d ih=>
    intro hd;show t.advance (stand t h (n+d))=_;rw[ih (by lia)];unfold advance;rw[if_pos (by dsimp only;lia)];simp only[Probe.mk.injEq,and_true]
    lia
 intro r
 induction r with
 | zero=>exact along 0 _ _ rfl
 | succ r ih=>
   refine along _ _ (ax t h (r+1)).2 ?_;show t.advance (stand t h _)=_;rw[ih _ (W1 _)];unfold advance;rw[if_neg (by dsimp only;lia)];rfl
theorem qG(t:SetTable)(h:Int)(r d:Nat)(hd:d<=runEnd t.mask (ax t h r).1-(ax t h r).1):way t h (nb t h r+d)=(ax t h r).1+d:=by
 unfold way;rw[vk t h r d hd]
noncomputable def d9(owner:Array (Option Nat))(j:Nat):Bool:=(owner.getD j (some 0)).isSome
theorem mw(t:SetTable)(h:Int)(owner:Array (Option Nat)):∀(fuel r:Nat),(∃r',r<=r'/\r'<r+fuel/\d9 owner (ax t h r').1=false)->(∀m,m<nb t h r->d9 owner (way t h m)=true)->
 ∃j n,layClean.free t.mask owner fuel (ax t h r).1 (ax t h r).2=some j/\way t h n=j/\d9 owner j=false/\∀m,m<n->d9 owner (way t h m)=true
 | 0,r,⟨r',h1,h2,_⟩,_=>by lia
 | fuel+1,r,⟨r',h1,h2,h3⟩,hb=>by
   rw[layClean.free];have hle:runEnd t.mask (ax t h r).1>=(ax t h r).1:=by unfold runEnd;split<;> lia
   have tk:∀k,(owner.getD ((ax t h r).1+k) (some 0)).isNone=!d9 owner ((ax t h r).1+k):=fun k=>by
    unfold d9;cases owner.getD ((ax t h r).1+k) (some 0)<;> rfl
   cases hf:(List.range (runEnd t.mask (ax t h r).1+1-(ax t h r).1)).find? fun k=>(owner.getD ((ax t h r).1+k) (some 0)).isNone with
   | some k=>
     obtain⟨p1,as,bs,p2,p3⟩:=List.find?_eq_some_iff_append.mp hf;have hk:k∈List.range (runEnd t.mask (ax t h r).1+1-(ax t h r).1):=by rw[p2];simp
     have hk:=mem_range.mp hk;have ek:as=List.range k:=by
      have e1:as.length=k:=by
       have:(List.range (runEnd t.mask (ax t h r).1+1-(ax t h r).1))[as.length]? =some k:=by rw[p2];simp
       rw[List.getElem?_range (by have:=(List.getElem?_eq_some_iff.mp this).1;simpa using this)]at this;exact X1 this
      have e2:as=(List.range (runEnd t.mask (ax t h r).1+1-(ax t h r).1)).take k:=by
       rw[p2,<-e1];simp
      rw[e2,List.take_range,min_eq_left (by lia)]
     dsimp only;refine⟨_,nb t h r+k,rfl,qG t h r k (by lia),?_,fun m hm=>?_⟩
     ·rw[tk]at p1;simpa using p1
     ·by_cases q:m<nb t h r
      ·exact hb m q
      ·have:=p3 (m-nb t h r) (by rw[ek];exact mem_range.mpr (by lia));rw[tk]at this;rw[show m=nb t h r+(m-nb t h r) by lia,qG t h r _ (by lia)];simpa using this
   | none=>
     have hno:=List.find?_eq_none.mp hf;have all:∀k,k<=runEnd t.mask (ax t h r).1-(ax t h r).1->d9 owner ((ax t h r).1+k)=true:=fun k hk=>by
      have:=hno k (mem_range.mpr (by lia));rw[tk]at this;simpa using this
     have hne:r≠r':=fun e=>by
      have:=all 0 (zero_le _);rw[add_zero,e,h3]at this;cases this
     dsimp only;exact mw t h owner fuel (r+1) ⟨r',by lia,by lia,h3⟩ fun m hm=>by
      by_cases q:m<nb t h r
      ·exact hb m q
      ·have hm:m<nb t h r+(runEnd t.mask (ax t h r).1-(ax t h r).1) +1:=hm;rw[show m=nb t h r+(m-nb t h r) by lia,qG t h r _ (by lia)];exact all _ (by lia)
structure LO (t:SetTable) (hs:List Int) (owner:Array (Option Nat)):Prop where
 size:owner.size=t.mask+1
 own:∀(j q:Nat),owner[j]? =some (some q)->∃h,hs[q]? =some h/\∃n,way t h n=j/\∀m,m<n->d9 owner (way t h m)=true
 all:∀q:Nat,q<hs.length->∃j:Nat,owner[j]? =some (some q)
 one:∀(j j' q:Nat),owner[j]? =some (some q)->owner[j']? =some (some q)->j=j'
theorem eZ{owner:Array (Option Nat)}{j:Nat}(hj:j<owner.size):d9 owner j=true↔∃q,owner[j]? =some (some q):=by
 unfold d9;have e:owner.getD j (some 0)=owner[j]:=by simp[Array.getD,hj]
 rw[e];have e2:owner[j]? =some owner[j]:=by simp[hj]
 rw[e2];cases owner[j]with
 | none=>simp
 | some q=>simp
theorem LO.step{t:SetTable}{hs:List Int}{owner:Array (Option Nat)}(L:LO t hs owner){k:Nat}(hp:t.mask+1=2^k)(room:hs.length<=t.mask)(h:Int):
 ∃j,layClean.free t.mask owner (turns t.mask) (bits h%(t.mask+1)) (bits h)=some j/\LO t (hs++[h]) (owner.setIfInBounds j (some hs.length)):=by
 have wlt:∀h n,way t h n<owner.size:=fun h n=>by rw[L.size];have:=nq t h n;lia
 have ex:∃e,e<=t.mask/\d9 owner e=false:=by
  refine Classical.byContradiction fun hno=>?_
  have all:∀e,e<t.mask+1->d9 owner e=true:=fun e he=>by
   cases q:d9 owner e with
   | true=>rfl
   | false=>exact absurd ⟨e,by lia,q⟩ hno
  have f:∀e,e<t.mask+1->∃q,owner[e]? =some (some q):=fun e he=>(eZ (by rw[L.size];exact he)).mp (all e he)
  let g:Nat->Nat:=fun e=>((owner[e]?).getD none).getD 0
  have hg:∀e,e<t.mask+1->owner[e]? =some (some (g e)):=fun e he=>by
   obtain⟨q,hq⟩:=f e he;show owner[e]? =some (some (((owner[e]?).getD none).getD 0));rw[hq];rfl
  have nd:((List.range (t.mask+1)).map g).Nodup:=by
   rw[nodup_iff_pairwise_ne,pairwise_map];refine List.Pairwise.imp_of_mem (R:=fun a b=>a≠b) (fun{a b} ha hb hab q=>hab ?_) (nodup_iff_pairwise_ne.mp nodup_range);have h1:=hg a (mem_range.mp ha);have h2:=hg b (mem_range.mp hb);rw[<-q]at h2;exact L.one a b (g a) h1 h2
  have:=nodup_sub nd (m:=List.range hs.length) fun y hy=>by
   obtain⟨e,he,rfl⟩:=mem_map.mp hy;obtain⟨h',e1,_⟩:=L.own e (g e) (hg e (mem_range.mp he));exact mem_range.mpr (List.getElem?_eq_some_iff.mp e1).1
  rw[Y6,length_range,length_range]at this
  lia
 obtain⟨e,he,hne⟩:=ex;obtain⟨r,hr,hq⟩:=kL hp h e he;obtain⟨j,n,f1,f2,f3,f4⟩:=mw t h owner (turns t.mask) 0 ⟨r,zero_le _,by lia,by rw[hq];exact hne⟩ (fun m hm=>absurd hm (not_lt_zero _));refine⟨j,f1,?_⟩;have hj:j<owner.size:=by rw[<-f2];exact wlt h n
 have nj:∀q,owner[j]? ≠some (some q):=fun q e=>by
  have:=(eZ hj).mpr ⟨q,e⟩;rw[f3]at this;cases this
 have get:∀i,(owner.setIfInBounds j (some hs.length))[i]? =if j=i then some (some hs.length)else owner[i]? :=fun i=>by
  rw[Array.getElem?_setIfInBounds]
  split
  ·first|rfl|rw[if_pos hj]
  ·rfl
 have keep:∀i,d9 owner i=true->i<owner.size->d9 (owner.setIfInBounds j (some hs.length)) i=true:=fun i hi hl=>by
  obtain⟨q,e⟩:=(eZ hl).mp hi;refine(eZ (by rw[Array.size_setIfInBounds];exact hl)).mpr ?_;rw[get]
  split
  ·exact⟨_,rfl⟩
  ·exact⟨q,e⟩
 refine⟨by rw[Array.size_setIfInBounds];exact L.size,fun i q e=>?_,fun q hq=>?_,fun i i' q e e'=>?_⟩
 ·rw[get]at e
  split at e
  ·rename_i ij
   cases e;refine⟨h,by simp,n,by rw[f2,ij],fun m hm=>keep _ (f4 m hm) (wlt h m)⟩
  ·obtain⟨h',e1,n',e2,e3⟩:=L.own i q e;exact⟨h',by rw[getElem?_append_left (List.getElem?_eq_some_iff.mp e1).1];exact e1,n',e2,fun m hm=>keep _ (e3 m hm) (wlt h' m)⟩
 ·rw[Y9,length_singleton]at hq;by_cases e:q=hs.length
  ·exact⟨j,by rw[get,if_pos rfl,e]⟩
  ·obtain⟨i,hi⟩:=L.all q (by lia);refine⟨i,?_⟩;rw[get,if_neg]
   ·exact hi
   ·intro ij;rw[<-ij]at hi;exact nj q hi
 ·have old:∀i,owner[i]? =some (some hs.length)->False:=fun i e=>by
   obtain⟨h',e1,_⟩:=L.own i _ e;have:=(List.getElem?_eq_some_iff.mp e1).1
   lia
  rw[get]at e e'
  split at e<;> split at e'
  ·lia
  ·cases e;exact absurd e' (fun z=>old i' z)
  ·cases e';exact absurd e (fun z=>old i z)
  ·exact L.one i i' q e e'
theorem oK{t:SetTable}{k:Nat}(hp:t.mask+1=2^k)(hashes:Array Int)(room:hashes.size<=t.mask+1):∃owner,layClean t.mask hashes=some owner/\LO t hashes.toList owner:=by
 have go:∀(rest done:List Int) (owner:Array (Option Nat)),LO t done owner->(done++rest).length<=t.mask+1->
  ∃owner',rest.foldl (fun acc h=>do
   let(owner,k)<-acc
   let j<-layClean.free t.mask owner (turns t.mask) (bits h%(t.mask+1)) (bits h)
   pure (owner.setIfInBounds j (some k),k+1)) (some (owner,done.length))=some (owner',(done++rest).length)/\LO t (done++rest) owner':=by
  intro rest
  induction rest with
  | nil=>intro done owner L _;exact⟨owner,by simp,by simpa using L⟩
  | cons h rest ih=>
    intro done owner L hl;simp only[Y9,V1]at hl;obtain⟨j,f,L'⟩:=L.step hp (by lia) h;obtain⟨owner',e,L2⟩:=ih (done++[h]) _ L' (by simp only[Y9,V1,length_nil];lia);refine⟨owner',?_,by simpa using L2⟩;rw[foldl_cons];have e0:(do
     let(owner,k)<-(some (owner,done.length):Option (Array (Option Nat)×Nat))
     let j<-layClean.free t.mask owner (turns t.mask) (bits h%(t.mask+1)) (bits h)
     pure (owner.setIfInBounds j (some k),k+1))=some (owner.setIfInBounds j (some done.length),(done++[h]).length):=by
     show(layClean.free t.mask owner (turns t.mask) (bits h%(t.mask+1)) (bits h)).bind _=_;rw[f];simp
    rw[e0,e];simp
 have L0:LO t [] (Array.replicate (t.mask+1) none):=⟨by simp,fun j q e=>by
  rw[Array.getElem?_replicate]at e
  split at e<;> simp at e,fun q hq=>absurd hq (not_lt_zero _),fun j j' q e _=>by
  rw[Array.getElem?_replicate]at e
  split at e<;> simp at e⟩
 obtain⟨owner,e,L⟩:=go hashes.toList [] _ L0 (by simpa using room);refine⟨owner,?_,by simpa using L⟩;unfold layClean;rw[<-Array.foldl_toList];rw[show(0:Nat)=([]:List Int).length from rfl,e];rfl
end STab
namespace STab
open PySem PySem.SetTable
theorem oM(n:Nat):∀(fuel k:Nat),3<=k->n<2^(k+fuel)->(2^k<=2*n\/k=3)->∃k',3<=k'/\sizeAbove.go n fuel (2^k)=2^k'/\n<2^k'/\(2^k'<=2*n\/k'=3)
 | 0,k,h3,hn,hs=>⟨k,h3,rfl,by simpa using hn,hs⟩
 | fuel+1,k,h3,hn,hs=>by
   rw[sizeAbove.go];by_cases h:2^k<=n
   ·rw[if_pos h];have e:2^k*2=2^(k+1):=by rw[pow_succ]
    rw[e];exact oM n fuel (k+1) (by lia) (by rw[show k+1+fuel=k+(fuel+1) by lia];exact hn) (.inl (by lia))
   ·rw[if_neg h];exact⟨k,h3,rfl,by lia,hs⟩
theorem qH{n:Nat}(hn:n<2^60):∃k,3<=k/\sizeAbove n=2^k/\n<2^k/\(2^k<=2*n\/k=3):=
 oM n 64 3 (W1 _) (X8 hn (Nat.pow_le_pow_right (by decide) (by decide))) (.inr rfl)
theorem kN{α:Type}[DecidableEq α]:∀{l m:List α},l.Nodup->m.Nodup->(∀x,x∈l↔x∈m)->l.Perm m
 |[],m,_,_,h=>by
  cases m with
  | nil=>exact List.Perm.refl _
  | cons x m=>exact absurd ((h x).mpr W6) (by simp)
 | x::l,m,hl,hm,h=>by
   obtain⟨h1,h2⟩:=nodup_cons.mp hl;have hx:x∈m:=(h x).mp W6;have p:=List.perm_cons_erase hx;refine List.Perm.trans (List.Perm.cons x (kN h2 (hm.erase x) fun y=>?_)) p.symm
   constructor
   ·intro hy;exact(List.mem_erase_of_ne (fun e:y=x=>h1 (by rw[<-e];exact hy))).mpr ((h y).mp (W4 _ hy))
   ·intro hy;have hne:y≠x:=fun e=>by rw[e]at hy;exact hm.not_mem_erase hy
    rcases mem_cons.mp ((h y).mpr (List.mem_of_mem_erase hy))with q|q
    ·exact absurd q hne
    ·exact q
theorem xf{t:SetTable}{k:Nat}(hp:t.mask+1=2^k)(hb:7<=t.mask)(es:Array (Int×Value))(room:es.size<=t.mask)(finger moves:Nat)(led plain:Bool):
 ∃t' order,laid t.mask finger moves led plain (es.map (·.1))=some (t',order)/\t'.mask=t.mask/\t'.led=led/\t'.plain=plain/\t'.moves=moves/\WF t' (order.filterMap (es[·]?))/\(order.filterMap (es[·]?)).toList.Perm es.toList:=by
 obtain⟨owner,e,L⟩:=oK hp (es.map (·.1)) (by rw[size_map];lia);have hsz:(es.map (·.1)).toList.length=es.size:=by simp
 obtain⟨live,hlv⟩:∃live,(List.range (t.mask+1)).filterMap (fun j=>(owner.getD j none).map (fun q=>(j,q)))=live:=⟨_,rfl⟩
 refine⟨⟨t.mask,(live.map (·.1)).toArray,#[],finger,led,moves,plain⟩,(live.map (·.2)).toArray,by unfold laid;rw[e,<-hlv];rfl,rfl,rfl,rfl,rfl,?_⟩;have gd:∀j q,owner.getD j none=some q↔owner[j]? =some (some q):=fun j q=>by
  rw[V3];cases owner[j]? with
  | none=>simp
  | some o=>simp
 have mem:∀j q,(j,q)∈live↔owner[j]? =some (some q):=fun j q=>by
  rw[<-hlv,mem_filterMap]
  constructor
  ·rintro⟨j',hj',e'⟩;obtain⟨q',e1,e2⟩:=map_eq_some_iff.mp e';cases e2;exact(gd j q).mp e1
  ·intro ho;have:j<owner.size:=by
    obtain⟨h1,_⟩:=Array.getElem?_eq_some_iff.mp ho;exact h1
   refine⟨j,mem_range.mpr (by rw[L.size]at this;exact this),?_⟩;rw[(gd j q).mpr ho];rfl
 have rise:(live.map (·.1)).Pairwise (·<·):=by
  rw[<-hlv,pairwise_map,List.pairwise_filterMap];refine List.Pairwise.imp (fun{a b} hab x hx y hy=>?_) List.pairwise_lt_range;obtain⟨_,_,rfl⟩:=map_eq_some_iff.mp hx;obtain⟨_,_,rfl⟩:=map_eq_some_iff.mp hy;exact hab
 have qlt:∀j q,(j,q)∈live->q<es.size:=fun j q h=>by
  obtain⟨h',e1,_⟩:=L.own j q ((mem j q).mp h);have:=(List.getElem?_eq_some_iff.mp e1).1
  lia
 have ordn:(live.map (·.2)).Nodup:=by
  rw[nodup_iff_pairwise_ne,pairwise_map];have nd:live.Pairwise fun a b=>a.1<b.1:=by rw[pairwise_map]at rise;exact rise
  refine List.Pairwise.imp_of_mem (fun{a b} ha hb hab hq=>?_) nd;have h1:=(mem a.1 a.2).mp ha;have h2:=(mem b.1 b.2).mp hb;rw[<-hq]at h2;have:=L.one _ _ _ h1 h2
  lia
 have ordp:(live.map (·.2)).Perm (List.range es.size):=kN ordn nodup_range fun q=>by
  constructor
  ·intro hq;obtain⟨⟨j,q'⟩,h1,rfl⟩:=mem_map.mp hq;exact mem_range.mpr (qlt j q' h1)
  ·intro hq;obtain⟨j,hj⟩:=L.all q (by rw[hsz];exact mem_range.mp hq);exact mem_map.mpr ⟨(j,q),(mem j q).mpr hj,rfl⟩
 have fm:∀(l:List Nat),(∀q∈l,q<es.size)->l.filterMap (es[·]?)=l.map (fun q=>es.getD q (0,Value.none)):=by
  intro l
  induction l with
  | nil=>intro _;rfl
  | cons q l ih=>
    intro hq;have h1:=hq q W6;have e1:es[q]? =some (es.getD q (0,Value.none)):=by simp[Array.getD,h1]
    rw[filterMap_cons,e1,map_cons,ih fun y hy=>hq y (W4 _ hy)]
 have el:((live.map (·.2)).toArray.filterMap (es[·]?)).toList=(live.map (·.2)).map (fun q=>es.getD q (0,Value.none)):=by
  rw[Array.toList_filterMap,toList_toArray];exact fm _ fun q hq=>by
   obtain⟨⟨j,q'⟩,h1,rfl⟩:=mem_map.mp hq;exact qlt j q' h1
 have er:es.toList=(List.range es.size).map (fun q=>es.getD q (0,Value.none)):=by
  apply ext_getElem
  ·simp
  ·intro i h1 h2;have h1:i<es.size:=by simpa using h1
   simp[Array.getD,h1]
 refine⟨⟨⟨k,hp⟩,hb,rfl,?_,fun j hj=>?_,?_,fun i j h x hi he=>?_⟩,?_⟩
 ·intro a b ha hb' hab;have:=List.pairwise_iff_getElem.mp rise a b (by simpa using ha) (by simpa using hb') hab;simpa using this
 ·have hj:j∈live.map (·.1):=by simpa using hj
  obtain⟨⟨j',q⟩,h1,rfl⟩:=mem_map.mp hj;have:=(Array.getElem?_eq_some_iff.mp ((mem j' q).mp h1)).1;rw[L.size]at this;show j'<=t.mask
  lia
 ·show(live.map (·.1)).toArray.size=_;rw[<-X2 (xs:=Array.filterMap _ _),el];simp
 ·have hi:(live.map (·.1))[i]? =some j:=by simpa using hi
  have he:((live.map (·.2)).toArray.filterMap (es[·]?)).toList[i]? =some (h,x):=by simpa using he
  rw[el,map_map,W5]at he;rw[W5]at hi;cases hl:live[i]? with
  | none=>rw[hl]at hi;cases hi
  | some p=>
    obtain⟨j',q⟩:=p;rw[hl]at hi he;cases hi;have hm:=Y8 hl;obtain⟨h',e1,n,n1,n2⟩:=L.own _ q ((mem _ q).mp hm);have hq:=qlt _ q hm;have eh:h'=h:=by
     have e2:(es.map (·.1)).toList[q]? =some (es[q]).1:=by simp[hq]
     rw[e2]at e1;have e3:es.getD q (0,Value.none)=es[q]:=by simp[Array.getD,hq]
     simp only[Function.comp,Option.map_some,e3,Option.some.injEq]at he;rw[he]at e1;exact(X1 e1).symm
    subst eh;have wm:∀n,way {mask:=t.mask,place:=(live.map (·.1)).toArray,dummies:= #[],finger:=finger,led:=led,moves:=moves,plain:=plain} h' n=way t h' n:=fun n=>mv (t':=t) (by rfl) h' n
    refine⟨n,by rw[wm];exact n1,fun m hm'=>?_⟩;rw[wm];have hw:way t h' m<owner.size:=by rw[L.size];have:=nq t h' m;lia
    obtain⟨q',e'⟩:=(eZ hw).mp (n2 m hm');show way t h' m∈(live.map (·.1)).toArray.toList;rw[toList_toArray];exact mem_map.mpr ⟨(way t h' m,q'),(mem _ _).mpr e',rfl⟩
 ·rw[el,er];exact ordp.map _
end STab
namespace STab
open PySem PySem.SetTable
section
variable{prog:Program}{w:World}{K:Type}[DecidableEq K]{knd:KeyKind prog w K}{A:Around}{E:Value->Shared->Prop}{s:Shared}
noncomputable def EL(knd:KeyKind prog w K)(h:Heap)(es:Array (Int×Value)):Prop:=∀(i:Nat) e,es[i]? =some e->∃r k,e=(tupleKeyHash knd k,Value.ref r)/\IsTupleKey knd h k r
theorem jG{ks:List K}{r:Addr}{Q:Bool->Shared->Prop}(hk:IsTupleKey knd s.heap ks r)(h:Q false s):wpAny (model prog w) A (ofAClassStatement 8 (.ref r)) Q E s:=by
 have hT:=hk.typeIs;obtain⟨o,items,n,ho,_,hd,hi⟩:=hk;unfold ofAClassStatement;refine Y2 (wpAny_typeOf hT ?_);dsimp only;rw[if_pos (by simp)];refine Y2 (Y3 ?_);simp only[Bool.not_true,false_eq_true,if_false];refine Y2 (wpAny_seqItems ho hd ?_);dsimp only;refine Y2 ?_;rw[<-Array.forIn_toList];refine wpAny_forIn_list _ (fun rest r s'=>r=(none,())/\s'=s/\∃x',ItemsAre knd x' rest) _ ?_ ?_ _ _ ⟨rfl,rfl,ks,hi⟩
 ·rintro x rest r s' ⟨rfl,rfl,x',hx'⟩;cases hx' with
  | @cons k1 u' x'' xs'' h1 hx''=>
    have hb:=knd.byValue _ _ h1;have e:ofAClassStatement 7 x=pure false:=by
     cases x with
     | ref a=>simp[carriedByValue]at hb
     | _=>first|rfl|simp[ofAClassStatement]|(unfold ofAClassStatement;rfl)
    refine Y2 ?_;rw[e];refine Y3 ?_;simp only[false_eq_true,if_false];exact Y3 ⟨rfl,rfl,x'',hx''⟩
 ·rintro r s' ⟨rfl,rfl,_⟩;exact Y3 h
theorem qI{ks:List K}{r:Addr}(hk:IsTupleKey knd s.heap ks r):∀(l:List Value),(∀y∈l,∃r' k',y=Value.ref r'/\IsTupleKey knd s.heap k' r')->∀{Q:Bool->Shared->Prop},Q false s->wpAny (model prog w) A (searchCouldBeSeen (.ref r) l) Q E s:=by
 intro l hl Q h;unfold searchCouldBeSeen;refine Y2 ?_;refine wpAny_forIn_list _ (fun rest x s'=>x=(none,())/\s'=s/\∀y∈rest,∃r' k',y=Value.ref r'/\IsTupleKey knd s.heap k' r') _ ?_ ?_ _ _ ⟨rfl,rfl,hl⟩
 ·rintro y rest x s' ⟨rfl,rfl,hr⟩;obtain⟨r',k',rfl,hk'⟩:=hr y W6;have go:∀y∈rest,∃r' k',y=Value.ref r'/\IsTupleKey knd s'.heap k' r':=fun y hy=>hr y (W4 _ hy)
  dsimp only
  split
  ·exact Y3 ⟨rfl,rfl,go⟩
  ·refine Y2 (wpAny_eqIsQuiet_tuple hk ?_);simp only[Bool.not_true,false_eq_true,if_false];refine Y2 (wpAny_eqIsQuiet_tuple hk' ?_);simp only[Bool.not_true,false_eq_true,if_false];refine Y2 (jG hk ?_);simp only[false_eq_true,if_false];refine Y2 (jG hk' ?_);simp only[false_eq_true,if_false];exact Y3 ⟨rfl,rfl,go⟩
 ·rintro x s' ⟨rfl,rfl,_⟩;exact Y3 h
theorem nr{a r:Addr}{k:List K}{o:Obj}{es:Array (Int×Value)}{ep:Nat}{t:SetTable}{Q:SetFound->Shared->Prop}(hu:A.units<cLine)(ho:s.heap.get? a=some o)(hd:o.data= .set es ep t)(W:WF t es)(room:t.place.size<=t.mask)(small:t.mask<=9000)
 (el:EL knd s.heap es) (hk:IsTupleKey knd s.heap k r)
 (h1:(∃(i:Nat) (r':Addr),es[i]? =some (tupleKeyHash knd k,Value.ref r')/\IsTupleKey knd s.heap k r')->Q (.there none) s)
 (h2:∀m,way t (tupleKeyHash knd k) m∉t.place.toList->(∀q,q<m->way t (tupleKeyHash knd k) q∈t.place.toList)->(∀(i:Nat) r' k',es[i]? =some (tupleKeyHash knd k',Value.ref r')->IsTupleKey knd s.heap k' r'->k'≠k)->Q (.free (way t (tupleKeyHash knd k) m) false) s):
 wpAny (model prog w) A (setSearch a (.ref r) (tupleKeyHash knd k) true) Q E s:=by
 generalize hh:tupleKeyHash knd k=h at h1 h2
 have hf:t.fits es.size=true:=by
  unfold fits fill;rw[W.dum];simp[W.size];rw[<-W.size];exact room
 obtain⟨m0,m1,m2,m3⟩:=qD W room h;have me:t.slot (way t h m0)= .empty:=by
  rcases im W.rise W.dum (way t h m0)with⟨i,e,_⟩|⟨_,e⟩
  ·exact absurd (mem_toList_iff.mpr (Array.mem_of_getElem? e)) m2
  ·exact e
 have odd:t.gaveWay=false:=by
  obtain⟨c,hc⟩:=W.pow;have hb:=W.big;have c0:c≠0:=fun q=>by rw[q]at hc;lia
  obtain⟨c',rfl⟩:=Nat.exists_eq_succ_of_ne_zero c0;rw[pow_succ]at hc;unfold gaveWay;have:t.mask%2=1:=by lia
  simp[this]
 have main:∀(fuel n:Nat) (st:Option Probe),st.getD (t.probeStart h)=stand t h n->n<=m0->m0<n+fuel->(∀j,j<n->∀(i:Nat) r' k',t.slot (way t h j)= .live i->es[i]? =some (tupleKeyHash knd k',Value.ref r')->IsTupleKey knd s.heap k' r'->k'≠k)->
  wpAny (model prog w) A (setSearchFrom a (.ref r) h true fuel st) Q E s:=by
  intro fuel
  induction fuel with
  | zero=>intro n st _ a1 a2;lia
  | succ fuel ih=>
    intro n st hst hn hfu old;unfold setSearchFrom;refine Y2 (wpAny_setState_of ho hd hf ?_);dsimp only;rw[odd];simp only[false_eq_true,if_false];rw[hst]
    generalize hpr:SetTable.probe t _ h (stand t h n)=pr
    have hpr':SetTable.probe.go t (fun i=>((es[i]?).map (·.1)).getD 0) h (10*turns t.mask) (stand t h n)=pr:=hpr;obtain⟨q,q1,q2,q3,q4⟩:=oI (t:=t) W.dum (hashAt:=fun i=>((es[i]?).map (·.1)).getD 0) (h:=h) (10*turns t.mask) n m0 hn (by lia) me;rcases q4 with⟨e1,e2⟩|⟨i,e1,e2,e3⟩
    ·rw[e2]at hpr';subst hpr';have hq:q=m0:=by
      rcases Nat.eq_or_lt_of_le q2 with z|z
      ·exact z
      ·have:=m3 q z;rcases im W.rise W.dum (way t h q)with⟨i,_,e'⟩|⟨z2,_⟩
       ·rw[e1]at e';cases e'
       ·exact absurd this z2
     subst hq;dsimp only;refine Y3 (h2 q m2 m3 fun i r' k' he hk' hkk=>?_);subst hkk;rw[hh]at he;have hi:i<es.size:=(Array.getElem?_eq_some_iff.mp he).1;have hp:t.place[i]? =some (t.place[i]'(by rw[W.size];exact hi)):=by simp[W.size,hi]
     obtain⟨nn,c1,c2⟩:=W.chain i _ h _ hp he;have hlv:=mt W.rise hp;have hnn:nn<q:=by
      rcases Nat.lt_trichotomy nn q with z|z|z
      ·exact z
      ·rw[z,]at c1;rw[<-c1,me]at hlv;cases hlv
      ·exact absurd (c2 q z) m2
     rw[<-c1]at hlv;by_cases hold:nn<n
     ·exact old nn hold i r' k' hlv (by rw[hh];exact he) hk' rfl
     ·obtain⟨i',e',ne'⟩:=q3 nn (by lia) hnn;rw[hlv]at e';cases e';rw[he]at ne';exact ne' rfl
    ·rw[e3]at hpr';subst hpr';obtain⟨x0,he⟩:∃e,es[i]? =some e:=by
      have hsl:t.place[i]? =some (way t h q):=by
       rcases im W.rise W.dum (way t h q)with⟨i',p1,p2⟩|⟨_,p2⟩
       ·rw[e1]at p2;cases p2;exact p1
       ·rw[e1]at p2;cases p2
      have:=(Array.getElem?_eq_some_iff.mp hsl).1;exact⟨es[i]'(by rw[<-W.size];exact this),by simp[<-W.size,this]⟩
     obtain⟨r',k',rfl,hk'⟩:=el i x0 he;have eh:tupleKeyHash knd k'=h:=by rw[he]at e2;exact e2
     have hqm:q<m0:=Nat.lt_of_le_of_ne q2 fun z=>by rw[z,me]at e1;cases e1
     have body:wpAny (model prog w) A (do
      let equal<-holding [Value.ref r'] (eqBool (Value.ref r') (Value.ref r))
      let x<-setState a
      if(true&&equal)=true then pure (SetFound.there none)
      else match x.2.snd.sameMemory t.moves t.mask with
       | some same=>
         match if same=true then x.2.snd.slot (way t h q)else Slot.empty with
         | Slot.live i'=>
           match x.fst[i']? with
           | some (_,y')=>do
             let b<-isSame y' (Value.ref r')
             let still<-pure (if b=true then some i' else none)
             match still with
              | none=>do
                rule "set.search.anew"
                setSearchFrom a (Value.ref r) h true fuel none
              | some i'=>
                if equal=true then pure (SetFound.there (some i'))
                else setSearchFrom a (Value.ref r) h true fuel (some (stand t h (q+1)))
           | none=>do
             let still<-pure none
             match still with
              | none=>do
                rule "set.search.anew"
                setSearchFrom a (Value.ref r) h true fuel none
              | some i'=>
                if equal=true then pure (SetFound.there (some i'))
                else setSearchFrom a (Value.ref r) h true fuel (some (stand t h (q+1)))
         | x=>do
           let still<-pure none
           match still with
            | none=>do
              rule "set.search.anew"
              setSearchFrom a (Value.ref r) h true fuel none
            | some i'=>
              if equal=true then pure (SetFound.there (some i'))
              else setSearchFrom a (Value.ref r) h true fuel (some (stand t h (q+1)))
       | x=>unsupported "set.changed-during-lookup:is-the-new-block-at-the-old-address") Q E s:=by
      refine Y2 (wpAny_holding (wpAny_eqBool_tuple hu hk' hk ?_));refine Y2 (wpAny_setState_of ho hd hf ?_);dsimp only;by_cases hkk:k'=k
      ·subst hkk;rw[X7 rfl];simp only[Bool.and_self,if_true];exact Y3 (h1 ⟨i,r',by rw[<-eh];exact he,hk'⟩)
      ·rw[X9 hkk];simp only[Bool.and_false,false_eq_true,if_false];have sm:t.sameMemory t.moves t.mask=some true:=by unfold sameMemory;rw[if_pos (by simp)]
       rw[sm];simp only[if_true];rw[e1];dsimp only;rw[he];dsimp only;have same:isSame (Value.ref r') (Value.ref r')=pure true:=by
        unfold isSame;simp
       refine Y2 ?_;rw[same];refine Y3 ?_;simp only[if_true];refine Y2 (Y3 ?_);dsimp only;refine ih (q+1) _ rfl (by lia) (by lia) fun j hj i2 r2 k2 s2 g2 t2=>?_
       by_cases hjn:j<n
       ·exact old j hjn i2 r2 k2 s2 g2 t2
       ·by_cases hjq:j=q
        ·subst hjq;rw[e1]at s2;cases s2;rw[he]at g2;have:r'=r2:=by
          have:=X1 g2;injection this with _ z
          injection z
         subst this;rw[<-hk'.inj t2];exact hkk
        ·obtain⟨i3,p1,p2⟩:=q3 j (by lia) (by lia);rw[s2]at p1;cases p1;rw[g2]at p2;intro z;rw[z]at p2;exact p2 hh
     dsimp only;rw[he];dsimp only;by_cases hled:(!t.led)=true
     ·rw[if_pos hled];refine Y2 (qI hk _ (fun y hy=>?_) ?_)
      ·obtain⟨e,he1,rfl⟩:=mem_map.mp hy;have he2:=(Array.mem_filter.mp (mem_toList_iff.mp he1)).1;obtain⟨i2,hi2⟩:=Array.getElem?_of_mem he2;obtain⟨r2,k2,rfl,hk2⟩:=el i2 e hi2;exact⟨r2,k2,rfl,hk2⟩
      ·simp only[false_eq_true,if_false];exact body
     ·rw[if_neg hled];exact body
 exact main 100000 0 none rfl (zero_le _) (by unfold turns at m1;lia) (fun j hj=>absurd hj (not_lt_zero _))
end
end STab
namespace STab
open PySem PySem.SetTable
structure IN (es:Array (Int×Value)) (t:SetTable) (led:Bool):Prop where
 wf:WF t es
 roomy:t.place.size*5<t.mask*3
 small:t.mask<=7\/t.mask+1<=8*es.size
 led:t.led=led
 plain:es.size≠0->t.plain=false
theorem IN.fits{es:Array (Int×Value)}{t:SetTable}{led:Bool}(I:IN es t led):t.fits es.size=true:=by
 unfold SetTable.fits fill;rw[I.wf.dum];have:=I.roomy;simp[I.wf.size];rw[<-I.wf.size]
 lia
theorem IN.fresh(finger moves:Nat)(led:Bool):IN #[] (SetTable.fresh finger moves led) led:=
 ⟨⟨⟨3,rfl⟩,W1 _,rfl,fun a b ha=>absurd ha (by simp[SetTable.fresh]),fun j hj=>by simp[SetTable.fresh]at hj,rfl,fun i j h x hi=>by simp[SetTable.fresh]at hi⟩,show 0*5<7*3 from by decide,.inl (W1 _),rfl,fun q=>absurd rfl q⟩
section
variable{prog:Program}{w:World}{K:Type}[DecidableEq K]{knd:KeyKind prog w K}{A:Around}{E:Value->Shared->Prop}{s:Shared}
theorem vm{a:Addr}{o:Obj}{es:Array (Int×Value)}{ep:Nat}{t:SetTable}{Q:Unit->Shared->Prop}(ho:s.heap.get? a=some o)(hd:o.data= .set es ep t)(hf:t.fits es.size=true)(hn:es.size<=1000)(h0:es.size≠0)(hp:t.plain=false)
 (h:∀es' t',es'.toList.Perm es.toList->IN es' t' t.led->t'.plain=false->Q () {s with heap:=s.heap.update a (Obj.putSet es' t')}):
 wpAny (model prog w) A (setRelay a (grown es.size)) Q E s:=by
 have hg:grown es.size=es.size*4:=by unfold grown;rw[if_neg (by lia)]
 rw[hg];obtain⟨k,k3,ek,lt,le⟩:=qH (n:=es.size*4) (by lia);have k8:8<=2^k:=le_trans (by decide:8<=2^3) (Nat.pow_le_pow_right (by decide) k3);have hb:2^k<=8*es.size\/2^k=8:=by
  rcases le with q|q
  ·exact .inl (by lia)
  ·exact .inr (by rw[q])
 have hle:2^k<=8000:=by rcases hb with q|q<;> lia
 let tm:SetTable:={t with mask:=2^k-1}
 obtain⟨t',order,e1,e2,e3,e4,e5,W,P⟩:=xf (t:=tm) (k:=k) (by show 2^k-1+1=2^k;lia) (by show 7<=2^k-1;lia) es (by show es.size<=2^k-1;lia) t.finger (t.movedTo (2^k-1)) t.led t.plain;have er:t.relaid (es.map (·.1)) (es.size*4)=some (t',order):=by
  unfold relaid;rw[ek];exact e1
 have sz:(order.filterMap (es[·]?)).size=es.size:=by rw[<-X2,P.length_eq,X2]
 unfold setRelay;refine Y2 (wpAny_setState_of ho hd hf ?_);dsimp only;rw[ek,if_neg (by rw[PySem.sizeLine_eq];lia)];rw[er];have em:t'.mask=2^k-1:=e2;have fin:=h (order.filterMap (es[·]?)) t' P ⟨W,by rw[em,W.size,sz];lia,by rw[em,sz];rcases hb with q|q<;> lia,e3,fun _=>by rw[e4];exact hp⟩ (by rw[e4];exact hp);refine Y2 ?_;show wpAny (model prog w) A (if((order.filterMap (es[·]?)).size != es.size)=true then _ else pure (order.filterMap (es[·]?),t')) _ E s;rw[if_neg (by simp[sz])];refine Y3 ?_;exact wpAny_storeSet_of ho hd fin (by rw[sz];exact le_trans hn (by decide))
theorem sO{a r:Addr}{k:List K}{o:Obj}{es:Array (Int×Value)}{ep:Nat}{t:SetTable}{led:Bool}{Q:Bool->Shared->Prop}(hu:A.units<cLine)(ho:s.heap.get? a=some o)(hd:o.data= .set es ep t)(I:IN es t led)(hn:es.size+1<=1000)
 (el:EL knd s.heap es) (hk:IsTupleKey knd s.heap k r) (hv:∀(s':Shared) (Q':Bool->Shared->Prop),IsTupleKey knd s'.heap k r->Q' false s'->wpAny (model prog w) A (hashByValue 8 (.ref r)) Q' E s')
 (h1:(∃(i:Nat) (r':Addr),es[i]? =some (tupleKeyHash knd k,Value.ref r')/\IsTupleKey knd s.heap k r')->Q false {s with toks:=s.toks+(k.length+1)})
 (h2:(∀(i:Nat) (r':Addr) (k':List K),es[i]? =some (tupleKeyHash knd k',Value.ref r')->IsTupleKey knd s.heap k' r'->k'≠k)->∀es' t' ep' h',h'.get? a=some {o with data:= .set es' ep' t'}->SameBut a s.heap h'->es'.toList.Perm (es.toList++[(tupleKeyHash knd k,Value.ref r)])->IN es' t' led->Q true {s with heap:=h',toks:=s.toks+(k.length+1)}):
 wpAny (model prog w) A (setAdd a (.ref r)) Q E s:=by
 unfold setAdd;refine wpAny_holding (Y2 (wpAny_pyHash_tuple hu hk ?_));unfold setAddHashed;refine wpAny_holding ?_;unfold setAddHashedIn;refine Y2 (wpAny_setState_of (s:={s with toks:=s.toks+(k.length+1)}) ho hd I.fits ?_);dsimp only;have ns:byScan (Value.ref r) es=false:=by unfold byScan;simp[Value.scannable]
 rw[ns];simp only[false_eq_true,if_false];have sm:t.mask<=9000:=by rcases I.small with q|q<;> lia
 have rm:=I.roomy;refine Y2 (nr (s:={s with toks:=s.toks+(k.length+1)}) hu ho hd I.wf (by lia) sm el hk (fun q=>?_) fun m m1 m2 m3=>?_)
 ·exact Y3 (h1 q)
 ·dsimp only;refine Y2 (wpAny_setState_of (s:={s with toks:=s.toks+(k.length+1)}) ho hd I.fits ?_);dsimp only;have W0:=I.wf;obtain⟨p1,p2,p3,p4,p5,p6,Wp⟩:=W0.put (x:=Value.ref r) m1 m2 t.led false;obtain⟨_,_,_,_,_,_,Wq⟩:=W0.put (x:=Value.ref r) m1 m2 (t.put (way t (tupleKeyHash knd k) m)).1.led (t.put (way t (tupleKeyHash knd k) m)).1.plain;have hpe:(t.put (way t (tupleKeyHash knd k) m)).2<=es.size:=by
   rw[p1,<-W0.size];exact(il W0.rise _).1
  have sz1:(insertAt es (t.put (way t (tupleKeyHash knd k) m)).2 (tupleKeyHash knd k,Value.ref r)).size=es.size+1:=gi _ _ _ hpe;have pm1:(insertAt es (t.put (way t (tupleKeyHash knd k) m)).2 (tupleKeyHash knd k,Value.ref r)).toList.Perm (es.toList++[(tupleKeyHash knd k,Value.ref r)]):=by
   rw[iI _ _ _ hpe];have q:=take_append_drop (t.put (way t (tupleKeyHash knd k) m)).2 es.toList;refine List.Perm.trans List.perm_middle ?_;rw[q];exact perm_append_comm (l₁:=[_])
  generalize hes:insertAt es (t.put (way t (tupleKeyHash knd k) m)).2 (tupleKeyHash knd k,Value.ref r)=es1 at Wp Wq sz1 pm1
  have tail:∀t2:SetTable,WF t2 es1->t2.mask=t.mask->t2.place.size=t.place.size+1->t2.led=led->t2.plain=false->
   wpAny (model prog w) A (do storeSet a es1 t2;if(!false&&t2.tooFull)=true then do setRelay a (grown (es.size+1));pure true else pure true) Q E {s with toks:=s.toks+(k.length+1)}:=fun t2 W2 e1 e2 e3 e4=>by
   have g1:(s.heap.update a (Obj.putSet es1 t2)).get? a=some {o with data:= .set es1 (ep+1) t2}:=by
    have q:=get?_update_self (Obj.putSet es1 t2) ho (by rw[putSet_of es1 t2 hd];rfl);rwa[putSet_of es1 t2 hd]at q
   have b1:=SameBut.update s.heap a (Obj.putSet es1 t2);refine Y2 (wpAny_storeSet_of (s:={s with toks:=s.toks+(k.length+1)}) ho hd ?_ (by rw[sz1];exact le_trans hn (by decide)));have hfull:t2.tooFull=true↔t2.mask*3<=t2.place.size*5:=by
    unfold tooFull fill;rw[W2.dum];simp
   have hroom:t2.place.size<=t2.mask:=by rw[e1,e2];have:=W0.big;lia
   by_cases hf:t2.tooFull=true
   ·rw[if_pos (by simp[hf])];have hfit:t2.fits es1.size=true:=by
     unfold SetTable.fits fill;rw[W2.dum];simp[W2.size];rw[<-W2.size];exact hroom
    rw[<-sz1];refine Y2 (vm (s:={s with heap:=s.heap.update a (Obj.putSet es1 t2),toks:=s.toks+(k.length+1)}) g1 rfl hfit (by lia) (by lia) e4 fun es2 t3 P3 I3 _=>Y3 ?_);have g2:((s.heap.update a (Obj.putSet es1 t2)).update a (Obj.putSet es2 t3)).get? a=some {o with data:= .set es2 (ep+1+1) t3}:=by
     have q:=get?_update_self (Obj.putSet es2 t3) g1 (by rw[putSet_of es2 t3 rfl];rfl);rwa[putSet_of es2 t3 rfl]at q
    exact h2 m3 es2 t3 _ _ g2 (b1.trans (SameBut.update _ a _)) (P3.trans pm1) (by rw[e3]at I3;exact I3)
   ·rw[if_neg (by simp[hf])];have hnf: ¬ t2.mask*3<=t2.place.size*5:=fun q=>hf (hfull.mpr q)
    refine Y3 (h2 m3 es1 t2 _ _ g1 b1 pm1 ⟨W2,by lia,?_,e3,fun _=>e4⟩);rw[e1,sz1];rcases I.small with q|q
    ·exact .inl q
    ·exact .inr (by lia)
  by_cases hpl:(t.put (way t (tupleKeyHash knd k) m)).1.plain=true
  ·rw[if_pos hpl];refine Y2 (hv _ _ hk ?_);simp only[false_eq_true,if_false];exact tail _ Wp p2 p3 I.led rfl
  ·rw[if_neg hpl];refine Y2 (Y3 ?_);simp only[if_true];exact tail _ Wq p2 p3 (p4.trans I.led) (by simpa using hpl)
end
end STab
namespace L2
open PySem PySem.Spec PyProof.Rows
section
variable{prog:Program}{w:World}{A:Around}{E:Value->Shared->Prop}{s:Shared}{I S T:Addr}
theorem sP{o:Obj}{es:Array (Int×Value)}{ep:Nat}{t:SetTable}{Q:Value->Shared->Prop}(ho:s.heap.get? S=some o)(hex:o.ExactSet)(hd:o.data= .set es ep t)(hb:es.size<scanBound)(hf:t.fits es.size=true)(hpl:es.size≠0->t.plain=false)(hled:t.led=!aN w)
 (hQ:∀(I T:Addr) (ord:List Value) (h':Heap) d,(∀b o,s.heap.get? b=some o->h'.get? b=some o)->s.heap.objs.size<=I->S≠I->(T=S\/s.heap.objs.size<=T)->T<h'.objs.size->I<h'.objs.size->ord.length=es.size->
  SIt w I S T o es ep t ord 0 h'->ord.Perm (es.toList.map (·.2))->Q (.ref I) {s with heap:=h',drawn:=d}):wpAny (model prog w) A (pyIter (.ref S)) Q E s:=by
 have hT:s.TypeIs (.ref S) "set":=⟨o,ho,hex.1⟩
 have slt:S<s.heap.objs.size:=V7 ho;refine wpAny_pyIter_slot hT F.slot_set_iter (wpAny_call_entry F.slot_set_iter hT gU ?_ (F.args_set_iter_1 _));unfold Builtin.«frozenset.__iter__»;refine Y2 (m:=Builtin.Frozenset.slot0 _ _) (Y2 (m:=slotArgs _ _ _) (Y3 (Y3 ?_)));refine Y2 (m:=Builtin.Frozenset.sizeOf S) (Y2 (wpAny_setEntries_of ho hd hf (Y3 ?_)));refine Y2 (m:=setDrawn S) ?_;unfold setDrawn;refine Y2 (wpAny_setState_of ho hd hf (Y2 (Y2 (wpAny_askSetting (Y3 (Y3 ?_))))));have fin:∀(first:Value) (s1:Shared) (T:Addr) (ord:List Value),s1.heap.get? S=some o->(∃d h1,s1={s with heap:=h1,drawn:=d})->(∀b o,s.heap.get? b=some o->s1.heap.get? b=some o)->T<s1.heap.objs.size->s.heap.objs.size<=s1.heap.objs.size->(T=S\/s.heap.objs.size<=T)->ord.Perm (es.toList.map (·.2))->
  ((aN w=true/\first=rawInt 0/\ord=(pickOrder (w.params.setOrder S ep) es).toList.map (·.2))\/(aN w=false/\first= .ref T/\∃ps:List Nat,s1.heap.get? T=some {cls:= .type "tuple",data:= .seq (ps.map fun(i:Nat)=>rawInt i).toArray}/\ps.length=ord.length/\∀(j p:Nat),ps[j]? =some p->∃e,es[p]? =some e/\ord[j]? =some e.2)\/(aN w=false/\es.size<=1/\ord=es.toList.map (·.2)/\first=rawInt 0))->ord.length=es.size->
  wpAny (model prog w) A.in1 (do ret (<-newFields "set_iterator" [first,rawInt 0,.ref S,rawInt es.size,rawInt (<-setEpoch S)])) (fun fin s'=>∃v,fin=Fin.done (Flow.ret v)/\∃T' r,s'.TypeIs v T'/\typeLookup (.type T') "__next__"=pure (some r)/\Q v s') (fun e s'=>E e s') s1:=by
  intro first s1 T ord h1 ⟨d,g1,e1⟩ k1 tl sl hTT q1 m hn
  subst e1;refine Y2 (wpAny_setEpoch_of h1 hd hf (Y2 (wpAny_newObj_type ?_)));have gI:(g1.push {cls:= .type "set_iterator",data:= .fields #[first,rawInt 0,.ref S,rawInt es.size,rawInt ep]}).get? g1.objs.size=some _:=W3 _ rfl;refine Y3 ⟨_,rfl,"set_iterator",_,⟨_,gI,rfl⟩,bp.lookup,hQ g1.objs.size T ord _ d (fun b o' e=>Y7 _ (k1 b o' e)) sl (V4 (V7 h1)) hTT (by rw[V0];exact lt_succ_of_lt tl) (by rw[V0];exact lt_succ_self _) hn ?_ q1⟩;refine⟨Y7 _ h1,first,gI,?_⟩;rcases m with m|⟨bt,e,ps,hTt,r⟩|⟨bt,h1',eo,e⟩
  ·exact .inl m
  ·exact .inr (.inl ⟨bt,e,V4 tl,ps,Y7 _ hTt,r⟩)
  ·exact .inr (.inr ⟨bt,h1',eo,fun _=>e,fun q=>absurd q (by decide)⟩)
 have lst:(es.toList.map (·.2)).length=es.size:=by rw[Y6,X2]
 by_cases bt:aN w=true
 ·show wpAny _ _ (if(!aN w&&_)=true then _ else _) _ _ _;rw[bt,Bool.not_true,Bool.false_and,if_neg (by decide)];refine Y2 (Y3 ?_);have pp:=(md (w.params.setOrder S ep) es).map (·.2);exact fin (rawInt 0) s S _ ho ⟨s.drawn,s.heap,rfl⟩ (fun _ _ e=>e) slt (W1 _) (.inl rfl) pp (.inl ⟨bt,rfl,rfl⟩) (by rw[pp.length_eq,lst])
 ·have bf:aN w=false:=by simpa using bt
  show wpAny _ _ (if(!aN w&&(!t.plain&&decide (es.size>1)))=true then _ else _) _ _ _;by_cases h1:es.size>1
  ·rw[bf,hpl (by lia),X7 h1];simp only[Bool.not_false,Bool.and_self,↓reduceIte];refine Y2 (m8 es.size (List.range es.size) _ _ (by simp) fun ps d pps=>Y2 ?_);refine wpAny_newTuple ?_ (by rw[Y6,pps.length_eq,length_range];exact fits_of_scanBound hb);have lt:∀p∈ps,p<es.size:=fun p q=>mem_range.mp (pps.mem_iff.mp q)
   have er:(List.range es.size).map (fun p=>((es[p]?).map (·.2)).getD .none)=es.toList.map (·.2):=by
    apply ext_getElem
    ·simp
    ·intro i q1 q2;simp at q1;simp[q1]
   have pp:(ps.map (fun p=>((es[p]?).map (·.2)).getD .none)).Perm (es.toList.map (·.2)):=by rw[<-er];exact pps.map _
   refine fin (.ref s.heap.objs.size) {s with heap:=_,drawn:=d} s.heap.objs.size (ps.map (fun p=>((es[p]?).map (·.2)).getD .none)) (Y7 _ ho) ⟨d,_,rfl⟩ (fun b o' e=>Y7 _ e) (by show _<(push _ _).objs.size;rw[V0];exact lt_succ_self _) (by show _<=(push _ _).objs.size;rw[V0];exact le_succ _) (.inr (W1 _)) pp
    (.inr (.inl ⟨bf,rfl,ps,W3 _ rfl,by rw[Y6],fun j p q=>?_⟩)) (by rw[pp.length_eq,lst])
   have hlt:=lt p (Y8 q);exact⟨es[p],by simp[hlt],by simp[q,hlt]⟩
  ·rw[bf,X9 h1];simp only[Bool.and_false,false_eq_true,↓reduceIte];refine Y2 (Y3 ?_);exact fin (rawInt 0) s S _ ho ⟨s.drawn,s.heap,rfl⟩ (fun _ _ e=>e) slt (W1 _) (.inl rfl) (List.Perm.refl _) (.inr (.inr ⟨bf,by lia,rfl,rfl⟩)) lst
theorem nt{o0:Obj}{es0:Array (Int×Value)}{ep0:Nat}{t0:SetTable}{Q:List Value->Shared->Prop}(hh:A.handled=none)(ho0:s.heap.get? S=some o0)(hex0:o0.ExactSet)(hd0:o0.data= .set es0 ep0 t0)(hb0:es0.size<scanBound)(hf0:t0.fits es0.size=true)(hpl0:es0.size≠0->t0.plain=false)(hled0:t0.led=!aN w)
 (hQ:∀s' vs,vs.Perm (es0.toList.map (·.2))->(∀b o,s.heap.get? b=some o->s'.heap.get? b=some o)->s'.gens=s.gens->s'.os=s.os->s.heap.objs.size<=s'.heap.objs.size->Q vs s'):wpAny (model prog w) A (collect (.ref S)) Q E s:=by
 unfold collect;refine Y2 (wpAny_runValue (codeAny_builtin F.entry_proto_collect ?_));rw[Around.under_plainId F.plain_proto_collect _];show wpAny _ A.in1 (newList []>>= fun l=>again (.builtin "list.__iadd__" ⟨[l,.ref S],[]⟩)) _ _ s;refine Y2 (wpAny_newObj_type (Y3 ⟨plainId_quiet F.plain_list_iadd _,codeAny_builtin F.entry_list_iadd ?_⟩));rw[Around.under_plainId F.plain_list_iadd _];have slt:S<s.heap.objs.size:=V7 ho0;show wpAny _ A.in1 (Builtin.List.listExtendWith (.ref s.heap.objs.size) (.ref S) (.ref s.heap.objs.size)) _ _ _;unfold Builtin.List.listExtendWith
 generalize hG:s.heap.push {cls:= .type "list",data:= .seq ([]:List Value).toArray}=G
 have gS:G.get? S=some o0:=by rw[<-hG];exact Y7 _ ho0
 have gz:G.objs.size=s.heap.objs.size+1:=by rw[<-hG,V0]
 have gL:G.get? s.heap.objs.size=some {cls:= .type "list",data:= .seq ([]:List Value).toArray}:=by rw[<-hG];exact W3 _ rfl
 have tS:Shared.TypeIs {s with heap:=G} (.ref S) "set":=⟨o0,gS,hex0.1⟩
 refine Y2 (wpAny_typeOf (T:="set") tS ?_);have n1:Builtin.List.listSameRef (.ref s.heap.objs.size) (.ref S)=false:=by
  show(s.heap.objs.size==S)=false;exact beq_eq_false_iff_ne.mpr (ne_of_gt slt)
 have n2:(Value.type "set"==Value.type "list")=false:=by decide
 have n3:(Value.type "set"==Value.type "tuple")=false:=by decide
 simp only[n1,n2,n3,Bool.or_false,false_eq_true,if_false];refine Y2 (sP (s:={s with heap:=G}) gS hex0 hd0 hb0 hf0 hpl0 hled0 fun I T ord h1 d k1 hI hSI hTT hTl hIl hn st q1=>?_);replace k1:∀b o,G.get? b=some o->h1.get? b=some o:=k1;replace hI:G.objs.size<=I:=hI;have gS1:h1.get? S=some o0:=k1 _ _ gS;refine Y2 (wpAny_holding ?_);unfold Builtin.List.listLengthHint;have tS1:Shared.TypeIs {s with heap:=h1,drawn:=d} (.ref S) "set":=⟨o0,gS1,hex0.1⟩
 refine Y2 (wpAny_specialOf (T:="set") tS1 iD ?_)
 wp_delta
 refine Y2 (wpAny_isInstance (T:="set") (b:=true) tS1 (by rw[isSubtype_type];kernel_rfl) ?_);show wpAny _ A.in1 (typeOf (.ref S)>>= _) _ _ _;refine Y2 (wpAny_typeOf (T:="set") tS1 (Y3 ?_));rw[if_pos (by decide)];refine Y2 (wpAny_rule ?_);have gL1:h1.get? s.heap.objs.size=some {cls:= .type "list",data:= .seq ([]:List Value).toArray}:=k1 _ _ gL;refine Y2 ?_;unfold Builtin.List.listTouch;refine Y2 (listUpdate_at (s:={s with heap:=h1,drawn:=d}) gL1 rfl ?_ (zero_le _) (by show 1<=sizeLine+1;lia));have gL2:=get?_update_self (Obj.mapSeq (·.push Value.none)) gL1 rfl;refine listUpdate_at (xs:= #[Value.none]) (n:=1) (s:={s with heap:=h1.update s.heap.objs.size (Obj.mapSeq (·.push Value.none)),drawn:=d}) gL2 rfl ?_ (by show 1<=sizeLine;decide) (by show 0<=sizeLine+1;lia);have gL3:=get?_update_self (Obj.mapSeq (·.pop)) gL2 rfl;have oth:∀b o,b≠s.heap.objs.size->h1.get? b=some o->((h1.update s.heap.objs.size (Obj.mapSeq (·.push Value.none))).update s.heap.objs.size (Obj.mapSeq (·.pop))).get? b=some o:=fun b o hb e=>(get?_update_other _ _ (Ne.symm hb)).trans ((get?_update_other _ _ (Ne.symm hb)).trans e)
 have neI:s.heap.objs.size≠I:=V4 (X8 (by rw[gz];exact lt_succ_self _) hI);have neT:s.heap.objs.size≠T:=by
  rcases hTT with e|e
  ·rw[e];exact ne_of_gt slt
  ·exact V4 (X8 (by show s.heap.objs.size<G.objs.size;rw[gz];exact lt_succ_self _) e)
 have nfp:s.heap.objs.size∉[I,S,T]:=by
  simp only[mem_cons,not_mem_nil,or_false,not_or];exact⟨neI,ne_of_gt slt,neT⟩
 have hbn:ord.length<=sizeLine:=by rw[hn];exact fits_of_scanBound hb0
 have W:=ml (prog:=prog) (A:=A.in1) (T:=T) (show A.in1.handled=none from hh) hd0 hf0 hled0 hSI hn;have st2:=W.frame 0 h1 ((h1.update s.heap.objs.size (Obj.mapSeq (·.push Value.none))).update s.heap.objs.size (Obj.mapSeq (·.pop))) st fun b hb o' e=>oth b o' (fun q=>nfp (q▸hb)) e
 refine Y3 ⟨plainId_quiet F.plain_extend_loop _,codeAny_extend_loopS W.toS hbn _ nfp _ ord.length 0 _ _ _ rfl (zero_le _) st2 gL3 (ItemsOf.nil _) fun s5 acc c5 m5 gL5 hacc=>?_⟩;show wpAny _ A (load s.heap.objs.size>>= _) _ _ s5;refine Y2 (wpAny_load gL5 (Y3 ?_));have ea:acc.toList=ord:=by
  apply ext_getElem?;intro j;by_cases hj:j<ord.length
  ·have hj':j<acc.size:=by rw[hacc.1];exact hj
   have:=hacc.2 j acc[j] (by simp[hj']);rw[this];simp[hj']
  ·have l1:acc.toList.length=ord.length:=by rw[X2];exact hacc.1
   rw[List.getElem?_eq_none (l:=acc.toList) (by lia),List.getElem?_eq_none (l:=ord) (by lia)]
 rw[ea];refine hQ s5 ord q1 (fun b o' e=>?_) m5.gens m5.os (le_of_lt (V7 gL5));have blt:=V7 e;refine m5.heap b o' ?_ (oth b o' (V4 blt) (k1 b o' (by rw[<-hG];exact Y7 _ e)));simp only[mem_cons,not_mem_nil,or_false,not_or];exact⟨V4 blt,V4 (X8 blt (le_trans (by rw[gz];exact le_succ _) hI))⟩
end
open PySem PySem.Spec PyProof.Rows STab
noncomputable def e7{κ:Type}[DecidableEq κ](ps:List (Addr×κ))(p:Addr×κ):List (Addr×κ):=if p.2∈ps.map (·.2)then ps else ps++[p]
noncomputable def aS{κ:Type}[DecidableEq κ](l:List (Addr×κ)):List (Addr×κ):=l.foldl e7 []
section
variable{κ:Type}[DecidableEq κ]
theorem vo{ps:List (Addr×κ)}{p q:Addr×κ}(h:q∈e7 ps p):q∈ps\/q=p:=by
 unfold e7 at h
 split at h
 ·exact .inl h
 ·rcases mem_append.mp h with h|h
  ·exact .inl h
  ·exact .inr (mem_singleton.mp h)
theorem sQ{ps:List (Addr×κ)}{p:Addr×κ}{k:κ}:k∈(e7 ps p).map (·.2)↔k∈ps.map (·.2)\/k=p.2:=by
 unfold e7;by_cases h:p.2∈ps.map (·.2)
 ·rw[if_pos h];exact⟨.inl,fun q=>q.elim id fun e=>e▸h⟩
 ·rw[if_neg h,X4,mem_append];simp
theorem qJ{ps:List (Addr×κ)}{p:Addr×κ}(h:(ps.map (·.2)).Nodup):((e7 ps p).map (·.2)).Nodup:=by
 unfold e7
 split
 ·exact h
 ·rename_i hn
  rw[X4];exact jX h hn
theorem rs:∀(l ps:List (Addr×κ)),(ps.map (·.2)).Nodup->((l.foldl e7 ps).map (·.2)).Nodup/\(∀k,k∈(l.foldl e7 ps).map (·.2)↔k∈ps.map (·.2)\/k∈l.map (·.2))/\(∀q∈l.foldl e7 ps,q∈ps\/q∈l)
 |[],ps,h=>⟨h,fun k=>by simp,fun q hq=> .inl hq⟩
 | p::l,ps,h=>by
   obtain⟨h1,h2,h3⟩:=rs l (e7 ps p) (qJ h);rw[foldl_cons];refine⟨h1,fun k=>?_,fun q hq=>?_⟩
   ·rw[h2,sQ,map_cons,mem_cons];exact⟨fun h=>h.elim (fun h=>h.elim .inl fun e=> .inr (.inl e)) fun h=> .inr (.inr h),fun h=>h.elim (fun h=> .inl (.inl h)) fun h=>h.elim (fun e=> .inl (.inr e)) .inr⟩
   ·rcases h3 q hq with z|z
    ·rcases vo z with z|z
     ·exact .inl z
     ·exact .inr (by rw[z];exact W6)
    ·exact .inr (W4 _ z)
theorem eO(l:List (Addr×κ)):((aS l).map (·.2)).Nodup:=(rs l [] nodup_nil).1
theorem iJ(l:List (Addr×κ))(k:κ):k∈(aS l).map (·.2)↔k∈l.map (·.2):=by
 have:=(rs l [] nodup_nil).2.1 k;simpa [aS]using this
theorem du(l:List (Addr×κ)):∀q∈aS l,q∈l:=fun q hq=>by
 rcases(rs l [] nodup_nil).2.2 q hq with z|z
 ·cases z
 ·exact z
theorem nu(val:Nat->Addr×κ)(i:Nat):aS ((List.range (i+1)).map val)=e7 (aS ((List.range i).map val)) (val i):=by
 unfold aS;rw[range_succ,X4,List.foldl_append];rfl
end
section
variable{prog:Program}{w:World}{κ:Type}[DecidableEq κ]{knd:PySem.KeyKind prog w κ}{A:Around}{E:Value->Shared->Prop}{s:Shared}{a:Addr}
noncomputable def jd(w:World)(knd:PySem.KeyKind prog w κ)(a:Addr)(ps:List (Addr×List κ))(h:Heap):Prop:=
 ∃o es ep t,h.get? a=some o/\o.ExactSet/\o.data= .set es ep t/\IN es t (!aN w)/\es.toList.Perm (ps.map fun p=>(tupleKeyHash knd p.2,Value.ref p.1))
theorem jd.keep{ps:List (Addr×List κ)}{h h':Heap}(S:jd w knd a ps h)(k:∀o,h.get? a=some o->h'.get? a=some o):jd w knd a ps h':=by
 obtain⟨o,es,ep,t,ho,r⟩:=S;exact⟨o,es,ep,t,k o ho,r⟩
theorem iK{h h':Heap}{k:List κ}{r:Addr}(x:IsTupleKey knd h k r)(q:∀o,h.get? r=some o->h'.get? r=some o):IsTupleKey knd h' k r:=by
 obtain⟨o,items,n,ho,z⟩:=x;exact⟨o,items,n,q o ho,z⟩
theorem vp{ps:List (Addr×List κ)}{p:Addr×List κ}{Q:Bool->Shared->Prop}(hu:A.units<cLine)(hS:jd w knd a ps s.heap)(tk:∀q∈ps,IsTupleKey knd s.heap q.2 q.1)(hk:IsTupleKey knd s.heap p.2 p.1)(room:ps.length+1<=1000)
 (hv:∀(s':Shared) (Q':Bool->Shared->Prop),IsTupleKey knd s'.heap p.2 p.1->Q' false s'->wpAny (model prog w) A (hashByValue 8 (.ref p.1)) Q' E s')
 (hQ:∀h' b tk,SameBut a s.heap h'->jd w knd a (e7 ps p) h'->s.toks<=tk->Q b {s with heap:=h',toks:=tk}):wpAny (model prog w) A (setAdd a (.ref p.1)) Q E s:=by
 obtain⟨o,es,ep,t,ho,hex,hd,I,P⟩:=hS;have hn:es.size=ps.length:=by
  have:=P.length_eq;rw[Y6,X2]at this;exact this
 have mem:∀(i:Nat) e,es[i]? =some e->∃q∈ps,e=(tupleKeyHash knd q.2,Value.ref q.1):=fun i e he=>by
  have:e∈es.toList:=mem_toList_iff.mpr (Array.mem_of_getElem? he);obtain⟨q,hq,rfl⟩:=mem_map.mp (P.mem_iff.mp this);exact⟨q,hq,rfl⟩
 have el:EL knd s.heap es:=fun i e he=>by
  obtain⟨q,hq,rfl⟩:=mem i e he;exact⟨q.1,q.2,rfl,tk q hq⟩
 refine sO hu ho hd I (by lia) el hk hv (fun⟨i,r',e,k'⟩=>?_) fun hnone es' t' ep' h' g' sb P' I'=>?_
 ·obtain⟨q,hq,eq⟩:=mem i _ e;have er:r'=q.1:=by injection eq with _ z;injection z
  subst er;have ek:p.2=q.2:=k'.inj (tk q hq);refine hQ s.heap false _ (SameBut.refl a s.heap) ?_ (le_add_right _ _);unfold e7;rw[if_pos (mem_map.mpr ⟨q,hq,ek.symm⟩)];exact⟨o,es,ep,t,ho,hex,hd,I,P⟩
 ·refine hQ h' true _ sb ?_ (le_add_right _ _);unfold e7;rw[if_neg]
  ·refine⟨_,es',ep',t',g',hex,rfl,I',P'.trans ?_⟩;rw[X4];exact P.append_right _
  ·intro hm;obtain⟨q,hq,e⟩:=mem_map.mp hm;have:(tupleKeyHash knd q.2,Value.ref q.1)∈es.toList:=P.mem_iff.mpr (mem_map.mpr ⟨q,hq,rfl⟩);obtain⟨i,hi⟩:=List.getElem?_of_mem this;exact hnone i q.1 q.2 (by simpa using hi) (tk q hq) e
end
section
variable{prog:Program}{w:World}{κ:Type}[DecidableEq κ]{knd:PySem.KeyKind prog w κ}{A:Around}{R:Result->Shared->Prop}{I:Addr}{fp wr:List Addr}{G:Array GenState->Array GenState->Prop}{n:Nat}{P:Nat->Value->Prop}{St:Nat->Shared->Prop}
theorem lE(W:WalksS prog w A.in1 I fp wr G n P St)(S:Addr)(hSf:S∉fp)(hu:A.in1.units<cLine)(val:Nat->Addr×List κ)(hval:∀i v,i<n->P i v->v= .ref (val i).1)(U:List (List κ))(hU:U.length<=999)(hkU:∀i,i<n->(val i).2∈U)(hout:∀i,i<n->(val i).1≠S/\(val i).1∉wr)
 (hv:∀i,i<n->∀(s':Shared) (Q':Bool->Shared->Prop) (E':Value->Shared->Prop),IsTupleKey knd s'.heap (val i).2 (val i).1->Q' false s'->wpAny (model prog w) A.in1 (hashByValue 8 (.ref (val i).1)) Q' E' s'):
 ∀(k i:Nat) (s:Shared),n-i=k->i<=n->St i s->jd w knd S (aS ((List.range i).map val)) s.heap->(∀j,j<n->IsTupleKey knd s.heap (val j).2 (val j).1)->
  (∀s',Moved (S::wr) G s s'->jd w knd S (aS ((List.range n).map val)) s'.heap->R (.ok (.ret .none)) s')->codeAny (model prog w) A (.builtin "set.update.loop" ⟨[.ref S,.ref I],[]⟩) R s:=by
 have out:S∉wr:=fun h=>hSf (W.sub _ h)
 have more:∀b∈wr,b∈S::wr:=fun b hb=>W4 _ hb
 intro k
 induction k with
 | zero=>
   intro i s hk hi st hS tk fin;have e:i=n:=by lia
   subst e;refine codeAny_builtin F.entry_set_update_loop ?_;rw[Around.under_plainId F.plain_set_update_loop _];show wpAny _ A.in1 (pyNext (.ref I)>>= _) _ _ s;refine Y2 (W.done s _ _ st fun s1 m1=>?_);show wpAny _ A.in1 (ret Value.none) _ _ s1;exact Y3 (fin s1 (m1.mono more) (hS.keep fun o e=>m1.heap S o out e))
 | succ k ih=>
   intro i s hk hi st hS tk fin;have lt:i<n:=by lia
   refine codeAny_builtin F.entry_set_update_loop ?_;rw[Around.under_plainId F.plain_set_update_loop _];show wpAny _ A.in1 (pyNext (.ref I)>>= _) _ _ s;refine Y2 (W.item i s _ _ lt st fun v s1 pv st1 m1=>?_);obtain rfl:=hval i v lt pv;have hS1:=hS.keep (h':=s1.heap) fun o e=>m1.heap S o out e
   have tk1:∀j,j<n->IsTupleKey knd s1.heap (val j).2 (val j).1:=fun j hj=>iK (tk j hj) fun o e=>m1.heap _ o (hout j hj).2 e
   have tkf:∀q∈aS ((List.range i).map val),IsTupleKey knd s1.heap q.2 q.1:=fun q hq=>by
    obtain⟨j,hj,rfl⟩:=mem_map.mp (du _ q hq);exact tk1 j (by have:=mem_range.mp hj;lia)
   have room:(aS ((List.range i).map val)).length+1<=1000:=by
    have q:=nodup_sub (eO ((List.range i).map val)) (m:=U) fun k hk=>by
     obtain⟨p,hp,rfl⟩:=mem_map.mp ((iJ _ k).mp hk);obtain⟨j,hj,rfl⟩:=mem_map.mp hp;exact hkU j (by have:=mem_range.mp hj;lia)
    rw[Y6]at q
    lia
   show wpAny _ A.in1 (holding [Value.ref (val i).1] (setAdd S (.ref (val i).1))>>= _) _ _ s1;refine Y2 (wpAny_holding (vp (p:=val i) hu hS1 tkf (tk1 i lt) room (fun s' Q'=>hv i lt s' Q' _) fun h2 b tk2 sb hS2 htk=>?_));have hS2':jd w knd S (aS ((List.range (i+1)).map val)) h2:=by rw[nu];exact hS2
   refine Y3 ⟨plainId_quiet F.plain_set_update_loop _,ih (i+1) _ (by lia) lt (W.frame _ s1 _ _ st1 htk fun b hb o e=>?_) hS2' (fun j hj=>iK (tk1 j hj) fun o e=>by rw[sb.2 _ (hout j hj).1];exact e) fun s3 m3 hS3=>?_⟩
   ·rw[sb.2 b (fun q:b=S=>hSf (q▸hb))];exact e
   ·refine fin s3 (Moved.trans W.gtrans ((m1.mono more).then_heap htk fun b o hb e=>?_) m3) hS3;rw[sb.2 b (fun q:b=S=>hb (by rw[q];exact W6))];exact e
end
section
variable{prog:Program}{w:World}{κ:Type}[DecidableEq κ]{knd:PySem.KeyKind prog w κ}{A:Around}{E:Value->Shared->Prop}{s:Shared}
theorem lF{l:Addr}{items:Array Value}{ps:List (Addr×List κ)}{Q:Value->Shared->Prop}(hh:A.handled=none)(hu:A.units+16<cLine)(hl:s.heap.IsList l items)(hi:items.toList=ps.map fun p=>Value.ref p.1)(tk:∀p∈ps,IsTupleKey knd s.heap p.2 p.1)(U:List (List κ))(hU:U.length<=999)(hkU:∀p∈ps,p.2∈U)
 (hv:∀p∈ps,∀(B:Around) (s':Shared) (Q':Bool->Shared->Prop) (E':Value->Shared->Prop),IsTupleKey knd s'.heap p.2 p.1->Q' false s'->wpAny (model prog w) B (hashByValue 8 (.ref p.1)) Q' E' s')
 (hQ:∀(h':Heap) (tk:Nat),jd w knd s.heap.objs.size (aS ps) h'->(∀b o,s.heap.get? b=some o->h'.get? b=some o)->Q (.ref s.heap.objs.size) {s with heap:=h',toks:=tk}):
 wpAny (model prog w) A (call (.type "set") [.ref l]) Q E s:=by
 obtain⟨c,tl,hmro⟩:=called_set.mro;have hmade:=called_set.made;have hsub:=called_set.sub;refine wpAny_call (codeAny_of_tree ?_);show wpAny _ _ (callAny (.type "set") _) _ _ _;refine Y3 ⟨Code.quiet_builtin _ (by decide +kernel),codeAny_builtin F.entry_type_call ?_⟩;rw[Around.under_plain (weight_type_call_type "set" [.ref l] []) rfl];have ht1:=called_set.notType;have ht2:=called_set.canCreate;have ht3:=PySem.F.typeCall_set_1 (.ref l)
 repeat any_goals first|assumption|wp_step
 refine codeAny_mono (oj (.ref l) (E:=E) (Q₁:=fun obj s₁=>obj= .ref s.heap.objs.size/\s₁={s with heap:=s.heap.push (bo w)}) ⟨rfl,rfl⟩) fun r s₁ hr=>?_
 cases r with
 | error e=>exact hr
 | ok fl=>
   cases fl with
   | ret obj=>
     obtain⟨rfl,rfl⟩:=hr;have gS:(s.heap.push (bo w)).get? s.heap.objs.size=some (bo w):=W3 _ rfl;have tS:Shared.TypeIs {s with heap:=s.heap.push (bo w)} (.ref s.heap.objs.size) "set":=⟨_,gS,rfl⟩
     have hli:=called_set.init.lookup;have hbi:=called_set.init.bind (.ref s.heap.objs.size)
     repeat any_goals first|assumption|wp_step
     refine codeAny_mono (codeAny_call_builtin (R:=wants (fun r s₂=>r= .none/\∃h' tk,s₂={s with heap:=h',toks:=tk}/\jd w knd s.heap.objs.size (aS ps) h'/\(∀b o,s.heap.get? b=some o->h'.get? b=some o)) E) called_set.init.plain F.entry_set_init (check_set_init_1 tS ?_)) fun r₂ s₂ hr₂=>?_
     ·obtain⟨ol,gl,cl,nl,dl⟩:=hl;obtain⟨ocls,odict,odata,oslots⟩:=ol;simp only at cl dl;subst cl;subst dl;have gl':(s.heap.push (bo w)).get? l=some {cls:= .type "list",dict:=odict,data:= .seq items nl,slots:=oslots}:=Y7 _ gl;have no1:=PySem.F.sub_list_set;have no2:=PySem.F.sub_list_frozenset;have no3:(Value.type "list"==Value.type "dict")=false:=by decide
      have isl:(s.heap.push (bo w)).IsList l items:=⟨_,gl',rfl,nl,rfl⟩
      unfold Builtin.«set.__init__»;unfold noKeywords;unfold Builtin.Frozenset.updateFrom
      generalize hPI:pyIter=PI
      wp_walk
      subst hPI;refine wpAny_pyIter_list isl (Y2 (wpAny_runValue ?_));have llt:l<s.heap.objs.size:=V7 gl;have h3:A.in1.in1.in1.handled=none:=by simp[hh]
      have nz:(s.heap.push (bo w)).objs.size=s.heap.objs.size+1:=V0 ..;have ne1:l≠(s.heap.push (bo w)).objs.size:=by rw[nz];exact V4 (lt_succ_of_lt llt)
      have ne2:s.heap.objs.size∉[(s.heap.push (bo w)).objs.size,l]:=by
       rw[nz];simp only[mem_cons,not_mem_nil,or_false,not_or];exact⟨V4 (lt_succ_self _),ne_of_gt llt⟩
      have hlen:items.size=ps.length:=by rw[<-X2,hi,Y6]
      have hun:A.in1.in1.in1.units<cLine:=by simp only[Around.in1];lia
      have vat:∀i,i<items.size->∃p∈ps,ps[i]? =some p/\ps.getD i (0,[])=p:=fun i h=>by
       have h':i<ps.length:=by lia
       exact⟨ps[i],getElem_mem h',by simp[h'],by simp[X3,h']⟩
      refine lE (knd:=knd) ((Walks.list h3 _ l ne1 items).toS) s.heap.objs.size ne2 hun (fun i=>ps.getD i (0,[])) (fun i v hlt hv'=>?_) U hU (fun i hlt=>?_) (fun i hlt=>?_) (fun i hlt=>?_) (items.size-0) 0 _ (by lia) (zero_le _)
       ⟨⟨_,W3 _ rfl,rfl,rfl⟩,isl.push _⟩ ⟨_,#[],0,_,Y7 _ gS,⟨rfl,rfl,rfl⟩,rfl,IN.fresh 0 0 _,List.Perm.refl _⟩ (fun j hlt=>?_) ?_
      ·obtain⟨p,hp,e1,e2⟩:=vat i hlt;have:items.toList[i]? =some v:=by rw[getElem?_toList];exact hv'
       rw[hi,W5,e1]at this;show v= .ref (ps.getD i (0,[])).1;rw[e2];exact(X1 this).symm
      ·obtain⟨p,hp,e1,e2⟩:=vat i hlt;show(ps.getD i (0,[])).2∈U;rw[e2];exact hkU p hp
      ·obtain⟨p,hp,e1,e2⟩:=vat i hlt;obtain⟨po,_,_,pg,_⟩:=tk p hp;have plt:=V7 pg;show(ps.getD i (0,[])).1≠_/\(ps.getD i (0,[])).1∉_;rw[e2];refine⟨V4 plt,?_⟩;simp only[mem_cons,not_mem_nil,or_false,nz];exact V4 (lt_succ_of_lt plt)
      ·obtain⟨p,hp,e1,e2⟩:=vat i hlt;intro s' Q' E';show IsTupleKey knd s'.heap (ps.getD i (0,[])).2 (ps.getD i (0,[])).1->_->wpAny _ _ (hashByValue 8 (.ref (ps.getD i (0,[])).1)) _ _ _;rw[e2];exact hv p hp _ s' Q' E'
      ·obtain⟨p,hp,e1,e2⟩:=vat j hlt;show IsTupleKey knd _ (ps.getD j (0,[])).2 (ps.getD j (0,[])).1;rw[e2];exact iK (tk p hp) fun o e=>Y7 _ (Y7 _ e)
      intro s3 m3 S3;have hr:(List.range items.size).map (fun i=>ps.getD i (0,[]))=ps:=by
       rw[hlen];apply ext_getElem
       ·simp
       ·intro i h1 h2;simp[X3,h2]
      rw[hr]at S3;obtain⟨h',g',d',tk',os'⟩:=s3;have eg:g'=s.gens:=m3.gens;have ed:d'=s.drawn:=m3.drawn;have eo:os'=s.os:=m3.os;subst eg;subst ed;subst eo;refine Y3 ?_;show wpAny _ _ (ret Value.none) _ _ _;refine Y3 ⟨rfl,h',tk',rfl,S3,fun b o e=>?_⟩;have blt:=V7 e;refine m3.heap b o ?_ (Y7 _ (Y7 _ e));simp only[mem_cons,not_mem_nil,or_false,not_or,nz];exact⟨V4 blt,V4 (lt_succ_of_lt blt)⟩
     ·cases r₂ with
      | error e=>exact hr₂
      | ok fl₂=>
        cases fl₂ with
        | ret r=>
          obtain⟨rfl,h',tk,rfl,S3,k3⟩:=hr₂
          repeat any_goals first|assumption|wp_step
          exact hQ _ _ S3 k3
        | _=>exact hr₂.elim
   | _=>exact hr.elim
end
section
variable{prog:Program}{w:World}{A:Around}{s:Shared}
theorem eP{a:Addr}{vs:List Value}{n:Nat}{kd:SortKind}{Nv:Value->Nat}{P:Fin->Shared->Prop}{E:Value->Shared->Prop}(ho:s.heap.get? a=some (seqObj "list" vs.toArray n))(hsz:vs.length<=100000)
 (hkk:∀h6:Heap,(∀b o,b≠a->s.heap.get? b=some o->h6.get? b=some o)->2<=vs.length->∀Q:SortKind->Shared->Prop,Q kd {s with heap:=h6}->wpAny (model prog w) A (keyKind' vs.toArray) Q E {s with heap:=h6})
 (hc:∀h6:Heap,(∀b o,b≠a->s.heap.get? b=some o->h6.get? b=some o)->SBig.Cmp prog w A (fun s'=>s'={s with heap:=h6}) kd (fun x=>x.1∈vs) (fun x=>Nv x.1))
 (h:∀out:List Value,out.Perm vs->out.Pairwise (fun x y=>Nv x<=Nv y)->P (.done (.ret .none)) {s with heap:=sortedHeap s.heap a vs out.toArray}):
 wpAny (model prog w) A (Builtin.«list.sort» ⟨[.ref a],[]⟩) P E s:=by
 rw[list_sort_plain];have ha:a<s.heap.objs.size:=V7 ho;have hsl:vs.length<=sizeLine:=le_trans hsz (by decide);refine Y2 (listItems_at ho rfl ?_);refine Y2 (listUpdate_at ho rfl ?_ (by simpa using hsl));obtain⟨e1,ho1⟩:∃e1,(s.heap.update a (Obj.mapSeq fun _=> #[])).get? a=some (seqObj "list" #[] e1):=⟨_,get?_update_seq ho (fun _=> #[])⟩
 refine Y2 (seqEpoch_at ho1 rfl ?_);refine Y2 (wpAny_newTuple ?_ (by simpa using hsl));refine Y2 (wpAny_newList ?_);refine wpAny_holding ?_;have keep:∀b o,b≠a->s.heap.get? b=some o->(((s.heap.update a (Obj.mapSeq fun _=> #[])).push (seqObj "tuple" vs.toArray 0)).push (seqObj "list" #[] 0)).get? b=some o:=fun b o hb e=>
  Y7 _ (Y7 _ ((get?_update_other _ _ (Ne.symm hb)).trans e))
 have ho6:(((s.heap.update a (Obj.mapSeq fun _=> #[])).push (seqObj "tuple" vs.toArray 0)).push (seqObj "list" #[] 0)).get? a=some (seqObj "list" #[] e1):=by
  rw[Heap.get?_push_ne _ _ _ (by rw[size_push',Heap.size_update];exact V4 (lt_succ_of_lt ha)),Heap.get?_push_ne _ _ _ (by rw[Heap.size_update];exact V4 ha)];exact ho1
 have hkk:=hkk _ keep;have hc:=hc _ keep;show wpAny (model prog w) A _ P E {s with heap:=((s.heap.update a (Obj.mapSeq fun _=> #[])).push (seqObj "tuple" vs.toArray 0)).push (seqObj "list" #[] 0)};dsimp only;have hvs:vs.toArray.size=vs.length:=by simp
 have zp:(vs.toArray.zip vs.toArray).toList=vs.map fun v=>(v,v):=by
  rw[Array.toList_zip,toList_toArray];apply ext_getElem
  ·simp
  ·intro i h1 h2;simp
 have fin:∀st':SortSt,(arrOf st').toList.Perm (vs.map fun v=>(v,v))->SBig.Srt (fun x=>Nv x.1) (arrOf st').toList->P (.done (.ret .none)) {s with heap:=sortedHeap s.heap a vs ((arrOf st').map (·.2))}:=by
  intro st' hp hs;have eq:∀x∈(arrOf st').toList,x.1=x.2:=fun x hx=>by
   obtain⟨v,_,rfl⟩:=mem_map.mp (hp.mem_iff.mp hx);rfl
  have e:(arrOf st').map (·.2)=((arrOf st').toList.map (·.2)).toArray:=by
   apply Array.ext';simp
  rw[e];refine h _ ?_ ?_
  ·have:=hp.map (·.2);rwa[map_map,show((fun x:Keyed=>x.2) ∘ fun v:Value=>(v,v))=id from rfl,map_id]at this
  ·rw[pairwise_map];exact List.Pairwise.imp_of_mem (fun{x y} hx hy q=>by rw[<-eq x hx,<-eq y hy];exact q) hs
 by_cases h2:vs.toArray.size<2
 ·rw[if_pos h2,if_pos h2];refine Y2 (Y3 ?_);rw[StateT.run_pure];refine Y2 (Y3 ?_);dsimp only;refine Y2 (seqEpoch_at ho6 rfl ?_);refine Y2 (listUpdate_at ho6 rfl ?_ (hsz2:=by rw[size_map];show(pairsOf vs).size<=_;rw[pairsOf_size,sizeLine_eq];lia));simp only[bne_self_eq_false,false_eq_true,if_false];refine Y3 (fin (SortSt.mk' general' (vs.toArray.zip vs.toArray) #[] 7 none) (by show(vs.toArray.zip vs.toArray).toList.Perm _;rw[zp]) ?_);show List.Pairwise _ (vs.toArray.zip vs.toArray).toList;rw[zp]
  match vs,hvs,h2 with
  |[],_,_=>exact List.Pairwise.nil
  |[v],_,_=>exact List.pairwise_singleton _ _
  | v1::v2::r,h3,h4=>simp at h4;lia
 ·rw[if_neg h2,if_neg h2];refine Y2 (hkk (by lia) _ ?_);refine Y2 (wpAny_mono (SBig.sc_sortRuns (D:=fun x=>x.1∈vs) (st:=SortSt.mk' kd (vs.toArray.zip vs.toArray) #[] 7 none) hc (fun x hx=>?_) ?_ rfl rfl
   (Q:=fun _ st'=>(arrOf st').toList.Perm (vs.map fun v=>(v,v))/\failedOf st'=none/\SBig.Srt (fun x=>Nv x.1) (arrOf st').toList) (fun st' a1 a2 a3=>⟨?_,a3,a2⟩) _ rfl) ?_ fun _ _ e=>e.elim)
  ·have hx:x∈(vs.toArray.zip vs.toArray).toList:=hx;rw[zp]at hx;obtain⟨v,hv,rfl⟩:=mem_map.mp hx;exact hv
  ·show 1<=(vs.toArray.zip vs.toArray).size;rw[<-X2,zp,Y6]
   lia
  ·have a1:(arrOf st').toList.Perm (vs.toArray.zip vs.toArray).toList:=a1;rwa[zp]at a1
  ·rintro⟨⟨⟩,st'⟩ s' ⟨rfl,hp,hf,hs⟩;dsimp only at hp hf hs ⊢;refine Y2 (seqEpoch_at ho6 rfl ?_);refine Y2 (listUpdate_at ho6 rfl ?_ (hsz2:=?_))
   ·rw[hf];simp only[bne_self_eq_false,false_eq_true,if_false];exact Y3 (fin st' hp hs)
   ·rw[size_map,<-X2,hp.length_eq,Y6];exact Nat.le_succ_of_le hsl
end
noncomputable def iL(x y:Str):Bool:=decide (x.cps.toList<y.cps.toList)
noncomputable def cy:List Str->List Str->Bool
 |[],[]=>false
 |[],_::_=>true
 | _::_,[]=>false
 | x::xs,y::ys=>if x=y then cy xs ys else iL x y
theorem rz(x:Str):iL x x=false:=X9 (List.lt_irrefl _)
theorem zn{x y:Str}(h:x.cps.toList=y.cps.toList):x=y:=by
 obtain⟨⟨l⟩⟩:=x;obtain⟨⟨m⟩⟩:=y;simp at h;rw[h]
theorem sS{x y z:Str}(h1:iL x y=true)(h2:iL y z=true):iL x z=true:=X7 (List.lt_trans (W8 h1) (W8 h2))
theorem sU{x y:Str}(h:iL x y=false)(hn:x≠y):iL y x=true:=by
 have h1: ¬ x.cps.toList<y.cps.toList:=of_decide_eq_false h;have h2:y.cps.toList<=x.cps.toList:=h1;refine X7 (Classical.byContradiction fun h3=>hn (zn ?_));exact List.le_antisymm h3 h2
theorem rA:∀x:List Str,cy x x=false
 |[]=>rfl
 | x::xs=>by rw[cy,if_pos rfl];exact rA xs
theorem gH:∀{x y z:List Str},cy x y=true->cy y z=true->cy x z=true
 |[],[],z,h1,h2=>by cases h1
 |[],y::ys,[],h1,h2=>by cases h2
 |[],y::ys,z::zs,h1,h2=>rfl
 | x::xs,[],z,h1,h2=>by cases h1
 | x::xs,y::ys,[],h1,h2=>by cases h2
 | x::xs,y::ys,z::zs,h1,h2=>by
   rw[cy]at h1 h2 ⊢;by_cases e1:x=y
   ·rw[if_pos e1]at h1;subst e1;by_cases e2:x=z
    ·rw[if_pos e2]at h2 ⊢;exact gH h1 h2
    ·rw[if_neg e2]at h2 ⊢;exact h2
   ·rw[if_neg e1]at h1;by_cases e2:y=z
    ·rw[if_pos e2]at h2;subst e2;rw[if_neg e1];exact h1
    ·rw[if_neg e2]at h2;have h3:=sS h1 h2;have e3:x≠z:=fun e=>by rw[e,rz]at h3;cases h3
     rw[if_neg e3];exact h3
theorem je:∀{x y:List Str},cy x y=false->x≠y->cy y x=true
 |[],[],h1,h2=>absurd rfl h2
 |[],y::ys,h1,h2=>by cases h1
 | x::xs,[],h1,h2=>rfl
 | x::xs,y::ys,h1,h2=>by
   rw[cy]at h1 ⊢;by_cases e1:x=y
   ·rw[if_pos e1]at h1;rw[if_pos e1.symm];exact je h1 fun e=>h2 (by rw[e1,e])
   ·rw[if_neg e1]at h1;rw[if_neg (Ne.symm e1)];exact sU h1 e1
noncomputable def dv(ks:List (List Str))(k:List Str):Nat:=ks.countP fun u=>cy u k
theorem gJ{ks:List (List Str)}{x y:List Str}(hx:x∈ks):cy x y=decide (dv ks x<dv ks y):=by
 have up:∀(l:List (List Str)) (p q:List Str->Bool),(∀u∈l,p u=true->q u=true)->l.countP p<=l.countP q:=fun l p q h=>List.countP_mono_left h
 cases h:cy x y with
 | true=>
   symm
   refine X7 ?_;have gen:∀l:List (List Str),x∈l->l.countP (fun u=>cy u x)<l.countP (fun u=>cy u y):=by
    intro l
    induction l with
    | nil=>intro hx;cases hx
    | cons u l ih=>
      intro hx;rw[List.countP_cons,List.countP_cons];have le:=up l (fun u=>cy u x) (fun u=>cy u y) fun u _ hu=>gH hu h
      rcases mem_cons.mp hx with e|e
      ·subst e;rw[if_neg (by rw[rA];simp),if_pos h]
       lia
      ·have:=ih e;by_cases hu:cy u x=true
       ·rw[if_pos hu,if_pos (gH hu h)]
        lia
       ·rw[if_neg hu]
        split<;> lia
   exact gen ks hx
 | false=>
   symm
   refine X9 (Nat.not_lt.mpr ?_);refine up ks _ _ fun u _ hu=>?_
   by_cases e:x=y
   ·rw[e];exact hu
   ·exact gH hu (je h e)
section
variable{prog:Program}{w:World}{A:Around}{s:Shared}{E:Value->Shared->Prop}
noncomputable abbrev oN(prog:Program)(w:World)(h:Heap)(zs:List Str)(r:Addr):Prop:=IsTupleKey (aM prog w) h (zs.map Sum.inr) r
theorem dU:∀{zs:List Str} {vs:List Value},ItemsAre (aM prog w) (zs.map Sum.inr) vs->StrsAre vs zs
 |[],_,h=>by cases h;exact .nil
 | z::zs,_,h=>by
   cases h with
   | cons h1 h2=>
     have h1:jt (Sum.inr z) _=true:=h1;rcases bj h1 with⟨i,t,q1,q2⟩|⟨y,t,q1,q2⟩
     ·cases q1
     ·cases q1;subst q2;exact .cons z t (dU h2)
theorem xM{b fin:Bool}{Q:Bool->Shared->Prop}:∀(x y:List Str) (vs us:List Value) (i:Nat),StrsAre vs x->StrsAre us y->(x.length=y.length)->fin=false->Q (cy x y) s->PySem.W.KatLex prog w A b fin Q (vs.zip us) i s
 |[],[],_,_,i,.nil,.nil,_,hf,h=>by rw[hf];exact h
 | x::xs,y::ys,_,_,i,.cons _ t hx,.cons _ u hy,hl,hf,h=>by
   rw[List.zip_cons_cons];refine PySem.W.kat_cons (eqBool_str ?_);rw[cy]at h;by_cases e:x=y
   ·subst e;rw[if_pos rfl]at h;rw[beq_self_eq_true];exact PySem.W.kat_yes (xM xs ys _ _ (i+1) hx hy (by simpa using hl) hf h)
   ·rw[if_neg e]at h;rw[beq_eq_false_iff_ne.mpr e];refine PySem.W.kat_no ?_;cases hb:(b&&i==0)with
    | true=>exact oneLt_str h
    | false=>exact PySem.W.kat_one _ _ (lt_str h)
theorem rB{x y:List Str}{r q:Addr}{Q:Bool->Shared->Prop}{b:Bool}(hx:oN prog w s.heap x r)(hy:oN prog w s.heap y q)(hl:x.length=y.length)(h:Q (cy x y) s):wpAny (model prog w) A (keyLt' (tuples' b) (.ref r) (.ref q)) Q E s:=by
 obtain⟨ox,xs,nx,gx,_,dx,ix⟩:=hx;obtain⟨oy,ys,ny,gy,_,dy,iy⟩:=hy;have sx:=dU ix;have sy:=dU iy;refine PySem.W.kat_lt gx dx gy dy (xM x y _ _ 0 sx sy hl ?_ h);have l1:=cg sx;have l2:=cg sy;rw[X2]at l1 l2;exact X9 (by lia)
end
theorem oO{κ μ:Type}[DecidableEq κ][DecidableEq μ](g:κ->μ)(hg:∀a b,g a=g b->a=b)(l:List (Addr×κ)):aS (l.map fun p=>(p.1,g p.2))=(aS l).map fun p=>(p.1,g p.2):=by
 have go:∀(l ps:List (Addr×κ)),(l.map fun p=>(p.1,g p.2)).foldl e7 (ps.map fun p=>(p.1,g p.2))=(l.foldl e7 ps).map fun p=>(p.1,g p.2):=by
  intro l
  induction l with
  | nil=>intro ps;rfl
  | cons p l ih=>
    intro ps;rw[map_cons,foldl_cons,foldl_cons];have e:e7 (ps.map fun p=>(p.1,g p.2)) (p.1,g p.2)=(e7 ps p).map fun p=>(p.1,g p.2):=by
     unfold e7;have hm:(g p.2∈(ps.map fun p=>(p.1,g p.2)).map (·.2))↔p.2∈ps.map (·.2):=by
      rw[map_map]
      constructor
      ·intro h;obtain⟨q,hq,e⟩:=mem_map.mp h;exact mem_map.mpr ⟨q,hq,hg _ _ e⟩
      ·intro h;obtain⟨q,hq,e⟩:=mem_map.mp h;exact mem_map.mpr ⟨q,hq,by show g q.2=g p.2;rw[e]⟩
     by_cases h:p.2∈ps.map (·.2)
     ·rw[if_pos h,if_pos (hm.mpr h)]
     ·rw[if_neg h,if_neg (fun z=>h (hm.mp z)),X4];rfl
    rw[e];exact ih _
 exact go l []
noncomputable abbrev vq(p:Addr×List Str):Addr×List Key:=(p.1,p.2.map Sum.inr)
theorem iM:∀a b:List Str,a.map (Sum.inr:Str->Key)=b.map Sum.inr->a=b
 |[],[],_=>rfl
 |[],_::_,h=>by cases h
 | _::_,[],h=>by cases h
 | x::xs,y::ys,h=>by
   rw[map_cons,map_cons]at h;injection h with h1 h2
   injection h1 with h3
   rw[h3,iM xs ys h2]
section
variable{prog:Program}{w:World}{A:Around}{E:Value->Shared->Prop}{s:Shared}{S:Addr}
theorem kO:∀{vs:List Value} {zs:List Str},StrsAre vs zs->ItemsAre (aM prog w) (zs.map Sum.inr) vs
 | _,_,.nil=> .nil
 | _,_,.cons x t h=> .cons (eT x t) (kO h)
theorem xg{zs:List Str}{r:Addr}{Q:Bool->Shared->Prop}(hz:zs≠[])(hk:oN prog w s.heap zs r)(h:Q false s):wpAny (model prog w) A (hashByValue 8 (.ref r)) Q E s:=by
 have hT:=hk.typeIs;obtain⟨o,items,n,ho,_,hd,hi⟩:=hk;have hs:=dU hi;unfold hashByValue;refine Y2 (wpAny_specialOf hT F.slot_tuple_hash.lookup ?_);dsimp only;refine Y2 (wpAny_seqItems ho hd ?_);refine Y2 ?_;simp only[getD_some];rw[<-Array.forIn_toList]
 match zs,items.toList,hs,hz with
 | z::zs,_,.cons _ t hr,_=>
   rw[forIn_cons];refine Y2 ?_;refine Y2 ?_;rw[show hashByValue 7 (Value.str z t)=pure false from rfl];refine Y3 ?_;simp only[Bool.not_false,if_true];refine Y3 ?_;exact Y3 (Y3 h)
noncomputable def kOf(ps:List (Addr×List Str)):Value->List Str
 | .ref r=>((ps.find? fun p=>p.1==r).map (·.2)).getD []
 | _=>[]
noncomputable def aOf:Value->Addr
 | .ref r=>r
 | _=>0
theorem oP{ps:List (Addr×List Str)}{m:Nat}{Q:Value->Shared->Prop}(hh:A.handled=none)(hS:jd w (aM prog w) S (ps.map vq) s.heap)(tk:∀p∈ps,oN prog w s.heap p.2 p.1)(hm:∀p∈ps,p.2.length=m)(m0:m≠0)(few:ps.length<=1000)
 (hQ:∀(s':Shared) (l:Addr) (ss:List (Addr×List Str)) (n:Nat),ss.Perm ps->ss.Pairwise (fun a b=>cy b.2 a.2=false)->(∀b o,s.heap.get? b=some o->s'.heap.get? b=some o)->s'.gens=s.gens->s'.os=s.os->s.heap.objs.size<=l->s'.heap.get? l=some {cls:= .type "list",data:= .seq (ss.map fun p=>Value.ref p.1).toArray n}->Q (.ref l) s'):
 wpAny (model prog w) A (call (.builtin "sorted") [.ref S]) Q E s:=by
 obtain⟨o,es,ep,t,ho,hex,hd,I,P⟩:=hS;have hn:es.size=ps.length:=by
  have:=P.length_eq;rw[Y6,Y6,X2]at this;exact this
 have pv:(es.toList.map (·.2)).Perm (ps.map fun p=>Value.ref p.1):=by
  have:=P.map (·.2);rw[map_map,map_map]at this;exact this
 have key:∀p∈ps,kOf ps (.ref p.1)=p.2:=fun p hp=>by
  show((ps.find? fun q=>q.1==p.1).map (·.2)).getD []=p.2;cases hf:ps.find? fun q=>q.1==p.1 with
  | none=>
    have:=List.find?_eq_none.mp hf p hp;simp at this
  | some q=>
    have hq:=List.mem_of_find?_eq_some hf;have e:q.1=p.1:=by have:=List.find?_some hf;simpa using this
    show q.2=p.2;have t1:=tk q hq;rw[e]at t1;exact iM _ _ (t1.inj (tk p hp))
 refine Calls.call_function_entry kind_sorted plain_sorted entry_sorted (args_sorted1 _) ?_;unfold Builtin.«sorted»;refine Y2 (m:=checkCount "sorted" 1 1 _) (Y3 ?_);refine Y2 (nt (show A.in1.handled=none from hh) ho hex hd (by show es.size<4096;lia) I.fits I.plain I.led fun s1 vs q1 k1 g1 o1 sle=>?_);have q2:vs.Perm (ps.map fun p=>Value.ref p.1):=q1.trans pv;have hl:vs.length=ps.length:=by rw[q2.length_eq,Y6]
 have mem:∀v∈vs,∃p∈ps,v=Value.ref p.1:=fun v hv=>by
  obtain⟨p,hp,rfl⟩:=mem_map.mp (q2.mem_iff.mp hv);exact⟨p,hp,rfl⟩
 refine Y2 (wpAny_newList ?_ (by rw[sizeLine_eq];lia));have gL:(s1.heap.push (seqObj "list" vs.toArray 0)).get? s1.heap.objs.size=some (seqObj "list" vs.toArray 0):=W3 _ rfl;have tk1:∀p∈ps,∀h6:Heap,(∀b o,b≠s1.heap.objs.size->(s1.heap.push (seqObj "list" vs.toArray 0)).get? b=some o->h6.get? b=some o)->oN prog w h6 p.2 p.1:=fun p hp h6 k6=>by
  refine iK (tk p hp) fun o e=>?_
  have e1:=k1 _ _ e;exact k6 _ _ (V4 (V7 e1)) (Y7 _ e1)
 refine Y2 (wpAny_holding (wpAny_call_entry slot_list_sort ⟨_,gL,rfl⟩ entry_list_sort (eP (s:={s1 with heap:=s1.heap.push (seqObj "list" vs.toArray 0)}) (kd:=tuples' true) (Nv:=fun v=>dv (ps.map (·.2)) (kOf ps v)) gL (by lia) (fun h6 k6 hv2 Q6 hq6=>?_) (fun h6 k6=>?_) fun out p1 p2=>⟨_,rfl,?_⟩) (args_list_sort _)))
 ·have tups:∀l:List Value,(∀v∈l,∃p∈ps,v=Value.ref p.1)->∃fs:List Value,KatTups h6 l fs/\fs.length=l.length/\∀f∈fs,∃z t,f=Value.str z t:=by
   intro l
   induction l with
   | nil=>intro _;exact⟨[],KatTups.nil,rfl,fun f hf=>by cases hf⟩
   | cons v l ih=>
     intro hv;obtain⟨fs,f1,f2,f3⟩:=ih fun u hu=>hv u (W4 _ hu)
     obtain⟨p,hp,rfl⟩:=hv v W6;obtain⟨o',items,n',g',c',d',i'⟩:=tk1 p hp h6 k6;have hs':=dU i';have hne:p.2≠[]:=fun e=>by have:=hm p hp;rw[e]at this;exact m0 this.symm
     obtain⟨z,zs,ez⟩:∃z zs,p.2=z::zs:=by
      cases hp2:p.2 with
      | nil=>exact absurd hp2 hne
      | cons z zs=>exact⟨z,zs,rfl⟩
     rw[ez]at hs';obtain⟨t',vr,ev⟩:∃t' vr,items.toList=Value.str z t'::vr:=by
      cases hit:items.toList with
      | nil=>rw[hit]at hs';cases hs'
      | cons a b=>
        rw[hit]at hs';cases hs' with
        | cons _ t' _=>exact⟨t',b,rfl⟩
     have e0:items[0]? =some (Value.str z t'):=by
      have:items.toList[0]? =some (Value.str z t'):=by rw[ev];rfl
      simpa using this
     exact⟨Value.str z t'::fs,KatTups.cons g' c' d' e0 f1,by simp[f2],fun f hf=>by
      rcases mem_cons.mp hf with e|e
      ·exact⟨z,t',e⟩
      ·exact f3 f e⟩
  obtain⟨fs,f1,f2,f3⟩:=tups vs mem;refine kat_kind (T:= .type "str") f1 (by lia) (fun f hf=>?_) (by decide) hq6;obtain⟨z,t',rfl⟩:=f3 f hf;exact Looks.of_pure rfl
 ·intro x y s' hx hy hs';subst hs';obtain⟨p,hp,ep'⟩:=mem _ hx;obtain⟨q,hq,eq'⟩:=mem _ hy;obtain⟨x1,x2⟩:=x;obtain⟨y1,y2⟩:=y;obtain rfl:x1=Value.ref p.1:=ep';obtain rfl:y1=Value.ref q.1:=eq';show wpAny (model prog w) A.in1.in1 (keyLt' (tuples' true) (Value.ref p.1) (Value.ref q.1)) (fun b s'=>b=decide (dv (ps.map (·.2)) (kOf ps (Value.ref p.1))<dv (ps.map (·.2)) (kOf ps (Value.ref q.1)))/\s'={s1 with heap:=h6}) (fun _ _=>False) {s1 with heap:=h6};rw[key p hp,key q hq];refine rB (s:={s1 with heap:=h6}) (tk1 p hp h6 k6) (tk1 q hq h6 k6) (by rw[hm p hp,hm q hq]) ⟨?_,rfl⟩;exact gJ (mem_map.mpr ⟨p,hp,rfl⟩)
 ·have p3:out.Perm (ps.map fun p=>Value.ref p.1):=p1.trans q2;have oe:out=(out.map fun v=>(aOf v,kOf ps v)).map fun p=>Value.ref p.1:=by
   rw[map_map];refine(map_id out).symm.trans (map_congr_left fun v hv=>?_);obtain⟨p,hp,rfl⟩:=mem_map.mp (p3.mem_iff.mp hv);rfl
  obtain⟨n,gl⟩:∃n,(sortedHeap (s1.heap.push (seqObj "list" vs.toArray 0)) s1.heap.objs.size vs out.toArray).get? s1.heap.objs.size=some (seqObj "list" out.toArray n):=sortedHeap_at gL;refine Y3 ⟨_,rfl,hQ _ s1.heap.objs.size (out.map fun v=>(aOf v,kOf ps v)) n ?_ ?_ (fun b o' e=>?_) g1 o1 sle ?_⟩
  ·have:=p3.map fun v=>(aOf v,kOf ps v)
   rw[map_map]at this;refine this.trans ?_;have:(ps.map ((fun v=>(aOf v,kOf ps v)) ∘ fun p=>Value.ref p.1))=ps:=by
    refine(map_congr_left fun p hp=>?_).trans (map_id ps);show(p.1,kOf ps (.ref p.1))=p;rw[key p hp]
   rw[this]
  ·rw[pairwise_map];refine List.Pairwise.imp_of_mem (fun{u v} hu hv huv=>?_) p2;obtain⟨p,hp,rfl⟩:=mem_map.mp (p3.mem_iff.mp hu);obtain⟨q,hq,rfl⟩:=mem_map.mp (p3.mem_iff.mp hv);show cy (kOf ps (.ref q.1)) (kOf ps (.ref p.1))=false;have huv:dv (ps.map (·.2)) (kOf ps (.ref p.1))<=dv (ps.map (·.2)) (kOf ps (.ref q.1)):=huv;rw[key p hp,key q hq]at huv ⊢;rw[gJ (ks:=ps.map (·.2)) (mem_map.mpr ⟨q,hq,rfl⟩)];exact X9 (by lia)
  ·have e1:=k1 b o' e;have blt:=V7 e1;show(sortedHeap _ _ _ _).get? b=_;rw[sortedHeap_old (V4 blt) (by rw[V0];exact lt_succ_of_lt blt)];exact Y7 _ e1
  ·have e2:((out.map fun v=>(aOf v,kOf ps v)).map fun p=>Value.ref p.1).toArray=out.toArray:=congrArg List.toArray oe.symm;have e3:(seqObj "list" out.toArray n)=({cls:= .type "list",data:= .seq ((out.map fun v=>(aOf v,kOf ps v)).map fun p=>Value.ref p.1).toArray n}:Obj):=by
    rw[e2]
   exact gl.trans (congrArg some e3)
end
section
variable{X:Cx}{K:PySem.W.Frag}
noncomputable def kP(P:Program)(w:World)(a:Addr)(ps:List (Addr×List Str)):HO:= .ext (jd w (aM P w) a (ps.map vq))
noncomputable def aF(H:Hp)(ps:List (Addr×List Str)):Prop:=∀p∈ps,p.2≠[]/\H p.1=some (.tup (p.2.map V.str))
theorem j3{pins:List (Addr×Obj)}{σ:St}{H:Hp}{s:Shared}(I:Inv X pins σ H s){ps:List (Addr×List Str)}(h:aF H ps):∀p∈ps,oN X.prog X.w s.heap p.2 p.1:=fun p hp=>by
 obtain⟨_,its,rv,o,ho,hc,n,hd⟩:=I.hok p.1 _ (h p hp).2;exact⟨o,its.toArray,n,ho,hc,hd,by simpa using kO (fk rv)⟩
theorem nv:∀{ps:List (Addr×List Str)} {us:List Value},aH (ps.map fun p=>V.ref p.1) us->us=ps.map fun p=>Value.ref p.1
 |[],_,.nil=>rfl
 | _::_,_,.cons r t=>by
   cases r;rw[nv t];rfl
theorem j6:∀(ps:List (Addr×List Str)),aH (ps.map fun p=>V.ref p.1) (ps.map fun p=>Value.ref p.1)
 |[]=> .nil
 | _::ps=> .cons rfl (j6 ps)
theorem sV(hc:X.calm=true)(hu:X.A.units+64<cLine):cG X (.type "set") (fun xs H Q=>∃p ps,xs=[.ref p]/\SqL X.K H p (ps.map fun q=>V.ref q.1)/\aF H ps/\(∃U:List (List Str),U.length<=999/\∀q∈ps,q.2∈U)/\∀l,H l=none->Q (.ref l) (upd H l (kP X.prog X.w l (aS ps)))):=by
 intro pins s σ H xs us Q I r h;obtain⟨p,ps,rfl,hq,ht,⟨U,hU,hkU⟩,q⟩:=h;obtain⟨u,rfl,ru⟩:=d6 r;cases ru;obtain⟨its,rv,pl,hz⟩:=I.list hq;have hit:=nv rv;have tk:=j3 I ht;refine lF (knd:=aM X.prog X.w) (I.ok.hd hc) (by lia) pl.isList (ps:=ps.map vq) (by simp[hit,Function.comp]) (fun p' hp'=>?_) (U.map fun z=>z.map Sum.inr) (by rw[Y6];exact hU) (fun p' hp'=>?_) (fun p' hp' B s' Q' E' hk' hq'=>?_) fun h' tk' S k=>?_
 ·obtain⟨p0,h0,rfl⟩:=mem_map.mp hp';exact tk p0 h0
 ·obtain⟨p0,h0,rfl⟩:=mem_map.mp hp';exact mem_map.mpr ⟨p0.2,hkU p0 h0,rfl⟩
 ·obtain⟨p0,h0,rfl⟩:=mem_map.mp hp';exact xg (ht p0 h0).1 hk' hq'
 ·have e:aS (ps.map vq)=(aS ps).map vq:=oO (fun z:List Str=>z.map Sum.inr) iM ps;rw[e]at S;refine⟨.ref s.heap.objs.size,_,I.laid (o:=kP X.prog X.w s.heap.objs.size (aS ps)) (t':=tk') k (W1 _) ⟨S,?_,fun h1 h2 S1 k1=>jd.keep S1 k1⟩,rfl,q _ I.fresh⟩;obtain⟨o,_,_,_,ho,_⟩:=S;exact⟨o,ho⟩
theorem nw(hc:X.calm=true):cG X (.builtin "sorted") (fun xs H Q=>∃a ps m,xs=[.ref a]/\H a=some (kP X.prog X.w a ps)/\aF H ps/\(∀p∈ps,p.2.length=m)/\m≠0/\ps.length<=1000/\
 ∀(l:Addr) (ss:List (Addr×List Str)),H l=none->ss.Perm ps->ss.Pairwise (fun a b=>cy b.2 a.2=false)->Q (.ref l) (upd H l (.lst (ss.map fun p=>V.ref p.1)))):=by
 intro pins s σ H xs us Q I r h;obtain⟨a,ps,m,rfl,ha,ht,hm,m0,few,q⟩:=h;obtain⟨u,rfl,ru⟩:=d6 r;cases ru;obtain⟨S,_,_⟩:=(show bA X.prog X.w H s.heap a (kP X.prog X.w a ps)from I.hok a _ ha)
 refine oP (I.ok.hd hc) S (j3 I ht) hm m0 few fun s' l ss n p1 p2 k g o hle gl=>?_
 have hfree:H l=none:=I.hok.fresh hle;have J:Inv X pins σ H s':=I.keptS k g o;refine⟨.ref l,_,I.stoodS (o:= .lst (ss.map fun p=>V.ref p.1)) J hle ⟨?_,ss.map (fun p=>Value.ref p.1),n,j6 ss,gl⟩,rfl,q l ss hfree p1 p2⟩;rw[Y6,p1.length_eq,sizeLine_eq]
 lia
theorem zo{k:Nat}{P:Program}{w:World}(h:X.K=K)(hp:X.prog=P)(hw:X.w=w)(hc:X.calm=true)(hr:cr k X.A):dM X (.type "set") (fun xs H Q=>∃p ps,xs=[.ref p]/\SqL K H p (ps.map fun q=>V.ref q.1)/\aF H ps/\(∃U:List (List Str),U.length<=999/\∀q∈ps,q.2∈U)/\∀l,H l=none->Q (.ref l) (upd H l (kP P w l (aS ps)))):=by
 subst h;subst hp;subst hw;exact⟨sV hc hr.units⟩
theorem sW{P:Program}{w:World}(hp:X.prog=P)(hw:X.w=w)(hc:X.calm=true):dM X (.builtin "sorted") (fun xs H Q=>∃a ps m,xs=[.ref a]/\H a=some (kP P w a ps)/\aF H ps/\(∀p∈ps,p.2.length=m)/\m≠0/\ps.length<=1000/\
 ∀(l:Addr) (ss:List (Addr×List Str)),H l=none->ss.Perm ps->ss.Pairwise (fun a b=>cy b.2 a.2=false)->Q (.ref l) (upd H l (.lst (ss.map fun p=>V.ref p.1)))):=by
 subst hp;subst hw;exact⟨nw hc⟩
end
noncomputable def qK(K:PySem.W.Frag)(a b:Addr):It:=⟨fun i H=>∃xs ys x y,SqL K H a xs/\SqL K H b ys/\xs[i]? =some x/\ys[i]? =some y,
 fun i H v H'=>∃T x y,H T=none/\v= .ref T/\H'=upd H T (.tup [x,y])/\(∀xs,SqL K H a xs->xs[i]? =some x)/\(∀ys,SqL K H b ys->ys[i]? =some y),
 fun i H=>∃xs ys,SqL K H a xs/\SqL K H b ys/\i<=xs.length/\i<=ys.length/\(i=xs.length\/i=ys.length)⟩
theorem sX{P:Program}{w:World}{K:PySem.W.Frag}{elts:List Expr}{kt:Nat}{tp:Pos}(z TI TO i1 i2 l1 l2:Addr)(D:ZipApart z TI TO i1 i2 l1 l2):
 mL P w K (.Tuple elts kt tp) (qK K l1 l2) [z,TI,TO,i1,i2] z (ZSt z TI TO i1 i2 (fun i h=>h.IsListIter i1 l1 i) (fun i h=>h.IsListIter i2 l2 i)) where
 mem:=by simp
 obj:=fun i h st b hb=>by
  obtain⟨hz,hTI,⟨a,c,hTO⟩,⟨o1,e1,_,d1⟩,o2,e2,_,d2⟩:=st;simp only[mem_cons,not_mem_nil,or_false]at hb;rcases hb with rfl|rfl|rfl|rfl|rfl
  ·exact⟨_,hz,fun v q=>nomatch q⟩
  ·exact⟨_,hTI,fun v q=>nomatch q⟩
  ·exact⟨_,hTO,fun v q=>nomatch q⟩
  ·exact⟨o1,e1,fun v q=>by rw[d1]at q;cases q⟩
  ·exact⟨o2,e2,fun v q=>by rw[d2]at q;cases q⟩
 keep:=fun i h h' st k=>by
  obtain⟨hz,hTI,⟨a,c,hTO⟩,⟨o1,e1,r1⟩,o2,e2,r2⟩:=st;exact⟨k z (by simp) _ hz,k TI (by simp) _ hTI,⟨a,c,k TO (by simp) _ hTO⟩,⟨o1,k i1 (by simp) _ e1,r1⟩,o2,k i2 (by simp) _ e2,r2⟩
 item:=by
  intro X hP hw hK hc i pins s σ H E I hf st hg;subst hP hw hK;obtain⟨hz,hTI,⟨a,c,hTO⟩,h1,h2⟩:=st;obtain⟨xs,ys,x,y,hq1,hq2,hx,hy⟩:=hg;obtain⟨its1,rv1,pl1,hz1⟩:=I.list hq1;obtain⟨its2,rv2,pl2,hz2⟩:=I.list hq2;obtain⟨u1,hu1,ru1⟩:=rv1.get hx;obtain⟨u2,hu2,ru2⟩:=rv2.get hy;refine wpAny_pyNext_zip_item D hz hTI hTO h1 h2 pl1.isList pl2.isList (x:=u1) (y:=u2) (by simpa using hu1) (by simpa using hu2) fun h' a1 a2 a3 a4 a5 a6 hk=>?_
  refine⟨_,rfl,wpAny_letOwnedTupleGo_zip (s:={s with heap:=h'}) a1 fun h'' hz'' sb=>?_⟩;replace sb:SameBut z h' h'':=sb;have zlt:z<s.heap.objs.size:=V7 hz;have Tne:s.heap.objs.size≠z:=ne_of_gt zlt;have hT2:h''.get? s.heap.objs.size=some {cls:= .type "tuple",data:= .seq #[u1,u2]}:=(sb.2 _ Tne).trans a5;have turn1:Inv X pins σ H {s with heap:=h''}:=by
   have nit:∀b v,H b=some v->b∉[z,TI,TO,i1,i2]:=fun b v e hb=>by rw[(hf b hb).1]at e;cases e
   have kk:∀b o,b∉[z,TI,TO,i1,i2]->s.heap.get? b=some o->h''.get? b=some o:=fun b o hb e=>by
    simp only[mem_cons,not_mem_nil,or_false,not_or]at hb;exact(sb.2 b hb.1).trans (hk b o hb.1 hb.2.2.1 hb.2.2.2.1 hb.2.2.2.2 e)
   refine I.step (g':=s.gens) (d':=s.drawn) (ch:=[z,TI,TO,i1,i2]) (fun b hb=>⟨(hf b hb).2.2.2.1,(hf b hb).2.1,(hf b hb).2.2.2.2.1,(hf b hb).2.2.2.2.2⟩) (fun b o _ _ hc e _=>kk b o hc e) (fun b o _ _ hc e _=>⟨o.slots,kk b o hc e⟩) (fun _ _ _ _ n=>n)
    (fun b o hc e=>⟨o,kk b o hc e⟩) (fun _ _ e=>e) (fun _ _ _ e=>e) (fun b ps e=>⟨#[],by rw[e];simp⟩) (fun m hm=>?_) (fun b v e=>?_) I.bare
   ·obtain⟨o,es,ep,ho,r⟩:=hm;exact⟨o,es,ep,kk _ o (fun hb=>(hf _ hb).2.1 rfl) ho,r⟩
   ·refine(I.hok b v e).stay (fun c' v' hc' q=>kk c' v' ?_ q) (fun _ q=>q) fun _ _ q=>q
    rcases hc' with q'|q'
    ·rw[q'];exact nit b v e
    ·exact nit c' _ q'
  have Hn:H s.heap.objs.size=none:=I.fresh;have I2:Inv X pins σ (upd H s.heap.objs.size (.tup [x,y])) {s with heap:=h''}:=by
   have nf:s.heap.objs.size∉X.fs:=I.nofs (W1 _);refine⟨turn1.ok,turn1.os,turn1.bare,?_,turn1.loc,turn1.cell,?_,?_,?_,?_,turn1.len⟩
   ·have lt0:∀b o,X.s₀.heap.get? b=some o->b≠s.heap.objs.size:=fun b o e=>V4 (X8 (V7 e) I.sz)
    refine⟨turn1.base.keep,turn1.base.slot,fun b o e n hx=>?_,turn1.base.there,fun b xs e=>?_,fun b o v e=>?_,fun b ps e=>?_⟩
    ·rw[ak (lt0 b o e)];exact turn1.base.free b o e n hx
    ·rw[ak (ao (turn1.base.tups b xs e) Hn)];exact turn1.base.tups b xs e
    ·rw[ak (ao (turn1.base.frzs b o v e) Hn)];exact turn1.base.frzs b o v e
    ·obtain⟨m,q⟩:=turn1.base.tbls b ps e;exact⟨m,by rw[ak (ao q Hn)];exact q⟩
   ·rw[ak (V4 I.lt)];exact turn1.free
   ·intro x' c' e;obtain⟨v',q⟩:=I.cell x' c' e;rw[ak (V4 q.lt)];exact turn1.freeC x' c' e
   ·intro p hp;obtain⟨e,n,r⟩:=turn1.pin p hp;refine⟨e,?_,r⟩;rw[ak (V4 (V7 (I.pin p hp).1))];exact n
   ·intro b v e;by_cases hb:b=s.heap.objs.size
    ·subst hb;rw[aa]at e;cases e;exact⟨by show 2<=sizeLine;decide,[u1,u2],.cons ru1 (.cons ru2 .nil),_,hT2,rfl,_,rfl⟩
    ·rw[ak hb]at e;refine(turn1.hok b v e).stay (fun _ _ _ q=>q) (fun c' q=>?_) fun c' xs q=>?_
     ·rw[ak (ao q Hn)];exact q
     ·rw[ak (ao q Hn)];exact q
  refine⟨.ref s.heap.objs.size,_,I2,rfl,⟨_,x,y,Hn,rfl,rfl,fun zs hzs=>by rw[I.list_inj hzs hq1];exact hx,fun zs hzs=>by rw[I.list_inj hzs hq2];exact hy⟩,⟨hz'',(sb.2 _ D.TIz).trans (hk _ _ D.TIz D.TITO D.TIi1 D.TIi2 hTI),⟨_,_,(sb.2 _ D.TOz).trans a2⟩,?_,?_⟩,fun b hb=>?_⟩
  ·obtain⟨o,e,r⟩:=a3;exact⟨o,(sb.2 _ D.i1z).trans e,r⟩
  ·obtain⟨o,e,r⟩:=a4;exact⟨o,(sb.2 _ D.i2z).trans e,r⟩
  ·have:b<s.heap.objs.size:=by
    simp only[mem_cons,not_mem_nil,or_false]at hb;obtain⟨o1,q1,_⟩:=h1;obtain⟨o2,q2,_⟩:=h2;rcases hb with rfl|rfl|rfl|rfl|rfl
    ·exact V7 hz
    ·exact V7 hTI
    ·exact V7 hTO
    ·exact V7 q1
    ·exact V7 q2
   rw[ak (V4 this)];exact(hf b hb).1
 done:=by
  intro X hP hw hK hc i pins s σ H E I hf st hg;subst hP hw hK;obtain⟨hz,hTI,⟨a,c,hTO⟩,h1,h2⟩:=st;obtain⟨xs,ys,hq1,hq2,g1,g2,g3⟩:=hg;obtain⟨its1,rv1,pl1,hz1⟩:=I.list hq1;obtain⟨its2,rv2,pl2,hz2⟩:=I.list hq2;have n1:=rv1.length;have n2:=rv2.length;refine wpAny_pyNext_zip_end (I.ok.hd hc) D hz hTI hTO h1 h2 pl1.isList pl2.isList (by
   rcases g3 with q|q
   ·exact .inl (by simp;lia)
   ·exact .inr (by simp;lia)) fun h' hk=>⟨rfl,?_⟩
  have nit:∀b v,H b=some v->b∉[z,TI,TO,i1,i2]:=fun b v e hb=>by rw[(hf b hb).1]at e;cases e
  have kk:∀b o,b∉[z,TI,TO,i1,i2]->s.heap.get? b=some o->h'.get? b=some o:=fun b o hb e=>by
   simp only[mem_cons,not_mem_nil,or_false,not_or]at hb;exact hk b o hb.1 hb.2.2.1 hb.2.2.2.1 hb.2.2.2.2 e
  refine I.step (g':=s.gens) (d':=s.drawn) (ch:=[z,TI,TO,i1,i2]) (fun b hb=>⟨(hf b hb).2.2.2.1,(hf b hb).2.1,(hf b hb).2.2.2.2.1,(hf b hb).2.2.2.2.2⟩) (fun b o _ _ hc e _=>kk b o hc e) (fun b o _ _ hc e _=>⟨o.slots,kk b o hc e⟩) (fun _ _ _ _ n=>n)
   (fun b o hc e=>⟨o,kk b o hc e⟩) (fun _ _ e=>e) (fun _ _ _ e=>e) (fun b ps e=>⟨#[],by rw[e];simp⟩) (fun m hm=>?_) (fun b v e=>?_) I.bare
  ·obtain⟨o',es,ep,ho',r⟩:=hm;exact⟨o',es,ep,kk _ o' (fun hb=>(hf _ hb).2.1 rfl) ho',r⟩
  ·refine(I.hok b v e).stay (fun c' v' hc' q=>kk c' v' ?_ q) (fun _ q=>q) fun _ _ q=>q
   rcases hc' with q'|q'
   ·rw[q'];exact nit b v e
   ·exact nit c' _ q'
 self:=fun _ _ _ _ _ st h=>wpAny_pyIter_zip st.1 h
noncomputable def xN(K:PySem.W.Frag)(ta:TA):TI:=fun σ H R=>ta σ H fun vs H1=>∃a b,vs=[.ref a,.ref b]/\(∃xs,SqL K H1 a xs)/\(∃ys,SqL K H1 b ys)/\R (qK K a b) H1
section
variable{X:Cx}{K:PySem.W.Frag}{pos:Pos}
theorem xO(h0:X.K=K){elts:List Expr}{kt:Nat}{tp p:Pos}{a b:Expr}{ta:TA}(hg:Gl X "zip")(hm:X.mg "zip"=none)(hs:bE a=false)(hs2:bE b=false)(ha:QA X [a,b] ta):
 QI X (.Tuple elts kt tp) (.Call (.Name "zip" p) [a,b] [] pos) (xN K ta):=by
 subst h0
 constructor
 intro pins s σ H R I h;refine Call_ (gY I hg hm boot_zip (PyProof.Rows.callWith_type1 (thn (ha.h pos pins s σ H _ I h) fun us s1 ⟨vs,H1,I1,r1,q1⟩=>?_) (ay hs) (by rw[ay hs2];rfl)));obtain⟨a',b',e,⟨xs,hq1⟩,⟨ys,hq2⟩,q⟩:=q1;subst e;obtain⟨u1,u2,rfl,e1,e2⟩:=nR r1;cases e1;cases e2;obtain⟨its1,rv1,pl1,hz1⟩:=I1.list hq1;obtain⟨its2,rv2,pl2,hz2⟩:=I1.list hq2;have la:a'<s1.heap.objs.size:=by obtain⟨o,ho,_⟩:=pl1.isList;exact V7 ho
 have lb:b'<s1.heap.objs.size:=by obtain⟨o,ho,_⟩:=pl2.isList;exact V7 ho
 refine call_zip_2 pl1.isList pl2.isList fun h1 hz hTI hTO hi1 hi2 _ hk=>wpAny_pyIter_zip (s:={s1 with heap:=h1}) hz ?_
 have J:Inv X pins σ H1 {s1 with heap:=h1}:=I1.kept (t':=s1.toks) hk;have ne:∀i j:Nat,i≠j->s1.heap.objs.size+i≠s1.heap.objs.size+j:=fun i j h e=>h (Nat.add_left_cancel e)
 have na:∀i:Nat,a'≠s1.heap.objs.size+i:=fun i=>V4 (X8 la (le_add_right _ _))
 have nb:∀i:Nat,b'≠s1.heap.objs.size+i:=fun i=>V4 (X8 lb (le_add_right _ _))
 refine⟨s1.heap.objs.size+4,[s1.heap.objs.size+4,s1.heap.objs.size+2,s1.heap.objs.size+3,s1.heap.objs.size+0,s1.heap.objs.size+1],_,qK X.K a' b',H1,rfl,J,
  sX _ _ _ _ _ a' b' ⟨ne 2 4 (by decide),ne 3 4 (by decide),ne 0 4 (by decide),ne 1 4 (by decide),ne 2 3 (by decide),ne 2 0 (by decide),ne 2 1 (by decide),ne 3 0 (by decide),ne 3 1 (by decide),ne 0 1 (by decide),na 4,na 3,na 0,na 1,nb 4,nb 3,nb 0,nb 1⟩,
  ⟨hz,hTI,⟨_,_,hTO⟩,hi1,hi2⟩,fun b hb=>?_,q⟩
 have hb':s1.heap.objs.size<=b:=by
  simp only[mem_cons,not_mem_nil,or_false]at hb;rcases hb with rfl|rfl|rfl|rfl|rfl<;> exact le_add_right _ _
 exact I1.fpOk hb' (I1.hok.fresh hb')
end
open PySem PySem.Spec PySem.Calls PyProof.Rows PyProof.V PySem.W
noncomputable def Raw(h:Heap)(d:Addr)(es:Array DictEntry)(ep:Nat):Prop:=∃o,h.get? d=some o/\o.ExactDict/\o.data= .dict es ep
section
variable{prog:Program}{w:World}{A:Around}{E:Value->Shared->Prop}{s:Shared}{d it:Addr}{es:Array DictEntry}{ep i:Nat}
theorem Raw.ty(h:Raw s.heap d es ep):s.TypeIs (.ref d) "dict":=⟨h.choose,h.choose_spec.1,h.choose_spec.2.1.1⟩
theorem Raw.lt{h:Heap}(r:Raw h d es ep):d<h.objs.size:=V7 r.choose_spec.1
theorem Raw.up{h h':Heap}(r:Raw h d es ep)(e:∀o,h.get? d=some o->h'.get? d=some o):Raw h' d es ep:=⟨r.choose,e _ r.choose_spec.1,r.choose_spec.2⟩
theorem vt{Q:Value->Shared->Prop}(lo:(d==sysModules)=false)(r:Raw s.heap d es ep)
 (h:Q (.ref s.heap.objs.size) {s with heap:=s.heap.push {cls:= .type "dict_keyiterator",data:= .fields #[.ref d,.int 0 0,.int es.size 0,.int ep 0]}}):wpAny (model prog w) A (pyIter (.ref d)) Q E s:=by
 have ty:=r.ty;obtain⟨o,g,_,dt⟩:=r;refine wpAny_pyIter_slot ty F.slot_dict_iter (wpAny_call_entry F.slot_dict_iter ty F.entry_dict_iter ?_ (F.args_dict_iter_1 _));unfold Builtin.«dict.__iter__» Builtin.Dict.dictSlotNone;refine Y2 (Y2 (wpAny_notOrdered_dict ty ?_));show wpAny _ _ (pure (Value.ref d)) _ _ s;refine Y3 ?_;show wpAny _ _ (Builtin.Dict.showsAll d>>= _) _ _ s;unfold Builtin.Dict.showsAll;rw[if_neg (by rw[lo];exact V6)];refine Y2 (Y3 (Y2 (wpAny_dictEntries g dt (Y2 (wpAny_dictEpoch g dt ?_)))));refine Y2 (wpAny_newObj_type (Y3 ⟨_,rfl,"dict_keyiterator",_,⟨_,W3 _ rfl,rfl⟩,F.slot_dict_keyiterator_next.lookup,?_⟩));simpa [rawInt]using h
theorem vv{Q:Option Value->Shared->Prop}(k:s.heap.IsKeyIter it d i es.size ep)(r:Raw s.heap d es ep)(hi:i<es.size)
 (h:∀h',h'.IsKeyIter it d (i+1) es.size ep->SameBut it s.heap h'->Q (some es[i].key) {s with heap:=h'}):wpAny (model prog w) A (pyNext (.ref it)) Q E s:=by
 obtain⟨o,go,hc,hd⟩:=id k;obtain⟨od,gd,_,dd⟩:=r;unfold pyNext;refine Y2 (wpAny_attempt (wpAny_callSpecial?_slot (name:=Str.ofString "__next__") k.typeIs F.slot_dict_keyiterator_next (wpAny_call_entry F.slot_dict_keyiterator_next k.typeIs F.entry_dict_keyiterator_next ?_ (F.args_dict_keyiterator_next_1 _))));refine Y2 (Y3 (Y2 (Y2 ?_)));refine Y2 (wpAny_typeNameOfWhole_keyiter k.typeIs (Y3 (Y2 (wpAny_fieldsOf go hd ?_))));simp only[show Builtin.Dict_items.ownsTuple "dict_keyiterator"=false by decide,false_eq_true,if_false];show wpAny _ _ (if(Value.ref d==Value.none)=true then _ else _) _ _ s;rw[if_neg (by exact V6)];refine Y2 (Y3 (Y2 (wpAny_dictEntries gd dd ?_)));rw[if_neg (by simp)];refine Y2 (Y3 (Y2 (wpAny_dictEpoch gd dd ?_)));rw[if_neg (by simp)];refine Y3 ?_;simp only[show ¬ ((i:Int)<0)from by lia,if_false,Int.toNat_natCast,Array.getElem?_eq_getElem hi];refine Y2 (Y2 (wpAny_typeNameOfWhole_keyiter k.typeIs (Y3 (Y2 (wpAny_isOneOf_keyiter k.typeIs ?_)))));show wpAny _ _ (setField (.ref it) 1 (rawInt ((i:Int) +1))>>= _) _ _ s;refine Y2 (wpAny_setField go hd (by simp) ?_);have k2:(s.heap.update it (Obj.mapFields (·.setIfInBounds 1 (rawInt ((i:Int) +1))))).IsKeyIter it d (i+1) es.size ep:=
  ⟨_,get?_update_self _ go (Obj.isFreed_of_fields (Obj.data_mapFields hd _)),(Obj.cls_mapFields ..).trans hc,by rw[Obj.data_mapFields hd];simp[rawInt]⟩
 refine Y2 (wpAny_holding (Y2 (wpAny_isOneOf_keyiter (s:={s with heap:=s.heap.update it (Obj.mapFields (·.setIfInBounds 1 (rawInt ((i:Int) +1))))}) k2.typeIs ?_)));show wpAny _ _ (pure es[i].key) _ _ _;exact Y3 (Y3 ⟨_,rfl,Y3 (h _ k2 (SameBut.update ..))⟩)
theorem xh{Q:Option Value->Shared->Prop}(hh:A.handled=none)(k:s.heap.IsKeyIter it d i es.size ep)(r:Raw s.heap d es ep)(hi:es.size<=i)
 (h:∀h',ExtBut it s.heap h'->Q none {s with heap:=h'}):wpAny (model prog w) A (pyNext (.ref it)) Q E s:=by
 obtain⟨o,go,hc,hd⟩:=id k;obtain⟨od,gd,_,dd⟩:=r;unfold pyNext;refine Y2 (wpAny_attempt (wpAny_callSpecial?_slot (name:=Str.ofString "__next__") k.typeIs F.slot_dict_keyiterator_next (wpAny_call_entry F.slot_dict_keyiterator_next k.typeIs F.entry_dict_keyiterator_next ?_ (F.args_dict_keyiterator_next_1 _))));refine Y2 (Y3 (Y2 (Y2 ?_)));refine Y2 (wpAny_typeNameOfWhole_keyiter k.typeIs (Y3 (Y2 (wpAny_fieldsOf go hd ?_))));simp only[show Builtin.Dict_items.ownsTuple "dict_keyiterator"=false by decide,false_eq_true,if_false];show wpAny _ _ (if(Value.ref d==Value.none)=true then _ else _) _ _ s;rw[if_neg (by exact V6)];refine Y2 (Y3 (Y2 (wpAny_dictEntries gd dd ?_)));rw[if_neg (by simp)];refine Y2 (Y3 (Y2 (wpAny_dictEpoch gd dd ?_)));rw[if_neg (by simp)];refine Y3 ?_;simp only[show ¬ ((i:Int)<0)from by lia,if_false,Int.toNat_natCast,Array.getElem?_eq_none hi];refine Y2 (Y2 (wpAny_typeNameOfWhole_keyiter k.typeIs (Y3 ?_)));show wpAny _ _ (setField (.ref it) 0 .none>>= _) _ _ s;refine Y2 (wpAny_setField go hd (by simp) ?_);show wpAny _ _ (newExc (.type "StopIteration") []>>= _) _ _ _;refine Y2 ?_;simp only[newExc,newTuple];refine Y2 (wpAny_newObj_type ?_ (by size_fits));refine Y2 (m:=firstArgMember _ _) (wpAny_of_eq (a:=Value.none) (by first|rfl|(simp only[firstArgMember];rfl)) ?_);refine wpAny_newObj_type ?_ (by size_fits);simp only[raiseNew];refine Y2 (wpAny_handled ?_);rw[show A.in1.handled=none from hh];refine Y2 (Y3 (wpAny_throw ?_));refine Y2 (wpAny_isInstance (T:="StopIteration") (b:=true) ⟨_,W3 _ rfl,rfl⟩ isSubtype_stop ?_);exact Y3 (h _ (((SameBut.update ..).extBut.push _).push _))
theorem xi(lo:(d==sysModules)=false):KdlSrc prog w "dict" d d es.size (fun i v=>∃h:i<es.size,v=es[i].key) (fun h=>Raw h d es ep) where
 type:=fun _ r=>r.ty
 there:=fun _ r=>⟨r.lt,r.lt⟩
 keep:=fun _ _ r hk=>r.up fun o e=>hk d (.inl rfl) o e
 notList:=by decide
 notTuple:=by decide
 hint:=fun _ _ _ _ r hq=>kdl_hint_dict r.ty hq
 iter:=fun A s hh r=>⟨_,fun i h=>h.IsKeyIter s.heap.objs.size d i es.size ep/\Raw h d es ep,(fun _ _ hq=>vt lo r hq),{
  sub:=fun b hb=>by simp at hb;simp[hb]
  frame:=fun _ _ _ st hk=>⟨st.1.at fun o e=>hk _ (by simp) o e,st.2.up fun o e=>hk d (by simp) o e⟩
  item:=fun i s' Q E hi st hQ=>vv st.1 st.2 hi fun h' k' hs'=>hQ _ h' s'.toks ⟨hi,rfl⟩ ⟨k',st.2.up fun o e=>hs'.extBut d o (V4 r.lt) e⟩ fun b o hb e=>hs'.extBut b o (fun h=>hb (by simp[h])) e
  done:=fun s' Q E st hQ=>xh hh st.1 st.2 (W1 _) fun h' he'=>hQ h' s'.toks fun b o hb e=>he' b o (fun h=>hb (by simp[h])) e
  self:=fun _ _ _ _ st hQ=>wpAny_pyIter_keyiter st.1 hQ},⟨_,W3 _ rfl,rfl,rfl⟩,r.up fun o e=>Y7 _ e⟩
theorem oQ{T:String}{r d:Addr}{n:Nat}{P:Nat->Value->Prop}{OK:Heap->Prop}{R:List Value->Shared->Prop}(K:KdlSrc prog w T r d n P OK)(hh:A.handled=none)(ok:OK s.heap)(hn:n<=sizeLine)
 (h:∀(h':Heap) (tk:Nat) (acc:Array Value),(∀b o,s.heap.get? b=some o->h'.get? b=some o)->s.heap.objs.size<=h'.objs.size->ItemsOf P acc n->R acc.toList {s with heap:=h',toks:=tk}):wpAny (model prog w) A (collect (.ref r)) R E s:=by
 have lt:=K.there _ ok;unfold collect;refine Y2 (wpAny_runValue (codeAny_builtin entry_proto_collect' ?_));rw[Around.under_plainId F.plain_proto_collect _];show wpAny _ A.in1 (newList []>>= fun l=>again (.builtin "list.__iadd__" ⟨[l,.ref r],[]⟩)) _ _ s;refine Y2 (wpAny_newObj_type (Y3 ⟨plainId_quiet F.plain_list_iadd _,codeAny_builtin entry_list_iadd' ?_⟩));rw[Around.under_plainId F.plain_list_iadd _];have gS:(s.heap.push {cls:= .type "list",data:= .seq ([]:List Value).toArray}).get? s.heap.objs.size=some {cls:= .type "list",data:= .seq #[]}:=W3 _ rfl;show wpAny _ A.in1 (Builtin.List.listExtendWith (.ref s.heap.objs.size) (.ref r) (.ref s.heap.objs.size)) _ _ _;have main:=kdl_extend (A:=A) (s:={s with heap:=s.heap.push {cls:= .type "list",data:= .seq ([]:List Value).toArray}})
  (R:=fun(q:Result) (s':Shared)=>∃(h':Heap) (tk:Nat) (acc:Array Value) (c:Nat),q= .ok (.ret (.ref s.heap.objs.size))/\s'={s with heap:=h',toks:=tk}/\(∀b o,s.heap.get? b=some o->h'.get? b=some o)/\h'.get? s.heap.objs.size=some {cls:= .type "list",dict:=none,data:= .seq acc c,slots:= #[]}/\ItemsOf P acc n)
  K hh (K.keep _ _ ok fun b _ o e=>Y7 _ e) s.heap.objs.size (ne_of_gt lt.1) (ne_of_gt lt.2) (.ref s.heap.objs.size) 0 gS
  (fun h' tk acc c hk g' it=>⟨h',tk,acc,c,rfl,rfl,fun b o e=>hk b o (V4 (V7 e)) (Y7 _ e),g',it⟩) hn
 refine wpAny_mono main (fun fin s' x=>?_) fun e s' x=>?_
 ·cases fin with
  | done f=>
    obtain⟨h',tk,acc,c,e,rfl,hk,g',it⟩:=x;cases e;show wpAny _ A (load s.heap.objs.size>>= _) _ _ _;exact Y2 (wpAny_load g' (Y3 (h h' tk acc hk (le_of_lt (V7 g')) it)))
  | again c1=>
    refine⟨x.1,codeAny_mono x.2 fun q s2 y=>?_⟩;obtain⟨h',tk,acc,c,rfl,rfl,hk,g',it⟩:=y;show wpAny _ A (load s.heap.objs.size>>= _) _ _ _;exact Y2 (wpAny_load g' (Y3 (h h' tk acc hk (le_of_lt (V7 g')) it)))
 ·obtain⟨_,_,_,_,e',_⟩:=x;cases e'
theorem oR{R:List Value->Shared->Prop}(lo:(d==sysModules)=false)(hh:A.handled=none)(r:Raw s.heap d es ep)(hn:es.size<=sizeLine)
 (h:∀(h':Heap) (tk:Nat),(∀b o,s.heap.get? b=some o->h'.get? b=some o)->s.heap.objs.size<=h'.objs.size->R (es.toList.map (·.key)) {s with heap:=h',toks:=tk}):wpAny (model prog w) A (collect (.ref d)) R E s:=by
 refine oQ (xi lo) hh r hn fun h' tk acc hk sle hacc=>?_
 have e:acc.toList=es.toList.map (·.key):=by
  apply ext_getElem?;intro j;rw[W5,getElem?_toList,getElem?_toList];by_cases hj:j<es.size
  ·have hj2:j<acc.size:=by rw[hacc.1];exact hj
   obtain⟨_,q⟩:=hacc.2 j acc[j] (by simp[hj2]);rw[Array.getElem?_eq_getElem hj2,Array.getElem?_eq_getElem hj,q];rfl
  ·rw[Array.getElem?_eq_none (by rw[hacc.1];lia),Array.getElem?_eq_none (by lia)];rfl
 rw[e];exact h h' tk hk sle
end
section
variable{prog:Program}{w:World}{A:Around}{E:Value->Shared->Prop}{s:Shared}{S:Addr}
theorem kQ{ps:List (Addr×List Str)}{m:Nat}{Q:Value->Shared->Prop}(hcol:∀(E1:Value->Shared->Prop) (R:List Value->Shared->Prop),(∀s1 vs,vs.Perm (ps.map fun p=>Value.ref p.1)->(∀b o,s.heap.get? b=some o->s1.heap.get? b=some o)->s1.gens=s.gens->s1.os=s.os->R vs s1)->wpAny (model prog w) A.in1 (collect (.ref S)) R E1 s)(tk:∀p∈ps,oN prog w s.heap p.2 p.1)(hm:∀p∈ps,p.2.length=m)(m0:m≠0)(few:ps.length<=50000)
 (hQ:∀(s1 s':Shared) (l:Addr) (ss:List (Addr×List Str)) (n:Nat),ss.Perm ps->ss.Pairwise (fun a b=>cy b.2 a.2=false)->(∀b o,s.heap.get? b=some o->s1.heap.get? b=some o)->s1.gens=s.gens->s1.os=s.os->(∀b o,s1.heap.get? b=some o->s'.heap.get? b=some o)->s'.gens=s1.gens->s'.os=s1.os->s1.heap.objs.size<=l->s'.heap.get? l=some {cls:= .type "list",data:= .seq (ss.map fun p=>Value.ref p.1).toArray n}->Q (.ref l) s'):
 wpAny (model prog w) A (call (.builtin "sorted") [.ref S]) Q E s:=by
 have key:∀p∈ps,kOf ps (.ref p.1)=p.2:=fun p hp=>by
  show((ps.find? fun q=>q.1==p.1).map (·.2)).getD []=p.2;cases hf:ps.find? fun q=>q.1==p.1 with
  | none=>
    have:=List.find?_eq_none.mp hf p hp;simp at this
  | some q=>
    have hq:=List.mem_of_find?_eq_some hf;have e:q.1=p.1:=by have:=List.find?_some hf;simpa using this
    show q.2=p.2;have t1:=tk q hq;rw[e]at t1;exact iM _ _ (t1.inj (tk p hp))
 refine Calls.call_function_entry kind_sorted plain_sorted entry_sorted (args_sorted1 _) ?_;unfold Builtin.«sorted»;refine Y2 (m:=checkCount "sorted" 1 1 _) (Y3 ?_);refine Y2 (hcol _ _ fun s1 vs q2 k1 g1 o1=>?_);have hl:vs.length=ps.length:=by rw[q2.length_eq,Y6]
 have mem:∀v∈vs,∃p∈ps,v=Value.ref p.1:=fun v hv=>by
  obtain⟨p,hp,rfl⟩:=mem_map.mp (q2.mem_iff.mp hv);exact⟨p,hp,rfl⟩
 refine Y2 (wpAny_newList ?_ (by rw[sizeLine_eq];lia));have gL:(s1.heap.push (seqObj "list" vs.toArray 0)).get? s1.heap.objs.size=some (seqObj "list" vs.toArray 0):=W3 _ rfl;have tk1:∀p∈ps,∀h6:Heap,(∀b o,b≠s1.heap.objs.size->(s1.heap.push (seqObj "list" vs.toArray 0)).get? b=some o->h6.get? b=some o)->oN prog w h6 p.2 p.1:=fun p hp h6 k6=>by
  refine iK (tk p hp) fun o e=>?_
  have e1:=k1 _ _ e;exact k6 _ _ (V4 (V7 e1)) (Y7 _ e1)
 refine Y2 (wpAny_holding (wpAny_call_entry slot_list_sort ⟨_,gL,rfl⟩ entry_list_sort (eP (s:={s1 with heap:=s1.heap.push (seqObj "list" vs.toArray 0)}) (kd:=tuples' true) (Nv:=fun v=>dv (ps.map (·.2)) (kOf ps v)) gL (by lia) (fun h6 k6 hv2 Q6 hq6=>?_) (fun h6 k6=>?_) fun out p1 p2=>⟨_,rfl,?_⟩) (args_list_sort _)))
 ·have tups:∀l:List Value,(∀v∈l,∃p∈ps,v=Value.ref p.1)->∃fs:List Value,KatTups h6 l fs/\fs.length=l.length/\∀f∈fs,∃z t,f=Value.str z t:=by
   intro l
   induction l with
   | nil=>intro _;exact⟨[],KatTups.nil,rfl,fun f hf=>by cases hf⟩
   | cons v l ih=>
     intro hv;obtain⟨fs,f1,f2,f3⟩:=ih fun u hu=>hv u (W4 _ hu)
     obtain⟨p,hp,rfl⟩:=hv v W6;obtain⟨o',items,n',g',c',d',i'⟩:=tk1 p hp h6 k6;have hs':=dU i';have hne:p.2≠[]:=fun e=>by have:=hm p hp;rw[e]at this;exact m0 this.symm
     obtain⟨z,zs,ez⟩:∃z zs,p.2=z::zs:=by
      cases hp2:p.2 with
      | nil=>exact absurd hp2 hne
      | cons z zs=>exact⟨z,zs,rfl⟩
     rw[ez]at hs';obtain⟨t',vr,ev⟩:∃t' vr,items.toList=Value.str z t'::vr:=by
      cases hit:items.toList with
      | nil=>rw[hit]at hs';cases hs'
      | cons a b=>
        rw[hit]at hs';cases hs' with
        | cons _ t' _=>exact⟨t',b,rfl⟩
     have e0:items[0]? =some (Value.str z t'):=by
      have:items.toList[0]? =some (Value.str z t'):=by rw[ev];rfl
      simpa using this
     exact⟨Value.str z t'::fs,KatTups.cons g' c' d' e0 f1,by simp[f2],fun f hf=>by
      rcases mem_cons.mp hf with e|e
      ·exact⟨z,t',e⟩
      ·exact f3 f e⟩
  obtain⟨fs,f1,f2,f3⟩:=tups vs mem;refine kat_kind (T:= .type "str") f1 (by lia) (fun f hf=>?_) (by decide) hq6;obtain⟨z,t',rfl⟩:=f3 f hf;exact Looks.of_pure rfl
 ·intro x y s' hx hy hs';subst hs';obtain⟨p,hp,ep'⟩:=mem _ hx;obtain⟨q,hq,eq'⟩:=mem _ hy;obtain⟨x1,x2⟩:=x;obtain⟨y1,y2⟩:=y;obtain rfl:x1=Value.ref p.1:=ep';obtain rfl:y1=Value.ref q.1:=eq';show wpAny (model prog w) A.in1.in1 (keyLt' (tuples' true) (Value.ref p.1) (Value.ref q.1)) (fun b s'=>b=decide (dv (ps.map (·.2)) (kOf ps (Value.ref p.1))<dv (ps.map (·.2)) (kOf ps (Value.ref q.1)))/\s'={s1 with heap:=h6}) (fun _ _=>False) {s1 with heap:=h6};rw[key p hp,key q hq];refine rB (s:={s1 with heap:=h6}) (tk1 p hp h6 k6) (tk1 q hq h6 k6) (by rw[hm p hp,hm q hq]) ⟨?_,rfl⟩;exact gJ (mem_map.mpr ⟨p,hp,rfl⟩)
 ·have p3:out.Perm (ps.map fun p=>Value.ref p.1):=p1.trans q2;have oe:out=(out.map fun v=>(aOf v,kOf ps v)).map fun p=>Value.ref p.1:=by
   rw[map_map];refine(map_id out).symm.trans (map_congr_left fun v hv=>?_);obtain⟨p,hp,rfl⟩:=mem_map.mp (p3.mem_iff.mp hv);rfl
  obtain⟨n,gl⟩:∃n,(sortedHeap (s1.heap.push (seqObj "list" vs.toArray 0)) s1.heap.objs.size vs out.toArray).get? s1.heap.objs.size=some (seqObj "list" out.toArray n):=sortedHeap_at gL;refine Y3 ⟨_,rfl,hQ s1 _ s1.heap.objs.size (out.map fun v=>(aOf v,kOf ps v)) n ?_ ?_ k1 g1 o1 (fun b o' e1=>?_) rfl rfl (W1 _) ?_⟩
  ·have:=p3.map fun v=>(aOf v,kOf ps v)
   rw[map_map]at this;refine this.trans ?_;have:(ps.map ((fun v=>(aOf v,kOf ps v)) ∘ fun p=>Value.ref p.1))=ps:=by
    refine(map_congr_left fun p hp=>?_).trans (map_id ps);show(p.1,kOf ps (.ref p.1))=p;rw[key p hp]
   rw[this]
  ·rw[pairwise_map];refine List.Pairwise.imp_of_mem (fun{u v} hu hv huv=>?_) p2;obtain⟨p,hp,rfl⟩:=mem_map.mp (p3.mem_iff.mp hu);obtain⟨q,hq,rfl⟩:=mem_map.mp (p3.mem_iff.mp hv);show cy (kOf ps (.ref q.1)) (kOf ps (.ref p.1))=false;have huv:dv (ps.map (·.2)) (kOf ps (.ref p.1))<=dv (ps.map (·.2)) (kOf ps (.ref q.1)):=huv;rw[key p hp,key q hq]at huv ⊢;rw[gJ (ks:=ps.map (·.2)) (mem_map.mpr ⟨q,hq,rfl⟩)];exact X9 (by lia)
  ·have blt:=V7 e1;show(sortedHeap _ _ _ _).get? b=_;rw[sortedHeap_old (V4 blt) (by rw[V0];exact lt_succ_of_lt blt)];exact Y7 _ e1
  ·have e2:((out.map fun v=>(aOf v,kOf ps v)).map fun p=>Value.ref p.1).toArray=out.toArray:=congrArg List.toArray oe.symm;have e3:(seqObj "list" out.toArray n)=({cls:= .type "list",data:= .seq ((out.map fun v=>(aOf v,kOf ps v)).map fun p=>Value.ref p.1).toArray n}:Obj):=by
    rw[e2]
   exact gl.trans (congrArg some e3)
end
section
variable{X:Cx}{K:PySem.W.Frag}
theorem nA(hc:X.calm=true):cG X (.builtin "sorted") (fun xs H Q=>∃a kvs ks m,xs=[.ref a]/\H a=some (.dT kvs)/\kvs.map (·.1)=ks.map (fun k:List Str=>k.map Sum.inr)/\(∀k∈ks,k.length=m)/\m≠0/\ks.length<=1000/\
 ∀(l:Addr) (ss:List (Addr×List Str)),H l=none->aF H ss->(ss.map (·.2)).Perm ks->(ss.map (·.2)).Pairwise (fun a b=>cy b a=false)->Q (.ref l) (upd H l (.lst (ss.map fun p=>V.ref p.1)))):=by
 intro pins s σ H xs us Q I r h;obtain⟨a,kvs,ks,m,rfl,ha,hks,hm,m0,few,q⟩:=h;obtain⟨u,rfl,ru⟩:=d6 r;cases ru;obtain⟨_,lo,xs,kt,o,es,ep,g,ex,dt,he,_,_⟩:=xC I.hok ha;have aux:∀{kvs:List (List Key×V)} {xs:List (List Key×Addr×Value)},KT H kvs xs->∀ks:List (List Str),kvs.map (·.1)=ks.map (fun k:List Str=>k.map Sum.inr)->∃ps:List (Addr×List Str),ps.map (·.2)=ks/\(xs.map fun x=>Value.ref x.2.1)=(ps.map fun p=>Value.ref p.1)/\∀p∈ps,H p.1=some (.tup (p.2.map V.str)):=by
  intro kvs xs kt
  induction kt with
  | nil=>
    intro ks hks;cases ks with
    | nil=>exact⟨[],rfl,rfl,fun p hp=>by cases hp⟩
    | cons _ _=>cases hks
  | @cons kv x kvs xs hx t ih=>
    intro ks hks;cases ks with
    | nil=>cases hks
    | cons k ks=>
      rw[map_cons,map_cons]at hks;injection hks with h1 h2
      obtain⟨ps,p1,p2,p3⟩:=ih ks h2;refine⟨(x.2.1,k)::ps,by rw[map_cons,p1],by rw[map_cons,map_cons,p2],fun p hp=>?_⟩;rcases mem_cons.mp hp with e|e
      ·rw[e];have:=hx.2.1;rw[h1,map_map]at this;exact this
      ·exact p3 p e
 obtain⟨ps,p1,p2,p3⟩:=aux kt ks hks;have hps:∀p∈ps,p.2∈ks:=fun p hp=>by rw[<-p1];exact mem_map.mpr ⟨p,hp,rfl⟩
 have ta:aF H ps:=fun p hp=>⟨fun e=>m0 (by rw[<-hm _ (hps p hp),e];rfl),p3 p hp⟩
 have few2:ps.length<=1000:=by rw[<-Y6 (f:=(·.2)),p1];exact few
 have raw:Raw s.heap a es ep:=⟨o,g,ex,dt⟩
 have hes:es.toList.map (·.key)=ps.map fun p=>Value.ref p.1:=by
  rw[he,map_map,<-p2];rfl
 have esz:es.size<=sizeLine:=by
  have:(es.toList.map (·.key)).length=(ps.map fun p=>Value.ref p.1).length:=by rw[hes]
  rw[Y6,Y6,X2]at this;rw[sizeLine_eq];lia
 refine kQ (fun E1 R hR=>oR lo (show X.A.in1.handled=none from I.ok.hd hc) raw esz fun h' tk k sle=>?_) (j3 I ta) (fun p hp=>hm _ (hps p hp)) m0 (by lia) fun s1 s' l ss n q1 q2 k1 g1 o1 k g o hle gl=>?_
 ·rw[hes];exact hR _ _ (List.Perm.refl _) k rfl rfl
 ·have I1:Inv X pins σ H s1:=I.keptS k1 g1 o1;have hfree:H l=none:=I1.hok.fresh hle;have J:Inv X pins σ H s':=I1.keptS k g o;refine⟨.ref l,_,I1.stoodS (o:= .lst (ss.map fun p=>V.ref p.1)) J hle ⟨?_,ss.map (fun p=>Value.ref p.1),n,j6 ss,gl⟩,rfl,q l ss hfree (fun p hp=>ta p (q1.mem_iff.mp hp)) (by rw[<-p1];exact q1.map _) (by rw[pairwise_map];exact q2)⟩;rw[Y6,q1.length_eq,sizeLine_eq]
  lia
theorem sY(hc:X.calm=true):dM X (.builtin "sorted") (fun xs H Q=>∃a kvs ks m,xs=[.ref a]/\H a=some (.dT kvs)/\kvs.map (·.1)=ks.map (fun k:List Str=>k.map Sum.inr)/\(∀k∈ks,k.length=m)/\m≠0/\ks.length<=1000/\
 ∀(l:Addr) (ss:List (Addr×List Str)),H l=none->aF H ss->(ss.map (·.2)).Perm ks->(ss.map (·.2)).Pairwise (fun a b=>cy b a=false)->Q (.ref l) (upd H l (.lst (ss.map fun p=>V.ref p.1)))):=⟨nA hc⟩
end
section
variable{X:Cx}
theorem zq{pos:Pos}:QE X (.Dict [] [] pos) p7:=⟨uI⟩
theorem vw{k:Nat}{o i value:Expr}{pos pos':Pos}{td ty tv:TE}(hr:cr k X.A)(hs:swapsWith value (some (.Subscript o i pos')) pos.line X.env=pure false)(hv:QE X value tv)(ho:QE X o td)(hi:QE X i ty):QS X (.Assign [.Subscript o i pos'] value pos) (uE td ty tv):=
 ⟨wB (by have:=hr.units;lia) ho.h hi.h hv.h hs⟩
theorem jf{κ:Type}[DecidableEq κ](kvs:List (κ×V))(k:κ)(v:V):(hW kvs k v).map (·.1)=if k∈kvs.map (·.1)then kvs.map (·.1)else kvs.map (·.1) ++[k]:=by
 unfold hW;have e:(kvs.any fun kv=>decide (kv.1=k))=true↔k∈kvs.map (·.1):=by
  rw[any_eq_true,mem_map]
  constructor
  ·rintro⟨kv,h1,h2⟩;exact⟨kv,h1,W8 h2⟩
  ·rintro⟨kv,h1,h2⟩;exact⟨kv,h1,X7 h2⟩
 by_cases h:k∈kvs.map (·.1)
 ·rw[if_pos (e.mpr h),if_pos h,map_map];refine map_congr_left fun kv _=>?_
  show(if kv.1=k then(kv.1,v)else kv).1=kv.1
  split<;> rfl
 ·rw[if_neg (fun z=>h (e.mp z)),if_neg h,X4];rfl
end
structure vx (K:PySem.W.Frag) (mg:Str->Option Value) (x:Str):Prop where
 at_:mg x=some (.ref (cw mg x))
 cls:Cls K (cw mg x)
structure vy (K:PySem.W.Frag) (mg:Str->Option Value) (x m qual:Str) (st:Stmt) (ps:List Str):Prop where
 ex:∃f fd,wj K (cw mg x) m f/\Fun K m qual st f fd/\eI K fd ps []
structure vz (K:PySem.W.Frag) (mg:Str->Option Value) (x qual:Str) (st:Stmt) (ps:List Str):Prop where
 ex:∃f fd,Mk K (cw mg x) f/\Fun K "__init__" qual st f fd/\eI K fd ps []
structure xj (P:Program) (w:World) (K:PySem.W.Frag) (mg:Str->Option Value) (base:Heap) (k:Nat) (x m:Str) (ps:List Str) (sp:Sp):Prop where
 ex:∃f fd,hJ P w K mg base CX0 k f fd ps sp/\wj K (cw mg x) m f/\eI K fd ps []
structure xk (P:Program) (w:World) (K:PySem.W.Frag) (mg:Str->Option Value) (base:Heap) (k:Nat) (x:Str) (ps:List Str) (sp:Sp):Prop where
 ex:∃f fd,hJ P w K mg base CX0 k f fd ps sp/\Mk K (cw mg x) f/\eI K fd ps []
section
variable{P:Program}{w:World}{K:PySem.W.Frag}{mg:Str->Option Value}{base:Heap}{x m qual:Str}{st:Stmt}{N ps:List Str}{k:Nat}{sp:Sp}
theorem vy.cal(D:vy K mg x m qual st ps)(S:au N ps (af st))(len:∀vs H Q E,sp vs H Q E->vs.length=ps.length)
 (hbody:∀(f:Addr) (cdv:Value) (A:Around) (outer:List Env) (s:Shared) (H:Hp) (vs:List V) (Q:VK) (E:XK),cr k (A.deeper (envOfC qual (af st) s.heap.objs.size f cdv))->sp vs H Q E->
  ∃t,PSs (mN CX0 P w K mg base N qual (af st) f cdv A outer s H E).nox (ar st) t/\t {nx:=fun _ H'=>Q .non H',rt:=Q} (fR N vs) H):xj P w K mg base (k+1) x m ps sp:=by
 obtain⟨f,fd,hm,F,hb⟩:=D.ex;exact⟨f,fd,F.ok S len (hbody f),hm,hb⟩
theorem vz.cal(D:vz K mg x qual st ps)(S:au N ps (af st))(len:∀vs H Q E,sp vs H Q E->vs.length=ps.length)
 (hbody:∀(f:Addr) (cdv:Value) (A:Around) (outer:List Env) (s:Shared) (H:Hp) (vs:List V) (Q:VK) (E:XK),cr k (A.deeper (envOfC qual (af st) s.heap.objs.size f cdv))->sp vs H Q E->
  ∃t,PSs (mN CX0 P w K mg base N qual (af st) f cdv A outer s H E).nox (ar st) t/\t {nx:=fun _ H'=>Q .non H',rt:=Q} (fR N vs) H):xk P w K mg base (k+1) x ps sp:=by
 obtain⟨f,fd,hm,F,hb⟩:=D.ex;exact⟨f,fd,F.ok S len (hbody f),hm,hb⟩
end
section
variable{X:Cx}{K:PySem.W.Frag}{j k:Nat}{x m:Str}{ps:List Str}{sp:Sp}{p pos apos:Pos}{o e:Expr}{es:List Expr}{to te:TE}{t:TA}
theorem kR{pl:Sem Bool}(C:xj X.prog X.w X.K X.mg X.base j x m ps sp)(c:vx X.K X.mg x)(hr:cr k X.A)(hjk:Nat.ble j k=true)
 (ht:eval (.Call (.Attribute o m apos) [] [] pos) X.env=(do
  let ov<-eval o X.env
  standAt apos.atName
  let(f,first)<-holding [ov] (getMethod ov m pl)
  callWith pos f first (backTo pos (starEach [] X.env)) (backToKw pos (keywordEach [] X.env)))) (ho:QE X o to):QE X (.Call (.Attribute o m apos) [] [] pos) (uq (cw X.mg x) m sp [] E0 to um):=by
 obtain⟨f,fd,F,hm,hb⟩:=C.ex;exact⟨uu ho.h c.cls hm F (hr.mono (Nat.le_of_ble_eq_true hjk)) hb .nil uJ ht⟩
theorem xP(C:xk X.prog X.w X.K X.mg X.base j x ps sp)(c:vx X.K X.mg x)(hr:cr k X.A)(hg:Gl X x)(hjk:Nat.ble (j+1) k=true)(hdb:(x==("__debug__":Str))=false)(he:(e::es).any bE=false)(ha:QA X (e::es) t):
 QE X (.Call (.Name x p) (e::es) [] pos) (ur (cw X.mg x) sp [] E0 t):=by
 obtain⟨f,fd,F,hm,hb⟩:=C.ex;rw[any_cons,or_eq_false_iff]at he;exact⟨wo hm F (hr.mono (Nat.le_of_ble_eq_true hjk)) hg c.at_ hb .nil uJ ha.h hdb (ay he.1) (gE he.2)⟩
theorem fldE{f:Str}(h:X.K=K)(hb:jY o=false)(ho:QE X o to):QE X (.Attribute o f pos) (yq K to f):=by
 subst h;exact⟨yt ho.h (jC hb)⟩
theorem xl{f:Str}{value:Expr}{tv:TE}{pos':Pos}(h:X.K=K)(hs:gF value=false)(ho:QE X o to)(hv:QE X value tv):QS X (.Assign [.Attribute o f pos'] value pos) (yr K to tv f):=by
 subst h;exact⟨yu ho.h hv.h (iA hs)⟩
end
structure GvT (K:PySem.W.Frag) (mg:Str->Option Value) (x:Str) (xs:List V):Prop where
 ex:∃a,mg x=some (.ref a)/\∀H,SqT K H a xs
theorem vA{K:PySem.W.Frag}{h:Heap}{mg:Str->Option Value}{x:Str}{xs:List V}{a:Addr}{o:Obj}{its:Array Value}{n:Nat}(X:K.In h)(G:h.Ns mainGlobals mg)(z:nsIn K mainGlobals x=some (some (.ref a)))
 (hk:K.lookup a=some o) (hc:o.cls= .type "tuple") (hd:o.data= .seq its n) (hz:its.size<=sizeLine) (r:aH xs its.toList):GvT K mg x xs:=
 ⟨a,mg_of X G z,fun _=> .inr ⟨o,its,n,hk,hc,hd,hz,r⟩⟩
theorem Af{X:Cx}{K:PySem.W.Frag}{x:Str}{xs:List V}{pos:Pos}(h:X.K=K)(g:GvT K X.mg x xs)(hg:Gl X x)(hd:(x==("__debug__":Str))=false):QE X (.Name x pos) (fun _ H Q=>∀a,(∀H',SqT K H' a xs)->Q (.ref a) H):=by
 subst h;obtain⟨a,hm,hq⟩:=g.ex;refine⟨fun pins s σ H Q I q=>xE (v:= .ref a) ⟨.ref a,hm,rfl⟩ hg hd pins s σ H Q I (q a hq)⟩
theorem tryN{X:Cx}{body:List Stmt}{h:ExceptHandler}{pos:Pos}{tb:TS}(hx:∀e s,X.xe e s->False)(hb:QSs X body tb):QS X (.Try body [h] [] [] pos) tb:=by
 refine⟨fun pins s σ H D I q=>?_⟩;refine wpAny_Try_except (wpAny_mono (hb.h pins s σ H D I q) (fun f s1 q=>?_) fun e s1 q=>(hx e s1 q).elim);cases f with
 | next=>exact wpAny_execs_nil q
 | brk=>exact q
 | cont=>exact q
 | ret u=>exact q
section
variable{X:Cx}{K:PySem.W.Frag}
end
theorem oS(x y:Str):cy [x] [y]=iL x y:=by
 show(if x=y then false else iL x y)=iL x y
 split
 ·rename_i e;rw[e,rz]
 ·rfl
section
variable{prog:Program}{w:World}{A:Around}{E:Value->Shared->Prop}{s:Shared}{S:Addr}
theorem oU{us:List Value}{ks:List Str}{Q:Value->Shared->Prop}(hcol:∀(E1:Value->Shared->Prop) (R:List Value->Shared->Prop),(∀s1,(∀b o,s.heap.get? b=some o->s1.heap.get? b=some o)->s1.gens=s.gens->s1.os=s.os->R us s1)->wpAny (model prog w) A.in1 (collect (.ref S)) R E1 s)(hus:StrsAre us ks)(few:us.length<=50000)
 (hQ:∀(s1 s':Shared) (l:Addr) (vs:List Value) (ss:List Str) (n:Nat),StrsAre vs ss->ss.Perm ks->ss.Pairwise (fun a b=>iL b a=false)->(∀b o,s.heap.get? b=some o->s1.heap.get? b=some o)->s1.gens=s.gens->s1.os=s.os->(∀b o,s1.heap.get? b=some o->s'.heap.get? b=some o)->s'.gens=s1.gens->s'.os=s1.os->s1.heap.objs.size<=l->s'.heap.get? l=some {cls:= .type "list",data:= .seq vs.toArray n}->Q (.ref l) s'):
 wpAny (model prog w) A (call (.builtin "sorted") [.ref S]) Q E s:=by
 refine Calls.call_function_entry kind_sorted plain_sorted entry_sorted (args_sorted1 _) ?_;unfold Builtin.«sorted»;refine Y2 (m:=checkCount "sorted" 1 1 _) (Y3 ?_);refine Y2 (hcol _ _ fun s1 k1 g1 o1=>?_);refine Y2 (wpAny_newList ?_ (by rw[sizeLine_eq];lia));have gL:(s1.heap.push (seqObj "list" us.toArray 0)).get? s1.heap.objs.size=some (seqObj "list" us.toArray 0):=W3 _ rfl;have hin:∀v∈us,∃x t,v=Value.str x t/\[x]∈ks.map fun z=>[z]:=fun v hv=>by
  obtain⟨x,t,rfl⟩:=hus.all v hv;refine⟨x,t,rfl,mem_map.mpr ⟨x,?_,rfl⟩⟩;rw[<-hus.strs];exact mem_map.mpr ⟨_,hv,rfl⟩
 refine Y2 (wpAny_holding (wpAny_call_entry slot_list_sort ⟨_,gL,rfl⟩ entry_list_sort (eP (s:={s1 with heap:=s1.heap.push (seqObj "list" us.toArray 0)}) (kd:=oneType') (Nv:=fun v=>dv (ks.map fun z=>[z]) [strOf v]) gL (by lia) (fun h6 k6 hv2 Q6 hq6=>?_) (fun h6 k6=>?_) fun out p1 p2=>⟨_,rfl,?_⟩) (args_list_sort _)))
 ·obtain⟨v1,v2,r,rfl⟩:∃v1 v2 r,us=v1::v2::r:=by
   match us,hv2 with
   | v1::v2::r,_=>exact⟨v1,v2,r,rfl⟩
  rw[keyKind_strs hus];exact Y3 hq6
 ·intro x y s' hx hy hs';subst hs';obtain⟨x1,x2⟩:=x;obtain⟨y1,y2⟩:=y;obtain⟨a,t,rfl,ha⟩:=hin _ hx;obtain⟨b,u,rfl,hb⟩:=hin _ hy;show wpAny (model prog w) A.in1.in1 (keyLt' oneType' (.str a t) (.str b u)) (fun r s'=>r=decide (dv (ks.map fun z=>[z]) [a]<dv (ks.map fun z=>[z]) [b])/\s'={s1 with heap:=h6}) (fun _ _=>False) {s1 with heap:=h6};rw[keyLt'_oneType];refine oneLt_str ⟨?_,rfl⟩;rw[<-gJ ha,oS];rfl
 ·have hall:∀v∈out,∃x t,v=Value.str x t:=fun v hv=>hus.all v (p1.mem_iff.mp hv)
  obtain⟨n,gl⟩:∃n,(sortedHeap (s1.heap.push (seqObj "list" us.toArray 0)) s1.heap.objs.size us out.toArray).get? s1.heap.objs.size=some (seqObj "list" out.toArray n):=sortedHeap_at gL;refine Y3 ⟨_,rfl,hQ s1 _ s1.heap.objs.size out (out.map strOf) n (strsAre_map out hall) ?_ ?_ k1 g1 o1 (fun b o' e1=>?_) rfl rfl (W1 _) gl⟩
  ·rw[<-hus.strs];exact p1.map _
  ·rw[pairwise_map];refine List.Pairwise.imp_of_mem (fun{u v} hu hv huv=>?_) p2;obtain⟨a,t,rfl,ha⟩:=hin _ (p1.mem_iff.mp hu);obtain⟨b,t',rfl,hb⟩:=hin _ (p1.mem_iff.mp hv);show iL b a=false;rw[<-oS,gJ hb];have huv:dv (ks.map fun z=>[z]) [a]<=dv (ks.map fun z=>[z]) [b]:=huv;exact X9 (by lia)
  ·have blt:=V7 e1;show(sortedHeap _ _ _ _).get? b=_;rw[sortedHeap_old (V4 blt) (by rw[V0];exact lt_succ_of_lt blt)];exact Y7 _ e1
end
theorem iN:∀{ks:List Str} {us:List Value},aH (ks.map V.str) us->StrsAre us ks
 |[],_,.nil=> .nil
 | _::_,_,.cons r t=>by
   obtain⟨t',rfl⟩:=r;exact .cons _ _ (iN t)
theorem iO:∀{ks:List Str} {us:List Value},StrsAre us ks->aH (ks.map V.str) us
 | _,_,.nil=> .nil
 | _,_,.cons _ t h=> .cons ⟨t,rfl⟩ (iO h)
section
variable{X:Cx}{K:PySem.W.Frag}
theorem sZ(h:X.K=K):dM X (.builtin "sorted") (fun xs H Q=>∃(a:Addr) (ks:List Str),xs=[.ref a]/\SqL K H a (ks.map V.str)/\ks.length<=50000/\∀(l:Addr) (ss:List Str),H l=none->ss.Perm ks->ss.Pairwise (fun a b=>iL b a=false)->Q (.ref l) (upd H l (.lst (ss.map V.str)))):=by
 subst h;refine⟨fun pins s σ H xs us Q I r h=>?_⟩;obtain⟨a,ks,rfl,ha,few,q⟩:=h;obtain⟨u,rfl,ru⟩:=d6 r;cases ru;obtain⟨its,rv,⟨o,n,go,hc,hd,hdt⟩,hz⟩:=I.list ha;have hs:=iN rv;have hl:its.length=ks.length:=by rw[<-rv.length,Y6]
 refine oU (fun E1 R hR=>wpAny_collect_seq a (T:="list") (.inl rfl) go hc hdt (fun h' k=>?_) (by rw[W9,sizeLine_eq];lia)) hs (by lia) fun s1 s' l vs ss n q1 q2 q3 k1 g1 o1 k g o hle gl=>?_
 ·exact hR {s with heap:=h'} k rfl rfl
 ·have I1:Inv X pins σ H s1:=I.keptS k1 g1 o1;have hfree:H l=none:=I1.hok.fresh hle;have J:Inv X pins σ H s':=I1.keptS k g o;refine⟨.ref l,_,I1.stoodS (o:= .lst (ss.map V.str)) J hle ⟨?_,vs,n,iO q1,gl⟩,rfl,q l ss hfree q2 q3⟩;rw[Y6,q2.length_eq,sizeLine_eq]
  lia
theorem tf(h:X.K=K):dM X (.builtin "sorted") (fun xs H Q=>∃(a:Addr) (ps:List (Addr×List Str)) (m:Nat),xs=[.ref a]/\SqL K H a (ps.map fun p=>V.ref p.1)/\aF H ps/\(∀p∈ps,p.2.length=m)/\m≠0/\ps.length<=50000/\
 ∀(l:Addr) (ss:List (Addr×List Str)),H l=none->ss.Perm ps->ss.Pairwise (fun a b=>cy b.2 a.2=false)->Q (.ref l) (upd H l (.lst (ss.map fun p=>V.ref p.1)))):=by
 subst h;refine⟨fun pins s σ H xs us Q I r h=>?_⟩;obtain⟨a,ps,m,rfl,ha,ta,hm,m0,few,q⟩:=h;obtain⟨u,rfl,ru⟩:=d6 r;cases ru;obtain⟨its,rv,⟨o,n,go,hc,hd,hdt⟩,hz⟩:=I.list ha;have:=nv rv;subst this;refine kQ (fun E1 R hR=>wpAny_collect_seq a (T:="list") (.inl rfl) go hc hdt (fun h' k=>?_) (by rw[W9,Y6,sizeLine_eq];lia)) (j3 I ta) hm m0 few fun s1 s' l ss n q1 q2 k1 g1 o1 k g o hle gl=>?_
 ·exact hR {s with heap:=h'} _ (List.Perm.refl _) k rfl rfl
 ·have I1:Inv X pins σ H s1:=I.keptS k1 g1 o1;have hfree:H l=none:=I1.hok.fresh hle;have J:Inv X pins σ H s':=I1.keptS k g o;refine⟨.ref l,_,I1.stoodS (o:= .lst (ss.map fun p=>V.ref p.1)) J hle ⟨?_,ss.map (fun p=>Value.ref p.1),n,j6 ss,gl⟩,rfl,q l ss hfree q1 q2⟩;rw[Y6,q1.length_eq,sizeLine_eq]
  lia
theorem dinT{k:Nat}{i o:Expr}{ty td:TE}{pos:Pos}(hr:cr k X.A)(hm:behindInMarks .In o=false)(hi:QE X i ty)(ho:QE X o td):QT X (.Compare i [.In] [o] pos) (tB (yN ty td)):=
 ⟨x5 (yO (by have:=hr.units;lia) hi.h ho.h) hm⟩
end
theorem eQ{X:Cx}{K:PySem.W.Frag}{a b:Expr}{ta tb:TE}{pos:Pos}(h:X.K=K)(hs:jW b)(ha:QE X a ta)(hb:QE X b tb):QE X (.Subscript a b pos) (tOp (ww K) ta tb):=by subst h;exact⟨uA yD ha.h hb.h hs⟩
theorem qL{elt:Expr}{gens:List Comprehension}{scope:Scope}{pos px:Pos}{x:Str}{l:Nat}{env:Env}(h:(env.blockKind== .function&&env.kindOf x==some .local&&px.line==pos.line&&!(scope.names.any fun(n,k)=>n==x&&(k== .local||k== .cell)))=false):
 swapsWith (.ListComp elt gens scope pos) (some (.Name x px)) l env=pure false:=by
 show(pure (env.blockKind== .function&&env.kindOf x==some .local&&px.line==pos.line&&!(scope.names.any fun(n,k)=>n==x&&(k== .local||k== .cell))):Sem Bool)=pure false;rw[h]
theorem vB{X:Cx}(i:Nat){x:Str}{px pos' pos:Pos}{elt:Expr}{gens:List Comprehension}{scope:Scope}{te:TE}(hN:X.N.Nodup)(hi:X.N[i]? =some x)(hx:Loc X.env.scope x)(hf:X.fn x=true\/X.env.scope.names.lookup x=some .local)
 (hsw:(X.env.blockKind== .function&&X.env.kindOf x==some .local&&px.line==pos.line&&!(scope.names.any fun(n,k)=>n==x&&(k== .local||k== .cell)))=false) (he:QE X (.ListComp elt gens scope pos) te):
 QS X (.Assign [.Name x px] (.ListComp elt gens scope pos) pos') (nP te (ju i)):=⟨tV hN hi hx he.h (qL hsw) hf⟩
section
variable{prog:Program}{w:World}{A:Around}{E:Value->Shared->Prop}{s:Shared}
end
noncomputable def Itzt(K:PySem.W.Frag)(a b:Addr):It:=⟨fun i H=>∃xs ys x y,SqT K H a xs/\SqT K H b ys/\xs[i]? =some x/\ys[i]? =some y,
 fun i H v H'=>∃T x y,H T=none/\v= .ref T/\H'=upd H T (.tup [x,y])/\(∀xs,SqT K H a xs->xs[i]? =some x)/\(∀ys,SqT K H b ys->ys[i]? =some y),
 fun i H=>∃xs ys,SqT K H a xs/\SqT K H b ys/\i<=xs.length/\i<=ys.length/\(i=xs.length\/i=ys.length)⟩
section
variable(h:Heap)(l1 l2:Addr)
end
section
variable{prog:Program}{w:World}{A:Around}{E:Value->Shared->Prop}{s:Shared}
end
noncomputable def Ag(K:PySem.W.Frag)(ta:TA):TI:=fun σ H R=>ta σ H fun vs H1=>∃a b,vs=[.ref a,.ref b]/\(((∃xs,SqL K H1 a xs)/\(∃ys,SqL K H1 b ys)/\R (qK K a b) H1)\/((∃xs,SqT K H1 a xs)/\(∃ys,SqT K H1 b ys)/\R (Itzt K a b) H1))
section
variable{X:Cx}{K:PySem.W.Frag}{pos:Pos}
end
end L2
namespace Cut
open PySem L2
theorem kS{α:Type}(lt:α->α->Bool)(total:∀x y,lt x y=false->x≠y->lt y x=true):∀{l m:List α},l.Pairwise (fun a b=>lt b a=false)->m.Pairwise (fun a b=>lt b a=false)->l.Nodup->m.Nodup->(∀x,x∈l↔x∈m)->l=m
 |[],[],_,_,_,_,_=>rfl
 |[],y::m,_,_,_,_,h=>absurd ((h y).mpr W6) (by simp)
 | x::l,[],_,_,_,_,h=>absurd ((h x).mp W6) (by simp)
 | x::l,y::m,hl,hm,nl,nm,h=>by
   obtain⟨hl1,hl2⟩:=List.pairwise_cons.mp hl;obtain⟨hm1,hm2⟩:=List.pairwise_cons.mp hm;obtain⟨nl1,nl2⟩:=nodup_cons.mp nl;obtain⟨nm1,nm2⟩:=nodup_cons.mp nm;have e:x=y:=Classical.byContradiction fun hne=>by
    have hx:x∈m:=(mem_cons.mp ((h x).mp W6)).resolve_left hne;have hy:y∈l:=(mem_cons.mp ((h y).mpr W6)).resolve_left (Ne.symm hne);have q1:=hm1 x hx;have q2:=hl1 y hy;rw[total x y q1 hne]at q2;cases q2
   subst e;rw[kS lt total hl2 hm2 nl2 nm2 fun z=>?_]
   constructor
   ·intro hz;rcases mem_cons.mp ((h z).mp (W4 _ hz))with e|e
    ·rw[e]at hz;exact absurd hz nl1
    ·exact e
   ·intro hz;rcases mem_cons.mp ((h z).mpr (W4 _ hz))with e|e
    ·rw[e]at hz;exact absurd hz nm1
    ·exact e
noncomputable def Let(rows:List Str)(c:Nat):Prop:=c≠46/\∃r∈rows,c∈r.cps.toList
noncomputable def Ah(rows:List Str)(a b:Nat):Prop:=a≠46/\a≠b/\∃(i j:Nat) (r r':Str),rows[i]? =some r/\rows[i+1]? =some r'/\r.cps[j]? =some a/\r'.cps[j]? =some b
theorem mz{rows:List Str}{c:Nat}:c∈cv rows↔Let rows c:=by
 unfold cv Let;rw[List.mem_filter,ou,List.mem_flatten,decide_eq_true_eq]
 constructor
 ·rintro⟨⟨l,hl,hc⟩,hne⟩;obtain⟨r,hr,rfl⟩:=mem_map.mp hl;exact⟨hne,r,hr,hc⟩
 ·rintro⟨hne,r,hr,hc⟩;exact⟨⟨_,mem_map.mpr ⟨r,hr,rfl⟩,hc⟩,hne⟩
end Cut
namespace Cut
open PySem L2
noncomputable def jH(cs:List Int):Prop:=∃air:Nat,air<cs.length/\(∀(k:Nat) (c:Int),cs[k]? =some c->(k<air->c= -1)/\(air<=k->0<=c/\c<=7))
noncomputable def sg(a s:Int):Nat:=if a<0 then 46 else 97+((a*5+s)%26).toNat
theorem zr{a s:Int}(h:0<=a):fZ (sg a s)=true:=by
 unfold sg;rw[if_neg (by lia),sJ]
 lia
theorem zt{a s:Int}(h:a<0):sg a s=46:=if_pos h
theorem vC{a s:Int}(h:0<=a):sg a s≠46:=by
 unfold sg;rw[if_neg (by lia)]
 lia
theorem zu{a b s:Int}(ha:0<=a)(ha7:a<=7)(hb:0<=b)(hb7:b<=7)(h:sg a s=sg b s):a=b:=by
 unfold sg at h;rw[if_neg (by lia),if_neg (by lia)]at h;omega
noncomputable def fO(cols:List (List Int))(sh:Int)(k:Nat):Str:=⟨(cols.map fun c=>sg (c.getD k 0) sh).toArray⟩
noncomputable def drawn(cols:List (List Int))(hi:Nat)(sh:Int):List Str:=(List.range hi).map (fO cols sh)
theorem iP{cols:List (List Int)}{hi:Nat}{sh:Int}{k:Nat}{z:Str}(h:(drawn cols hi sh)[k]? =some z):k<hi/\z=fO cols sh k:=by
 unfold drawn at h;rw[W5]at h;by_cases hk:k<hi
 ·rw[List.getElem?_range hk]at h;exact⟨hk,(X1 h).symm⟩
 ·rw[List.getElem?_eq_none (by rw[length_range];lia)]at h;cases h
theorem nB{cols:List (List Int)}{sh:Int}{k j c:Nat}(h:(fO cols sh k).cps[j]? =some c):∃col,cols[j]? =some col/\c=sg (col.getD k 0) sh:=by
 have h:(cols.map fun c=>sg (c.getD k 0) sh)[j]? =some c:=by simpa [fO]using h
 rw[W5]at h;cases e:cols[j]? with
 | none=>rw[e]at h;cases h
 | some col=>rw[e]at h;exact⟨col,rfl,(X1 h).symm⟩
theorem gK{col:List Int}{hi k:Nat}(hl:col.length=hi)(hk:k<hi):col[k]? =some (col.getD k 0):=by
 rw[X3,Y4 (by lia)];rfl
theorem oV{cols:List (List Int)}{hi:Nat}{sh:Int}(h1:1<=hi)(h2:hi<=40)(w1:1<=cols.length)(w2:cols.length<=40)(hc:∀c∈cols,c.length=hi/\jH c):bQ (drawn cols hi sh):=by
 have len:(drawn cols hi sh).length=hi:=by unfold drawn;rw[Y6,length_range]
 have at':∀z∈drawn cols hi sh,∃k,k<hi/\z=fO cols sh k:=fun z hz=>by
  obtain⟨k,e⟩:=List.getElem?_of_mem hz;exact⟨k,iP e⟩
 refine⟨by lia,by lia,⟨cols.length,w1,w2,fun z hz=>?_⟩,fun z hz=>?_,fun i r r' e1 e2 j c c' g1 g2 hc'=>?_,?_⟩
 ·obtain⟨k,_,rfl⟩:=at' z hz;simp[fO]
 ·obtain⟨k,hk,rfl⟩:=at' z hz;rw[all_eq_true];intro c hcm;obtain⟨j,hj⟩:=List.getElem?_of_mem hcm;obtain⟨col,ec,rfl⟩:=nB (j:=j) (by simpa using hj);by_cases h0:col.getD k 0<0
  ·rw[zt h0];decide +kernel
  ·unfold okc;rw[zr (by lia),Bool.or_true]
 ·obtain⟨hi1,rfl⟩:=iP e1;obtain⟨hi2,rfl⟩:=iP e2;obtain⟨col,ec,rfl⟩:=nB g1;obtain⟨col',ec',rfl⟩:=nB g2;rw[ec]at ec';cases ec';obtain⟨hl,air,ha,hk⟩:=hc col (Y8 ec);have q1:=hk i _ (gK hl hi1);have q2:=hk (i+1) _ (gK hl hi2);by_cases hlt:i+1<air
  ·rw[q1.1 (by lia)];rfl
  ·exact absurd hc' (vC (q2.2 (by lia)).1)
 ·have hne:0<cols.length:=by lia
  have hm:=hc cols[0] (getElem_mem hne);obtain⟨hl,air,ha,hk⟩:=hm;refine⟨fO cols sh (hi-1),mem_map.mpr ⟨hi-1,by rw[mem_range];lia,rfl⟩,sg (cols[0].getD (hi-1) 0) sh,?_,vC ((hk (hi-1) _ (gK hl (by lia))).2 (by lia)).1⟩;show _∈(cols.map fun c=>sg (c.getD (hi-1) 0) sh).toArray.toList;rw[toList_toArray];exact mem_map.mpr ⟨cols[0],getElem_mem hne,rfl⟩
theorem oW{cols:List (List Int)}{hi:Nat}{sh:Int}(hc:∀c∈cols,c.length=hi/\jH c){c:Nat}:Let (drawn cols hi sh) c↔∃a:Int,0<=a/\a<=7/\(∃col∈cols,a∈col)/\c=sg a sh:=by
 constructor
 ·rintro⟨hne,r,hr,hcr⟩;obtain⟨k,e⟩:=List.getElem?_of_mem hr;obtain⟨hk,rfl⟩:=iP e;obtain⟨j,hj⟩:=List.getElem?_of_mem hcr;obtain⟨col,ec,rfl⟩:=nB (j:=j) (by simpa using hj);have hm:=Y8 ec;obtain⟨hl,air,ha,hq⟩:=hc col hm;have g:=gK hl hk;have q:=hq k _ g;have:air<=k:=by
   refine Nat.le_of_not_lt fun z=>hne ?_
   rw[q.1 z];rfl
  exact⟨_,(q.2 this).1,(q.2 this).2,⟨col,hm,Y8 g⟩,rfl⟩
 ·rintro⟨a,a0,a7,⟨col,hm,hac⟩,rfl⟩;obtain⟨hl,_⟩:=hc col hm;obtain⟨k,hk⟩:=List.getElem?_of_mem hac;have hkl:k<hi:=by rw[<-hl];exact(List.getElem?_eq_some_iff.mp hk).1
  refine⟨vC a0,fO cols sh k,mem_map.mpr ⟨k,by rw[mem_range];exact hkl,rfl⟩,?_⟩;show _∈(cols.map fun c=>sg (c.getD k 0) sh).toArray.toList;rw[toList_toArray];refine mem_map.mpr ⟨col,hm,?_⟩;rw[X3,hk];rfl
noncomputable def there(cols:List (List Int)):List Int:=((List.range 8).filter fun a:Nat=>cols.any fun c=>decide ((a:Int)∈c)).map fun a:Nat=>(a:Int)
theorem dW{cols:List (List Int)}{a:Int}:a∈there cols↔0<=a/\a<=7/\∃col∈cols,a∈col:=by
 unfold there;rw[mem_map]
 constructor
 ·rintro⟨n,hn,rfl⟩;rw[List.mem_filter,mem_range,any_eq_true]at hn;obtain⟨h8,col,hm,hd⟩:=hn;exact⟨by lia,by lia,col,hm,W8 hd⟩
 ·rintro⟨a0,a7,col,hm,hd⟩;refine⟨a.toNat,?_,by lia⟩;rw[List.mem_filter,mem_range,any_eq_true];refine⟨by lia,col,hm,X7 ?_⟩;rw[show((a.toNat:Nat):Int)=a by lia];exact hd
theorem oX(cols:List (List Int)):(there cols).Nodup:=by
 unfold there;rw[nodup_iff_pairwise_ne,pairwise_map];refine(List.Pairwise.filter _ (nodup_iff_pairwise_ne.mp nodup_range)).imp fun h e=>h (by lia)
theorem vD{cols:List (List Int)}{hi:Nat}(h1:1<=hi)(w1:1<=cols.length)(hc:∀c∈cols,c.length=hi/\jH c):there cols≠[]:=by
 have hne:0<cols.length:=by lia
 obtain⟨hl,air,ha,hk⟩:=hc cols[0] (getElem_mem hne);have g:=gK hl (show hi-1<hi by lia);have q:=(hk (hi-1) _ g).2 (by lia);exact List.ne_nil_of_mem (dW.mpr ⟨q.1,q.2,_,getElem_mem hne,Y8 g⟩)
theorem jg(cols:List (List Int)):(there cols).length<=8:=by
 unfold there;rw[Y6];refine le_trans (List.length_filter_le _ _) ?_;rw[length_range];exact W1 _
noncomputable def dg(n:Str)(c:Nat):Str:=⟨(n.cps.toList++[46,c]).toArray⟩
theorem jh{n m:Str}{c d:Nat}(h:dg n c=dg m d):n=m/\c=d:=by
 have e:n.cps.toList++[46,c]=m.cps.toList++[46,d]:=by
  have:=congrArg (fun z:Str=>z.cps.toList) h;simpa [dg]using this
 have q:=List.append_inj' e rfl;refine⟨eK q.1,?_⟩;have:=q.2;simpa using this
end Cut
namespace K12
open PySem L2 Cut
local macro_rules | `(tactic| walk_at "rd") => `(tactic| simp only [↓cf, ↓tO, ↓i4, ↓kf, ↓zL, ↓ke, ↓nP, ↓ju, ↓ub, ↓tB, ↓vR, ↓tOr, ↓x6, ↓tN, ↓yb, ↓zJ, ↓tIf, ↓tOp, ↓tUn, ↓tC, ↓xX, ↓xY, ↓tCB, ↓qY, ↓um, ↓uo, ↓yw, ↓yx, ↓pM, ↓tBM, ↓tBM0, ↓tSl, ↓uz, ↓mO, ↓wF, ↓rI, ↓rI0, ↓rU, ↓yS, ↓yU, ↓rEq, ↓rNe, ↓uN, ↓xD, ↓uO, ↓yI, ↓yK, ↓rIx, ↓wv, ↓ww, ↓wx, ↓wN, ↓z5, ↓wU, ↓rg, ↓rEqB, ↓Ab, ↓z9, ↓zc, ↓Aa, ↓zd, ↓z8, ↓qg, ↓yH, ↓mU, ↓zX, ↓gSub, ↓vY, ↓tT, ↓yf, ↓xH, ↓xI, ↓xN, ↓Ag, ↓uq, ↓ur, ↓yq, ↓yr, ↓zi, kF, ↓uE, ↓yN, ↓pZ, ↓p7, ↓rIn, ↓wO, ↓wz, ↓yB, ↓yQ, ↓mT, ↓re, wc, ud, ↓tX, ↓zN, ↓wP, yo, tyV, ↓zA, ↓zB, ↓zC, zD, zE, zF,
 List.getElem?_cons_zero,List.getElem?_cons_succ,List.set_cons_zero,List.set_cons_succ,Option.some.injEq,V.int.injEq,V.str.injEq,V.bl.injEq,V.ref.injEq,V.ty.injEq,List.cons.injEq,reduceCtorEq,and_true,true_and,and_false,false_and,or_false,false_or,or_true,true_or,exists_false,exists_eq_left',exists_eq_left,exists_eq_right,exists_eq_right',exists_and_left,exists_and_right,exists_eq,cons_append,nil_append,append_nil,exists_const,and_assoc,Int.zero_add,Bool.not_true,Bool.not_false,false_eq_true,if_true,if_false,eq_self])
noncomputable def top(i:Nat):Stmt:=PySem.Challenge.pw_digbook_k12_ties.main.body.getD i (.Pass ⟨0,0,0,0⟩)
noncomputable abbrev dZ:Stmt:=top 10
theorem qM:au ["thing"] ["thing"] (af dZ):=⟨rfl,rfl,rfl,by decide +kernel,rfl,by decide +kernel,by decide +kernel⟩
noncomputable abbrev e8:Stmt:=top 11
theorem fw:au ["text","rows","number","row"] ["text"] (af e8):=⟨rfl,rfl,rfl,by decide +kernel,rfl,by decide +kernel,by decide +kernel⟩
noncomputable abbrev e9:Stmt:=top 12
theorem tj:au ["row"] ["row"] (af e9):=⟨rfl,rfl,rfl,by decide +kernel,rfl,by decide +kernel,by decide +kernel⟩
noncomputable abbrev bR:Stmt:=top 13
theorem jS:au ["row","above"] ["row","above"] (af bR):=⟨rfl,rfl,rfl,by decide +kernel,rfl,by decide +kernel,by decide +kernel⟩
noncomputable abbrev cz:Stmt:=top 14
theorem lG:au ["rows"] ["rows"] (af cz):=⟨rfl,rfl,rfl,by decide +kernel,rfl,by decide +kernel,by decide +kernel⟩
noncomputable abbrev fb:Stmt:=top 15
theorem qN:au ["text"] ["text"] (af fb):=⟨rfl,rfl,rfl,by decide +kernel,rfl,by decide +kernel,by decide +kernel⟩
noncomputable abbrev ef:Stmt:=top 16
theorem dw:au ["text","rows","pairs","above","row"] ["text"] (af ef):=⟨rfl,rfl,rfl,by decide +kernel,rfl,by decide +kernel,by decide +kernel⟩
noncomputable abbrev bi:Stmt:=top 17
theorem gT:au ["above","row"] ["above","row"] (af bi):=⟨rfl,rfl,rfl,by decide +kernel,rfl,by decide +kernel,by decide +kernel⟩
noncomputable abbrev cV:Stmt:=top 26
theorem dm:au ["cuts","names","number","thing"] ["cuts"] (af cV):=⟨rfl,rfl,rfl,by decide +kernel,rfl,by decide +kernel,by decide +kernel⟩
noncomputable abbrev ci:Stmt:=top 27
theorem jT:au ["thing"] ["thing"] (af ci):=⟨rfl,rfl,rfl,by decide +kernel,rfl,by decide +kernel,by decide +kernel⟩
noncomputable abbrev gj:Stmt:=top 28
theorem tq:au ["thing"] ["thing"] (af gj):=⟨rfl,rfl,rfl,by decide +kernel,rfl,by decide +kernel,by decide +kernel⟩
noncomputable abbrev bZ:Stmt:=top 29
theorem di:au ["sayings","layers","number","thing"] ["sayings","layers"] (af bZ):=⟨rfl,rfl,rfl,by decide +kernel,rfl,by decide +kernel,by decide +kernel⟩
noncomputable abbrev dz:Stmt:=top 30
theorem nC:au ["thing","layers"] ["thing","layers"] (af dz):=⟨rfl,rfl,rfl,by decide +kernel,rfl,by decide +kernel,by decide +kernel⟩
noncomputable abbrev b8:Stmt:=top 31
theorem ji:au ["thing","texts"] ["thing","texts"] (af b8):=⟨rfl,rfl,rfl,by decide +kernel,rfl,by decide +kernel,by decide +kernel⟩
noncomputable abbrev fc:Stmt:=top 32
theorem qO:au ["thing"] ["thing"] (af fc):=⟨rfl,rfl,rfl,by decide +kernel,rfl,by decide +kernel,by decide +kernel⟩
noncomputable abbrev cW:Stmt:=top 33
theorem lH:au ["name","letter"] ["name","letter"] (af cW):=⟨rfl,rfl,rfl,by decide +kernel,rfl,by decide +kernel,by decide +kernel⟩
noncomputable abbrev cT:Stmt:=top 34
theorem dQ:au ["cuts","layers","name","text"] ["cuts"] (af cT):=⟨rfl,rfl,rfl,by decide +kernel,rfl,by decide +kernel,by decide +kernel⟩
noncomputable abbrev cj:Stmt:=top 35
theorem bG:au ["cuts","ties","name","text","upper","lower"] ["cuts"] (af cj):=⟨rfl,rfl,rfl,by decide +kernel,rfl,by decide +kernel,by decide +kernel⟩
noncomputable abbrev bH:Stmt:=top 36
theorem bU:au ["sayings","ties","number","saying"] ["sayings"] (af bH):=⟨rfl,rfl,rfl,by decide +kernel,rfl,by decide +kernel,by decide +kernel⟩
noncomputable abbrev cK:Stmt:=top 38
theorem kT:au ["_law_script","_law_k"] ["_law_script","_law_k"] (af cK):=⟨rfl,rfl,rfl,by decide +kernel,rfl,by decide +kernel,by decide +kernel⟩
noncomputable abbrev fe:Stmt:=top 39
theorem ck:au ["_law_script","_law_many","_law_found","_law_number","_law_k","_law_cell","_law_one","_law_two"] ["_law_script","_law_many"] (af fe):=⟨rfl,rfl,rfl,by decide +kernel,rfl,by decide +kernel,by decide +kernel⟩
noncomputable abbrev cX:Stmt:=top 40
theorem bw:au ["_law_number","_law_high","_law_wild","_law_air","_law_at","_law_signs","_law_k"] ["_law_number","_law_high","_law_wild"] (af cX):=⟨rfl,rfl,rfl,by decide +kernel,rfl,by decide +kernel,by decide +kernel⟩
noncomputable abbrev et:Stmt:=top 41
theorem oY:au ["_law_at","_law_shift"] ["_law_at","_law_shift"] (af et):=⟨rfl,rfl,rfl,by decide +kernel,rfl,by decide +kernel,by decide +kernel⟩
noncomputable abbrev cA:Stmt:=top 42
theorem bV:au ["_law_row_here","_law_shift","_law_wide","_law_high","_law_wild","_law_columns","_law_rows","_law_k","_law_signs","_law_there"] ["_law_row_here","_law_shift"] (af cA):=⟨rfl,rfl,rfl,by decide +kernel,rfl,by decide +kernel,by decide +kernel⟩
noncomputable abbrev cY:Stmt:=top 43
theorem bx:au ["_law_one","_law_two","_law_layers","_law_layer","_law_at","_law_other","_law_there","_law_kind","_law_odd","_law_year"] ["_law_one","_law_two","_law_layers"] (af cY):=⟨rfl,rfl,rfl,by decide +kernel,rfl,by decide +kernel,by decide +kernel⟩
noncomputable abbrev cB:Stmt:=top 44
theorem aL:au ["_law_row_here","_law_cuts","_law_layers","_law_k","_law_name","_law_shift","_law_text","_law_there","_law_at","_law_many","_law_sayings"] ["_law_row_here"] (af cB):=⟨rfl,rfl,rfl,by decide +kernel,rfl,by decide +kernel,by decide +kernel⟩
noncomputable abbrev eA:Stmt:=top 45
theorem bI:au ["_law_cuts","_law_sayings","_law_found","_law_name","_law_text","_law_rows","_law_k","_law_upper","_law_lower"] ["_law_cuts","_law_sayings"] (af eA):=⟨rfl,rfl,rfl,by decide +kernel,rfl,by decide +kernel,by decide +kernel⟩
noncomputable abbrev dC:Stmt:=top 46
theorem fz:au ["_law_found","_law_due","_law_one","_law_other"] ["_law_found","_law_due"] (af dC):=⟨rfl,rfl,rfl,by decide +kernel,rfl,by decide +kernel,by decide +kernel⟩
noncomputable abbrev dD:Stmt:=top 47
theorem aV:au ["_law_row_here","_law_wide","_law_high","_law_many","_law_alphabet","_law_rows","_law_r","_law_signs","_law_c","_law_place"] ["_law_row_here"] (af dD):=⟨rfl,rfl,rfl,by decide +kernel,rfl,by decide +kernel,by decide +kernel⟩
noncomputable abbrev gW:Stmt:=top 48
theorem ce:au ["_law_script","_law_row_here","_law_cuts","_law_sayings","_law_layers","_law_ground_here","_law_due","_law_found","_law_kept","_law_more","_law_filled","_law_great_here","_law_eight","_law_pairs","_law_some","_law_said"] ["_law_script"] (af gW):=⟨rfl,rfl,rfl,by decide +kernel,rfl,by decide +kernel,by decide +kernel⟩
noncomputable abbrev bJ:Stmt:=iu (top 25) 0
theorem eB:au ["self","cuts","sayings","layers"] ["self","cuts","sayings"] (af bJ):=⟨rfl,rfl,rfl,by decide +kernel,rfl,by decide +kernel,by decide +kernel⟩
noncomputable abbrev lI:Stmt:=iu (top 25) 1
theorem vE:au ["self"] ["self"] (af lI):=⟨rfl,rfl,rfl,by decide +kernel,rfl,by decide +kernel,by decide +kernel⟩
noncomputable abbrev jj:Stmt:=iu (top 25) 2
theorem rC:au ["self"] ["self"] (af jj):=⟨rfl,rfl,rfl,by decide +kernel,rfl,by decide +kernel,by decide +kernel⟩
noncomputable abbrev jU:Stmt:=iu (top 25) 3
theorem tt:au ["self"] ["self"] (af jU):=⟨rfl,rfl,rfl,by decide +kernel,rfl,by decide +kernel,by decide +kernel⟩
noncomputable abbrev cL:Stmt:=iu (top 25) 4
theorem kU:au ["self"] ["self"] (af cL):=⟨rfl,rfl,rfl,by decide +kernel,rfl,by decide +kernel,by decide +kernel⟩
noncomputable def kW(K:PySem.W.Frag):Sp:=fun vs H Q _=>∃(a:Addr) (ns:List Int) (k:Int),vs=[.ref a,.int k]/\SqL K H a (ns.map V.int)/\0<=k/\Q (.int (ns.getD k.toNat 0)) H
noncomputable def vF(K:PySem.W.Frag):Sp:=fun vs H Q _=>∃(a:Addr) (ns:List Int) (m:Int),vs=[.ref a,.int m]/\SqL K H a (ns.map V.int)/\ns.length<=1000/\0<=m/\m<=100/\∀l H' (xs:List Int),ag H H'->H l=none->H' l=some (.lst (xs.map V.int))->xs.length=m.toNat->(∀x∈xs,0<=x/\x<9973)->Q (.ref l) H'
noncomputable def mB:Sp:=fun vs H Q _=>∃(n hi:Int) (wild:Bool),vs=[.int n,.int hi,.bl wild]/\0<=n/\1<=hi/\hi<=6/\∀l H' (cs:List Int),ag H H'->H l=none->H' l=some (.lst (cs.map V.int))->cs.length=hi.toNat->jH cs->Q (.ref l) H'
noncomputable def nD:Sp:=fun vs H Q _=>∃a s:Int,vs=[.int a,.int s]/\0<=s/\Q (.str (sgn (sg a s))) H
noncomputable def nE(H:Hp)(cs:List (Addr×List Int)):Prop:=∀p∈cs,H p.1=some (.lst (p.2.map V.int))
theorem nE.up{H H':Hp}{cs:List (Addr×List Int)}(h:nE H cs)(s:ag H H'):nE H' cs:=fun p hp=>s _ _ (h p hp)
noncomputable def vG(K:PySem.W.Frag):Sp:=fun vs H Q _=>∃(a:Addr) (xs:List Int) (sh:Int),vs=[.ref a,.int sh]/\SqL K H a (xs.map V.int)/\(∀H',ag H H'->SqL K H' a (xs.map V.int))/\xs.length=6/\(∀x∈xs,0<=x/\x<9973)/\0<=sh/\
 ∀(T th:Addr) H' (cols:List (List Int)) (hi:Nat),ag H H'->H T=none->H th=none->T≠th->H' T=some (.tup [.str (Str.join nl (drawn cols hi sh)),.ref th])->H' th=some (.lst ((there cols).map V.int))->
  1<=hi->hi<=6->1<=cols.length->cols.length<=5->(∀c∈cols,c.length=hi/\jH c)->Q (.ref T) H'
structure Txt (K:PySem.W.Frag) (mg:Str->Option Value):Prop where
 b_len:mg "len"=none
 b_all:mg "all"=none
 b_str:mg "str"=none
 b_isinstance:mg "isinstance"=none
 b_enumerate:mg "enumerate"=none
 b_zip:mg "zip"=none
 b_set:mg "set"=none
 b_sorted:mg "sorted"=none
 b_list:mg "list"=none
 b_tuple:mg "tuple"=none
 b_int:mg "int"=none
 b_bool:mg "bool"=none
 b_range:mg "range"=none
 b_max:mg "max"=none
 b_abs:mg "abs"=none
 b_min:mg "min"=none
 g_LONGEST_NAME:Gv mg "LONGEST_NAME" (.int 8)
 g_LETTERS:Gv mg "LETTERS" (.str "abcdefghijklmnopqrstuvwxyz")
 g_MOST_ROWS:Gv mg "MOST_ROWS" (.int 40)
 g_MOST_SIGNS:Gv mg "MOST_SIGNS" (.int 40)
 g_AIR:Gv mg "AIR" (.str ".")
 g_MOST_CUTS:Gv mg "MOST_CUTS" (.int 8)
 g_MOST_SAYINGS:Gv mg "MOST_SAYINGS" (.int 60)
 g_FIRST_YEAR:Gv mg "FIRST_YEAR" (.int (-9999))
 g_LAST_YEAR:Gv mg "LAST_YEAR" (.int 9999)
 d_is_name:bu K mg "is_name" dZ ["thing"]
 d_rows_of:bu K mg "rows_of" e8 ["text"]
 d_is_row:bu K mg "is_row" e9 ["row"]
 d_lies_beneath:bu K mg "lies_beneath" bR ["row","above"]
 d_letters_in:bu K mg "letters_in" cz ["rows"]
 d_letters:bu K mg "letters" fb ["text"]
 d_meetings:bu K mg "meetings" ef ["text"]
 d_meetings_between:bu K mg "meetings_between" bi ["above","row"]
 d_check_cuts:bu K mg "check_cuts" cV ["cuts"]
 d_is_named_cut:bu K mg "is_named_cut" ci ["thing"]
 d_is_cut:bu K mg "is_cut" gj ["thing"]
 d_check_sayings:bu K mg "check_sayings" bZ ["sayings","layers"]
 d_is_saying:bu K mg "is_saying" dz ["thing","layers"]
 d_is_text_among:bu K mg "is_text_among" b8 ["thing","texts"]
 d_is_year:bu K mg "is_year" fc ["thing"]
 d_layer_name:bu K mg "layer_name" cW ["name","letter"]
 d_layers_of:bu K mg "layers_of" cT ["cuts"]
 d_ties_of_cuts:bu K mg "ties_of_cuts" cj ["cuts"]
 d_ties_of_sayings:bu K mg "ties_of_sayings" bH ["sayings"]
 d_law_cell_at:bu K mg "_law_cell_at" cK ["_law_script","_law_k"]
 d_law_row:bu K mg "_law_row" fe ["_law_script","_law_many"]
 d_law_column:bu K mg "_law_column" cX ["_law_number","_law_high","_law_wild"]
 d_law_sign:bu K mg "_law_sign" et ["_law_at","_law_shift"]
 d_law_cut:bu K mg "_law_cut" cA ["_law_row_here","_law_shift"]
 d_law_saying:bu K mg "_law_saying" cY ["_law_one","_law_two","_law_layers"]
 d_law_ground:bu K mg "_law_ground" cB ["_law_row_here"]
 d_law_ties:bu K mg "_law_ties" eA ["_law_cuts","_law_sayings"]
 d_law_right:bu K mg "_law_right" dC ["_law_found","_law_due"]
 d_law_great:bu K mg "_law_great" dD ["_law_row_here"]
 o_Ground:vx K mg "Ground"
 n_Ground_kept_cuts:eM K (cw mg "Ground") "kept_cuts"
 n_Ground_kept_sayings:eM K (cw mg "Ground") "kept_sayings"
 n_Ground_kept_layers:eM K (cw mg "Ground") "kept_layers"
 n_Ground_kept_ties:eM K (cw mg "Ground") "kept_ties"
 i_Ground:vz K mg "Ground" "Ground.__init__" bJ ["self","cuts","sayings"]
 m_Ground_ties:vy K mg "Ground" "ties" "Ground.ties" cL ["self"]
 t_YEAR_WORDS:GvT K mg "YEAR_WORDS" [.str "since",.str "by"]
 t_LAYER_WORDS:GvT K mg "LAYER_WORDS" [.str "later",.str "same"]
section
variable{P:Program}{w:World}{K:PySem.W.Frag}{mg:Str->Option Value}{base:Heap}
theorem aZ{n:Nat}(h:n<=5000):n<=sizeLine:=le_trans h (by decide)
theorem bB{n:Nat}(h:n<=5000):n<sizeLine:=Nat.lt_of_le_of_lt h (by decide)
theorem ag.upd{H:Hp}{p:Addr}{o:HO}(h:H p=none):ag H (upd H p o):=fun b u e=>by rw[ak (ao e h)];exact e
theorem ag.set{H H':Hp}{p:Addr}{o:HO}(sm:ag H H')(h:H p=none):ag H (L2.upd H' p o):=fun b u e=>by rw[ak (ao e h)];exact sm b u e
theorem Ai{α:Type}(xs:List α){i:Int}(h0:0<=i)(h1:i<(xs.length:Int)):∃c,atI xs i=some c/\c∈xs:=by
 obtain⟨j,rfl⟩:=Int.eq_ofNat_of_zero_le h0;have hj:j<xs.length:=by lia
 exact⟨xs[j],bN (by simp[hj]),getElem_mem hj⟩
theorem gn(xs:List Int){i:Int}(h0:0<=i)(h1:i<(xs.length:Int)):∃c,atI (xs.map V.int) i=some (V.int c)/\c∈xs:=by
 obtain⟨j,rfl⟩:=Int.eq_ofNat_of_zero_le h0;have hj:j<xs.length:=by lia
 exact⟨xs[j],bN (by simp[hj]),getElem_mem hj⟩
theorem xQ:(cO.cps.toList.length:Int)=26:=by decide +kernel
theorem cM(T:Txt K mg):Cal P w K mg base 1 "_law_cell_at" ["_law_script","_law_k"] (kW K):=by
 refine T.d_law_cell_at.cal kT (fun vs H Q E h=>?_) (fun f cdv A outer s H vs Q E hr h=>?_)
 ·obtain⟨a,ns,k,rfl,_⟩:=h;rfl
 ·obtain⟨a,ns,k,rfl,hs,h0,q⟩:=h;refine⟨_,(QSs.h (ah (ifS (cH sv rfl (vn 1 rfl Y0 rfl rfl) (cbE (df (K:=K) rfl) rfl T.b_len PySem.boot_len rfl rfl rfl (paE rfl (vn 0 rfl Y0 rfl rfl) ai)))
   (ap (bF (bY (K:=K) rfl (fun _ _=>rfl) (vn 0 rfl Y0 rfl rfl) (vn 1 rfl Y0 rfl rfl))))
   bM)
   (ap (bF am)))),?_⟩
  show cf _ _ _ [some (.ref a),some (.int k)] H;walk_at "rd";refine⟨_,.inl ⟨_,hs,rfl⟩,cF (fun hk=>?_) fun hk=>?_⟩
  ·have hk:=W8 hk;rw[Y6]at hk;refine⟨_,hs,.int (ns.getD k.toNat 0),?_,q⟩;obtain⟨j,rfl⟩:=Int.eq_ofNat_of_zero_le h0;have hj:j<ns.length:=by lia
   exact bN (by simp[hj])
  ·have hk: ¬ k<((ns.map V.int).length:Int):=by simpa using hk
   rw[Y6]at hk;have e:ns.getD k.toNat 0=0:=by
    rw[X3,List.getElem?_eq_none (by lia)];rfl
   rw[e]at q;exact q
theorem jk(T:Txt K mg):Cal P w K mg base 2 "_law_row" ["_law_script","_law_many"] (vF K):=by
 have cM:Cal P w K mg base 1 "_law_cell_at" ["_law_script","_law_k"] (kW K):=cM T;refine T.d_law_row.cal ck (fun vs H Q E h=>?_) (fun f cdv A outer s H vs Q E hr h=>?_)
 ·obtain⟨a,ns,m,rfl,_⟩:=h;rfl
 ·obtain⟨a,ns,m,rfl,hs,hn,h0,h1,q⟩:=h;refine⟨_,(QSs.h (ah (bg 2 ck.nd rfl Y0 Y1 rfl (dc ai))
   (ah (bg 3 ck.nd rfl Y0 Y1 rfl (opE dI (cbE ⟨uf⟩ rfl T.b_abs boot_abs rfl rfl rfl (paE rfl (bC cM hr rfl rfl rfl rfl (paE rfl (vn 0 rfl Y0 rfl rfl) (paE rfl am ai))) ai)) (ctE xG rfl T.b_int boot_int rfl rfl rfl (paE rfl (jO eJ rfl (opE bv (bC cM hr rfl rfl rfl rfl (paE rfl (vn 0 rfl Y0 rfl rfl) (paE rfl am ai))) am) am) ai))))
   (ah (eG PassesOwn.never rfl rfl (fS rfl T.b_range rfl (paE rfl (vn 1 rfl Y0 rfl rfl) ai)) (az 4 ck.nd rfl Y0 Y1)
   (ap (ifS (cH wS rfl (vn 3 rfl Y0 rfl rfl) am)
    (ah (dq rfl (bmE (K:=K) rfl plainAttrs_list PySem.F.slot_list_append PySem.F.type_list_append bX rfl rfl rfl rfl (vn 2 rfl Y0 rfl rfl) (paE rfl (opE bv (vn 3 rfl Y0 rfl rfl) am) ai)))
     (ap (bg 3 ck.nd rfl Y0 Y1 rfl (opE dH (vn 3 rfl Y0 rfl rfl) am))))
    (ah (bg 5 ck.nd rfl Y0 Y1 rfl (bC cM hr rfl rfl rfl rfl (paE rfl (vn 0 rfl Y0 rfl rfl) (paE rfl (opE bP am (opE bv (vn 4 rfl Y0 rfl rfl) (cbE (xF rfl) rfl T.b_max boot_max rfl rfl rfl (paE rfl am (paE rfl (opE nW (cbE (df (K:=K) rfl) rfl T.b_len PySem.boot_len rfl rfl rfl (paE rfl (vn 0 rfl Y0 rfl rfl) ai)) am) ai))))) ai))))
     (ah (bg 6 ck.nd rfl Y0 Y1 rfl (opE bv (opE dI (opE bP (opE bP (opE bv (vn 5 rfl Y0 rfl rfl) am) (opE dI am (vn 4 rfl Y0 rfl rfl))) am) am) am))
     (ah (bg 7 ck.nd rfl Y0 Y1 rfl (opE bv (opE bP (opE mY (vn 6 rfl Y0 rfl rfl) (vn 6 rfl Y0 rfl rfl)) (opE dI am (vn 4 rfl Y0 rfl rfl))) am))
     (ap (dq rfl (bmE (K:=K) rfl plainAttrs_list PySem.F.slot_list_append PySem.F.type_list_append bX rfl rfl rfl rfl (vn 2 rfl Y0 rfl rfl) (paE rfl (opE bv (opE bv (opE mY (vn 7 rfl Y0 rfl rfl) (vn 7 rfl Y0 rfl rfl)) am) am) ai))))))))))
   (ap (bF (vn 2 rfl Y0 rfl rfl))))))),?_⟩
  show cf _ _ _ [some (.ref a),some (.int m),none,none,none,none,none,none] H;refine ja fun n1 c1=>?_
  walk_at "rd";refine⟨zero_le _,fun l hl=>c1 _ _ (ja fun n2 c2=>?_)⟩;have sml:ag H (upd H l (.lst [])):=ag.upd hl;walk_at "rd";refine⟨a,ns,1,rfl,sml.seq hs,by decide,_,rfl,a,ns,0,rfl,sml.seq hs,by decide,_,rfl,by decide,?_⟩;refine⟨.inr (by split<;> exact⟨by decide,by decide⟩),c2 _ _ (ja fun n3 c3=>aD fun Kont hK=>?_)⟩;walk_at "rd";refine⟨by lia,by lia,hK _ _ (cp (fun i σ H'=>∃(n:Int) (o o1 o2 o3:Option V) (xs:List Int),σ=[some (.ref a),some (.int m),some (.ref l),some (.int n),o,o1,o2,o3]/\ag H H'/\H' l=some (.lst (xs.map V.int))/\xs.length=i/\∀x∈xs,0<=x/\x<9973)
   ⟨_,none,none,none,none,[],rfl,sml,aa,rfl,fun _ h=>nomatch h⟩ ?_ ?_)⟩
  ·rintro i σ H' hi ⟨n,o,o1,o2,o3,xs,rfl,sm,hl',hx,hall⟩;have hi':i<100:=by lia
   have hs':=sm.seq hs;show i4 _ _ _ _ [some (.ref a),some (.int m),some (.ref l),some (.int n),some (.int (0+i)),o1,o2,o3] H';rw[Int.zero_add];have put:∀v:Int,0<=v->v<9973->ag H (upd H' l (.lst (xs.map V.int++[.int v])))/\∃xs2:List Int,upd H' l (.lst (xs.map V.int++[.int v])) l=some (.lst (xs2.map V.int))/\xs2.length=i+1/\∀x∈xs2,0<=x/\x<9973:=fun v v0 v1=>
    ⟨ag.set sm hl,xs++[v],by rw[aa,X4];rfl,by rw[Y9,hx];rfl,fun y hy=>by
     rcases mem_append.mp hy with q|q
     ·exact hall y q
     ·rw[mem_singleton.mp q];exact⟨v0,v1⟩⟩
   have len:(xs.map V.int).length<sizeLine:=by rw[Y6,hx];exact bB (by lia)
   have mx:∀x:Nat,(0:Int)<(if(x:Int) -1>1 then(x:Int) -1 else 1):=fun x=>by split<;> lia
   refine aT fun D1 k1 _=>?_
   walk_at "rd";refine cF (fun _=>?_) fun _=>?_
   ·refine⟨.inl ⟨_,SqL.of hl'⟩,by decide,_,hl',len,⟨by decide,by decide⟩,k1 _ _ ?_⟩;obtain⟨p1,xs2,p2,p3,p4⟩:=put (n%9973) (by lia) (by lia);exact⟨_,_,_,_,_,xs2,rfl,p1,p2,p3,p4⟩
   ·refine⟨_,.inl ⟨_,hs',rfl⟩,mx _,a,ns,_,rfl,hs',?_,?_⟩
    ·have:=Int.emod_nonneg (i:Int) (Int.ne_of_gt (mx (ns.map V.int).length))
     lia
    generalize ns.getD _ 0=c
    walk_at "rd";refine⟨by decide,.inl ⟨by decide,by decide⟩,.inr ⟨by decide,by decide⟩,by decide,?_⟩;have b1:=Int.emod_nonneg ((c%1000003+7919*i+1)*48271) (by decide:(2147483629:Int)≠0);have b2:=Int.emod_lt_of_pos ((c%1000003+7919*i+1)*48271) (by decide:(0:Int)<2147483629)
    generalize (c%1000003+7919*i+1)*48271%2147483629=one at b1 b2
    refine⟨.inl ⟨by lia,by lia⟩,.inl ⟨by decide,by decide⟩,by decide,?_⟩;have b3:=Int.emod_nonneg (one*one+104729*i) (by decide:(2147483587:Int)≠0);have b4:=Int.emod_lt_of_pos (one*one+104729*i) (by decide:(0:Int)<2147483587)
    generalize (one*one+104729*i)%2147483587=two at b3 b4
    refine⟨.inl ⟨_,SqL.of hl'⟩,.inl ⟨by lia,by lia⟩,by decide,by decide,_,hl',len,k1 _ _ ?_⟩;obtain⟨p1,xs2,p2,p3,p4⟩:=put (two*two%2147483563%9973) (by lia) (by lia);exact⟨_,_,_,_,_,xs2,rfl,p1,p2,p3,p4⟩
  ·rintro σ H' ⟨n,o,o1,o2,o3,xs,rfl,sm,hl',hx,hall⟩;refine c3 _ _ ?_;walk_at "rd";exact q l H' xs sm hl hl' hx hall
end
section
variable{P:Program}{w:World}{K:PySem.W.Frag}{mg:Str->Option Value}{base:Heap}
theorem vH{i:Int}(h0:0<=i)(h1:i<26):atI cO.cps.toList i=some (97+i.toNat):=by
 obtain⟨j,rfl⟩:=Int.eq_ofNat_of_zero_le h0;have hj:j<26:=by lia
 have all:∀j:Fin 26,cO.cps.toList[j.1]? =some (97+j.1):=by decide +kernel
 exact bN (all ⟨j,hj⟩)
theorem dj(T:Txt K mg):Cal P w K mg base 1 "_law_sign" ["_law_at","_law_shift"] nD:=by
 refine T.d_law_sign.cal oY (fun vs H Q E h=>?_) (fun f cdv A outer s H vs Q E hr h=>?_)
 ·obtain⟨a,s,rfl,_⟩:=h;rfl
 ·obtain⟨a,sh,rfl,h0,kk⟩:=h;refine⟨_,(QSs.h (ah (ifS (cH sv rfl (vn 0 rfl Y0 rfl rfl) am)
   (ap (bF bS))
   bM)
   (ap (bF (zg (fun _ _=>rfl) bS (opE bv (opE bT (opE mY (vn 0 rfl Y0 rfl rfl) am) (vn 1 rfl Y0 rfl rfl)) am)))))),?_⟩
  show cf _ _ _ [some (.int a),some (.int sh)] H;walk_at "rd";unfold sg at kk;refine cF (fun ha=>?_) fun ha=>?_
  ·have ha:=W8 ha;rw[if_pos ha]at kk;exact kk
  ·have ha: ¬ a<0:=by simpa using ha
   rw[if_neg ha]at kk;refine⟨.inr ⟨by decide,by decide⟩,by decide,(show 26<=sizeLine by decide),_,vH (by lia) (by lia),kk⟩
theorem fA(T:Txt K mg):Cal P w K mg base 1 "_law_column" ["_law_number","_law_high","_law_wild"] mB:=by
 refine T.d_law_column.cal bw (fun vs H Q E h=>?_) (fun f cdv A outer s H vs Q E hr h=>?_)
 ·obtain⟨n,hi,wd,rfl,_⟩:=h;rfl
 ·obtain⟨n,hi,wd,rfl,n0,h1,h6,kk⟩:=h;refine⟨_,(QSs.h (ah (bg 3 bw.nd rfl Y0 Y1 rfl (opE bv (vn 0 rfl Y0 rfl rfl) am))
   (ah (bg 4 bw.nd rfl Y0 Y1 rfl (opE bv (opE dH (vn 0 rfl Y0 rfl rfl) am) am))
   (ah (bg 0 bw.nd rfl Y0 Y1 rfl (opE dH (vn 0 rfl Y0 rfl rfl) am))
   (ah (bg 5 bw.nd rfl Y0 Y1 rfl (dc ai))
   (ah (eG PassesOwn.never rfl rfl (fS rfl T.b_range rfl (paE rfl (vn 1 rfl Y0 rfl rfl) ai)) (az 6 bw.nd rfl Y0 Y1)
   (ap (ifS (wT (mX (cH sv rfl (vn 6 rfl Y0 rfl rfl) (vn 3 rfl Y0 rfl rfl)) (kz (cH sv rfl (vn 6 rfl Y0 rfl rfl) (opE nW (vn 1 rfl Y0 rfl rfl) am)))))
    (ap (dq rfl (bmE (K:=K) rfl plainAttrs_list PySem.F.slot_list_append PySem.F.type_list_append bX rfl rfl rfl rfl (vn 5 rfl Y0 rfl rfl) (paE rfl (uT am) ai))))
    (ah (dq rfl (bmE (K:=K) rfl plainAttrs_list PySem.F.slot_list_append PySem.F.type_list_append bX rfl rfl rfl rfl (vn 5 rfl Y0 rfl rfl) (paE rfl (vn 4 rfl Y0 rfl rfl) ai)))
     (ah (bg 4 bw.nd rfl Y0 Y1 rfl (cbE (xF rfl) rfl T.b_max boot_max rfl rfl rfl (paE rfl am (paE rfl (cbE (z7 rfl) rfl T.b_min boot_min rfl rfl rfl (paE rfl am (paE rfl (opE bT (vn 4 rfl Y0 rfl rfl) (bY (K:=K) rfl (fun _ _=>rfl) (dc (paE rfl am (paE rfl am (paE rfl (bY (K:=K) rfl (fun _ _=>rfl) (dc (paE rfl am (paE rfl (uT am) ai))) (ctE xG rfl T.b_int boot_int rfl rfl rfl (paE rfl (vn 2 rfl Y0 rfl rfl) ai))) ai)))) (opE bv (vn 0 rfl Y0 rfl rfl) am))) ai))) ai))))
     (ap (bg 0 bw.nd rfl Y0 Y1 rfl (opE dH (vn 0 rfl Y0 rfl rfl) am))))))))
   (ap (bF (vn 5 rfl Y0 rfl rfl))))))))),?_⟩
  show cf _ _ _ [some (.int n),some (.int hi),some (.bl wd),none,none,none,none] H;refine al fun D1 k1 _=>?_
  walk_at "rd";refine⟨by decide,k1 _ _ (al fun D2 k2 _=>?_)⟩;walk_at "rd";refine⟨⟨by decide,by decide⟩,by decide,k2 _ _ (al fun D3 k3 _=>?_)⟩;walk_at "rd";refine⟨⟨by decide,by decide⟩,k3 _ _ (al fun D4 k4 _=>?_)⟩;walk_at "rd";refine⟨zero_le _,fun L hL=>k4 _ _ (al fun D5 k5 r5=>aD fun Kont hK=>?_)⟩;walk_at "rd";have hair:∃air:Nat,(air:Int)=(if n%3<hi-1 then n%3 else hi-1):=by
   split
   ·exact⟨(n%3).toNat,by lia⟩
   ·exact⟨(hi-1).toNat,by lia⟩
  obtain⟨air,ea⟩:=hair;refine⟨by lia,by lia,hK _ _ (cp (fun i σ H'=>∃(m at':Int) (o:Option V) (cs:List Int),σ=[some (.int m),some (.int hi),some (.bl wd),some (.int (n%3)),some (.int at'),some (.ref L),o]/\0<=at'/\at'<=7/\ag H H'/\H' L=some (.lst (cs.map V.int))/\cs.length=i/\
   ∀(k:Nat) (c:Int),cs[k]? =some c->(k<air->c= -1)/\(air<=k->0<=c/\c<=7))
   ⟨_,_,none,[],rfl,by lia,by lia,ag.upd hL,aa,rfl,fun k c e=>by simp at e⟩ ?_ ?_)⟩
  ·rintro i σ H' hi' ⟨m,at',o,cs,rfl,a0,a7,sm,hl',hx,hall⟩;show i4 _ _ _ _ [some (.int m),some (.int hi),some (.bl wd),some (.int (n%3)),some (.int at'),some (.ref L),some (.int (0+i))] H';rw[Int.zero_add];have len:(cs.map V.int).length<sizeLine:=by rw[Y6,hx];exact bB (by lia)
   have put:∀v:Int,(i<air->v= -1)->(air<=i->0<=v/\v<=7)->∀(k:Nat) (c:Int),(cs++[v])[k]? =some c->(k<air->c= -1)/\(air<=k->0<=c/\c<=7):=fun v v1 v2 k c e=>by
    by_cases hk:k<cs.length
    ·rw[getElem?_append_left hk]at e;exact hall k c e
    ·have ek:k=i:=by
      have:=(List.getElem?_eq_some_iff.mp e).1;rw[Y9]at this;simp only[V1,length_nil]at this
      lia
     subst ek;rw[getElem?_append_right (by lia),hx,sub_self]at e;cases e;exact⟨v1,v2⟩
   refine aT fun D6 k6 _=>?_
   walk_at "rd";have fin:∀_v:Int,¬ i<air->∀(m2 at2:Int) (HH:Hp),0<=at2->at2<=7->ag (upd H' L (.lst (cs.map V.int++[.int at']))) HH->D6.nx [some (.int m2),some (.int hi),some (.bl wd),some (.int (n%3)),some (.int at2),some (.ref L),some (.int i)] HH:=fun v hv m2 at2 HH b0 b7 sh=>
    k6 _ _ ⟨m2,at2,_,cs++[at'],rfl,b0,b7,(ag.set sm hL).trans sh,by rw[sh L _ aa,X4];rfl,by rw[Y9,hx];rfl,put at' (fun z=>absurd z hv) fun _=>⟨a0,a7⟩⟩
   refine cF (fun hA=>cF (fun hB=>?g1) fun hB=>?g2) fun hA=>?g3
   case g1=>
    simp only[decide_eq_true_eq]at hA hB;have hlt:i<air:=by split at ea<;> lia
    exact⟨.inl ⟨_,SqL.of hl'⟩,_,hl',len,k6 _ _ ⟨m,at',_,cs++[-1],rfl,a0,a7,ag.set sm hL,by rw[aa,X4];rfl,by rw[Y9,hx];rfl,put (-1) (fun _=>rfl) fun z=>absurd hlt (by lia)⟩⟩
   all_goals
    have hge: ¬ i<air:=by
     simp only[decide_eq_true_eq]at*
     split at ea<;> lia
    refine⟨.inl ⟨_,SqL.of hl'⟩,_,hl',len,(show 2<=sizeLine by decide),fun p hp=>⟨_,SqL.of aa,.int (if wd=true then -1 else 2),by cases wd<;> rfl,(show 3<=sizeLine by decide),fun p1 hp1=>⟨by decide,_,SqL.of aa,?_⟩⟩⟩;obtain⟨c,hc,_⟩:=gn [0,1,if wd=true then -1 else 2] (i:=m%3) (by lia) (by show m%3<3;lia);refine⟨_,hc,c,rfl,⟨by decide,by decide⟩,fin 0 hge _ _ _ ?_ ?_ ((ag.upd hp).trans (ag.upd hp1))⟩<;>(split<;>(try split)<;> lia)
  ·rintro σ H' ⟨m,at',o,cs,rfl,a0,a7,sm,hl',hx,hall⟩;refine k5 _ _ ?_;walk_at "rd";exact kk L H' cs sm hL hl' (by lia) ⟨air,by lia,hall⟩
end
section
variable{P:Program}{w:World}{K:PySem.W.Frag}{mg:Str->Option Value}{base:Heap}
theorem oZ(xs:List Int){lo hi:Int}(h0:0<=lo)(h1:lo<=hi)(h2:hi<=xs.length):gP (xs.map V.int) (some lo) (some hi)=((xs.drop lo.toNat).take (hi.toNat-lo.toNat)).map V.int:=by
 unfold gP;rw[Y6];have e1:HT.sIx xs.length 0 (some lo)=lo.toNat:=by
  show(if lo<0 then _ else min lo.toNat xs.length)=_;rw[if_neg (by lia)]
  lia
 have e2:HT.sIx xs.length xs.length (some hi)=hi.toNat:=by
  show(if hi<0 then _ else min hi.toNat xs.length)=_;rw[if_neg (by lia)]
  lia
 rw[e1,e2,map_take,List.map_drop]
theorem Aj(p:Nat->Bool)(n:Nat):inV (V.bl true) ((List.range n).map fun r=>V.bl (p r))=(List.range n).any p:=by
 unfold inV;rw[any_map]
 congr 1
 funext r;show eqV (V.bl (p r)) (V.bl true)=p r;cases p r<;> rfl
theorem tw{α:Type}(p:α->Bool)(xs:List α):inV (V.bl true) (xs.map fun r=>V.bl (p r))=xs.any p:=by
 unfold inV;rw[any_map]
 congr 1
 funext r;show eqV (V.bl (p r)) (V.bl true)=p r;cases p r<;> rfl
theorem xm(a:Int)(cs:List Int):inV (V.int a) (cs.map V.int)=decide (a∈cs):=by
 unfold inV;rw[any_map]
 induction cs with
 | nil=>rfl
 | cons c r ih=>
   rw[any_cons,ih];show((c==a)||_)=_;by_cases h:c=a
   ·subst h;simp
   ·have:a≠c:=fun e=>h e.symm
    simp[h,this]
theorem tz(cs:List Int):(cs.map V.int).all eV=true:=by simp[eV]
theorem jl(T:Txt K mg):Cal P w K mg base 2 "_law_cut" ["_law_row_here","_law_shift"] (vG K):=by
 have fA:Cal P w K mg base 1 "_law_column" ["_law_number","_law_high","_law_wild"] mB:=fA T;have dj:Cal P w K mg base 1 "_law_sign" ["_law_at","_law_shift"] nD:=dj T;refine T.d_law_cut.cal bV (fun vs H Q E h=>?_) (fun f cdv A outer s H vs Q E hr h=>?_)
 ·obtain⟨a,xs,sh,rfl,_⟩:=h;rfl
 ·obtain⟨a,xs,sh,rfl,hs,keep,hx6,hb,s0,kk⟩:=h;have get:∀i:Int,0<=i->i<6->∃c,atI (xs.map V.int) i=some (V.int c)/\0<=c/\c<9973:=fun i h0 h1=>by
   obtain⟨c,e,hm⟩:=gn xs h0 (by lia);exact⟨c,e,hb c hm⟩
  obtain⟨c0,g0,l0,u0⟩:=get 0 (by decide) (by decide);refine⟨_,(QSs.h (ah (bg 2 bV.nd rfl Y0 Y1 rfl (opE bP am (opE bv (bY (K:=K) rfl (fun _ _=>rfl) (vn 0 rfl Y0 rfl rfl) am) am)))
   (ah (bg 3 bV.nd rfl Y1 Y0 rfl (opE bP am (opE bv (opE dH (bY (K:=K) rfl (fun _ _=>rfl) (vn 0 rfl Y0 rfl rfl) am) am) am)))
   (ah (bg 4 bV.nd rfl Y1 Y0 rfl (jO eJ rfl (opE bv (opE dH (bY (K:=K) rfl (fun _ _=>rfl) (vn 0 rfl Y0 rfl rfl) am) am) am) am))
   (ah (vB 5 bV.nd rfl Y1 Y0 rfl (fT (aG.of (show cP (af cA) ["_law_row_here","_law_shift","_law_wide","_law_high","_law_wild","_law_columns","_law_rows","_law_k","_law_signs","_law_there"] _ ["_law_number","_law_high","_law_wild"] [(1,3),(2,4)]=true from by decide +kernel)) rfl rfl (ie (K:=K) rfl (slE (K:=K) rfl (vn 0 rfl Y0 rfl rfl) (iB am) (iB (opE bP am (vn 2 rfl Y0 rfl rfl))))) (fun _ _ _=>(az 0 (show(["_law_number","_law_high","_law_wild"]:List Str).Nodup from by decide +kernel) rfl Y0 Y1)) (fun _ _ _=>lA) (fun _ _ _=>(bC fA hr rfl rfl rfl rfl (paE rfl (vn 0 rfl Y0 rfl rfl) (paE rfl (vn 1 rfl (Or.inr Y0) rfl rfl) (paE rfl (vn 2 rfl (Or.inr Y0) rfl rfl) ai)))))))
   (ah (bg 6 bV.nd rfl Y0 Y1 rfl (dc ai))
   (ah (eG PassesOwn.never rfl rfl (fS rfl T.b_range rfl (paE rfl (vn 3 rfl (Or.inr Y0) rfl rfl) ai)) (az 7 bV.nd rfl Y1 Y0)
   (ah (n8 8 bV.nd rfl Y0 Y1 rfl (aG.of (show cP (af cA) ["_law_row_here","_law_shift","_law_wide","_law_high","_law_wild","_law_columns","_law_rows","_law_k","_law_signs","_law_there"] _ ["_law_column_here","_law_k"] [(1,7)]=true from by decide +kernel)) rfl rfl (ie (K:=K) rfl (vn 5 rfl (Or.inr Y0) rfl rfl)) (fun _ _ _=>(az 0 (show(["_law_column_here","_law_k"]:List Str).Nodup from by decide +kernel) rfl Y0 Y1)) (fun _ _ _=>lA) (fun _ _ _=>(bY (K:=K) rfl (fun _ _=>rfl) (vn 0 rfl Y0 rfl rfl) (vn 1 rfl (Or.inr Y0) rfl rfl))))
    (ap (dq rfl (bmE (K:=K) rfl plainAttrs_list PySem.F.slot_list_append PySem.F.type_list_append bX rfl rfl rfl rfl (vn 6 rfl Y0 rfl rfl) (paE rfl (bmE (K:=K) rfl plainAttrs_str slot_str_join type_str_join (mZ (K:=K) rfl) rfl rfl rfl rfl bS (paE rfl (fT (aG.of (show cP (af cA) ["_law_row_here","_law_shift","_law_wide","_law_high","_law_wild","_law_columns","_law_rows","_law_k","_law_signs","_law_there"] _ ["_law_at","_law_shift"] [(1,1)]=true from by decide +kernel)) rfl rfl (ie (K:=K) rfl (vn 8 rfl Y0 rfl rfl)) (fun _ _ _=>(az 0 (show(["_law_at","_law_shift"]:List Str).Nodup from by decide +kernel) rfl Y0 Y1)) (fun _ _ _=>lA) (fun _ _ _=>(bC dj hr rfl rfl rfl rfl (paE rfl (vn 0 rfl Y0 rfl rfl) (paE rfl (vn 1 rfl (Or.inr Y0) rfl rfl) ai))))) ai)) ai))))))
   (ah (n8 9 bV.nd rfl Y0 Y1 rfl (aG.of (show cP (af cA) ["_law_row_here","_law_shift","_law_wide","_law_high","_law_wild","_law_columns","_law_rows","_law_k","_law_signs","_law_there"] _ ["_law_at","_law_columns"] [(1,5)]=true from by decide +kernel)) rfl rfl (fS rfl T.b_range rfl (paE rfl am ai)) (fun _ _ _=>(az 0 (show(["_law_at","_law_columns"]:List Str).Nodup from by decide +kernel) rfl Y1 Y0)) (fun _ _ _=>(uU (cH (sC (K:=K) rfl) rfl eBl (fT (aG.of (show cP _ ["_law_at","_law_columns"] _ ["_law_column_here","_law_at"] [(1,0)]=true from rfl)) rfl rfl (ie (K:=K) rfl (vn 1 rfl (Or.inr Y0) rfl rfl)) (fun _ _ _=>(az 0 (show(["_law_column_here","_law_at"]:List Str).Nodup from by decide +kernel) rfl Y0 Y1)) (fun _ _ _=>lA) (fun _ _ _=>(jO (sC (K:=K) rfl) rfl (vn 1 rfl (Or.inr Y0) rfl rfl) (vn 0 rfl Y0 rfl rfl))))))) (fun _ _ _=>(vn 0 rfl (Or.inr Y0) rfl rfl)))
   (ap (bF (de (paE rfl (bmE (K:=K) rfl plainAttrs_str slot_str_join type_str_join (mZ (K:=K) rfl) rfl rfl rfl rfl bS (paE rfl (vn 6 rfl Y0 rfl rfl) ai)) (paE rfl (vn 9 rfl Y0 rfl rfl) ai))))))))))))),?_⟩
  show cf _ _ _ [some (.ref a),some (.int sh),none,none,none,none,none,none,none,none] H;refine al fun D1 k1 _=>?_
  walk_at "rd";refine⟨_,hs,_,g0,c0,rfl,by decide,k1 _ _ (al fun D2 k2 _=>?_)⟩;walk_at "rd";refine⟨_,hs,_,g0,c0,rfl,⟨by decide,by decide⟩,by decide,k2 _ _ (al fun D3 k3 _=>?_)⟩;walk_at "rd";refine⟨_,hs,_,g0,c0,rfl,⟨by decide,by decide⟩,by decide,k3 _ _ (al fun D4 k4 _=>?_)⟩;have w1:1<=1+c0%5:=by lia
  have w5:1+c0%5<=5:=by lia
  have i1:1<=1+c0/5%6:=by lia
  have i6:1+c0/5%6<=6:=by lia
  generalize hwd:1+c0%5=wd at w1 w5
  generalize 1+c0/5%6=hi at i1 i6
  generalize decide (c0/30%8=0)=wild
  refine bh fun Kont hK=>?_
  walk_at "rd";refine .inl ⟨_,hs,fun p hp=> .inl ⟨⟨_,SqL.of aa⟩,hK _ _ fun D hD=>?_⟩⟩;rw[oZ xs (by decide) (by lia) (by lia)]at hD ⊢;have hyl:((xs.drop (Int.toNat 1)).take ((1+wd).toNat-Int.toNat 1)).length=wd.toNat:=by
   rw[length_take,length_drop,hx6];rw[show(1+wd).toNat=wd.toNat+1 by lia];exact min_eq_left (by lia)
  have hyb:∀x∈(xs.drop (Int.toNat 1)).take ((1+wd).toNat-Int.toNat 1),0<=x/\x<9973:=fun x hx=>hb x (mem_of_mem_drop (mem_of_mem_take hx))
  generalize (xs.drop (Int.toNat 1)).take ((1+wd).toNat-Int.toNat 1)=ys at hyl hyb hD ⊢
  have smp:ag H (upd H p (.lst (ys.map V.int))):=ag.upd hp;have hpp:upd H p (.lst (ys.map V.int)) p=some (.lst (ys.map V.int)):=aa
  generalize upd H p (.lst (ys.map V.int))=Hp' at smp hpp hD ⊢
  refine cu (J:=Itl K p) (n:=wd.toNat) (D:=D) (fun i zs σ H'=>(∃o,σ=[o,some (.int hi),some (.bl wild)])/\ag Hp' H'/\H' D=some (.lst zs)/\∃cs:List (Addr×List Int),zs=cs.map (fun q=>V.ref q.1)/\cs.length=i/\nE H' cs/\∀q∈cs,q.1≠D/\q.2.length=hi.toNat/\jH q.2)
   ⟨⟨none,rfl⟩,ag.upd hD,aa,[],rfl,rfl,fun q hq=>(nomatch hq),fun q hq=>(nomatch hq)⟩
   (fun i _ _ H' hi' ⟨_,sm,_⟩=>⟨_,V.int (ys[i]'(by lia)),SqL.of (sm _ _ hpp),by simp[show i<ys.length by lia]⟩) (fun _ _ H' ⟨_,sm,_⟩=>⟨_,SqL.of (sm _ _ hpp),by simp[hyl]⟩) ?_ ?_
  ·rintro i zs σ H' hi' ⟨⟨o,rfl⟩,sm,hDv,cs,rfl,hcl,hca,hcp⟩ x H2 ⟨e2,hx⟩;subst e2;have hil:i<ys.length:=by lia
   have hxi:=hx _ (SqL.of (sm _ _ hpp));rw[W5,Y4 hil]at hxi;obtain rfl:x=V.int ys[i]:=(X1 hxi).symm;walk_at "rd";refine⟨_,_,_,rfl,(hyb _ (getElem_mem hil)).1,i1,i6,fun l H3 col sm3 hl3 hl3' hcol hok=>?_⟩;have hlD:l≠D:=fun e=>by rw[e,hDv]at hl3;cases hl3
   refine CK.mk hi' (sm3 _ _ hDv) (by rw[Y6,hcl];exact bB (by lia)) ⟨⟨_,rfl⟩,ag.set (sm.trans sm3) hD,aa,cs++[(l,col)],by rw[X4];rfl,by rw[Y9,hcl];rfl,fun q hq=>?_,fun q hq=>?_⟩
   ·rcases mem_append.mp hq with z|z
    ·rw[ak (hcp q z).1];exact sm3 _ _ (hca q z)
    ·rw[mem_singleton.mp z,ak hlD];exact hl3'
   ·rcases mem_append.mp hq with z|z
    ·exact hcp q z
    ·rw[mem_singleton.mp z];exact⟨hlD,hcol,hok⟩
  rintro zs σ H4 ⟨_,sm4,hD4,cs,rfl,hcl,hca,hcp⟩;have sH4:ag H H4:=smp.trans sm4;refine k4 _ _ (al fun D5 k5 _=>?_);walk_at "rd";refine⟨zero_le _,fun R hR=>k5 _ _ (al fun D6 k6 _=>aD fun Kont hK=>?_)⟩;walk_at "rd";have hcl':(cs.map (·.2)).length=wd.toNat:=by rw[Y6];exact hcl
  refine⟨by lia,by lia,hK _ _ (cp (fun i σ H'=>∃o7 o8,σ=[some (.ref a),some (.int sh),some (.int wd),some (.int hi),some (.bl wild),some (.ref D),some (.ref R),o7,o8,none]/\ag H4 H'/\H' R=some (.lst (((List.range i).map (fO (cs.map (·.2)) sh)).map V.str)))
   ⟨_,_,rfl,ag.upd hR,aa⟩ ?_ ?_)⟩
  ·rintro i σ H5 hi5 ⟨o7,o8,rfl,sm5,hR5⟩;show cf _ _ _ [some (.ref a),some (.int sh),some (.int wd),some (.int hi),some (.bl wild),some (.ref D),some (.ref R),some (.int (0+i)),o8,none] H5;rw[Int.zero_add];refine al fun D7 k7 _=>bh fun Kont hK=>?_
   walk_at "rd";refine .inl ⟨⟨_,SqL.of (sm5 _ _ hD4)⟩,hK _ _ fun E hE=>?_⟩;refine cu (J:=Itl K D) (n:=wd.toNat) (D:=E) (fun q zs σ H'=>(∃o,σ=[o,some (.int i)])/\ag H5 H'/\H' E=some (.lst zs)/\zs=((cs.take q).map (fun p=>p.2.getD i 0)).map V.int)
    ⟨⟨none,rfl⟩,ag.upd hE,aa,rfl⟩
    (fun q _ _ H' hq ⟨_,sm,_⟩=>⟨_,V.ref (cs[q]'(by lia)).1,SqL.of (sm _ _ (sm5 _ _ hD4)),by simp[show q<cs.length by lia]⟩) (fun _ _ H' ⟨_,sm,_⟩=>⟨_,SqL.of (sm _ _ (sm5 _ _ hD4)),by simp[hcl]⟩) ?_ ?_
   ·rintro q zs σ H' hq ⟨⟨o,rfl⟩,sm,hEv,hz⟩ x H2 ⟨e2,hx⟩;subst e2;have hql:q<cs.length:=by lia
    have hxi:=hx _ (SqL.of (sm _ _ (sm5 _ _ hD4)));rw[W5,Y4 hql]at hxi;obtain rfl:x=V.ref cs[q].1:=(X1 hxi).symm;walk_at "rd";have hm:=getElem_mem hql;refine⟨_,SqL.of (sm _ _ (sm5 _ _ (hca _ hm))),V.int (cs[q].2.getD i 0),?_,?_⟩
    ·refine bN ?_;rw[W5,gK (hcp _ hm).2.1 (by lia)];rfl
    ·refine CK.mk hq hEv (by rw[hz,Y6,Y6,length_take];exact bB (by lia)) ⟨⟨_,rfl⟩,ag.set sm hE,aa,?_⟩;rw[hz,take_add_one,X4,X4,Y4 hql];rfl
   rintro zs σ H6 ⟨_,sm6,hE6,hz⟩;rw[W7 (by lia)]at hz;refine k7 _ _ (aT fun D8 k8 _=>?_);have sm46:=sm5.trans sm6;walk_at "rd";refine⟨.inl ⟨_,SqL.of (sm6 _ _ hR5)⟩,bh fun Kont hK=>?_⟩;walk_at "rd";refine .inl ⟨⟨_,SqL.of hE6⟩,hK _ _ fun F hF=>?_⟩;refine cu (J:=Itl K E) (n:=wd.toNat) (D:=F) (fun q ts σ H'=>(∃o,σ=[o,some (.int sh)])/\ag H6 H'/\H' F=some (.lst ts)/\ts=(((cs.take q).map (fun p=>sg (p.2.getD i 0) sh)).map sgn).map V.str)
    ⟨⟨none,rfl⟩,ag.upd hF,aa,rfl⟩
    (fun q _ _ H' hq ⟨_,sm,_⟩=>⟨_,V.int ((cs[q]'(by lia)).2.getD i 0),SqL.of (sm _ _ hE6),by rw[hz];simp[show q<cs.length by lia]⟩) (fun _ _ H' ⟨_,sm,_⟩=>⟨_,SqL.of (sm _ _ hE6),by rw[hz];simp[hcl]⟩) ?_ ?_
   ·rintro q ts σ H' hq ⟨⟨o,rfl⟩,sm,hFv,ht⟩ x H2 ⟨e2,hx⟩;subst e2;have hql:q<cs.length:=by lia
    have hxi:=hx _ (SqL.of (sm _ _ hE6));rw[hz,W5,W5,Y4 hql]at hxi;obtain rfl:x=V.int (cs[q].2.getD i 0):=(X1 hxi).symm;walk_at "rd";refine⟨_,_,rfl,s0,?_⟩;refine CK.mk hq hFv (by rw[ht,Y6,Y6,Y6,length_take];exact bB (by lia)) ⟨⟨_,rfl⟩,ag.set sm hF,aa,?_⟩;rw[ht,take_add_one,X4,X4,X4,Y4 hql];rfl
   rintro ts σ H7 ⟨_,sm7,hF7,ht⟩;rw[W7 (by lia)]at ht;walk_at "rd";refine⟨(cs.map fun p=>sg (p.2.getD i 0) sh).map sgn,by rw[<-ht];exact SqL.of hF7,?_,_,sm7 _ _ (sm6 _ _ hR5),by rw[Y6,Y6,length_range];exact bB (by lia),k8 _ _ ⟨_,_,rfl,ag.set (sm46.trans sm7) hR,?_⟩⟩
   ·rw[rn,Y6,Y6,show(Str.ofString "").length=0 from rfl]
    lia
   ·rw[aa,range_succ,X4,X4,show Txt.join (Str.ofString "") ((cs.map fun p=>sg (p.2.getD i 0) sh).map sgn)=Str.join (Str.ofString "") ((cs.map fun p=>sg (p.2.getD i 0) sh).map sgn)from StrLaws.glued_eq_join _ _,qu];have e:fO (cs.map (·.2)) sh i=⟨(cs.map fun p=>sg (p.2.getD i 0) sh).toArray⟩:=by
     unfold fO;rw[map_map];rfl
    rw[<-e];rfl
  ·rintro σ H5 ⟨o7,o8,rfl,sm5,hR5⟩;refine k6 _ _ (al fun D7 k7 _=>bh fun Kont hK=>?_);walk_at "rd";refine⟨by decide,by decide,hK _ _ fun F hF=>?_⟩;refine cu (J:=Itr 0 8) (n:=8) (D:=F) (fun q ts σ H'=>(∃o,σ=[o,some (.ref D)])/\ag H5 H'/\H' F=some (.lst ts)/\ts=(((List.range q).filter fun a:Nat=>(cs.map (·.2)).any fun c=>decide ((a:Int)∈c)).map fun a:Nat=>(a:Int)).map V.int)
    ⟨⟨none,rfl⟩,ag.upd hF,aa,rfl⟩ (fun q _ _ H' hq ⟨_,sm,_⟩=>hq) (fun _ _ H' ⟨_,sm,_⟩=>W1 _) ?_ ?_
   ·rintro q ts σ H' hq ⟨⟨o,rfl⟩,sm,hFv,ht⟩ x H2 ⟨e2,e3⟩;subst e2 e3;walk_at "rd";refine bh fun Kont hK=>?_
    walk_at "rd";have hD':=sm _ _ (sm5 _ _ hD4);refine .inl ⟨⟨_,SqL.of hD'⟩,hK _ _ fun G hG=>?_⟩;refine cu (J:=Itl K D) (n:=wd.toNat) (D:=G) (fun r zs σ H3=>(∃o,σ=[o,some (.int q)])/\ag H2 H3/\H3 G=some (.lst zs)/\zs=(cs.take r).map (fun p=>V.bl (decide ((q:Int)∈p.2))))
     ⟨⟨none,rfl⟩,ag.upd hG,aa,rfl⟩
     (fun r _ _ H3 hr' ⟨_,s3,_⟩=>⟨_,V.ref (cs[r]'(by lia)).1,SqL.of (s3 _ _ hD'),by simp[show r<cs.length by lia]⟩) (fun _ _ H3 ⟨_,s3,_⟩=>⟨_,SqL.of (s3 _ _ hD'),by simp[hcl]⟩) ?_ ?_
    ·rintro r zs σ H3 hr' ⟨⟨o,rfl⟩,s3,hGv,hz⟩ x H4' ⟨e2,hx⟩;subst e2;have hql:r<cs.length:=by lia
     have hxi:=hx _ (SqL.of (s3 _ _ hD'));rw[W5,Y4 hql]at hxi;obtain rfl:x=V.ref cs[r].1:=(X1 hxi).symm;have hm:=getElem_mem hql;walk_at "rd";refine⟨_,.inl (SqL.of (s3 _ _ (sm _ _ (sm5 _ _ (hca _ hm))))),rfl,tz _,?_⟩;rw[xm];refine CK.mk hr' hGv (by rw[hz,Y6,length_take];exact bB (by lia)) ⟨⟨_,rfl⟩,ag.set s3 hG,aa,?_⟩;rw[hz,take_add_one,X4,Y4 hql];rfl
    rintro zs σ H3 ⟨_,s3,hG3,hz⟩;rw[W7 (by lia)]at hz;have hF3:=s3 _ _ hFv;walk_at "rd";refine⟨_,.inl (SqL.of hG3),rfl,by rw[hz];simp[eV],?_⟩;rw[hz,tw];have any:(cs.any fun p=>decide ((q:Int)∈p.2))=(cs.map (·.2)).any fun c=>decide ((q:Int)∈c):=by rw[any_map];rfl
    rw[any];have lenT:ts.length<sizeLine:=by
     rw[ht,Y6,Y6];have:=List.length_filter_le (fun a:Nat=>(cs.map (·.2)).any fun c=>decide ((a:Int)∈c)) (List.range q);rw[length_range]at this;exact bB (by lia)
    refine cF (fun hb=>?_) fun hb=>?_
    ·refine CK.mk hq hF3 lenT ⟨⟨_,rfl⟩,ag.set (sm.trans s3) hF,aa,?_⟩;rw[ht,range_succ,filter_append,X4,X4];rw[show List.filter (fun a:Nat=>(cs.map (·.2)).any fun c=>decide ((a:Int)∈c)) [q]=[q]from by rw[filter_cons,if_pos hb];rfl];rfl
    ·refine CN.mk hq ⟨⟨_,rfl⟩,sm.trans s3,hF3,?_⟩;rw[ht,range_succ,filter_append,X4,X4];rw[show List.filter (fun a:Nat=>(cs.map (·.2)).any fun c=>decide ((a:Int)∈c)) [q]=[]from by rw[filter_cons,if_neg hb];rfl];simp
   rintro ts σ H6 ⟨_,sm6,hF6,ht⟩;refine k7 _ _ ?_;walk_at "rd";have hcols:∀c∈cs.map (·.2),c.length=hi.toNat/\jH c:=fun c hc=>by
    obtain⟨p,hp,rfl⟩:=mem_map.mp hc;exact(hcp p hp).2
   have hcut:bQ (drawn (cs.map (·.2)) hi.toNat sh):=oV (by lia) (by lia) (by lia) (by lia) hcols;have hR5':H5 R=some (.lst ((drawn (cs.map (·.2)) hi.toNat sh).map V.str)):=hR5;refine⟨drawn (cs.map (·.2)) hi.toNat sh,SqL.of (sm6 _ _ hR5'),?_,(show 2<=sizeLine by decide),fun p hp=>?_⟩
   ·have:=hcut.sum;have:=hcut.high;rw[show(Str.ofString "\n").length=1 from rfl]
    lia
   ·have sAll:ag H (upd H6 p (.tup [V.str (Txt.join (Str.ofString "\n") (drawn (cs.map (·.2)) hi.toNat sh)),V.ref F])):=(sH4.trans (sm5.trans sm6)).trans (ag.upd hp);refine kk p F _ (cs.map (·.2)) hi.toNat sAll ((sH4.trans (sm5.trans sm6)).free hp) ((sH4.trans sm5).free hF) (fun e=>by rw[e,hF6]at hp;cases hp) ?_ ?_ (by lia) (by lia) (by lia) (by lia) hcols
    ·rw[aa,show Txt.join (Str.ofString "\n") (drawn (cs.map (·.2)) hi.toNat sh)=Str.join (Str.ofString "\n") (drawn (cs.map (·.2)) hi.toNat sh)from StrLaws.glued_eq_join _ _];rfl
    ·rw[ag.upd hp F _ hF6,ht];rfl
end
noncomputable def mC:Sp:=fun vs H Q _=>∃z:Str,vs=[.str z]/\z.length<=1000/\∀H',ag H H'->Q (.bl (kE z)) H'
noncomputable def kX:Sp:=fun vs H Q _=>∃row above:Str,vs=[.str row,.str above]/\row.length<=1000/\above.length<=1000/\∀H',ag H H'->Q (.bl (d7 row above)) H'
noncomputable def eR(K:PySem.W.Frag):Sp:=fun vs H Q _=>∃(a:Addr) (rows:List Str),vs=[.ref a]/\SqL K H a (rows.map V.str)/\(rows.map (·.length)).sum<=3000/\(∀r∈rows,r.cps.toList.all okc=true)/\
 ∀l H' ss,ag H H'->H l=none->H' l=some (.lst (ss.map V.str))->ss.Perm (aI ((cv rows).map sgn))->PyProof.Rows.sortedS ss=true->Q (.ref l) H'
noncomputable def fB:Sp:=fun vs H Q _=>∃rows:List Str,vs=[.str (Str.join nl rows)]/\bQ rows/\∀l H',ag H H'->H l=none->H' l=some (.lst (rows.map V.str))->Q (.ref l) H'
section
variable{P:Program}{w:World}{K:PySem.W.Frag}{mg:Str->Option Value}{base:Heap}
theorem gM(z:Str)(i:Nat)(c:Nat)(h:z.cps[i]? =some c):(z.cps.toList.take i++[c])=z.cps.toList.take (i+1):=by
 have h':z.cps.toList[i]? =some c:=by simpa using h
 obtain⟨hlt,e⟩:=List.getElem?_eq_some_iff.mp h';rw[List.take_succ_eq_append_getElem hlt,e]
theorem qP(c d:Nat):((⟨#[c]⟩:Str)=⟨#[d]⟩)↔c=d:=by
 constructor
 ·intro h;have:(#[c]:Array Nat)= #[d]:=by injection h
  simpa using this
 ·intro h;rw[h]
theorem jn(c:Nat):((⟨#[c]⟩:Str)=Str.ofString ".")↔c=46:=qP c 46
theorem kY(T:Txt K mg):Cal P w K mg base 1 "is_row" ["row"] mC:=by
 refine T.d_is_row.cal tj (fun vs H Q E h=>?_) (fun f cdv A outer s H vs Q E hr h=>?_)
 ·obtain⟨z,rfl,_⟩:=h;rfl
 ·obtain⟨z,rfl,hz,k⟩:=h;refine⟨_,(QSs.h (ap (bF (lw (qf sw sw rfl am (cbE (df (K:=K) rfl) rfl T.b_len PySem.boot_len rfl rfl rfl (paE rfl (vn 0 rfl Y0 rfl rfl) ai)) (gvE T.g_MOST_SIGNS rfl rfl)) (mW (cbE (uV (K:=K) rfl rfl) rfl T.b_all boot_all rfl rfl rfl (paE rfl (fT (aG.of (show cP (af e9) ["row"] _ ["sign"] []=true from by decide +kernel)) rfl rfl (ie (K:=K) rfl (vn 0 rfl Y0 rfl rfl)) (fun _ _ _=>(az 0 (show(["sign"]:List Str).Nodup from by decide +kernel) rfl Y0 Y1)) (fun _ _ _=>lA) (fun _ _ _=>(orV (jO eJ rfl (vn 0 rfl Y0 rfl rfl) (gvE T.g_AIR rfl rfl)) (mW (jO (sC (K:=K) rfl) rfl (vn 0 rfl Y0 rfl rfl) (gvE T.g_LETTERS rfl rfl)))))) ai))))))),?_⟩;show kf _ _ [some (.str z)] H;walk_at "rd";refine⟨aZ (by lia),cF (fun h1=>cF (fun h8=>?_) fun h8=>?_) fun h1=>?_⟩
  ·refine bh fun Kont hK=>?_
   walk_at "rd";refine hK _ _ fun D hD=>?_
   refine cu (J:=Its z) (n:=z.cps.size) (D:=D) (fun i ys σ H'=>(∃o,σ=[o])/\ag H H'/\H' D=some (.lst ys)/\ys=(z.cps.toList.take i).map (fun c=>V.bl (okc c))) ⟨⟨none,rfl⟩,ag.upd hD,aa,rfl⟩
    (fun i _ _ _ hi _=>hi) (fun _ _ _ _=>W1 _) ?_ ?_
   ·rintro i ys σ H' hi ⟨⟨o,rfl⟩,sm,hl,hy⟩ x H2 ⟨e2,c,hc,rfl⟩;subst e2;have hlen:ys.length=i:=by
     rw[hy,Y6,length_take];have:z.cps.toList.length=z.cps.size:=by simp
     lia
    have hi8:i<1000:=by
     have:z.length=z.cps.size:=rfl
     lia
    have put:∀b:Bool,b=okc c->CK D z.cps.size i (fun i ys σ H'=>(∃o,σ=[o])/\ag H H'/\H' D=some (.lst ys)/\ys=(z.cps.toList.take i).map (fun c=>V.bl (okc c))) ys [some (.str ⟨#[c]⟩)] (.bl b) H2:=fun b eb=>
     CK.mk hi hl (by rw[hlen];exact bB (by lia)) ⟨⟨_,rfl⟩,ag.set sm hD,aa,by rw[eb,hy,<-gM z i c hc,X4];rfl⟩
    walk_at "rd";refine cF (fun hd=>put true ?_) fun hd=>put _ ?_
    ·have:=(jn c).mp (W8 hd);unfold okc;rw[X7 this,Bool.true_or]
    ·have hd: ¬ (⟨#[c]⟩:Str)=Str.ofString ".":=fun e=>hd (X7 e)
     have: ¬ c=46:=fun e=>hd ((jn c).mpr e)
     unfold okc;rw[X9 this,Bool.false_or,uM];rfl
   ·rintro ys σ H' ⟨_,sm,hl,hy⟩;walk_at "rd";refine⟨z.cps.toList.map okc,?_,?_⟩
    ·have e:z.cps.toList.take z.cps.size=z.cps.toList:=by
      apply W7;simp
     rw[e]at hy;have:(z.cps.toList.map okc).map V.bl=ys:=by rw[hy,map_map];rfl
     rw[this];exact SqL.of hl
    ·have e:kE z=(z.cps.toList.map okc).all id:=by
      unfold kE;rw[h1,h8,all_map]
      all_goals rfl
     rw[<-e];exact k H' sm
  ·rw[Bool.not_eq_true]at h8;have e:kE z=false:=by unfold kE;rw[h8,Bool.and_false,Bool.false_and]
   rw[e]at k;exact k H (ag.refl H)
  ·rw[Bool.not_eq_true]at h1;have e:kE z=false:=by unfold kE;rw[h1,Bool.false_and,Bool.false_and]
   rw[e]at k;exact k H (ag.refl H)
end
section
variable{P:Program}{w:World}{K:PySem.W.Frag}{mg:Str->Option Value}{base:Heap}
noncomputable def jI(p:Nat×Nat):Bool:=!decide (p.2=46)||decide (p.1=46)
theorem kZ(x y:Str)(i c d:Nat)(h1:x.cps[i]? =some c)(h2:y.cps[i]? =some d):((List.zip x.cps.toList y.cps.toList).take i++[(c,d)])=(List.zip x.cps.toList y.cps.toList).take (i+1):=by
 have h:(List.zip x.cps.toList y.cps.toList)[i]? =some (c,d):=List.getElem?_zip_eq_some.mpr ⟨by simpa using h1,by simpa using h2⟩;obtain⟨hlt,e⟩:=List.getElem?_eq_some_iff.mp h;rw[List.take_succ_eq_append_getElem hlt,e]
theorem eC(T:Txt K mg):Cal P w K mg base 1 "lies_beneath" ["row","above"] kX:=by
 refine T.d_lies_beneath.cal jS (fun vs H Q E h=>?_) (fun f cdv A outer s H vs Q E hr h=>?_)
 ·obtain⟨row,above,rfl,_⟩:=h;rfl
 ·obtain⟨row,above,rfl,hz1,hz2,k⟩:=h;refine⟨_,(QSs.h (ah (ifS (cH fK rfl (cbE (df (K:=K) rfl) rfl T.b_len PySem.boot_len rfl rfl rfl (paE rfl (vn 0 rfl Y0 rfl rfl) ai)) (cbE (df (K:=K) rfl) rfl T.b_len PySem.boot_len rfl rfl rfl (paE rfl (vn 1 rfl Y0 rfl rfl) ai)))
   (ap (bF eBl))
   bM)
   (ap (bF (cbE (uV (K:=K) rfl rfl) rfl T.b_all boot_all rfl rfl rfl (paE rfl (fT (aG.of (show cP (af bR) ["row","above"] _ ["high","low"] []=true from by decide +kernel)) rfl rfl (uX rfl T.b_zip rfl rfl (paE rfl (vn 1 rfl Y0 rfl rfl) (paE rfl (vn 0 rfl Y0 rfl rfl) ai))) (fun _ _ _=>(fq (K:=K) rfl rfl rfl (gsE rfl (az 0 (show(["high","low"]:List Str).Nodup from by decide +kernel) rfl Y0 Y1) (gsE rfl (az 1 (show(["high","low"]:List Str).Nodup from by decide +kernel) rfl Y0 Y1) cU)))) (fun _ _ _=>lA) (fun _ _ _=>(orV (jO fK rfl (vn 1 rfl Y0 rfl rfl) (gvE T.g_AIR rfl rfl)) (mW (jO eJ rfl (vn 0 rfl Y0 rfl rfl) (gvE T.g_AIR rfl rfl)))))) ai)))))),?_⟩
  show cf _ _ _ [some (.str row),some (.str above)] H;refine al fun D1 k1 r1=>?_
  walk_at "rd";refine⟨aZ (by lia),aZ (by lia),cF (fun h1=>?_) fun h1=>?_⟩
  ·have h1: ¬ ((row.length:Int)=above.length):=by simpa using h1
   have e:d7 row above=false:=by
    unfold d7;rw[X9 (by lia),Bool.false_and]
   rw[e]at k;exact r1 _ _ (k H (ag.refl H))
  ·have h1:row.length=above.length:=by
    have:(row.length:Int)=above.length:=by simpa using h1
    lia
   refine k1 _ _ ?_;have hsz:row.cps.size=above.cps.size:=h1;have hzl:(List.zip above.cps.toList row.cps.toList).length=above.cps.size:=by rw[length_zip];simp[hsz]
   walk_at "rd";refine bh fun Kont hK=>?_
   walk_at "rd";refine hK _ _ fun D hD=>?_
   refine cu (J:=Itz above row) (n:=above.cps.size) (D:=D) (fun i ys σ H'=>(∃o1 o2,σ=[o1,o2])/\ag H H'/\H' D=some (.lst ys)/\ys=((List.zip above.cps.toList row.cps.toList).take i).map (fun p=>V.bl (jI p))) ⟨⟨none,none,rfl⟩,ag.upd hD,aa,rfl⟩
    (fun i _ _ _ hi _=>⟨hi,by lia⟩) (fun _ _ _ _=>⟨W1 _,by lia,.inl rfl⟩) ?_ ?_
   ·rintro i ys σ H' hi ⟨⟨o1,o2,rfl⟩,sm,hl,hy⟩ x H2 ⟨c,d,TT,hc,hd,hT,rfl,rfl⟩;have hlen:ys.length=i:=by rw[hy,Y6,length_take,hzl];lia
    have hi8:i<1000:=by
     have:above.length=above.cps.size:=rfl
     lia
    have smT:ag H (upd H' TT (.tup [.str ⟨#[c]⟩,.str ⟨#[d]⟩])):=sm.trans (ag.upd hT);have hl2:upd H' TT (.tup [.str ⟨#[c]⟩,.str ⟨#[d]⟩]) D=some (.lst ys):=ag.upd hT _ _ hl;have put:∀b:Bool,b=jI (c,d)->CK D above.cps.size i (fun i ys σ H'=>(∃o1 o2,σ=[o1,o2])/\ag H H'/\H' D=some (.lst ys)/\ys=((List.zip above.cps.toList row.cps.toList).take i).map (fun p=>V.bl (jI p))) ys [some (.str ⟨#[c]⟩),some (.str ⟨#[d]⟩)] (.bl b) (upd H' TT (.tup [.str ⟨#[c]⟩,.str ⟨#[d]⟩])):=fun b eb=>
     CK.mk hi hl2 (by rw[hlen];exact bB (by lia)) ⟨⟨_,_,rfl⟩,ag.set smT hD,aa,by rw[eb,hy,<-kZ above row i c d hc hd,X4];rfl⟩
    walk_at "rd";refine⟨_,SqT.of aa,rfl,_,_,rfl,_,_,rfl,rfl,rfl,?_⟩;simp only[V.str.injEq,jn];refine cF (fun h=>put true ?_) fun h=>⟨trivial,put _ ?_⟩
    ·unfold jI;rw[h,Bool.true_or]
    ·unfold jI;rw[Bool.not_eq_true]at h;rw[h,Bool.false_or]
   ·rintro ys σ H' ⟨_,sm,hl,hy⟩;walk_at "rd";refine⟨(List.zip above.cps.toList row.cps.toList).map jI,?_,?_⟩
    ·have e:(List.zip above.cps.toList row.cps.toList).take above.cps.size=List.zip above.cps.toList row.cps.toList:=W7 (by lia);rw[e]at hy;have:((List.zip above.cps.toList row.cps.toList).map jI).map V.bl=ys:=by rw[hy,map_map];rfl
     rw[this];exact SqL.of hl
    ·have e:d7 row above=((List.zip above.cps.toList row.cps.toList).map jI).all id:=by
      unfold d7;rw[X7 h1,all_map,Bool.true_and];rfl
     rw[<-e];exact k H' sm
theorem tD{rows:List Str}(h:(rows.map (·.length)).sum<=3000):(Str.join (Str.ofString "") rows).length<=3000:=by
 have:=StrLaws.join_length_le (Str.ofString "") rows;rw[show(Str.ofString "").length=0 from rfl]at this
 lia
theorem cC(T:Txt K mg):Cal P w K mg base 1 "letters_in" ["rows"] (eR K):=by
 refine T.d_letters_in.cal lG (fun vs H Q E h=>?_) (fun f cdv A outer s H vs Q E hr h=>?_)
 ·obtain⟨a,rows,rfl,_⟩:=h;rfl
 ·obtain⟨a,rows,rfl,hs,hsum,hok,k⟩:=h;refine⟨_,(QSs.h (ap (bF (cbE (sI (w:=w) rfl rfl) rfl T.b_sorted boot_sorted rfl rfl rfl (paE rfl (ctE (Ac (K:=K) (w:=w) rfl rfl rfl) rfl T.b_set boot_set rfl rfl rfl (paE rfl (fT (aG.of (show cP (af cz) ["rows"] _ ["sign"] []=true from by decide +kernel)) rfl rfl (ie (K:=K) rfl (bmE (K:=K) rfl plainAttrs_str slot_str_join type_str_join (mZ (K:=K) rfl) rfl rfl rfl rfl bS (paE rfl (vn 0 rfl Y0 rfl rfl) ai))) (fun _ _ _=>(az 0 (show(["sign"]:List Str).Nodup from by decide +kernel) rfl Y0 Y1)) (fun _ _ _=>(uU (cH fK rfl (vn 0 rfl Y0 rfl rfl) (gvE T.g_AIR rfl rfl)))) (fun _ _ _=>(vn 0 rfl Y0 rfl rfl))) ai)) ai))))),?_⟩;show kf _ _ [some (.ref a)] H;walk_at "rd";refine bh fun Kont hK=>?_
  walk_at "rd";refine⟨rows,hs,by rw[show(Str.ofString "").length=0 from rfl];lia,?_⟩;rw[show Txt.join (Str.ofString "") rows=Str.join (Str.ofString "") rows from StrLaws.glued_eq_join _ _];have hfew:=tD hsum;have hlet:=mm hok;unfold cv at hlet k
  generalize Str.join (Str.ofString "") rows=z at hfew hlet k ⊢
  refine hK _ _ fun D hD=>?_
  refine cu (J:=Its z) (n:=z.cps.size) (D:=D) (fun i ys σ H'=>(∃o,σ=[o])/\ag H H'/\H' D=some (.lst ys)/\ys=((z.cps.toList.take i).filter (fun c=>decide (c≠46))).map (fun c=>V.str (sgn c))) ⟨⟨none,rfl⟩,ag.upd hD,aa,rfl⟩
   (fun i _ _ _ hi _=>hi) (fun _ _ _ _=>W1 _) ?_ ?_
  ·rintro i ys σ H' hi ⟨⟨o,rfl⟩,sm,hl,hy⟩ x H2 ⟨e2,c,hc,rfl⟩;subst e2;have hlen:ys.length<=i:=by
    rw[hy,Y6];have:=List.length_filter_le (fun c=>decide (c≠46)) (z.cps.toList.take i);rw[length_take]at this
    lia
   have hi8:i<3000:=by
    have:z.length=z.cps.size:=rfl
    lia
   walk_at "rd";simp only[jn];refine cF (fun hd=>?_) fun hd=>?_
   ·refine CK.mk hi hl (bB (by lia)) ⟨⟨_,rfl⟩,ag.set sm hD,aa,?_⟩;rw[<-gM z i c hc,filter_append,X4,hy];have:decide (c≠46)=true:=by simpa using hd
    rw[filter_cons,this];rfl
   ·refine CN.mk hi ⟨⟨_,rfl⟩,sm,hl,?_⟩;rw[<-gM z i c hc,filter_append,X4,hy];have:decide (c≠46)=false:=by simpa using hd
    rw[filter_cons,this];simp
  ·rintro ys σ H' ⟨_,sm,hl,hy⟩;have e:z.cps.toList.take z.cps.size=z.cps.toList:=by
    apply W7;simp
   rw[e]at hy;walk_at "rd";have hfl:=List.length_filter_le (fun c=>decide (c≠46)) z.cps.toList;have hzz:z.cps.toList.length=z.length:=by simp[Str.length]
   refine⟨(z.cps.toList.filter (fun c=>decide (c≠46))).map sgn,?_,by rw[Y6];lia,fun S hS=>⟨_,aa,?_,fun l ss hl' hp hst=>?_⟩⟩
   ·rw[map_map];have:(z.cps.toList.filter (fun c=>decide (c≠46))).map (V.str ∘ sgn)=ys:=by rw[hy];rfl
    rw[this];exact SqL.of hl
   ·have:=kD hlet
    lia
   ·have smS:ag H (upd H' S (qo w S (aI ((z.cps.toList.filter (fun c=>decide (c≠46))).map sgn)))):=sm.trans (ag.upd hS);exact k l _ ss (smS.trans (ag.upd hl')) (smS.free hl') aa hp hst
end
section
variable{P:Program}{w:World}{K:PySem.W.Frag}{mg:Str->Option Value}{base:Heap}
theorem cD(T:Txt K mg):Cal P w K mg base 2 "rows_of" ["text"] fB:=by
 have kY:Cal P w K mg base 1 "is_row" ["row"] mC:=kY T;have eC:Cal P w K mg base 1 "lies_beneath" ["row","above"] kX:=eC T;have cC:Cal P w K mg base 1 "letters_in" ["rows"] (eR K):=cC T;refine T.d_rows_of.cal fw (fun vs H Q E h=>?_) (fun f cdv A outer s H vs Q E hr h=>?_)
 ·obtain⟨rows,rfl,_⟩:=h;rfl
 ·obtain⟨rows,rfl,hcut,k⟩:=h;obtain⟨wd,w1,w2,hw⟩:=hcut.wide;have htl:=hcut.text;have hsp:=hcut.split;refine⟨_,(QSs.h (ah (ifS (gQ (eN (K:=K) rfl (fun _=>rfl) (cbE (fW (K:=K) rfl) rfl T.b_isinstance boot_isinstance rfl rfl rfl (paE rfl (vn 0 rfl Y0 rfl rfl) (paE rfl (blE (v:= .ty "str") rfl T.b_str boot_str rfl rfl rfl) ai)))))
   (ap fV)
   bM)
   (ah (bg 1 fw.nd rfl Y0 Y1 rfl (bmE (K:=K) rfl plainAttrs_str PySem.F.slot_str_split PySem.F.type_str_split rh rfl rfl rfl rfl (vn 0 rfl Y0 rfl rfl) (paE rfl bS ai)))
   (ah (eG PassesOwn.never rfl rfl (rj (K:=K) rfl rfl T.b_enumerate rfl (paE rfl (vn 1 rfl Y0 rfl rfl) ai)) (fq (K:=K) rfl rfl rfl (gsE rfl (az 2 fw.nd rfl Y0 Y1) (gsE rfl (az 3 fw.nd rfl Y0 Y1) cU)))
   (ah (ifS (wT (orW (cH eJ rfl (vn 2 rfl Y0 rfl rfl) (gvE T.g_MOST_ROWS rfl rfl)) (lz (gQ (eN (K:=K) rfl (fun _=>rfl) (bC kY hr rfl rfl rfl rfl (paE rfl (vn 3 rfl Y0 rfl rfl) ai)))))))
    (ap fV)
    bM)
    (ap (ifS (wT (mX (cH wS rfl (vn 2 rfl Y0 rfl rfl) am) (kz (gQ (eN (K:=K) rfl (fun _=>rfl) (bC eC hr rfl rfl rfl rfl (paE rfl (vn 3 rfl Y0 rfl rfl) (paE rfl (bY (K:=K) rfl (fun _ _=>rfl) (vn 1 rfl Y0 rfl rfl) (opE nW (vn 2 rfl Y0 rfl rfl) am)) ai))))))))
    (ap fV)
    bM))))
   (ah (ifS (cH eJ rfl (cbE (df (K:=K) rfl) rfl T.b_len PySem.boot_len rfl rfl rfl (paE rfl (bC cC hr rfl rfl rfl rfl (paE rfl (vn 1 rfl Y0 rfl rfl) ai)) ai)) am)
   (ap fV)
   bM)
   (ap (bF (vn 1 rfl Y0 rfl rfl)))))))),?_⟩
  generalize Str.join nl rows=z at htl hsp
  show cf _ _ _ [some (.str z),none,none,none] H;refine al fun D1 k1 _=>?_
  walk_at "rd";refine⟨.type "str",.str z,true,by rfl,yP (k1 _ _ (al fun D2 k2 _=>?_))⟩;walk_at "rd";refine⟨by decide,le_trans (by lia:z.length+2<=5000) (by decide),fun l hl=>k2 _ _ ?_⟩;rw[show(Str.ofString "\n")=nl from rfl,hsp];refine al fun D3 k3 _=>aD fun Kont hK=>?_
  walk_at "rd";have sml:ag H (upd H l (.lst (rows.map V.str))):=ag.upd hl;refine⟨_,SqL.of aa,hK _ _ (iE (fun i σ H'=>∃o2 o3,σ=[some (.str z),some (.ref l),o2,o3]/\ag H H'/\H' l=some (.lst (rows.map V.str))) ⟨none,none,rfl,sml,aa⟩ (fun i σ H' _ ⟨_,_,_,_,q⟩=>SqL.of q) ?_ ?_)⟩
  ·rintro i x TT σ H' hx ⟨o2,o3,rfl,sm,hl'⟩ hT;obtain⟨r,hr1,rfl⟩:∃r,rows[i]? =some r/\x=V.str r:=by
    rw[W5]at hx;cases e:rows[i]? with
    | none=>rw[e]at hx;cases hx
    | some r=>rw[e]at hx;exact⟨r,rfl,(X1 hx).symm⟩
   have hilt:i<rows.length:=(List.getElem?_eq_some_iff.mp hr1).1;have hi40:=hcut.high;have smT:ag H (upd H' TT (.tup [.int i,.str r])):=sm.trans (ag.upd hT);have hlT:upd H' TT (.tup [.int i,.str r]) l=some (.lst (rows.map V.str)):=ag.upd hT _ _ hl';have hgT:upd H' TT (.tup [.int i,.str r]) TT=some (.tup [.int i,.str r]):=aa
   generalize upd H' TT (.tup [.int i,.str r])=HT at smT hlT hgT
   have hrl:r.length<=1000:=by
    have:r.length=wd:=hw r (Y8 hr1)
    lia
   refine⟨_,SqT.of hgT,rfl,_,_,rfl,_,_,rfl,rfl,?_⟩;show cf _ _ _ [some (.str z),some (.ref l),some (.int i),some (.str r)] HT;refine al fun D4 k4 _=>?_
   have go:∀H2,ag HT H2->D4.nx [some (.str z),some (.ref l),some (.int i),some (.str r)] H2:=by
    intro H2 sm2;refine k4 _ _ (aT fun D5 k5 _=>?_);have fin:∀H3,ag HT H3->D5.nx [some (.str z),some (.ref l),some (.int i),some (.str r)] H3:=fun H3 sm3=>k5 _ _ ⟨_,_,rfl,smT.trans sm3,sm3 l _ hlT⟩
    walk_at "rd";refine cF (fun hp=>?_) fun _=>fin _ sm2
    have hp:0<(i:Int):=W8 hp;obtain⟨i',rfl⟩:∃i',i=i'+1:=⟨i-1,by lia⟩
    have hi':i'<rows.length:=by lia
    have hr0:rows[i']? =some rows[i']:=by simp[hi']
    have e1:(((i'+1:Nat):Int) -1)=(i':Int):=by lia
    refine⟨_,SqL.of (sm2 l _ hlT),.str rows[i'],by rw[e1];exact bN (by simp[hi']),r,rows[i'],rfl,hrl,?_,fun H3 sm3=>⟨_,rfl,?_⟩⟩
    ·have:rows[i'].length=wd:=hw _ (getElem_mem hi')
     lia
    ·rw[hcut.beneath hr0 hr1];exact yP (fin _ (sm2.trans sm3))
   walk_at "rd";rw[if_neg (by simp;lia)];refine⟨r,rfl,hrl,fun H2 sm2=>⟨_,rfl,?_⟩⟩;rw[hcut.row (Y8 hr1)];exact yP (go H2 sm2)
  ·rintro σ H' ⟨o2,o3,rfl,sm,hl'⟩;refine k3 _ _ ?_;walk_at "rd";refine⟨l,rows,rfl,SqL.of hl',by have:=hcut.sum;lia,hcut.sign,fun l2 H2 ss sm2 hf2 hl2 hp hst=>⟨_,.inl ⟨_,SqL.of hl2,rfl⟩,?_⟩⟩;rw[if_neg]
   ·exact k l H2 (sm.trans sm2) hl (sm2 l _ hl')
   ·intro h0;have h0:=W8 h0;rw[Y6]at h0;have:ss=[]:=length_eq_zero_iff.mp (by lia);rw[this]at hp;have hm:=hp.symm.eq_nil;obtain⟨c,hc⟩:=List.exists_mem_of_ne_nil _ hcut.signs_ne;have:sgn c∈aI ((cv rows).map sgn):=dP.mpr (mem_map.mpr ⟨c,hc,rfl⟩);rw[hm]at this;cases this
end
noncomputable def dE(p:Nat×Nat):Option (List Str):=if p.1≠46/\p.1≠p.2 then some [sgn p.1,sgn p.2]else none
noncomputable def gs(u r:Str):List (List Str):=(List.zip u.cps.toList r.cps.toList).filterMap dE
theorem iQ(H:Hp):aF H []:=fun p hp=>by cases hp
theorem aJ{H H':Hp}{ps:List (Addr×List Str)}(h:aF H ps)(s:∀b z,H b=some (.tup z)->H' b=some (.tup z)):aF H' ps:=fun p hp=>⟨(h p hp).1,s _ _ (h p hp).2⟩
theorem jo{H:Hp}{ps:List (Addr×List Str)}{q:Addr×List Str}(h:aF H ps)(h1:q.2≠[])(h2:H q.1=some (.tup (q.2.map V.str))):aF H (ps++[q]):=fun p hp=>by
 rcases mem_append.mp hp with z|z
 ·exact h p z
 ·rw[mem_singleton.mp z];exact⟨h1,h2⟩
theorem pc{H:Hp}{ps qs:List (Addr×List Str)}(h1:aF H ps)(h2:aF H qs):aF H (ps++qs):=fun p hp=>(mem_append.mp hp).elim (h1 p) (h2 p)
noncomputable def xR:Sp:=fun vs H Q _=>∃u r:Str,vs=[.str u,.str r]/\u.length<=40/\r.length=u.length/\∀l H' ps,ag H H'->H l=none->H' l=some (.lst (ps.map fun p:Addr×List Str=>V.ref p.1))->aF H' ps->ps.map (·.2)=gs u r->Q (.ref l) H'
noncomputable def rD:Sp:=fun vs H Q _=>∃rows:List Str,vs=[.str (Str.join nl rows)]/\bQ rows/\∀l H' ss,ag H H'->H l=none->H' l=some (.lst (ss.map V.str))->ss.Perm (aI ((cv rows).map sgn))->PyProof.Rows.sortedS ss=true->Q (.ref l) H'
section
variable{P:Program}{w:World}{K:PySem.W.Frag}{mg:Str->Option Value}{base:Heap}
theorem jp(T:Txt K mg):Cal P w K mg base 3 "letters" ["text"] rD:=by
 have cD:Cal P w K mg base 2 "rows_of" ["text"] fB:=cD T;have cC:Cal P w K mg base 1 "letters_in" ["rows"] (eR K):=cC T;refine T.d_letters.cal qN (fun vs H Q E h=>?_) (fun f cdv A outer s H vs Q E hr h=>?_)
 ·obtain⟨rows,rfl,_⟩:=h;rfl
 ·obtain⟨rows,rfl,hcut,kk⟩:=h;refine⟨_,(QSs.h (ap (bF (bC cC hr rfl rfl rfl rfl (paE rfl (bC cD hr rfl rfl rfl rfl (paE rfl (vn 0 rfl Y0 rfl rfl) ai)) ai))))),?_⟩;show kf _ _ [some (.str (Str.join nl rows))] H;walk_at "rd";refine⟨rows,rfl,hcut,fun l H1 s1 f1 h1=>⟨l,rows,rfl,SqL.of h1,by have:=hcut.sum;lia,hcut.sign,fun l2 H2 ss s2 f2 h2 p2 q2=>kk l2 H2 ss (s1.trans s2) (s1.free f2) h2 p2 q2⟩⟩
theorem cQ(T:Txt K mg):Cal P w K mg base 1 "meetings_between" ["above","row"] xR:=by
 refine T.d_meetings_between.cal gT (fun vs H Q E h=>?_) (fun f cdv A outer s H vs Q E hr h=>?_)
 ·obtain⟨u,r,rfl,_⟩:=h;rfl
 ·obtain⟨u,r,rfl,hu,hru,kk⟩:=h;have hus:u.length=u.cps.size:=rfl;have hrs:r.length=r.cps.size:=rfl;refine⟨_,(QSs.h (ap (bF (fT (aG.of (show cP (af bi) ["above","row"] _ ["high","low"] []=true from by decide +kernel)) rfl rfl (uX rfl T.b_zip rfl rfl (paE rfl (vn 0 rfl Y0 rfl rfl) (paE rfl (vn 1 rfl Y0 rfl rfl) ai))) (fun _ _ _=>(fq (K:=K) rfl rfl rfl (gsE rfl (az 0 (show(["high","low"]:List Str).Nodup from by decide +kernel) rfl Y0 Y1) (gsE rfl (az 1 (show(["high","low"]:List Str).Nodup from by decide +kernel) rfl Y0 Y1) cU)))) (fun _ _ _=>(uU (wT (mX (cH fK rfl (vn 0 rfl Y0 rfl rfl) (gvE T.g_AIR rfl rfl)) (kz (cH fK rfl (vn 0 rfl Y0 rfl rfl) (vn 1 rfl Y0 rfl rfl))))))) (fun _ _ _=>(de (paE rfl (vn 0 rfl Y0 rfl rfl) (paE rfl (vn 1 rfl Y0 rfl rfl) ai)))))))),?_⟩;show kf _ _ [some (.str u),some (.str r)] H;walk_at "rd";refine bh fun Kont hK=>?_
  walk_at "rd";refine hK _ _ fun D hD=>?_
  refine cu (J:=Itz u r) (n:=u.cps.size) (D:=D) (fun i ys σ H'=>(∃o1 o2,σ=[o1,o2])/\ag H H'/\H' D=some (.lst ys)/\ys.length<=i/\∃ps:List (Addr×List Str),ys=ps.map (fun p=>V.ref p.1)/\aF H' ps/\ps.map (·.2)=((List.zip u.cps.toList r.cps.toList).take i).filterMap dE)
   ⟨⟨none,none,rfl⟩,ag.upd hD,aa,W1 _,[],rfl,iQ _,rfl⟩ (fun i _ _ _ hi _=>⟨hi,by lia⟩) (fun _ _ _ _=>⟨W1 _,by lia,.inl rfl⟩) ?_ ?_
  ·rintro i ys σ H' hi ⟨⟨o1,o2,rfl⟩,sm,hl,hlen,ps,hy,tps,hks⟩ x H2 ⟨c,d,TT,hc,hd,hT,rfl,rfl⟩;have smT:=ag.upd (o:= .tup [.str ⟨#[c]⟩,.str ⟨#[d]⟩]) hT;have nx:=kZ u r i c d hc hd;have hl2:=smT _ _ hl;have hgT:upd H' TT (.tup [.str ⟨#[c]⟩,.str ⟨#[d]⟩]) TT=some (.tup [.str ⟨#[c]⟩,.str ⟨#[d]⟩]):=aa;have tps2:aF (upd H' TT (.tup [.str ⟨#[c]⟩,.str ⟨#[d]⟩])) ps:=fun p hp=>⟨(tps p hp).1,smT _ _ (tps p hp).2⟩
   have sm2:=sm.trans smT
   generalize upd H' TT (.tup [.str ⟨#[c]⟩,.str ⟨#[d]⟩])=HT at smT hl2 hgT tps2 sm2
   refine⟨_,SqT.of hgT,rfl,_,_,rfl,_,_,rfl,rfl,?_⟩;show vR _ _ [some (.str ⟨#[c]⟩),some (.str ⟨#[d]⟩)] HT _;walk_at "rd";simp only[jn,qP];have hDT:D≠TT:=fun e=>by rw[e,hgT]at hl2;cases hl2
   refine cF (fun h1=>cF (fun h2=>?_) fun h2=>?_) fun h1=>?_
   ·have h1:c≠46:=by simpa using h1
    have h2:c≠d:=by simpa using h2
    refine⟨show 2<=sizeLine from by decide,fun p hp=>?_⟩;have smp:=ag.upd (o:= .tup [V.str ⟨#[c]⟩,V.str ⟨#[d]⟩]) hp;have hDp:p≠D:=fun e=>by rw[e,hl2]at hp;cases hp
    refine CK.mk hi (smp _ _ hl2) (bB (by lia)) ⟨⟨_,_,rfl⟩,ag.set (sm2.trans smp) hD,aa,by rw[Y9,length_singleton];lia,ps++[(p,[sgn c,sgn d])],by rw[hy,X4];rfl,?_,?_⟩
    ·have keep:∀b z,upd HT p (.tup [V.str ⟨#[c]⟩,V.str ⟨#[d]⟩]) b=some (.tup z)->upd (upd HT p (.tup [V.str ⟨#[c]⟩,V.str ⟨#[d]⟩])) D (.lst (ys++[V.ref p])) b=some (.tup z):=fun b z e=>by
      have:b≠D:=fun e2=>by rw[e2,smp _ _ hl2]at e;cases e
      rw[ak this];exact e
     exact aJ (jo (aJ tps2 fun b z e=>smp _ _ e) (by simp) (by rw[aa];rfl)) keep
    ·rw[X4,hks,<-nx,filterMap_append];have:dE (c,d)=some [sgn c,sgn d]:=if_pos ⟨h1,h2⟩;rw[filterMap_cons,this];rfl
   ·have h2:c=d:=by simpa using h2
    refine CN.mk hi ⟨⟨_,_,rfl⟩,sm2,hl2,by lia,ps,hy,tps2,?_⟩;rw[hks,<-nx,filterMap_append];have:dE (c,d)=none:=if_neg fun q=>q.2 h2
    rw[filterMap_cons,this];simp
   ·have h1:c=46:=by simpa using h1
    refine CN.mk hi ⟨⟨_,_,rfl⟩,sm2,hl2,by lia,ps,hy,tps2,?_⟩;rw[hks,<-nx,filterMap_append];have:dE (c,d)=none:=if_neg fun q=>q.1 h1
    rw[filterMap_cons,this];simp
  ·rintro ys σ H' ⟨_,sm,hl,hlen,ps,hy,tps,hks⟩;rw[W7 (by rw[length_zip];simp;lia)]at hks;exact kk D H' ps sm hD (by rw[hl,hy]) tps hks
end
theorem pd{K:PySem.W.Frag}{a b:Addr}{xs ys:List V}{g:TG}{tb:TS}{D:gO}{σ:St}{H:Hp}(Pv:Nat->St->Hp->Prop)(h0:Pv 0 σ H)(hle:ys.length<=xs.length)(hl:∀i σ H,i<=ys.length->Pv i σ H->SqL K H a xs/\SqL K H b ys)
 (hs:∀i x y T σ H,xs[i]? =some x->ys[i]? =some y->Pv i σ H->H T=none->g (.ref T) σ (upd H T (.tup [x,y])) fun σ2 H2=>tb {D with nx:=Pv (i+1),ct:=Pv (i+1),bk:=D.nx} σ2 H2) (hd:∀σ H,Pv ys.length σ H->D.nx σ H):
 ∃W:Nat->Nat->St->Hp->Prop,(∃m,W 0 m σ H)/\∀i m σ H,W i m σ H->
  ((qK K a b).stop i H/\D.nx σ H)\/((qK K a b).go i H/\∃N:St->Hp->Prop,(∀σ' H',N σ' H'->∃m',m'<m/\W (i+1) m' σ' H')/\∀x H',(qK K a b).yld i H x H'->g x σ H' fun σ2 H2=>tb {D with nx:=N,ct:=N,bk:=D.nx} σ2 H2):=by
 refine⟨fun i m σ H=>m=ys.length-i/\i<=ys.length/\Pv i σ H,⟨ys.length,by simp,zero_le _,h0⟩,?_⟩;rintro i m σ H ⟨rfl,hi,p⟩;obtain⟨q1,q2⟩:=hl i σ H hi p;by_cases hlt:i<ys.length
 ·have hx:xs[i]? =some xs[i]:=by simp[show i<xs.length by lia]
  have hy:ys[i]? =some ys[i]:=by simp[hlt]
  refine .inr ⟨⟨xs,ys,_,_,q1,q2,hx,hy⟩,Pv (i+1),fun σ' H' p'=>⟨ys.length-(i+1),by lia,rfl,hlt,p'⟩,fun v H' y=>?_⟩;obtain⟨T,x',y',hT,rfl,rfl,e1,e2⟩:=y;have e1:=e1 xs q1;have e2:=e2 ys q2;exact hs i x' y' T σ H e1 e2 p hT
 ·have e:i=ys.length:=by lia
  subst e;exact .inl ⟨⟨xs,ys,q1,q2,by lia,W1 _,.inr rfl⟩,hd σ H p⟩
noncomputable def aC(rows:List Str)(i:Nat):List (List Str):=(List.range i).flatMap fun j=>gs (rows.getD j ⟨#[]⟩) (rows.getD (j+1) ⟨#[]⟩)
theorem fC(rows:List Str)(i:Nat):aC rows (i+1)=aC rows i++gs (rows.getD i ⟨#[]⟩) (rows.getD (i+1) ⟨#[]⟩):=by
 unfold aC;rw[range_succ,flatMap_append];simp
theorem lc(u r:Str):(gs u r).length<=u.length:=by
 unfold gs;refine le_trans (List.length_filterMap_le _ _) ?_;rw[length_zip];have:u.cps.toList.length=u.length:=by simp[Str.length]
 lia
theorem ld{u r:Str}{k:List Str}:k∈gs u r↔∃(a b j:Nat),k=[sgn a,sgn b]/\a≠46/\a≠b/\u.cps[j]? =some a/\r.cps[j]? =some b:=by
 unfold gs;rw[mem_filterMap]
 constructor
 ·rintro⟨⟨a,b⟩,hp,e⟩;unfold dE at e
  split at e
  ·rename_i h
   obtain⟨j,hj⟩:=List.getElem?_of_mem hp;rw[List.getElem?_zip_eq_some]at hj;exact⟨a,b,j,(X1 e).symm,h.1,h.2,by simpa using hj.1,by simpa using hj.2⟩
  ·cases e
 ·rintro⟨a,b,j,rfl,h1,h2,h3,h4⟩;refine⟨(a,b),Y8 (i:=j) ?_,if_pos ⟨h1,h2⟩⟩;rw[List.getElem?_zip_eq_some];exact⟨by simpa using h3,by simpa using h4⟩
theorem gN{rows:List Str}{k:List Str}:k∈aC rows (rows.length-1)↔∃a b,k=[sgn a,sgn b]/\Ah rows a b:=by
 unfold aC;rw[mem_flatMap];have gd:∀j (h:j<rows.length),rows.getD j ⟨#[]⟩=rows[j]:=fun j h=>by simp[X3,h]
 constructor
 ·rintro⟨j,hj,hk⟩;have hj:=mem_range.mp hj;obtain⟨a,b,q,e,h1,h2,h3,h4⟩:=ld.mp hk;rw[gd j (by lia)]at h3;rw[gd (j+1) (by lia)]at h4;exact⟨a,b,e,h1,h2,j,q,_,_,by simp[show j<rows.length by lia],by simp[show j+1<rows.length by lia],h3,h4⟩
 ·rintro⟨a,b,e,h1,h2,i,q,r,r',e1,e2,h3,h4⟩;obtain⟨l2,g2⟩:=List.getElem?_eq_some_iff.mp e2;obtain⟨l1,g1⟩:=List.getElem?_eq_some_iff.mp e1;refine⟨i,mem_range.mpr (by lia),ld.mpr ⟨a,b,q,e,h1,h2,?_,?_⟩⟩
  ·rw[gd i l1,g1];exact h3
  ·rw[gd (i+1) l2,g2];exact h4
noncomputable def iR:List Nat:=cO.cps.toList++[46]
noncomputable def cN:List (List Str):=iR.flatMap fun a=>iR.map fun b=>[sgn a,sgn b]
theorem xS{c:Nat}(h:okc c=true):c∈iR:=by
 unfold okc at h;unfold iR;rcases(or_eq_true _ _).mp h with q|q
 ·rw[W8 q];simp
 ·exact mem_append_left _ (W8 q)
theorem nF:cN.length=729:=by
 unfold cN;rw[List.length_flatMap];have:iR.length=27:=by decide +kernel
 simp only[Y6,this];rw[List.map_const',List.sum_replicate_nat,this]
theorem nG{rows:List Str}(hc:bQ rows){k:List Str}(h:k∈aC rows (rows.length-1)):k∈cN/\k.length=2/\k≠[]:=by
 obtain⟨a,b,rfl,_,_,i,j,r,r',e1,e2,g1,g2⟩:=gN.mp h;have ka:=all_eq_true.mp (hc.sign r (Y8 e1)) a (Y8 (i:=j) (by simpa using g1));have kb:=all_eq_true.mp (hc.sign r' (Y8 e2)) b (Y8 (i:=j) (by simpa using g2));refine⟨?_,rfl,by simp⟩;unfold cN;exact mem_flatMap.mpr ⟨a,xS ka,mem_map.mpr ⟨b,xS kb,rfl⟩⟩
theorem tE(rows:List Str)(h:rows≠[]):gP (rows.map V.str) (some 1) none=(rows.drop 1).map V.str:=by
 unfold gP;have h1:1<=rows.length:=length_pos_iff.mpr h;rw[HT.sIx_none,show(some (1:Int))=some ((1:Nat):Int)from rfl,HT.sIx_nat,Y6,min_eq_left h1,<-List.map_drop,<-map_take]
 congr 1
 rw[W7 (by rw[length_drop];exact W1 _)]
noncomputable def rE:Sp:=fun vs H Q _=>∃rows:List Str,vs=[.str (Str.join nl rows)]/\bQ rows/\∀l H' (ss:List (Addr×List Str)),ag H H'->H l=none->H' l=some (.lst (ss.map fun p=>V.ref p.1))->aF H' ss->(ss.map (·.2)).Nodup->(ss.map (·.2)).Pairwise (fun a b=>cy b a=false)->
 (∀k,k∈ss.map (·.2)↔∃a b,k=[sgn a,sgn b]/\Ah rows a b)->Q (.ref l) H'
section
variable{P:Program}{w:World}{K:PySem.W.Frag}{mg:Str->Option Value}{base:Heap}
theorem io(T:Txt K mg):Cal P w K mg base 3 "meetings" ["text"] rE:=by
 have cD:Cal P w K mg base 2 "rows_of" ["text"] fB:=cD T;have cQ:Cal P w K mg base 1 "meetings_between" ["above","row"] xR:=cQ T;refine T.d_meetings.cal dw (fun vs H Q E h=>?_) (fun f cdv A outer s H vs Q E hr h=>?_)
 ·obtain⟨rows,rfl,_⟩:=h;rfl
 ·obtain⟨rows,rfl,hcut,kk⟩:=h;obtain⟨wd,w1,w2,hwd⟩:=hcut.wide;have hp:1<=rows.length:=hcut.pos;have hi40:=hcut.high;have hne:rows≠[]:=length_pos_iff.mp hp;refine⟨_,(QSs.h (ah (bg 1 dw.nd rfl Y0 Y1 rfl (bC cD hr rfl rfl rfl rfl (paE rfl (vn 0 rfl Y0 rfl rfl) ai)))
   (ah (bg 2 dw.nd rfl Y0 Y1 rfl (dc ai))
   (ah (eG PassesOwn.never rfl rfl (xO (K:=K) rfl rfl T.b_zip rfl rfl (paE rfl (vn 1 rfl Y0 rfl rfl) (paE rfl (slE (K:=K) rfl (vn 1 rfl Y0 rfl rfl) (iB am) noO) ai))) (fq (K:=K) rfl rfl rfl (gsE rfl (az 3 dw.nd rfl Y0 Y1) (gsE rfl (az 4 dw.nd rfl Y0 Y1) cU)))
   (ap (dq rfl (bmE (K:=K) rfl plainAttrs_list PySem.F.slot_list_extend PySem.F.type_list_extend nZ rfl rfl rfl rfl (vn 2 rfl Y0 rfl rfl) (paE rfl (bC cQ hr rfl rfl rfl rfl (paE rfl (vn 3 rfl Y0 rfl rfl) (paE rfl (vn 4 rfl Y0 rfl rfl) ai))) ai)))))
   (ap (bF (cbE (sW (P:=P) (w:=w) rfl rfl rfl) rfl T.b_sorted boot_sorted rfl rfl rfl (paE rfl (ctE (zo (K:=K) (P:=P) (w:=w) rfl rfl rfl rfl hr) rfl T.b_set boot_set rfl rfl rfl (paE rfl (vn 2 rfl Y0 rfl rfl) ai)) ai)))))))),?_⟩
  show cf _ _ _ [some (.str (Str.join nl rows)),none,none,none,none] H;refine al fun D1 k1 r1=>?_
  walk_at "rd";refine⟨rows,rfl,hcut,fun R H1 s1 f1 hR=>k1 _ _ (al fun D2 k2 r2=>?_)⟩;walk_at "rd";refine⟨zero_le _,fun L hL=>k2 _ _ (al fun D3 k3 r3=>aD fun Kont hK=>?_)⟩;have s2:=ag.upd (o:= .lst []) hL;have hR2:=s2 _ _ hR;have hLz:upd H1 L (.lst []) L=some (.lst []):=aa;have fL:H L=none:=s1.free hL;have s12:=s1.trans s2
  generalize upd H1 L (.lst [])=H2 at s2 hR2 hLz s12
  walk_at "rd";refine .inl ⟨_,SqL.of hR2,fun p hp=>?_⟩;rw[tE rows hne];have s3:=ag.upd (o:= .lst ((rows.drop 1).map V.str)) hp;have hR3:=s3 _ _ hR2;have hL3:=s3 _ _ hLz;have hP3:upd H2 p (.lst ((rows.drop 1).map V.str)) p=some (.lst ((rows.drop 1).map V.str)):=aa;have s13:=s12.trans s3;have hLR:L≠R:=fun e=>by rw[e,hR]at hL;cases hL
  have hpL:p≠L:=fun e=>by rw[e,hLz]at hp;cases hp
  generalize upd H2 p (.lst ((rows.drop 1).map V.str))=H3 at s3 hR3 hL3 hP3 s13
  refine⟨⟨_,SqL.of hR3⟩,⟨_,SqL.of hP3⟩,hK _ _ (pd (xs:=rows.map V.str) (ys:=(rows.drop 1).map V.str) (fun i σ H'=>(∃o3 o4,σ=[some (.str (Str.join nl rows)),some (.ref R),some (.ref L),o3,o4])/\ag H H'/\H' R=some (.lst (rows.map V.str))/\H' p=some (.lst ((rows.drop 1).map V.str))/\
   ∃ps:List (Addr×List Str),H' L=some (.lst (ps.map fun q=>V.ref q.1))/\aF H' ps/\ps.map (·.2)=aC rows i/\ps.length<=40*i) ⟨⟨none,none,rfl⟩,s13,hR3,hP3,[],hL3,iQ _,rfl,zero_le _⟩ (by rw[Y6,Y6,length_drop];lia) (fun i σ H' _ q=>⟨SqL.of q.2.2.1,SqL.of q.2.2.2.1⟩) ?_ ?_)⟩
  ·rintro i x y TT σ H' hx hy ⟨⟨o3,o4,rfl⟩,sm,hR',hP',ps,hL',tps,hks,hlen⟩ hT;rw[W5]at hx hy;obtain⟨u,hu,rfl⟩:=map_eq_some_iff.mp hx;obtain⟨r,hr',rfl⟩:=map_eq_some_iff.mp hy;rw[getElem?_drop,Nat.add_comm]at hr';have hil:i+1<rows.length:=(List.getElem?_eq_some_iff.mp hr').1;have ul:u.length=wd:=hwd u (Y8 hu);have rl:r.length=wd:=hwd r (Y8 hr');have smT:=ag.upd (o:= .tup [V.str u,V.str r]) hT;have hgT:upd H' TT (.tup [V.str u,V.str r]) TT=some (.tup [V.str u,V.str r]):=aa;have hRT:=smT _ _ hR';have hPT:=smT _ _ hP';have hLT:=smT _ _ hL';have tpsT:aF (upd H' TT (.tup [V.str u,V.str r])) ps:=aJ tps fun b z e=>smT _ _ e
   have smH:=sm.trans smT
   generalize upd H' TT (.tup [V.str u,V.str r])=HT at smT hgT hRT hPT hLT tpsT smH
   refine⟨_,SqT.of hgT,rfl,_,_,rfl,_,_,rfl,rfl,?_⟩;refine aT fun D4 k4 r4=>?_
   walk_at "rd";refine⟨.inl ⟨_,SqL.of hLT⟩,u,r,rfl,by lia,by lia,fun l4 H4 ps4 s4 f4 h4 tps4 e4=>?_⟩;have l4L:l4≠L:=fun e=>by rw[e,hLT]at f4;cases f4
   have len4:ps4.length<=40:=by
    have:(ps4.map (·.2)).length=(gs u r).length:=by rw[e4]
    rw[Y6]at this;have:=lc u r
    lia
   refine⟨_,rfl,_,s4 _ _ hLT,_,h4,by rw[Y6,Y6];exact aZ (by lia),k4 _ _ ?_⟩;have keepT:∀b z,H4 b=some (.tup z)->upd H4 L (.lst ((ps.map fun q=>V.ref q.1) ++ps4.map fun q=>V.ref q.1)) b=some (.tup z):=fun b z e=>by
    have:b≠L:=fun e2=>by rw[e2,s4 _ _ hLT]at e;cases e
    rw[ak this];exact e
   have hRL:R≠L:=Ne.symm hLR;refine⟨⟨_,_,rfl⟩,fun b u' e=>?_,by rw[ak hRL];exact s4 _ _ hRT,by rw[ak hpL];exact s4 _ _ hPT,ps++ps4,by rw[aa,X4],aJ (pc (aJ tpsT fun b z e=>s4 _ _ e) tps4) keepT,?_,by rw[Y9];lia⟩
   ·rw[ak (ao e fL)];exact s4 _ _ (smH _ _ e)
   ·rw[X4,hks,e4,fC];have g1:rows.getD i ⟨#[]⟩=u:=by rw[X3,hu];rfl
    have g2:rows.getD (i+1) ⟨#[]⟩=r:=by rw[X3,hr'];rfl
    rw[g1,g2]
  ·rintro σ H' ⟨⟨o3,o4,rfl⟩,sm,hR',hP',ps,hL',tps,hks,hlen⟩;rw[Y6,length_drop]at hks;refine k3 _ _ ?_;walk_at "rd";have inU:∀q∈ps,q.2∈cN/\q.2.length=2/\q.2≠[]:=fun q hq=>nG hcut (by rw[<-hks];exact mem_map.mpr ⟨q,hq,rfl⟩)
   refine⟨ps,SqL.of hL',tps,⟨cN,by rw[nF];decide,fun q hq=>(inU q hq).1⟩,fun l5 hl5=>?_⟩;have s5:=ag.upd (o:=kP P w l5 (aS ps)) hl5;have fU:∀q∈aS ps,q.2∈cN/\q.2.length=2/\q.2≠[]:=fun q hq=>inU q (du ps q hq)
   have few:(aS ps).length<=1000:=by
    have:=STab.nodup_sub (eO ps) (m:=cN) fun k hk=>by
     obtain⟨q,hq,rfl⟩:=mem_map.mp hk;exact(fU q hq).1
    rw[Y6,nF]at this
    lia
   refine⟨aS ps,aa,fun q hq=>⟨(tps q (du ps q hq)).1,s5 _ _ (tps q (du ps q hq)).2⟩,2,fun q hq=>(fU q hq).2.1,by decide,few,fun l6 ss hl6 pm so=>?_⟩;have s6:=ag.upd (o:= .lst (ss.map fun q=>V.ref q.1)) hl6;have sall:=(sm.trans s5).trans s6;have pk:(ss.map (·.2)).Perm ((aS ps).map (·.2)):=pm.map _;refine kk l6 _ ss sall ((sm.trans s5).free hl6) aa (fun q hq=>?_) (pk.nodup_iff.mpr (eO ps)) (by rw[pairwise_map];exact so) fun k=>?_
   ·have hq':=pm.mem_iff.mp hq;have:=tps q (du ps q hq');exact⟨this.1,s6 _ _ (s5 _ _ this.2)⟩
   ·rw[pk.mem_iff,iJ,hks];exact gN
end
noncomputable def eD(z:Str):Bool:=(decide (1<=(z.length:Int))&&decide ((z.length:Int)<=8))&&z.cps.toList.all fZ
noncomputable def lg:Sp:=fun vs H Q _=>∃z:Str,vs=[.str z]/\eD z=true/\∀H',ag H H'->Q (.bl true) H'
noncomputable def pf(K:PySem.W.Frag):Sp:=fun vs H Q _=>∃(z:Str) (p:Addr) (ts:List Str),vs=[.str z,.ref p]/\(SqL K H p (ts.map V.str)\/SqT K H p (ts.map V.str))/\Q (.bl (decide (z∈ts))) H
noncomputable def lh:Sp:=fun vs H Q _=>∃i:Int,vs=[.int i]/\ -9999<=i/\i<=9999/\Q (.bl true) H
noncomputable def jJ(ls:List Str)(vs:List V):Prop:=
 (∃w a b:Str,vs=[.str w,.str a,.str b]/\(w="later"\/w="same")/\a∈ls/\b∈ls/\a≠b)\/
 ∃(w a:Str) (y:Int),vs=[.str w,.str a,.int y]/\(w="since"\/w="by")/\a∈ls/\ -9999<=y/\y<=9999
noncomputable def iS(K:PySem.W.Frag):Sp:=fun vs H Q _=>∃(t p:Addr) (xs:List V) (ls:List Str),vs=[.ref t,.ref p]/\H t=some (.tup xs)/\SqL K H p (ls.map V.str)/\jJ ls xs/\Q (.bl true) H
noncomputable def lnS(n z:Str):Str:=Str.empty++n++Str.ofString "."++z
noncomputable def eS:Sp:=fun vs H Q _=>∃n z:Str,vs=[.str n,.str z]/\n.length<=100/\z.length<=100/\Q (.str (lnS n z)) H
section
variable{P:Program}{w:World}{K:PySem.W.Frag}{mg:Str->Option Value}{base:Heap}
theorem xn(z:Str)(ts:List Str):inV (V.str z) (ts.map V.str)=decide (z∈ts):=by
 unfold inV;rw[any_map]
 induction ts with
 | nil=>rfl
 | cons c r ih=>
   rw[any_cons,ih];show((c==z)||_)=_;by_cases h:c=z
   ·subst h;simp
   ·have:z≠c:=fun e=>h e.symm
    simp[h,this]
theorem tF(ts:List Str):(ts.map V.str).all eV=true:=by simp[eV]
theorem jq(T:Txt K mg):Cal P w K mg base 1 "is_name" ["thing"] lg:=by
 refine T.d_is_name.cal qM (fun vs H Q E h=>?_) (fun f cdv A outer s H vs Q E hr h=>?_)
 ·obtain⟨x,rfl,_⟩:=h;rfl
 ·obtain⟨z,rfl,hn,k⟩:=h;refine⟨_,(QSs.h (ah (ifS (gQ (eN (K:=K) rfl (fun _=>rfl) (cbE (fW (K:=K) rfl) rfl T.b_isinstance boot_isinstance rfl rfl rfl (paE rfl (vn 0 rfl Y0 rfl rfl) (paE rfl (blE (v:= .ty "str") rfl T.b_str boot_str rfl rfl rfl) ai)))))
   (ap (bF eBl))
   bM)
   (ap (bF (lw (qf sw sw rfl am (cbE (df (K:=K) rfl) rfl T.b_len PySem.boot_len rfl rfl rfl (paE rfl (vn 0 rfl Y0 rfl rfl) ai)) (gvE T.g_LONGEST_NAME rfl rfl)) (mW (cbE (uV (K:=K) rfl rfl) rfl T.b_all boot_all rfl rfl rfl (paE rfl (fT (aG.of (show cP (af dZ) ["thing"] _ ["sign"] []=true from by decide +kernel)) rfl rfl (ie (K:=K) rfl (vn 0 rfl Y0 rfl rfl)) (fun _ _ _=>(az 0 (show(["sign"]:List Str).Nodup from by decide +kernel) rfl Y0 Y1)) (fun _ _ _=>lA) (fun _ _ _=>(jO (sC (K:=K) rfl) rfl (vn 0 rfl Y0 rfl rfl) (gvE T.g_LETTERS rfl rfl)))) ai)))))))),?_⟩
  show cf _ _ _ [some (.str z)] H;have hn':=hn;unfold eD at hn';rw[and_eq_true,and_eq_true]at hn';obtain⟨⟨h1,h8⟩,hall⟩:=hn';have hz:z.length<=8:=by have:=W8 h8;lia
  walk_at "rd";refine⟨.type "str",.str z,true,by rfl,?_⟩;walk_at "rd";refine⟨aZ (by lia),?_⟩;rw[if_pos h1,if_pos h8];refine bh fun Kont hK=>?_
  walk_at "rd";refine hK _ _ fun D hD=>?_
  refine cu (J:=Its z) (n:=z.cps.size) (D:=D) (fun i ys σ H'=>(∃o,σ=[o])/\ag H H'/\H' D=some (.lst ys)/\ys=(z.cps.toList.take i).map (fun c=>V.bl (fZ c))) ⟨⟨none,rfl⟩,ag.upd hD,aa,rfl⟩
   (fun i _ _ _ hi _=>hi) (fun _ _ _ _=>W1 _) ?_ ?_
  ·rintro i ys σ H' hi ⟨⟨o,rfl⟩,sm,hl,hy⟩ x H2 ⟨e2,c,hc,rfl⟩;subst e2;walk_at "rd";have hlen:ys.length=i:=by
    rw[hy,Y6,length_take];have:z.cps.toList.length=z.cps.size:=by simp
    lia
   have hi8:i<1000:=by
    have:z.length=z.cps.size:=rfl
    lia
   refine CK.mk hi hl (by rw[hlen];exact bB (by lia)) ⟨⟨_,rfl⟩,ag.set sm hD,aa,?_⟩;rw[uM,hy,<-gM z i c hc,X4]
   all_goals rfl
  ·rintro ys σ H' ⟨_,sm,hl,hy⟩;refine⟨D,rfl,(z.cps.toList.map fZ),?_,?_⟩
   ·have e:z.cps.toList.take z.cps.size=z.cps.toList:=by
     apply W7;simp
    rw[e]at hy;have:(z.cps.toList.map fZ).map V.bl=ys:=by rw[hy,map_map];rfl
    rw[this];exact SqL.of hl
   ·have e:(z.cps.toList.map fZ).all id=true:=by
     rw[all_map];exact hall
    rw[e];exact k H' sm
theorem bq(T:Txt K mg):Cal P w K mg base 1 "is_text_among" ["thing","texts"] (pf K):=by
 refine T.d_is_text_among.cal ji (fun vs H Q E h=>?_) (fun f cdv A outer s H vs Q E hr h=>?_)
 ·obtain⟨z,p,ts,rfl,_⟩:=h;rfl
 ·obtain⟨z,p,ts,rfl,hp,k⟩:=h;refine⟨_,(QSs.h (ap (bF (lw (cbE (fW (K:=K) rfl) rfl T.b_isinstance boot_isinstance rfl rfl rfl (paE rfl (vn 0 rfl Y0 rfl rfl) (paE rfl (blE (v:= .ty "str") rfl T.b_str boot_str rfl rfl rfl) ai))) (mW (jO (sC (K:=K) rfl) rfl (vn 0 rfl Y0 rfl rfl) (vn 1 rfl Y0 rfl rfl))))))),?_⟩;show kf _ _ [some (.str z),some (.ref p)] H;walk_at "rd";refine⟨.type "str",.str z,true,by rfl,?_⟩;walk_at "rd";rw[<-xn]at k;exact⟨_,hp,rfl,tF ts,k⟩
theorem jr(T:Txt K mg):Cal P w K mg base 1 "is_year" ["thing"] lh:=by
 refine T.d_is_year.cal qO (fun vs H Q E h=>?_) (fun f cdv A outer s H vs Q E hr h=>?_)
 ·obtain⟨i,rfl,_⟩:=h;rfl
 ·obtain⟨i,rfl,h1,h2,k⟩:=h;refine⟨_,(QSs.h (ah (ifS (wT (orW (gQ (eN (K:=K) rfl (fun _=>rfl) (cbE (fW (K:=K) rfl) rfl T.b_isinstance boot_isinstance rfl rfl rfl (paE rfl (vn 0 rfl Y0 rfl rfl) (paE rfl (blE (v:= .ty "int") rfl T.b_int boot_int rfl rfl rfl) ai))))) (lz (eN (K:=K) rfl (fun _=>rfl) (cbE (fW (K:=K) rfl) rfl T.b_isinstance boot_isinstance rfl rfl rfl (paE rfl (vn 0 rfl Y0 rfl rfl) (paE rfl (blE (v:= .ty "bool") rfl T.b_bool PyProof.Rows.boot_bool rfl rfl rfl) ai)))))))
   (ap (bF eBl))
   bM)
   (ap (bF (qf sw sw rfl (gvE T.g_FIRST_YEAR rfl rfl) (vn 0 rfl Y0 rfl rfl) (gvE T.g_LAST_YEAR rfl rfl)))))),?_⟩
  show cf _ _ _ [some (.int i)] H;walk_at "rd";refine⟨.type "int",.int i,true,by rfl,?_⟩;walk_at "rd";refine⟨.type "int",.int i,false,by rfl,?_⟩;walk_at "rd";rw[if_pos (X7 h1),X7 h2];exact k
theorem bW(T:Txt K mg):Cal P w K mg base 1 "layer_name" ["name","letter"] eS:=by
 refine T.d_layer_name.cal lH (fun vs H Q E h=>?_) (fun f cdv A outer s H vs Q E hr h=>?_)
 ·obtain⟨n,z,rfl,_⟩:=h;rfl
 ·obtain⟨n,z,rfl,hn,hz,k⟩:=h;refine⟨_,(QSs.h (ap (bF (xL (pjE (zk (vn 0 rfl Y0 rfl rfl)) (pjE bS (pjE (zk (vn 1 rfl Y0 rfl rfl)) xK))))))),?_⟩;show kf _ _ [some (.str n),some (.str z)] H;walk_at "rd";have e:∀a b:Str,(a++b).length=a.length+b.length:=fun a b=>size_append
  have e0:Str.empty.length=0:=rfl;have e1:(Str.ofString ".").length=1:=rfl;have le:∀k:Nat,k<=1000->k<=sizeLine:=fun k hk=>aZ (by lia)
  refine⟨le _ (by lia),le _ ?_,le _ ?_,le _ (by lia),le _ ?_,le _ ?_,k⟩<;> simp only[e,e0,e1]<;> lia
theorem gu(T:Txt K mg):Cal P w K mg base 2 "is_saying" ["thing","layers"] (iS K):=by
 have bq:Cal P w K mg base 1 "is_text_among" ["thing","texts"] (pf K):=bq T;have jr:Cal P w K mg base 1 "is_year" ["thing"] lh:=jr T;refine T.d_is_saying.cal nC (fun vs H Q E h=>?_) (fun f cdv A outer s H vs Q E hr h=>?_)
 ·obtain⟨t,p,xs,ls,rfl,_⟩:=h;rfl
 ·obtain⟨t,p,xs,ls,rfl,ht,hp,ok,k⟩:=h;refine⟨_,(QSs.h (ah (ifS (wT (orW (gQ (eN (K:=K) rfl (fun _=>rfl) (cbE (fW (K:=K) rfl) rfl T.b_isinstance boot_isinstance rfl rfl rfl (paE rfl (vn 0 rfl Y0 rfl rfl) (paE rfl (blE (v:= .ty "tuple") rfl T.b_tuple boot_tuple rfl rfl rfl) ai))))) (lz (cH fK rfl (cbE (df (K:=K) rfl) rfl T.b_len PySem.boot_len rfl rfl rfl (paE rfl (vn 0 rfl Y0 rfl rfl) ai)) am))))
   (ap (bF eBl))
   bM)
   (ah (ifS (eN (K:=K) rfl (fun _=>rfl) (bC bq hr rfl rfl rfl rfl (paE rfl (eQ (K:=K) rfl (fun _ _=>rfl) (vn 0 rfl Y0 rfl rfl) am) (paE rfl (Af (K:=K) rfl T.t_LAYER_WORDS rfl rfl) ai))))
   (ap (bF (lw (bC bq hr rfl rfl rfl rfl (paE rfl (eQ (K:=K) rfl (fun _ _=>rfl) (vn 0 rfl Y0 rfl rfl) am) (paE rfl (vn 1 rfl Y0 rfl rfl) ai))) (lw (bC bq hr rfl rfl rfl rfl (paE rfl (eQ (K:=K) rfl (fun _ _=>rfl) (vn 0 rfl Y0 rfl rfl) am) (paE rfl (vn 1 rfl Y0 rfl rfl) ai))) (mW (jO fK rfl (eQ (K:=K) rfl (fun _ _=>rfl) (vn 0 rfl Y0 rfl rfl) am) (eQ (K:=K) rfl (fun _ _=>rfl) (vn 0 rfl Y0 rfl rfl) am)))))))
   bM)
   (ah (ifS (eN (K:=K) rfl (fun _=>rfl) (bC bq hr rfl rfl rfl rfl (paE rfl (eQ (K:=K) rfl (fun _ _=>rfl) (vn 0 rfl Y0 rfl rfl) am) (paE rfl (Af (K:=K) rfl T.t_YEAR_WORDS rfl rfl) ai))))
   (ap (bF (lw (bC bq hr rfl rfl rfl rfl (paE rfl (eQ (K:=K) rfl (fun _ _=>rfl) (vn 0 rfl Y0 rfl rfl) am) (paE rfl (vn 1 rfl Y0 rfl rfl) ai))) (mW (bC jr hr rfl rfl rfl rfl (paE rfl (eQ (K:=K) rfl (fun _ _=>rfl) (vn 0 rfl Y0 rfl rfl) am) ai))))))
   bM)
   (ap (bF eBl)))))),?_⟩
  show cf _ _ _ [some (.ref t),some (.ref p)] H;walk_at "rd";refine⟨.type "tuple",.tup ht,true,by rfl,?_⟩;have st:=SqT.of (K:=K) ht;rcases ok with⟨wd,a,b,rfl,hw,ha,hb,hab⟩|⟨wd,a,y,rfl,hw,ha,y1,y2⟩
  ·have e1:decide (wd∈([Str.ofString "later",Str.ofString "same"]:List Str))=true:=by rcases hw with rfl|rfl<;> decide
   walk_at "rd";refine⟨3,.inr ⟨_,st,rfl⟩,?_⟩;rw[if_neg (by decide)];refine⟨_,st,_,rfl,fun q hq=>⟨wd,q,[Str.ofString "later",Str.ofString "same"],rfl,.inr (hq H),_,rfl,?_⟩⟩;rw[e1];walk_at "rd";refine⟨_,st,_,rfl,a,p,ls,rfl,.inl hp,_,rfl,?_⟩;rw[X7 ha];walk_at "rd";refine⟨_,st,_,rfl,b,p,ls,rfl,.inl hp,_,rfl,?_⟩;rw[X7 hb];walk_at "rd";refine⟨_,st,_,rfl,_,st,_,rfl,rfl,?_⟩;rw[show(!decide (V.str a=V.str b))=true from by simp[hab]];exact k
  ·have e1:decide (wd∈([Str.ofString "later",Str.ofString "same"]:List Str))=false:=by rcases hw with rfl|rfl<;> decide
   have e2:decide (wd∈([Str.ofString "since",Str.ofString "by"]:List Str))=true:=by rcases hw with rfl|rfl<;> decide
   walk_at "rd";refine⟨3,.inr ⟨_,st,rfl⟩,?_⟩;rw[if_neg (by decide)];refine⟨_,st,_,rfl,fun q hq=>⟨wd,q,[Str.ofString "later",Str.ofString "same"],rfl,.inr (hq H),_,rfl,?_⟩⟩;rw[e1];walk_at "rd";refine⟨_,st,_,rfl,fun q hq=>⟨wd,q,[Str.ofString "since",Str.ofString "by"],rfl,.inr (hq H),_,rfl,?_⟩⟩;rw[e2];walk_at "rd";refine⟨_,st,_,rfl,a,p,ls,rfl,.inl hp,_,rfl,?_⟩;rw[X7 ha];walk_at "rd";exact⟨_,st,_,rfl,y,rfl,y1,y2,k⟩
end
noncomputable def br(H:Hp)(cs:List (Addr×Str×List Str)):Prop:=∀p∈cs,H p.1=some (.tup [.str p.2.1,.str (Str.join nl p.2.2)])/\eD p.2.1=true/\bQ p.2.2
theorem br.up{H H':Hp}{cs:List (Addr×Str×List Str)}(h:br H cs)(s:ag H H'):br H' cs:=fun p hp=>⟨s _ _ (h p hp).1,(h p hp).2⟩
noncomputable def mD:Sp:=fun vs H Q _=>∃rows:List Str,vs=[.str (Str.join nl rows)]/\bQ rows/\∀H',ag H H'->Q (.bl true) H'
noncomputable def pj:Sp:=fun vs H Q _=>∃p:Addr×Str×List Str,vs=[.ref p.1]/\br H [p]/\∀H',ag H H'->Q (.bl true) H'
noncomputable def aO(cs:List (Addr×Str×List Str)):List V:=cs.map fun p=>V.ref p.1
noncomputable def gX:Sp:=fun vs H Q _=>∃(l:Addr) (cs:List (Addr×Str×List Str)),vs=[.ref l]/\H l=some (.lst (aO cs))/\br H cs/\(cs.map fun p=>p.2.1).Nodup/\1<=cs.length/\cs.length<=8/\∀H',ag H H'->Q .non H'
noncomputable def cm(H:Hp)(ls:List Str)(qs:List (Addr×List V)):Prop:=∀q∈qs,H q.1=some (.tup q.2)/\jJ ls q.2
theorem cm.up{H H':Hp}{ls:List Str}{qs:List (Addr×List V)}(h:cm H ls qs)(s:ag H H'):cm H' ls qs:=fun p hp=>⟨s _ _ (h p hp).1,(h p hp).2⟩
noncomputable def fh(K:PySem.W.Frag):Sp:=fun vs H Q _=>∃(l r:Addr) (ls:List Str) (qs:List (Addr×List V)),vs=[.ref l,.ref r]/\H l=some (.lst (qs.map fun q=>V.ref q.1))/\H r=some (.lst (ls.map V.str))/\cm H ls qs/\qs.length<=60/\∀H',ag H H'->Q .non H'
section
variable{P:Program}{w:World}{K:PySem.W.Frag}{mg:Str->Option Value}{base:Heap}
theorem li(T:Txt K mg):Cal P w K mg base 3 "is_cut" ["thing"] mD:=by
 have cD:Cal P w K mg base 2 "rows_of" ["text"] fB:=cD T;refine T.d_is_cut.cal tq (fun vs H Q E h=>?_) (fun f cdv A outer s H vs Q E hr h=>?_)
 ·obtain⟨rows,rfl,_⟩:=h;rfl
 ·obtain⟨rows,rfl,hcut,k⟩:=h;refine⟨_,(QSs.h (ah (tryN (fun _ _ h=>h) (ap (dq rfl (bC cD hr rfl rfl rfl rfl (paE rfl (vn 0 rfl Y0 rfl rfl) ai)))))
   (ap (bF eBl)))),?_⟩
  show cf _ _ _ [some (.str (Str.join nl rows))] H;walk_at "rd";exact⟨rows,rfl,hcut,fun l H1 s1 f1 h1=>k H1 s1⟩
theorem eE(T:Txt K mg):Cal P w K mg base 4 "is_named_cut" ["thing"] pj:=by
 have li:Cal P w K mg base 3 "is_cut" ["thing"] mD:=li T;have jq:Cal P w K mg base 1 "is_name" ["thing"] lg:=jq T;refine T.d_is_named_cut.cal jT (fun vs H Q E h=>?_) (fun f cdv A outer s H vs Q E hr h=>?_)
 ·obtain⟨p,rfl,_⟩:=h;rfl
 ·obtain⟨p,rfl,hp,k⟩:=h;obtain⟨ht,hn,hcut⟩:=hp p (mem_singleton.mpr rfl);refine⟨_,(QSs.h (ap (bF (lw (cbE (fW (K:=K) rfl) rfl T.b_isinstance boot_isinstance rfl rfl rfl (paE rfl (vn 0 rfl Y0 rfl rfl) (paE rfl (blE (v:= .ty "tuple") rfl T.b_tuple boot_tuple rfl rfl rfl) ai))) (lw (jO eJ rfl (cbE (df (K:=K) rfl) rfl T.b_len PySem.boot_len rfl rfl rfl (paE rfl (vn 0 rfl Y0 rfl rfl) ai)) am) (lw (bC jq hr rfl rfl rfl rfl (paE rfl (eQ (K:=K) rfl (fun _ _=>rfl) (vn 0 rfl Y0 rfl rfl) am) ai)) (mW (bC li hr rfl rfl rfl rfl (paE rfl (eQ (K:=K) rfl (fun _ _=>rfl) (vn 0 rfl Y0 rfl rfl) am) ai))))))))),?_⟩;show kf _ _ [some (.ref p.1)] H;walk_at "rd";refine⟨.type "tuple",.tup ht,true,by rfl,?_⟩;have st:=SqT.of (K:=K) ht;walk_at "rd";refine⟨2,.inr ⟨_,st,rfl⟩,?_⟩;rw[if_pos (by decide)];refine⟨_,st,_,rfl,p.2.1,rfl,hn,fun H1 s1=>?_⟩;walk_at "rd";exact⟨_,SqT.of (s1 _ _ ht),_,rfl,p.2.2,rfl,hcut,fun H2 s2=>k H2 (s1.trans s2)⟩
theorem fD(T:Txt K mg):Cal P w K mg base 5 "check_cuts" ["cuts"] gX:=by
 have eE:Cal P w K mg base 4 "is_named_cut" ["thing"] pj:=eE T;refine T.d_check_cuts.cal dm (fun vs H Q E h=>?_) (fun f cdv A outer s H vs Q E hr h=>?_)
 ·obtain⟨l,cs,rfl,_⟩:=h;rfl
 ·obtain⟨l,cs,rfl,hl,hca,hnd,h1,h8,k⟩:=h;have hrl:(aO cs).length=cs.length:=Y6 _;refine⟨_,(QSs.h (ah (ifS (wT (orW (gQ (eN (K:=K) rfl (fun _=>rfl) (cbE (fW (K:=K) rfl) rfl T.b_isinstance boot_isinstance rfl rfl rfl (paE rfl (vn 0 rfl Y0 rfl rfl) (paE rfl (blE (v:= .ty "list") rfl T.b_list boot_list rfl rfl rfl) ai))))) (lz (cH eJ rfl (cbE (df (K:=K) rfl) rfl T.b_len PySem.boot_len rfl rfl rfl (paE rfl (vn 0 rfl Y0 rfl rfl) ai)) am))))
   (ap fV)
   bM)
   (ah (bg 1 dm.nd rfl Y0 Y1 rfl z6)
   (ap (eG PassesOwn.never rfl rfl (rj (K:=K) rfl rfl T.b_enumerate rfl (paE rfl (vn 0 rfl Y0 rfl rfl) ai)) (fq (K:=K) rfl rfl rfl (gsE rfl (az 2 dm.nd rfl Y0 Y1) (gsE rfl (az 3 dm.nd rfl Y0 Y1) cU)))
   (ah (ifS (wT (orW (cH eJ rfl (vn 2 rfl Y0 rfl rfl) (gvE T.g_MOST_CUTS rfl rfl)) (orW (gQ (eN (K:=K) rfl (fun _=>rfl) (bC eE hr rfl rfl rfl rfl (paE rfl (vn 3 rfl Y0 rfl rfl) ai)))) (lz (dinT hr rfl (eQ (K:=K) rfl (fun _ _=>rfl) (vn 3 rfl Y0 rfl rfl) am) (vn 1 rfl Y0 rfl rfl))))))
    (ap fV)
    bM)
    (ap (vw hr rfl eBl (vn 1 rfl Y0 rfl rfl) (eQ (K:=K) rfl (fun _ _=>rfl) (vn 3 rfl Y0 rfl rfl) am))))))))),?_⟩
  show cf _ _ _ [some (.ref l),none,none,none] H;refine al fun D1 k1 _=>?_
  walk_at "rd";refine⟨.type "list",.lst hl,true,by rfl,?_⟩;walk_at "rd";refine⟨cs.length,.inl ⟨_,SqL.of hl,hrl.symm⟩,?_⟩;rw[if_neg (by simp only[decide_eq_true_eq];lia)];refine k1 _ _ (al fun D2 k2 _=>?_);walk_at "rd";refine fun d hd=>k2 _ _ (aT fun D3 k3 _=>aD fun Kont hK=>?_)
  walk_at "rd";have hl':upd H d (.dK []) l=some (.lst (aO cs)):=ag.upd hd _ _ hl;refine⟨_,SqL.of hl',hK _ _ (iE (fun i σ H'=>∃o2 o3 kvs,σ=[some (.ref l),some (.ref d),o2,o3]/\ag H H'/\H' d=some (.dK kvs)/\kvs.map (·.1)=(cs.take i).map fun p=>Sum.inr p.2.1) ⟨none,none,[],rfl,ag.upd hd,aa,rfl⟩ (fun i σ H' _ ⟨_,_,_,_,q,_⟩=>SqL.of (q _ _ hl)) ?_ ?_)⟩
  ·rintro i x TT σ H' hx ⟨o2,o3,kvs,rfl,sm,hdv,hks⟩ hT;have hi:i<cs.length:=by rw[<-hrl];exact(List.getElem?_eq_some_iff.mp hx).1
   obtain⟨q,hq,rfl⟩:∃q,cs[i]? =some q/\x=V.ref q.1:=by
    unfold aO at hx;rw[W5,Y4 hi]at hx;exact⟨cs[i],Y4 hi,(X1 hx).symm⟩
   have smT:ag H (upd H' TT (.tup [.int i,.ref q.1])):=sm.trans (ag.upd hT);have hgT:upd H' TT (.tup [.int i,.ref q.1]) TT=some (.tup [.int i,.ref q.1]):=aa;have hdT:=ag.upd (o:= .tup [.int i,.ref q.1]) hT _ _ hdv
   generalize upd H' TT (.tup [.int i,.ref q.1])=HT at smT hdT hgT
   have hqm:=Y8 hq;have hqa:=hca q hqm;refine⟨_,SqT.of hgT,rfl,_,_,rfl,_,_,rfl,rfl,?_⟩;show cf _ _ _ [some (.ref l),some (.ref d),some (.int i),some (.ref q.1)] HT;refine al fun D4 k4 _=>?_
   walk_at "rd";rw[if_neg (by simp only[decide_eq_true_eq];lia)];refine⟨q,rfl,fun p hp=>by rw[mem_singleton.mp hp];exact⟨smT _ _ hqa.1,hqa.2⟩,fun H2 s2=>⟨true,rfl,?_⟩⟩;rw[if_neg (by decide)];have hnew:(Sum.inr q.2.1:Key)∉kvs.map (·.1):=by
    rw[hks];intro hm;obtain⟨q',hq',e⟩:=mem_map.mp hm;have e:q'.2.1=q.2.1:=Sum.inr.inj e;obtain⟨j,hj⟩:=List.getElem?_of_mem hq';have hji:j<i:=by
     have:=(List.getElem?_eq_some_iff.mp hj).1;rw[length_take]at this
     lia
    rw[List.getElem?_take_of_lt hji]at hj;have n1:(cs.map fun p=>p.2.1)[j]? =some q.2.1:=by rw[W5,hj,<-e];rfl
    have n2:(cs.map fun p=>p.2.1)[i]? =some q.2.1:=by rw[W5,hq];rfl
    have:=j9 hnd n1 n2
    lia
   refine⟨_,SqT.of (s2 _ _ (smT _ _ hqa.1)),_,rfl,_,uD.k (k:=Sum.inr q.2.1) (s2 _ _ hdT),?_⟩;have hv:ir kvs (Sum.inr q.2.1:Key)=none:=by
    cases e:ir kvs (Sum.inr q.2.1:Key)with
    | none=>rfl
    | some v=>exact absurd (wD e) hnew
   rw[hv,if_neg (by decide)];refine k4 _ _ (aT fun D5 k5 _=>?_);walk_at "rd";have hkl:kvs.length=i:=by
    have:=congrArg List.length hks;rw[Y6,Y6,length_take]at this
    lia
   refine⟨_,SqT.of (s2 _ _ (smT _ _ hqa.1)),_,rfl,_,mV.k (k:=Sum.inr q.2.1) (s2 _ _ hdT) (by rw[hkl];exact bB (by lia)),k5 _ _ ⟨_,_,_,rfl,ag.set (smT.trans s2) hd,aa,?_⟩⟩;rw[jf,if_neg hnew,hks,take_add_one,X4,hq];rfl
  ·rintro σ H' ⟨o2,o3,kvs,rfl,sm,hdv,hks⟩;exact k3 _ _ (k H' sm)
theorem dL(T:Txt K mg):Cal P w K mg base 3 "check_sayings" ["sayings","layers"] (fh K):=by
 have gu:Cal P w K mg base 2 "is_saying" ["thing","layers"] (iS K):=gu T;refine T.d_check_sayings.cal di (fun vs H Q E h=>?_) (fun f cdv A outer s H vs Q E hr h=>?_)
 ·obtain⟨l,r,ls,qs,rfl,_⟩:=h;rfl
 ·obtain⟨l,r,ls,qs,rfl,hl,hrr,hsa,h60,k⟩:=h;refine⟨_,(QSs.h (ah (ifS (gQ (eN (K:=K) rfl (fun _=>rfl) (cbE (fW (K:=K) rfl) rfl T.b_isinstance boot_isinstance rfl rfl rfl (paE rfl (vn 0 rfl Y0 rfl rfl) (paE rfl (blE (v:= .ty "list") rfl T.b_list boot_list rfl rfl rfl) ai)))))
   (ap fV)
   bM)
   (ap (eG PassesOwn.never rfl rfl (rj (K:=K) rfl rfl T.b_enumerate rfl (paE rfl (vn 0 rfl Y0 rfl rfl) ai)) (fq (K:=K) rfl rfl rfl (gsE rfl (az 2 di.nd rfl Y0 Y1) (gsE rfl (az 3 di.nd rfl Y0 Y1) cU)))
   (ap (ifS (wT (orW (cH eJ rfl (vn 2 rfl Y0 rfl rfl) (gvE T.g_MOST_SAYINGS rfl rfl)) (lz (gQ (eN (K:=K) rfl (fun _=>rfl) (bC gu hr rfl rfl rfl rfl (paE rfl (vn 3 rfl Y0 rfl rfl) (paE rfl (vn 1 rfl Y0 rfl rfl) ai))))))))
    (ap fV)
    bM)))))),?_⟩
  show cf _ _ _ [some (.ref l),some (.ref r),none,none] H;refine al fun D1 k1 _=>?_
  walk_at "rd";refine⟨.type "list",.lst hl,true,by rfl,?_⟩;walk_at "rd";refine k1 _ _ (aT fun D3 k3 _=>aD fun Kont hK=>?_);walk_at "rd";have hql:(qs.map fun q=>V.ref q.1).length=qs.length:=Y6 _;refine⟨_,SqL.of hl,hK _ _ (iE (fun i σ H'=>∃o2 o3,σ=[some (.ref l),some (.ref r),o2,o3]/\ag H H') ⟨none,none,rfl,ag.refl H⟩ (fun i σ H' _ ⟨_,_,_,q⟩=>SqL.of (q _ _ hl)) ?_ ?_)⟩
  ·rintro i x TT σ H' hx ⟨o2,o3,rfl,sm⟩ hT;have hi:i<qs.length:=by rw[<-hql];exact(List.getElem?_eq_some_iff.mp hx).1
   obtain⟨q,hq,rfl⟩:∃q,qs[i]? =some q/\x=V.ref q.1:=by
    rw[W5,Y4 hi]at hx;exact⟨qs[i],Y4 hi,(X1 hx).symm⟩
   have smT:ag H (upd H' TT (.tup [.int i,.ref q.1])):=sm.trans (ag.upd hT);have hgT:upd H' TT (.tup [.int i,.ref q.1]) TT=some (.tup [.int i,.ref q.1]):=aa
   generalize upd H' TT (.tup [.int i,.ref q.1])=HT at smT hgT
   have hqm:=Y8 hq;have hqa:=hsa q hqm;refine⟨_,SqT.of hgT,rfl,_,_,rfl,_,_,rfl,rfl,?_⟩;show i4 _ _ _ _ [some (.ref l),some (.ref r),some (.int i),some (.ref q.1)] HT;refine aT fun D4 k4 _=>?_
   walk_at "rd";rw[if_neg (by simp only[decide_eq_true_eq];lia)];refine⟨q.1,r,q.2,ls,rfl,smT _ _ hqa.1,SqL.of (smT _ _ hrr),hqa.2,true,rfl,?_⟩;rw[if_neg (by decide)];exact k4 _ _ ⟨_,_,rfl,smT⟩
  ·rintro σ H' ⟨o2,o3,rfl,sm⟩;exact k3 _ _ (k H' sm)
end
noncomputable def lyr(p:Addr×Str×List Str):List Str:=(aI ((cv p.2.2).map sgn)).map (lnS p.2.1)
noncomputable def iT:Sp:=fun vs H Q _=>∃(l:Addr) (cs:List (Addr×Str×List Str)),vs=[.ref l]/\H l=some (.lst (aO cs))/\br H cs/\cs.length<=8/\∀r H' (ls:List Str),ag H H'->H r=none->H' r=some (.lst (ls.map V.str))->ls.Perm (cs.flatMap lyr)->ls.Pairwise (fun a b=>iL b a=false)->Q (.ref r) H'
noncomputable def dF(n:Str)(k:List Str):List Str:=k.map (lnS n) ++[n]
noncomputable def iU(i:Nat):Str:=Str.empty++Str.ofString "#"++Str.ofString (toString (i:Int))
noncomputable def aA(cs:List (Addr×Str×List Str)):List (List Str):=cs.flatMap fun p=>(aC p.2.2 (p.2.2.length-1)).map (dF p.2.1)
noncomputable def fE(i:Nat):List V->Option (List Str)
 |[.str w,.str a,.str b]=>if w=Str.ofString "later" then some [a,b,iU i]else none
 | _=>none
noncomputable def bO(qs:List (Addr×List V))(n:Nat):List (List Str):=(List.range n).filterMap fun j=>qs[j]?.bind fun q=>fE j q.2
theorem xo{n x y:Str}(h:lnS n x=lnS n y):x=y:=by
 have e:=congrArg (fun z:Str=>z.cps.toList) h;refine eK (List.append_cancel_left (as:=(Str.empty++n++Str.ofString ".").cps.toList) ?_);rw[<-toList_append,<-toList_append];exact e
theorem mE{n n':Str}{k k':List Str}(h:dF n k=dF n' k'):n=n'/\k=k':=by
 obtain⟨h1,h2⟩:=List.append_inj' h rfl;have e:n=n':=by simpa using h2
 subst e;exact⟨rfl,(List.map_inj_right fun _ _=>xo).mp h1⟩
theorem vI{cs:List (Addr×Str×List Str)}{i:Nat}{q p:Addr×Str×List Str}(hnd:(cs.map fun p=>p.2.1).Nodup)(hq:cs[i]? =some q)(hp:p∈cs.take i):p.2.1≠q.2.1:=by
 rw[<-take_append_drop i cs,X4,nodup_append]at hnd;exact hnd.2.2 _ (mem_map.mpr ⟨p,hp,rfl⟩) _ (mem_map.mpr ⟨q,Y8 (i:=0) (by rw[getElem?_drop];exact hq),rfl⟩)
theorem iV{cs:List (Addr×Str×List Str)}{i:Nat}{q:Addr×Str×List Str}(hq:cs[i]? =some q):aA (cs.take (i+1))=aA (cs.take i) ++(aC q.2.2 (q.2.2.length-1)).map (dF q.2.1):=by
 unfold aA;rw[take_add_one,hq,flatMap_append];show _++([q].flatMap fun p=>(aC p.2.2 (p.2.2.length-1)).map (dF p.2.1))=_;rw[List.flatMap_singleton]
theorem dR{qs:List (Addr×List V)}{i:Nat}{q:Addr×List V}(hq:qs[i]? =some q):bO qs (i+1)=bO qs i++(fE i q.2).toList:=by
 unfold bO;rw[range_succ,filterMap_append];refine congrArg _ ?_;rw[filterMap_cons,hq];rw[Option.bind_some];cases fE i q.2<;> rfl
noncomputable def iW:Sp:=fun vs H Q _=>∃(l:Addr) (cs:List (Addr×Str×List Str)),vs=[.ref l]/\H l=some (.lst (aO cs))/\br H cs/\(cs.map fun p=>p.2.1).Nodup/\cs.length<=8/\∀r H' (ts:List (Addr×List Str)),ag H H'->H r=none->H' r=some (.lst (ts.map fun t=>V.ref t.1))->aF H' ts->(∀t∈ts,t.2.length=3)->ts.length<=8*1000->(ts.map (·.2)).Nodup->(∀k,k∈ts.map (·.2)↔k∈aA cs)->Q (.ref r) H'
noncomputable def iX:Sp:=fun vs H Q _=>∃(l:Addr) (ls:List Str) (qs:List (Addr×List V)),vs=[.ref l]/\H l=some (.lst (qs.map fun q=>V.ref q.1))/\cm H ls qs/\qs.length<=60/\∀r H' (ts:List (Addr×List Str)),ag H H'->H r=none->H' r=some (.lst (ts.map fun t=>V.ref t.1))->aF H' ts->(∀t∈ts,t.2.length=3)->ts.length<=60->ts.map (·.2)=bO qs qs.length->Q (.ref r) H'
section
variable{P:Program}{w:World}{K:PySem.W.Frag}{mg:Str->Option Value}{base:Heap}
theorem iY{z:Str}(h:eD z=true):z.length<=8:=by
 unfold eD at h;rw[and_eq_true,and_eq_true]at h;have:=W8 h.1.2
 lia
theorem fF{cs:List Nat}{z:Str}(h:z∈aI (cs.map sgn)):∃c∈cs,z=sgn c:=by
 have:z∈cs.map sgn:=dP.mp h;obtain⟨c,hc,rfl⟩:=mem_map.mp this;exact⟨c,hc,rfl⟩
theorem gw(T:Txt K mg):Cal P w K mg base 4 "layers_of" ["cuts"] iT:=by
 have bW:Cal P w K mg base 1 "layer_name" ["name","letter"] eS:=bW T;have jp:Cal P w K mg base 3 "letters" ["text"] rD:=jp T;refine T.d_layers_of.cal dQ (fun vs H Q E h=>?_) (fun f cdv A outer s H vs Q E hr h=>?_)
 ·obtain⟨l,cs,rfl,_⟩:=h;rfl
 ·obtain⟨l,cs,rfl,hl,hca,h8,k⟩:=h;have hrl:(aO cs).length=cs.length:=Y6 _;refine⟨_,(QSs.h (ah (bg 1 dQ.nd rfl Y0 Y1 rfl (dc ai))
   (ah (eG PassesOwn.never rfl rfl (ie (K:=K) rfl (vn 0 rfl Y0 rfl rfl)) (fq (K:=K) rfl rfl rfl (gsE rfl (az 2 dQ.nd rfl Y1 Y0) (gsE rfl (az 3 dQ.nd rfl Y0 Y1) cU)))
   (ap (dq rfl (bmE (K:=K) rfl plainAttrs_list PySem.F.slot_list_extend PySem.F.type_list_extend nZ rfl rfl rfl rfl (vn 1 rfl Y0 rfl rfl) (paE rfl (fT (aG.of (show cP (af cT) ["cuts","layers","name","text"] _ ["letter","name"] [(1,2)]=true from by decide +kernel)) rfl rfl (ie (K:=K) rfl (bC jp hr rfl rfl rfl rfl (paE rfl (vn 3 rfl Y0 rfl rfl) ai))) (fun _ _ _=>(az 0 (show(["letter","name"]:List Str).Nodup from by decide +kernel) rfl Y0 Y1)) (fun _ _ _=>lA) (fun _ _ _=>(bC bW hr rfl rfl rfl rfl (paE rfl (vn 1 rfl (Or.inr Y0) rfl rfl) (paE rfl (vn 0 rfl Y0 rfl rfl) ai))))) ai)))))
   (ap (bF (cbE (sZ (K:=K) rfl) rfl T.b_sorted boot_sorted rfl rfl rfl (paE rfl (vn 1 rfl Y0 rfl rfl) ai))))))),?_⟩
  show cf _ _ _ [some (.ref l),none,none,none] H;refine al fun D1 k1 _=>?_
  walk_at "rd";refine⟨zero_le _,fun L hL=>k1 _ _ (al fun D2 k2 _=>aD fun Kont hK=>?_)⟩;walk_at "rd";refine .inl ⟨⟨_,SqL.of (ag.upd hL _ _ hl)⟩,hK _ _ (eU (fun i σ H'=>∃o2 o3,σ=[some (.ref l),some (.ref L),o2,o3]/\ag H H'/\∃ms:List Str,H' L=some (.lst (ms.map V.str))/\ms.Perm ((cs.take i).flatMap lyr)/\ms.length<=26*i)
   ⟨none,none,rfl,ag.upd hL,[],aa,List.Perm.refl _,zero_le _⟩ (fun i σ H' _ ⟨_,_,_,q,_⟩=>SqL.of (q _ _ hl)) ?_ ?_)⟩
  ·rintro i x σ H' hx ⟨o2,o3,rfl,sm,ms,hm,hp,hml⟩;have hi:i<cs.length:=by rw[<-hrl];exact(List.getElem?_eq_some_iff.mp hx).1
   obtain⟨q,hq,rfl⟩:∃q,cs[i]? =some q/\x=V.ref q.1:=by
    unfold aO at hx;rw[W5,Y4 hi]at hx;exact⟨cs[i],Y4 hi,(X1 hx).symm⟩
   have hqa:=hca q (Y8 hq);refine⟨_,SqT.of (sm _ _ hqa.1),rfl,_,_,rfl,_,_,rfl,rfl,?_⟩;refine aT fun D3 k3 _=>?_
   show ke _ _ [some (.ref l),some (.ref L),some (.str q.2.1),some (.str (Str.join nl q.2.2))] H';walk_at "rd";refine⟨.inl ⟨_,SqL.of hm⟩,bh fun Kont hK=>?_⟩;walk_at "rd";refine⟨q.2.2,rfl,hqa.2.2,fun l2 H2 ss s2 f2 h2 p2 q2=>?_⟩;walk_at "rd";refine .inl ⟨⟨_,SqL.of h2⟩,hK _ _ fun F hF=>?_⟩;have few:ss.length<=26:=by rw[p2.length_eq];exact kD fun c hc=>mm hqa.2.2.sign c hc
   have one:∀z∈ss,z.length=1:=fun z hz=>by
    obtain⟨c,_,rfl⟩:=fF (p2.mem_iff.mp hz);rfl
   refine cu (J:=Itl K l2) (n:=ss.length) (D:=F) (fun j ts σ H'=>(∃o,σ=[o,some (.str q.2.1)])/\ag H2 H'/\H' F=some (.lst ts)/\ts=((ss.take j).map (lnS q.2.1)).map V.str)
    ⟨⟨none,rfl⟩,ag.upd hF,aa,rfl⟩
    (fun j _ _ H' hj ⟨_,sm,_⟩=>⟨_,V.str ss[j],SqL.of (sm _ _ h2),by simp[hj]⟩) (fun _ _ H' ⟨_,sm,_⟩=>⟨_,SqL.of (sm _ _ h2),by simp⟩) ?_ ?_
   ·rintro j ts σ H3 hj ⟨⟨o,rfl⟩,s3,hFv,ht⟩ x H4 ⟨e2,hx⟩;subst e2;have hxi:=hx _ (SqL.of (s3 _ _ h2));rw[W5,Y4 hj]at hxi;obtain rfl:x=V.str ss[j]:=(X1 hxi).symm;walk_at "rd";refine⟨_,_,rfl,by have:=iY hqa.2.1;lia,by rw[one _ (getElem_mem hj)];decide,?_⟩;refine CK.mk hj hFv (by rw[ht,Y6,Y6,length_take];exact bB (by lia)) ⟨⟨_,rfl⟩,ag.set s3 hF,aa,?_⟩;rw[ht,take_add_one,X4,X4,Y4 hj];rfl
   rintro ts σ H3 ⟨_,s3,hF3,ht⟩;rw[W7 (W1 _)]at ht;walk_at "rd";have sz:(ms.map V.str).length+ts.length<=sizeLine:=by rw[ht,Y6,Y6,Y6];exact aZ (by lia)
   refine⟨_,s3 _ _ (s2 _ _ hm),_,hF3,sz,k3 _ _ ⟨_,_,rfl,ag.set (sm.trans (s2.trans s3)) hL,ms++ss.map (lnS q.2.1),?_,?_,?_⟩⟩
   ·rw[aa,ht,X4]
   ·rw[take_add_one,hq,flatMap_append];refine hp.append ?_;show List.Perm _ ([q].flatMap lyr);rw[List.flatMap_singleton];exact p2.map _
   ·rw[Y9,Y6]
    lia
  ·rintro σ H' ⟨o2,o3,rfl,sm,ms,hm,hp,hml⟩;refine k2 _ _ ?_;walk_at "rd";rw[hrl,W7 (W1 _)]at hp;exact⟨ms,SqL.of hm,by lia,fun r ss hr' p' q'=>k r _ ss (sm.trans (ag.upd hr')) (sm.free hr') aa (p'.trans hp) q'⟩
theorem eF(T:Txt K mg):Cal P w K mg base 4 "ties_of_cuts" ["cuts"] iW:=by
 have bW:Cal P w K mg base 1 "layer_name" ["name","letter"] eS:=bW T;have io:Cal P w K mg base 3 "meetings" ["text"] rE:=io T;refine T.d_ties_of_cuts.cal bG (fun vs H Q E h=>?_) (fun f cdv A outer s H vs Q E hr h=>?_)
 ·obtain⟨l,cs,rfl,_⟩:=h;rfl
 ·obtain⟨l,cs,rfl,hl,hca,hnd,h8,k⟩:=h;have hrl:(aO cs).length=cs.length:=Y6 _;refine⟨_,(QSs.h (ah (bg 1 bG.nd rfl Y0 Y1 rfl (dc ai))
   (ah (eG PassesOwn.never rfl rfl (ie (K:=K) rfl (vn 0 rfl Y0 rfl rfl)) (fq (K:=K) rfl rfl rfl (gsE rfl (az 2 bG.nd rfl Y0 Y1) (gsE rfl (az 3 bG.nd rfl Y0 Y1) cU)))
   (ap (eG PassesOwn.never rfl rfl (ie (K:=K) rfl (bC io hr rfl rfl rfl rfl (paE rfl (vn 3 rfl Y0 rfl rfl) ai))) (fq (K:=K) rfl rfl rfl (gsE rfl (az 4 bG.nd rfl Y0 Y1) (gsE rfl (az 5 bG.nd rfl Y0 Y1) cU)))
    (ap (dq rfl (bmE (K:=K) rfl plainAttrs_list PySem.F.slot_list_append PySem.F.type_list_append bX rfl rfl rfl rfl (vn 1 rfl Y0 rfl rfl) (paE rfl (de (paE rfl (bC bW hr rfl rfl rfl rfl (paE rfl (vn 2 rfl Y0 rfl rfl) (paE rfl (vn 4 rfl Y0 rfl rfl) ai))) (paE rfl (bC bW hr rfl rfl rfl rfl (paE rfl (vn 2 rfl Y0 rfl rfl) (paE rfl (vn 5 rfl Y0 rfl rfl) ai))) (paE rfl (vn 2 rfl Y0 rfl rfl) ai)))) ai)))))))
   (ap (bF (vn 1 rfl Y0 rfl rfl)))))),?_⟩
  show cf _ _ _ [some (.ref l),none,none,none,none,none] H;refine al fun D1 k1 _=>?_
  walk_at "rd";refine⟨zero_le _,fun L hL=>k1 _ _ (al fun D2 k2 _=>aD fun Kont hK=>?_)⟩;walk_at "rd";refine .inl ⟨⟨_,SqL.of (ag.upd hL _ _ hl)⟩,hK _ _ (eU (fun i σ H'=>∃o2 o3 o4 o5,σ=[some (.ref l),some (.ref L),o2,o3,o4,o5]/\ag H H'/\∃ts:List (Addr×List Str),H' L=some (.lst (ts.map fun t=>V.ref t.1))/\aF H' ts/\(∀t∈ts,t.2.length=3)/\ts.length<=1000*i/\(ts.map (·.2)).Nodup/\∀k,k∈ts.map (·.2)↔k∈aA (cs.take i))
   ⟨none,none,none,none,rfl,ag.upd hL,[],aa,iQ _,fun t ht=>(nomatch ht),zero_le _,nodup_nil,fun k=>Iff.rfl⟩ (fun i σ H' _ ⟨_,_,_,_,_,q,_⟩=>SqL.of (q _ _ hl)) ?_ ?_)⟩
  ·rintro i x σ H' hx ⟨o2,o3,o4,o5,rfl,sm,ts,hm,hta,ht3,htl,tnd,tmem⟩;have hi:i<cs.length:=by rw[<-hrl];exact(List.getElem?_eq_some_iff.mp hx).1
   obtain⟨q,hq,rfl⟩:∃q,cs[i]? =some q/\x=V.ref q.1:=by
    unfold aO at hx;rw[W5,Y4 hi]at hx;exact⟨cs[i],Y4 hi,(X1 hx).symm⟩
   have hqa:=hca q (Y8 hq);refine⟨_,SqT.of (sm _ _ hqa.1),rfl,_,_,rfl,_,_,rfl,rfl,?_⟩;refine aT fun D3 k3 _=>?_
   show pL _ _ _ _ [some (.ref l),some (.ref L),some (.str q.2.1),some (.str (Str.join nl q.2.2)),o4,o5] H';refine aD fun Kont hK=>?_
   walk_at "rd";refine⟨q.2.2,rfl,hqa.2.2,?_⟩;intro l2 H2 ss s2 f2 h2 t2 nd2 _ mem2;have inU:∀t∈ss,t.2∈cN/\∃a b,t.2=[sgn a,sgn b]:=fun t ht=>by
    obtain⟨a,b,e,hm⟩:=(mem2 t.2).mp (mem_map.mpr ⟨t,ht,rfl⟩);exact⟨(nG hqa.2.2 (gN.mpr ⟨a,b,e,hm⟩)).1,a,b,e⟩
   have few:ss.length<=729:=by
    have:=List.Nodup.length_le_of_subset nd2 (l₂:=cN) fun k hk=>by
     obtain⟨t,ht,rfl⟩:=mem_map.mp hk;exact(inU t ht).1
    rw[Y6,nF]at this;exact this
   have nlen:=iY hqa.2.1;have hl2L:l2≠L:=fun e=>by rw[e,hm]at f2;cases f2
   have hsl:(ss.map fun p=>V.ref p.1).length=ss.length:=Y6 _;refine .inl ⟨l2,rfl,⟨_,SqL.of h2⟩,hK _ _ (eU (xs:=ss.map fun p=>V.ref p.1) (fun j σ H3=>∃o4 o5,σ=[some (.ref l),some (.ref L),some (.str q.2.1),some (.str (Str.join nl q.2.2)),o4,o5]/\ag H H3/\H3 l2=some (.lst (ss.map fun p=>V.ref p.1))/\aF H3 ss/\∃ts':List (Addr×List Str),H3 L=some (.lst (ts'.map fun t=>V.ref t.1))/\aF H3 ts'/\(∀t∈ts',t.2.length=3)/\ts'.length<=1000*i+j/\ts'.map (·.2)=ts.map (·.2) ++((ss.take j).map (·.2)).map (dF q.2.1))
    ⟨_,_,rfl,sm.trans s2,h2,t2,ts,s2 _ _ hm,aJ hta fun b z e=>s2 _ _ e,ht3,by lia,(append_nil _).symm⟩ (fun j σ H3 _ ⟨_,_,_,_,q,_⟩=>SqL.of q) ?_ ?_)⟩
   ·rintro j x σ H3 hx ⟨o4,o5,rfl,sm3,hl3,ht3',ts',hm3,hta3,h33,hlen3,heq3⟩;have hj:j<ss.length:=by rw[<-hsl];exact(List.getElem?_eq_some_iff.mp hx).1
    rw[W5,Y4 hj]at hx;obtain rfl:x=V.ref ss[j].1:=(X1 hx).symm;have hmem:=getElem_mem hj;obtain⟨_,a,b,eab⟩:=inU _ hmem;have hta':=(ht3' _ hmem).2;rw[eab]at hta';refine⟨_,SqT.of hta',rfl,_,_,rfl,_,_,rfl,rfl,?_⟩;refine aT fun D4 k4 _=>?_
    show ke _ _ [some (.ref l),some (.ref L),some (.str q.2.1),some (.str (Str.join nl q.2.2)),some (.str (sgn a)),some (.str (sgn b))] H3;walk_at "rd";refine⟨.inl ⟨_,SqL.of hm3⟩,q.2.1,sgn a,rfl,by lia,(show 1<=100 by decide),?_⟩;walk_at "rd";refine⟨q.2.1,sgn b,rfl,by lia,(show 1<=100 by decide),?_⟩;walk_at "rd";refine⟨(show 3<=sizeLine by decide),fun p hp=>?_⟩;have sp:=ag.upd (o:= .tup [V.str (lnS q.2.1 (sgn a)),V.str (lnS q.2.1 (sgn b)),V.str q.2.1]) hp;have gp:upd H3 p (.tup [V.str (lnS q.2.1 (sgn a)),V.str (lnS q.2.1 (sgn b)),V.str q.2.1]) p=_:=aa
    generalize upd H3 p (.tup [V.str (lnS q.2.1 (sgn a)),V.str (lnS q.2.1 (sgn b)),V.str q.2.1])=H4 at sp gp
    have hm4:=sp _ _ hm3;have keepT:∀b z,H4 b=some (.tup z)->upd H4 L (.lst (ts'.map (fun t=>V.ref t.1) ++[V.ref p])) b=some (.tup z):=fun b z e=>by
     have:b≠L:=fun e2=>by rw[e2,hm4]at e;cases e
     rw[ak this];exact e
    refine⟨_,hm4,by rw[Y6];exact Nat.lt_of_le_of_lt (show ts'.length<=10000 by lia) (by decide),k4 _ _ ⟨_,_,rfl,ag.set (sm3.trans sp) hL,by rw[ak hl2L];exact sp _ _ hl3,aJ (aJ ht3' fun b z e=>sp _ _ e) keepT,ts'++[(p,[lnS q.2.1 (sgn a),lnS q.2.1 (sgn b),q.2.1])],?_,?_,?_,?_,?_⟩⟩
    ·rw[aa,X4];rfl
    ·exact aJ (jo (aJ hta3 fun b z e=>sp _ _ e) (by simp) gp) keepT
    ·intro t ht;rcases mem_append.mp ht with z|z
     ·exact h33 t z
     ·rw[mem_singleton.mp z];rfl
    ·rw[Y9,length_singleton];lia
    ·rw[X4,heq3,X6,take_add_one,Y4 hj,X4,X4];show _++(_++[_])=_++(_++[dF q.2.1 ss[j].2]);rw[eab];rfl
   ·rintro σ H3 ⟨o4,o5,rfl,sm3,hl3,ht3',ts',hm3,hta3,h33,hlen3,heq3⟩;rw[hsl,W7 (W1 _)]at heq3;refine k3 _ _ ⟨_,_,_,_,rfl,sm3,ts',hm3,hta3,h33,by rw[hsl]at hlen3;lia,?_,fun k=>?_⟩
    ·rw[heq3,nodup_append];refine⟨tnd,?_,fun x hx y hy e=>?_⟩
     ·rw[nodup_iff_pairwise_ne,pairwise_map];exact(nodup_iff_pairwise_ne.mp nd2).imp fun hne he=>hne (mE he).2
     ·obtain⟨p,hp,hx⟩:=mem_flatMap.mp ((tmem x).mp hx);obtain⟨k1,_,rfl⟩:=mem_map.mp hx;obtain⟨k2,_,rfl⟩:=mem_map.mp hy;exact vI hnd hq hp (mE e).1
    ·rw[heq3,iV hq,mem_append,mem_append,tmem,mem_map,mem_map];refine or_congr Iff.rfl (exists_congr fun z=>and_congr_left fun _=>?_);rw[mem2,gN]
  ·rintro σ H' ⟨o2,o3,o4,o5,rfl,sm,ts,hm,hta,ht3,htl,tnd,tmem⟩;refine k2 _ _ ?_;walk_at "rd";rw[hrl,W7 (W1 _)]at tmem;exact k L H' ts sm hL hm hta ht3 (by lia) tnd tmem
theorem cZ(T:Txt K mg):Cal P w K mg base 1 "ties_of_sayings" ["sayings"] iX:=by
 refine T.d_ties_of_sayings.cal bU (fun vs H Q E h=>?_) (fun f cdv A outer s H vs Q E hr h=>?_)
 ·obtain⟨l,ls,qs,rfl,_⟩:=h;rfl
 ·obtain⟨l,ls,qs,rfl,hl,hsa,h60,k⟩:=h;have hql:(qs.map fun q=>V.ref q.1).length=qs.length:=Y6 _;refine⟨_,(QSs.h (ah (bg 1 bU.nd rfl Y0 Y1 rfl (dc ai))
   (ah (eG PassesOwn.never rfl rfl (rj (K:=K) rfl rfl T.b_enumerate rfl (paE rfl (vn 0 rfl Y0 rfl rfl) ai)) (fq (K:=K) rfl rfl rfl (gsE rfl (az 2 bU.nd rfl Y0 Y1) (gsE rfl (az 3 bU.nd rfl Y0 Y1) cU)))
   (ap (ifS (cH eJ rfl (eQ (K:=K) rfl (fun _ _=>rfl) (vn 3 rfl Y0 rfl rfl) am) bS)
    (ap (dq rfl (bmE (K:=K) rfl plainAttrs_list PySem.F.slot_list_append PySem.F.type_list_append bX rfl rfl rfl rfl (vn 1 rfl Y0 rfl rfl) (paE rfl (de (paE rfl (eQ (K:=K) rfl (fun _ _=>rfl) (vn 3 rfl Y0 rfl rfl) am) (paE rfl (eQ (K:=K) rfl (fun _ _=>rfl) (vn 3 rfl Y0 rfl rfl) am) (paE rfl (xL (pjE bS (pjE (zk (vn 2 rfl Y0 rfl rfl)) xK))) ai)))) ai))))
    bM)))
   (ap (bF (vn 1 rfl Y0 rfl rfl)))))),?_⟩
  show cf _ _ _ [some (.ref l),none,none,none] H;refine al fun D1 k1 _=>?_
  walk_at "rd";refine⟨zero_le _,fun L hL=>k1 _ _ (al fun D2 k2 _=>aD fun Kont hK=>?_)⟩;walk_at "rd";refine⟨_,SqL.of (ag.upd hL _ _ hl),hK _ _ (iE (fun i σ H'=>∃o2 o3,σ=[some (.ref l),some (.ref L),o2,o3]/\ag H H'/\∃ts:List (Addr×List Str),H' L=some (.lst (ts.map fun t=>V.ref t.1))/\aF H' ts/\(∀t∈ts,t.2.length=3)/\ts.length<=i/\ts.map (·.2)=bO qs i)
   ⟨none,none,rfl,ag.upd hL,[],aa,iQ _,fun t ht=>(nomatch ht),zero_le _,rfl⟩ (fun i σ H' _ ⟨_,_,_,q,_⟩=>SqL.of (q _ _ hl)) ?_ ?_)⟩
  ·rintro i x TT σ H' hx ⟨o2,o3,rfl,sm,ts,hm,hta,ht3,htl,teq⟩ hT;have hi:i<qs.length:=by rw[<-hql];exact(List.getElem?_eq_some_iff.mp hx).1
   obtain⟨q,hq,rfl⟩:∃q,qs[i]? =some q/\x=V.ref q.1:=by
    rw[W5,Y4 hi]at hx;exact⟨qs[i],Y4 hi,(X1 hx).symm⟩
   have s0:=ag.upd (o:= .tup [.int i,.ref q.1]) hT;have smT:ag H (upd H' TT (.tup [.int i,.ref q.1])):=sm.trans s0;have hgT:upd H' TT (.tup [.int i,.ref q.1]) TT=some (.tup [.int i,.ref q.1]):=aa;have hmT:=s0 _ _ hm;have htaT:=aJ hta fun b z e=>s0 _ _ e
   generalize upd H' TT (.tup [.int i,.ref q.1])=HT at smT hgT hmT htaT
   have hqa:=hsa q (Y8 hq);refine⟨_,SqT.of hgT,rfl,_,_,rfl,_,_,rfl,rfl,?_⟩;show i4 _ _ _ _ [some (.ref l),some (.ref L),some (.int i),some (.ref q.1)] HT;refine aT fun D4 k4 _=>?_
   walk_at "rd";have st:=SqT.of (K:=K) (smT _ _ hqa.1);have hlen:(Str.ofString (toString (i:Int))).length<=21:=by
    have e:=PySem.int_text_length_le10 (a:=(i:Int)) (k:=20) (by decide) (by have:(i:Int).natAbs=i:=rfl;lia);rw[PySem.ofString_length];lia
   have e1:(Str.empty++Str.ofString "#").length=1:=by decide +kernel
   have ea:∀a b:Str,(a++b).length=a.length+b.length:=fun a b=>size_append
   have add:∀a b:Str,fE i q.2=some [a,b,iU i]->∀p,HT p=none->∃x,upd HT p (.tup [.str a,.str b,V.str (Str.empty++Str.ofString "#"++Str.ofString (toString (i:Int)))]) L=some (.lst x)/\x.length<sizeLine/\D4.nx [some (.ref l),some (.ref L),some (.int i),some (.ref q.1)] (upd (upd HT p (.tup [.str a,.str b,V.str (Str.empty++Str.ofString "#"++Str.ofString (toString (i:Int)))])) L (.lst (x++[V.ref p]))):=by
    intro a b hst p hp;have tn:=dR hq;rw[hst,<-teq]at tn;unfold iU at tn
    generalize hz:Str.empty++Str.ofString "#"++Str.ofString (toString (i:Int))=z at tn ⊢
    have sp:=ag.upd (o:= .tup [V.str a,V.str b,V.str z]) hp;have gp:upd HT p (.tup [V.str a,V.str b,V.str z]) p=_:=aa
    generalize upd HT p (.tup [V.str a,V.str b,V.str z])=H4 at sp gp
    have hm4:=sp _ _ hmT;have keepT:∀b z,H4 b=some (.tup z)->upd H4 L (.lst (ts.map (fun t=>V.ref t.1) ++[V.ref p])) b=some (.tup z):=fun b z e=>by
     have:b≠L:=fun e2=>by rw[e2,hm4]at e;cases e
     rw[ak this];exact e
    refine⟨_,hm4,by rw[Y6];exact bB (by lia),k4 _ _ ⟨_,_,rfl,ag.set (smT.trans sp) hL,ts++[(p,[a,b,z])],?_,?_,?_,?_,?_⟩⟩
    ·rw[aa,X4];rfl
    ·exact aJ (jo (aJ htaT fun b z e=>sp _ _ e) (by simp) gp) keepT
    ·intro t ht;rcases mem_append.mp ht with z|z
     ·exact ht3 t z
     ·rw[mem_singleton.mp z];rfl
    ·rw[Y9,length_singleton];lia
    ·rw[tn,X4];rfl
   rcases hqa.2 with⟨wd,a,b,e,hw,_⟩|⟨wd,a,y,e,hw,_⟩
   ·rw[e]at st;refine⟨_,st,_,rfl,rfl,cF (fun hw2=>?_) fun hw2=>?_⟩
    ·refine⟨.inl ⟨_,SqL.of hmT⟩,_,st,_,rfl,_,st,_,rfl,aZ (by lia),?_,aZ (by rw[ea];lia),aZ (by rw[ea];lia),(show 3<=sizeLine by decide),add a b (by rw[e];exact if_pos (V.str.inj (W8 hw2)))⟩;have:(i:Int).natAbs=i:=rfl
     lia
    ·refine k4 _ _ ⟨_,_,rfl,smT,ts,hmT,htaT,ht3,by lia,?_⟩;rw[dR hq,e,show fE i [V.str wd,V.str a,V.str b]=none from if_neg fun z=>hw2 (X7 (by rw[z])),teq];exact(append_nil _).symm
   ·rw[e]at st;refine⟨_,st,_,rfl,rfl,?_⟩;rw[if_neg (by rcases hw with rfl|rfl<;> decide)];refine k4 _ _ ⟨_,_,rfl,smT,ts,hmT,htaT,ht3,by lia,?_⟩;rw[dR hq,e,teq];exact(append_nil _).symm
  ·rintro σ H' ⟨o2,o3,rfl,sm,ts,hm,hta,ht3,htl,teq⟩;refine k2 _ _ ?_;walk_at "rd";rw[hql]at teq;exact k L H' ts sm hL hm hta ht3 (by lia) teq
end
structure fG (cs:List (Addr×Str×List Str)) (qs:List (Addr×List V)) (ks:List (List Str)):Prop where
 nd:ks.Nodup
 so:ks.Pairwise (fun a b=>cy b a=false)
 mem:∀k,k∈ks↔k∈aA cs\/k∈bO qs qs.length
theorem fG.one{cs:List (Addr×Str×List Str)}{qs:List (Addr×List V)}{ks ms:List (List Str)}(h:fG cs qs ks)(g:fG cs qs ms):ks=ms:=
 kS cy (fun _ _ a b=>je a b) h.so g.so h.nd g.nd fun x=>(h.mem x).trans (g.mem x).symm
theorem xp:∀a b:Fin 60,iU a.1=iU b.1->a=b:=by decide +kernel
theorem vJ:∀a:Fin 60,eD (iU a.1)=false:=by decide +kernel
theorem ip{i:Nat}{xs:List V}{t:List Str}(h:fE i xs=some t):∃a b,t=[a,b,iU i]:=by
 unfold fE at h
 split at h
 ·split at h
  ·exact⟨_,_,(X1 h).symm⟩
  ·cases h
 ·cases h
theorem pA{qs:List (Addr×List V)}{n:Nat}{t:List Str}(h:t∈bO qs n):∃i,i<n/\∃a b,t=[a,b,iU i]:=by
 obtain⟨i,hi,e⟩:=mem_filterMap.mp h;obtain⟨q,_,e⟩:=bind_eq_some_iff.mp e;exact⟨i,mem_range.mp hi,ip e⟩
theorem qQ{qs:List (Addr×List V)}{n:Nat}(h:n<=60):(bO qs n).Nodup:=by
 unfold bO;rw[nodup_iff_pairwise_ne,List.pairwise_filterMap];refine List.Pairwise.imp_of_mem (fun{i j} hi hj hlt b eb c ec e=>?_) List.pairwise_lt_range;have hi:=mem_range.mp hi;have hj:=mem_range.mp hj;obtain⟨_,_,eb⟩:=bind_eq_some_iff.mp eb;obtain⟨_,_,ec⟩:=bind_eq_some_iff.mp ec;obtain⟨x,y,e1⟩:=ip eb;obtain⟨x',y',e2⟩:=ip ec;rw[e1,e2]at e;simp only[List.cons.injEq,and_true]at e;have:=congrArg Fin.val (xp ⟨i,by lia⟩ ⟨j,by lia⟩ e.2.2);dsimp only at this
 lia
theorem qR{H:Hp}{cs:List (Addr×Str×List Str)}{qs:List (Addr×List V)}{n:Nat}(hc:br H cs)(h:n<=60){k:List Str}(h1:k∈aA cs)(h2:k∈bO qs n):False:=by
 obtain⟨i,hi,a,b,e⟩:=pA h2;obtain⟨p,hp,hk⟩:=mem_flatMap.mp h1;obtain⟨z,_,rfl⟩:=mem_map.mp hk;have:=(List.append_inj' (show z.map (lnS p.2.1) ++[p.2.1]=[a,b] ++[iU i]from e) rfl).2;have nb:=(hc p hp).2.1;rw[(List.cons.inj this).1,vJ ⟨i,by lia⟩]at nb;cases nb
structure GrT (mg:Str->Option Value) (H:Hp) (g c4:Addr) (ts:List (Addr×List Str)):Prop where
 at_:∃dx c1 c2 c3,H g=some (.ins (cw mg "Ground") dx [("kept_cuts",.ref c1),("kept_sayings",.ref c2),("kept_layers",.ref c3),("kept_ties",.ref c4)])
 a4:H c4=some (.lst (ts.map fun t=>V.ref t.1))
 tu:aF H ts
theorem GrT.up{mg:Str->Option Value}{H H':Hp}{g c4:Addr}{ts:List (Addr×List Str)}(h:GrT mg H g c4 ts)(s:ag H H'):GrT mg H' g c4 ts:=by
 obtain⟨dx,c1,c2,c3,h0⟩:=h.at_;exact⟨⟨dx,c1,c2,c3,s _ _ h0⟩,s _ _ h.a4,aJ h.tu fun b z e=>s _ _ e⟩
theorem GrT.set{mg:Str->Option Value}{H:Hp}{g c4 b:Addr}{xs ys:List V}{ts:List (Addr×List Str)}(h:GrT mg H g c4 ts)(hb:H b=some (.lst xs))(n4:c4≠b):GrT mg (upd H b (.lst ys)) g c4 ts:=by
 obtain⟨dx,c1,c2,c3,h0⟩:=h.at_;have ng:g≠b:=fun e=>by rw[e,hb]at h0;cases h0
 exact⟨⟨dx,c1,c2,c3,by rw[ak ng];exact h0⟩,by rw[ak n4];exact h.a4,aJ h.tu fun c z e=>by rw[ak (fun q=>by rw[q,hb]at e;cases e)];exact e⟩
noncomputable def nH(mg:Str->Option Value):Sp:=fun vs H Q _=>∃(g c4:Addr) (ts:List (Addr×List Str)),vs=[.ref g]/\GrT mg H g c4 ts/\∀l,H l=none->Q (.ref l) (upd H l (.lst (ts.map fun t=>V.ref t.1)))
noncomputable def nI(mg:Str->Option Value):Sp:=fun vs H Q _=>∃(g l m dx:Addr) (cs:List (Addr×Str×List Str)) (qs:List (Addr×List V)),vs=[.ref g,.ref l,.ref m]/\H g=some (.ins (cw mg "Ground") dx [])/\H l=some (.lst (aO cs))/\H m=some (.lst (qs.map fun q=>V.ref q.1))/\
 br H cs/\(cs.map fun p=>p.2.1).Nodup/\1<=cs.length/\cs.length<=8/\(∀ls:List Str,ls.Perm (cs.flatMap lyr)->cm H ls qs)/\qs.length<=60/\
 ∀H' ts c4,(∀b o,b≠g->H b=some o->H' b=some o)->H c4=none->GrT mg H' g c4 ts->fG cs qs (ts.map (·.2))->Q .non H'
section
variable{P:Program}{w:World}{K:PySem.W.Frag}{mg:Str->Option Value}{base:Heap}
theorem iZ(T:Txt K mg):xk P w K mg base 6 "Ground" ["self","cuts","sayings"] (nI mg):=by
 have fD:Cal P w K mg base 5 "check_cuts" ["cuts"] gX:=fD T;have dL:Cal P w K mg base 3 "check_sayings" ["sayings","layers"] (fh K):=dL T;have gw:Cal P w K mg base 4 "layers_of" ["cuts"] iT:=gw T;have eF:Cal P w K mg base 4 "ties_of_cuts" ["cuts"] iW:=eF T;have cZ:Cal P w K mg base 1 "ties_of_sayings" ["sayings"] iX:=cZ T;refine T.i_Ground.cal eB (fun vs H Q E h=>?_) (fun f cdv A outer s H vs Q E hr h=>?_)
 ·obtain⟨g,l,m,dx,cs,qs,rfl,_⟩:=h;rfl
 ·obtain⟨g,l,m,dx,cs,qs,rfl,hg,hl,hm,hca,hnd,h1,h8,hsa,h60,k⟩:=h;refine⟨_,(QSs.h (ah (dq rfl (bC fD hr rfl rfl rfl rfl (paE rfl (vn 1 rfl Y0 rfl rfl) ai)))
   (ah (bg 3 eB.nd rfl Y0 Y1 rfl (bC gw hr rfl rfl rfl rfl (paE rfl (vn 1 rfl Y0 rfl rfl) ai)))
   (ah (dq rfl (bC dL hr rfl rfl rfl rfl (paE rfl (vn 2 rfl Y0 rfl rfl) (paE rfl (vn 3 rfl Y0 rfl rfl) ai))))
   (ah (xl (K:=K) rfl rfl (vn 0 rfl Y0 rfl rfl) (ctE (ig (K:=K) rfl) rfl T.b_list boot_list rfl rfl rfl (paE rfl (vn 1 rfl Y0 rfl rfl) ai)))
   (ah (xl (K:=K) rfl rfl (vn 0 rfl Y0 rfl rfl) (ctE (ig (K:=K) rfl) rfl T.b_list boot_list rfl rfl rfl (paE rfl (vn 2 rfl Y0 rfl rfl) ai)))
   (ah (xl (K:=K) rfl rfl (vn 0 rfl Y0 rfl rfl) (vn 3 rfl Y0 rfl rfl))
   (ap (xl (K:=K) rfl rfl (vn 0 rfl Y0 rfl rfl) (cbE (tf (K:=K) rfl) rfl T.b_sorted boot_sorted rfl rfl rfl (paE rfl (opE bT (bC eF hr rfl rfl rfl rfl (paE rfl (vn 1 rfl Y0 rfl rfl) ai)) (bC cZ hr rfl rfl rfl rfl (paE rfl (vn 2 rfl Y0 rfl rfl) ai))) ai))))))))))),?_⟩
  show cf _ _ _ [some (.ref g),some (.ref l),some (.ref m),none] H;refine al fun D1 k1 _=>?_
  walk_at "rd";refine⟨l,cs,rfl,hl,hca,hnd,h1,h8,fun H1 s1=>k1 _ _ (al fun D2 k2 _=>?_)⟩;walk_at "rd";refine⟨l,cs,rfl,s1 _ _ hl,hca.up s1,h8,fun r H2 ls s2 f2 h2 p2 q2=>k2 _ _ (al fun D3 k3 _=>?_)⟩;have s12:=s1.trans s2;walk_at "rd";refine⟨m,r,ls,qs,rfl,s12 _ _ hm,h2,(hsa ls p2).up s12,h60,fun H3 s3=>k3 _ _ (al fun D4 k4 _=>?_)⟩;have s13:=s12.trans s3;have OC:=T.o_Ground.cls;have gl:l≠g:=fun e=>by rw[e,hg]at hl;cases hl
  have gm:m≠g:=fun e=>by rw[e,hg]at hm;cases hm
  have gr:r≠g:=fun e=>by rw[e,s1 _ _ hg]at f2;cases f2
  walk_at "rd";refine⟨_,.inl (SqL.of (s13 _ _ hl)),fun c1 hc1=>⟨_,_,_,ag.upd hc1 _ _ (s13 _ _ hg),OC,T.n_Ground_kept_cuts,(by show 0<1000;decide),k4 _ _ (al fun D5 k5 _=>?_)⟩⟩;have c1g:c1≠g:=fun e=>by rw[e,s13 _ _ hg]at hc1;cases hc1
  have sc1:=ag.upd (o:= .lst (aO cs)) hc1;have b4:∀b o,b≠g->H3 b=some o->upd (upd H3 c1 (.lst (aO cs))) g (.ins (cw mg "Ground") dx (db (Str.ofString "kept_cuts") (V.ref c1) [])) b=some o:=fun b o hb e=>by rw[ak hb];exact sc1 _ _ e
  have g4:upd (upd H3 c1 (.lst (aO cs))) g (.ins (cw mg "Ground") dx (db (Str.ofString "kept_cuts") (V.ref c1) [])) g=some (.ins (cw mg "Ground") dx [("kept_cuts",V.ref c1)]):=aa;have a4:upd (upd H3 c1 (.lst (aO cs))) g (.ins (cw mg "Ground") dx (db (Str.ofString "kept_cuts") (V.ref c1) [])) c1=some (.lst (aO cs)):=by rw[ak c1g];exact aa
  generalize upd (upd H3 c1 (.lst (aO cs))) g (.ins (cw mg "Ground") dx (db (Str.ofString "kept_cuts") (V.ref c1) []))=H4 at b4 g4 a4
  have n4:∀b,H4 b=none->b≠g:=fun b hb e=>by rw[e,g4]at hb;cases hb
  walk_at "rd";refine⟨_,.inl (SqL.of (b4 _ _ gm (s13 _ _ hm))),fun c2 hc2=>⟨_,_,_,ag.upd hc2 _ _ g4,OC,T.n_Ground_kept_sayings,(by show 1<1000;decide),k5 _ _ (al fun D6 k6 _=>?_)⟩⟩;have c2g:=n4 c2 hc2;have sc2:=ag.upd (o:= .lst (qs.map fun q=>V.ref q.1)) hc2;have b5:∀b o,b≠g->H4 b=some o->upd (upd H4 c2 (.lst (qs.map fun q=>V.ref q.1))) g (.ins (cw mg "Ground") dx (db (Str.ofString "kept_sayings") (V.ref c2) [("kept_cuts",V.ref c1)])) b=some o:=fun b o hb e=>by rw[ak hb];exact sc2 _ _ e
  have g5:upd (upd H4 c2 (.lst (qs.map fun q=>V.ref q.1))) g (.ins (cw mg "Ground") dx (db (Str.ofString "kept_sayings") (V.ref c2) [("kept_cuts",V.ref c1)])) g=some (.ins (cw mg "Ground") dx [("kept_cuts",V.ref c1),("kept_sayings",V.ref c2)]):=by rw[aa];rfl
  have a5:upd (upd H4 c2 (.lst (qs.map fun q=>V.ref q.1))) g (.ins (cw mg "Ground") dx (db (Str.ofString "kept_sayings") (V.ref c2) [("kept_cuts",V.ref c1)])) c2=some (.lst (qs.map fun q=>V.ref q.1)):=by rw[ak c2g];exact aa
  generalize upd (upd H4 c2 (.lst (qs.map fun q=>V.ref q.1))) g (.ins (cw mg "Ground") dx (db (Str.ofString "kept_sayings") (V.ref c2) [("kept_cuts",V.ref c1)]))=H5 at b5 g5 a5
  walk_at "rd";refine⟨_,_,_,g5,OC,T.n_Ground_kept_layers,(by show 2<1000;decide),k6 _ _ (aT fun D7 k7 _=>?_)⟩;have b6:∀b o,b≠g->H5 b=some o->upd H5 g (.ins (cw mg "Ground") dx (db (Str.ofString "kept_layers") (V.ref r) [("kept_cuts",V.ref c1),("kept_sayings",V.ref c2)])) b=some o:=fun b o hb e=>by rw[ak hb];exact e
  have g6:upd H5 g (.ins (cw mg "Ground") dx (db (Str.ofString "kept_layers") (V.ref r) [("kept_cuts",V.ref c1),("kept_sayings",V.ref c2)])) g=some (.ins (cw mg "Ground") dx [("kept_cuts",V.ref c1),("kept_sayings",V.ref c2),("kept_layers",V.ref r)]):=by rw[aa];rfl
  generalize upd H5 g (.ins (cw mg "Ground") dx (db (Str.ofString "kept_layers") (V.ref r) [("kept_cuts",V.ref c1),("kept_sayings",V.ref c2)]))=H6 at b6 g6
  have b36:∀b o,b≠g->H3 b=some o->H6 b=some o:=fun b o hb e=>b6 b o hb (b5 b o hb (b4 b o hb e))
  have b06:∀b o,b≠g->H b=some o->H6 b=some o:=fun b o hb e=>b36 b o hb (s13 _ _ e)
  have hca6:br H6 cs:=fun p hp=>⟨b06 _ _ (fun e=>by have:=(hca p hp).1;rw[e,hg]at this;cases this) (hca p hp).1,(hca p hp).2⟩
  have hsa6:cm H6 ls qs:=fun q hq=>⟨b06 _ _ (fun e=>by have:=(hsa ls p2 q hq).1;rw[e,hg]at this;cases this) (hsa ls p2 q hq).1,(hsa ls p2 q hq).2⟩
  walk_at "rd";refine⟨l,cs,rfl,b06 _ _ gl hl,hca6,hnd,h8,fun t1 H7 ts s7 f7 h7 ta7 ht3 htl tnd tmem=>?_⟩;walk_at "rd";refine⟨m,ls,qs,rfl,s7 _ _ (b06 _ _ gm hm),hsa6.up s7,h60,fun t2 H8 us s8 f8 h8' ta8 hu3 hul ueq=>?_⟩;walk_at "rd";have tall:aF H8 (ts++us):=pc (aJ ta7 fun b z e=>s8 _ _ e) ta8;have g8:=s8 _ _ (s7 _ _ g6);refine⟨_,s8 _ _ h7,_,h8',by rw[Y6,Y6,PySem.sizeLine_eq];lia,fun p hp=>⟨ts++us,by rw[X4];exact SqL.of aa,aJ tall fun b z e=>ag.upd hp _ _ e,3,?_,by decide,by rw[Y9];lia,fun c4 ss hc4 pss qss=>⟨_,_,_,ag.upd hc4 _ _ (ag.upd hp _ _ g8),OC,T.n_Ground_kept_ties,(by show 3<1000;decide),k7 _ _ ?_⟩⟩⟩
  ·intro t ht;rcases mem_append.mp ht with z|z
   ·exact ht3 t z
   ·exact hu3 t z
  ·have c4g:c4≠g:=fun e=>by rw[e,ag.upd hp _ _ g8]at hc4;cases hc4
   have sp:=(ag.upd (o:= .lst (ts.map (fun p=>V.ref p.1) ++us.map fun p=>V.ref p.1)) hp).trans (ag.upd (o:= .lst (ss.map fun p=>V.ref p.1)) hc4);have b9:∀b o,b≠g->H8 b=some o->upd (upd (upd H8 p (.lst (ts.map (fun p=>V.ref p.1) ++us.map fun p=>V.ref p.1))) c4 (.lst (ss.map fun p=>V.ref p.1))) g (.ins (cw mg "Ground") dx (db (Str.ofString "kept_ties") (V.ref c4) [("kept_cuts",V.ref c1),("kept_sayings",V.ref c2),("kept_layers",V.ref r)])) b=some o:=fun b o hb e=>by rw[ak hb];exact sp _ _ e
   have b69:∀b o,b≠g->H6 b=some o->_:=fun b o hb e=>b9 b o hb (s8 _ _ (s7 _ _ e))
   have new:∀(c:Addr) (HH:Hp),(∀b o,b≠g->H b=some o->HH b=some o)->c≠g->HH c=none->H c=none:=fun c HH bb hc hn=>by
    cases e:H c with
    | none=>rfl
    | some o=>rw[bb c o hc e]at hn;cases hn
   refine k _ ss c4 (fun b o hb e=>b69 b o hb (b06 b o hb e)) (new c4 _ (fun b o hb e=>ag.upd hp _ _ (s8 _ _ (s7 _ _ (b06 b o hb e)))) c4g hc4) ⟨⟨dx,c1,c2,r,?_⟩,?_,?_⟩ ⟨?_,pairwise_map.mpr qss,fun z=>?_⟩
   ·rw[aa];rfl
   ·rw[ak c4g];exact aa
   ·intro t ht;have:=tall t (pss.mem_iff.mp ht);exact⟨this.1,b9 _ _ (fun e=>by have q:=this.2;rw[e,g8]at q;cases q) this.2⟩
   ·rw[(pss.map (·.2)).nodup_iff,X4,nodup_append,ueq];exact⟨tnd,qQ h60,fun x hx y hy e=>qR hca h60 ((tmem x).mp hx) (e▸hy)⟩
   ·rw[(pss.map (·.2)).mem_iff,X4,mem_append,tmem,ueq]
theorem bL(T:Txt K mg):xj P w K mg base 1 "Ground" "ties" ["self"] (nH mg):=by
 refine T.m_Ground_ties.cal kU (fun vs H Q E h=>?_) (fun f cdv A outer s H vs Q E hr h=>?_)
 ·obtain⟨g,c4,ts,rfl,_⟩:=h;rfl
 ·obtain⟨g,c4,ts,rfl,hg,k⟩:=h;obtain⟨dx,c1,c2,c3,h0⟩:=hg.at_;refine⟨_,(QSs.h (ap (bF (ctE (ig (K:=K) rfl) rfl T.b_list boot_list rfl rfl rfl (paE rfl (fldE (K:=K) rfl rfl (vn 0 rfl Y0 rfl rfl)) ai))))),?_⟩;show kf _ _ [some (.ref g)] H;walk_at "rd";refine⟨_,_,_,h0,T.o_Ground.cls,T.n_Ground_kept_ties,?_⟩;exact⟨_,rfl,_,rfl,_,.inl (SqL.of hg.a4),fun l hl=>k l hl⟩
end
noncomputable def dk(H:Hp)(ys:List (Addr×Str×Int)):Prop:=∀p∈ys,H p.1=some (.tup [.str p.2.1,.int p.2.2])/\0<=p.2.2/\p.2.2<=7
theorem dk.up{H H':Hp}{ys:List (Addr×Str×Int)}(h:dk H ys)(s:ag H H'):dk H' ys:=fun p hp=>⟨s _ _ (h p hp).1,(h p hp).2⟩
noncomputable def mF:Sp:=fun vs H Q _=>∃(one two:Int) (l:Addr) (ys:List (Addr×Str×Int)),vs=[.int one,.int two,.ref l]/\H l=some (.lst (ys.map fun p=>V.ref p.1))/\dk H ys/\1<=ys.length/\ys.length<=100/\0<=one/\0<=two/\
 ∀(t:Addr) H' (xs:List V),ag H H'->H t=none->H' t=some (.tup xs)->jJ (ys.map fun p=>p.2.1) xs->Q (.ref t) H'
section
variable{P:Program}{w:World}{K:PySem.W.Frag}{mg:Str->Option Value}{base:Heap}
theorem fH(T:Txt K mg):Cal P w K mg base 1 "_law_saying" ["_law_one","_law_two","_law_layers"] mF:=by
 refine T.d_law_saying.cal bx (fun vs H Q E h=>?_) (fun f cdv A outer s H vs Q E hr h=>?_)
 ·obtain⟨one,two,l,ys,rfl,_⟩:=h;rfl
 ·obtain⟨one,two,l,ys,rfl,hl,hya,y1,y100,o0,t0,k⟩:=h;have get:∀n:Int,0<=n->∃q,atI (ys.map fun p=>V.ref p.1) (n%(ys.length:Int))=some (V.ref q.1)/\q∈ys:=fun n hn=>by
   have h0:=Int.emod_nonneg n (show(ys.length:Int)≠0 by lia);have h1:=Int.emod_lt_of_pos n (show(0:Int)<(ys.length:Int) by lia)
   generalize n%(ys.length:Int)=i at h0 h1
   obtain⟨j,rfl⟩:=Int.eq_ofNat_of_zero_le h0;have hj:j<ys.length:=by lia
   exact⟨ys[j],bN (by simp[hj]),getElem_mem hj⟩
  obtain⟨p,gp,mp⟩:=get one o0;obtain⟨q,gq,mq⟩:=get two t0;have hyl:(ys.map fun p=>V.ref p.1).length=ys.length:=Y6 _;have lpos:(0:Int)<(ys.length:Int):=by lia
  have pa:=hya p mp;have qa:=hya q mq;refine⟨_,(QSs.h (ah (wR rfl rfl rfl (bY (K:=K) rfl (fun _ _=>rfl) (vn 2 rfl Y0 rfl rfl) (opE bv (vn 0 rfl Y0 rfl rfl) (cbE (df (K:=K) rfl) rfl T.b_len PySem.boot_len rfl rfl rfl (paE rfl (vn 2 rfl Y0 rfl rfl) ai)))) (fq (K:=K) rfl rfl rfl (gsE rfl (az 3 bx.nd rfl Y0 Y1) (gsE rfl (az 4 bx.nd rfl Y0 Y1) cU))))
   (ah (wR rfl rfl rfl (bY (K:=K) rfl (fun _ _=>rfl) (vn 2 rfl Y0 rfl rfl) (opE bv (vn 1 rfl Y0 rfl rfl) (cbE (df (K:=K) rfl) rfl T.b_len PySem.boot_len rfl rfl rfl (paE rfl (vn 2 rfl Y0 rfl rfl) ai)))) (fq (K:=K) rfl rfl rfl (gsE rfl (az 5 bx.nd rfl Y0 Y1) (gsE rfl (az 6 bx.nd rfl Y0 Y1) cU))))
   (ah (bg 7 bx.nd rfl Y0 Y1 rfl (opE bv (opE dH (vn 0 rfl Y0 rfl rfl) am) am))
   (ah (bg 8 bx.nd rfl Y0 Y1 rfl (jO eJ rfl (opE bv (opE dH (vn 1 rfl Y0 rfl rfl) am) am) am))
   (ah (ifS (wT (mX (cH sv rfl (vn 7 rfl Y0 rfl rfl) am) (mX (cH fK rfl (vn 3 rfl Y0 rfl rfl) (vn 5 rfl Y0 rfl rfl)) (kz (wT (orW (cH fK rfl (vn 4 rfl Y0 rfl rfl) (vn 6 rfl Y0 rfl rfl)) (lz (eN (K:=K) rfl (fun _=>rfl) (vn 8 rfl Y0 rfl rfl)))))))))
   (ah (ifS (wT (mX (cH wS rfl (vn 4 rfl Y0 rfl rfl) (vn 6 rfl Y0 rfl rfl)) (kz (gQ (eN (K:=K) rfl (fun _=>rfl) (vn 8 rfl Y0 rfl rfl))))))
    (ap (bF (de (paE rfl bS (paE rfl (vn 5 rfl Y0 rfl rfl) (paE rfl (vn 3 rfl Y0 rfl rfl) ai))))))
    bM)
    (ap (bF (de (paE rfl bS (paE rfl (vn 3 rfl Y0 rfl rfl) (paE rfl (vn 5 rfl Y0 rfl rfl) ai)))))))
   bM)
   (ah (ifS (wT (mX (cH (sC (K:=K) rfl) rfl (vn 7 rfl Y0 rfl rfl) (de (paE rfl am (paE rfl am ai)))) (mX (cH fK rfl (vn 3 rfl Y0 rfl rfl) (vn 5 rfl Y0 rfl rfl)) (kz (wT (orW (cH eJ rfl (vn 4 rfl Y0 rfl rfl) (vn 6 rfl Y0 rfl rfl)) (lz (eN (K:=K) rfl (fun _=>rfl) (vn 8 rfl Y0 rfl rfl)))))))))
   (ap (bF (de (paE rfl bS (paE rfl (vn 3 rfl Y0 rfl rfl) (paE rfl (vn 5 rfl Y0 rfl rfl) ai))))))
   bM)
   (ah (bg 9 bx.nd rfl Y0 Y1 rfl (opE bP (opE nW am (opE dI am (vn 4 rfl Y0 rfl rfl))) (bY (K:=K) rfl (fun _ _=>rfl) (dc (paE rfl am (paE rfl (uT am) (paE rfl (uT am) (paE rfl am (paE rfl am (paE rfl (uT am) (paE rfl am (paE rfl am ai))))))))) (opE bv (vn 1 rfl Y0 rfl rfl) am))))
   (ap (bF (de (paE rfl (bY (K:=K) rfl (fun _ _=>rfl) (dc (paE rfl bS (paE rfl bS ai))) (opE bv (vn 7 rfl Y0 rfl rfl) am)) (paE rfl (vn 3 rfl Y0 rfl rfl) (paE rfl (vn 9 rfl Y0 rfl rfl) ai)))))))))))))),?_⟩
  show cf _ _ _ [some (.int one),some (.int two),some (.ref l),none,none,none,none,none,none,none] H;refine al fun D1 k1 _=>?_
  walk_at "rd";refine⟨ys.length,.inl ⟨_,SqL.of hl,hyl.symm⟩,lpos,_,SqL.of hl,_,gp,_,rfl,_,SqT.of pa.1,rfl,_,_,rfl,_,_,rfl,rfl,k1 _ _ (al fun D2 k2 _=>?_)⟩;walk_at "rd";refine⟨ys.length,.inl ⟨_,SqL.of hl,hyl.symm⟩,lpos,_,SqL.of hl,_,gq,_,rfl,_,SqT.of qa.1,rfl,_,_,rfl,_,_,rfl,rfl,k2 _ _ (al fun D3 k3 _=>?_)⟩;walk_at "rd";refine⟨⟨by decide,by decide⟩,by decide,k3 _ _ (al fun D4 k4 _=>?_)⟩;walk_at "rd";refine⟨⟨by decide,by decide⟩,by decide,k4 _ _ (al fun D5 k5 r5=>?_)⟩;have b1:0<=one/64%8:=by lia
  have b2:one/64%8<8:=by lia
  generalize one/64%8=kind at b1 b2
  generalize decide (two/64%16=0)=odd
  obtain⟨pa0,pn,pi⟩:=p;obtain⟨qa0,qn,qi⟩:=q;dsimp only at pa qa gp gq;have mem:∀{r:Addr×Str×Int},r∈ys->r.2.1∈ys.map fun p=>p.2.1:=fun{r} hr=>mem_map.mpr ⟨r,hr,rfl⟩
  have fin:∀(HH:Hp) (a b:Str),ag H HH->a∈(ys.map fun p=>p.2.1)->b∈(ys.map fun p=>p.2.1)->a≠b->∀w:Str,w="later"\/w="same"->∀t,HH t=none->Q (.ref t) (upd HH t (.tup [.str w,.str a,.str b])):=fun HH a b sh ha hb hab w hw t ht=>
   k t _ _ (sh.trans (ag.upd ht)) (sh.free ht) aa (.inl ⟨w,a,b,rfl,hw,ha,hb,hab⟩)
  have m1:pn∈ys.map fun p=>p.2.1:=mem mp
  have m2:qn∈ys.map fun p=>p.2.1:=mem mq
  have le3:3<=sizeLine:=by decide
  have rest:D5.nx [some (.int one),some (.int two),some (.ref l),some (.str pn),some (.int pi),some (.str qn),some (.int qi),some (.int kind),some (.bl odd),none] H:=by
   refine k5 _ _ (al fun D6 k6 r6=>?_);have rest2:∀HH,ag H HH->D6.nx [some (.int one),some (.int two),some (.ref l),some (.str pn),some (.int pi),some (.str qn),some (.int qi),some (.int kind),some (.bl odd),none] HH:=by
    intro HH sh;refine k6 _ _ (al fun D7 k7 _=>?_);walk_at "rd";refine⟨.inl ⟨by decide,by decide⟩,(show 8<=sizeLine by decide),fun p hp=>⟨by decide,_,SqL.of aa,?_⟩⟩;obtain⟨c,hc,hcm⟩:=gn [0,-20,-60,10,60,-200,110,0] (i:=two%8) (by lia) (by show two%8<8;lia);have hcb: -200<=c/\c<=110:=by
     simp only[mem_cons,not_mem_nil,or_false]at hcm
     lia
    refine⟨_,hc,c,rfl,k7 _ _ ?_⟩;walk_at "rd";obtain⟨wd,hwd,hw⟩:∃wd:Str,atI [V.str (Str.ofString "since"),V.str (Str.ofString "by")] (kind%2)=some (V.str wd)/\(wd="since"\/wd="by"):=by
     rcases(show kind%2=0\/kind%2=1 by lia)with e|e<;> rw[e]
     ·exact⟨_,rfl,.inl rfl⟩
     ·exact⟨_,rfl,.inr rfl⟩
    refine⟨(show 2<=sizeLine by decide),fun p1 hp1=>⟨by decide,_,SqL.of aa,_,hwd,le3,fun t ht=>?_⟩⟩;exact k t _ _ (sh.trans ((ag.upd hp).trans ((ag.upd hp1).trans (ag.upd ht)))) (sh.free ((ag.upd hp).free ((ag.upd hp1).free ht))) aa (.inr ⟨wd,pn,_,rfl,hw,m1,by lia,by lia⟩)
   walk_at "rd";refine⟨(show 2<=sizeLine by decide),fun p hp=>⟨_,.inr (SqT.of aa),rfl,rfl,?_⟩⟩;have sp:=ag.upd (o:= .tup [V.int 2,V.int 3]) hp
   generalize upd H p (.tup [V.int 2,V.int 3])=H6 at sp
   have R:=rest2 H6 sp;refine cF (fun _=>cF (fun hne=>?_) fun _=>R) fun _=>R
   have hne:pn≠qn:=by simpa using hne
   have L:3<=sizeLine/\∀p,H6 p=none->D6.rt (.ref p) (upd H6 p (.tup [V.str (Str.ofString "same"),V.str pn,V.str qn])):=⟨le3,fun t ht=>r6 _ _ (fin H6 pn qn sp m1 m2 hne _ (.inr rfl) t ht)⟩
   exact cF (fun _=>L) fun _=>cF (fun _=>L) fun _=>R
  walk_at "rd";refine cF (fun _=>cF (fun hne=>?_) fun _=>rest) fun _=>rest
  have hne:pn≠qn:=by simpa using hne
  have L1:3<=sizeLine/\∀p,H p=none->D5.rt (.ref p) (upd H p (.tup [V.str (Str.ofString "later"),V.str qn,V.str pn])):=⟨le3,fun t ht=>r5 _ _ (fin H qn pn (ag.refl H) m2 m1 (Ne.symm hne) _ (.inl rfl) t ht)⟩
  have L2:3<=sizeLine/\∀p,H p=none->D5.rt (.ref p) (upd H p (.tup [V.str (Str.ofString "later"),V.str pn,V.str qn])):=⟨le3,fun t ht=>r5 _ _ (fin H pn qn (ag.refl H) m1 m2 hne _ (.inl rfl) t ht)⟩
  exact cF (fun _=>cF (fun _=>cF (fun _=>L1) fun _=>L2) fun _=>L2) fun _=>cF (fun _=>cF (fun _=>cF (fun _=>L1) fun _=>L2) fun _=>L2) fun _=>rest
end
structure Drn where
 name:Str
 cols:List (List Int)
 hi:Nat
 sh:Int
noncomputable def Drn.rows(d:Drn):List Str:=drawn d.cols d.hi d.sh
noncomputable def jK(d:Drn):Prop:=eD d.name=true/\1<=d.hi/\d.hi<=6/\1<=d.cols.length/\d.cols.length<=5/\∀c∈d.cols,c.length=d.hi/\jH c
theorem jK.cut{d:Drn}(h:jK d):bQ d.rows:=oV h.2.1 (by have:=h.2.2.1;lia) h.2.2.2.1 (by have:=h.2.2.2.2.1;lia) h.2.2.2.2.2
noncomputable def dG(d:Drn):List (Str×Int):=(there d.cols).map fun a=>(dg d.name (sg a d.sh),a)
noncomputable def dcs(ds:List (Addr×Drn)):List (Addr×Str×List Str):=ds.map fun p=>(p.1,p.2.name,p.2.rows)
noncomputable def nmK(k:Int):Str:=if k=0 then "north" else if k=1 then "worth" else if k=2 then "norths" else "nort"
noncomputable def mG(K:PySem.W.Frag):Sp:=fun vs H Q _=>∃(a:Addr) (xs:List Int),vs=[.ref a]/\SqL K H a (xs.map V.int)/\(∀H',ag H H'->SqL K H' a (xs.map V.int))/\xs.length=43/\(∀x∈xs,0<=x/\x<9973)/\
 ∀(t l1 l2 l3:Addr) H' (ds:List (Addr×Drn)) (qs:List (Addr×List V)),ag H H'->H t=none->H l1=none->H l2=none->H l3=none->l1≠l2->l1≠l3->l2≠l3->
  H' t=some (.tup [.ref l1,.ref l2,.ref l3])->H' l1=some (.lst (aO (dcs ds)))->H' l2=some (.lst (qs.map fun q=>V.ref q.1))->H' l3=some (.lst ((ds.flatMap fun p=>(dG p.2).map (·.1)).map V.str))->
  1<=ds.length->ds.length<=3->(∀p∈ds,jK p.2)->(ds.map fun p=>p.2.name).Nodup->br H' (dcs ds)->cm H' (ds.flatMap fun p=>(dG p.2).map (·.1)) qs->qs.length<=12->(∀p∈ds,∃k:Int,p.2.name=nmK k)->1<=(ds.flatMap fun p=>(dG p.2).map (·.1)).length/\(ds.flatMap fun p=>(dG p.2).map (·.1)).length<=24->Q (.ref t) H'
section
variable{P:Program}{w:World}{K:PySem.W.Frag}{mg:Str->Option Value}{base:Heap}
theorem j7{H:Hp}{M:Addr}{xs ys:List V}(h:H M=some (.lst xs)):∀b z,H b=some (.tup z)->upd H M (.lst ys) b=some (.tup z):=fun b z e=>by
 rw[ak (fun e2=>by rw[e2,h]at e;cases e)];exact e
theorem dk.keep{H H':Hp}{ys:List (Addr×Str×Int)}(h:dk H ys)(t:∀b z,H b=some (.tup z)->H' b=some (.tup z)):dk H' ys:=fun p hp=>⟨t _ _ (h p hp).1,(h p hp).2⟩
theorem br.keep{H H':Hp}{cs:List (Addr×Str×List Str)}(h:br H cs)(t:∀b z,H b=some (.tup z)->H' b=some (.tup z)):br H' cs:=fun p hp=>⟨t _ _ (h p hp).1,(h p hp).2⟩
theorem cm.keep{H H':Hp}{ls:List Str}{qs:List (Addr×List V)}(h:cm H ls qs)(t:∀b z,H b=some (.tup z)->H' b=some (.tup z)):cm H' ls qs:=fun p hp=>⟨t _ _ (h p hp).1,(h p hp).2⟩
theorem br.snoc{H:Hp}{cs:List (Addr×Str×List Str)}{q:Addr×Str×List Str}(h:br H cs)(hq:H q.1=some (.tup [.str q.2.1,.str (Str.join nl q.2.2)])/\eD q.2.1=true/\bQ q.2.2):br H (cs++[q]):=fun p hp=>by
 rcases mem_append.mp hp with z|z
 ·exact h p z
 ·rw[mem_singleton.mp z];exact hq
theorem dk.snoc{H:Hp}{ys:List (Addr×Str×Int)}{q:Addr×Str×Int}(h:dk H ys)(hq:H q.1=some (.tup [.str q.2.1,.int q.2.2])/\0<=q.2.2/\q.2.2<=7):dk H (ys++[q]):=fun p hp=>by
 rcases mem_append.mp hp with z|z
 ·exact h p z
 ·rw[mem_singleton.mp z];exact hq
theorem tG(n:Str)(c:Nat):n++Str.ofString "."++sgn c=dg n c:=by
 refine eK ?_;show(n.cps++ #[46] ++ #[c]).toList=(n.cps.toList++[46,c]).toArray.toList;simp
theorem zv(k:Int):eD (nmK k)=true:=by
 unfold nmK
 split
 ·decide +kernel
 ·split
  ·decide +kernel
  ·split<;> decide +kernel
theorem xq{j k:Int}(j0:0<=j)(j4:j<4)(k0:0<=k)(k4:k<4)(h:nmK j=nmK k):j=k:=by
 have all:∀a b:Fin 4,nmK (a.1:Int)=nmK (b.1:Int)->a=b:=by decide +kernel
 obtain⟨a,rfl⟩:=Int.eq_ofNat_of_zero_le j0;obtain⟨b,rfl⟩:=Int.eq_ofNat_of_zero_le k0;have:=all ⟨a,by lia⟩ ⟨b,by lia⟩ h;have:=congrArg Fin.val this;dsimp only at this
 lia
theorem fI(T:Txt K mg):Cal P w K mg base 3 "_law_ground" ["_law_row_here"] (mG K):=by
 have jl:Cal P w K mg base 2 "_law_cut" ["_law_row_here","_law_shift"] (vG K):=jl T;have dj:Cal P w K mg base 1 "_law_sign" ["_law_at","_law_shift"] nD:=dj T;have fH:Cal P w K mg base 1 "_law_saying" ["_law_one","_law_two","_law_layers"] mF:=fH T;refine T.d_law_ground.cal aL (fun vs H Q E h=>?_) (fun f cdv A outer s H vs Q E hr h=>?_)
 ·obtain⟨a,xs,rfl,_⟩:=h;rfl
 ·obtain⟨a,xs,rfl,hs,keep,hx43,hb,kk⟩:=h;have get:∀i:Int,0<=i->i<43->∃c,atI (xs.map V.int) i=some (V.int c)/\0<=c/\c<9973:=fun i h0 h1=>by
   obtain⟨c,e,hm⟩:=gn xs h0 (by lia);exact⟨c,e,hb c hm⟩
  obtain⟨c0,g0,l0,u0⟩:=get 0 (by decide) (by decide);refine⟨_,(QSs.h (ah (bg 1 aL.nd rfl Y0 Y1 rfl (dc ai))
   (ah (bg 2 aL.nd rfl Y0 Y1 rfl (dc ai))
   (ah (eG PassesOwn.never rfl rfl (fS rfl T.b_range rfl (paE rfl (opE bP am (opE bv (bY (K:=K) rfl (fun _ _=>rfl) (vn 0 rfl Y0 rfl rfl) am) am)) ai)) (az 3 aL.nd rfl Y0 Y1)
   (ah (bg 4 aL.nd rfl Y0 Y1 rfl (bY (K:=K) rfl (fun _ _=>rfl) (dc (paE rfl bS (paE rfl bS (paE rfl bS (paE rfl bS ai))))) (opE bv (opE bP (vn 3 rfl Y0 rfl rfl) (opE dH (bY (K:=K) rfl (fun _ _=>rfl) (vn 0 rfl Y0 rfl rfl) am) am)) am)))
    (ah (bg 5 aL.nd rfl Y0 Y1 rfl (opE bP (opE dH (bY (K:=K) rfl (fun _ _=>rfl) (vn 0 rfl Y0 rfl rfl) am) am) (opE dI am (vn 3 rfl Y0 rfl rfl))))
    (ah (wR rfl rfl rfl (bC jl hr rfl rfl rfl rfl (paE rfl (slE (K:=K) rfl (vn 0 rfl Y0 rfl rfl) (iB (opE bP am (opE dI am (vn 3 rfl Y0 rfl rfl)))) (iB (opE bP am (opE dI am (vn 3 rfl Y0 rfl rfl))))) (paE rfl (vn 5 rfl Y0 rfl rfl) ai))) (fq (K:=K) rfl rfl rfl (gsE rfl (az 6 aL.nd rfl Y0 Y1) (gsE rfl (az 7 aL.nd rfl Y0 Y1) cU))))
    (ah (dq rfl (bmE (K:=K) rfl plainAttrs_list PySem.F.slot_list_append PySem.F.type_list_append bX rfl rfl rfl rfl (vn 1 rfl Y0 rfl rfl) (paE rfl (de (paE rfl (vn 4 rfl Y0 rfl rfl) (paE rfl (vn 6 rfl Y0 rfl rfl) ai))) ai)))
    (ap (eG PassesOwn.never rfl rfl (ie (K:=K) rfl (vn 7 rfl Y0 rfl rfl)) (az 8 aL.nd rfl Y0 Y1)
    (ap (dq rfl (bmE (K:=K) rfl plainAttrs_list PySem.F.slot_list_append PySem.F.type_list_append bX rfl rfl rfl rfl (vn 2 rfl Y0 rfl rfl) (paE rfl (de (paE rfl (opE bT (opE bT (vn 4 rfl Y0 rfl rfl) bS) (bC dj hr rfl rfl rfl rfl (paE rfl (vn 8 rfl Y0 rfl rfl) (paE rfl (vn 5 rfl Y0 rfl rfl) ai)))) (paE rfl (vn 8 rfl Y0 rfl rfl) ai))) ai)))))))))))
   (ah (bg 9 aL.nd rfl Y0 Y1 rfl (opE bv (opE dH (bY (K:=K) rfl (fun _ _=>rfl) (vn 0 rfl Y0 rfl rfl) am) am) am))
   (ah (bg 10 aL.nd rfl Y0 Y1 rfl (dc ai))
   (ah (eG PassesOwn.never rfl rfl (fS rfl T.b_range rfl (paE rfl (vn 9 rfl Y0 rfl rfl) ai)) (az 3 aL.nd rfl Y0 Y1)
   (ap (dq rfl (bmE (K:=K) rfl plainAttrs_list PySem.F.slot_list_append PySem.F.type_list_append bX rfl rfl rfl rfl (vn 10 rfl Y0 rfl rfl) (paE rfl (bC fH hr rfl rfl rfl rfl (paE rfl (bY (K:=K) rfl (fun _ _=>rfl) (vn 0 rfl Y0 rfl rfl) (opE bP am (opE dI am (vn 3 rfl Y0 rfl rfl)))) (paE rfl (bY (K:=K) rfl (fun _ _=>rfl) (vn 0 rfl Y0 rfl rfl) (opE bP am (opE dI am (vn 3 rfl Y0 rfl rfl)))) (paE rfl (vn 2 rfl Y0 rfl rfl) ai)))) ai)))))
   (ap (bF (de (paE rfl (vn 1 rfl Y0 rfl rfl) (paE rfl (vn 10 rfl Y0 rfl rfl) (paE rfl (fT (aG.of (show cP (af cB) ["_law_row_here","_law_cuts","_law_layers","_law_k","_law_name","_law_shift","_law_text","_law_there","_law_at","_law_many","_law_sayings"] _ ["_law_layer","_law_at"] []=true from by decide +kernel)) rfl rfl (ie (K:=K) rfl (vn 2 rfl Y0 rfl rfl)) (fun _ _ _=>(fq (K:=K) rfl rfl rfl (gsE rfl (az 0 (show(["_law_layer","_law_at"]:List Str).Nodup from by decide +kernel) rfl Y0 Y1) (gsE rfl (az 1 (show(["_law_layer","_law_at"]:List Str).Nodup from by decide +kernel) rfl Y0 Y1) cU)))) (fun _ _ _=>lA) (fun _ _ _=>(vn 0 rfl Y0 rfl rfl))) ai))))))))))))),?_⟩
  show cf _ _ _ [some (.ref a),none,none,none,none,none,none,none,none,none,none] H;refine al fun D1 k1 _=>?_
  walk_at "rd";refine⟨zero_le _,fun L1 hL1=>k1 _ _ (al fun D2 k2 _=>?_)⟩;have s1:=ag.upd (o:= .lst []) hL1;walk_at "rd";refine⟨zero_le _,fun L3 hL3=>k2 _ _ (al fun D3 k3 _=>aD fun Kont hK=>?_)⟩;have s2:=s1.trans (ag.upd (o:= .lst []) hL3);have h13:L1≠L3:=fun e=>by rw[<-e,aa]at hL3;cases hL3
  walk_at "rd";refine⟨_,keep _ s2,_,g0,c0,rfl,by decide,?_⟩;refine⟨by lia,by lia,hK _ _ (cp (fun i σ H'=>∃o3 o4 o5 o6 o7 o8,σ=[some (.ref a),some (.ref L1),some (.ref L3),o3,o4,o5,o6,o7,o8,none,none]/\ag H H'/\∃(ds:List (Addr×Drn)) (ys:List (Addr×Str×Int)),ds.length=i/\H' L1=some (.lst (aO (dcs ds)))/\H' L3=some (.lst (ys.map fun p=>V.ref p.1))/\dk H' ys/\(ys.map (·.2))=(ds.flatMap fun p=>dG p.2)/\
   br H' (dcs ds)/\(∀p∈ds,jK p.2)/\ds.map (fun p=>p.2.name)=(List.range i).map fun k:Nat=>nmK (((k:Int) +c0/3)%4))
   ⟨_,_,_,_,_,_,rfl,s2,[],[],rfl,by rw[ak h13];exact aa,aa,fun p hp=>(nomatch hp),rfl,fun p hp=>(nomatch hp),fun p hp=>(nomatch hp),rfl⟩ ?_ ?_)⟩
  ·rintro i σ H3 hi ⟨o3,o4,o5,o6,o7,o8,rfl,s3,ds,ys,hdl,h3L1,h3L3,hya,hyl,hca,hdo,hnm⟩;have hi3:i<3:=by lia
   show cf _ _ _ [some (.ref a),some (.ref L1),some (.ref L3),some (.int (0+i)),o4,o5,o6,o7,o8,none,none] H3;rw[Int.zero_add];refine al fun D4 k4 _=>?_
   walk_at "rd";obtain⟨nm,hnmE,enm⟩:∃nm:Str,atI [V.str (Str.ofString "north"),V.str (Str.ofString "worth"),V.str (Str.ofString "norths"),V.str (Str.ofString "nort")] (((i:Int) +c0/3)%4)=some (V.str nm)/\nm=nmK (((i:Int) +c0/3)%4):=by
    rcases(show((i:Int) +c0/3)%4=0\/((i:Int) +c0/3)%4=1\/((i:Int) +c0/3)%4=2\/((i:Int) +c0/3)%4=3 by lia)with e|e|e|e<;> rw[e]<;> exact⟨_,rfl,rfl⟩
   have nok:eD nm=true:=by rw[enm];exact zv _
   refine⟨(show 4<=sizeLine by decide),fun p hp=>⟨_,keep _ (s3.trans (ag.upd hp)),_,g0,c0,rfl,⟨by decide,by decide⟩,by decide,_,SqL.of aa,_,hnmE,k4 _ _ (al fun D5 k5 _=>?_)⟩⟩;have sp:=ag.upd (o:= .lst [V.str (Str.ofString "north"),V.str (Str.ofString "worth"),V.str (Str.ofString "norths"),V.str (Str.ofString "nort")]) hp
   generalize upd H3 p (.lst [V.str (Str.ofString "north"),V.str (Str.ofString "worth"),V.str (Str.ofString "norths"),V.str (Str.ofString "nort")])=H4 at sp
   have s4:=s3.trans sp;walk_at "rd";refine⟨_,keep _ s4,_,g0,c0,rfl,⟨by decide,by decide⟩,.inl ⟨by decide,by decide⟩,k5 _ _ (al fun D6 k6 _=>?_)⟩;have sh0:0<=c0/12+3*(i:Int):=by lia
   generalize c0/12+3*(i:Int)=sh at sh0
   walk_at "rd";refine⟨.inl ⟨by decide,by decide⟩,.inl ⟨by decide,by decide⟩,.inl ⟨_,keep _ s4,fun p2 hp2=>?_⟩⟩;rw[oZ xs (by lia) (by lia) (by lia)];have hws:((xs.drop (1+6*(i:Int)).toNat).take ((7+6*(i:Int)).toNat-(1+6*(i:Int)).toNat)).length=6:=by
    rw[length_take,length_drop,hx43];exact(by decide:∀i:Nat,i<3->min ((7+6*(i:Int)).toNat-(1+6*(i:Int)).toNat) (43-(1+6*(i:Int)).toNat)=6) i (by lia)
   have hwb:∀x∈(xs.drop (1+6*(i:Int)).toNat).take ((7+6*(i:Int)).toNat-(1+6*(i:Int)).toNat),0<=x/\x<9973:=fun x hx=>hb x (mem_of_mem_drop (mem_of_mem_take hx))
   generalize (xs.drop (1+6*(i:Int)).toNat).take ((7+6*(i:Int)).toNat-(1+6*(i:Int)).toNat)=ws at hws hwb
   refine⟨p2,ws,sh,rfl,SqL.of aa,fun H' sm=>SqL.of (sm _ _ aa),hws,hwb,sh0,fun T5 th H5 cols hi5 s5 f5 f5' n5 hT5 hth hh1 hh6 hw1 hw5 hcols=>⟨T5,rfl,_,SqT.of hT5,rfl,_,_,rfl,_,_,rfl,rfl,k6 _ _ (al fun D7 k7 _=>?_)⟩⟩;have s45:ag H3 H5:=sp.trans ((ag.upd hp2).trans s5);have hdrn:jK ⟨nm,cols,hi5,sh⟩:=⟨nok,hh1,hh6,hw1,hw5,hcols⟩
   have hthn:H3 th=none:=sp.free ((ag.upd hp2).free f5');have th1:th≠L1:=fun e=>by rw[e,h3L1]at hthn;cases hthn
   have th3:th≠L3:=fun e=>by rw[e,h3L3]at hthn;cases hthn
   walk_at "rd";refine⟨.inl ⟨_,SqL.of (s45 _ _ h3L1)⟩,(show 2<=sizeLine by decide),fun p6 hp6=>?_⟩;have s6:=ag.upd (o:= .tup [V.str nm,V.str (nl.join (drawn cols hi5 sh))]) hp6;have g6:upd H5 p6 (.tup [V.str nm,V.str (nl.join (drawn cols hi5 sh))]) p6=_:=aa;have hL5:=s6 _ _ (s45 _ _ h3L1)
   generalize upd H5 p6 (.tup [V.str nm,V.str (nl.join (drawn cols hi5 sh))])=H6 at s6 g6 hL5
   have s36:=s45.trans s6;refine⟨_,hL5,by rw[show(aO (dcs ds)).length=ds.length by unfold aO dcs;rw[Y6,Y6],hdl];exact bB (by lia),k7 _ _ (aT fun D8 k8 _=>aD fun Kont hK=>?_)⟩;have tk:=j7 (ys:=aO (dcs ds) ++[V.ref p6]) hL5;have sm7:ag H (upd H6 L1 (.lst (aO (dcs ds) ++[V.ref p6]))):=ag.set (s3.trans s36) hL1;have l17:upd H6 L1 (.lst (aO (dcs ds) ++[V.ref p6])) L1=some (.lst (aO (dcs (ds++[(p6,⟨nm,cols,hi5,sh⟩)])))):=by
    rw[aa];unfold aO dcs;rw[X4,X4];rfl
   have l37:upd H6 L1 (.lst (aO (dcs ds) ++[V.ref p6])) L3=some (.lst (ys.map fun p=>V.ref p.1)):=by rw[ak (Ne.symm h13)];exact s36 _ _ h3L3
   have th7:upd H6 L1 (.lst (aO (dcs ds) ++[V.ref p6])) th=some (.lst ((there cols).map V.int)):=by rw[ak th1];exact s6 _ _ hth
   have ca7:br (upd H6 L1 (.lst (aO (dcs ds) ++[V.ref p6]))) (dcs (ds++[(p6,⟨nm,cols,hi5,sh⟩)])):=by
    rw[show dcs (ds++[(p6,⟨nm,cols,hi5,sh⟩)])=dcs ds++[(p6,nm,drawn cols hi5 sh)] by unfold dcs;rw[X4];rfl];exact((hca.up s36).snoc ⟨g6,nok,hdrn.cut⟩).keep tk
   have ya7:dk (upd H6 L1 (.lst (aO (dcs ds) ++[V.ref p6]))) ys:=(hya.up s36).keep tk
   generalize upd H6 L1 (.lst (aO (dcs ds) ++[V.ref p6]))=H7 at sm7 l17 l37 th7 ca7 ya7
   have ylen:ys.length<=8*i:=by
    have e:=congrArg List.length hyl;rw[Y6,List.length_flatMap]at e;have:=nh (f:=fun p:Addr×Drn=>(dG p.2).length) (B:=8) (xs:=ds) fun p _=>by
     unfold dG;rw[Y6];exact jg _
    lia
   walk_at "rd";refine .inl ⟨⟨_,SqL.of th7⟩,hK _ _ (eU (xs:=(there cols).map V.int) (fun j σ H'=>∃o8,σ=[some (.ref a),some (.ref L1),some (.ref L3),some (.int i),some (.str nm),some (.int sh),some (.str (nl.join (drawn cols hi5 sh))),some (.ref th),o8,none,none]/\ag H H'/\H' L1=some (.lst (aO (dcs (ds++[(p6,⟨nm,cols,hi5,sh⟩)]))))/\H' th=some (.lst ((there cols).map V.int))/\br H' (dcs (ds++[(p6,⟨nm,cols,hi5,sh⟩)]))/\
    ∃zs:List (Addr×Str×Int),H' L3=some (.lst ((ys++zs).map fun p=>V.ref p.1))/\dk H' (ys++zs)/\zs.map (·.2)=((there cols).take j).map fun a=>(dg nm (sg a sh),a))
    ⟨_,rfl,sm7,l17,th7,ca7,[],by rw[append_nil];exact l37,by rw[append_nil];exact ya7,rfl⟩ (fun j σ H' _ ⟨_,_,_,_,q,_⟩=>SqL.of q) ?_ ?_)⟩
   ·rintro j x σ H8 hx ⟨o8,rfl,s8,h8L1,h8th,ca8,zs,h8L3,ya8,hzs⟩;have hj:j<(there cols).length:=by have:=(List.getElem?_eq_some_iff.mp hx).1;rwa[Y6]at this
    rw[W5,Y4 hj]at hx;obtain rfl:x=V.int (there cols)[j]:=(X1 hx).symm;have hat:=dW.mp (getElem_mem hj);show ke _ _ [some (.ref a),some (.ref L1),some (.ref L3),some (.int i),some (.str nm),some (.int sh),some (.str (nl.join (drawn cols hi5 sh))),some (.ref th),some (.int (there cols)[j]),none,none] H8;refine aT fun D9 k9 _=>?_
    walk_at "rd";have nlen:=iY nok;have ea:∀a b:Str,(a++b).length=a.length+b.length:=fun a b=>size_append
    have e1:(Str.ofString ".").length=1:=rfl;have zl:zs.length<=j:=by
     have:=congrArg List.length hzs;rw[Y6,Y6,length_take]at this
     lia
    have tl:=jg cols;refine⟨.inl ⟨_,SqL.of h8L3⟩,aZ (by lia),_,_,rfl,sh0,_,rfl,aZ (by rw[ea,show(sgn (sg (there cols)[j] sh)).length=1 from rfl];lia),(show 2<=sizeLine by decide),fun p hp=>?_⟩;rw[tG];have s9:=ag.upd (o:= .tup [V.str (dg nm (sg (there cols)[j] sh)),V.int (there cols)[j]]) hp;have g9:upd H8 p (.tup [V.str (dg nm (sg (there cols)[j] sh)),V.int (there cols)[j]]) p=_:=aa
    generalize upd H8 p (.tup [V.str (dg nm (sg (there cols)[j] sh)),V.int (there cols)[j]])=H9 at s9 g9
    have hL9:=s9 _ _ h8L3;have tk9:=j7 (ys:=(ys++zs).map (fun p=>V.ref p.1) ++[V.ref p]) hL9;refine⟨_,hL9,by rw[Y6,Y9];exact bB (by lia),k9 _ _ ⟨_,rfl,ag.set (s8.trans s9) (s1.free hL3),by rw[ak h13];exact s9 _ _ h8L1,by rw[ak th3];exact s9 _ _ h8th,(ca8.up s9).keep tk9,zs++[(p,dg nm (sg (there cols)[j] sh),(there cols)[j])],?_,?_,?_⟩⟩
    ·rw[aa,<-X6,X4 (l₂:=[(p,dg nm (sg (there cols)[j] sh),(there cols)[j])])];rfl
    ·rw[<-X6];exact((ya8.up s9).snoc ⟨g9,hat.1,hat.2.1⟩).keep tk9
    ·rw[X4,hzs,take_add_one,Y4 hj,X4];rfl
   ·rintro σ H8 ⟨o8,rfl,s8,h8L1,h8th,ca8,zs,h8L3,ya8,hzs⟩;rw[Y6,W7 (W1 _)]at hzs;refine k8 _ _ ⟨_,_,_,_,_,_,rfl,s8,ds++[(p6,⟨nm,cols,hi5,sh⟩)],ys++zs,by rw[Y9,hdl];rfl,h8L1,h8L3,ya8,?_,ca8,fun p hp=>?_,?_⟩
    ·rw[X4,hyl,hzs,flatMap_append]
     congr 1
     rw[List.flatMap_singleton];rfl
    ·rcases mem_append.mp hp with z|z
     ·exact hdo p z
     ·rw[mem_singleton.mp z];exact hdrn
    ·rw[X4,hnm,range_succ,X4];rw[enm];rfl
  ·rintro σ H3 ⟨o3,o4,o5,o6,o7,o8,rfl,s3,ds,ys,hdl,h3L1,h3L3,hya,hyl,hca,hdo,hnm⟩;refine k3 _ _ (al fun D4 k4 _=>?_);walk_at "rd";refine⟨_,keep _ s3,_,g0,c0,rfl,⟨by decide,by decide⟩,by decide,k4 _ _ (al fun D5 k5 _=>?_)⟩;have m0:0<=c0/100%13:=by lia
   have m12:c0/100%13<=12:=by lia
   generalize c0/100%13=many at m0 m12
   walk_at "rd";refine⟨zero_le _,fun L2 hL2=>k5 _ _ (al fun D6 k6 _=>aD fun Kont hK=>?_)⟩;have h21:L2≠L1:=fun e=>by rw[e,h3L1]at hL2;cases hL2
   have h23:L2≠L3:=fun e=>by rw[e,h3L3]at hL2;cases hL2
   have sL2:=ag.upd (o:= .lst []) hL2;have hd1:1<=ds.length:=by lia
   have hd3:ds.length<=3:=by lia
   have ylen:ys.length<=24/\1<=ys.length:=by
    have e:=congrArg List.length hyl;rw[Y6,List.length_flatMap]at e;have:=nh (f:=fun p:Addr×Drn=>(dG p.2).length) (B:=8) (xs:=ds) fun p _=>by
     unfold dG;rw[Y6];exact jg _
    refine⟨by lia,Nat.pos_of_ne_zero fun z=>?_⟩;have hy0:ys=[]:=length_eq_zero_iff.mp z;rw[hy0]at hyl;have hpd:0<ds.length:=by lia
    have hq:=hdo ds[0] (getElem_mem hpd);have hne:=vD hq.2.1 hq.2.2.2.1 hq.2.2.2.2.2;obtain⟨a',ha'⟩:=List.exists_mem_of_ne_nil _ hne;have:(dg ds[0].2.name (sg a' ds[0].2.sh),a')∈ds.flatMap fun p=>dG p.2:=mem_flatMap.mpr ⟨ds[0],getElem_mem hpd,mem_map.mpr ⟨a',ha',rfl⟩⟩
    rw[<-hyl]at this;cases this
   have hnames:(ys.map fun p=>p.2.1)=ds.flatMap fun p=>(dG p.2).map (·.1):=by
    have e:=congrArg (List.map (·.1)) hyl;rw[map_map,List.map_flatMap]at e;exact e
   walk_at "rd";refine⟨by lia,by lia,hK _ _ (cp (fun i σ H'=>∃o3,σ=[some (.ref a),some (.ref L1),some (.ref L3),o3,o4,o5,o6,o7,o8,some (.int many),some (.ref L2)]/\ag H3 H'/\∃qs:List (Addr×List V),H' L2=some (.lst (qs.map fun q=>V.ref q.1))/\qs.length=i/\cm H' (ys.map fun p=>p.2.1) qs)
    ⟨_,rfl,sL2,[],aa,rfl,fun q hq=>(nomatch hq)⟩ ?_ ?_)⟩
   ·rintro i σ H4 hi4 ⟨o3,rfl,s4,qs,h4L2,hql,hsa⟩;show ke _ _ [some (.ref a),some (.ref L1),some (.ref L3),some (.int (0+i)),o4,o5,o6,o7,o8,some (.int many),some (.ref L2)] H4;rw[Int.zero_add];obtain⟨x1,gx1,lx1,ux1⟩:=get (19+2*(i:Int)) (by lia) (by lia);obtain⟨x2,gx2,lx2,ux2⟩:=get (20+2*(i:Int)) (by lia) (by lia);refine aT fun D7 k7 _=>?_
    walk_at "rd";refine⟨.inl ⟨_,SqL.of h4L2⟩,.inl ⟨by decide,by decide⟩,_,keep _ (s3.trans s4),_,gx1,.inl ⟨by decide,by decide⟩,_,keep _ (s3.trans s4),_,gx2,?_⟩;refine⟨x1,x2,L3,ys,rfl,s4 _ _ h3L3,hya.up s4,ylen.2,by lia,lx1,lx2,fun t H5 xs' s5 f5 h5 ok5=>?_⟩;have hL5:=s5 _ _ h4L2;have tk5:=j7 (ys:=qs.map (fun q=>V.ref q.1) ++[V.ref t]) hL5;walk_at "rd";refine⟨_,hL5,by rw[Y6];exact bB (by lia),k7 _ _ ⟨_,rfl,ag.set (s4.trans s5) hL2,qs++[(t,xs')],by rw[aa,X4];rfl,by rw[Y9,hql];rfl,fun q hq=>?_⟩⟩;rcases mem_append.mp hq with z|z
    ·exact(((hsa.up s5).keep tk5) q z)
    ·rw[mem_singleton.mp z];exact⟨tk5 _ _ h5,ok5⟩
   ·rintro σ H4 ⟨o3,rfl,s4,qs,h4L2,hql,hsa⟩;refine k6 _ _ ?_;walk_at "rd";refine bh fun Kont hK=>?_
    walk_at "rd";have h4L3:=s4 _ _ h3L3;refine .inl ⟨⟨_,SqL.of h4L3⟩,hK _ _ fun N hN=>?_⟩;refine cu (J:=Itl K L3) (n:=ys.length) (D:=N) (fun j ts σ H'=>(∃o1 o2,σ=[o1,o2])/\ag H4 H'/\H' N=some (.lst ts)/\ts=((ys.take j).map fun p=>p.2.1).map V.str)
     ⟨⟨none,none,rfl⟩,ag.upd hN,aa,rfl⟩
     (fun j _ _ H' hj ⟨_,sm,_⟩=>⟨_,V.ref ys[j].1,SqL.of (sm _ _ h4L3),by simp[hj]⟩) (fun _ _ H' ⟨_,sm,_⟩=>⟨_,SqL.of (sm _ _ h4L3),by simp⟩) ?_ ?_
    ·rintro j ts σ H5 hj ⟨⟨o1,o2,rfl⟩,s5,hNv,ht⟩ x H6 ⟨e2,hx⟩;subst e2;have hxi:=hx _ (SqL.of (s5 _ _ h4L3));rw[W5,Y4 hj]at hxi;obtain rfl:x=V.ref ys[j].1:=(X1 hxi).symm;have hyj:=(hya ys[j] (getElem_mem hj)).1;refine⟨_,SqT.of (s5 _ _ (s4 _ _ hyj)),rfl,_,_,rfl,_,_,rfl,rfl,?_⟩;show wF [some (.str ys[j].2.1),some (.int ys[j].2.2)] _ _;walk_at "rd";refine CK.mk hj hNv (by rw[ht,Y6,Y6,length_take];exact bB (by lia)) ⟨⟨_,_,rfl⟩,ag.set s5 hN,aa,?_⟩;rw[ht,take_add_one,X4,X4,Y4 hj];rfl
    rintro ts σ H5 ⟨_,s5,hN5,ht⟩;rw[W7 (W1 _),hnames]at ht;refine⟨(show 3<=sizeLine by decide),fun t htn=>?_⟩;have st:=ag.upd (o:= .tup [V.ref L1,V.ref L2,V.ref N]) htn;have sAll:=s3.trans (s4.trans (s5.trans st));rw[hnames]at hsa;have h4L1:=s4 _ _ h3L1;refine kk t L1 L2 N _ ds qs sAll ((s3.trans (s4.trans s5)).free htn) hL1 (s3.free hL2) ((s3.trans s4).free hN) (Ne.symm h21) (fun e=>by rw[<-e,h4L1]at hN;cases hN) (fun e=>by rw[<-e,h4L2]at hN;cases hN) aa (st _ _ (s5 _ _ h4L1)) (st _ _ (s5 _ _ h4L2)) ?_ hd1 hd3 hdo ?_ (hca.up (s4.trans (s5.trans st))) (hsa.up (s5.trans st)) (by lia) (fun p hp=>?_) (by rw[<-hnames,Y6];exact⟨ylen.2,ylen.1⟩)
    ·rw[st _ _ hN5,ht]
    ·rw[hnm,nodup_iff_pairwise_ne,pairwise_map];refine List.Pairwise.imp_of_mem (fun{x y} hx hy hne he=>?_) (nodup_iff_pairwise_ne.mp (nodup_range (n:=(1+c0%3).toNat)));rw[mem_range]at hx hy;have:=xq (by lia) (by lia) (by lia) (by lia) he
     lia
    ·have:p.2.name∈ds.map fun p=>p.2.name:=mem_map.mpr ⟨p,hp,rfl⟩
     rw[hnm]at this;obtain⟨k,_,e⟩:=mem_map.mp this;exact⟨_,e.symm⟩
end
theorem vK{u r:Str}{g:TG}{tb:TS}{D:gO}{σ:St}{H:Hp}(Pv:Nat->St->Hp->Prop)(h0:Pv 0 σ H)(hle:r.cps.size=u.cps.size)
 (hs:∀i c d T σ H,u.cps[i]? =some c->r.cps[i]? =some d->Pv i σ H->H T=none->g (.ref T) σ (upd H T (.tup [.str ⟨#[c]⟩,.str ⟨#[d]⟩])) fun σ2 H2=>tb {D with nx:=Pv (i+1),ct:=Pv (i+1),bk:=D.nx} σ2 H2) (hd:∀σ H,Pv u.cps.size σ H->D.nx σ H):
 ∃W:Nat->Nat->St->Hp->Prop,(∃m,W 0 m σ H)/\∀i m σ H,W i m σ H->
  ((Itz u r).stop i H/\D.nx σ H)\/((Itz u r).go i H/\∃N:St->Hp->Prop,(∀σ' H',N σ' H'->∃m',m'<m/\W (i+1) m' σ' H')/\∀x H',(Itz u r).yld i H x H'->g x σ H' fun σ2 H2=>tb {D with nx:=N,ct:=N,bk:=D.nx} σ2 H2):=by
 refine⟨fun i m σ H=>m=u.cps.size-i/\i<=u.cps.size/\Pv i σ H,⟨u.cps.size,by simp,zero_le _,h0⟩,?_⟩;rintro i m σ H ⟨rfl,hi,p⟩;by_cases hlt:i<u.cps.size
 ·refine .inr ⟨⟨hlt,by lia⟩,Pv (i+1),fun σ' H' p'=>⟨u.cps.size-(i+1),by lia,rfl,hlt,p'⟩,fun v H' y=>?_⟩;obtain⟨c,d,TT,hc,hd,hT,rfl,rfl⟩:=y;exact hs i c d TT σ H hc hd p hT
 ·have e:i=u.cps.size:=by lia
  subst e;exact .inl ⟨⟨W1 _,by lia,.inl rfl⟩,hd σ H p⟩
noncomputable def dn(kvs:List (List Key×V))(m:List Str->Prop):Prop:=∃ks:List (List Str),kvs.map (·.1)=ks.map (fun k=>k.map Sum.inr)/\ks.Nodup/\∀k,k∈ks↔m k
theorem pB{kvs:List (List Key×V)}{m m':List Str->Prop}(h:dn kvs m)(k:List Str)(v:V)(hm':∀z,m' z↔m z\/z=k):dn (hW kvs (k.map Sum.inr) v) m':=by
 obtain⟨ks,h1,h2,h3⟩:=h;have hm:(k.map (Sum.inr:Str->Key))∈kvs.map (·.1)↔k∈ks:=by
  rw[h1,mem_map]
  constructor
  ·rintro⟨z,hz,e⟩;rw[<-iM _ _ e];exact hz
  ·intro hk;exact⟨k,hk,rfl⟩
 by_cases hk:k∈ks
 ·refine⟨ks,by rw[jf,if_pos (hm.mpr hk)];exact h1,h2,fun z=>?_⟩;rw[h3,hm']
  constructor
  ·exact .inl
  ·rintro(e|e)
   ·exact e
   ·rw[e];exact(h3 k).mp hk
 ·refine⟨ks++[k],by rw[jf,if_neg (fun q=>hk (hm.mp q)),h1,X4];rfl,?_,fun z=>?_⟩
  ·rw[nodup_append];exact⟨h2,by simp,fun a ha b hb e=>by rw[mem_singleton.mp hb]at e;rw[e]at ha;exact hk ha⟩
  ·rw[mem_append,h3,mem_singleton,hm']
theorem d0{kvs:List (List Key×V)}{m m':List Str->Prop}(h:dn kvs m)(e:∀k,m k↔m' k):dn kvs m':=by
 obtain⟨ks,h1,h2,h3⟩:=h;exact⟨ks,h1,h2,fun k=>(h3 k).trans (e k)⟩
theorem rF{kvs:List (List Key×V)}{m:List Str->Prop}{B:List (List Str)}(h:dn kvs m)(s:∀k,m k->k∈B):kvs.length<=B.length:=by
 obtain⟨ks,q1,q2,q3⟩:=h;have:=STab.nodup_sub q2 (m:=B) fun k hk=>s k ((q3 k).mp hk)
 have l:=congrArg List.length q1;rw[Y6,Y6]at l
 lia
theorem pC{rows:List Str}{i n:Nat}(h:i<=n){k:List Str}(hk:k∈aC rows i):k∈aC rows n:=by
 unfold aC at hk ⊢;obtain⟨j,hj,e⟩:=mem_flatMap.mp hk;exact mem_flatMap.mpr ⟨j,mem_range.mpr (X8 (mem_range.mp hj) h),e⟩
theorem xr{l:List (Nat×Nat)}{j:Nat}{k:List Str}(h:k∈(l.take j).filterMap dE):k∈l.filterMap dE:=by
 obtain⟨p,hp,e⟩:=mem_filterMap.mp h;exact mem_filterMap.mpr ⟨p,mem_of_mem_take hp,e⟩
theorem zw{cs:List (Addr×Str×List Str)}{i:Nat}{k:List Str}(h:k∈aA (cs.take i)):k∈aA cs:=by
 obtain⟨p,hp,e⟩:=mem_flatMap.mp h;exact mem_flatMap.mpr ⟨p,mem_of_mem_take hp,e⟩
theorem xt{p:Nat×Nat}{k:List Str}(h:dE p=some k):[p].filterMap dE=[k]:=by rw[filterMap_cons,h];rfl
theorem xu{p:Nat×Nat}(h:dE p=none):[p].filterMap dE=[]:=by rw[filterMap_cons,h];rfl
theorem mH(n:Str):Str.empty++n=n:=eK (by show(#[] ++n.cps).toList=_;simp)
theorem rG(n z:Str):n++Str.ofString "."++z=lnS n z:=by unfold lnS;rw[mH]
theorem lj(qs:List (Addr×List V))(n:Nat):(bO qs n).length<=n:=by
 unfold bO;exact le_trans (List.length_filterMap_le _ _) (by rw[length_range];exact W1 _)
noncomputable def lm:Sp:=fun vs H Q _=>∃(l m:Addr) (cs:List (Addr×Str×List Str)) (qs:List (Addr×List V)) (ls:List Str),vs=[.ref l,.ref m]/\H l=some (.lst (aO cs))/\H m=some (.lst (qs.map fun q=>V.ref q.1))/\br H cs/\cm H ls qs/\qs.length<=60/\(aA cs).length<=940/\
 ∀r H' (ss:List (Addr×List Str)),ag H H'->H r=none->H' r=some (.lst (ss.map fun t=>V.ref t.1))->aF H' ss->fG cs qs (ss.map (·.2))->Q (.ref r) H'
section
variable{P:Program}{w:World}{K:PySem.W.Frag}{mg:Str->Option Value}{base:Heap}
theorem fJ(T:Txt K mg):Cal P w K mg base 1 "_law_ties" ["_law_cuts","_law_sayings"] lm:=by
 refine T.d_law_ties.cal bI (fun vs H Q E h=>?_) (fun f cdv A outer s H vs Q E hr h=>?_)
 ·obtain⟨l,m,cs,qs,ls,rfl,_⟩:=h;rfl
 ·obtain⟨l,m,cs,qs,ls,rfl,hl,hm,hca,hsa,h60,hfew,kk⟩:=h;have hrl:(aO cs).length=cs.length:=Y6 _;have hql:(qs.map fun q=>V.ref q.1).length=qs.length:=Y6 _;refine⟨_,(QSs.h (ah (bg 2 bI.nd rfl Y0 Y1 rfl zq)
   (ah (eG PassesOwn.never rfl rfl (ie (K:=K) rfl (vn 0 rfl Y0 rfl rfl)) (fq (K:=K) rfl rfl rfl (gsE rfl (az 3 bI.nd rfl Y0 Y1) (gsE rfl (az 4 bI.nd rfl Y0 Y1) cU)))
   (ah (bg 5 bI.nd rfl Y0 Y1 rfl (bmE (K:=K) rfl plainAttrs_str PySem.F.slot_str_split PySem.F.type_str_split rh rfl rfl rfl rfl (vn 4 rfl Y0 rfl rfl) (paE rfl bS ai)))
    (ap (eG PassesOwn.never rfl rfl (fS rfl T.b_range rfl (paE rfl (opE nW (cbE (df (K:=K) rfl) rfl T.b_len PySem.boot_len rfl rfl rfl (paE rfl (vn 5 rfl Y0 rfl rfl) ai)) am) ai)) (az 6 bI.nd rfl Y0 Y1)
    (ap (eG PassesOwn.never rfl rfl (uX rfl T.b_zip rfl rfl (paE rfl (bY (K:=K) rfl (fun _ _=>rfl) (vn 5 rfl Y0 rfl rfl) (vn 6 rfl Y0 rfl rfl)) (paE rfl (bY (K:=K) rfl (fun _ _=>rfl) (vn 5 rfl Y0 rfl rfl) (opE bP (vn 6 rfl Y0 rfl rfl) am)) ai))) (fq (K:=K) rfl rfl rfl (gsE rfl (az 7 bI.nd rfl Y0 Y1) (gsE rfl (az 8 bI.nd rfl Y0 Y1) cU)))
     (ap (ifS (wT (mX (cH fK rfl (vn 7 rfl Y0 rfl rfl) (vn 8 rfl Y0 rfl rfl)) (kz (cH fK rfl (vn 7 rfl Y0 rfl rfl) bS))))
      (ap (vw hr rfl eBl (vn 2 rfl Y0 rfl rfl) (de (paE rfl (opE bT (opE bT (vn 3 rfl Y0 rfl rfl) bS) (vn 7 rfl Y0 rfl rfl)) (paE rfl (opE bT (opE bT (vn 3 rfl Y0 rfl rfl) bS) (vn 8 rfl Y0 rfl rfl)) (paE rfl (vn 3 rfl Y0 rfl rfl) ai))))))
      bM))))))))
   (ah (eG PassesOwn.never rfl rfl (fS rfl T.b_range rfl (paE rfl (cbE (df (K:=K) rfl) rfl T.b_len PySem.boot_len rfl rfl rfl (paE rfl (vn 1 rfl Y0 rfl rfl) ai)) ai)) (az 6 bI.nd rfl Y0 Y1)
   (ap (ifS (cH eJ rfl (eQ (K:=K) rfl (fun _ _=>rfl) (bY (K:=K) rfl (fun _ _=>rfl) (vn 1 rfl Y0 rfl rfl) (vn 6 rfl Y0 rfl rfl)) am) bS)
    (ap (vw hr rfl eBl (vn 2 rfl Y0 rfl rfl) (de (paE rfl (eQ (K:=K) rfl (fun _ _=>rfl) (bY (K:=K) rfl (fun _ _=>rfl) (vn 1 rfl Y0 rfl rfl) (vn 6 rfl Y0 rfl rfl)) am) (paE rfl (eQ (K:=K) rfl (fun _ _=>rfl) (bY (K:=K) rfl (fun _ _=>rfl) (vn 1 rfl Y0 rfl rfl) (vn 6 rfl Y0 rfl rfl)) am) (paE rfl (opE bT bS (ctE ⟨mM⟩ rfl T.b_str boot_str rfl rfl rfl (paE rfl (vn 6 rfl Y0 rfl rfl) ai))) ai))))))
    bM)))
   (ap (bF (cbE (sY rfl) rfl T.b_sorted boot_sorted rfl rfl rfl (paE rfl (vn 2 rfl Y0 rfl rfl) ai)))))))),?_⟩
  show cf _ _ _ [some (.ref l),some (.ref m),none,none,none,none,none,none,none] H;refine al fun D1 k1 _=>?_
  walk_at "rd";intro L hL;refine k1 _ _ (al fun D2 k2 _=>aD fun Kont hK=>?_);walk_at "rd";have s1:=ag.upd (o:= .dT []) hL;refine .inl ⟨⟨_,SqL.of (s1 _ _ hl)⟩,hK _ _ (eU (fun i σ H'=>∃o3 o4 o5 o6 o7 o8,σ=[some (.ref l),some (.ref m),some (.ref L),o3,o4,o5,o6,o7,o8]/\ag H H'/\∃kvs,H' L=some (.dT kvs)/\dn kvs fun k=>k∈aA (cs.take i))
   ⟨_,_,_,_,_,_,rfl,s1,[],aa,[],rfl,nodup_nil,fun k=>Iff.rfl⟩ (fun i σ H' _ ⟨_,_,_,_,_,_,_,q,_⟩=>SqL.of (q _ _ hl)) ?_ ?_)⟩
  ·rintro i x σ H1 hx ⟨o3,o4,o5,o6,o7,o8,rfl,sm,kvs,hLv,hks⟩;have hi:i<cs.length:=by rw[<-hrl];exact(List.getElem?_eq_some_iff.mp hx).1
   obtain⟨q,hq,rfl⟩:∃q,cs[i]? =some q/\x=V.ref q.1:=by
    unfold aO at hx;rw[W5,Y4 hi]at hx;exact⟨cs[i],Y4 hi,(X1 hx).symm⟩
   have hqm:=Y8 hq;have hqa:=hca q hqm;have hup:∀S:List (List Str),(∀k∈S,k∈aC q.2.2 (q.2.2.length-1))->∀k,k∈aA (cs.take i) ++S.map (dF q.2.1)->k∈aA cs:=fun S hS k hk=>by
    rcases mem_append.mp hk with e|e
    ·exact zw e
    ·obtain⟨z,hz,rfl⟩:=mem_map.mp e;exact mem_flatMap.mpr ⟨q,hqm,mem_map.mpr ⟨z,hS z hz,rfl⟩⟩
   have hnl:=iY hqa.2.1;refine⟨_,SqT.of (sm _ _ hqa.1),rfl,_,_,rfl,_,_,rfl,rfl,?_⟩;have hstep:=iV hq;obtain⟨⟨a,n,rows⟩,e⟩:∃z,z=q:=⟨q,rfl⟩
   subst e;obtain⟨_,_,hcut⟩:=hqa;have hcut:bQ rows:=hcut;have hup:∀S:List (List Str),(∀k∈S,k∈aC rows (rows.length-1))->∀k,k∈aA (cs.take i) ++S.map (dF n)->k∈aA cs:=hup;have hstep:aA (cs.take (i+1))=aA (cs.take i) ++(aC rows (rows.length-1)).map (dF n):=hstep;have hnl:n.length<=8:=hnl;obtain⟨wd,w1,w2,hwd⟩:=hcut.wide;have htl:=hcut.text;have hsp:=hcut.split;have hhi:=hcut.high;have hpo:=hcut.pos;show cf _ _ _ [some (.ref l),some (.ref m),some (.ref L),some (.str n),some (.str (Str.join nl rows)),o5,o6,o7,o8] H1
   generalize Str.join nl rows=z at htl hsp
   refine al fun D3 k3 _=>?_
   walk_at "rd";refine⟨by decide,le_trans (by lia:z.length+2<=5000) (by decide),fun R hR=>k3 _ _ ?_⟩;rw[show(Str.ofString "\n")=nl from rfl,hsp];have sR:=ag.upd (o:= .lst (rows.map V.str)) hR;have gR:upd H1 R (.lst (rows.map V.str)) R=_:=aa;have hL1:=sR _ _ hLv;have sm1:=sm.trans sR;have hLR:R≠L:=fun e=>by rw[e,hLv]at hR;cases hR
   generalize upd H1 R (.lst (rows.map V.str))=H1' at sR gR hL1 sm1
   refine aT fun D4 k4 _=>?_
   show pL _ _ _ _ [some (.ref l),some (.ref m),some (.ref L),some (.str n),some (.str z),some (.ref R),o6,o7,o8] H1';refine aD fun Kont hK=>?_
   walk_at "rd";have en:((rows.length:Int) -1).toNat=rows.length-1:=by lia
   refine⟨rows.length,.inl ⟨_,SqL.of gR,by simp⟩,by lia,by lia,?_⟩;rw[en];refine hK _ _ (cp (fun j σ H2=>∃o6 o7 o8,σ=[some (.ref l),some (.ref m),some (.ref L),some (.str n),some (.str z),some (.ref R),o6,o7,o8]/\ag H H2/\H2 R=some (.lst (rows.map V.str))/\∃kvs,H2 L=some (.dT kvs)/\dn kvs fun k=>k∈aA (cs.take i) ++(aC rows j).map (dF n))
    ⟨_,_,_,rfl,sm1,gR,kvs,hL1,d0 hks fun k=>by rw[show aC rows 0=[]from rfl,map_nil,append_nil]⟩ ?_ ?_)
   ·rintro j σ H2 hj ⟨o6,o7,o8,rfl,sm2,hR2,kvs2,hL2,hk2⟩;have hj:j<rows.length-1:=hj;show pL _ _ _ _ [some (.ref l),some (.ref m),some (.ref L),some (.str n),some (.str z),some (.ref R),some (.int ((0:Int) +(j:Int))),o7,o8] H2;rw[Int.zero_add];refine aT fun D5 k5 _=>?_
    show pL _ _ _ _ [some (.ref l),some (.ref m),some (.ref L),some (.str n),some (.str z),some (.ref R),some (.int (j:Int)),o7,o8] H2;refine aD fun Kont hK=>?_
    walk_at "rd";obtain⟨u,hu⟩:∃u,rows[j]? =some u:=⟨rows[j],by simp[show j<rows.length by lia]⟩
    obtain⟨r,hr'⟩:∃r,rows[j+1]? =some r:=⟨rows[j+1],by simp[show j+1<rows.length by lia]⟩
    have ul:u.cps.size=wd:=hwd u (Y8 hu);have rl:r.cps.size=wd:=hwd r (Y8 hr');have aU:atI (rows.map V.str) (j:Int)=some (.str u):=bN (by rw[W5,hu];rfl);have aR:atI (rows.map V.str) ((j:Int) +1)=some (.str r):=bN (j:=j+1) (by rw[W5,hr'];rfl);have g1:rows.getD j ⟨#[]⟩=u:=by rw[X3,hu];rfl
    have g2:rows.getD (j+1) ⟨#[]⟩=r:=by rw[X3,hr'];rfl
    have hps:aC rows (j+1)=aC rows j++(List.zip u.cps.toList r.cps.toList).filterMap dE:=by rw[fC,g1,g2];rfl
    refine⟨_,SqL.of hR2,_,aU,_,SqL.of hR2,_,aR,u,rfl,r,rfl,hK _ _ (vK (fun t σ H3=>∃o7 o8,σ=[some (.ref l),some (.ref m),some (.ref L),some (.str n),some (.str z),some (.ref R),some (.int (j:Int)),o7,o8]/\ag H H3/\H3 R=some (.lst (rows.map V.str))/\∃kvs,H3 L=some (.dT kvs)/\dn kvs fun k=>k∈aA (cs.take i) ++(aC rows j++((List.zip u.cps.toList r.cps.toList).take t).filterMap dE).map (dF n))
     ⟨_,_,rfl,sm2,hR2,kvs2,hL2,d0 hk2 fun k=>by rw[List.take_zero,List.filterMap_nil,append_nil]⟩ (by lia) ?_ ?_)⟩
    ·rintro t c d TT σ H3 hc hd ⟨o7,o8,rfl,sm3,hR3,kvs3,hL3,hk3⟩ hT;have sT:=ag.upd (o:= .tup [.str ⟨#[c]⟩,.str ⟨#[d]⟩]) hT;have hgT:upd H3 TT (.tup [.str ⟨#[c]⟩,.str ⟨#[d]⟩]) TT=some (.tup [.str ⟨#[c]⟩,.str ⟨#[d]⟩]):=aa;have smT:=sm3.trans sT;have hRT:=sT _ _ hR3;have hLT:=sT _ _ hL3
     generalize upd H3 TT (.tup [.str ⟨#[c]⟩,.str ⟨#[d]⟩])=HT at hgT smT hRT hLT
     refine⟨_,SqT.of hgT,rfl,_,_,rfl,_,_,rfl,rfl,?_⟩;show i4 _ _ _ _ [some (.ref l),some (.ref m),some (.ref L),some (.str n),some (.str z),some (.ref R),some (.int (j:Int)),some (.str ⟨#[c]⟩),some (.str ⟨#[d]⟩)] HT;refine aT fun D6 k6 _=>?_
     have nx:=kZ u r t c d hc hd;have stay:dE (c,d)=none->dn kvs3 fun k=>k∈aA (cs.take i) ++(aC rows j++((List.zip u.cps.toList r.cps.toList).take (t+1)).filterMap dE).map (dF n):=fun e=>d0 hk3 fun k=>by
      rw[<-nx,filterMap_append,xu e,append_nil]
     walk_at "rd";simp only[jn,qP];have hin:∀k∈aC rows j++((List.zip u.cps.toList r.cps.toList).take t).filterMap dE,k∈aC rows (rows.length-1):=fun k hk=>by
      rcases mem_append.mp hk with e|e
      ·exact pC (by lia) e
      ·refine pC (i:=j+1) (by lia) ?_;rw[hps];exact mem_append_right _ (xr e)
     refine cF (fun h1=>cF (fun h2=>?_) fun h2=>?_) fun h1=>?_
     ·have h1:c≠d:=by simpa using h1
      have h2:c≠46:=by simpa using h2
      have ed:(Str.ofString ".").length=1:=rfl;have l1:n.length+(Str.ofString ".").length<=sizeLine:=aZ (by lia);have l2:∀c:Nat,(n++Str.ofString ".").length+(⟨#[c]⟩:Str).length<=sizeLine:=fun c=>aZ (by
       have e:(n++Str.ofString ".").length=n.length+(Str.ofString ".").length:=size_append;have e1:(⟨#[c]⟩:Str).length=1:=rfl
       lia)
      refine⟨l1,l2 c,l1,l2 d,(show 3<=sizeLine by decide),fun p hp=>?_⟩;rw[rG,rG];have sp:=ag.upd (o:= .tup [V.str (lnS n ⟨#[c]⟩),V.str (lnS n ⟨#[d]⟩),V.str n]) hp;have bnd:=rF hk3 (hup _ hin);refine⟨_,mV.t (k:=(dF n [sgn c,sgn d]).map Sum.inr) (sp _ _ hLT) (by rw[aa];rfl) (by rw[PySem.sizeLine_eq];lia),k6 _ _ ⟨_,_,rfl,fun b o e=>by rw[ak (ao e hL)];exact sp _ _ (smT _ _ e),(ak hLR).trans (sp _ _ hRT),_,aa,pB hk3 _ _ fun k=>?_⟩⟩;rw[<-nx,filterMap_append,xt (if_pos ⟨h2,h1⟩),<-X6,X4,<-X6,mem_append];exact or_congr Iff.rfl mem_singleton
     ·exact k6 _ _ ⟨_,_,rfl,smT,hRT,kvs3,hLT,stay (if_neg fun q=>q.1 (by simpa using h2))⟩
     ·exact k6 _ _ ⟨_,_,rfl,smT,hRT,kvs3,hLT,stay (if_neg fun q=>q.2 (by simpa using h1))⟩
    ·rintro σ H3 ⟨o7,o8,rfl,sm3,hR3,kvs3,hL3,hk3⟩;rw[W7 (l:=List.zip u.cps.toList r.cps.toList) (by rw[length_zip];simp;lia),<-hps]at hk3;exact k5 _ _ ⟨_,_,_,rfl,sm3,hR3,kvs3,hL3,hk3⟩
   ·rintro σ H2 ⟨o6,o7,o8,rfl,sm2,hR2,kvs2,hL2,hk2⟩;rw[<-hstep]at hk2;exact k4 _ _ ⟨_,_,_,_,_,_,rfl,sm2,kvs2,hL2,hk2⟩
  ·rintro σ H1 ⟨o3,o4,o5,o6,o7,o8,rfl,sm,kvs,hLv,hks⟩;rw[hrl,W7 (W1 _)]at hks;refine k2 _ _ (al fun D3 k3 _=>aD fun Kont hK=>?_);walk_at "rd";refine⟨qs.length,.inl ⟨_,SqL.of (sm _ _ hm),hql.symm⟩,by lia,by lia,?_⟩;rw[Int.toNat_natCast];refine hK _ _ (cp (fun i σ H2=>∃o6,σ=[some (.ref l),some (.ref m),some (.ref L),o3,o4,o5,o6,o7,o8]/\ag H H2/\∃kvs,H2 L=some (.dT kvs)/\dn kvs fun k=>k∈aA cs++bO qs i)
    ⟨_,rfl,sm,kvs,hLv,d0 hks fun k=>by rw[show bO qs 0=[]from rfl,append_nil]⟩ ?_ ?_)
   ·rintro i σ H2 hi ⟨o6,rfl,sm2,kvs2,hL2,hk2⟩;have hi:i<qs.length:=hi;show i4 _ _ _ _ [some (.ref l),some (.ref m),some (.ref L),o3,o4,o5,some (.int ((0:Int) +(i:Int))),o7,o8] H2;rw[Int.zero_add];refine aT fun D4 k4 _=>?_
    show i4 _ _ _ _ [some (.ref l),some (.ref m),some (.ref L),o3,o4,o5,some (.int (i:Int)),o7,o8] H2;obtain⟨q,hq⟩:∃q,qs[i]? =some q:=⟨qs[i],Y4 hi⟩
    have aq:atI (qs.map fun q=>V.ref q.1) (i:Int)=some (.ref q.1):=bN (by rw[W5,hq];rfl);have hqa:=hsa q (Y8 hq);have st:=SqT.of (K:=K) (sm2 _ _ hqa.1);have sl:=SqL.of (K:=K) (sm2 _ _ hm);have hstep:=dR hq;walk_at "rd";rcases hqa.2 with⟨wd,a,b,e,hw,_⟩|⟨wd,a,y,e,hw,_⟩
    ·rw[e]at st hstep;refine⟨_,sl,_,aq,_,rfl,_,st,_,rfl,rfl,cF (fun hw2=>?_) fun hw2=>?_⟩
     ·rw[show fE i [V.str wd,V.str a,V.str b]=some [a,b,iU i]from if_pos (V.str.inj (W8 hw2))]at hstep;have hlen:(Str.ofString (toString (i:Int))).length<=21:=by
       have e:=PySem.int_text_length_le10 (a:=(i:Int)) (k:=20) (by decide) (by have:(i:Int).natAbs=i:=rfl;lia);rw[PySem.ofString_length];lia
      have e1:(Str.ofString "#").length=1:=by decide +kernel
      have hlog:(i:Int).natAbs.log2<1920:=Nat.lt_of_le_of_lt (Nat.log2_le_self _) (by have:(i:Int).natAbs=i:=rfl;lia);refine⟨_,sl,_,aq,_,rfl,_,st,_,rfl,_,sl,_,aq,_,rfl,_,st,_,rfl,hlog,aZ (by lia),(show 3<=sizeLine by decide),fun p hp=>?_⟩;rw[show Str.ofString "#"++Str.ofString (toString (i:Int))=iU i from by unfold iU;rw[mH]];have sp:=ag.upd (o:= .tup [V.str a,V.str b,V.str (iU i)]) hp;have bnd:=rF hk2 fun k hk=>hk
      rw[Y9]at bnd;have bn2:=lj qs i;refine⟨_,mV.t (k:=[a,b,iU i].map Sum.inr) (sp _ _ hL2) (by rw[aa];rfl) (by rw[PySem.sizeLine_eq];lia),k4 _ _ ⟨_,rfl,fun b o e=>by rw[ak (ao e hL)];exact sp _ _ (sm2 _ _ e),_,aa,pB hk2 _ _ fun k=>?_⟩⟩;rw[hstep,<-X6,mem_append];exact or_congr Iff.rfl mem_singleton
     ·rw[show fE i [V.str wd,V.str a,V.str b]=none from if_neg fun z=>hw2 (X7 (by rw[z]))]at hstep;refine k4 _ _ ⟨_,rfl,sm2,kvs2,hL2,?_⟩;rw[hstep];exact d0 hk2 fun k=>by rw[Option.toList_none,append_nil]
    ·rw[e]at st hstep;refine⟨_,sl,_,aq,_,rfl,_,st,_,rfl,rfl,?_⟩;rw[if_neg (by rcases hw with rfl|rfl<;> decide)];refine k4 _ _ ⟨_,rfl,sm2,kvs2,hL2,?_⟩;rw[hstep];exact d0 hk2 fun k=>by show _↔_∈_++(_++[]);rw[append_nil]
   ·rintro σ H2 ⟨o6,rfl,sm2,kvs2,hL2,hk2⟩;refine k3 _ _ ?_;walk_at "rd";obtain⟨ks,q1,q2,q3⟩:=hk2;have few:ks.length<=1000:=by
     have:=STab.nodup_sub q2 (m:=aA cs++bO qs qs.length) fun k hk=>(q3 k).mp hk
     rw[Y9]at this;have:=lj qs qs.length
     lia
    have h3:∀k∈ks,k.length=3:=fun k hk=>by
     rcases mem_append.mp ((q3 k).mp hk)with e|e
     ·obtain⟨p,hp,e⟩:=mem_flatMap.mp e;obtain⟨z,hz,rfl⟩:=mem_map.mp e;unfold dF;rw[Y9,Y6,(nG (hca p hp).2.2 hz).2.1];rfl
     ·obtain⟨i,_,a,b,rfl⟩:=pA e;rfl
    refine⟨kvs2,hL2,ks,q1,3,h3,by decide,few,fun r ss hr' ta pm so=>?_⟩;have s2:=ag.upd (o:= .lst (ss.map fun p=>V.ref p.1)) hr';exact kk r _ ss (sm2.trans s2) (sm2.free hr') aa (aJ ta fun b z e=>s2 _ _ e) ⟨pm.nodup_iff.mpr q2,so,fun k=>by rw[pm.mem_iff,q3];exact mem_append⟩
end
theorem pD{K:PySem.W.Frag}{H:Hp}:∀ts:List Str,bK K H (ts.map D.str) (ts.map V.str)
 |[]=>by simp only[map_nil,bK]
 | t::ts=>by
   simp only[map_cons,bK];refine⟨_,_,rfl,?_,pD ts⟩;simp only[Has]
theorem pE:∀ts:List Str,D.deps (ts.map D.str)<=0
 |[]=>by simp only[map_nil,D.deps];lia
 | t::ts=>by
   simp only[map_cons,D.deps,D.dep];have:=pE ts
   lia
theorem rH{K:PySem.W.Frag}{H:Hp}{a:Addr}{k:List Str}(h:H a=some (.tup (k.map V.str))):Has K H (.tup (k.map D.str)) (.ref a):=by
 simp only[Has];exact⟨a,_,rfl,SqT.of h,pD k⟩
noncomputable def ln:Sp:=fun vs H Q _=>∃(a b:Addr) (ts ss:List (Addr×List Str)),vs=[.ref a,.ref b]/\H a=some (.lst (ts.map fun t=>V.ref t.1))/\H b=some (.lst (ss.map fun t=>V.ref t.1))/\aF H ts/\aF H ss/\ts.map (·.2)=ss.map (·.2)/\∀H',ag H H'->Q (.bl true) H'
section
variable{P:Program}{w:World}{K:PySem.W.Frag}{mg:Str->Option Value}{base:Heap}
theorem cn(T:Txt K mg):Cal P w K mg base 1 "_law_right" ["_law_found","_law_due"] ln:=by
 refine T.d_law_right.cal fz (fun vs H Q E h=>?_) (fun f cdv A outer s H vs Q E hr h=>?_)
 ·obtain⟨a,b,ts,ss,rfl,_⟩:=h;rfl
 ·obtain⟨a,b,ts,ss,rfl,ha,hb,hta,htb,heq,kk⟩:=h;have hlen:ts.length=ss.length:=by
   have:=congrArg List.length heq;rwa[Y6,Y6]at this
  have la:(ts.map fun t=>V.ref t.1).length=ts.length:=Y6 _;have lb:(ss.map fun t=>V.ref t.1).length=ss.length:=Y6 _;refine⟨_,(QSs.h (ah (ifS (wT (orW (gQ (eN (K:=K) rfl (fun _=>rfl) (cbE (fW (K:=K) rfl) rfl T.b_isinstance boot_isinstance rfl rfl rfl (paE rfl (vn 0 rfl Y0 rfl rfl) (paE rfl (blE (v:= .ty "list") rfl T.b_list boot_list rfl rfl rfl) ai))))) (lz (cH (xJ (K:=K) rfl hr) rfl (cbE (df (K:=K) rfl) rfl T.b_len PySem.boot_len rfl rfl rfl (paE rfl (vn 0 rfl Y0 rfl rfl) ai)) (cbE (df (K:=K) rfl) rfl T.b_len PySem.boot_len rfl rfl rfl (paE rfl (vn 1 rfl Y0 rfl rfl) ai))))))
   (ap (bF eBl))
   bM)
   (ah (eG PassesOwn.never rfl rfl (xO (K:=K) rfl rfl T.b_zip rfl rfl (paE rfl (vn 0 rfl Y0 rfl rfl) (paE rfl (vn 1 rfl Y0 rfl rfl) ai))) (fq (K:=K) rfl rfl rfl (gsE rfl (az 2 fz.nd rfl Y0 Y1) (gsE rfl (az 3 fz.nd rfl Y0 Y1) cU)))
   (ap (ifS (wT (orW (gQ (eN (K:=K) rfl (fun _=>rfl) (cbE (fW (K:=K) rfl) rfl T.b_isinstance boot_isinstance rfl rfl rfl (paE rfl (vn 2 rfl Y0 rfl rfl) (paE rfl (blE (v:= .ty "tuple") rfl T.b_tuple boot_tuple rfl rfl rfl) ai))))) (lz (cH (xJ (K:=K) rfl hr) rfl (vn 2 rfl Y0 rfl rfl) (vn 3 rfl Y0 rfl rfl)))))
    (ap (bF eBl))
    bM)))
   (ap (bF eBl))))),?_⟩
  show cf _ _ _ [some (.ref a),some (.ref b),none,none] H;refine al fun D1 k1 _=>?_
  walk_at "rd";refine⟨.type "list",.lst ha,true,by rfl,?_⟩;rw[if_neg (by decide)];refine⟨ts.length,.inl ⟨_,SqL.of ha,la.symm⟩,ss.length,.inl ⟨_,SqL.of hb,lb.symm⟩,.inl ?_⟩;rw[if_neg (by simp[hlen])];refine k1 _ _ (al fun D2 k2 _=>aD fun Kont hK=>?_);walk_at "rd";refine⟨⟨_,SqL.of ha⟩,⟨_,SqL.of hb⟩,hK _ _ (pd (xs:=ts.map fun t=>V.ref t.1) (ys:=ss.map fun t=>V.ref t.1) (fun i σ H'=>(∃o2 o3,σ=[some (.ref a),some (.ref b),o2,o3])/\ag H H') ⟨⟨_,_,rfl⟩,fun _ _ e=>e⟩ (by rw[la,lb];lia) (fun i σ H' _ h=>⟨SqL.of (h.2 _ _ ha),SqL.of (h.2 _ _ hb)⟩) ?_ ?_)⟩
  ·rintro i x y TT σ H' hx hy ⟨⟨o2,o3,rfl⟩,sm⟩ hT;rw[W5]at hx hy;obtain⟨t,ht,rfl⟩:=map_eq_some_iff.mp hx;obtain⟨u,hu,rfl⟩:=map_eq_some_iff.mp hy;have e2:t.2=u.2:=by
    have:=congrArg (·[i]?) heq;rw[W5,W5,ht,hu]at this;exact X1 this
   have sT:=ag.upd (o:= .tup [.ref t.1,.ref u.1]) hT;have hgT:upd H' TT (.tup [.ref t.1,.ref u.1]) TT=some (.tup [.ref t.1,.ref u.1]):=aa;have smT:=sm.trans sT
   generalize upd H' TT (.tup [.ref t.1,.ref u.1])=HT at hgT smT
   refine⟨_,SqT.of hgT,rfl,_,_,rfl,_,_,rfl,rfl,?_⟩;show i4 _ _ _ _ [some (.ref a),some (.ref b),some (.ref t.1),some (.ref u.1)] HT;refine aT fun D3 k3 _=>?_
   have h1:=smT _ _ (hta t (Y8 ht)).2;have h2:=smT _ _ (htb u (Y8 hu)).2;rw[<-e2]at h2;walk_at "rd";refine⟨.type "tuple",.tup h1,true,by rfl,?_⟩;rw[if_neg (by decide)];refine .inr ⟨_,rH h1,_,rH h2,by have:=pE t.2;lia,?_⟩;rw[D.beqs_refl,if_neg (by decide)];exact k3 _ _ ⟨⟨_,_,rfl⟩,smT⟩
  ·rintro σ H' ⟨⟨o2,o3,rfl⟩,sm⟩;refine k2 _ _ ?_;walk_at "rd";exact kk H' sm
end
theorem j8(n:Str)(c:Nat):lnS n (sgn c)=dg n c:=by
 refine eK ?_;show(#[] ++n.cps++ #[46] ++ #[c]).toList=(n.cps.toList++[46,c]).toArray.toList;simp
theorem nJ{p:Addr×Str×List Str}{x:Str}:x∈lyr p↔∃c,Let p.2.2 c/\x=dg p.2.1 c:=by
 unfold lyr;rw[mem_map]
 constructor
 ·rintro⟨z,hz,rfl⟩;obtain⟨c,hc,rfl⟩:=fF hz;exact⟨c,mz.mp hc,j8 _ _⟩
 ·rintro⟨c,hc,rfl⟩;exact⟨sgn c,dP.mpr (mem_map.mpr ⟨c,mz.mpr hc,rfl⟩),j8 _ _⟩
theorem lq{d:Drn}(h:jK d){x:Str}:x∈(dG d).map (·.1)↔∃c,Let d.rows c/\x=dg d.name c:=by
 unfold dG Drn.rows;rw[map_map,mem_map]
 constructor
 ·rintro⟨a,ha,rfl⟩;obtain⟨a0,a7,hc⟩:=dW.mp ha;exact⟨sg a d.sh,(oW h.2.2.2.2.2).mpr ⟨a,a0,a7,hc,rfl⟩,rfl⟩
 ·rintro⟨c,hc,rfl⟩;obtain⟨a,a0,a7,hcol,rfl⟩:=(oW h.2.2.2.2.2).mp hc;exact⟨a,dW.mpr ⟨a0,a7,hcol⟩,rfl⟩
theorem lu{α:Type}{f:α->List Str}{nm:α->Str}:∀{xs:List α},(xs.map nm).Nodup->(∀p∈xs,(f p).Nodup)->(∀p∈xs,∀x∈f p,∃c,x=dg (nm p) c)->(xs.flatMap f).Nodup
 |[],_,_,_=>nodup_nil
 | p::xs,h1,h2,h3=>by
   rw[map_cons,nodup_cons]at h1;rw[List.flatMap_cons,nodup_append];refine⟨h2 p W6,lu h1.2 (fun q hq=>h2 q (W4 _ hq)) (fun q hq=>h3 q (W4 _ hq)),fun a ha b hb e=>?_⟩;obtain⟨q,hq,hbq⟩:=mem_flatMap.mp hb;obtain⟨c,e1⟩:=h3 p W6 a ha;obtain⟨d,e2⟩:=h3 q (W4 _ hq) b hbq;have:=(jh (e1.symm.trans (e.trans e2))).1;exact h1.1 (mem_map.mpr ⟨q,hq,this.symm⟩)
theorem tH(p:Addr×Str×List Str):(lyr p).Nodup:=by
 unfold lyr;rw[nodup_iff_pairwise_ne,pairwise_map];refine List.Pairwise.imp_of_mem (fun{x y} hx hy hne he=>?_) (nodup_iff_pairwise_ne.mp (fY ((cv p.2.2).map sgn)));obtain⟨c,_,rfl⟩:=fF hx;obtain⟨d,_,rfl⟩:=fF hy;rw[j8,j8]at he;exact hne (by rw[(jh he).2])
theorem qS(d:Drn):((dG d).map (·.1)).Nodup:=by
 unfold dG;rw[map_map,nodup_iff_pairwise_ne,pairwise_map];refine List.Pairwise.imp_of_mem (fun{x y} hx hy hne he=>?_) (nodup_iff_pairwise_ne.mp (oX d.cols));obtain⟨x0,x7,_⟩:=dW.mp hx;obtain⟨y0,y7,_⟩:=dW.mp hy;exact hne (zu x0 x7 y0 y7 (jh he).2)
theorem jJ.mono{ls ms:List Str}{xs:List V}(h:jJ ls xs)(s:∀x∈ls,x∈ms):jJ ms xs:=by
 rcases h with⟨w,a,b,e,h1,h2,h3,h4⟩|⟨w,a,y,e,h1,h2,h3⟩
 ·exact .inl ⟨w,a,b,e,h1,s _ h2,s _ h3,h4⟩
 ·exact .inr ⟨w,a,y,e,h1,s _ h2,h3⟩
theorem qT{cs:List (Addr×Str×List Str)}{ls:List Str}(h:ls.Perm (cs.flatMap lyr)){x:Str}:x∈ls↔∃p∈cs,∃c,Let p.2.2 c/\x=dg p.2.1 c:=by
 rw[h.mem_iff,mem_flatMap]
 constructor
 ·rintro⟨p,hp,hx⟩;exact⟨p,hp,nJ.mp hx⟩
 ·rintro⟨p,hp,hx⟩;exact⟨p,hp,nJ.mpr hx⟩
theorem tI{ds:List (Addr×Drn)}(h:∀p∈ds,jK p.2){x:Str}:x∈(ds.flatMap fun p=>(dG p.2).map (·.1))↔∃p∈dcs ds,∃c,Let p.2.2 c/\x=dg p.2.1 c:=by
 rw[mem_flatMap];unfold dcs
 constructor
 ·rintro⟨p,hp,hx⟩;exact⟨_,mem_map.mpr ⟨p,hp,rfl⟩,(lq (h p hp)).mp hx⟩
 ·rintro⟨q,hq,hx⟩;obtain⟨p,hp,rfl⟩:=mem_map.mp hq;exact⟨p,hp,(lq (h p hp)).mpr hx⟩
theorem pF{ds:List (Addr×Drn)}(h:∀p∈ds,jK p.2)(hn:(ds.map fun p=>p.2.name).Nodup):(ds.flatMap fun p=>(dG p.2).map (·.1)).Nodup:=
 lu (nm:=fun p:Addr×Drn=>p.2.name) hn (fun p _=>qS p.2) fun p hp x hx=>by
  obtain⟨c,_,e⟩:=(lq (h p hp)).mp hx;exact⟨c,e⟩
theorem xv{cs:List (Addr×Str×List Str)}(hn:(cs.map fun p=>p.2.1).Nodup){ls:List Str}(h:ls.Perm (cs.flatMap lyr)):ls.Nodup:=by
 rw[h.nodup_iff];exact lu (nm:=fun p:Addr×Str×List Str=>p.2.1) hn (fun p _=>tH p) fun p hp x hx=>by
  obtain⟨c,_,e⟩:=nJ.mp hx;exact⟨c,e⟩
noncomputable def vL(air:Nat->Nat)(r:Nat)(z:Str):Prop:=∀c v,z.cps[c]? =some v->okc v=true/\(v=46↔r<air c)
theorem tJ{air:Nat->Nat}{wd:Nat}{rows:List Str}(h:∀(r:Nat) (z:Str),rows[r]? =some z->z.cps.size=wd/\vL air r z)(w1:1<=wd)(w2:wd<=40)(l1:1<=rows.length)(l2:rows.length<=40)(ha:∀c,air c<rows.length):bQ rows:=by
 have at_:∀z∈rows,∃r,rows[r]? =some z:=fun z hz=>List.mem_iff_getElem?.mp hz
 refine⟨l1,l2,⟨wd,w1,w2,fun z hz=>?_⟩,fun z hz=>?_,fun i r r' e1 e2 j c c' g1 g2 hc=>?_,?_⟩
 ·obtain⟨r,e⟩:=at_ z hz;exact(h r z e).1
 ·obtain⟨r,e⟩:=at_ z hz;rw[all_eq_true];intro v hv;obtain⟨c,ec⟩:=List.mem_iff_getElem?.mp hv;exact((h r z e).2 c v (by simpa using ec)).1
 ·have:=((h _ _ e2).2 _ _ g2).2.mp hc;exact((h _ _ e1).2 _ _ g1).2.mpr (by lia)
 ·have hl:rows.length-1<rows.length:=by lia
  obtain⟨z,e⟩:∃z,rows[rows.length-1]? =some z:=⟨rows[rows.length-1],Y4 hl⟩
  obtain⟨hs,hg⟩:=h _ _ e;have h0:0<z.cps.size:=by lia
  refine⟨z,Y8 e,z.cps[0],by simp,fun q=>?_⟩;have:=(hg 0 _ (Array.getElem?_eq_getElem h0)).2.mp q;have:=ha 0
  lia
theorem xw{k:Nat}(h:k<26):okc (97+k)=true:=(by decide +kernel:∀k:Fin 26,okc (97+k.1)=true) ⟨k,h⟩
theorem pG{air:Nat->Nat}{r:Nat}{z:Str}{v:Nat}(h:vL air r z)(hv:okc v=true)(hi:v=46↔r<air z.cps.size):vL air r (z++sgn v):=fun c u e=>by
 have e':(z.cps++ #[v])[c]? =some u:=e;rw[Array.getElem?_append]at e'
 split at e'
 ·exact h c u e'
 ·have hc:c=z.cps.size:=by
   have:=(Array.getElem?_eq_some_iff.mp e').1;simp at this
   lia
  subst hc;rw[sub_self]at e';have:v=u:=by simpa using e'
  subst this;exact⟨hv,hi⟩
noncomputable def pH(K:PySem.W.Frag):Sp:=fun vs H Q _=>∃(a:Addr) (xs:List Int),vs=[.ref a]/\(∀H',ag H H'->SqL K H' a (xs.map V.int))/\xs.length=43/\(∀x∈xs,0<=x/\x<9973)/\∀H' rows,ag H H'->bQ rows->rows.length<=9->Q (.str (Str.join nl rows)) H'
section
variable{P:Program}{w:World}{K:PySem.W.Frag}{mg:Str->Option Value}{base:Heap}
theorem gA(T:Txt K mg):Cal P w K mg base 1 "_law_great" ["_law_row_here"] (pH K):=by
 refine T.d_law_great.cal aV (fun vs H Q E h=>?_) (fun f cdv A outer s H vs Q E hr h=>?_)
 ·obtain⟨a,xs,rfl,_⟩:=h;rfl
 ·obtain⟨a,xs,rfl,keep,hx43,hb,kk⟩:=h;have get:∀i:Int,0<=i->i<43->∃c,atI (xs.map V.int) i=some (V.int c)/\0<=c/\c<9973:=fun i h0 h1=>by
   obtain⟨c,e,hm⟩:=gn xs h0 (by lia);exact⟨c,e,hb c hm⟩
  obtain⟨c0,g0,l0,u0⟩:=get 0 (by decide) (by decide);obtain⟨c1,g1,l1,u1⟩:=get 1 (by decide) (by decide);obtain⟨c2,g2,l2,u2⟩:=get 2 (by decide) (by decide);have same0:ag H H:=fun _ _ e=>e
  refine⟨_,(QSs.h (ah (bg 1 aV.nd rfl Y0 Y1 rfl (opE bP am (opE bv (bY (K:=K) rfl (fun _ _=>rfl) (vn 0 rfl Y0 rfl rfl) am) am)))
   (ah (bg 2 aV.nd rfl Y0 Y1 rfl (opE bP am (opE bv (bY (K:=K) rfl (fun _ _=>rfl) (vn 0 rfl Y0 rfl rfl) am) am)))
   (ah (bg 3 aV.nd rfl Y0 Y1 rfl (bY (K:=K) rfl (fun _ _=>rfl) (dc (paE rfl am (paE rfl am (paE rfl am ai)))) (opE bv (bY (K:=K) rfl (fun _ _=>rfl) (vn 0 rfl Y0 rfl rfl) am) am)))
   (ah (bg 4 aV.nd rfl Y0 Y1 rfl bS)
   (ah (bg 5 aV.nd rfl Y0 Y1 rfl (dc ai))
   (ah (eG PassesOwn.never rfl rfl (fS rfl T.b_range rfl (paE rfl (vn 2 rfl Y0 rfl rfl) ai)) (az 6 aV.nd rfl Y0 Y1)
   (ah (bg 7 aV.nd rfl Y0 Y1 rfl bS)
    (ah (eG PassesOwn.never rfl rfl (fS rfl T.b_range rfl (paE rfl (vn 1 rfl Y0 rfl rfl) ai)) (az 8 aV.nd rfl Y0 Y1)
    (ap (ifS (cH sv rfl (vn 6 rfl Y0 rfl rfl) (opE bv (bY (K:=K) rfl (fun _ _=>rfl) (vn 0 rfl Y0 rfl rfl) (opE bv (vn 8 rfl Y0 rfl rfl) am)) (vn 2 rfl Y0 rfl rfl)))
     (ap (bg 7 aV.nd rfl Y0 Y1 rfl (opE bT (vn 7 rfl Y0 rfl rfl) bS)))
     (ah (bg 9 aV.nd rfl Y0 Y1 rfl (opE bP (opE dH (bY (K:=K) rfl (fun _ _=>rfl) (vn 0 rfl Y0 rfl rfl) (opE bv (opE bP (opE dI am (vn 8 rfl Y0 rfl rfl)) (opE dI am (vn 6 rfl Y0 rfl rfl))) am)) am) (vn 6 rfl Y0 rfl rfl)))
      (ap (bg 7 aV.nd rfl Y0 Y1 rfl (opE bT (vn 7 rfl Y0 rfl rfl) (zg (fun _ _=>rfl) (vn 4 rfl Y0 rfl rfl) (opE bv (vn 9 rfl Y0 rfl rfl) (vn 3 rfl Y0 rfl rfl))))))))))
    (ap (dq rfl (bmE (K:=K) rfl plainAttrs_list PySem.F.slot_list_append PySem.F.type_list_append bX rfl rfl rfl rfl (vn 5 rfl Y0 rfl rfl) (paE rfl (vn 7 rfl Y0 rfl rfl) ai)))))))
   (ap (bF (bmE (K:=K) rfl plainAttrs_str slot_str_join type_str_join (mZ (K:=K) rfl) rfl rfl rfl rfl bS (paE rfl (vn 5 rfl Y0 rfl rfl) ai))))))))))),?_⟩
  show cf _ _ _ [some (.ref a),none,none,none,none,none,none,none,none,none] H;refine al fun D1 k1 _=>?_
  walk_at "rd";refine⟨_,keep _ same0,_,g0,c0,rfl,by decide,k1 _ _ (al fun D2 k2 _=>?_)⟩;obtain⟨wd,ewd,wd1,wd2⟩:∃wd:Nat,(6+c0%35)=(wd:Int)/\1<=wd/\wd<=40:=⟨(6+c0%35).toNat,by lia,by lia,by lia⟩
  rw[ewd];walk_at "rd";refine⟨_,keep _ same0,_,g1,c1,rfl,by decide,k2 _ _ (al fun D3 k3 _=>?_)⟩;obtain⟨hi,ehi,hi1,hi2⟩:∃hi:Nat,(2+c1%8)=(hi:Int)/\1<=hi/\hi<=9:=⟨(2+c1%8).toNat,by lia,by lia,by lia⟩
  rw[ehi];walk_at "rd";refine⟨(show 3<=sizeLine by decide),fun p hp=>?_⟩;have sp:=ag.upd (o:= .lst [V.int 4,V.int 26,V.int 11]) hp;have gp:upd H p (.lst [V.int 4,V.int 26,V.int 11]) p=_:=aa
  generalize upd H p (.lst [V.int 4,V.int 26,V.int 11])=H1 at sp gp
  obtain⟨my,em,my1,my2⟩:∃my:Int,atI [V.int 4,V.int 26,V.int 11] (c2%3)=some (V.int my)/\0<my/\my<=26:=by
   rcases(show c2%3=0\/c2%3=1\/c2%3=2 by lia)with e|e|e<;> rw[e]<;> exact⟨_,rfl,by decide,by decide⟩
  refine⟨_,keep _ sp,_,g2,c2,rfl,by decide,_,SqL.of gp,_,em,k3 _ _ (al fun D4 k4 _=>?_)⟩;walk_at "rd";refine k4 _ _ (al fun D5 k5 _=>?_);walk_at "rd";refine⟨zero_le _,fun R hR=>k5 _ _ (al fun D6 k6 _=>aD fun Kont hK=>?_)⟩;have sR:=sp.trans (ag.upd (o:= .lst []) hR);have gx:∀c:Nat,atI (xs.map V.int) ((c:Int)%43)=some (V.int (xs.getD (c%43) 0)):=fun c=>by
   rw[show(c:Int)%43=((c%43:Nat):Int) by lia];have hl:c%43<xs.length:=by lia
   exact bN (by rw[W5,X3,Y4 hl];rfl)
  have hair:∀c:Nat,(xs.getD (c%43) 0%(hi:Int)).toNat<hi:=fun c=>by
   have:=Int.emod_lt_of_pos (xs.getD (c%43) 0) (show(0:Int)<hi by lia)
   lia
  walk_at "rd";refine⟨by lia,by lia,?_⟩;rw[Int.toNat_natCast];have hRn:∀b o,H b=some o->b≠R:=fun b o e=>ao e (sp.free hR)
  refine hK _ _ (cp (fun r σ H'=>∃o6 o7 o8 o9,σ=[some (.ref a),some (.int wd),some (.int hi),some (.int my),some (.str cO),some (.ref R),o6,o7,o8,o9]/\ag H H'/\∃rows:List Str,rows.length=r/\H' R=some (.lst (rows.map V.str))/\∀(k:Nat) (z:Str),rows[k]? =some z->z.cps.size=wd/\vL (fun c=>(xs.getD (c%43) 0%(hi:Int)).toNat) k z)
   ⟨_,_,_,_,rfl,sR,[],rfl,aa,fun k z e=>by cases e⟩ ?_ ?_)
  ·rintro r σ H2 hr2 ⟨o6,o7,o8,o9,rfl,sm,rows,hrl,hR2,hG⟩;have hr2:r<hi:=hr2;show cf _ _ _ [some (.ref a),some (.int wd),some (.int hi),some (.int my),some (.str cO),some (.ref R),some (.int ((0:Int) +(r:Int))),o7,o8,o9] H2;rw[Int.zero_add];refine al fun D7 k7 _=>?_
   walk_at "rd";refine k7 _ _ (al fun D8 k8 _=>aD fun Kont hK=>?_);walk_at "rd";refine⟨by lia,by lia,?_⟩;rw[Int.toNat_natCast];refine hK _ _ (cp (fun c σ H'=>∃z o8 o9,σ=[some (.ref a),some (.int wd),some (.int hi),some (.int my),some (.str cO),some (.ref R),some (.int (r:Int)),some (.str z),o8,o9]/\H'=H2/\z.cps.size=c/\vL (fun c=>(xs.getD (c%43) 0%(hi:Int)).toNat) r z)
    ⟨_,_,_,rfl,rfl,rfl,fun c v e=>by cases e⟩ ?_ ?_)
   ·rintro c σ H' hc ⟨z,o8,o9,rfl,rfl,hz,hg⟩;have hc:c<wd:=hc;show i4 _ _ _ _ [some (.ref a),some (.int wd),some (.int hi),some (.int my),some (.str cO),some (.ref R),some (.int (r:Int)),some (.str z),some (.int ((0:Int) +(c:Int))),o9] H';rw[Int.zero_add];refine aT fun D9 k9 _=>?_
    walk_at "rd";have zl:z.length=c:=hz;have ed:Str.ofString "."=sgn 46:=by decide +kernel
    refine⟨by decide,_,keep _ sm,_,gx c,_,rfl,by lia,cF (fun h=>?_) fun h=>?_⟩
    ·have h:=W8 h;rw[ed];refine⟨aZ (by have:(sgn 46).length=1:=rfl;lia),k9 _ _ ⟨_,_,_,rfl,rfl,?_,pG hg (by decide) ⟨fun _=>?_,fun _=>rfl⟩⟩⟩
     ·show(z.cps++ #[46]).size=c+1;rw[size_append,hz];rfl
     ·show r<(xs.getD (z.cps.size%43) 0%(hi:Int)).toNat;rw[hz]
      lia
    ·have h: ¬ (r:Int)<xs.getD (c%43) 0%(hi:Int):=fun q=>h (X7 q)
     obtain⟨x,gx2,lx,ux⟩:=get ((7*(c:Int) +3*(r:Int))%43) (by lia) (by lia);have m0:0<=(x/8+r)%my:=Int.emod_nonneg _ (by lia);have m1:=Int.emod_lt_of_pos (x/8+r) my1;refine⟨.inl ⟨by decide,by decide⟩,.inl ⟨by decide,by decide⟩,by decide,_,keep _ sm,_,gx2,_,rfl,⟨by decide,by decide⟩,my1,by decide,_,vH m0 (by lia),aZ (by show z.length+1<=5000;lia),k9 _ _ ⟨_,_,_,rfl,rfl,?_,pG hg (xw (by lia)) ⟨fun e=>by lia,fun q=>?_⟩⟩⟩
     ·show(z.cps++ #[_]).size=c+1;rw[size_append,hz];rfl
     ·have q:r<(xs.getD (z.cps.size%43) 0%(hi:Int)).toNat:=q;rw[hz]at q
      lia
   ·rintro σ H' ⟨z,o8,o9,rfl,rfl,hz,hg⟩;refine k8 _ _ (aT fun D9 k9 _=>?_);walk_at "rd";refine⟨.inl ⟨_,SqL.of hR2⟩,_,hR2,by rw[Y6];exact bB (by lia),k9 _ _ ⟨_,_,_,_,rfl,fun b o e=>(ak (hRn b o e)).trans (sm _ _ e),rows++[z],by rw[Y9,hrl];rfl,by rw[aa,X4];rfl,fun k y e=>?_⟩⟩;rw[List.getElem?_append]at e
    split at e
    ·exact hG k y e
    ·have hk:k=rows.length:=by
      have:=(List.getElem?_eq_some_iff.mp e).1;rw[length_singleton]at this
      lia
     rw[hk,sub_self]at e;have:z=y:=X1 e;rw[<-this,hk,hrl];exact⟨hz,hg⟩
  ·rintro σ H2 ⟨o6,o7,o8,o9,rfl,sm,rows,hrl,hR2,hG⟩;refine k6 _ _ ?_;walk_at "rd";have hcut:=tJ hG wd1 wd2 (by lia) (by lia) fun c=>by rw[hrl];exact hair c
   refine⟨rows,SqL.of hR2,?_,?_⟩
   ·have:=hcut.sum;rw[show(Str.ofString "\n").length=1 from rfl]
    lia
   ·rw[show Txt.join (Str.ofString "\n") rows=Str.join nl rows from StrLaws.glued_eq_join _ _];exact kk H2 rows sm hcut (by lia)
end
theorem xx{X:Cx}{K:PySem.W.Frag}{e:Expr}{lo hi:Option Expr}{te:TE}{tl th:TO}{p2 pos:Pos}(h:X.K=K)(he:QE X e te)(hl:QO X lo tl)(hu:QO X hi th):QE X (.Subscript e (.Slice lo hi none p2) pos) (tSl (wz K) te tl th):=by subst h;exact⟨nT ra he.h hl.h hu.h⟩
noncomputable def nK(K:PySem.W.Frag):Sp:=fun vs H Q _=>∃(a:Addr) (ns:List Int),vs=[.ref a]/\SqL K H a (ns.map V.int)/\wC H/\ns.length<=63/\∀H',Q (.bl true) H'
structure qU (H:Hp) (l:Addr) (cs:List (Addr×Str×List Str)):Prop where
 hl:H l=some (.lst (aO cs))
 ca:br H cs
 nd:(cs.map fun p=>p.2.1).Nodup
 p1:1<=cs.length
 p8:cs.length<=8
 few:(aA cs).length<=940
theorem qU.up{H H':Hp}{l:Addr}{cs:List (Addr×Str×List Str)}(h:qU H l cs)(s:ag H H'):qU H' l cs:=⟨s _ _ h.hl,h.ca.up s,h.nd,h.p1,h.p8,h.few⟩
theorem zx(k:Int):nmK k∈([Str.ofString "north",Str.ofString "worth",Str.ofString "norths",Str.ofString "nort"]:List Str):=by
 unfold nmK
 split
 ·simp
 ·split
  ·simp
  ·split<;> simp
structure da (H:Hp) (l m:Addr) (cs:List (Addr×Str×List Str)) (qs:List (Addr×List V)):Prop where
 hl:H l=some (.lst (aO cs))
 hm:H m=some (.lst (qs.map fun q=>V.ref q.1))
 ca:br H cs
 nd:(cs.map fun p=>p.2.1).Nodup
 p1:1<=cs.length
 p8:cs.length<=8
 sa:∀ls:List Str,ls.Perm (cs.flatMap lyr)->cm H ls qs
 q60:qs.length<=60
 few:(aA cs).length<=940
theorem qU.pair{H:Hp}{l m:Addr}{cs:List (Addr×Str×List Str)}{qs:List (Addr×List V)}(h:qU H l cs)(hm:H m=some (.lst (qs.map fun q=>V.ref q.1)))(sa:∀ls:List Str,ls.Perm (cs.flatMap lyr)->cm H ls qs)(q:qs.length<=60):da H l m cs qs:=⟨h.hl,hm,h.ca,h.nd,h.p1,h.p8,sa,q,h.few⟩
theorem da.up{H H':Hp}{l m:Addr}{cs:List (Addr×Str×List Str)}{qs:List (Addr×List V)}(h:da H l m cs qs)(s:ag H H'):da H' l m cs qs:=
 ⟨s _ _ h.hl,s _ _ h.hm,h.ca.up s,h.nd,h.p1,h.p8,fun ls p=>(h.sa ls p).up s,h.q60,h.few⟩
theorem js{rows:List Str}{wd:Nat}(h:∀r∈rows,r.cps.size<=wd):∀i,(aC rows i).length<=i*wd
 | 0=>by rw[Nat.zero_mul];exact W1 _
 | i+1=>by
   rw[fC,Y9,add_mul,one_mul];have h1:=js h i;have h2:=lc (rows.getD i ⟨#[]⟩) (rows.getD (i+1) ⟨#[]⟩);have h3:(rows.getD i ⟨#[]⟩).length<=wd:=by
    rw[X3];cases e:rows[i]? with
    | none=>exact zero_le _
    | some r=>exact h r (Y8 e)
   lia
theorem gB{B:Nat}:∀{cs:List (Addr×Str×List Str)},(∀p∈cs,(aC p.2.2 (p.2.2.length-1)).length<=B)->(aA cs).length<=B*cs.length
 |[],_=>zero_le _
 | p::cs,h=>by
   have:=gB fun q hq=>h q (W4 _ hq)
   have:=h p W6;unfold aA at*;rw[List.flatMap_cons,Y9,Y6,V1,Nat.mul_succ]
   lia
theorem mI(xs:List V)(n:Nat):gP xs none (some (n:Int))=xs.take n:=by
 unfold gP;rw[HT.sIx_none,HT.sIx_nat,drop_zero,Nat.sub_zero];by_cases h:n<=xs.length
 ·rw[min_eq_left h]
 ·rw[Nat.min_eq_right (by lia),List.take_length,W7 (by lia)]
theorem vM(cs es:List (Addr×Str×List Str)):aA (cs++es)=aA cs++aA es:=flatMap_append
theorem fG.len{cs:List (Addr×Str×List Str)}{qs:List (Addr×List V)}{ks:List (List Str)}(h:fG cs qs ks):ks.length<=(aA cs).length+qs.length:=by
 have:=STab.nodup_sub h.nd (m:=aA cs++bO qs qs.length) fun k hk=>mem_append.mpr ((h.mem k).mp hk)
 rw[Y9]at this;have:=lj qs qs.length
 lia
section
variable{P:Program}{w:World}{K:PySem.W.Frag}{mg:Str->Option Value}{base:Heap}
theorem rJ{H:Hp}{g dx a b l m:Addr}{cs:List (Addr×Str×List Str)}{qs:List (Addr×List V)}{R:Hp->Prop}(fg:H g=none)(fdx:H dx=none)(ha:H a=some (.lst (aO cs)))(hb:H b=some (.lst (qs.map fun q=>V.ref q.1)))(p:da H l m cs qs)
 (k:∀H' ts c4,ag H H'->GrT mg H' g c4 ts->fG cs qs (ts.map (·.2))->R H'):
 nI mg [.ref g,.ref a,.ref b] (upd (upd H dx (.own g)) g (.ins (cw mg "Ground") dx [])) (fun v H2=>v= .non/\R H2) E0:=by
 have s0:ag H (upd (upd H dx (.own g)) g (.ins (cw mg "Ground") dx [])):=fun b o e=>by
  rw[ak (ao e fg),ak (ao e fdx)];exact e
 exact⟨g,a,b,dx,cs,qs,rfl,aa,s0 _ _ ha,s0 _ _ hb,p.ca.up s0,p.nd,p.p1,p.p8,fun ls q=>(p.sa ls q).up s0,p.q60,fun H' ts c4 bb n4 gr tk=>⟨rfl,k H' ts c4 (fun b o e=>bb b o (ao e fg) (s0 _ _ e)) gr tk⟩⟩
theorem pI{H:Hp}{l m:Addr}{cs:List (Addr×Str×List Str)}{qs:List (Addr×List V)}{Q:VK}{E:XK}(p:da H l m cs qs)(k:∀r H' (ss:List (Addr×List Str)),ag H H'->H r=none->H' r=some (.lst (ss.map fun t=>V.ref t.1))->aF H' ss->fG cs qs (ss.map (·.2))->Q (.ref r) H'):lm [.ref l,.ref m] H Q E:=
 ⟨l,m,cs,qs,_,rfl,p.hl,p.hm,p.ca,p.sa _ (List.Perm.refl _),p.q60,p.few,k⟩
theorem fj{H:Hp}{g c4:Addr}{ts:List (Addr×List Str)}{Q:VK}{E:XK}(h:GrT mg H g c4 ts)(k:∀l,H l=none->Q (.ref l) (upd H l (.lst (ts.map fun t=>V.ref t.1)))):∃dx fs,H g=some (.ins (cw mg "Ground") dx fs)/\List.lookup (Str.ofString "ties") fs=none/\nH mg [.ref g] H Q E:=by
 obtain⟨dx,c1,c2,c3,h0⟩:=h.at_;exact⟨dx,_,h0,rfl,g,c4,ts,rfl,h,k⟩
theorem gC{H:Hp}{a b:Addr}{ts ss:List (Addr×List Str)}{Q:VK}{E:XK}(ha:H a=some (.lst (ts.map fun t=>V.ref t.1)))(hb:H b=some (.lst (ss.map fun t=>V.ref t.1)))(ta:aF H ts)(tb:aF H ss)(e:ts.map (·.2)=ss.map (·.2))(k:∀H',ag H H'->Q (.bl true) H'):ln [.ref a,.ref b] H Q E:=
 ⟨a,b,ts,ss,rfl,ha,hb,ta,tb,e,k⟩
theorem zy{f:Addr}{fd:FuncData}(F:Fun K "law" "law" gW f fd)(T:Txt K mg):hJ P w K mg base CX0 12 f fd ["_law_script"] (nK K):=by
 have jk:Cal P w K mg base 2 "_law_row" ["_law_script","_law_many"] (vF K):=jk T;have fI:Cal P w K mg base 3 "_law_ground" ["_law_row_here"] (mG K):=fI T;have fJ:Cal P w K mg base 1 "_law_ties" ["_law_cuts","_law_sayings"] lm:=fJ T;have cn:Cal P w K mg base 1 "_law_right" ["_law_found","_law_due"] ln:=cn T;have gA:Cal P w K mg base 1 "_law_great" ["_law_row_here"] (pH K):=gA T;have iZ:xk P w K mg base 6 "Ground" ["self","cuts","sayings"] (nI mg):=iZ T;have bL:xj P w K mg base 1 "Ground" "ties" ["self"] (nH mg):=bL T;refine F.ok ce (fun vs H Q E h=>?_) (fun cdv A outer s H vs Q E hr h=>?_)
 ·obtain⟨a,ns,rfl,_⟩:=h;rfl
 ·obtain⟨a,ns,rfl,hs,ho,hn,kk⟩:=h;refine⟨_,(QSs.h (ah (bg 1 ce.nd rfl Y0 Y1 rfl (bC jk hr rfl rfl rfl rfl (paE rfl (vn 0 rfl Y0 rfl rfl) (paE rfl am ai))))
   (ah (wR rfl rfl rfl (bC fI hr rfl rfl rfl rfl (paE rfl (vn 1 rfl Y0 rfl rfl) ai)) (fq (K:=K) rfl rfl rfl (gsE rfl (az 2 ce.nd rfl Y1 Y0) (gsE rfl (az 3 ce.nd rfl Y0 Y1) (gsE rfl (az 4 ce.nd rfl Y0 Y1) cU)))))
   (ah (bg 5 ce.nd rfl Y0 Y1 rfl (xP iZ T.o_Ground hr rfl rfl rfl rfl (paE rfl (ctE (ig (K:=K) rfl) rfl T.b_list boot_list rfl rfl rfl (paE rfl (vn 2 rfl (Or.inr Y0) rfl rfl) ai)) (paE rfl (ctE (ig (K:=K) rfl) rfl T.b_list boot_list rfl rfl rfl (paE rfl (vn 3 rfl Y0 rfl rfl) ai)) ai))))
   (ah (bg 6 ce.nd rfl Y0 Y1 rfl (bC fJ hr rfl rfl rfl rfl (paE rfl (vn 2 rfl (Or.inr Y0) rfl rfl) (paE rfl (vn 3 rfl Y0 rfl rfl) ai))))
   (ah (bg 7 ce.nd rfl Y0 Y1 rfl (kR bL T.o_Ground hr rfl rfl (vn 5 rfl Y0 rfl rfl)))
   (ah (ifS (gQ (eN (K:=K) rfl (fun _=>rfl) (bC cn hr rfl rfl rfl rfl (paE rfl (vn 7 rfl Y0 rfl rfl) (paE rfl (vn 6 rfl Y0 rfl rfl) ai)))))
   (ap (bF eBl))
   bM)
   (ah (dq rfl (bmE (K:=K) rfl plainAttrs_list PySem.F.slot_list_append PySem.F.type_list_append bX rfl rfl rfl rfl (vn 7 rfl Y0 rfl rfl) (paE rfl (de (paE rfl bS (paE rfl bS (paE rfl bS ai)))) ai)))
   (ah (ifS (gQ (eN (K:=K) rfl (fun _=>rfl) (bC cn hr rfl rfl rfl rfl (paE rfl (kR bL T.o_Ground hr rfl rfl (vn 5 rfl Y0 rfl rfl)) (paE rfl (vn 6 rfl Y0 rfl rfl) ai)))))
   (ap (bF eBl))
   bM)
   (ah (bg 8 ce.nd rfl Y0 Y1 rfl (kR bL T.o_Ground hr rfl rfl (vn 5 rfl Y0 rfl rfl)))
   (ah (bg 9 ce.nd rfl Y0 Y1 rfl (opE bT (vn 2 rfl (Or.inr Y0) rfl rfl) (dc (paE rfl (de (paE rfl bS (paE rfl (eQ (K:=K) rfl (fun _ _=>rfl) (bY (K:=K) rfl (fun _ _=>rfl) (vn 2 rfl (Or.inr Y0) rfl rfl) am) am) ai))) ai))))
   (ah (bg 10 ce.nd rfl Y0 Y1 rfl (opE mY (dc (paE rfl (de (paE rfl bS (paE rfl (bY (K:=K) rfl (fun _ _=>rfl) (vn 4 rfl Y0 rfl rfl) am) (paE rfl am ai)))) ai)) am))
   (ah (ifS (cH wS rfl (cbE (df (K:=K) rfl) rfl T.b_len PySem.boot_len rfl rfl rfl (paE rfl (vn 4 rfl Y0 rfl rfl) ai)) am)
   (ap (bg 10 ce.nd rfl Y0 Y1 rfl (opE bT (opE bT (opE bT (xx (K:=K) rfl (vn 10 rfl Y0 rfl rfl) noO (iB am)) (dc (paE rfl (de (paE rfl bS (paE rfl (bY (K:=K) rfl (fun _ _=>rfl) (vn 4 rfl Y0 rfl rfl) am) (paE rfl (bY (K:=K) rfl (fun _ _=>rfl) (vn 4 rfl Y0 rfl rfl) am) ai)))) ai))) (xx (K:=K) rfl (vn 10 rfl Y0 rfl rfl) noO (iB am))) (dc (paE rfl (de (paE rfl bS (paE rfl (bY (K:=K) rfl (fun _ _=>rfl) (vn 4 rfl Y0 rfl rfl) am) (paE rfl (bY (K:=K) rfl (fun _ _=>rfl) (vn 4 rfl Y0 rfl rfl) am) ai)))) ai)))))
   bM)
   (ah (bg 11 ce.nd rfl Y0 Y1 rfl (dc (paE rfl (de (paE rfl bS (paE rfl (bC gA hr rfl rfl rfl rfl (paE rfl (vn 1 rfl Y0 rfl rfl) ai)) ai))) ai)))
   (ah (bg 12 ce.nd rfl Y0 Y1 rfl (opE bT (fT (aG.of (show cP (af gW) ["_law_script","_law_row_here","_law_cuts","_law_sayings","_law_layers","_law_ground_here","_law_due","_law_found","_law_kept","_law_more","_law_filled","_law_great_here","_law_eight","_law_pairs","_law_some","_law_said"] _ ["_law_k","_law_cuts"] [(1,2)]=true from by decide +kernel)) rfl rfl (fS rfl T.b_range rfl (paE rfl am ai)) (fun _ _ _=>(az 0 (show(["_law_k","_law_cuts"]:List Str).Nodup from by decide +kernel) rfl Y0 Y1)) (fun _ _ _=>lA) (fun _ _ _=>(de (paE rfl (zg (fun _ _=>rfl) bS (vn 0 rfl Y0 rfl rfl)) (paE rfl (eQ (K:=K) rfl (fun _ _=>rfl) (bY (K:=K) rfl (fun _ _=>rfl) (vn 1 rfl (Or.inr Y0) rfl rfl) (opE bv (vn 0 rfl Y0 rfl rfl) (cbE (df (K:=K) rfl) rfl T.b_len PySem.boot_len rfl rfl rfl (paE rfl (vn 1 rfl (Or.inr Y0) rfl rfl) ai)))) am) ai))))) (dc (paE rfl (de (paE rfl bS (paE rfl (eQ (K:=K) rfl (fun _ _=>rfl) (bY (K:=K) rfl (fun _ _=>rfl) (vn 11 rfl Y0 rfl rfl) am) am) ai))) ai))))
   (ah (bg 13 ce.nd rfl Y0 Y1 rfl (dc (paE rfl (de (paE rfl (vn 2 rfl (Or.inr Y0) rfl rfl) (paE rfl (dc ai) ai))) (paE rfl (de (paE rfl (vn 9 rfl Y0 rfl rfl) (paE rfl (xx (K:=K) rfl (vn 3 rfl Y0 rfl rfl) noO (iB am)) ai))) (paE rfl (de (paE rfl (vn 2 rfl (Or.inr Y0) rfl rfl) (paE rfl (vn 10 rfl Y0 rfl rfl) ai))) (paE rfl (de (paE rfl (opE bT (vn 11 rfl Y0 rfl rfl) (vn 2 rfl (Or.inr Y0) rfl rfl)) (paE rfl (vn 3 rfl Y0 rfl rfl) ai))) ai))))))
   (ah (bg 13 ce.nd rfl Y0 Y1 rfl (opE bT (vn 13 rfl Y0 rfl rfl) (dc (paE rfl (de (paE rfl (vn 12 rfl Y0 rfl rfl) (paE rfl (dc ai) ai))) (paE rfl (de (paE rfl (xx (K:=K) rfl (vn 2 rfl (Or.inr Y0) rfl rfl) noO (iB am)) (paE rfl (dc ai) ai))) ai)))))
   (ah (eG PassesOwn.never rfl rfl (ie (K:=K) rfl (vn 13 rfl Y0 rfl rfl)) (fq (K:=K) rfl rfl rfl (gsE rfl (az 14 ce.nd rfl Y0 Y1) (gsE rfl (az 15 ce.nd rfl Y0 Y1) cU)))
   (ap (ifS (gQ (eN (K:=K) rfl (fun _=>rfl) (bC cn hr rfl rfl rfl rfl (paE rfl (kR bL T.o_Ground hr rfl rfl (xP iZ T.o_Ground hr rfl rfl rfl rfl (paE rfl (ctE (ig (K:=K) rfl) rfl T.b_list boot_list rfl rfl rfl (paE rfl (vn 14 rfl Y0 rfl rfl) ai)) (paE rfl (ctE (ig (K:=K) rfl) rfl T.b_list boot_list rfl rfl rfl (paE rfl (vn 15 rfl Y0 rfl rfl) ai)) ai)))) (paE rfl (bC fJ hr rfl rfl rfl rfl (paE rfl (vn 14 rfl Y0 rfl rfl) (paE rfl (vn 15 rfl Y0 rfl rfl) ai))) ai)))))
    (ap (bF eBl))
    bM)))
   (ap (bF (lw (bC cn hr rfl rfl rfl rfl (paE rfl (kR bL T.o_Ground hr rfl rfl (vn 5 rfl Y0 rfl rfl)) (paE rfl (vn 6 rfl Y0 rfl rfl) ai))) (mW (bC cn hr rfl rfl rfl rfl (paE rfl (vn 8 rfl Y0 rfl rfl) (paE rfl (vn 6 rfl Y0 rfl rfl) ai))))))))))))))))))))))))),?_⟩
  show cf _ _ _ [some (.ref a),none,none,none,none,none,none,none,none,none,none,none,none,none,none,none] H;refine al fun D1 k1 _=>?_
  walk_at "rd";refine⟨a,ns,43,rfl,hs,by lia,by decide,by decide,fun l0 H0 xs s0 f0 h0 hx hb=>k1 _ _ (al fun D2 k2 _=>?_)⟩;walk_at "rd";refine⟨l0,xs,rfl,SqL.of h0,fun H' sm=>SqL.of (sm _ _ h0),hx,hb,fun t l1 l2 l3 H1 ds qs s1 ft f1 f2 f3 n12 n13 n23 ht h1 h2 h3 d1 d3 hdo hnd hca hsa hq hnk hnl=>?_⟩;walk_at "rd";refine⟨_,SqT.of ht,rfl,_,_,rfl,_,_,rfl,_,_,rfl,rfl,k2 _ _ (al fun D3 k3 _=>?_)⟩;have nm:((dcs ds).map fun p=>p.2.1).Nodup:=by
   unfold dcs;rw[map_map];exact hnd
  have dl:(dcs ds).length=ds.length:=by unfold dcs;rw[Y6]
  have sub:∀cs:List (Addr×Str×List Str),(∀p∈dcs ds,p∈cs)->∀ls:List Str,ls.Perm (cs.flatMap lyr)->∀x∈(ds.flatMap fun p=>(dG p.2).map (·.1)),x∈ls:=fun cs hc ls p x hx=>by
   obtain⟨q,hq,c⟩:=(tI hdo).mp hx;exact(qT p).mpr ⟨q,hc q hq,c⟩
  have few:∀p∈dcs ds,(aC p.2.2 (p.2.2.length-1)).length<=25:=fun p hp=>by
   unfold dcs at hp;obtain⟨d,hd,rfl⟩:=mem_map.mp hp;have ok:=hdo d hd;show(aC d.2.rows (d.2.rows.length-1)).length<=25;have e1:d.2.rows.length=d.2.hi:=by unfold Drn.rows drawn;rw[Y6,length_range]
   have e2:=js (rows:=d.2.rows) (wd:=5) (fun r hr=>by
    unfold Drn.rows drawn at hr;obtain⟨k,_,rfl⟩:=mem_map.mp hr;unfold fO;have:=ok.2.2.2.2.1;simpa using this) (d.2.rows.length-1)
   have:=ok.2.2.1
   lia
  have fewc:=gB few;have P1:da H1 l1 l2 (dcs ds) qs:=⟨h1,h2,hca,nm,by lia,by lia,fun ls p q hq'=>⟨(hsa q hq').1,(hsa q hq').2.mono (sub _ (fun _ h=>h) ls p)⟩,by lia,by lia⟩
  walk_at "rd";refine⟨_,.inl (SqL.of h1),fun a1 fa1=>⟨_,.inl (SqL.of (ag.upd fa1 _ _ h2)),fun b1 fb1=>?_⟩⟩;have t1:=ag.upd (o:= .lst (aO (dcs ds))) fa1;have ga1:upd H1 a1 (.lst (aO (dcs ds))) a1=some (.lst (aO (dcs ds))):=aa
  generalize upd H1 a1 (.lst (aO (dcs ds)))=H2 at t1 ga1 fb1 ⊢
  have t2:=ag.upd (o:= .lst (qs.map fun q=>V.ref q.1)) fb1;have gb1:upd H2 b1 (.lst (qs.map fun q=>V.ref q.1)) b1=some (.lst (qs.map fun q=>V.ref q.1)):=aa;have ga2:=t2 _ _ ga1
  generalize upd H2 b1 (.lst (qs.map fun q=>V.ref q.1))=H3 at t2 gb1 ga2 ⊢
  have t13:=t1.trans t2;refine fun g dx fg fdx ngd=>rJ fg fdx ga2 gb1 (P1.up t13) fun H4 ts c4 t4 gr tk=>k3 _ _ (al fun D4 k4 _=>?_)
  have t14:=t13.trans t4;walk_at "rd";refine pI (P1.up t14) fun due H5 ss t5 fd5 hdue tss tk2=>k4 _ _ (al fun D5 k5 _=>?_)
  have eq0:ts.map (·.2)=ss.map (·.2):=tk.one tk2;have gr5:=gr.up t5;have t15:=t14.trans t5;have h05:=(s1.trans t15) _ _ h0;have h35:=t15 _ _ h3;have P5:=P1.up t15;walk_at "rd";refine fj gr5 fun fo ffo=>k5 _ _ (al fun D6 k6 _=>?_)
  have t6:=ag.upd (o:= .lst (ts.map fun t=>V.ref t.1)) ffo;have gfo:upd H5 fo (.lst (ts.map fun t=>V.ref t.1)) fo=some (.lst (ts.map fun t=>V.ref t.1)):=aa
  generalize upd H5 fo (.lst (ts.map fun t=>V.ref t.1))=H6 at t6 gfo
  have tss':∀{H':Hp},ag H5 H'->aF H' ss:=fun s=>aJ tss fun b z e=>s _ _ e
  walk_at "rd";refine gC gfo (t6 _ _ hdue) (gr5.up t6).tu (tss' t6) eq0 fun H7 t7=>?_
  refine⟨true,rfl,?_⟩;rw[if_neg (by decide)];refine k6 _ _ (al fun D7 k7 _=>?_);have tlen:ts.length<=1000:=by
   have e:=tk.len;rw[Y6]at e;have:=P1.few
   lia
  walk_at "rd";refine⟨.inl ⟨_,SqL.of (t7 _ _ gfo)⟩,(show 3<=sizeLine by decide),fun p hp=>⟨_,ag.upd hp _ _ (t7 _ _ gfo),by rw[Y6];exact bB (by lia),k7 _ _ (al fun D8 k8 _=>?_)⟩⟩;have s58:=ag.set (o:= .lst (ts.map (fun t=>V.ref t.1) ++[V.ref p])) ((t6.trans t7).trans (ag.upd (o:= .tup [V.str (Str.ofString "x"),V.str (Str.ofString "y"),V.str (Str.ofString "z")]) hp)) ffo
  generalize upd (upd H7 p (.tup [V.str (Str.ofString "x"),V.str (Str.ofString "y"),V.str (Str.ofString "z")])) fo (.lst (ts.map (fun t=>V.ref t.1) ++[V.ref p]))=H8 at s58
  walk_at "rd";refine fj (gr5.up s58) fun m1 fm1=>?_
  have s59:=s58.trans (ag.upd (o:= .lst (ts.map fun t=>V.ref t.1)) fm1);refine gC aa (s59 _ _ hdue) (gr5.up s59).tu (tss' s59) eq0 fun H9 t9=>⟨true,rfl,?_⟩
  rw[if_neg (by decide)];have s5A:=s59.trans t9;refine k8 _ _ (al fun D9 k9 _=>?_);walk_at "rd";refine fj (gr5.up s5A) fun kp fkp=>k9 _ _ (al fun D10 k10 _=>?_)
  have tkp:=ag.upd (o:= .lst (ts.map fun t=>V.ref t.1)) fkp;have gkp:upd H9 kp (.lst (ts.map fun t=>V.ref t.1)) kp=some (.lst (ts.map fun t=>V.ref t.1)):=aa;have sb:=s5A.trans tkp
  generalize upd H9 kp (.lst (ts.map fun t=>V.ref t.1))=HB at gkp sb
  have PB:=P5.up sb;have grB:=gr5.up sb;have dueB:=sb _ _ hdue;have kE:=sb _ _ h05;have layB:=sb _ _ h35;have hsaB:=hsa.up (t15.trans sb);clear s58 s59 t9 s5A tkp t6 t7 gfo fm1 fkp ffo;obtain⟨q0,hq0⟩:∃q0,(dcs ds)[0]? =some q0:=⟨(dcs ds)[0]'(by lia),Y4 _⟩
  have q0m:=Y8 hq0;have aq0:atI (aO (dcs ds)) 0=some (.ref q0.1):=bN (j:=0) (by unfold aO;rw[W5,hq0];rfl);have cq0:=PB.ca q0 q0m;have nk:∀z:Str,(z∉([Str.ofString "north",Str.ofString "worth",Str.ofString "norths",Str.ofString "nort"]:List Str))->z∉(dcs ds).map fun p=>p.2.1:=fun z hz hm=>by
   unfold dcs at hm;rw[map_map]at hm;obtain⟨p,hp,e⟩:=mem_map.mp hm;obtain⟨k,ek⟩:=hnk p hp;exact hz (by rw[<-e];show p.2.name∈_;rw[ek];exact zx k)
  walk_at "rd";refine⟨_,SqL.of PB.hl,_,aq0,_,rfl,_,SqT.of cq0.1,_,rfl,(show 2<=sizeLine by decide),fun pn fpn=>⟨(show 1<=sizeLine by decide),fun pl fpl=>?_⟩⟩;have u1:=ag.upd (o:= .tup [V.str (Str.ofString "new"),V.str (Str.join nl q0.2.2)]) fpn;have gpn:upd HB pn (.tup [V.str (Str.ofString "new"),V.str (Str.join nl q0.2.2)]) pn=_:=aa
  generalize upd HB pn (.tup [V.str (Str.ofString "new"),V.str (Str.join nl q0.2.2)])=HC at u1 gpn fpl ⊢
  have u2:=ag.upd (o:= .lst [V.ref pn]) fpl;have gpl:upd HC pl (.lst [V.ref pn]) pl=_:=aa;have gpn:=u2 _ _ gpn
  generalize upd HC pl (.lst [V.ref pn])=HD at u2 gpl gpn ⊢
  have uBD:=u1.trans u2;have rl:(aO (dcs ds)).length=ds.length:=by unfold aO;rw[Y6,dl]
  refine⟨_,uBD _ _ PB.hl,_,gpl,aZ (by rw[rl];show ds.length+1<=_;lia),fun mo fmo=>k10 _ _ (al fun D11 k11 _=>?_)⟩;have u3:=ag.upd (o:= .lst (aO (dcs ds) ++[V.ref pn])) fmo;have hmo:upd HD mo (.lst (aO (dcs ds) ++[V.ref pn])) mo=_:=aa;have gpn:=u3 _ _ gpn
  generalize upd HD mo (.lst (aO (dcs ds) ++[V.ref pn]))=HE at u3 hmo gpn
  have uBE:=uBD.trans u3;have CM:qU HE mo (dcs ds++[(pn,Str.ofString "new",q0.2.2)]):=by
   refine⟨by rw[hmo];unfold aO;rw[X4];rfl,(PB.ca.up uBE).snoc ⟨gpn,(show eD (Str.ofString "new")=true by decide +kernel),cq0.2.2⟩,?_,?_,?_,?_⟩
   ·rw[X4,nodup_append];refine⟨nm,by simp,fun x hx y hy e=>?_⟩;rw[map_cons,map_nil,mem_singleton]at hy;rw[e,hy]at hx;exact nk (Str.ofString "new") (by decide +kernel) hx
   ·rw[Y9];exact Nat.le_add_left _ _
   ·rw[Y9,dl];show ds.length+1<=8;lia
   ·have:=gB (B:=25) (cs:=dcs ds++[(pn,Str.ofString "new",q0.2.2)]) fun p hp=>by
     rcases mem_append.mp hp with e|e
     ·exact few p e
     ·rw[mem_singleton.mp e];exact few q0 q0m
    rw[Y9,dl]at this;have:[(pn,Str.ofString "new",q0.2.2)].length=1:=rfl
    lia
  obtain⟨z0,hz0⟩:∃z0,(ds.flatMap fun p=>(dG p.2).map (·.1))[0]? =some z0:=⟨_,Y4 (by lia)⟩
  have z0m:=Y8 hz0;have az0:atI ((ds.flatMap fun p=>(dG p.2).map (·.1)).map V.str) 0=some (.str z0):=bN (j:=0) (by rw[W5,hz0];rfl);walk_at "rd";refine⟨_,SqL.of (uBE _ _ layB),_,az0,(show 3<=sizeLine by decide),fun ps fps=>⟨(show 1<=sizeLine by decide),fun pq fpq=>?_⟩⟩;have u4:=ag.upd (o:= .tup [V.str (Str.ofString "since"),V.str z0,V.int 5]) fps;have gps:upd HE ps (.tup [V.str (Str.ofString "since"),V.str z0,V.int 5]) ps=_:=aa
  generalize upd HE ps (.tup [V.str (Str.ofString "since"),V.str z0,V.int 5])=HF at u4 gps fpq ⊢
  have u5:=ag.upd (o:= .lst [V.ref ps]) fpq;have gpq:upd HF pq (.lst [V.ref ps]) pq=_:=aa;have gps:=u5 _ _ gps
  generalize upd HF pq (.lst [V.ref ps])=HG at u5 gpq gps ⊢
  refine⟨_,gpq,by decide,by decide,(show 1*10<=sizeLine by decide),fun fi ffi=>k11 _ _ (al fun D12 k12 _=>?_)⟩;rw[show(List.replicate (Int.toNat 10) [V.ref ps]).flatten=[V.ref ps,V.ref ps,V.ref ps,V.ref ps,V.ref ps,V.ref ps,V.ref ps,V.ref ps,V.ref ps,V.ref ps]from rfl];have u6:=ag.upd (o:= .lst [V.ref ps,V.ref ps,V.ref ps,V.ref ps,V.ref ps,V.ref ps,V.ref ps,V.ref ps,V.ref ps,V.ref ps]) ffi;have gfi:upd HG fi (.lst [V.ref ps,V.ref ps,V.ref ps,V.ref ps,V.ref ps,V.ref ps,V.ref ps,V.ref ps,V.ref ps,V.ref ps]) fi=_:=aa;have gps:=u6 _ _ gps
  generalize upd HG fi (.lst [V.ref ps,V.ref ps,V.ref ps,V.ref ps,V.ref ps,V.ref ps,V.ref ps,V.ref ps,V.ref ps,V.ref ps])=HH at u6 gfi gps
  have uEH:=u4.trans (u5.trans u6);have uBH:=uBE.trans uEH
  suffices go:∀(HI:Hp) (fi:Addr) (qF:List (Addr×List V)),ag HH HI->HI fi=some (.lst (qF.map fun q=>V.ref q.1))->(∀ls:List Str,(∀x∈(ds.flatMap fun p=>(dG p.2).map (·.1)),x∈ls)->cm HI ls qF)->qF.length<=60->
   D12.nx [some (.ref a),some (.ref l0),some (.ref l1),some (.ref l2),some (.ref l3),some (.ref g),some (.ref due),some (.ref fo),some (.ref kp),some (.ref mo),some (.ref fi),none,none,none,none,none] HI by
   have sayS:∀ls:List Str,(∀x∈(ds.flatMap fun p=>(dG p.2).map (·.1)),x∈ls)->jJ ls [V.str (Str.ofString "since"),V.str z0,V.int 5]:=fun ls hs=> .inr ⟨_,_,5,rfl,.inl rfl,hs z0 z0m,by decide,by decide⟩
   walk_at "rd";refine⟨_,.inl ⟨_,SqL.of (uBH _ _ layB),(Y6 _).symm⟩,cF (fun h=>?_) fun h=>?_⟩
   ·have c2:gP [V.ref ps,V.ref ps,V.ref ps,V.ref ps,V.ref ps,V.ref ps,V.ref ps,V.ref ps,V.ref ps,V.ref ps] none (some 2)=[V.ref ps,V.ref ps]:=rfl;have c7:gP [V.ref ps,V.ref ps,V.ref ps,V.ref ps,V.ref ps,V.ref ps,V.ref ps,V.ref ps,V.ref ps,V.ref ps] none (some 7)=[V.ref ps,V.ref ps,V.ref ps,V.ref ps,V.ref ps,V.ref ps,V.ref ps]:=rfl;have h:1<(ds.flatMap fun p=>(dG p.2).map (·.1)).length:=by have:=W8 h;lia
    obtain⟨z1,hz1⟩:∃z1,(ds.flatMap fun p=>(dG p.2).map (·.1))[1]? =some z1:=⟨_,Y4 h⟩
    have az1:atI ((ds.flatMap fun p=>(dG p.2).map (·.1)).map V.str) 1=some (.str z1):=bN (j:=1) (by rw[W5,hz1];rfl);have z01:z0≠z1:=by
     have:=List.pairwise_iff_getElem.mp (nodup_iff_pairwise_ne.mp (pF hdo hnd)) 0 1 (by lia) h (by decide);rw[Y4 (by lia)]at hz0 hz1;rwa[X1 hz0,X1 hz1]at this
    have la:=uBH _ _ layB;have t3:3<=sizeLine:=by decide
    have t1':1<=sizeLine:=by decide
    refine⟨_,SqL.of gfi,fun y1 fy1=>?_⟩;rw[c2];have v1:=ag.upd (o:= .lst [V.ref ps,V.ref ps]) fy1;have gy1:upd HH y1 (.lst [V.ref ps,V.ref ps]) y1=_:=aa
    generalize upd HH y1 (.lst [V.ref ps,V.ref ps])=I1 at v1 gy1 ⊢
    have la:=v1 _ _ la;have gfi:=v1 _ _ gfi;have gps:=v1 _ _ gps;refine⟨_,SqL.of la,_,az0,_,SqL.of la,_,az1,t3,fun y2 fy2=>⟨t1',fun y3 fy3=>?_⟩⟩;have v2:=ag.upd (o:= .tup [V.str (Str.ofString "later"),V.str z0,V.str z1]) fy2;have gy2:upd I1 y2 (.tup [V.str (Str.ofString "later"),V.str z0,V.str z1]) y2=_:=aa
    generalize upd I1 y2 (.tup [V.str (Str.ofString "later"),V.str z0,V.str z1])=I2 at v2 gy2 fy3 ⊢
    have la:=v2 _ _ la;have gfi:=v2 _ _ gfi;have gps:=v2 _ _ gps;have gy1:=v2 _ _ gy1;have v3:=ag.upd (o:= .lst [V.ref y2]) fy3;have gy3:upd I2 y3 (.lst [V.ref y2]) y3=_:=aa
    generalize upd I2 y3 (.lst [V.ref y2])=I3 at v3 gy3 ⊢
    have la:=v3 _ _ la;have gfi:=v3 _ _ gfi;have gps:=v3 _ _ gps;have gy1:=v3 _ _ gy1;have gy2:=v3 _ _ gy2;refine⟨_,gy1,_,gy3,t3,fun y4 fy4=>?_⟩;have v4:=ag.upd (o:= .lst ([V.ref ps,V.ref ps] ++[V.ref y2])) fy4;have gy4:upd I3 y4 (.lst ([V.ref ps,V.ref ps] ++[V.ref y2])) y4=_:=aa
    generalize upd I3 y4 (.lst ([V.ref ps,V.ref ps] ++[V.ref y2]))=I4 at v4 gy4 ⊢
    have la:=v4 _ _ la;have gfi:=v4 _ _ gfi;have gps:=v4 _ _ gps;have gy2:=v4 _ _ gy2;refine⟨_,SqL.of gfi,fun y5 fy5=>?_⟩;rw[c7];have v5:=ag.upd (o:= .lst [V.ref ps,V.ref ps,V.ref ps,V.ref ps,V.ref ps,V.ref ps,V.ref ps]) fy5;have gy5:upd I4 y5 (.lst [V.ref ps,V.ref ps,V.ref ps,V.ref ps,V.ref ps,V.ref ps,V.ref ps]) y5=_:=aa
    generalize upd I4 y5 (.lst [V.ref ps,V.ref ps,V.ref ps,V.ref ps,V.ref ps,V.ref ps,V.ref ps])=I5 at v5 gy5 ⊢
    have la:=v5 _ _ la;have gps:=v5 _ _ gps;have gy2:=v5 _ _ gy2;have gy4:=v5 _ _ gy4;refine⟨_,gy4,_,gy5,(show 3+7<=sizeLine by decide),fun y6 fy6=>?_⟩;have v6:=ag.upd (o:= .lst ([V.ref ps,V.ref ps] ++[V.ref y2] ++[V.ref ps,V.ref ps,V.ref ps,V.ref ps,V.ref ps,V.ref ps,V.ref ps])) fy6;have gy6:upd I5 y6 (.lst ([V.ref ps,V.ref ps] ++[V.ref y2] ++[V.ref ps,V.ref ps,V.ref ps,V.ref ps,V.ref ps,V.ref ps,V.ref ps])) y6=_:=aa
    generalize upd I5 y6 (.lst ([V.ref ps,V.ref ps] ++[V.ref y2] ++[V.ref ps,V.ref ps,V.ref ps,V.ref ps,V.ref ps,V.ref ps,V.ref ps]))=I6 at v6 gy6 ⊢
    have la:=v6 _ _ la;have gps:=v6 _ _ gps;have gy2:=v6 _ _ gy2;refine⟨_,SqL.of la,_,az0,_,SqL.of la,_,az1,t3,fun y7 fy7=>⟨t1',fun y8 fy8=>?_⟩⟩;have v7:=ag.upd (o:= .tup [V.str (Str.ofString "later"),V.str z0,V.str z1]) fy7;have gy7:upd I6 y7 (.tup [V.str (Str.ofString "later"),V.str z0,V.str z1]) y7=_:=aa
    generalize upd I6 y7 (.tup [V.str (Str.ofString "later"),V.str z0,V.str z1])=I7 at v7 gy7 fy8 ⊢
    have gps:=v7 _ _ gps;have gy2:=v7 _ _ gy2;have gy6:=v7 _ _ gy6;have v8:=ag.upd (o:= .lst [V.ref y7]) fy8;have gy8:upd I7 y8 (.lst [V.ref y7]) y8=_:=aa
    generalize upd I7 y8 (.lst [V.ref y7])=I8 at v8 gy8 ⊢
    have gps:=v8 _ _ gps;have gy2:=v8 _ _ gy2;have gy6:=v8 _ _ gy6;have gy7:=v8 _ _ gy7;refine⟨_,gy6,_,gy8,(show 10+1<=sizeLine by decide),fun y9 fy9=>?_⟩;have v9:=ag.upd (o:= .lst ([V.ref ps,V.ref ps] ++[V.ref y2] ++[V.ref ps,V.ref ps,V.ref ps,V.ref ps,V.ref ps,V.ref ps,V.ref ps] ++[V.ref y7])) fy9;have sayL:∀ls:List Str,(∀x∈(ds.flatMap fun p=>(dG p.2).map (·.1)),x∈ls)->jJ ls [V.str (Str.ofString "later"),V.str z0,V.str z1]:=fun ls hs=> .inl ⟨_,_,_,rfl,.inl rfl,hs z0 z0m,hs z1 (Y8 hz1),z01⟩
    refine go _ y9 (List.replicate 2 (ps,[V.str (Str.ofString "since"),V.str z0,V.int 5]) ++[(y2,[V.str (Str.ofString "later"),V.str z0,V.str z1])] ++List.replicate 7 (ps,[V.str (Str.ofString "since"),V.str z0,V.int 5]) ++[(y7,[V.str (Str.ofString "later"),V.str z0,V.str z1])]) (v1.trans (v2.trans (v3.trans (v4.trans (v5.trans (v6.trans (v7.trans (v8.trans v9)))))))) aa (fun ls hs q hq=>?_) (show 11<=60 by decide);simp only[mem_append,mem_singleton,or_assoc]at hq;rcases hq with e|e|e|e
    ·rw[List.eq_of_mem_replicate e];exact⟨v9 _ _ gps,sayS ls hs⟩
    ·rw[e];exact⟨v9 _ _ gy2,sayL ls hs⟩
    ·rw[List.eq_of_mem_replicate e];exact⟨v9 _ _ gps,sayS ls hs⟩
    ·rw[e];exact⟨v9 _ _ gy7,sayL ls hs⟩
   ·refine go HH fi (List.replicate 10 (ps,[V.str (Str.ofString "since"),V.str z0,V.int 5])) (fun _ _ e=>e) gfi (fun ls hs q hq=>?_) (by rw[List.length_replicate];decide);rw[List.eq_of_mem_replicate hq];exact⟨gps,sayS ls hs⟩
  intro HI fi qF uHI hfi saF qF60;have uBI:=uBH.trans uHI;refine k12 _ _ (al fun D13 k13 _=>?_);walk_at "rd";refine⟨l0,xs,rfl,fun H' sm=>SqL.of (sm _ _ (uBI _ _ kE)),hx,hb,fun HJ rows uIJ cutG r9=>⟨(show 2<=sizeLine by decide),fun pg fpg=>⟨(show 1<=sizeLine by decide),fun gh fgh=>k13 _ _ (al fun D14 k14 _=>?_)⟩⟩⟩;have w1:=ag.upd (o:= .tup [V.str (Str.ofString "great"),V.str (Str.join nl rows)]) fpg;have gpg:upd HJ pg (.tup [V.str (Str.ofString "great"),V.str (Str.join nl rows)]) pg=_:=aa
  generalize upd HJ pg (.tup [V.str (Str.ofString "great"),V.str (Str.join nl rows)])=HK at w1 gpg fgh
  have w2:=ag.upd (o:= .lst [V.ref pg]) fgh;have ggh:upd HK gh (.lst [V.ref pg]) gh=_:=aa;have gpg:=w2 _ _ gpg
  generalize upd HK gh (.lst [V.ref pg])=HL at w2 gpg ggh
  have uBL:=uBI.trans (uIJ.trans (w1.trans w2));have fewG:(aC rows (rows.length-1)).length<=320:=by
   obtain⟨wd,_,w40,hwd⟩:=cutG.wide;have:=js (rows:=rows) (wd:=40) (fun r hr=>by rw[hwd r hr];exact w40) (rows.length-1)
   lia
  have PL:=PB.up uBL;walk_at "rd";refine bh fun Kont hK=>?_
  walk_at "rd";refine⟨by decide,by decide,hK _ _ fun F hF=>?_⟩;refine cu (J:=Itr 0 7) (n:=7) (D:=F) (fun j ts σ H'=>(∃o,σ=[o,some (.ref l1)])/\ag HL H'/\H' F=some (.lst ts)/\∃es:List (Addr×Str×List Str),ts=aO es/\es.map (fun p=>p.2.1)=(List.range j).map (fun k=>sgn (97+k))/\br H' es/\∀p∈es,(aC p.2.2 (p.2.2.length-1)).length<=25)
   ⟨⟨none,rfl⟩,ag.upd hF,aa,[],rfl,rfl,fun p hp=>(nomatch hp),fun p hp=>(nomatch hp)⟩ (fun q _ _ H' hq _=>hq) (fun _ _ H' _=>W1 _) ?_ ?_
  ·rintro j ts σ H' hj ⟨⟨o,rfl⟩,sm,hFv,es,ht,hes,hce,hfe⟩ x H2 ⟨e2,e3⟩;subst e2 e3;walk_at "rd";have hj:j<7:=hj;have aj:atI (Str.ofString "abcdefgh").cps.toList (j:Int)=some (97+j):=bN ((by decide +kernel:∀k:Fin 7,(Str.ofString "abcdefgh").cps.toList[k.1]? =some (97+k.1)) ⟨j,hj⟩);have jm:j%ds.length<(dcs ds).length:=by rw[dl];exact mod_lt _ (by lia)
   obtain⟨q,hq⟩:∃q,(dcs ds)[j%ds.length]? =some q:=⟨_,Y4 jm⟩
   have qm:=Y8 hq;have aq:atI (aO (dcs ds)) ((j:Int)%(ds.length:Int))=some (.ref q.1):=bN (j:=j%ds.length) (by unfold aO;rw[W5,hq];rfl);have cq:=PL.ca q qm;have hel:=congrArg List.length hes;rw[Y6,Y6,length_range]at hel;refine⟨by decide,_,aj,ds.length,.inl ⟨_,SqL.of (sm _ _ PL.hl),rl.symm⟩,by lia,_,SqL.of (sm _ _ PL.hl),_,aq,_,rfl,_,SqT.of (sm _ _ cq.1),_,rfl,(show 2<=sizeLine by decide),fun p hp=>?_⟩;have sp:=ag.upd (o:= .tup [V.str ⟨#[97+j]⟩,V.str (Str.join nl q.2.2)]) hp;have gp:upd H2 p (.tup [V.str ⟨#[97+j]⟩,V.str (Str.join nl q.2.2)]) p=_:=aa
   generalize upd H2 p (.tup [V.str ⟨#[97+j]⟩,V.str (Str.join nl q.2.2)])=H3 at sp gp ⊢
   have tkF:=j7 (ys:=ts++[V.ref p]) (sp _ _ hFv);have nj:eD (sgn (97+j))=true:=(by decide +kernel:∀k:Fin 7,eD (sgn (97+k.1))=true) ⟨j,hj⟩
   refine CK.mk hj (sp _ _ hFv) (by rw[ht];unfold aO;rw[Y6];exact bB (by lia)) ⟨⟨_,rfl⟩,ag.set (sm.trans sp) hF,aa,es++[(p,sgn (97+j),q.2.2)],?_,?_,?_,fun r hr'=>?_⟩
   ·rw[ht];unfold aO;rw[X4];rfl
   ·rw[X4,hes,range_succ,X4];rfl
   ·exact(br.snoc (q:=(p,sgn (97+j),q.2.2)) (hce.up sp) ⟨gp,nj,cq.2.2⟩).keep tkF
   ·rcases mem_append.mp hr' with e|e
    ·exact hfe r e
    ·rw[mem_singleton.mp e];exact few q qm
  rintro tv σ HM ⟨_,uLM,hFM,es,ht,hes,hce,hfe⟩;have hel:=congrArg List.length hes;rw[Y6,Y6,length_range]at hel;refine⟨_,SqL.of (uLM _ _ ggh),_,rfl,_,rfl,_,SqT.of (uLM _ _ gpg),_,rfl,(show 2<=sizeLine by decide),fun ph fph=>⟨(show 1<=sizeLine by decide),fun pi fpi=>?_⟩⟩;have w3:=ag.upd (o:= .tup [V.str (Str.ofString "h"),V.str (Str.join nl rows)]) fph;have gph:upd HM ph (.tup [V.str (Str.ofString "h"),V.str (Str.join nl rows)]) ph=_:=aa
  generalize upd HM ph (.tup [V.str (Str.ofString "h"),V.str (Str.join nl rows)])=HN at w3 gph fpi ⊢
  have w4:=ag.upd (o:= .lst [V.ref ph]) fpi;have gpi:upd HN pi (.lst [V.ref ph]) pi=_:=aa;have gph:=w4 _ _ gph
  generalize upd HN pi (.lst [V.ref ph])=HQ at w4 gph gpi ⊢
  have tl:tv.length=7:=by rw[ht];unfold aO;rw[Y6];exact hel
  refine⟨_,rfl,_,w4 _ _ (w3 _ _ hFM),_,gpi,aZ (by rw[tl];show 7+1<=5000;decide),fun ei fei=>k14 _ _ (al fun D15 k15 _=>?_)⟩;have w5:=ag.upd (o:= .lst (tv++[V.ref ph])) fei;have gei:upd HQ ei (.lst (tv++[V.ref ph])) ei=_:=aa;have gph:=w5 _ _ gph
  generalize upd HQ ei (.lst (tv++[V.ref ph]))=HP at w5 gph gei
  have uMP:=w3.trans (w4.trans w5);have CE:qU HP ei (es++[(ph,Str.ofString "h",rows)]):=by
   refine⟨by rw[gei,ht];unfold aO;rw[X4];rfl,(hce.up uMP).snoc ⟨gph,(show eD (Str.ofString "h")=true by decide +kernel),cutG⟩,?_,?_,?_,?_⟩
   ·rw[X4,hes];show((List.range 7).map (fun k=>sgn (97+k)) ++[Str.ofString "h"]).Nodup;decide +kernel
   ·rw[Y9];exact Nat.le_add_left _ _
   ·rw[Y9,hel];exact W1 _
   ·have:=gB hfe;rw[vM,Y9];have e:(aA [(ph,Str.ofString "h",rows)]).length<=320:=by
     show(((aC rows (rows.length-1)).map (dF (Str.ofString "h"))) ++[]).length<=320;rw[append_nil,Y6];exact fewG
    lia
  have uLP:=uLM.trans uMP;have uBP:=uBL.trans uLP;have CM':=CM.up (uEH.trans (uHI.trans (uIJ.trans ((w1.trans w2).trans uLP))));have uIP:=uIJ.trans ((w1.trans w2).trans uLP);have hfi':=uIP _ _ hfi;have PP:=PB.up uBP;have hgh':=uLP _ _ ggh;have hpg':=uLP _ _ gpg;have t0':0<=sizeLine:=by decide
  have t2':2<=sizeLine:=by decide
  walk_at "rd";obtain⟨J0,eJ0⟩:∃J0,J0=HP:=⟨_,rfl⟩
  rw[<-eJ0]at PP CM' hfi' hgh' hpg' CE uBP uIP ⊢;refine⟨t0',fun y1 fy1=>⟨t2',fun y2 fy2=>?_⟩⟩;have s1:=ag.upd (o:= .lst []) fy1;have gy1:upd J0 y1 (.lst []) y1=_:=aa
  generalize upd J0 y1 (.lst [])=J1 at s1 gy1 fy2 ⊢
  have s2:=ag.upd (o:= .tup [V.ref l1,V.ref y1]) fy2;have gy2:upd J1 y2 (.tup [V.ref l1,V.ref y1]) y2=_:=aa
  generalize upd J1 y2 (.tup [V.ref l1,V.ref y1])=J2 at s2 gy2 ⊢
  have V2:=s1.trans s2;refine⟨_,SqL.of (V2 _ _ PP.hm),fun y3 fy3=>⟨t2',fun y4 fy4=>⟨t2',fun y5 fy5=>?_⟩⟩⟩;rw[show gP (qs.map fun q=>V.ref q.1) none (some 3)=(qs.take 3).map fun q=>V.ref q.1 from(mI _ 3).trans map_take.symm]at fy4 fy5 ⊢;have s3:=ag.upd (o:= .lst ((qs.take 3).map fun q=>V.ref q.1)) fy3;have gy3:upd J2 y3 (.lst ((qs.take 3).map fun q=>V.ref q.1)) y3=_:=aa
  generalize upd J2 y3 (.lst ((qs.take 3).map fun q=>V.ref q.1))=J3 at s3 gy3 fy4 fy5 ⊢
  have s4:=ag.upd (o:= .tup [V.ref mo,V.ref y3]) fy4;have gy4:upd J3 y4 (.tup [V.ref mo,V.ref y3]) y4=_:=aa
  generalize upd J3 y4 (.tup [V.ref mo,V.ref y3])=J4 at s4 gy4 fy5 ⊢
  have s5:=ag.upd (o:= .tup [V.ref l1,V.ref fi]) fy5;have gy5:upd J4 y5 (.tup [V.ref l1,V.ref fi]) y5=_:=aa
  generalize upd J4 y5 (.tup [V.ref l1,V.ref fi])=J5 at s5 gy5 ⊢
  have V5:=V2.trans (s3.trans (s4.trans s5));refine⟨_,V5 _ _ hgh',_,V5 _ _ PP.hl,aZ (by rw[rl];show 1+ds.length<=5000;lia),fun y6 fy6=>⟨t2',fun y7 fy7=>⟨(show 4<=sizeLine by decide),fun y8 fy8=>k15 _ _ (al fun D16 k16 _=>?_)⟩⟩⟩;have s6:=ag.upd (o:= .lst ([V.ref pg] ++aO (dcs ds))) fy6;have gy6:upd J5 y6 (.lst ([V.ref pg] ++aO (dcs ds))) y6=_:=aa
  generalize upd J5 y6 (.lst ([V.ref pg] ++aO (dcs ds)))=J6 at s6 gy6 fy7 fy8 ⊢
  have s7:=ag.upd (o:= .tup [V.ref y6,V.ref l2]) fy7;have gy7:upd J6 y7 (.tup [V.ref y6,V.ref l2]) y7=_:=aa
  generalize upd J6 y7 (.tup [V.ref y6,V.ref l2])=J7 at s7 gy7 fy8 ⊢
  have s8:=ag.upd (o:= .lst [V.ref y2,V.ref y4,V.ref y5,V.ref y7]) fy8;have gy8:upd J7 y8 (.lst [V.ref y2,V.ref y4,V.ref y5,V.ref y7]) y8=_:=aa
  generalize upd J7 y8 (.lst [V.ref y2,V.ref y4,V.ref y5,V.ref y7])=J8 at s8 gy8 ⊢
  have V8:=V5.trans (s6.trans (s7.trans s8));walk_at "rd";refine⟨t0',fun y9 fy9=>⟨t2',fun y10 fy10=>?_⟩⟩;have s9:=ag.upd (o:= .lst []) fy9;have gy9:upd J8 y9 (.lst []) y9=_:=aa
  generalize upd J8 y9 (.lst [])=J9 at s9 gy9 fy10 ⊢
  have s10:=ag.upd (o:= .tup [V.ref ei,V.ref y9]) fy10;have gy10:upd J9 y10 (.tup [V.ref ei,V.ref y9]) y10=_:=aa
  generalize upd J9 y10 (.tup [V.ref ei,V.ref y9])=J10 at s10 gy10 ⊢
  have V10:=V8.trans (s9.trans s10);refine⟨_,SqL.of (V10 _ _ PP.hl),fun y11 fy11=>⟨t0',fun y12 fy12=>⟨t2',fun y13 fy13=>⟨t2',fun y14 fy14=>?_⟩⟩⟩⟩;rw[show gP (aO (dcs ds)) none (some 1)=aO ((dcs ds).take 1)from(mI _ 1).trans map_take.symm]at fy12 fy13 fy14 ⊢;have s11:=ag.upd (o:= .lst (aO ((dcs ds).take 1))) fy11;have gy11:upd J10 y11 (.lst (aO ((dcs ds).take 1))) y11=_:=aa
  generalize upd J10 y11 (.lst (aO ((dcs ds).take 1)))=J11 at s11 gy11 fy12 fy13 fy14 ⊢
  have s12:=ag.upd (o:= .lst []) fy12;have gy12:upd J11 y12 (.lst []) y12=_:=aa
  generalize upd J11 y12 (.lst [])=J12 at s12 gy12 fy13 fy14 ⊢
  have s13:=ag.upd (o:= .tup [V.ref y11,V.ref y12]) fy13;have gy13:upd J12 y13 (.tup [V.ref y11,V.ref y12]) y13=_:=aa
  generalize upd J12 y13 (.tup [V.ref y11,V.ref y12])=J13 at s13 gy13 fy14 ⊢
  have s14:=ag.upd (o:= .lst [V.ref y10,V.ref y13]) fy14;have gy14:upd J13 y14 (.lst [V.ref y10,V.ref y13]) y14=_:=aa
  generalize upd J13 y14 (.lst [V.ref y10,V.ref y13])=J14 at s14 gy14 ⊢
  refine⟨_,s14 _ _ (s13 _ _ (s12 _ _ (s11 _ _ (s10 _ _ (s9 _ _ gy8))))),_,gy14,(show 4+2<=sizeLine by decide),fun y15 fy15=>k16 _ _ (al fun D17 k17 r17=>aD fun Kont hK=>?_)⟩;have s15:=ag.upd (o:= .lst ([V.ref y2,V.ref y4,V.ref y5,V.ref y7] ++[V.ref y10,V.ref y13])) fy15;have gy15:upd J14 y15 (.lst ([V.ref y2,V.ref y4,V.ref y5,V.ref y7] ++[V.ref y10,V.ref y13])) y15=_:=aa
  generalize upd J14 y15 (.lst ([V.ref y2,V.ref y4,V.ref y5,V.ref y7] ++[V.ref y10,V.ref y13]))=J15 at s15 gy15 ⊢
  have Z13:=s14.trans s15;have Z12:=s13.trans Z13;have Z11:=s12.trans Z12;have Z10:=s11.trans Z11;have Z9:=s10.trans Z10;have Z8:=s9.trans Z9;have Z7:=s8.trans Z8;have Z6:=s7.trans Z7;have Z5:=s6.trans Z6;have Z4:=s5.trans Z5;have Z3:=s4.trans Z4;have Z2:=s3.trans Z3;have Z1:=s2.trans Z2;have Z0:=s1.trans Z1;have PZ:=PP.up Z0;have saZ:=hsaB.up (uBP.trans Z0);have noS:∀ls:List Str,cm J15 ls []:=fun ls q hq=>(nomatch hq)
  have A1:da J15 l1 y1 (dcs ds) []:=⟨PZ.hl,Z1 _ _ gy1,PZ.ca,nm,PZ.p1,PZ.p8,fun ls _=>noS ls,zero_le _,PZ.few⟩
  have A2:da J15 mo y3 (dcs ds++[(pn,Str.ofString "new",q0.2.2)]) (qs.take 3):=(CM'.up Z0).pair (Z3 _ _ gy3) (fun ls p q hq'=>⟨(saZ q (mem_of_mem_take hq')).1,(saZ q (mem_of_mem_take hq')).2.mono (sub _ (fun _ h=>mem_append_left _ h) ls p)⟩) (le_trans (List.length_take_le _ _) (by decide));have A3:da J15 l1 fi (dcs ds) qF:=⟨PZ.hl,Z0 _ _ hfi',PZ.ca,nm,PZ.p1,PZ.p8,fun ls p=>(saF ls (sub _ (fun _ h=>h) ls p)).up (uIP.trans Z0),qF60,PZ.few⟩
  have A4:da J15 y6 l2 ((pg,Str.ofString "great",rows)::dcs ds) qs:=by
   refine⟨Z6 _ _ gy6,PZ.hm,fun p hp=>?_,?_,?_,?_,fun ls p q hq'=>⟨(saZ q hq').1,(saZ q hq').2.mono (sub _ (fun _ h=>W4 _ h) ls p)⟩,PZ.q60,?_⟩
   ·rcases mem_cons.mp hp with e|e
    ·rw[e];exact⟨Z0 _ _ hpg',(show eD (Str.ofString "great")=true by decide +kernel),cutG⟩
    ·exact PZ.ca p e
   ·rw[map_cons,nodup_cons];exact⟨nk (Str.ofString "great") (by decide +kernel),nm⟩
   ·rw[V1];lia
   ·rw[V1];lia
   ·have e:aA ((pg,Str.ofString "great",rows)::dcs ds)=(aC rows (rows.length-1)).map (dF (Str.ofString "great")) ++aA (dcs ds):=List.flatMap_cons;rw[e,Y9,Y6]
    lia
  have A5:da J15 ei y9 (es++[(ph,Str.ofString "h",rows)]) []:=(CE.up Z0).pair (Z9 _ _ gy9) (fun ls _=>noS ls) (zero_le _);have A6:da J15 y11 y12 ((dcs ds).take 1) []:=by
   have hlt:((dcs ds).take 1).length=1:=by rw[length_take];lia
   refine⟨Z11 _ _ gy11,Z12 _ _ gy12,fun p hp=>PZ.ca p (mem_of_mem_take hp),nm.sublist ((List.take_sublist 1 _).map _),by lia,by lia,fun ls _=>noS ls,zero_le _,?_⟩;have:=gB (B:=25) (cs:=(dcs ds).take 1) fun p hp=>few p (mem_of_mem_take hp)
   lia
  have all:∀x∈[V.ref y2,V.ref y4,V.ref y5,V.ref y7] ++[V.ref y10,V.ref y13],∃t l m cs qs,x=V.ref t/\J15 t=some (.tup [.ref l,.ref m])/\da J15 l m cs qs:=fun x hx=>by
   simp only[cons_append,nil_append,mem_cons,not_mem_nil,or_false]at hx;rcases hx with rfl|rfl|rfl|rfl|rfl|rfl
   ·exact⟨_,_,_,_,_,rfl,Z2 _ _ gy2,A1⟩
   ·exact⟨_,_,_,_,_,rfl,Z4 _ _ gy4,A2⟩
   ·exact⟨_,_,_,_,_,rfl,Z5 _ _ gy5,A3⟩
   ·exact⟨_,_,_,_,_,rfl,Z7 _ _ gy7,A4⟩
   ·exact⟨_,_,_,_,_,rfl,Z10 _ _ gy10,A5⟩
   ·exact⟨_,_,_,_,_,rfl,Z13 _ _ gy13,A6⟩
  have grZ:=grB.up (uBP.trans Z0);have dueZ:=(uBP.trans Z0) _ _ dueB;have kpZ:=(uBP.trans Z0) _ _ gkp;have tssZ:=tss' (sb.trans (uBP.trans Z0));walk_at "rd";refine .inl ⟨⟨_,SqL.of gy15⟩,hK _ _ (eU (fun i σ H'=>(∃o14 o15,σ=[some (.ref a),some (.ref l0),some (.ref l1),some (.ref l2),some (.ref l3),some (.ref g),some (.ref due),some (.ref fo),some (.ref kp),some (.ref mo),some (.ref fi),some (.ref gh),some (.ref ei),some (.ref y15),o14,o15])/\ag J15 H') ⟨⟨_,_,rfl⟩,fun _ _ e=>e⟩ (fun i σ H' _ h=>SqL.of (h.2 _ _ gy15)) ?_ ?_)⟩
  ·rintro i x σ H' hx ⟨⟨o14,o15,rfl⟩,sm⟩;obtain⟨t,l,m,cs,qs',rfl,ht',pk⟩:=all x (Y8 hx);refine⟨_,SqT.of (sm _ _ ht'),rfl,_,_,rfl,_,_,rfl,rfl,?_⟩;show i4 _ _ _ _ [some (.ref a),some (.ref l0),some (.ref l1),some (.ref l2),some (.ref l3),some (.ref g),some (.ref due),some (.ref fo),some (.ref kp),some (.ref mo),some (.ref fi),some (.ref gh),some (.ref ei),some (.ref y15),some (.ref l),some (.ref m)] H';refine aT fun D18 k18 _=>?_
   have pk:=pk.up sm;walk_at "rd";refine⟨_,.inl (SqL.of pk.hl),fun a2 fa2=>⟨_,.inl (SqL.of (ag.upd fa2 _ _ pk.hm)),fun b2 fb2=>?_⟩⟩;have e1:=ag.upd (o:= .lst (aO cs)) fa2;have ga2:upd H' a2 (.lst (aO cs)) a2=some (.lst (aO cs)):=aa
   generalize upd H' a2 (.lst (aO cs))=G1 at e1 ga2 fb2 ⊢
   have e2:=ag.upd (o:= .lst (qs'.map fun q=>V.ref q.1)) fb2;have gb2:upd G1 b2 (.lst (qs'.map fun q=>V.ref q.1)) b2=some (.lst (qs'.map fun q=>V.ref q.1)):=aa;have ga2:=e2 _ _ ga2
   generalize upd G1 b2 (.lst (qs'.map fun q=>V.ref q.1))=G2 at e2 gb2 ga2 ⊢
   have e12:=e1.trans e2;refine fun g' dx' fg' fdx' _=>rJ fg' fdx' ga2 gb2 (pk.up e12) fun G3 ts' c4' e3 gr' tk'=>?_
   refine fj gr' fun m2 fm2=>?_
   have e4:=ag.upd (o:= .lst (ts'.map fun t=>V.ref t.1)) fm2;have gm2:upd G3 m2 (.lst (ts'.map fun t=>V.ref t.1)) m2=some (.lst (ts'.map fun t=>V.ref t.1)):=aa
   generalize upd G3 m2 (.lst (ts'.map fun t=>V.ref t.1))=G4 at e4 gm2 ⊢
   have e14:=e12.trans (e3.trans e4);refine pI (pk.up e14) fun r5 G5 ss' e5 f5 h5 ta5 tk5=>?_
   refine gC (e5 _ _ gm2) h5 (gr'.up (e4.trans e5)).tu ta5 (tk'.one tk5) fun G6 e6=>⟨true,rfl,?_⟩
   rw[if_neg (by decide)];exact k18 _ _ ⟨⟨_,_,rfl⟩,sm.trans (e14.trans (e5.trans e6))⟩
  ·rintro σ H' ⟨⟨o14,o15,rfl⟩,sm⟩;refine k17 _ _ ?_;walk_at "rd";refine fj (grZ.up sm) fun m3 fm3=>?_
   have e1:=sm.trans (ag.upd (o:= .lst (ts.map fun t=>V.ref t.1)) fm3);have up:∀{H'':Hp},ag J15 H''->aF H'' ss:=fun s=>aJ tssZ fun b z e=>s _ _ e
   refine gC aa (e1 _ _ dueZ) (grZ.up e1).tu (up e1) eq0 fun G1 e2=>⟨true,rfl,?_⟩
   rw[if_pos rfl];have e3:=e1.trans e2;exact gC (e3 _ _ kpZ) (e3 _ _ dueZ) (grZ.up e3).tu (up e3) eq0 fun G2 e4=>kk G2
end
theorem all_mk{l:PySem.W.OpenLaw}{w:World}{K:PySem.W.Frag}{h:Heap}{mg:Str->Option Value}{fa f1 f2 f3 f4 f5 f6 f7 f8 f9 f10 f11 f12 f13 f14 f15 f16 f17 f18 f19 f20 f21 f22 f23 f24 f25 f26 f27 f28 f29 f30:Addr}(X:K.In h)(G:h.Ns mainGlobals mg)(hfa:mg "law"=some (.ref fa))
 {od1 an1 od2 an2 od3 an3 od4 an4 od5 an5 od6 an6 od7 an7 od8 an8 od9 an9 od10 an10 od11 an11 od12 an12 od13 an13 od14 an14 od15 an15 od16 an16 od17 an17 od18 an18 od19 an19 od20 an20 od21 an21 od22 an22 od23 an23 od24 an24 od25 an25 od26 an26 od27 an27 od28 an28 od29 an29 od30 an30:Option Addr} {sl1 sl2 sl3 sl4 sl5 sl6 sl7 sl8 sl9 sl10 sl11 sl12 sl13 sl14 sl15 sl16 sl17 sl18 sl19 sl20 sl21 sl22 sl23 sl24 sl25 sl26 sl27 sl28 sl29 sl30:Array (Option Value)} {oc1 kV1 dc1 pm1 cd1 ct1 oc2 kV2 dc2 pm2 cd2 ct2 oc3 kV3 dc3 pm3 cd3 ct3 oc4 kV4 dc4 pm4 cd4 ct4 oc5 kV5 dc5 pm5 cd5 ct5 oc6 kV6 dc6 pm6 cd6 ct6 oc7 kV7 dc7 pm7 cd7 ct7 oc8 kV8 dc8 pm8 cd8 ct8 oc9 kV9 dc9 pm9 cd9 ct9 oc10 kV10 dc10 pm10 cd10 ct10 oc11 kV11 dc11 pm11 cd11 ct11 oc12 kV12 dc12 pm12 cd12 ct12 oc13 kV13 dc13 pm13 cd13 ct13 oc14 kV14 dc14 pm14 cd14 ct14 oc15 kV15 dc15 pm15 cd15 ct15 oc16 kV16 dc16 pm16 cd16 ct16 oc17 kV17 dc17 pm17 cd17 ct17 oc18 kV18 dc18 pm18 cd18 ct18 oc19 kV19 dc19 pm19 cd19 ct19 oc20 kV20 dc20 pm20 cd20 ct20 oc21 kV21 dc21 pm21 cd21 ct21 oc22 kV22 dc22 pm22 cd22 ct22 oc23 kV23 dc23 pm23 cd23 ct23 oc24 kV24 dc24 pm24 cd24 ct24 oc25 kV25 dc25 pm25 cd25 ct25 oc26 kV26 dc26 pm26 cd26 ct26 oc27 kV27 dc27 pm27 cd27 ct27 oc28 kV28 dc28 pm28 cd28 ct28 oc29 kV29 dc29 pm29 cd29 ct29 oc30 kV30 dc30 pm30 cd30 ct30:Value}
 (a1:nsIn K mainGlobals "is_name"=some (some (.ref f1))) (l1:K.lookup f1=some ⟨oc1,od1,.func (fnOf "is_name" "is_name" (av dZ) (ar dZ) (af dZ) .none kV1 dc1 pm1 an1 cd1 ct1),sl1⟩) (c1:codeIn K cd1 "is_name"=true) (k1:keepIn K (.ref f1)=true)
 (a2:nsIn K mainGlobals "rows_of"=some (some (.ref f2))) (l2:K.lookup f2=some ⟨oc2,od2,.func (fnOf "rows_of" "rows_of" (av e8) (ar e8) (af e8) .none kV2 dc2 pm2 an2 cd2 ct2),sl2⟩) (c2:codeIn K cd2 "rows_of"=true) (k2:keepIn K (.ref f2)=true)
 (a3:nsIn K mainGlobals "is_row"=some (some (.ref f3))) (l3:K.lookup f3=some ⟨oc3,od3,.func (fnOf "is_row" "is_row" (av e9) (ar e9) (af e9) .none kV3 dc3 pm3 an3 cd3 ct3),sl3⟩) (c3:codeIn K cd3 "is_row"=true) (k3:keepIn K (.ref f3)=true)
 (a4:nsIn K mainGlobals "lies_beneath"=some (some (.ref f4))) (l4:K.lookup f4=some ⟨oc4,od4,.func (fnOf "lies_beneath" "lies_beneath" (av bR) (ar bR) (af bR) .none kV4 dc4 pm4 an4 cd4 ct4),sl4⟩) (c4:codeIn K cd4 "lies_beneath"=true) (k4:keepIn K (.ref f4)=true)
 (a5:nsIn K mainGlobals "letters_in"=some (some (.ref f5))) (l5:K.lookup f5=some ⟨oc5,od5,.func (fnOf "letters_in" "letters_in" (av cz) (ar cz) (af cz) .none kV5 dc5 pm5 an5 cd5 ct5),sl5⟩) (c5:codeIn K cd5 "letters_in"=true) (k5:keepIn K (.ref f5)=true)
 (a6:nsIn K mainGlobals "letters"=some (some (.ref f6))) (l6:K.lookup f6=some ⟨oc6,od6,.func (fnOf "letters" "letters" (av fb) (ar fb) (af fb) .none kV6 dc6 pm6 an6 cd6 ct6),sl6⟩) (c6:codeIn K cd6 "letters"=true) (k6:keepIn K (.ref f6)=true)
 (a7:nsIn K mainGlobals "meetings"=some (some (.ref f7))) (l7:K.lookup f7=some ⟨oc7,od7,.func (fnOf "meetings" "meetings" (av ef) (ar ef) (af ef) .none kV7 dc7 pm7 an7 cd7 ct7),sl7⟩) (c7:codeIn K cd7 "meetings"=true) (k7:keepIn K (.ref f7)=true)
 (a8:nsIn K mainGlobals "meetings_between"=some (some (.ref f8))) (l8:K.lookup f8=some ⟨oc8,od8,.func (fnOf "meetings_between" "meetings_between" (av bi) (ar bi) (af bi) .none kV8 dc8 pm8 an8 cd8 ct8),sl8⟩) (c8:codeIn K cd8 "meetings_between"=true) (k8:keepIn K (.ref f8)=true)
 (a9:nsIn K mainGlobals "check_cuts"=some (some (.ref f9))) (l9:K.lookup f9=some ⟨oc9,od9,.func (fnOf "check_cuts" "check_cuts" (av cV) (ar cV) (af cV) .none kV9 dc9 pm9 an9 cd9 ct9),sl9⟩) (c9:codeIn K cd9 "check_cuts"=true) (k9:keepIn K (.ref f9)=true)
 (a10:nsIn K mainGlobals "is_named_cut"=some (some (.ref f10))) (l10:K.lookup f10=some ⟨oc10,od10,.func (fnOf "is_named_cut" "is_named_cut" (av ci) (ar ci) (af ci) .none kV10 dc10 pm10 an10 cd10 ct10),sl10⟩) (c10:codeIn K cd10 "is_named_cut"=true) (k10:keepIn K (.ref f10)=true)
 (a11:nsIn K mainGlobals "is_cut"=some (some (.ref f11))) (l11:K.lookup f11=some ⟨oc11,od11,.func (fnOf "is_cut" "is_cut" (av gj) (ar gj) (af gj) .none kV11 dc11 pm11 an11 cd11 ct11),sl11⟩) (c11:codeIn K cd11 "is_cut"=true) (k11:keepIn K (.ref f11)=true)
 (a12:nsIn K mainGlobals "check_sayings"=some (some (.ref f12))) (l12:K.lookup f12=some ⟨oc12,od12,.func (fnOf "check_sayings" "check_sayings" (av bZ) (ar bZ) (af bZ) .none kV12 dc12 pm12 an12 cd12 ct12),sl12⟩) (c12:codeIn K cd12 "check_sayings"=true) (k12:keepIn K (.ref f12)=true)
 (a13:nsIn K mainGlobals "is_saying"=some (some (.ref f13))) (l13:K.lookup f13=some ⟨oc13,od13,.func (fnOf "is_saying" "is_saying" (av dz) (ar dz) (af dz) .none kV13 dc13 pm13 an13 cd13 ct13),sl13⟩) (c13:codeIn K cd13 "is_saying"=true) (k13:keepIn K (.ref f13)=true)
 (a14:nsIn K mainGlobals "is_text_among"=some (some (.ref f14))) (l14:K.lookup f14=some ⟨oc14,od14,.func (fnOf "is_text_among" "is_text_among" (av b8) (ar b8) (af b8) .none kV14 dc14 pm14 an14 cd14 ct14),sl14⟩) (c14:codeIn K cd14 "is_text_among"=true) (k14:keepIn K (.ref f14)=true)
 (a15:nsIn K mainGlobals "is_year"=some (some (.ref f15))) (l15:K.lookup f15=some ⟨oc15,od15,.func (fnOf "is_year" "is_year" (av fc) (ar fc) (af fc) .none kV15 dc15 pm15 an15 cd15 ct15),sl15⟩) (c15:codeIn K cd15 "is_year"=true) (k15:keepIn K (.ref f15)=true)
 (a16:nsIn K mainGlobals "layer_name"=some (some (.ref f16))) (l16:K.lookup f16=some ⟨oc16,od16,.func (fnOf "layer_name" "layer_name" (av cW) (ar cW) (af cW) .none kV16 dc16 pm16 an16 cd16 ct16),sl16⟩) (c16:codeIn K cd16 "layer_name"=true) (k16:keepIn K (.ref f16)=true)
 (a17:nsIn K mainGlobals "layers_of"=some (some (.ref f17))) (l17:K.lookup f17=some ⟨oc17,od17,.func (fnOf "layers_of" "layers_of" (av cT) (ar cT) (af cT) .none kV17 dc17 pm17 an17 cd17 ct17),sl17⟩) (c17:codeIn K cd17 "layers_of"=true) (k17:keepIn K (.ref f17)=true)
 (a18:nsIn K mainGlobals "ties_of_cuts"=some (some (.ref f18))) (l18:K.lookup f18=some ⟨oc18,od18,.func (fnOf "ties_of_cuts" "ties_of_cuts" (av cj) (ar cj) (af cj) .none kV18 dc18 pm18 an18 cd18 ct18),sl18⟩) (c18:codeIn K cd18 "ties_of_cuts"=true) (k18:keepIn K (.ref f18)=true)
 (a19:nsIn K mainGlobals "ties_of_sayings"=some (some (.ref f19))) (l19:K.lookup f19=some ⟨oc19,od19,.func (fnOf "ties_of_sayings" "ties_of_sayings" (av bH) (ar bH) (af bH) .none kV19 dc19 pm19 an19 cd19 ct19),sl19⟩) (c19:codeIn K cd19 "ties_of_sayings"=true) (k19:keepIn K (.ref f19)=true)
 (a20:nsIn K mainGlobals "_law_cell_at"=some (some (.ref f20))) (l20:K.lookup f20=some ⟨oc20,od20,.func (fnOf "_law_cell_at" "_law_cell_at" (av cK) (ar cK) (af cK) .none kV20 dc20 pm20 an20 cd20 ct20),sl20⟩) (c20:codeIn K cd20 "_law_cell_at"=true) (k20:keepIn K (.ref f20)=true)
 (a21:nsIn K mainGlobals "_law_row"=some (some (.ref f21))) (l21:K.lookup f21=some ⟨oc21,od21,.func (fnOf "_law_row" "_law_row" (av fe) (ar fe) (af fe) .none kV21 dc21 pm21 an21 cd21 ct21),sl21⟩) (c21:codeIn K cd21 "_law_row"=true) (k21:keepIn K (.ref f21)=true)
 (a22:nsIn K mainGlobals "_law_column"=some (some (.ref f22))) (l22:K.lookup f22=some ⟨oc22,od22,.func (fnOf "_law_column" "_law_column" (av cX) (ar cX) (af cX) .none kV22 dc22 pm22 an22 cd22 ct22),sl22⟩) (c22:codeIn K cd22 "_law_column"=true) (k22:keepIn K (.ref f22)=true)
 (a23:nsIn K mainGlobals "_law_sign"=some (some (.ref f23))) (l23:K.lookup f23=some ⟨oc23,od23,.func (fnOf "_law_sign" "_law_sign" (av et) (ar et) (af et) .none kV23 dc23 pm23 an23 cd23 ct23),sl23⟩) (c23:codeIn K cd23 "_law_sign"=true) (k23:keepIn K (.ref f23)=true)
 (a24:nsIn K mainGlobals "_law_cut"=some (some (.ref f24))) (l24:K.lookup f24=some ⟨oc24,od24,.func (fnOf "_law_cut" "_law_cut" (av cA) (ar cA) (af cA) .none kV24 dc24 pm24 an24 cd24 ct24),sl24⟩) (c24:codeIn K cd24 "_law_cut"=true) (k24:keepIn K (.ref f24)=true)
 (a25:nsIn K mainGlobals "_law_saying"=some (some (.ref f25))) (l25:K.lookup f25=some ⟨oc25,od25,.func (fnOf "_law_saying" "_law_saying" (av cY) (ar cY) (af cY) .none kV25 dc25 pm25 an25 cd25 ct25),sl25⟩) (c25:codeIn K cd25 "_law_saying"=true) (k25:keepIn K (.ref f25)=true)
 (a26:nsIn K mainGlobals "_law_ground"=some (some (.ref f26))) (l26:K.lookup f26=some ⟨oc26,od26,.func (fnOf "_law_ground" "_law_ground" (av cB) (ar cB) (af cB) .none kV26 dc26 pm26 an26 cd26 ct26),sl26⟩) (c26:codeIn K cd26 "_law_ground"=true) (k26:keepIn K (.ref f26)=true)
 (a27:nsIn K mainGlobals "_law_ties"=some (some (.ref f27))) (l27:K.lookup f27=some ⟨oc27,od27,.func (fnOf "_law_ties" "_law_ties" (av eA) (ar eA) (af eA) .none kV27 dc27 pm27 an27 cd27 ct27),sl27⟩) (c27:codeIn K cd27 "_law_ties"=true) (k27:keepIn K (.ref f27)=true)
 (a28:nsIn K mainGlobals "_law_right"=some (some (.ref f28))) (l28:K.lookup f28=some ⟨oc28,od28,.func (fnOf "_law_right" "_law_right" (av dC) (ar dC) (af dC) .none kV28 dc28 pm28 an28 cd28 ct28),sl28⟩) (c28:codeIn K cd28 "_law_right"=true) (k28:keepIn K (.ref f28)=true)
 (a29:nsIn K mainGlobals "_law_great"=some (some (.ref f29))) (l29:K.lookup f29=some ⟨oc29,od29,.func (fnOf "_law_great" "_law_great" (av dD) (ar dD) (af dD) .none kV29 dc29 pm29 an29 cd29 ct29),sl29⟩) (c29:codeIn K cd29 "_law_great"=true) (k29:keepIn K (.ref f29)=true)
 (a30:nsIn K mainGlobals "law"=some (some (.ref f30))) (l30:K.lookup f30=some ⟨oc30,od30,.func (fnOf "law" "law" (av gW) (ar gW) (af gW) .none kV30 dc30 pm30 an30 cd30 ct30),sl30⟩) (c30:codeIn K cd30 "law"=true) (k30:keepIn K (.ref f30)=true)
 {u_LONGEST_NAME u_LETTERS u_MOST_ROWS u_MOST_SIGNS u_AIR u_MOST_CUTS u_MOST_SAYINGS u_FIRST_YEAR u_LAST_YEAR:Value}
 (zb_len:nsIn K mainGlobals "len"=some none)
 (zb_all:nsIn K mainGlobals "all"=some none)
 (zb_str:nsIn K mainGlobals "str"=some none)
 (zb_isinstance:nsIn K mainGlobals "isinstance"=some none)
 (zb_enumerate:nsIn K mainGlobals "enumerate"=some none)
 (zb_zip:nsIn K mainGlobals "zip"=some none)
 (zb_set:nsIn K mainGlobals "set"=some none)
 (zb_sorted:nsIn K mainGlobals "sorted"=some none)
 (zb_list:nsIn K mainGlobals "list"=some none)
 (zb_tuple:nsIn K mainGlobals "tuple"=some none)
 (zb_int:nsIn K mainGlobals "int"=some none)
 (zb_bool:nsIn K mainGlobals "bool"=some none)
 (zb_range:nsIn K mainGlobals "range"=some none)
 (zb_max:nsIn K mainGlobals "max"=some none)
 (zb_abs:nsIn K mainGlobals "abs"=some none)
 (zb_min:nsIn K mainGlobals "min"=some none)
 (zg_LONGEST_NAME:nsIn K mainGlobals "LONGEST_NAME"=some (some u_LONGEST_NAME)) (rg_LONGEST_NAME:aE (.int 8) u_LONGEST_NAME)
 (zg_LETTERS:nsIn K mainGlobals "LETTERS"=some (some u_LETTERS)) (rg_LETTERS:aE (.str "abcdefghijklmnopqrstuvwxyz") u_LETTERS)
 (zg_MOST_ROWS:nsIn K mainGlobals "MOST_ROWS"=some (some u_MOST_ROWS)) (rg_MOST_ROWS:aE (.int 40) u_MOST_ROWS)
 (zg_MOST_SIGNS:nsIn K mainGlobals "MOST_SIGNS"=some (some u_MOST_SIGNS)) (rg_MOST_SIGNS:aE (.int 40) u_MOST_SIGNS)
 (zg_AIR:nsIn K mainGlobals "AIR"=some (some u_AIR)) (rg_AIR:aE (.str ".") u_AIR)
 (zg_MOST_CUTS:nsIn K mainGlobals "MOST_CUTS"=some (some u_MOST_CUTS)) (rg_MOST_CUTS:aE (.int 8) u_MOST_CUTS)
 (zg_MOST_SAYINGS:nsIn K mainGlobals "MOST_SAYINGS"=some (some u_MOST_SAYINGS)) (rg_MOST_SAYINGS:aE (.int 60) u_MOST_SAYINGS)
 (zg_FIRST_YEAR:nsIn K mainGlobals "FIRST_YEAR"=some (some u_FIRST_YEAR)) (rg_FIRST_YEAR:aE (.int (-9999)) u_FIRST_YEAR)
 (zg_LAST_YEAR:nsIn K mainGlobals "LAST_YEAR"=some (some u_LAST_YEAR)) (rg_LAST_YEAR:aE (.int 9999) u_LAST_YEAR)
 {C_Ground:Addr}
 (zc_Ground:nsIn K mainGlobals "Ground"=some (some (.ref C_Ground)))
 (zo_Ground0:plainGet K C_Ground Str.empty=true)
 (zo_Ground1:hasDictIn K C_Ground=true)
 (zo_Ground2:plainOver K C_Ground=true)
 (zo_Ground3:findIn K (.ref C_Ground) "__setattr__"=some (some (.builtin "object.__setattr__")))
 (zn_Ground_kept_cuts:findIn K (.ref C_Ground) "kept_cuts"=some none)
 (zn_Ground_kept_sayings:findIn K (.ref C_Ground) "kept_sayings"=some none)
 (zn_Ground_kept_layers:findIn K (.ref C_Ground) "kept_layers"=some none)
 (zn_Ground_kept_ties:findIn K (.ref C_Ground) "kept_ties"=some none)
 {fi_Ground___init__:Addr} {od_Ground___init__ an_Ground___init__:Option Addr} {sl_Ground___init__:Array (Option Value)} {oc_Ground___init__ kV_Ground___init__ dc_Ground___init__ pm_Ground___init__ cd_Ground___init__ ct_Ground___init__:Value}
 (zm_Ground___init__0:findIn K (.ref C_Ground) "__init__"=some (some (.ref fi_Ground___init__)))
 (zm_Ground___init__1:K.lookup fi_Ground___init__=some ⟨oc_Ground___init__,od_Ground___init__,.func (fnOf "__init__" "Ground.__init__" (av bJ) (ar bJ) (af bJ) .none kV_Ground___init__ dc_Ground___init__ pm_Ground___init__ an_Ground___init__ cd_Ground___init__ ct_Ground___init__),sl_Ground___init__⟩)
 (zm_Ground___init__2:codeIn K cd_Ground___init__ "Ground.__init__"=true)
 (zm_Ground___init__3:keepIn K (.ref fi_Ground___init__)=true)
 (zm_Ground___init__4:isFn K (.ref fi_Ground___init__)=true)
 (zm_Ground___init__5:makesIn K C_Ground=true)
 (zm_Ground___init__6:keepIn K (.ref C_Ground)=true)
 {fi_Ground_ties:Addr} {od_Ground_ties an_Ground_ties:Option Addr} {sl_Ground_ties:Array (Option Value)} {oc_Ground_ties kV_Ground_ties dc_Ground_ties pm_Ground_ties cd_Ground_ties ct_Ground_ties:Value}
 (zm_Ground_ties0:findIn K (.ref C_Ground) "ties"=some (some (.ref fi_Ground_ties)))
 (zm_Ground_ties1:K.lookup fi_Ground_ties=some ⟨oc_Ground_ties,od_Ground_ties,.func (fnOf "ties" "Ground.ties" (av cL) (ar cL) (af cL) .none kV_Ground_ties dc_Ground_ties pm_Ground_ties an_Ground_ties cd_Ground_ties ct_Ground_ties),sl_Ground_ties⟩)
 (zm_Ground_ties2:codeIn K cd_Ground_ties "Ground.ties"=true)
 (zm_Ground_ties3:keepIn K (.ref fi_Ground_ties)=true)
 (zm_Ground_ties4:isFn K (.ref fi_Ground_ties)=true)
 {ta_YEAR_WORDS:Addr} {to_YEAR_WORDS:Obj} {ti_YEAR_WORDS:Array Value} {tn_YEAR_WORDS:Nat}
 (zt_YEAR_WORDS0:nsIn K mainGlobals "YEAR_WORDS"=some (some (.ref ta_YEAR_WORDS)))
 (zt_YEAR_WORDS1:K.lookup ta_YEAR_WORDS=some to_YEAR_WORDS)
 (zt_YEAR_WORDS2:to_YEAR_WORDS.cls= .type "tuple")
 (zt_YEAR_WORDS3:to_YEAR_WORDS.data= .seq ti_YEAR_WORDS tn_YEAR_WORDS)
 (zt_YEAR_WORDS4:ti_YEAR_WORDS.size<=sizeLine)
 (zt_YEAR_WORDS5:aH [.str "since",.str "by"] ti_YEAR_WORDS.toList)
 {ta_LAYER_WORDS:Addr} {to_LAYER_WORDS:Obj} {ti_LAYER_WORDS:Array Value} {tn_LAYER_WORDS:Nat}
 (zt_LAYER_WORDS0:nsIn K mainGlobals "LAYER_WORDS"=some (some (.ref ta_LAYER_WORDS)))
 (zt_LAYER_WORDS1:K.lookup ta_LAYER_WORDS=some to_LAYER_WORDS)
 (zt_LAYER_WORDS2:to_LAYER_WORDS.cls= .type "tuple")
 (zt_LAYER_WORDS3:to_LAYER_WORDS.data= .seq ti_LAYER_WORDS tn_LAYER_WORDS)
 (zt_LAYER_WORDS4:ti_LAYER_WORDS.size<=sizeLine)
 (zt_LAYER_WORDS5:aH [.str "later",.str "same"] ti_LAYER_WORDS.toList)
 :∃fd:FuncData,(∀(s:Shared) (v:Value),BindsTo s fd ⟨[v],[]⟩ [("_law_script",v)])/\∀base:Heap,K.In base->base.Ns mainGlobals mg->hJ l.prog w K mg base CX0 12 fa fd ["_law_script"] (nK K):=by
 have e:=hfa.symm.trans (mg_of X G a30);cases e;have e_Ground:=wY (mg_of X G zc_Ground);subst e_Ground;have T:Txt K mg:=⟨mg_none_of X G zb_len,
  mg_none_of X G zb_all,
  mg_none_of X G zb_str,
  mg_none_of X G zb_isinstance,
  mg_none_of X G zb_enumerate,
  mg_none_of X G zb_zip,
  mg_none_of X G zb_set,
  mg_none_of X G zb_sorted,
  mg_none_of X G zb_list,
  mg_none_of X G zb_tuple,
  mg_none_of X G zb_int,
  mg_none_of X G zb_bool,
  mg_none_of X G zb_range,
  mg_none_of X G zb_max,
  mg_none_of X G zb_abs,
  mg_none_of X G zb_min,
  iz X G zg_LONGEST_NAME rg_LONGEST_NAME,
  iz X G zg_LETTERS rg_LETTERS,
  iz X G zg_MOST_ROWS rg_MOST_ROWS,
  iz X G zg_MOST_SIGNS rg_MOST_SIGNS,
  iz X G zg_AIR rg_AIR,
  iz X G zg_MOST_CUTS rg_MOST_CUTS,
  iz X G zg_MOST_SAYINGS rg_MOST_SAYINGS,
  iz X G zg_FIRST_YEAR rg_FIRST_YEAR,
  iz X G zg_LAST_YEAR rg_LAST_YEAR,
  bd X G a1 l1 c1 k1 (fun _ _ _ _ _ _ us hl=>match us,hl with|[_],_=>rfl),
  bd X G a2 l2 c2 k2 (fun _ _ _ _ _ _ us hl=>match us,hl with|[_],_=>rfl),
  bd X G a3 l3 c3 k3 (fun _ _ _ _ _ _ us hl=>match us,hl with|[_],_=>rfl),
  bd X G a4 l4 c4 k4 (fun _ _ _ _ _ _ us hl=>match us,hl with|[_,_],_=>rfl),
  bd X G a5 l5 c5 k5 (fun _ _ _ _ _ _ us hl=>match us,hl with|[_],_=>rfl),
  bd X G a6 l6 c6 k6 (fun _ _ _ _ _ _ us hl=>match us,hl with|[_],_=>rfl),
  bd X G a7 l7 c7 k7 (fun _ _ _ _ _ _ us hl=>match us,hl with|[_],_=>rfl),
  bd X G a8 l8 c8 k8 (fun _ _ _ _ _ _ us hl=>match us,hl with|[_,_],_=>rfl),
  bd X G a9 l9 c9 k9 (fun _ _ _ _ _ _ us hl=>match us,hl with|[_],_=>rfl),
  bd X G a10 l10 c10 k10 (fun _ _ _ _ _ _ us hl=>match us,hl with|[_],_=>rfl),
  bd X G a11 l11 c11 k11 (fun _ _ _ _ _ _ us hl=>match us,hl with|[_],_=>rfl),
  bd X G a12 l12 c12 k12 (fun _ _ _ _ _ _ us hl=>match us,hl with|[_,_],_=>rfl),
  bd X G a13 l13 c13 k13 (fun _ _ _ _ _ _ us hl=>match us,hl with|[_,_],_=>rfl),
  bd X G a14 l14 c14 k14 (fun _ _ _ _ _ _ us hl=>match us,hl with|[_,_],_=>rfl),
  bd X G a15 l15 c15 k15 (fun _ _ _ _ _ _ us hl=>match us,hl with|[_],_=>rfl),
  bd X G a16 l16 c16 k16 (fun _ _ _ _ _ _ us hl=>match us,hl with|[_,_],_=>rfl),
  bd X G a17 l17 c17 k17 (fun _ _ _ _ _ _ us hl=>match us,hl with|[_],_=>rfl),
  bd X G a18 l18 c18 k18 (fun _ _ _ _ _ _ us hl=>match us,hl with|[_],_=>rfl),
  bd X G a19 l19 c19 k19 (fun _ _ _ _ _ _ us hl=>match us,hl with|[_],_=>rfl),
  bd X G a20 l20 c20 k20 (fun _ _ _ _ _ _ us hl=>match us,hl with|[_,_],_=>rfl),
  bd X G a21 l21 c21 k21 (fun _ _ _ _ _ _ us hl=>match us,hl with|[_,_],_=>rfl),
  bd X G a22 l22 c22 k22 (fun _ _ _ _ _ _ us hl=>match us,hl with|[_,_,_],_=>rfl),
  bd X G a23 l23 c23 k23 (fun _ _ _ _ _ _ us hl=>match us,hl with|[_,_],_=>rfl),
  bd X G a24 l24 c24 k24 (fun _ _ _ _ _ _ us hl=>match us,hl with|[_,_],_=>rfl),
  bd X G a25 l25 c25 k25 (fun _ _ _ _ _ _ us hl=>match us,hl with|[_,_,_],_=>rfl),
  bd X G a26 l26 c26 k26 (fun _ _ _ _ _ _ us hl=>match us,hl with|[_],_=>rfl),
  bd X G a27 l27 c27 k27 (fun _ _ _ _ _ _ us hl=>match us,hl with|[_,_],_=>rfl),
  bd X G a28 l28 c28 k28 (fun _ _ _ _ _ _ us hl=>match us,hl with|[_,_],_=>rfl),
  bd X G a29 l29 c29 k29 (fun _ _ _ _ _ _ us hl=>match us,hl with|[_],_=>rfl),
  ⟨mg_of X G zc_Ground,zo_Ground0,zo_Ground1,zo_Ground2,zo_Ground3⟩,
  zn_Ground_kept_cuts,
  zn_Ground_kept_sayings,
  zn_Ground_kept_layers,
  zn_Ground_kept_ties,
  ⟨fi_Ground___init__,_,⟨zm_Ground___init__5,zm_Ground___init__0,zm_Ground___init__4,zm_Ground___init__6⟩,h9 zm_Ground___init__1 zm_Ground___init__2 zm_Ground___init__3,(h9 zm_Ground___init__1 zm_Ground___init__2 zm_Ground___init__3).binds (fun _ _ _ _ _ _ us hl=>match us,hl with|[_,_,_],_=>rfl)⟩,
  ⟨fi_Ground_ties,_,⟨zm_Ground_ties0,zm_Ground_ties4,zm_Ground_ties3⟩,h9 zm_Ground_ties1 zm_Ground_ties2 zm_Ground_ties3,(h9 zm_Ground_ties1 zm_Ground_ties2 zm_Ground_ties3).binds (fun _ _ _ _ _ _ us hl=>match us,hl with|[_],_=>rfl)⟩,
  vA X G zt_YEAR_WORDS0 zt_YEAR_WORDS1 zt_YEAR_WORDS2 zt_YEAR_WORDS3 zt_YEAR_WORDS4 zt_YEAR_WORDS5,
  vA X G zt_LAYER_WORDS0 zt_LAYER_WORDS1 zt_LAYER_WORDS2 zt_LAYER_WORDS3 zt_LAYER_WORDS4 zt_LAYER_WORDS5⟩
 exact⟨fnOf "law" "law" (av gW) (ar gW) (af gW) .none kV30 dc30 pm30 an30 cd30 ct30,fun s v=> .of_eq rfl,fun base _ _=>zy (h9 (st:=gW) l30 c30 k30) T⟩
theorem walk{l:PySem.W.OpenLaw}{q:Program}{loose:List Str}{XP:(Str->Option Value)->Heap->Prop}{YP:World->Heap->Prop}{d:DefRec}{K:Params->PySem.W.Frag}(hn:l.most=some 63)(hdf:d.params.defaults=[])
 (hY:∀(w:World) (h:Heap),YP w h->(K w.params).In h)
 (F:∀(w:World) (mg:Str->Option Value) (fa:Addr) (h:Heap),(K w.params).In h->h.Ns mainGlobals mg->mg d.name=some (.ref fa)->
  ∃fd:FuncData,(∀(s:Shared) (u:Value),BindsTo s fd ⟨[u],[]⟩ [("_law_script",u)])/\∀base:Heap,(K w.params).In base->base.Ns mainGlobals mg->hJ l.prog w (K w.params) mg base CX0 12 fa fd ["_law_script"] (nK (K w.params))):
 PySem.W.WalkO q loose XP YP l.row.toRowW d [] (fun f vs=>PySem.call f vs):=
 L2.walk_of (n:=63) (k:=12) (x:="_law_script") (CX:=fun _=>CX0) (sp:=fun w=>nK (K w.params)) hn (by decide) hdf ⟨rfl,by decide,by decide⟩ hY F (fun _ _ a ns hl hO hS=>⟨a,ns,rfl,hS,hO,hl,fun _=>rfl⟩) fun _ _ _ _ _ z=>z
end K12
open PySem PySem.W PyProof.Rows
set_option maxRecDepth 100000 in
theorem PySem.Challenge.cw_digbook_k12_ties_holds : PySem.Challenge.rw_digbook_k12_ties.Holds := by
 w_on;o_law;k_head;(case hw=>w_witness2)
 k_fill
 refine K12.walk (l:=PySem.Challenge.rw_digbook_k12_ties) rfl rfl (fun w h Y=>PySem.W.kIn_of Y) ?F
 case F=>
  intro w mg fa h KX G hmg;refine' K12.all_mk KX G hmg ?a1 ?l1 ?c1 ?k1 ?a2 ?l2 ?c2 ?k2 ?a3 ?l3 ?c3 ?k3 ?a4 ?l4 ?c4 ?k4 ?a5 ?l5 ?c5 ?k5 ?a6 ?l6 ?c6 ?k6 ?a7 ?l7 ?c7 ?k7 ?a8 ?l8 ?c8 ?k8 ?a9 ?l9 ?c9 ?k9 ?a10 ?l10 ?c10 ?k10 ?a11 ?l11 ?c11 ?k11 ?a12 ?l12 ?c12 ?k12 ?a13 ?l13 ?c13 ?k13 ?a14 ?l14 ?c14 ?k14 ?a15 ?l15 ?c15 ?k15 ?a16 ?l16 ?c16 ?k16 ?a17 ?l17 ?c17 ?k17 ?a18 ?l18 ?c18 ?k18 ?a19 ?l19 ?c19 ?k19 ?a20 ?l20 ?c20 ?k20 ?a21 ?l21 ?c21 ?k21 ?a22 ?l22 ?c22 ?k22 ?a23 ?l23 ?c23 ?k23 ?a24 ?l24 ?c24 ?k24 ?a25 ?l25 ?c25 ?k25 ?a26 ?l26 ?c26 ?k26 ?a27 ?l27 ?c27 ?k27 ?a28 ?l28 ?c28 ?k28 ?a29 ?l29 ?c29 ?k29 ?a30 ?l30 ?c30 ?k30 ?zb_len ?zb_all ?zb_str ?zb_isinstance ?zb_enumerate ?zb_zip ?zb_set ?zb_sorted ?zb_list ?zb_tuple ?zb_int ?zb_bool ?zb_range ?zb_max ?zb_abs ?zb_min ?zg_LONGEST_NAME ?rg_LONGEST_NAME ?zg_LETTERS ?rg_LETTERS ?zg_MOST_ROWS ?rg_MOST_ROWS ?zg_MOST_SIGNS ?rg_MOST_SIGNS ?zg_AIR ?rg_AIR ?zg_MOST_CUTS ?rg_MOST_CUTS ?zg_MOST_SAYINGS ?rg_MOST_SAYINGS ?zg_FIRST_YEAR ?rg_FIRST_YEAR ?zg_LAST_YEAR ?rg_LAST_YEAR ?zc_Ground ?zo_Ground0 ?zo_Ground1 ?zo_Ground2 ?zo_Ground3 ?zn_Ground_kept_cuts ?zn_Ground_kept_sayings ?zn_Ground_kept_layers ?zn_Ground_kept_ties ?zm_Ground___init__0 ?zm_Ground___init__1 ?zm_Ground___init__2 ?zm_Ground___init__3 ?zm_Ground___init__4 ?zm_Ground___init__5 ?zm_Ground___init__6 ?zm_Ground_ties0 ?zm_Ground_ties1 ?zm_Ground_ties2 ?zm_Ground_ties3 ?zm_Ground_ties4 ?zt_YEAR_WORDS0 ?zt_YEAR_WORDS1 ?zt_YEAR_WORDS2 ?zt_YEAR_WORDS3 ?zt_YEAR_WORDS4 ?zt_YEAR_WORDS5 ?zt_LAYER_WORDS0 ?zt_LAYER_WORDS1 ?zt_LAYER_WORDS2 ?zt_LAYER_WORDS3 ?zt_LAYER_WORDS4 ?zt_LAYER_WORDS5
  (case a1=>k_is)
  (case l1=>k_is)
  (case c1=>k_is)
  (case k1=>k_is)
  (case a2=>k_is)
  (case l2=>k_is)
  (case c2=>k_is)
  (case k2=>k_is)
  (case a3=>k_is)
  (case l3=>k_is)
  (case c3=>k_is)
  (case k3=>k_is)
  (case a4=>k_is)
  (case l4=>k_is)
  (case c4=>k_is)
  (case k4=>k_is)
  (case a5=>k_is)
  (case l5=>k_is)
  (case c5=>k_is)
  (case k5=>k_is)
  (case a6=>k_is)
  (case l6=>k_is)
  (case c6=>k_is)
  (case k6=>k_is)
  (case a7=>k_is)
  (case l7=>k_is)
  (case c7=>k_is)
  (case k7=>k_is)
  (case a8=>k_is)
  (case l8=>k_is)
  (case c8=>k_is)
  (case k8=>k_is)
  (case a9=>k_is)
  (case l9=>k_is)
  (case c9=>k_is)
  (case k9=>k_is)
  (case a10=>k_is)
  (case l10=>k_is)
  (case c10=>k_is)
  (case k10=>k_is)
  (case a11=>k_is)
  (case l11=>k_is)
  (case c11=>k_is)
  (case k11=>k_is)
  (case a12=>k_is)
  (case l12=>k_is)
  (case c12=>k_is)
  (case k12=>k_is)
  (case a13=>k_is)
  (case l13=>k_is)
  (case c13=>k_is)
  (case k13=>k_is)
  (case a14=>k_is)
  (case l14=>k_is)
  (case c14=>k_is)
  (case k14=>k_is)
  (case a15=>k_is)
  (case l15=>k_is)
  (case c15=>k_is)
  (case k15=>k_is)
  (case a16=>k_is)
  (case l16=>k_is)
  (case c16=>k_is)
  (case k16=>k_is)
  (case a17=>k_is)
  (case l17=>k_is)
  (case c17=>k_is)
  (case k17=>k_is)
  (case a18=>k_is)
  (case l18=>k_is)
  (case c18=>k_is)
  (case k18=>k_is)
  (case a19=>k_is)
  (case l19=>k_is)
  (case c19=>k_is)
  (case k19=>k_is)
  (case a20=>k_is)
  (case l20=>k_is)
  (case c20=>k_is)
  (case k20=>k_is)
  (case a21=>k_is)
  (case l21=>k_is)
  (case c21=>k_is)
  (case k21=>k_is)
  (case a22=>k_is)
  (case l22=>k_is)
  (case c22=>k_is)
  (case k22=>k_is)
  (case a23=>k_is)
  (case l23=>k_is)
  (case c23=>k_is)
  (case k23=>k_is)
  (case a24=>k_is)
  (case l24=>k_is)
  (case c24=>k_is)
  (case k24=>k_is)
  (case a25=>k_is)
  (case l25=>k_is)
  (case c25=>k_is)
  (case k25=>k_is)
  (case a26=>k_is)
  (case l26=>k_is)
  (case c26=>k_is)
  (case k26=>k_is)
  (case a27=>k_is)
  (case l27=>k_is)
  (case c27=>k_is)
  (case k27=>k_is)
  (case a28=>k_is)
  (case l28=>k_is)
  (case c28=>k_is)
  (case k28=>k_is)
  (case a29=>k_is)
  (case l29=>k_is)
  (case c29=>k_is)
  (case k29=>k_is)
  (case a30=>k_is)
  (case l30=>k_is)
  (case c30=>k_is)
  (case k30=>k_is)
  (case zb_len=>k_is)
  (case zb_all=>k_is)
  (case zb_str=>k_is)
  (case zb_isinstance=>k_is)
  (case zb_enumerate=>k_is)
  (case zb_zip=>k_is)
  (case zb_set=>k_is)
  (case zb_sorted=>k_is)
  (case zb_list=>k_is)
  (case zb_tuple=>k_is)
  (case zb_int=>k_is)
  (case zb_bool=>k_is)
  (case zb_range=>k_is)
  (case zb_max=>k_is)
  (case zb_abs=>k_is)
  (case zb_min=>k_is)
  (case zg_LONGEST_NAME=>k_is)
  (case rg_LONGEST_NAME=>exact⟨_,rfl⟩)
  (case zg_LETTERS=>k_is)
  (case rg_LETTERS=>exact⟨_,rfl⟩)
  (case zg_MOST_ROWS=>k_is)
  (case rg_MOST_ROWS=>exact⟨_,rfl⟩)
  (case zg_MOST_SIGNS=>k_is)
  (case rg_MOST_SIGNS=>exact⟨_,rfl⟩)
  (case zg_AIR=>k_is)
  (case rg_AIR=>exact⟨_,rfl⟩)
  (case zg_MOST_CUTS=>k_is)
  (case rg_MOST_CUTS=>exact⟨_,rfl⟩)
  (case zg_MOST_SAYINGS=>k_is)
  (case rg_MOST_SAYINGS=>exact⟨_,rfl⟩)
  (case zg_FIRST_YEAR=>k_is)
  (case rg_FIRST_YEAR=>exact⟨_,rfl⟩)
  (case zg_LAST_YEAR=>k_is)
  (case rg_LAST_YEAR=>exact⟨_,rfl⟩)
  (case zc_Ground=>k_is)
  (case zo_Ground0=>k_is)
  (case zo_Ground1=>k_is)
  (case zo_Ground2=>k_is)
  (case zo_Ground3=>k_is)
  (case zn_Ground_kept_cuts=>k_is)
  (case zn_Ground_kept_sayings=>k_is)
  (case zn_Ground_kept_layers=>k_is)
  (case zn_Ground_kept_ties=>k_is)
  (case zm_Ground___init__0=>k_is)
  (case zm_Ground___init__1=>k_is)
  (case zm_Ground___init__2=>k_is)
  (case zm_Ground___init__3=>k_is)
  (case zm_Ground___init__4=>k_is)
  (case zm_Ground___init__5=>k_is)
  (case zm_Ground___init__6=>k_is)
  (case zm_Ground_ties0=>k_is)
  (case zm_Ground_ties1=>k_is)
  (case zm_Ground_ties2=>k_is)
  (case zm_Ground_ties3=>k_is)
  (case zm_Ground_ties4=>k_is)
  (case zt_YEAR_WORDS0=>k_is)
  (case zt_YEAR_WORDS1=>k_is)
  (case zt_YEAR_WORDS2=>rfl)
  (case zt_YEAR_WORDS3=>rfl)
  (case zt_YEAR_WORDS4=>decide)
  (case zt_YEAR_WORDS5=>exact .cons ⟨_,rfl⟩ (.cons ⟨_,rfl⟩ (.nil)))
  (case zt_LAYER_WORDS0=>k_is)
  (case zt_LAYER_WORDS1=>k_is)
  (case zt_LAYER_WORDS2=>rfl)
  (case zt_LAYER_WORDS3=>rfl)
  (case zt_LAYER_WORDS4=>decide)
  (case zt_LAYER_WORDS5=>exact .cons ⟨_,rfl⟩ (.cons ⟨_,rfl⟩ (.nil)))
