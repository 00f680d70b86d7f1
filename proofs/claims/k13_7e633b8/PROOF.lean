import PyProof.Rows.All
import Wide.All
import OpenK.AllK
import Wide.FinOn
import Lean
import PyProof.EqAt
import PyProof.EqKinds
import PyProof.TupleCall
import PyProof.ExcInit
import PyProof.ExcClass2
import PyProof.InstStoreFacts
import OpenK.KOwn
import PyProof.RulesAs
import PyProof.ExcAttrAll.ValueError
import KE.KIsAll
import KE.KRevSl
import KE.KRevIter
import PyProof.Rows.SortRuns
import PySem.SetTable
import PySem.SetOps
import PyProof.TupleKey
import PyProof.SetKind
import PyProof.Rows.SetObj
import KE.KDictSum
import PyProof.WalkInts
import KE.KDictOf
import PyProof.AttrMissHeap
import PyProof.DictWalks
import KE.KDictLaws
import KE.KDictList
import PyProof.FString2
import PySem.Challenge.RW_digbook_k13_no_ground
structure PySem.W.Fast:Prop where(tw12812956085562999488 tw4001248723378607638 tw16763925594354197643 tw11037600845101975554 tw11455569330786860731 tw16543342578203454305 tw13076025053844949010 tw4457411213146425242 tw8907643745448760343 tw13919854495570118935 tw4923003610672202633 tw18040351224252797693 tw3275976844924166903 tw11796994852195124680 tw18443133383958540661 tw8218984604901892254 tw9135301505475810414 tw7634281746320813269 tw5646979187508901420 tw8911332754338379139 tw8507439748852737593 tw17437534461851997832 tw443294792819197389 tw12811371753407681715 tw8793116381740504916 tw10076270416922932260 tw16422378289916514783 tw3364111233838983701 tw6351717009166031558 tw12885502243568719216 tw14819307476704699258 tw10796737630465016465 tw1189469594980151657 tw11724279053941495126 tw12516967583170231873 tw17199336529463927990 tw17235791137542836523 tw3326698734114949674 tw15133182047533427274 tw16432461549254275325 tw3356762623379082372 tw3248712149416994549 tw8455354110869553259 tw2343951165990179688 tw10070246991947703745 tw14279140716564565035 tw9028178810134983256 tw6128230364854538746 tw2991662455370269079 tw17160302187880914355 tw6780606962054843412 tw1660367859076181774 tw3114669438464034232 tw8601498067592533771 tw10815530402799151261 tw12656374365450610802 tw3901823770916582189 tw15609874284965925533 tw12280758520899893044 tw7063414725703133170 tw13960499094830528353 tw10830806819409906654 tw6631498674953257985 tw9022122570189522315 tw16970550234166296916 tw2487535479053618342 tw15240311127948587793 tw7631344274041000610 tw5738169146060763964 tw17359173231606642936 tw7179911930839465846 tw12401679609204650354 tw10087311652839946994 tw5743388471300499278 tw5218318029741472344 tw15873562606669154717 tw9430893765541050959 tw2566137170918305819 tw13455173652736957563 tw4849215264115280502 tw7594817212390561753 tw5555596780117856422 tw15693957824043338416 tw18311049714243503004 tw1733558019610227063 tw2987227129624719506 tw5559106428402561227 tw2717444610849293760 tw11096119608179664391 tw8501209939095138476 tw16735370101886411147 tw4612539584794317339 tw9831069356346252992 tw9778839758150826746 tw16744724926703800275 tw5014891613910724433 tw9269627422970937898 tw1900768030000298646 tw12537479591144512898 tw15350847238033518831 tw2063898323619990174 tw17400461032417808882 tw8321765259026848947 tw7741295639345404993 tw411926826895735165 tw16381964768935530970 tw8490715571762740611 tw13397830727965035670 tw15783838909673298896 tw8025894644362330854 tw2147623607489630114 tw8124087480933426285 tw3110400964018977649 tw10779944900714966803 tw14809669692695414936 tw16815275711711235722 tw4708042828168902109 tw12138206822282943705 tw8211276245498389911 tw11750897166750819498 tw2428084763412346434 tw5731395612031485975 tw14539466121291164736 tw18346036870707968989 tw16271086163033559929 tw15187110424091760937 tw1975147153456567474 tw4085532067947421129 tw780945472064302796 tw18109501380879809331 tw1102000698076377257 tw14423942355561298904 tw16859486336569269429 tw11038773276437336902 tw4416378389375211849 tw16902013451933066458 tw16836274140111168764 tw5078950317435193454 tw6899229746585811549 tw8592130825718847783 tw2239281517829339567 tw14090092476817758448 tw8820947821648352797 tw767708388245057458 tw3482945338140092045 tw13234730194616921960 tw2540843860761252163 tw17633608071541321154 tw15918718396921933024 tw6869262331963133852 tw3746382768480422541 tw10165990121664886043 tw521224609456327867 tw13122533822635707462 tw9139750303109699181 tw7921108091774670923 tw9620292574129214804 tw8829041939079568706 tw3643991466173846979 tw4165469684961495060 tw18439508312056950566 tw13930071250302178731 tw3636214067525557182 tw6114470800107413584 tw15148013108687792044 tw7122970939275242084 tw866661030091316247 tw7985800343832453003 tw13137931952709796322 tw14596835841481392638 tw15785828347522219209 tw10825522833207530475 tw3379584569412150445 tw15296887110665377371 tw5226084941057891322 tw7795969056145501745 tw15401413212156963338 tw15351054998577997478 tw12782285424995409436 tw11657436755194090438 tw6961346492894212713 tw9051518911018897614 tw11697353859517521822 tw13270267329592295706 tw8837948863482118699 tw15453624270160740788 tw10478575336181356761 tw9686193114884548010 tw12734845137187188744 tw5790059755705065535 tw7603529922922893104 tw5566106342786683742 tw10430061222351998858 tw14115080547200813624 tw9585529769033408755 tw13462723989032701592 tw6261380141818072804 tw16416762010824256789 tw14804615007328704535 tw822923076235976082 tw6560006806948435087 tw13953016047632450428 tw17330889199833498414 tw12986985903645923280 tw16078086264667615274 tw10930449571825017389 tw10898531823126459685 tw7104948194563408219 tw1602558337283666452 tw7528956005368734583 tw4042922905342506006 tw6642676454747292728 tw13630186745282949327 tw11094223506909217529 tw18214953252289738521 tw7191530375300880223 tw658798220996643778 tw13387823904823208916 tw221773453377925144 tw975860115379746916 tw7424367847864407425 tw9938172150161922467 tw9492175344151514787 tw5835296174714316419 tw5384917569911478242 tw4778577834967360963 tw3564113332377390098 tw18217521061775821536 tw16955478412229599093 tw15547478969334378210 tw14050893848819513001 tw12975865139791506279 tw11746171621628780137 tw10417870259621141381 tw12508613206366211890 tw11001000761714074653 tw10773291529664429410 tw1112794651834876503 tw7669800129270578125 tw13656210879200466694 tw13594011604426894460 tw13521227685695893035 tw8801913468473719383 tw5218520166081191642 tw4187368369049804901 tw9765754623274732849 tw7596267879073324500 tw3059468428025342539 tw2670657015338450620 tw12543360873057271378:0=0)
theorem Z0{c:Sort _}{b:Prop}{a:c}:a=a∨b:=Or.inl rfl
theorem Z1{c:Sort _}{b:Prop}{a:c}:b∨a=a:=Or.inr rfl
theorem Z2:type_of% @PySem.wpAny_bind:=@PySem.wpAny_bind
theorem Z3:type_of% @PySem.wpAny_pure:=@PySem.wpAny_pure
theorem Z4:type_of% @List.getElem?_eq_getElem:=@List.getElem?_eq_getElem
theorem Z5:type_of% @List.length_map:=@List.length_map
theorem Z6:type_of% @PySem.Heap.get?_push_of_some:=@PySem.Heap.get?_push_of_some
theorem Z7:type_of% @List.mem_of_getElem?:=@List.mem_of_getElem?
theorem Z8:type_of% @List.length_append:=@List.length_append
theorem Z9:type_of% @Option.some.inj:=@Option.some.inj
theorem Za:type_of% @Array.length_toList:=@Array.length_toList
theorem Zb:type_of% @List.getD_eq_getElem?_getD:=@List.getD_eq_getElem?_getD
theorem Zc:type_of% @List.map_append:=@List.map_append
theorem Zd:type_of% @List.append_assoc:=@List.append_assoc
theorem Ze:type_of% @decide_eq_true:=@decide_eq_true
theorem Zf:type_of% @Nat.lt_of_lt_of_le:=@Nat.lt_of_lt_of_le
theorem Zg:type_of% @decide_eq_false:=@decide_eq_false
theorem Zh:type_of% @Nat.le_refl:=@Nat.le_refl
theorem Zi:type_of% @PySem.Heap.get?_push_size:=@PySem.Heap.get?_push_size
theorem Zj:type_of% @List.mem_cons_of_mem:=@List.mem_cons_of_mem
theorem Zk:type_of% @List.getElem?_map:=@List.getElem?_map
theorem Zl:type_of% @List.mem_cons_self:=@List.mem_cons_self
theorem Zm:type_of% @List.take_of_length_le:=@List.take_of_length_le
theorem Zn:type_of% @of_decide_eq_true:=@of_decide_eq_true
theorem Zo:type_of% @List.size_toArray:=@List.size_toArray
theorem Zp:type_of% @PySem.Heap.size_push:=@PySem.Heap.size_push
theorem Zq:type_of% @List.length_cons:=@List.length_cons
theorem Zr:type_of% @Nat.ne_of_lt:=@Nat.ne_of_lt
theorem Zs:type_of% @Bool.false_ne_true:=@Bool.false_ne_true
theorem Zt:type_of% @PySem.Heap.lt_size:=@PySem.Heap.lt_size
theorem Zu:type_of% @Bool.and_eq_true:=@Bool.and_eq_true
theorem Zv:type_of% @List.any_cons:=@List.any_cons
theorem Zw:type_of% @Bool.false_eq_true:=@Bool.false_eq_true
theorem Zx:type_of% @List.filterMap_cons:=@List.filterMap_cons
theorem Zy:type_of% @List.flatMap_append:=@List.flatMap_append
theorem Zz:type_of% @List.getElem?_append_left:=@List.getElem?_append_left
theorem Y0:type_of% @List.getElem_mem:=@List.getElem_mem
theorem Y1:type_of% @Nat.le_succ:=@Nat.le_succ
theorem Y2:type_of% @Nat.le_trans:=@Nat.le_trans
theorem Y3:type_of% @List.length_drop:=@List.length_drop
theorem Y4:type_of% @List.length_range:=@List.length_range
theorem Y5:type_of% @List.length_singleton:=@List.length_singleton
theorem Y6:type_of% @List.length_take:=@List.length_take
theorem Y7:type_of% @List.lookup_cons:=@List.lookup_cons
theorem Y8:type_of% @Nat.lt_succ_of_lt:=@Nat.lt_succ_of_lt
theorem Y9:type_of% @Nat.lt_succ_self:=@Nat.lt_succ_self
theorem Ya:type_of% @List.map_cons:=@List.map_cons
theorem Yb:type_of% @List.map_map:=@List.map_map
theorem Yc:type_of% @List.mem_append:=@List.mem_append
theorem Yd:type_of% @List.mem_append_right:=@List.mem_append_right
theorem Ye:type_of% @List.mem_cons:=@List.mem_cons
theorem Yf:type_of% @List.mem_of_mem_drop:=@List.mem_of_mem_drop
theorem Yg:type_of% @List.mem_of_mem_take:=@List.mem_of_mem_take
theorem Yh:type_of% @Nat.ne_of_gt:=@Nat.ne_of_gt
theorem Yi:type_of% @Nat.not_lt_zero:=@Nat.not_lt_zero
theorem Yj:type_of% @List.not_mem_nil:=@List.not_mem_nil
theorem Yk:type_of% @Bool.or_eq_false_iff:=@Bool.or_eq_false_iff
theorem Yl:type_of% @List.pairwise_map:=@List.pairwise_map
theorem Ym:type_of% @List.take_add_one:=@List.take_add_one
theorem Yn:type_of% @Nat.zero_le:=@Nat.zero_le
theorem Yo:type_of% @List.getElem?_of_mem:=@List.getElem?_of_mem
theorem Yp:type_of% @List.Pairwise.imp_of_mem:=@List.Pairwise.imp_of_mem
theorem Yq:type_of% @Int.eq_ofNat_of_zero_le:=@Int.eq_ofNat_of_zero_le
theorem Yr:type_of% @Nat.lt_irrefl:=@Nat.lt_irrefl
theorem Ys{b:Type _}{l:List b}{i:Nat}{a:b}(h:l[i]?=some a):∃h:i<l.length,l[i]=a:=List.getElem?_eq_some_iff.mp h
theorem Yt{b:Type _}{a:b}{s t:List b}(h:a∈s++t):a∈s∨a∈t:=List.mem_append.mp h
theorem Yu{c:Type _}{a b:c}(h:a∈[b]):a=b:=List.mem_singleton.mp h
theorem Yv{c d:Type _}{f:c->d}{l:List c}{b:d}(h:b∈l.map f):∃a,a∈l/\f a=b:=List.mem_map.mp h
theorem Yw{c d:Type _}{f:c->d}{l:List c}{b:d}(h:∃a,a∈l/\f a=b):b∈l.map f:=List.mem_map.mpr h
open Array (length_toList mem_toList_iff size_append size_map toList_append toList_push)
open Bool (and_eq_true eq_false_iff false_eq_true or_eq_false_iff or_eq_true)
open List (all_cons all_eq_true all_map any_cons any_eq_true any_map append_nil ext_getElem filterMap_cons filter_append filter_cons find?_cons flatMap_append flatten_cons foldl_cons forIn_cons forIn_nil getD_eq_getElem?_getD getElem?_append_left getElem?_map getElem?_zip_eq_some getElem_mem length_append length_cons length_drop length_eq_zero_iff length_flatMap length_map length_nil length_pos_iff length_range length_replicate length_singleton length_take length_zip lookup_cons map_append map_cons map_drop map_id map_map map_nil map_take mem_append mem_append_left mem_append_right mem_cons mem_cons_of_mem mem_cons_self mem_filterMap mem_flatMap mem_flatten mem_map mem_of_mem_drop mem_of_mem_take mem_range mem_singleton nodup_append nodup_cons nodup_iff_pairwise_ne nodup_nil nodup_range not_mem_nil of_mem_zip pairwise_map range_succ replicate_succ size_toArray sum_cons take_add_one take_of_length_le toList_toArray)
open Nat (add_comm add_mod add_mul add_zero le_add_right le_of_lt le_refl le_succ le_trans lt_of_lt_of_le lt_or_ge lt_succ_of_lt lt_succ_self min_eq_left mod_lt mul_add mul_assoc mul_one ne_of_gt ne_of_lt not_lt_zero one_mul pow_add pow_succ succ_pos zero_add zero_le)
open Option (bind_some getD_none isSome_map map_eq_some_iff)
open PyProof.Rows (boot_abs boot_all boot_bool boot_int boot_isinstance boot_list boot_max boot_min boot_set boot_sorted boot_str boot_tuple)
open PySem.F (called_set plainAttrs_list plainAttrs_str slot_str_join slot_str_split type_str_join type_str_split)
open PySem.Heap (SameBut get?_push_of_some get?_push_size get?_update_other get?_update_self lt_size push)
open PySem.W (KatTups KitX Looks any_some callWith_K cellsFrom_some check_slot clsIn codeIn emptyDict findCls findIn findObj findObj_own fnOf handedIn hasDictIn hideAll hideAll_get instObj isFn keepIn kia_one kitAny kitOne kitx_dict kitx_list kitx_none lookIn looks_clsIn looks_find looks_findIn looks_hook looks_subIn makesIn methodObj mg_none_of mg_of mroIn nsIn of_hideAll plainGet plainOver readsIn set_plain specialIn subIn takerIn takesIn typeIn)
set_option maxHeartbeats 0
set_option Elab.async false
set_option linter.all false
set_option maxRecDepth 100000
namespace L2
open PySem PySem.Spec PyProof.Rows
noncomputable abbrev Key:=Sum Int Str
noncomputable def jK:Key->Value->Bool
 | .inl k,v=>Value.isInt k v
 | .inr x,v=>Value.isStrOf x v
noncomputable def keyH(w:World):Key->Int
 | .inl k=>hashInt k
 | .inr x=>hashStr w x
theorem bh:∀{k:Key} {v:Value},jK k v=true->(∃i t,k=Sum.inl i/\v=Value.int i t)\/(∃x t,k=Sum.inr x/\v=Value.str x t)
 | .inl i,v,h=>by
   obtain⟨t,e⟩:=Value.isInt_shape (k:=i) (v:=v) h;exact .inl ⟨i,t,rfl,e⟩
 | .inr x,v,h=>by
   obtain⟨t,e⟩:=Value.isStrOf_shape (x:=x) (v:=v) h;exact .inr ⟨x,t,rfl,e⟩
theorem sM(i:Int)(t:Tok):jK (.inl i) (.int i t)=true:=by simp[jK,Value.isInt]
theorem eK(x:Str)(t:Tok):jK (.inr x) (.str x t)=true:=by simp[jK,Value.isStrOf]
theorem zm(a b:Int):decide ((Sum.inl a:Key)=Sum.inl b)=(a==b):=by
 by_cases e:a=b
 ·subst e;simp
 ·have h: ¬ (Sum.inl a:Key)=Sum.inl b:=λq=>e (Sum.inl.inj q)
  rw[Zg h];exact(beq_eq_false_iff_ne.mpr e).symm
theorem zn(a b:Str):decide ((Sum.inr a:Key)=Sum.inr b)=decide (a=b):=by
 by_cases e:a=b
 ·subst e;simp
 ·have h: ¬ (Sum.inr a:Key)=Sum.inr b:=λq=>e (Sum.inr.inj q)
  rw[Zg h,Zg e]
theorem zo(a:Int)(b:Str):decide ((Sum.inl a:Key)=Sum.inr b)=false:=Zg (λq=>nomatch q)
theorem zq(a:Str)(b:Int):decide ((Sum.inr a:Key)=Sum.inl b)=false:=Zg (λq=>nomatch q)
noncomputable def aS(prog:Program)(w:World):PySem.KeyKind prog w Key where
 is:=jK
 hash:=keyH w
 inj:=λv a b ha hb=>by
  rcases bh ha with⟨i,t,rfl,rfl⟩|⟨x,t,rfl,rfl⟩
  ·rcases bh hb with⟨j,u,rfl,e⟩|⟨y,u,rfl,e⟩
   ·injection e with e1 _;rw[e1]
   ·exact nomatch e
  ·rcases bh hb with⟨j,u,rfl,e⟩|⟨y,u,rfl,e⟩
   ·exact nomatch e
   ·injection e with e1 _;rw[e1]
 byValue:=λk v h=>by
  rcases bh h with⟨i,t,rfl,rfl⟩|⟨x,t,rfl,rfl⟩<;> rfl
 pyHash:=λhv h=>by
  rcases bh hv with⟨i,t,rfl,rfl⟩|⟨x,t,rfl,rfl⟩
  ·exact wpAny_pyHash_int h
  ·exact wpAny_pyHash_str h
 eqBool:=λhu hv h=>by
  rcases bh hu with⟨i,t,rfl,rfl⟩|⟨x,t,rfl,rfl⟩
  ·rcases bh hv with⟨j,u,rfl,rfl⟩|⟨y,u,rfl,rfl⟩
   ·rw[zm]at h;exact wpAny_eqBool_int h
   ·rw[zo]at h;exact SeqAt.EqAt.int_str i t y u _ _ _ _ h
  ·rcases bh hv with⟨j,u,rfl,rfl⟩|⟨y,u,rfl,rfl⟩
   ·rw[zq]at h;exact SeqAt.EqAt.str_int x t j u _ _ _ _ h
   ·rw[zn]at h;exact wpAny_eqBool_str h
 «strs»:=λk x t v h=>by
  rcases bh h with⟨i,u,rfl,e⟩|⟨y,u,rfl,e⟩
  ·exact nomatch e
  ·injection e with e1 _
   subst e1;cases v<;> rfl
theorem oJ(prog:Program)(w:World)(i:Int)(t:Tok):(aS prog w).is (.inl i) (.int i t)=true:=sM i t
theorem oK(prog:Program)(w:World)(x:Str)(t:Tok):(aS prog w).is (.inr x) (.str x t)=true:=eK x t
inductive V where
 | non|bl (b:Bool)|int (i:Int)|str (x:Str)|byt (b:Array UInt8)|flt (b:UInt64)|ref (a:Addr)|ty (n:String)
 deriving DecidableEq
def aG:V->Value->Prop
 | .non,u=>u=Value.none
 | .bl b,u=>u=Value.bool b
 | .int i,u=>∃t,u=Value.int i t
 | .str x,u=>∃t,u=Value.str x t
 | .byt b,u=>∃t,u=Value.bytes b t
 | .flt b,u=>∃t,u=Value.float b t
 | .ref a,u=>u=Value.ref a
 | .ty n,u=>u=Value.type n
abbrev aD:List V->List Value->Prop:=Paired aG
theorem aD.length{xs:List V}{us:List Value}(r:aD xs us):xs.length=us.length:=Paired.length r
theorem aD.get:∀{xs:List V} {us:List Value} {i:Nat} {x:V},aD xs us->xs[i]? =some x->∃u,us[i]? =some u/\aG x u
 | _,_,_,_,.nil,e=>by simp at e
 | _,_,0,_,.cons r _,e=>by simp at e;subst e;exact⟨_,rfl,r⟩
 | _,_,i+1,x,.cons _ t,e=>by
   obtain⟨u,a,b⟩:=aD.get (i:=i) (x:=x) t (by simpa using e);exact⟨u,by simpa using a,b⟩
theorem aD.set(r:aG x u):∀{xs:List V} {us:List Value} (i:Nat),aD xs us->aD (xs.set i x) (us.set i u)
 | _,_,_,.nil=> .nil
 | _,_,0,.cons _ t=> .cons r t
 | _,_,i+1,.cons q t=> .cons q (aD.set r i t)
theorem aD.append:∀{xs ys:List V} {us ws:List Value},aD xs us->aD ys ws->aD (xs++ys) (us++ws)
 | _,_,_,_,.nil,s=>s
 | _,_,_,_,.cons r t,s=> .cons r (aD.append t s)
theorem aD.take:∀{xs:List V} {us:List Value} (n:Nat),aD xs us->aD (xs.take n) (us.take n)
 | _,_,0,_=> .nil
 | _,_,_+1,.nil=> .nil
 | _,_,n+1,.cons r t=> .cons r (aD.take n t)
theorem aD.drop:∀{xs:List V} {us:List Value} (n:Nat),aD xs us->aD (xs.drop n) (us.drop n)
 | _,_,0,r=>r
 | _,_,_+1,.nil=> .nil
 | _,_,n+1,.cons _ t=>aD.drop n t
def gY:Option V->Option Value->Prop
 | some v,some u=>aG v u
 | none,none=>True
 | _,_=>False
noncomputable def KV{a:Type}:List (a×V)->List (a×Value)->Prop:=Paired λ(p:a×V) (q:a×Value)=>p.1=q.1/\aG p.2 q.2
noncomputable def kV:Key->V
 | .inl i=> .int i
 | .inr x=> .str x
inductive HO where
 | lst (xs:List V)
 | tup (xs:List V)
 | dK (kvs:List (Key×V))|dT (kvs:List (List Key×V))
 | set (S:Int->Bool) (n:Nat)
 | ins (C dx:Addr) (fs:List (Str×V))
 | own (x:Addr)
 | xd (fs:List (Str×V))
 | met (f x:Addr)
 | rng (lo hi:Int)
 | frz (o:Obj) (u:HO)
 | tbl (ps:Array Value)
 | ext (φ:Heap->Prop)
noncomputable abbrev Hp:=Addr->Option HO
noncomputable def upd(H:Hp)(a:Addr)(o:HO):Hp:=λb=>if b=a then some o else H b
theorem aa:upd H a o a=some o:=by unfold upd;rw[if_pos rfl]
theorem aj{H:Hp}{a b:Addr}{o:HO}(h:b≠a):upd H a o b=H b:=by unfold upd;rw[if_neg h]
theorem m7:upd (upd H a o) a u=upd H a u:=by
 funext b;unfold upd;split<;> rfl
theorem kB{H:Hp}(h:H a=some o)(h':H b=some u)(d:o≠u):a≠b:=by
 intro e;subst e;rw[h]at h';exact d (Z9 h')
theorem am{H:Hp}{a b:Addr}{o:HO}(h:H a=some o)(h':H b=none):a≠b:=by
 intro e;subst e;rw[h]at h';cases h'
section
variable(P:Program)(w:World)
def bg(H:Hp)(h:Heap)(a:Addr):HO->Prop
 | .lst xs=>xs.length<=sizeLine/\∃(its:List Value) (n:Nat),aD xs its/\h.get? a=some {cls:= .type "list",data:= .seq its.toArray n}
 | .tup xs=>xs.length<=sizeLine/\∃its:List Value,aD xs its/\IsTup h a its.toArray
 | .dK b=>b.length<=sizeLine/\(a==sysModules)=false/\∃vs,KV b vs/\h.DictOf (aS P w) a vs
 | .dT b=>b.length<=sizeLine/\(a==sysModules)=false/\∃xs:List (List Key×Addr×Value),
  Paired (λ(p:List Key×V) (q:List Key×Addr×Value)=>p.1=q.1/\H q.2.1=some (.tup (p.1.map kV))/\aG p.2 q.2.2) b xs/\
  ∃o g k,h.get? a=some o/\o.ExactDict/\o.data= .dict g k/\g.toList=xs.map (entryOfKey (tupleKind (aS P w)))/\(xs.map (·.1)).Nodup
 | .set S n=>h.SetOf (intKind P w) a S n
 | .ins C d fs=>H d=some (.own a)/\fs.length<=1000/\d≠a/\h.get? a=some (instObj C d)/\
  ∃c,h.Ns1 d c/\(∀f,gY (fs.lookup f) (c f))/\PySem.Within c (fs.map (·.1))
 | .own _=>∃o,h.get? a=some o
 | .xd fs=>∃c,h.Ns1 a c/\∀f,gY (fs.lookup f) (c f)
 | .rng lo hi=>∃t u v,h.get? a=some {cls:= .type "range",data:= .fields #[.int lo t,.int hi u,.int 1 v]}
 | .frz o u=>h.get? a=some o/\bg H h a u
 | .tbl ps=>h.get? a=some {cls:= .none,data:= .fields ps}
 | .met f x=>h.get? a=some (methodObj (.ref f) (.ref x))
 | .ext e=>e h/\(∃o,h.get? a=some o)/\∀i j:Heap,e i->(∀o,i.get? a=some o->j.get? a=some o)->e j
def HOk(H:Hp)(h:Heap):Prop:=∀a o,H a=some o->bg P w H h a o
end
section
variable{P:Program}{w:World}{H H':Hp}{h h':Heap}{a:Addr}{o:HO}
theorem bg.lt(x:bg P w H h a o):a<h.objs.size:=by
 cases o with
 | lst xs=>obtain⟨_,_,_,_,e⟩:=x;exact Zt e
 | tup xs=>obtain⟨_,_,_,p⟩:=x;exact p.lt
 | dK b=>obtain⟨_,_,_,_,o,_,_,e,_⟩:=x;exact Zt e
 | dT b=>obtain⟨_,_,_,_,o,_,_,e,_⟩:=x;exact Zt e
 | set S n=>obtain⟨o,_,_,_,e,_⟩:=x;exact Zt e
 | ins C c fs=>obtain⟨_,_,_,e,_⟩:=x;exact Zt e
 | own y=>obtain⟨_,e⟩:=x;exact Zt e
 | xd fs=>obtain⟨_,⟨_,_,_,e,_⟩,_⟩:=x;exact Zt e
 | rng lo hi=>obtain⟨_,_,_,e⟩:=x;exact Zt e
 | frz d u=>obtain⟨e,_⟩:=x;exact Zt e
 | tbl ps=>exact Zt (show h.get? a=some _ from x)
 | met f y=>exact Zt (show h.get? a=some _ from x)
 | ext g=>obtain⟨_,⟨_,e⟩,_⟩:=x;exact Zt e
theorem Paired.mapP{F G:c->d->Prop}:∀{l₁:List c} {l₂:List d},Paired F l₁ l₂->(∀a b,F a b->G a b)->Paired G l₁ l₂
 | _,_,.nil,_=> .nil
 | _,_,.cons r t,f=> .cons (f _ _ r) (Paired.mapP t f)
theorem bg.stay(x:bg P w H h a o)(k:∀b u,(b=a\/H b=some (.own a))->h.get? b=some u->h'.get? b=some u)
 (s:∀b,H b=some (.own a)->H' b=some (.own a)) (A:∀b xs,H b=some (.tup xs)->H' b=some (.tup xs)):bg P w H' h' a o:=by
 induction o with
 | lst xs=>obtain⟨z,its,n,r,e⟩:=x;exact⟨z,its,n,r,k _ _ (.inl rfl) e⟩
 | tup xs=>obtain⟨z,its,r,g,e,c⟩:=x;exact⟨z,its,r,g,k _ _ (.inl rfl) e,c⟩
 | dK l=>obtain⟨z,y,vs,r,g,i,j,e,c⟩:=x;exact⟨z,y,vs,r,g,i,j,k _ _ (.inl rfl) e,c⟩
 | dT l=>
   obtain⟨z,y,xs,r,g,i,j,e,c⟩:=x;exact⟨z,y,xs,Paired.mapP r λp q z=>⟨z.1,A _ _ z.2.1,z.2.2⟩,g,i,j,k _ _ (.inl rfl) e,c⟩
 | set S n=>obtain⟨g,i,j,t,e,c⟩:=x;exact⟨g,i,j,t,k _ _ (.inl rfl) e,c⟩
 | ins C E fs=>
   obtain⟨d,z,ne,e,m,⟨od,i,j,B,c⟩,r⟩:=x;exact⟨s _ d,z,ne,k _ _ (.inl rfl) e,m,⟨od,i,j,k _ _ (.inr d) B,c⟩,r⟩
 | own y=>obtain⟨g,e⟩:=x;exact⟨g,k _ _ (.inl rfl) e⟩
 | xd fs=>obtain⟨m,⟨od,i,j,e,c⟩,r⟩:=x;exact⟨m,⟨od,i,j,k _ _ (.inl rfl) e,c⟩,r⟩
 | rng lo hi=>obtain⟨t,u,v,e⟩:=x;exact⟨t,u,v,k _ _ (.inl rfl) e⟩
 | frz g u D=>obtain⟨e,q⟩:=x;exact⟨k _ _ (.inl rfl) e,D q⟩
 | tbl ps=>
   have e:h.get? a=some {cls:= .none,data:= .fields ps}:=x;show h'.get? a=some {cls:= .none,data:= .fields ps};exact k a _ (.inl rfl) e
 | met f y=>
   have e:h.get? a=some (methodObj (.ref f) (.ref y)):=x;show h'.get? a=some (methodObj (.ref f) (.ref y));exact k a _ (.inl rfl) e
 | ext G=>obtain⟨p,⟨o,e⟩,st⟩:=x;exact⟨st _ _ p λo q=>k _ _ (.inl rfl) q,⟨o,k _ _ (.inl rfl) e⟩,st⟩
theorem HOk.lt(x:HOk P w H h)(e:H a=some o):a<h.objs.size:=(x a o e).lt
theorem HOk.fresh(x:HOk P w H h)(e:h.objs.size<=a):H a=none:=by
 cases q:H a with
 | none=>rfl
 | some u=>exact absurd (Zf (x.lt q) e) (Yr _)
theorem HOk.kept(x:HOk P w H h)(k:∀b u,h.get? b=some u->h'.get? b=some u):HOk P w H h':=λa o e=>
 (x a o e).stay (λb u _ q=>k b u q) (λ_ q=>q) λ_ _ q=>q
theorem HOk.laid(x:HOk P w H h)(k:∀b u,h.get? b=some u->h'.get? b=some u)(g:h.objs.size<=a)(new:bg P w (upd H a o) h' a o):HOk P w (upd H a o) h':=λb u e=>by
 have d:=x.fresh g;by_cases f:b=a
 ·subst f;rw[aa]at e;cases e;exact new
 ·rw[aj f]at e;exact(x b u e).stay (λc v _ q=>k c v q) (λc q=>by rw[aj (am q d)];exact q) λc xs q=>by rw[aj (am q d)];exact q
end
def Rd(H:Hp)(a:Addr)(u:HO):Prop:=H a=some u\/∃o,H a=some (.frz o u)
theorem Rd.ok{P:Program}{w:World}{H:Hp}{h:Heap}{a:Addr}{u:HO}(r:Rd H a u)(x:HOk P w H h):bg P w H h a u:=by
 rcases r with r|⟨o,r⟩
 ·exact x a u r
 ·obtain⟨_,q⟩:=x a _ r;exact q
def Mut:Option HO->Prop
 | some (.lst _)=>True
 | some (.dK _)=>True
 | some (.dT _)=>True
 | some (.set _ _)=>True
 | some (.ins _ _ _)=>True
 | some (.ext _)=>True
 | _=>False
section
variable{P:Program}{w:World}{H:Hp}{h h':Heap}{x e:Addr}{o':HO}
theorem HOk.write(ok:HOk P w H h)(g:Mut (H x))(m:e=x\/H e=some (.own x))(k:∀b u,b≠e->h.get? b=some u->h'.get? b=some u)(l:∃u,h'.get? e=some u)
 (new:bg P w (upd H x o') h' x o'):HOk P w (upd H x o') h':=λb u q=>by
 have d:∀c y,H c=some (.own y)->c≠x:=λc y r z=>by subst z;rw[r]at g;exact g
 have f:∀c xs,H c=some (.tup xs)->c≠x:=λc xs r z=>by subst z;rw[r]at g;exact g
 by_cases i:b=x
 ·subst i;rw[aa]at q;cases q;exact new
 ·rw[aj i]at q;by_cases a:b=e
  ·have n:H b=some (.own x):=by
    rcases m with z|z
    ·exact absurd (a.trans z) i
    ·rw[a];exact z
   rw[q]at n;cases n;obtain⟨v,o⟩:=l;exact⟨v,by rw[a];exact o⟩
  ·refine(ok b u q).stay (λc v j r=>k c v ?_ r) (λc r=>by rw[aj (d c b r)];exact r) λc xs r=>by rw[aj (f c xs r)];exact r
   rcases j with rfl|j
   ·exact a
   ·rintro rfl;rcases m with z|z
    ·exact d c b j z
    ·rw[j]at z;cases z;exact i rfl
end
structure Un (fs ex:List Addr) (H H':Hp) (h h':Heap):Prop where
 keep:∀b o,h.get? b=some o->H b=none->b∉fs->b∉ex->h'.get? b=some o
 slot:∀b o,h.get? b=some o->H b=none->b∈fs->b∉ex->∃sl,h'.get? b=some {o with slots:=sl}
 free:∀b o,h.get? b=some o->H b=none->b∉ex->H' b=none
 there:∀b o,h.get? b=some o->b∉ex->∃o',h'.get? b=some o'
 tups:∀b xs,H b=some (.tup xs)->H' b=some (.tup xs)
 frzs:∀b o u,H b=some (.frz o u)->H' b=some (.frz o u)
 tbls:∀b ps,H b=some (.tbl ps)->∃more,H' b=some (.tbl (ps++more))
section
variable{fs fs' ex ex':List Addr}{H H1 H2:Hp}{h h1 h2 h':Heap}{a x e:Addr}{o:HO}
theorem Un.any(u:Un fs ex H H1 h h1)(q:h.get? b=some c)(n:H b=none)(d:b∉ex):∃g,h1.get? b=some {c with slots:=g}:=by
 by_cases f:b∈fs
 ·exact u.slot b c q n f d
 ·exact⟨c.slots,u.keep b c q n f d⟩
theorem Un.trans(a:Un fs ex H H1 h h1)(b:Un fs ex H1 H2 h1 h2):Un fs ex H H2 h h2 where
 keep:=λc ob q n hc hx=>b.keep c ob (a.keep c ob q n hc hx) (a.free c ob q n hx) hc hx
 slot:=λc ob q n hc hx=>by
  obtain⟨sl,e1⟩:=a.slot c ob q n hc hx;obtain⟨sl',e2⟩:=b.slot c _ e1 (a.free c ob q n hx) hc hx;exact⟨sl',e2⟩
 free:=λc ob q n hx=>by
  obtain⟨o',e1⟩:=a.there c ob q hx;exact b.free c o' e1 (a.free c ob q n hx) hx
 there:=λc ob q hx=>by
  obtain⟨o',e1⟩:=a.there c ob q hx;exact b.there c o' e1 hx
 tups:=λc xs q=>b.tups c xs (a.tups c xs q)
 frzs:=λc ob xs q=>b.frzs c ob xs (a.frzs c ob xs q)
 tbls:=λc ps q=>by
  obtain⟨m1,e1⟩:=a.tbls c ps q;obtain⟨m2,e2⟩:=b.tbls c _ e1;exact⟨m1++m2,by rw[e2,Array.append_assoc]⟩
theorem Un.kept(k:∀b u,h.get? b=some u->h'.get? b=some u):Un fs ex H H h h':=
 ⟨λb c q _ _ _=>k b c q,λb c q _ _ _=>⟨c.slots,k b c q⟩,λ_ _ _ n _=>n,λb c q _=>⟨c,k b c q⟩,λ_ _ q=>q,λ_ _ _ q=>q,λ_ ps q=>⟨#[],by rw[q];simp⟩⟩
theorem Un.refl:Un fs ex H H h h:=Un.kept λ_ _ q=>q
theorem Un.laid(k:∀b u,h.get? b=some u->h'.get? b=some u)(hp:h.objs.size<=a)(hn:H a=none):Un fs ex H (upd H a o) h h' where
 keep:=λb u q _ _ _=>k b u q
 slot:=λb u q _ _ _=>⟨u.slots,k b u q⟩
 free:=λb u q n _=>by rw[aj (Zr (Zf (Zt q) hp))];exact n
 there:=λb u q _=>⟨u,k b u q⟩
 tups:=λb xs q=>by rw[aj (am q hn)];exact q
 frzs:=λb u xs q=>by rw[aj (am q hn)];exact q
 tbls:=λb ps q=>⟨#[],by rw[aj (am q hn),q];simp⟩
theorem Un.write(d:Mut (H x))(l:e=x\/H e=some (.own x))(k:∀b u,b≠e->h.get? b=some u->h'.get? b=some u)(f:∃u,h'.get? e=some u):Un fs ex H (upd H x o) h h':=by
 have i:∀b,H b=none->b≠x:=λb n z=>by subst z;rw[n]at d;exact d
 have j:∀b,H b=none->b≠e:=λb n z=>by
  subst z;rcases l with r|r
  ·exact i b n r
  ·rw[n]at r;cases r
 have g:∀b u,H b=some u-> ¬ Mut (some u)->b≠x:=λb u q m z=>by subst z;rw[q]at d;exact m d
 refine⟨λb u q n _ _=>k b u (j b n) q,λb u q n _ _=>⟨u.slots,k b u (j b n) q⟩,λb u q n _=>by rw[aj (i b n)];exact n,λb u q _=>?_,
  λb xs q=>by rw[aj (g b _ q λz=>z)];exact q,λb u xs q=>by rw[aj (g b _ q λz=>z)];exact q,λb ps q=>⟨#[],by rw[aj (g b _ q λz=>z),q];simp⟩⟩
 by_cases c:b=e
 ·subst c;exact f
 ·exact⟨u,k b u c q⟩
end
noncomputable def trk(h:Heap)(H:Hp):List Addr:=(List.range h.objs.size).filter λa=>(H a).isSome
noncomputable def m8(h:Heap)(H:Hp):Heap:=hideAll h (trk h H)
theorem sN(h:Heap)(H:Hp):(m8 h H).objs.size=h.objs.size:=PySem.W.hideAll_size _ _
theorem uY(e:h.get? b=some o)(n:H b=none):(m8 h H).get? b=some o:=
 hideAll_get _ e λa=>by
  have q:(H b).isSome=true:=(List.mem_filter.mp a).2;rw[n]at q;simp at q
theorem xu(e:(m8 h H).get? b=some o):h.get? b=some o/\H b=none:=by
 have a:h.get? b=some o:=of_hideAll (trk h H) e;refine⟨a,?_⟩;cases q:H b with
 | none=>rfl
 | some x=>
   have c:b∈trk h H:=List.mem_filter.mpr ⟨mem_range.mpr (Zt a),by simp[q]⟩;have z:(m8 h H).get? b=none:=PySem.W.hideAll_none (trk h H) c;rw[z]at e;cases e
noncomputable def xv(g h:Heap)(L:Addr):List (Addr×Obj):=(List.range h.objs.size).filterMap λa=>if a=L\/(g.get? a).isSome=true then none else(h.get? a).map λo=>(a,o)
noncomputable def rest(g h:Heap)(L d:Addr):List (Addr×Obj):=(xv g h L).filter λp=>decide (p.1≠d)
structure Mod (K:PySem.W.Frag) (mg:Str->Option Value) (base:Heap):Prop where
 kin:K.In base
 glob:base.Ns mainGlobals mg
 blt:∃mb,base.Ns builtinsNs mb/\∀x:Str,x≠"__name__"->mb x=bootBuiltins x
 nolimit:base.NoLimit
structure Cx where
 prog:Program
 w:World
 K:PySem.W.Frag
 mg:Str->Option Value
 base:Heap
 A:Around
 N:List Str
 s₀:Shared
 H₀:Hp
 env:Env
 outer:List Env
 stack:List Env
 ex:List Addr
 fn:Str->Bool
 calm:Bool
 pn:List (Addr×Obj)
 xe:Value->Shared->Prop
noncomputable def frs(l:List Env):List Addr:=l.filterMap (·.frame)
noncomputable abbrev Cx.fs(X:Cx):List Addr:=frs X.outer
def Vis(a:Scope)(x:Str):Prop:=a.names.lookup x=some .local\/a.names.lookup x=some .cell\/a.names.lookup x=some .free
def Loc(a:Scope)(x:Str):Prop:=a.names.lookup x=some .local\/a.names.lookup x=some .cell
def Look(env:Env)(h:Heap)(m:Str->Option Value)(x:Str)(u:Value):Prop:=
 (env.kindOf x=some .local/\m x=some u)\/((env.kindOf x=some .cell\/env.kindOf x=some .free)/\∃c,env.cells.lookup x=some c/\h.IsCell c (some u))
structure Cx.Ok (X:Cx):Prop where
 mod:Mod X.K X.mg X.base
 kind:X.env.scope.kind= .function
 glob:X.env.globals=mainGlobals
 blt:X.env.builtins=builtinsNs
 above:X.s₀.heap.objs.size<=X.env.locals
 inj:∀x y c,X.env.cells.lookup x=some c->X.env.cells.lookup y=some c->x=y
 has:∀x,(X.env.kindOf x=some .cell\/X.env.kindOf x=some .free)->∃c,X.env.cells.lookup x=some c
 cab:∀x c,X.fn x=true->X.env.cells.lookup x=some c->X.s₀.heap.objs.size<=c
 hd:X.calm=true->X.A.handled=none
 frames:X.A.frames=some X.stack
 stk:X.stack=X.outer\/(X.stack=X.env::X.outer/\X.env.frame=some X.env.locals)
 exf:∀b∈X.ex,b≠X.env.locals/\∀x c,X.env.cells.lookup x=some c->c≠b
 bs:∀b o,X.base.get? b=some o->X.s₀.heap.get? b=some o/\X.H₀ b=none
 bsz:X.base.objs.size<=X.s₀.heap.objs.size
 noex:∀b o,X.base.get? b=some o->b∉X.ex
 exfs:∀b∈X.ex,b∉X.fs
 funs:X.s₀.heap.FunFrames X.base X.outer
 frf:∀b∈X.fs,X.H₀ b=none
structure Inv (X:Cx) (pins:List (Addr×Obj)) (σ:List (Option V)) (H:Hp) (s:Shared):Prop where
 ok:X.Ok
 os:s.os=X.s₀.os
 bare:AllBare s.gens
 base:Un X.fs X.ex X.H₀ H X.s₀.heap s.heap
 loc:∃m,s.heap.Ns X.env.locals m/\∀(i:Nat) (x:Str) (v:V),X.N[i]? =some x->σ[i]? =some (some v)->Vis X.env.scope x->∃u,aG v u/\Look X.env s.heap m x u
 cell:∀x c,X.env.cells.lookup x=some c->∃v,s.heap.IsCell c v
 free:H X.env.locals=none
 freeC:∀x c,X.env.cells.lookup x=some c->H c=none
 pin:∀p∈X.pn++pins,s.heap.get? p.1=some p.2/\H p.1=none/\p.1≠X.env.locals/\p.1∉X.fs/\∀v,p.2.data≠ .cell v
 hok:HOk X.prog X.w H s.heap
 len:σ.length=X.N.length
section
variable{X:Cx}{pins:List (Addr×Obj)}{σ:List (Option V)}{H H':Hp}{s:Shared}{h':Heap}
theorem Cx.Ok.nofr(ok:X.Ok)(e:X.base.get? b=some o):b∉X.fs:=λa=>by
 have:=(ok.funs.mem a).1;rw[e]at this;cases this
theorem Inv.bs(I:Inv X pins σ H s):∀b o,X.base.get? b=some o->s.heap.get? b=some o/\H b=none:=λb o e=>
 ⟨I.base.keep b o (I.ok.bs b o e).1 (I.ok.bs b o e).2 (I.ok.nofr e) (I.ok.noex b o e),I.base.free b o (I.ok.bs b o e).1 (I.ok.bs b o e).2 (I.ok.noex b o e)⟩
theorem Inv.bk(I:Inv X pins σ H s):∀b o,X.base.get? b=some o->s.heap.get? b=some o:=λb o e=>(I.bs b o e).1
theorem Inv.mod(I:Inv X pins σ H s):Mod X.K X.mg X.base:=I.ok.mod
theorem Inv.kIn(I:Inv X pins σ H s):X.K.In s.heap:=I.ok.mod.kin.keeps I.bk
theorem Inv.lt(I:Inv X pins σ H s):X.env.locals<s.heap.objs.size:=let⟨_,a,_⟩:=I.loc;a.lt
theorem Inv.sz(I:Inv X pins σ H s):X.s₀.heap.objs.size<=s.heap.objs.size:=Y2 I.ok.above (le_of_lt I.lt)
theorem Inv.nofs(I:Inv X pins σ H s)(h:s.heap.objs.size<=a):a∉X.fs:=λb=>by
 obtain⟨_,o,c,_⟩:=I.ok.funs.mem b;exact absurd (Zf (Zt c) (Y2 I.sz h)) (Yr _)
theorem Inv.cne(I:Inv X pins σ H s):∀x c,X.env.cells.lookup x=some c->c≠X.env.locals:=λx c e z=>by
 obtain⟨v,o,d,f⟩:=I.cell x c e;obtain⟨m,⟨g,h,i,a,b,_⟩,_⟩:=I.loc;rw[z,a]at d;cases d;rw[b]at f;cases f
theorem Inv.funs(I:Inv X pins σ H s):s.heap.FunFrames X.base X.outer:=by
 have all:∀(l:List Env),(∀b∈frs l,b∈X.fs)->X.s₀.heap.FunFrames X.base l->s.heap.FunFrames X.base l:=by
  intro l
  induction l with
  | nil=>intro _ _;trivial
  | cons env r g=>
    intro f h;obtain⟨i,⟨L,o,a,j,k,m⟩,n⟩:=h;have c:L∈X.fs:=f L (by unfold frs;rw[Zx,a];exact Zl);obtain⟨p,e⟩:=I.base.slot L o k (I.ok.frf L c) c λz=>I.ok.exfs L z c
    exact⟨i,⟨L,_,a,j,e,m⟩,g (λb d=>f b (by unfold frs;rw[Zx,a];exact Zj _ d)) n⟩
 exact all X.outer (λ_ d=>d) I.ok.funs
theorem Inv.stack(I:Inv X pins σ H s):s.heap.FunFrames X.base X.stack:=by
 rcases I.ok.stk with e|⟨e,a⟩
 ·rw[e];exact I.funs
 ·rw[e];obtain⟨m,b,_⟩:=I.loc;refine .cons (by rw[I.ok.kind];decide) a b ?_ I.funs;exact Heap.get?_none_of_le (Y2 I.ok.bsz I.ok.above)
theorem Inv.stkSub(I:Inv X pins σ H s):∀b∈frs X.stack,b∈X.env.locals::X.fs:=λb a=>by
 rcases I.ok.stk with e|⟨e,c⟩
 ·rw[e]at a;exact Zj _ a
 ·rw[e]at a;unfold frs at a;rw[Zx,c]at a;exact a
theorem Inv.stkFree(I:Inv X pins σ H s):∀b∈frs X.stack,H b=none:=λb a=>by
 rcases mem_cons.mp (I.stkSub b a)with e|a
 ·rw[e];exact I.free
 ·obtain⟨_,o,c,_⟩:=I.ok.funs.mem a;exact I.base.free b o c (I.ok.frf b a) λz=>I.ok.exfs b z a
theorem Inv.step{d':Drawn}{ch:List Addr}(I:Inv X pins σ H s)
 (f:∀b∈ch,(b∈X.ex\/X.s₀.heap.objs.size<=b)/\b≠X.env.locals/\(∀x c,X.env.cells.lookup x=some c->c≠b)/\∀p∈X.pn++pins,p.1≠b)
 (keep:∀b o,b≠X.env.locals->b∉X.fs->b∉ch->s.heap.get? b=some o->H b=none->h'.get? b=some o)
 (slot:∀b o,b≠X.env.locals->b∈X.fs->b∉ch->s.heap.get? b=some o->H b=none->∃D,h'.get? b=some {o with slots:=D}) (free:∀b o,b∉ch->s.heap.get? b=some o->H b=none->H' b=none)
 (there:∀b o,b∉ch->s.heap.get? b=some o->∃A,h'.get? b=some A)
 (tups:∀b xs,H b=some (.tup xs)->H' b=some (.tup xs)) (frzs:∀b o u,H b=some (.frz o u)->H' b=some (.frz o u)) (tbls:∀b ps,H b=some (.tbl ps)->∃more,H' b=some (.tbl (ps++more)))
 (O:∀m,s.heap.Ns X.env.locals m->h'.Ns X.env.locals m) (E:HOk X.prog X.w H' h') (Q:AllBare g'):
 Inv X pins σ H' {s with heap:=h',gens:=g',drawn:=d',toks:=t'}:=by
 have B:∀b o,X.s₀.heap.get? b=some o->b≠X.env.locals:=λb o e=>Zr (Zf (Zt e) I.ok.above)
 have j:∀b o,X.s₀.heap.get? b=some o->b∉X.ex->b∉ch:=λb o e a w=>by
  rcases(f b w).1 with z|z
  ·exact a z
  ·exact absurd (Zf (Zt e) z) (Yr _)
 have g:∀x c,X.env.cells.lookup x=some c->∀v,s.heap.IsCell c v->h'.IsCell c v:=λx c e v ⟨o,y,G⟩=>by
  have h:c∉ch:=λz=>(f c z).2.2.1 x c e rfl
  by_cases L:c∈X.fs
  ·obtain⟨D,q⟩:=slot c o (I.cne x c e) L h y (I.freeC x c e);exact⟨_,q,G⟩
  ·exact⟨o,keep c o (I.cne x c e) L h y (I.freeC x c e),G⟩
 refine⟨I.ok,I.os,Q,⟨λb o e n w a=>?_,λb o e n w a=>?_,λb o e n a=>?_,λb o e a=>?_,λb xs e=>tups b xs (I.base.tups b xs e),λb o xs e=>frzs b o xs (I.base.frzs b o xs e),λb ps e=>?_⟩,?_,λx c e=>?_,?_,λx c e=>?_,λp M=>?_,E,I.len⟩
 ·exact keep b o (B b o e) w (j b o e a) (I.base.keep b o e n w a) (I.base.free b o e n a)
 ·obtain⟨D,t⟩:=I.base.slot b o e n w a;obtain⟨J,C⟩:=slot b _ (B b o e) w (j b o e a) t (I.base.free b o e n a);exact⟨J,C⟩
 ·obtain⟨A,t⟩:=I.base.there b o e a;exact free b A (j b o e a) t (I.base.free b o e n a)
 ·obtain⟨A,t⟩:=I.base.there b o e a;exact there b A (j b o e a) t
 ·obtain⟨T,t⟩:=I.base.tbls b ps e;obtain⟨m2,C⟩:=tbls b _ t;exact⟨T++m2,by rw[C,Array.append_assoc]⟩
 ·obtain⟨m,U,Y⟩:=I.loc;refine⟨m,O m U,λi x v t C e3=>?_⟩;obtain⟨u,r,l⟩:=Y i x v t C e3;refine⟨u,r,?_⟩;rcases l with l|⟨k,c,e,z⟩
  ·exact .inl l
  ·exact .inr ⟨k,c,e,g x c e _ z⟩
 ·obtain⟨v,z⟩:=I.cell x c e;exact⟨v,g x c e v z⟩
 ·obtain⟨m,⟨o,_,_,y,_⟩,_⟩:=I.loc;exact free _ o (λz=>(f _ z).2.1 rfl) y I.free
 ·obtain⟨v,o,y,G⟩:=I.cell x c e;exact free c o (λz=>(f c z).2.2.1 x c e rfl) y (I.freeC x c e)
 ·obtain⟨e,n,ne,N,d⟩:=I.pin p M;have h:p.1∉ch:=λz=>(f p.1 z).2.2.2 p M rfl
  exact⟨keep p.1 p.2 ne N h e n,free p.1 p.2 h e n,ne,N,d⟩
theorem Inv.un{t':Nat}(I:Inv X pins σ H s)(u:Un X.fs [] H H' s.heap h')(c:HOk X.prog X.w H' h'):Inv X pins σ H' {s with heap:=h',toks:=t'}:=by
 obtain⟨m,⟨o,k,l,g,r⟩,_⟩:=id I.loc;obtain⟨p,h⟩:=u.any g I.free (by simp);exact I.step (g':=s.gens) (d':=s.drawn) (ch:=[]) (λ_ z=>nomatch z) (λb o _ d _ e n=>u.keep b o e n d (by simp)) (λb o _ d _ e n=>u.slot b o e n d (by simp)) (λb o _ e n=>u.free b o e n (by simp)) (λb o _ e=>u.there b o e (by simp)) u.tups u.frzs u.tbls (λq i=>by
  obtain⟨t,es',f,a,j⟩:=i;rw[g]at a;cases a;exact⟨_,es',f,h,j⟩) c I.bare
theorem Inv.call{d':Drawn}{ch:List Addr}(I:Inv X pins σ H s)(u:Un (frs X.stack) ch H H' s.heap h')(g:HOk X.prog X.w H' h')(k:AllBare g')
 (d:∀b∈ch,(b∈X.ex\/X.s₀.heap.objs.size<=b)/\b≠X.env.locals/\(∀x c,X.env.cells.lookup x=some c->c≠b)/\∀p∈X.pn++pins,p.1≠b):
 Inv X pins σ H' {s with heap:=h',gens:=g',drawn:=d',toks:=t'}:=by
 obtain⟨m,⟨o,v,w,j,r⟩,_⟩:=id I.loc;obtain⟨y,h⟩:=u.any j I.free λz=>(d _ z).2.1 rfl
 exact I.step (ch:=ch) d (λb o h l a e n=>u.keep b o e n (λz=>(mem_cons.mp (I.stkSub b z)).elim h l) a) (λb o _ _ a e n=>u.any e n a) (λb o a e n=>u.free b o e n a) (λb o a e=>u.there b o e a) u.tups u.frzs u.tbls (λA q=>by
  obtain⟨B,es',i,f,t⟩:=q;rw[j]at f;cases f;exact⟨_,es',i,h,t⟩) g k
theorem Inv.turned{it:Addr}(I:Inv X pins σ H s)(k:∀b o,b≠it->s.heap.get? b=some o->h'.get? b=some o)(g:H it=none)(f:it≠X.env.locals)
 (h:it∈X.ex\/X.s₀.heap.objs.size<=it) (i:∀x c,X.env.cells.lookup x=some c->c≠it) (j:∀p∈X.pn++pins,p.1≠it):Inv X pins σ H {s with heap:=h',toks:=t'}:=by
 have d:∀b u,H b=some u->b≠it:=λb u e z=>by rw[z,g]at e;cases e
 refine I.step (g':=s.gens) (d':=s.drawn) (ch:=[it]) (λb l=>?_) (λb o _ _ a e _=>k b o (λz=>a (by simp[z])) e) (λb o _ _ a e _=>⟨o.slots,k b o (λz=>a (by simp[z])) e⟩) (λ_ _ _ _ n=>n)
  (λb o a e=>⟨o,k b o (λz=>a (by simp[z])) e⟩) (λ_ _ e=>e) (λ_ _ _ e=>e) (λb ps e=>⟨#[],by rw[e];simp⟩) (λm t=>?_) (λb u e=>?_) I.bare
 ·have e:b=it:=by simpa using l
  subst e;exact⟨h,f,i,j⟩
 ·obtain⟨o,w,y,A,r⟩:=t;exact⟨o,w,y,k _ o (Ne.symm f) A,r⟩
 ·refine(I.hok b u e).stay (λc v a q=>k c v ?_ q) (λ_ q=>q) λ_ _ q=>q
  rcases a with z|z
  ·rw[z];exact d b u e
  ·exact d c _ z
theorem Inv.tok(I:Inv X pins σ H s)(t:Nat):Inv X pins σ H {s with toks:=t}:=I.un (h':=s.heap) (t':=t) Un.refl I.hok
theorem Inv.kept(I:Inv X pins σ H s)(k:∀b u,s.heap.get? b=some u->h'.get? b=some u):Inv X pins σ H {s with heap:=h',toks:=t'}:=I.un (Un.kept k) (I.hok.kept k)
theorem Inv.laid{a:Addr}{o:HO}{t':Nat}(I:Inv X pins σ H s)(k:∀b u,s.heap.get? b=some u->h'.get? b=some u)(c:s.heap.objs.size<=a)(new:bg X.prog X.w (upd H a o) h' a o):
 Inv X pins σ (upd H a o) {s with heap:=h',toks:=t'}:=I.un (Un.laid k c (I.hok.fresh c)) (I.hok.laid k c new)
theorem Inv.write(I:Inv X pins σ H s)(c:Mut (H x))(d:e=x\/H e=some (.own x))(k:∀b u,b≠e->s.heap.get? b=some u->h'.get? b=some u)(a:∃u,h'.get? e=some u)
 (new:bg X.prog X.w (upd H x o) h' x o):Inv X pins σ (upd H x o) {s with heap:=h',toks:=t'}:=I.un (Un.write c d k a) (I.hok.write c d k a new)
theorem Inv.pins_of(I:Inv X pins σ H s)(h:∀p∈a,s.heap.get? p.1=some p.2/\H p.1=none/\p.1≠X.env.locals/\p.1∉X.fs/\∀v,p.2.data≠ .cell v):Inv X a σ H s:=
 ⟨I.ok,I.os,I.bare,I.base,I.loc,I.cell,I.free,I.freeC,λp b=>(Yt b).elim (λz=>I.pin p (mem_append_left _ z)) (h p),I.hok,I.len⟩
theorem kC{N:List Str}(c:N.Nodup){i j:Nat}{x:Str}(a:N[i]? =some x)(b:N[j]? =some x):i=j:=by
 obtain⟨f,d⟩:=Ys a;obtain⟨g,e⟩:=Ys b;exact(List.getElem_inj c).mp (d.trans e.symm)
theorem sO{A:Around}{E:Value->Shared->Prop}{i:Nat}{x:Str}{v:V}{u:Value}{Q:Unit->Shared->Prop}(I:Inv X pins σ H s)(hN:X.N.Nodup)(hi:X.N[i]? =some x)(w:Loc X.env.scope x)(r:aG v u)
 (h:∀s',Inv X pins (σ.set i (some v)) H s'->(∃a,SameBut a s.heap s'.heap/\(a=X.env.locals\/X.env.cells.lookup x=some a))->Q () s') (hf:X.fn x=true\/X.env.scope.names.lookup x=some .local):wpAny M A (storeName X.env x u) Q E s:=by
 obtain⟨m,hn,hl⟩:=id I.loc;have O:(X.env.scope.kind== .class||(X.env.scope.kind== .module&&X.env.locals != X.env.globals))=false:=by rw[I.ok.kind];rfl
 have D:i<σ.length:=by rw[I.len];exact(Ys hi).1
 have cne:=I.cne;have g:∀{a:Addr} {h':Heap},(∃o,s.heap.get? a=some o/\H a=none)->SameBut a s.heap h'->HOk X.prog X.w H h':=λ{a h'} ha f b ob e=>by
  obtain⟨_,_,B⟩:=ha;refine(I.hok b ob e).stay (λc w' t q=>(f.2 c ?_).trans q) (λ_ q=>q) λ_ _ q=>q
  rintro rfl;rcases t with rfl|t
  ·rw[B]at e;cases e
  ·rw[B]at t;cases t
 rcases w with G|G
 ·refine wpAny_storeName_local G hn (λh' ac f=>?_) O;obtain⟨oL,_,_,al,_⟩:=id hn;refine h _ ⟨I.ok,I.os,I.bare,⟨λb o e n J w=>?_,λb o e n J w=>?_,I.base.free,λb o e w=>?_,I.base.tups,I.base.frzs,I.base.tbls⟩,⟨_,ac,λj y v' l C e3=>?_⟩,λy c e=>?_,I.free,I.freeC,λp hp=>?_,g ⟨oL,al,I.free⟩ f,by simpa using I.len⟩ ⟨_,f,.inl rfl⟩
  ·exact(f.2 b (Zr (Zf (Zt e) I.ok.above))).trans (I.base.keep b o e n J w)
  ·obtain⟨sl,l⟩:=I.base.slot b o e n J w;exact⟨sl,(f.2 b (Zr (Zf (Zt e) I.ok.above))).trans l⟩
  ·obtain⟨o',l⟩:=I.base.there b o e w;exact⟨o',(f.2 b (Zr (Zf (Zt e) I.ok.above))).trans l⟩
  ·by_cases L:j=i
   ·subst L;rw[hi]at l;cases l;rw[List.getElem?_set_self D]at C;cases C;exact⟨u,r,.inl ⟨G,by simp⟩⟩
   ·rw[List.getElem?_set_ne (Ne.symm L)]at C;obtain⟨u',r',q⟩:=hl j y v' l C e3;refine⟨u',r',?_⟩;rcases q with⟨k,e⟩|⟨k,c,e,z⟩
    ·refine .inl ⟨k,?_⟩;have:y≠x:=λe=>L (kC hN l (e▸hi))
     simp[this,e]
    ·exact .inr ⟨k,c,e,z.sameBut f (cne y c e)⟩
  ·obtain⟨w',z⟩:=I.cell y c e;exact⟨w',z.sameBut f (cne y c e)⟩
  ·obtain⟨e,n,ne,nf,d⟩:=I.pin p hp;exact⟨(f.2 p.1 ne).trans e,n,ne,nf,d⟩
 ·have N:X.fn x=true:=by
   rcases hf with z|z
   ·exact z
   ·rw[z]at G;cases G
  obtain⟨c,t⟩:=I.ok.has x (.inl G);obtain⟨w',z⟩:=I.cell x c t;refine wpAny_storeName_cell I.ok.kind G t z (λh' T f=>?_);obtain⟨oc,U,Y⟩:=id z;refine h {s with heap:=h'} ⟨I.ok,I.os,I.bare,⟨λb o e n J w=>?_,λb o e n J w=>?_,I.base.free,λb o e w=>?_,I.base.tups,I.base.frzs,I.base.tbls⟩,⟨m,hn.sameBut f (Ne.symm (cne x c t)),λj y v' l C e3=>?_⟩,λy c' e=>?_,I.free,I.freeC,λp hp=>?_,g ⟨oc,U,I.freeC x c t⟩ f,by simpa using I.len⟩ ⟨c,f,.inr t⟩
  ·exact(f.2 b (Zr (Zf (Zt e) (I.ok.cab x c N t)))).trans (I.base.keep b o e n J w)
  ·obtain⟨sl,l⟩:=I.base.slot b o e n J w;exact⟨sl,(f.2 b (Zr (Zf (Zt e) (I.ok.cab x c N t)))).trans l⟩
  ·obtain⟨o',l⟩:=I.base.there b o e w;exact⟨o',(f.2 b (Zr (Zf (Zt e) (I.ok.cab x c N t)))).trans l⟩
  ·by_cases L:j=i
   ·subst L;rw[hi]at l;cases l;rw[List.getElem?_set_self D]at C;cases C;exact⟨u,r,.inr ⟨.inl G,c,t,T⟩⟩
   ·rw[List.getElem?_set_ne (Ne.symm L)]at C;obtain⟨u',r',q⟩:=hl j y v' l C e3;refine⟨u',r',?_⟩;rcases q with q|⟨k,c',e,z'⟩
    ·exact .inl q
    ·refine .inr ⟨k,c',e,z'.sameBut f ?_⟩;rintro rfl;exact L (kC hN l (I.ok.inj _ _ _ e t▸hi))
  ·by_cases ab:c'=c
   ·subst ab;exact⟨_,T⟩
   ·obtain⟨w2,z2⟩:=I.cell y c' e;exact⟨w2,z2.sameBut f ab⟩
  ·obtain⟨e,n,ne,nf,d⟩:=I.pin p hp;refine⟨(f.2 p.1 ?_).trans e,n,ne,nf,d⟩;intro q;rw[q,U]at e;have q':oc=p.2:=Z9 e;exact d w' (by rw[<-q'];exact Y)
theorem iI(I:Inv X pins σ H s)(a:X.N.Nodup)(hi:X.N[i]? =some x)(b:Loc X.env.scope x)(r:aG v u)
 (h:∀s',Inv X pins (σ.set i (some v)) H s'->Q () s') (c:X.fn x=true\/X.env.scope.names.lookup x=some .local):wpAny M A (storeName X.env x u) Q E s:=
 sO I a hi b r (λs' d _=>h s' d) c
theorem Inv.call'(I:Inv X pins σ H s)(f:s'.os=s.os)(u:Un (frs X.stack) ch H H' s.heap s'.heap)(a:HOk X.prog X.w H' s'.heap)(g:AllBare s'.gens)
 (d:∀b∈ch,(b∈X.ex\/X.s₀.heap.objs.size<=b)/\b≠X.env.locals/\(∀x c,X.env.cells.lookup x=some c->c≠b)/\∀p∈X.pn++pins,p.1≠b):Inv X pins σ H' s':=by
 obtain⟨h',g',d',t',h⟩:=s';have e:h=s.os:=f;subst e;exact I.call (g':=g') (t':=t') (d':=d') u a g d
end
noncomputable abbrev XK:=Value->Option Addr->Hp->Prop
noncomputable abbrev St:=List (Option V)
noncomputable abbrev VK:=V->Hp->Prop
noncomputable abbrev TE:=St->Hp->VK->Prop
noncomputable abbrev TT:=St->Hp->(Bool->Hp->Prop)->Prop
noncomputable abbrev TA:=St->Hp->(List V->Hp->Prop)->Prop
structure d9 where
 nx:St->Hp->Prop
 rt:VK
 bk:St->Hp->Prop:=λ_ _=>False
 ct:St->Hp->Prop:=λ_ _=>False
noncomputable abbrev TS:=d9->St->Hp->Prop
def EP(X:Cx)(pins:List (Addr×Obj))(b:St)(Q:VK)(u:Value)(s':Shared):Prop:=∃v a,Inv X pins b a s'/\aG v u/\Q v a
def TP(X:Cx)(pins:List (Addr×Obj))(c:St)(Q:Bool->Hp->Prop)(b:Bool)(s':Shared):Prop:=∃a,Inv X pins c a s'/\Q b a
def AP(X:Cx)(pins:List (Addr×Obj))(b:St)(Q:List V->Hp->Prop)(us:List Value)(s':Shared):Prop:=∃vs a,Inv X pins b a s'/\aD vs us/\Q vs a
def SP(X:Cx)(pins:List (Addr×Obj))(D:d9)(f:Flow)(s':Shared):Prop:=
 match f with
 | .next=>∃a b,Inv X pins a b s'/\D.nx a b
 | .brk=>∃a b,Inv X pins a b s'/\D.bk a b
 | .cont=>∃a b,Inv X pins a b s'/\D.ct a b
 | .ret u=>∃v a b,Inv X pins a b s'/\aG v u/\D.rt v b
def PE(X:Cx)(e:Expr)(t:TE):Prop:=
 ∀(pins:List (Addr×Obj)) (s:Shared) (a:St) (H:Hp) (Q:VK),Inv X pins a H s->t a H Q->wpAny (model X.prog X.w) X.A (eval e X.env) (EP X pins a Q) X.xe s
def PT(X:Cx)(e:Expr)(t:TT):Prop:=
 ∀(pins:List (Addr×Obj)) (s:Shared) (a:St) (H:Hp) (Q:Bool->Hp->Prop),Inv X pins a H s->t a H Q->wpAny (model X.prog X.w) X.A (isTrue e X.env (eval e X.env)) (TP X pins a Q) X.xe s
def PW(X:Cx)(e:Expr)(t:TT):Prop:=
 ∀(a:Sem Value) (pins:List (Addr×Obj)) (s:Shared) (b:St) (H:Hp) (Q:Bool->Hp->Prop),Inv X pins b H s->t b H Q->wpAny (model X.prog X.w) X.A (isTrue e X.env a) (TP X pins b Q) X.xe s
theorem PW.pt{X:Cx}(h:PW X e t):PT X e t:=h _
def PA(X:Cx)(b:List Expr)(t:TA):Prop:=
 ∀(pos:Pos) (pins:List (Addr×Obj)) (s:Shared) (a:St) (H:Hp) (Q:List V->Hp->Prop),Inv X pins a H s->t a H Q->wpAny (model X.prog X.w) X.A (spliced (backTo pos (starEach b X.env))) (AP X pins a Q) X.xe s
def PS(X:Cx)(st:Stmt)(t:TS):Prop:=
 ∀(pins:List (Addr×Obj)) (s:Shared) (a:St) (H:Hp) (D:d9),Inv X pins a H s->t D a H->wpAny (model X.prog X.w) X.A (exec st X.env) (SP X pins D) X.xe s
def PSs(X:Cx)(st:List Stmt)(t:TS):Prop:=
 ∀(pins:List (Addr×Obj)) (s:Shared) (a:St) (H:Hp) (D:d9),Inv X pins a H s->t D a H->wpAny (model X.prog X.w) X.A (execs st X.env) (SP X pins D) X.xe s
theorem thn{b:Type}{t:Sem b}{Q c:b->Shared->Prop}{M:Model}{A:Around}{E:Value->Shared->Prop}{s:Shared}(h:wpAny M A t Q E s)(d:∀a s,Q a s->c a s):wpAny M A t c E s:=wpAny_mono h d λ_ _ x=>x
section
variable{X:Cx}
def asI(x:V)(f:Int->Prop):Prop:=match x with| .int i=>f i|_=>False
def asB(x:V)(f:Bool->Prop):Prop:=match x with| .bl i=>f i|_=>False
def asR(x:V)(f:Addr->Prop):Prop:=match x with| .ref i=>f i|_=>False
theorem A1:asI (.int i) f=f i:=rfl
theorem A2:asB (.bl i) f=f i:=rfl
theorem A3:asR (.ref i) f=f i:=rfl
theorem fP{x:V}{f:Int->Prop}(h:asI x f):∃i,x= .int i/\f i:=by
 cases x<;> first|exact⟨_,rfl,h⟩|exact h.elim
theorem iJ{x:V}{f:Bool->Prop}(h:asB x f):∃i,x= .bl i/\f i:=by
 cases x<;> first|exact⟨_,rfl,h⟩|exact h.elim
theorem oM{x:V}{f:Addr->Prop}(h:asR x f):∃i,x= .ref i/\f i:=by
 cases x<;> first|exact⟨_,rfl,h⟩|exact h.elim
theorem A4:asI x f=∃i,x= .int i/\f i:=propext ⟨fP,λ⟨_,e,q⟩=>by subst e;exact q⟩
theorem A5:asB x f=∃i,x= .bl i/\f i:=propext ⟨iJ,λ⟨_,e,q⟩=>by subst e;exact q⟩
theorem A6:asR x f=∃i,x= .ref i/\f i:=propext ⟨oM,λ⟨_,e,q⟩=>by subst e;exact q⟩
def gZ:Nat->TE
 | 0,some v::_,H,Q=>Q v H
 | i+1,_::a,H,Q=>gZ i a H Q
 | _,_,_,_=>False
theorem zr:gZ 0 (some v::a) H Q=Q v H:=rfl
theorem zt:gZ (i+1) (o::a) H Q=gZ i a H Q:=rfl
theorem uZ:∀{i:Nat} {a:St},gZ i a H Q->∃v,a[i]? =some (some v)/\Q v H
 | 0,some v::_,h=>⟨v,rfl,h⟩
 | 0,none::_,h=>h.elim
 | 0,[],h=>h.elim
 | _+1,[],h=>h.elim
 | i+1,_::a,h=>uZ (i:=i) (a:=a) h
def tC(v:V):TE:=λ_ H Q=>Q v H
theorem u4(k:X.N[i]? =some x)(n:Vis X.env.scope x)(f:(x==("__debug__":Str))=false)(g:(x==("__classdict__":Str))=false):PE X (.Name x pos) (gZ i):=by
 intro pins s o H Q I h;obtain⟨v,e,h⟩:=uZ h;obtain⟨m,p,q⟩:=I.loc;obtain⟨u,r,l⟩:=q i x v k e n;have b:EP X pins o Q u s:=⟨v,H,I,r,h⟩
 rcases l with⟨d,t⟩|⟨d,c,j,a⟩
 ·exact wpAny_Name (wpAny_loadName_local I.ok.kind d p t b) f
 ·rcases d with d|d
  ·exact wpAny_Name (wpAny_loadName_cell I.ok.kind d j a b) f
  ·exact wpAny_Name (wpAny_loadName_free I.ok.kind d j a b g) f
theorem zu{i j pos}:PE X (.Constant (.int i) j pos) (tC (.int i)):=λ_ _ _ H _ I h=>wpAny_Constant_int ⟨.int i,H,I.tok _,⟨_,rfl⟩,h⟩
theorem A7{b j pos}:PE X (.Constant (.bool b) j pos) (tC (.bl b)):=λ_ _ _ H _ I h=>Constant_bool ⟨.bl b,H,I,rfl,h⟩
theorem zv{j pos}:PE X (.Constant .none j pos) (tC .non):=λ_ _ _ H _ I h=>Constant_none ⟨.non,H,I,rfl,h⟩
theorem zw{x j pos}:PE X (.Constant (.str x) j pos) (tC (.str x)):=λ_ _ _ H _ I h=>Calls.Constant_str ⟨.str x,H,I.tok _,⟨_,rfl⟩,h⟩
def Gl(X:Cx)(x:Str):Prop:=X.env.kindOf x=some .globalImplicit
theorem et(I:Inv X pins d H s)(a:Gl X x)(b:X.mg x=some u)(h:Q u s)
 (c:(x==("__debug__":Str))=false):wpAny (model X.prog X.w) X.A (eval (.Name x pos) X.env) Q E s:=
 Calls.Name_function_global I.ok.kind a (Calls.loadGlobal_global (by rw[I.ok.glob];exact I.mod.glob.keeps I.bk) b h) c
theorem ik(I:Inv X pins i H s)(a:Gl X x)(b:X.mg x=none)(c:bootBuiltins x=some u)(h:Q u s)
 (d:x≠"__name__":=by decide) (e:(x==("__debug__":Str))=false:=by decide):wpAny (model X.prog X.w) X.A (eval (.Name x pos) X.env) Q E s:=by
 obtain⟨j,f,g⟩:=I.mod.blt;exact Calls.Name_function_global I.ok.kind a (Calls.loadGlobal_builtin (by rw[I.ok.glob];exact I.mod.glob.keeps I.bk) b (by rw[I.ok.blt];exact f.keeps I.bk) ((g x d).trans c) h) e
theorem xw(a:Gl X x)(b:X.mg x=some u)(r:aG v u)(c:(x==("__debug__":Str))=false):PE X (.Name x pos) (tC v):=
 λ_ _ _ H _ I h=>et I a b ⟨v,H,I,r,h⟩ c
theorem xx(a:Gl X x)(b:X.mg x=none)(c:bootBuiltins x=some u)(r:aG v u)(d:x≠"__name__")(e:(x==("__debug__":Str))=false):PE X (.Name x pos) (tC v):=
 λ_ _ _ H _ I h=>ik I a b c ⟨v,H,I,r,h⟩ d e
variable{a b:Expr}{ta tb:TE}{pos:Pos}
def PC(X:Cx)(f:CmpOp)(a b:Expr)(t:TE):Prop:=
 ∀(pins:List (Addr×Obj)) (s:Shared) (e:St) (H:Hp) (Q:VK),Inv X pins e H s->t e H Q->
  wpAny (model X.prog X.w) X.A (eval a X.env) (λv c=>wpAny (model X.prog X.w) X.A (eval b X.env) (λu d=>wpAny (model X.prog X.w) X.A (compareOp f v u) (EP X pins e Q) X.xe d) X.xe c) X.xe s
theorem A8(b:Expr)(h:c≠ .In)(d:c≠ .NotIn):behindInMarks c b=false:=by
 have e:(c==CmpOp.In)=false:=by cases c<;> first|rfl|exact absurd rfl h
 have f:(c==CmpOp.NotIn)=false:=by cases c<;> first|rfl|exact absurd rfl d
 cases b<;> simp[behindInMarks,e,f]
def tB(t:TE):TT:=λd H Q=>t d H λx e=>asB x λc=>Q c e
theorem zx(h:PC X c a b t)(d:behindInMarks c b=false):PE X (.Compare a [c] [b] pos) t:=λpins s e H Q I hw=>wpAny_Compare1 (h pins s e H Q I hw) d
theorem u5{e:CmpOp}(h:PC X e a b t)(f:behindInMarks e b=false):PT X (.Compare a [e] [b] pos) (tB t):=by
 intro pins s g H Q I hw;refine wpAny_isTrue_Compare1 (thn (h pins s g H _ I hw) λv n f=>thn f λu o i=>thn i λc p ⟨x,j,k,l,m⟩=>?_) f;obtain⟨d,rfl,q⟩:=iJ m;cases l;exact wpAny_truthy_bool ⟨j,k,q⟩
variable{tA tB':TT}{rest:List Expr}
def xy(t u:TT):TT:=λd H Q=>t d H λc e=>if c=true then u d e Q else Q false e
def tOr(t u:TT):TT:=λd H Q=>t d H λc e=>if c=true then Q true e else u d e Q
def zy(t:TT):TT:=λd H Q=>t d H λc e=>Q (!c) e
theorem xz(d:PT X a tA):PW X (.BoolOp .And [a] pos) tA:=by
 intro g pins s f H Q I h;refine isTrue_and (thn (d pins s f H Q I h) λc i e=>?_);cases c with
 | true=>exact isTrue_and_nil e
 | false=>exact e
theorem zz(d:PT X a tA):PW X (.BoolOp .Or [a] pos) tA:=by
 intro g pins s f H Q I h;refine isTrue_or (thn (d pins s f H Q I h) λc i e=>?_);cases c with
 | false=>exact isTrue_or_nil e
 | true=>exact e
theorem zA(i:PT X a tA)(j:PW X (.BoolOp .And (b::rest) pos) tB'):PW X (.BoolOp .And (a::b::rest) pos) (xy tA tB'):=by
 intro k pins s d H Q I h;refine isTrue_and (thn (i pins s d H _ I h) λc l ⟨e,f,g⟩=>?_);cases c with
 | true=>exact j k pins l d e Q f g
 | false=>exact⟨e,f,g⟩
theorem A9(i:PT X a tA)(j:PW X (.BoolOp .Or (b::rest) pos) tB'):PW X (.BoolOp .Or (a::b::rest) pos) (tOr tA tB'):=by
 intro k pins s d H Q I h;refine isTrue_or (thn (i pins s d H _ I h) λc l ⟨e,f,g⟩=>?_);cases c with
 | true=>exact⟨e,f,g⟩
 | false=>exact j k pins l d e Q f g
theorem zB(d:PT X a tA):PT X (.UnaryOp .Not a pos) (zy tA):=by
 intro pins s e H Q I h;exact isTrue_not (d pins s e H (λc f=>Q (!c) f) I h)
def u9(ta tb:TE):TE:=λd H Q=>ta d H λx e=>asB x λc=>if c=true then tb d e Q else Q (.bl false) e
def zC(ta tb:TE):TE:=λd H Q=>ta d H λx e=>asB x λc=>if c=true then Q (.bl true) e else tb d e Q
theorem zD{c}(h:PE X a t):PE X (.BoolOp c [a] pos) t:=λpins s d H Q I hw=>BoolOp_one (h pins s d H Q I hw)
theorem zE(i:PE X a ta)(j:PE X (.BoolOp .And (b::rest) pos) tb):PE X (.BoolOp .And (a::b::rest) pos) (u9 ta tb):=by
 intro pins s e H Q I h;refine BoolOp_and (thn (i pins s e H _ I h) λv k ⟨x,f,g,l,d⟩=>?_);obtain⟨c,rfl,d⟩:=iJ d;cases l;refine wpAny_truthy_bool ?_;cases c with
 | true=>exact j pins k e f Q g d
 | false=>exact⟨.bl false,f,g,rfl,d⟩
theorem Ba(i:PE X a ta)(j:PE X (.BoolOp .Or (b::rest) pos) tb):PE X (.BoolOp .Or (a::b::rest) pos) (zC ta tb):=by
 intro pins s e H Q I h;refine BoolOp_or (thn (i pins s e H _ I h) λv k ⟨x,f,g,l,d⟩=>?_);obtain⟨c,rfl,d⟩:=iJ d;cases l;refine wpAny_truthy_bool ?_;cases c with
 | false=>exact j pins k e f Q g d
 | true=>exact⟨.bl true,f,g,rfl,d⟩
end
def SqL(K:PySem.W.Frag)(H:Hp)(a:Addr)(xs:List V):Prop:=
 Rd H a (.lst xs)\/
  ∃(o:Obj) (its:Array Value) (n:Nat),K.lookup a=some o/\o.cls= .type "list"/\o.dict=none/\o.data= .seq its n/\its.size<=sizeLine/\aD xs its.toList
def SqT(K:PySem.W.Frag)(H:Hp)(a:Addr)(xs:List V):Prop:=
 Rd H a (.tup xs)\/
  ∃(o:Obj) (its:Array Value) (n:Nat),K.lookup a=some o/\o.cls= .type "tuple"/\o.data= .seq its n/\its.size<=sizeLine/\aD xs its.toList
noncomputable def absV:Value->Option V
 | .none=>some .non
 | .bool b=>some (.bl b)
 | .int i _=>some (.int i)
 | .str x _=>some (.str x)
 | .bytes b _=>some (.byt b)
 | .float b _=>some (.flt b)
 | .ref a=>some (.ref a)
 | .type n=>some (.ty n)
 | _=>none
theorem aG.abs(r:aG x u):absV u=some x:=by
 cases x with
 | non=>cases r;rfl
 | bl _=>cases r;rfl
 | int _=>obtain⟨t,rfl⟩:=r;rfl
 | str _=>obtain⟨t,rfl⟩:=r;rfl
 | byt _=>obtain⟨t,rfl⟩:=r;rfl
 | flt _=>obtain⟨t,rfl⟩:=r;rfl
 | ref _=>cases r;rfl
 | ty _=>cases r;rfl
theorem aG.inj(r:aG x u)(q:aG y u):x=y:=Z9 (r.abs.symm.trans q.abs)
theorem aD.inj:∀{xs ys:List V} {us:List Value},aD xs us->aD ys us->xs=ys
 | _,_,_,.nil,.nil=>rfl
 | _,_,_,.cons r t,.cons a t'=>by rw[r.inj a,aD.inj t t']
section
variable{X:Cx}{pins:List (Addr×Obj)}{σ:St}{H:Hp}{s:Shared}{a:Addr}{xs ys:List V}
theorem SqL.of{K:PySem.W.Frag}(h:H a=some (.lst xs)):SqL K H a xs:= .inl (.inl h)
theorem SqT.of{K:PySem.W.Frag}(h:H a=some (.tup xs)):SqT K H a xs:= .inl (.inl h)
theorem Inv.list(I:Inv X pins σ H s)(h:SqL X.K H a xs):∃its:List Value,aD xs its/\PlainL s.heap a its.toArray/\xs.length<=sizeLine:=by
 rcases h with h|⟨o,its,n,b,c,d,f,g,r⟩
 ·obtain⟨z,its,n,r,e⟩:=h.ok I.hok;exact⟨its,r,⟨_,n,e,rfl,rfl,rfl⟩,z⟩
 ·refine⟨its.toList,r,⟨o,n,I.kIn a o b,c,d,by simpa using f⟩,?_⟩;have e:=r.length;simp only[Za]at e
  lia
theorem Inv.tuple(I:Inv X pins σ H s)(h:SqT X.K H a xs):∃its:List Value,aD xs its/\IsTup s.heap a its.toArray/\xs.length<=sizeLine:=by
 rcases h with h|⟨o,its,n,b,c,d,f,r⟩
 ·obtain⟨z,its,r,p⟩:=h.ok I.hok;exact⟨its,r,p,z⟩
 ·refine⟨its.toList,r,⟨o,I.kIn a o b,c,n,by simpa using d⟩,?_⟩;have e:=r.length;simp only[Za]at e
  lia
theorem Inv.list_inj(I:Inv X pins σ H s)(h:SqL X.K H a xs)(h':SqL X.K H a ys):xs=ys:=by
 obtain⟨its,r,⟨o,n,e,_,_,d⟩,_⟩:=I.list h;obtain⟨its',c,⟨g,i,b,_,_,d'⟩,_⟩:=I.list h';rw[e]at b;cases b;rw[d]at d';injection d' with f _
 have:its=its':=by simpa using congrArg Array.toList f
 subst this;exact r.inj c
theorem Inv.tuple_inj(I:Inv X pins σ H s)(h:SqT X.K H a xs)(h':SqT X.K H a ys):xs=ys:=by
 obtain⟨its,r,⟨o,e,_,n,d⟩,_⟩:=I.tuple h;obtain⟨its',c,⟨g,b,_,i,d'⟩,_⟩:=I.tuple h';rw[e]at b;cases b;rw[d]at d';injection d' with f _
 have:its=its':=by simpa using congrArg Array.toList f
 subst this;exact r.inj c
end
noncomputable abbrev Cx.wish(X:Cx)(E:Value->Shared->Prop):Cx:={X with xe:=E}
noncomputable abbrev Cx.nox(X:Cx):Cx:=X.wish λ_ _=>False
theorem Cx.Ok.wish{X:Cx}(ok:X.Ok)(E:Value->Shared->Prop):(X.wish E).Ok:=
 ⟨ok.mod,ok.kind,ok.glob,ok.blt,ok.above,ok.inj,ok.has,ok.cab,ok.hd,ok.frames,ok.stk,ok.exf,ok.bs,ok.bsz,ok.noex,ok.exfs,ok.funs,ok.frf⟩
theorem Cx.Ok.unwish{X:Cx}{E:Value->Shared->Prop}(ok:(X.wish E).Ok):X.Ok:=
 ⟨ok.mod,ok.kind,ok.glob,ok.blt,ok.above,ok.inj,ok.has,ok.cab,ok.hd,ok.frames,ok.stk,ok.exf,ok.bs,ok.bsz,ok.noex,ok.exfs,ok.funs,ok.frf⟩
section
variable{X:Cx}{pins:List (Addr×Obj)}{σ:St}{H:Hp}{s:Shared}{E:Value->Shared->Prop}
theorem Inv.wish(I:Inv X pins σ H s)(E:Value->Shared->Prop):Inv (X.wish E) pins σ H s:=⟨I.ok.wish E,I.os,I.bare,I.base,I.loc,I.cell,I.free,I.freeC,I.pin,I.hok,I.len⟩
theorem Inv.unwish(I:Inv (X.wish E) pins σ H s):Inv X pins σ H s:=⟨I.ok.unwish,I.os,I.bare,I.base,I.loc,I.cell,I.free,I.freeC,I.pin,I.hok,I.len⟩
theorem SP.unwish{D:d9}{f:Flow}{s':Shared}(h:SP (X.wish E) pins D f s'):SP X pins D f s':=by
 cases f with
 | next=>obtain⟨a,b,I,q⟩:=h;exact⟨a,b,I.unwish,q⟩
 | brk=>obtain⟨a,b,I,q⟩:=h;exact⟨a,b,I.unwish,q⟩
 | cont=>obtain⟨a,b,I,q⟩:=h;exact⟨a,b,I.unwish,q⟩
 | ret u=>obtain⟨v,a,b,I,r,q⟩:=h;exact⟨v,a,b,I.unwish,r,q⟩
theorem PSs.nox{st:List Stmt}(h:PSs X.nox st t):PSs X st t:=λpins s σ H D I hw=>
 wpAny_mono (h pins s σ H D (I.wish _) hw) (λ_ _ q=>q.unwish) λ_ _ z=>False.elim z
end
section
variable{X:Cx}{st:Stmt}{rest:List Stmt}{t u:TS}{e:Expr}{te:TE}{pos:Pos}
def va:TS:=λD a H=>D.nx a H
def bA(t u:TS):TS:=λD a H=>t {D with nx:=u D} a H
theorem xA:PSs X [] va:=λ_ _ a H _ I h=>wpAny_execs_nil ⟨a,H,I,h⟩
theorem vb(b:PS X st t)(c:PSs X rest u):PSs X (st::rest) (bA t u):=by
 intro pins s d H D I h;refine wpAny_execs_cons (thn (b pins s d H {D with nx:=u D} I h) λf g q=>?_);cases f with
 | next=>
   obtain⟨a,i,j,q⟩:=q;exact c pins g a i D j q
 | ret v=>exact q
 | brk=>exact q
 | cont=>exact q
theorem xB(a:PS X st t):PSs X [st] t:=by
 intro pins s b H D I h;refine wpAny_execs_cons (thn (a pins s b H D I h) λf c q=>?_);cases f with
 | next=>exact wpAny_execs_nil q
 | ret v=>exact q
 | brk=>exact q
 | cont=>exact q
theorem Inv.quiet{pins:List (Addr×Obj)}{a:St}{H:Hp}{s:Shared}(I:Inv X pins a H s):interactive X.env=false:=by simp[interactive,I.ok.kind]
def kD(te:TE):TS:=λD a H=>te a H λ_ b=>D.nx a b
theorem xC(b:PE X e te)(c:swapsWith e none pos.line X.env=pure false):PS X (.Expr e pos) (kD te):=by
 intro pins s a H D I h;exact wpAny_Expr_any (thn (b pins s a H _ I h) λv i ⟨x,d,f,j,g⟩=>⟨a,d,f,g⟩) I.quiet c
def jY(te:TE):TS:=λD a H=>te a H D.rt
theorem zF(b:PE X e te):PS X (.Return (some e) pos) (jY te):=by
 intro pins s a H D I h;exact wpAny_Return_some (thn (b pins s a H _ I h) λv i ⟨x,c,d,f,g⟩=>⟨x,a,c,d,f,g⟩)
def m9(c:TT)(t u:TS):TS:=λD a H=>c a H λb d=>if b=true then t D a d else u D a d
theorem Bb{c:Expr}{a b:List Stmt}(l:PT X c m)(n:PSs X a t)(o:PSs X b u):PS X (.If c a b pos) (m9 m t u):=by
 intro pins s f H D I h;refine wpAny_If (thn (l pins s f H _ I h) λd g ⟨i,j,k⟩=>?_);cases d with
 | true=>exact n pins g f i D j k
 | false=>exact o pins g f i D j k
def vd:TS:=λ_ _ _=>False
theorem ve:PS X st vd:=λ_ _ _ _ _ _ h=>h.elim
end
noncomputable abbrev TG:=V->St->Hp->(St->Hp->Prop)->Prop
noncomputable abbrev TGs:=List V->St->Hp->(St->Hp->Prop)->Prop
def PG(X:Cx)(a:Expr)(t:TG):Prop:=
 ∀(pins:List (Addr×Obj)) (s:Shared) (c:St) (H:Hp) (v:V) (u:Value) (Q:St->Hp->Prop),Inv X pins c H s->aG v u->t v c H Q->
  wpAny (model X.prog X.w) X.A (assign a X.env u) (λ_ s'=>∃b d,Inv X pins b d s'/\Q b d) X.xe s
def PGs(X:Cx)(ts:List Expr)(t:TGs):Prop:=
 ∀(pins:List (Addr×Obj)) (s:Shared) (b:St) (H:Hp) (vs:List V) (us:List Value) (Q:St->Hp->Prop),Inv X pins b H s->aD vs us->t vs b H Q->
  wpAny (model X.prog X.w) X.A (assignInOrder ((assignEach ts X.env).map (·.2)) us) (λ_ s'=>∃a c,Inv X pins a c s'/\Q a c) X.xe s
noncomputable abbrev zG:=V->V->V->Hp->(Hp->Prop)->Prop
def zH(X:Cx)(t:zG):Prop:=
 ∀(pins:List (Addr×Obj)) (s:Shared) (a:St) (H:Hp) (o i v:V) (b c u:Value) (Q:Hp->Prop),Inv X pins a H s->aG o b->aG i c->aG v u->t o i v H Q->
  wpAny (model X.prog X.w) X.A (setItem b c u) (λ_ s'=>∃d,Inv X pins a d s'/\Q d) X.xe s
section
variable{X:Cx}{pos:Pos}
def fF(i:Nat):TG:=λv a H Q=>Q (a.set i (some v)) H
theorem xD(a:X.N.Nodup)(hi:X.N[i]? =some x)(b:Loc X.env.scope x)(c:X.fn x=true\/X.env.scope.names.lookup x=some .local):PG X (.Name x pos) (fF i):=by
 intro pins s e H v u Q I r h;exact wpAny_assign_Name (iI I a hi b r (λs' d=>⟨_,H,d,h⟩) c)
def zI:TGs:=λvs a H Q=>vs=[]/\Q a H
def vf(t:TG)(u:TGs):TGs:=λvs b H Q=>∃v r,vs=v::r/\t v b H λa c=>u r a c Q
theorem xE:PGs X [] zI:=by
 intro pins s a H vs us Q I r h;obtain⟨e,h⟩:=h;subst e;cases r;exact assignInOrder_nil ⟨a,H,I,h⟩
theorem vg{e:Expr}{u:TGs}(c:PG X e t)(d:PGs X a u)
 (f:(assignEach (e::a) X.env).map (·.2)=assign e X.env::(assignEach a X.env).map (·.2)):PGs X (e::a) (vf t u):=by
 intro pins s g H vs us Q I r h;obtain⟨v,o,i,h⟩:=h;subst i;cases r with
 | cons r j=>
   rw[f];refine assignInOrder_cons (thn (c pins s g H _ _ _ I r h) λ_ k ⟨b,l,m,n⟩=>?_);exact d pins k b l _ _ Q m j n
def xF(K:PySem.W.Frag)(n:Nat)(t:TGs):TG:=λv b H Q=>asR v λa=>∃xs,SqT K H a xs/\xs.length=n/\t xs b H Q
theorem zJ(i:X.calm=true)(h:PGs X c t)
 (j:(assignEach c X.env).length=n) (d:(assignEach c X.env).findIdx? (·.1)=none):PG X (.Tuple c k pos) (xF X.K n t):=by
 intro pins s f H v u Q I r hw;obtain⟨a,l,xs,m,p,hw⟩:=oM hw;clear ‹xF _ _ _ _ _ _ _›;subst l;cases r;obtain⟨its,g,q,y⟩:=I.tuple m;refine assign_Tuple_tuple (I.ok.hd i) q (by simp[j,<-p,g.length]) d λh' w=>?_
 have x:Inv X pins f H {s with heap:=h'}:=I.kept (t':=s.toks) λb o e=>w b o (Zr (Zt e)) e
 exact h pins _ f H xs _ Q x (by simpa using g) hw
def zK(b c:TE)(t:zG):TG:=λv a H Q=>b a H λo d=>c a d λi e=>t o i v e λf=>Q a f
theorem zL{o i:Expr}{d e:TE}{t:zG}(f:PE X o d)(hi:PE X i e)(g:zH X t)
 (j:∀v,assign (.Subscript o i pos) X.env v=(do
  let a<-holding [v] (eval o X.env)
  let b<-holding [v,a] (eval i X.env)
  standAt pos
  holding [v,a,b] (setItem a b v)
  release [v,a,b] [])):PG X (.Subscript o i pos) (zK d e t):=by
 intro pins s c H v u Q I r h;rw[j];refine Z2 (wpAny_holding (thn (f pins s c H _ I h) λa k ⟨x,l,m,n,p⟩=>?_));refine Z2 (wpAny_holding (thn (hi pins k c l _ m p) λb q ⟨y,w,z,A,B⟩=>?_));refine Z2 (wpAny_standAt (Z2 (wpAny_holding (thn (g pins q c w x y v a b u _ z n A r B) λ_ G ⟨C,D,E⟩=>?_))));exact wpAny_release ⟨c,C,D,E⟩
def iK(b:TE)(g:TG):TS:=λD a H=>b a H λx c=>g x a c D.nx
theorem zM{a e:Expr}{g:TG}(c:PE X e d)(f:PG X a g)(i:swapsWithSole [a] e pos.line X.env=pure false)(hw:swappedStores [a] e X.env=pure none)
 (j:(assignEach [a] X.env).map (·.2)=[assign a X.env]):PS X (.Assign [a] e pos) (iK d g):=by
 intro pins s b H D I h;refine wpAny_Assign_stores (thn (c pins s b H _ I h) λv k ⟨x,l,m,n,o⟩=>?_) i hw;rw[j];exact thn (f pins k b l x v _ m n o) λ_ p q=>q
theorem vh{i:Nat}{x:Str}{e:Expr}(b:X.N.Nodup)(hi:X.N[i]? =some x)(c:Loc X.env.scope x)(d:PE X e f)(g:swapsWith e (some (.Name x a)) pos.line X.env=pure false)(j:X.fn x=true\/X.env.scope.names.lookup x=some .local):
 PS X (.Assign [.Name x a] e pos) (iK f (fF i)):=by
 intro pins s k H D I h;refine wpAny_Assign_Name (thn (d pins s k H _ I h) λv q ⟨y,l,m,n,o⟩=>?_) g;exact iI m b hi c n (λr p=>⟨_,l,p,o⟩) j
end
section
variable{X:Cx}{pos:Pos}
end
structure It where
 go:Nat->Hp->Prop
 yld:Nat->Hp->V->Hp->Prop
 stop:Nat->Hp->Prop
def jZ(X:Cx)(pins:List (Addr×Obj))(H:Hp)(b:Addr):Prop:=
 H b=none/\b≠X.env.locals/\b∉X.fs/\(b∈X.ex\/X.s₀.heap.objs.size<=b)/\(∀x c,X.env.cells.lookup x=some c->c≠b)/\∀p∈X.pn++pins,p.1≠b
theorem Inv.fpOk{X:Cx}(I:Inv X pins h H s)(a:s.heap.objs.size<=b)(d:f b=none):jZ X pins f b:=by
 refine⟨d,Yh (Zf I.lt a),I.nofs a,.inr (Y2 I.sz a),λx c e z=>?_,λp g z=>?_⟩
 ·obtain⟨v,q⟩:=I.cell x c e;exact absurd (Zf q.lt (by rw[z];exact a)) (Yr _)
 ·exact absurd (Zf (Zt (I.pin p g).1) (by rw[z];exact a)) (Yr _)
structure ng (P:Program) (w:World) (K:PySem.W.Frag) (tg:Expr) (J:It) (fp:List Addr) (it:Addr) (tn:Nat->Heap->Prop):Prop where
 mem:it∈fp
 obj:∀i h,tn i h->∀b∈fp,∃o,h.get? b=some o/\∀v,o.data≠ .cell v
 keep:∀i h h',tn i h->(∀b∈fp,∀o,h.get? b=some o->h'.get? b=some o)->tn i h'
 item:∀(X:Cx),X.prog=P->X.w=w->X.K=K->X.calm=true->∀(i:Nat) (pins:List (Addr×Obj)) (s:Shared) (σ:St) (H:Hp) (E:Value->Shared->Prop),Inv X pins σ H s->(∀b∈fp,jZ X pins H b)->tn i s.heap->J.go i H->
  wpAny (model P w) X.A (pyNext (.ref it)) (λr s1=>∃u,r=some u/\
   wpAny (model P w) X.A (letOwnedTupleGo tg (.ref it) u) (λ_ s2=>∃x H',Inv X pins σ H' s2/\aG x u/\J.yld i H x H'/\tn (i+1) s2.heap/\∀b∈fp,H' b=none) E s1) E s
 done:∀(X:Cx),X.prog=P->X.w=w->X.K=K->X.calm=true->∀(i:Nat) (pins:List (Addr×Obj)) (s:Shared) (σ:St) (H:Hp) (E:Value->Shared->Prop),Inv X pins σ H s->(∀b∈fp,jZ X pins H b)->tn i s.heap->J.stop i H->
  wpAny (model P w) X.A (pyNext (.ref it)) (λr s1=>r=none/\Inv X pins σ H s1) E s
 self:∀(A:Around) (i:Nat) (s:Shared) (Q:Value->Shared->Prop) (E:Value->Shared->Prop),tn i s.heap->Q (.ref it) s->wpAny (model P w) A (pyIter (.ref it)) Q E s
noncomputable abbrev TI:=St->Hp->(It->Hp->Prop)->Prop
def PIE(X:Cx)(pins:List (Addr×Obj))(f:St)(g:Expr)(R:It->Hp->Prop)(a:Value)(d:Shared):Prop:=
 ∃(it:Addr) (fp:List Addr) (e:Nat->Heap->Prop) (J:It) (c:Hp),a= .ref it/\Inv X pins f c d/\ng X.prog X.w X.K g J fp it e/\e 0 d.heap/\(∀b∈fp,jZ X pins c b)/\R J c
def PI(X:Cx)(b bI:Expr)(c:TI):Prop:=
 ∀(pins:List (Addr×Obj)) (s:Shared) (a:St) (H:Hp) (R:It->Hp->Prop),Inv X pins a H s->c a H R->
  wpAny (model X.prog X.w) X.A (eval bI X.env) (λv d=>wpAny (model X.prog X.w) X.A (pyIter v) (PIE X pins a b R) X.xe d) X.xe s
theorem oN(b:s.heap.get? it=some o)(c:o.cls= .type n)(d:o.data= .fields vs)
 (e:["enumerate","zip","dict_itemiterator","dict_reverseitemiterator","odict_iterator","itertools.zip_longest","itertools.pairwise"].contains n=false) (a:Q () s):wpAny M A (letOwnedTupleGo f (.ref it) u) Q E s:=by
 unfold letOwnedTupleGo;cases f<;> first
  | exact Z3 a
  |(cases u<;> first
   | exact Z3 a
   |(refine Z2 (wpAny_load b ?_)
     rw[c,d];show wpAny M A (if(["enumerate","zip","dict_itemiterator","dict_reverseitemiterator","odict_iterator","itertools.zip_longest","itertools.pairwise"].contains n&&vs[0]? ==some (rawInt _))=true then _ else _) Q E s;rw[if_neg (by intro h;rw[e,Bool.false_and]at h;cases h)];exact Z3 a))
noncomputable def Itl(K:PySem.W.Frag)(a:Addr):It:=
 ⟨λi H=>∃xs x,SqL K H a xs/\xs[i]? =some x,λi H x b=>b=H/\∀xs,SqL K H a xs->xs[i]? =some x,λi H=>∃xs,SqL K H a xs/\xs.length<=i⟩
noncomputable def Itt(K:PySem.W.Frag)(a:Addr):It:=
 ⟨λi H=>∃xs x,SqT K H a xs/\xs[i]? =some x,λi H x b=>b=H/\∀xs,SqT K H a xs->xs[i]? =some x,λi H=>∃xs,SqT K H a xs/\xs.length<=i⟩
noncomputable def Itr(lo:Int)(n:Nat):It:=⟨λi _=>i<n,λi H x a=>a=H/\x= .int (lo+i),λi _=>n<=i⟩
theorem sP{P:Program}{K:PySem.W.Frag}(a it:Addr):ng P w K tg (Itl K a) [it] it (λi h=>h.IsListIter it a i) where
 mem:=by simp
 obj:=λi h st b hb=>by
  have e:b=it:=by simpa using hb
  subst e;obtain⟨o,e,c,d⟩:=st;exact⟨o,e,λv z=>by rw[d]at z;cases z⟩
 keep:=λi h h' st k=>st.at λo e=>k it (by simp) o e
 item:=by
  intro X hP hw hK hc i pins s σ H E I hf st hg;subst hP hw hK;obtain⟨xs,x,hq,hx⟩:=hg;obtain⟨its,rv,p,hz⟩:=I.list hq;obtain⟨u,hu,ru⟩:=rv.get hx;obtain⟨f0,f1,f2,f3,f4,f5⟩:=hf it (by simp);refine wpAny_pyNext_list_item st p.isList (x:=u) (by simpa using hu) λh' st' sb=>?_
  have I1:Inv X pins σ H {s with heap:=h'}:=I.turned (t':=s.toks) (λb o hb e=>(sb.2 b hb).trans e) f0 f1 f3 f4 f5;obtain⟨o,e,c,d⟩:=id st';exact⟨u,rfl,oN (s:={s with heap:=h'}) e c d (by decide) ⟨x,H,I1,ru,⟨rfl,λys hy=>by rw[I.list_inj hy hq];exact hx⟩,st',λb hb=>(hf b hb).1⟩⟩
 done:=by
  intro X hP hw hK hc i pins s σ H E I hf st hg;subst hP hw hK;obtain⟨xs,hq,hx⟩:=hg;obtain⟨its,rv,p,hz⟩:=I.list hq;obtain⟨f0,f1,f2,f3,f4,f5⟩:=hf it (by simp);have hl:=rv.length;exact wpAny_pyNext_list_end (I.ok.hd hc) st p.isList (by simp;lia) λh' eb=>⟨rfl,I.turned (t':=s.toks) (λb o hb e=>eb b o hb e) f0 f1 f3 f4 f5⟩
 self:=λ_ _ _ _ _ st h=>wpAny_pyIter_listiter st h
theorem qe{P:Program}{K:PySem.W.Frag}(a it:Addr):ng P w K tg (Itt K a) [it] it (λi h=>h.IsTupleIter it a i) where
 mem:=by simp
 obj:=λi h st b hb=>by
  have e:b=it:=by simpa using hb
  subst e;obtain⟨o,e,c,d⟩:=st;exact⟨o,e,λv z=>by rw[d]at z;cases z⟩
 keep:=λi h h' st k=>st.at λo e=>k it (by simp) o e
 item:=by
  intro X hP hw hK hc i pins s σ H E I hf st hg;subst hP hw hK;obtain⟨xs,x,hq,hx⟩:=hg;obtain⟨its,rv,p,hz⟩:=I.tuple hq;obtain⟨u,hu,ru⟩:=rv.get hx;obtain⟨f0,f1,f2,f3,f4,f5⟩:=hf it (by simp);refine wpAny_pyNext_tuple_item st (show s.heap.IsTuple a its.toArray from p) (x:=u) (by simpa using hu) λh' st' sb=>?_
  have I1:Inv X pins σ H {s with heap:=h'}:=I.turned (t':=s.toks) (λb o hb e=>(sb.2 b hb).trans e) f0 f1 f3 f4 f5;obtain⟨o,e,c,d⟩:=id st';exact⟨u,rfl,oN (s:={s with heap:=h'}) e c d (by decide) ⟨x,H,I1,ru,⟨rfl,λys hy=>by rw[I.tuple_inj hy hq];exact hx⟩,st',λb hb=>(hf b hb).1⟩⟩
 done:=by
  intro X hP hw hK hc i pins s σ H E I hf st hg;subst hP hw hK;obtain⟨xs,hq,hx⟩:=hg;obtain⟨its,rv,p,hz⟩:=I.tuple hq;obtain⟨f0,f1,f2,f3,f4,f5⟩:=hf it (by simp);have hl:=rv.length;exact wpAny_pyNext_tuple_end (I.ok.hd hc) st (show s.heap.IsTuple a its.toArray from p) (by simp;lia) λh' eb=>⟨rfl,I.turned (t':=s.toks) (λb o hb e=>eb b o hb e) f0 f1 f3 f4 f5⟩
 self:=λ_ _ _ _ _ st h=>wpAny_pyIter_tupleiter st h
theorem qf{P:Program}{K:PySem.W.Frag}(it:Addr)(lo:Int)(n:Nat):ng P w K tg (Itr lo n) [it] it (λi h=>IsRangeIter h it (lo+(i:Nat)*1) ((n:Int) -(i:Nat)) 1) where
 mem:=by simp
 obj:=λi h st b hb=>by
  have e:b=it:=by simpa using hb
  subst e;exact⟨_,st,λv z=>by
   have z':Data.fields _=Data.cell v:=z;cases z'⟩
 keep:=λi h h' st k=>k it (by simp) _ st
 item:=by
  intro X hP hw hK hc i pins s σ H E I hf st hg;subst hP hw hK;obtain⟨f0,f1,f2,f3,f4,f5⟩:=hf it (by simp);have W:=Walks.range (prog:=X.prog) (w:=X.w) (I.ok.hd hc) it lo 1 n;refine W.item i s _ _ hg st λv h' tk hv st' kk=>?_
  obtain⟨t,rfl⟩:=hv;have I1:Inv X pins σ H {s with heap:=h',toks:=tk}:=I.turned (λb o hb e=>kk b o (by simpa using hb) e) f0 f1 f3 f4 f5;refine⟨_,rfl,oN (s:={s with heap:=h',toks:=tk}) (n:="range_iterator") st' rfl rfl (by decide) ⟨.int (lo+i),H,I1,⟨t,?_⟩,⟨rfl,rfl⟩,st',λb hb=>(hf b hb).1⟩⟩;rw[Int.mul_one]
 done:=by
  intro X hP hw hK hc i pins s σ H E I hf st hg;subst hP hw hK;obtain⟨f0,f1,f2,f3,f4,f5⟩:=hf it (by simp);exact wpAny_pyNext_range_end (I.ok.hd hc) st (by have:n<=i:=hg;lia) λh' eb=>⟨rfl,I.turned (t':=s.toks) (λb o hb e=>eb b o hb e) f0 f1 f3 f4 f5⟩
 self:=λ_ _ _ _ _ st h=>wpAny_pyIter_rangeiter st h
section
variable{X:Cx}{tg:Expr}
theorem vi{R:It->Hp->Prop}{lo hi:Int}(I:Inv X pins c H s)(d: -(2^62)<=lo)(f:lo<2^62)(g: -(2^62)<=hi)(h:hi<2^62)
 (q:R (Itr lo (hi-lo).toNat) H):wpAny (model X.prog X.w) X.A (pyIter (.ref s.heap.objs.size)) (PIE X pins c tg R) E {s with heap:=s.heap.push {cls:= .type "range",data:= .fields #[.int lo t,.int hi u,.int 1 v]},toks:=tk}:=by
 refine wpAny_pyIter_range (IsRange.new ..) (small_one d f g h) ?_;have a:Inv X pins c H {s with heap:=s.heap.push {cls:= .type "range",data:= .fields #[.int lo t,.int hi u,.int 1 v]},toks:=tk}:=I.kept λb o e=>Z6 _ e
 refine⟨(s.heap.push {cls:= .type "range",data:= .fields #[.int lo t,.int hi u,.int 1 v]}).objs.size,[(s.heap.push {cls:= .type "range",data:= .fields #[.int lo t,.int hi u,.int 1 v]}).objs.size],_,_,H,rfl,
  a.kept (t':=tk) λb o e=>Z6 _ e,qf _ lo (hi-lo).toNat,?_,λb i=>?_,q⟩
 ·have j:lo+((0:Nat):Int)*1=lo:=by simp
  have k:(((hi-lo).toNat:Nat):Int) -((0:Nat):Int)=Builtin.Range.rangeSize lo hi 1:=by rw[rangeSize_one];split<;> lia
  show IsRangeIter _ _ (lo+((0:Nat):Int)*1) ((((hi-lo).toNat:Nat):Int) -((0:Nat):Int)) 1;rw[j,k];exact Zi _ rfl
 ·have e:b=(s.heap.push {cls:= .type "range",data:= .fields #[.int lo t,.int hi u,.int 1 v]}).objs.size:=by simpa using i
  subst e;exact a.fpOk (Zh _) (a.hok.fresh (Zh _))
def vj(a:TA):TI:=λb H R=>a b H λvs c=>∃j:Int,vs=[.int j]/\ -(2^62)<=j/\j<2^62/\R (Itr 0 j.toNat) c
theorem sQ{a:Expr}(c:Gl X "range")(d:X.mg "range"=none)(f:PA X [a] g)(i:starEach [a] X.env=[(false,eval a X.env)]):PI X tg (.Call (.Name "range" p) [a] [] pos) (vj g):=by
 intro pins s k H R I h;refine Call_ (ik I c d boot_range (PyProof.Rows.callWith_type1 (thn (f pos pins s k H _ I h) λus u ⟨vs,v,l,m,b⟩=>?_) i rfl));obtain⟨j,e,b,n,q⟩:=b;subst e;cases m with
 | cons r o=>
   cases o;obtain⟨t,rfl⟩:=r;exact call_range_1 (vi l (by lia) (by lia) b n (by simpa using q))
def vk(f:TI)(g:TG)(h:TS):TS:=λD a H=>f a H λJ j=>∃W:Nat->Nat->St->Hp->Prop,(∃m,W 0 m a j)/\∀i m a H,W i m a H->
 (J.stop i H/\D.nx a H)\/(J.go i H/\∃N:St->Hp->Prop,(∀b c,N b c->∃e,e<m/\W (i+1) e b c)/\∀x c,J.yld i H x c->g x a c λd k=>h {D with nx:=N,ct:=N,bk:=D.nx} d k)
noncomputable def jd(fp:List Addr)(h:Heap):List (Addr×Obj):=fp.filterMap λb=>(h.get? b).map λo=>(b,o)
theorem dR(a:b∈fp)(e:h.get? b=some o):(b,o)∈jd fp h:=mem_filterMap.mpr ⟨b,a,by rw[e];rfl⟩
theorem sS(a:p∈jd fp h):p.1∈fp/\h.get? p.1=some p.2:=by
 obtain⟨b,c,e⟩:=mem_filterMap.mp a;cases q:h.get? b with
 | none=>rw[q]at e;cases e
 | some o=>
   rw[q]at e;have d:(b,o)=p:=Z9 e;subst d;exact⟨c,q⟩
theorem Inv.pinned(I:Inv X pins f H s)(g:∀b∈fp,jZ X pins H b)(h:∀b∈fp,∃o,s.heap.get? b=some o/\∀v,o.data≠ .cell v):Inv X (pins++jd fp s.heap) f H s:=
 I.pins_of λp i=>(Yt i).elim (λz=>I.pin p (Yd _ z)) λz=>by
  obtain⟨a,e⟩:=sS z;obtain⟨j,k,l,_⟩:=g p.1 a;obtain⟨o,c,d⟩:=h p.1 a;rw[e]at c;cases c;exact⟨e,j,k,l,d⟩
theorem Inv.unpinned(I:Inv X (pins++pl) a H s):Inv X pins a H s:=I.pins_of λp b=>I.pin p (Yd _ (mem_append_left _ b))
theorem zN(z:PassesOwn (model X.prog X.w) X.A X.env X.xe)(hc:X.calm=true)(hi:PI X tg bI wi)(hg:PG X tg g)(c:PSs X A tb)
 (hs:∀x,foldedSetIterable bI X.env x=pure x):PS X (.For tg bI A [] pos) (vk wi g tb):=by
 intro pins s σ H D I h;refine wpAny_For (thn (hi pins s σ H _ I h) λv s1 h1=>thn h1 λab s2 h2=>?_) hs;obtain⟨it,fp,tn,J,H2,e,I2,T,M,f2,W,⟨m0,w0⟩,B⟩:=h2;subst e;have j:∀{t:Hp},(∀b∈fp,t b=none)->∀b∈fp,jZ X pins t b:=λhn b c=>⟨hn b c,(f2 b c).2⟩
 refine codeAny_forLoop_any (λn s'=>∃i k t,Inv X pins k t s'/\tn i s'.heap/\(∀b∈fp,t b=none)/\W i n k t) ?_ m0 ⟨0,σ,H2,I2,M,λb c=>(f2 b c).1,w0⟩;rintro n s3 ⟨i,l,L,I3,C,E,w3⟩;rcases B i n l L w3 with⟨stop,qn⟩|⟨go,N,hN,step⟩
 ·refine wpAny_passesOwn z (thn (T.done X rfl rfl rfl hc i pins s3 l L X.xe I3 (j E) C stop) λr s4 ⟨O,I4⟩=>?_);subst O;exact wpAny_execs_nil ⟨l,L,I4,qn⟩
 ·refine wpAny_passesOwn z (thn (T.item X rfl rfl rfl hc i pins s3 l L X.xe I3 (j E) C go) λr s4 ⟨u,O,h4⟩=>?_);subst O;refine wpAny_passesOwn z (thn h4 λ_ s5 ⟨x,H5,I5,r5,y5,y,Q⟩=>?_);have U:=I5.pinned (j Q) (T.obj _ _ y);refine wpAny_passesOwn z (thn (hg _ s5 l H5 x u _ U r5 (step x H5 y5)) λ_ s6 ⟨Y,H6,I6,q6⟩=>?_);refine wpAny_passesOwn z (thn (c _ s6 Y H6 _ I6 q6) λf s7 w=>?_);have again:∀{a:St} {p:Hp},Inv X (pins++jd fp s5.heap) a p s7->N a p->∃m,m<n/\∃i k t,Inv X pins k t s7/\tn i s7.heap/\(∀b∈fp,t b=none)/\W i m k t:=λ{a p} q G=>by
   obtain⟨m',hm,w7⟩:=hN a p G;refine⟨m',hm,i+1,a,p,q.unpinned,T.keep _ _ _ y λb c o e=>(q.pin (b,o) (Yd _ (Yd _ (dR c e)))).1,λb c=>?_,w7⟩;obtain⟨o,e,d⟩:=T.obj _ _ y b c;exact(q.pin (b,o) (Yd _ (Yd _ (dR c e)))).2.1
  cases f with
  | next=>obtain⟨a,p,q,G⟩:=w;exact again q G
  | cont=>obtain⟨a,p,q,G⟩:=w;exact again q G
  | brk=>obtain⟨a,p,q,w⟩:=w;exact⟨a,p,q.unpinned,w⟩
  | ret v=>obtain⟨x7,a,p,q,r7,w⟩:=w;exact⟨x7,a,p,q.unpinned,r7,w⟩
end
theorem fQ{K:PySem.W.Frag}{g:TG}{k:TS}{D:d9}(Pv:Nat->St->Hp->Prop)(n:Pv 0 b H)(o:∀i b H,i<=xs.length->Pv i b H->SqL K H a xs)
 (r:∀i x b H,xs[i]? =some x->Pv i b H->g x b H λc j=>k {D with nx:=Pv (i+1),ct:=Pv (i+1),bk:=D.nx} c j) (s:∀b H,Pv xs.length b H->D.nx b H):
 ∃W:Nat->Nat->St->Hp->Prop,(∃m,W 0 m b H)/\∀i m b H,W i m b H->
  ((Itl K a).stop i H/\D.nx b H)\/((Itl K a).go i H/\∃N:St->Hp->Prop,(∀d f,N d f->∃l,l<m/\W (i+1) l d f)/\∀x f,(Itl K a).yld i H x f->g x b f λc j=>k {D with nx:=N,ct:=N,bk:=D.nx} c j):=by
 refine⟨λi m b H=>m=xs.length-i/\i<=xs.length/\Pv i b H,⟨xs.length,by simp,Yn _,n⟩,?_⟩;rintro i m b H ⟨rfl,hi,p⟩;have q:=o i b H hi p;by_cases h:i<xs.length
 ·refine .inr ⟨⟨xs,xs[i],q,by simp[h]⟩,Pv (i+1),λd f t=>⟨xs.length-(i+1),by lia,rfl,h,t⟩,λx f y=>?_⟩;obtain⟨e,y⟩:=y;subst e;exact r i x b _ (y xs q) p
 ·have e:i=xs.length:=by lia
  subst e;exact .inl ⟨⟨xs,q,Zh _⟩,s b H p⟩
theorem cg{lo:Int}{g:TG}{j:TS}{D:d9}(Pv:Nat->St->Hp->Prop)(l:Pv 0 a H)
 (o:∀i a H,i<n->Pv i a H->g (.int (lo+i)) a H λb h=>j {D with nx:=Pv (i+1),ct:=Pv (i+1),bk:=D.nx} b h) (q:∀a H,Pv n a H->D.nx a H):
 ∃W:Nat->Nat->St->Hp->Prop,(∃m,W 0 m a H)/\∀i m a H,W i m a H->
  ((Itr lo n).stop i H/\D.nx a H)\/((Itr lo n).go i H/\∃N:St->Hp->Prop,(∀c d,N c d->∃k,k<m/\W (i+1) k c d)/\∀x d,(Itr lo n).yld i H x d->g x a d λb h=>j {D with nx:=N,ct:=N,bk:=D.nx} b h):=by
 refine⟨λi m a H=>m=n-i/\i<=n/\Pv i a H,⟨n,by simp,Yn _,l⟩,?_⟩;rintro i m a H ⟨rfl,hi,p⟩;by_cases f:i<n
 ·refine .inr ⟨f,Pv (i+1),λc d r=>⟨n-(i+1),by lia,rfl,f,r⟩,λx d y=>?_⟩;obtain⟨e,y⟩:=y;subst e y;exact o i a _ f p
 ·have e:i=n:=by lia
  subst e;exact .inl ⟨Zh _,q a H p⟩
noncomputable abbrev R2:=V->V->Hp->VK->Prop
def OpR(X:Cx)(f:Value->Value->Sem Value)(r:R2):Prop:=
 ∀(pins:List (Addr×Obj)) (s:Shared) (a:St) (H:Hp) (x y:V) (v u:Value) (Q:VK),Inv X pins a H s->aG x v->aG y u->r x y H Q->
  wpAny (model X.prog X.w) X.A (f v u) (EP X pins a Q) X.xe s
def UnR(X:Cx)(f:Value->Sem Value)(r:V->Hp->VK->Prop):Prop:=
 ∀(pins:List (Addr×Obj)) (s:Shared) (a:St) (H:Hp) (x:V) (v:Value) (Q:VK),Inv X pins a H s->aG x v->r x H Q->
  wpAny (model X.prog X.w) X.A (f v) (EP X pins a Q) X.xe s
def cn(X:Cx)(f:Value)(r:List V->Hp->VK->Prop):Prop:=
 ∀(pins:List (Addr×Obj)) (s:Shared) (a:St) (H:Hp) (xs:List V) (us:List Value) (Q:VK),Inv X pins a H s->aD xs us->r xs H Q->
  wpAny (model X.prog X.w) X.A (call f us) (EP X pins a Q) X.xe s
def TruR(X:Cx)(r:V->Hp->(Bool->Hp->Prop)->Prop):Prop:=
 ∀(pins:List (Addr×Obj)) (s:Shared) (a:St) (H:Hp) (x:V) (v:Value) (Q:Bool->Hp->Prop),Inv X pins a H s->aG x v->r x H Q->
  wpAny (model X.prog X.w) X.A (truthy v) (TP X pins a Q) X.xe s
def tOp(r:R2)(b c:TE):TE:=λa H Q=>b a H λx d=>c a d λy e=>r x y e Q
def tUn(r:V->Hp->VK->Prop)(a:TE):TE:=λb H Q=>a b H λx c=>r x c Q
def rI(C:Int->Int->Prop)(g:Int->Int->V):R2:=λx y H Q=>asI x λi=>asI y λj=>C i j/\Q (g i j) H
def rI0(g:Int->Int->V):R2:=λx y H Q=>asI x λi=>asI y λj=>Q (g i j) H
def rU(g:Int->V):V->Hp->VK->Prop:=λx H Q=>asI x λi=>Q (g i) H
section
variable{X:Cx}{a b c:Expr}{ta tb tc:TE}{pos:Pos}
theorem zO(l:PE X a ta)(m:PE X b tb){pins:List (Addr×Obj)}{s:Shared}{d:St}{H:Hp}{R:V->V->Hp->Prop}(I:Inv X pins d H s)
 (h:ta d H λx k=>tb d k λy e=>R x y e) {Q:Value->Shared->Prop} {f:Value->Value->Sem Value}
 (n:∀v u j x y e,Inv X pins d e j->aG x v->aG y u->R x y e->wpAny (model X.prog X.w) X.A (f v u) Q X.xe j):
 wpAny (model X.prog X.w) X.A (eval a X.env) (λv g=>wpAny (model X.prog X.w) X.A (eval b X.env) (λu i=>wpAny (model X.prog X.w) X.A (f v u) Q X.xe i) X.xe g) X.xe s:=by
 refine thn (l pins s d H _ I h) λv o ⟨x,k,p,q,r⟩=>?_
 refine thn (m pins o d k _ p r) λu j ⟨y,e,t,w,z⟩=>?_
 exact n v u j x y e t q w z
theorem Bc{r:R2}(d:OpR X (binaryOp e) r)(f:PE X a ta)(g:PE X b tb):PE X (.BinOp a e b pos) (tOp r ta tb):=by
 intro pins s i H Q I h;exact wpAny_BinOp (zO f g I h λv u j x y k l m n q=>d pins j i k x y v u Q l m n q)
theorem Bd(e:UnR X (unaryOp f) r)(g:PE X a ta):PE X (.UnaryOp f a pos) (tUn r ta):=by
 intro pins s d H Q I h;exact UnaryOp_ (thn (g pins s d H _ I h) λv i ⟨x,j,k,l,m⟩=>e pins i d j x v Q k l m)
theorem opI{f:Value->Value->Sem Value}{C:Int->Int->Prop}{g:Int->Int->Int}
 (rule:∀(i j:Int) (t u:Tok) (s:Shared) (Q:Value->Shared->Prop) (E:Value->Shared->Prop),C i j->Q (.int (g i j) s.toks) {s with toks:=s.toks+1}->wpAny (model X.prog X.w) X.A (f (.int i t) (.int j u)) Q E s):
 OpR X f (rI C λi j=> .int (g i j)):=by
 intro pins s m H x y v u Q I d e h;obtain⟨i,rfl,k⟩:=fP h;obtain⟨j,rfl,l,q⟩:=fP k;obtain⟨t,rfl⟩:=d;obtain⟨t',rfl⟩:=e;exact rule i j t t' s _ _ l ⟨.int (g i j),H,I.tok _,⟨_,rfl⟩,q⟩
theorem Be{g:Int->Int->Int}
 (rule:∀(i j:Int) (t u:Tok) (s:Shared) (Q:Value->Shared->Prop) (E:Value->Shared->Prop),Q (.int (g i j) s.toks) {s with toks:=s.toks+1}->wpAny (model X.prog X.w) X.A (f (.int i t) (.int j u)) Q E s):
 OpR X f (rI0 λi j=> .int (g i j)):=by
 intro pins s l H x y v u Q I d e h;obtain⟨i,rfl,k⟩:=fP h;obtain⟨j,rfl,q⟩:=fP k;obtain⟨t,rfl⟩:=d;obtain⟨t',rfl⟩:=e;exact rule i j t t' s _ _ ⟨.int (g i j),H,I.tok _,⟨_,rfl⟩,q⟩
theorem zP{g:Int->Int->Bool}
 (rule:∀(i j:Int) (t u:Tok) (s:Shared) (Q:Value->Shared->Prop) (E:Value->Shared->Prop),Q (.bool (g i j)) s->wpAny (model X.prog X.w) X.A (f (.int i t) (.int j u)) Q E s):
 OpR X f (rI0 λi j=> .bl (g i j)):=by
 intro pins s l H x y v u Q I d e h;obtain⟨i,rfl,k⟩:=fP h;obtain⟨j,rfl,q⟩:=fP k;obtain⟨t,rfl⟩:=d;obtain⟨t',rfl⟩:=e;exact rule i j t t' s _ _ ⟨.bl (g i j),H,I,rfl,q⟩
def Bf(i j:Int):Prop:=0<j/\j<1073741824
def CPow(i j:Int):Prop:=0<=j/\j<=1000000/\i.natAbs<2^64
def vm(i j:Int):Prop:=(-(2^64)<i/\i<2^64)\/(-(2^64)<j/\j<2^64)
theorem vm.ok{i j:Int}(h:vm i j):IntMulOk i j:=by
 rcases h with⟨d,e⟩|⟨d,e⟩
 ·exact .of_left (intBits_le_64 d e)
 ·exact .of_right (intBits_le_64 d e)
theorem vo:OpR X (binaryOp .Add) (rI0 λi j=> .int (i+j)):=Be λ_ _ _ _ _ _ _ q=>add_int q
theorem zQ:OpR X (binaryOp .Sub) (rI0 λi j=> .int (i-j)):=Be λ_ _ _ _ _ _ _ q=>sub_int q
theorem vp:OpR X (binaryOp .Mult) (rI vm λi j=> .int (i*j)):=opI λ_ _ _ _ _ _ _ d q=>mul_int q d.ok
theorem xG:OpR X (binaryOp .FloorDiv) (rI Bf λi j=> .int (i/j)):=opI λi j _ _ _ _ _ d q=>by
 have e:(0:Int)<j:=d.1;have f:j<1073741824:=d.2;exact floordiv_int (by lia) (by rw[Int.fdiv_eq_ediv_of_nonneg i (by lia)];exact q) (.inl (PyProof.noPylong_small (by lia)))
theorem zR:OpR X (binaryOp .Mod) (rI (λ_ j=>0<j) λi j=> .int (i%j)):=opI λi j _ _ _ _ _ d q=>by
 have e:(0:Int)<j:=d;exact mod_int' (by lia) (by rw[Int.fmod_eq_emod_of_nonneg i (by lia)];exact q)
theorem zS:OpR X (binaryOp .Pow) (rI CPow λi j=> .int (i^j.toNat)):=opI λ_ _ _ _ _ _ _ d q=>pow_int_small d.1 d.2.1 d.2.2 q
theorem unI{g:Int->Int}
 (rule:∀(i:Int) (t:Tok) (s:Shared) (Q:Value->Shared->Prop) (E:Value->Shared->Prop),Q (.int (g i) s.toks) {s with toks:=s.toks+1}->wpAny (model X.prog X.w) X.A (f (.int i t)) Q E s):
 UnR X f (rU λi=> .int (g i)):=by
 intro pins s e H x v Q I d h;obtain⟨i,rfl,q⟩:=fP h;obtain⟨t,rfl⟩:=d;exact rule i t s _ _ ⟨.int (g i),H,I.tok _,⟨_,rfl⟩,q⟩
theorem zT:UnR X (unaryOp .USub) (rU λi=> .int (-i)):=unI λ_ _ _ _ _ q=>neg_int q
end
noncomputable def zU:V->V->Bool
 | .non,.non=>true| .non,.int _=>true| .int _,.non=>true| .non,.bl _=>true| .bl _,.non=>true| .non,.str _=>true| .str _,.non=>true
 | .int _,.int _=>true| .bl _,.bl _=>true| .str _,.str _=>true| .byt _,.byt _=>true
 | .int _,.str _=>true| .str _,.int _=>true| .bl _,.str _=>true| .str _,.bl _=>true
 | _,_=>false
def rEq:R2:=λx y H Q=>zU x y=true/\Q (.bl (decide (x=y))) H
def rNe:R2:=λx y H Q=>zU x y=true/\Q (.bl (!decide (x=y))) H
theorem rD:decide (V.int i=V.int j)=(i==j):=by
 rw[Bool.eq_iff_iff];simp
theorem vq:decide (V.bl i=V.bl j)=(i==j):=by
 rw[Bool.eq_iff_iff];simp
theorem rE:decide (V.str i=V.str j)=(i==j):=by
 rw[Bool.eq_iff_iff];simp
theorem rF:decide (V.byt i=V.byt j)=(i.toList==j.toList):=by
 rw[Bool.eq_iff_iff];cases i;cases j;simp
section
variable{X:Cx}{a b c:Expr}{ta tb tc:TE}{pos:Pos}
theorem aQ(I:Inv X pins d H s)(q:Q (.bl k) H)(e:k=f):EP X pins d Q (.bool f) s:=by
 subst e;exact⟨.bl k,H,I,rfl,q⟩
theorem Bg:OpR X (compareOp .Eq) rEq:=by
 intro pins s g H x y v u Q I f d h;obtain⟨e,q⟩:=h;cases x with
 | non=>
   cases f;cases y with
   | non=>cases d;exact PySem.EqNone.eq_none_none (aQ I q (by simp))
   | bl j=>cases d;exact PySem.EqNone.eq_none_bool (aQ I q (by simp))
   | int j=>obtain⟨t',rfl⟩:=d;exact PySem.EqNone.eq_none_int (aQ I q (by simp))
   | str j=>obtain⟨t',rfl⟩:=d;exact PySem.EqNone.eq_none_str (aQ I q (by simp))
   | _=>exact absurd (show false=true from e) Zs
 | bl i=>
   cases f;cases y with
   | non=>cases d;exact PySem.EqNone.eq_bool_none (aQ I q (by simp))
   | bl j=>cases d;exact eq_bool (aQ I q vq)
   | str j=>obtain⟨t',rfl⟩:=d;exact PySem.EqMixed.eq_bool_str (aQ I q (by simp))
   | _=>exact absurd (show false=true from e) Zs
 | int i=>
   obtain⟨t,rfl⟩:=f;cases y with
   | non=>cases d;exact PySem.EqNone.eq_int_none (aQ I q (by simp))
   | int j=>obtain⟨t',rfl⟩:=d;exact eq_int (aQ I q rD)
   | str j=>obtain⟨t',rfl⟩:=d;exact PySem.EqMixed.eq_int_str (aQ I q (by simp))
   | _=>exact absurd (show false=true from e) Zs
 | str i=>
   obtain⟨t,rfl⟩:=f;cases y with
   | non=>cases d;exact PySem.EqNone.eq_str_none (aQ I q (by simp))
   | bl j=>cases d;exact PySem.EqMixed.eq_str_bool (aQ I q (by simp))
   | int j=>obtain⟨t',rfl⟩:=d;exact PySem.EqMixed.eq_str_int (aQ I q (by simp))
   | str j=>obtain⟨t',rfl⟩:=d;exact eq_str (aQ I q rE)
   | _=>exact absurd (show false=true from e) Zs
 | byt i=>
   obtain⟨t,rfl⟩:=f;cases y with
   | byt j=>obtain⟨t',rfl⟩:=d;exact PySem.W.eq_bytes (aQ I q rF)
   | _=>exact absurd (show false=true from e) Zs
 | _=>cases y<;> exact absurd (show false=true from e) Zs
theorem yV:OpR X (compareOp .NotEq) rNe:=by
 intro pins s g H x y v u Q I f d h;obtain⟨e,q⟩:=h;cases x with
 | non=>
   cases f;cases y with
   | non=>cases d;exact PySem.EqNone.ne_none_none (aQ I q (by simp))
   | bl j=>cases d;exact PySem.EqNone.ne_none_bool (aQ I q (by simp))
   | int j=>obtain⟨t',rfl⟩:=d;exact PySem.EqNone.ne_none_int (aQ I q (by simp))
   | str j=>obtain⟨t',rfl⟩:=d;exact PySem.EqNone.ne_none_str (aQ I q (by simp))
   | _=>exact absurd (show false=true from e) Zs
 | bl i=>
   cases f;cases y with
   | non=>cases d;exact PySem.EqNone.ne_bool_none (aQ I q (by simp))
   | bl j=>cases d;exact ne_bool (aQ I q (congrArg not vq))
   | str j=>obtain⟨t',rfl⟩:=d;exact PySem.EqMixed.ne_bool_str (aQ I q (by simp))
   | _=>exact absurd (show false=true from e) Zs
 | int i=>
   obtain⟨t,rfl⟩:=f;cases y with
   | non=>cases d;exact PySem.EqNone.ne_int_none (aQ I q (by simp))
   | int j=>obtain⟨t',rfl⟩:=d;exact ne_int (aQ I q (congrArg not rD))
   | str j=>obtain⟨t',rfl⟩:=d;exact PySem.EqMixed.ne_int_str (aQ I q (by simp))
   | _=>exact absurd (show false=true from e) Zs
 | str i=>
   obtain⟨t,rfl⟩:=f;cases y with
   | non=>cases d;exact PySem.EqNone.ne_str_none (aQ I q (by simp))
   | bl j=>cases d;exact PySem.EqMixed.ne_str_bool (aQ I q (by simp))
   | int j=>obtain⟨t',rfl⟩:=d;exact PySem.EqMixed.ne_str_int (aQ I q (by simp))
   | str j=>obtain⟨t',rfl⟩:=d;exact ne_str (aQ I q (congrArg not rE))
   | _=>exact absurd (show false=true from e) Zs
 | byt i=>
   obtain⟨t,rfl⟩:=f;cases y with
   | byt j=>obtain⟨t',rfl⟩:=d;exact PySem.W.ne_bytes (aQ I q (congrArg not rF))
   | _=>exact absurd (show false=true from e) Zs
 | _=>cases y<;> exact absurd (show false=true from e) Zs
theorem Bh:OpR X (compareOp .Lt) (rI0 λi j=> .bl (decide (i<j))):=zP λ_ _ _ _ _ _ _ q=>lt_int q
theorem Bi:OpR X (compareOp .LtE) (rI0 λi j=> .bl (decide (i<=j))):=zP λ_ _ _ _ _ _ _ q=>le_int q
theorem Bj:OpR X (compareOp .Gt) (rI0 λi j=> .bl (decide (j<i))):=zP λ_ _ _ _ _ _ _ q=>gt_int q
theorem sT:OpR X (compareOp .In) (λx y H Q=>∃i j,x= .str i/\y= .str j/\Q (.bl (!(Builtin.Str.occurrences j i 0 j.length 1).isEmpty)) H):=by
 intro pins s f H x y v u Q I d e h;obtain⟨i,j,rfl,rfl,q⟩:=h;obtain⟨t,rfl⟩:=d;obtain⟨t',rfl⟩:=e;exact in_str (aQ I q rfl)
theorem zV:OpR X (compareOp .Is) (λx y H Q=>y= .non/\Q (.bl (decide (x= .non))) H):=by
 intro pins s f H x y v u Q I d e h;obtain⟨rfl,q⟩:=h;cases e;refine is_none_gen (aQ I q ?_);cases x<;> first
  |(cases d;rfl)
  |(obtain⟨t,rfl⟩:=d;rfl)
theorem xH:OpR X (compareOp .IsNot) (λx y H Q=>y= .non/\Q (.bl (!decide (x= .non))) H):=by
 intro pins s f H x y v u Q I d e h;obtain⟨rfl,q⟩:=h;cases e;refine isnot_none_gen (aQ I q ?_);cases x<;> first
  |(cases d;rfl)
  |(obtain⟨t,rfl⟩:=d;rfl)
theorem OpR.or(h:OpR X f r)(h':OpR X f i):OpR X f (λx y H Q=>r x y H Q\/i x y H Q):=by
 intro pins s d H x y v u Q I e g q;rcases q with q|q
 ·exact h pins s d H x y v u Q I e g q
 ·exact h' pins s d H x y v u Q I e g q
theorem nomark(b:Expr)(h:d≠ .In)(e:d≠ .NotIn):behindInMarks d b=false:=by
 have f:(d==CmpOp.In)=false:=by cases d<;> first|rfl|exact absurd rfl h
 have g:(d==CmpOp.NotIn)=false:=by cases d<;> first|rfl|exact absurd rfl e
 cases b<;> simp[behindInMarks,f,g]
theorem xI{r:R2}(e:OpR X (compareOp d) r)(f:PE X a ta)(g:PE X b tb)(i:behindInMarks d b=false):PE X (.Compare a [d] [b] pos) (tOp r ta tb):=by
 intro pins s j H Q I h;exact wpAny_Compare1 (zO f g I h λv u k x y l m n o q=>e pins k j l x y v u Q m n o q) i
def oO(t:TE):TT:=λd H Q=>t d H λx e=>asB x λk=>Q k e
theorem xJ(g:OpR X (compareOp f) r)(i:PE X a ta)(j:PE X b tb)(l:behindInMarks f b=false):PT X (.Compare a [f] [b] pos) (oO (tOp r ta tb)):=by
 intro pins s d H Q I h;refine wpAny_isTrue_Compare1 (thn (i pins s d H _ I h) λv m ⟨x,n,o,p,q⟩=>thn (j pins m d n _ o q) λu t ⟨y,w,A,B,C⟩=>
  thn (g pins t d w x y v u _ A p B C) λc J ⟨z,D,E,G,e⟩=>?_) l
 obtain⟨k,rfl,e⟩:=iJ e;cases G;exact wpAny_truthy_bool ⟨D,E,e⟩
def kE(r f:R2)(ta tb tc:TE):TE:=λd H Q=>ta d H λx g=>tb d g λy h=>r x y h λz e=>asB z λk=>
 (if k=true then tc d e λi j=>f y i j Q else Q (.bl false) e)
theorem vt(o:OpR X (compareOp j) r)(i:OpR X (compareOp e) p)(q:PE X a ta)(t:PE X b tb)(w:PE X c tc)
 (A:lastMarks [j,e] [b,c]=false):PE X (.Compare a [j,e] [b,c] pos) (kE r p ta tb tc):=by
 intro pins s f H Q I h;refine Compare_chain (thn (q pins s f H _ I h) λv B ⟨x,C,D,E,G⟩=>chain_link (thn (t pins B f C _ D G) λu J ⟨y,L,M,l,N⟩=>
  thn (o pins J f L x y v u _ M E l N) λd O ⟨z,m,n,T,g⟩=>?_)) A
 obtain⟨k,rfl,g⟩:=iJ g;cases T;refine wpAny_truthy_bool ?_;cases k with
 | false=>exact ite_ff ⟨.bl false,m,n,rfl,g⟩
 | true=>exact ite_tt (chain_last (thn (w pins O f m _ n g) λU Y ⟨z',H4,I4,r4,q4⟩=>i pins Y f H4 y z' u U Q I4 l r4 q4))
theorem vv(p:OpR X (compareOp l) r)(i:OpR X (compareOp e) q)(t:PE X a ta)(w:PE X b tb)(A:PE X c tc)
 (B:lastMarks [l,e] [b,c]=false):PT X (.Compare a [l,e] [b,c] pos) (oO (kE r q ta tb tc)):=by
 intro pins s f H Q I h;refine isTrue_chain (thn (t pins s f H _ I h) λv C ⟨x,D,E,G,J⟩=>test_link (thn (w pins C f D _ E J) λu L ⟨y,M,N,m,O⟩=>
  thn (p pins L f M x y v u _ N G m O) λd T ⟨z,n,o,U,g⟩=>?_)) B
 obtain⟨k,rfl,g⟩:=iJ g;cases U;refine wpAny_truthy_bool ?_;cases k with
 | false=>
   obtain⟨k',Y,q'⟩:=iJ g;cases Y;exact ite_ff ⟨n,o,q'⟩
 | true=>
   refine ite_tt (test_last (thn (A pins T f n _ o g) λw' s4 ⟨z',H4,I4,r4,q4⟩=>thn (i pins s4 f H4 y z' u w' _ I4 m r4 q4) λd' s5 ⟨z2,H5,I5,r5,j⟩=>?_));obtain⟨k2,rfl,j⟩:=iJ j;cases r5;exact wpAny_truthy_bool ⟨H5,I5,j⟩
def vw(K:PySem.W.Frag)(x:V)(H:Hp)(k:Bool):Prop:=
 match x with
 | .non=>k=false
 | .bl b=>k=b
 | .int i=>k=(i != 0)
 | .str y=>y.length<=sizeLine/\k=((y.length:Int) != 0)
 | .byt y=>y.size<=sizeLine/\k=((y.size:Int) != 0)
 | .ref p=>(∃xs,SqL K H p xs/\k=!xs.isEmpty)\/(∃xs,SqT K H p xs/\k=!xs.isEmpty)\/∃d,H p=some (.dK d)/\k=!d.isEmpty
 | _=>False
theorem qg{e:Type}{d:List (e×V)}{vs:List (e×Value)}(r:KV d vs):(!vs.isEmpty)=!d.isEmpty:=by
 cases r<;> rfl
theorem kF(r:aD xs its):(!its.toArray.isEmpty)=!xs.isEmpty:=by
 cases r<;> simp
theorem je:(sizeLine:Nat)<2^63:=by rw[sizeLine_eq];decide
theorem zW:TruR X (λx H Q=>∃k,vw X.K x H k/\Q k H):=by
 intro pins s w H x v Q I j h;obtain⟨k,e,q⟩:=h;have z:=je;have A:sizeLine=16777216:=sizeLine_eq;cases x with
 | non=>
   cases j;have d:k=false:=e;subst d;exact truthy_none ⟨H,I,q⟩
 | bl b=>
   cases j;have d:k=b:=e;subst d;exact wpAny_truthy_bool ⟨H,I,q⟩
 | int i=>
   obtain⟨t,rfl⟩:=j;have d:k=(i != 0):=e;subst d;exact PySem.P.truthy_int ⟨H,I,q⟩
 | str y=>
   obtain⟨t,rfl⟩:=j;obtain⟨o,d⟩:y.length<=sizeLine/\k=((y.length:Int) != 0):=e;subst d;exact PySem.P.truthy_str (by lia) ⟨H,I.tok _,q⟩
 | byt y=>
   obtain⟨t,rfl⟩:=j;obtain⟨o,d⟩:y.size<=sizeLine/\k=((y.size:Int) != 0):=e;subst d;exact PySem.W.truthy_bytes (by lia) ⟨H,I.tok _,q⟩
 | ref p=>
   cases j;have d:(∃xs,SqL X.K H p xs/\k=!xs.isEmpty)\/(∃xs,SqT X.K H p xs/\k=!xs.isEmpty)\/∃f,H p=some (.dK f)/\k=!f.isEmpty:=e;rcases d with⟨xs,l,d⟩|⟨xs,l,d⟩|⟨f,l,d⟩
   ·subst d;obtain⟨its,r,pl,n⟩:=I.list l;have g:=r.length;exact wpAny_truthy_list pl.isList (by simp only[Zo];lia) ⟨H,I.tok _,by rw[kF r];exact q⟩
   ·subst d;obtain⟨its,r,pl,n⟩:=I.tuple l;have g:=r.length;exact truthy_tuple pl (by simp only[Zo];lia) ⟨H,I.tok _,by rw[kF r];exact q⟩
   ·subst d;obtain⟨n,u,vs,r,m⟩:f.length<=sizeLine/\(p==sysModules)=false/\∃vs,KV f vs/\s.heap.DictOf (aS X.prog X.w) p vs:=I.hok p _ l;have g:f.length=vs.length:=Paired.length r;exact wpAny_truthy_dict u m (by lia) ⟨H,I.tok _,by rw[qg r];exact q⟩
 | _=>exact(show False from e).elim
theorem vx(g:PE X a ta)(i:∀d,isTrue a X.env d=(do let v<-d;standAt a.pos;holding [v] (truthy v))):
 PT X a (λe H Q=>ta e H λx f=>∃k,vw X.K x f k/\Q k f):=by
 intro pins s e H Q I h;exact isTrue_plain (thn (g pins s e H _ I h) λv j ⟨x,l,m,n,o⟩=>zW pins j e l x v Q m n o) (i _)
theorem qh:OpR X (binaryOp .Add) (λx y H Q=>∃i j,x= .str i/\y= .str j/\i.length+j.length<=sizeLine/\Q (.str (i++j)) H):=by
 intro pins s g H x y v u Q I d e h;obtain⟨i,j,rfl,rfl,f,q⟩:=h;obtain⟨t,rfl⟩:=d;obtain⟨t',rfl⟩:=e;exact add_str (λt' tk=>⟨.str (i++j),H,I.tok _,⟨_,rfl⟩,q⟩) f
theorem eL(r:aD [x] us):∃u,us=[u]/\aG x u:=by
 cases r with
 | cons d e=>cases e;exact⟨_,rfl,d⟩
theorem kG(r:aD [x,y] us):∃u d,us=[u,d]/\aG x u/\aG y d:=by
 cases r with
 | cons e f=>
   cases f with
   | cons g h=>cases h;exact⟨_,_,rfl,e,g⟩
theorem vy:cn X (.builtin "abs") (λxs H Q=>∃i,xs=[.int i]/\Q (.int (if i<0 then -i else i)) H):=by
 intro pins s d H xs us Q I r h;obtain⟨i,rfl,q⟩:=h;obtain⟨u,rfl,t,rfl⟩:=eL r;exact call_abs_int λu tk=>⟨.int (if i<0 then -i else i),H,I.tok _,⟨_,rfl⟩,q⟩
theorem sU(e:X.calm=true):cn X (.builtin "max") (λxs H Q=>∃i j,xs=[.int i,.int j]/\Q (.int (if j>i then j else i)) H):=by
 intro pins s f H xs us Q I r h;obtain⟨i,j,rfl,q⟩:=h;obtain⟨u,g,rfl,⟨t,rfl⟩,t',rfl⟩:=kG r;refine max_two_ints (I.ok.hd e) λh' tk k=>⟨_,H,I.kept k,?_,q⟩
 by_cases d:j>i
 ·rw[if_pos d,if_pos d];exact⟨_,rfl⟩
 ·rw[if_neg d,if_neg d];exact⟨_,rfl⟩
theorem sV(e:X.calm=true):cn X (.builtin "min") (λxs H Q=>∃i j,xs=[.int i,.int j]/\Q (.int (if j<i then j else i)) H):=by
 intro pins s f H xs us Q I r h;obtain⟨i,j,rfl,q⟩:=h;obtain⟨u,g,rfl,⟨t,rfl⟩,t',rfl⟩:=kG r;refine min_two_ints (I.ok.hd e) λh' tk k=>⟨_,H,I.kept k,?_,q⟩
 by_cases d:j<i
 ·rw[if_pos d,if_pos d];exact⟨_,rfl⟩
 ·rw[if_neg d,if_neg d];exact⟨_,rfl⟩
theorem sW:cn X (.type "int") (λxs H Q=>(∃i,xs=[.int i]/\Q (.int i) H)\/∃k,xs=[.bl k]/\Q (.int (if k then 1 else 0)) H):=by
 intro pins s e H xs us Q I r h;rcases h with⟨i,rfl,q⟩|⟨k,rfl,q⟩
 ·obtain⟨u,rfl,t,rfl⟩:=eL r;exact call_int_int ⟨.int i,H,I,⟨_,rfl⟩,q⟩
 ·obtain⟨u,rfl,d⟩:=eL r;cases d;exact call_int_bool ⟨.int (if k then 1 else 0),H,I.tok _,⟨_,rfl⟩,q⟩
def xK(K:PySem.W.Frag)(x:V)(H:Hp)(n:Nat):Prop:=
 match x with
 | .str y=>y.length<=sizeLine/\n=y.length
 | .byt y=>y.size<=sizeLine/\n=y.size
 | .ref p=>(∃xs,SqL K H p xs/\n=xs.length)\/∃xs,SqT K H p xs/\n=xs.length
 | _=>False
theorem vz:cn X (.builtin "len") (λxs H Q=>∃x n,xs=[x]/\xK X.K x H n/\Q (.int n) H):=by
 intro pins s m H xs us Q I r h;obtain⟨x,n,rfl,e,q⟩:=h;obtain⟨u,rfl,g⟩:=eL r;have o:=je;have v:sizeLine=16777216:=sizeLine_eq;cases x with
 | str y=>
   obtain⟨t,rfl⟩:=g;obtain⟨k,f⟩:y.length<=sizeLine/\n=y.length:=e;subst f;exact len_str (by lia) ⟨.int _,H,I.tok _,⟨_,rfl⟩,q⟩
 | byt y=>
   obtain⟨t,rfl⟩:=g;obtain⟨k,f⟩:y.size<=sizeLine/\n=y.size:=e;subst f;exact PySem.W.len_bytes (by lia) ⟨.int _,H,I.tok _,⟨_,rfl⟩,q⟩
 | ref p=>
   cases g;have f:(∃xs,SqL X.K H p xs/\n=xs.length)\/∃xs,SqT X.K H p xs/\n=xs.length:=e;rcases f with⟨xs,i,f⟩|⟨xs,i,f⟩
   ·subst f;obtain⟨its,j,pl,l⟩:=I.list i;have d:=j.length;exact Calls.call_len_list pl.isList (by simp only[Zo];lia) ⟨.int xs.length,H,I.tok _,⟨_,by simp only[Zo];rw[d]⟩,q⟩
   ·subst f;obtain⟨its,j,pl,l⟩:=I.tuple i;have d:=j.length;exact len_tuple pl (by simp only[Zo];lia) ⟨.int xs.length,H,I.tok _,⟨_,by simp only[Zo];rw[d]⟩,q⟩
 | _=>exact(show False from e).elim
end
structure vA (h:Heap) (x dx C:Addr) (mA:Str->Option Value):Prop where
 obj:h.get? x=some (instObj C dx)
 ns:h.Ns1 dx mA
 ne:dx≠x
theorem jf{h:Heap}{c:Str->Option Value}(n:h.Ns1 f c):∃od,h.get? f=some od/\∀name,lookIn name od=some (c name):=by
 obtain⟨o,d,p,g,i,j,_,k⟩:=n;refine⟨o,g,λname=>?_⟩;have e:=k name;unfold nsFind findBy at e;rw[<-Array.find?_toList]at e;unfold lookIn;rw[i];dsimp only
 split
 ·rename_i y q
  rw[q]at e;exact congrArg some e
 ·rename_i q
  rw[q]at e;have a:d.toList.any (·.refKey)=false:=by
   rw[List.any_eq_false];intro y l;obtain⟨z,t,b⟩:=j y (mem_toList_iff.mp l);simp[DictEntry.refKey,b]
  have m: ¬ d.toList.any (·.refKey)=true:=by rw[a];exact Zs
  rw[if_neg m];exact congrArg some e
theorem vA.look(I:vA h x a C b):∃od,PySem.W.InstAt h x (instObj C a) C (some od)/\∀name,lookIn name od=some (b name):=
 let⟨od,c,d⟩:=jf I.ns
 ⟨od,⟨I.obj,rfl,rfl,c⟩,d⟩
section
variable{prog:Program}{w:World}{A:Around}{E:Value->Shared->Prop}{s:Shared}{K:PySem.W.Frag}{x dx C f:Addr}{mA:Str->Option Value}{name:Str}{v:Value}
theorem xL(X:K.In s.heap)(I:vA s.heap x dx C mA)
 (k:findIn K (.ref C) "__setattr__"=some (some (.builtin "object.__setattr__"))) (l:plainOver K C=true) (m:takerIn K C name=some none) (n:hasDictIn K C=true)
 (hw:PySem.Within mA o) (hsz:o.length<=sizeLine)
 (h:∀h',vA h' x dx C (λy=>if y=name then some v else mA y)->SameBut dx s.heap h'->Q () {s with heap:=h',toks:=s.toks+2}):
 wpAny (model prog w) A (setAttr (.ref x) name v) Q E s:=by
 obtain⟨od,J,z⟩:=I.look;refine set_plain X J k (PySem.W.osa_open (s:={s with toks:=s.toks+1}) (r:=none) X J l m λb=>?_);obtain⟨B,p,e⟩:=any_some n;have q:s.heap.get? x=some ⟨.ref C,some dx,.plain,#[]⟩:=I.obj;refine Z2 (Z3 (Z2 (Z2 (wpAny_loadPart q (Z2 (Looks.here (s:={s with toks:=s.toks+1}) (looks_clsIn X p) ?_))))));rw[e];refine Z3 (a:=some dx) (Z2 (Z3 (Z2 ?_)));refine wpAny_nsSet1 (s:={s with toks:=s.toks+1}) I.ns λh' c d=>?_
 obtain⟨D,t,u,g,i,j⟩:=c.count (PySem.Within.cons name v hw);refine Z2 (wpAny_lookBehind g (by rw[i];exact pastItsLine_dict (Y2 j (by rw[Zq];lia))) ?_);exact Z3 (h _ ⟨(d.2 _ (Ne.symm I.ne)).trans I.obj,c,I.ne⟩ d)
theorem vB{R:Result->Shared->Prop}(X:K.In s.heap)(b:makesIn K C=true)
 (hi:findIn K (.ref C) "__init__"=some (some (.ref f))) (c:typeIn K (.ref f)=some (.type "function"))
 (h:codeAny (model prog w) (A.under (.builtin "type.__call__" ⟨.ref C::vs,a⟩)) (.call (.ref f) ⟨.ref (s.heap.objs.size+1)::vs,a⟩) (PySem.W.InitBack (s.heap.objs.size+1) R)
  {s with heap:=(s.heap.push emptyDict).push (instObj C s.heap.objs.size)}):
 codeAny (model prog w) A (.call (.ref C) ⟨vs,a⟩) R s:=by
 obtain⟨e,g,d,t,os⟩:=s;exact PySem.W.make_core (PySem.W.makes_of X b) (looks_findIn X hi) (λself=>PySem.W.bind_fn X self c) (.inl rfl) h
end
noncomputable def dw(f:Str)(v:V):List (Str×V)->List (Str×V)
 |[]=>[(f,v)]
 |(g,x)::r=>if g=f then(g,v)::r else(g,x)::dw f v r
theorem jL(f g:Str)(v:V):∀fs:List (Str×V),(dw f v fs).lookup g=if g=f then some v else fs.lookup g
 |[]=>by
  show List.lookup g [(f,v)]=_;by_cases h:g=f
  ·have a:(g==f)=true:=beq_iff_eq.mpr h;simp only[List.lookup,a,if_pos h]
  ·have a:(g==f)=false:=beq_eq_false_iff_ne.mpr h;simp only[List.lookup,a,if_neg h]
 |(k,x)::r=>by
  have c:=jL f g v r;rw[show dw f v ((k,x)::r)=(if k=f then(k,v)::r else(k,x)::dw f v r)from rfl];by_cases b:k=f
  ·rw[if_pos b];by_cases h:g=k
   ·have a:(g==k)=true:=beq_iff_eq.mpr h;simp only[List.lookup,a,if_pos (h.trans b)]
   ·have a:(g==k)=false:=beq_eq_false_iff_ne.mpr h;simp only[List.lookup,a,if_neg (λe:g=f=>h (e.trans b.symm))]
  ·rw[if_neg b];by_cases h:g=k
   ·have a:(g==k)=true:=beq_iff_eq.mpr h;simp only[List.lookup,a,if_neg (λe:g=f=>b (h.symm.trans e))]
   ·have a:(g==k)=false:=beq_eq_false_iff_ne.mpr h;simp only[List.lookup,a];exact c
theorem jg(f:Str)(v:V):∀fs:List (Str×V),f∈(dw f v fs).map (·.1)/\∀g,g∈fs.map (·.1)->g∈(dw f v fs).map (·.1)
 |[]=>⟨by simp[dw],λg h=>by simp at h⟩
 |(k,x)::r=>by
  obtain⟨b,c⟩:=jg f v r;rw[show dw f v ((k,x)::r)=(if k=f then(k,v)::r else(k,x)::dw f v r)from rfl];by_cases a:k=f
  ·rw[if_pos a];subst a;exact⟨by simp,λg h=>by simpa using h⟩
  ·rw[if_neg a];refine⟨?_,λg h=>?_⟩
   ·rw[Ya];exact Zj _ b
   ·rw[Ya]at h ⊢;rcases mem_cons.mp h with e|e
    ·exact mem_cons.mpr (.inl e)
    ·exact Zj _ (c g e)
theorem jM(f:Str)(v:V):∀fs:List (Str×V),(dw f v fs).length<=fs.length+1
 |[]=>by simp[dw]
 |(k,x)::r=>by
  have b:=jM f v r;rw[show dw f v ((k,x)::r)=(if k=f then(k,v)::r else(k,x)::dw f v r)from rfl];by_cases a:k=f
  ·rw[if_pos a,Zq,Zq];lia
  ·rw[if_neg a,Zq,Zq];lia
theorem gY.some_of(r:gY (some v) o):∃u,o=some u/\aG v u:=by
 cases o with
 | none=>exact(show False from r).elim
 | some u=>exact⟨u,rfl,r⟩
theorem l7(r:aG v u):handedIn u=true:=by
 cases v with
 | non=>cases(show u=Value.none from r);rfl
 | bl b=>cases(show u=Value.bool b from r);rfl
 | int i=>obtain⟨t,e⟩:=(show∃t,u=Value.int i t from r);cases e;rfl
 | str x=>obtain⟨t,e⟩:=(show∃t,u=Value.str x t from r);cases e;rfl
 | byt b=>obtain⟨t,e⟩:=(show∃t,u=Value.bytes b t from r);cases e;rfl
 | flt b=>obtain⟨t,e⟩:=(show∃t,u=Value.float b t from r);cases e;rfl
 | ref a=>cases(show u=Value.ref a from r);rfl
 | ty n=>cases(show u=Value.type n from r);rfl
section
variable{P:Program}{w:World}{H H':Hp}{h h':Heap}{a C dx:Addr}{fs fs':List (Str×V)}
theorem rG(c:HOk P w H h)(e:H a=some (.ins C dx fs)):∃b,vA h a dx C b/\(∀f,gY (fs.lookup f) (b f))/\PySem.Within b (fs.map (·.1))/\fs.length<=1000/\H dx=some (.own a):=by
 obtain⟨d,z,ne,g,b,n,r,q⟩:=(show bg P w H h a (.ins C dx fs)from c a _ e)
 exact⟨b,⟨g,n,ne⟩,r,q,z,d⟩
end
structure Cls (K:PySem.W.Frag) (C:Addr):Prop where
 pg:plainGet K C Str.empty=true
 hd:hasDictIn K C=true
 po:plainOver K C=true
 sa:findIn K (.ref C) "__setattr__"=some (some (.builtin "object.__setattr__"))
theorem Cls.get{K:PySem.W.Frag}{C:Addr}(c:Cls K C)(f:Str):plainGet K C f=true:=c.pg
def fR(K:PySem.W.Frag)(C:Addr)(f:Str):Prop:=findIn K (.ref C) f=some none
theorem fR.taker{K:PySem.W.Frag}{C:Addr}{f:Str}(n:fR K C f):takerIn K C f=some none:=by
 unfold takerIn;rw[show findIn K (.ref C) f=some none from n];rfl
section
variable{X:Cx}{pins:List (Addr×Obj)}{σ:St}{H:Hp}{s:Shared}{a C dx:Addr}{fs:List (Str×V)}{f:Str}{v:V}{A:Around}{E:Value->Shared->Prop}
theorem qj(I:Inv X pins σ H s)(e:H a=some (.ins C dx fs))(c:Cls X.K C)(n:fR X.K C f)(G:fs.length<1000)(l:aG y u)
 (h:∀s',Inv X pins σ (upd H a (.ins C dx (dw f y fs))) s'->Q () s'):wpAny (model X.prog X.w) A (setAttr (.ref a) f u) Q E s:=by
 obtain⟨i,O,r,j,_,k⟩:=rG I.hok e;have m:(fs.map (·.1)).length<=sizeLine:=by rw[Z5,sizeLine_eq];lia
 refine xL I.kIn O c.sa c.po n.taker c.hd j m λh' d p=>h _ ?_
 have t:∃o,h'.get? dx=some o:=let⟨o,_,_,w,_⟩:=d.ns;⟨o,w⟩;refine I.write (x:=a) (e:=dx) (by rw[e];exact True.intro) (.inr k) (λb q B z=>(p.2 b B).trans z) t ?_;refine⟨by rw[aj O.ne];exact k,?_,O.ne,d.obj,_,d.ns,λg=>?_,λg D=>?_⟩
 ·have:=jM f y fs;lia
 ·show gY ((dw f y fs).lookup g) (if g=f then some u else i g);rw[jL];by_cases q:g=f
  ·rw[if_pos q,if_pos q];exact l
  ·rw[if_neg q,if_neg q];exact r g
 ·by_cases q:g=f
  ·rw[q];exact(jg f y fs).1
  ·refine(jg f y fs).2 g (j g λz=>D ?_);show(if g=f then some u else i g)=none;rw[if_neg q];exact z
theorem Inv.made(I:Inv X pins σ H s):Inv X pins σ (upd (upd H s.heap.objs.size (.own (s.heap.objs.size+1))) (s.heap.objs.size+1) (.ins C s.heap.objs.size []))
 {s with heap:=(s.heap.push emptyDict).push (instObj C s.heap.objs.size)}:=by
 have c:(s.heap.push emptyDict).get? s.heap.objs.size=some emptyDict:=Zi s.heap rfl;have d:((s.heap.push emptyDict).push (instObj C s.heap.objs.size)).get? (s.heap.objs.size+1)=some (instObj C s.heap.objs.size):=by
  have:=Zi (s.heap.push emptyDict) (o:=instObj C s.heap.objs.size) rfl;rwa[Zp]at this
 have g:(s.heap.push emptyDict).Ns s.heap.objs.size (λ_=>none):=⟨emptyDict,#[],_,c,rfl,(λe h=>absurd h (by simp)),λ_=>rfl⟩
 have i:=I.laid (a:=s.heap.objs.size) (o:= .own (s.heap.objs.size+1)) (h':=s.heap.push emptyDict) (t':=s.toks) (λb u q=>Z6 _ q) (Zh _) ⟨_,c⟩;refine i.laid (a:=s.heap.objs.size+1) (o:= .ins C s.heap.objs.size []) (t':=s.toks) (λb u q=>Z6 _ q) (Nat.le_of_eq (Zp _ _)) ?_;have ne:s.heap.objs.size≠s.heap.objs.size+1:=Zr (Y9 _);refine⟨by rw[aj ne,aa],Yn _,ne,d,λ_=>none,(Heap.Ns1.of_empty g).at λo q=>Z6 _ q,λ_=>True.intro,λy j=>absurd rfl j⟩
theorem rH(c:attributeBase e f env (eval e env)=eval e env)
 (h:wpAny (model prog w) A (eval e env) (λo b=>wpAny (model prog w) A (getAttr o f true) Q E b) E s):wpAny (model prog w) A (eval (.Attribute e f pos) env) Q E s:=
 Attribute_any_ h (by rw[arm_eval_Attribute,c])
end
def zX(K:PySem.W.Frag)(e g:TE)(f:Str):TS:=λD b H=>g b H λy h=>e b h λx c=>∃a C d fs,x= .ref a/\c a=some (.ins C d fs)/\Cls K C/\fR K C f/\fs.length<1000/\
 D.nx b (upd c a (.ins C d (dw f y fs)))
section
variable{X:Cx}{o e value:Expr}{f:Str}{pos pos' tpos:Pos}{ta tv:TE}
theorem zY(d:PE X o ta)(g:PE X value tv)(i:swapsWith value (some (.Attribute o f pos')) pos.line X.env=pure false):PS X (.Assign [.Attribute o f pos'] value pos) (zX X.K ta tv f):=by
 intro pins s b H D I h;refine plainObj_wpAny_Assign_Attribute (thn (g pins s b H _ I h) λu j ⟨y,k,m,p,q⟩=>thn (d pins j b k _ m q) λr B ⟨x,E,t,v,a,C,G,fs,ex,w,c,n,l,z⟩=>?_) i;subst ex;obtain rfl:r=Value.ref a:=v;exact qj t w c n l p λJ A=>⟨b,_,A,z⟩
end
section
variable{X:Cx}{pins:List (Addr×Obj)}{σ:St}{H:Hp}{s:Shared}{A:Around}{E:Value->Shared->Prop}{Q:Value->Shared->Prop}{c:Value}{b:Bool}
inductive fS (K:PySem.W.Frag) (H:Hp):V->Value->Prop where
 | non:fS K H .non (.type "NoneType")
 | bl (x:Bool):fS K H (.bl x) (.type "bool")
 | int (i:Int):fS K H (.int i) (.type "int")
 | str (x:Str):fS K H (.str x) (.type "str")
 | flt (x:UInt64):fS K H (.flt x) (.type "float")
 | lst {a:Addr} {xs:List V} (e:H a=some (.lst xs)):fS K H (.ref a) (.type "list")
 | frz {a:Addr} {o:Obj} {xs:List V} (e:H a=some (.frz o (.lst xs))):fS K H (.ref a) (.type "list")
 | tup {a:Addr} {xs:List V} (e:H a=some (.tup xs)):fS K H (.ref a) (.type "tuple")
 | dK {a:Addr} {kvs:List (Key×V)} (e:H a=some (.dK kvs)):fS K H (.ref a) (.type "dict")
 | dT {a:Addr} {kvs:List (List Key×V)} (e:H a=some (.dT kvs)):fS K H (.ref a) (.type "dict")
 | ins {a C dx:Addr} {fs:List (Str×V)} (e:H a=some (.ins C dx fs)) (cl:Cls K C) (ha:findIn K (.ref C) "__class__"=some (some (.builtin "object.__class__")))
  (hn:specialIn K (.builtin "object.__class__") "__get__"=some (some (.builtin "getset_descriptor.__get__"))) (htk:takesIn K (.builtin "object.__class__")=some true)
  (hm:mroIn K C (.type "object")=some true):fS K H (.ref a) (.ref C)
theorem sX(I:Inv X pins σ H s)(d:aG x u)(ty:fS X.K H x t)(e:kitOne X.K t c=some b)(h:∀tk,Q (.bool b) {s with toks:=tk}):
 wpAny (model X.prog X.w) A (call (.builtin "isinstance") [u,c]) Q E s:=by
 cases ty with
 | non=>cases(show u=Value.none from d);exact kia_one kitx_none I.kIn True.intro e (λz=>nomatch z) h
 | bl y=>cases(show u=Value.bool y from d);exact kia_one PySem.W.kitx_bool I.kIn True.intro e (λz=>nomatch z) h
 | int i=>obtain⟨t,q⟩:=(show∃t,u=Value.int i t from d);cases q;exact kia_one PySem.W.kitx_int I.kIn True.intro e (λz=>nomatch z) h
 | str y=>obtain⟨t,q⟩:=(show∃t,u=Value.str y t from d);cases q;exact kia_one PySem.W.kitx_str I.kIn True.intro e (λz=>nomatch z) h
 | flt y=>obtain⟨t,q⟩:=(show∃t,u=Value.float y t from d);cases q;exact kia_one PySem.W.kitx_float I.kIn True.intro e (λz=>nomatch z) h
 | @lst a xs f=>
   cases(show u=Value.ref a from d);obtain⟨_,_,n,_,g⟩:=(show bg X.prog X.w H s.heap a (.lst xs)from I.hok a _ f)
   exact kia_one kitx_list I.kIn ⟨_,g,rfl⟩ e (λz=>nomatch z) h
 | @frz a r xs f=>
   cases(show u=Value.ref a from d);obtain⟨_,_,_,n,_,g⟩:=(show bg X.prog X.w H s.heap a (.frz r (.lst xs))from I.hok a _ f)
   exact kia_one kitx_list I.kIn ⟨_,g,rfl⟩ e (λz=>nomatch z) h
 | @tup a xs f=>
   cases(show u=Value.ref a from d);obtain⟨_,_,_,p⟩:=(show bg X.prog X.w H s.heap a (.tup xs)from I.hok a _ f)
   obtain⟨o,g,k,_⟩:=p;exact kia_one PySem.W.kitx_tuple I.kIn ⟨o,g,k⟩ e (λz=>nomatch z) h
 | @dK a j f=>
   cases(show u=Value.ref a from d);obtain⟨_,_,vs,_,p⟩:=(show bg X.prog X.w H s.heap a (.dK j)from I.hok a _ f)
   obtain⟨o,v,w,g,k,_⟩:=p;exact kia_one kitx_dict I.kIn ⟨o,g,k.1⟩ e (λz=>nomatch z) h
 | @dT a j f=>
   cases(show u=Value.ref a from d);obtain⟨_,_,xs,_,o,v,w,g,k,_⟩:=(show bg X.prog X.w H s.heap a (.dT j)from I.hok a _ f)
   exact kia_one kitx_dict I.kIn ⟨o,g,k.1⟩ e (λz=>nomatch z) h
 | @ins a C L fs f m B D l G=>
   cases(show u=Value.ref a from d);obtain⟨M,O,_⟩:=rG I.hok f;obtain⟨od,J,_⟩:=O.look;exact kia_one (PySem.W.kitx_own (m.get _) m.hd B D l G) I.kIn J e (λz=>nomatch z) h
end
structure bN (k:Nat) (A:Around):Prop where
 hd:A.handled=none
 dp:A.depth+3*k+5<recursionLimit
 un:A.units+16*k+200<cLine
theorem bN.mono(r:bN k A)(h:j<=k):bN j A:=⟨r.hd,by have:=r.dp;lia,by have:=r.un;lia⟩
theorem bN.deeper(r:bN (k+1) A)(env:Env):bN k (A.deeper env):=
 ⟨r.hd,by have:=r.dp;show A.depth+1+3*k+5<_;lia,by have:=r.un;show A.units+3+16*k+200<_;lia⟩
theorem qk{A:Around}:(A.under (.builtin "type.__call__" ⟨.ref C::us,a⟩)).depth=A.depth+1:=by
 first|rfl|simp[Around.under,Code.weight,Code.isCreation,Code.isGuard,Code.isCaller,Code.frames,Code.isFrame,guardIds]
theorem ql{A:Around}:(A.under (.builtin "type.__call__" ⟨.ref C::us,a⟩)).units=A.units+1:=by
 first|rfl|simp[Around.under,Code.cUnits,Code.frames,Code.isFrame]
theorem bN.make(r:bN (k+1) A)(C:Addr)(us:List Value)(a:List (Str×Value)):bN k (A.under (.builtin "type.__call__" ⟨.ref C::us,a⟩)):=
 ⟨r.hd,by have:=r.dp;rw[qk];lia,by have:=r.un;rw[ql];lia⟩
theorem bN.depth(r:bN k A):A.depth<recursionLimit:=by have:=r.dp;lia
theorem bN.units(r:bN k A):A.units+64<cLine:=by have:=r.un;lia
def iL:TA:=λ_ H Q=>Q [] H
def bR(b:TE)(c:TA):TA:=λa H Q=>b a H λx d=>c a d λxs e=>Q (x::xs) e
section
variable{X:Cx}{e:Expr}{es:List Expr}{te:TE}{t:TA}{pos:Pos}
theorem zZ:PA X [] iL:=λ_ _ _ _ H Q I h=>Calls.spliced_nil ⟨[],H,I,.nil,h⟩
theorem xM(b:PE X e te)(c:PA X es t)(d:starEach (e::es) X.env=(false,eval e X.env)::starEach es X.env):PA X (e::es) (bR te t):=by
 intro pos pins s a H Q I h;rw[d];show wpAny _ _ (spliced ((false,eval e X.env)::backTo pos (starEach es X.env))) _ _ s;refine Calls.spliced_cons (thn (b pins s a H _ I h) λu f ⟨x,g,i,j,k⟩=>?_);exact thn (c pos pins f a g _ i k) λus p ⟨xs,l,m,n,o⟩=>⟨x::xs,l,m,.cons j n,o⟩
def jh(t:TA):TE:=λb H Q=>t b H λxs a=>xs.length<=sizeLine/\∀p,a p=none->Q (.ref p) (upd a p (.tup xs))
def nh(t:TA):TE:=λb H Q=>t b H λxs a=>xs.length<=sizeLine/\∀p,a p=none->Q (.ref p) (upd a p (.lst xs))
theorem z1{f}(h:PA X es t):PE X (.Tuple es f pos) (jh t):=by
 intro pins s g H Q I i;refine wpAny_Tuple_spliced (thn (h pos pins s g H _ I i) λus a ⟨xs,c,d,r,z,q⟩=>⟨by rw[<-r.length];exact z,?_⟩);have j:c a.heap.objs.size=none:=d.hok.fresh (Zh _);refine⟨.ref a.heap.objs.size,upd c a.heap.objs.size (.tup xs),d.laid (t':=a.toks) (λb u e=>Z6 _ e) (Zh _) ?_,rfl,q _ j⟩;exact⟨z,us,r,_,Zi _ rfl,rfl,_,rfl⟩
theorem z3(h:PA X es t):PE X (.List es pos) (nh t):=by
 intro pins s f H Q I g;refine wpAny_List_spliced (thn (h pos pins s f H _ I g) λus a ⟨xs,c,d,r,z,q⟩=>⟨by rw[<-r.length];exact z,?_⟩);have i:c a.heap.objs.size=none:=d.hok.fresh (Zh _);refine⟨.ref a.heap.objs.size,upd c a.heap.objs.size (.lst xs),d.laid (t':=a.toks) (λb u e=>Z6 _ e) (Zh _) ?_,rfl,q _ i⟩;exact⟨z,us,0,r,Zi _ rfl⟩
end
noncomputable abbrev Sp:=List V->Hp->VK->XK->Prop
noncomputable abbrev CXT:=List Env->Hp->Shared->XK->Value->Shared->Prop
structure qo (P:Program) (w:World) (K:PySem.W.Frag) (mg:Str->Option Value) (base:Heap) (A:Around) (outer:List Env) (s:Shared) (H:Hp):Prop where
 frames:A.frames=some outer
 mod:Mod K mg base
 bs:∀b o,base.get? b=some o->s.heap.get? b=some o/\H b=none
 bsz:base.objs.size<=s.heap.objs.size
 funs:s.heap.FunFrames base outer
 frf:∀b∈frs outer,H b=none
 hok:HOk P w H s.heap
 bare:AllBare s.gens
def CE(outer:List Env)(P:Program)(w:World)(H:Hp)(s:Shared)(Q:VK)(u:Value)(s':Shared):Prop:=
 ∃v a,s'.os=s.os/\AllBare s'.gens/\Un (frs outer) [] H a s.heap s'.heap/\HOk P w a s'.heap/\aG v u/\Q v a
def CR(CX:CXT)(outer:List Env)(P:Program)(w:World)(H:Hp)(s:Shared)(Q:VK)(E:XK)(r:Result)(s':Shared):Prop:=
 match r with
 | .ok (.ret u)=>CE outer P w H s Q u s'
 | .ok _=>False
 | .error e=>CX outer H s E e s'
structure eB (P:Program) (w:World) (K:PySem.W.Frag) (mg:Str->Option Value) (base:Heap) (CX:CXT) (k:Nat) (f:Addr) (fd:FuncData) (ps:List Str) (sp:Sp):Prop where
 len:∀vs H Q E,sp vs H Q E->vs.length=ps.length
 run:∀(A:Around) (outer:List Env) (s:Shared) (H:Hp) (args:Args) (us:List Value) (vs:List V) (Q:VK) (E:XK),bN k A->qo P w K mg base A outer s H->BindsTo s fd args (ps.zip us)->aD vs us->sp vs H Q E->
  codeAny (model P w) A (.call (.ref f) args) (CR CX outer P w H s Q E) s
theorem qo.make{P:Program}{K:PySem.W.Frag}(e:qo P w K mg base A outer s H)(C:Addr)(us:List Value)(a:List (Str×Value)):
 qo P w K mg base (A.under (.builtin "type.__call__" ⟨.ref C::us,a⟩)) outer s H:=⟨by first|exact e.frames|(simpa [Around.under,Code.envs,Code.isFrame,pushEnvs]using e.frames),e.mod,e.bs,e.bsz,e.funs,e.frf,e.hok,e.bare⟩
section
variable{X:Cx}{pins:List (Addr×Obj)}{σ:St}{H:Hp}{s s':Shared}
theorem Inv.env0(I:Inv X pins σ H s):qo X.prog X.w X.K X.mg X.base X.A X.stack s H:=
 ⟨I.ok.frames,I.ok.mod,I.bs,Y2 I.ok.bsz I.sz,I.stack,I.stkFree,I.hok,I.bare⟩
theorem Inv.after(I:Inv X pins σ H s)(h:CE X.stack X.prog X.w H s Q u s'):EP X pins σ Q u s':=by
 obtain⟨v,f,os,a,un,c,r,q⟩:=h;obtain⟨i,g,d,t,e⟩:=s';obtain rfl:e=s.os:=os;exact⟨v,f,I.call (h':=i) (g':=g) (d':=d) (t':=t) (ch:=[]) un c a (λb z=>absurd z (by simp)),r,q⟩
end
def l9(sp:Sp)(dvs:List V)(E:XK)(t:TA):TE:=λa H Q=>t a H λvs b=>sp (vs++dvs) b Q E
def vC(C:Addr)(sp:Sp)(dvs:List V)(E:XK)(t:TA):TE:=λc H Q=>t c H λvs b=>∀x a,b x=none->b a=none->a≠x->
 sp (.ref x::(vs++dvs)) (upd (upd b a (.own x)) x (.ins C a [])) (λv d=>v= .non/\Q (.ref x) d) E
def dF(K:PySem.W.Frag)(a:FuncData)(ps:List Str)(ds:List Value):Prop:=
 ∀(s:Shared) (us:List Value),K.In s.heap->(us++ds).length=ps.length->BindsTo s a ⟨us,[]⟩ (ps.zip (us++ds))
theorem dF.all{K:PySem.W.Frag}(h:∀us:List Value,us.length=ps.length->bindArgs b ⟨us,[]⟩=pure (ps.zip us)):dF K b ps []:=λs us _ a=>by
 rw[append_nil]at a ⊢;exact .of_eq (h us a)
def eC(CX:CXT)(X:Cx)(E:XK):Prop:=∀(pins:List (Addr×Obj)) (a:St) (H:Hp) (s:Shared) (e:Value) (s':Shared),Inv X pins a H s->CX X.stack H s E e s'->X.xe e s'
section
variable{X:Cx}{CX:CXT}{k:Nat}{f C:Addr}{fd:FuncData}{ps:List Str}{sp:Sp}{dvs:List V}{ds:List Value}{E:XK}{x m:Str}{p pos apos:Pos}{e o:Expr}{es:List Expr}{ta:TE}{t:TA}
theorem z4(F:eB X.prog X.w X.K X.mg X.base CX k f fd ps sp)(d:bN k X.A)(g:dF X.K fd ps ds)(i:aD dvs ds)(j:eC CX X E)
 (I:Inv X pins b H s) (r:aD vs us) (h:sp (vs++dvs) H Q E):wpAny (model X.prog X.w) X.A (call (.ref f) us) (EP X pins b Q) X.xe s:=by
 have c:aD (vs++dvs) (us++ds):=r.append i;have l:(us++ds).length=ps.length:=by rw[<-c.length];exact F.len _ _ _ _ h
 refine wpAny_call (codeAny_mono (F.run X.A X.stack s H ⟨us,[]⟩ (us++ds) (vs++dvs) Q E d I.env0 (g s us I.kIn l) c h) λr s' a=>?_);cases r with
 | error e=>exact j pins b H s e s' I a
 | ok n=>
   cases n with
   | ret u=>exact I.after a
   | next=>exact False.elim a
   | brk=>exact False.elim a
   | cont=>exact False.elim a
theorem rJ(F:eB X.prog X.w X.K X.mg X.base CX k f fd ps sp)(d:bN k X.A)(g:Gl X x)(i:X.mg x=some (.ref f))(j:keepIn X.K (.ref f)=true)(l:dF X.K fd ps ds)(n:aD dvs ds)(u:eC CX X E)
 (v:PA X (e::es) t) (a:(x==("__debug__":Str))=false) (w:starEach (e::es) X.env=(false,eval e X.env)::starEach es X.env) (b:(backTo pos (starEach es X.env)).any (·.1)=false):
 PE X (.Call (.Name x p) (e::es) [] pos) (l9 sp dvs E t):=by
 intro pins s y H Q I h;refine wpAny_Call_Name_kw (et I g i ?_ a);refine callWith_K (h₀:=X.base) I.ok.mod.kin j (thn (v pos pins s y H _ I h) λus z ⟨vs,A,c,r,q⟩=>⟨c.kIn,?_⟩) w b;exact z4 F d l n u c r q
structure Mk (K:PySem.W.Frag) (C f:Addr):Prop where
 makes:makesIn K C=true
 init:findIn K (.ref C) "__init__"=some (some (.ref f))
 fn:isFn K (.ref f)=true
 kp:keepIn K (.ref C)=true
theorem vD(M:Mk X.K C f)(F:eB X.prog X.w X.K X.mg X.base CX k f fd ps sp)(j:bN (k+1) X.A)(l:dF X.K fd ps ds)(n:aD dvs ds)
 (q:eC CX X E) (I:Inv X pins d H s) (r:aD vs us)
 (h:∀x b,H x=none->H b=none->b≠x->sp (.ref x::(vs++dvs)) (upd (upd H b (.own x)) x (.ins C b [])) (λv w=>v= .non/\Q (.ref x) w) E):
 wpAny (model X.prog X.w) X.A (call (.ref C) us) (EP X pins d Q) X.xe s:=by
 have g:=h (s.heap.objs.size+1) s.heap.objs.size (I.hok.fresh (Y1 _)) (I.hok.fresh (Zh _)) (Zr (Y9 _));have c:=Inv.made (C:=C) I;have i:aD (V.ref (s.heap.objs.size+1)::(vs++dvs)) (Value.ref (s.heap.objs.size+1)::(us++ds)):= .cons rfl (r.append n);have y:(Value.ref (s.heap.objs.size+1)::us++ds).length=ps.length:=by
  have e:=i.length;rw[F.len _ _ _ _ g]at e;exact e.symm
 refine wpAny_call (vB (f:=f) I.kIn M.makes M.init (beq_iff_eq.mp M.fn) (codeAny_mono (F.run _ X.stack _ _ ⟨Value.ref (s.heap.objs.size+1)::us,[]⟩ (Value.ref (s.heap.objs.size+1)::(us++ds)) _ _ E (j.make C us [])
  (c.env0.make C us []) (l _ (Value.ref (s.heap.objs.size+1)::us) c.kIn y) i g) λr s' a=>?_))
 cases r with
 | error e=>exact q pins d _ _ e s' c a
 | ok z=>
   cases z with
   | ret u=>
     obtain⟨v,A,B,D,G,J⟩:=c.after a;subst G;exact⟨D,V.ref (s.heap.objs.size+1),A,B,rfl,J⟩
   | next=>exact False.elim a
   | brk=>exact False.elim a
   | cont=>exact False.elim a
theorem xN(M:Mk X.K C f)(F:eB X.prog X.w X.K X.mg X.base CX k f fd ps sp)(d:bN (k+1) X.A)(g:Gl X x)(i:X.mg x=some (.ref C))(j:dF X.K fd ps ds)(l:aD dvs ds)(n:eC CX X E)
 (u:PA X (e::es) t) (a:(x==("__debug__":Str))=false) (v:starEach (e::es) X.env=(false,eval e X.env)::starEach es X.env) (b:(backTo pos (starEach es X.env)).any (·.1)=false):
 PE X (.Call (.Name x p) (e::es) [] pos) (vC C sp dvs E t):=by
 intro pins s w H Q I h;refine wpAny_Call_Name_kw (et I g i ?_ a);refine callWith_K (h₀:=X.base) I.ok.mod.kin M.kp (thn (u pos pins s w H _ I h) λus y ⟨vs,z,c,r,q⟩=>⟨c.kIn,?_⟩) v b;exact vD M F d j l n c r q
end
section
variable{X:Cx}{CX:CXT}{k:Nat}{f C:Addr}{fd:FuncData}{ps ks:List Str}{sp:Sp}{E:XK}{x m:Str}{p pos apos kpos:Pos}{e o:Expr}{es:List Expr}{kws:List Keyword}{te ta:TE}{t tk:TA}{nm:Option Str}
variable{g:List Value->List Value->List Value}{gV:List V->List V->List V}
end
structure ar (N P:List Str) (sc:Scope):Prop where
 kind:sc.kind= .function
 co:sc.isCoroutine=false
 gen:sc.isGenerator=false
 nd:N.Nodup
 pre:N.take P.length=P
 par:∀x∈P,sc.names.lookup x=some .local\/sc.names.lookup x=some .cell
 nofree:∀y∈sc.names,y.2≠ .free
theorem md{kindOf:Str->Option NameKind}:∀{binds:List (Str×Value)} {m:Str->Option Value},(∀v,(x,v)∉binds)->bindL kindOf binds m x=m x
 |[],_,_=>rfl
 |(n,v)::r,m,h=>by
  unfold bindL;rw[md λw hw=>h w (Zj _ hw)]
  split
  ·have:x≠n:=by rintro rfl;exact h v Zl
   simp[this]
  ·rfl
theorem mf{kindOf:Str->Option NameKind}:∀{binds:List (Str×Value)} {m:Str->Option Value},(∀v,(x,v)∉binds)->bindC kindOf binds m x=m x
 |[],_,_=>rfl
 |(n,v)::r,m,h=>by
  unfold bindC;rw[mf λw hw=>h w (Zj _ hw)]
  split
  ·rfl
  ·have:x≠n:=by rintro rfl;exact h v Zl
   simp[this]
theorem mh{kindOf:Str->Option NameKind}{x:Str}:∀{P:List Str} {vs:List Value} {i:Nat} {m:Str->Option Value},P.Nodup->P[i]? =some x->vs[i]? =some v->kindOf x=some .local->
 bindL kindOf (P.zip vs) m x=some v
 |[],_,_,_,_,h,_,_=>by simp at h
 | _::_,[],_,_,_,_,h,_=>by simp at h
 | p::P,w::vs,0,m,c,a,b,d=>by
   simp at a b;subst a;subst b;show bindL kindOf ((p,w)::P.zip vs) m p=_;unfold bindL;rw[md λv e=>(nodup_cons.mp c).1 (of_mem_zip e).1,if_pos d];simp
 | p::P,w::vs,i+1,m,c,a,b,d=>by
   show bindL kindOf ((p,w)::P.zip vs) m x=_;unfold bindL;exact mh (i:=i) (nodup_cons.mp c).2 (by simpa using a) (by simpa using b) d
theorem mi{kindOf:Str->Option NameKind}{x:Str}:∀{P:List Str} {vs:List Value} {i:Nat} {m:Str->Option Value},P.Nodup->P[i]? =some x->vs[i]? =some v->kindOf x≠some .local->
 bindC kindOf (P.zip vs) m x=some v
 |[],_,_,_,_,h,_,_=>by simp at h
 | _::_,[],_,_,_,_,h,_=>by simp at h
 | p::P,w::vs,0,m,c,a,b,d=>by
   simp at a b;subst a;subst b;show bindC kindOf ((p,w)::P.zip vs) m p=_;unfold bindC;rw[mf λv e=>(nodup_cons.mp c).1 (of_mem_zip e).1,if_neg d];simp
 | p::P,w::vs,i+1,m,c,a,b,d=>by
   show bindC kindOf ((p,w)::P.zip vs) m x=_;unfold bindC;exact mi (i:=i) (nodup_cons.mp c).2 (by simpa using a) (by simpa using b) d
noncomputable def eM(N:List Str)(vs:List V):St:=vs.map some++List.replicate (N.length-vs.length) none
noncomputable def dS(CX:CXT)(P:Program)(w:World)(K:PySem.W.Frag)(mg:Str->Option Value)(base:Heap)(N:List Str)(qual:Str)(scope:Scope)(f:Addr)(cd:Value)(A:Around)(outer:List Env)(s:Shared)(H:Hp)(E:XK):Cx where
 prog:=P
 w:=w
 K:=K
 mg:=mg
 base:=base
 A:=A.deeper (envOfC qual scope s.heap.objs.size f cd)
 N:=N
 s₀:=s
 H₀:=H
 env:=envOfC qual scope s.heap.objs.size f cd
 outer:=outer
 stack:=envOfC qual scope s.heap.objs.size f cd::outer
 ex:=[]
 calm:=true
 fn:=λ_=>true
 pn:=[]
 xe:=λe s'=>wpAny (model P w) (A.deeper (envOfC qual scope s.heap.objs.size f cd)) (leaving (envOfC qual scope s.heap.objs.size f cd) e) (λ_ s''=>CX outer H s E e s'') (λe' s''=>CX outer H s E e' s'') s'
theorem oP{a:Scope}{n:Nat}{x:Str}(h:a.names.lookup x=some .cell):∃c,(cellsFrom n a.names []).lookup x=some c:=by
 have q:=cellsFrom_some a.names n [] (.inl h);exact Option.isSome_iff_exists.mp q
theorem sY{P:Program}{K:PySem.W.Frag}
 (S:ar N ps d) (J:A.handled=none) (l:qo P w K mg base A outer s H) (T:vs.length=ps.length) (r:aD vs us)
 (x:InCallC s s.heap.objs.size (bindL (envOfC j d s.heap.objs.size f D).kindOf (ps.zip us) λ_=>none) (cellsFrom (s.heap.objs.size+1) d.names []) (bindC (envOfC j d s.heap.objs.size f D).kindOf (ps.zip us) λ_=>none) L):
 Inv (dS CX P w K mg base N j d f D A outer s H E) [] (eM N vs) H L:=by
 have M:ps.length<=N.length:=by have:=congrArg List.length S.pre;rw[Y6]at this;lia
 obtain⟨C,tk,rfl,G⟩:=x.done;have m:∀b:Addr,b∉(dS CX P w K mg base N j d f D A outer s H E).ex:=λb z=>absurd (show b∈([]:List Addr)from z) (by simp)
 refine⟨⟨l.mod,S.kind,rfl,rfl,Zh _,λy z c C g=>?_,λy o=>?_,λy c _ h=>?_,λ_=>J,Around.frames_deeper l.frames,.inr ⟨rfl,rfl⟩,λb z=>absurd z (m b),l.bs,l.bsz,λb _ _=>m b,λb z=>absurd z (m b),l.funs,l.frf⟩,
  rfl,l.bare,Un.kept G,⟨_,x.toInCall.ns,λi y v C g U=>?_⟩,λy c h=>⟨_,x.cell y c h⟩,l.hok.fresh (Zh _),λy c h=>?_,λp t=>absurd (show p∈([]:List (Addr×Obj))from t) (by simp),l.hok.kept G,?_⟩
 ·exact name_of_addr x.apart (PySem.mem_of_lookup C) (PySem.mem_of_lookup g)
 ·have o:d.names.lookup y=some .cell\/d.names.lookup y=some .free:=o;rcases o with o|o
  ·exact oP o
  ·exact absurd rfl (S.nofree _ (PySem.mem_of_lookup o))
 ·exact le_of_lt (x.above y c (PySem.mem_of_lookup h))
 ·have hi:i<vs.length:=by
   unfold eM at g;by_cases hi:i<vs.length
   ·exact hi
   ·rw[List.getElem?_append_right (by simpa using hi)]at g;rw[List.getElem?_replicate]at g
    split at g<;> cases g
  have O:vs[i]? =some v:=by
   unfold eM at g;rw[Zz (by simpa using hi),Zk]at g;cases e:vs[i]? with
   | none=>rw[e]at g;cases g
   | some a=>rw[e]at g;cases g;rfl
  obtain⟨u,I,Q⟩:=r.get O;have t:ps[i]? =some y:=by
   rw[<-S.pre,List.getElem?_take_of_lt (by lia)];exact C
  have B:ps.Nodup:=by rw[<-S.pre];exact S.nd.sublist (List.take_sublist _ _)
  refine⟨u,Q,?_⟩;rcases S.par y (Z7 t)with k|k
  ·exact .inl ⟨k,mh B t I k⟩
  ·obtain⟨c,e⟩:=oP (n:=s.heap.objs.size+1) k;refine .inr ⟨.inl k,c,e,?_⟩;have q:=x.cell y c e;rw[mi B t I (by show d.names.lookup y≠_;rw[k];decide)]at q;exact q
 ·exact l.hok.fresh (le_of_lt (x.above y c (PySem.mem_of_lookup h)))
 ·unfold eM;show _=N.length;rw[Z8,Z5,length_replicate]
  lia
theorem yW{P:Program}{K:PySem.W.Frag}{T kV z U d ct oc:Value}
 (lk:K.lookup f=some ⟨oc,od,.func (fnOf name c g i a T kV z U an d ct),ab⟩) (G:codeIn K d c=true) (S:ar N ps a)
 (len:∀vs H Q E,sp vs H Q E->vs.length=ps.length)
 (l:∀(A:Around) (outer:List Env) (s:Shared) (H:Hp) (vs:List V) (Q:VK) (E:XK),bN k (A.deeper (envOfC c a s.heap.objs.size f d))->sp vs H Q E->
  ∃t,PSs (dS CX P w K mg base N c a f d A outer s H E) i t/\t {nx:=λ_ j=>Q .non j,rt:=Q} (eM N vs) H):
 eB P w K mg base CX (k+1) f (fnOf name c g i a T kV z U an d ct) ps sp:=by
 refine⟨len,λA outer s H args us vs Q E L B hb r C=>?_⟩;have hl:=len _ _ _ _ C;have Y:K.In s.heap:=B.mod.kin.keeps λb o e=>(B.bs b o e).1
 have M:s.heap.NoLimit:=B.mod.nolimit.keeps λb o e=>(B.bs b o e).1
 have m:∀y∈ps.zip us,a.names.lookup y.1=some .local\/(a.names.lookup y.1=some .cell/\((cellsFrom (s.heap.objs.size+1) a.names []).lookup y.1).isSome=true):=λ⟨n,v⟩ hy=>by
  rcases S.par n (of_mem_zip hy).1 with q|q
  ·exact .inl q
  ·exact .inr ⟨q,cellsFrom_some _ _ _ (.inl q)⟩
 refine codeAny_call_function L.depth (Y _ _ lk) rfl S.co S.gen rfl (PySem.W.codeRec_of Y G) (hb _ _ _ _ ?_);refine wpAny_newFunctionEnv_cells S.kind m λenv he s1 x=>?_
 subst he;refine⟨M.keeps x.toInCall.keep,codeAny_func ?_⟩;obtain⟨t,ht,hq⟩:=l A outer s H vs Q E (L.deeper _) C;have I:Inv (dS CX P w K mg base N c a f d A outer s H E) [] (eM N vs) H s1:=sY S L.hd B hl r x;refine wpAny_mono (ht [] s1 (eM N vs) H _ I hq) (λfl s' p=>?_) λe s' p=>p
 have D:∀{h:St} {j:Hp} {v:V} {u:Value},Inv (dS CX P w K mg base N c a f d A outer s H E) [] h j s'->aG v u->Q v j->CE outer P w H s Q u s':=
  λ{h j v u} J O q=>⟨v,j,J.os,J.bare,J.base,J.hok,O,q⟩
 cases fl with
 | ret u=>
   obtain⟨v,h,j,J,O,q⟩:=p;exact D J O q
 | next=>
   obtain⟨h,j,J,q⟩:=p;exact D (v:=V.non) (u:=Value.none) J rfl q
 | brk=>
   obtain⟨_,_,_,q⟩:=p;exact False.elim q
 | cont=>
   obtain⟨_,_,_,q⟩:=p;exact False.elim q
section
variable{X:Cx}{x:Str}{p pos:Pos}{e:Expr}{es:List Expr}{t:TA}{id T:String}{r:List V->Hp->VK->Prop}
def tCB(r:List V->Hp->VK->Prop)(t:TA):TE:=λa H Q=>t a H λvs b=>r vs b Q
theorem vE(d:cn X (.builtin id) r)(f:Gl X x)(g:X.mg x=none)(i:bootBuiltins x=some (.builtin id))(j:PA X (e::es) t)(k:x≠"__name__")(a:(x==("__debug__":Str))=false)
 (l:starEach (e::es) X.env=(false,eval e X.env)::starEach es X.env) (b:(backTo pos (starEach es X.env)).any (·.1)=false):PE X (.Call (.Name x p) (e::es) [] pos) (tCB r t):=by
 intro pins s c H Q I h;refine wpAny_Call_Name_kw (ik I f g i ?_ k a);exact PyProof.Rows.callWith_builtin1 (thn (j pos pins s c H _ I h) λus m ⟨vs,n,o,q,u⟩=>d pins m c n vs us Q o q u) l b
theorem sZ(d:cn X (.type T) r)(f:Gl X x)(g:X.mg x=none)(i:bootBuiltins x=some (.type T))(j:PA X (e::es) t)(k:x≠"__name__")(a:(x==("__debug__":Str))=false)
 (l:starEach (e::es) X.env=(false,eval e X.env)::starEach es X.env) (b:(backTo pos (starEach es X.env)).any (·.1)=false):PE X (.Call (.Name x p) (e::es) [] pos) (tCB r t):=by
 intro pins s c H Q I h;refine wpAny_Call_Name_kw (ik I f g i ?_ k a);exact PyProof.Rows.callWith_type1 (thn (j pos pins s c H _ I h) λus m ⟨vs,n,o,q,u⟩=>d pins m c n vs us Q o q u) l b
end
end L2
namespace HT
open PySem PyProof.Rows
section
open PySem.SeqAt
open PySem.AutoSeq1 (wpAny_loadPart')
open PySem.MeetsSeq PySem.MeetsSeq2 PySem.MeetsSeq3
end
section
variable{prog:Program}{w:World}{A:Around}{E:Value->Shared->Prop}{s:Shared}
noncomputable def sIx(n d:Nat):Option Int->Nat
 | none=>d
 | some v=>if v<0 then(v+(n:Int)).toNat else min v.toNat n
theorem sIx_none(n d:Nat):sIx n d none=d:=rfl
theorem sIx_nat(n d k:Nat):sIx n d (some (k:Int))=min k n:=by
 show(if(k:Int)<0 then((k:Int) +(n:Int)).toNat else min (k:Int).toNat n)=min k n;rw[if_neg (by lia),Int.toNat_natCast]
theorem z5(n d:Nat)(b:d<=n)(o:Option Int):sIx n d o<=n:=by
 cases o with
 | none=>exact b
 | some v=>
   show(if v<0 then(v+(n:Int)).toNat else min v.toNat n)<=n;by_cases a:v<0
   ·rw[if_pos a];lia
   ·rw[if_neg a];exact Nat.min_le_right _ _
theorem rK(v:Int)(n d:Nat):(if v<0 then max (v+(n:Int)) 0 else min v (n:Int))=((sIx n d (some v):Nat):Int):=by
 show(if v<0 then max (v+(n:Int)) 0 else min v (n:Int))=(((if v<0 then(v+(n:Int)).toNat else min v.toNat n):Nat):Int)
 by_cases a:v<0
 ·simp only[if_pos a];lia
 ·simp only[if_neg a];lia
theorem qp(lo hi:Option Int)(n:Nat):Builtin.Slice.sliceAdjust lo hi 1 (n:Int)=(((sIx n 0 lo:Nat):Int),((sIx n n hi:Nat):Int)):=by
 have a: ¬ ((1:Int)<0):=by lia
 unfold Builtin.Slice.sliceAdjust;simp only[a,if_false];refine Prod.ext ?_ ?_
 ·cases lo with
  | none=>rfl
  | some v=>exact rK v n 0
 ·cases hi with
  | none=>rfl
  | some v=>exact rK v n n
theorem qq(i j:Nat):Builtin.Slice.slicePlaces (i:Int) (j:Int) 1=j-i:=by
 unfold Builtin.Slice.slicePlaces;have a:(1:Int)>0:=by lia
 simp only[a,if_true,Int.ediv_one]
 split<;> lia
theorem kH(p:IsPart v o)(h:Q o s):wpAny (model prog w) A (Builtin.Slice.slicePartIndex v) Q E s:=by
 cases p with
 | none=>exact slicePart_none h
 | int i t=>exact slicePart_int h
theorem ji{lo hi:Option Int}{n:Nat}(e:s.heap.IsSliceOf f c d .none)(pl:IsPart c lo)(g:IsPart d hi)
 (h:Q (((sIx n 0 lo:Nat):Int),1,sIx n n hi-sIx n 0 lo) s):wpAny (model prog w) A (Builtin.Slice.sliceApplied (.ref f) (pure (n:Int))) Q E s:=by
 obtain⟨os,a,i,b⟩:=id e;unfold Builtin.Slice.sliceApplied Builtin.Slice.sliceFields;refine Z2 (Z2 (wpAny_field a b (x:=c) rfl (Z2 (wpAny_field a b (x:=d) rfl (Z2 (wpAny_field a b (x:= .none) rfl (Z3 ?_)))))));refine Z2 (slicePart_none ?_);show wpAny _ _ (if((1:Int)==0)=true then _ else _) _ _ s;rw[if_neg (by decide)];refine Z2 (kH pl (Z2 (kH g (Z2 (Z3 ?_)))));show wpAny _ _ (match Builtin.Slice.sliceAdjust lo hi 1 (n:Int)with|(lo,hi)=>pure (lo,(1:Int),Builtin.Slice.slicePlaces lo hi 1)) _ _ s;rw[qp lo hi n];show wpAny _ _ (pure (((sIx n 0 lo:Nat):Int),(1:Int),Builtin.Slice.slicePlaces ((sIx n 0 lo:Nat):Int) ((sIx n n hi:Nat):Int) 1)) _ _ s;rw[qq];exact Z3 h
theorem vF(xs:Array Value)(i k:Nat):((List.range k).filterMap λ(m:Nat)=>xs[((i:Int) +(m:Int)*1).toNat]?).toArray=((xs.toList.drop i).take k).toArray:=by
 have e:(λ(m:Nat)=>xs[((i:Int) +(m:Int)*1).toNat]?)=λm=>xs[i+m]? :=by
  funext m;have:((i:Int) +(m:Int)*1).toNat=i+m:=by lia
  rw[this]
 rw[e];have:=pick_run xs i k;rw[List.filterMap_map]at this;have a:((λx=>xs[x]?) ∘ λx=>i+x)=λm=>xs[i+m]? :=rfl
 rw[a]at this;rw[this]
theorem getItem_tuple_cut{lo hi:Option Int}(c:IsTup s.heap t a)(i:s.heap.IsSliceOf j k l .none)(pl:IsPart k lo)(n:IsPart l hi)
 (hw: ¬ (sIx a.size 0 lo=0/\sIx a.size a.size hi=a.size))
 (h:Q (.ref s.heap.objs.size) {s with heap:=s.heap.push {cls:= .type "tuple",data:= .seq ((a.toList.drop (sIx a.size 0 lo)).take (sIx a.size a.size hi-sIx a.size 0 lo)).toArray}})
 (hsz:a.size<=sizeLine):wpAny (model prog w) A (getItem (.ref t) (.ref j)) Q E s:=by
 have b:sizeOk (.seq ((a.toList.drop (sIx a.size 0 lo)).take (sIx a.size a.size hi-sIx a.size 0 lo)).toArray):=by
  show((a.toList.drop (sIx a.size 0 lo)).take (sIx a.size a.size hi-sIx a.size 0 lo)).toArray.size<=sizeLine;rw[Zo,Y6,Y3,Za]
  lia
 have p:sIx a.size a.size hi<=a.size:=z5 _ _ (Zh _) hi;obtain⟨os,d,e,o⟩:=id i;have f:s.TypeIs (.ref j) "slice":=⟨os,d,e⟩
 unfold getItem
 try with_reducible refine wpAny_holding ?_
 first|refine Z2 (Z3 ?_)|skip
 refine Z2 (wpAny_sequenceKey c.typeIs (by decide) ?_);refine Z2 (wpAny_callSpecial?_slot (name:=Str.ofString "__getitem__") c.typeIs PyProof.Rows.slot_tuple_getitem
  (wpAny_call_entry PyProof.Rows.slot_tuple_getitem c.typeIs entry_tuple_getitem ?_ (args_tuple_getitem _ _)))
 show wpAny _ _ (Builtin.Tuple.tupleItemsOf (.ref t)>>= _) _ _ s;refine Z2 (tupleItemsOf_ c ?_);refine Z2 (wpAny_typeOf f ?_);rw[if_pos (by decide)];refine Z2 (ji i pl n ?_);have g: ¬ ((((sIx a.size 0 lo:Nat):Int)==0&&(1:Int)==1&&(sIx a.size a.size hi-sIx a.size 0 lo)==a.size)=true):=by
  intro q;rw[Zu,Zu]at q;have r:((sIx a.size 0 lo:Nat):Int)=0:=eq_of_beq q.1.1;have u:sIx a.size a.size hi-sIx a.size 0 lo=a.size:=eq_of_beq q.2;exact hw ⟨by lia,by lia⟩
 show wpAny _ _ (if(((sIx a.size 0 lo:Nat):Int)==0&&(1:Int)==1&&(sIx a.size a.size hi-sIx a.size 0 lo)==a.size)=true then _ else _) _ _ s;rw[if_neg g,vF]
 first
  | exact Z2 (m:=Builtin.Tuple.tupleExact _) (wpAny_newObj_type (Z3 ⟨_,rfl,Z3 h⟩) b)
  | exact Z2 (m:=Builtin.Tuple.tupleExact _) (wpAny_newObj_type (Z2 (Z3 (Z3 ⟨_,rfl,Z3 h⟩))) b)
  | exact Z2 (Z2 (m:=Builtin.Tuple.tupleExact _) (wpAny_newObj_type (Z3 (Z3 ⟨_,rfl,Z3 h⟩)) b))
  | exact Z2 (Z2 (m:=Builtin.Tuple.tupleExact _) (wpAny_newObj_type (Z3 ⟨_,rfl,Z3 h⟩) b))
end
end HT
namespace L2
open PySem PySem.Spec PyProof.Rows
noncomputable abbrev TO:=St->Hp->(Option Int->Hp->Prop)->Prop
def PO(X:Cx)(e:Option Expr)(t:TO):Prop:=
 ∀(pins:List (Addr×Obj)) (s:Shared) (a:St) (H:Hp) (Q:Option Int->Hp->Prop),Inv X pins a H s->t a H Q->
  wpAny (model X.prog X.w) X.A (evalPart e X.env) (λu s'=>∃o b,Inv X pins a b s'/\IsPart u o/\Q o b) X.xe s
def ni:TO:=λ_ H Q=>Q none H
def vG(t:TE):TO:=λa H Q=>t a H λx b=>asI x λi=>Q (some i) b
section
variable{X:Cx}{e:Expr}{te:TE}{lo hi:Option Expr}{tl th:TO}{pos p2:Pos}
theorem xO:PO X none ni:=by
 intro pins s a H Q I h;rw[evalPart_none];exact Z3 ⟨none,H,I,.none,h⟩
theorem xP(h:PE X e te):PO X (some e) (vG te):=by
 intro pins s a H Q I hw;rw[evalPart_some];refine thn (h pins s a H _ I hw) λu g ⟨x,b,c,d,f⟩=>?_
 obtain⟨i,rfl,q⟩:=fP f;obtain⟨t,rfl⟩:=d;exact⟨some i,b,c,.int i t,q⟩
def SlR(X:Cx)(r:V->Option Int->Option Int->Hp->VK->Prop):Prop:=
 ∀(pins:List (Addr×Obj)) (s:Shared) (a:St) (H:Hp) (x:V) (v b c:Value) (lo hi:Option Int) (d:Addr) (Q:VK),Inv X pins a H s->aG x v->s.heap.IsSliceOf d b c .none->IsPart b lo->IsPart c hi->r x lo hi H Q->
  ∃T id,typeLookup (.type T) "__getitem__"=pure (some (.builtin id))/\s.TypeIs v T/\wpAny (model X.prog X.w) X.A (getItem v (.ref d)) (EP X pins a Q) X.xe s
theorem SlR.or(h:SlR X r)(h':SlR X j):SlR X (λx lo hi H Q=>r x lo hi H Q\/j x lo hi H Q):=by
 intro pins s a H x v b c lo hi d Q I f g pl i q;rcases q with q|q
 ·exact h pins s a H x v b c lo hi d Q I f g pl i q
 ·exact h' pins s a H x v b c lo hi d Q I f g pl i q
def tSl(r:V->Option Int->Option Int->Hp->VK->Prop)(te:TE)(tl th:TO):TE:=λa H Q=>te a H λx b=>tl a b λl c=>th a c λu d=>r x l u d Q
theorem vH(i:SlR X r)(j:PE X e te)(k:PO X lo tl)(m:PO X hi th):PE X (.Subscript e (.Slice lo hi none p2) pos) (tSl r te tl th):=by
 intro pins s c H Q I h;refine Subscript_ (thn (j pins s c H _ I h) λv n ⟨x,o,p,t,w⟩=>?_);refine wpAny_Slice (thn (k pins n c o _ p w) λd y ⟨l,z,A,pl,B⟩=>thn (m pins y c z _ A B) λf a ⟨u,g,C,D,E⟩=>?_);rw[evalPart_none];refine Z3 ?_;have G:Inv X pins c g {a with heap:=a.heap.push {cls:= .type "slice",data:= .fields #[d,f,.none]}}:=C.kept (t':=a.toks) λb N q=>Z6 _ q
 obtain⟨T,id,J,L,M⟩:=i pins {a with heap:=a.heap.push {cls:= .type "slice",data:= .fields #[d,f,.none]}} c g x v d f l u a.heap.objs.size Q G t (Heap.IsSliceOf.new ..) pl D E;show wpAny (model X.prog X.w) X.A (subscriptTail e (.Slice lo hi none p2) v (.ref a.heap.objs.size)) (EP X pins c Q) X.xe {a with heap:=a.heap.push {cls:= .type "slice",data:= .fields #[d,f,.none]}};exact tail_any (ops:=[.ref a.heap.objs.size,v]) L J M (by with_unfolding_all rfl)
noncomputable def hJ(xs:List V)(lo hi:Option Int):List V:=(xs.drop (HT.sIx xs.length 0 lo)).take (HT.sIx xs.length xs.length hi-HT.sIx xs.length 0 lo)
theorem fT(xs:List V)(lo hi:Option Int):(hJ xs lo hi).length<=xs.length:=by
 unfold hJ;rw[Y6,Y3]
 lia
def z6(K:PySem.W.Frag):V->Option Int->Option Int->Hp->VK->Prop:=λx lo hi H Q=>∃a xs,x= .ref a/\SqT K H a xs/\
 ¬ (HT.sIx xs.length 0 lo=0/\HT.sIx xs.length xs.length hi=xs.length)/\∀p,H p=none->Q (.ref p) (upd H p (.tup (hJ xs lo hi)))
theorem z7:SlR X (z6 X.K):=by
 intro pins s l H x v m n lo hi p Q I g i pl j h;obtain⟨a,xs,rfl,k,hw,q⟩:=h;cases g;obtain⟨its,r,d,f⟩:=I.tuple k;have c:its.toArray.size=xs.length:=by rw[Zo];exact r.length.symm
 refine⟨"tuple",_,PyProof.Rows.slot_tuple_getitem.lookup,d.typeIs,?_⟩;refine HT.getItem_tuple_cut d i pl j (by rw[c];exact hw) ?_ (by rw[c];exact f);rw[c];refine⟨.ref s.heap.objs.size,_,I.laid (t':=s.toks) (o:= .tup (hJ xs lo hi)) (λb t q=>Z6 _ q) (Zh _) ?_,rfl,q _ (I.hok.fresh (Zh _))⟩;exact⟨Y2 (fT xs lo hi) f,_,(r.drop (HT.sIx xs.length 0 lo)).take (HT.sIx xs.length xs.length hi-HT.sIx xs.length 0 lo),IsTup.new _ _⟩
end
noncomputable def ixN(n:Nat)(i:Int):Option Nat:=if 0<=i then(if i<n then some i.toNat else none)else if -(n:Int)<=i then some (i+n).toNat else none
noncomputable def atI{a:Type}(xs:List a)(i:Int):Option a:=(ixN xs.length i).bind λj=>xs[j]?
theorem rL(h:ixN n i=some j):seqIndex? i n=some j/\j<n/\ -(n:Int)<=i/\i<n:=by
 unfold ixN at h;by_cases b:0<=i
 ·rw[if_pos b]at h;by_cases a:i<n
  ·rw[if_pos a]at h;have e:i.toNat=j:=Z9 h;exact⟨by rw[seqIndex_of b a,e],by lia,by lia,a⟩
  ·rw[if_neg a]at h;cases h
 ·rw[if_neg b]at h;by_cases a: -(n:Int)<=i
  ·rw[if_pos a]at h;have e:(i+n).toNat=j:=Z9 h;exact⟨by rw[seqIndex_neg (by lia) a,e],by lia,a,by lia⟩
  ·rw[if_neg a]at h;cases h
theorem np{a:Type}{xs:List a}{i:Int}{v:a}(h:atI xs i=some v):∃j,seqIndex? i xs.length=some j/\xs[j]? =some v/\j<xs.length/\ -(xs.length:Int)<=i/\i<xs.length:=by
 unfold atI at h;cases e:ixN xs.length i with
 | none=>rw[e]at h;cases h
 | some j=>
   rw[e]at h;obtain⟨b,c,d,f⟩:=rL e;exact⟨j,b,h,c,d,f⟩
theorem bV{a:Type}{xs:List a}{j:Nat}{v:a}(h:xs[j]? =some v):atI xs (j:Int)=some v:=by
 have b:j<xs.length:=(Ys h).1;have e:ixN xs.length (j:Int)=some j:=by
  unfold ixN;rw[if_pos (by lia),if_pos (by lia)];simp
 unfold atI;rw[e];exact h
def ki(b:Expr):Prop:=∀o i,subscripted b false o i=operate [o,i] (getItem o i)
def IxR(X:Cx)(r:R2):Prop:=
 ∀(b a:Expr) (pins:List (Addr×Obj)) (s:Shared) (c:St) (H:Hp) (x y:V) (v u:Value) (Q:VK),Inv X pins c H s->aG x v->aG y u->r x y H Q->
  subscripted a false v u=operate [v,u] (getItem v u)->wpAny (model X.prog X.w) X.A (subscriptTail b a v u) (EP X pins c Q) X.xe s
def MtR(X:Cx)(id:String)(r:V->List V->Hp->VK->Prop):Prop:=
 ∀(pins:List (Addr×Obj)) (s:Shared) (a:St) (H:Hp) (x:V) (xs:List V) (v:Value) (us:List Value) (Q:VK),Inv X pins a H s->aG x v->aD xs us->r x xs H Q->
  wpAny (model X.prog X.w) X.A (call (.builtin id) (v::us)) (EP X pins a Q) X.xe s
section
variable{X:Cx}{a b:Expr}{ta tb:TE}{pos:Pos}
theorem vI(c:IxR X r)(d:PE X a ta)(e:PE X b tb)(f:ki b):PE X (.Subscript a b pos) (tOp r ta tb):=by
 intro pins s g H Q I h;exact Subscript_ (zO d e I h λv u i x y j k l m q=>c a b pins i g j x y v u Q k l m q (f _ _))
def z8(K:PySem.W.Frag):R2:=λx y H Q=>asR x λp=>asI y λi=>∃xs,SqL K H p xs/\∃v,atI xs i=some v/\Q v H
def z9(K:PySem.W.Frag):R2:=λx y H Q=>asR x λp=>asI y λi=>∃xs,SqT K H p xs/\∃v,atI xs i=some v/\Q v H
def Aa:R2:=λx y H Q=>∃z i c,x= .str z/\y= .int i/\z.length<=sizeLine/\atI z.cps.toList i=some c/\Q (.str ⟨#[c]⟩) H
theorem xQ:IxR X (z8 X.K):=by
 intro e f pins s m H x y v u Q I B C h n;obtain⟨p,rfl,g⟩:=oM h;obtain⟨i,rfl,xs,D,z,E,q⟩:=fP g;cases B;obtain⟨t,rfl⟩:=C;obtain⟨its,r,pl,M⟩:=I.list D;obtain⟨j,d,g,N,G,J⟩:=np E;obtain⟨w,o,k⟩:=r.get g;have L:=r.length;have O:=je;have c:EP X pins m Q w s:=⟨z,H,I,k,q⟩
 by_cases A:0<=i
 ·have l:i.toNat=j:=by
   rw[seqIndex_of A J]at d;exact Z9 d
  exact item_listR pl.isList A (by lia) (by rw[l];simpa using o) c n
 ·have l:(i+(its.toArray.size:Int)).toNat=j:=by
   rw[seqIndex_neg (by lia) G]at d;rw[Zo,<-L];exact Z9 d
  exact subscriptTail_builtinR (x:=w) pl.isList.typeIs slot_list_getitem.lookup
   (wpAny_getItem_list_neg (Q:=λr s'=>r=w/\EP X pins m Q r s') pl.isList (by lia) (by rw[Zo]<;> lia) (by lia) (by rw[l];simpa using o) ⟨rfl,c⟩) n
theorem Ab:IxR X (z9 X.K):=by
 intro c d pins s k H x y v u Q I l m h n;obtain⟨p,rfl,e⟩:=oM h;obtain⟨i,rfl,xs,o,z,A,q⟩:=fP e;cases l;obtain⟨t,rfl⟩:=m;obtain⟨its,r,pl,E⟩:=I.tuple o;obtain⟨j,B,e,G,J,L⟩:=np A;obtain⟨w,C,f⟩:=r.get e;have D:=r.length;have M:=je;have g:EP X pins k Q w s:=⟨z,H,I,f,q⟩
 exact subscriptTail_builtinR (x:=w) pl.typeIs slot_tuple_getitem.lookup
  (getItem_tuple (j:=j) (Q:=λr s'=>r=w/\EP X pins k Q r s') pl (by lia) (by lia) (by rw[Zo,<-D];exact B) (by simpa using C) ⟨rfl,g⟩) n
theorem Ac:IxR X Aa:=by
 intro d e pins s B H x y v u Q I g k h l;obtain⟨z,i,c,rfl,rfl,C,m,q⟩:=h;obtain⟨t,rfl⟩:=g;obtain⟨t',rfl⟩:=k;obtain⟨j,f,n,D,o,p⟩:=np m;have r:z.cps.toList.length=z.length:=by simp[Str.length]
 rw[r]at f o p;have E:=je;exact tail_any (typeIs_str s z t) slot_str_getitem.lookup (getItem_str (c:=c) (by
  have w:decide (i< -(2^63:Int))=false:=Zg (by lia);have A:decide (i>=2^63)=false:=Zg (by lia);rw[w,A,Bool.or_false]) (by rw[f];simpa using n) ⟨.str ⟨#[c]⟩,H,I.tok _,⟨_,rfl⟩,q⟩) l
theorem qr(its:List Value)(n j:Nat)(u:Value):Obj.mapSeq (·.setIfInBounds j u) {cls:= .type "list",data:= .seq its.toArray n}={cls:= .type "list",data:= .seq (its.set j u).toArray n}:=by
 simp[Obj.mapSeq]
theorem Inv.lst{pins:List (Addr×Obj)}{c:St}{H:Hp}{s:Shared}{p:Addr}{xs:List V}(I:Inv X pins c H s)(h:H p=some (.lst xs)):
 ∃(its:List Value) (n:Nat),aD xs its/\s.heap.get? p=some {cls:= .type "list",data:= .seq its.toArray n}/\xs.length<=sizeLine:=by
 obtain⟨z,its,n,r,e⟩:=I.hok p _ h;exact⟨its,n,r,e,z⟩
theorem Inv.lstUpd{its its':List Value}(I:Inv X pins g H s)(h:H p=some (.lst xs))
 (i:s.heap.get? p=some {cls:= .type "list",data:= .seq its.toArray n}) (c:f {cls:= .type "list",data:= .seq its.toArray n}={cls:= .type "list",data:= .seq its'.toArray d}) (r:aD ys its') (j:ys.length<=sizeLine) (t:Nat):
 Inv X pins g (upd H p (.lst ys)) {s with heap:=s.heap.update p f,toks:=t}:=by
 have e:(s.heap.update p f).get? p=some {cls:= .type "list",data:= .seq its'.toArray d}:=by
  rw[get?_update_self f i (by rw[c]<;> rfl),c]
 refine I.write (x:=p) (e:=p) (by rw[h];trivial) (.inl rfl) (λb u k q=>(get?_update_other _ _ (Ne.symm k)).trans q) ⟨_,e⟩ ?_;exact⟨j,its',d,r,e⟩
noncomputable def rM:V->V->V->Hp->(Hp->Prop)->Prop:=λo i v H Q=>∃p xs k j,o= .ref p/\i= .int k/\H p=some (.lst xs)/\ixN xs.length k=some j/\Q (upd H p (.lst (xs.set j v)))
theorem vJ:zH X rM:=by
 intro pins s y H o i v E G u Q I z A B h;obtain⟨p,xs,k,j,rfl,rfl,g,C,q⟩:=h;cases z;obtain⟨t,rfl⟩:=A;obtain⟨its,n,r,d,D⟩:=I.lst g;obtain⟨c,J,l,m⟩:=rL C;have e:=r.length;have L:=je;have w:Inv X pins y (upd H p (.lst (xs.set j v))) {s with heap:=s.heap.update p (Obj.mapSeq (·.setIfInBounds j u))}:=
  I.lstUpd g d (qr its n j u) (r.set B j) (by rw[List.length_set];exact D) s.toks
 by_cases x:0<=k
 ·have f:k.toNat=j:=by
   rw[seqIndex_of x m]at c;exact Z9 c
  exact PySem.W.ki_setAt d x (by lia) (by rw[Zo,<-e];exact m) (by rw[f];exact⟨_,w,q⟩)
 ·have f:(k+(its.toArray.size:Int)).toNat=j:=by
   rw[seqIndex_neg (by lia) l]at c;rw[Zo,<-e];exact Z9 c
  exact PySem.W.ki_setBack d (by lia) (by rw[Zo,<-e];exact l) (by lia) (by rw[f];exact⟨_,w,q⟩)
theorem nr(lo hi:Option Int)(n:Nat):(sliceBounds lo hi none n).1=((HT.sIx n 0 lo:Nat):Int)/\(sliceBounds lo hi none n).2.1=((HT.sIx n n hi:Nat):Int)/\(sliceBounds lo hi none n).2.2=1:=by
 refine⟨?_,?_,rfl⟩
 ·cases lo with
  | none=>simp[sliceBounds,HT.sIx]
  | some i=>
    simp only[sliceBounds,HT.sIx,getD_none,show(1:Int)>0 by decide,if_true];by_cases h:i<0
    ·simp only[h,if_true]<;> lia
    ·simp only[h,if_false]<;> lia
 ·cases hi with
  | none=>simp[sliceBounds,HT.sIx]
  | some i=>
    simp only[sliceBounds,HT.sIx,getD_none,show(1:Int)>0 by decide,if_true];by_cases h:i<0
    ·simp only[h,if_true]<;> lia
    ·simp only[h,if_false]<;> lia
theorem lJ(its:List Value)(lo hi:Option Int):slicePick its.toArray lo hi none=((its.drop (HT.sIx its.length 0 lo)).take (HT.sIx its.length its.length hi-HT.sIx its.length 0 lo)).toArray:=by
 obtain⟨c,d,e⟩:=nr lo hi its.toArray.size;unfold slicePick;rw[c,d,e];simp only[sliceRange_one,pick_run,Zo]<;> rfl
def Ad(K:PySem.W.Frag):V->Option Int->Option Int->Hp->VK->Prop:=λx lo hi H Q=>∃a xs,x= .ref a/\SqL K H a xs/\∀p,H p=none->Q (.ref p) (upd H p (.lst (hJ xs lo hi)))
theorem xR:SlR X (Ad X.K):=by
 intro pins s k H x v l m lo hi n Q I e f pl g h;obtain⟨a,xs,rfl,i,q⟩:=h;cases e;obtain⟨its,r,d,j⟩:=I.list i;have c:=r.length;refine⟨"list",_,slot_list_getitem.lookup,d.isList.typeIs,?_⟩;refine wpAny_getItem_list_slice d.isList f pl g .none (by simp) ?_ (by rw[Zo]<;> lia);rw[lJ,<-c];refine⟨.ref s.heap.objs.size,_,I.laid (t':=s.toks) (o:= .lst (hJ xs lo hi)) (λb p q=>Z6 _ q) (Zh _) ?_,rfl,q _ (I.hok.fresh (Zh _))⟩;exact⟨Y2 (fT xs lo hi) j,_,0,(r.drop (HT.sIx xs.length 0 lo)).take (HT.sIx xs.length xs.length hi-HT.sIx xs.length 0 lo),Zi _ rfl⟩
noncomputable def eN:V->Bool
 | .non=>true
 | .bl _=>true
 | .int _=>true
 | .str _=>true
 | _=>false
noncomputable def eqV:V->V->Bool
 | .non,.non=>true
 | .bl a,.bl b=>a==b
 | .bl a,.int b=>(if a then 1 else 0)==b
 | .int a,.bl b=>a==(if b then 1 else 0)
 | .int a,.int b=>a==b
 | .str a,.str b=>a==b
 | _,_=>false
theorem Ae(d:aG y u)(c:aG x v)(f:eN y=true)(e:eN x=true):SeqAt.EqAt A s u v (eqV y x):=by
 cases y with
 | non=>
   cases d;cases x with
   | non=>cases c;exact SeqAt.EqAt.same _
   | bl b=>cases c;exact SeqAt.EqAt.none_bool b
   | int b=>obtain⟨t,rfl⟩:=c;exact SeqAt.EqAt.none_int b t
   | str b=>obtain⟨t,rfl⟩:=c;exact SeqAt.EqAt.none_str b t
   | _=>exact absurd (show false=true from e) Zs
 | bl a=>
   cases d;cases x with
   | non=>cases c;exact SeqAt.EqAt.bool_none a
   | bl b=>cases c;exact SeqAt.EqAt.bool_bool a b
   | int b=>obtain⟨t,rfl⟩:=c;exact SeqAt.EqAt.bool_int a b t
   | str b=>obtain⟨t,rfl⟩:=c;exact SeqAt.EqAt.bool_str a b t
   | _=>exact absurd (show false=true from e) Zs
 | int a=>
   obtain⟨t',rfl⟩:=d;cases x with
   | non=>cases c;exact SeqAt.EqAt.int_none a t'
   | bl b=>cases c;exact SeqAt.EqAt.int_bool a t' b
   | int b=>obtain⟨t,rfl⟩:=c;exact SeqAt.EqAt.int_int a t' b t
   | str b=>obtain⟨t,rfl⟩:=c;exact SeqAt.EqAt.int_str a t' b t
   | _=>exact absurd (show false=true from e) Zs
 | str a=>
   obtain⟨t',rfl⟩:=d;cases x with
   | non=>cases c;exact SeqAt.EqAt.str_none a t'
   | bl b=>cases c;exact SeqAt.EqAt.str_bool a t' b
   | int b=>obtain⟨t,rfl⟩:=c;exact SeqAt.EqAt.str_int a t' b t
   | str b=>obtain⟨t,rfl⟩:=c;exact SeqAt.EqAt.str_str a t' b t
   | _=>exact absurd (show false=true from e) Zs
 | _=>exact absurd (show false=true from f) Zs
noncomputable def eqU(x:V)(u:Value):Bool:=match u with
 | .none=>eqV .non x
 | .bool b=>eqV (.bl b) x
 | .int i _=>eqV (.int i) x
 | .str z _=>eqV (.str z) x
 | _=>false
theorem vK(r:aG y u)(f:eN y=true):eqU x u=eqV y x:=by
 cases y with
 | non=>cases r;rfl
 | bl b=>cases r;rfl
 | int i=>obtain⟨t,rfl⟩:=r;rfl
 | str z=>obtain⟨t,rfl⟩:=r;rfl
 | _=>exact absurd (show false=true from f) Zs
theorem iM:∀{xs:List V} {us:List Value},aD xs us->xs.all eN=true->us.any (eqU x)=xs.any λy=>eqV y x
 | _,_,.nil,_=>rfl
 | y::xs,u::us,.cons r t,f=>by
   rw[all_cons,Zu]at f;rw[Zv,Zv,vK r f.1,iM t f.2]
theorem fU(d:aG x v)(e:eN x=true):∀{xs:List V} {us:List Value},aD xs us->xs.all eN=true->∀u∈us,SeqAt.EqAt A s u v (eqU x u)
 | _,_,.nil,_=>λu c=>by cases c
 | y::xs,u::us,.cons r t,f=>λg c=>by
   rw[all_cons,Zu]at f;rcases mem_cons.mp c with rfl|c
   ·rw[vK r f.1];exact Ae r d f.1 e
   ·exact fU d e t f.2 g c
noncomputable def inV(x:V)(xs:List V):Bool:=xs.any λy=>eqV y x
def rIn(K:PySem.W.Frag)(c:Bool):R2:=λx y H Q=>∃p xs,y= .ref p/\(SqL K H p xs\/SqT K H p xs)/\eN x=true/\xs.all eN=true/\Q (.bl (if c then !inV x xs else inV x xs)) H
theorem tf:OpR X (compareOp .In) (rIn X.K false):=by
 intro pins s i H x y v u Q I d f h;obtain⟨p,xs,rfl,c,e,fs,q⟩:=h;cases f;rcases c with c|c
 ·obtain⟨its,r,pl,g⟩:=I.list c;refine SeqAt.in_listAt (eqU x) pl.isList (λw hw=>fU d e r fs w (by simpa using hw)) ⟨.bl _,H,I,rfl,?_⟩;rw[show its.toArray.any (eqU x)=its.any (eqU x) by simp,iM r fs];exact q
 ·obtain⟨its,r,pl,g⟩:=I.tuple c;refine SeqAt.in_tupleAt (eqU x) pl (λw hw=>fU d e r fs w (by simpa using hw)) ⟨.bl _,H,I,rfl,?_⟩;rw[show its.toArray.any (eqU x)=its.any (eqU x) by simp,iM r fs];exact q
theorem nt:OpR X (compareOp .NotIn) (rIn X.K true):=by
 intro pins s i H x y v u Q I d f h;obtain⟨p,xs,rfl,c,e,fs,q⟩:=h;cases f;rcases c with c|c
 ·obtain⟨its,r,pl,g⟩:=I.list c;refine SeqAt.notIn_listAt (eqU x) pl.isList (λw hw=>fU d e r fs w (by simpa using hw)) ⟨.bl _,H,I,rfl,?_⟩;rw[show its.toArray.any (eqU x)=its.any (eqU x) by simp,iM r fs];exact q
 ·obtain⟨its,r,pl,g⟩:=I.tuple c;refine SeqAt.notIn_tupleAt (eqU x) pl (λw hw=>fU d e r fs w (by simpa using hw)) ⟨.bl _,H,I,rfl,?_⟩;rw[show its.toArray.any (eqU x)=its.any (eqU x) by simp,iM r fs];exact q
theorem nu:OpR X (compareOp .NotIn) (λx y H Q=>∃i j,x= .str i/\y= .str j/\Q (.bl (!(!(Builtin.Str.occurrences j i 0 j.length 1).isEmpty))) H):=by
 intro pins s e H x y v u Q I c d h;obtain⟨i,j,rfl,rfl,q⟩:=h;obtain⟨t,rfl⟩:=c;obtain⟨t',rfl⟩:=d;exact notIn_str ⟨.bl _,H,I,rfl,q⟩
theorem nA:cn X (.type "list") (λxs H Q=>∃p ys,xs=[.ref p]/\(SqL X.K H p ys\/SqT X.K H p ys)/\∀l,H l=none->Q (.ref l) (upd H l (.lst ys))):=by
 intro pins s x H xs us Q I r h;obtain⟨p,ys,rfl,f,q⟩:=h;obtain⟨u,rfl,y⟩:=eL r;cases y;have g:∀(its:List Value),aD ys its->ys.length<=sizeLine->∀(h':Heap) (c:Nat),(∀b w,s.heap.get? b=some w->h'.get? b=some w)->
  h'.get? s.heap.objs.size=some {cls:= .type "list",dict:=none,data:= .seq its.toArray c,slots:= #[]}->EP X pins x Q (.ref s.heap.objs.size) {s with heap:=h'}:=λits d i h' c j e=>
  ⟨.ref s.heap.objs.size,_,I.laid (t':=s.toks) j (Zh _) (show bg X.prog X.w _ h' _ (.lst ys)from⟨i,its,c,d,e⟩),rfl,q _ (I.hok.fresh (Zh _))⟩
 rcases f with f|f
 ·obtain⟨its,d,pl,i⟩:=I.list f;have k:=d.length;obtain⟨o,m,t,n,v⟩:=pl.isList;exact call_list_seq p (.inl rfl) m t v (λh' c j e=>g its d i h' c j e) (by simp only[Zo]<;> lia)
 ·obtain⟨its,d,pl,i⟩:=I.tuple f;have k:=d.length;obtain⟨o,m,t,n,v⟩:=pl;exact call_list_seq p (.inr rfl) m t v (λh' c j e=>g its d i h' c j e) (by simp only[Zo]<;> lia)
def tyV(K:PySem.W.Frag)(T:String)(x:V)(H:Hp):Prop:=match x with
 | .str _=>T="str"
 | .int _=>T="int"
 | .ref p=>(T="list"/\∃xs,SqL K H p xs)\/(T="tuple"/\∃o,K.lookup p=some o/\o.cls= .type "tuple"/\o.dict=none)\/
  (T="dict"/\((∃c,H p=some (.dK c))\/∃c,H p=some (.dT c)))\/(T="set"/\∃S n,H p=some (.set S n))
 | _=>False
theorem Af(I:Inv X pins m H s)(r:aG x v)(ty:tyV X.K T x H):
 s.TypeIs v T/\∀a,v= .ref a->∃j,s.heap.get? a=some j/\j.dict=none:=by
 cases x with
 | str z=>
   obtain⟨t,rfl⟩:=r;cases(show T="str" from ty);exact⟨typeIs_str s z t,λ_ e=>nomatch e⟩
 | int i=>
   obtain⟨t,rfl⟩:=r;cases(show T="int" from ty);exact⟨typeIs_int s i t,λ_ e=>nomatch e⟩
 | ref p=>
   cases r;rcases ty with⟨rfl,xs,k⟩|⟨rfl,o,d,l,f⟩|⟨rfl,d⟩|⟨rfl,S,n,d⟩
   ·obtain⟨its,_,pl,_⟩:=I.list k;refine⟨pl.isList.typeIs,λa e=>?_⟩;cases e;obtain⟨o,n,e,c,f,_⟩:=pl;exact⟨o,e,f⟩
   ·refine⟨⟨o,I.kIn p o d,l⟩,λa e=>?_⟩;cases e;exact⟨o,I.kIn _ o d,f⟩
   ·have z:∃o,s.heap.get? p=some o/\o.ExactDict:=by
     rcases d with⟨g,d⟩|⟨g,d⟩
     ·obtain⟨_,_,_,_,o,_,_,e,ex,_⟩:=I.hok p _ d;exact⟨o,e,ex⟩
     ·obtain⟨_,_,_,_,o,_,_,e,ex,_⟩:=I.hok p _ d;exact⟨o,e,ex⟩
    obtain⟨o,e,ex⟩:=z;refine⟨⟨o,e,ex.1⟩,λa h=>?_⟩;cases h;exact⟨o,e,ex.2.1⟩
   ·obtain⟨o,_,_,_,e,ex,_⟩:=I.hok p _ d;refine⟨⟨o,e,ex.1⟩,λa h=>?_⟩;cases h;exact⟨o,e,ex.2.1⟩
 | _=>exact False.elim ty
def tBM(K:PySem.W.Frag)(T:String)(r:V->List V->Hp->VK->Prop)(e:TE)(t:TA):TE:=λc H Q=>e c H λx d=>tyV K T x d/\t c d λxs f=>r x xs f Q
variable{o e:Expr}{es:List Expr}{to:TE}{t:TA}{name:Str}{apos cpos:Pos}{T id:String}{r:V->List V->Hp->VK->Prop}
theorem Bk(n:PlainAttrs T)(slot:Slot T name id)(i:typeOf (.builtin id)=pure (.type "method_descriptor"))(p:MtR X id r)(q:PE X o to)(u:PA X (e::es) t)
 (d:attributeBase o name X.env (eval o X.env)=eval o X.env)
 (g:((backTo cpos (starEach (e::es) X.env)).all (λx=>!x.1)&&(backToKw cpos (keywordEach [] X.env)).all (λx=>x.1.isSome)
  && decide ((e::es).length+([]:List Keyword).length+(if([]:List Keyword).isEmpty then 0 else 1)<30))=true)
 (f:(apos.endLine==cpos.line)=true) (w:starEach (e::es) X.env=(false,eval e X.env)::starEach es X.env) (c:(backTo cpos (starEach es X.env)).any (·.1)=false):
 PE X (.Call (.Attribute o name apos) (e::es) [] cpos) (tBM X.K T r to t):=by
 intro pins s j H Q I h;refine wpAny_Call_method_late d g f rfl (thn (q pins s j H _ I h) λv y ⟨x,z,k,l,ty,A⟩=>?_);obtain⟨B,C⟩:=Af k l ty;refine⟨T,id,n,slot,i,B,C,?_⟩;have m:=u cpos pins y j z _ k A;rw[w]at m ⊢;refine Calls.callWith_builtin (by show(false||(backTo cpos (starEach es X.env)).any (·.1))=false;rw[c]<;> rfl) (Calls.evalArgs_plain ?_);exact thn m λus D ⟨vs,E,G,J,L⟩=>p pins D j E x vs v us Q G l J L
end
def MtM(X:Cx)(id:String)(r:V->List V->Hp->VK->Prop):Prop:=
 ∀(pins:List (Addr×Obj)) (s:Shared) (a:St) (H:Hp) (x:V) (xs:List V) (v:Value) (us:List Value) (Q:VK),Inv X pins a H s->aG x v->aD xs us->r x xs H Q->
  wpAny (model X.prog X.w) X.A (call (.builtin id) (v::us)) (EP X pins a Q) X.xe s
theorem aD.one:∀{x:V} {us:List Value},aD [x] us->∃u,us=[u]/\aG x u
 | _,_,.cons r .nil=>⟨_,rfl,r⟩
theorem aD.rep(h:aD xs us):∀k:Nat,aD (List.replicate k xs).flatten (List.replicate k us).flatten
 | 0=> .nil
 | k+1=>by
   rw[replicate_succ,replicate_succ,flatten_cons,flatten_cons];exact aD.append h (aD.rep h k)
theorem mj(its:List Value):∀(k:Nat) (acc:List Value),
 List.foldl (λa x2=>a++x2) acc.toArray (List.replicate k its.toArray)=(acc++(List.replicate k its).flatten).toArray
 | 0,acc=>by simp
 | k+1,acc=>by
   have e:acc.toArray++its.toArray=(acc++its).toArray:=by simp
   have b:(acc++its) ++(List.replicate k its).flatten=acc++(List.replicate (k+1) its).flatten:=by
    rw[replicate_succ,flatten_cons,Zd]
   rw[<-b,<-mj its k (acc++its),<-e,replicate_succ,foldl_cons]
section
variable{X:Cx}{pins:List (Addr×Obj)}{σ:St}{H:Hp}{s:Shared}{l b:Addr}{xs ys zs:List V}
theorem Inv.lset{its its':List Value}{n:Nat}{f:Array Value->Array Value}{t':Nat}(I:Inv X pins σ H s)(a:H l=some (.lst xs))
 (e:s.heap.get? l=some {cls:= .type "list",data:= .seq its.toArray n}) (c:f its.toArray=its'.toArray) (d:aD ys its') (g:ys.length<=sizeLine):
 Inv X pins σ (upd H l (.lst ys)) {s with heap:=s.heap.update l (Obj.mapSeq f),toks:=t'}:=by
 have q:=PySem.IsL.update e f;rw[c]at q;refine I.write (x:=l) (e:=l) (by rw[a];exact trivial) (.inl rfl) (λj u h i=>(get?_update_other s.heap (Obj.mapSeq f) (Ne.symm h)).trans i) ⟨_,q⟩ ?_;exact⟨g,its',_,d,q⟩
theorem Inv.lnew(I:Inv X pins σ H s)(a:aD ys its)(c:ys.length<=sizeLine):
 Inv X pins σ (upd H s.heap.objs.size (.lst ys)) {s with heap:=s.heap.push {cls:= .type "list",data:= .seq its.toArray},toks:=t'}:=
 I.laid (λ_ _ q=>Z6 _ q) (Zh _) ⟨c,its,0,a,Zi _ rfl⟩
theorem Inv.fresh(I:Inv X pins σ H s):H s.heap.objs.size=none:=I.hok.fresh (Zh _)
theorem Inv.lstM(I:Inv X pins σ H s)(a:H l=some (.lst xs)):xs.length<=sizeLine/\∃(its:List Value) (n:Nat),aD xs its/\xs.length=its.length/\s.heap.get? l=some {cls:= .type "list",data:= .seq its.toArray n}:=by
 obtain⟨z,its,n,r,e⟩:=I.hok l _ a;exact⟨z,its,n,r,r.length,e⟩
theorem oQ{n:Nat}(h:n<=sizeLine):Builtin.List.listTooLong n=false:=by
 unfold Builtin.List.listTooLong;exact Zg (by lia)
end
section
variable{X:Cx}
def nB:V->List V->Hp->VK->Prop:=λx vs H Q=>asR x λl=>∃y,vs=[y]/\∃xs,H l=some (.lst xs)/\xs.length<sizeLine/\Q .non (upd H l (.lst (xs++[y])))
theorem mn:MtM X "list.append" nB:=by
 intro pins s f H x vs v us Q I b c h;obtain⟨l,rfl,y,rfl,xs,a,g,q⟩:=oM h;cases b;obtain⟨u,rfl,d⟩:=c.one;obtain⟨z,its,n,r,i,e⟩:=I.lstM a;refine call_meets F.slot_list_append ⟨_,e,rfl⟩ F.entry_list_append (F.args_list_append_2 _ _) (PySem.list_append l its.toArray n u (by rw[Zo];lia)) ⟨e,?_⟩;refine⟨.non,_,I.lset (its':=its++[u]) a e (by simp) (r.append (.cons d .nil)) ?_,rfl,q⟩;rw[Z8,Y5]
 lia
def nC:V->List V->Hp->VK->Prop:=λx vs H Q=>∃l b xs zs,x= .ref l/\vs=[.ref b]/\H l=some (.lst xs)/\H b=some (.lst zs)/\xs.length+zs.length<=sizeLine/\Q .non (upd H l (.lst (xs++zs)))
theorem tj:MtM X "list.extend" nC:=by
 intro pins s p H x vs v us Q I d f h;obtain⟨l,b,xs,zs,rfl,rfl,c,g,t,q⟩:=h;cases d;obtain⟨u,rfl,i⟩:=f.one;cases i;obtain⟨z,its,n,r,w,e⟩:=I.lstM c;obtain⟨y,its2,j,k,m,o⟩:=I.lstM g;have hsz:its.toArray.size+its2.toArray.size<=sizeLine:=by rw[Zo,Zo];lia
 have a: ¬ (!its.toArray.isEmpty&&Builtin.List.listTooLong (its.toArray.size+its2.toArray.size))=true:=by
  rw[oQ hsz,Bool.and_false];exact Zs
 refine call_meets F.slot_list_extend ⟨_,e,rfl⟩ F.entry_list_extend (F.args_list_extend_2 _ _)
  (AutoSeq1.list_extend_list_list_0 l its.toArray n b its2.toArray j a (by rw[Zo];lia) (by lia)) ⟨e,o,?_⟩
 refine⟨.non,_,I.lset (its':=its++its2) c e (by simp) (r.append k) ?_,rfl,q⟩;rw[Z8]
 lia
def Ag:R2:=λx y H Q=>∃l b xs zs,x= .ref l/\y= .ref b/\H l=some (.lst xs)/\H b=some (.lst zs)/\xs.length+zs.length<=sizeLine/\∀p,H p=none->Q (.ref p) (upd H p (.lst (xs++zs)))
theorem Ah:OpR X (binaryOp .Add) Ag:=by
 intro pins s m H x y v u Q I a c h;obtain⟨l,b,xs,zs,rfl,rfl,d,f,o,q⟩:=h;cases a;cases c;obtain⟨z,its,n,r,p,e⟩:=I.lstM d;obtain⟨t,its2,w,g,i,j⟩:=I.lstM f;refine PySem.P.add_list e j ?_ (by rw[Zo,Zo];lia);have k:its.toArray++its2.toArray=(its++its2).toArray:=by simp
 rw[k];exact⟨.ref _,_,I.lnew (t':=s.toks) (r.append g) (by rw[Z8];lia),rfl,q _ I.fresh⟩
def Ai:R2:=λx y H Q=>∃l k xs,x= .ref l/\y= .int k/\H l=some (.lst xs)/\ -(2^63)<=k/\k<2^63/\xs.length*k.toNat<=sizeLine/\
 ∀p,H p=none->Q (.ref p) (upd H p (.lst (List.replicate k.toNat xs).flatten))
theorem xS(xs:List b)(k:Nat):(List.replicate k xs).flatten.length=k*xs.length:=by
 induction k with
 | zero=>simp
 | succ k a=>rw[replicate_succ,flatten_cons,Z8,a,Nat.succ_mul,add_comm]
theorem Aj:OpR X (binaryOp .Mult) Ai:=by
 intro pins s E H x y v u Q I o p h;obtain⟨l,k,xs,rfl,rfl,w,A,B,j,q⟩:=h;cases o;obtain⟨t,rfl⟩:=p;obtain⟨z,its,n,r,C,e⟩:=I.lstM w;have c:its.toArray.size*k.toNat<=sizeLine:=by rw[Zo,<-C];exact j
 have d: ¬ its.toArray.size*k.toNat>(2^63-1)/8:=by
  have:(sizeLine:Nat)<=(2^63-1)/8:=by decide
  lia
 have f: ¬ (!Builtin.List.listFitsIndex k)=true:=by
  rw[fitsIndex_both A B];exact Zs
 have b: ¬ Builtin.List.listTooLong (its.toArray.size*k.toNat)=true:=by
  rw[oQ c];exact Zs
 have g:List.foldl (λi x2=>i++x2) #[] (List.replicate (if its.toArray.isEmpty=true then 0 else k.toNat) its.toArray)=(List.replicate k.toNat its).flatten.toArray:=by
  have D:∀m:Nat,List.foldl (λi x2=>i++x2) #[] (List.replicate m its.toArray)=(List.replicate m its).flatten.toArray:=λm=>by
   have:=mj its m [];rw[List.nil_append]at this;exact this
  rw[D];cases its with
  | nil=>simp
  | cons a G=>rw[if_neg (by simp)]
 refine wpAny_binaryOp_repeat_ref (T:="list") (U:="int") (by decide) ⟨_,e,rfl⟩ (λs'=>typeIs_int s' k t) noFill_list_mul F.fills_int_mul F.slot_int_rmul repeat_list F.slot_int_index.lookup
  (call_meets F.slot_int_rmul (typeIs_int s k t) F.entry_int_rmul (F.args_int_rmul_2 _ _) (int___rmul___int_list k t l its.toArray n)
   ⟨e,rfl,⟨_,e,rfl⟩,call_meets F.slot_list_mul ⟨_,e,rfl⟩ F.entry_list_mul (F.args_list_mul_2 _ _) (AutoListH.list___mul___list_int_3 l its.toArray n k t f d b) ⟨e,?_⟩⟩)
 rw[g];exact⟨.ref _,_,I.lnew (t':=s.toks) (r.rep k.toNat) (by rw[xS,Nat.mul_comm];exact j),rfl,q _ I.fresh⟩
end
section
variable{prog:Program}{w:World}{A:Around}{E:Value->Shared->Prop}{s:Shared}
end
section
variable{X:Cx}
end
section
variable{κ:Type}[DecidableEq κ]
noncomputable def hV(a:List (κ×V))(k:κ):Option V:=(a.find? λb=>decide (b.1=k)).map (·.2)
noncomputable def hX(a:List (κ×V))(k:κ)(v:V):List (κ×V):=
 if(a.any λb=>decide (b.1=k))=true then a.map (λb=>if b.1=k then(b.1,v)else b)else a++[(k,v)]
theorem kI{p:κ×V}{r:List (κ×V)}{k:κ}(e:p.1=k):hV (p::r) k=some p.2:=by simp[hV,find?_cons,e]
theorem kJ{p:κ×V}{r:List (κ×V)}{k:κ}(e: ¬ p.1=k):hV (p::r) k=hV r k:=by simp[hV,find?_cons,e]
theorem fV(k:κ):∀a:List (κ×V),(a.any λb=>decide (b.1=k))=(hV a k).isSome
 |[]=>rfl
 | p::r=>by
   rw[Zv];by_cases e:p.1=k
   ·simp only[kI e,Ze e,Bool.true_or,Option.isSome_some]
   ·rw[kJ e,Zg e,Bool.false_or];exact fV k r
theorem jN(a:List (κ×V))(k:κ)(v:V):(hX a k v).length<=a.length+1:=by
 unfold hX
 split
 ·rw[Z5];lia
 ·rw[Z8,Zq,length_nil];lia
theorem vL{k:κ}(v:V)(h:hV a k=none):hX a k v=a++[(k,v)]:=by
 unfold hX;rw[fV,h];exact if_neg (by decide)
theorem gY.isSome_eq(r:gY o u):o.isSome=u.isSome:=by
 cases o with
 | none=>cases u with
   | none=>rfl
   | some _=>exact(show False from r).elim
 | some _=>cases u with
   | none=>exact(show False from r).elim
   | some _=>rfl
theorem KV.val{vs:List (κ×Value)}(r:KV a vs)(k:κ):gY (hV a k) (valueAt vs k):=by
 unfold KV at r
 induction r with
 | nil=>exact True.intro
 | @cons p q ps qs h t f=>
   obtain⟨d,g⟩:=h;by_cases e:p.1=k
   ·have c:q.1=k:=d.symm.trans e;have b:valueAt (q::qs) k=some q.2:=by simp[valueAt,find?_cons,c]
    rw[kI e,b];exact g
   ·have c: ¬ q.1=k:=λz=>e (d.trans z)
    have b:valueAt (q::qs) k=valueAt qs k:=by simp[valueAt,find?_cons,c]
    rw[kJ e,b];exact f
theorem KV.any(r:KV a vs)(k:κ):(a.any λb=>decide (b.1=k))=vs.any λb=>decide (b.1=k):=by
 unfold KV at r
 induction r with
 | nil=>rfl
 | cons h t c=>rw[Zv,Zv,c,h.1]
theorem KV.repl(r:KV c vs)(k:κ)(d:aG y u):
 KV (c.map λa=>if a.1=k then(a.1,y)else a) (vs.map λa=>if a.1=k then(a.1,u)else a):=by
 unfold KV at r ⊢
 induction r with
 | nil=>exact .nil
 | @cons p q ps qs h t f=>
   rw[Ya,Ya];refine .cons ?_ f;obtain⟨b,g⟩:=h;by_cases e:p.1=k
   ·rw[if_pos e,if_pos (b.symm.trans e)];exact⟨b,d⟩
   ·rw[if_neg e,if_neg (λz=>e (b.trans z))];exact⟨b,g⟩
theorem KV.put(r:KV a vs)(k:κ)(b:aG y u):KV (hX a k y) (stored vs k u):=by
 unfold hX stored;rw[r.any k];by_cases e:(vs.any λc=>decide (c.1=k))=true
 ·rw[if_pos e,if_pos e];exact r.repl k b
 ·rw[if_neg e,if_neg e];exact Paired.snoc r ⟨rfl,b⟩
theorem KV.length{a:List (κ×V)}{vs:List (κ×Value)}(r:KV a vs):a.length=vs.length:=Paired.length r
end
theorem rN{P:Program}(r:aG (kV k) u):(aS P w).is k u=true:=by
 cases k with
 | inl i=>obtain⟨t,e⟩:=(show∃t,u=Value.int i t from r);subst e;exact oJ P w i t
 | inr x=>obtain⟨t,e⟩:=(show∃t,u=Value.str x t from r);subst e;exact oK P w x t
theorem mo{P:Program}:∀{ks:List Key} {us:List Value},aD (ks.map kV) us->ItemsAre (aS P w) ks us
 |[],_,r=>by rw[map_nil]at r;cases r;exact .nil
 | k::ks,_,r=>by
   rw[Ya]at r;cases r with
   | cons h t=>exact .cons (rN h) (mo t)
noncomputable abbrev KT(H:Hp):List (List Key×V)->List (List Key×Addr×Value)->Prop:=Paired λp q=>p.1=q.1/\H q.2.1=some (.tup (p.1.map kV))/\aG p.2 q.2.2
theorem KT.val{a:List (List Key×V)}{xs:List (List Key×Addr×Value)}(r:KT H a xs)(k:List Key):gY (hV a k) ((atKey xs k).map (·.2)):=by
 induction r with
 | nil=>exact True.intro
 | @cons p q ps qs h t f=>
   obtain⟨d,_,g⟩:=h;by_cases e:p.1=k
   ·have c:q.1=k:=d.symm.trans e;have b:atKey (q::qs) k=some q.2:=by simp[atKey,find?_cons,c]
    rw[kI e,b];exact g
   ·have c: ¬ q.1=k:=λz=>e (d.trans z)
    have b:atKey (q::qs) k=atKey qs k:=by simp[atKey,find?_cons,c]
    rw[kJ e,b];exact f
theorem KT.repl(r:KT H b xs)(k:List Key)(f:aG y u):
 KT H (b.map λc=>if c.1=k then(c.1,y)else c) (xs.map (putAt k u)):=by
 induction r with
 | nil=>exact .nil
 | @cons p q ps qs h t g=>
   rw[Ya,Ya];refine .cons ?_ g;obtain⟨a,d,i⟩:=h;unfold putAt;by_cases e:p.1=k
   ·rw[if_pos e,if_pos (a.symm.trans e)];exact⟨a,d,f⟩
   ·rw[if_neg e,if_neg (λz=>e (a.trans z))];exact⟨a,d,i⟩
theorem KT.put(r:KT H a xs)(k:List Key)(d:H b=some (.tup (k.map kV)))(c:aG y u):
 KT H (hX a k y) (storedH xs k b u):=by
 have e:(a.any λf=>decide (f.1=k))=(atKey xs k).isSome:=by
  rw[fV,(r.val k).isSome_eq,isSome_map]
 unfold hX storedH;rw[e];by_cases q:(atKey xs k).isSome=true
 ·rw[if_pos q,if_pos q];exact r.repl k c
 ·rw[if_neg q,if_neg q];exact Paired.snoc r ⟨rfl,d,c⟩
theorem KT.keeps(r:KT H a xs)(c:∀b ys,H b=some (.tup ys)->d b=some (.tup ys)):KT d a xs:=
 Paired.mapP r λ_ _ z=>⟨z.1,c _ _ z.2.1,z.2.2⟩
section
variable{P:Program}{w:World}{H:Hp}{h:Heap}{a:Addr}
theorem yX(ok:HOk P w H h)(e:Rd H a u):bg P w H h a u:=e.ok ok
theorem vM(ok:HOk P w H h)(e:Rd H a (.dK b)):b.length<=sizeLine/\(a==sysModules)=false/\∃vs,KV b vs/\h.DictOf (aS P w) a vs:=
 show bg P w H h a (.dK b)from yX ok e
theorem Bl(ok:HOk P w H h)(e:H a=some (.dK b)):b.length<=sizeLine/\(a==sysModules)=false/\∃vs,KV b vs/\h.DictOf (aS P w) a vs:=vM ok (.inl e)
theorem nD(ok:HOk P w H h)(e:H a=some (.tup (ks.map kV))):(tupleKind (aS P w)).is h ks a:=by
 obtain⟨_,its,r,o,b,c,n,d⟩:=(show bg P w H h a (.tup (ks.map kV))from ok a _ e)
 exact⟨o,its.toArray,n,b,c,d,by simpa using mo r⟩
theorem vN(ok:HOk P w H h)(e:Rd H a (.dT b)):b.length<=sizeLine/\(a==sysModules)=false/\
 ∃xs,KT H b xs/\h.DictOfH (tupleKind (aS P w)) a xs:=by
 obtain⟨z,y,xs,r,o,f,g,i,j,k,n,s⟩:=(show bg P w H h a (.dT b)from yX ok e)
 refine⟨z,y,xs,r,o,f,g,i,j,k,n,λx c=>?_,s⟩;have all:∀{l:List (List Key×V)} {m:List (List Key×Addr×Value)},KT H l m->∀x∈m,(tupleKind (aS P w)).is h x.1 x.2.1:=by
  intro l m q
  induction q with
  | nil=>intro x c;exact nomatch c
  | @cons p q ps qs d t u=>
    intro x c;rcases mem_cons.mp c with e|c
    ·subst e;exact nD ok (by rw[<-d.1];exact d.2.1)
    ·exact u x c
 exact all r x c
theorem Bm(ok:HOk P w H h)(e:H a=some (.dT b)):b.length<=sizeLine/\(a==sysModules)=false/\
 ∃xs,KT H b xs/\h.DictOfH (tupleKind (aS P w)) a xs:=vN ok (.inl e)
end
def nE(H:Hp)(a:Addr)(y:V)(r:Option V):Prop:=
 (∃c k,Rd H a (.dK c)/\y=kV k/\r=hV c k)\/∃c k b,Rd H a (.dT c)/\y= .ref b/\H b=some (.tup (k.map kV))/\r=hV c k
def tq(H:Hp)(a:Addr)(y v:V)(d:Hp):Prop:=
 (∃c k,H a=some (.dK c)/\y=kV k/\c.length<sizeLine/\d=upd H a (.dK (hX c k v)))\/
 ∃c k b,H a=some (.dT c)/\y= .ref b/\H b=some (.tup (k.map kV))/\c.length<sizeLine/\d=upd H a (.dT (hX c k v))
theorem nE.k{k:Key}(e:H a=some (.dK b)):nE H a (kV k) (hV b k):= .inl ⟨b,k,.inl e,rfl,rfl⟩
theorem tq.k{k:Key}(e:H a=some (.dK b))(c:b.length<sizeLine):tq H a (kV k) v (upd H a (.dK (hX b k v))):= .inl ⟨b,k,e,rfl,c,rfl⟩
section
variable{X:Cx}{pins:List (Addr×Obj)}{σ:St}{H:Hp}{s:Shared}{a:Addr}{y v:V}{u r:Value}{o:Option V}{A:Around}{E:Value->Shared->Prop}
theorem Inv.big(I:Inv X pins σ H s):sysModules<s.heap.objs.size:=by
 have h:mainGlobals<s.heap.objs.size:=(I.mod.glob.keeps I.bk).lt;exact Nat.lt_trans (by decide) h
theorem d_in(n:A.units+1<cLine)(I:Inv X pins σ H s)(g:nE H a y o)(m:aG y u)(h:∀s',Inv X pins σ H s'->Q (.bool o.isSome) s'):
 wpAny (model X.prog X.w) A (compareOp .In u (.ref a)) Q E s:=by
 rcases g with⟨d,k,e,f,l⟩|⟨d,k,b,e,f,p,l⟩
 ·subst f;obtain⟨z,i,vs,c,j⟩:=vM I.hok e;refine wpAny_in_of (rN m) i j.mapOf ?_;rw[<-(c.val k).isSome_eq,<-l];exact h _ (I.tok _)
 ·subst f;cases(show u=Value.ref b from m);obtain⟨z,i,xs,c,j⟩:=vN I.hok e;refine wpAny_in_heap (tupleKind_room_in1 n) (nD I.hok p) i j ?_;have q:=(c.val k).isSome_eq;rw[isSome_map]at q;rw[<-q,<-l];exact h _ (I.tok _)
theorem xT(n:A.units+1<cLine)(I:Inv X pins σ H s)(g:nE H a y o)(m:aG y u)(h:∀s',Inv X pins σ H s'->Q (.bool (!o.isSome)) s'):
 wpAny (model X.prog X.w) A (compareOp .NotIn u (.ref a)) Q E s:=by
 rcases g with⟨d,k,e,f,l⟩|⟨d,k,b,e,f,p,l⟩
 ·subst f;obtain⟨z,i,vs,c,j⟩:=vM I.hok e;refine wpAny_notIn_of (rN m) i j.mapOf ?_;rw[<-(c.val k).isSome_eq,<-l];exact h _ (I.tok _)
 ·subst f;cases(show u=Value.ref b from m);obtain⟨z,i,xs,c,j⟩:=vN I.hok e;refine wpAny_notIn_heap (tupleKind_room_in1 n) (nD I.hok p) i j ?_;have q:=(c.val k).isSome_eq;rw[isSome_map]at q;rw[<-q,<-l];exact h _ (I.tok _)
theorem rO(I:Inv X pins σ H s)(d:Mut (H a))(f:SameBut a s.heap h')(g:∃q,h'.get? a=some q)(new:bg X.prog X.w (upd H a c) h' a c):
 Inv X pins σ (upd H a c) {s with heap:=h',toks:=t'}:=
 I.write (x:=a) (e:=a) d (.inl rfl) (λb q h z=>(f.2 b h).trans z) g new
theorem Ak{P:Program}(z:b.length<=sizeLine)(d:(a==sysModules)=false)(c:KV b vs)(e:h'.DictOf (aS P w) a vs):
 bg P w f h' a (.dK b):=⟨z,d,vs,c,e⟩
theorem tt(L:A.units+1<cLine)(I:Inv X pins σ H s)(g:tq H a y v M)(C:aG y u)(D:aG v r)(h:∀s',Inv X pins σ M s'->Q () s'):
 wpAny (model X.prog X.w) A (setItem (.ref a) u r) Q E s:=by
 rcases g with⟨d,k,e,m,l,n⟩|⟨d,k,b,e,m,G,l,n⟩
 ·subst m n;obtain⟨z,p,vs,f,t⟩:=Bl I.hok e;have w:vs.length<=sizeLine:=by rw[<-f.length];exact z
  have x:(hX d k v).length<=sizeLine:=by have:=jN d k v;lia
  refine wpAny_setItem_pairs (hsz:=w) (rN C) t λh' i B=>h _ ?_
  have N:∃q,h'.get? a=some q:=let⟨q,_,_,j,_⟩:=i;⟨q,j⟩;exact rO I (by rw[e];exact True.intro) B N (Ak x p (f.put k D) i)
 ·subst m n;cases(show u=Value.ref b from C);obtain⟨z,p,xs,f,t⟩:=Bm I.hok e;have w:xs.length<=sizeLine:=by rw[<-Paired.length f];exact z
  have x:(hX d k v).length<=sizeLine:=by have:=jN d k v;lia
  refine wpAny_setItem_heap (hsz:=w) (tupleKind_room_in1 L) (nD I.hok G) t λh' i B=>h _ ?_
  obtain⟨q,O,T,j,U,Y,h4,_,h5⟩:=i;refine rO I (by rw[e];exact True.intro) B ⟨q,j⟩ ⟨x,p,_,(f.put k G D).keeps λc ys J=>?_,q,O,T,j,U,Y,h4,h5⟩;rw[aj (kB J e (λz=>nomatch z))];exact J
end
section
variable{X:Cx}{pins:List (Addr×Obj)}{σ:St}{H:Hp}{s:Shared}{a:Addr}{kvs:List (Key×V)}{k:Key}{u:Value}{A:Around}{E:Value->Shared->Prop}
end
def xU(ty d:TE):TE:=λb H Q=>ty b H λy e=>d b e λx c=>∃a o,x= .ref a/\nE c a y o/\Q (.bl o.isSome) c
def nF(ty d:TE):TE:=λb H Q=>ty b H λy e=>d b e λx c=>∃a o,x= .ref a/\nE c a y o/\Q (.bl (!o.isSome)) c
def vO(d ty e:TE):TS:=λD b H=>e b H λv f=>d b f λx g=>ty b g λy h=>∃a c,x= .ref a/\tq h a y v c/\D.nx b c
section
variable{X:Cx}{o i e value:Expr}{pos pos' tpos:Pos}{td ty tv:TE}
theorem vP(c:X.A.units+1<cLine)(hi:PE X i ty)(d:PE X o td):PC X .In i o (xU ty td):=by
 intro pins s b H Q I h;refine thn (hi pins s b H _ I h) λw f ⟨y,j,k,l,m⟩=>thn (d pins f b j _ k m) λu z ⟨x,n,p,q,a,r,ex,g,t⟩=>?_
 subst ex;obtain rfl:u=Value.ref a:=q;exact d_in c p g l λA v=>⟨.bl r.isSome,n,v,rfl,t⟩
theorem tw(c:X.A.units+1<cLine)(hi:PE X i ty)(d:PE X o td):PC X .NotIn i o (nF ty td):=by
 intro pins s b H Q I h;refine thn (hi pins s b H _ I h) λw f ⟨y,j,k,l,m⟩=>thn (d pins f b j _ k m) λu z ⟨x,n,p,q,a,r,ex,g,t⟩=>?_
 subst ex;obtain rfl:u=Value.ref a:=q;exact xT c p g l λA v=>⟨.bl (!r.isSome),n,v,rfl,t⟩
theorem xV(c:X.A.units+1<cLine)(d:PE X o td)(hi:PE X i ty)(f:PE X value tv)(j:swapsWith value (some (.Subscript o i pos')) pos.line X.env=pure false):
 PS X (.Assign [.Subscript o i pos'] value pos) (vO td ty tv):=by
 intro pins s b H D I h;refine wpAny_Assign_Subscript (thn (f pins s b H _ I h) λr k ⟨v,l,m,n,p⟩=>thn (d pins k b l _ m p) λu q ⟨x,t,w,z,A⟩=>thn (hi pins q b t _ w A) λL M ⟨y,N,B,C,a,E,ex,g,G⟩=>?_) j;subst ex;obtain rfl:u=Value.ref a:=z;exact tt c B g C n λO J=>⟨b,E,J,G⟩
end
theorem vQ{P:Program}(h:Heap)(a:sysModules<h.objs.size):bg P w H (h.push {cls:= .type "dict",data:= .dict #[]}) h.objs.size (.dK []):=
 ⟨Yn _,beq_eq_false_iff_ne.mpr (Ne.symm (Zr a)),[],.nil,Heap.DictOf.new h⟩
def nG:TE:=λ_ H Q=>∀p,H p=none->Q (.ref p) (upd H p (.dK []))
section
variable{X:Cx}{pos:Pos}
theorem vR:PE X (.Dict [] [] pos) nG:=λpins s b H Q I h=>
 wpAny_Dict_empty ⟨.ref s.heap.objs.size,_,I.laid (a:=s.heap.objs.size) (o:= .dK []) (t':=s.toks) (λ_ _ q=>Z6 _ q) (Zh _) (vQ s.heap I.big),rfl,h _ (I.hok.fresh (Zh _))⟩
end
section
variable{X:Cx}{pins:List (Addr×Obj)}{σ:St}{H:Hp}{s:Shared}{a:Addr}{y d:V}{u r:Value}{o:Option V}{A:Around}{E:Value->Shared->Prop}
end
section
variable{X:Cx}{o e f:Expr}{apos cpos:Pos}{td ty tx:TE}
end
section
variable{X:Cx}{pins:List (Addr×Obj)}{σ:St}{H:Hp}{s:Shared}{a:Addr}{kvs:List (Key×V)}{A:Around}{E:Value->Shared->Prop}
end
section
variable{X:Cx}{pins:List (Addr×Obj)}{σ:St}{H:Hp}{s:Shared}{a:Addr}{y:V}{u:Value}{A:Around}{E:Value->Shared->Prop}
end
end L2
namespace Att
open PySem PySem.W PySem.Calls PyProof.Rows
theorem j1{P:Params}:∀(c:List Int) (vs:List Value),WellAll P h vs (c.map WData.int)->IntsAre vs c:=by
 intro c
 induction c with
 | nil=>
   intro vs w;rw[map_nil]at w;cases w;exact .nil
 | cons n c d=>
   intro vs w;rw[Ya]at w;cases w with
   | cons a b=>
     cases a;exact .cons _ _ (d _ b)
theorem tz{l:OpenLaw}(p:l.most=some n){P:Params}
 (c:l.row.toRowW.claim.pre args=true) (k:WellAll P h e args):
 ∃a vs b,e=[Value.ref a]/\args=[WData.list (b.map WData.int)]/\h.get? a=some {cls:= .type "list",data:= .seq vs.toArray}/\IntsAre vs b/\b.length<=n:=by
 have m:WShape.hasAll [] args [.list .int]=true:=(pre_splitW c).1;have o:l.pre.holds [] {args:=args}=true:=(pre_splitW c).2;obtain⟨d,r,rfl,s,t⟩:=hasAllW_cons m;obtain rfl:=hasAllW_nil t;obtain⟨xs,rfl,u⟩:=hasW_list s;obtain⟨b,rfl⟩:=items_int u;have f:b.length<=n:=by
  unfold OpenLaw.pre at o;have i:(WTm.not (.lt (.lit (.int (n:Int))) (.len (.arg 0)))).holds [] {args:=[.list (b.map .int)]}=true:=by
   have i:=(holds_andW o).1;rw[p]at i;exact i
  have j:=condW_of i (w_not (w_lt w_lit (w_len_list (w_arg rfl))));rw[Z5]at j;refine Nat.le_of_not_lt λq=>?_
  have v:(n:Int)<((b.length:Nat):Int):=by lia
  first
   |(rw[Ze v]at j;exact absurd j (by decide))
   |(simp at j;lia)
 cases k with
 | cons w x=>
   cases x;cases w with
   | list y g=>exact⟨_,_,b,rfl,rfl,y,j1 b _ g,f⟩
theorem tD(l:OpenLaw)(args:List WData):l.row.toRowW.claim.post args (.bool true) args=true:=
 postW_of (r:=l.row.toRowW) (X:=(true==true))
  (show WShape.has [] (.bool true) .bool=true by first|rfl|decide|simp[WShape.has,WShape.arms,WShape.armsAll])
  (show(WTm.eq .res (.lit (.bool true))).value [] {args:=args,res:=some (.bool true),after:=args}=some (.bool (true==true))from w_eq_bool (w_res rfl) w_lit) rfl
theorem attach_call{l:OpenLaw}{n:Nat}{q:Program}
 (C:l.most=some n) (s:d.params.defaults=[])
 (call:∀(w:World) (s₀ b:Shared) (mg t:Str->Option Value) (h:Addr) (o:Obj) (u m c:Value) (a:Addr) (vs:List Value) (p:List Int),
  Ground q e [] D w s₀ mg t b.heap->E w b.heap->
  b.heap.get? h=some o->o.data= .func (docDef d.name d.params d.body d.scope u m c)->b.heap.CodeRec m d.name->mg d.name=some (.ref h)->
  b.heap.get? a=some {cls:= .type "list",data:= .seq vs.toArray}->IntsAre vs p->p.length<=n->b.gens= #[]->
  codeAny (model l.prog w) callerA (.call (.ref h) ⟨[.ref a],[]⟩) (λr s'=>r= .ok (.ret (.bool true))/\OldK b.heap s'.heap/\s'.os=b.os/\AllBare s'.gens) b):
 WalkO q e D E l.row.toRowW d [] (λf vs=>PySem.call f vs):=by
 intro w s₀ b mg t G Y h o u m c H kV I J v z x L args A as i B M y N;obtain rfl:H= .none:=Dflts.none z s;obtain rfl:kV= .none:=Dflts.noKw z;obtain⟨a,vs,p,rfl,rfl,j,g,k⟩:=tz C i y;refine enter_call (codeAny_mono (call w s₀ b mg t h o u m c a vs p G Y I (fd_plain J) v x j g k L) λr s' O=>?_);obtain⟨rfl,Q,T,U⟩:=O;exact⟨.inl ⟨.bool true,.bool true,[],rfl,λ_=>rfl,.bool true,tD l _,λ_=>⟨List.Pairwise.nil,λ_ hm=>(nomatch hm)⟩⟩,Q,T,U⟩
section
variable{prog:Program}{w:World}{A:Around}{E:Value->Shared->Prop}{s:Shared}{K:Frag}
end
end Att
namespace L2
open PySem PySem.Spec PyProof.Rows
theorem mr:∀{vs:List Value} {a:List Int},IntsAre vs a->aD (a.map V.int) vs
 | _,_,.nil=> .nil
 | _,_,.cons n t h=> .cons ⟨t,rfl⟩ (mr h)
def xW(H:Hp):Prop:=∀b,H b=none\/∃o xs,H b=some (.frz o (.lst xs))
theorem law_call{P:Program}{K:PySem.W.Frag}{mg M:Str->Option Value}{vs:List Value}
 (KX:K.In c.heap) (p:c.heap.Ns mainGlobals mg) (g:c.heap.Ns builtinsNs M) (N:∀x:Str,x≠"__name__"->M x=bootBuiltins x) (t:c.heap.NoLimit) (hg:c.gens= #[])
 (J:c.heap.get? a=some {cls:= .type "list",data:= .seq vs.toArray}) (hi:IntsAre vs L) (hl:L.length<=sizeLine) (hr:bN k callerA)
 (F:∀base:Heap,K.In base->base.Ns mainGlobals mg->eB P w K mg base CX k fa fd [x] sp) (l:∀(s:Shared) (u:Value),BindsTo s fd ⟨[u],[]⟩ [(x,u)])
 (O:∀H:Hp,xW H->SqL K H a (L.map V.int)->sp [.ref a] H (λv _=>v= .bl true) λ_ _ _=>False)
 (Q:∀H e s',CX [] H c (λ_ _ _=>False) e s'->False):
 codeAny (model P w) callerA (.call (.ref fa) ⟨[.ref a],[]⟩) (λr s'=>r= .ok (.ret (.bool true))/\OldK c.heap s'.heap/\s'.os=c.os/\AllBare s'.gens) c:=by
 have rv:=mr hi;have y:=hi.length;have j:∀H:Hp,xW H->SqL K H a (L.map V.int)->HOk P w H c.heap->(∀b,H b≠none->b=a)->(H a≠none->K.lookup a=none)->
  codeAny (model P w) callerA (.call (.ref fa) ⟨[.ref a],[]⟩) (λr s'=>r= .ok (.ret (.bool true))/\OldK c.heap s'.heap/\s'.os=c.os/\AllBare s'.gens) c:=by
  intro H hO hS A hA hK;have f:∀{b:Addr} {o:Obj},c.heap.get? b=some o->H b=none->(m8 c.heap H).get? b=some o:=λe n=>uY e n
  have T:∀{b:Addr} {o:Obj} {B:Array DictEntry} {C:Nat},c.heap.get? b=some o->o.data= .dict B C->H b=none:=λ{b o B C} e d=>by
   cases q:H b with
   | none=>rfl
   | some u=>
     have U:b=a:=hA b (by rw[q];simp);subst U;rw[J]at e;cases e;have d':Data.seq vs.toArray _=Data.dict B C:=d;cases d'
  have i:∀{b:Addr} {m:Str->Option Value},c.heap.Ns b m->(m8 c.heap H).Ns b m:=λ{b m} ⟨o,B,C,e,d,r⟩=>⟨o,B,C,f e (T e d),d,r⟩
  have D:K.In (m8 c.heap H):=λb o e=>f (KX b o e) (by
   cases q:H b with
   | none=>rfl
   | some u=>
     have U:b=a:=hA b (by rw[q];simp);subst U;rw[hK (by rw[q];simp)]at e;cases e)
  have hM:Mod K mg (m8 c.heap H):=⟨D,i p,⟨M,i g,N⟩,let⟨mc,h1,h2⟩:=t;⟨mc,i h1,h2⟩⟩
  have e0:qo P w K mg (m8 c.heap H) callerA [] c H:=⟨rfl,hM,λb o e=>xu e,Nat.le_of_eq (sN _ _),trivial,λb g=>absurd (show b∈([]:List Addr)from g) (by simp),A,.of_eq hg⟩
  refine codeAny_mono ((F _ D (i p)).run callerA [] c H ⟨[.ref a],[]⟩ [.ref a] [.ref a] _ _ hr e0 (l c (.ref a)) (.cons rfl .nil) (O H hO hS)) λr s' h=>?_
  cases r with
  | error e=>exact(Q H e s' h).elim
  | ok fl=>
    cases fl with
    | next=>exact False.elim h
    | brk=>exact False.elim h
    | cont=>exact False.elim h
    | ret u=>
      obtain⟨v,H',os,E,un,G,r',q⟩:=h;have q':v= .bl true:=q;subst q';obtain rfl:u=Value.bool true:=r';refine⟨rfl,OldK.of_keep λb o e=>?_,os,E⟩;cases q:H b with
      | none=>exact un.keep b o e q (by intro z;exact absurd (show b∈([]:List Addr)from z) (by simp)) (by simp)
      | some u=>
        rcases hO b with z|⟨ob,xs,z⟩
        ·rw[q]at z;cases z
        ·have z2:=un.frzs b ob _ z;obtain⟨e1,_⟩:=A b _ z;obtain⟨e2,_⟩:=G b _ z2;rw[e]at e1;cases e1;exact e2
 cases Y:K.lookup a with
 | some o=>
   have e:=KX a o Y;rw[J]at e;cases e;refine j (λ_=>none) (λ_=> .inl rfl) (.inr ⟨_,vs.toArray,_,Y,rfl,rfl,rfl,by rw[Zo,y];exact hl,by simpa using rv⟩) (λb u z=>by have I:(none:Option HO)=some u:=z;cases I) (λb z=>absurd rfl z) λz=>absurd rfl z
 | none=>
   refine j (λb=>if b=a then some (.frz {cls:= .type "list",data:= .seq vs.toArray} (.lst (L.map V.int)))else none) (λb=>?_) (.inl (.inr ⟨{cls:= .type "list",data:= .seq vs.toArray},if_pos rfl⟩)) (λb u z=>?_) (λb z=>?_) λ_=>Y
   ·by_cases g:b=a
    ·exact .inr ⟨_,_,if_pos g⟩
    ·exact .inl (if_neg g)
   ·by_cases g:b=a
    ·have I:=(if_pos g).symm.trans z;cases I;subst g;exact⟨J,by rw[Z5];exact hl,vs,_,rv,J⟩
    ·have I:=(if_neg g).symm.trans z;cases I
   ·by_cases g:b=a
    ·exact g
    ·exact absurd (if_neg g) z
theorem walk_of{l:PySem.W.OpenLaw}{E:(Str->Option Value)->Heap->Prop}{C:World->Heap->Prop}{d:DefRec}{K:Params->PySem.W.Frag}{CX:World->CXT}{sp:World->Sp}{x:Str}
 (I:l.most=some n) (p:n<=sizeLine) (r:d.params.defaults=[]) (J:bN k callerA)
 (L:∀(w:World) (h:Heap),C w h->(K w.params).In h)
 (F:∀(w:World) (mg:Str->Option Value) (j:Addr) (h:Heap),(K w.params).In h->h.Ns mainGlobals mg->mg d.name=some (.ref j)->
  ∃t:FuncData,(∀(s:Shared) (u:Value),BindsTo s t ⟨[u],[]⟩ [(x,u)])/\
   ∀base:Heap,(K w.params).In base->base.Ns mainGlobals mg->eB l.prog w (K w.params) mg base (CX w) k j t [x] (sp w))
 (y:∀(w:World) (H:Hp) (a:Addr) (m:List Int),m.length<=n->xW H->SqL (K w.params) H a (m.map V.int)->sp w [.ref a] H (λv _=>v= .bl true) λ_ _ _=>False)
 (z:∀(w:World) (H:Hp) (s:Shared) (e:Value) (s':Shared),CX w [] H s (λ_ _ _=>False) e s'->False):
 PySem.W.WalkO q A E C l.row.toRowW d [] (λf vs=>PySem.call f vs):=by
 refine Att.attach_call I r λw s₀ g mg mb j o pm cd M a vs m G Y ho hd N B i c b O=>?_
 have D:=L w _ Y;obtain⟨t,Q,T⟩:=F w mg j _ D G.T.g B;exact law_call D G.T.g G.T.b G.T.builtins G.T.nolimit O i c (Y2 b p) J T Q (λH U hS=>y w H a m b U hS) λH e s'=>z w H g e s'
noncomputable def eZ(s:Stmt)(j:Nat):Stmt:=match s with
 | .ClassDef _ _ _ a _ _ _ _ _ _ _=>a.getD j (.Pass ⟨0,0,0,0⟩)
 | _=> .Pass ⟨0,0,0,0⟩
noncomputable def cj(s:Stmt):Arguments:=match s with
 | .FunctionDef _ a _ _ _ _ _ _ _ _=>a
 | _=>{posonlyargs:=[],args:=[],vararg:=none,kwonlyargs:=[],kw_defaults:=[],kwarg:=none,defaults:=[]}
noncomputable def bx(s:Stmt):List Stmt:=match s with
 | .FunctionDef _ _ b _ _ _ _ _ _ _=>b
 | _=>[]
noncomputable def ah(s:Stmt):Scope:=match s with
 | .FunctionDef _ _ _ _ _ _ a _ _ _=>a
 | _=>{kind:= .function,names:=[],isGenerator:=false,isCoroutine:=false}
noncomputable abbrev CX0:CXT:=λ_ _ _ _ _ _=>False
noncomputable abbrev E0:XK:=λ_ _ _=>False
theorem Bn{X:Cx}:eC CX0 X E0:=λ_ _ _ _ _ _ _ h=>h.elim
structure Fun (K:PySem.W.Frag) (x qual:Str) (st:Stmt) (f:Addr) (fd:FuncData):Prop where
 ex:∃(oc:Value) (od:Option Addr) (kV doc pm:Value) (an:Option Addr) (cdv ct:Value) (osl:Array (Option Value)),
  fd=fnOf x qual (cj st) (bx st) (ah st) .none kV doc pm an cdv ct/\K.lookup f=some ⟨oc,od,.func fd,osl⟩/\codeIn K cdv qual=true
 kp:keepIn K (.ref f)=true
section
variable{P:Program}{w:World}{K:PySem.W.Frag}{mg:Str->Option Value}{base:Heap}
theorem Fun.ok{x a:Str}{st:Stmt}{f:Addr}{g:FuncData}{N ps:List Str}{k:Nat}{sp:Sp}(F:Fun K x a st f g)(S:ar N ps (ah st))(len:∀vs H Q E,sp vs H Q E->vs.length=ps.length)
 (c:∀(b:Value) (A:Around) (outer:List Env) (s:Shared) (H:Hp) (vs:List V) (Q:VK) (E:XK),bN k (A.deeper (envOfC a (ah st) s.heap.objs.size f b))->sp vs H Q E->
  ∃t,PSs (dS CX0 P w K mg base N a (ah st) f b A outer s H E).nox (bx st) t/\t {nx:=λ_ i=>Q .non i,rt:=Q} (eM N vs) H):eB P w K mg base CX0 (k+1) f g ps sp:=by
 obtain⟨n,od,kV,j,o,p,b,ct,l,rfl,lk,d⟩:=F.ex;refine yW lk d S len λA outer s H vs Q E m e=>?_
 obtain⟨t,h,q⟩:=c b A outer s H vs Q E m e;exact⟨t,h.nox,q⟩
theorem Fun.binds{st:Stmt}(F:Fun K x c st f g)
 (h:∀(kV a d:Value) (e:Option Addr) (b ct:Value) (us:List Value),us.length=ps.length->bindArgs (fnOf x c (cj st) (bx st) (ah st) .none kV a d e b ct) ⟨us,[]⟩=pure (ps.zip us)):dF K g ps []:=by
 obtain⟨k,od,kV,a,d,e,b,ct,i,rfl,lk,j⟩:=F.ex;exact .all (h kV a d e b ct)
theorem e7{st:Stmt}{kV d e b ct:Value}(l:K.lookup f=some ⟨i,od,.func (fnOf x a (cj st) (bx st) (ah st) .none kV d e h b ct),g⟩)
 (c:codeIn K b a=true) (k:keepIn K (.ref f)=true):Fun K x a st f (fnOf x a (cj st) (bx st) (ah st) .none kV d e h b ct):=⟨⟨i,od,kV,d,e,h,b,ct,g,rfl,l,c⟩,k⟩
end
section
variable{X:Cx}
theorem pv(i:Nat)(b:X.N[i]? =some x)(c:Vis X.env.scope x)(d:(x==("__debug__":Str))=false)
 (a:(x==("__classdict__":Str))=false):PE X (.Name x pos) (gZ i):=u4 b c d a
end
theorem io{A B:Prop}(h:B):if false=true then A else B:=by
 rw[if_neg Zs];exact h
theorem aA{c A B:Prop}[Decidable c](a:c->A)(b: ¬ c->B):if c then A else B:=by
 by_cases h:c
 ·rw[if_pos h];exact a h
 ·rw[if_neg h];exact b h
def ae(H a:Hp):Prop:=∀b o,H b=some o->a b=some o
theorem ae.refl(H:Hp):ae H H:=λ_ _ h=>h
theorem ae.trans{H d e:Hp}(a:ae H d)(b:ae d e):ae H e:=λc o h=>b c o (a c o h)
theorem ae.free{H a:Hp}(e:ae H a){l:Addr}(h:a l=Option.none):H l=Option.none:=by
 cases q:H l with
 | none=>rfl
 | some o=>
   rw[e l o q]at h;cases h
theorem ae.seq{K:PySem.W.Frag}(e:ae H b)(h:SqL K H a xs):SqL K b a xs:=by
 rcases h with(h|⟨o,h⟩)|h
 ·exact .inl (.inl (e _ _ h))
 ·exact .inl (.inr ⟨o,e _ _ h⟩)
 ·exact .inr h
section
variable{X:Cx}
end
section
variable{κ:Type}[DecidableEq κ]
theorem oR{a:List (κ×V)}(h:hV a k=none): ¬ k∈a.map (·.1):=by
 intro m;obtain⟨p,b,e⟩:=Yv m;have q:(a.any λc=>decide (c.1=k))=true:=any_eq_true.mpr ⟨p,b,Ze e⟩;rw[fV,h]at q;exact absurd q (by simp)
theorem rP{a:List (κ×V)}(h:hV a k=some v):k∈a.map (·.1):=by
 have q:(a.any λb=>decide (b.1=k))=true:=by
  rw[fV,h]
  all_goals rfl
 obtain⟨p,c,e⟩:=any_eq_true.mp q;exact Yw ⟨p,c,Zn e⟩
theorem kj:∀{l:List κ} {k:κ},l.Nodup-> ¬ k∈l->(l++[k]).Nodup
 |[],k,_,_=>by simp
 | a::r,k,h,b=>by
   obtain⟨c,d⟩:=nodup_cons.mp h;show(a::(r++[k])).Nodup;refine nodup_cons.mpr ⟨λm=>?_,kj d λm=>b (mem_cons.mpr (Or.inr m))⟩;rcases Yt m with q|q
   ·exact c q
   ·exact b (mem_cons.mpr (Or.inl (Yu q).symm))
end
noncomputable def j2(env:Env):List (Str×NameKind)->List (Str×Addr)->List (Str×Addr)
 |[],acc=>acc
 |(n,k)::r,acc=>j2 env r (if k= .free then(n,(env.cells.lookup n).getD 0)::acc else acc)
theorem kK:∀(names:List (Str×NameKind)) (acc:List (Str×Addr)),(∀y∈names,y.2= .free->∃c,env.cells.lookup y.1=some c)->
 (forIn names acc λx r=>match x with
  |(name,kind)=>if(kind==NameKind.free)=true then do let a<-cellOf env name;pure (ForInStep.yield ((name,a)::r))else pure (ForInStep.yield r):Sem (List (Str×Addr)))=pure (j2 env names acc)
 |[],acc,_=>rfl
 |(n,k)::r,acc,h=>by
  have d:=λacc=>kK (env:=env) r acc λy f=>h y (Zj _ f)
  rw[forIn_cons];by_cases b:k= .free
  ·subst b;obtain⟨c,e⟩:=h (n,.free) Zl rfl;have g:cellOf env n=pure c:=by unfold cellOf;rw[e]
   simp only[beq_self_eq_true,if_true,g,pure_bind];rw[d];show _=pure (j2 env r (if(NameKind.free:NameKind)= .free then(n,(env.cells.lookup n).getD 0)::acc else acc));rw[if_pos rfl,e]
   all_goals rfl
  ·have i:(k==NameKind.free)=false:=by simpa using b
   simp only[i,Zw,if_false,pure_bind];rw[d];show _=pure (j2 env r (if k= .free then(n,(env.cells.lookup n).getD 0)::acc else acc));rw[if_neg b]
theorem xX(h:∀y∈a.names,y.2= .free->∃c,env.cells.lookup y.1=some c):closureFor a env=pure (j2 env a.names []):=by
 unfold closureFor;have e:=kK a.names [] h;simp only[bind_pure];exact e
theorem oS:∀(names:List (Str×NameKind)) (acc:List (Str×Addr)),(∀y∈names,y.2= .free->∃c,env.cells.lookup y.1=some c)->
 (∀y d,acc.lookup y=some d->env.cells.lookup y=some d)->(j2 env names acc).lookup x=some c->env.cells.lookup x=some c
 |[],acc,_,b,e=>b x c e
 |(n,k)::r,acc,h,b,e=>by
  refine oS r _ (λy a=>h y (Zj _ a)) (λy d q=>?_) e;by_cases f:k= .free
  ·rw[if_pos f,Y7]at q;obtain⟨i,g⟩:=h (n,k) Zl f;cases a:y==n with
   | true=>
     rw[a]at q;have:=eq_of_beq a;subst this;rw[g]at q ⊢;exact q
   | false=>rw[a]at q;exact b y d q
  ·rw[if_neg f]at q;exact b y d q
theorem kL:∀(names:List (Str×NameKind)) (acc:List (Str×Addr)),(∃c,acc.lookup x=some c)->∃c,(j2 env names acc).lookup x=some c
 |[],_,h=>h
 |(n,k)::r,acc,h=>by
  refine kL r _ ?_;by_cases a:k= .free
  ·rw[if_pos a,Y7];cases b:x==n with
   | true=>exact⟨_,rfl⟩
   | false=>exact h
  ·rw[if_neg a];exact h
theorem kM:∀(names:List (Str×NameKind)) (acc:List (Str×Addr)),(x,NameKind.free)∈names->∃c,(j2 env names acc).lookup x=some c
 |[],_,h=>by simp at h
 |(n,k)::r,acc,h=>by
  rcases mem_cons.mp h with e|h
  ·cases e;refine kL r _ ?_;rw[if_pos rfl,Y7,beq_self_eq_true];exact⟨_,rfl⟩
  ·exact kM r _ h
noncomputable def ba(X:Cx)(a:Scope)(d:List Str)(b:Shared)(c:Hp)(fp:List Addr):Cx:=
 {X with
  N:=d
  s₀:=b
  H₀:=c
  env:=compEnvC a (cellsFrom (b.heap.objs.size+1) a.names (j2 X.env a.names [])) b.heap.objs.size X.env
  outer:=X.stack
  stack:=X.stack
  ex:=fp
  fn:=λx=>decide (a.names.lookup x=some .cell)
  pn:=[]
  xe:=λ_ _=>False}
structure aC (X:Cx) (scope:Scope) (N':List Str) (cap:List (Nat×Nat)):Prop where
 kind:scope.kind= .function
 cell:∀y∈scope.names,y.2= .cell->scope.names.lookup y.1=some .cell
 loc:∀y∈scope.names,y.2= .local->scope.names.lookup y.1=some .local
 free:∀y∈scope.names,y.2= .free->X.env.kindOf y.1=some .cell\/X.env.kindOf y.1=some .free
 capt:∀p∈cap,∃x,N'[p.1]? =some x/\X.N[p.2]? =some x/\scope.names.lookup x=some .free
noncomputable def mt(n:Nat)(a:List (Nat×Nat))(b:St):St:=(List.range n).map λj=>(a.lookup j).bind λi=>(b[i]?).join
theorem jO:∀{l:List (Nat×Nat)} {j i:Nat},l.lookup j=some i->(j,i)∈l
 |[],_,_,h=>by simp at h
 |(a,b)::r,j,i,h=>by
  rw[Y7]at h;cases c:j==a with
  | true=>
    rw[c]at h;have:=eq_of_beq c;subst this;have e:b=i:=Z9 h;subst e;exact Zl
  | false=>rw[c]at h;exact Zj _ (jO h)
theorem jP{env:Env}{names:List (Str×NameKind)}{x:Str}{k:NameKind}(h:(names.map λ(n,k)=>if(k==NameKind.free&&env.scope.kind== .function&&env.kindOf n==some .cell)then(n,NameKind.cell)else(n,k)).lookup x=some k)
 (f:k= .cell\/k= .free):(x,NameKind.free)∈names\/(x,NameKind.cell)∈names:=by
 have m:=PySem.mem_of_lookup h;obtain⟨⟨n,b⟩,c,e⟩:=Yv m;by_cases a:(b==NameKind.free&&env.scope.kind== .function&&env.kindOf n==some .cell)=true
 ·have d:((n,NameKind.cell):Str×NameKind)=(x,k):=by rw[<-e];simp only[a,if_true]
  cases d;have:b= .free:=by
   simp only[Zu,beq_iff_eq]at a;exact a.1.1
  subst this;exact .inl c
 ·have d:((n,b):Str×NameKind)=(x,k):=by rw[<-e];simp only[a];rfl
  cases d;rcases f with rfl|rfl
  ·exact .inr c
  ·exact .inl c
theorem dQ:∀(names:List (Str×NameKind)) (n:Nat) (acc:List (Str×Addr)),cellsFrom n names acc=cellsFrom n names [] ++acc
 |[],_,_=>rfl
 |(x,k)::r,n,acc=>by
  unfold cellsFrom
  split
  ·rw[dQ r (n+1) ((x,n)::acc),dQ r (n+1) [(x,n)],Zd];rfl
  ·exact dQ r n acc
theorem jj:∀{names:List (Str×NameKind)} {n:Nat},(x,c)∈cellsFrom n names []->(x,NameKind.cell)∈names
 |[],_,h=>nomatch h
 |(y,k)::r,n,h=>by
  unfold cellsFrom at h
  split at h
  ·rename_i a
   rw[dQ]at h;rcases Yt h with q|q
   ·exact Zj _ (jj q)
   ·have:=Yu q;cases this;rw[beq_iff_eq.mp a];exact Zl
  ·exact Zj _ (jj h)
theorem jQ(h:(cellsFrom n names acc).lookup x=some c):(x,c)∈cellsFrom n names []\/((cellsFrom n names []).lookup x=none/\acc.lookup x=some c):=by
 rw[dQ,List.lookup_append]at h;cases e:(cellsFrom n names []).lookup x with
 | none=>rw[e]at h;exact .inr ⟨rfl,by simpa using h⟩
 | some d=>
   rw[e]at h;have:d=c:=by simpa using h
   rw[<-this];exact .inl (PySem.mem_of_lookup e)
theorem iN{env:Env}:∀{names:List (Str×NameKind)} {x:Str},names.lookup x=some .free->
 (names.map λ(n,k)=>if(k==NameKind.free&&env.scope.kind== .function&&env.kindOf n==some .cell)then(n,NameKind.cell)else(n,k)).lookup x=some .cell\/
 (names.map λ(n,k)=>if(k==NameKind.free&&env.scope.kind== .function&&env.kindOf n==some .cell)then(n,NameKind.cell)else(n,k)).lookup x=some .free
 |[],_,h=>by simp at h
 |(n,k)::r,x,h=>by
  have c:= @iN env r x;simp only[Ya];cases a:x==n with
  | true=>
    rw[Y7,a]at h;have d:k= .free:=Z9 h;subst d;by_cases b:((NameKind.free==NameKind.free)&&env.scope.kind== .function&&env.kindOf n==some .cell)=true
    ·rw[if_pos b,Y7,a];exact .inl rfl
    ·rw[if_neg b,Y7,a];exact .inr rfl
  | false=>
    rw[Y7,a]at h;have h:=c h;by_cases b:(k==NameKind.free&&env.scope.kind== .function&&env.kindOf n==some .cell)=true
    ·rw[if_pos b,Y7,a];exact h
    ·rw[if_neg b,Y7,a];exact h
section
variable{X:Cx}{pins:List (Addr×Obj)}{σ:St}{H:Hp}{s:Shared}
theorem Inv.kindL(I:Inv X pins σ H s)(h:X.env.kindOf x=some .cell\/X.env.kindOf x=some .free):∃c,X.env.cells.lookup x=some c:=I.ok.has x h
theorem Inv.block{a:Scope}{B:List Str}{fp:List Addr}{f:Heap}{tk:Nat}(S:aC X a B n)(I:Inv X pins σ H s)(M:∀b∈fp,jZ X pins H b)(E:∀b∈fp,b<s.heap.objs.size)
 (hn:f.Ns s.heap.objs.size (λ_=>none)) (t:∀b u,s.heap.get? b=some u->f.get? b=some u) (U:CellsOk f (s.heap.objs.size+1) (cellsFrom (s.heap.objs.size+1) a.names [])):
 Inv (ba X a B s H fp) [] (mt B.length n σ) H {s with heap:=f,toks:=tk}:=by
 have Y:∀y∈a.names,y.2= .free->∃c,X.env.cells.lookup y.1=some c:=λy hy hk=>I.kindL (S.free y hy hk)
 have h:∀x c,(j2 X.env a.names []).lookup x=some c->X.env.cells.lookup x=some c:=λx c e=>oS a.names [] Y (λ_ _ q=>by simp at q) e
 have two:∀x c,(cellsFrom (s.heap.objs.size+1) a.names (j2 X.env a.names [])).lookup x=some c->((x,c)∈cellsFrom (s.heap.objs.size+1) a.names []/\f.IsCell c none/\s.heap.objs.size+1<=c)\/(X.env.cells.lookup x=some c/\c<s.heap.objs.size):=λx c e=>by
  rcases jQ e with q|⟨_,q⟩
  ·exact .inl ⟨q,U.empty x c q⟩
  ·have q':=h x c q;obtain⟨v,D,G,_⟩:=I.cell x c q';exact .inr ⟨q',Zt G⟩
 refine⟨⟨I.ok.mod,S.kind,I.ok.glob,I.ok.blt,Zh _,λx y c h1 h2=>?_,λx hx=>?_,λx c hq e=>?_,I.ok.hd,I.ok.frames,.inl rfl,λb g=>⟨?_,λx c e=>?_⟩,I.bs,
  Y2 I.ok.bsz I.sz,λb u e g=>?_,λb g N=>?_,I.stack,I.stkFree⟩,rfl,I.bare,Un.kept t,⟨_,hn,λj x v e1 e2 e3=>?_⟩,λx c e=>?_,I.hok.fresh (Zh _),λx c e=>?_,λp hp=>?_,I.hok.kept t,?_⟩
 ·rcases two x c h1 with⟨q1,_,q2⟩|⟨q1,q2⟩<;> rcases two y c h2 with⟨r1,_,r2⟩|⟨r1,r2⟩
  ·exact name_of_addr U.apart q1 r1
  ·exact absurd r2 (Nat.not_lt_of_le (Y2 (Y1 _) q2))
  ·exact absurd q2 (Nat.not_lt_of_le (Y2 (Y1 _) r2))
  ·exact I.ok.inj x y c q1 r1
 ·have ab:(relabel a X.env).names.lookup x=some .cell\/(relabel a X.env).names.lookup x=some .free:=hx;have:(x,NameKind.free)∈a.names\/(x,NameKind.cell)∈a.names:=by
   rcases ab with q|q
   ·exact jP q (.inl rfl)
   ·exact jP q (.inr rfl)
  refine Option.isSome_iff_exists.mp (cellsFrom_some a.names _ _ ?_);rcases this with q|q
  ·exact .inr (Option.isSome_iff_exists.mpr (kM a.names [] q))
  ·exact .inl (S.cell _ q rfl)
 ·have hq:a.names.lookup x=some .cell:=Zn hq;rcases jQ e with q|⟨q,_⟩
  ·have:=(U.empty x c q).2;show s.heap.objs.size<=c
   lia
  ·have:=cellsFrom_some a.names (s.heap.objs.size+1) [] (.inl hq);rw[q]at this;cases this
 ·exact Zr (E b g)
 ·rcases two x c e with⟨_,_,q⟩|⟨q,_⟩
  ·exact λz=>absurd (E b g) (Nat.not_lt_of_le (Y2 (Y1 _) (z▸q)))
  ·exact(M b g).2.2.2.2.1 x c q
 ·rcases(M b g).2.2.2.1 with z|z
  ·exact I.ok.noex b u e z
  ·exact absurd (Zf (Zt e) (Y2 I.ok.bsz z)) (Yr _)
 ·rcases mem_cons.mp (I.stkSub b N)with z|z
  ·exact(M b g).2.1 z
  ·exact(M b g).2.2.1 z
 ·
  have hj:∃i,n.lookup j=some i/\σ[i]? =some (some v):=by
   have o:((List.range B.length).map λj=>(n.lookup j).bind λi=>(σ[i]?).join)[j]? =some (some v):=e2;rw[Zk]at o;cases hr:(List.range B.length)[j]? with
   | none=>rw[hr]at o;cases o
   | some j'=>
     rw[hr]at o;have ac:j'=j:=by
      have:=Ys hr;obtain⟨h1,h2⟩:=this;simpa using h2.symm
     subst ac;have A:((n.lookup j').bind λi=>(σ[i]?).join)=some v:=Z9 o;cases O:n.lookup j' with
     | none=>rw[O]at A;cases A
     | some i=>
       rw[O]at A;refine⟨i,rfl,?_⟩;have Q:(σ[i]?).join=some v:=A;cases N:σ[i]? with
       | none=>rw[N]at Q;cases Q
       | some w=>rw[N]at Q;have:w=some v:=Q;rw[this]
  obtain⟨i,O,hi⟩:=hj;obtain⟨y,n1,n2,T⟩:=S.capt (j,i) (jO O);have al:y=x:=Z9 (n1.symm.trans e1);subst al;have J:X.env.kindOf y=some .cell\/X.env.kindOf y=some .free:=S.free _ (PySem.mem_of_lookup T) rfl;obtain⟨m,hm,hl⟩:=I.loc;obtain⟨u,r,l⟩:=hl i y v n2 hi (by rcases J with q|q;exact .inr (.inl q);exact .inr (.inr q));refine⟨u,r,.inr ⟨?_,?_⟩⟩
  ·exact iN T
  ·rcases l with⟨k,_⟩|⟨_,c,C,hv⟩
   ·rcases J with q|q
    ·rw[k]at q;cases q
    ·rw[k]at q;cases q
   ·obtain⟨c',L⟩:=kM (env:=X.env) a.names [] (PySem.mem_of_lookup T);have:=h y c' L;rw[C]at this;have e5:c=c':=Z9 this;subst e5;obtain⟨D,G,hd⟩:=hv;refine⟨c,?_,D,t c D G,hd⟩;show(cellsFrom _ _ _).lookup y=some c;rw[dQ,List.lookup_append];cases e6:(cellsFrom (s.heap.objs.size+1) a.names []).lookup y with
    | none=>simpa using L
    | some d=>
      have:=S.cell _ (jj (PySem.mem_of_lookup e6)) rfl;rw[T]at this;cases this
 ·rcases two x c e with⟨_,q,_⟩|⟨q,_⟩
  ·exact⟨none,q⟩
  ·obtain⟨v,D,G,hd⟩:=I.cell x c q;exact⟨v,D,t c D G,hd⟩
 ·rcases two x c e with⟨_,_,q⟩|⟨q,_⟩
  ·exact I.hok.fresh (by lia)
  ·exact I.freeC x c q
 ·exact absurd (show p∈([]:List (Addr×Obj))from hp) (by simp)
 ·show(mt B.length n σ).length=B.length;unfold mt;rw[Z5,Y4]
end
def PTs(X:Cx)(a:List Expr)(t:TT):Prop:=
 ∀(pins:List (Addr×Obj)) (s:Shared) (b:St) (H:Hp) (Q:Bool->Hp->Prop),Inv X pins b H s->t b H Q->
  wpAny (model X.prog X.w) X.A (forIn a true λc r=>if r=true then do let ok<-isTrue c X.env (eval c X.env);pure (ForInStep.yield ok)else pure (ForInStep.yield r)) (TP X pins b Q) X.xe s
def xY:TT:=λ_ H Q=>Q true H
theorem xZ{X:Cx}:PTs X [] xY:=λ_ _ _ H _ I h=>wpAny_tests_nil ⟨H,I,h⟩
theorem x4{X:Cx}(h:PT X c t):PTs X [c] t:=λpins s a H Q I q=>wpAny_tests_one (h pins s a H Q I q)
def mw(p:TI)(n:Nat)(f:List (Nat×Nat))(g:TG)(q:TT)(r:TE):TE:=λh H Q=>p h H λJ j=>∀D,j D=none->∃W:Nat->Nat->List V->St->Hp->Prop,
 (∃m,W 0 m [] (mt n f h) (upd j D (.lst [])))/\∀i m ys c d,W i m ys c d->(J.stop i d/\Q (.ref D) d)\/
  (J.go i d/\∀x k,J.yld i d x k->g x c k λa s=>q a s λb l=>if b=true then r a l λy o=>∃zs e,o D=some (.lst zs)/\zs.length<sizeLine/\e<m/\W (i+1) e (ys++[y]) a (upd o D (.lst (zs++[y])))
   else∃e,e<m/\W (i+1) e ys a l)
theorem x5{code:Value}
 (k:∀h',h'.Ns s.heap.objs.size (λ_=>none)->(∀b u,s.heap.get? b=some u->h'.get? b=some u)->CellsOk h' (s.heap.objs.size+1) (cellsFrom (s.heap.objs.size+1) a.names [])->
  Q (newEnv a s.heap.objs.size d (cellsFrom (s.heap.objs.size+1) a.names f) g h code (some env) c) {s with heap:=h'}):wpAny M A (newFunctionEnv a d f [] g h code (some env) c) Q E s:=by
 simp only[newFunctionEnv,Option.isSome_some,if_true];refine Z2 (wpAny_alloc ?_);refine Z2 (wpAny_layCells _ (λname kind i=>by cases j:kind==NameKind.cell<;> simp[j]) _ _ _ _ ?_);have ok:=cellsFrom_ok a.names (s.heap.push {cls:= .type "dict",data:= .dict #[]}) (s.heap.objs.size+1) [] ⟨λ_ _ l=>(nomatch l),List.Pairwise.nil⟩ (by rw[Zp];exact Zh _);rw[Zp]at ok;rw[show({s with heap:=s.heap.push {cls:= .type "dict",data:= .dict #[]}}:Shared).heap.objs.size=s.heap.objs.size+1 from Zp ..];rw[forIn_nil];exact Z2 (Z3 (Z3 (k _ ((Heap.Ns.new s.heap (.type "dict")).keeps (pushCells_keeps _ _)) (λb u e=>pushCells_keeps _ _ b u (Z6 _ e)) ok)))
theorem my{X:Cx}{a:Scope}(S:aC X a L a7)(hc:X.calm=true)(hi:PI X tg bI wi)
 (hg:∀M N fp,PG (ba X a L M N fp) tg g) (ht:∀M N fp,PTs (ba X a L M N fp) as tc) (he:∀M N fp,PE (ba X a L M N fp) au te)
 (hs:∀x,foldedSetIterable bI X.env x=pure x) (I:Inv X pins σ H s) (h:mw wi L.length a7 g tc te σ H Q)
 (a8:∀(D C:Addr) (U:Hp) (s6:Shared) (fl:Flow) (m:Str->Option Value),s6.heap.Ns C m->jZ X pins U C->(∀h',SameBut C s6.heap h'->Inv X pins σ U {s6 with heap:=h'})->Q (.ref D) U->compPost (model X.prog X.w) X.A X.xe use QQ (.ref D) C (.ok fl) s6):
 wpAny (model X.prog X.w) X.A (comprehension (.ListComp au [⟨tg,bI,as,0⟩] a pos) a X.env cu (newList []) false (eval bI X.env) use) QQ X.xe s:=by
 have b5:∀y∈a.names,y.2= .free->∃c,X.env.cells.lookup y.1=some c:=λy hy hk=>I.kindL (S.free y hy hk)
 refine wpAny_comprehension_free (use:=use) rfl hs (xX b5) S.kind S.loc (thn (hi pins s σ H _ I h) λv s1 h1=>thn h1 λcv j h2=>?_);obtain⟨it,fp,tn,J,E,e,I2,T,a9,f2,R⟩:=h2;subst e;refine wpAny_newObj_type (x5 λB Y O ab=>?_);dsimp only at Y O ab ⊢;have I3:Inv X pins σ (upd E j.heap.objs.size (.lst [])) {j with heap:=j.heap.push {cls:= .type "list",data:= .seq ([]:List Value).toArray}}:=I2.lnew (its:=[]) (t':=j.toks) .nil (Yn _);have hD:E j.heap.objs.size=none:=I2.fresh;have a0:∀b∈fp,b<j.heap.objs.size:=λb l=>by obtain⟨o,ho,_⟩:=T.obj 0 _ a9 b l;exact Zt ho
 generalize a3:({j with heap:=j.heap.push {cls:= .type "list",data:= .seq ([]:List Value).toArray}}:Shared)=k at I3
 have G:k.heap=j.heap.push {cls:= .type "list",data:= .seq ([]:List Value).toArray}:=by rw[<-a3]
 have bf:k.heap.objs.size=j.heap.objs.size+1:=by rw[G,Zp]
 have f3:∀b∈fp,jZ X pins (upd E j.heap.objs.size (.lst [])) b:=λb l=>⟨by rw[aj (Zr (a0 b l))];exact(f2 b l).1,(f2 b l).2⟩
 have bi:∀b∈fp,b<k.heap.objs.size:=λb l=>by rw[bf];exact Y8 (a0 b l)
 obtain⟨W,⟨m0,w0⟩,bl⟩:=R _ hD;have bm:B.Ns k.heap.objs.size (λ_=>none):=by rw[G];exact Y
 have al:∀b u,k.heap.get? b=some u->B.get? b=some u:=by rw[G];exact O
 have bn:CellsOk B (k.heap.objs.size+1) (cellsFrom (k.heap.objs.size+1) a.names []):=by rw[G];exact ab
 have I4:Inv (ba X a L k (upd E j.heap.objs.size (.lst [])) fp) [] (mt L.length a7 σ) (upd E j.heap.objs.size (.lst [])) {k with heap:=B,toks:=k.toks}:=I3.block S f3 bi bm al bn;have bt:tn 0 B:=T.keep _ _ _ a9 λb l o e=>al b o (by rw[G];exact Z6 _ e)
 have cz:(ba X a L k (upd E j.heap.objs.size (.lst [])) fp).env=compEnvC a (cellsFrom (k.heap.objs.size+1) a.names (j2 X.env a.names [])) k.heap.objs.size X.env:=rfl;have an:∀{H':Hp},(∀b∈fp,H' b=none)->∀b∈fp,jZ (ba X a L k (upd E j.heap.objs.size (.lst [])) fp) [] H' b:=λhn b l=>
  ⟨hn b l,(I4.ok.exf b l).1,I4.ok.exfs b l,.inl l,(I4.ok.exf b l).2,λp hp=>absurd (show p∈([]:List (Addr×Obj))from hp) (by simp)⟩
 have a1:codeAny (model X.prog X.w) X.A (.compLoop (.ListComp au [⟨tg,bI,as,0⟩] a pos) 0 (.ref it) (.ref j.heap.objs.size) (ba X a L k (upd E j.heap.objs.size (.lst [])) fp).env)
  (compPost (model X.prog X.w) X.A X.xe use QQ (.ref j.heap.objs.size) k.heap.objs.size) {k with heap:=B,toks:=k.toks}:=by
  refine codeAny_loop rfl (λn s'=>∃i ys b0 H',Inv (ba X a L k (upd E j.heap.objs.size (.lst [])) fp) [] b0 H' s'/\tn i s'.heap/\(∀b∈fp,H' b=none)/\W i n ys b0 H') ?_ m0 ⟨0,[],_,_,I4,bt,λb l=>(f3 b l).1,w0⟩;rintro n s5 ⟨i,ys,av,U,I5,b1,b2,w5⟩;show wpAny _ X.A ((compTurn (.ListComp au [⟨tg,bI,as,0⟩] a pos) 0 (.ref it) (.ref j.heap.objs.size) (ba X a L k (upd E j.heap.objs.size (.lst [])) fp).env).onRaise (λx=>do noteFrame x (ba X a L k (upd E j.heap.objs.size (.lst [])) fp).env;theTreesLotGoes x)) _ _ s5;refine wpAny_noted ?_;rw[compTurn_list];refine Z2 (wpAny_standAt (Z2 ?_));rcases bl i n ys av U w5 with⟨stop,q⟩|⟨go,step⟩
  ·refine thn (T.done (ba X a L k (upd E j.heap.objs.size (.lst [])) fp) rfl rfl rfl hc i [] s5 av U _ I5 (an b2) b1 stop) λr s6 ⟨hr,I6⟩=>?_
   subst hr;refine Z3 ?_;obtain⟨m6,b6,_⟩:=I6.loc;refine a8 j.heap.objs.size k.heap.objs.size U s6 _ m6 b6 (I2.fpOk (by rw[bf];exact Y1 _) I6.free) (λh' sb=>?_) q;have u6:Un (frs X.stack) fp (upd E j.heap.objs.size (.lst [])) U k.heap s6.heap:=I6.base;have a4:∀b u,k.heap.get? b=some u->b≠k.heap.objs.size:=λb u e=>Zr (Zt e)
   have u7:Un (frs X.stack) fp (upd E j.heap.objs.size (.lst [])) U k.heap h':=⟨λb u e n l hx=>(sb.2 b (a4 b u e)).trans (u6.keep b u e n l hx),λb u e n l hx=>by
    obtain⟨sl,q⟩:=u6.slot b u e n l hx;exact⟨sl,(sb.2 b (a4 b u e)).trans q⟩,u6.free,λb u e hx=>by
    obtain⟨o',q⟩:=u6.there b u e hx;exact⟨o',(sb.2 b (a4 b u e)).trans q⟩,u6.tups,u6.frzs,u6.tbls⟩
   have u8:Un (frs X.stack) fp E (upd E j.heap.objs.size (.lst [])) j.heap k.heap:=Un.laid (λb u e=>by rw[G];exact Z6 _ e) (Zh _) hD;have b7:HOk X.prog X.w U h':=λb u e=>by
    have b3:∀c w,U c=some w->c≠k.heap.objs.size:=λc w q z=>by
     have:U k.heap.objs.size=none:=I6.free;rw[z,this]at q;cases q
    refine(I6.hok b u e).stay (λc w ca q=>(sb.2 c ?_).trans q) (λ_ q=>q) λ_ _ q=>q
    rcases ca with z|z
    ·rw[z];exact b3 b u e
    ·exact b3 c _ z
   exact I2.call' (s':={s6 with heap:=h'}) (ch:=fp) (by show s6.os=j.os;rw[I6.os,<-a3];rfl) (u8.trans u7) b7 I6.bare λb l=>⟨(f2 b l).2.2.2.1,(f2 b l).2.1,(f2 b l).2.2.2.2.1,(f2 b l).2.2.2.2.2⟩
  ·refine thn (T.item (ba X a L k (upd E j.heap.objs.size (.lst [])) fp) rfl rfl rfl hc i [] s5 av U _ I5 (an b2) b1 go) λr s6 ⟨u,hr,h6⟩=>?_
   subst hr;refine Z2 (thn h6 λ_ s7 ⟨x,H7,I7,r7,y7,a5,cd⟩=>?_);have cf:=I7.pinned (an cd) (T.obj _ _ a5);have ac:∀{α:Type} {t:Sem α} {Q1:α->Shared->Prop} {E2:Value->Shared->Prop} {s':Shared},wpAny (model X.prog X.w) X.A t Q1 (λ_ _=>False) s'->wpAny (model X.prog X.w) X.A t Q1 E2 s':=λh=>wpAny_mono h (λ_ _ q=>q) λ_ _ f=>f.elim
   have a2:∀{A:St} {H8:Hp} {s8:Shared},Inv (ba X a L k (upd E j.heap.objs.size (.lst [])) fp) ([] ++jd fp s7.heap) A H8 s8->
    Inv (ba X a L k (upd E j.heap.objs.size (.lst [])) fp) [] A H8 s8/\tn (i+1) s8.heap/\∀b∈fp,H8 b=none:=λ{A H8 s8} I8=>by
    refine⟨I8.unpinned,T.keep _ _ _ a5 λb l o e=>(I8.pin (b,o) (Yd _ (Yd _ (dR l e)))).1,λb l=>?_⟩;obtain⟨o,e,d⟩:=T.obj _ _ a5 b l;exact(I8.pin (b,o) (Yd _ (Yd _ (dR l e)))).2.1
   refine Z2 (ac (thn (hg k _ fp _ s7 av H7 x u _ cf r7 (step x H7 y7)) λ_ s8 ⟨A,H8,I8,q8⟩=>?_));refine Z2 (ac (thn (ht k _ fp _ s8 A H8 _ I8 q8) λb s9 ⟨H9,I9,q9⟩=>?_));cases b with
   | false=>
     obtain⟨m',hm,w9⟩:=(by simpa using q9:∃m',m'<n/\W (i+1) m' ys A H9)
     obtain⟨J1,J2,J3⟩:=a2 I9;exact Z3 ⟨rfl,m',hm,i+1,ys,A,H9,J1,J2,J3,w9⟩
   | true=>
     have q9:=(by simpa using q9:te A H9 λy U=>∃zs m',U j.heap.objs.size=some (.lst zs)/\zs.length<sizeLine/\m'<n/\W (i+1) m' (ys++[y]) A (upd U j.heap.objs.size (.lst (zs++[y]))))
     refine Z2 (Z2 (ac (thn (he k _ fp _ s9 A H9 _ I9 q9) λu2 cl ⟨y,b4,co,cp,zs,m',hz,hl,hm,cq⟩=>?_)));refine Z2 (ac (thn (mn _ cl A b4 (.ref j.heap.objs.size) [y] (.ref j.heap.objs.size) [u2] (λv H'=>v= .non/\H'=upd b4 j.heap.objs.size (.lst (zs++[y]))) co rfl (.cons cp .nil) ⟨_,rfl,_,hz,hl,rfl,rfl⟩) λu3 c0 ⟨v3,c1,cs,c2,c3,ct⟩=>?_));subst ct;obtain⟨J1,J2,J3⟩:=a2 cs;exact Z3 (Z3 ⟨rfl,m',hm,i+1,ys++[y],A,_,J1,J2,J3,cq⟩)
 have a6:codeAny (model X.prog X.w) X.A (.compStart (.ListComp au [⟨tg,bI,as,0⟩] a pos) 0 (.ref it) (.ref j.heap.objs.size) (ba X a L k (upd E j.heap.objs.size (.lst [])) fp).env)
  (compPost (model X.prog X.w) X.A X.xe use QQ (.ref j.heap.objs.size) k.heap.objs.size) {k with heap:=B,toks:=k.toks}:=
  codeAny_compStart_list a1 (T.self _ 0 _ _ _ bt a1)
 subst a3;exact a6
theorem x6{X:Cx}(S:aC X a d e)(l:X.calm=true)(hi:PI X j bI n)
 (o:∀b c fp,PG (ba X a d b c fp) j g) (p:∀b c fp,PTs (ba X a d b c fp) f r) (t:∀b c fp,PE (ba X a d b c fp) i u)
 (v:∀x,foldedSetIterable bI X.env x=pure x):
 PE X (.ListComp i [⟨j,bI,f,0⟩] a pos) (mw n d.length e g r u):=by
 intro pins s A H Q I h;rw[eval_ListComp];exact my S l hi o p t v I h λD C w B E m y _ k q=>⟨m,y,λh' z=>⟨.ref D,w,k h' z,rfl,q⟩⟩
noncomputable def Its(z:Str):It:=⟨λi _=>i<z.cps.size,λi H x a=>a=H/\∃c,z.cps[i]? =some c/\x= .str ⟨#[c]⟩,λi _=>z.cps.size<=i⟩
theorem qt{P:Program}{K:PySem.W.Frag}(it:Addr)(z:Str)(t:Tok):ng P w K tg (Its z) [it] it (λi h=>h.IsStrIter it "str_ascii_iterator" z t i) where
 mem:=by simp
 obj:=λi h st b hb=>by
  have e:b=it:=by simpa using hb
  subst e;obtain⟨o,e,c,d⟩:=st;exact⟨o,e,λv z=>by rw[d]at z;cases z⟩
 keep:=λi h h' st k=>by
  obtain⟨o,e,r⟩:=st;exact⟨o,k it (by simp) o e,r⟩
 item:=by
  intro X hP hw hK hc i pins s σ H E I hf st hg;subst hP hw hK;have hlt:i<z.cps.size:=hg;obtain⟨f0,f1,f2,f3,f4,f5⟩:=hf it (by simp);refine wpAny_pyNext_ascii_item st (c:=z.cps[i]) (by simp[hlt]) λh' st' sb=>?_
  have I1:Inv X pins σ H {s with heap:=h',toks:=s.toks+1}:=I.turned (t':=s.toks+1) (λb o hb e=>(sb.2 b hb).trans e) f0 f1 f3 f4 f5;obtain⟨o,e,c,d⟩:=id st';exact⟨_,rfl,oN (s:={s with heap:=h',toks:=s.toks+1}) e c d (by decide) ⟨.str ⟨#[z.cps[i]]⟩,H,I1,⟨_,rfl⟩,⟨rfl,_,by simp[hlt],rfl⟩,st',λb hb=>(hf b hb).1⟩⟩
 done:=by
  intro X hP hw hK hc i pins s σ H E I hf st hg;subst hP hw hK;have hle:z.cps.size<=i:=hg;obtain⟨f0,f1,f2,f3,f4,f5⟩:=hf it (by simp);exact wpAny_pyNext_ascii_end (I.ok.hd hc) st (by simp[hle]) λh' eb=>⟨rfl,I.turned (t':=s.toks) (λb o hb e=>eb b o hb e) f0 f1 f3 f4 f5⟩
 self:=λ_ _ _ _ _ st h=>wpAny_pyIter_striter_ascii st h
theorem tE{P:Program}{K:PySem.W.Frag}(it:Addr)(z:Str)(t:Tok):ng P w K tg (Its z) [it] it (λi h=>h.IsStrIter it "str_iterator" z t i) where
 mem:=by simp
 obj:=λi h st b hb=>by
  have e:b=it:=by simpa using hb
  subst e;obtain⟨o,e,c,d⟩:=st;exact⟨o,e,λv z=>by rw[d]at z;cases z⟩
 keep:=λi h h' st k=>by
  obtain⟨o,e,r⟩:=st;exact⟨o,k it (by simp) o e,r⟩
 item:=by
  intro X hP hw hK hc i pins s σ H E I hf st hg;subst hP hw hK;have hlt:i<z.cps.size:=hg;obtain⟨f0,f1,f2,f3,f4,f5⟩:=hf it (by simp);refine wpAny_pyNext_wide_item st (c:=z.cps[i]) (by simp[hlt]) λh' st' sb=>?_
  have I1:Inv X pins σ H {s with heap:=h',toks:=s.toks+1}:=I.turned (t':=s.toks+1) (λb o hb e=>(sb.2 b hb).trans e) f0 f1 f3 f4 f5;obtain⟨o,e,c,d⟩:=id st';exact⟨_,rfl,oN (s:={s with heap:=h',toks:=s.toks+1}) e c d (by decide) ⟨.str ⟨#[z.cps[i]]⟩,H,I1,⟨_,rfl⟩,⟨rfl,_,by simp[hlt],rfl⟩,st',λb hb=>(hf b hb).1⟩⟩
 done:=by
  intro X hP hw hK hc i pins s σ H E I hf st hg;subst hP hw hK;have hle:z.cps.size<=i:=hg;obtain⟨f0,f1,f2,f3,f4,f5⟩:=hf it (by simp);exact wpAny_pyNext_wide_end (I.ok.hd hc) st (by simp[hle]) λh' eb=>⟨rfl,I.turned (t':=s.toks) (λb o hb e=>eb b o hb e) f0 f1 f3 f4 f5⟩
 self:=λ_ _ _ _ _ st h=>wpAny_pyIter_striter_wide st h
def CK(D:Addr)(n i:Nat)(Pv:Nat->List V->St->Hp->Prop)(ys:List V)(b:St)(y:V)(H:Hp):Prop:=
 ∃zs a,H D=some (.lst zs)/\zs.length<sizeLine/\a<n-i/\(a=n-(i+1)/\i+1<=n/\Pv (i+1) (ys++[y]) b (upd H D (.lst (zs++[y]))))
def CN(n i:Nat)(Pv:Nat->List V->St->Hp->Prop)(ys:List V)(b:St)(H:Hp):Prop:=∃a,a<n-i/\(a=n-(i+1)/\i+1<=n/\Pv (i+1) ys b H)
theorem CK.mk{Pv:Nat->List V->St->Hp->Prop}(hi:i<n)(a:H D=some (.lst zs))(b:zs.length<sizeLine)(p:Pv (i+1) (ys++[y]) c (upd H D (.lst (zs++[y])))):CK D n i Pv ys c y H:=
 ⟨zs,n-(i+1),a,b,by lia,rfl,hi,p⟩
theorem CN.mk{Pv:Nat->List V->St->Hp->Prop}(hi:i<n)(p:Pv (i+1) ys a H):CN n i Pv ys a H:=⟨n-(i+1),by lia,rfl,hi,p⟩
theorem bQ{J:It}{g:TG}{t:TT}{u:TE}{v:Hp->Prop}(Pv:Nat->List V->St->Hp->Prop)(w:Pv 0 [] c H)(r:∀i ys c H,i<n->Pv i ys c H->J.go i H)(d:∀ys c H,Pv n ys c H->J.stop n H)
 (z:∀i ys c H,i<n->Pv i ys c H->∀x f,J.yld i H x f->g x c f λa s=>t a s λb h=>if b=true then u a h λy q=>CK D n i Pv ys a y q else CN n i Pv ys a h) (A:∀ys c H,Pv n ys c H->v H):
 ∃W:Nat->Nat->List V->St->Hp->Prop,(∃m,W 0 m [] c H)/\∀i m ys j k,W i m ys j k->(J.stop i k/\v k)\/
  (J.go i k/\∀x f,J.yld i k x f->g x j f λa s=>t a s λb h=>if b=true then u a h λy q=>∃zs l,q D=some (.lst zs)/\zs.length<sizeLine/\l<m/\W (i+1) l (ys++[y]) a (upd q D (.lst (zs++[y])))
   else∃l,l<m/\W (i+1) l ys a h):=by
 refine⟨λi m ys c H=>m=n-i/\i<=n/\Pv i ys c H,⟨n,by simp,Yn _,w⟩,?_⟩;rintro i m ys c H ⟨rfl,hi,p⟩;by_cases o:i<n
 ·exact .inr ⟨r i ys c H o p,λx f y=>z i ys c H o p x f y⟩
 ·have e:i=n:=by lia
  subst e;exact .inl ⟨d ys c H p,A ys c H p⟩
theorem rQ:∀{bs:List Bool} {us:List Value} {i:Nat} {v:Value},aD (bs.map V.bl) us->us[i]? =some v->∃b,bs[i]? =some b/\v= .bool b
 |[],_,_,_,r,e=>by rw[map_nil]at r;cases r;simp at e
 | b::bs,_,i,v,r,e=>by
   rw[Ya]at r;cases r with
   | cons a c=>
     cases(show _=Value.bool b from a);cases i with
     | zero=>simp at e;exact⟨b,rfl,e.symm⟩
     | succ i=>
       obtain⟨d,f,g⟩:=rQ (bs:=bs) (i:=i) c (by simpa using e);exact⟨d,by simpa using f,g⟩
theorem kN(bs:List Bool):(List.range bs.length).all (λi=>bs.getD i false)=bs.all id:=by
 have e:(List.range bs.length).map (λi=>bs.getD i false)=bs:=by
  apply ext_getElem
  ·simp
  ·intro i b a;simp[Zb,a]
 have:(List.range bs.length).all (λi=>bs.getD i false)=((List.range bs.length).map λi=>bs.getD i false).all id:=by rw[all_map];rfl
 rw[this,e]
theorem vS{X:Cx}(g:X.calm=true):cn X (.builtin "all") (λxs H Q=>∃(p:Addr) (bs:List Bool),xs=[.ref p]/\SqL X.K H p (bs.map V.bl)/\Q (.bl (bs.all id)) H):=by
 intro pins s y H xs us Q I r h;obtain⟨p,bs,rfl,j,q⟩:=h;obtain⟨u,rfl,k⟩:=eL r;cases k;obtain⟨its,f,pl,z⟩:=I.list j;have l:X.A.in1.handled=none:=I.ok.hd g;have m:p<s.heap.objs.size:=by obtain⟨o,n,_⟩:=pl.isList;exact Zt n
 have a:bs.length=its.toArray.size:=by rw[Zo,<-f.length,Z5]
 refine call_all_walk (wpAny_pyIter_list pl.isList ?_);refine⟨s.heap.objs.size,[s.heap.objs.size,p],[s.heap.objs.size],its.toArray.size,_,_,λi=>bs.getD i false,rfl,Walks.list (A:=X.A.in1) l _ p (Zr m) its.toArray,⟨⟨_,Zi _ rfl,rfl,rfl⟩,pl.isList.push _⟩,?_,?_⟩
 ·intro i v s' t B w c;obtain⟨b,d,rfl⟩:=rQ (i:=i) f (by simpa using w);have e:bs.getD i false=b:=by rw[Zb,d];rfl
  have c:t (bs.getD i false) s':=c;rw[e]at c;exact wpAny_truthy_bool c
 ·intro h' tk x;rw[<-a,kN];refine⟨.bl (bs.all id),H,I.kept (t':=tk) λb o e=>x b o ?_ (Z6 _ e),rfl,q⟩;have:=Zt e;intro d;exact absurd (Yu d) (Zr this)
def Al:V->Option Int->Option Int->Hp->VK->Prop:=λx lo hi H Q=>∃z,x= .str z/\z.length<=sizeLine/\Q (.str (Txt.slice z lo hi)) H
theorem Am{X:Cx}:SlR X Al:=by
 intro pins s m H x v n o lo hi p Q I f b pl d h;obtain⟨z,rfl,g,q⟩:=h;obtain⟨t,rfl⟩:=f;refine⟨"str",_,F.slot_str_getitem.lookup,typeIs_str _ _ _,?_⟩;have a:∀l u,(Txt.slice z l u).length<=sizeLine:=λl u=>Y2 (Txt.slice_le z _ _) g
 cases pl with
 | none=>
   cases d with
   | none=>exact wpAny_getItem_str_slice (l:=none) (u:=none) (st:=none) b rfl (post_val_or_str ⟨a _ _,λt' k=>⟨.str (Txt.slice z _ _),H,I.tok k,⟨_,rfl⟩,q⟩⟩)
   | int j c=>exact wpAny_getItem_str_slice (l:=none) (u:=some (j,c)) (st:=none) b rfl (post_val_or_str ⟨a _ _,λt' k=>⟨.str (Txt.slice z _ _),H,I.tok k,⟨_,rfl⟩,q⟩⟩)
 | int i e=>
   cases d with
   | none=>exact wpAny_getItem_str_slice (l:=some (i,e)) (u:=none) (st:=none) b rfl (post_val_or_str ⟨a _ _,λt' k=>⟨.str (Txt.slice z _ _),H,I.tok k,⟨_,rfl⟩,q⟩⟩)
   | int j c=>exact wpAny_getItem_str_slice (l:=some (i,e)) (u:=some (j,c)) (st:=none) b rfl (post_val_or_str ⟨a _ _,λt' k=>⟨.str (Txt.slice z _ _),H,I.tok k,⟨_,rfl⟩,q⟩⟩)
theorem e8:∀{ss:List Str} {us:List Value},aD (ss.map V.str) us->StrsAre us ss
 |[],_,r=>by rw[map_nil]at r;cases r;exact .nil
 | x::ss,_,r=>by
   rw[Ya]at r;cases r with
   | cons a b=>
     obtain⟨t,e⟩:=a;subst e;exact .cons x t (e8 b)
theorem mz:∀{ss:List Str} {us:List Value},StrsAre us ss->aD (ss.map V.str) us
 | _,_,.nil=> .nil
 | _,_,.cons x t h=> .cons ⟨t,rfl⟩ (mz h)
def rR(K:PySem.W.Frag):V->List V->Hp->VK->Prop:=λx vs H Q=>∃(z:Str) (l:Addr) (ss:List Str),x= .str z/\vs=[.ref l]/\SqL K H l (ss.map V.str)/\(ss.map (·.length)).sum+ss.length*z.length<=16777216/\Q (.str (Txt.join z ss)) H
theorem x8{X:Cx}:MtM X "str.join" (rR X.K):=by
 intro pins s e H x vs v us Q I a b h;obtain⟨z,l,ss,rfl,rfl,c,hw,q⟩:=h;obtain⟨t,rfl⟩:=a;obtain⟨u,rfl,d⟩:=b.one;cases d;obtain⟨its,r,pl,f⟩:=I.list c;exact PyProof.Rows.join_list pl.isList (e8 r) hw λt' k=>⟨.str (Txt.join z ss),H,I.tok k,⟨_,rfl⟩,q⟩
theorem vT{X:Cx}:cn X (.builtin "isinstance") (λxs H Q=>∃x n t b,xs=[x,.ty n]/\fS X.K H x t/\kitOne X.K t (.type n)=some b/\Q (.bl b) H):=by
 intro pins s f H xs us Q I r h;obtain⟨x,n,t,b,rfl,ty,e,q⟩:=h;obtain⟨u,c,rfl,d,a⟩:=kG r;cases(show c=Value.type n from a);exact sX I d ty e λtk=>⟨.bl b,H,I.tok tk,rfl,q⟩
theorem mB(z:Str)(c i:Nat):Builtin.Str.subAt z ⟨#[c]⟩ i=decide (z.cps[i]? =some c):=by
 unfold Builtin.Str.subAt;have f:(⟨#[c]⟩:Str).length=1:=rfl;rw[f];by_cases hi:i<z.cps.size
 ·have e:z.cps.extract i (i+1)= #[z.cps[i]]:=by
   apply Array.ext
   ·simp;lia
   ·intro j b a;simp at a;subst a;simp
  show(z.cps.extract i (i+1)== #[c])=_;rw[e,Array.getElem?_eq_getElem hi];by_cases d:z.cps[i]=c
  ·subst d;simp
  ·have b:(#[z.cps[i]]== #[c])=false:=by simpa using d
   rw[b];exact(Zg λq=>d (Z9 q)).symm
 ·have e:z.cps.extract i (i+1)= #[]:=by
   apply Array.ext
   ·simp;lia
   ·intro j b a;simp at a
  show(z.cps.extract i (i+1)== #[c])=_;rw[e,Array.getElem?_eq_none (by lia)];simp
theorem kO(z:Str)(c:Nat):(!(Builtin.Str.occurrences z ⟨#[c]⟩ 0 z.length 1).isEmpty)=decide (c∈z.cps.toList):=by
 rcases StrLaws.occ_head z ⟨#[c]⟩ 1 (Zh _)with⟨e,d⟩|⟨i,r,e,f,_⟩
 ·rw[e];refine(Zg λg=>?_).symm;obtain⟨j,h,k⟩:=List.mem_iff_getElem.mp g;have a:j<z.cps.size:=by simpa using h
  refine d j ⟨?_,?_⟩
  ·show j+1<=z.cps.size;lia
  ·rw[mB];exact Ze (by rw[Array.getElem?_eq_getElem a];simpa using k)
 ·rw[e];refine(Ze ?_).symm;have b:=f.2;rw[mB]at b;have l:=Zn b;have:=Array.mem_of_getElem? l;simpa using this
section
variable{X:Cx}
abbrev yY:R2:=λx y H Q=>∃i j,x= .str i/\y= .str j/\i.length+j.length<=sizeLine/\Q (.str (i++j)) H
abbrev rS:R2:=λx y H Q=>rI0 (λi j=> .int (i+j)) x y H Q\/(yY x y H Q\/Ag x y H Q)
theorem x9:OpR X (binaryOp .Add) rS:=vo.or (qh.or Ah)
abbrev vU:R2:=λx y H Q=>rI vm (λi j=> .int (i*j)) x y H Q\/Ai x y H Q
theorem ya:OpR X (binaryOp .Mult) vU:=vp.or Aj
abbrev An:R2:=rEq
theorem Ao:OpR X (compareOp .Eq) An:=Bg
abbrev Ap:R2:=rNe
theorem Aq:OpR X (compareOp .NotEq) Ap:=yV
abbrev Bo:R2:=λx y H Q=>∃i j,x= .str i/\y= .str j/\Q (.bl (!(Builtin.Str.occurrences j i 0 j.length 1).isEmpty)) H
abbrev yb(K:PySem.W.Frag):R2:=λx y H Q=>Bo x y H Q\/rIn K false x y H Q
theorem Ar:OpR X (compareOp .In) (yb X.K):=sT.or tf
abbrev yc(K:PySem.W.Frag):V->Option Int->Option Int->Hp->VK->Prop:=λx lo hi H Q=>Ad K x lo hi H Q\/(z6 K x lo hi H Q\/Al x lo hi H Q)
theorem As:SlR X (yc X.K):=xR.or (z7.or Am)
theorem yd:zH X rM:=vJ
def ye(K:PySem.W.Frag)(c:TE):TI:=λd H R=>c d H λx b=>(∃a,x= .ref a/\(∃xs,SqL K b a xs)/\R (Itl K a) b)\/(∃a,x= .ref a/\(∃xs,SqT K b a xs)/\R (Itt K a) b)\/∃z,x= .str z/\R (Its z) b
theorem At(m:PE X l n):PI X B l (ye X.K n):=by
 intro pins s r H R I h;refine thn (m pins s r H _ I h) λv c ⟨x,g,f,i,u⟩=>?_
 have d:∀b∈[c.heap.objs.size],jZ X pins g b:=λb w=>by
  have e:b=c.heap.objs.size:=by simpa using w
  subst e;exact f.fpOk (Zh _) (f.hok.fresh (Zh _))
 rcases u with⟨a,e,⟨xs,j⟩,q⟩|⟨a,e,⟨xs,j⟩,q⟩|⟨z,e,q⟩
 ·subst e;cases i;obtain⟨its,y,p,A⟩:=f.list j;refine wpAny_pyIter_list p.isList ?_;exact⟨c.heap.objs.size,[c.heap.objs.size],_,_,g,rfl,f.kept (t':=c.toks) λb o e=>Z6 _ e,sP a _,⟨_,Zi _ rfl,rfl,rfl⟩,d,q⟩
 ·subst e;cases i;obtain⟨its,y,p,A⟩:=f.tuple j;refine wpAny_pyIter_tuple (show c.heap.IsTuple a its.toArray from p) ?_;exact⟨c.heap.objs.size,[c.heap.objs.size],_,_,g,rfl,f.kept (t':=c.toks) λb o e=>Z6 _ e,qe a _,⟨_,Zi _ rfl,rfl,rfl⟩,d,q⟩
 ·subst e;obtain⟨t,rfl⟩:=i;cases k:z.cps.all (·<128)with
  | true=>
    refine wpAny_pyIter_ascii k ?_;exact⟨c.heap.objs.size,[c.heap.objs.size],_,_,g,rfl,f.kept (t':=c.toks) λb o e=>Z6 _ e,qt _ z t,⟨_,Zi _ rfl,rfl,rfl⟩,d,q⟩
  | false=>
    refine wpAny_pyIter_wide k ?_;exact⟨c.heap.objs.size,[c.heap.objs.size],_,_,g,rfl,f.kept (t':=c.toks) λb o e=>Z6 _ e,tE _ z t,⟨_,Zi _ rfl,rfl,rfl⟩,d,q⟩
end
noncomputable def ci(c:Scope)(N:List Str)(a:Scope)(d:List Str)(b:List (Nat×Nat)):Bool:=
 decide (a.kind= .function)&&a.names.all (λy=>(decide (y.2≠ .cell)||decide (a.names.lookup y.1=some .cell))&&(decide (y.2≠ .local)||decide (a.names.lookup y.1=some .local))&&(decide (y.2≠ .free)||decide (c.names.lookup y.1=some .cell)||decide (c.names.lookup y.1=some .free)))&&
  b.all λp=>match d[p.1]? with
   | some x=>decide (N[p.2]? =some x)&&decide (a.names.lookup x=some .free)
   | none=>false
theorem aC.of{X:Cx}(h:ci X.env.scope X.N a g c=true):aC X a g c:=by
 unfold ci at h;rw[Zu,Zu,all_eq_true,all_eq_true]at h;obtain⟨⟨i,d⟩,j⟩:=h;refine⟨Zn i,λy b f=>?_,λy b f=>?_,λy b k=>?_,λp l=>?_⟩
 ·have:=d y b;simp only[Zu,or_eq_true,decide_eq_true_eq]at this;exact this.1.1.resolve_left λq=>q f
 ·have:=d y b;simp only[Zu,or_eq_true,decide_eq_true_eq]at this;exact this.1.2.resolve_left λq=>q f
 ·have:=d y b;simp only[Zu,or_eq_true,decide_eq_true_eq]at this;rcases this.2 with(q|q)|q
  ·exact absurd k q
  ·exact .inl q
  ·exact .inr q
 ·have:=j p l;cases e:g[p.1]? with
  | none=>rw[e]at this;cases this
  | some x=>
    rw[e]at this;simp only[Zu,decide_eq_true_eq]at this;exact⟨x,rfl,this.1,this.2⟩
structure Gv (mg:Str->Option Value) (x:Str) (v:V):Prop where
 ex:∃u,mg x=some u/\aG v u
theorem yZ{X:Cx}(g:Gv X.mg x v)(a:Gl X x)(b:(x==("__debug__":Str))=false):PE X (.Name x pos) (tC v):=by
 obtain⟨u,h,r⟩:=g.ex;exact xw a h r b
structure Cal (P:Program) (w:World) (K:PySem.W.Frag) (mg:Str->Option Value) (base:Heap) (k:Nat) (x:Str) (ps:List Str) (sp:Sp):Prop where
 ex:∃f fd,eB P w K mg base CX0 k f fd ps sp/\mg x=some (.ref f)/\keepIn K (.ref f)=true/\dF K fd ps []
structure aW (K:PySem.W.Frag) (mg:Str->Option Value) (x:Str) (st:Stmt) (ps:List Str):Prop where
 ex:∃f fd,Fun K x x st f fd/\mg x=some (.ref f)/\dF K fd ps []
theorem aW.cal{P:Program}{K:PySem.W.Frag}{st:Stmt}(D:aW K mg x st ps)(S:ar N ps (ah st))(len:∀vs H Q E,sp vs H Q E->vs.length=ps.length)
 (a:∀(f:Addr) (b:Value) (A:Around) (outer:List Env) (s:Shared) (H:Hp) (vs:List V) (Q:VK) (E:XK),bN k (A.deeper (envOfC x (ah st) s.heap.objs.size f b))->sp vs H Q E->
  ∃t,PSs (dS CX0 P w K mg base N x (ah st) f b A outer s H E).nox (bx st) t/\t {nx:=λ_ c=>Q .non c,rt:=Q} (eM N vs) H):Cal P w K mg base (k+1) x ps sp:=by
 obtain⟨f,d,F,e,g⟩:=D.ex;exact⟨f,d,F.ok S len (a f),e,F.kp,g⟩
theorem Au{X:Cx}(C:Cal X.prog X.w X.K X.mg X.base j x ps sp)(g:bN k X.A)(h:Gl X x)(i:eC CX0 X E0)(l:PA X (e::a) t)(b:j<=k)
 (c:(x==("__debug__":Str))=false) (m:starEach (e::a) X.env=(false,eval e X.env)::starEach a X.env) (d:(backTo pos (starEach a X.env)).any (·.1)=false):
 PE X (.Call (.Name x p) (e::a) [] pos) (l9 sp [] E0 t):=by
 obtain⟨f,r,F,n,o,q⟩:=C.ex;exact rJ F (g.mono b) h n o q .nil i l c m d
theorem Av{K:PySem.W.Frag}{h:Heap}{st:Stmt}{kV e g d ct:Value}(X:K.In h)(G:h.Ns mainGlobals mg)
 (a:nsIn K mainGlobals x=some (some (.ref f))) (l:K.lookup f=some ⟨m,od,.func (fnOf x x (cj st) (bx st) (ah st) .none kV e g i d ct),j⟩) (c:codeIn K d x=true) (k:keepIn K (.ref f)=true)
 (b:∀(kV e g:Value) (i:Option Addr) (d ct:Value) (us:List Value),us.length=ps.length->bindArgs (fnOf x x (cj st) (bx st) (ah st) .none kV e g i d ct) ⟨us,[]⟩=pure (ps.zip us)):aW K mg x st ps:=
 ⟨f,_,e7 l c k,mg_of X G a,(e7 l c k).binds b⟩
theorem iO{K:PySem.W.Frag}{h:Heap}(X:K.In h)(G:h.Ns mainGlobals mg)(a:nsIn K mainGlobals x=some (some u))(r:aG v u):Gv mg x v:=⟨u,mg_of X G a,r⟩
theorem jk(h:∀nx:St->Hp->Prop,(∀a b,u D a b->nx a b)->t {D with nx:=nx} c H):bA t u D c H:=h _ λ_ _ x=>x
theorem aF(h:∀a:It->Hp->Prop,(∀J f,(∃W:Nat->Nat->St->Hp->Prop,(∃m,W 0 m b f)/\∀i m b H,W i m b H->
 (J.stop i H/\D.nx b H)\/(J.go i H/\∃N:St->Hp->Prop,(∀c d,N c d->∃j,j<m/\W (i+1) j c d)/\∀x d,J.yld i H x d->g x b d λe k=>l {D with nx:=N,ct:=N,bk:=D.nx} e k))->a J f)->n b H a):vk n g l D b H:=h _ λ_ _ x=>x
theorem aR(h:∀c:It->Hp->Prop,(∀J j,(∀D,j D=none->∃W:Nat->Nat->List V->St->Hp->Prop,
 (∃m,W 0 m [] (mt n k l) (upd j D (.lst [])))/\∀i m ys d e,W i m ys d e->(J.stop i e/\Q (.ref D) e)\/
  (J.go i e/\∀x o,J.yld i e x o->g x d o λa r=>s a r λb p=>if b=true then t a p λy q=>∃zs f,q D=some (.lst zs)/\zs.length<sizeLine/\f<m/\W (i+1) f (ys++[y]) a (upd q D (.lst (zs++[y])))
   else∃f,f<m/\W (i+1) f ys a p))->c J j)->u l H c):mw u n k g s t l H Q:=h _ λ_ _ x=>x
section
variable{X:Cx}{K:PySem.W.Frag}
theorem Aw(h:X.K=K):OpR X (compareOp .In) (yb K):=by subst h;exact Ar
theorem slK(h:X.K=K):SlR X (yc K):=by subst h;exact As
theorem tF(h:X.K=K):cn X (.builtin "len") (λxs H Q=>∃x n,xs=[x]/\xK K x H n/\Q (.int n) H):=by subst h;exact vz
theorem tG(h:X.K=K)(a:X.calm=true):cn X (.builtin "all") (λxs H Q=>∃(p:Addr) (bs:List Bool),xs=[.ref p]/\SqL K H p (bs.map V.bl)/\Q (.bl (bs.all id)) H):=by subst h;exact vS a
theorem tH(h:X.K=K):cn X (.builtin "isinstance") (λxs H Q=>∃x n t b,xs=[x,.ty n]/\fS K H x t/\kitOne K t (.type n)=some b/\Q (.bl b) H):=by subst h;exact vT
theorem qu(h:X.K=K):cn X (.type "list") (λxs H Q=>∃p ys,xs=[.ref p]/\(SqL K H p ys\/SqT K H p ys)/\∀l,H l=none->Q (.ref l) (upd H l (.lst ys))):=by subst h;exact nA
theorem vV(h:X.K=K):MtR X "str.join" (rR K):=by subst h;exact x8
theorem tI(h:X.K=K)(d:PE X a e)(f:∀b,isTrue a X.env b=(do let v<-b;standAt a.pos;holding [v] (truthy v))):PT X a (λg H Q=>e g H λx c=>∃k,vw K x c k/\Q k c):=by subst h;exact vx d f
theorem yf(h:X.K=K)(a:PE X l b):PI X c l (ye K b):=by subst h;exact At a
variable{o e:Expr}{es:List Expr}{to:TE}{t:TA}{name:Str}{apos cpos:Pos}{T id:String}{r:V->List V->Hp->VK->Prop}
theorem Ax(h:X.K=K)(g:PlainAttrs T)(slot:Slot T name id)(f:typeOf (.builtin id)=pure (.type "method_descriptor"))(i:MtR X id r)(j:PE X o to)(k:PA X (e::es) t)
 (b:attributeBase o name X.env (eval o X.env)=eval o X.env)
 (d:((backTo cpos (starEach (e::es) X.env)).all (λx=>!x.1)&&(backToKw cpos (keywordEach [] X.env)).all (λx=>x.1.isSome)
  && decide ((e::es).length+([]:List Keyword).length+(if([]:List Keyword).isEmpty then 0 else 1)<30))=true)
 (c:(apos.endLine==cpos.line)=true) (l:starEach (e::es) X.env=(false,eval e X.env)::starEach es X.env) (a:(backTo cpos (starEach es X.env)).any (·.1)=false):
 PE X (.Call (.Attribute o name apos) (e::es) [] cpos) (tBM K T r to t):=by
 subst h;exact Bk g slot f i j k b d c l a
end
structure qv (z TI TO i1 i2:Addr):Prop where
 TIz:TI≠z
 TOz:TO≠z
 i1z:i1≠z
 i2z:i2≠z
 TITO:TI≠TO
 TIi1:TI≠i1
 TIi2:TI≠i2
 TOi1:TO≠i1
 TOi2:TO≠i2
 i12:i1≠i2
section
variable{prog:Program}{w:World}{A:Around}{E:Value->Shared->Prop}{s:Shared}{z TI TO i1 i2:Addr}{fp1 fp2:List Addr}{n1 n2 i:Nat}{P1 P2:Nat->Value->Prop}{St1 St2:Nat->Heap->Prop}
theorem vW{Q:Value->Shared->Prop}(D1:Draws prog w A i1 fp1 n1 P1 St1)(D2:Draws prog w A i2 fp2 n2 P2 St2)(D:qv z TI TO i1 i2)(T:∀b∈fp1,b≠z/\b≠TO/\b≠i2)(m2:∀b∈fp2,b≠z/\b≠TO/\b≠i1)
 (U:IsZip s.heap z TI TO .none) (ac:IsPair s.heap TI (.ref i1) (.ref i2)) (al:IsPair s.heap TO a b) (h1:St1 i s.heap) (h2:St2 i s.heap) (l1:i<n1) (l2:i<n2)
 (hQ:∀x y h' tk,P1 i x->P2 i y->IsZip h' z TI TO (rawInt s.heap.objs.size)->IsPair h' TO x y->St1 (i+1) h'->St2 (i+1) h'->IsPair h' s.heap.objs.size x y->
  (∀c o,c≠z->c≠TO->c≠i1->c≠i2->s.heap.get? c=some o->h'.get? c=some o)->Q (.ref s.heap.objs.size) {s with heap:=h',toks:=tk}):
 wpAny (model prog w) A (Builtin.«zip.__next__» ⟨[.ref z],[]⟩) (λan s'=>∃v,an= .done (.ret v)/\Q v s') E s:=by
 have r:∀{k h h' c},(∀b∈fp1,b≠c)->SameBut c h h'->St1 k h->St1 k h':=λhc sb st=>D1.frame _ _ _ st λb d o e=>(sb.2 b (hc b d)).trans e
 have t:∀{k h h' c},(∀b∈fp2,b≠c)->SameBut c h h'->St2 k h->St2 k h':=λhc sb st=>D2.frame _ _ _ st λb d o e=>(sb.2 b (hc b d)).trans e
 show wpAny _ _ (field (.ref z) 2>>= _) _ _ _;refine Z2 (wpAny_field U rfl (x:= .bool false) rfl ?_);show wpAny _ _ (field (.ref z) 3>>= _) _ _ _;refine Z2 (wpAny_field U rfl (x:= .ref TI) rfl (Z2 (wpAny_seqItems ac rfl ?_)));show wpAny _ _ (Builtin.SmallTypes.ownedTupleIsFree (.ref z)>>= _) _ _ _;refine Z2 ?_;unfold Builtin.SmallTypes.ownedTupleIsFree;refine Z2 (wpAny_field U rfl (x:= .none) rfl (Z3 ?_));simp only[if_true];refine Z2 (wpAny_rule (Z2 (wpAny_field U rfl (x:= .ref TO) rfl (Z2 (wpAny_setField_rec U (by simp) λg1 L p=>?_)))));replace L:IsZip g1 z TI TO .ellipsis:=L;refine Z2 ?_;simp only[List.zipIdx_cons,List.zipIdx_nil,forIn_cons,forIn_nil];refine Z2 (Z2 (wpAny_onRaise ?_));show wpAny _ _ (Builtin.SmallTypes.nextOf (.ref i1)>>= _) _ _ _;refine Z2 (D1.item i _ _ _ l1 (r (λb d=>(T b d).1) p h1) λx g2 as px au j=>Z3 ?_);replace j:SameBut i1 g1 g2:=j;have H:IsPair g2 TO a b:=(j.2 _ D.TOi1).trans ((p.2 _ D.TOz).trans al);refine Z2 (wpAny_seqItems H rfl (Z2 (wpAny_updateSeq_pair (s:={s with heap:=g2,toks:=as}) H λg3 q l=>?_)));replace q:IsPair g3 TO x b:=q;replace l:SameBut TO g2 g3:=l;refine Z2 (wpAny_letGo (Z3 (Z2 (Z2 (wpAny_onRaise ?_)))));show wpAny _ _ (Builtin.SmallTypes.nextOf (.ref i2)>>= _) _ _ _;have av:St2 i g3:=t (λb d=>(m2 b d).2.1) l (t (λb d=>(m2 b d).2.2) j (t (λb d=>(m2 b d).1) p h2));refine Z2 (D2.item i _ _ _ l2 av λy g4 u py a0 m=>Z3 ?_);replace m:SameBut i2 g3 g4:=m;have I:IsPair g4 TO x b:=(m.2 _ D.TOi2).trans q;refine Z2 (wpAny_seqItems I rfl (Z2 (wpAny_updateSeq_pair (s:={s with heap:=g4,toks:=u}) I λf g n=>?_)));replace g:IsPair f TO x y:=g;replace n:SameBut TO g4 f:=n;refine Z2 (wpAny_letGo (Z3 (Z3 (Z2 (wpAny_seqItems g rfl (Z2 (wpAny_newTuple ?_)))))));have hsz:f.objs.size=s.heap.objs.size:=by rw[n.1,m.1,l.1,j.1,p.1]
 have Y:IsZip f z TI TO .ellipsis:=(n.2 _ D.TOz.symm).trans ((m.2 _ D.i2z.symm).trans ((l.2 _ D.TOz.symm).trans ((j.2 _ D.i1z.symm).trans L)));have a1:∀c o,c≠z->c≠TO->c≠i1->c≠i2->s.heap.get? c=some o->f.get? c=some o:=λc o M c2 c3 c4 e=>
  (n.2 c c2).trans ((m.2 c c4).trans ((l.2 c c2).trans ((j.2 c c3).trans ((p.2 c M).trans e))))
 have a2:St1 (i+1) f:=r (λb d=>(T b d).2.1) n (r (λb d=>(T b d).2.2) m (r (λb d=>(T b d).2.1) l au));have a3:St2 (i+1) f:=t (λb d=>(m2 b d).2.1) n a0;have J:z<f.objs.size:=Zt Y;have a4:TO<f.objs.size:=Zt g;show wpAny _ _ (Builtin.SmallTypes.ownedTupleHandOut (.ref z) (.ref f.objs.size)>>= _) _ _ _;refine Z2 ?_;unfold Builtin.SmallTypes.ownedTupleHandOut;have a5:IsZip (f.push {cls:= .type "tuple",data:= .seq #[x,y]}) z TI TO .ellipsis:=Z6 _ Y;refine Z2 (wpAny_setField_rec (s:={s with heap:=f.push {cls:= .type "tuple",data:= .seq #[x,y]},toks:=u}) a5 (by simp) λg7 N B=>?_);replace N:IsZip g7 z TI TO (rawInt f.objs.size):=N;replace B:SameBut z (f.push {cls:= .type "tuple",data:= .seq #[x,y]}) g7:=B;refine wpAny_setField_rec (s:={s with heap:=g7,toks:=u}) N (by simp) λO C G=>?_
 replace C:IsZip O z TI TO (rawInt f.objs.size):=C;replace G:SameBut z g7 O:=G;have up:∀c o,c≠z->f.get? c=some o->O.get? c=some o:=λc o M e=>(G.2 c M).trans ((B.2 c M).trans (Z6 _ e))
 have ab:IsPair O f.objs.size x y:=(G.2 _ (Yh J)).trans ((B.2 _ (Yh J)).trans (Zi _ rfl));have a6:St1 (i+1) O:=D1.frame _ _ _ a2 λb d o e=>up b o (T b d).1 e
 have a7:St2 (i+1) O:=D2.frame _ _ _ a3 λb d o e=>up b o (m2 b d).1 e
 rw[hsz]at C ab;refine Z3 ⟨_,rfl,?_⟩;show Q (.ref f.objs.size) _;rw[hsz];exact hQ x y O u px py C (up _ _ D.TOz g) a6 a7 ab λc o M c2 c3 c4 e=>up c o M (a1 c o M c2 c3 c4 e)
theorem vX(J:Draws prog w A i1 fp1 n1 P1 St1)(D2:Draws prog w A i2 fp2 n2 P2 St2)(D:qv z TI TO i1 i2)(m1:∀b∈fp1,b≠z/\b≠TO/\b≠i2)(m2:∀b∈fp2,b≠z/\b≠TO/\b≠i1)
 (y:IsZip s.heap z TI TO .none) (L:IsPair s.heap TI (.ref i1) (.ref i2)) (M:IsPair s.heap TO a b) (h1:St1 i s.heap) (h2:St2 i s.heap) (l1:i<=n1) (l2:i<=n2) (ab:i=n1\/i=n2)
 (hE:∀h' e tk,(∀c o,c≠z->c≠TO->c≠i1->c≠i2->s.heap.get? c=some o->h'.get? c=some o)->(∃o,h'.get? e=some o/\o.cls= .type "StopIteration")->E (.ref e) {s with heap:=h',toks:=tk}):
 wpAny (model prog w) A (Builtin.«zip.__next__» ⟨[.ref z],[]⟩) Q E s:=by
 have N:∀{k h h' c},(∀b∈fp1,b≠c)->SameBut c h h'->St1 k h->St1 k h':=λO T st=>J.frame _ _ _ st λb j o e=>(T.2 b (O b j)).trans e
 have t:∀{k h h' c},(∀b∈fp2,b≠c)->SameBut c h h'->St2 k h->St2 k h':=λO T st=>D2.frame _ _ _ st λb j o e=>(T.2 b (O b j)).trans e
 show wpAny _ _ (field (.ref z) 2>>= _) _ _ _;refine Z2 (wpAny_field y rfl (x:= .bool false) rfl ?_);show wpAny _ _ (field (.ref z) 3>>= _) _ _ _;refine Z2 (wpAny_field y rfl (x:= .ref TI) rfl (Z2 (wpAny_seqItems L rfl ?_)));show wpAny _ _ (Builtin.SmallTypes.ownedTupleIsFree (.ref z)>>= _) _ _ _;refine Z2 ?_;unfold Builtin.SmallTypes.ownedTupleIsFree;refine Z2 (wpAny_field y rfl (x:= .none) rfl (Z3 ?_));simp only[if_true];refine Z2 (wpAny_rule (Z2 (wpAny_field y rfl (x:= .ref TO) rfl (Z2 (wpAny_setField_rec y (by simp) λg1 n l=>?_)))));replace n:IsZip g1 z TI TO .ellipsis:=n;refine Z2 ?_;simp only[List.zipIdx_cons,List.zipIdx_nil,forIn_cons,forIn_nil];refine Z2 (Z2 (wpAny_onRaise ?_));show wpAny _ _ (Builtin.SmallTypes.nextOf (.ref i1)>>= _) _ _ _;have B:St1 i g1:=N (λb j=>(m1 b j).1) l h1;by_cases c1:i<n1
 ·have e2:i=n2:=by lia
  refine Z2 (J.item i _ _ _ c1 B λx g2 u px al d=>Z3 ?_);replace d:SameBut i1 g1 g2:=d;have r:IsPair g2 TO a b:=(d.2 _ D.TOi1).trans ((l.2 _ D.TOz).trans M);refine Z2 (wpAny_seqItems r rfl (Z2 (wpAny_updateSeq_pair (s:={s with heap:=g2,toks:=u}) r λg3 ac f=>?_)));replace f:SameBut TO g2 g3:=f;refine Z2 (wpAny_letGo (Z3 (Z2 (Z2 (wpAny_onRaise ?_)))));show wpAny _ _ (Builtin.SmallTypes.nextOf (.ref i2)>>= _) _ _ _;have U:St2 n2 g3:=e2▸t (λb j=>(m2 b j).2.1) f (t (λb j=>(m2 b j).2.2) d (t (λb j=>(m2 b j).1) l h2));refine Z2 (D2.done _ _ _ U λI e p Y=>?_);replace p:Heap.ExtBut i2 g3 I:=p;obtain⟨oe,g,m⟩:=Y;have C:IsZip I z TI TO .ellipsis:=p _ _ D.i2z.symm ((f.2 _ D.TOz.symm).trans ((d.2 _ D.i1z.symm).trans n));have v:e≠z:=λx=>by subst x;rw[C]at g;cases g;simp at m
  refine wpAny_setField_rec (s:={s with heap:=I,toks:=u}) C (by simp) λg5 _ q=>?_
  replace q:SameBut z I g5:=q;exact hE g5 e u (λc o G d2 d3 d4 x=>(q.2 c G).trans (p c o d4 ((f.2 c d2).trans ((d.2 c d3).trans ((l.2 c G).trans x))))) ⟨oe,(q.2 e v).trans g,m⟩
 ·have e1:i=n1:=by lia
  refine Z2 (J.done _ _ _ (e1▸B) λg2 e d Y=>?_);replace d:Heap.ExtBut i1 g1 g2:=d;obtain⟨oe,g,m⟩:=Y;have H:IsZip g2 z TI TO .ellipsis:=d _ _ D.i1z.symm n;have v:e≠z:=λx=>by subst x;rw[H]at g;cases g;simp at m
  refine wpAny_setField_rec (s:={s with heap:=g2}) H (by simp) λg3 _ f=>?_
  replace f:SameBut z g2 g3:=f;exact hE g3 e s.toks (λc o G _ d3 _ x=>(f.2 c G).trans (d c o d3 ((l.2 c G).trans x))) ⟨oe,(f.2 e v).trans g,m⟩
end
noncomputable def Itz(x y:Str):It:=⟨λi _=>i<x.cps.size/\i<y.cps.size,λi H v a=>∃c d T,x.cps[i]? =some c/\y.cps[i]? =some d/\H T=none/\v= .ref T/\a=upd H T (.tup [.str ⟨#[c]⟩,.str ⟨#[d]⟩]),
 λi _=>i<=x.cps.size/\i<=y.cps.size/\(i=x.cps.size\/i=y.cps.size)⟩
def ZSt(z TI TO c d:Addr)(e f:Nat->Heap->Prop)(i:Nat)(h:Heap):Prop:=IsZip h z TI TO .none/\IsPair h TI (.ref c) (.ref d)/\(∃a b,IsPair h TO a b)/\e i h/\f i h
theorem gE(prog:Program)(w:World)(x:Str)(t:Tok)(it:Addr):∀A:Around,A.handled=none->
 Draws prog w A it [it] x.cps.size (λi v=>∃c u,x.cps[i]? =some c/\v= .str ⟨#[c]⟩ u) (λi h=>h.IsStrIter it (strIterType x) x t i):=by
 intro A a;unfold strIterType;cases b:x.cps.all (·<128)with
 | true=>exact Draws.strAscii a it x t
 | false=>exact Draws.strWide a it x t
theorem vY{P:Program}{K:PySem.W.Frag}(z TI TO i1 i2:Addr)(x y:Str)(t u:Tok)(D:qv z TI TO i1 i2):
 ng P w K (.Tuple elts kt tp) (Itz x y) [z,TI,TO,i1,i2] z (ZSt z TI TO i1 i2 (λi h=>h.IsStrIter i1 (strIterType x) x t i) (λi h=>h.IsStrIter i2 (strIterType y) y u i)) where
 mem:=by simp
 obj:=λi h st b hb=>by
  obtain⟨hz,hTI,⟨a,c,hTO⟩,⟨o1,e1,_,d1⟩,o2,e2,_,d2⟩:=st;simp only[Ye,Yj,or_false]at hb;rcases hb with rfl|rfl|rfl|rfl|rfl
  ·exact⟨_,hz,λv q=>nomatch q⟩
  ·exact⟨_,hTI,λv q=>nomatch q⟩
  ·exact⟨_,hTO,λv q=>nomatch q⟩
  ·exact⟨o1,e1,λv q=>by rw[d1]at q;cases q⟩
  ·exact⟨o2,e2,λv q=>by rw[d2]at q;cases q⟩
 keep:=λi h h' st k=>by
  obtain⟨hz,hTI,⟨a,c,hTO⟩,⟨o1,e1,r1⟩,o2,e2,r2⟩:=st;exact⟨k z (by simp) _ hz,k TI (by simp) _ hTI,⟨a,c,k TO (by simp) _ hTO⟩,⟨o1,k i1 (by simp) _ e1,r1⟩,o2,k i2 (by simp) _ e2,r2⟩
 item:=by
  intro X hP hw hK hc i pins s σ H E I hf st hg;subst hP hw hK;obtain⟨hz,hTI,⟨a,c,hTO⟩,h1,h2⟩:=st;obtain⟨g1,g2⟩:i<x.cps.size/\i<y.cps.size:=hg;have hT:s.TypeIs (.ref z) "zip":=⟨_,hz,rfl⟩
  have hh:X.A.in1.handled=none:=I.ok.hd hc;unfold pyNext;refine Z2 (wpAny_attempt (wpAny_callSpecial?_slot (name:=Str.ofString "__next__") hT F.slot_zip_next (wpAny_call_entry F.slot_zip_next hT F.entry_zip_next
   (vW (gE _ _ x t i1 _ hh) (gE _ _ y u i2 _ hh) D (λb hb=>by rw[show b=i1 by simpa using hb];exact⟨D.i1z,Ne.symm D.TOi1,D.i12⟩) (λb hb=>by rw[show b=i2 by simpa using hb];exact⟨D.i2z,Ne.symm D.TOi2,Ne.symm D.i12⟩) hz hTI hTO h1 h2 g1 g2 λv1 v2 h' tk p1 p2 a1 a2 a3 a4 a5 hk=>Z3 ?_) (F.args_zip_next_1 _))))
  obtain⟨c1,u1,e1,rfl⟩:=p1;obtain⟨c2,u2,e2,rfl⟩:=p2;refine⟨_,rfl,wpAny_letOwnedTupleGo_zip (s:={s with heap:=h',toks:=tk}) a1 λh'' hz'' sb=>?_⟩;replace sb:SameBut z h' h'':=sb;have zlt:z<s.heap.objs.size:=Zt hz;have Tne:s.heap.objs.size≠z:=Yh zlt;have hT2:h''.get? s.heap.objs.size=some {cls:= .type "tuple",data:= .seq #[.str ⟨#[c1]⟩ u1,.str ⟨#[c2]⟩ u2]}:=(sb.2 _ Tne).trans a5;have turn1:Inv X pins σ H {s with heap:=h'',toks:=tk}:=by
   have nit:∀b v,H b=some v->b∉[z,TI,TO,i1,i2]:=λb v e hb=>by rw[(hf b hb).1]at e;cases e
   have kk:∀b o,b∉[z,TI,TO,i1,i2]->s.heap.get? b=some o->h''.get? b=some o:=λb o hb e=>by
    simp only[Ye,Yj,or_false,not_or]at hb;exact(sb.2 b hb.1).trans (hk b o hb.1 hb.2.2.1 hb.2.2.2.1 hb.2.2.2.2 e)
   refine I.step (g':=s.gens) (d':=s.drawn) (ch:=[z,TI,TO,i1,i2]) (λb hb=>⟨(hf b hb).2.2.2.1,(hf b hb).2.1,(hf b hb).2.2.2.2.1,(hf b hb).2.2.2.2.2⟩) (λb o _ _ hc e _=>kk b o hc e) (λb o _ _ hc e _=>⟨o.slots,kk b o hc e⟩) (λ_ _ _ _ n=>n)
    (λb o hc e=>⟨o,kk b o hc e⟩) (λ_ _ e=>e) (λ_ _ _ e=>e) (λb ps e=>⟨#[],by rw[e];simp⟩) (λm hm=>?_) (λb v e=>?_) I.bare
   ·obtain⟨o,es,ep,ho,r⟩:=hm;exact⟨o,es,ep,kk _ o (λhb=>(hf _ hb).2.1 rfl) ho,r⟩
   ·refine(I.hok b v e).stay (λc' v' hc' q=>kk c' v' ?_ q) (λ_ q=>q) λ_ _ q=>q
    rcases hc' with q'|q'
    ·rw[q'];exact nit b v e
    ·exact nit c' _ q'
  have Hn:H s.heap.objs.size=none:=I.fresh;have I2:Inv X pins σ (upd H s.heap.objs.size (.tup [.str ⟨#[c1]⟩,.str ⟨#[c2]⟩])) {s with heap:=h'',toks:=tk}:=by
   have nf:s.heap.objs.size∉X.fs:=I.nofs (Zh _);refine⟨turn1.ok,turn1.os,turn1.bare,?_,turn1.loc,turn1.cell,?_,?_,?_,?_,turn1.len⟩
   ·have lt0:∀b o,X.s₀.heap.get? b=some o->b≠s.heap.objs.size:=λb o e=>Zr (Zf (Zt e) I.sz)
    refine⟨turn1.base.keep,turn1.base.slot,λb o e n hx=>?_,turn1.base.there,λb xs e=>?_,λb o v e=>?_,λb ps e=>?_⟩
    ·rw[aj (lt0 b o e)];exact turn1.base.free b o e n hx
    ·rw[aj (am (turn1.base.tups b xs e) Hn)];exact turn1.base.tups b xs e
    ·rw[aj (am (turn1.base.frzs b o v e) Hn)];exact turn1.base.frzs b o v e
    ·obtain⟨m,q⟩:=turn1.base.tbls b ps e;exact⟨m,by rw[aj (am q Hn)];exact q⟩
   ·rw[aj (Zr I.lt)];exact turn1.free
   ·intro x' c' e;obtain⟨v',q⟩:=I.cell x' c' e;rw[aj (Zr q.lt)];exact turn1.freeC x' c' e
   ·intro p hp;obtain⟨e,n,r⟩:=turn1.pin p hp;refine⟨e,?_,r⟩;rw[aj (Zr (Zt (I.pin p hp).1))];exact n
   ·intro b v e;by_cases hb:b=s.heap.objs.size
    ·subst hb;rw[aa]at e;cases e;exact⟨by show 2<=sizeLine;decide,[.str ⟨#[c1]⟩ u1,.str ⟨#[c2]⟩ u2],.cons ⟨_,rfl⟩ (.cons ⟨_,rfl⟩ .nil),_,hT2,rfl,_,rfl⟩
    ·rw[aj hb]at e;refine(turn1.hok b v e).stay (λ_ _ _ q=>q) (λc' q=>?_) λc' xs q=>?_
     ·rw[aj (am q Hn)];exact q
     ·rw[aj (am q Hn)];exact q
  refine⟨.ref s.heap.objs.size,_,I2,rfl,⟨c1,c2,_,e1,e2,Hn,rfl,rfl⟩,⟨hz'',(sb.2 _ D.TIz).trans (hk _ _ D.TIz D.TITO D.TIi1 D.TIi2 hTI),⟨_,_,(sb.2 _ D.TOz).trans a2⟩,?_,?_⟩,λb hb=>?_⟩
  ·obtain⟨o,e,r⟩:=a3;exact⟨o,(sb.2 _ D.i1z).trans e,r⟩
  ·obtain⟨o,e,r⟩:=a4;exact⟨o,(sb.2 _ D.i2z).trans e,r⟩
  ·have:b<s.heap.objs.size:=by
    simp only[Ye,Yj,or_false]at hb;obtain⟨o1,q1,_⟩:=h1;obtain⟨o2,q2,_⟩:=h2;rcases hb with rfl|rfl|rfl|rfl|rfl
    ·exact Zt hz
    ·exact Zt hTI
    ·exact Zt hTO
    ·exact Zt q1
    ·exact Zt q2
   rw[aj (Zr this)];exact(hf b hb).1
 done:=by
  intro X hP hw hK hc i pins s σ H E I hf st hg;subst hP hw hK;obtain⟨hz,hTI,⟨a,c,hTO⟩,h1,h2⟩:=st;obtain⟨g1,g2,g3⟩:i<=x.cps.size/\i<=y.cps.size/\(i=x.cps.size\/i=y.cps.size):=hg;have hT:s.TypeIs (.ref z) "zip":=⟨_,hz,rfl⟩
  have hh:X.A.in1.handled=none:=I.ok.hd hc;unfold pyNext;refine Z2 (wpAny_attempt (wpAny_callSpecial?_slot (name:=Str.ofString "__next__") hT F.slot_zip_next (wpAny_call_entry F.slot_zip_next hT F.entry_zip_next
   (vX (gE _ _ x t i1 _ hh) (gE _ _ y u i2 _ hh) D (λb hb=>by rw[show b=i1 by simpa using hb];exact⟨D.i1z,Ne.symm D.TOi1,D.i12⟩) (λb hb=>by rw[show b=i2 by simpa using hb];exact⟨D.i2z,Ne.symm D.TOi2,Ne.symm D.i12⟩) hz hTI hTO h1 h2 g1 g2 g3 λh' e tk hk he=>?_) (F.args_zip_next_1 _))))
  obtain⟨o,ho,hco⟩:=he;refine Z2 (wpAny_isInstance (T:="StopIteration") (b:=true) ⟨o,ho,hco⟩ isSubtype_stop (Z3 ⟨rfl,?_⟩));have nit:∀b v,H b=some v->b∉[z,TI,TO,i1,i2]:=λb v e hb=>by rw[(hf b hb).1]at e;cases e
  have kk:∀b o,b∉[z,TI,TO,i1,i2]->s.heap.get? b=some o->h'.get? b=some o:=λb o hb e=>by
   simp only[Ye,Yj,or_false,not_or]at hb;exact hk b o hb.1 hb.2.2.1 hb.2.2.2.1 hb.2.2.2.2 e
  refine I.step (g':=s.gens) (d':=s.drawn) (ch:=[z,TI,TO,i1,i2]) (λb hb=>⟨(hf b hb).2.2.2.1,(hf b hb).2.1,(hf b hb).2.2.2.2.1,(hf b hb).2.2.2.2.2⟩) (λb o _ _ hc e _=>kk b o hc e) (λb o _ _ hc e _=>⟨o.slots,kk b o hc e⟩) (λ_ _ _ _ n=>n)
   (λb o hc e=>⟨o,kk b o hc e⟩) (λ_ _ e=>e) (λ_ _ _ e=>e) (λb ps e=>⟨#[],by rw[e];simp⟩) (λm hm=>?_) (λb v e=>?_) I.bare
  ·obtain⟨o',es,ep,ho',r⟩:=hm;exact⟨o',es,ep,kk _ o' (λhb=>(hf _ hb).2.1 rfl) ho',r⟩
  ·refine(I.hok b v e).stay (λc' v' hc' q=>kk c' v' ?_ q) (λ_ q=>q) λ_ _ q=>q
   rcases hc' with q'|q'
   ·rw[q'];exact nit b v e
   ·exact nit c' _ q'
 self:=λ_ _ _ _ _ st h=>wpAny_pyIter_zip st.1 h
noncomputable def aY:Expr->Bool
 | .Starred _ _=>true
 | _=>false
theorem ay(h:aY e=false):starEach (e::a) env=(false,eval e env)::starEach a env:=by
 cases e<;> first|rfl|exact absurd h (by simp[aY])
theorem cX(h:aY e=false):assignEach (e::a) env=(false,assign e env)::assignEach a env:=by
 cases e<;> first|rfl|exact absurd h (by simp[aY])
theorem dH:∀{a:List Expr},a.any aY=false->(backTo pos (starEach a env)).any (·.1)=false
 |[],_=>rfl
 | e::a,h=>by
   rw[Zv,Yk]at h;rw[ay h.1];have:=dH (pos:=pos) (env:=env) h.2;cases a with
   | nil=>rfl
   | cons c b=>
     simp only[backTo]at this ⊢;simpa using this
theorem rT:∀{a:List Expr},a.any aY=false->(backTo pos (starEach a env)).all (λx=>!x.1)=true
 |[],_=>rfl
 | e::a,h=>by
   rw[Zv,Yk]at h;rw[ay h.1];have:=rT (pos:=pos) (env:=env) h.2;cases a with
   | nil=>rfl
   | cons c b=>
     simp only[backTo]at this ⊢;simpa using this
theorem ip:∀{a:List Expr},a.any aY=false->(assignEach a env).length=a.length/\(assignEach a env).findIdx? (·.1)=none
 |[],_=>⟨rfl,rfl⟩
 | e::a,h=>by
   rw[Zv,Yk]at h;rw[cX h.1];have b:=ip (env:=env) h.2;refine⟨by rw[Zq,Zq,b.1],?_⟩;rw[List.findIdx?_cons,b.2];rfl
noncomputable def dg:Expr->Bool
 | .ListComp _ _ _ _=>true
 | .SetComp _ _ _ _=>true
 | .DictComp _ _ _ _ _=>true
 | _=>false
theorem dU(h:dg e=false):swapsWith e t l env=pure false:=by
 cases e<;> first|rfl|exact absurd h (by simp[dg])
noncomputable def qw:Expr->Bool
 | .Tuple _ _ _=>true
 | _=>false
theorem qx(h:qw e=false):swappedStores [t] e env=pure none:=by
 cases e with
 | Tuple _ _ _=>exact absurd h (by simp[qw])
 | _=>cases t<;> rfl
noncomputable def gF:Expr->Bool
 | .Call _ _ _ _=>true
 | _=>false
theorem fW(h:gF o=false):attributeBase o a env w=w:=by
 cases o<;> first|rfl|exact absurd h (by simp[gF])
noncomputable def kP:Expr->Bool
 | .Set _ _ _=>true
 | _=>false
theorem jl(h:kP e=false)(x:Value):foldedSetIterable e env x=pure x:=by
 cases e<;> first|rfl|exact absurd h (by simp[kP])
noncomputable def kQ:Expr->Bool
 | .Slice _ _ _ _=>true
 | _=>false
theorem qy(h:kQ i=false)(v:Value):assign (.Subscript o i pos) env v=(do
 let a<-holding [v] (eval o env)
 let b<-holding [v,a] (eval i env)
 standAt pos
 holding [v,a,b] (setItem a b v)
 release [v,a,b] []):=by
 cases i<;> first|rfl|exact absurd h (by simp[kQ])
structure QE (X:Cx) (e:Expr) (t:TE):Prop where
 h:PE X e t
structure QT (X:Cx) (e:Expr) (t:TT):Prop where
 h:PT X e t
structure QW (X:Cx) (e:Expr) (t:TT):Prop where
 h:PW X e t
structure QA (X:Cx) (es:List Expr) (t:TA):Prop where
 h:PA X es t
structure QS (X:Cx) (st:Stmt) (t:TS):Prop where
 h:PS X st t
structure QSs (X:Cx) (st:List Stmt) (t:TS):Prop where
 h:PSs X st t
structure QG (X:Cx) (e:Expr) (t:TG):Prop where
 h:PG X e t
structure QGs (X:Cx) (es:List Expr) (t:TGs):Prop where
 h:PGs X es t
structure QI (X:Cx) (tg bI:Expr) (wi:TI):Prop where
 h:PI X tg bI wi
structure QO (X:Cx) (e:Option Expr) (t:TO):Prop where
 h:PO X e t
structure QTs (X:Cx) (ifs:List Expr) (t:TT):Prop where
 h:PTs X ifs t
structure OpQ (X:Cx) (f:Value->Value->Sem Value) (r:R2):Prop where
 h:OpR X f r
structure cN (X:Cx) (f:Value) (r:List V->Hp->VK->Prop):Prop where
 h:cn X f r
structure MtQ (X:Cx) (id:String) (r:V->List V->Hp->VK->Prop):Prop where
 h:MtR X id r
section
variable{X:Cx}{K:PySem.W.Frag}{pos:Pos}
theorem ak{i j}:QE X (.Constant (.int i) j pos) (tC (.int i)):=⟨zu⟩
theorem eBl{b j}:QE X (.Constant (.bool b) j pos) (tC (.bl b)):=⟨A7⟩
theorem fX{j}:QE X (.Constant .none j pos) (tC .non):=⟨zv⟩
theorem ax{x j}:QE X (.Constant (.str x) j pos) (tC (.str x)):=⟨zw⟩
theorem vn(i:Nat)(b:X.N[i]? =some x)(c:Vis X.env.scope x)(d:(x==("__debug__":Str))=false)(a:(x==("__classdict__":Str))=false):QE X (.Name x pos) (gZ i):=⟨u4 b c d a⟩
theorem gvE(g:Gv X.mg x v)(a:Gl X x)(b:(x==("__debug__":Str))=false):QE X (.Name x pos) (tC v):=⟨yZ g a b⟩
theorem blE(a:Gl X x)(b:X.mg x=none)(c:bootBuiltins x=some u)(r:aG v u)(d:(x==("__name__":Str))=false)(f:(x==("__debug__":Str))=false):QE X (.Name x pos) (tC v):=
 ⟨xx a b c r (λe=>by subst e;cases d) f⟩
theorem af:QA X [] iL:=⟨zZ⟩
theorem paE(a:aY e=false)(b:QE X e c)(d:QA X f t):QA X (e::f) (bR c t):=⟨xM b.h d.h (ay a)⟩
theorem calE(C:Cal X.prog X.w X.K X.mg X.base j x ps sp)(f:bN k X.A)(g:Gl X x)(a:Nat.ble j k=true)
 (b:(x==("__debug__":Str))=false) (c:(e::d).any aY=false) (h:QA X (e::d) t):
 QE X (.Call (.Name x p) (e::d) [] pos) (l9 sp [] E0 t):=by
 rw[Zv,Yk]at c;exact⟨Au C f g Bn h.h (Nat.le_of_ble_eq_true a) b (ay c.1) (dH c.2)⟩
theorem cbE{id:String}(d:cN X (.builtin id) r)(f:Gl X x)(g:X.mg x=none)(h:bootBuiltins x=some (.builtin id))(i:(x==("__name__":Str))=false)(a:(x==("__debug__":Str))=false)
 (b:(e::c).any aY=false) (j:QA X (e::c) t):QE X (.Call (.Name x p) (e::c) [] pos) (tCB r t):=by
 rw[Zv,Yk]at b;exact⟨vE d.h f g h j.h (λe=>by subst e;cases i) a (ay b.1) (dH b.2)⟩
theorem ctE(d:cN X (.type T) r)(f:Gl X x)(g:X.mg x=none)(h:bootBuiltins x=some (.type T))(i:(x==("__name__":Str))=false)(a:(x==("__debug__":Str))=false)
 (b:(e::c).any aY=false) (j:QA X (e::c) t):QE X (.Call (.Name x p) (e::c) [] pos) (tCB r t):=by
 rw[Zv,Yk]at b;exact⟨sZ d.h f g h j.h (λe=>by subst e;cases i) a (ay b.1) (dH b.2)⟩
theorem bmE{T id:String}(h:X.K=K)(m:PlainAttrs T)(slot:Slot T name id)(j:typeOf (.builtin id)=pure (.type "method_descriptor"))(n:MtQ X id r)
 (b:gF o=false) (a:(e::d).any aY=false) (k:Nat.blt (e::d).length 30=true) (c:(f.endLine==g.line)=true) (p:QE X o q) (s:QA X (e::d) t):
 QE X (.Call (.Attribute o name f) (e::d) [] g) (tBM K T r q t):=by
 have l:=a;rw[Zv,Yk]at l;refine⟨Ax h m slot j n.h p.h s.h (fW b) ?_ c (ay l.1) (dH l.2)⟩;rw[rT a];have i:(e::d).length<30:=Nat.blt_eq.mp k;have:decide ((e::d).length+([]:List Keyword).length+(if([]:List Keyword).isEmpty then 0 else 1)<30)=true:=Ze (by simpa using i);rw[this];rfl
theorem eO(b:Gl X "range")(c:X.mg "range"=none)(d:aY a=false)(e:QA X [a] f):QI X g (.Call (.Name "range" p) [a] [] pos) (vj f):=⟨sQ b c e.h (ay d)⟩
theorem fY(h:X.K=K)(a:QE X l b):QI X c l (ye K b):=⟨yf h a.h⟩
section
variable{a b c:Expr}{ta tb tc:TE}{op op':CmpOp}{r r':R2}
theorem nH(e:OpQ X (compareOp op) r)(d:OpQ X (compareOp op') r')(f:lastMarks [op,op'] [b,c]=false)(g:QE X a ta)(h:QE X b tb)(i:QE X c tc):QE X (.Compare a [op,op'] [b,c] pos) (kE r r' ta tb tc):=⟨vt e.h d.h g.h h.h i.h f⟩
theorem vZ(e:OpQ X (compareOp op) r)(d:OpQ X (compareOp op') r')(f:lastMarks [op,op'] [b,c]=false)(g:QE X a ta)(h:QE X b tb)(i:QE X c tc):QT X (.Compare a [op,op'] [b,c] pos) (oO (kE r r' ta tb tc)):=⟨vv e.h d.h g.h h.h i.h f⟩
theorem hZ(d:OpQ X (compareOp op) r)(e:behindInMarks op b=false)(f:QE X a ta)(g:QE X b tb):QE X (.Compare a [op] [b] pos) (tOp r ta tb):=⟨xI d.h f.h g.h e⟩
theorem bF(d:OpQ X (compareOp op) r)(e:behindInMarks op b=false)(f:QE X a ta)(g:QE X b tb):QT X (.Compare a [op] [b] pos) (oO (tOp r ta tb)):=⟨xJ d.h f.h g.h e⟩
theorem opE{op:Operator}(d:OpQ X (binaryOp op) r)(e:QE X a ta)(f:QE X b tb):QE X (.BinOp a op b pos) (tOp r ta tb):=⟨Bc d.h e.h f.h⟩
theorem oU(d:QE X a ta):QE X (.UnaryOp .USub a pos) (tUn (rU λi=> .int (-i)) ta):=⟨Bd zT d.h⟩
theorem slE{lo hi:Option Expr}(h:X.K=K)(d:QE X a ta)(e:QO X lo f)(g:QO X hi i):QE X (.Subscript a (.Slice lo hi none j) pos) (tSl (yc K) ta f i):=⟨vH (slK h) d.h e.h g.h⟩
theorem noO:QO X none ni:=⟨xO⟩
theorem fZ(h:QE X a ta):QO X (some a) (vG ta):=⟨xP h.h⟩
theorem kR{op}(h:QE X a ta):QE X (.BoolOp op [a] pos) ta:=⟨zD h.h⟩
theorem j3{rest:List Expr}(d:QE X a ta)(e:QE X (.BoolOp .And (b::rest) pos) tb):QE X (.BoolOp .And (a::b::rest) pos) (u9 ta tb):=⟨zE d.h e.h⟩
theorem orV{rest:List Expr}(d:QE X a ta)(e:QE X (.BoolOp .Or (b::rest) pos) tb):QE X (.BoolOp .Or (a::b::rest) pos) (zC ta tb):=⟨Ba d.h e.h⟩
theorem bB(h:QA X d t):QE X (.List d pos) (nh t):=⟨z3 h.h⟩
theorem aE{d}(h:QA X e t):QE X (.Tuple e d pos) (jh t):=⟨z1 h.h⟩
theorem oV:QE X (.Dict [] [] pos) nG:=⟨vR⟩
variable{tA tB':TT}{rest:List Expr}
theorem bU(d:QT X a tA):QT X (.UnaryOp .Not a pos) (zy tA):=⟨zB d.h⟩
theorem jR(d:QT X a tA):QW X (.BoolOp .And [a] pos) tA:=⟨xz d.h⟩
theorem dI(d:QT X a tA):QW X (.BoolOp .Or [a] pos) tA:=⟨zz d.h⟩
theorem kS(d:QT X a tA)(e:QW X (.BoolOp .And (b::rest) pos) tB'):QW X (.BoolOp .And (a::b::rest) pos) (xy tA tB'):=⟨zA d.h e.h⟩
theorem orW(d:QT X a tA)(e:QW X (.BoolOp .Or (b::rest) pos) tB'):QW X (.BoolOp .Or (a::b::rest) pos) (tOr tA tB'):=⟨A9 d.h e.h⟩
theorem wT(h:QW X a tA):QT X a tA:=⟨PW.pt h.h⟩
theorem bG(h:X.K=K)(f:∀d,isTrue a X.env d=(do let v<-d;standAt a.pos;holding [v] (truthy v)))(g:QE X a ta):QT X a (λi H Q=>ta i H λx e=>∃k,vw K x e k/\Q k e):=⟨tI h g.h f⟩
theorem jm:QTs X [] xY:=⟨xZ⟩
theorem v4(h:QT X c tA):QTs X [c] tA:=⟨x4 h.h⟩
end
theorem fG(S:aC X c d e)(j:X.calm=true)(k:kP bI=false)(hi:QI X i bI l)
 (m:∀a b fp,QG (ba X c d a b fp) i g) (n:∀a b fp,QTs (ba X c d a b fp) f o) (p:∀a b fp,QE (ba X c d a b fp) h q):
 QE X (.ListComp h [⟨i,bI,f,0⟩] c pos) (mw l d.length e g o q):=⟨x6 S j hi.h (λa b fp=>(m a b fp).h) (λa b fp=>(n a b fp).h) (λa b fp=>(p a b fp).h) (jl k)⟩
theorem aI:QSs X [] va:=⟨xA⟩
theorem ag{st:Stmt}{rest:List Stmt}(a:QS X st t)(b:QSs X rest u):QSs X (st::rest) (bA t u):=⟨vb a.h b.h⟩
theorem ao{st:Stmt}(a:QS X st t):QSs X [st] t:=⟨xB a.h⟩
theorem ifS(d:QT X c e)(f:QSs X a t)(g:QSs X b u):QS X (.If c a b pos) (m9 e t u):=⟨Bb d.h f.h g.h⟩
theorem aM(a:QE X e b):QS X (.Return (some e) pos) (jY b):=⟨zF a.h⟩
theorem nI{st:Stmt}:QS X st vd:=⟨ve⟩
theorem ef(c:PassesOwn (model X.prog X.w) X.A X.env X.xe)(d:X.calm=true)(e:kP bI=false)(hi:QI X b bI f)(h:QG X b g)(i:QSs X a j):
 QS X (.For b bI a [] pos) (vk f g j):=⟨zN c d hi.h h.h i.h (jl e)⟩
theorem Ay(i:Nat)(b:X.N.Nodup)(hi:X.N[i]? =some x)(c:Loc X.env.scope x)(d:X.fn x=true\/X.env.scope.names.lookup x=some .local)(f:dg e=false)(g:QE X e h):
 QS X (.Assign [.Name x a] e pos) (iK h (fF i)):=⟨vh b hi c g.h (dU f) d⟩
theorem cM(a:dg e=false)(b:QE X e c):QS X (.Expr e pos) (kD c):=⟨xC b.h (dU a)⟩
theorem qz(c:dg e=false)(hw:qw e=false)(a:aY b=false)(d:QE X e f)(h:QG X b g):QS X (.Assign [b] e pos) (iK f g):=
 ⟨zM d.h h.h (dU c) (qx hw) (by rw[cX a];rfl)⟩
theorem mC(i:Nat)(a:X.N.Nodup)(hi:X.N[i]? =some x)(b:Loc X.env.scope x)(c:X.fn x=true\/X.env.scope.names.lookup x=some .local):QG X (.Name x pos) (fF i):=⟨xD a hi b c⟩
theorem cU:QGs X [] zI:=⟨xE⟩
theorem gsE(a:aY e=false)(b:QG X e t)(c:QGs X d u):QGs X (e::d) (vf t u):=⟨vg b.h c.h (by rw[cX a];rfl)⟩
theorem fN(c:X.K=K)(d:X.calm=true)(b:a.any aY=false)(h:QGs X a t):QG X (.Tuple a k pos) (xF K a.length t):=by
 subst c;exact⟨zJ d h.h (ip b).1 (ip b).2⟩
theorem Bp(a:kQ i=false)(b:QE X o c)(hi:QE X i d):QG X (.Subscript o i pos) (zK c d rM):=⟨zL b.h hi.h yd (qy a)⟩
theorem bS:OpQ X (binaryOp .Add) rS:=⟨x9⟩
theorem mD:OpQ X (binaryOp .Sub) (rI0 λi j=> .int (i-j)):=⟨zQ⟩
theorem kT:OpQ X (binaryOp .Mult) vU:=⟨ya⟩
theorem bC:OpQ X (binaryOp .Mod) (rI (λ_ j=>0<j) λi j=> .int (i%j)):=⟨zR⟩
theorem cr:OpQ X (binaryOp .FloorDiv) (rI Bf λi j=> .int (i/j)):=⟨xG⟩
theorem cV:OpQ X (compareOp .Eq) An:=⟨Ao⟩
theorem cW:OpQ X (compareOp .NotEq) Ap:=⟨Aq⟩
theorem v5:OpQ X (compareOp .Lt) (rI0 λi j=> .bl (decide (i<j))):=⟨Bh⟩
theorem j5:OpQ X (compareOp .LtE) (rI0 λi j=> .bl (decide (i<=j))):=⟨Bi⟩
theorem tJ:OpQ X (compareOp .Gt) (rI0 λi j=> .bl (decide (j<i))):=⟨Bj⟩
theorem Bq:OpQ X (compareOp .Is) (λx y H Q=>y= .non/\Q (.bl (decide (x= .non))) H):=⟨zV⟩
theorem Az:OpQ X (compareOp .IsNot) (λx y H Q=>y= .non/\Q (.bl (!decide (x= .non))) H):=⟨xH⟩
theorem nJ(h:X.K=K):OpQ X (compareOp .In) (yb K):=⟨Aw h⟩
abbrev rV:R2:=λx y H Q=>∃i j,x= .str i/\y= .str j/\Q (.bl (!(!(Builtin.Str.occurrences j i 0 j.length 1).isEmpty))) H
abbrev rW(K:PySem.W.Frag):R2:=λx y H Q=>rV x y H Q\/rIn K true x y H Q
theorem nK(h:X.K=K):OpQ X (compareOp .NotIn) (rW K):=by subst h;exact⟨nu.or nt⟩
theorem bH(h:X.K=K):cN X (.builtin "len") (λxs H Q=>∃x n,xs=[x]/\xK K x H n/\Q (.int n) H):=⟨tF h⟩
theorem oW(h:X.K=K)(a:X.calm=true):cN X (.builtin "all") (λxs H Q=>∃(p:Addr) (bs:List Bool),xs=[.ref p]/\SqL K H p (bs.map V.bl)/\Q (.bl (bs.all id)) H):=⟨tG h a⟩
theorem y0(a:X.calm=true):cN X (.builtin "max") (λxs H Q=>∃i j,xs=[.int i,.int j]/\Q (.int (if j>i then j else i)) H):=⟨sU a⟩
theorem Br(a:X.calm=true):cN X (.builtin "min") (λxs H Q=>∃i j,xs=[.int i,.int j]/\Q (.int (if j<i then j else i)) H):=⟨sV a⟩
theorem cw(h:X.K=K):cN X (.builtin "isinstance") (λxs H Q=>∃x n t b,xs=[x,.ty n]/\fS K H x t/\kitOne K t (.type n)=some b/\Q (.bl b) H):=⟨tH h⟩
theorem y3:cN X (.type "int") (λxs H Q=>(∃i,xs=[.int i]/\Q (.int i) H)\/∃k,xs=[.bl k]/\Q (.int (if k then 1 else 0)) H):=⟨sW⟩
theorem nM(h:X.K=K):cN X (.type "list") (λxs H Q=>∃p ys,xs=[.ref p]/\(SqL K H p ys\/SqT K H p ys)/\∀l,H l=none->Q (.ref l) (upd H l (.lst ys))):=⟨qu h⟩
theorem cx:MtQ X "list.append" nB:=⟨mn⟩
theorem oX:MtQ X "list.extend" nC:=⟨tj⟩
theorem kU(h:X.K=K):MtQ X "str.join" (rR K):=⟨vV h⟩
end
open PySem PySem.Spec PyProof.Rows PySem.SeqAt
section
variable{X:Cx}{pins:List (Addr×Obj)}{σ:St}{H:Hp}{s:Shared}{h':Heap}{tk:Nat}{fp:List Addr}
theorem Inv.moved(I:Inv X pins σ H s)(c:∀b∈fp,jZ X pins H b)(d:∀b o,b∉fp->s.heap.get? b=some o->h'.get? b=some o):Inv X pins σ H {s with heap:=h',toks:=tk}:=by
 have f:∀b v,H b=some v->b∉fp:=λb v e a=>by rw[(c b a).1]at e;cases e
 refine I.step (g':=s.gens) (d':=s.drawn) (ch:=fp) (λb a=>⟨(c b a).2.2.2.1,(c b a).2.1,(c b a).2.2.2.2.1,(c b a).2.2.2.2.2⟩) (λb o _ _ g e _=>d b o g e) (λb o _ _ g e _=>⟨o.slots,d b o g e⟩) (λ_ _ _ _ n=>n)
  (λb o g e=>⟨o,d b o g e⟩) (λ_ _ e=>e) (λ_ _ _ e=>e) (λb ps e=>⟨#[],by rw[e];simp⟩) (λm k=>?_) (λb v e=>?_) I.bare
 ·obtain⟨o,l,p,t,r⟩:=k;exact⟨o,l,p,d _ o (λa=>(c _ a).2.1 rfl) t,r⟩
 ·refine(I.hok b v e).stay (λj u h q=>d j u ?_ q) (λ_ q=>q) λ_ _ q=>q
  rcases h with i|i
  ·rw[i];exact f b v e
  ·exact f j _ i
theorem Inv.stood(I:Inv X pins σ H s)(J:Inv X pins σ H {s with heap:=h',toks:=tk})(c:s.heap.objs.size<=a)(new:bg X.prog X.w (upd H a o) h' a o):Inv X pins σ (upd H a o) {s with heap:=h',toks:=tk}:=by
 have d:H a=none:=I.hok.fresh c;have g:∀b o,X.s₀.heap.get? b=some o->b≠a:=λb o e=>Zr (Zf (Zf (Zt e) I.sz) c)
 refine⟨J.ok,J.os,J.bare,?_,J.loc,J.cell,?_,?_,?_,?_,J.len⟩
 ·refine⟨J.base.keep,J.base.slot,λb o e n k=>?_,J.base.there,λb xs e=>?_,λb o v e=>?_,λb ps e=>?_⟩
  ·rw[aj (g b o e)];exact J.base.free b o e n k
  ·rw[aj (am (J.base.tups b xs e) d)];exact J.base.tups b xs e
  ·rw[aj (am (J.base.frzs b o v e) d)];exact J.base.frzs b o v e
  ·obtain⟨m,q⟩:=J.base.tbls b ps e;exact⟨m,by rw[aj (am q d)];exact q⟩
 ·rw[aj (Zr (Zf I.lt c))];exact J.free
 ·intro h f e;obtain⟨l,q⟩:=I.cell h f e;rw[aj (Zr (Zf q.lt c))];exact J.freeC h f e
 ·intro p i;obtain⟨e,n,r⟩:=J.pin p i;refine⟨e,?_,r⟩;rw[aj (Zr (Zf (Zt (I.pin p i).1) c))];exact n
 ·intro b v e;by_cases j:b=a
  ·subst j;rw[aa]at e;cases e;exact new
  ·rw[aj j]at e;refine(J.hok b v e).stay (λ_ _ _ q=>q) (λf q=>?_) λf xs q=>?_
   ·rw[aj (am q d)];exact q
   ·rw[aj (am q d)];exact q
end
def qA:V->List V->Hp->VK->Prop:=λx vs H Q=>∃z y,x= .str z/\vs=[.str y]/\1<=y.length/\z.length+2<=sizeLine/\∀l,H l=none->Q (.ref l) (upd H l (.lst ((Txt.split z y).map V.str)))
theorem mE:∀(ss:List Str) (k:Nat),aD (ss.map V.str) (strsFrom k ss)
 |[],_=> .nil
 | _::r,k=> .cons ⟨_,rfl⟩ (mE r (k+1))
theorem v6{X:Cx}:MtM X "str.split" qA:=by
 intro pins s l H x vs v us Q I g i h;obtain⟨z,y,rfl,rfl,m,n,q⟩:=h;obtain⟨t,rfl⟩:=g;obtain⟨o,rfl,j⟩:=i.one;obtain⟨u,rfl⟩:=j;have b:(y.length==0)=false:=by simp;lia
 have k:=split_le z y;by_cases c:(decide (z.length<y.length)||decide (Builtin.Str.strKind z<Builtin.Str.strKind y))=true
 ·have e:Txt.split z y=[z]:=if_pos c;rw[e]at q;exact call_meets F.slot_str_split (typeIs_str _ _ _) F.entry_str_split (F.args_str_split_2 _ _) (meets_str_split_cannot_occur z y t u c) ⟨.ref _,_,I.lnew (ys:=[.str z]) (its:=[.str z t]) (t':=s.toks) (.cons ⟨_,rfl⟩ .nil) (by show 1<=sizeLine;decide),rfl,q _ I.fresh⟩
 ·have d:=eq_false_iff.mpr c;by_cases f:(Builtin.Str.occurrences z y 0 z.length (z.length+1)).isEmpty=true
  ·have e:Txt.split z y=[z]:=(if_neg c).trans (if_pos f);rw[e]at q;exact call_meets F.slot_str_split (typeIs_str _ _ _) F.entry_str_split (F.args_str_split_2 _ _) (meets_str_split_not_found z y t u d b f) ⟨.ref _,_,I.lnew (ys:=[.str z]) (its:=[.str z t]) (t':=s.toks) (.cons ⟨_,rfl⟩ .nil) (by show 1<=sizeLine;decide),rfl,q _ I.fresh⟩
  ·have e:Txt.split z y=Builtin.Str.partsBetween z (Builtin.Str.occurrences z y 0 z.length (z.length+1)) y.length:=(if_neg c).trans (if_neg f);have a:(Builtin.Str.partsBetween z (Builtin.Str.occurrences z y 0 z.length (z.length+1)) y.length).length<=sizeLine:=by rw[<-e];lia
   refine call_meets F.slot_str_split (typeIs_str _ _ _) F.entry_str_split (F.args_str_split_2 _ _) (meets_str_split_sep z y t u d b (eq_false_iff.mpr f) (by lia) a) ?_;rw[<-e]at a ⊢;exact⟨.ref _,_,I.lnew (its:=strsFrom s.toks (Txt.split z y)) (t':=s.toks+(Txt.split z y).length) (mE _ _) (by rw[Z5];exact a),rfl,q _ I.fresh⟩
theorem nN{X:Cx}:MtQ X "str.split" qA:=⟨v6⟩
noncomputable def Ite(K:PySem.W.Frag)(a:Addr)(xs:List V):It:=⟨λi H=>SqL K H a xs/\i<xs.length,λi H v b=>∃x T,xs[i]? =some x/\H T=none/\v= .ref T/\b=upd H T (.tup [.int i,x]),λi H=>SqL K H a xs/\xs.length<=i⟩
def ESt(e it a:Addr)(i:Nat)(h:Heap):Prop:=(∃b,IsEnum h e it i b)/\h.IsListIter it a i
theorem tK{P:Program}{K:PySem.W.Frag}(e it a:Addr)(xs:List V)(hne:e≠it):ng P w K (.Tuple elts kt tp) (Ite K a xs) [e,it] e (ESt e it a) where
 mem:=by simp
 obj:=λi h st b hb=>by
  obtain⟨⟨old,he⟩,o1,e1,_,d1⟩:=st;simp only[Ye,Yj,or_false]at hb;rcases hb with rfl|rfl
  ·exact⟨_,he,λv q=>nomatch q⟩
  ·exact⟨o1,e1,λv q=>by rw[d1]at q;cases q⟩
 keep:=λi h h' st k=>by
  obtain⟨⟨old,he⟩,o1,e1,r1⟩:=st;exact⟨⟨old,k e (by simp) _ he⟩,o1,k it (by simp) _ e1,r1⟩
 item:=by
  intro X hP hw hK hc i pins s σ H E I hf st hg;subst hP hw hK;obtain⟨⟨old,he⟩,hit⟩:=st;obtain⟨hq,hi⟩:SqL X.K H a xs/\i<xs.length:=hg;obtain⟨its,rv,p,hz⟩:=I.list hq;obtain⟨u,hu,ru⟩:=rv.get (i:=i) (x:=xs[i]) (by simp[hi]);refine wpAny_pyNext_enum_item he hit p.isList (x:=u) (by simpa using hu) hne λh1 he1 hit1 ht1 hz1 hk1=>⟨_,rfl,?_⟩
  refine wpAny_letOwnedTupleGo_enum (s:={s with heap:=h1,toks:=s.toks+1}) he1 λh2 he2 sb2=>?_
  replace sb2:SameBut e h1 h2:=sb2;have elt:e<s.heap.objs.size:=Zt he;have ilt:it<s.heap.objs.size:=by obtain⟨o,q,_⟩:=hit;exact Zt q
  have kk:∀b o,b∉[e,it]->s.heap.get? b=some o->h2.get? b=some o:=λb o hb q=>by
   simp only[Ye,Yj,or_false,not_or]at hb;exact(sb2.2 b hb.1).trans (hk1 b o hb.1 hb.2 q)
  have J:Inv X pins σ H {s with heap:=h2,toks:=s.toks+1}:=I.moved hf kk;have hT:h2.get? s.heap.objs.size=some {cls:= .type "tuple",data:= .seq #[.int i s.toks,u]}:=(sb2.2 _ (Yh elt)).trans ht1;have I2:Inv X pins σ (upd H s.heap.objs.size (.tup [.int i,xs[i]])) {s with heap:=h2,toks:=s.toks+1}:=
   I.stood J (Zh _) ⟨by show 2<=sizeLine;decide,[.int i s.toks,u],.cons ⟨_,rfl⟩ (.cons ru .nil),_,hT,rfl,_,rfl⟩
  refine⟨.ref s.heap.objs.size,_,I2,rfl,⟨xs[i],_,by simp[hi],I.fresh,rfl,rfl⟩,⟨⟨u,by rw[Int.natCast_succ];exact he2⟩,?_⟩,λb hb=>?_⟩
  ·obtain⟨o,q,r⟩:=hit1;exact⟨o,(sb2.2 _ (Ne.symm hne)).trans q,r⟩
  ·have:b<s.heap.objs.size:=by
    simp only[Ye,Yj,or_false]at hb;rcases hb with rfl|rfl
    ·exact elt
    ·exact ilt
   rw[aj (Zr this)];exact(hf b hb).1
 done:=by
  intro X hP hw hK hc i pins s σ H E I hf st hg;subst hP hw hK;obtain⟨⟨old,he⟩,hit⟩:=st;obtain⟨hq,hi⟩:SqL X.K H a xs/\xs.length<=i:=hg;obtain⟨its,rv,p,hz⟩:=I.list hq;have hl:=rv.length;have hh:X.A.handled=none:=I.ok.hd hc;refine wpAny_pyNext_enum_end hh he hit p.isList (by simp;lia) λh1 xb=>⟨rfl,I.moved (fp:=[e,it]) (tk:=s.toks) hf λb o hb q=>?_⟩
  simp only[Ye,Yj,or_false,not_or]at hb;exact xb b o hb.2 q
 self:=λA i s Q E st h=>by
  obtain⟨⟨old,he⟩,hit⟩:=st;exact wpAny_pyIter_enum he h
def y4(K:PySem.W.Frag)(c:TA):TI:=λd H R=>c d H λvs b=>∃a xs,vs=[.ref a]/\SqL K b a xs/\R (Ite K a xs) b
section
variable{X:Cx}{K:PySem.W.Frag}{pos:Pos}
theorem oY(o:X.K=K)(r:Gl X "enumerate")(t:X.mg "enumerate"=none)(v:aY a=false)(w:QA X [a] x):
 QI X (.Tuple g E G) (.Call (.Name "enumerate" p) [a] [] pos) (y4 K x):=by
 subst o
 constructor
 intro pins s i H R I h;refine Call_ (ik I r t boot_enumerate (PyProof.Rows.callWith_type1 (thn (w.h pos pins s i H _ I h) λus c ⟨vs,j,d,y,z⟩=>?_) (ay v) rfl));obtain⟨l,xs,e,A,q⟩:=z;subst e;obtain⟨u,rfl,B⟩:=eL y;cases B;obtain⟨its,L,p,M⟩:=d.list A;refine call_enumerate_list p.isList λk m f C D=>wpAny_pyIter_enum (s:={c with heap:=k}) m ?_
 have J:Inv X pins i j {c with heap:=k}:=d.kept (t':=c.toks) D;refine⟨c.heap.objs.size+1,[c.heap.objs.size+1,c.heap.objs.size],ESt (c.heap.objs.size+1) c.heap.objs.size l,Ite X.K l xs,j,rfl,J,tK _ _ _ _ (Nat.succ_ne_self _),⟨⟨_,m⟩,f⟩,λb n=>?_,q⟩;simp only[Ye,Yj,or_false]at n;rcases n with rfl|rfl
 ·exact d.fpOk (Y1 _) (d.hok.fresh (Y1 _))
 ·exact d.fpOk (Zh _) (d.hok.fresh (Zh _))
end
section
variable(h:Heap)(x y:Str)(t u:Tok)
noncomputable abbrev zs1:Heap:=h.push {cls:= .type (strIterType x),data:= .fields #[.str x t,.int 0 0]}
noncomputable abbrev zs2:Heap:=(zs1 h x t).push {cls:= .type (strIterType y),data:= .fields #[.str y u,.int 0 0]}
noncomputable abbrev zs3:Heap:=(zs2 h x y t u).push {cls:= .type "tuple",data:= .seq #[.ref h.objs.size,.ref (zs1 h x t).objs.size]}
noncomputable abbrev zs4:Heap:=(zs3 h x y t u).push {cls:= .type "tuple",data:= .seq #[.none,.none]}
noncomputable abbrev zs5:Heap:=(zs4 h x y t u).push {cls:= .type "zip",data:= .fields #[.none,.bool false,.bool false,.ref (zs2 h x y t u).objs.size,.ref (zs3 h x y t u).objs.size]}
end
theorem j6(x y:Str)(t u:Tok):
 Meets (Builtin.«zip.__new__» ⟨[.type "zip",.str x t,.str y u],[]⟩) (λ_ R s=>R (.ok (.ret (.ref (zs4 s.heap x y t u).objs.size))) {s with heap:=zs5 s.heap x y t u}):=
 .of_wp λprog w A R s b=>by
  obtain⟨c,g,d,tk,os⟩:=s;have a:=PySem.sub_zip
  wp_walk using wpAny_pyIter_strU (x:=x) (t:=t),wpAny_pyIter_strU (x:=y) (t:=u)
  exact⟨_,rfl,b⟩
section
variable{prog:Program}{w:World}{A:Around}{E:Value->Shared->Prop}{s:Shared}
theorem kW
 (h:∀h',IsZip h' (s.heap.objs.size+4) (s.heap.objs.size+2) (s.heap.objs.size+3) .none->IsPair h' (s.heap.objs.size+2) (.ref s.heap.objs.size) (.ref (s.heap.objs.size+1))->IsPair h' (s.heap.objs.size+3) .none .none->
  h'.IsStrIter s.heap.objs.size (strIterType x) x t 0->h'.IsStrIter (s.heap.objs.size+1) (strIterType y) y u 0->(∀c o,s.heap.get? c=some o->h'.get? c=some o)->Q (.ref (s.heap.objs.size+4)) {s with heap:=h'}):
 wpAny (model prog w) A (call (.type "zip") [.str x t,.str y u]) Q E s:=by
 refine callType_new F.called_zip (by decide) (F.typeCall_zip_2 _ _) (F.newCall_zip_2 _ _) (λobj=>F.args_object_init_3 obj _ _) F.entry_zip_new (j6 x y t u) ?_;have a:(zs1 s.heap x t).objs.size=s.heap.objs.size+1:=Zp ..;have b:(zs2 s.heap x y t u).objs.size=s.heap.objs.size+2:=by rw[Zp,a]
 have d:(zs3 s.heap x y t u).objs.size=s.heap.objs.size+3:=by rw[Zp,b]
 have f:(zs4 s.heap x y t u).objs.size=s.heap.objs.size+4:=by rw[Zp,d]
 have g:∀c o,(zs4 s.heap x y t u).get? c=some o->(zs5 s.heap x y t u).get? c=some o:=λ_ _ q=>Z6 _ q
 have i:∀c o,(zs3 s.heap x y t u).get? c=some o->(zs5 s.heap x y t u).get? c=some o:=λc o q=>g c o (Z6 _ q)
 have j:∀c o,(zs2 s.heap x y t u).get? c=some o->(zs5 s.heap x y t u).get? c=some o:=λc o q=>i c o (Z6 _ q)
 have k:∀c o,(zs1 s.heap x t).get? c=some o->(zs5 s.heap x y t u).get? c=some o:=λc o q=>j c o (Z6 _ q)
 have p:∀c o,s.heap.get? c=some o->(zs5 s.heap x y t u).get? c=some o:=λc o q=>k c o (Z6 _ q)
 have e:(zs5 s.heap x y t u).get? (zs4 s.heap x y t u).objs.size=some _:=Zi _ rfl;have l:(zs5 s.heap x y t u).get? (zs3 s.heap x y t u).objs.size=some _:=g _ _ (Zi _ rfl);have m:(zs5 s.heap x y t u).get? (zs2 s.heap x y t u).objs.size=some _:=i _ _ (Zi _ rfl);have n:(zs5 s.heap x y t u).get? (zs1 s.heap x t).objs.size=some _:=j _ _ (Zi _ rfl);have r:(zs5 s.heap x y t u).get? s.heap.objs.size=some _:=k _ _ (Zi _ rfl);show _/\_;rw[b,d,f]at e;rw[a,b]at m;rw[d]at l;rw[a]at n;rw[f];exact⟨⟨_,e,rfl⟩,h _ e m l ⟨_,r,rfl,rfl⟩ ⟨_,n,rfl,rfl⟩ p⟩
end
def y6(a:TA):TI:=λb H R=>a b H λvs c=>∃x y,vs=[.str x,.str y]/\R (Itz x y) c
section
variable{X:Cx}{K:PySem.W.Frag}{pos:Pos}
theorem y8(B:Gl X "zip")(C:X.mg "zip"=none)(D:aY a=false)(f:aY b=false)(E:QA X [a,b] G):
 QI X (.Tuple o O Q) (.Call (.Name "zip" p) [a,b] [] pos) (y6 G):=by
 constructor
 intro pins s r H R I h;refine Call_ (ik I B C boot_zip (PyProof.Rows.callWith_type1 (thn (E.h pos pins s r H _ I h) λus c ⟨vs,v,g,L,M⟩=>?_) (ay D) (by rw[ay f];rfl)));obtain⟨x,y,e,q⟩:=M;subst e;obtain⟨T,U,rfl,⟨t,rfl⟩,u,rfl⟩:=kG L;refine kW λw z k l m n N=>wpAny_pyIter_zip (s:={c with heap:=w}) z ?_
 have J:Inv X pins r v {c with heap:=w}:=g.kept (t':=c.toks) N;have ne:∀i j:Nat,i≠j->c.heap.objs.size+i≠c.heap.objs.size+j:=λi j h e=>h (Nat.add_left_cancel e)
 refine⟨c.heap.objs.size+4,[c.heap.objs.size+4,c.heap.objs.size+2,c.heap.objs.size+3,c.heap.objs.size+0,c.heap.objs.size+1],_,Itz x y,v,rfl,J,
  vY _ _ _ _ _ x y t u ⟨ne 2 4 (by decide),ne 3 4 (by decide),ne 0 4 (by decide),ne 1 4 (by decide),ne 2 3 (by decide),ne 2 0 (by decide),ne 2 1 (by decide),ne 3 0 (by decide),ne 3 1 (by decide),ne 0 1 (by decide)⟩,
  ⟨z,k,⟨_,_,l⟩,m,n⟩,λb A=>?_,q⟩
 have d:c.heap.objs.size<=b:=by
  simp only[Ye,Yj,or_false]at A;rcases A with rfl|rfl|rfl|rfl|rfl<;> exact le_add_right _ _
 exact g.fpOk d (g.hok.fresh d)
abbrev v7:R2:=λx y H Q=>∃z n,x= .str z/\y= .int n/\0<=n/\n<=100000/\z.length<=100/\Q (.str (Txt.mul z n)) H
theorem yg:OpR X (binaryOp .Mult) v7:=by
 intro pins s j H x y v u Q I b c h;obtain⟨z,n,rfl,rfl,l,d,e,q⟩:=h;obtain⟨t,rfl⟩:=b;obtain⟨t',rfl⟩:=c;have m:z.length*n.toNat<=100*100000:=Nat.mul_le_mul e (by lia);have a:MulOk z n:=by
  refine⟨?_,λf _=>?_,λf _=>?_⟩
  ·rw[Yk];exact⟨Zg (by lia),Zg (by lia)⟩
  ·have g:1<=n:=by lia
   have:(2^63-1)/100000<=(2^63-1:Int)/n:=by
    rw[Int.le_ediv_iff_mul_le (by lia)];have:((2^63-1)/100000:Int)*n<=((2^63-1)/100000:Int)*100000:=Int.mul_le_mul_of_nonneg_left d (by decide)
    lia
   lia
  ·unfold Builtin.Str.tooLong;have o:sizeLine=16777216:=sizeLine_eq;simp only[decide_eq_false_iff_not]
   lia
 exact SB.mul a λi k=>⟨.str (Txt.mul z n),H,I.tok k,⟨_,rfl⟩,q⟩
end
inductive D where
 | non|bl (b:Bool)|int (i:Int)|str (x:Str)|lst (ds:List D)|tup (ds:List D)
section
variable{K:PySem.W.Frag}{H H':Hp}
theorem ae.seqT(e:ae H H')(h:SqT K H a xs):SqT K H' a xs:=by
 rcases h with(h|⟨o,h⟩)|h
 ·exact .inl (.inl (e _ _ h))
 ·exact .inl (.inr ⟨o,e _ _ h⟩)
 ·exact .inr h
end
section
variable{X:Cx}{pins:List (Addr×Obj)}{σ:St}{H:Hp}{s:Shared}
end
theorem qB{X:Cx}(Q:X.N.Nodup)(A:X.N[i]? =some x)(T:Loc X.env.scope x)(U:X.fn x=true\/X.env.scope.names.lookup x=some .local)
 (B:swapsWith (.ListComp j [⟨p,bI,l,0⟩] a pos) (some (.Name x r)) f.line X.env=pure true) (S:aC X a t E) (Y:X.calm=true) (hs:∀x,foldedSetIterable bI X.env x=pure x) (hi:PI X p bI wi)
 (hg:∀c d fp,PG (ba X a t c d fp) p g) (ht:∀c d fp,PTs (ba X a t c d fp) l tc) (he:∀c d fp,PE (ba X a t c d fp) j te):
 PS X (.Assign [.Name x r] (.ListComp j [⟨p,bI,l,0⟩] a pos) f) (iK (mw wi t.length E g tc te) (fF i)):=by
 intro pins s J H D I h;rw[arm_exec_Assign];refine Z2 (wpAny_standAt ?_);show wpAny _ _ (swapsWith (.ListComp j [⟨p,bI,l,0⟩] a pos) (some (.Name x r)) f.line X.env>>= _) _ _ _;rw[B];refine Z2 (Z3 ?_);rw[if_pos rfl,arm_evalThenUse_ListComp];refine Z2 (Z2 (my (QQ:=λ_ s'=>wpAny (model X.prog X.w) X.A (pure ()) (λ_ s2=>wpAny (model X.prog X.w) X.A (pure Flow.next) (SP X pins D) X.xe s2) X.xe s') S Y hi hg ht he hs I h λw C G y fl m hn fp k q=>?_));have I6:Inv X pins J G y:=k y.heap (SameBut.refl _ _);obtain⟨o,es,ep,L,M,hr⟩:=id hn;have I7:Inv X (pins++jd [C] y.heap) J G y:=I6.pinned (λb n=>by rw[Yu n];exact fp) λb n=>by
  rw[Yu n];exact⟨o,L,λv z=>by rw[M]at z;cases z⟩
 show wpAny _ _ (assignAll (.ref w) [assign (.Name x r) X.env]) _ _ _;show wpAny _ _ (assign (.Name x r) X.env (.ref w)) _ _ _;refine wpAny_assign_Name (iI I7 Q A T (v:= .ref w) (u:= .ref w) rfl (λN O=>?_) U);have hC:N.heap.get? C=some o:=(O.pin (C,o) (Yd _ (Yd _ (dR (mem_singleton.mpr rfl) L)))).1;refine⟨m,⟨o,es,ep,hC,M,hr⟩,λh' sb=>?_⟩;refine Z3 (Z3 ⟨_,G,?_,q⟩);refine(O.unpinned).moved (fp:=[C]) (tk:=N.toks) (λb n=>by rw[Yu n];exact fp) λb o' n e=>(sb.2 b (λz=>n (mem_singleton.mpr z))).trans e
theorem tL(h:(env.blockKind== .function&&env.kindOf x==some .local&&b.line==pos.line&&!(a.names.any λ(n,k)=>n==x&&(k== .local||k== .cell)))=true):
 swapsWith (.ListComp c gens a pos) (some (.Name x b)) l env=pure true:=by
 show(pure (env.blockKind== .function&&env.kindOf x==some .local&&b.line==pos.line&&!(a.names.any λ(n,k)=>n==x&&(k== .local||k== .cell))):Sem Bool)=pure true;rw[h]
theorem iP{X:Cx}(i:Nat)(p:X.N.Nodup)(e:X.N[i]? =some x)(q:Loc X.env.scope x)(r:X.fn x=true\/X.env.scope.names.lookup x=some .local)
 (f:(X.env.blockKind== .function&&X.env.kindOf x==some .local&&s.line==pos.line&&!(c.names.any λ(n,k)=>n==x&&(k== .local||k== .cell)))=true) (S:aC X c d h) (t:X.calm=true) (u:kP bI=false) (hi:QI X m bI v)
 (w:∀a b fp,QG (ba X c d a b fp) m g) (y:∀a b fp,QTs (ba X c d a b fp) j z) (A:∀a b fp,QE (ba X c d a b fp) l B):
 QS X (.Assign [.Name x s] (.ListComp l [⟨m,bI,j,0⟩] c pos) o) (iK (mw v d.length h g z B) (fF i)):=
 ⟨qB p e q r (tL f) S t (jl u) hi.h (λa b fp=>(w a b fp).h) (λa b fp=>(y a b fp).h) (λa b fp=>(A a b fp).h)⟩
section
variable{X:Cx}{pins:List (Addr×Obj)}{σ:St}{H:Hp}{s:Shared}
end
section
variable{X:Cx}{K:PySem.W.Frag}
theorem v8:OpQ X (binaryOp .Mult) v7:=⟨yg⟩
end
theorem bJ:Slot "set_iterator" "__next__" "set_iterator.__next__":=
 .of (owner:="set_iterator") (n:="__next__") (by rw[typeLookup_type,builtinLookup_eq_fast];kernel_rfl) (by decide +kernel) (by decide +kernel) (by decide +kernel) (by first|exact .inl (by decide +kernel)|exact .inr (by decide +kernel)) (by rw[isSubtype_type];kernel_rfl)
theorem eP:entryFor table "set_iterator.__next__"=some Builtin.«set_iterator.__next__»:=entryFor_of_tree (by kernel_rfl)
theorem fH(a:Value):argsOk "set_iterator.__next__" ⟨[a],[]⟩:=by unfold argsOk;kernel_rfl
theorem lK:entryFor table "set.__iter__"=some Builtin.«frozenset.__iter__»:=entryFor_alias (id':="frozenset.__iter__") (by kernel_rfl) rfl (by decide +kernel) (by kernel_rfl)
theorem lL(t:SetTable)(n:Nat):(t.orStandIn n).led=t.led:=by unfold SetTable.orStandIn;split<;> rfl
theorem qC(t:SetTable)(a:Array (Int×Value))(h:Int)(x:Value):(layNew t a h x).2.1.led=t.led:=by
 unfold layNew;cases t.freeSlot h with
 | none=>rfl
 | some p=>
   obtain⟨b,d⟩:=p;exact lL (t.put b).1 _
theorem nO(t:SetTable)(b:Array (Int×Value))(n:Nat):(relayAll t b n).2.1.led=t.led:=by
 unfold relayAll;cases a:t.relaid (b.map (·.1)) n with
 | none=>rfl
 | some p=>
   obtain⟨t',d⟩:=p;simp only
   split
   ·simp only[SetTable.relaid,SetTable.laid]at a;cases c:SetTable.layClean (SetTable.sizeAbove n-1) (b.map (·.1))with
    | none=>rw[c]at a;cases a
    | some f=>rw[c]at a;injection a with a;injection a with e g;rw[<-e]
   ·rfl
theorem kX(t:SetTable)(b:Array (Int×Value))(n:Nat)(d:t.plain=false):(relayAll t b n).2.1.plain=false:=by
 unfold relayAll;cases a:t.relaid (b.map (·.1)) n with
 | none=>rfl
 | some p=>
   obtain⟨t',e⟩:=p;simp only
   split
   ·simp only[SetTable.relaid,SetTable.laid]at a;cases c:SetTable.layClean (SetTable.sizeAbove n-1) (b.map (·.1))with
    | none=>rw[c]at a;cases a
    | some g=>rw[c]at a;injection a with a;injection a with f h;rw[<-f];exact d
   ·rfl
noncomputable def bj(w:World):Bool:=w.params.followText "set-order"
def dJ(w:World)(a:Addr)(ks:List Str)(h:Heap):Prop:=
 ∃o b c t ss,h.get? a=some o/\o.ExactSet/\o.data= .set b c t/\StrsAre (b.toList.map (·.2)) ss/\ss.Perm ks/\ks.Nodup/\(∀e∈b.toList,∃z u,e=(hashStr w z,.str z u))/\b.size<scanBound/\t.fits b.size=true/\(b.size≠0->t.plain=false)/\t.led=!bj w
theorem tM(h:∀e∈l,∃z u,e=(hashStr w z,.str z u)):ElemsOf (aS prog w) l:=λe a=>by
 obtain⟨z,u,rfl⟩:=h e a;exact⟨⟨Sum.inr z,eK z u,rfl⟩,rfl⟩
theorem jS:∀{vs:List Value} {ss:List Str} {z:Str},StrsAre vs ss->((∃u,Value.str z u∈vs)↔z∈ss)
 | _,_,z,.nil=>by simp
 | _,_,z,.cons x t h=>by
   have b:=jS (z:=z) h
   constructor
   ·rintro⟨u,a⟩;rcases mem_cons.mp a with e|e
    ·injection e with c _;rw[c];exact Zl
    ·exact Zj _ (b.mp ⟨u,e⟩)
   ·intro d;rcases mem_cons.mp d with e|e
    ·rw[e];exact⟨t,Zl⟩
    ·obtain⟨u,a⟩:=b.mpr e;exact⟨u,Zj _ a⟩
theorem f6:∀{vs ws:List Value} {ss ts:List Str},StrsAre vs ss->StrsAre ws ts->StrsAre (vs++ws) (ss++ts)
 | _,_,_,_,.nil,h=>h
 | _,_,_,_,.cons x t h,h'=> .cons x t (f6 h h')
theorem cy:∀{vs:List Value} {ss:List Str},StrsAre vs ss->vs.length=ss.length
 | _,_,.nil=>rfl
 | _,_,.cons x t h=>by rw[Zq,Zq,cy h]
theorem e9(h:StrsAre vs ss)(p:ws.Perm vs):∃ts,StrsAre ws ts/\ts.Perm ss:=by
 refine⟨ws.map strOf,strsAre_map ws λv a=>h.all v (p.mem_iff.mp a),?_⟩;have:=p.map strOf;rwa[h.strs]at this
section
variable{prog:Program}{w:World}{A:Around}{E:Value->Shared->Prop}{s:Shared}{a:Addr}
theorem dJ.stored{h:Heap}{o:Obj}{g es':Array (Int×Value)}{t t':SetTable}(i:h.get? a=some o)(b:o.ExactSet)(d:o.data= .set g c t)(j:StrsAre (es'.toList.map (·.2)) ss)(k:ss.Perm ks)(l:ks.Nodup)
 (m:∀e∈es'.toList,∃z u,e=(hashStr w z,.str z u)) (n:es'.size<scanBound) (p:t'.fits es'.size=true) (r:t'.plain=false) (v:t'.led=!bj w):
 (h.update a (Obj.putSet es' t')).get? a=some {o with data:= .set es' (c+1) t'}/\dJ w a ks (h.update a (Obj.putSet es' t')):=by
 have f:(h.update a (Obj.putSet es' t')).get? a=some {o with data:= .set es' (c+1) t'}:=by
  have q:=get?_update_self (Obj.putSet es' t') i (by rw[putSet_of es' t' d];rfl);rwa[putSet_of es' t' d]at q
 exact⟨f,_,es',c+1,t',ss,f,b,rfl,j,k,l,m,n,p,λ_=>r,v⟩
theorem oZ{g:Bool->Sem Unit}(H:∀(b:Bool) (d:Shared) (m:Unit->Shared->Prop),m () d->wpAny (model prog w) A (g b) m E d){k:Bool}{R:Option Bool->Shared->Prop}(n:s.heap.get? a=some o)(h:o.ExactSet)(q:o.data= .set Q T t)
 (r:StrsAre (c.toList.map (·.2)) ss) (v:ss.Perm ks) (x:ks.Nodup) (y:∀e∈c.toList,∃z u,e=(hashStr w z,.str z u)) (j:c.size<scanBound) (I:t2.fits c.size=true) (B:t2.plain=false) (C:t2.led=!bj w)
 (D:∀h',SameBut a s.heap h'->dJ w a ks h'->R (some true) {s with heap:=h'}):
 wpAny (model prog w) A (do
  storeSet a c t2
  if(!k&&t2.tooFull)=true then do
   g (relayAll t2 c (SetTable.grown c.size)).2.2
   storeSet a (relayAll t2 c (SetTable.grown c.size)).1 (relayAll t2 c (SetTable.grown c.size)).2.1
   pure (some true)
  else pure (some true)) R E s:=by
 obtain⟨g1,J⟩:=dJ.stored (w:=w) (es':=c) (t':=t2) n h q r v x y j I B C;have G:=SameBut.update s.heap a (Obj.putSet c t2);refine Z2 (wpAny_storeSet_of n q ?_ (fits_of_scanBound j))
 split
 ·have p:=relayAll_perm t2 c (SetTable.grown c.size);have f:=relayAll_fits t2 c (SetTable.grown c.size);have l:=nO t2 c (SetTable.grown c.size);have pl:=kX t2 c (SetTable.grown c.size) B
  generalize relayAll t2 c (SetTable.grown c.size)=L at p f l pl ⊢
  obtain⟨i,t3,U⟩:=L;dsimp only at p f l pl ⊢;have z:i.size=c.size:=by rw[<-Za,p.length_eq,Za]
  obtain⟨ts,M,N⟩:=e9 r (p.map (·.2));refine Z2 (H _ _ _ (Z2 (wpAny_storeSet_of (s:={s with heap:=s.heap.update a (Obj.putSet c t2)}) g1 rfl ?_ (fits_of_scanBound (by rw[z];exact j)))));exact Z3 (D _ (G.trans (SameBut.update _ a _)) (dJ.stored (w:=w) (es':=i) (t':=t3) g1 h rfl M (N.trans v) x (λe O=>y e (p.mem_iff.mp O)) (by rw[z];exact j) f pl (l.trans C)).2)
 ·exact Z3 (D _ G J)
theorem nP{ks:List Str}(hS:dJ w a ks s.heap)(r:ks.length+1<scanBound)
 (hQ:∀h' b,SameBut a s.heap h'->dJ w a (if z∈ks then ks else ks++[z]) h'->Q b {s with heap:=h'}):wpAny (model prog w) A (setAddHashed a (.str z tk) (hashStr w z)) Q E s:=by
 obtain⟨o,c,ep,t,ss,C,v,D,g,Y,G,h,hb,hf,ab,d⟩:=hS;have hn:c.size=ks.length:=by
  have q:=cy g;rw[Z5,Za,Y.length_eq]at q;exact q
 have hE:ElemsOf (aS prog w) c.toList:=tM h;have H:(aS prog w).is (Sum.inr z) (.str z tk)=true:=eK z tk;unfold setAddHashed setAddHashedIn;refine wpAny_holding (Z2 (wpAny_setState_of C D hf ?_));dsimp only;rw[byScan_of (knd:=aS prog w) rfl hb hE];simp only[↓reduceIte];unfold setAddByScan;refine Z2 (Z2 (wpAny_rule (Z2 (wpAny_setScan_of (knd:=aS prog w) (k:=Sum.inr z) H C D hf hE ?_))));have I:(∃e∈c.toList,(aS prog w).is (Sum.inr z) e.2=true)↔z∈ks:=by
  rw[<-Y.mem_iff,<-jS g]
  constructor
  ·rintro⟨e,l,q⟩;obtain⟨y,u,rfl⟩:=h e l;have q:jK (Sum.inr z) (Value.str y u)=true:=q;rcases bh q with⟨i,t',q1,m⟩|⟨y',t',q1,m⟩
   ·cases m
   ·cases q1;exact⟨u,Yw ⟨_,l,by injection m with e1 _;rw[e1]⟩⟩
  ·rintro⟨u,hu⟩;obtain⟨e,l,q⟩:=Yv hu;exact⟨e,l,by rw[q];exact eK z u⟩
 cases hr:List.findIdx? (λe=>(aS prog w).is (Sum.inr z) e.2) c.toList with
 | some j=>
   obtain⟨hj,ac,_⟩:=List.findIdx?_eq_some_iff_getElem.mp hr;have hz:z∈ks:=I.mp ⟨c.toList[j],Y0 hj,ac⟩;dsimp only;have q:=hQ s.heap false (SameBut.refl a s.heap) (by rw[if_pos hz];exact⟨o,c,ep,t,ss,C,v,D,g,Y,G,h,hb,hf,ab,d⟩);exact Z3 (Z3 q)
 | none=>
   have hz:z∉ks:=λq=>by
    obtain⟨e,l,m⟩:=I.mpr q;have:=List.findIdx?_eq_none_iff.mp hr e l;rw[m]at this;cases this
   rw[if_neg hz]at hQ;dsimp only;have B:=layNew_perm t c (hashStr w z) (.str z tk);have lf:=layNew_fits t c (hashStr w z) (.str z tk);have ll:=qC t c (hashStr w z) (.str z tk)
   generalize hL:layNew t c (hashStr w z) (.str z tk)=L at B lf ll
   obtain⟨x,t1,as,an⟩:=L;dsimp only at B lf ll ⊢;rw[toList_push]at B;have gone:∀(b:Bool) (f:Shared) (Q':Unit->Shared->Prop),Q' () f->wpAny (model prog w) A (match b with|true=>rule "set.scan.the-table-gave-way"|false=>pure ()) Q' E f:=λb f Q' q=>by
    cases b
    ·exact Z3 q
    ·exact wpAny_rule q
   have n:∀e∈x.toList,∃z u,e=(hashStr w z,.str z u):=λe l=>by
    rcases Yt (B.mem_iff.mp l)with q|q
    ·exact h e q
    ·rw[Yu q];exact⟨z,tk,rfl⟩
   have q1:StrsAre ((c.toList++[(hashStr w z,Value.str z tk)]).map (·.2)) (ss++[z]):=by
    rw[Zc];exact f6 g (.cons z tk .nil)
   obtain⟨ts,m,q3⟩:=e9 q1 (B.map (·.2));have J:ts.Perm (ks++[z]):=q3.trans (Y.append_right _);have p:(ks++[z]).Nodup:=kj G hz;have al:x.size=c.size+1:=by rw[<-Za,B.length_eq,Z8,Za];rfl
   have M:x.size<scanBound:=by rw[al,hn];exact r
   have N:∀h',SameBut a s.heap h'->dJ w a (ks++[z]) h'->wpAny (model prog w) A (pure true) Q E {s with heap:=h'}:=λh' O T=>Z3 (hQ h' true O T)
   refine Z2 (gone _ _ _ ?_);cases U:t1.plain with
   | true=>
     simp only[↓reduceIte];refine Z2 ?_;rw[show hashByValue 8 (Value.str z tk)=pure false from rfl];refine Z3 ?_;simp only[Zw,↓reduceIte];exact oZ gone C v D m J p n M (SetTable.fits_plain_off lf) rfl (ll.trans d) λh' O T=>N h' O T
   | false=>
     simp only[Zw,↓reduceIte];refine Z2 (Z3 ?_);simp only[↓reduceIte];exact oZ gone C v D m J p n M lf U (ll.trans d) λh' O T=>N h' O T
theorem pc(d:dJ w a ks s.heap)(c:ks.length+1<scanBound)
 (e:∀h' b,SameBut a s.heap h'->dJ w a (if z∈ks then ks else ks++[z]) h'->Q b {s with heap:=h',toks:=s.toks+1}):wpAny (model prog w) A (setAdd a (.str z tk)) Q E s:=by
 unfold setAdd;exact wpAny_holding (Z2 (wpAny_pyHash_str (nP (s:={s with toks:=s.toks+1}) d c e)))
end
noncomputable def j7(ks:List Str)(z:Str):List Str:=if z∈ks then ks else ks++[z]
noncomputable def aJ(ss:List Str):List Str:=ss.foldl j7 []
theorem v9(ks:List Str)(z:Str):(j7 ks z).length<=ks.length+1:=by
 unfold j7;split
 ·lia
 ·rw[Z8];exact Zh _
theorem wa:y∈j7 ks z↔y∈ks\/y=z:=by
 unfold j7;by_cases h:z∈ks
 ·rw[if_pos h];exact⟨.inl,λq=>q.elim id λe=>e▸h⟩
 ·rw[if_neg h,Yc,mem_singleton]
theorem qD(h:ks.Nodup):(j7 ks z).Nodup:=by
 unfold j7;by_cases a:z∈ks
 ·rw[if_pos a];exact h
 ·rw[if_neg a];exact kj h a
theorem pd:∀{ss ks:List Str} {y:Str},y∈ss.foldl j7 ks↔y∈ks\/y∈ss
 |[],ks,y=>by simp
 | z::r,ks,y=>by
   rw[foldl_cons,pd,wa,Ye];exact⟨λh=>h.elim (λh=>h.elim .inl λe=> .inr (.inl e)) λh=> .inr (.inr h),λh=>h.elim (λh=> .inl (.inl h)) λh=>h.elim (λe=> .inl (.inr e)) .inr⟩
theorem kY:∀{ss ks:List Str},ks.Nodup->(ss.foldl j7 ks).Nodup
 |[],_,h=>h
 | z::r,ks,h=>by
   rw[foldl_cons];exact kY (qD h)
theorem cE:y∈aJ ss↔y∈ss:=by unfold aJ;rw[pd];simp
theorem f9(ss:List Str):(aJ ss).Nodup:=kY nodup_nil
theorem pe:∀(ss ks:List Str),(ss.foldl j7 ks).length<=ks.length+ss.length
 |[],ks=>by simp
 | z::r,ks=>by
   have a:=pe r (j7 ks z);have b:=v9 ks z;rw[foldl_cons,Zq]
   lia
theorem dJ.keep(S:dJ w a ks h)(k:∀o,h.get? a=some o->h'.get? a=some o):dJ w a ks h':=by
 obtain⟨o,b,c,t,ss,d,r⟩:=S;exact⟨o,b,c,t,ss,k o d,r⟩
theorem pf(val:Nat->Str)(i:Nat):aJ ((List.range (i+1)).map val)=j7 (aJ ((List.range i).map val)) (val i):=by
 unfold aJ;rw[range_succ,Zc,List.foldl_append];rfl
section
variable{prog:Program}{w:World}{A:Around}{R:Result->Shared->Prop}{I:Addr}{fp wr:List Addr}{G:Array GenState->Array GenState->Prop}{n:Nat}{P:Nat->Value->Prop}{St:Nat->Shared->Prop}
theorem lM(W:WalksS prog w A.in1 I fp wr G n P St)(S:Addr)(f:S∉fp)(val:Nat->Str)(g:∀i v,P i v->∃t,v= .str (val i) t)(c:n+1<scanBound):
 ∀(k i:Nat) (s:Shared),n-i=k->i<=n->St i s->dJ w S (aJ ((List.range i).map val)) s.heap->
  (∀s',Moved (S::wr) G s s'->dJ w S (aJ ((List.range n).map val)) s'.heap->R (.ok (.ret .none)) s')->codeAny (model prog w) A (.builtin "set.update.loop" ⟨[.ref S,.ref I],[]⟩) R s:=by
 have j:S∉wr:=λh=>f (W.sub _ h)
 have more:∀b∈wr,b∈S::wr:=λb c=>Zj _ c
 intro k
 induction k with
 | zero=>
   intro i s B hi st p a;have e:i=n:=by lia
   subst e;refine codeAny_builtin F.entry_set_update_loop ?_;rw[Around.under_plainId F.plain_set_update_loop _];show wpAny _ A.in1 (pyNext (.ref I)>>= _) _ _ s;refine Z2 (W.done s _ _ st λd l=>?_);show wpAny _ A.in1 (ret Value.none) _ _ d;exact Z3 (a d (l.mono more) (p.keep λo e=>l.heap S o j e))
 | succ k C=>
   intro i s B hi st p a;have lt:i<n:=by lia
   refine codeAny_builtin F.entry_set_update_loop ?_;rw[Around.under_plainId F.plain_set_update_loop _];show wpAny _ A.in1 (pyNext (.ref I)>>= _) _ _ s;refine Z2 (W.item i s _ _ lt st λv d pv r l=>?_);obtain⟨t,rfl⟩:=g i v pv;have u:=p.keep (h':=d.heap) λo e=>l.heap S o j e
   have room:(aJ ((List.range i).map val)).length+1<scanBound:=by
    have q:=pe ((List.range i).map val) [];rw[Z5,Y4]at q;unfold aJ;simp only[length_nil,zero_add]at q
    lia
   show wpAny _ A.in1 (holding [Value.str (val i) t] (setAdd S (.str (val i) t))>>= _) _ _ d;refine Z2 (wpAny_holding (pc u room λD b z x=>?_));have m:dJ w S (aJ ((List.range (i+1)).map val)) D:=by rw[pf];exact x
   refine Z3 ⟨plainId_quiet F.plain_set_update_loop _,C (i+1) _ (by lia) lt (W.frame _ d _ _ r (Y1 _) λb c o e=>?_) m λE H y=>?_⟩
   ·rw[z.2 b (λq:b=S=>f (q▸c))];exact e
   ·refine a E (Moved.trans W.gtrans ((l.mono more).then_heap (Y1 _) λb o c e=>?_) H) y;rw[z.2 b (λq:b=S=>c (by rw[q];exact Zl))];exact e
end
section
variable{prog:Program}{w:World}{A:Around}{E:Value->Shared->Prop}{s:Shared}
noncomputable abbrev bz(w:World):Obj:={cls:= .type "set",dict:=none,data:= .set #[] 0 (.fresh 0 0 (!bj w))}
theorem ph(a:Value)(h:Q₁ (.ref s.heap.objs.size) {s with heap:=s.heap.push (bz w)}):
 codeAny (model prog w) A (.call (.builtin "set.__new__") ⟨[.type "set",a],[]⟩) (wants Q₁ E) s:=by
 refine codeAny_of_tree ?_;show wpAny _ A.in1 (checkBuiltinCall "set.__new__" ⟨[.type "set",a],[]⟩>>= λ_=>again (.builtin "set.__new__" ⟨[.type "set",a],[]⟩)) _ _ s;refine Z2 (wpAny_of_eq (PySem.F.newCall_set_1 a) (Z3 ⟨plainId_quiet PySem.F.plain_set_new _,codeAny_builtin PySem.F.entry_set_new ?_⟩));rw[Around.under_plainId PySem.F.plain_set_new _];unfold Builtin.«set.__new__» Builtin.Frozenset.newClass;have b:=sub_set_self;obtain⟨c,g,d,tk,os⟩:=s;dsimp only
 wp_walk
 refine wpAny_askSetting (Z3 ?_);dsimp only;simp only[newObj];exact Z2 (wpAny_alloc (Z3 (Z3 h)))
theorem dJ.empty(e:h.get? a=some (bz w)):dJ w a [] h:=
 ⟨_,#[],0,_,[],e,⟨rfl,rfl,rfl⟩,rfl,.nil,.nil,nodup_nil,λe b=>by simp at b,by decide,rfl,λq=>absurd rfl q,rfl⟩
theorem pj:∀{vs:List Value} {ss:List Str},StrsAre vs ss->∀(i:Nat) (v:Value),vs[i]? =some v->∃t,v= .str (ss.getD i (Str.ofString "")) t
 | _,_,.nil,i,v,h=>by simp at h
 | _,_,.cons x t a,0,v,h=>by simp at h;exact⟨t,by rw[<-h];rfl⟩
 | _,_,.cons x t a,i+1,v,h=>by
   obtain⟨u,e⟩:=pj a i v (by simpa using h);exact⟨u,by rw[e];rfl⟩
theorem qF(ss:List Str):(List.range ss.length).map (λi=>ss.getD i (Str.ofString ""))=ss:=by
 apply ext_getElem
 ·simp
 ·intro i b a;simp[Zb,a]
theorem lN(hh:A.handled=none)(hl:s.heap.IsList l a)(hi:StrsAre a.toList ss)(hb:a.size+1<scanBound)
 (hQ:∀(h':Heap) (tk:Nat),dJ w s.heap.objs.size (aJ ss) h'->(∀b o,s.heap.get? b=some o->h'.get? b=some o)->Q (.ref s.heap.objs.size) {s with heap:=h',toks:=tk}):
 wpAny (model prog w) A (call (.type "set") [.ref l]) Q E s:=by
 obtain⟨c,tl,M⟩:=called_set.mro;have y:=called_set.made;have N:=called_set.sub;refine wpAny_call (codeAny_of_tree ?_);show wpAny _ _ (callAny (.type "set") _) _ _ _;refine Z3 ⟨Code.quiet_builtin _ (by decide +kernel),codeAny_builtin F.entry_type_call ?_⟩;rw[Around.under_plain (weight_type_call_type "set" [.ref l] []) rfl];have ab:=called_set.notType;have ac:=called_set.canCreate;have al:=PySem.F.typeCall_set_1 (.ref l)
 repeat any_goals first|assumption|wp_step
 refine codeAny_mono (ph (.ref l) (E:=E) (Q₁:=λobj g=>obj= .ref s.heap.objs.size/\g={s with heap:=s.heap.push (bz w)}) ⟨rfl,rfl⟩) λr g z=>?_
 cases r with
 | error e=>exact z
 | ok fl=>
   cases fl with
   | ret obj=>
     obtain⟨rfl,rfl⟩:=z;have O:(s.heap.push (bz w)).get? s.heap.objs.size=some (bz w):=Zi _ rfl;have tS:Shared.TypeIs {s with heap:=s.heap.push (bz w)} (.ref s.heap.objs.size) "set":=⟨_,O,rfl⟩
     have an:=called_set.init.lookup;have as:=called_set.init.bind (.ref s.heap.objs.size)
     repeat any_goals first|assumption|wp_step
     refine codeAny_mono (codeAny_call_builtin (R:=wants (λr h=>r= .none/\∃h' tk,h={s with heap:=h',toks:=tk}/\dJ w s.heap.objs.size (aJ ss) h'/\(∀b o,s.heap.get? b=some o->h'.get? b=some o)) E) called_set.init.plain F.entry_set_init (check_set_init_1 tS ?_)) λm h d=>?_
     ·obtain⟨ol,T,U,nl,dl⟩:=hl;obtain⟨Y,j,B,f⟩:=ol;simp only at U dl;subst U;subst dl;have C:(s.heap.push (bz w)).get? l=some {cls:= .type "list",dict:=j,data:= .seq a nl,slots:=f}:=Z6 _ T;have au:=PySem.F.sub_list_set;have av:=PySem.F.sub_list_frozenset;have a0:(Value.type "list"==Value.type "dict")=false:=by decide
      have n:(s.heap.push (bz w)).IsList l a:=⟨_,C,rfl,nl,rfl⟩
      unfold Builtin.«set.__init__»;unfold noKeywords;unfold Builtin.Frozenset.updateFrom
      generalize D:pyIter=PI
      wp_walk
      subst D;refine wpAny_pyIter_list n (Z2 (wpAny_runValue ?_));have p:l<s.heap.objs.size:=Zt T;have h3:A.in1.in1.in1.handled=none:=by simp[hh]
      have G:(s.heap.push (bz w)).objs.size=s.heap.objs.size+1:=Zp ..;have H:l≠(s.heap.push (bz w)).objs.size:=by rw[G];exact Zr (Y8 p)
      have I:s.heap.objs.size∉[(s.heap.push (bz w)).objs.size,l]:=by
       rw[G];simp only[Ye,Yj,or_false,not_or];exact⟨Zr (Y9 _),Yh p⟩
      have q:a.size=ss.length:=by rw[<-Za];exact cy hi
      refine lM ((Walks.list h3 _ l H a).toS) s.heap.objs.size I (λi=>ss.getD i (Str.ofString "")) (λi v hv=>pj hi i v (by rw[Array.getElem?_toList];exact hv)) hb (a.size-0) 0 _ (by lia) (Yn _)
       ⟨⟨_,Zi _ rfl,rfl,rfl⟩,n.push _⟩ (dJ.empty (Z6 _ O)) ?_
      intro s3 u x;rw[q,qF]at x;obtain⟨h',g',d',J,L⟩:=s3;have eg:g'=s.gens:=u.gens;have ed:d'=s.drawn:=u.drawn;have eo:L=s.os:=u.os;subst eg;subst ed;subst eo;refine Z3 ?_;show wpAny _ _ (ret Value.none) _ _ _;refine Z3 ⟨rfl,h',J,rfl,x,λb o e=>?_⟩;have t:=Zt e;refine u.heap b o ?_ (Z6 _ (Z6 _ e));simp only[Ye,Yj,or_false,not_or,G];exact⟨Zr t,Zr (Y8 t)⟩
     ·cases m with
      | error e=>exact d
      | ok k=>
        cases k with
        | ret r=>
          obtain⟨rfl,h',tk,rfl,x,k3⟩:=d
          repeat any_goals first|assumption|wp_step
          exact hQ _ _ x k3
        | _=>exact d.elim
   | _=>exact z.elim
end
section
variable{X:Cx}{K:PySem.W.Frag}
noncomputable def qG(w:World)(a:Addr)(ks:List Str):HO:= .ext (dJ w a ks)
theorem wb(b:X.calm=true):cn X (.type "set") (λxs H Q=>∃p ss,xs=[.ref p]/\SqL X.K H p (ss.map V.str)/\ss.length<=4000/\∀l,H l=none->Q (.ref l) (upd H l (qG X.w l (aJ ss)))):=by
 intro pins s m H xs us Q I r h;obtain⟨p,ss,rfl,c,n,q⟩:=h;obtain⟨u,rfl,d⟩:=eL r;cases d;obtain⟨its,e,pl,t⟩:=I.list c;have a:=e8 e;have f:its.toArray.size=ss.length:=by rw[Zo];exact cy a
 refine lN (I.ok.hd b) pl.isList (ss:=ss) (by simpa using a) (by rw[f];show ss.length+1<4096;lia) λh' tk S k=>?_
 refine⟨.ref s.heap.objs.size,_,I.laid (o:=qG X.w s.heap.objs.size (aJ ss)) (t':=tk) k (Zh _) ⟨S,?_,λv w g i=>g.keep i⟩,rfl,q _ I.fresh⟩;obtain⟨o,_,_,_,_,j,_⟩:=S;exact⟨o,j⟩
theorem Bs(h:X.K=K)(hw:X.w=w)(a:X.calm=true):cN X (.type "set") (λxs H Q=>∃p ss,xs=[.ref p]/\SqL K H p (ss.map V.str)/\ss.length<=4000/\∀l,H l=none->Q (.ref l) (upd H l (qG w l (aJ ss)))):=by subst h;subst hw;exact⟨wb a⟩
end
theorem iq:∀{xs:List b} {i:Nat} (h:i<xs.length),(xs[i]::xs.eraseIdx i).Perm xs
 | x::r,0,_=>by simp
 | x::r,i+1,h=>by
   have a:=iq (xs:=r) (i:=i) (by simpa using h);simp only[List.getElem_cons_succ,List.eraseIdx_cons_succ];exact(List.Perm.swap _ _ _).trans (.cons _ a)
section
variable{prog:Program}{w:World}{A:Around}{E:Value->Shared->Prop}{s:Shared}
theorem tN(b:n≠0)(h:∀i d,i<n->Q i {s with drawn:=d}):wpAny (model prog w) A (choose a n) Q E s:=by
 intro c p _;show Sem.wp _ _ (.choose a n .pure) _ _ _ _;rw[Sem.wp_choose];exact⟨b,h _ _ (mod_lt _ (Nat.pos_of_ne_zero b))⟩
theorem rX:∀(n:Nat) (xs:List b) (s:Shared) (Q:List b->Shared->Prop),xs.length<=n->(∀ys d,ys.Perm xs->Q ys {s with drawn:=d})->wpAny (model prog w) A (drawOrder n xs) Q E s
 | 0,xs,s,Q,a,h=>by
   have e:xs=[]:=length_eq_zero_iff.mp (Nat.le_zero.mp a);subst e;exact Z3 (h [] s.drawn .nil)
 | n+1,[],s,Q,a,h=>Z3 (h [] s.drawn .nil)
 | n+1,x::r,s,Q,a,h=>by
   unfold drawOrder;refine Z2 (tN (by simp) λi d hi=>?_);have e:(x::r)[i]? =some ((x::r)[i]):=Z4 hi;rw[e];have l:((x::r).eraseIdx i).length<=n:=by rw[List.length_eraseIdx];simp only[hi,↓reduceIte];simp only[Zq]at a ⊢;lia
   refine Z2 (rX n ((x::r).eraseIdx i) _ _ l λys c p=>Z3 (h _ c ?_));exact(List.Perm.cons _ p).trans (iq hi)
end
theorem rY(next:Nat->Nat):∀(fuel k:Nat) (left:List b) (a:Array b),left.length<=fuel->(pickOrder.go next fuel k left a).toList.Perm (a.toList++left)
 | 0,k,left,a,h=>by
   have e:left=[]:=length_eq_zero_iff.mp (Nat.le_zero.mp h);subst e;rw[append_nil];exact .refl _
 | fuel+1,k,[],a,h=>by
   unfold pickOrder.go;simp
 | fuel+1,k,x::r,a,h=>by
   unfold pickOrder.go;have hi:next k%(x::r).length<(x::r).length:=mod_lt _ (by simp);rw[Z4 hi];have l:((x::r).eraseIdx (next k%(x::r).length)).length<=fuel:=by rw[List.length_eraseIdx];simp only[hi,↓reduceIte];simp only[Zq]at h ⊢;lia
   refine(rY next fuel (k+1) _ _ l).trans ?_;rw[toList_push,Zd];exact(List.Perm.refl _).append (iq hi)
theorem tO(next:Nat->Nat)(xs:Array a):(pickOrder next xs).toList.Perm xs.toList:=by
 have:=rY next xs.size 0 xs.toList #[] (by simp);simpa [pickOrder]using this
theorem mF(p j:Nat):SetTable.below #[p] j=if p<j then 1 else 0:=by
 unfold SetTable.below;simp only[Zo,Zq,length_nil,zero_add];unfold SetTable.below.go;simp
 split<;>(unfold SetTable.below.go;rfl)
theorem qH(j:Nat):SetTable.below #[] j=0:=rfl
theorem mG{a:Type}{xs:Array a}(h:xs.size=1):∃p,xs= #[p]:=by
 obtain⟨l⟩:=xs
 match l,h with
 |[p],_=>exact⟨p,rfl⟩
def SIt(w:World)(I S T:Addr)(o:Obj)(b:Array (Int×Value))(c:Nat)(t:SetTable)(a:List Value)(i:Nat)(h:Heap):Prop:=
 h.get? S=some o/\∃first,h.get? I=some {cls:= .type "set_iterator",dict:=none,data:= .fields #[first,rawInt i,.ref S,rawInt b.size,rawInt c],slots:= #[]}/\
  ((bj w=true/\first=rawInt 0/\a=(pickOrder (w.params.setOrder S c) b).toList.map (·.2))\/
   (bj w=false/\first= .ref T/\T≠I/\∃ps:List Nat,h.get? T=some {cls:= .type "tuple",data:= .seq (ps.map λ(i:Nat)=>rawInt i).toArray}/\ps.length=a.length/\∀(j p:Nat),ps[j]? =some p->∃e,b[p]? =some e/\a[j]? =some e.2)\/
   (bj w=false/\b.size<=1/\a=b.toList.map (·.2)/\(i=0->first=rawInt 0)/\(i=1->∃p:Nat,t.place[0]? =some p/\first=rawInt (p+1))))
theorem SIt.is{w:World}{I S T:Addr}{o:Obj}{b:Array (Int×Value)}{c:Nat}{t:SetTable}{a:List Value}{i:Nat}{s:Shared}(h:SIt w I S T o b c t a i s.heap):s.TypeIs (.ref I) "set_iterator":=by
 obtain⟨_,f,d,_⟩:=h;exact⟨_,d,rfl⟩
section
variable{prog:Program}{w:World}{A:Around}{E:Value->Shared->Prop}{s:Shared}{I S T:Addr}{o:Obj}{es:Array (Int×Value)}{ep:Nat}{t:SetTable}{ord:List Value}
theorem qI{i:Nat}{v:Value}{Q:Option Value->Shared->Prop}(u:o.data= .set es ep t)(h:t.fits es.size=true)(y:t.led=!bj w)(j:S≠I)(st:SIt w I S T o es ep t ord i s.heap)(f:ord[i]? =some v)(hn:ord.length=es.size)
 (O:∀h',SIt w I S T o es ep t ord (i+1) h'->SameBut I s.heap h'->Q (some v) {s with heap:=h'}):wpAny (model prog w) A (pyNext (.ref I)) Q E s:=by
 have hT:=st.is;obtain⟨g,first,M,m⟩:=st;unfold pyNext;refine Z2 (wpAny_attempt (wpAny_callSpecial?_slot (name:=Str.ofString "__next__") hT bJ (wpAny_call_entry bJ hT eP ?_ (fH _))));unfold Builtin.«set_iterator.__next__»;refine Z2 (m:=slotArgs _ _ _) (Z3 ?_);refine Z2 (wpAny_fieldsOf M rfl ?_);show wpAny _ _ (setEntries S>>= _) _ _ _;refine Z2 (wpAny_setEntries_of g u h ?_);rw[if_neg (by simp)];rcases m with⟨c,rfl,z⟩|⟨c,rfl,B,ps,C,U,D⟩|⟨c,h1,z,Y,f1⟩
 ·show wpAny _ _ (setNext S 0 i ep>>= _) _ _ _;refine Z2 ?_;unfold setNext;refine Z2 (wpAny_setState_of g u h ?_);refine Z2 (Z2 (wpAny_askSetting (Z3 ?_)));show wpAny _ _ (if bj w=true then _ else _) _ _ _;rw[if_pos c];dsimp only;rw[if_neg (show ¬ ((ep != ep)=true) by simp)];refine Z2 ?_;unfold setWalk;refine Z2 (wpAny_setState_of g u h ?_);refine Z2 (Z2 (wpAny_askSetting (Z3 ?_)));show wpAny _ _ (if bj w=true then _ else _) _ _ _;rw[if_pos c];refine Z2 (wpAny_askSetting (Z3 (Z3 ?_)));have d:(pickOrder (w.params.setOrder S ep) es)[i]?.map (·.2)=some v:=by
   rw[z]at f;simpa using f
  cases r:(pickOrder (w.params.setOrder S ep) es)[i]? with
  | none=>rw[r]at d;cases d
  | some e=>
    rw[r]at d;have G:e.2=v:=by simpa using d
    show wpAny _ _ (match((pickOrder (w.params.setOrder S ep) es)[i]?).map λe=>(e.2,0)with|some (x,next)=>_|none=>_) _ _ _;rw[r];show wpAny _ _ (setField (.ref I) 0 (rawInt ((0:Nat):Int))>>= _) _ _ _;refine Z2 (wpAny_setField_rec M (by simp) λg1 b a=>?_);refine Z2 (wpAny_setField_rec (s:={s with heap:=g1}) b (by simp) λg2 k l=>?_);rw[G];have H:SameBut I s.heap g2:=a.trans l;refine Z3 ⟨v,rfl,Z3 (O g2 ⟨(H.2 S j).trans g,_,k,.inl ⟨c,rfl,z⟩⟩ H)⟩
 ·show wpAny _ _ (seqItems? (.ref T)>>= _) _ _ _;refine Z2 (wpAny_seqItems C rfl ?_);have hi:i<ord.length:=(Ys f).1;have J:i<ps.length:=by lia
  obtain⟨e,N,ab⟩:=D i ps[i] (by simp[J]);have G:e.2=v:=by rw[ab]at f;exact Z9 f
  have L:(ps.map λ(i:Nat)=>rawInt i).toArray[(i:Int).toNat]? =some (rawInt ps[i]):=by simp[J]
  dsimp only;rw[L];show wpAny _ _ (setNextDrawn S ps[i] ep>>= _) _ _ _;refine Z2 ?_;unfold setNextDrawn;refine Z2 (wpAny_setState_of g u h ?_);dsimp only;rw[if_neg (show ¬ ((ep != ep)=true) by simp),N];refine Z3 ?_;refine Z2 (wpAny_setField_rec M (by simp) λg1 b a=>?_);rw[G];exact Z3 ⟨v,rfl,Z3 (O g1 ⟨(a.2 S j).trans g,_,b,.inr (.inl ⟨c,rfl,B,ps,(a.2 T B).trans C,U,D⟩)⟩ a)⟩
 ·have hi:i<ord.length:=(Ys f).1;have i0:i=0:=by lia
  subst i0;have Y:=Y rfl;subst Y;have e1:es.size=1:=by lia
  have pz:t.place.size=1:=by
   simp only[SetTable.fits,Zu,beq_iff_eq,decide_eq_true_eq]at h;rw[h.1,e1]
  obtain⟨p,r⟩:=mG pz;obtain⟨e,N⟩:∃e,es[0]? =some e:=⟨es[0],by simp[e1]⟩
  have G:e.2=v:=by
   rw[z]at f;have:(es[0]?).map (·.2)=some v:=by simpa using f
   rw[N]at this;simpa using this
  show wpAny _ _ (setNext S 0 0 ep>>= _) _ _ _;refine Z2 ?_;unfold setNext;refine Z2 (wpAny_setState_of g u h ?_);refine Z2 (Z2 (wpAny_askSetting (Z3 ?_)));show wpAny _ _ (if bj w=true then _ else _) _ _ _;rw[if_neg (by rw[c];decide)];dsimp only
  split
  ·rename_i n
   change (!t.plain&&decide (es.size>1))=true at n;rw[e1]at n;simp at n
  ·refine Z2 (m:=(if(!t.led&&!es.isEmpty)=true then unsupported "set:maker-not-led" else pure ())) ?_;rw[y,c];refine Z3 ?_;rw[r,mF];simp only[Yi,↓reduceIte,N];refine Z3 ?_;show wpAny _ _ (setField (.ref I) 0 (rawInt ((p+1:Nat):Int))>>= _) _ _ _;refine Z2 (wpAny_setField_rec M (by simp) λg1 b a=>?_);refine Z2 (wpAny_setField_rec (s:={s with heap:=g1}) b (by simp) λg2 k l=>?_);rw[G];have H:SameBut I s.heap g2:=a.trans l;exact Z3 ⟨v,rfl,Z3 (O g2 ⟨(H.2 S j).trans g,_,k,.inr (.inr ⟨c,by lia,z,λq=>by lia,λ_=>⟨p,by rw[r];rfl,rfl⟩⟩)⟩ H)⟩
theorem pk{c:Type}{Q:c->Shared->Prop}(d:A.handled=none)(f:∀h' e,(∀b o,s.heap.get? b=some o->h'.get? b=some o)->(∃o,h'.get? e=some o/\o.cls= .type "StopIteration")->E (.ref e) {s with heap:=h'}):
 wpAny (model prog w) A (newExc (.type "StopIteration") []>>= λe=>(raiseNew e:Sem c)) Q E s:=by
 refine Z2 ?_;simp only[newExc,newTuple];refine Z2 (wpAny_newObj_type ?_ (by size_fits));refine Z2 (m:=firstArgMember _ _) (wpAny_of_eq (a:=Value.none) (by first|rfl|(simp only[firstArgMember];rfl)) (wpAny_newObj_type ?_ (by size_fits)));refine wpAny_raiseNew_none d (f _ _ (λb o e=>Z6 _ (Z6 _ e)) ⟨_,Zi _ rfl,rfl⟩)
theorem tP{i:Nat}{Q:Option Value->Shared->Prop}(hh:A.handled=none)(y:o.data= .set es ep t)(j:t.fits es.size=true)(n:t.led=!bj w)(st:SIt w I S T o es ep t ord i s.heap)(hi:i=ord.length)(hn:ord.length=es.size)
 (hQ:∀h',(∀b o,b≠I->s.heap.get? b=some o->h'.get? b=some o)->Q none {s with heap:=h'}):wpAny (model prog w) A (pyNext (.ref I)) Q E s:=by
 have U:=st.is;obtain⟨z,first,B,m⟩:=st;have G:A.in1.handled=none:=hh;have c:∀(g:Heap) (Y:Fin->Shared->Prop),SameBut I s.heap g->wpAny (model prog w) A.in1 (newExc (.type "StopIteration") []>>= λe=>(raiseNew e:Sem Fin)) Y (λe s'=>wpAny (model prog w) A (do
  if(<-isInstance e (.type "StopIteration"))then pure none else throw e) Q E s') {s with heap:=g}:=λg Y sb=>by
  refine pk G λh' e k ⟨oe,he,hc⟩=>?_
  refine Z2 (wpAny_isInstance (T:="StopIteration") (b:=true) ⟨oe,he,hc⟩ isSubtype_stop (Z3 (hQ h' λb o r q=>k b o ((sb.2 b r).trans q))))
 unfold pyNext;refine Z2 (wpAny_attempt (wpAny_callSpecial?_slot (name:=Str.ofString "__next__") U bJ (wpAny_call_entry bJ U eP ?_ (fH _))));unfold Builtin.«set_iterator.__next__»;refine Z2 (m:=slotArgs _ _ _) (Z3 ?_);refine Z2 (wpAny_fieldsOf B rfl ?_);show wpAny _ _ (setEntries S>>= _) _ _ _;refine Z2 (wpAny_setEntries_of z y j ?_);rw[if_neg (by simp)];rcases m with⟨l,rfl,eo⟩|⟨l,rfl,ab,ps,H,ac,al⟩|⟨l,h1,eo,J,L⟩
 ·show wpAny _ _ (setNext S 0 i ep>>= _) _ _ _;refine Z2 ?_;unfold setNext;refine Z2 (wpAny_setState_of z y j ?_);refine Z2 (Z2 (wpAny_askSetting (Z3 ?_)));show wpAny _ _ (if bj w=true then _ else _) _ _ _;rw[if_pos l];dsimp only;rw[if_neg (show ¬ ((ep != ep)=true) by simp)];refine Z2 ?_;unfold setWalk;refine Z2 (wpAny_setState_of z y j ?_);refine Z2 (Z2 (wpAny_askSetting (Z3 ?_)));show wpAny _ _ (if bj w=true then _ else _) _ _ _;rw[if_pos l];refine Z2 (wpAny_askSetting (Z3 (Z3 ?_)));have C:(pickOrder (w.params.setOrder S ep) es)[i]? =none:=by
   rw[Array.getElem?_eq_none_iff,hi,eo,Z5,Za];exact Zh _
  show wpAny _ _ (match((pickOrder (w.params.setOrder S ep) es)[i]?).map λe=>(e.2,0)with|some (x,next)=>_|none=>_) _ _ _;rw[C];show wpAny _ _ (setField (.ref I) 2 .none>>= _) _ _ _;exact Z2 (wpAny_setField_rec B (by simp) λg1 _ d=>c g1 _ d)
 ·show wpAny _ _ (seqItems? (.ref T)>>= _) _ _ _;refine Z2 (wpAny_seqItems H rfl ?_);have u:(ps.map λ(i:Nat)=>rawInt i).toArray[(i:Int).toNat]? =none:=by simp;lia
  dsimp only;rw[u];show wpAny _ _ (setField (.ref I) 0 (rawInt 0)>>= _) _ _ _;refine Z2 (wpAny_setField_rec B (by simp) λg1 M d=>?_);exact Z2 (wpAny_setField_rec (s:={s with heap:=g1}) M (by simp) λg2 _ N=>c g2 _ (d.trans N))
 ·have done:∀slot:Nat,first=rawInt slot->SetTable.below t.place slot=es.size->wpAny (model prog w) A.in1 (setNext S slot i ep) (λa s'=>a=none/\s'=s) (λ_ _=>False) s:=by
   intro slot _ r;unfold setNext;refine Z2 (wpAny_setState_of z y j ?_);refine Z2 (Z2 (wpAny_askSetting (Z3 ?_)));show wpAny _ _ (if bj w=true then _ else _) _ _ _;rw[if_neg (by rw[l];decide)];dsimp only
   split
   ·rename_i h
    change (!t.plain&&decide (es.size>1))=true at h;have:decide (es.size>1)=false:=Zg (by lia);rw[this,Bool.and_false]at h;cases h
   ·refine Z2 (m:=(if(!t.led&&!es.isEmpty)=true then unsupported "set:maker-not-led" else pure ())) ?_;rw[n,l];refine Z3 ?_;rw[r,show es[es.size]? =none by simp];exact Z3 ⟨rfl,rfl⟩
  have go:∀slot:Nat,first=rawInt slot->SetTable.below t.place slot=es.size->wpAny (model prog w) A.in1 (setNext S slot i ep>>= λa=>match a with
   | some (x,next)=>(do
     setField (.ref I) 0 (rawInt ↑next)
     setField (.ref I) 1 (rawInt (↑i+1))
     ret x)
   | none=>(do
     setField (.ref I) 2 .none
     let e<-newExc (.type "StopIteration") []
     raiseNew e)) (λc s'=>∃v,c=Fin.done (Flow.ret v)/\wpAny (model prog w) A (pure (some v)) Q E s') (λe s'=>wpAny (model prog w) A (do
   if(<-isInstance e (.type "StopIteration"))then pure none else throw e) Q E s') s:=by
   intro slot e r;refine Z2 (wpAny_mono (done slot e r) (λa s' ⟨D,e2⟩=>?_) λ_ _ f=>f.elim);subst D;subst e2;exact Z2 (wpAny_setField_rec B (by simp) λg1 _ d=>c g1 _ d)
  have pz:t.place.size=es.size:=by
   simp only[SetTable.fits,Zu,beq_iff_eq,decide_eq_true_eq]at j;exact j.1
  by_cases e0:es.size=0
  ·have i0:i=0:=by lia
   subst i0;have J:=J rfl;subst J;refine go 0 rfl ?_;have:t.place= #[]:=Array.eq_empty_of_size_eq_zero (by lia);rw[this,qH,e0]
  ·have D:es.size=1:=by lia
   have i1:i=1:=by lia
   subst i1;obtain⟨p,C,L⟩:=L rfl;subst L;refine go (p+1) rfl ?_;obtain⟨p',O⟩:=mG (by rw[pz,D]:t.place.size=1);rw[O]at C ⊢;have:p'=p:=by simpa using C
   subst this;rw[mF,if_pos (Y9 _),D]
end
theorem fJ:Slot "set_iterator" "__iter__" "set_iterator.__iter__":=
 .of (owner:="set_iterator") (n:="__iter__") (by rw[typeLookup_type,builtinLookup_eq_fast];kernel_rfl) (by decide +kernel) (by decide +kernel) (by decide +kernel) (by first|exact .inl (by decide +kernel)|exact .inr (by decide +kernel)) (by rw[isSubtype_type];kernel_rfl)
theorem jn:entryFor table "set_iterator.__iter__"=some Builtin.«dict_keyiterator.__iter__»:=entryFor_alias (id':="dict_keyiterator.__iter__") (by kernel_rfl) rfl (by decide +kernel) (by kernel_rfl)
theorem j8(a:Value):argsOk "set_iterator.__iter__" ⟨[a],[]⟩:=by unfold argsOk;kernel_rfl
theorem nQ:typeLookup (.type "set") "__len__"=pure (some (.builtin "set.__len__")):=by rw[typeLookup_type,builtinLookup_eq_fast];kernel_rfl
section
variable{prog:Program}{w:World}{A:Around}{E:Value->Shared->Prop}{s:Shared}{I S T:Addr}{o:Obj}{es:Array (Int×Value)}{ep:Nat}{t:SetTable}{ord:List Value}
theorem tQ(hh:A.handled=none)(hd:o.data= .set es ep t)(hf:t.fits es.size=true)(hled:t.led=!bj w)(hSI:S≠I)(hn:ord.length=es.size):
 Walks prog w A I [I,S,T] [I] ord.length (λi v=>ord[i]? =some v) (λi h=>SIt w I S T o es ep t ord i h) where
 sub:=by simp
 frame:=λi h h' st k=>by
  obtain⟨hS,first,hI,m⟩:=st;refine⟨k S (by simp) _ hS,first,k I (by simp) _ hI,?_⟩;rcases m with m|⟨bt,e,hTI,ps,hTt,r⟩|m
  ·exact .inl m
  ·exact .inr (.inl ⟨bt,e,hTI,ps,k T (by simp) _ hTt,r⟩)
  ·exact .inr (.inr m)
 item:=λi s Q E hi st hQ=>qI (v:=ord[i]) hd hf hled hSI st (by simp[hi]) hn λh' st' sb=>hQ _ h' s.toks (by simp[hi]) st' λb o' hb e=>(sb.2 b (λq=>hb (by simp[q]))).trans e
 done:=λs Q E st hQ=>tP hh hd hf hled st rfl hn λh' k=>hQ h' s.toks λb o' hb e=>k b o' (λq=>hb (by simp[q])) e
 self:=λi s Q E st hQ=>by
  have hT:=st.is;refine wpAny_pyIter_slot hT fJ (wpAny_call_entry fJ hT jn ?_ (j8 _));show wpAny _ _ (ret (.ref I)) _ _ s;exact Z3 ⟨_,rfl,"set_iterator",_,hT,bJ.lookup,hQ⟩
theorem tR(g:s.heap.get? S=some o)(z:o.ExactSet)(B:o.data= .set es ep t)(hb:es.size<scanBound)(C:t.fits es.size=true)(D:es.size≠0->t.plain=false)(L:t.led=!bj w)
 (hQ:∀(I T:Addr) (ord:List Value) (h':Heap) d,(∀b o,s.heap.get? b=some o->h'.get? b=some o)->s.heap.objs.size<=I->S≠I->(T=S\/s.heap.objs.size<=T)->T<h'.objs.size->I<h'.objs.size->ord.length=es.size->
  SIt w I S T o es ep t ord 0 h'->ord.Perm (es.toList.map (·.2))->Q (.ref I) {s with heap:=h',drawn:=d}):wpAny (model prog w) A (pyIter (.ref S)) Q E s:=by
 have M:s.TypeIs (.ref S) "set":=⟨o,g,z.1⟩
 have l:S<s.heap.objs.size:=Zt g;refine wpAny_pyIter_slot M F.slot_set_iter (wpAny_call_entry F.slot_set_iter M lK ?_ (F.args_set_iter_1 _));unfold Builtin.«frozenset.__iter__»;refine Z2 (m:=Builtin.Frozenset.slot0 _ _) (Z2 (m:=slotArgs _ _ _) (Z3 (Z3 ?_)));refine Z2 (m:=Builtin.Frozenset.sizeOf S) (Z2 (wpAny_setEntries_of g B C (Z3 ?_)));refine Z2 (m:=setDrawn S) ?_;unfold setDrawn;refine Z2 (wpAny_setState_of g B C (Z2 (Z2 (wpAny_askSetting (Z3 (Z3 ?_))))));have a:∀(first:Value) (c:Shared) (T:Addr) (ord:List Value),c.heap.get? S=some o->(∃d f,c={s with heap:=f,drawn:=d})->(∀b o,s.heap.get? b=some o->c.heap.get? b=some o)->T<c.heap.objs.size->s.heap.objs.size<=c.heap.objs.size->(T=S\/s.heap.objs.size<=T)->ord.Perm (es.toList.map (·.2))->
  ((bj w=true/\first=rawInt 0/\ord=(pickOrder (w.params.setOrder S ep) es).toList.map (·.2))\/(bj w=false/\first= .ref T/\∃ps:List Nat,c.heap.get? T=some {cls:= .type "tuple",data:= .seq (ps.map λ(i:Nat)=>rawInt i).toArray}/\ps.length=ord.length/\∀(j p:Nat),ps[j]? =some p->∃e,es[p]? =some e/\ord[j]? =some e.2)\/(bj w=false/\es.size<=1/\ord=es.toList.map (·.2)/\first=rawInt 0))->ord.length=es.size->
  wpAny (model prog w) A.in1 (do ret (<-newFields "set_iterator" [first,rawInt 0,.ref S,rawInt es.size,rawInt (<-setEpoch S)])) (λa s'=>∃v,a=Fin.done (Flow.ret v)/\∃N r,s'.TypeIs v N/\typeLookup (.type N) "__next__"=pure (some r)/\Q v s') (λe s'=>E e s') c:=by
  intro first c T ord f ⟨d,g1,e1⟩ k1 O sl G x m hn
  subst e1;refine Z2 (wpAny_setEpoch_of f B C (Z2 (wpAny_newObj_type ?_)));have U:(g1.push {cls:= .type "set_iterator",data:= .fields #[first,rawInt 0,.ref S,rawInt es.size,rawInt ep]}).get? g1.objs.size=some _:=Zi _ rfl;refine Z3 ⟨_,rfl,"set_iterator",_,⟨_,U,rfl⟩,bJ.lookup,hQ g1.objs.size T ord _ d (λb Y e=>Z6 _ (k1 b Y e)) sl (Zr (Zt f)) G (by rw[Zp];exact Y8 O) (by rw[Zp];exact Y9 _) hn ?_ x⟩;refine⟨Z6 _ f,first,U,?_⟩;rcases m with m|⟨h,e,ps,H,r⟩|⟨h,J,eo,e⟩
  ·exact .inl m
  ·exact .inr (.inl ⟨h,e,Zr O,ps,Z6 _ H,r⟩)
  ·exact .inr (.inr ⟨h,J,eo,λ_=>e,λq=>absurd q (by decide)⟩)
 have lst:(es.toList.map (·.2)).length=es.size:=by rw[Z5,Za]
 by_cases h:bj w=true
 ·show wpAny _ _ (if(!bj w&&_)=true then _ else _) _ _ _;rw[h,Bool.not_true,Bool.false_and,if_neg (by decide)];refine Z2 (Z3 ?_);have n:=(tO (w.params.setOrder S ep) es).map (·.2);exact a (rawInt 0) s S _ g ⟨s.drawn,s.heap,rfl⟩ (λ_ _ e=>e) l (Zh _) (.inl rfl) n (.inl ⟨h,rfl,rfl⟩) (by rw[n.length_eq,lst])
 ·have y:bj w=false:=by simpa using h
  show wpAny _ _ (if(!bj w&&(!t.plain&&decide (es.size>1)))=true then _ else _) _ _ _;by_cases f:es.size>1
  ·rw[y,D (by lia),Ze f];simp only[Bool.not_false,Bool.and_self,↓reduceIte];refine Z2 (rX es.size (List.range es.size) _ _ (by simp) λps d k=>Z2 ?_);refine wpAny_newTuple ?_ (by rw[Z5,k.length_eq,Y4];exact fits_of_scanBound hb);have lt:∀p∈ps,p<es.size:=λp q=>mem_range.mp (k.mem_iff.mp q)
   have er:(List.range es.size).map (λp=>((es[p]?).map (·.2)).getD .none)=es.toList.map (·.2):=by
    apply ext_getElem
    ·simp
    ·intro i x q2;simp at x;simp[x]
   have n:(ps.map (λp=>((es[p]?).map (·.2)).getD .none)).Perm (es.toList.map (·.2)):=by rw[<-er];exact k.map _
   refine a (.ref s.heap.objs.size) {s with heap:=_,drawn:=d} s.heap.objs.size (ps.map (λp=>((es[p]?).map (·.2)).getD .none)) (Z6 _ g) ⟨d,_,rfl⟩ (λb Y e=>Z6 _ e) (by show _<(push _ _).objs.size;rw[Zp];exact Y9 _) (by show _<=(push _ _).objs.size;rw[Zp];exact Y1 _) (.inr (Zh _)) n
    (.inr (.inl ⟨y,rfl,ps,Zi _ rfl,by rw[Z5],λj p q=>?_⟩)) (by rw[n.length_eq,lst])
   have u:=lt p (Z7 q);exact⟨es[p],by simp[u],by simp[q,u]⟩
  ·rw[y,Zg f];simp only[Bool.and_false,Zw,↓reduceIte];refine Z2 (Z3 ?_);exact a (rawInt 0) s S _ g ⟨s.drawn,s.heap,rfl⟩ (λ_ _ e=>e) l (Zh _) (.inl rfl) (List.Perm.refl _) (.inr (.inr ⟨y,by lia,rfl,rfl⟩)) lst
theorem iQ(hh:A.handled=none)(r:s.heap.get? S=some p)(a:p.ExactSet)(u:p.data= .set h a0 Y)(v:h.size<scanBound)(x:Y.fits h.size=true)(y:h.size≠0->Y.plain=false)(c:Y.led=!bj w)
 (hQ:∀s' vs,vs.Perm (h.toList.map (·.2))->(∀b o,s.heap.get? b=some o->s'.heap.get? b=some o)->s'.gens=s.gens->s'.os=s.os->s.heap.objs.size<=s'.heap.objs.size->Q vs s'):wpAny (model prog w) A (collect (.ref S)) Q E s:=by
 unfold collect;refine Z2 (wpAny_runValue (codeAny_builtin F.entry_proto_collect ?_));rw[Around.under_plainId F.plain_proto_collect _];show wpAny _ A.in1 (newList []>>= λl=>again (.builtin "list.__iadd__" ⟨[l,.ref S],[]⟩)) _ _ s;refine Z2 (wpAny_newObj_type (Z3 ⟨plainId_quiet F.plain_list_iadd _,codeAny_builtin F.entry_list_iadd ?_⟩));rw[Around.under_plainId F.plain_list_iadd _];have i:S<s.heap.objs.size:=Zt r;show wpAny _ A.in1 (Builtin.List.listExtendWith (.ref s.heap.objs.size) (.ref S) (.ref s.heap.objs.size)) _ _ _;unfold Builtin.List.listExtendWith
 generalize N:s.heap.push {cls:= .type "list",data:= .seq ([]:List Value).toArray}=G
 have gS:G.get? S=some p:=by rw[<-N];exact Z6 _ r
 have gz:G.objs.size=s.heap.objs.size+1:=by rw[<-N,Zp]
 have gL:G.get? s.heap.objs.size=some {cls:= .type "list",data:= .seq ([]:List Value).toArray}:=by rw[<-N];exact Zi _ rfl
 have tS:Shared.TypeIs {s with heap:=G} (.ref S) "set":=⟨p,gS,a.1⟩
 refine Z2 (wpAny_typeOf (T:="set") tS ?_);have n1:Builtin.List.listSameRef (.ref s.heap.objs.size) (.ref S)=false:=by
  show(s.heap.objs.size==S)=false;exact beq_eq_false_iff_ne.mpr (Yh i)
 have n2:(Value.type "set"==Value.type "list")=false:=by decide
 have n3:(Value.type "set"==Value.type "tuple")=false:=by decide
 simp only[n1,n2,n3,Bool.or_false,Zw,if_false];refine Z2 (tR (s:={s with heap:=G}) gS a u v x y c λI T ord g d z O ab ac a1 a2 hn st q1=>?_);replace z:∀b o,G.get? b=some o->g.get? b=some o:=z;replace O:G.objs.size<=I:=O;have al:g.get? S=some p:=z _ _ gS;refine Z2 (wpAny_holding ?_);unfold Builtin.List.listLengthHint;have k:Shared.TypeIs {s with heap:=g,drawn:=d} (.ref S) "set":=⟨p,al,a.1⟩
 refine Z2 (wpAny_specialOf (T:="set") k nQ ?_)
 wp_delta
 refine Z2 (wpAny_isInstance (T:="set") (b:=true) k (by rw[isSubtype_type];kernel_rfl) ?_);show wpAny _ A.in1 (typeOf (.ref S)>>= _) _ _ _;refine Z2 (wpAny_typeOf (T:="set") k (Z3 ?_));rw[if_pos (by decide)];refine Z2 (wpAny_rule ?_);have B:g.get? s.heap.objs.size=some {cls:= .type "list",data:= .seq ([]:List Value).toArray}:=z _ _ gL;refine Z2 ?_;unfold Builtin.List.listTouch;refine Z2 (listUpdate_at (s:={s with heap:=g,drawn:=d}) B rfl ?_ (Yn _) (by show 1<=sizeLine+1;lia));have C:=get?_update_self (Obj.mapSeq (·.push Value.none)) B rfl;refine listUpdate_at (xs:= #[Value.none]) (n:=1) (s:={s with heap:=g.update s.heap.objs.size (Obj.mapSeq (·.push Value.none)),drawn:=d}) C rfl ?_ (by show 1<=sizeLine;decide) (by show 0<=sizeLine+1;lia);have an:=get?_update_self (Obj.mapSeq (·.pop)) C rfl;have D:∀b o,b≠s.heap.objs.size->g.get? b=some o->((g.update s.heap.objs.size (Obj.mapSeq (·.push Value.none))).update s.heap.objs.size (Obj.mapSeq (·.pop))).get? b=some o:=λb o U e=>(get?_update_other _ _ (Ne.symm U)).trans ((get?_update_other _ _ (Ne.symm U)).trans e)
 have as:s.heap.objs.size≠I:=Zr (Zf (by rw[gz];exact Y9 _) O);have neT:s.heap.objs.size≠T:=by
  rcases ac with e|e
  ·rw[e];exact Yh i
  ·exact Zr (Zf (by show s.heap.objs.size<G.objs.size;rw[gz];exact Y9 _) e)
 have H:s.heap.objs.size∉[I,S,T]:=by
  simp only[Ye,Yj,or_false,not_or];exact⟨as,Yh i,neT⟩
 have au:ord.length<=sizeLine:=by rw[hn];exact fits_of_scanBound v
 have W:=tQ (prog:=prog) (A:=A.in1) (T:=T) (show A.in1.handled=none from hh) u x c ab hn;have av:=W.frame 0 g ((g.update s.heap.objs.size (Obj.mapSeq (·.push Value.none))).update s.heap.objs.size (Obj.mapSeq (·.pop))) st λb U J e=>D b J (λq=>H (q▸U)) e
 refine Z3 ⟨plainId_quiet F.plain_extend_loop _,codeAny_extend_loopS W.toS au _ H _ ord.length 0 _ _ _ rfl (Yn _) av an (ItemsOf.nil _) λs5 acc c5 m5 L f=>?_⟩;show wpAny _ A (load s.heap.objs.size>>= _) _ _ s5;refine Z2 (wpAny_load L (Z3 ?_));have ea:acc.toList=ord:=by
  apply List.ext_getElem?;intro j;by_cases hj:j<ord.length
  ·have M:j<acc.size:=by rw[f.1];exact hj
   have:=f.2 j acc[j] (by simp[M]);rw[this];simp[M]
  ·have l1:acc.toList.length=ord.length:=by rw[Za];exact f.1
   rw[List.getElem?_eq_none (l:=acc.toList) (by lia),List.getElem?_eq_none (l:=ord) (by lia)]
 rw[ea];refine hQ s5 ord q1 (λb J e=>?_) m5.gens m5.os (le_of_lt (Zt L));have m:=Zt e;refine m5.heap b J ?_ (D b J (Zr m) (z b J (by rw[<-N];exact Z6 _ e)));simp only[Ye,Yj,or_false,not_or];exact⟨Zr m,Zr (Zf m (Y2 (by rw[gz];exact Y1 _) O))⟩
theorem pq(f:A.handled=none)(h:dJ w S ks s.heap)
 (i:∀s' vs ss,StrsAre vs ss->ss.Perm ks->(∀b o,s.heap.get? b=some o->s'.heap.get? b=some o)->s'.gens=s.gens->s'.os=s.os->s.heap.objs.size<=s'.heap.objs.size->Q vs s'):wpAny (model prog w) A (collect (.ref S)) Q E s:=by
 obtain⟨o,es,ep,t,ss,j,c,l,d,m,n,p,q,r,e,a⟩:=h;refine iQ f j c l q r e a λs' vs pv k g os sz=>?_
 obtain⟨ts,u,v⟩:=e9 d pv;exact i s' vs ts u (v.trans m) k g os sz
end
section
variable{X:Cx}{pins:List (Addr×Obj)}{σ:St}{H:Hp}{s s':Shared}
theorem Inv.keptS(I:Inv X pins σ H s)(k:∀b o,s.heap.get? b=some o->s'.heap.get? b=some o)(c:s'.gens=s.gens)(a:s'.os=s.os):Inv X pins σ H s':=by
 obtain⟨h',g',d',t',d⟩:=s';replace c:g'=s.gens:=c;replace a:d=s.os:=a;subst c;subst a;refine I.step (g':=s.gens) (d':=d') (ch:=[]) (λb f=>absurd f (by simp)) (λb o _ _ _ e _=>k b o e) (λb o _ _ _ e _=>⟨o.slots,k b o e⟩) (λ_ _ _ _ n=>n) (λb o _ e=>⟨o,k b o e⟩) (λ_ _ e=>e) (λ_ _ _ e=>e) (λb ps e=>⟨#[],by rw[e];simp⟩) (λm g=>?_) (λb v e=>?_) I.bare
 ·obtain⟨o,h,i,a,r⟩:=g;exact⟨o,h,i,k _ o a,r⟩
 ·exact(I.hok b v e).stay (λj l _ q=>k j l q) (λ_ q=>q) λ_ _ q=>q
theorem Inv.stoodS(I:Inv X pins σ H s)(J:Inv X pins σ H s')(c:s.heap.objs.size<=a)(new:bg X.prog X.w (upd H a o) s'.heap a o):Inv X pins σ (upd H a o) s':=by
 have d:H a=none:=I.hok.fresh c;have g:∀b o,X.s₀.heap.get? b=some o->b≠a:=λb o e=>Zr (Zf (Zf (Zt e) I.sz) c)
 refine⟨J.ok,J.os,J.bare,?_,J.loc,J.cell,?_,?_,?_,?_,J.len⟩
 ·refine⟨J.base.keep,J.base.slot,λb o e n k=>?_,J.base.there,λb xs e=>?_,λb o v e=>?_,λb ps e=>?_⟩
  ·rw[aj (g b o e)];exact J.base.free b o e n k
  ·rw[aj (am (J.base.tups b xs e) d)];exact J.base.tups b xs e
  ·rw[aj (am (J.base.frzs b o v e) d)];exact J.base.frzs b o v e
  ·obtain⟨m,q⟩:=J.base.tbls b ps e;exact⟨m,by rw[aj (am q d)];exact q⟩
 ·rw[aj (Zr (Zf I.lt c))];exact J.free
 ·intro h f e;obtain⟨l,q⟩:=I.cell h f e;rw[aj (Zr (Zf q.lt c))];exact J.freeC h f e
 ·intro p i;obtain⟨e,n,r⟩:=J.pin p i;refine⟨e,?_,r⟩;rw[aj (Zr (Zf (Zt (I.pin p i).1) c))];exact n
 ·intro b v e;by_cases j:b=a
  ·subst j;rw[aa]at e;cases e;exact new
  ·rw[aj j]at e;refine(J.hok b v e).stay (λ_ _ _ q=>q) (λf q=>?_) λf xs q=>?_
   ·rw[aj (am q d)];exact q
   ·rw[aj (am q d)];exact q
end
section
variable{prog:Program}{w:World}{A:Around}{E:Value->Shared->Prop}{s:Shared}{S:Addr}
theorem qJ(r:A.handled=none)(t:dJ w S ks s.heap)(g:ks.length<64)
 (u:∀(s':Shared) (l:Addr) (vs:List Value) (ss:List Str) (n:Nat),StrsAre vs ss->ss.Perm ks->sortedS ss=true->(∀b o,s.heap.get? b=some o->s'.heap.get? b=some o)->s'.gens=s.gens->s'.os=s.os->s.heap.objs.size<=l->s'.heap.get? l=some {cls:= .type "list",data:= .seq vs.toArray n}->Q (.ref l) s'):
 wpAny (model prog w) A (call (.builtin "sorted") [.ref S]) Q E s:=by
 refine Calls.call_function_entry kind_sorted plain_sorted entry_sorted (args_sorted1 _) ?_;unfold Builtin.«sorted»;refine Z2 (m:=checkCount "sorted" 1 1 _) (Z3 ?_);refine Z2 (pq (show A.in1.handled=none from r) t λc vs ss f j v g1 x h=>?_);have y:vs.length<64:=by rw[cy f,j.length_eq];exact g
 refine Z2 (wpAny_newList ?_ (by rw[sizeLine_eq];lia));have i:(c.heap.push (seqObj "list" vs.toArray 0)).get? c.heap.objs.size=some (seqObj "list" vs.toArray 0):=Zi _ rfl;refine Z2 (wpAny_holding (wpAny_call_entry slot_list_sort ⟨_,i,rfl⟩ entry_list_sort (list_sort_treeK (s:={c with heap:=c.heap.push (seqObj "list" vs.toArray 0)}) strKind_oneLt i f.keysOf (λk p rest e=>keyKind_strs (by rw[<-e];exact f)) y λa z B=>⟨_,rfl,?_⟩) (args_list_sort _)));obtain⟨ts,C,D,G⟩:=sorted_out_str f z B;obtain⟨n,H⟩:∃n,(sortedHeap (c.heap.push (seqObj "list" vs.toArray 0)) c.heap.objs.size vs ((arrOf a).map (·.2))).get? c.heap.objs.size=some (seqObj "list" ((arrOf a).map (·.2)) n):=sortedHeap_at i;refine Z3 ⟨_,rfl,u _ c.heap.objs.size ((arrOf a).map (·.2)).toList ts n C (D.trans j) G (λb I e=>?_) g1 x h ?_⟩
 rotate_left
 ·show _=some (seqObj "list" ((arrOf a).map (·.2)).toList.toArray n);rw[Array.toArray_toList];exact H
 have q:=v b I e;have d:=Zt q;show(sortedHeap _ _ _ _).get? b=_;rw[sortedHeap_old (Zr d) (by rw[Zp];exact Y8 d)];exact Z6 _ q
end
section
variable{X:Cx}{K:PySem.W.Frag}
theorem nR(e:X.calm=true):cn X (.builtin "sorted") (λxs H Q=>∃a ks,xs=[.ref a]/\H a=some (qG X.w a ks)/\ks.length<64/\∀l ss,H l=none->ss.Perm ks->sortedS ss=true->Q (.ref l) (upd H l (.lst (ss.map V.str)))):=by
 intro pins s f H xs us Q I r h;obtain⟨a,ks,rfl,i,j,q⟩:=h;obtain⟨u,rfl,m⟩:=eL r;cases m;obtain⟨S,_,_⟩:=(show bg X.prog X.w H s.heap a (qG X.w a ks)from I.hok a _ i)
 refine qJ (I.ok.hd e) S j λs' l vs ss n p d t k g o c v=>?_
 have b:H l=none:=I.hok.fresh c;have J:Inv X pins f H s':=I.keptS k g o;refine⟨.ref l,_,I.stoodS (o:= .lst (ss.map V.str)) J c ⟨?_,vs,n,mz p,v⟩,rfl,q l ss b d t⟩;rw[Z5,d.length_eq,sizeLine_eq]
 lia
theorem tT(h:X.w=w)(b:X.calm=true):cN X (.builtin "sorted") (λxs H Q=>∃a ks,xs=[.ref a]/\H a=some (qG w a ks)/\ks.length<64/\∀l ss,H l=none->ss.Perm ks->sortedS ss=true->Q (.ref l) (upd H l (.lst (ss.map V.str)))):=by subst h;exact⟨nR b⟩
end
theorem ai{D:d9}(h:∀c:d9,(∀a b,u D a b->c.nx a b)->(∀v b,D.rt v b->c.rt v b)->t c d H):bA t u D d H:=h _ (λ_ _ x=>x) λ_ _ x=>x
theorem aU{t:TS}{D:d9}(h:∀c:d9,(∀a b,D.nx a b->c.nx a b)->(∀v b,D.rt v b->c.rt v b)->t c d H):t D d H:=h _ (λ_ _ x=>x) λ_ _ x=>x
theorem gf{K:PySem.W.Frag}{xs:List V}{g:TG}{j:TS}{D:d9}(Pv:Nat->St->Hp->Prop)(l:Pv 0 b H)(n:∀i b H,i<=xs.length->Pv i b H->SqL K H a xs)
 (o:∀i x T b H,xs[i]? =some x->Pv i b H->H T=none->g (.ref T) b (upd H T (.tup [.int i,x])) λc h=>j {D with nx:=Pv (i+1),ct:=Pv (i+1),bk:=D.nx} c h) (r:∀b H,Pv xs.length b H->D.nx b H):
 ∃W:Nat->Nat->St->Hp->Prop,(∃m,W 0 m b H)/\∀i m b H,W i m b H->
  ((Ite K a xs).stop i H/\D.nx b H)\/((Ite K a xs).go i H/\∃N:St->Hp->Prop,(∀d f,N d f->∃k,k<m/\W (i+1) k d f)/\∀x f,(Ite K a xs).yld i H x f->g x b f λc h=>j {D with nx:=N,ct:=N,bk:=D.nx} c h):=by
 refine⟨λi m b H=>m=xs.length-i/\i<=xs.length/\Pv i b H,⟨xs.length,by simp,Yn _,l⟩,?_⟩;rintro i m b H ⟨rfl,hi,p⟩;have q:=n i b H hi p;by_cases lt:i<xs.length
 ·refine .inr ⟨⟨q,lt⟩,Pv (i+1),λd f s=>⟨xs.length-(i+1),by lia,rfl,lt,s⟩,λv f y=>?_⟩;obtain⟨x,T,e,t,rfl,rfl⟩:=y;exact o i x T b _ e p t
 ·have e:i=xs.length:=by lia
  subst e;exact .inl ⟨⟨q,Zh _⟩,r b H p⟩
section
variable{X:Cx}{K:PySem.W.Frag}{pos:Pos}{a b:Expr}{ta tb:TE}
theorem bW:OpQ X (binaryOp .Add) (rI0 λi j=> .int (i+j)):=⟨vo⟩
theorem dW:OpQ X (binaryOp .Mult) (rI vm λi j=> .int (i*j)):=⟨vp⟩
theorem cm(h:X.K=K)(c:ki b)(d:QE X a ta)(e:QE X b tb):QE X (.Subscript a b pos) (tOp (z8 K) ta tb):=by subst h;exact⟨vI xQ d.h e.h c⟩
theorem yh(c:ki b)(d:QE X a ta)(e:QE X b tb):QE X (.Subscript a b pos) (tOp Aa ta tb):=⟨vI Ac d.h e.h c⟩
end
end L2
namespace Cut
open PySem L2 PyProof.Rows
noncomputable def dL:Str:="abcdefghijklmnopqrstuvwxyz"
noncomputable def dG(c:Nat):Bool:=decide (c∈dL.cps.toList)
noncomputable def okc(c:Nat):Bool:=decide (c=46)||dG c
noncomputable def nl:Str:="\n"
theorem Bt:nl=⟨#[10]⟩:=rfl
theorem tU:dG c=true↔97<=c/\c<=122:=by
 have e:dL.cps.toList=(List.range 26).map (·+97):=by decide +kernel
 unfold dG;rw[decide_eq_true_iff,e,mem_map]
 constructor
 ·rintro⟨i,h,rfl⟩;have:=mem_range.mp h
  lia
 ·rintro⟨a,b⟩;exact⟨c-97,mem_range.mpr (by lia),by lia⟩
theorem AA(h:okc c=true):c≠10:=by
 intro e;subst e
 revert h
 decide +kernel
structure aP (rows:List Str):Prop where
 pos:1<=rows.length
 high:rows.length<=40
 wide:∃wd,1<=wd/\wd<=40/\∀r∈rows,r.cps.size=wd
 sign:∀r∈rows,r.cps.toList.all okc=true
 fall:∀(i:Nat) (r r':Str),rows[i]? =some r->rows[i+1]? =some r'->∀(j c c':Nat),r.cps[j]? =some c->r'.cps[j]? =some c'->c'=46->c=46
 some':∃r∈rows,∃c∈r.cps.toList,c≠46
theorem iR{x y:Str}(h:x.cps.toList=y.cps.toList):x=y:=by
 obtain⟨⟨l⟩⟩:=x;obtain⟨⟨m⟩⟩:=y;simp at h;rw[h]
theorem cY(sep x y:Str)(r:List Str):(Str.join sep (x::y::r)).cps.toList=x.cps.toList++sep.cps.toList++(Str.join sep (y::r)).cps.toList:=by
 show((x.cps++sep.cps) ++(Str.join sep (y::r)).cps).toList=_;rw[toList_append,toList_append]
theorem wc [DecidableEq f]:∀{a b x y:List f},c∉a->c∉b->a++c::x=b++c::y->a=b/\x=y
 |[],[],_,_,_,_,h=>⟨rfl,(List.cons.inj h).2⟩
 |[],b::bs,_,_,_,d,h=>absurd (by rw[<-(List.cons.inj h).1];exact Zl) d
 | a::g,[],_,_,e,_,h=>absurd (by rw[(List.cons.inj h).1];exact Zl) e
 | a::g,b::bs,x,y,e,d,h=>by
   obtain⟨i,j⟩:=List.cons.inj h;obtain⟨k,l⟩:=wc (λq=>e (Zj _ q)) (λq=>d (Zj _ q)) j;exact⟨by rw[i,k],l⟩
theorem pw{c:Nat}:∀{ps qs:List Str},ps≠[]->qs≠[]->(∀p∈ps,c∉p.cps.toList)->(∀q∈qs,c∉q.cps.toList)->(Str.join ⟨#[c]⟩ ps).cps.toList=(Str.join ⟨#[c]⟩ qs).cps.toList->ps=qs
 |[],_,h,_,_,_,_=>absurd rfl h
 | _,[],_,h,_,_,_=>absurd rfl h
 |[p],[q],_,_,_,_,e=>by rw[iR (show p.cps.toList=q.cps.toList from e)]
 |[p],q::f::qs,_,_,a,_,e=>by
  rw[cY]at e;refine absurd ?_ (a p Zl);rw[show p.cps.toList=(Str.join ⟨#[c]⟩ [p]).cps.toList from rfl,e];simp
 | p::g::ps,[q],_,_,_,b,e=>by
   rw[cY]at e;refine absurd ?_ (b q Zl);rw[show q.cps.toList=(Str.join ⟨#[c]⟩ [q]).cps.toList from rfl,<-e];simp
 | p::g::ps,q::f::qs,_,_,a,b,e=>by
   rw[cY,cY,Zd,Zd]at e;obtain⟨i,j⟩:=wc (c:=c) (a p Zl) (b q Zl) e;rw[iR i,pw (by simp) (by simp) (λx d=>a x (Zj _ d)) (λx d=>b x (Zj _ d)) j]
theorem ir(a:rows≠[])(h:∀r∈rows,10∉r.cps.toList):Txt.split (Str.join nl rows) nl=rows:=by
 have e:=StrLaws.join_split (Str.join nl rows) nl;rw[Bt]at e ⊢;refine pw (c:=10) ?_ a (StrLaws.split_free _ 10) h (by rw[e]);intro q;have:=split_pos (Str.join ⟨#[10]⟩ rows) ⟨#[10]⟩;rw[q]at this;simp at this
theorem aP.nonl(h:aP rows):∀r∈rows,10∉r.cps.toList:=λr a b=>by
 have:=all_eq_true.mp (h.sign r a) 10 b;exact AA this rfl
theorem aP.split(h:aP rows):Txt.split (Str.join nl rows) nl=rows:=
 ir (λe=>by have:=h.pos;rw[e]at this;simp at this) h.nonl
theorem gh:∀{xs:List b},(∀x∈xs,f x<=B)->(xs.map f).sum<=xs.length*B
 |[],_=>by simp
 | x::r,h=>by
   have c:=gh λy a=>h y (Zj _ a)
   have d:=h x Zl;rw[Ya,sum_cons,Zq,Nat.succ_mul]
   lia
theorem aP.sum(h:aP rows):(rows.map (·.length)).sum<=1600:=by
 obtain⟨wd,_,c,a⟩:=h.wide;have:=gh (f:=λr:Str=>r.length) (B:=40) (xs:=rows) λr b=>by have:=a r b;show r.cps.size<=40;lia
 have:=h.high;have d:rows.length*40<=40*40:=Nat.mul_le_mul_right _ this
 lia
theorem aP.text(h:aP rows):(Str.join nl rows).length<=2000:=by
 have a:=StrLaws.join_length_le nl rows;have c:=h.sum;have d:=h.high;have b:nl.length=1:=rfl;rw[b]at a
 lia
noncomputable def sgn(c:Nat):Str:=⟨#[c]⟩
theorem iu{cs:List Nat}(h:∀c∈cs,dG c=true):(aJ (cs.map sgn)).length<=26:=by
 have a:∀x∈aJ (cs.map sgn),x∈dL.cps.toList.map sgn:=λx b=>by
  obtain⟨c,d,e⟩:=Yv (cE.mp b);exact Yw ⟨c,Zn (h c d),e⟩
 have:=List.Nodup.length_le_of_subset (f9 (cs.map sgn)) a;rw[Z5]at this;have e:dL.cps.toList.length=26:=by decide +kernel
 lia
noncomputable def bX(rows:List Str):List Nat:=(Str.join (Str.ofString "") rows).cps.toList.filter (λc=>decide (c≠46))
theorem mH:∀(rows:List Str),(Str.join (Str.ofString "") rows).cps.toList=(rows.map (·.cps.toList)).flatten
 |[]=>rfl
 |[x]=>by simp[Str.join]
 | x::y::r=>by
   have e:(Str.ofString "").cps.toList=[]:=rfl;rw[cY,mH (y::r),e,append_nil];simp
theorem jo(h:∀r∈rows,r.cps.toList.all okc=true):∀c∈bX rows,dG c=true:=λc a=>by
 unfold bX at a;rw[List.mem_filter,mH]at a;obtain⟨b,d⟩:=a;obtain⟨l,e,f⟩:=mem_flatten.mp b;obtain⟨r,g,rfl⟩:=Yv e;have:=all_eq_true.mp (h r g) c f;unfold okc at this;rw[or_eq_true]at this;rcases this with q|q
 ·exact absurd (Zn q) (Zn d)
 ·exact q
theorem aP.signs_ne(h:aP rows):bX rows≠[]:=by
 obtain⟨r,b,c,d,a⟩:=h.some';intro e;have:c∈bX rows:=by
  unfold bX;rw[List.mem_filter,mH];exact⟨mem_flatten.mpr ⟨_,Yw ⟨r,b,rfl⟩,d⟩,Ze a⟩
 rw[e]at this;cases this
noncomputable def h9(z:Str):Bool:=(decide (1<=(z.length:Int))&&decide ((z.length:Int)<=40))&&z.cps.toList.all okc
noncomputable def bT(row a:Str):Bool:=decide (row.length=a.length)&&(List.zip a.cps.toList row.cps.toList).all λp=>!decide (p.2=46)||decide (p.1=46)
theorem aP.row(h:aP rows)(a:r∈rows):h9 r=true:=by
 obtain⟨wd,c,d,b⟩:=h.wide;have e:r.length=wd:=b r a;unfold h9;rw[h.sign r a,e,Ze (by lia),Ze (by lia)];rfl
theorem aP.beneath(h:aP rows)(c:rows[i]? =some r)(d:rows[i+1]? =some a):bT a r=true:=by
 obtain⟨wd,l,m,e⟩:=h.wide;have f:r.length=wd:=e r (Z7 c);have g:a.length=wd:=e a (Z7 d);unfold bT;rw[Ze (g.trans f.symm),Bool.true_and,all_eq_true];intro p k;obtain⟨j,b⟩:=Yo k;rw[getElem?_zip_eq_some]at b;have g1:r.cps[j]? =some p.1:=by simpa using b.1
 have g2:a.cps[j]? =some p.2:=by simpa using b.2
 have:=h.fall i r a c d j p.1 p.2 g1 g2;by_cases q:p.2=46
 ·rw[Ze (this q),Bool.or_true]
 ·rw[Zg q];rfl
theorem qK(cs:List Nat):(Str.join (Str.ofString "") (cs.map sgn))=⟨cs.toArray⟩:=by
 refine iR ?_;rw[mH,Yb];show((cs.map (λc=>[c])).flatten)=cs
 induction cs with
 | nil=>rfl
 | cons c r a=>rw[Ya,flatten_cons,a];rfl
theorem rZ:∀cs:List Nat,((cs.map sgn).map (λx=>x.length)).sum=cs.length
 |[]=>rfl
 | c::r=>by
   rw[Ya,Ya,sum_cons,rZ r,Zq];show 1+r.length=r.length+1
   lia
end Cut
namespace Cut
open PySem L2
theorem kZ:h9 z=true↔1<=z.length/\z.length<=40/\z.cps.toList.all okc=true:=by
 unfold h9;rw[Zu,Zu,decide_eq_true_eq,decide_eq_true_eq]
 constructor
 ·rintro⟨⟨b,c⟩,a⟩;exact⟨by lia,by lia,a⟩
 ·rintro⟨b,c,a⟩;exact⟨⟨by lia,by lia⟩,a⟩
theorem iS:bT r u=true↔r.length=u.length/\∀(j c a:Nat),u.cps[j]? =some c->r.cps[j]? =some a->a=46->c=46:=by
 unfold bT;rw[Zu,decide_eq_true_eq,all_eq_true]
 constructor
 ·rintro⟨d,e⟩;refine⟨d,λj c a g1 g2 b=>?_⟩;have z:(List.zip u.cps.toList r.cps.toList)[j]? =some (c,a):=by
   rw[getElem?_zip_eq_some];exact⟨by simpa using g1,by simpa using g2⟩
  have:=e _ (Z7 z);simp only[or_eq_true,Bool.not_eq_true',decide_eq_false_iff_not,decide_eq_true_eq]at this;rcases this with h|h
  ·exact absurd b h
  ·exact h
 ·rintro⟨d,e⟩;refine⟨d,λp g=>?_⟩;obtain⟨j,f⟩:=Yo g;obtain⟨c,a⟩:=p;rw[getElem?_zip_eq_some]at f;obtain⟨g1,g2⟩:=f;simp only[or_eq_true,Bool.not_eq_true',decide_eq_false_iff_not,decide_eq_true_eq];by_cases b:a=46
  ·exact .inr (e j c a (by simpa using g1) (by simpa using g2) b)
  ·exact .inl b
def jT(rows:List Str)(k:Nat):Prop:=∃r,rows[k]? =some r/\(k=40\/h9 r=false\/∃u,0<k/\rows[k-1]? =some u/\bT r u=false)
def bO(rows:List Str)(i:Nat):Prop:=∀k,k<i-> ¬ jT rows k
theorem bO.zero(rows:List Str):bO rows 0:=λ_ h=>absurd h (Yi _)
theorem bO.step(h:bO rows i)(a: ¬ jT rows i):bO rows (i+1):=λk b=>by
 by_cases e:k=i
 ·subst e;exact a
 ·exact h k (by lia)
theorem bO.row(h:bO rows i)(a:k<i)(e:rows[k]? =some r):k≠40/\h9 r=true/\∀u,0<k->rows[k-1]? =some u->bT r u=true:=by
 have n:=h k a;refine⟨λq=>n ⟨r,e,.inl q⟩,?_,λu b c=>?_⟩
 ·cases q:h9 r with
  | true=>rfl
  | false=>exact absurd ⟨r,e,.inr (.inl q)⟩ n
 ·cases q:bT r u with
  | true=>rfl
  | false=>exact absurd ⟨r,e,.inr (.inr ⟨u,b,c,q⟩)⟩ n
theorem bO.len(h:bO rows i)(a:rows[0]? =some c):∀{k:Nat} {r:Str},k<i->rows[k]? =some r->r.length=c.length
 | 0,r,_,e=>by rw[a]at e;cases e;rfl
 | k+1,r,d,e=>by
   have f:k+1<rows.length:=(Ys e).1;have b:rows[k]? =some rows[k]:=by simp[show k<rows.length by lia]
   have q:=(h.row d e).2.2 rows[k] (by lia) b;rw[(iS.mp q).1];exact bO.len h a (by lia) b
theorem bO.high(h:bO rows rows.length):rows.length<=40:=by
 refine Nat.le_of_not_lt λa=>?_
 exact h 40 a ⟨rows[40],by simp[a],.inl rfl⟩
def qL(rows:List Str):Prop:=∀r∈rows,∀c∈r.cps.toList,c=46
theorem we(h:bO rows rows.length)(n:rows≠[])(o:∃r∈rows,∃c∈r.cps.toList,c≠46):aP rows:=by
 have f:0<rows.length:=length_pos_iff.mpr n;have g:rows[0]? =some rows[0]:=by simp[f]
 have l:=kZ.mp (h.row f g).2.1;have b:∀r∈rows,∃k,k<rows.length/\rows[k]? =some r:=λr d=>by
  obtain⟨k,a⟩:=Yo d;exact⟨k,(Ys a).1,a⟩
 refine⟨f,h.high,⟨rows[0].length,l.1,l.2.1,λr d=>?_⟩,λr d=>?_,λi r u p m j c q g1 g2 s=>?_,o⟩
 ·obtain⟨k,a,e⟩:=b r d;exact h.len g a e
 ·obtain⟨k,a,e⟩:=b r d;exact(kZ.mp (h.row a e).2.1).2.2
 ·have t:i+1<rows.length:=(Ys m).1;exact(iS.mp ((h.row t m).2.2 r (by lia) (by simpa using p))).2 j c q g1 g2 s
theorem tV(h:qL rows):bX rows=[]:=by
 unfold bX;rw[List.filter_eq_nil_iff];intro c b;rw[mH]at b;obtain⟨l,d,a⟩:=mem_flatten.mp b;obtain⟨r,e,rfl⟩:=Yv d;simp[h r e c a]
structure cZ (rows:List Str) (B:Nat):Prop where
 pos:rows≠[]
 high:rows.length<=43
 wide:∀r∈rows,r.length<=B
 nonl:∀r∈rows,10∉r.cps.toList
theorem cZ.split(h:cZ rows B):Txt.split (Str.join nl rows) nl=rows:=ir h.pos h.nonl
theorem cZ.sum(h:cZ rows B)(c:B<=50):(rows.map (·.length)).sum<=2150:=by
 have a:=gh (f:=λx:Str=>x.length) (B:=50) (xs:=rows) (λr d=>Y2 (h.wide r d) c);have b:=h.high;have e:(rows.map (λx:Str=>x.length)).sum=(rows.map (·.length)).sum:=rfl
 lia
theorem wg(rows:List Str):(Str.join nl rows).length<=(rows.map (·.length)).sum+rows.length:=by
 induction rows with
 | nil=>exact Zh _
 | cons x rest a=>
   cases rest with
   | nil=>show x.length<=_;simp
   | cons y r=>
     have e:(Str.join nl (x::y::r)).cps.toList.length=(x.cps.toList++nl.cps.toList++(Str.join nl (y::r)).cps.toList).length:=by rw[cY]
     have l1:∀z:Str,z.cps.toList.length=z.length:=λz=>by simp[Str.length]
     rw[Z8,Z8,l1,l1,l1,l1]at e;rw[e];have:nl.length=1:=rfl;rw[Ya,sum_cons,Zq]
     lia
theorem cZ.text(h:cZ rows B)(a:B<=50):(Str.join nl rows).length<=2200:=by
 have:=wg rows;have:=h.sum a;have:=h.high
 lia
theorem aP.okRows(h:aP rows):cZ rows 41:=by
 obtain⟨wd,b,c,hw⟩:=h.wide;refine⟨λe=>?_,Y2 h.high (by decide),λr a=>?_,h.nonl⟩
 ·have:=h.pos;rw[e]at this;cases this
 ·have:r.length=wd:=hw r a
  lia
end Cut
namespace L2
open PySem PySem.Spec PyProof.Rows
def Up(B:Heap)(l:List Env)(e:Addr)(cls:Value)(dct:Option Addr)(c:Option Value)(h:Heap):Prop:=
 B.StaysIn h/\B.get? e=none/\h.FunFrames B l/\∃a vs,h.get? e=some a/\a.cls=cls/\a.dict=dct/\a.data= .fields vs/\1<vs.size/\
  match c with
  | none=>vs[1]? =some .none
  | some f=>∃T b ts,vs[1]? =some (.ref T)/\B.get? T=none/\T≠e/\h.get? T=some b/\b.data= .fields ts/\ts[3]? =some f
theorem mI(o:Obj)(f:Array Value->Array Value):(o.mapFields f).dict=o.dict:=by
 obtain⟨c,d,a,b⟩:=o;cases a<;> rfl
section
variable{M:Model}{A:Around}{E:Value->Shared->Prop}{s:Shared}{B:Heap}{env:Env}{outer:List Env}{L e:Addr}{cls:Value}{dct:Option Addr}{Q:Unit->Shared->Prop}
theorem pA(y:A.frames=some (env::outer))(hf:env.frame=some L)(st:B.StaysIn s.heap)(h:B.get? e=none)(v:s.heap.FunFrames B (env::outer))
 (C:s.heap.get? e=some i) (w:i.data= .fields vs) (hsz:1<vs.size)
 (k:∀h',Up B (env::outer) e i.cls i.dict (some (rawInt L)) h'->s.heap.UpToSlots h'->Q () {s with heap:=h'}):
 wpAny M A (do let a<-frameOf env;let pl<-entryPlaceOf L j;let b<-EntryCells.newEntry l a .none (rawInt L) .none pl;setField (.ref e) 1 b) Q E s:=by
 have D:e∉(env::outer).filterMap (·.frame):=λG=>by
  obtain⟨_,o,O,H⟩:=v.mem G;rw[C]at O;cases O;exact H vs w
 refine Z2 (wpAny_frameOf_fun y v hf λc x=>?_);refine Z2 (wpAny_entryPlaceOf λpl I=>?_);unfold EntryCells.newEntry newFields;refine Z2 (wpAny_newObj_type ?_ (I.sizeOk5 _ _ _ _ _))
 generalize m:({cls:= .type "traceback",dict:=none,data:= .fields ([l,.ref L,.none,rawInt L,.none] ++(if pl.isEmpty then List.replicate 6 Value.none else pl)).toArray}:Obj)=d
 have T:c.get? e=some i:=(x.2.1 e D).trans C;have U:(c.push d).get? e=some i:=Z6 _ T;refine wpAny_setField U w hsz ?_;have ne:e≠c.objs.size:=Zr (Zt T);have p:=Obj.data_mapFields w (·.setIfInBounds 1 (Value.ref c.objs.size));have e3:=get?_update_self (Obj.mapFields (·.setIfInBounds 1 (Value.ref c.objs.size))) U (Obj.isFreed_of_fields p);have f:∀b o,b≠e->c.get? b=some o->((c.push d).update e (Obj.mapFields (·.setIfInBounds 1 (Value.ref c.objs.size)))).get? b=some o:=λb o n q=>by
  rw[get?_update_other _ _ (Ne.symm n)];exact Z6 _ q
 have t:B.StaysIn c:=λb o q=>(x.2.1 b λG=>by rw[(v.mem G).1]at q;cases q).trans (st b o q)
 have nb:∀b o,s.heap.get? b=some o->(∀ws,o.data≠ .fields ws)->b≠e:=λb o q u z=>by
  subst z;rw[C]at q;cases q;exact u vs w
 have J:d.isFreed=false:=by subst m;rfl
 have t3:((c.push d).update e (Obj.mapFields (·.setIfInBounds 1 (Value.ref c.objs.size)))).get? c.objs.size=some d:=by
  rw[get?_update_other _ _ ne];exact Zi c J
 have g:∃ts,d.data= .fields ts/\ts[3]? =some (rawInt L):=by
  subst m;exact⟨_,rfl,by simp⟩
 obtain⟨ts,g,N⟩:=g;refine k _ ⟨λb o q=>f b o (λz=>by subst z;rw[h]at q;cases q) (t b o q),h,v.of_keeps λb o q u=>?_,_,_,e3,Obj.cls_mapFields _ _,mI _ _,p,by simpa using hsz,c.objs.size,d,ts,?_,t.fresh,Ne.symm ne,t3,g,N⟩ λb o q u=>?_
 ·obtain⟨Y,r⟩:=x.2.2 b o q;exact⟨_,f b _ (nb b o q u) r,rfl⟩
 ·simp[hsz]
 ·obtain⟨Y,r⟩:=x.2.2 b o q;exact⟨Y,f b _ (nb b o q u) r⟩
theorem sd(st:B.StaysIn s.heap)(t:B.get? e=none)(v:s.heap.FunFrames B l)
 (w:s.heap.get? e=some d) (x:d.data= .fields vs) (hsz:1<vs.size) (y:vs[1]? =some (.ref T)) (h:B.get? T=none) (i:T≠e) (u:s.heap.get? T=some C) (c:C.data= .fields ts) (D:ts[3]? =some f)
 (k:∀h',Up B l e d.cls d.dict (some g) h'->h'.get? e=some d->s.heap.UpToSlots h'->Q () {s with heap:=h'}):wpAny M A (setField (.ref T) 3 g) Q E s:=by
 have j:3<ts.size:=(Array.getElem?_eq_some_iff.mp D).1;refine wpAny_setField u c j ?_;have a:∀b,b≠T->(s.heap.update T (Obj.mapFields (·.setIfInBounds 3 g))).get? b=s.heap.get? b:=λb n=>get?_update_other _ _ (Ne.symm n)
 have nb:∀b o,s.heap.get? b=some o->(∀ws,o.data≠ .fields ws)->b≠T:=λb o q m z=>by
  subst z;rw[u]at q;cases q;exact m ts c
 have p:=Obj.data_mapFields c (·.setIfInBounds 3 g);have r:=(a e (Ne.symm i)).trans w;refine k _ ⟨λb o q=>(a b λz=>by subst z;rw[h]at q;cases q).trans (st b o q),t,v.of_keeps λb o q m=>⟨o,(a b (nb b o q m)).trans q,rfl⟩,d,vs,r,rfl,rfl,x,hsz,T,_,_,y,h,i,
  get?_update_self _ u (Obj.isFreed_of_fields p),p,by simp[j]⟩ r λb o q m=>⟨o.slots,(a b (nb b o q m)).trans q⟩
theorem nS(i:v=none\/v=some .none)(a:A.frames=some (env::outer))(j:env.frame=some L)(u:Up B (env::outer) e cls dct v s.heap)
 (k:∀h',Up B (env::outer) e cls dct (some (rawInt L)) h'->s.heap.UpToSlots h'->Q () {s with heap:=h'}):wpAny M A (noteFrame (.ref e) env) Q E s:=by
 obtain⟨st,b,w,I,vs,h,rfl,rfl,c,hsz,r⟩:=u;unfold noteFrame;simp only[j];rcases i with rfl|rfl
 ·refine Z2 (wpAny_field h c r ?_);rw[if_neg (by decide)];exact pA a j st b w h c hsz k
 ·obtain⟨T,J,ts,x,m,n,y,d,z⟩:=r;refine Z2 (wpAny_field h c x ?_);rw[if_pos (show(Value.ref T != Value.none)=true from by simp)];refine Z2 (wpAny_field y d z ?_);rw[if_neg (show ¬ ((Value.none==rawInt L)=true)from by simp[rawInt])];refine Z2 (sd (l:=env::outer) (g:= .none) st b w h c hsz x m n y d z λh' C o D=>?_);obtain⟨p,f,q,_⟩:=C;exact pA (s:={s with heap:=h'}) a j p f q o c hsz λG H t=>k G H (D.trans t)
theorem iT(u:Up B l e cls dct (some f) s.heap)(k:∀h',Up B l e cls dct (some .none) h'->s.heap.UpToSlots h'->Q () {s with heap:=h'}):
 wpAny M A (setFlight (.ref e) none) Q E s:=by
 obtain⟨st,a,j,q,vs,g,rfl,rfl,h,hsz,T,r,ts,i,b,c,m,d,n⟩:=u;unfold setFlight;refine Z2 (wpAny_field g h i ?_);rw[if_pos (show(Value.ref T != Value.none)=true from by simp)];exact sd st a j g h hsz i b c m d n λh' o _ p=>k h' o p
theorem pB(a:g=none\/g=some .none)(b:A.frames=some (env::outer))(h:env.frame=some L)(u:Up B (env::outer) e cls dct g s.heap)
 (k:∀h',Up B outer e cls dct (some .none) h'->s.heap.UpToSlots h'->Q () {s with heap:=h'}):wpAny M A (leaving env (.ref e)) Q E s:=by
 unfold leaving;refine Z2 (nS a b h u λi j c=>?_);refine iT (s:={s with heap:=i}) j λl m d=>?_
 obtain⟨st,f,⟨_,_,n⟩,r⟩:=m;exact k l ⟨st,f,n,r⟩ (c.trans d)
end
section
variable{P:Program}{w:World}{H:Hp}{h:Heap}{a:Addr}{o:HO}
theorem bg.there(x:bg P w H h a o):∃b,h.get? a=some b:=by
 cases o with
 | lst xs=>obtain⟨_,_,_,_,e⟩:=x;exact⟨_,e⟩
 | tup xs=>obtain⟨_,_,_,b,e,_⟩:=x;exact⟨_,e⟩
 | dK c=>obtain⟨_,_,_,_,o,_,_,e,_⟩:=x;exact⟨_,e⟩
 | dT c=>obtain⟨_,_,_,_,o,_,_,e,_⟩:=x;exact⟨_,e⟩
 | set S n=>obtain⟨o,_,_,_,e,_⟩:=x;exact⟨_,e⟩
 | ins C d fs=>obtain⟨_,_,_,e,_⟩:=x;exact⟨_,e⟩
 | own y=>obtain⟨_,e⟩:=x;exact⟨_,e⟩
 | xd fs=>obtain⟨_,⟨_,_,_,e,_⟩,_⟩:=x;exact⟨_,e⟩
 | rng lo hi=>obtain⟨_,_,_,e⟩:=x;exact⟨_,e⟩
 | frz b u=>obtain⟨e,_⟩:=x;exact⟨_,e⟩
 | tbl ps=>exact⟨_,(show h.get? a=some _ from x)⟩
 | met f y=>exact⟨_,(show h.get? a=some _ from x)⟩
 | ext g=>obtain⟨_,⟨_,e⟩,_⟩:=x;exact⟨_,e⟩
end
structure Fl (P:Program) (w:World) (l:List Env) (H:Hp) (s:Shared) (ea:Addr) (B:Heap) (cls:Value) (dx:Option Addr) (fl:Option Value) (H':Hp) (s':Shared):Prop where
 os:s'.os=s.os
 bare:AllBare s'.gens
 un:Un (frs l) [] H H' s.heap s'.heap
 hok:HOk P w H' s'.heap
 up:Up B l ea cls dx fl s'.heap
 free:H' ea=none
 new:s.heap.get? ea=none
 inB:∀b ob,s'.heap.get? b=some ob->((∃o,s.heap.get? b=some o)\/∃o,H' b=some o)->b∉frs l->B.get? b=some ob
 frf:∀b∈frs l,H' b=none
noncomputable def CXO(P:Program)(w:World):CXT:=λl H s E e s'=>∃a B cls b c,e= .ref a/\Fl P w l H s a B cls b (some .none) c s'/\E cls b c
section
variable{P:Program}{w:World}{l:List Env}{H H':Hp}{s s':Shared}{ea:Addr}{B h':Heap}{cls:Value}{dx:Option Addr}{fl fl':Option Value}
theorem Fl.fly(F:Fl P w l H s ea B cls dx fl H' s')(st:B.StaysIn h')(t:s'.heap.UpToSlots h'):Un (frs l) [] H H' s.heap h'/\HOk P w H' h':=by
 have p:∀b g,s'.heap.get? b=some g->b∈frs l->∃h,h'.get? b=some {g with slots:=h}:=λb g q a=>by
  obtain⟨_,d,r,x⟩:=F.up.2.2.1.mem a;rw[q]at r;cases r;exact t b g q x
 refine⟨⟨λb o q n a f=>?_,λb o q n a f=>?_,F.un.free,λb o q f=>?_,F.un.tups,F.un.frzs,F.un.tbls⟩,λb o q=>?_⟩
 ·exact st b o (F.inB b o (F.un.keep b o q n a f) (.inl ⟨o,q⟩) a)
 ·obtain⟨h,e⟩:=F.un.slot b o q n a f;obtain⟨i,j⟩:=p b _ e a;exact⟨i,j⟩
 ·obtain⟨d,e⟩:=F.un.there b o q f;by_cases a:b∈frs l
  ·obtain⟨h,j⟩:=p b d e a;exact⟨_,j⟩
  ·exact⟨d,st b d (F.inB b d e (.inl ⟨o,q⟩) a)⟩
 ·refine(F.hok b o q).stay (λc u k e=>?_) (λ_ e=>e) λ_ _ e=>e
  have y:∃v,H' c=some v:=by
   rcases k with rfl|k
   ·exact⟨_,q⟩
   ·exact⟨_,k⟩
  obtain⟨v,m⟩:=y;exact st c u (F.inB c u e (.inr ⟨v,m⟩) λa=>by rw[F.frf c a]at m;cases m)
end
section
variable{P:Program}{w:World}{K:PySem.W.Frag}{mg:Str->Option Value}{base:Heap}{N:List Str}{qual:Str}{scope:Scope}{f:Addr}{cd:Value}{A:Around}{outer:List Env}{s₀:Shared}{H₀:Hp}{E:XK}
theorem wj(i:p=none\/p=some .none)
 (I:Inv (dS (CXO P w) P w K mg base N qual scope f cd A outer s₀ H₀ E) pins C H s) (F:Fl P w (envOfC qual scope s₀.heap.objs.size f cd::outer) H s d B cls t p g s') (q:E cls t g):
 (dS (CXO P w) P w K mg base N qual scope f cd A outer s₀ H₀ E).xe (.ref d) s':=by
 show wpAny (model P w) (A.deeper (envOfC qual scope s₀.heap.objs.size f cd)) (leaving (envOfC qual scope s₀.heap.objs.size f cd) (.ref d)) _ _ s';refine pB i I.ok.frames rfl F.up λh' u D=>?_
 obtain⟨un,j⟩:=F.fly u.1 D;have J:Inv (dS (CXO P w) P w K mg base N qual scope f cd A outer s₀ H₀ E) pins C g {s' with heap:=h'}:=I.call' (s':={s' with heap:=h'}) (ch:=[]) F.os un j F.bare λb z=>absurd z (by simp)
 refine⟨d,B,cls,t,g,rfl,⟨J.os,J.bare,J.base,J.hok,u,F.free,?_,λb G e h L=>?_,λb h=>F.frf b (mem_filterMap.mpr ?_)⟩,q⟩
 ·cases z:s₀.heap.get? d with
  | none=>rfl
  | some o=>
    obtain⟨U,e⟩:=I.base.there d o z (by simp[dS]);rw[F.new]at e;cases e
 ·have M:b∉frs (envOfC qual scope s₀.heap.objs.size f cd::outer):=λO=>by
   rcases mem_cons.mp (show b∈s₀.heap.objs.size::frs outer from O)with z|z
   ·rcases h with⟨o,c⟩|⟨o,c⟩
    ·exact absurd (Zt c) (by rw[z];exact Yr _)
    ·have:=J.free;rw[show(dS (CXO P w) P w K mg base N qual scope f cd A outer s₀ H₀ E).env.locals=b from z.symm,c]at this;cases this
   ·exact L z
  have k:∃a,s'.heap.get? b=some a/\((∃o,s.heap.get? b=some o)\/∃o,g b=some o):=by
   rcases h with⟨o,c⟩|⟨o,c⟩
   ·obtain⟨v,x⟩:=I.base.there b o c (by simp[dS]);obtain⟨l,n⟩:=F.un.there b v x (by simp);exact⟨l,n,.inl ⟨v,x⟩⟩
   ·obtain⟨l,n⟩:=(F.hok b o c).there;exact⟨l,n,.inr ⟨o,c⟩⟩
  obtain⟨a,Q,r⟩:=k;have y:=F.inB b a Q r M;have:=u.1 b a y;rw[show h'.get? b=some G from e]at this;cases this;exact y
 ·obtain⟨T,m,q⟩:=mem_filterMap.mp h;exact⟨T,mem_cons.mpr (.inr m),q⟩
theorem se(a:∀c d H,b c d H->E c d H):eC (CXO P w) (dS (CXO P w) P w K mg base N qual scope f cd A outer s₀ H₀ E) b:=by
 rintro pins g H s e s' I ⟨h,B,cls,i,j,rfl,F,q⟩;exact wj (.inr rfl) I F (a _ _ _ q)
end
noncomputable abbrev wk(vs:List Value):Obj:={cls:= .type "tuple",data:= .seq vs.toArray}
noncomputable abbrev Bu(C t:Addr):Obj:={cls:= .ref C,data:= .fields #[.ref t,.none,.none,.none,.bool false,.none]}
noncomputable abbrev lO(h:Heap)(C:Addr)(vs:List Value):Heap:=(h.push (wk vs)).push (Bu C h.objs.size)
theorem pC(h:Heap)(C:Addr)(vs:List Value):(lO h C vs).get? (h.objs.size+1)=some (Bu C h.objs.size):=by
 show((h.push (wk vs)).push _).get? _=_
 heap_get
theorem eQ(b:Addr)(o:Obj)(e:h.get? b=some o):(lO h C vs).get? b=some o:=
 Z6 _ (Z6 _ e)
section
variable{prog:Program}{w:World}{A:Around}{E:Value->Shared->Prop}{h:Heap}{g:Array GenState}{d:Drawn}{t:Nat}{os:OsState}
variable{nm q:Str}{C N:Addr}{bs bm bmB:List Value}{hdct:Bool}{sn:List Str}{sub:List Value}{ab:Bool}{col:Option Bool}{dd:Option Addr}{k0 k1 k2 k3 k5:Option Value}{B newId initId:String}
theorem tW(F:ExcBaseFacts B newId initId bmB)(T:OwnTail h bmB bm){rest:List Value}
 (b:h.get? C=some (excClassObj nm q C N bs bm hdct sn sub ab col dd k0 k1 k2 k3 k5 newId)) (l:h.Ns N i) (hi:i "__init__"=some (.ref j)) (c:h.get? j=some m) (e:m.cls= .type "function") (a:rest.length<=sizeLine)
 (n:wpAny (model prog w) A (call (.ref j) (.ref (h.objs.size+1)::rest)) (λr s'=>r= .none/\Q (.done (.ret (.ref (h.objs.size+1)))) s') E ⟨lO h C rest,g,d,t,os⟩):
 wpAny (model prog w) A (Builtin.«type.__call__» ⟨.ref C::rest,[]⟩) Q E ⟨h,g,d,t,os⟩:=by
 repeat (first|with_reducible refine wpAny_loadPart_at b ?_|with_reducible refine wpAny_madeBy_exc b ?_|wp_step)
 refine codeAny_call_builtin_code (Code.quiet_builtin _ F.quiet) (wpAny_check_new_subT F T b ?_);refine codeAny_exc_new_subT F T b ?_ a;show wpAny _ _ _ _ _ (⟨lO h C rest,g,d,t,os⟩:Shared);have k:=eQ (C:=C) (vs:=rest) _ _ b;have o:=eQ (C:=C) (vs:=rest) _ _ c;have p:(lO h C rest).Ns N i:=l.keeps eQ;have s:=pC h C rest;have u:=T.keeps (h':=lO h C rest) eQ;have f:(Value.ref C::bm).contains (.ref C)=true:=by simp
 unfold isInstance
 repeat (first|with_reducible refine wpAny_loadPart_at s ?_|(with_reducible refine wpAny_isSubtype_exc k ?_;rw[f])|wp_step)
 show wpAny _ _ (typeLookup (.ref C) _) _ _ _;refine wpAny_typeLookup_tail k p u F.mroIs F.init.lookup ?_;rw[hi];refine wpAny_holding (Z2 ?_);unfold bindSpecial;refine Z2 (wpAny_typeOf (T:="function") ⟨_,o,e⟩ ?_);rw[if_pos (by decide)];refine Z3 (Z2 (wpAny_mono n (λr s' v=>?_) λ_ _ x=>x));obtain⟨rfl,y⟩:=v
 wp_walk
 exact y
theorem tX(F:ExcBaseFacts B newId initId bmB)(T:OwnTail h bmB bm){rest:List Value}
 (b:h.get? C=some (excClassObj nm q C N bs bm hdct sn sub ab col dd k0 k1 k2 k3 k5 newId)) (i:h.Ns N j) (hi:j "__init__"=some (.ref f)) (c:h.get? f=some k) (e:k.cls= .type "function") (a:rest.length<=sizeLine)
 (l:wpAny (model prog w) (A.under (.builtin "type.__call__" ⟨.ref C::rest,[]⟩)) (call (.ref f) (.ref (h.objs.size+1)::rest)) (λr s'=>r= .none/\Q (.ref (h.objs.size+1)) s') E ⟨lO h C rest,g,d,t,os⟩):
 wpAny (model prog w) A (call (.ref C) rest) Q E ⟨h,g,d,t,os⟩:=by
 have m:=tc_lookup;have n:=tc_bind (.ref C);have o:(⟨h,g,d,t,os⟩:Shared).TypeIs (.ref C) "type":=⟨_,b,rfl⟩
 refine wpAny_call (codeAny_of_tree ?_);show wpAny _ _ (callAny (.ref C) _) _ _ _
 repeat (any_goals (first|assumption|with_reducible refine wpAny_loadPart_at b ?_|wp_step))
 refine⟨rfl,?_⟩;exact codeAny_call_builtin_at (Code.quiet_builtin _ (by decide +kernel)) entry_typeCall (wpAny_check_type_call_sub b (tW F T b i hi c e a l))
end
noncomputable abbrev veB:List Value:=[.type "ValueError",.type "Exception",.type "BaseException",.type "object"]
noncomputable def bc:List Value->Bool
 | .ref c::r=>bc r
 | l=>l==veB
theorem ib(self:Value):∀{l:List Value},bc l=true->refuseLoop self "__setattr__" l=pure ()
 | .ref c::r,e=>by rw[refuseLoop_ref];exact ib self (l:=r) e
 | .type n::r,e=>by
   have a:(Value.type n::r)=veB:=by simpa [bc]using e
   rw[a];exact PySem.F.store_ValueError.passes self
 |[],e=>by simp[bc]at e
 | .none::r,e=>by simp[bc]at e
 | .bool _::r,e=>by simp[bc]at e
 | .int _ _::r,e=>by simp[bc]at e
 | .str _ _::r,e=>by simp[bc]at e
 | .builtin _::r,e=>by simp[bc]at e
 | .float _ _::r,e=>by simp[bc]at e
 | .bytes _ _::r,e=>by simp[bc]at e
 | .ellipsis::r,e=>by simp[bc]at e
 | .notImplemented::r,e=>by simp[bc]at e
theorem lc(n:String)(a:veB.contains (.type n)=true):∀{l:List Value},bc l=true->l.contains (.type n)=true
 | .ref c::r,e=>by rw[List.contains_cons,lc n a (l:=r) e,Bool.or_true]
 | .type m::r,e=>by
   have b:(Value.type m::r)=veB:=by simpa [bc]using e
   rw[b];exact a
 |[],e=>by simp[bc]at e
 | .none::r,e=>by simp[bc]at e
 | .bool _::r,e=>by simp[bc]at e
 | .int _ _::r,e=>by simp[bc]at e
 | .str _ _::r,e=>by simp[bc]at e
 | .builtin _::r,e=>by simp[bc]at e
 | .float _ _::r,e=>by simp[bc]at e
 | .bytes _ _::r,e=>by simp[bc]at e
 | .ellipsis::r,e=>by simp[bc]at e
 | .notImplemented::r,e=>by simp[bc]at e
noncomputable def iw(K:PySem.W.Frag)(C:Addr):Bool:=(clsIn K C).any λa=>bc a.mro
section
variable{prog:Program}{w:World}{A:Around}{E:Value->Shared->Prop}{s:Shared}{K:PySem.W.Frag}{x C:Addr}{name:Str}{v:Value}{ox:Obj}{od:Option Obj}
theorem wl{R:Result->Shared->Prop}(X:K.In s.heap)(I:PySem.W.InstAt s.heap x ox C od)(k:iw K C=true)(l:findIn K (.ref C) name=some none)
 (h:wpAny (model prog w) A.in1 (Builtin.ObjectAttr.storeInOwnDict (.ref x) (.ref C) (.str name tk) name v false)
  (λd s'=>match d with| .done f=>R (.ok f) s'| .again i=>i.quiet=true/\codeAny (model prog w) A i R s') (λe s'=>R (.error e) s') s):
 codeAny (model prog w) A (.call (.builtin "object.__setattr__") ⟨[.ref x,.str name tk,v],[]⟩) R s:=by
 have a:=PySem.F.store_object;obtain⟨b,j,c⟩:=any_some k;have ne:b.mro.isEmpty=false:=by cases q:b.mro with|nil=>rw[q]at c;simp[bc]at c|cons _ _=>rfl
 have g:b.mro.contains (.type "object")=true:=lc "object" (by decide) c;have sub:Looks (model prog w) s.heap (isInstance (.ref x) (.type "object")) true:=I.type.andThen (PySem.W.looks_mroIn X (by unfold mroIn;rw[j,bind_some,if_neg (by rw[ne];decide),g]));refine codeAny_call_builtin a.slot.plain a.entry (@check_slot (model prog w) _ _ s "object.__setattr__" "object" "__setattr__" (.ref x) [.str name tk,v] [] _ a.kind a.split sub (a.args (.ref x) (.str name tk) v) ?_);have m:Looks (model prog w) s.heap (mroOf (.ref C)) b.mro:=(looks_clsIn X j).andThen .now;rw[PySem.W.osa_eq,refuse_eq];refine Z2 (Z2 (I.type.here (Z2 (m.here ?_))));rw[ib _ c];refine Z3 (Z2 (I.type.here (Z2 ((looks_findIn X l).here (Z2 (Z3 ?_))))));exact h
theorem si(X:K.In s.heap)(l:s.heap.get? x=some ox)(a:ox.cls= .ref C)(c:ox.data= .fields vs)(d:ox.dict=none)
 (u:findIn K (.ref C) "__setattr__"=some (some (.builtin "object.__setattr__"))) (z:iw K C=true) (B:findIn K (.ref C) name=some none) (D:hasDictIn K C=true)
 (h:∀h',h'.get? x=some {ox with dict:=some s.heap.objs.size}->h'.Ns1 s.heap.objs.size (λy=>if y=name then some v else none)->(∀b o,b≠x->s.heap.get? b=some o->h'.get? b=some o)->Q () {s with heap:=h',toks:=s.toks+2}):
 wpAny (model prog w) A (setAttr (.ref x) name v) Q E s:=by
 obtain⟨T,G,H,f⟩:=ox;dsimp only at a c d;subst a c d;have J:PySem.W.InstAt s.heap x ⟨.ref C,none,.fields vs,f⟩ C none:=⟨l,rfl,rfl,trivial⟩
 refine set_plain X J u (wl (s:={s with toks:=s.toks+1}) X J z B ?_);obtain⟨U,I,m⟩:=any_some D;refine Z2 (Z3 (Z2 (Z2 (wpAny_loadPart l (Z2 (Looks.here (s:={s with toks:=s.toks+1}) (looks_clsIn X I) ?_))))));rw[m];have g:(s.heap.push {cls:= .type "dict",data:= .dict #[]}).get? x=some ⟨.ref C,none,.fields vs,f⟩:=Z6 _ l;have i:x≠s.heap.objs.size:=Zr (Zt l);refine Z2 (wpAny_alloc' ?_);refine Z2 (wpAny_update' g ?_);refine Z3 ?_;have n:((s.heap.push {cls:= .type "dict",data:= .dict #[]}).update x λo=>{o with dict:=some s.heap.objs.size}).get? s.heap.objs.size=some {cls:= .type "dict",data:= .dict #[]}:=
  (get?_update_other _ _ i).trans (Heap.get?_push_at rfl rfl)
 have p:((s.heap.push {cls:= .type "dict",data:= .dict #[]}).update x λo=>{o with dict:=some s.heap.objs.size}).Ns s.heap.objs.size (λ_=>none):=
  ⟨_,#[],_,n,rfl,λe L=>absurd L (by simp),λ_=>rfl⟩
 show wpAny _ _ (Builtin.ObjectAttr.storeInDict s.heap.objs.size (.str name _) name v) _ _ _;unfold Builtin.ObjectAttr.storeInDict Builtin.ObjectAttr.newKeyGuard;refine Z2 (Z3 (Z2 (wpAny_nsSet1 (Heap.Ns1.of_empty p) λh' j k=>?_)));obtain⟨Y,M,N,q,r,t⟩:=j.count (PySem.Within.cons name v PySem.Within.nil);refine Z2 (wpAny_lookBehind q (by rw[r];exact pastItsLine_dict (Y2 t (by rw[Zq,length_nil,sizeLine_eq];lia))) ?_);refine Z3 (h h' ?_ j λb o O e=>?_)
 ·exact(k.2 x i).trans (get?_update_self _ g rfl)
 ·exact(k.2 b (Zr (Zt e))).trans ((get?_update_other _ _ (Ne.symm O)).trans (Z6 _ e))
end
noncomputable def ExO(a C:Addr)(d:Option Addr):HO:= .ext λh=>∃o vs,h.get? a=some o/\o.cls= .ref C/\o.dict=d/\o.data= .fields vs/\1<vs.size/\vs[1]? =some .none
theorem ExO.ok{P:Program}(e:h.get? a=some o)(c:o.cls= .ref C)(f:o.dict=d)(g:o.data= .fields vs)(i:1<vs.size)(b:vs[1]? =some .none):
 bg P w H h a (ExO a C d):=
 ⟨⟨o,vs,e,c,f,g,i,b⟩,⟨o,e⟩,λb j ⟨o,vs,e,r⟩ k=>⟨o,vs,k o e,r⟩⟩
theorem wn(h:H a=some o):upd H a o=H:=by
 funext b;unfold upd;split
 ·rename_i e;rw[e,h]
 ·rfl
noncomputable def exK(K:PySem.W.Frag)(C f:Addr):Bool:=match K.lookup C with
 | some ⟨.type "type",_,.cls a,b⟩=>(match a.mro,b.toList with
   | .ref c::d,[_,_,_,_,some (.builtin n),_]=>c==C&&n=="ValueError.__new__"&&!a.hasDel&&PySem.W.tailIn K veB d&&PySem.W.nsOkIn K a.ns&&nsIn K a.ns "__init__"==some (some (.ref f))
   | _,_=>false)
 | _=>false
theorem qM{K:PySem.W.Frag}{h:Heap}{mg:Str->Option Value}(X:K.In h)(G:h.Ns N mg)(e:nsIn K N n=some (some v)):mg n=some v:=by
 obtain⟨o,i,j,a,b,_,f⟩:=G;unfold nsIn at e
 split at e
 ·rename_i c d es' k l q
  have:=X _ _ q;rw[a]at this;cases this;cases b
  split at e
  ·rename_i m g
   cases e;rw[<-f];unfold nsFind findBy;rw[<-Array.find?_toList,g];rfl
  ·split at e<;> cases e
 ·cases e
theorem qN{K:PySem.W.Frag}(X:K.In h)(q:exK K C f=true):∃p r N bs g b s sub t c u i j k l m v,
 h.get? C=some (excClassObj p r C N bs g b s sub t c u i j k l m "ValueError.__new__")/\h.Ns N v/\v "__init__"=some (.ref f)/\OwnTail h veB g:=by
 unfold exK at q
 split at q
 ·rename_i u x y z
  split at q
  ·rename_i H g i j k l n m w A
   simp only[Zu,beq_iff_eq,Bool.not_eq_true']at q;obtain⟨⟨⟨⟨⟨rfl,rfl⟩,a⟩,B⟩,d⟩,e⟩:=q;obtain⟨p,bs,D,I,r,J,s,sub,t,c,E⟩:=x;dsimp only at w a d e;subst w a;have o:y= #[i,j,k,l,some (.builtin "ValueError.__new__"),m]:=by
    rw[<-A]
   subst o;have G:=PySem.Heap.Ns.of_isNs (PySem.W.isNs_of_in X d);exact⟨_,_,_,_,_,_,_,_,_,_,_,_,_,_,_,_,_,X _ _ z,G,qM X G e,PySem.W.tail_of_in X B⟩
  ·cases q
 ·cases q
section
variable{X:Cx}{C f:Addr}
theorem qO(w:exK X.K C f=true):cn X (.builtin "ValueError.__init__") (λxs H Q=>∃a d ys,xs=V.ref a::ys/\ys.length<=9/\H a=some (ExO a C d)/\Q .non H):=by
 intro pins s y H xs us Q I r h;obtain⟨a,d,ys,rfl,O,g,q⟩:=h;cases r with
 | cons A B=>
   rename_i u ws
   obtain rfl:u=Value.ref a:=A;obtain⟨⟨o,vs,e,p,D,i,E,G⟩,_⟩:=I.hok a _ g;obtain⟨U,Y,N,bs,bm,t,sn,sub,ab,L,dd,k0,k1,k2,k3,k5,mN,M,hN,hi,T⟩:=qN I.kIn w;have F:=PySem.F.excBase_ValueError;have j:ws.length<=sizeLine:=by rw[<-B.length,sizeLine_eq];lia
   refine wpAny_call (codeAny_call_builtin F.init.plain F.initEntry (wpAny_check_init_subT F T M e p ?_));have k:∃l,vs[0]? =some l:=⟨vs[0]'(by lia),Array.getElem?_eq_getElem (by lia)⟩
   obtain⟨l,k⟩:=k;have m:(s.heap.push (wk ws)).get? a=some o:=Z6 _ e;have c:=Obj.data_mapFields i (·.setIfInBounds 0 (Value.ref s.heap.objs.size));have v:=get?_update_self (Obj.mapFields (·.setIfInBounds 0 (Value.ref s.heap.objs.size))) m (Obj.isFreed_of_fields c);have J:Inv X pins y H {s with heap:=(s.heap.push (wk ws)).update a (Obj.mapFields (·.setIfInBounds 0 (Value.ref s.heap.objs.size)))}:=by
    have:=I.write (x:=a) (e:=a) (o:=ExO a C d) (t':=s.toks) (h':=(s.heap.push (wk ws)).update a (Obj.mapFields (·.setIfInBounds 0 (Value.ref s.heap.objs.size)))) (by rw[g];exact True.intro) (.inl rfl)
     (λb u n z=>by rw[get?_update_other _ _ (Ne.symm n)];exact Z6 _ z) ⟨_,v⟩
     (ExO.ok v ((Obj.cls_mapFields _ _).trans p) ((mI _ _).trans D) c (by simpa using E) (by rw[Array.getElem?_setIfInBounds_ne (by decide)];exact G))
    rw[wn g]at this;exact this
   show wpAny _ _ (do PySem.Builtin.BaseException.bexcPut (.ref a) 0 (<-newTuple ws);ret .none) _ _ _;refine Z2 (wpAny_newTuple ?_ j);refine Z2 ?_;unfold PySem.Builtin.BaseException.bexcPut;refine Z2 (wpAny_field m i k ?_);refine Z2 (wpAny_setField m i (by lia) ?_);cases l with
   | ref b=>exact wpAny_letGo (Z3 ⟨.non,H,J,rfl,q⟩)
   | _=>exact Z3 (Z3 ⟨.non,H,J,rfl,q⟩)
end
section
variable{X:Cx}{pins:List (Addr×Obj)}{σ:St}{H:Hp}{s s':Shared}
theorem Inv.stood2(I:Inv X pins σ l s)(J:Inv X pins σ H s')(c:H a=none)(d:s.heap.objs.size<=a)(new:bg X.prog X.w (upd H a o) s'.heap a o):Inv X pins σ (upd H a o) s':=by
 have g:∀b o,X.s₀.heap.get? b=some o->b≠a:=λb o e=>Zr (Zf (Zf (Zt e) I.sz) d)
 refine⟨J.ok,J.os,J.bare,?_,J.loc,J.cell,?_,?_,?_,?_,J.len⟩
 ·refine⟨J.base.keep,J.base.slot,λb o e n k=>?_,J.base.there,λb xs e=>?_,λb o v e=>?_,λb ps e=>?_⟩
  ·rw[aj (g b o e)];exact J.base.free b o e n k
  ·rw[aj (am (J.base.tups b xs e) c)];exact J.base.tups b xs e
  ·rw[aj (am (J.base.frzs b o v e) c)];exact J.base.frzs b o v e
  ·obtain⟨m,q⟩:=J.base.tbls b ps e;exact⟨m,by rw[aj (am q c)];exact q⟩
 ·rw[aj (Zr (Zf I.lt d))];exact J.free
 ·intro h f e;obtain⟨t,q⟩:=I.cell h f e;rw[aj (Zr (Zf q.lt d))];exact J.freeC h f e
 ·intro p i;obtain⟨e,n,r⟩:=J.pin p i;refine⟨e,?_,r⟩;rw[aj (Zr (Zf (Zt (I.pin p i).1) d))];exact n
 ·intro b v e;by_cases j:b=a
  ·subst j;rw[aa]at e;cases e;exact new
  ·rw[aj j]at e;refine(J.hok b v e).stay (λ_ _ _ q=>q) (λf q=>?_) λf xs q=>?_
   ·rw[aj (am q c)];exact q
   ·rw[aj (am q c)];exact q
end
structure wo (K:PySem.W.Frag) (D:Addr):Prop where
 ga:specialIn K (.ref D) "__getattribute__"=some (some (.builtin "type.__getattribute__"))
 rd:readsIn K D (.type "type")=true
 at_:findCls K (.ref D) (.type "type") "__init__"=some (.val (.builtin "ValueError.__init__"))
structure nT (K:PySem.W.Frag) (C:Addr) (f:Str):Prop where
 sa:findIn K (.ref C) "__setattr__"=some (some (.builtin "object.__setattr__"))
 ov:iw K C=true
 no:findIn K (.ref C) f=some none
 hd:hasDictIn K C=true
section
variable{X:Cx}{C D f:Addr}{x nm:Str}{p pos pos' apos:Pos}{e o value:Expr}{es:List Expr}{t:TA}{ta tv:TE}{r:List V->Hp->VK->Prop}
theorem wq(g:Gl X x)(i:X.mg x=some (.ref D))(B:wo X.K D)(j:cn X (.builtin "ValueError.__init__") r)(k:PA X (e::es) t)(a:(x==("__debug__":Str))=false)
 (l:starEach (e::es) X.env=(false,eval e X.env)::starEach es X.env) (b:(backTo pos (starEach es X.env)).any (·.1)=false)
 (m:eval (.Call (.Attribute (.Name x p) "__init__" apos) (e::es) [] pos) X.env=(do
  let c<-eval (.Name x p) X.env
  standAt apos.atName
  let(f,first)<-holding [c] (getMethod c "__init__" pl)
  callWith pos f first (backTo pos (starEach (e::es) X.env)) (backToKw pos (keywordEach [] X.env)))):
 PE X (.Call (.Attribute (.Name x p) "__init__" apos) (e::es) [] pos) (tCB r t):=by
 intro pins s d H Q I h;refine PySem.W.methodCall_KW (pl:=pl) (et I g i ?_ a) m;refine PySem.W.method_cls I.kIn B.ga (PySem.W.cls_value I.kIn B.rd B.at_ (by decide) ?_);exact PyProof.Rows.callWith_builtin1 (thn (k pos pins _ d H _ (I.tok _) h) λus n ⟨vs,q,u,v,w⟩=>j pins n d q vs us Q u v w) l b
def y9(K:PySem.W.Frag)(C:Addr)(ta tv:TE)(f:Str):TS:=λD b H=>tv b H λy g=>ta b g λx c=>∃a,x= .ref a/\c a=some (ExO a C none)/\
 ∀d,c d=none->d≠a->D.nx b (upd (upd c a (ExO a C (some d))) d (.xd [(f,y)]))
theorem yi(c:nT X.K C nm)(E:PE X o ta)(G:PE X value tv)(J:swapsWith value (some (.Attribute o nm pos')) pos.line X.env=pure false):PS X (.Assign [.Attribute o nm pos'] value pos) (y9 X.K C ta tv nm):=by
 intro pins s l H D I h;refine plainObj_wpAny_Assign_Attribute (thn (G pins s l H _ I h) λu L ⟨y,M,N,O,q⟩=>thn (E pins L l M _ N q) λQ d ⟨x,T,i,U,a,ex,m,Y⟩=>?_) J;subst ex;obtain rfl:Q=Value.ref a:=U;obtain⟨⟨ob,vs,e,v,hd,w,hz,h1⟩,_⟩:=i.hok a _ m;have j:d.heap.objs.size≠a:=Yh (Zt e);have A:T d.heap.objs.size=none:=i.hok.fresh (Zh _);refine si i.kIn e v w hd c.sa c.ov c.no c.hd λh' B n' k=>?_
 refine⟨l,_,?_,Y d.heap.objs.size A j⟩;have I3:=i.write (x:=a) (e:=a) (o:=ExO a C (some d.heap.objs.size)) (t':=d.toks+2) (h':=h') (by rw[m];exact True.intro) (.inl rfl) (λb u n z=>k b u n z) ⟨_,B⟩ (ExO.ok B v rfl w hz h1);refine Inv.stood2 (a:=d.heap.objs.size) (o:= .xd [(nm,y)]) (s:=d) i I3 (by rw[aj j];exact A) (Zh _) ⟨_,n',λg=>?_⟩;show gY (List.lookup g [(nm,y)]) (if g=nm then some u else none);by_cases z:g=nm
 ·rw[if_pos z,z];simp only[List.lookup,beq_self_eq_true];exact O
 ·rw[if_neg z];have z':(g==nm)=false:=by simpa using z
  simp only[List.lookup,z'];exact True.intro
end
def AB(b:TE):TE:=λc H Q=>b c H λv a=>(∃i:Int,v= .int i/\i.natAbs<2^64/\Q (.str (toString i)) a)\/∃y:Str,v= .str y/\y.length<=sizeLine/\Q (.str y) a
def ld:List TE->Str->TE
 |[],a=>λb H Q=>a.length<=sizeLine/\Q (.str a) H
 | t::ts,a=>λb H Q=>t b H λv c=>∃y:Str,v= .str y/\(a++y).length<=sizeLine/\ld ts (a++y) b c Q
inductive PJ (X:Cx):List Expr->List TE->Prop
 | nil:PJ X [] []
 | cons {e:Expr} {es:List Expr} {t:TE} {ts:List TE}:PE X e t->PJ X es ts->PJ X (e::es) (t::ts)
section
variable{X:Cx}{e v1 v2:Expr}{rest:List Expr}{te t1 t2:TE}{ts:List TE}{pos:Pos}
theorem AC(c:PE X e te):PE X (.FormattedValue e (-1) none pos) (AB te):=by
 intro pins s d H Q I h;refine FormattedValue_plain (thn (c pins s d H _ I h) λu j ⟨v,a,b,r,q⟩=>?_);rcases q with⟨i,rfl,hi,q⟩|⟨y,rfl,f,q⟩
 ·obtain⟨t,rfl⟩:=(show∃t,u=Value.int i t from r)
  have g:i.natAbs.log2<1920:=by
   by_cases z:i.natAbs=0
   ·rw[z];decide
   ·exact(Nat.log2_lt z).mpr (Zf hi (Nat.pow_le_pow_right (by decide) (by decide)))
  exact formatField_int_small g ⟨V.str (toString i),a,b.tok _,⟨_,rfl⟩,q⟩
 ·obtain⟨t,rfl⟩:=(show∃t,u=Value.str y t from r)
  exact formatField_str (λt' tk=>⟨.str y,a,b.tok _,⟨_,rfl⟩,q⟩) f
theorem wu(h:PJ X d ts):∀(a:Str) (pins:List (Addr×Obj)) (s:Shared) (b:St) (H:Hp) (Q:VK),Inv X pins b H s->ld ts a b H Q->
 wpAny (model X.prog X.w) X.A (joinParts a (evalEach d X.env)) (EP X pins b Q) X.xe s:=by
 induction h with
 | nil=>exact λa pins s b H Q I ⟨c,q⟩=>joinParts_nil ⟨.str a,H,I.tok _,⟨_,rfl⟩,q⟩ c
 | cons f _ g=>
   intro a pins s b H Q I q;refine joinParts_cons (thn (f pins s b H _ I q) λu i ⟨v,j,k,r,y,l,c,m⟩=>?_);subst l;obtain⟨t,rfl⟩:=(show∃t,u=Value.str y t from r)
   exact⟨c,g _ pins i b j Q k m⟩
theorem yj(h:PJ X (v1::v2::rest) ts):PE X (.JoinedStr (v1::v2::rest) pos) (ld ts Str.empty):=λpins s a H Q I q=>
 JoinedStr_many (wu h _ pins s a H Q I q)
end
def nU(C:Addr)(sp:Sp)(t:TA):TE:=λb H Q=>t b H λvs a=>vs.length<=9/\∀x,a x=none->sp (.ref x::vs) (upd a x (ExO x C none)) (λv c=>v= .non/\Q (.ref x) c) E0
structure MkX (K:PySem.W.Frag) (C f:Addr):Prop where
 ex:exK K C f=true
 fn:(K.lookup f).map (·.cls)=some (.type "function")
 kp:keepIn K (.ref C)=true
section
variable{X:Cx}{k:Nat}{f C:Addr}{fd:FuncData}{ps:List Str}{sp:Sp}{x:Str}{p pos cpos:Pos}{e:Expr}{es:List Expr}{te:TE}{t:TA}
theorem tY(M:MkX X.K C f)(F:eB X.prog X.w X.K X.mg X.base CX0 k f fd ps sp)(y:bN (k+1) X.A)(z:dF X.K fd ps [])
 (I:Inv X pins j H s) (r:aD vs us) (hv:vs.length<=9)
 (h:∀x,H x=none->sp (.ref x::vs) (upd H x (ExO x C none)) (λv A=>v= .non/\Q (.ref x) A) E0):
 wpAny (model X.prog X.w) X.A (call (.ref C) us) (EP X pins j Q) X.xe s:=by
 obtain⟨a,g,d,tk,os⟩:=s;obtain⟨nm,qn,N,bs,bm,o,sn,sub,ab,B,dd,k0,k1,k2,k3,k5,mN,D,E,hi,T⟩:=qN I.kIn M.ex;obtain⟨oI,G,l⟩:=map_eq_some_iff.mp M.fn;have m:us.length<=sizeLine:=by rw[<-r.length,sizeLine_eq];lia
 refine tX PySem.F.excBase_ValueError T D E hi (I.kIn _ _ G) l m ?_;have J:Inv X pins j H ⟨lO a C us,g,d,tk,os⟩:=I.keptS eQ rfl rfl;have n:Inv X pins j (upd H (a.objs.size+1) (ExO (a.objs.size+1) C none)) ⟨lO a C us,g,d,tk,os⟩:=
  I.stoodS J (Y1 _) (ExO.ok (pC a C us) rfl rfl rfl (by simp) rfl)
 have q:=h (a.objs.size+1) (I.hok.fresh (Y1 _));have w:aD (V.ref (a.objs.size+1)::vs) (Value.ref (a.objs.size+1)::us):= .cons rfl r;have c:(Value.ref (a.objs.size+1)::us++[]).length=ps.length:=by
  rw[append_nil,<-w.length];exact F.len _ _ _ _ q
 have i:=z ⟨lO a C us,g,d,tk,os⟩ (Value.ref (a.objs.size+1)::us) n.kIn c;rw[append_nil]at i;refine wpAny_call (codeAny_mono (F.run _ X.stack _ _ ⟨Value.ref (a.objs.size+1)::us,[]⟩ (Value.ref (a.objs.size+1)::us) _ _ E0 (y.make C us []) (n.env0.make C us []) i w q) λr s' b=>?_);cases r with
 | error e=>exact False.elim b
 | ok L=>
   cases L with
   | ret u=>
     obtain⟨v,O,U,Y,ev,q3⟩:=n.after b;subst ev;exact⟨Y,V.ref (a.objs.size+1),O,U,rfl,q3⟩
   | next=>exact False.elim b
   | brk=>exact False.elim b
   | cont=>exact False.elim b
theorem wv(M:MkX X.K C f)(F:eB X.prog X.w X.K X.mg X.base CX0 k f fd ps sp)(d:bN (k+1) X.A)(g:Gl X x)(i:X.mg x=some (.ref C))(j:dF X.K fd ps [])
 (l:PA X (e::es) t) (a:(x==("__debug__":Str))=false) (m:starEach (e::es) X.env=(false,eval e X.env)::starEach es X.env) (b:(backTo pos (starEach es X.env)).any (·.1)=false):
 PE X (.Call (.Name x p) (e::es) [] pos) (nU C sp t):=by
 intro pins s n H Q I h;refine wpAny_Call_Name_kw (et I g i ?_ a);refine callWith_K (h₀:=X.base) I.ok.mod.kin M.kp (thn (l pos pins s n H _ I h) λus u ⟨vs,v,c,r,o,q⟩=>⟨c.kIn,?_⟩) m b;exact tY M F d j c r o q
def lg(C:Addr)(te:TE)(W:Addr->Hp->Prop):TS:=λ_ c H=>te c H λv b=>∃a d,v= .ref a/\b a=some (ExO a C (some d))/\W a b
theorem ww{W:Addr->Hp->Prop}(A:exK X.K C f=true)(B:X.calm=true)(E:PE X e te)
 (G:∀(pins:List (Addr×Obj)) (i:St) (H:Hp) (s:Shared) (a d:Addr),Inv X pins i H s->H a=some (ExO a C (some d))->W a H->X.xe (.ref a) s):PS X (.Raise (some e) none pos) (lg C te W):=by
 intro pins s i H D I h;show wpAny _ X.A (do standAt pos;raiseStmt X.env (some (do let v<-eval e X.env;standAt pos;pure v)) none) _ _ s;refine Z2 (wpAny_standAt ?_);unfold raiseStmt;refine Z2 (Z2 (thn (E pins s i H _ I h) λu m ⟨v,J,j,r,a,d,L,n,q⟩=>Z2 (wpAny_standAt (Z3 ?_))));subst L;obtain rfl:u=Value.ref a:=r;obtain⟨⟨M,vs,O,c,o,w,hz,Q⟩,_⟩:=j.hok a _ n;obtain⟨nm,qn,N,bs,U,y,sn,sub,ab,Y,dd,k0,k1,k2,k3,k5,mN,z,hN,hi,T⟩:=qN j.kIn A;have l:(Value.ref C::U).contains (.type "BaseException")=true:=by rw[List.contains_cons,T.hasType (b:=true) (by decide),Bool.or_true]
 have hE:=G pins i J m a d j n q;obtain⟨hp,g,dr,tk,os⟩:=m;obtain⟨oc,od,ac,al⟩:=M;dsimp only at c o w;subst c o w;have hh:X.A.handled=none:=j.ok.hd B
 repeat (first|with_reducible refine wpAny_loadPart_at O ?_|with_reducible refine wpAny_loadPart_at z ?_|(with_reducible refine wpAny_isSubtype_exc z ?_;rw[l])|wp_step)
 rw[Q];refine Z3 ?_;rw[if_neg (by decide)];exact Z3 (wpAny_raiseNew_none hh hE)
end
noncomputable def drop(H:Hp)(a:Addr):Hp:=λb=>if b=a then none else H b
theorem gG:drop H a a=none:=by unfold drop;rw[if_pos rfl]
theorem ck(h:b≠a):drop H a b=H b:=by unfold drop;rw[if_neg h]
theorem tZ{P:Program}{K:PySem.W.Frag}
 (hk:exK K C f=true) (he:PE (dS (CXO P w) P w K mg base N h g k l A outer s₀ H₀ E) e te):
 PS (dS (CXO P w) P w K mg base N h g k l A outer s₀ H₀ E) (.Raise (some e) none pos) (lg C te λa H=>∃d,H a=some (ExO a C (some d))/\H₀ a=none/\E (.ref C) (some d) (drop H a)):=by
 refine ww hk rfl he λpins σ H s a ac I _ ⟨d,x,hn,q⟩=>?_
 obtain⟨⟨oe,vs,ea,O,hd,hf,hz,h1⟩,_⟩:=I.hok a _ x;have ST:=I.stack;have Q:=I.stkFree;have L0:s₀.heap.objs.size<=(envOfC h g s₀.heap.objs.size k l).locals:=Zh _;show wpAny (model P w) (A.deeper (envOfC h g s₀.heap.objs.size k l)) (leaving (envOfC h g s₀.heap.objs.size k l) (.ref a)) _ _ s;have T:a∉frs (envOfC h g s₀.heap.objs.size k l::outer):=λz=>by
  have:=Q a z;rw[x]at this;cases this
 have up:Up (hideAll s.heap (a::frs (envOfC h g s₀.heap.objs.size k l::outer))) (envOfC h g s₀.heap.objs.size k l::outer) a (.ref C) (some d) none s.heap:=
  ⟨λb o z=>of_hideAll _ z,PySem.W.hideAll_none _ (mem_cons.mpr (.inl rfl)),PySem.W.funFrames_hide ST λen U b i=>mem_cons.mpr (.inr (mem_filterMap.mpr ⟨en,U,i⟩)),oe,vs,ea,O,hd,hf,hz,h1⟩
 refine pB (.inl rfl) I.ok.frames rfl up λh' u sm=>?_
 have t:∀b o,s.heap.get? b=some o->b≠a->b∉frs (envOfC h g s₀.heap.objs.size k l::outer)->h'.get? b=some o/\(hideAll s.heap (a::frs (envOfC h g s₀.heap.objs.size k l::outer))).get? b=some o:=λb o z n1 n2=>by
  have hB:=hideAll_get (a::frs (envOfC h g s₀.heap.objs.size k l::outer)) z λm=>(mem_cons.mp m).elim n1 n2
  exact⟨u.1 b o hB,hB⟩
 have L:∀b o,s.heap.get? b=some o->b∈frs (envOfC h g s₀.heap.objs.size k l::outer)->∃Y,h'.get? b=some {o with slots:=Y}:=λb o z i=>by
  obtain⟨_,o',z',D⟩:=ST.mem i;rw[z]at z';cases z';exact sm b o z D
 have nL:∀b o,s₀.heap.get? b=some o->b∉frs outer->b∉frs (envOfC h g s₀.heap.objs.size k l::outer):=λb o z n m=>by
  rcases mem_cons.mp (show b∈s₀.heap.objs.size::frs outer from m)with y|y
  ·exact absurd (Zt z) (by rw[y];exact Yr _)
  ·exact n y
 have sub:∀b,b∈frs outer->b∈frs (envOfC h g s₀.heap.objs.size k l::outer):=λb i=>mem_cons.mpr (.inr i)
 have j:∀b,b∉(dS (CXO P w) P w K mg base N h g k l A outer s₀ H₀ E).ex:=λb z=>absurd (show b∈([]:List Addr)from z) (by simp)
 have new:s₀.heap.get? a=none:=by
  cases z:s₀.heap.get? a with
  | none=>rfl
  | some o=>
    have:=I.base.free a o z hn (j a);rw[x]at this;cases this
 have trk:∀b o,H b=some o->b∉frs (envOfC h g s₀.heap.objs.size k l::outer):=λb o z m=>by
  rw[Q b m]at z;cases z
 refine⟨a,_,.ref C,some d,drop H a,rfl,⟨I.os,I.bare,⟨λb o z n i hx=>?_,λb o z n i hx=>?_,λb o z n hx=>?_,λb o z hx=>?_,λb xs z=>?_,λb o v z=>?_,λb ps z=>?_⟩,λb o z=>?_,u,gG,new,λb ob z i D=>?_,λb i=>?_⟩,q⟩
 ·have p:=I.base.keep b o z n i (j b);refine(t b o p (λy=>?_) (nL b o z i)).1;subst y;rw[new]at z;cases z
 ·obtain⟨Y,p⟩:=I.base.slot b o z n i (j b);obtain⟨ab,J⟩:=L b _ p (sub b i);exact⟨ab,J⟩
 ·by_cases y:b=a
  ·rw[y];exact gG
  ·rw[ck y];exact I.base.free b o z n (j b)
 ·obtain⟨G,p⟩:=I.base.there b o z (j b);by_cases i:b∈frs (envOfC h g s₀.heap.objs.size k l::outer)
  ·obtain⟨Y,J⟩:=L b G p i;exact⟨_,J⟩
  ·refine⟨G,(t b G p (λy=>?_) i).1⟩;subst y;rw[new]at z;cases z
 ·have p:=I.base.tups b xs z;rw[ck (kB p x (by simp[ExO]))];exact p
 ·have p:=I.base.frzs b o v z;rw[ck (kB p x (by simp[ExO]))];exact p
 ·obtain⟨m,p⟩:=I.base.tbls b ps z;refine⟨m,?_⟩;rw[ck (kB p x (by simp[ExO]))];exact p
 ·have y:b≠a:=λy=>by rw[y,gG]at z;cases z
  rw[ck y]at z;refine(I.hok b o z).stay (λc u' M B=>?_) (λc B=>?_) λc xs B=>?_
  ·rcases M with rfl|M
   ·exact(t c u' B y (trk c o z)).1
   ·exact(t c u' B (kB M x (by simp[ExO])) (trk c _ M)).1
  ·rw[ck (kB B x (by simp[ExO]))];exact B
  ·rw[ck (kB B x (by simp[ExO]))];exact B
 ·have y:b≠a:=λy=>by
   rcases i with⟨o,r⟩|⟨o,r⟩
   ·rw[y,new]at r;cases r
   ·rw[y,gG]at r;cases r
  have nf:b∉frs (envOfC h g s₀.heap.objs.size k l::outer):=by
   rcases i with⟨o,r⟩|⟨o,r⟩
   ·exact nL b o r D
   ·rw[ck y]at r;exact trk b o r
  have ex:∃G,s.heap.get? b=some G:=by
   rcases i with⟨o,r⟩|⟨o,r⟩
   ·exact I.base.there b o r (j b)
   ·rw[ck y]at r;exact(I.hok b o r).there
  obtain⟨G,p⟩:=ex;obtain⟨J,e3⟩:=t b G p y nf;rw[show h'.get? b=some ob from z]at J;cases J;exact e3
 ·have y:b≠a:=λy=>T (y▸sub b i)
  rw[ck y];exact Q b (sub b i)
noncomputable def ExH(a C:Addr)(d:Option Addr):HO:= .ext λh=>∃o vs,h.get? a=some o/\o.cls= .ref C/\o.dict=d/\o.data= .fields vs
theorem ExH.ok{P:Program}(e:h.get? a=some o)(b:o.cls= .ref C)(c:o.dict=d)(f:o.data= .fields vs):
 bg P w H h a (ExH a C d):=
 ⟨⟨o,vs,e,b,c,f⟩,⟨o,e⟩,λg i ⟨o,vs,e,r⟩ k=>⟨o,vs,k o e,r⟩⟩
section
variable{X:Cx}{pins:List (Addr×Obj)}{σ:St}{H:Hp}{s s':Shared}
theorem yk(I:Inv X pins σ H s)(J:X.N.Nodup)(hi:X.N[i]? =some n)(L:X.env.kindOf n=some .local)
 (h:∀s',Inv X pins (σ.set i none) H s'->Q () s'):wpAny M A (do bindName X.env n .none;unbindBehindTheSuite X.env n pos) Q E s:=by
 obtain⟨m,C,N⟩:=id I.loc;have l:(X.env.scope.kind== .class||(X.env.scope.kind== .module&&X.env.locals != X.env.globals))=false:=by rw[I.ok.kind];rfl
 have r:i<σ.length:=by rw[I.len];exact(Ys hi).1
 have cne:=I.cne;refine wpAny_nameGoes_keeps L C l λh' v x a=>h _ ?_
 obtain⟨oL,_,_,O,_⟩:=id C;have f:∀b o,X.s₀.heap.get? b=some o->b≠X.env.locals:=λb o e=>Zr (Zf (Zt e) I.ok.above)
 refine⟨I.ok,I.os,I.bare,⟨λb o e n B t=>?_,λb o e n B t=>?_,I.base.free,λb o e t=>?_,I.base.tups,I.base.frzs,I.base.tbls⟩,⟨_,x,λj y T g u U=>?_⟩,λy c e=>?_,I.free,I.freeC,λp Y=>?_,λb ob e=>?_,by simpa using I.len⟩
 ·exact(a.2 b (f b o e)).trans (I.base.keep b o e n B t)
 ·obtain⟨sl,g⟩:=I.base.slot b o e n B t;exact⟨sl,(a.2 b (f b o e)).trans g⟩
 ·obtain⟨o',g⟩:=I.base.there b o e t;exact⟨o',(a.2 b (f b o e)).trans g⟩
 ·have D:j≠i:=λz=>by
   subst z;rw[List.getElem?_set_self r]at u;cases u
  rw[List.getElem?_set_ne (Ne.symm D)]at u;obtain⟨u',r',q⟩:=N j y T g u U;refine⟨u',r',?_⟩;rcases q with⟨k,e⟩|⟨k,c,e,z⟩
  ·refine .inl ⟨k,?_⟩;have:y≠n:=λe=>D (kC J g (e▸hi))
   simp[this,e]
  ·exact .inr ⟨k,c,e,z.sameBut a (cne y c e)⟩
 ·obtain⟨G,z⟩:=I.cell y c e;exact⟨G,z.sameBut a (cne y c e)⟩
 ·obtain⟨e,n,ne,nf,d⟩:=I.pin p Y;exact⟨(a.2 p.1 ne).trans e,n,ne,nf,d⟩
 ·refine(I.hok b ob e).stay (λc G w q=>(a.2 c ?_).trans q) (λ_ q=>q) λ_ _ q=>q
  rintro rfl;rcases w with rfl|w
  ·rw[I.free]at e;cases e
  ·rw[I.free]at w;cases w
theorem Inv.stood3(I:Inv X c u y s)(g:∀p∈pins,p∈c)(J:Inv X pins σ H s')(d:H a=none)(w:s.heap.get? a=none)(new:bg X.prog X.w (upd H a o) s'.heap a o):Inv X pins σ (upd H a o) s':=by
 have ne:∀{b:Addr} {o:Obj},s.heap.get? b=some o->b≠a:=λe z=>by rw[z,w]at e;cases e
 refine⟨J.ok,J.os,J.bare,?_,J.loc,J.cell,?_,?_,?_,?_,J.len⟩
 ·refine⟨J.base.keep,J.base.slot,λb o e n j=>?_,J.base.there,λb xs e=>?_,λb o v e=>?_,λb ps e=>?_⟩
  ·obtain⟨A,x⟩:=I.base.there b o e j;rw[aj (ne x)];exact J.base.free b o e n j
  ·rw[aj (am (J.base.tups b xs e) d)];exact J.base.tups b xs e
  ·rw[aj (am (J.base.frzs b o v e) d)];exact J.base.frzs b o v e
  ·obtain⟨m,q⟩:=J.base.tbls b ps e;exact⟨m,by rw[aj (am q d)];exact q⟩
 ·obtain⟨m,⟨B,_,_,h,_⟩,_⟩:=I.loc;rw[aj (ne h)];exact J.free
 ·intro k f e;obtain⟨C,D,i,_⟩:=I.cell k f e;rw[aj (ne i)];exact J.freeC k f e
 ·intro p l;obtain⟨e,n,r⟩:=J.pin p l;refine⟨e,?_,r⟩;have:=(I.pin p ((Yt l).elim (λz=>mem_append_left _ z) λz=>Yd _ (g p z))).1;rw[aj (ne this)];exact n
 ·intro b v e;by_cases t:b=a
  ·subst t;rw[aa]at e;cases e;exact new
  ·rw[aj t]at e;refine(J.hok b v e).stay (λ_ _ _ q=>q) (λf q=>?_) λf xs q=>?_
   ·rw[aj (am q d)];exact q
   ·rw[aj (am q d)];exact q
end
section
variable{M:Model}{A:Around}{E:Value->Shared->Prop}{s:Shared}{K:PySem.W.Frag}{D C e:Addr}{oe:Obj}{b:Bool}{Q:Bool->Shared->Prop}
theorem pD(X:K.In s.heap)(j:typeIn K (.ref D)=some (.type "type"))(l:subIn K (.ref D) (.type "BaseException")=some true)(d:(K.lookup D).any (λo=>match o.data with| .cls _=>true|_=>false)=true)
 (m:s.heap.get? e=some oe) (n:oe.cls= .ref C) (p:subIn K (.ref C) (.ref D)=some b) (g:Q b s):wpAny M A (excMatches (.ref e) (.ref D)) Q E s:=by
 have q:Looks M s.heap (typeOf (.ref D)) (.type "type"):=PySem.W.looks_typeIn X j;have L2:Looks M s.heap (isSubtype (.ref D) (.type "BaseException")) true:=looks_subIn X l;have t:Looks M s.heap (isSubtype (.ref C) (.ref D)) b:=looks_subIn X p;obtain⟨h,u,c⟩:=any_some d;have v:=X _ _ u;have f:=tc_notTuple;unfold excMatches isInstance isExcClass isType loadHead;refine Z2 (Z2 (q.here ?_));rw[f];refine Z3 ?_;simp only[Zw,if_false];refine Z2 (Z3 ?_);simp only[forIn_cons,forIn_nil];have a:∃i,h.data= .cls i:=by
  revert c
  cases h.data<;> intro c<;> first|exact⟨_,rfl⟩|cases c
 obtain⟨i,a⟩:=a;have LT:Looks M s.heap (typeOf (.ref e)) (.ref C):=λw x y s' k r=>by
  show wpAny _ _ (do return (<-loadPart e (some headPart)).cls) _ _ _;refine Z2 (wpAny_loadPart (k _ _ m) (Z3 ?_));rw[n];exact r
 refine Z2 (Z2 (Z2 (Z2 (Z2 (wpAny_loadPart v (Z3 ?_))))));rw[a,if_pos rfl];refine L2.here ?_;simp only[Bool.not_true,Zw,if_false];refine Z3 (Z3 ?_);refine Z2 (LT.here (Z2 (Z2 (Z2 (t.here ?_)))));cases b with
 | true=>
   simp only[if_true];exact Z3 (Z3 (Z3 g))
 | false=>
   simp only[Zw,if_false];exact Z3 (Z3 (Z3 g))
end
noncomputable abbrev Cx.tryX(X:Cx)(pn:List (Addr×Obj))(E:XK):Cx:={X with pn:=pn,xe:=λe s'=>∃pins a H s,Inv ({X with pn:=pn}:Cx) pins a H s/\CXO X.prog X.w X.stack H s E e s'}
noncomputable abbrev Cx.suiteX(X:Cx)(a:Addr):Cx:={X with A:=X.A.mark (some (.ref a)),calm:=false,xe:=λ_ _=>False}
section
variable{X:Cx}{pins pins' pn:List (Addr×Obj)}{σ:St}{H:Hp}{s:Shared}{E:Value->Shared->Prop}
theorem Bv(ok:X.Ok)(pn:List (Addr×Obj))(E:Value->Shared->Prop):({X with pn:=pn,xe:=E}:Cx).Ok:=
 ⟨ok.mod,ok.kind,ok.glob,ok.blt,ok.above,ok.inj,ok.has,ok.cab,ok.hd,ok.frames,ok.stk,ok.exf,ok.bs,ok.bsz,ok.noex,ok.exfs,ok.funs,ok.frf⟩
theorem unPn(ok:({X with pn:=pn,xe:=E}:Cx).Ok):X.Ok:=
 ⟨ok.mod,ok.kind,ok.glob,ok.blt,ok.above,ok.inj,ok.has,ok.cab,ok.hd,ok.frames,ok.stk,ok.exf,ok.bs,ok.bsz,ok.noex,ok.exfs,ok.funs,ok.frf⟩
theorem Inv.toPn(I:Inv X pins σ H s)(E:Value->Shared->Prop):Inv ({X with pn:=X.pn++pins,xe:=E}:Cx) [] σ H s:=
 ⟨Bv I.ok _ E,I.os,I.bare,I.base,I.loc,I.cell,I.free,I.freeC,λp a=>I.pin p (by simpa using a),I.hok,I.len⟩
theorem Inv.ofPn(I:Inv ({X with pn:=X.pn++pins,xe:=E}:Cx) pins' σ H s):Inv X pins σ H s:=
 ⟨unPn I.ok,I.os,I.bare,I.base,I.loc,I.cell,I.free,I.freeC,λp a=>I.pin p (mem_append_left _ a),I.hok,I.len⟩
theorem Inv.toSuite(I:Inv X pins σ H s)(a:Addr):Inv (X.suiteX a) pins σ H s:=
 ⟨⟨I.ok.mod,I.ok.kind,I.ok.glob,I.ok.blt,I.ok.above,I.ok.inj,I.ok.has,I.ok.cab,(λz=>Bool.noConfusion z),I.ok.frames,I.ok.stk,I.ok.exf,I.ok.bs,I.ok.bsz,I.ok.noex,I.ok.exfs,I.ok.funs,I.ok.frf⟩,I.os,I.bare,I.base,I.loc,I.cell,I.free,I.freeC,I.pin,I.hok,I.len⟩
theorem Inv.ofSuite(I:Inv (X.suiteX a) pins σ H s)(ok:X.Ok):Inv X pins σ H s:=⟨ok,I.os,I.bare,I.base,I.loc,I.cell,I.free,I.freeC,I.pin,I.hok,I.len⟩
theorem SP.ofPn{D:d9}(h:SP ({X with pn:=X.pn++pins,xe:=E}:Cx) [] D f s):SP X pins D f s:=by
 cases f with
 | next=>obtain⟨a,b,I,q⟩:=h;exact⟨a,b,I.ofPn,q⟩
 | brk=>obtain⟨a,b,I,q⟩:=h;exact⟨a,b,I.ofPn,q⟩
 | cont=>obtain⟨a,b,I,q⟩:=h;exact⟨a,b,I.ofPn,q⟩
 | ret u=>obtain⟨v,a,b,I,r,q⟩:=h;exact⟨v,a,b,I.ofPn,r,q⟩
end
theorem lh{X:Cx}{E a:XK}(b:∀c d H,a c d H->E c d H):eC (CXO X.prog X.w) (X.tryX pn E) a:=by
 rintro pins f H s e s' I ⟨g,B,cls,h,i,rfl,F,q⟩;exact⟨pins,f,H,s,⟨Bv I.ok _ _,I.os,I.bare,I.base,I.loc,I.cell,I.free,I.freeC,I.pin,I.hok,I.len⟩,g,B,cls,h,i,rfl,F,b _ _ _ q⟩
noncomputable def d9.gone(D:d9)(i:Nat):d9:={nx:=λa H=>D.nx (a.set i none) H,rt:=D.rt,bk:=λa H=>D.bk (a.set i none) H,ct:=λa H=>D.ct (a.set i none) H}
def Bw(K:PySem.W.Frag)(D:Addr)(E:XK)(len i:Nat)(e ts:TS):TS:=λDn f H=>e Dn f H/\∀cls d c,E cls d c->∃C,cls= .ref C/\subIn K (.ref C) (.ref D)=some true/\
 ∀(a:Addr) (b:St),b.length=len->c a=none->ts (Dn.gone i) (b.set i (some (.ref a))) (upd c a (ExH a C d))
structure Cat (K:PySem.W.Frag) (D:Addr):Prop where
 ty:typeIn K (.ref D)=some (.type "type")
 ex:subIn K (.ref D) (.type "BaseException")=some true
 cd:(K.lookup D).any (λo=>match o.data with| .cls _=>true|_=>false)=true
theorem AD{X:Cx}{D:Addr}(o:X.stack=X.env::X.outer)(hf:X.env.frame=some X.env.locals)(hN:X.N.Nodup)(hi:X.N[i]? =some n)
 (hk:X.env.kindOf n=some .local) (hl:X.env.scope.names.lookup n=some .local) (hg:Gl X x) (hm:X.mg x=some (.ref D)) (c:Cat X.K D) (t:∀pn,PSs (X.tryX pn E) L tb) (k:∀a,PSs (X.suiteX a) (M::w) ts)
 (al:(x==("__debug__":Str))=false):
 PS X (.Try L [.ExceptHandler (some (.Name x p)) (some n) (M::w) N] [] [] pos) (Bw X.K D E X.N.length i tb ts):=by
 intro pins s σ H Dn I ⟨h1,h2⟩;refine wpAny_Try_except (wpAny_mono (t (X.pn++pins) [] s σ H Dn (I.toPn _) h1) (λf j q=>?_) λe j q=>?_)
 ·have q':=SP.ofPn q;cases f with
  | next=>exact wpAny_execs_nil q'
  | brk=>exact q'
  | cont=>exact q'
  | ret u=>exact q'
 ·obtain⟨an,h,H1,s2,I1,l,B,cls,dx,O,rfl,F,qE⟩:=q;obtain⟨C,rfl,T,as⟩:=h2 cls dx O qE;have au:X.A.frames=some (X.env::X.outer):=by rw[<-o];exact I.ok.frames
  have F':Fl X.prog X.w (X.env::X.outer) H1 s2 l B (.ref C) dx (some .none) O j:=by rw[<-o];exact F
  refine nS (.inr rfl) au hf F'.up λha ua U=>?_
  refine iT (s:={j with heap:=ha}) ua λhb ub Y=>?_
  obtain⟨un,av⟩:=F.fly ub.1 (U.trans Y);have J:Inv X pins h O {j with heap:=hb}:=(I1.call' (s':={j with heap:=hb}) (ch:=[]) F.os un av F.bare λb z=>absurd z (by simp)).ofPn (E:=X.xe);obtain⟨_,_,_,oe,vs,eb,a0,a6,a7,_⟩:=id ub;refine wpAny_handleBy_cons (codeAny_handlers_test ?_) (by intro q;cases q);refine et (J.toSuite l) hg hm ?_ al;refine pD (s:={j with heap:=hb}) J.kIn c.ty c.ex c.cd eb a0 T ?_;refine codeAny_handlers_suite_as (iT (s:={j with heap:=hb}) ub λhc uc a1=>?_);obtain⟨a2,ab⟩:=F.fly uc.1 ((U.trans Y).trans a1);have J2:Inv X pins h O {j with heap:=hc}:=(I1.call' (s':={j with heap:=hc}) (ch:=[]) F.os a2 ab F.bare λb z=>absurd z (by simp)).ofPn (E:=X.xe);obtain⟨_,_,_,oc,vc,ec,a3,a4,a5,_⟩:=id uc;have ac:Inv X pins h H1 s2:=I1.ofPn (E:=X.xe);have J3:Inv X pins h (upd O l (ExH l C dx)) {j with heap:=hc}:=ac.stood3 (λ_ z=>z) J2 F.free F.new (ExH.ok ec a3 a4 a5);refine iI (v:= .ref l) J3 hN hi (.inl hl) rfl (λs4 J4=>?_) (.inr hl);refine wpAny_mono (k l pins s4 _ _ (Dn.gone i) (J4.toSuite l) (as l h ac.len F.free)) (λf s5 q5=>?_) λ_ _ z=>z.elim
  have d:∀{g:St} {G:Hp} {Q:Unit->Shared->Prop},Inv (X.suiteX l) pins g G s5->(∀s',Inv X pins (g.set i none) G s'->Q () s')->
   wpAny (model X.prog X.w) X.A (do bindName X.env n .none;unbindBehindTheSuite X.env n N) Q X.xe s5:=λm h5=>yk (m.ofSuite I.ok) hN hi hk h5
  cases f with
  | next=>
    obtain⟨g,G,m,y⟩:=q5;exact d m λs' A=>⟨_,_,A,y⟩
  | brk=>
    obtain⟨g,G,m,y⟩:=q5;exact d m λs' A=>⟨_,_,A,y⟩
  | cont=>
    obtain⟨g,G,m,y⟩:=q5;exact d m λs' A=>⟨_,_,A,y⟩
  | ret u=>
    obtain⟨v,g,G,m,r,y⟩:=q5;exact d m λs' A=>⟨v,_,_,A,r,y⟩
structure pE (K:PySem.W.Frag) (C:Addr) (f:Str):Prop where
 ga:findIn K (.ref C) "__getattribute__"=some (some (.builtin "BaseException.__getattribute__"))
 hk:findIn K (.ref C) "__getattr__"=some none
 sub:subIn K (.ref C) (.type "BaseException")=some true
 no:findIn K (.ref C) f=some none
 hd:hasDictIn K C=true
section
variable{prog:Program}{w:World}{A:Around}{E:Value->Shared->Prop}{s:Shared}{K:PySem.W.Frag}{x C:Addr}{name:Str}{v:Value}{ox:Obj}{od:Option Obj}
theorem wx(X:K.In s.heap)(I:PySem.W.InstAt s.heap x ox C od)(c:pE K C name)(d:findObj K C od name=some (.value v))(f:handedIn v=true)
 (h:Q v {s with toks:=s.toks+1}):wpAny (model prog w) A (getAttr (.ref x) name a) Q E s:=by
 have b:Looks (model prog w) s.heap (typeOf (.ref x)) (.ref C):=I.type;have sub:Looks (model prog w) s.heap (isInstance (.ref x) (.type "BaseException")) true:=b.andThen (looks_subIn X c.sub);have g:=looks_find (M:=model prog w) X I d;have S:=PySem.F.excAttr_ValueError.ga;refine Z2 (wpAny_mkText (wpAny_holding (Z2 (b _ _ _ _ (λ_ _ e=>e) (Z2 (looks_findIn X c.ga _ _ _ _ (λ_ _ e=>e) ?_))))));dsimp only;rw[show(onTheHeap (Value.ref C)&&Value.builtin "BaseException.__getattribute__"==Value.builtin "object.__getattribute__")=false from by rw[show(Value.builtin "BaseException.__getattribute__"==Value.builtin "object.__getattribute__")=false from by decide +kernel,Bool.and_false],if_neg (by decide)];refine Z2 (looks_hook X (mc:= .ref C) (r:=none) (by exact c.hk) _ _ _ _ (λ_ _ e=>e) (Z2 (wpAny_attempt (wpAny_holding ?_))));unfold callGetattribute;rw[show(a&&onTheHeap (Value.builtin "BaseException.__getattribute__"))=false from Bool.and_false _,if_neg (by decide)];unfold boundAndCalled;rw[S.bind];refine Z2 (Z3 ?_);show wpAny _ _ (call (.builtin "BaseException.__getattribute__") [.ref x,.str name s.toks]) _ _ _;refine wpAny_call ?_;refine codeAny_call_builtin S.plain PySem.F.entry_bexc_ga ?_;refine @check_slot (model prog w) _ _ {s with toks:=s.toks+1} "BaseException.__getattribute__" "BaseException" "__getattribute__" (.ref x) [.str name s.toks] [] _ (by decide +kernel) (by decide +kernel) sub (PySem.F.args_bexc_ga (.ref x) (.str name s.toks)) ?_;refine Z2 (Z3 (Z2 (Z3 (Z2 (Looks.here (s:={s with toks:=s.toks+1}) b (Z2 (Looks.here (s:={s with toks:=s.toks+1}) g ?_)))))));refine Z3 ?_;show wpAny _ _ (handedOut v) _ _ _;rw[PySem.W.handedOut_of f];exact Z3 h
end
def wy(C:Addr)(c:TE)(f:Str):TE:=λe H Q=>c e H λx b=>∃a d fs v,x= .ref a/\b a=some (ExH a C (some d))/\b d=some (.xd fs)/\fs.lookup f=some v/\Q v b
theorem yl{X:Cx}(c:pE X.K C f)(n:PE X e p)(t:attributeBase e f X.env (eval e X.env)=eval e X.env):PE X (.Attribute e f pos) (wy C p f):=by
 intro pins s w H Q I h;refine rH t (thn (n pins s w H _ I h) λu y ⟨x,z,b,A,a,d,fs,v,ex,B,D,l,q⟩=>?_);subst ex;obtain rfl:u=Value.ref a:=A;obtain⟨⟨o,vs,E,i,j,k⟩,_⟩:=b.hok a _ B;obtain⟨G,L,r⟩:=b.hok d _ D;obtain⟨Y,M,m⟩:=gY.some_of (v:=v) (o:=G f) (by rw[<-l];exact r f);obtain⟨od,N,O⟩:=jf L;obtain⟨oc,T,U,g⟩:=o;dsimp only at i j k;subst i j k;have J:PySem.W.InstAt y.heap a ⟨.ref C,some d,.fields vs,g⟩ C (some od):=⟨E,rfl,rfl,N⟩
 exact wx b.kIn J c (findObj_own c.hd c.no rfl (by rw[O,M])) (l7 m) ⟨v,z,b.tok _,m,q⟩
structure XIs (K:PySem.W.Frag) (C:Addr):Prop where
 ga:findIn K (.ref C) "__getattribute__"=some (some (.builtin "BaseException.__getattribute__"))
 hk:findIn K (.ref C) "__getattr__"=some none
 sub:subIn K (.ref C) (.type "BaseException")=some true
 hd:hasDictIn K C=true
 cl:findIn K (.ref C) "__class__"=some (some (.builtin "object.__class__"))
 gt:specialIn K (.builtin "object.__class__") "__get__"=some (some (.builtin "getset_descriptor.__get__"))
 tk:takesIn K (.builtin "object.__class__")=some true
 ob:mroIn K C (.type "object")=some true
section
variable{prog:Program}{w:World}{A:Around}{E:Value->Shared->Prop}{s:Shared}{K:PySem.W.Frag}{x C:Addr}{ox:Obj}{od:Option Obj}
theorem AE(X:K.In s.heap)(I:PySem.W.InstAt s.heap x ox C od)(c:XIs K C)(h:Q (some (.ref C)) {s with toks:=s.toks+1}):wpAny (model prog w) A (getAttr? (.ref x) "__class__") Q E s:=by
 have a:Looks (model prog w) s.heap (typeOf (.ref x)) (.ref C):=I.type;have sub:Looks (model prog w) s.heap (isInstance (.ref x) (.type "BaseException")) true:=a.andThen (looks_subIn X c.sub);have b:findObj K C od "__class__"=some (.bind (.builtin "getset_descriptor.__get__") (.builtin "object.__class__")):=by
  obtain⟨g,d,_⟩:=any_some c.hd;unfold findObj;rw[d,bind_some,c.cl,bind_some];dsimp only;rw[c.gt,bind_some];dsimp only;rw[c.tk,bind_some]
 have f:=looks_find (M:=model prog w) X I b;have S:=PySem.F.excAttr_ValueError.ga;unfold getAttr? getAttrBy? getAttrBy;refine Z2 (wpAny_mkText (Z2 (wpAny_attempt (wpAny_holding (Z2 (a _ _ _ _ (λ_ _ e=>e) (Z2 (looks_findIn X c.ga _ _ _ _ (λ_ _ e=>e) ?_))))))));dsimp only;rw[show(onTheHeap (Value.ref C)&&Value.builtin "BaseException.__getattribute__"==Value.builtin "object.__getattribute__")=false from by rw[show(Value.builtin "BaseException.__getattribute__"==Value.builtin "object.__getattribute__")=false from by decide +kernel,Bool.and_false],if_neg (by decide)];refine Z2 (looks_hook X (mc:= .ref C) (r:=none) (by exact c.hk) _ _ _ _ (λ_ _ e=>e) (Z2 (wpAny_attempt (wpAny_holding ?_))));unfold callGetattribute;rw[show(false&&onTheHeap (Value.builtin "BaseException.__getattribute__"))=false from rfl,if_neg (by decide)];unfold boundAndCalled;rw[S.bind];refine Z2 (Z3 ?_);show wpAny _ _ (call (.builtin "BaseException.__getattribute__") [.ref x,.str "__class__" s.toks]) _ _ _;refine wpAny_call ?_;refine codeAny_call_builtin S.plain PySem.F.entry_bexc_ga ?_;refine @check_slot (model prog w) _ _ {s with toks:=s.toks+1} "BaseException.__getattribute__" "BaseException" "__getattribute__" (.ref x) [.str "__class__" s.toks] [] _ (by decide +kernel) (by decide +kernel) sub (PySem.F.args_bexc_ga (.ref x) (.str "__class__" s.toks)) ?_;refine Z2 (Z3 (Z2 (Z3 (Z2 (Looks.here (s:={s with toks:=s.toks+1}) a (Z2 (Looks.here (s:={s with toks:=s.toks+1}) f ?_)))))));show wpAny _ _ (holding [.builtin "object.__class__"] (call (.builtin "getset_descriptor.__get__") [.builtin "object.__class__",.ref x,.ref C])>>= ret) _ _ _;refine Z2 (wpAny_holding (wpAny_call (PySem.W.class_get (s:={s with toks:=s.toks+1}) (ox:=ox) (od:=od) X I c.ob (Z3 ?_))));show wpAny _ _ (handedOut (.ref C)) _ _ _;rw[PySem.W.handedOut_of rfl];exact Z3 (Z3 h)
theorem sj(c:XIs K C):KitX K (.ref x) (.ref C) (λh=>∃ox od,PySem.W.InstAt h x ox C od) where
 ty:=λ_ _ _ ⟨_,_,I⟩=>I.type
 it:=λ_ _ X _=>by
  obtain⟨cdD,hcD,_⟩:=any_some c.hd;unfold clsIn at hcD
  split at hcD
  ·rename_i c' d' cd' sl' ho
   intro A' Q' E' s' k q;unfold isType loadHead;exact Z2 (wpAny_loadPart (k _ _ (X _ _ ho)) (Z3 q))
  ·cases hcD
 ne:=λh tp dd its n sl X htp=>by
  obtain⟨cdD,hcD,_⟩:=any_some c.hd;refine eq_false_iff.mpr λq=>?_
  have e:C=tp:=Value.ref.inj (beq_iff_eq.mp q);subst e;unfold clsIn at hcD
  split at hcD
  ·rename_i c' d' cd' sl' ho
   have z:=(X _ _ ho).symm.trans htp;cases z
  ·cases hcD
 ca:=λX ⟨_,_,I⟩ k=>AE X I c k
end
def Held(H:Hp)(a C:Addr):Prop:=∃d,H a=some (ExH a C d)/\(d=none\/∃b fs,d=some b/\H b=some (.xd fs))
inductive TyX (K:PySem.W.Frag) (H:Hp):V->Value->Prop where
 | non:TyX K H .non (.type "NoneType")
 | ex {a C:Addr} (h:Held H a C) (c:XIs K C):TyX K H (.ref a) (.ref C)
section
variable{X:Cx}{pins:List (Addr×Obj)}{σ:St}{H:Hp}{s:Shared}
theorem TyX.kit(ty:TyX X.K H x t)(I:Inv X pins σ H s)(r:aG x u):∃f:Heap->Prop,KitX X.K u t f/\f s.heap/\u≠ .builtin "__main__.__loader__#opaque":=by
 cases ty with
 | non=>
   cases(show u=Value.none from r);exact⟨_,kitx_none,True.intro,λz=>nomatch z⟩
 | @ex a C h c=>
   cases(show u=Value.ref a from r);obtain⟨d,j,k⟩:=h;obtain⟨⟨o,vs,e,g,b,i⟩,_⟩:=I.hok a _ j;obtain⟨w,l,m,n⟩:=o;dsimp only at g b i;subst g b i;refine⟨_,sj c,?_,λz=>nomatch z⟩;rcases k with rfl|⟨p,fs,rfl,q⟩
   ·exact⟨_,none,e,rfl,rfl,trivial⟩
   ·obtain⟨od,v⟩:=(I.hok p _ q).there;exact⟨_,some od,e,rfl,rfl,v⟩
end
theorem mJ:∀{a:List Addr} {us:List Value},aD (a.map V.ref) us->us=a.map Value.ref
 |[],_,.nil=>rfl
 | _::_,_,.cons r t=>by
   cases r;rw[mJ t];rfl
theorem wz{X:Cx}:cn X (.builtin "isinstance") (λxs H Q=>∃x y t b,xs=[x,y]/\TyX X.K H x t/\
 ((∃n,y= .ty n/\kitOne X.K t (.type n)=some b)\/(∃D,y= .ref D/\kitOne X.K t (.ref D)=some b)\/∃c d,y= .ref c/\H c=some (.tup (List.map V.ref d))/\kitAny X.K t (d.map Value.ref)=some b)/\Q (.bl b) H):=by
 intro pins s B H xs us Q I r h;obtain⟨x,y,t,b,rfl,ty,j,q⟩:=h;obtain⟨u,f,rfl,k,a⟩:=kG r;obtain⟨C,Z,p,nb⟩:=ty.kit I k;rcases j with⟨n,rfl,e⟩|⟨D,rfl,e⟩|⟨c,d,rfl,l,e⟩
 ·cases(show f=Value.type n from a);exact kia_one Z I.kIn p e nb λtk=>⟨.bl b,H,I.tok tk,rfl,q⟩
 ·cases(show f=Value.ref D from a);exact kia_one Z I.kIn p e nb λtk=>⟨.bl b,H,I.tok tk,rfl,q⟩
 ·cases(show f=Value.ref c from a);obtain⟨_,its,m,o,v,g,n,i⟩:=I.hok c _ l;have:=mJ m;subst this;obtain⟨E,w,z,A⟩:=o;dsimp only at g i;subst g i;exact PySem.W.kia_tup Z I.kIn p v e nb λtk=>⟨.bl b,H,I.tok tk,rfl,q⟩
theorem AF{X:Cx}{D:Addr}(b:Gl X x)(c:X.mg x=some (.ref D))(a:(x==("__debug__":Str))=false):PE X (.Name x p) (λd H Q=>Q (.ref D) H):=λpins s d H Q I h=>
 et I b c ⟨.ref D,H,I,rfl,h⟩ a
theorem eB.up{P:Program}{K:PySem.W.Frag}(F:eB P w K mg base CX0 k f a ps sp):eB P w K mg base CX k f a ps sp:=
 ⟨F.len,λA outer s H args us vs Q E b c d g i=>codeAny_mono (F.run A outer s H args us vs Q E b c d g i) λr s' h=>by
  cases r with
  | error e=>exact False.elim h
  | ok j=>cases j<;> exact h⟩
theorem Fun.okX{P:Program}{K:PySem.W.Frag}{st:Stmt}(F:Fun K x b st f g)(S:ar N ps (ah st))(len:∀vs H Q E,sp vs H Q E->vs.length=ps.length)
 (c:∀(a:Value) (A:Around) (outer:List Env) (s:Shared) (H:Hp) (vs:List V) (Q:VK) (E:XK),bN k (A.deeper (envOfC b (ah st) s.heap.objs.size f a))->sp vs H Q E->
  ∃t,PSs (dS (CXO P w) P w K mg base N b (ah st) f a A outer s H E) (bx st) t/\t {nx:=λ_ h=>Q .non h,rt:=Q} (eM N vs) H):eB P w K mg base (CXO P w) (k+1) f g ps sp:=by
 obtain⟨m,od,kV,i,n,o,a,ct,j,rfl,lk,d⟩:=F.ex;exact yW lk d S len λA outer s H vs Q E l e=>c a A outer s H vs Q E l e
noncomputable def aq(mg:Str->Option Value)(x:Str):Addr:=match mg x with
 | some (.ref C)=>C
 | _=>0
theorem dM(h:mg x=some (.ref C)):aq mg x=C:=by unfold aq;rw[h]
structure sq (K:PySem.W.Frag) (mg:Str->Option Value) (x qual:Str) (st:Stmt) (ps:List Str):Prop where
 at_:mg x=some (.ref (aq mg x))
 is:XIs K (aq mg x)
 ini:∃f fd,MkX K (aq mg x) f/\Fun K "__init__" qual st f fd/\dF K fd ps []
structure t7 (P:Program) (w:World) (K:PySem.W.Frag) (mg:Str->Option Value) (base:Heap) (k:Nat) (x:Str) (ps:List Str) (sp:Sp):Prop where
 ex:∃f fd,eB P w K mg base (CXO P w) k f fd ps sp/\mg x=some (.ref f)/\keepIn K (.ref f)=true/\dF K fd ps []
structure ym (P:Program) (w:World) (K:PySem.W.Frag) (mg:Str->Option Value) (base:Heap) (k:Nat) (x:Str) (ps:List Str) (sp:Sp):Prop where
 ex:∃f fd,eB P w K mg base CX0 k f fd ps sp/\MkX K (aq mg x) f/\mg x=some (.ref (aq mg x))/\dF K fd ps []
section
variable{P:Program}{w:World}{K:PySem.W.Frag}{mg:Str->Option Value}{base:Heap}{x qual:Str}{st:Stmt}{N ps:List Str}{k:Nat}{sp:Sp}
theorem aW.calX(D:aW K mg x st ps)(S:ar N ps (ah st))(len:∀vs H Q E,sp vs H Q E->vs.length=ps.length)
 (a:∀(f:Addr) (b:Value) (A:Around) (outer:List Env) (s:Shared) (H:Hp) (vs:List V) (Q:VK) (E:XK),bN k (A.deeper (envOfC x (ah st) s.heap.objs.size f b))->sp vs H Q E->
  ∃t,PSs (dS (CXO P w) P w K mg base N x (ah st) f b A outer s H E) (bx st) t/\t {nx:=λ_ c=>Q .non c,rt:=Q} (eM N vs) H):t7 P w K mg base (k+1) x ps sp:=by
 obtain⟨f,d,F,e,g⟩:=D.ex;exact⟨f,d,F.okX S len (a f),e,F.kp,g⟩
theorem Cal.up(C:Cal P w K mg base k x ps sp):t7 P w K mg base k x ps sp:=by
 obtain⟨f,a,F,r⟩:=C.ex;exact⟨f,a,F.up,r⟩
theorem sq.cal(D:sq K mg x qual st ps)(S:ar N ps (ah st))(len:∀vs H Q E,sp vs H Q E->vs.length=ps.length)
 (b:∀(f:Addr) (a:Value) (A:Around) (outer:List Env) (s:Shared) (H:Hp) (vs:List V) (Q:VK) (E:XK),exK K (aq mg x) f=true->bN k (A.deeper (envOfC qual (ah st) s.heap.objs.size f a))->sp vs H Q E->
  ∃t,PSs (dS CX0 P w K mg base N qual (ah st) f a A outer s H E).nox (bx st) t/\t {nx:=λ_ c=>Q .non c,rt:=Q} (eM N vs) H):ym P w K mg base (k+1) x ps sp:=by
 obtain⟨f,d,M,F,e⟩:=D.ini;exact⟨f,d,F.ok S len λa A outer s H vs Q E=>b f a A outer s H vs Q E M.ex,M,D.at_,e⟩
end
section
variable{X:Cx}{K:PySem.W.Frag}{pos:Pos}
theorem sr(g:eC (CXO X.prog X.w) X E)(C:t7 X.prog X.w X.K X.mg X.base j x ps sp)(h:bN k X.A)(i:Gl X x)(a:Nat.ble j k=true)
 (b:(x==("__debug__":Str))=false) (c:(e::d).any aY=false) (l:QA X (e::d) t):QE X (.Call (.Name x p) (e::d) [] pos) (l9 sp [] E t):=by
 rw[Zv,Yk]at c;obtain⟨f,q,F,m,n,o⟩:=C.ex;exact⟨rJ F (h.mono (Nat.le_of_ble_eq_true a)) i m n o .nil g l.h b (ay c.1) (dH c.2)⟩
theorem fe(C:ym X.prog X.w X.K X.mg X.base j x ps sp)(g:bN k X.A)(h:Gl X x)(a:Nat.ble (j+1) k=true)
 (b:(x==("__debug__":Str))=false) (c:(e::d).any aY=false) (i:QA X (e::d) t):QE X (.Call (.Name x p) (e::d) [] pos) (nU (aq X.mg x) sp t):=by
 rw[Zv,Yk]at c;obtain⟨f,n,F,M,l,m⟩:=C.ex;exact⟨wv M F (g.mono (Nat.le_of_ble_eq_true a)) h l m i.h b (ay c.1) (dH c.2)⟩
theorem pF(b:Gl X x)(c:X.mg x=some (.ref (aq X.mg x)))(a:(x==("__debug__":Str))=false):QE X (.Name x p) (tC (.ref (aq X.mg x))):=⟨AF b c a⟩
theorem wA(a:QE X e b):QE X (.FormattedValue e (-1) none pos) (AB b):=⟨AC a.h⟩
theorem sw:PJ X [] []:= .nil
theorem pjE(a:QE X e t)(h:PJ X b ts):PJ X (e::b) (t::ts):= .cons a.h h
theorem sA{rest:List Expr}(h:PJ X (v1::a::rest) ts):QE X (.JoinedStr (v1::a::rest) pos) (ld ts Str.empty):=⟨yj h⟩
theorem za(c:pE X.K C f)(a:gF e=false)(b:QE X e d):QE X (.Attribute e f pos) (wy C d f):=⟨yl c b.h (fW a)⟩
theorem Bx(c:nT X.K C f)(b:dg e=false)(d:QE X o g)(h:QE X e i):QS X (.Assign [.Attribute o f a] e pos) (y9 X.K C g i f):=⟨yi c d.h h.h (dU b)⟩
theorem wB(h:X.K=K):cN X (.builtin "isinstance") (λxs H Q=>∃x y t b,xs=[x,y]/\TyX K H x t/\
 ((∃n,y= .ty n/\kitOne K t (.type n)=some b)\/(∃D,y= .ref D/\kitOne K t (.ref D)=some b)\/∃a c,y= .ref a/\H a=some (.tup (List.map V.ref c))/\kitAny K t (c.map Value.ref)=some b)/\Q (.bl b) H):=by
 subst h;exact⟨wz⟩
end
theorem gi{P:Program}{K:PySem.W.Frag}
 (g:exK K C f=true) (h:QE (dS (CXO P w) P w K mg base N c b i j A outer s₀ H₀ E) e k):
 QS (dS (CXO P w) P w K mg base N c b i j A outer s₀ H₀ E) (.Raise (some e) none pos) (lg C k λa H=>∃d,H a=some (ExO a C (some d))/\H₀ a=none/\E (.ref C) (some d) (drop H a)):=⟨tZ g h.h⟩
theorem wC{X:Cx}{C D f:Addr}(k:exK X.K C f=true)(l:Gl X x)(m:X.mg x=some (.ref D))(B:wo X.K D)(g:(x==("__debug__":Str))=false)(h:(e::c).any aY=false)
 (i:∃pl:Sem Bool,eval (.Call (.Attribute (.Name x p) "__init__" b) (e::c) [] pos) X.env=(do
  let j<-eval (.Name x p) X.env
  standAt b.atName
  let(f,first)<-holding [j] (getMethod j "__init__" pl)
  callWith pos f first (backTo pos (starEach (e::c) X.env)) (backToKw pos (keywordEach [] X.env)))) (n:QA X (e::c) t):
 QE X (.Call (.Attribute (.Name x p) "__init__" b) (e::c) [] pos) (tCB (λxs H Q=>∃a d ys,xs=V.ref a::ys/\ys.length<=9/\H a=some (ExO a C d)/\Q .non H) t):=by
 rw[Zv,Yk]at h;obtain⟨pl,i⟩:=i;exact⟨wq (pl:=pl) l m B (qO k) n.h g (ay h.1) (dH h.2) i⟩
theorem tryS{X:Cx}{D:Addr}(E:XK)(f:X.stack=X.env::X.outer)(l:X.env.frame=some X.env.locals)(m:X.N.Nodup)(hi:X.N[i]? =some n)
 (o:X.env.kindOf n=some .local) (q:X.env.scope.names.lookup n=some .local) (r:Gl X x) (s:X.mg x=some (.ref D)) (c:Cat X.K D) (j:(x==("__debug__":Str))=false) (d:∀pn,QSs (X.tryX pn E) g t) (b:∀a,QSs (X.suiteX a) (h::e) ts):
 QS X (.Try g [.ExceptHandler (some (.Name x p)) (some n) (h::e) k] [] [] pos) (Bw X.K D E X.N.length i t ts):=
 ⟨AD f l m hi o q r s c (λpn=>(d pn).h) (λa=>(b a).h) j⟩
section
variable{prog:Program}{w:World}{A:Around}{E:Value->Shared->Prop}{s:Shared}
end
section
variable{prog:Program}{w:World}{A:Around}{E:Value->Shared->Prop}{s:Shared}
end
section
variable{prog:Program}{w:World}{A:Around}{E:Value->Shared->Prop}{s:Shared}
end
section
variable{prog:Program}{w:World}{A:Around}{E:Value->Shared->Prop}{s:Shared}
end
def wD(C:Addr)(c:TE)(f:Str):TE:=λe H Q=>c e H λx b=>∃a d fs v,x= .ref a/\b a=some (ExO a C (some d))/\b d=some (.xd fs)/\fs.lookup f=some v/\Q v b
theorem yn{X:Cx}(c:pE X.K C f)(n:PE X e p)(t:attributeBase e f X.env (eval e X.env)=eval e X.env):PE X (.Attribute e f pos) (wD C p f):=by
 intro pins s w H Q I h;refine rH t (thn (n pins s w H _ I h) λu y ⟨x,z,b,A,a,d,fs,v,ex,B,D,l,q⟩=>?_);subst ex;obtain rfl:u=Value.ref a:=A;obtain⟨⟨o,vs,E,i,j,k,_,_⟩,_⟩:=b.hok a _ B;obtain⟨G,L,r⟩:=b.hok d _ D;obtain⟨Y,M,m⟩:=gY.some_of (v:=v) (o:=G f) (by rw[<-l];exact r f);obtain⟨od,N,O⟩:=jf L;obtain⟨oc,T,U,g⟩:=o;dsimp only at i j k;subst i j k;have J:PySem.W.InstAt y.heap a ⟨.ref C,some d,.fields vs,g⟩ C (some od):=⟨E,rfl,rfl,N⟩
 exact wx b.kIn J c (findObj_own c.hd c.no rfl (by rw[O,M])) (l7 m) ⟨v,z,b.tok _,m,q⟩
theorem wE{X:Cx}:cn X (.builtin "isinstance") (λxs H Q=>∃a C d D b,xs=[.ref a,.ref D]/\H a=some (ExO a C (some d))/\(∃fs,H d=some (.xd fs))/\XIs X.K C/\kitOne X.K (.ref C) (.ref D)=some b/\Q (.bl b) H):=by
 intro pins s y H xs us Q I r h;obtain⟨a,C,d,D,b,rfl,l,⟨fs,m⟩,c,e,q⟩:=h;obtain⟨u,n,rfl,p,g⟩:=kG r;cases(show u=Value.ref a from p);cases(show n=Value.ref D from g);obtain⟨⟨o,vs,t,j,f,k,_,_⟩,_⟩:=I.hok a _ l;obtain⟨A,v,w,x⟩:=o;dsimp only at j f k;subst j f k;obtain⟨od,i⟩:=(I.hok d _ m).there;exact kia_one (sj c) I.kIn ⟨_,some od,t,rfl,rfl,i⟩ e (λz=>nomatch z) λtk=>⟨.bl b,H,I.tok tk,rfl,q⟩
section
variable{X:Cx}{K:PySem.W.Frag}{pos:Pos}
theorem zb(c:pE X.K C f)(a:gF e=false)(b:QE X e d):QE X (.Attribute e f pos) (wD C d f):=⟨yn c b.h (fW a)⟩
theorem By(h:X.K=K):cN X (.builtin "isinstance") (λxs H Q=>∃a C d D b,xs=[.ref a,.ref D]/\H a=some (ExO a C (some d))/\(∃fs,H d=some (.xd fs))/\XIs K C/\kitOne K (.ref C) (.ref D)=some b/\Q (.bl b) H):=by
 subst h;exact⟨wE⟩
end
end L2
namespace SBig
open PySem PyProof.Rows
section
variable(prog:Program)(w:World)(A:Around)(SI:Shared->Prop)
def SC{a:Type}(m:StateT SortSt Sem a)(Q:a->SortSt->Prop)(st:SortSt):Prop:=
 ∀s,SI s->wpAny (model prog w) A (m.run st) (λr s'=>SI s'/\Q r.1 r.2) (λ_ _=>False) s
def Cmp(a:SortKind)(D:Keyed->Prop)(N:Keyed->Nat):Prop:=
 ∀x y s,D x->D y->SI s->wpAny (model prog w) A (keyLt' a x.1 y.1) (λb s'=>b=decide (N x<N y)/\SI s') (λ_ _=>False) s
end
section
variable{prog:Program}{w:World}{A:Around}{SI:Shared->Prop}{α β:Type}
theorem az{st:SortSt}(h:Q a st):(SC prog w A SI) (pure a) Q st:=λs b=>by
 rw[StateT.run_pure];exact Z3 ⟨b,h⟩
theorem aw{st:SortSt}(h:(SC prog w A SI) m (λa b=>(SC prog w A SI) (f a) Q b) st):(SC prog w A SI) (m>>= f) Q st:=λs c=>by
 rw[StateT.run_bind];exact Z2 (wpAny_mono (h s c) (λr s' h'=>h'.2 s' h'.1) λ_ _ e=>e)
theorem cK{st:SortSt}(h:(SC prog w A SI) m Q st)(c:∀a b,Q a b->d a b):(SC prog w A SI) m d st:=λs f=>
 wpAny_mono (h s f) (λr s' h'=>⟨h'.1,c _ _ h'.2⟩) λ_ _ e=>e
theorem jp{st:SortSt}(h:Q st st):(SC prog w A SI) get Q st:=λs a=>by
 rw[StateT.run_get];exact Z3 ⟨a,h⟩
theorem gH{st:SortSt}(h:Q ⟨⟩ (f st)):(SC prog w A SI) (modify f) Q st:=λs a=>by
 rw[StateT.run_modify];exact Z3 ⟨a,h⟩
theorem sB{st:SortSt}(h:∀s,SI s->wpAny (model prog w) A m (λa s'=>SI s'/\Q a st) (λ_ _=>False) s):(SC prog w A SI) (liftM m:StateT SortSt Sem α) Q st:=λs b=>by
 show wpAny _ _ ((StateT.lift m:StateT SortSt Sem α).run st) _ _ s;rw[StateT.run_lift];exact Z2 (wpAny_mono (h s b) (λa s' h'=>Z3 h') λ_ _ e=>e)
theorem nV{st:SortSt}(h:Q () st):(SC prog w A SI) (liftM (rule t):StateT SortSt Sem Unit) Q st:=sB λs a=>wpAny_rule ⟨a,h⟩
theorem cA{st:SortSt}(I:Nat->β->SortSt->Prop)(j:a<=b)(k:I a c st)
 (l:∀i x st,a<=i->i<b->I i x st->(SC prog w A SI) (f i x) (λr g=>match r with| .done y=>Q y g| .yield y=>I (i+1) y g) st) (m:∀x st,I b x st->Q x st):(SC prog w A SI) (forIn [a:b] c f) Q st:=by
 rw[Std.Legacy.Range.forIn_eq_forIn_range'];have hsz:([a:b]:Std.Legacy.Range).size=b-a:=by simp[Std.Legacy.Range.size]
 show(SC prog w A SI) (forIn (List.range' a ([a:b]:Std.Legacy.Range).size 1) c f) Q st;rw[hsz];have n:∀(d i:Nat) (x:β) (st:SortSt),i+d=b->a<=i->I i x st->(SC prog w A SI) (forIn (List.range' i d 1) x f) Q st:=by
  intro d
  induction d with
  | zero=>
    intro i x st e _ h;have e:i=b:=by lia
    subst e;rw[List.range'_zero,forIn_nil];exact az (m x st h)
  | succ d o=>
    intro i x st e p h;rw[List.range'_succ,forIn_cons];refine aw (cK (l i x st p (by lia) h) λr g h'=>?_);cases r with
    | done y=>exact az h'
    | yield y=>exact o (i+1) y g (by lia) (by lia) h'
 exact n (b-a) a c st (by lia) (Zh _) k
theorem sC{st:SortSt}(a:xs[i]? =some x)(h:Q x st):(SC prog w A SI) (elem' xs i) Q st:=by
 rw[elem'_eq,a];exact az h
theorem Bz{st:SortSt}(c:Cmp prog w A SI (kindOf st) D N)(d:D x)(f:D y)(h:Q (some (decide (N x<N y))) st):(SC prog w A SI) (lt' x y) Q st:=by
 rw[lt'_eq];refine aw (jp ?_);refine aw (sB (λs g=>wpAny_attempt (wpAny_mono (c x y s d f g) (λb s' ⟨i,a⟩=>?_) λ_ _ e=>e.elim)));subst i;exact⟨a,az h⟩
theorem yo{st:SortSt}(c:Cmp prog w A SI (kindOf st) D N)(hi:(arrOf st)[i]? =some x)(a:(arrOf st)[j]? =some y)(b:D x)(d:D y)
 (h:Q (some (decide (N x<N y))) st):(SC prog w A SI) (ltAt' i j) Q st:=by
 rw[ltAt'_eq];refine aw (jp ?_);exact aw (sC hi (aw (sC a (Bz c b d h))))
end
end SBig
namespace SBig
open PySem PyProof.Rows
section
variable{prog:Program}{w:World}{A:Around}{SI:Shared->Prop}{α β:Type}
noncomputable def ahead(N:Keyed->Nat)(left:Bool)(a x:Keyed):Bool:=if left then decide (N x<N a)else !decide (N a<N x)
end
end SBig
namespace SBig
open PySem PyProof.Rows
def Srt(N:Keyed->Nat)(l:List Keyed):Prop:=l.Pairwise λx y=>N x<=N y
end SBig
namespace SBig
open PySem PyProof.Rows
section
variable{prog:Program}{w:World}{A:Around}{SI:Shared->Prop}{α β:Type}
theorem sD{a:Array Keyed}{i:Nat}(h:i<a.size):a[i]? =some a[i]/\a.toList[i]? =some a[i]:=⟨by simp[h],by simp[h]⟩
end
end SBig
namespace SBig
open PySem PyProof.Rows
section
variable{prog:Program}{w:World}{A:Around}{SI:Shared->Prop}{α β:Type}
end
end SBig
namespace SBig
open PySem PyProof.Rows
section
variable{prog:Program}{w:World}{A:Around}{SI:Shared->Prop}{α β:Type}
end
end SBig
namespace SBig
open PySem PyProof.Rows
noncomputable def ky(N:Keyed->Nat)(a:Array Keyed)(i:Nat):Nat:=N (a.getD i (Value.none,Value.none))
theorem wF(h:a[i]? =some x):ky N a i=N x:=by
 unfold ky;rw[Array.getD_eq_getD_getElem?,h];rfl
theorem pG(h:a[i]? =b[j]?):ky N a i=ky N b j:=by
 unfold ky;rw[Array.getD_eq_getD_getElem?,Array.getD_eq_getD_getElem?,h]
structure CR (st0 st:SortSt) (lo:Nat):Prop where
 kind:kindOf st=kindOf st0
 pend:pendingOf st=pendingOf st0
 fail:failedOf st=failedOf st0
 perm:(arrOf st).Perm (arrOf st0)
 same:∀i,i<lo->(arrOf st)[i]? =(arrOf st0)[i]?
theorem CR.refl(st:SortSt)(lo:Nat):CR st st lo:=⟨rfl,rfl,rfl,Array.Perm.refl _,λ_ _=>rfl⟩
theorem CR.size{a st:SortSt}{lo:Nat}(h:CR a st lo):(arrOf st).size=(arrOf a).size:=h.perm.size_eq
theorem CR.rev{a st:SortSt}{lo i j:Nat}(h:CR a st lo)(hi:lo<=i)(b:j<=(arrOf st).size):CR a (setArr st (mirror (arrOf st) i j ((j-i)/2))) lo:=
 ⟨h.kind,h.pend,h.fail,(mirror_perm _ _ _ _).trans h.perm,λk c=>by
  show(mirror (arrOf st) i j ((j-i)/2))[k]? =_;rw[getElem?_mirror_all b,if_neg (by lia)];exact h.same k c⟩
theorem qP(b:j<=a.size)(k:Nat):ky N (mirror a i j ((j-i)/2)) k=if i<=k/\k<j then ky N a (i+j-1-k)else ky N a k:=by
 split
 ·rename_i h
  exact pG (by rw[getElem?_mirror_all b,if_pos h])
 ·rename_i h
  exact pG (by rw[getElem?_mirror_all b,if_neg h])
def Up(N:Keyed->Nat)(a:Array Keyed)(lo n:Nat):Prop:=∀i j,i<=j->j<n->ky N a (lo+i)<=ky N a (lo+j)
def Dn(N:Keyed->Nat)(a:Array Keyed)(lo n:Nat):Prop:=∀i j,i<=j->j<n->ky N a (lo+j)<=ky N a (lo+i)
theorem Up.one(N:Keyed->Nat)(a:Array Keyed)(lo:Nat):Up N a lo 1:=λi j b c=>by
 rw[show i=j by lia];exact Zh _
theorem Up.step{lo n:Nat}(h:Up N a lo n)(d:1<=n)(f: ¬ ky N a (lo+n)<ky N a (lo+n-1)):Up N a lo (n+1):=λi j b g=>by
 by_cases e:j=n
 ·subst e;by_cases c:i=j
  ·rw[c];exact Zh _
  ·have:=h i (j-1) (by lia) (by lia);rw[show lo+(j-1)=lo+j-1 by lia]at this
   lia
 ·exact h i j b (by lia)
theorem Dn.step{lo n:Nat}(h:Dn N a lo n)(d:1<=n)(f:ky N a (lo+n)<=ky N a (lo+n-1)):Dn N a lo (n+1):=λi j b g=>by
 by_cases e:j=n
 ·subst e;by_cases c:i=j
  ·rw[c];exact Zh _
  ·have:=h i (j-1) (by lia) (by lia);rw[show lo+(j-1)=lo+j-1 by lia]at this
   lia
 ·exact h i j b (by lia)
theorem Dn.rev{lo n:Nat}(h:Dn N a lo n)(b:lo+n<=a.size):Up N (mirror a lo (lo+n) ((lo+n-lo)/2)) lo n:=λi j c d=>by
 rw[qP b,qP b,if_pos (by lia),if_pos (by lia)];have:=h (n-1-j) (n-1-i) (by lia) (by lia);rw[show lo+(lo+n) -1-(lo+i)=lo+(n-1-i) by lia,show lo+(lo+n) -1-(lo+j)=lo+(n-1-j) by lia];exact this
theorem Dn.same{lo n i j:Nat}(h:Dn N a lo n)(d:j<=a.size)(f:∀k b,i<=k->k<j->i<=b->b<j->ky N a k=ky N a b):Dn N (mirror a i j ((j-i)/2)) lo n:=by
 have e:∀k,ky N (mirror a i j ((j-i)/2)) k=ky N a k:=λk=>by
  rw[qP d]
  split
  ·exact f _ _ (by lia) (by lia) (by lia) (by lia)
  ·rfl
 intro p q c g;rw[e,e];exact h p q c g
section
variable{prog:Program}{w:World}{A:Around}{SI:Shared->Prop}{α β:Type}
theorem dX{i j lo:Nat}{a st:SortSt}(c:Cmp prog w A SI (kindOf a) D N)(d:∀x∈(arrOf a).toList,D x)(r:CR a st lo)(hi:i<(arrOf a).size)(l:j<(arrOf a).size)
 (h:Q (some (decide (ky N (arrOf st) i<ky N (arrOf st) j))) st):(SC prog w A SI) (ltAt' i j) Q st:=by
 have f:∀x∈(arrOf st).toList,D x:=λx m=>d x ((Array.perm_iff_toList_perm.mp r.perm).mem_iff.mp m)
 have b:i<(arrOf st).size:=by rw[r.size];exact hi
 have e:j<(arrOf st).size:=by rw[r.size];exact l
 obtain⟨g,n⟩:=sD b;obtain⟨k,o⟩:=sD e;refine yo (by rw[r.kind];exact c) g k (f _ (by simp)) (f _ (by simp)) ?_;rw[wF g,wF k]at h;exact h
theorem fg{st:SortSt}(h:Q () (setArr st (mirror (arrOf st) i j ((j-i)/2)))):(SC prog w A SI) (reverseSlice' i j) Q st:=by
 rw[reverseSlice'_eq];exact gH h
theorem pH{lo nrem:Nat}{st:SortSt}(c:Cmp prog w A SI (kindOf st) D N)(d:∀x∈(arrOf st).toList,D x)(T:1<=nrem)(U:lo+nrem<=(arrOf st).size)
 (h:∀n a,CR st a lo->1<=n->n<=nrem->Up N (arrOf a) lo n->Q (some n) a):(SC prog w A SI) (countRun' lo nrem) Q st:=by
 rw[countRun'_eq];refine aw (cK (cA (Q:=λx a=>a=st/\∃n,x=(none,n)/\1<=n/\n<=nrem/\Up N (arrOf st) lo n/\(n=nrem\/ky N (arrOf st) (lo+n)<ky N (arrOf st) (lo+n-1)))
  (λj x a=>a=st/\x=(none,j)/\Up N (arrOf st) lo j) T ⟨rfl,rfl,Up.one _ _ _⟩ ?_ ?_) ?_)
 ·rintro j x a v H ⟨rfl,rfl,up⟩;dsimp only;refine aw (dX c d (CR.refl _ lo) (by lia) (by lia) ?_);dsimp only;by_cases q:ky N (arrOf a) (lo+j)<ky N (arrOf a) (lo+j-1)
  ·rw[Ze q,if_pos rfl];exact az ⟨rfl,j,rfl,v,by lia,up,.inr q⟩
  ·rw[Zg q,if_neg (by simp)];exact az ⟨rfl,rfl,up.step v q⟩
 ·rintro x a ⟨rfl,rfl,up⟩;exact⟨rfl,nrem,rfl,T,Zh _,up,.inl rfl⟩
 ·rintro x f ⟨e1,n,rfl,n1,n2,up,hq⟩;subst e1;dsimp only;by_cases q1:n=nrem
  ·rw[if_pos (by simp[q1])];exact az (h n f (CR.refl _ _) n1 n2 up)
  rw[if_neg (by simp[q1])];have hq:ky N (arrOf f) (lo+n)<ky N (arrOf f) (lo+n-1):=hq.resolve_left q1;have n3:n<nrem:=by lia
  by_cases q2:n>1
  ·rw[if_pos q2];refine aw (dX c d (CR.refl _ lo) (by lia) (by lia) ?_);dsimp only;by_cases q3:ky N (arrOf f) lo<ky N (arrOf f) (lo+n-1)
   ·rw[Ze q3,if_pos rfl];exact az (h n f (CR.refl _ _) n1 n2 up)
   ·rw[Zg q3,if_neg (by simp)];refine aw (fg ?_);have r2:=(CR.refl f lo).rev (i:=lo) (j:=lo+n) (Zh _) (by lia);have all:∀i,i<n->ky N (arrOf f) (lo+i)=ky N (arrOf f) lo:=λi hi=>by
     have C:=up 0 i (Yn _) hi;have E:=up i (n-1) (by lia) (by lia);rw[show lo+(n-1)=lo+n-1 by lia]at E;rw[add_zero]at C
     lia
    have ab:Dn N (arrOf f) lo n:=λi j ac H=>by rw[all i (by lia),all j H];exact Zh _
    have al:Dn N (arrOf f) lo (n+1):=ab.step n1 (by lia);have J:=al.same (i:=lo) (j:=lo+n) (by lia) (λk p C E I G=>by
     have b1:=all (k-lo) (by lia);have b2:=all (p-lo) (by lia);rw[show lo+(k-lo)=k by lia]at b1;rw[show lo+(p-lo)=p by lia]at b2;rw[b1,b2])
    refine aw (nV ?_);refine aw (cK (cA (Q:=λx a=>CR f a lo/\∃m q,x=(none,m,q)/\q+1<=m/\m<=nrem/\Dn N (arrOf a) lo m/\(∀k p,lo+m-(q+1)<=k->k<lo+m->lo+m-(q+1)<=p->p<lo+m->ky N (arrOf a) k=ky N (arrOf a) p))
     (λj x a=>CR f a lo/\∃q,x=(none,j,q)/\q+1<=j/\Dn N (arrOf a) lo j/\(∀k p,lo+j-(q+1)<=k->k<lo+j->lo+j-(q+1)<=p->p<lo+j->ky N (arrOf a) k=ky N (arrOf a) p)) (by lia) ⟨r2,0,rfl,by lia,J,λk p C E I G=>by rw[show k=p by lia]⟩ ?_ ?_) ?_)
    ·rintro j x g v H ⟨r,q,rfl,y,o,s⟩;dsimp only;refine aw (dX c d r (by lia) (by lia) ?_);dsimp only;by_cases U:ky N (arrOf g) (lo+j)<ky N (arrOf g) (lo+j-1)
     ·rw[Ze U,if_pos rfl];by_cases u:q>0
      ·rw[if_pos u];refine aw (fg (az ⟨r.rev (by lia) (by rw[r.size];lia),0,rfl,by lia,?_,λk p C E I G=>by rw[show k=p by lia]⟩));have z:Dn N (arrOf g) lo (j+1):=o.step (by lia) (by lia);exact z.same (by rw[r.size];lia) s
      ·rw[if_neg u];exact az ⟨r,0,rfl,by lia,o.step (by lia) (by lia),λk p C E I G=>by rw[show k=p by lia]⟩
     ·rw[Zg U,if_neg (by simp)];refine aw (dX c d r (by lia) (by lia) ?_);dsimp only;by_cases Y:ky N (arrOf g) (lo+j-1)<ky N (arrOf g) (lo+j)
      ·rw[Ze Y,if_pos rfl];exact az ⟨r,j,q,rfl,y,by lia,o,s⟩
      ·rw[Zg Y,if_neg (by simp)];have ee:ky N (arrOf g) (lo+j)=ky N (arrOf g) (lo+j-1):=by lia
       have all:∀k,lo+j-(q+1)<=k->k<lo+(j+1)->ky N (arrOf g) k=ky N (arrOf g) (lo+j-1):=λk C E=>by
        by_cases e:k=lo+j
        ·rw[e];exact ee
        ·exact s _ _ C (by lia) (by lia) (by lia)
       exact az ⟨r,q+1,rfl,by lia,o.step (by lia) (by lia),λk p C E I G=>(all k (by lia) E).trans (all p (by lia) G).symm⟩
    ·rintro x g ⟨r,q,rfl,y,o,s⟩;exact⟨r,nrem,q,rfl,y,Zh _,o,s⟩
    ·rintro x g ⟨r,m,q,rfl,an,hm,o,s⟩;dsimp only;by_cases u:q>0
     ·rw[if_pos u];refine aw (fg ?_);have L:=r.rev (i:=lo+m-(q+1)) (j:=lo+m) (by lia) (by rw[r.size];lia);have z:=o.same (i:=lo+m-(q+1)) (j:=lo+m) (by rw[r.size];lia) s;refine aw (fg ?_);have M:=(L).rev (i:=lo) (j:=lo+m) (Zh _) (by rw[(L).size];lia);have B:=(z).rev (by rw[(L).size];lia);refine aw (cK (cA (Q:=λx a=>CR f a lo/\∃n,x=(none,n)/\1<=n/\n<=nrem/\Up N (arrOf a) lo n)
       (λj x a=>CR f a lo/\x=(none,j)/\Up N (arrOf a) lo j) (by lia) ⟨M,rfl,B⟩ ?_ ?_) ?_)
      ·rintro j x l v H ⟨t,rfl,b⟩;dsimp only;refine aw (dX c d t (by lia) (by lia) ?_);dsimp only;by_cases q:ky N (arrOf l) (lo+j)<ky N (arrOf l) (lo+j-1)
       ·rw[Ze q,if_pos rfl];exact az ⟨t,j,rfl,by lia,by lia,b⟩
       ·rw[Zg q,if_neg (by simp)];exact az ⟨t,rfl,b.step (by lia) q⟩
      ·rintro x l ⟨t,rfl,b⟩;exact⟨t,nrem,rfl,T,Zh _,b⟩
      ·rintro x l ⟨t,m,rfl,O,m2,b⟩;exact az (h m l t O m2 b)
     ·rw[if_neg u];refine aw (fg ?_);have M:=(r).rev (i:=lo) (j:=lo+m) (Zh _) (by rw[(r).size];lia);have B:=(o).rev (by rw[(r).size];lia);refine aw (cK (cA (Q:=λx a=>CR f a lo/\∃n,x=(none,n)/\1<=n/\n<=nrem/\Up N (arrOf a) lo n)
       (λj x a=>CR f a lo/\x=(none,j)/\Up N (arrOf a) lo j) (by lia) ⟨M,rfl,B⟩ ?_ ?_) ?_)
      ·rintro j x l v H ⟨t,rfl,b⟩;dsimp only;refine aw (dX c d t (by lia) (by lia) ?_);dsimp only;by_cases q:ky N (arrOf l) (lo+j)<ky N (arrOf l) (lo+j-1)
       ·rw[Ze q,if_pos rfl];exact az ⟨t,j,rfl,by lia,by lia,b⟩
       ·rw[Zg q,if_neg (by simp)];exact az ⟨t,rfl,b.step (by lia) q⟩
      ·rintro x l ⟨t,rfl,b⟩;exact⟨t,nrem,rfl,T,Zh _,b⟩
      ·rintro x l ⟨t,m,rfl,O,m2,b⟩;exact az (h m l t O m2 b)
  ·rw[if_neg q2];have e1:n=1:=by lia
   have r2:=CR.refl f lo;have J:Dn N (arrOf f) lo (n+1):=by
    refine Dn.step (λi j ac H=>?_) n1 (by lia);rw[show i=j by lia];exact Zh _
   refine aw (nV ?_);refine aw (cK (cA (Q:=λx a=>CR f a lo/\∃m q,x=(none,m,q)/\q+1<=m/\m<=nrem/\Dn N (arrOf a) lo m/\(∀k p,lo+m-(q+1)<=k->k<lo+m->lo+m-(q+1)<=p->p<lo+m->ky N (arrOf a) k=ky N (arrOf a) p))
    (λj x a=>CR f a lo/\∃q,x=(none,j,q)/\q+1<=j/\Dn N (arrOf a) lo j/\(∀k p,lo+j-(q+1)<=k->k<lo+j->lo+j-(q+1)<=p->p<lo+j->ky N (arrOf a) k=ky N (arrOf a) p)) (by lia) ⟨r2,0,rfl,by lia,J,λk p C E I G=>by rw[show k=p by lia]⟩ ?_ ?_) ?_)
   ·rintro j x g v H ⟨r,q,rfl,y,o,s⟩;dsimp only;refine aw (dX c d r (by lia) (by lia) ?_);dsimp only;by_cases U:ky N (arrOf g) (lo+j)<ky N (arrOf g) (lo+j-1)
    ·rw[Ze U,if_pos rfl];by_cases u:q>0
     ·rw[if_pos u];refine aw (fg (az ⟨r.rev (by lia) (by rw[r.size];lia),0,rfl,by lia,?_,λk p C E I G=>by rw[show k=p by lia]⟩));have z:Dn N (arrOf g) lo (j+1):=o.step (by lia) (by lia);exact z.same (by rw[r.size];lia) s
     ·rw[if_neg u];exact az ⟨r,0,rfl,by lia,o.step (by lia) (by lia),λk p C E I G=>by rw[show k=p by lia]⟩
    ·rw[Zg U,if_neg (by simp)];refine aw (dX c d r (by lia) (by lia) ?_);dsimp only;by_cases Y:ky N (arrOf g) (lo+j-1)<ky N (arrOf g) (lo+j)
     ·rw[Ze Y,if_pos rfl];exact az ⟨r,j,q,rfl,y,by lia,o,s⟩
     ·rw[Zg Y,if_neg (by simp)];have ee:ky N (arrOf g) (lo+j)=ky N (arrOf g) (lo+j-1):=by lia
      have all:∀k,lo+j-(q+1)<=k->k<lo+(j+1)->ky N (arrOf g) k=ky N (arrOf g) (lo+j-1):=λk C E=>by
       by_cases e:k=lo+j
       ·rw[e];exact ee
       ·exact s _ _ C (by lia) (by lia) (by lia)
      exact az ⟨r,q+1,rfl,by lia,o.step (by lia) (by lia),λk p C E I G=>(all k (by lia) E).trans (all p (by lia) G).symm⟩
   ·rintro x g ⟨r,q,rfl,y,o,s⟩;exact⟨r,nrem,q,rfl,y,Zh _,o,s⟩
   ·rintro x g ⟨r,m,q,rfl,an,hm,o,s⟩;dsimp only;by_cases u:q>0
    ·rw[if_pos u];refine aw (fg ?_);have L:=r.rev (i:=lo+m-(q+1)) (j:=lo+m) (by lia) (by rw[r.size];lia);have z:=o.same (i:=lo+m-(q+1)) (j:=lo+m) (by rw[r.size];lia) s;refine aw (fg ?_);have M:=(L).rev (i:=lo) (j:=lo+m) (Zh _) (by rw[(L).size];lia);have B:=(z).rev (by rw[(L).size];lia);refine aw (cK (cA (Q:=λx a=>CR f a lo/\∃n,x=(none,n)/\1<=n/\n<=nrem/\Up N (arrOf a) lo n)
      (λj x a=>CR f a lo/\x=(none,j)/\Up N (arrOf a) lo j) (by lia) ⟨M,rfl,B⟩ ?_ ?_) ?_)
     ·rintro j x l v H ⟨t,rfl,b⟩;dsimp only;refine aw (dX c d t (by lia) (by lia) ?_);dsimp only;by_cases q:ky N (arrOf l) (lo+j)<ky N (arrOf l) (lo+j-1)
      ·rw[Ze q,if_pos rfl];exact az ⟨t,j,rfl,by lia,by lia,b⟩
      ·rw[Zg q,if_neg (by simp)];exact az ⟨t,rfl,b.step (by lia) q⟩
     ·rintro x l ⟨t,rfl,b⟩;exact⟨t,nrem,rfl,T,Zh _,b⟩
     ·rintro x l ⟨t,m,rfl,O,m2,b⟩;exact az (h m l t O m2 b)
    ·rw[if_neg u];refine aw (fg ?_);have M:=(r).rev (i:=lo) (j:=lo+m) (Zh _) (by rw[(r).size];lia);have B:=(o).rev (by rw[(r).size];lia);refine aw (cK (cA (Q:=λx a=>CR f a lo/\∃n,x=(none,n)/\1<=n/\n<=nrem/\Up N (arrOf a) lo n)
      (λj x a=>CR f a lo/\x=(none,j)/\Up N (arrOf a) lo j) (by lia) ⟨M,rfl,B⟩ ?_ ?_) ?_)
     ·rintro j x l v H ⟨t,rfl,b⟩;dsimp only;refine aw (dX c d t (by lia) (by lia) ?_);dsimp only;by_cases q:ky N (arrOf l) (lo+j)<ky N (arrOf l) (lo+j-1)
      ·rw[Ze q,if_pos rfl];exact az ⟨t,j,rfl,by lia,by lia,b⟩
      ·rw[Zg q,if_neg (by simp)];exact az ⟨t,rfl,b.step (by lia) q⟩
     ·rintro x l ⟨t,rfl,b⟩;exact⟨t,nrem,rfl,T,Zh _,b⟩
     ·rintro x l ⟨t,m,rfl,O,m2,b⟩;exact az (h m l t O m2 b)
end
end SBig
namespace SBig
open PySem PyProof.Rows
section
variable{prog:Program}{w:World}{A:Around}{SI:Shared->Prop}{α β:Type}
theorem CR.move{a st:SortSt}{lo k l:Nat}(h:CR a st lo)(b:lo+k<(arrOf st).size)(c:l<=k):CR a (setArr st (bubble (arrOf st) (lo+k) (lo+k-(lo+l)))) lo:=
 ⟨h.kind,h.pend,h.fail,(bubble_perm _ _ _).trans h.perm,λi hi=>by
  show(bubble (arrOf st) (lo+k) (lo+k-(lo+l)))[i]? =_;rw[getElem?_bubble b _ (by lia),if_neg (by lia),if_neg (by lia)];exact h.same i hi⟩
theorem sE(f:b<a.size)(g:d<=b)(k:Nat):ky N (bubble a b d) k=if k=b-d then ky N a b else if b-d<k/\k<=b then ky N a (k-1)else ky N a k:=by
 by_cases c:k=b-d
 ·rw[if_pos c];exact pG (by rw[getElem?_bubble f d g,if_pos c])
 ·rw[if_neg c];by_cases e:b-d<k/\k<=b
  ·rw[if_pos e];exact pG (by rw[getElem?_bubble f d g,if_neg c,if_pos e])
  ·rw[if_neg e];exact pG (by rw[getElem?_bubble f d g,if_neg c,if_neg e])
theorem ud{lo n ok:Nat}{f st:SortSt}(c:Cmp prog w A SI (kindOf f) D N)(d:∀x∈(arrOf f).toList,D x)(r:CR f st lo)(L:1<=ok)(M:ok<=n)(hs:lo+n<=(arrOf f).size)(up:Up N (arrOf st) lo ok)
 (h:∀a,CR f a lo->Up N (arrOf a) lo n->Q true a):(SC prog w A SI) (binarySort' lo n ok) Q st:=by
 rw[binarySort'_eq];rw[show max ok 1=ok by lia];refine aw (cK (cA (Q:=λx a=>x=(none,())/\CR f a lo/\Up N (arrOf a) lo n) (λk x a=>x=(none,())/\CR f a lo/\Up N (arrOf a) lo k) M ⟨rfl,r,up⟩ ?_ ?_) ?_)
 ·rintro k x b O hk ⟨rfl,m,up1⟩;dsimp only;have pv:∀i,i<k->lo+i<(arrOf f).size:=λi hi=>by lia
  refine aw (cK (cA (Q:=λx a=>a=b/\∃l,x.1=none/\x.2.1=l/\l<=k/\(∀i,i<l->ky N (arrOf b) (lo+i)<=ky N (arrOf b) (lo+k))/\(∀i,l<=i->i<k->ky N (arrOf b) (lo+k)<ky N (arrOf b) (lo+i)))
   (λj x a=>a=b/\∃l q,x=(none,l,q)/\l<=q/\q<=k/\q-l<=k-j/\(∀i,i<l->ky N (arrOf b) (lo+i)<=ky N (arrOf b) (lo+k))/\(∀i,q<=i->i<k->ky N (arrOf b) (lo+k)<ky N (arrOf b) (lo+i))) (Yn _)
   ⟨rfl,0,k,rfl,by lia,by lia,by lia,λi hi=>absurd hi (Yi _),λi L h2=>by lia⟩ ?_ ?_) ?_)
  ·rintro j x g _ T ⟨rfl,l,q,rfl,z,o,U,s,t⟩;dsimp only;by_cases u:l>=q
   ·rw[if_pos u];have e:l=q:=by lia
    subst e;exact az ⟨rfl,l,rfl,rfl,o,s,t⟩
   ·rw[if_neg u];refine aw (dX c d m (by lia) (by lia) ?_);dsimp only;by_cases p:ky N (arrOf g) (lo+k)<ky N (arrOf g) (lo+(l+q)/2)
    ·rw[Ze p,if_pos rfl];exact az ⟨rfl,l,_,rfl,by lia,by lia,by lia,s,λi v y=>Zf p (up1 _ _ v y)⟩
    ·rw[Zg p,if_neg (by simp)];exact az ⟨rfl,_,q,rfl,by lia,by lia,by lia,λi v=>Y2 (up1 i ((l+q)/2) (by lia) (by lia)) (by lia),t⟩
  ·rintro x g ⟨rfl,l,q,rfl,z,o,U,s,t⟩;have e:l=q:=by lia
   subst e;exact⟨rfl,l,rfl,rfl,o,s,t⟩
  ·rintro⟨x1,x2,x3⟩ g ⟨Y,l,E,G,B,s,t⟩;subst Y;dsimp only at E G;subst E G;dsimp only;rw[moveDown'_eq];refine aw (gH (az ⟨rfl,m.move (by rw[m.size];lia) B,?_⟩));have hsz:lo+k<(arrOf g).size:=by rw[m.size];lia
   intro i j C T;show ky N (bubble (arrOf g) (lo+k) (lo+k-(lo+x2))) (lo+i)<=ky N (bubble (arrOf g) (lo+k) (lo+k-(lo+x2))) (lo+j);rw[sE hsz (by lia),sE hsz (by lia)];have ed:lo+k-(lo+k-(lo+x2))=lo+x2:=by lia
   rw[ed];by_cases v:lo+i=lo+x2
   ·rw[if_pos v];by_cases y:lo+j=lo+x2
    ·rw[if_pos y];exact Zh _
    ·rw[if_neg y,if_pos (by lia)];have:=t (j-1) (by lia) (by lia);rw[show lo+(j-1)=lo+j-1 by lia]at this
     lia
   ·rw[if_neg v];by_cases H:lo+x2<lo+i/\lo+i<=lo+k
    ·rw[if_pos H,if_neg (by lia),if_pos (by lia)];have:=up1 (i-1) (j-1) (by lia) (by lia);rw[show lo+(j-1)=lo+j-1 by lia,show lo+(i-1)=lo+i-1 by lia]at this;exact this
    ·rw[if_neg H];by_cases I:lo+j=lo+x2
     ·rw[if_pos I];exact s i (by lia)
     ·rw[if_neg I];by_cases J:lo+x2<lo+j/\lo+j<=lo+k
      ·rw[if_pos J];have:=up1 i (j-1) (by lia) (by lia);rw[show lo+(j-1)=lo+j-1 by lia]at this;exact this
      ·rw[if_neg J];exact up1 i j C (by lia)
 ·rintro x b ⟨rfl,m,up1⟩;exact⟨rfl,m,up1⟩
 ·rintro x b ⟨rfl,m,up1⟩;exact az (h b m up1)
end
end SBig
namespace SBig
open PySem PyProof.Rows
section
variable{prog:Program}{w:World}{A:Around}{SI:Shared->Prop}
theorem yp(h:Up N a 0 a.size):Srt N a.toList:=by
 refine List.pairwise_iff_getElem.mpr λi j hi b c=>?_
 have g:∀(i:Nat) (hi:i<a.toList.length),N a.toList[i]=ky N a (0+i):=λi hi=>(wF (by rw[zero_add];simpa using hi)).symm
 rw[g,g];exact h i j (by lia) (by simpa using b)
theorem sc_sortFew{st:SortSt}(c:Cmp prog w A SI (kindOf st) D N)(d:∀x∈(arrOf st).toList,D x)(C:1<=(arrOf st).size)(k:(arrOf st).size<64)(y:pendingOf st= #[])(E:failedOf st=none)
 (h:∀a,(arrOf a).toList.Perm (arrOf st).toList->Srt N (arrOf a).toList->failedOf a=none->Q () a):(SC prog w A SI) sortRuns' Q st:=by
 rw[sortRuns'_eq];refine aw (jp ?_);dsimp only;have G:minRun' (arrOf st).size (arrOf st).size 0=(arrOf st).size:=by
  obtain⟨m,e⟩:∃m,(arrOf st).size=m+1:=⟨_,(Nat.sub_add_cancel C).symm⟩
  rw[e]at k ⊢;rw[minRun'_succ,if_pos k,add_zero]
 rw[G];refine aw (cK (cA (Q:=λx a=>x=(none,(arrOf st).size)/\(arrOf a).toList.Perm (arrOf st).toList/\Srt N (arrOf a).toList/\failedOf a=none/\(pendingOf a).size=1)
  (λj x a=>(j=0/\x=(none,0)/\a=st)\/(x=(none,(arrOf st).size)/\(arrOf a).toList.Perm (arrOf st).toList/\Srt N (arrOf a).toList/\failedOf a=none/\(pendingOf a).size=1)) (Yn _) (.inl ⟨rfl,rfl,rfl⟩) ?_ ?_) ?_)
 ·rintro j x f _ H (⟨rfl,rfl,rfl⟩|⟨rfl,ok⟩)
  ·dsimp only;rw[if_neg (by lia)];refine aw (pH c d (by lia) (by lia) λn g z I T l=>?_);dsimp only;have B:∀(b:SortSt) (n:Nat),n=(arrOf f).size->CR f b 0->Up N (arrOf b) 0 n->(pendingOf b).back? =none/\(arrOf b).toList.Perm (arrOf f).toList/\Srt N (arrOf b).toList/\failedOf b=none/\(pendingOf b).size=0:=λb n e r u=>by
    refine⟨by rw[r.pend,y];rfl,Array.perm_iff_toList_perm.mp r.perm,yp (by rw[r.size,<-e];exact u),r.fail.trans E,by rw[r.pend,y];rfl⟩
   by_cases i:n<(arrOf f).size
   ·rw[if_pos i];refine aw (nV ?_);refine aw (ud c d z I (by lia) (by lia) l λb J o=>?_);rw[if_neg (by simp)];refine aw (jp ?_);obtain⟨p,q,s,t,v⟩:=B b _ (by lia) J o;rw[p];dsimp only;refine aw (gH (az (.inr ⟨?_,q,s,t,?_⟩)))
    ·rw[zero_add,Nat.sub_zero,Nat.min_self]
    ·show((pendingOf b).push _).size=1;rw[Array.size_push,v]
   ·rw[if_neg i];refine aw (jp ?_);obtain⟨p,q,s,t,v⟩:=B g _ (by lia) z l;rw[p];dsimp only;refine aw (gH (az (.inr ⟨?_,q,s,t,?_⟩)))
    ·rw[zero_add,show n=(arrOf f).size by lia]
    ·show((pendingOf g).push _).size=1;rw[Array.size_push,v]
  ·dsimp only;rw[if_pos (Zh _)];exact az ⟨rfl,ok⟩
 ·rintro x f (⟨e,_⟩|ok)
  ·lia
  ·exact ok
 ·rintro x f ⟨rfl,L,M,O,U⟩;dsimp only;refine aw (cK (cA (Q:=λx a=>x=(none,())/\a=f) (λj x a=>x=(none,())/\a=f) (Yn _) ⟨rfl,rfl⟩ ?_ ?_) ?_)
  ·rintro j x g _ H ⟨rfl,rfl⟩;refine aw (jp ?_);rw[if_pos (by lia)];exact az ⟨rfl,rfl⟩
  ·rintro x g e;exact e
  ·rintro x g ⟨rfl,rfl⟩;exact az (h g L M O)
end
end SBig
namespace STab
open PySem PySem.SetTable
theorem pI:∀k:Nat,∃q,5^(2^k)=1+2^(k+2)*(2*q+1)
 | 0=>⟨0,rfl⟩
 | k+1=>by
   obtain⟨q,e⟩:=pI k;refine⟨q+2^k*(2*q+1)*(2*q+1),?_⟩;rw[pow_succ 2 k,Nat.pow_mul,e]
   generalize g:2*q+1=r
   have b:2^(k+2)=4*2^k:=by rw[pow_add];lia
   have c:2^(k+1+2)=8*2^k:=by rw[show k+1+2=k+3 by lia,pow_add];lia
   rw[b,c]
   generalize 2^k=p
   have d:2*(q+p*r*r) +1=r+2*(p*r*r):=by lia
   rw[d,mul_assoc 4 p r,mul_assoc 8 p]
   generalize a:p*r=t
   have f:p*(r+2*(t*r))=t+2*(t*t):=by
    rw[mul_add,a];have:p*(2*(t*r))=2*(t*t):=by
     rw[Nat.mul_left_comm,Nat.mul_left_comm p t r,a]
    lia
   rw[f,Nat.pow_two,add_mul,one_mul,mul_add,mul_one];have m2:4*t*(4*t)=16*(t*t):=by rw[Nat.mul_mul_mul_comm]
   rw[m2]
   lia
noncomputable def step(M i:Nat):Nat:=(i*5+1)%M
noncomputable def bI(M:Nat):Nat->Nat->Nat
 | 0,i=>i
 | n+1,i=>step M (bI M n i)
noncomputable def geo:Nat->Nat
 | 0=>0
 | n+1=>geo n*5+1
theorem li:∀n,4*geo n+1=5^n
 | 0=>rfl
 | n+1=>by
   have:=li n;rw[pow_succ,<-this,geo]
   lia
theorem iU(M:Nat)(i:Nat):∀n,bI M n i%M=(5^n*i+geo n)%M
 | 0=>by simp[bI,geo]
 | n+1=>by
   have a:=iU M i n;rw[bI,step,Nat.mod_mod,geo,pow_succ];rw[add_mod,Nat.mul_mod,a,<-Nat.mul_mod,<-add_mod]
   congr 1
   rw[add_mul];have:5^n*5*i=5^n*i*5:=by rw[Nat.mul_right_comm]
   lia
theorem lj:∀(k i e:Nat),e<2^k->∃n,n<2^k/\bI (2^k) n i%2^k=e
 | 0,i,e,c=>⟨0,by decide,by simp at c;subst c;simp[Nat.mod_one]⟩
 | k+1,i,e,c=>by
   obtain⟨n,Q,B⟩:=lj k i (e%2^k) (mod_lt _ (Nat.two_pow_pos k));have d:∀n,bI (2^(k+1)) n i%2^(k+1)%2^k=bI (2^k) n i%2^k:=λn=>by
    rw[Nat.mod_mod_of_dvd _ (Nat.pow_dvd_pow 2 (Y1 k)),<-Nat.mod_mod_of_dvd _ (Nat.pow_dvd_pow 2 (Y1 k)),iU,Nat.mod_mod_of_dvd _ (Nat.pow_dvd_pow 2 (Y1 k)),iU]
   obtain⟨q,b⟩:=pI k;have C:geo (2^k)=2^k*(2*q+1):=by
    have g:=li (2^k);rw[b,pow_add]at g;have:2^k*2^2*(2*q+1)=4*(2^k*(2*q+1)):=by
     rw[Nat.mul_right_comm];lia
    lia
   have f:∀n,bI (2^(k+1)) (n+2^k) i%2^(k+1)=(bI (2^(k+1)) n i+2^k)%2^(k+1):=λn=>by
    rw[iU];have D:5^(n+2^k)*i+geo (n+2^k)=5^(2^k)*(5^n*i+geo n) +geo (2^k):=by
     have g1:=li (n+2^k);have g2:=li n;have g3:=li (2^k);rw[pow_add]at g1 ⊢;rw[<-g3,<-g2]at g1;rw[<-g3,<-g2]
     generalize geo (n+2^k)=x at g1 ⊢
     generalize geo n=y at g1 ⊢
     generalize geo (2^k)=z at g1 ⊢
     have T:(4*y+1)*(4*z+1)=16*(y*z) +4*y+4*z+1:=by
      rw[add_mul,mul_add];have:4*y*(4*z)=16*(y*z):=by rw[Nat.mul_mul_mul_comm]
      lia
     have E:x=4*(y*z) +y+z:=by lia
     have m2:(4*y+1)*(4*z+1)*i=(4*z+1)*((4*y+1)*i):=by rw[Nat.mul_comm (4*y+1),mul_assoc]
     rw[m2,mul_add (4*z+1),E];have U:(4*z+1)*y=4*(y*z) +y:=by rw[add_mul,mul_assoc,Nat.mul_comm z y];lia
     lia
    rw[D,b,C];have s:2^(k+1)=2*2^k:=by rw[pow_succ];lia
    have j:2^(k+2)=2*2^(k+1):=by rw[pow_succ];lia
    have t:=iU (2^(k+1)) i n
    generalize 5^n*i+geo n=v at t ⊢
    have G:(1+2^(k+2)*(2*q+1))*v+2^k*(2*q+1)=v+2^k+2^(k+1)*(2*((2*q+1)*v) +q):=by
     rw[add_mul,one_mul,j];have H:2*2^(k+1)*(2*q+1)*v=2^(k+1)*(2*((2*q+1)*v)):=by
      simp only[mul_assoc,Nat.mul_left_comm]
     have I:2^k*(2*q+1)=2^k+2^(k+1)*q:=by
      rw[s,mul_add,mul_one];have:2^k*(2*q)=2*2^k*q:=by simp only[mul_assoc,Nat.mul_left_comm]
      lia
     rw[H,I,mul_add]
     lia
    rw[G,Nat.add_mul_mod_self_left,add_mod,<-t,<-add_mod]
   have s:2^(k+1)=2*2^k:=by rw[pow_succ];lia
   have l1:=d n;rw[B]at l1;have J:bI (2^(k+1)) n i%2^(k+1)<2^(k+1):=mod_lt _ (Nat.two_pow_pos _);have p:0<2^k:=Nat.two_pow_pos k;have l:=f n;rw[add_mod,Nat.mod_eq_of_lt (by lia:2^k<2^(k+1))]at l;obtain⟨a,w⟩:∃a,a=bI (2^(k+1)) n i%2^(k+1):=⟨_,rfl⟩
   rw[<-w]at l1 J l;have m:a=e\/(a+2^k)%2^(k+1)=e:=by
    have o:=Nat.div_add_mod a (2^k);have A:=Nat.div_add_mod e (2^k);have L:a/2^k<2:=Nat.div_lt_of_lt_mul (by lia);have M:e/2^k<2:=Nat.div_lt_of_lt_mul (by lia);rw[l1]at o
    generalize a/2^k=u at o L
    generalize e/2^k=v at A M
    generalize e%2^k=r at o A
    have N:u=0\/u=1:=by lia
    have O:v=0\/v=1:=by lia
    rcases N with rfl|rfl<;> rcases O with rfl|rfl
    ·left;lia
    ·right
     rw[Nat.mod_eq_of_lt (by lia)]
     lia
    ·right
     rw[show a+2^k=e+2^(k+1) by lia,Nat.add_mod_right,Nat.mod_eq_of_lt c]
    ·left;lia
   rcases m with h|h
   ·exact⟨n,by lia,by rw[<-w,h]⟩
   ·exact⟨n+2^k,by lia,by rw[l,h]⟩
end STab
namespace STab
open PySem PySem.SetTable
noncomputable def stand(t:SetTable)(h:Int):Nat->Probe
 | 0=>t.probeStart h
 | n+1=>t.advance (stand t h n)
noncomputable def way(t:SetTable)(h:Int)(n:Nat):Nat:=(stand t h n).j
noncomputable def aB(t:SetTable)(h:Int):Nat->Nat×Nat
 | 0=>(bits h%(t.mask+1),bits h)
 | r+1=>leap t.mask (aB t h r).1 (aB t h r).2
theorem jU(t:SetTable)(h:Int):∀n,(stand t h n).dummy=none
 | 0=>rfl
 | n+1=>by
   have:=jU t h n;show(t.advance (stand t h n)).dummy=none;unfold advance
   split
   ·exact this
   ·exact this
theorem yq(m i:Nat):runEnd m i-i<=9:=by
 unfold runEnd
 split<;> lia
theorem ue(t:SetTable)(h:Int):∀r,∃n,n<=10*r/\∀d,d<=runEnd t.mask (aB t h r).1-(aB t h r).1->
 stand t h (n+d)=⟨(aB t h r).1+d,runEnd t.mask (aB t h r).1-(aB t h r).1-d,(aB t h r).1,(aB t h r).2,none⟩:=by
 have a:∀(n i b:Nat),stand t h n=⟨i,runEnd t.mask i-i,i,b,none⟩->∀d,d<=runEnd t.mask i-i->stand t h (n+d)=⟨i+d,runEnd t.mask i-i-d,i,b,none⟩:=by
  intro n i b e d
  induction d with
  | zero=>intro _;rw[add_zero,e];rfl
  | succ d c=>
    intro f;show t.advance (stand t h (n+d))=_;rw[c (by lia)];unfold advance;rw[if_pos (by dsimp only;lia)];simp only[Probe.mk.injEq,and_true]
    lia
 intro r
 induction r with
 | zero=>exact⟨0,Yn _,a 0 _ _ rfl⟩
 | succ r c=>
   obtain⟨n,g,e⟩:=c;have j:=yq t.mask (aB t h r).1;refine⟨n+(runEnd t.mask (aB t h r).1-(aB t h r).1) +1,by lia,a _ _ (aB t h (r+1)).2 ?_⟩;show t.advance (stand t h _)=_;rw[e _ (Zh _)];unfold advance;rw[if_neg (by dsimp only;lia)];rfl
theorem yr(h:Int):bits h<2^64:=by
 unfold bits;have a:=Int.emod_nonneg h (by decide:(2^64:Int)≠0);have b:=Int.emod_lt_of_pos h (by decide:(0:Int)<2^64)
 lia
theorem lm(t:SetTable)(h:Int):∀r,(aB t h r).2=bits h/32^r
 | 0=>by simp[aB]
 | r+1=>by
   show(aB t h r).2/32=_;rw[lm t h r,Nat.div_div_eq_div_mul,pow_succ]
theorem wG(t:SetTable)(h:Int):∀r,(aB t h r).1<t.mask+1
 | 0=>mod_lt _ (succ_pos _)
 | r+1=>mod_lt _ (succ_pos _)
theorem iz(t:SetTable)(h:Int):∀m,(aB t h (12+m)).1=bI (t.mask+1) m (aB t h 12).1
 | 0=>rfl
 | m+1=>by
   show((aB t h (12+m)).1*5+1+(aB t h (12+m)).2/32)%(t.mask+1)=step (t.mask+1) (bI (t.mask+1) m (aB t h 12).1);rw[iz t h m,lm,Nat.div_div_eq_div_mul,<-pow_succ];have a:bits h/32^(12+m+1)=0:=by
    refine Nat.div_eq_of_lt (Zf (yr h) ?_);exact Y2 (by decide:2^64<=32^13) (Nat.pow_le_pow_right (by decide) (by lia))
   rw[a,add_zero];rfl
theorem ln(a:t.mask+1=2^k)(h:Int)(e:Nat)(c:e<=t.mask):∃r,r<turns t.mask/\(aB t h r).1=e:=by
 obtain⟨n,d,b⟩:=lj k (aB t h 12).1 e (by lia);refine⟨12+n,by unfold turns;lia,?_⟩;rw[iz,a];rw[<-a]at b;have:bI (t.mask+1) n (aB t h 12).1<t.mask+1:=by rw[<-iz];exact wG t h _
 rw[Nat.mod_eq_of_lt this]at b;rw[<-a];exact b
theorem qQ(a:t.mask+1=2^k)(h:Int)(e:Nat)(b:e<=t.mask):∃n,n+10<=10*turns t.mask/\way t h n=e:=by
 obtain⟨r,f,c⟩:=ln a h e b;obtain⟨n,g,d⟩:=ue t h r;refine⟨n,by lia,?_⟩;have:=d 0 (Yn _);unfold way;rw[add_zero]at this;rw[this];exact c
theorem pJ(l:t.dummies= #[]){hashAt:Nat->Int}:∀(fuel n m:Nat),n<=m->m<n+fuel->t.slot (way t h m)= .empty->
 ∃q,n<=q/\q<=m/\(∀j,n<=j->j<q->∃i,t.slot (way t h j)= .live i/\hashAt i≠h)/\
  ((t.slot (way t h q)= .empty/\probe.go t hashAt h fuel (stand t h n)=some (.empty (way t h q) none))\/
   ∃i,t.slot (way t h q)= .live i/\hashAt i=h/\probe.go t hashAt h fuel (stand t h n)=some (.candidate (way t h q) i (stand t h (q+1))))
 | 0,n,m,g,p,_=>by lia
 | fuel+1,n,m,g,p,o=>by
   have d:probe.go t hashAt h (fuel+1) (stand t h n)=(match t.slot (stand t h n).j with
    | .empty=>some (.empty (stand t h n).j (stand t h n).dummy)
    | .dummy=>probe.go t hashAt h fuel (t.advance {stand t h n with dummy:=some (stand t h n).j})
    | .live i=>if hashAt i==h then some (.candidate (stand t h n).j i (t.advance (stand t h n)))else probe.go t hashAt h fuel (t.advance (stand t h n))):=rfl
   have k:(stand t h n).j=way t h n:=rfl;cases c:t.slot (way t h n)with
   | empty=>
     refine⟨n,Zh _,g,λj a b=>by lia,.inl ⟨c,?_⟩⟩;rw[d,k,c,jU]
   | dummy=>
     exfalso;unfold slot at c;dsimp only at c
     split at c
     ·cases c
     ·split at c
      ·rename_i q
       rw[l]at q;simp[has]at q
      ·cases c
   | live i=>
     by_cases f:hashAt i=h
     ·refine⟨n,Zh _,g,λj a b=>by lia,.inr ⟨i,c,f,?_⟩⟩;rw[d,k,c];dsimp only;rw[if_pos (by simp[f])];rfl
     ·have r:n≠m:=λq=>by rw[q,o]at c;cases c
      obtain⟨q,x,s,u,v⟩:=pJ l fuel (n+1) m (by lia) (by lia) o;have w:probe.go t hashAt h (fuel+1) (stand t h n)=probe.go t hashAt h fuel (stand t h (n+1)):=by
       rw[d,k,c];dsimp only;rw[if_neg (by simp[f])];rfl
      refine⟨q,by lia,s,λj a b=>?_,?_⟩
      ·by_cases e:j=n
       ·rw[e];exact⟨i,c,f⟩
       ·exact u j (by lia) b
      ·rw[w];exact v
end STab
namespace STab
open PySem PySem.SetTable
theorem lq(xs:Array Nat)(j:Nat)(d:∀a b (r:a<xs.size) (s:b<xs.size),a<b->xs[a]<xs[b]):∀(fuel lo hi:Nat),hi-lo<=fuel->lo<=hi->hi<=xs.size->(∀i (h:i<xs.size),i<lo->xs[i]<j)->(∀i (h:i<xs.size),hi<=i->j<=xs[i])->
 below.go xs j fuel lo hi<=xs.size/\(∀i (h:i<xs.size),i<below.go xs j fuel lo hi->xs[i]<j)/\(∀i (h:i<xs.size),below.go xs j fuel lo hi<=i->j<=xs[i])
 | 0,lo,hi,o,p,f,g,k=>by
   have e:lo=hi:=by lia
   subst e;exact⟨f,g,k⟩
 | fuel+1,lo,hi,o,p,f,g,k=>by
   rw[below.go];by_cases c:lo<hi
   ·rw[if_pos c];dsimp only;have m:(lo+hi)/2<xs.size:=by lia
    have q:xs.getD ((lo+hi)/2) j=xs[(lo+hi)/2]:=by simp[Array.getD,m]
    rw[q];by_cases l:xs[(lo+hi)/2]<j
    ·rw[if_pos l];refine lq xs j d fuel _ hi (by lia) (by lia) f (λi h n=>?_) k;by_cases e:i=(lo+hi)/2
     ·subst e;exact l
     ·exact Nat.lt_trans (d i _ h m (by lia)) l
    ·rw[if_neg l];refine lq xs j d fuel lo _ (by lia) (by lia) (by lia) g (λi h n=>?_);by_cases e:i=(lo+hi)/2
     ·subst e;lia
     ·have:=d _ i m h (by lia)
      lia
   ·rw[if_neg c];have e:lo=hi:=by lia
    subst e;exact⟨f,g,k⟩
def wH(xs:Array Nat):Prop:=∀a b (c:a<xs.size) (d:b<xs.size),a<b->xs[a]<xs[b]
theorem iA(a:wH xs)(j:Nat):below xs j<=xs.size/\(∀i (h:i<xs.size),i<below xs j->xs[i]<j)/\(∀i (h:i<xs.size),below xs j<=i->j<=xs[i]):=
 lq xs j a xs.size 0 xs.size (by lia) (Yn _) (Zh _) (λi h q=>absurd q (Yi _)) (λi h q=>by lia)
theorem wI(a:wH xs)(h:xs[i]? =some j):below xs j=i:=by
 obtain⟨f,c,d⟩:=iA a j;obtain⟨hi,e⟩:=Array.getElem?_eq_some_iff.mp h;rcases Nat.lt_trichotomy i (below xs j)with q|q|q
 ·have:=c i hi q
  lia
 ·exact q.symm
 ·have b:below xs j<xs.size:=by lia
  have:=d (below xs j) b (Zh _);have:=a _ i b hi q
  lia
theorem mK{t:SetTable}(a:wH t.place)(h:t.place[i]? =some j):t.slot j= .live i:=by
 unfold slot;dsimp only;rw[wI a h,h];simp
theorem iB{t:SetTable}(a:wH t.place)(b:t.dummies= #[])(j:Nat):(∃i,t.place[i]? =some j/\t.slot j= .live i)\/(j∉t.place.toList/\t.slot j= .empty):=by
 by_cases h:j∈t.place.toList
 ·obtain⟨i,hi⟩:=Yo h;have hi:t.place[i]? =some j:=by simpa using hi
  exact .inl ⟨i,hi,mK a hi⟩
 ·refine .inr ⟨h,?_⟩;unfold slot;dsimp only;rw[if_neg,if_neg]
  ·rw[b];simp[has]
  ·intro q;have q:t.place[below t.place j]? =some j:=by simpa using q
   exact h (mem_toList_iff.mpr (Array.mem_of_getElem? q))
theorem pK(h:t.mask=t'.mask)(x:Int):∀n,stand t x n=stand t' x n
 | 0=>by
   show t.probeStart x=t'.probeStart x;unfold probeStart;rw[h]
 | n+1=>by
   show t.advance (stand t x n)=t'.advance (stand t' x n);rw[pK h x n];unfold advance;rw[h]
theorem mL(h:t.mask=t'.mask)(x:Int)(n:Nat):way t x n=way t' x n:=by unfold way;rw[pK h]
structure WF (t:SetTable) (es:Array (Int×Value)):Prop where
 pow:∃k,t.mask+1=2^k
 big:7<=t.mask
 dum:t.dummies= #[]
 rise:wH t.place
 inb:∀j∈t.place.toList,j<=t.mask
 size:t.place.size=es.size
 chain:∀(i j:Nat) (h:Int) (x:Value),t.place[i]? =some j->es[i]? =some (h,x)->∃n,way t h n=j/\∀m,m<n->way t h m∈t.place.toList
theorem nodup_sub [DecidableEq d]:∀{l m:List d},l.Nodup->(∀x∈l,x∈m)->l.length<=m.length
 |[],_,_,_=>Yn _
 | x::l,m,f,a=>by
   obtain⟨g,h⟩:=nodup_cons.mp f;have b:x∈m:=a x Zl;have i:=nodup_sub (m:=m.erase x) h λy c=>(List.mem_erase_of_ne (λe:y=x=>g (by rw[<-e];exact c))).mpr (a y (Zj _ c))
   rw[List.length_erase_of_mem b]at i;have:0<m.length:=List.length_pos_of_mem b;rw[Zq]
   lia
theorem qR(W:WF t v)(R:t.place.size<=t.mask)(h:Int):∃m,m+10<=10*turns t.mask/\way t h m∉t.place.toList/\(∀q,q<m->way t h q∈t.place.toList):=by
 obtain⟨k,l⟩:=W.pow;have ex:∃e,e<=t.mask/\e∉t.place.toList:=by
  refine Classical.byContradiction λb=>?_
  have all:∀e,e<=t.mask->e∈t.place.toList:=λe c=>Classical.byContradiction λq=>b ⟨e,c,q⟩
  have:(List.range (t.mask+1)).length<=t.place.toList.length:=nodup_sub nodup_range λx o=>all x (by have:=mem_range.mp o;lia)
  rw[Y4,Za]at this
  lia
 obtain⟨e,c,f⟩:=ex;obtain⟨n,p,hw⟩:=qQ l h e c;have:∀d,∀n,n<=d->n+10<=10*turns t.mask->way t h n∉t.place.toList->∃m,m+10<=10*turns t.mask/\way t h m∉t.place.toList/\(∀q,q<m->way t h q∈t.place.toList):=by
  intro d
  induction d with
  | zero=>
    intro n r g i;have:n=0:=by lia
    subst this;exact⟨0,g,i,λq j=>absurd j (Yi _)⟩
  | succ d s=>
    intro n r g i;by_cases a:∀q,q<n->way t h q∈t.place.toList
    ·exact⟨n,g,i,a⟩
    ·obtain⟨q,j⟩:=Classical.not_forall.mp a;obtain⟨w,u⟩:=Classical.not_imp.mp j;exact s q (by lia) (by lia) u
 exact this n n (Zh _) p (by rw[hw];exact f)
end STab
namespace STab
open PySem PySem.SetTable
theorem iV(xs:Array a)(p:Nat)(x:a)(b:p<=xs.size):(insertAt xs p x).toList=xs.toList.take p++x::xs.toList.drop p:=by
 unfold insertAt;rw[toList_append,toList_push,Array.toList_extract,Array.toList_extract,List.extract_eq_take_drop,List.extract_eq_take_drop];rw[List.drop_zero,Nat.sub_zero,Zm (l:=xs.toList.drop p) (by rw[Y3,Za];exact Zh _)];simp
theorem qS(xs:Array c)(x:c)(f:p<=xs.size)(i:Nat):(insertAt xs p x)[i]? =if i<p then xs[i]? else if i=p then some x else xs[i-1]? :=by
 have e:(insertAt xs p x)[i]? =(insertAt xs p x).toList[i]? :=by simp
 rw[e,iV xs p x f];have g:(xs.toList.take p).length=p:=by rw[Y6,Za];lia
 by_cases a:i<p
 ·rw[if_pos a,Zz (by lia),List.getElem?_take,if_pos a];simp
 ·rw[if_neg a,List.getElem?_append_right (by lia),g];by_cases b:i=p
  ·rw[if_pos b,b,Nat.sub_self];rfl
  ·rw[if_neg b];obtain⟨d,h⟩:∃d,i-p=d+1:=⟨i-p-1,by lia⟩
   rw[h,List.getElem?_cons_succ,List.getElem?_drop];rw[show p+d=i-1 by lia];simp
theorem gn(xs:Array a)(p:Nat)(x:a)(b:p<=xs.size):(insertAt xs p x).size=xs.size+1:=by
 rw[<-Za,iV xs p x b,Z8,Zq,Y6,Y3,Za]
 lia
theorem wJ(t:SetTable)(h:Int):∀n,(stand t h n).j+(stand t h n).more<=t.mask
 | 0=>by
   show bits h%(t.mask+1) +(runEnd t.mask (bits h%(t.mask+1)) -bits h%(t.mask+1))<=t.mask;have:=mod_lt (bits h) (show 0<t.mask+1 from succ_pos _);unfold runEnd
   split<;> lia
 | n+1=>by
   have a:=wJ t h n;show(t.advance (stand t h n)).j+(t.advance (stand t h n)).more<=t.mask;unfold advance
   split
   ·dsimp only;lia
   ·dsimp only[leap];have:=mod_lt ((stand t h n).i*5+1+(stand t h n).perturb/32) (show 0<t.mask+1 from succ_pos _);unfold runEnd
    split<;> lia
theorem nW(t:SetTable)(h:Int)(n:Nat):way t h n<=t.mask:=by
 have:=wJ t h n;unfold way
 lia
theorem WF.put(W:WF t B)(Q:way t h m∉t.place.toList)(T:∀q,q<m->way t h q∈t.place.toList)(o f:Bool):
 (t.put (way t h m)).2=below t.place (way t h m)/\(t.put (way t h m)).1.mask=t.mask/\(t.put (way t h m)).1.place.size=t.place.size+1/\(t.put (way t h m)).1.led=t.led/\(t.put (way t h m)).1.plain=t.plain/\(t.put (way t h m)).1.moves=t.moves/\
  WF {(t.put (way t h m)).1 with led:=o,plain:=f} (insertAt B (t.put (way t h m)).2 (h,x)):=by
 have U:has t.dummies (way t h m)=false:=by rw[W.dum];simp[has]
 have Y:t.put (way t h m)=({t with place:=insertAt t.place (below t.place (way t h m)) (way t h m)},below t.place (way t h m)):=by
  unfold SetTable.put;dsimp only;rw[U];rfl
 rw[Y];obtain⟨g,I,J⟩:=iA W.rise (way t h m)
 generalize hp:below t.place (way t h m)=p at g I J
 have v:p<=B.size:=by rw[<-W.size];exact g
 have s3:∀i (hi:i<t.place.size),p<=i->way t h m<t.place[i]:=λi hi q=>by
  have:=J i hi q;rcases Nat.eq_or_lt_of_le this with e|e
  ·exact absurd (by rw[e];simp) Q
  ·exact e
 have c:∀y,y∈(insertAt t.place p (way t h m)).toList↔y=way t h m\/y∈t.place.toList:=λy=>by
  rw[iV _ _ _ g,Yc,Ye];have:=List.take_append_drop p t.place.toList
  constructor
  ·rintro(q|q|q)
   ·exact .inr (Yg q)
   ·exact .inl q
   ·exact .inr (Yf q)
  ·rintro(q|q)
   ·exact .inr (.inl q)
   ·rw[<-this]at q;rcases Yt q with q|q
    ·exact .inl q
    ·exact .inr (.inr q)
 refine⟨rfl,rfl,gn _ _ _ g,rfl,rfl,rfl,W.pow,W.big,W.dum,?_,?_,?_,?_⟩
 ·intro a b ha w C;have sz:=gn t.place p (way t h m) g;have k:(insertAt t.place p (way t h m))[a]? =some (insertAt t.place p (way t h m))[a]:=by simp[ha]
  have d:(insertAt t.place p (way t h m))[b]? =some (insertAt t.place p (way t h m))[b]:=by simp[w]
  show(insertAt t.place p (way t h m))[a]<(insertAt t.place p (way t h m))[b];rw[qS _ _ g]at k d;have ab:b<t.place.size+1:=by rw[<-sz];exact w
  by_cases D:a<p
  ·rw[if_pos D]at k;obtain⟨s,E⟩:=Array.getElem?_eq_some_iff.mp k;rw[<-E];by_cases o:b<p
   ·rw[if_pos o]at d;obtain⟨f,u⟩:=Array.getElem?_eq_some_iff.mp d;rw[<-u];exact W.rise a b s f C
   ·rw[if_neg o]at d;by_cases f:b=p
    ·rw[if_pos f]at d;rw[<-Z9 d];exact I a s D
    ·rw[if_neg f]at d;obtain⟨u,G⟩:=Array.getElem?_eq_some_iff.mp d;rw[<-G];exact W.rise a (b-1) s u (by lia)
  ·rw[if_neg D]at k;have o: ¬ b<p:=by lia
   have f: ¬ b=p:=by lia
   rw[if_neg o,if_neg f]at d;obtain⟨u,G⟩:=Array.getElem?_eq_some_iff.mp d;rw[<-G];by_cases s:a=p
   ·rw[if_pos s]at k;rw[<-Z9 k];exact s3 (b-1) u (by lia)
   ·rw[if_neg s]at k;obtain⟨E,a4⟩:=Array.getElem?_eq_some_iff.mp k;rw[<-a4];exact W.rise (a-1) (b-1) E u (by lia)
 ·intro y hy;rcases(c y).mp hy with q|q
  ·rw[q];exact nW t h m
  ·exact W.inb y q
 ·show(insertAt t.place p (way t h m)).size=(insertAt B p (h,x)).size;rw[gn _ _ _ g,gn _ _ _ v,W.size]
 ·intro i j h' L hi l;have M:∀n,way {t with place:=insertAt t.place p (way t h m),led:=o,plain:=f} h' n=way t h' n:=λn=>mL (t':=t) (by rfl) h' n
  have H:∃n,way t h' n=j/\∀q,q<n->way t h' q∈(insertAt t.place p (way t h m)).toList:=by
   have hi:(insertAt t.place p (way t h m))[i]? =some j:=hi;rw[qS _ _ g]at hi;rw[qS _ _ v]at l;by_cases N:i<p
   ·rw[if_pos N]at hi l;obtain⟨n,z,A⟩:=W.chain i j h' L hi l;exact⟨n,z,λq r=>(c _).mpr (.inr (A q r))⟩
   ·rw[if_neg N]at hi l;by_cases O:i=p
    ·rw[if_pos O]at hi l;cases hi;cases l;exact⟨m,rfl,λq r=>(c _).mpr (.inr (T q r))⟩
    ·rw[if_neg O]at hi l;obtain⟨n,z,A⟩:=W.chain (i-1) j h' L hi l;exact⟨n,z,λq r=>(c _).mpr (.inr (A q r))⟩
  obtain⟨n,z,A⟩:=H;exact⟨n,by rw[M];exact z,λq r=>by rw[M];exact A q r⟩
end STab
namespace STab
open PySem PySem.SetTable
noncomputable def nb(t:SetTable)(h:Int):Nat->Nat
 | 0=>0
 | r+1=>nb t h r+(runEnd t.mask (aB t h r).1-(aB t h r).1) +1
theorem wK(t:SetTable)(h:Int):∀r d,d<=runEnd t.mask (aB t h r).1-(aB t h r).1->
 stand t h (nb t h r+d)=⟨(aB t h r).1+d,runEnd t.mask (aB t h r).1-(aB t h r).1-d,(aB t h r).1,(aB t h r).2,none⟩:=by
 have a:∀(n i b:Nat),stand t h n=⟨i,runEnd t.mask i-i,i,b,none⟩->∀d,d<=runEnd t.mask i-i->stand t h (n+d)=⟨i+d,runEnd t.mask i-i-d,i,b,none⟩:=by
  intro n i b e d
  induction d with
  | zero=>intro _;rw[add_zero,e];rfl
  | succ d c=>
    intro f;show t.advance (stand t h (n+d))=_;rw[c (by lia)];unfold advance;rw[if_pos (by dsimp only;lia)];simp only[Probe.mk.injEq,and_true]
    lia
 intro r
 induction r with
 | zero=>exact a 0 _ _ rfl
 | succ r c=>
   refine a _ _ (aB t h (r+1)).2 ?_;show t.advance (stand t h _)=_;rw[c _ (Zh _)];unfold advance;rw[if_neg (by dsimp only;lia)];rfl
theorem qT(t:SetTable)(h:Int)(r d:Nat)(a:d<=runEnd t.mask (aB t h r).1-(aB t h r).1):way t h (nb t h r+d)=(aB t h r).1+d:=by
 unfold way;rw[wK t h r d a]
noncomputable def dY(owner:Array (Option Nat))(j:Nat):Bool:=(owner.getD j (some 0)).isSome
theorem mM(t:SetTable)(h:Int)(owner:Array (Option Nat)):∀(fuel r:Nat),(∃a,r<=a/\a<r+fuel/\dY owner (aB t h a).1=false)->(∀m,m<nb t h r->dY owner (way t h m)=true)->
 ∃j n,layClean.free t.mask owner fuel (aB t h r).1 (aB t h r).2=some j/\way t h n=j/\dY owner j=false/\∀m,m<n->dY owner (way t h m)=true
 | 0,r,⟨a,s,u,_⟩,_=>by lia
 | fuel+1,r,⟨a,s,u,i⟩,l=>by
   rw[layClean.free];have v:runEnd t.mask (aB t h r).1>=(aB t h r).1:=by unfold runEnd;split<;> lia
   have tk:∀k,(owner.getD ((aB t h r).1+k) (some 0)).isNone=!dY owner ((aB t h r).1+k):=λk=>by
    unfold dY;cases owner.getD ((aB t h r).1+k) (some 0)<;> rfl
   cases o:(List.range (runEnd t.mask (aB t h r).1+1-(aB t h r).1)).find? λk=>(owner.getD ((aB t h r).1+k) (some 0)).isNone with
   | some k=>
     obtain⟨p,b,bs,c,w⟩:=List.find?_eq_some_iff_append.mp o;have d:k∈List.range (runEnd t.mask (aB t h r).1+1-(aB t h r).1):=by rw[c];simp
     have d:=mem_range.mp d;have x:b=List.range k:=by
      have y:b.length=k:=by
       have:(List.range (runEnd t.mask (aB t h r).1+1-(aB t h r).1))[b.length]? =some k:=by rw[c];simp
       rw[List.getElem?_range (by have:=(Ys this).1;simpa using this)]at this;exact Z9 this
      have z:b=(List.range (runEnd t.mask (aB t h r).1+1-(aB t h r).1)).take k:=by
       rw[c,<-y];simp
      rw[z,List.take_range,min_eq_left (by lia)]
     dsimp only;refine⟨_,nb t h r+k,rfl,qT t h r k (by lia),?_,λm f=>?_⟩
     ·rw[tk]at p;simpa using p
     ·by_cases q:m<nb t h r
      ·exact l m q
      ·have:=w (m-nb t h r) (by rw[x];exact mem_range.mpr (by lia));rw[tk]at this;rw[show m=nb t h r+(m-nb t h r) by lia,qT t h r _ (by lia)];simpa using this
   | none=>
     have g:=List.find?_eq_none.mp o;have all:∀k,k<=runEnd t.mask (aB t h r).1-(aB t h r).1->dY owner ((aB t h r).1+k)=true:=λk d=>by
      have:=g k (mem_range.mpr (by lia));rw[tk]at this;simpa using this
     have A:r≠a:=λe=>by
      have:=all 0 (Yn _);rw[add_zero,e,i]at this;cases this
     dsimp only;exact mM t h owner fuel (r+1) ⟨a,by lia,by lia,i⟩ λm f=>by
      by_cases q:m<nb t h r
      ·exact l m q
      ·have f:m<nb t h r+(runEnd t.mask (aB t h r).1-(aB t h r).1) +1:=f;rw[show m=nb t h r+(m-nb t h r) by lia,qT t h r _ (by lia)];exact all _ (by lia)
structure LO (t:SetTable) (hs:List Int) (owner:Array (Option Nat)):Prop where
 size:owner.size=t.mask+1
 own:∀(j q:Nat),owner[j]? =some (some q)->∃h,hs[q]? =some h/\∃n,way t h n=j/\∀m,m<n->dY owner (way t h m)=true
 all:∀q:Nat,q<hs.length->∃j:Nat,owner[j]? =some (some q)
 one:∀(j j' q:Nat),owner[j]? =some (some q)->owner[j']? =some (some q)->j=j'
theorem eR(a:j<owner.size):dY owner j=true↔∃q,owner[j]? =some (some q):=by
 unfold dY;have e:owner.getD j (some 0)=owner[j]:=by simp[Array.getD,a]
 rw[e];have b:owner[j]? =some owner[j]:=by simp[a]
 rw[b];cases owner[j]with
 | none=>simp
 | some q=>simp
theorem LO.step(L:LO t c owner)(J:t.mask+1=2^k)(room:c.length<=t.mask)(h:Int):
 ∃j,layClean.free t.mask owner (turns t.mask) (bits h%(t.mask+1)) (bits h)=some j/\LO t (c++[h]) (owner.setIfInBounds j (some c.length)):=by
 have l:∀h n,way t h n<owner.size:=λh n=>by rw[L.size];have:=nW t h n;lia
 have ex:∃e,e<=t.mask/\dY owner e=false:=by
  refine Classical.byContradiction λw=>?_
  have all:∀e,e<t.mask+1->dY owner e=true:=λe d=>by
   cases q:dY owner e with
   | true=>rfl
   | false=>exact absurd ⟨e,by lia,q⟩ w
  have f:∀e,e<t.mask+1->∃q,owner[e]? =some (some q):=λe d=>(eR (by rw[L.size];exact d)).mp (all e d)
  let g:Nat->Nat:=λe=>((owner[e]?).getD none).getD 0
  have x:∀e,e<t.mask+1->owner[e]? =some (some (g e)):=λe d=>by
   obtain⟨q,p⟩:=f e d;show owner[e]? =some (some (((owner[e]?).getD none).getD 0));rw[p];rfl
  have M:((List.range (t.mask+1)).map g).Nodup:=by
   rw[nodup_iff_pairwise_ne,Yl];refine Yp (R:=λa b=>a≠b) (λ{a b} N O A q=>A ?_) (nodup_iff_pairwise_ne.mp nodup_range);have Q:=x a (mem_range.mp N);have D:=x b (mem_range.mp O);rw[<-q]at D;exact L.one a b (g a) Q D
  have:=nodup_sub M (m:=List.range c.length) λy T=>by
   obtain⟨e,d,rfl⟩:=Yv T;obtain⟨h',o,_⟩:=L.own e (g e) (x e (mem_range.mp d));exact mem_range.mpr (Ys o).1
  rw[Z5,Y4,Y4]at this
  lia
 obtain⟨e,d,B⟩:=ex;obtain⟨r,hr,p⟩:=ln J h e d;obtain⟨j,n,U,E,Y,f4⟩:=mM t h owner (turns t.mask) 0 ⟨r,Yn _,by lia,by rw[p];exact B⟩ (λm s=>absurd s (Yi _));refine⟨j,U,?_⟩;have G:j<owner.size:=by rw[<-E];exact l h n
 have nj:∀q,owner[j]? ≠some (some q):=λq e=>by
  have:=(eR G).mpr ⟨q,e⟩;rw[Y]at this;cases this
 have get:∀i,(owner.setIfInBounds j (some c.length))[i]? =if j=i then some (some c.length)else owner[i]? :=λi=>by
  rw[Array.getElem?_setIfInBounds]
  split
  ·first|rfl|rw[if_pos G]
  ·rfl
 have keep:∀i,dY owner i=true->i<owner.size->dY (owner.setIfInBounds j (some c.length)) i=true:=λi hi H=>by
  obtain⟨q,e⟩:=(eR H).mp hi;refine(eR (by rw[Array.size_setIfInBounds];exact H)).mpr ?_;rw[get]
  split
  ·exact⟨_,rfl⟩
  ·exact⟨q,e⟩
 refine⟨by rw[Array.size_setIfInBounds];exact L.size,λi q e=>?_,λq p=>?_,λi I q e u=>?_⟩
 ·rw[get]at e
  split at e
  ·rename_i C
   cases e;refine⟨h,by simp,n,by rw[E,C],λm s=>keep _ (f4 m s) (l h m)⟩
  ·obtain⟨h',o,n',e2,e3⟩:=L.own i q e;exact⟨h',by rw[Zz (Ys o).1];exact o,n',e2,λm s=>keep _ (e3 m s) (l h' m)⟩
 ·rw[Z8,Y5]at p;by_cases e:q=c.length
  ·exact⟨j,by rw[get,if_pos rfl,e]⟩
  ·obtain⟨i,hi⟩:=L.all q (by lia);refine⟨i,?_⟩;rw[get,if_neg]
   ·exact hi
   ·intro C;rw[<-C]at hi;exact nj q hi
 ·have v:∀i,owner[i]? =some (some c.length)->False:=λi e=>by
   obtain⟨h',o,_⟩:=L.own i _ e;have:=(Ys o).1
   lia
  rw[get]at e u
  split at e<;> split at u
  ·lia
  ·cases e;exact absurd u (λz=>v I z)
  ·cases u;exact absurd e (λz=>v i z)
  ·exact L.one i I q e u
theorem pL(c:t.mask+1=2^k)(a:Array Int)(room:a.size<=t.mask+1):∃owner,layClean t.mask a=some owner/\LO t a.toList owner:=by
 have d:∀(rest done:List Int) (owner:Array (Option Nat)),LO t done owner->(done++rest).length<=t.mask+1->
  ∃b,rest.foldl (λacc h=>do
   let(owner,k)<-acc
   let j<-layClean.free t.mask owner (turns t.mask) (bits h%(t.mask+1)) (bits h)
   pure (owner.setIfInBounds j (some k),k+1)) (some (owner,done.length))=some (b,(done++rest).length)/\LO t (done++rest) b:=by
  intro rest
  induction rest with
  | nil=>intro done owner L _;exact⟨owner,by simp,by simpa using L⟩
  | cons h rest g=>
    intro done owner L i;simp only[Z8,Zq]at i;obtain⟨j,f,l⟩:=L.step c (by lia) h;obtain⟨b,e,L2⟩:=g (done++[h]) _ l (by simp only[Z8,Zq,length_nil];lia);refine⟨b,?_,by simpa using L2⟩;rw[foldl_cons];have m:(do
     let(owner,k)<-(some (owner,done.length):Option (Array (Option Nat)×Nat))
     let j<-layClean.free t.mask owner (turns t.mask) (bits h%(t.mask+1)) (bits h)
     pure (owner.setIfInBounds j (some k),k+1))=some (owner.setIfInBounds j (some done.length),(done++[h]).length):=by
     show(layClean.free t.mask owner (turns t.mask) (bits h%(t.mask+1)) (bits h)).bind _=_;rw[f];simp
    rw[m,e];simp
 have n:LO t [] (Array.replicate (t.mask+1) none):=⟨by simp,λj q e=>by
  rw[Array.getElem?_replicate]at e
  split at e<;> simp at e,λq o=>absurd o (Yi _),λj p q e _=>by
  rw[Array.getElem?_replicate]at e
  split at e<;> simp at e⟩
 obtain⟨owner,e,L⟩:=d a.toList [] _ n (by simpa using room);refine⟨owner,?_,by simpa using L⟩;unfold layClean;rw[<-Array.foldl_toList];rw[show(0:Nat)=([]:List Int).length from rfl,e];rfl
end STab
namespace STab
open PySem PySem.SetTable
theorem pM(n:Nat):∀(fuel k:Nat),3<=k->n<2^(k+fuel)->(2^k<=2*n\/k=3)->∃a,3<=a/\sizeAbove.go n fuel (2^k)=2^a/\n<2^a/\(2^a<=2*n\/a=3)
 | 0,k,b,c,d=>⟨k,b,rfl,by simpa using c,d⟩
 | fuel+1,k,b,c,d=>by
   rw[sizeAbove.go];by_cases h:2^k<=n
   ·rw[if_pos h];have e:2^k*2=2^(k+1):=by rw[pow_succ]
    rw[e];exact pM n fuel (k+1) (by lia) (by rw[show k+1+fuel=k+(fuel+1) by lia];exact c) (.inl (by lia))
   ·rw[if_neg h];exact⟨k,b,rfl,by lia,d⟩
theorem qU(a:n<2^60):∃k,3<=k/\sizeAbove n=2^k/\n<2^k/\(2^k<=2*n\/k=3):=
 pM n 64 3 (Zh _) (Zf a (Nat.pow_le_pow_right (by decide) (by decide))) (.inr rfl)
theorem lu [DecidableEq d]:∀{l m:List d},l.Nodup->m.Nodup->(∀x,x∈l↔x∈m)->l.Perm m
 |[],m,_,_,h=>by
  cases m with
  | nil=>exact List.Perm.refl _
  | cons x m=>exact absurd ((h x).mpr Zl) (by simp)
 | x::l,m,f,c,h=>by
   obtain⟨g,i⟩:=nodup_cons.mp f;have j:x∈m:=(h x).mp Zl;have p:=List.perm_cons_erase j;refine List.Perm.trans (List.Perm.cons x (lu i (c.erase x) λy=>?_)) p.symm
   constructor
   ·intro a;exact(List.mem_erase_of_ne (λe:y=x=>g (by rw[<-e];exact a))).mpr ((h y).mp (Zj _ a))
   ·intro a;have b:y≠x:=λe=>by rw[e]at a;exact c.not_mem_erase a
    rcases mem_cons.mp ((h y).mpr (List.mem_of_mem_erase a))with q|q
    ·exact absurd q b
    ·exact q
theorem yt{t:SetTable}(Y:t.mask+1=2^k)(G:7<=t.mask)(c:Array (Int×Value))(room:c.size<=t.mask)(finger moves:Nat)(led plain:Bool):
 ∃t' d,laid t.mask finger moves led plain (c.map (·.1))=some (t',d)/\t'.mask=t.mask/\t'.led=led/\t'.plain=plain/\t'.moves=moves/\WF t' (d.filterMap (c[·]?))/\(d.filterMap (c[·]?)).toList.Perm c.toList:=by
 obtain⟨owner,e,L⟩:=pL Y (c.map (·.1)) (by rw[size_map];lia);have hsz:(c.map (·.1)).toList.length=c.size:=by simp
 obtain⟨live,v⟩:∃live,(List.range (t.mask+1)).filterMap (λj=>(owner.getD j none).map (λq=>(j,q)))=live:=⟨_,rfl⟩
 refine⟨⟨t.mask,(live.map (·.1)).toArray,#[],finger,led,moves,plain⟩,(live.map (·.2)).toArray,by unfold laid;rw[e,<-v];rfl,rfl,rfl,rfl,rfl,?_⟩;have gd:∀j q,owner.getD j none=some q↔owner[j]? =some (some q):=λj q=>by
  rw[Array.getD_eq_getD_getElem?];cases owner[j]? with
  | none=>simp
  | some o=>simp
 have mem:∀j q,(j,q)∈live↔owner[j]? =some (some q):=λj q=>by
  rw[<-v,mem_filterMap]
  constructor
  ·rintro⟨E,ab,H⟩;obtain⟨z,s,I⟩:=map_eq_some_iff.mp H;cases I;exact(gd j q).mp s
  ·intro ho;have:j<owner.size:=by
    obtain⟨f,_⟩:=Array.getElem?_eq_some_iff.mp ho;exact f
   refine⟨j,mem_range.mpr (by rw[L.size]at this;exact this),?_⟩;rw[(gd j q).mpr ho];rfl
 have r:(live.map (·.1)).Pairwise (·<·):=by
  rw[<-v,Yl,List.pairwise_filterMap];refine List.Pairwise.imp (λ{a b} u x hx y J=>?_) List.pairwise_lt_range;obtain⟨_,_,rfl⟩:=map_eq_some_iff.mp hx;obtain⟨_,_,rfl⟩:=map_eq_some_iff.mp J;exact u
 have w:∀j q,(j,q)∈live->q<c.size:=λj q h=>by
  obtain⟨h',s,_⟩:=L.own j q ((mem j q).mp h);have:=(Ys s).1
  lia
 have B:(live.map (·.2)).Nodup:=by
  rw[nodup_iff_pairwise_ne,Yl];have nd:live.Pairwise λa b=>a.1<b.1:=by rw[Yl]at r;exact r
  refine Yp (λ{a b} M G u g=>?_) nd;have f:=(mem a.1 a.2).mp M;have N:=(mem b.1 b.2).mp G;rw[<-g]at N;have:=L.one _ _ _ f N
  lia
 have C:(live.map (·.2)).Perm (List.range c.size):=lu B nodup_range λq=>by
  constructor
  ·intro g;obtain⟨⟨j,z⟩,f,rfl⟩:=Yv g;exact mem_range.mpr (w j z f)
  ·intro g;obtain⟨j,D⟩:=L.all q (by rw[hsz];exact mem_range.mp g);exact Yw ⟨(j,q),(mem j q).mpr D,rfl⟩
 have fm:∀(l:List Nat),(∀q∈l,q<c.size)->l.filterMap (c[·]?)=l.map (λq=>c.getD q (0,Value.none)):=by
  intro l
  induction l with
  | nil=>intro _;rfl
  | cons q l ih=>
    intro g;have f:=g q Zl;have s:c[q]? =some (c.getD q (0,Value.none)):=by simp[Array.getD,f]
    rw[Zx,s,Ya,ih λy J=>g y (Zj _ J)]
 have O:((live.map (·.2)).toArray.filterMap (c[·]?)).toList=(live.map (·.2)).map (λq=>c.getD q (0,Value.none)):=by
  rw[Array.toList_filterMap,toList_toArray];exact fm _ λq g=>by
   obtain⟨⟨j,z⟩,f,rfl⟩:=Yv g;exact w j z f
 have er:c.toList=(List.range c.size).map (λq=>c.getD q (0,Value.none)):=by
  apply ext_getElem
  ·simp
  ·intro i f N;have f:i<c.size:=by simpa using f
   simp[Array.getD,f]
 refine⟨⟨⟨k,Y⟩,G,rfl,?_,λj D=>?_,?_,λi j h x hi A=>?_⟩,?_⟩
 ·intro a b M Q u;have:=List.pairwise_iff_getElem.mp r a b (by simpa using M) (by simpa using Q) u;simpa using this
 ·have D:j∈live.map (·.1):=by simpa using D
  obtain⟨⟨E,q⟩,f,rfl⟩:=Yv D;have:=(Array.getElem?_eq_some_iff.mp ((mem E q).mp f)).1;rw[L.size]at this;show E<=t.mask
  lia
 ·show(live.map (·.1)).toArray.size=_;rw[<-Za (xs:=Array.filterMap _ _),O];simp
 ·have hi:(live.map (·.1))[i]? =some j:=by simpa using hi
  have A:((live.map (·.2)).toArray.filterMap (c[·]?)).toList[i]? =some (h,x):=by simpa using A
  rw[O,Yb,Zk]at A;rw[Zk]at hi;cases T:live[i]? with
  | none=>rw[T]at hi;cases hi
  | some p=>
    obtain⟨E,q⟩:=p;rw[T]at hi A;cases hi;have hm:=Z7 T;obtain⟨h',s,n,n1,n2⟩:=L.own _ q ((mem _ q).mp hm);have g:=w _ q hm;have eh:h'=h:=by
     have I:(c.map (·.1)).toList[q]? =some (c[q]).1:=by simp[g]
     rw[I]at s;have e3:c.getD q (0,Value.none)=c[q]:=by simp[Array.getD,g]
     simp only[Function.comp,Option.map_some,e3,Option.some.injEq]at A;rw[A]at s;exact(Z9 s).symm
    subst eh;have wm:∀n,way {mask:=t.mask,place:=(live.map (·.1)).toArray,dummies:= #[],finger:=finger,led:=led,moves:=moves,plain:=plain} h' n=way t h' n:=λn=>mL (t':=t) (by rfl) h' n
    refine⟨n,by rw[wm];exact n1,λm U=>?_⟩;rw[wm];have hw:way t h' m<owner.size:=by rw[L.size];have:=nW t h' m;lia
    obtain⟨z,H⟩:=(eR hw).mp (n2 m U);show way t h' m∈(live.map (·.1)).toArray.toList;rw[toList_toArray];exact Yw ⟨(way t h' m,z),(mem _ _).mpr H,rfl⟩
 ·rw[O,er];exact C.map _
end STab
namespace STab
open PySem PySem.SetTable
section
variable{prog:Program}{w:World}{K:Type}[DecidableEq K]{knd:KeyKind prog w K}{A:Around}{E:Value->Shared->Prop}{s:Shared}
def EL(knd:KeyKind prog w K)(h:Heap)(a:Array (Int×Value)):Prop:=∀(i:Nat) e,a[i]? =some e->∃r k,e=(tupleKeyHash knd k,Value.ref r)/\IsTupleKey knd h k r
theorem jV(g:IsTupleKey knd s.heap ks r)(h:Q false s):wpAny (model prog w) A (ofAClassStatement 8 (.ref r)) Q E s:=by
 have k:=g.typeIs;obtain⟨o,c,n,l,_,m,hi⟩:=g;unfold ofAClassStatement;refine Z2 (wpAny_typeOf k ?_);dsimp only;rw[if_pos (by simp)];refine Z2 (Z3 ?_);simp only[Bool.not_true,Zw,if_false];refine Z2 (wpAny_seqItems l m ?_);dsimp only;refine Z2 ?_;rw[<-Array.forIn_toList];refine wpAny_forIn_list _ (λrest r s'=>r=(none,())/\s'=s/\∃i,ItemsAre knd i rest) _ ?_ ?_ _ _ ⟨rfl,rfl,ks,hi⟩
 ·rintro x rest r s' ⟨rfl,rfl,i,d⟩;cases d with
  | @cons t u f j p b=>
    have q:=knd.byValue _ _ p;have e:ofAClassStatement 7 x=pure false:=by
     cases x with
     | ref a=>simp[carriedByValue]at q
     | _=>first|rfl|simp[ofAClassStatement]|(unfold ofAClassStatement;rfl)
    refine Z2 ?_;rw[e];refine Z3 ?_;simp only[Zw,if_false];exact Z3 ⟨rfl,rfl,f,b⟩
 ·rintro r s' ⟨rfl,rfl,_⟩;exact Z3 h
theorem qV(d:IsTupleKey knd s.heap ks r):∀(l:List Value),(∀y∈l,∃a b,y=Value.ref a/\IsTupleKey knd s.heap b a)->∀{Q:Bool->Shared->Prop},Q false s->wpAny (model prog w) A (searchCouldBeSeen (.ref r) l) Q E s:=by
 intro l g Q h;unfold searchCouldBeSeen;refine Z2 ?_;refine wpAny_forIn_list _ (λrest x s'=>x=(none,())/\s'=s/\∀y∈rest,∃a b,y=Value.ref a/\IsTupleKey knd s.heap b a) _ ?_ ?_ _ _ ⟨rfl,rfl,g⟩
 ·rintro y rest x s' ⟨rfl,rfl,e⟩;obtain⟨a,b,rfl,c⟩:=e y Zl;have f:∀y∈rest,∃a b,y=Value.ref a/\IsTupleKey knd s'.heap b a:=λy i=>e y (Zj _ i)
  dsimp only
  split
  ·exact Z3 ⟨rfl,rfl,f⟩
  ·refine Z2 (wpAny_eqIsQuiet_tuple d ?_);simp only[Bool.not_true,Zw,if_false];refine Z2 (wpAny_eqIsQuiet_tuple c ?_);simp only[Bool.not_true,Zw,if_false];refine Z2 (jV d ?_);simp only[Zw,if_false];refine Z2 (jV c ?_);simp only[Zw,if_false];exact Z3 ⟨rfl,rfl,f⟩
 ·rintro x s' ⟨rfl,rfl,_⟩;exact Z3 h
theorem nX(hu:A.units<cLine)(ho:s.heap.get? a=some o)(hd:o.data= .set v ep t)(W:WF t v)(room:t.place.size<=t.mask)(ac:t.mask<=9000)
 (el:EL knd s.heap v) (hk:IsTupleKey knd s.heap k r)
 (h1:(∃(i:Nat) (g:Addr),v[i]? =some (tupleKeyHash knd k,Value.ref g)/\IsTupleKey knd s.heap k g)->Q (.there none) s)
 (h2:∀m,way t (tupleKeyHash knd k) m∉t.place.toList->(∀q,q<m->way t (tupleKeyHash knd k) q∈t.place.toList)->(∀(i:Nat) g p,v[i]? =some (tupleKeyHash knd p,Value.ref g)->IsTupleKey knd s.heap p g->p≠k)->Q (.free (way t (tupleKeyHash knd k) m) false) s):
 wpAny (model prog w) A (setSearch a (.ref r) (tupleKeyHash knd k) true) Q E s:=by
 generalize hh:tupleKeyHash knd k=h at h1 h2
 have hf:t.fits v.size=true:=by
  unfold fits fill;rw[W.dum];simp[W.size];rw[<-W.size];exact room
 obtain⟨M,m1,m2,m3⟩:=qR W room h;have me:t.slot (way t h M)= .empty:=by
  rcases iB W.rise W.dum (way t h M)with⟨i,e,_⟩|⟨_,e⟩
  ·exact absurd (mem_toList_iff.mpr (Array.mem_of_getElem? e)) m2
  ·exact e
 have odd:t.gaveWay=false:=by
  obtain⟨c,hc⟩:=W.pow;have hb:=W.big;have c0:c≠0:=λq=>by rw[q]at hc;lia
  obtain⟨c',rfl⟩:=Nat.exists_eq_succ_of_ne_zero c0;rw[pow_succ]at hc;unfold gaveWay;have:t.mask%2=1:=by lia
  simp[this]
 have N:∀(fuel n:Nat) (st:Option Probe),st.getD (t.probeStart h)=stand t h n->n<=M->M<n+fuel->(∀j,j<n->∀(i:Nat) g p,t.slot (way t h j)= .live i->v[i]? =some (tupleKeyHash knd p,Value.ref g)->IsTupleKey knd s.heap p g->p≠k)->
  wpAny (model prog w) A (setSearchFrom a (.ref r) h true fuel st) Q E s:=by
  intro fuel
  induction fuel with
  | zero=>intro n st _ a1 a2;lia
  | succ fuel ih=>
    intro n st al hn a7 O;unfold setSearchFrom;refine Z2 (wpAny_setState_of ho hd hf ?_);dsimp only;rw[odd];simp only[Zw,if_false];rw[al]
    generalize an:SetTable.probe t _ h (stand t h n)=pr
    have l:SetTable.probe.go t (λi=>((v[i]?).map (·.1)).getD 0) h (10*turns t.mask) (stand t h n)=pr:=an;obtain⟨q,q1,q2,q3,q4⟩:=pJ (t:=t) W.dum (hashAt:=λi=>((v[i]?).map (·.1)).getD 0) (h:=h) (10*turns t.mask) n M hn (by lia) me;rcases q4 with⟨I,e2⟩|⟨i,I,e2,e3⟩
    ·rw[e2]at l;subst l;have hq:q=M:=by
      rcases Nat.eq_or_lt_of_le q2 with z|z
      ·exact z
      ·have:=m3 q z;rcases iB W.rise W.dum (way t h q)with⟨i,_,T⟩|⟨z2,_⟩
       ·rw[I]at T;cases T
       ·exact absurd this z2
     subst hq;dsimp only;refine Z3 (h2 q m2 m3 λi g p u B C=>?_);subst C;rw[hh]at u;have hi:i<v.size:=(Array.getElem?_eq_some_iff.mp u).1;have hp:t.place[i]? =some (t.place[i]'(by rw[W.size];exact hi)):=by simp[W.size,hi]
     obtain⟨U,c1,c2⟩:=W.chain i _ h _ hp u;have D:=mK W.rise hp;have as:U<q:=by
      rcases Nat.lt_trichotomy U q with z|z|z
      ·exact z
      ·rw[z,]at c1;rw[<-c1,me]at D;cases D
      ·exact absurd (c2 q z) m2
     rw[<-c1]at D;by_cases Y:U<n
     ·exact O U Y i g p D (by rw[hh];exact u) B rfl
     ·obtain⟨G,T,ab⟩:=q3 U (by lia) as;rw[D]at T;cases T;rw[u]at ab;exact ab rfl
    ·rw[e3]at l;subst l;obtain⟨x0,u⟩:∃e,v[i]? =some e:=by
      have au:t.place[i]? =some (way t h q):=by
       rcases iB W.rise W.dum (way t h q)with⟨G,p1,H⟩|⟨_,H⟩
       ·rw[I]at H;cases H;exact p1
       ·rw[I]at H;cases H
      have:=(Array.getElem?_eq_some_iff.mp au).1;exact⟨v[i]'(by rw[<-W.size];exact this),by simp[<-W.size,this]⟩
     obtain⟨g,p,rfl,B⟩:=el i x0 u;have eh:tupleKeyHash knd p=h:=by rw[u]at e2;exact e2
     have a8:q<M:=Nat.lt_of_le_of_ne q2 λz=>by rw[z,me]at I;cases I
     have J:wpAny (model prog w) A (do
      let f<-holding [Value.ref g] (eqBool (Value.ref g) (Value.ref r))
      let x<-setState a
      if(true&&f)=true then pure (SetFound.there none)
      else match x.2.snd.sameMemory t.moves t.mask with
       | some same=>
         match if same=true then x.2.snd.slot (way t h q)else Slot.empty with
         | Slot.live G=>
           match x.fst[G]? with
           | some (_,y')=>do
             let b<-isSame y' (Value.ref g)
             let d<-pure (if b=true then some G else none)
             match d with
              | none=>do
                rule "set.search.anew"
                setSearchFrom a (Value.ref r) h true fuel none
              | some G=>
                if f=true then pure (SetFound.there (some G))
                else setSearchFrom a (Value.ref r) h true fuel (some (stand t h (q+1)))
           | none=>do
             let d<-pure none
             match d with
              | none=>do
                rule "set.search.anew"
                setSearchFrom a (Value.ref r) h true fuel none
              | some G=>
                if f=true then pure (SetFound.there (some G))
                else setSearchFrom a (Value.ref r) h true fuel (some (stand t h (q+1)))
         | x=>do
           let d<-pure none
           match d with
            | none=>do
              rule "set.search.anew"
              setSearchFrom a (Value.ref r) h true fuel none
            | some G=>
              if f=true then pure (SetFound.there (some G))
              else setSearchFrom a (Value.ref r) h true fuel (some (stand t h (q+1)))
       | x=>unsupported "set.changed-during-lookup:is-the-new-block-at-the-old-address") Q E s:=by
      refine Z2 (wpAny_holding (wpAny_eqBool_tuple hu B hk ?_));refine Z2 (wpAny_setState_of ho hd hf ?_);dsimp only;by_cases C:p=k
      ·subst C;rw[Ze rfl];simp only[Bool.and_self,if_true];exact Z3 (h1 ⟨i,g,by rw[<-eh];exact u,B⟩)
      ·rw[Zg C];simp only[Bool.and_false,Zw,if_false];have sm:t.sameMemory t.moves t.mask=some true:=by unfold sameMemory;rw[if_pos (by simp)]
       rw[sm];simp only[if_true];rw[I];dsimp only;rw[u];dsimp only;have same:isSame (Value.ref g) (Value.ref g)=pure true:=by
        unfold isSame;simp
       refine Z2 ?_;rw[same];refine Z3 ?_;simp only[if_true];refine Z2 (Z3 ?_);dsimp only;refine ih (q+1) _ rfl (by lia) (by lia) λj hj i2 r2 k2 s2 g2 t2=>?_
       by_cases av:j<n
       ·exact O j av i2 r2 k2 s2 g2 t2
       ·by_cases a0:j=q
        ·subst a0;rw[I]at s2;cases s2;rw[u]at g2;have:g=r2:=by
          have:=Z9 g2;injection this with _ z
          injection z
         subst this;rw[<-B.inj t2];exact C
        ·obtain⟨i3,p1,H⟩:=q3 j (by lia) (by lia);rw[s2]at p1;cases p1;rw[g2]at H;intro z;rw[z]at H;exact H hh
     dsimp only;rw[u];dsimp only;by_cases L:(!t.led)=true
     ·rw[if_pos L];refine Z2 (qV hk _ (λy hy=>?_) ?_)
      ·obtain⟨e,a3,rfl⟩:=Yv hy;have a4:=(Array.mem_filter.mp (mem_toList_iff.mp a3)).1;obtain⟨i2,a5⟩:=Array.getElem?_of_mem a4;obtain⟨r2,k2,rfl,a6⟩:=el i2 e a5;exact⟨r2,k2,rfl,a6⟩
      ·simp only[Zw,if_false];exact J
     ·rw[if_neg L];exact J
 exact N 100000 0 none rfl (Yn _) (by unfold turns at m1;lia) (λj hj=>absurd hj (Yi _))
end
end STab
namespace STab
open PySem PySem.SetTable
structure IN (es:Array (Int×Value)) (t:SetTable) (led:Bool):Prop where
 wf:WF t es
 roomy:t.place.size*5<t.mask*3
 small:t.mask<=7\/t.mask+1<=8*es.size
 led:t.led=led
 plain:es.size≠0->t.plain=false
theorem IN.fits{a:Array (Int×Value)}{t:SetTable}{led:Bool}(I:IN a t led):t.fits a.size=true:=by
 unfold SetTable.fits fill;rw[I.wf.dum];have:=I.roomy;simp[I.wf.size];rw[<-I.wf.size]
 lia
theorem IN.fresh(finger moves:Nat)(led:Bool):IN #[] (SetTable.fresh finger moves led) led:=
 ⟨⟨⟨3,rfl⟩,Zh _,rfl,λa b c=>absurd c (by simp[SetTable.fresh]),λj d=>by simp[SetTable.fresh]at d,rfl,λi j h x hi=>by simp[SetTable.fresh]at hi⟩,show 0*5<7*3 from by decide,.inl (Zh _),rfl,λq=>absurd rfl q⟩
section
variable{prog:Program}{w:World}{K:Type}[DecidableEq K]{knd:KeyKind prog w K}{A:Around}{E:Value->Shared->Prop}{s:Shared}
theorem yu(e:s.heap.get? a=some o)(f:o.data= .set c B t)(j:t.fits c.size=true)(C:c.size<=n)(hw:n<=4000)
 (h:∀es' t',es'.toList.Perm c.toList->WF t' es'->t'.led=t.led->t'.plain=t.plain->n<=t'.mask->t'.mask+1<=2*n\/t'.mask<=7->Q () {s with heap:=s.heap.update a (Obj.putSet es' t')}):
 wpAny (model prog w) A (setRelay a n) Q E s:=by
 obtain⟨k,l,g,lt,m⟩:=qU (n:=n) (by lia);have D:8<=2^k:=Y2 (by decide:8<=2^3) (Nat.pow_le_pow_right (by decide) l);have i:2^k<=2*n\/2^k=8:=by
  rcases m with q|q
  ·exact .inl q
  ·exact .inr (by rw[q])
 have p:2^k<=8000:=by rcases i with q|q<;> lia
 let r:SetTable:={t with mask:=2^k-1}
 obtain⟨t',b,u,v,x,y,G,W,P⟩:=yt (t:=r) (k:=k) (by show 2^k-1+1=2^k;lia) (by show 7<=2^k-1;lia) c (by show c.size<=2^k-1;lia) t.finger (t.movedTo (2^k-1)) t.led t.plain;have z:t.relaid (c.map (·.1)) n=some (t',b):=by
  unfold relaid;rw[g];exact u
 have sz:(b.filterMap (c[·]?)).size=c.size:=by rw[<-Za,P.length_eq,Za]
 unfold setRelay;refine Z2 (wpAny_setState_of e f j ?_);dsimp only;rw[g,if_neg (by rw[PySem.sizeLine_eq];lia)];rw[z];have H:t'.mask=2^k-1:=v;have d:=h (b.filterMap (c[·]?)) t' P W x y (by lia) (by rcases i with q|q<;> lia);refine Z2 ?_;show wpAny (model prog w) A (if((b.filterMap (c[·]?)).size != c.size)=true then _ else pure (b.filterMap (c[·]?),t')) _ E s;rw[if_neg (by simp[sz])];refine Z3 ?_;exact wpAny_storeSet_of e f d (by rw[sz,PySem.sizeLine_eq];lia)
theorem wL(d:s.heap.get? a=some o)(e:o.data= .set b i t)(f:t.fits b.size=true)(j:b.size<=1000)(k:b.size≠0)(c:t.plain=false)
 (h:∀es' t',es'.toList.Perm b.toList->IN es' t' t.led->t'.plain=false->Q () {s with heap:=s.heap.update a (Obj.putSet es' t')}):
 wpAny (model prog w) A (setRelay a (grown b.size)) Q E s:=by
 have g:grown b.size=b.size*4:=by unfold grown;rw[if_neg (by lia)]
 rw[g];refine yu d e f (by lia) (by lia) λes' t' P W l p m m2=>?_
 have sz:es'.size=b.size:=by rw[<-Za,P.length_eq,Za]
 exact h es' t' P ⟨W,by rw[W.size,sz];lia,by rw[sz];rcases m2 with q|q<;> lia,l,λ_=>by rw[p];exact c⟩ (by rw[p];exact c)
theorem uf{led:Bool}(J:A.units<cLine)(p:s.heap.get? a=some o)(n:o.data= .set c L t)(I:IN c t led)(hn:c.size+1<=1000)
 (el:EL knd s.heap c) (C:IsTupleKey knd s.heap k r) (hv:∀(s':Shared) (M:Bool->Shared->Prop),IsTupleKey knd s'.heap k r->M false s'->wpAny (model prog w) A (hashByValue 8 (.ref r)) M E s')
 (h1:(∃(i:Nat) (u:Addr),c[i]? =some (tupleKeyHash knd k,Value.ref u)/\IsTupleKey knd s.heap k u)->Q false {s with toks:=s.toks+(k.length+1)})
 (N:(∀(i:Nat) (u:Addr) (D:List K),c[i]? =some (tupleKeyHash knd D,Value.ref u)->IsTupleKey knd s.heap D u->D≠k)->∀es' t' G h',h'.get? a=some {o with data:= .set es' G t'}->SameBut a s.heap h'->es'.toList.Perm (c.toList++[(tupleKeyHash knd k,Value.ref r)])->IN es' t' led->Q true {s with heap:=h',toks:=s.toks+(k.length+1)}):
 wpAny (model prog w) A (setAdd a (.ref r)) Q E s:=by
 unfold setAdd;refine wpAny_holding (Z2 (wpAny_pyHash_tuple J C ?_));unfold setAddHashed;refine wpAny_holding ?_;unfold setAddHashedIn;refine Z2 (wpAny_setState_of (s:={s with toks:=s.toks+(k.length+1)}) p n I.fits ?_);dsimp only;have ns:byScan (Value.ref r) c=false:=by unfold byScan;simp[Value.scannable]
 rw[ns];simp only[Zw,if_false];have sm:t.mask<=9000:=by rcases I.small with q|q<;> lia
 have rm:=I.roomy;refine Z2 (nX (s:={s with toks:=s.toks+(k.length+1)}) J p n I.wf (by lia) sm el C (λq=>?_) λm O m2 T=>?_)
 ·exact Z3 (h1 q)
 ·dsimp only;refine Z2 (wpAny_setState_of (s:={s with toks:=s.toks+(k.length+1)}) p n I.fits ?_);dsimp only;have v:=I.wf;obtain⟨p1,U,Y,p4,p5,p6,Wp⟩:=v.put (x:=Value.ref r) O m2 t.led false;obtain⟨_,_,_,_,_,_,Wq⟩:=v.put (x:=Value.ref r) O m2 (t.put (way t (tupleKeyHash knd k) m)).1.led (t.put (way t (tupleKeyHash knd k) m)).1.plain;have y:(t.put (way t (tupleKeyHash knd k) m)).2<=c.size:=by
   rw[p1,<-v.size];exact(iA v.rise _).1
  have e:(insertAt c (t.put (way t (tupleKeyHash knd k) m)).2 (tupleKeyHash knd k,Value.ref r)).size=c.size+1:=gn _ _ _ y;have g:(insertAt c (t.put (way t (tupleKeyHash knd k) m)).2 (tupleKeyHash knd k,Value.ref r)).toList.Perm (c.toList++[(tupleKeyHash knd k,Value.ref r)]):=by
   rw[iV _ _ _ y];have q:=List.take_append_drop (t.put (way t (tupleKeyHash knd k) m)).2 c.toList;refine List.Perm.trans List.perm_middle ?_;rw[q];exact List.perm_append_comm (l₁:=[_])
  generalize ab:insertAt c (t.put (way t (tupleKeyHash knd k) m)).2 (tupleKeyHash knd k,Value.ref r)=b at Wp Wq e g
  have f:∀t2:SetTable,WF t2 b->t2.mask=t.mask->t2.place.size=t.place.size+1->t2.led=led->t2.plain=false->
   wpAny (model prog w) A (do storeSet a b t2;if(!false&&t2.tooFull)=true then do setRelay a (grown (c.size+1));pure true else pure true) Q E {s with toks:=s.toks+(k.length+1)}:=λt2 z e1 e2 e3 e4=>by
   have g1:(s.heap.update a (Obj.putSet b t2)).get? a=some {o with data:= .set b (L+1) t2}:=by
    have q:=get?_update_self (Obj.putSet b t2) p (by rw[putSet_of b t2 n];rfl);rwa[putSet_of b t2 n]at q
   have b1:=SameBut.update s.heap a (Obj.putSet b t2);refine Z2 (wpAny_storeSet_of (s:={s with toks:=s.toks+(k.length+1)}) p n ?_ (by rw[e];exact Y2 hn (by decide)));have h:t2.tooFull=true↔t2.mask*3<=t2.place.size*5:=by
    unfold tooFull fill;rw[z.dum];simp
   have j:t2.place.size<=t2.mask:=by rw[e1,e2];have:=v.big;lia
   by_cases H:t2.tooFull=true
   ·rw[if_pos (by simp[H])];have B:t2.fits b.size=true:=by
     unfold SetTable.fits fill;rw[z.dum];simp[z.size];rw[<-z.size];exact j
    rw[<-e];refine Z2 (wL (s:={s with heap:=s.heap.update a (Obj.putSet b t2),toks:=s.toks+(k.length+1)}) g1 rfl B (by lia) (by lia) e4 λd t3 P3 I3 _=>Z3 ?_);have g2:((s.heap.update a (Obj.putSet b t2)).update a (Obj.putSet d t3)).get? a=some {o with data:= .set d (L+1+1) t3}:=by
     have q:=get?_update_self (Obj.putSet d t3) g1 (by rw[putSet_of d t3 rfl];rfl);rwa[putSet_of d t3 rfl]at q
    exact N T d t3 _ _ g2 (b1.trans (SameBut.update _ a _)) (P3.trans g) (by rw[e3]at I3;exact I3)
   ·rw[if_neg (by simp[H])];have ac: ¬ t2.mask*3<=t2.place.size*5:=λq=>H (h.mpr q)
    refine Z3 (N T b t2 _ _ g1 b1 g ⟨z,by lia,?_,e3,λ_=>e4⟩);rw[e1,e];rcases I.small with q|q
    ·exact .inl q
    ·exact .inr (by lia)
  by_cases l:(t.put (way t (tupleKeyHash knd k) m)).1.plain=true
  ·rw[if_pos l];refine Z2 (hv _ _ C ?_);simp only[Zw,if_false];exact f _ Wp U Y I.led rfl
  ·rw[if_neg l];refine Z2 (Z3 ?_);simp only[if_true];exact f _ Wq U Y (p4.trans I.led) (by simpa using l)
end
end STab
namespace L2
open PySem PySem.Spec PyProof.Rows STab
noncomputable def eS{a:Type}[DecidableEq a](ps:List (Addr×a))(p:Addr×a):List (Addr×a):=if p.2∈ps.map (·.2)then ps else ps++[p]
noncomputable def aX{a:Type}[DecidableEq a](l:List (Addr×a)):List (Addr×a):=l.foldl eS []
section
variable{κ:Type}[DecidableEq κ]
theorem wM{ps:List (Addr×κ)}{p q:Addr×κ}(h:q∈eS ps p):q∈ps\/q=p:=by
 unfold eS at h
 split at h
 ·exact .inl h
 ·rcases Yt h with h|h
  ·exact .inl h
  ·exact .inr (Yu h)
theorem ug{ps:List (Addr×κ)}{p:Addr×κ}{k:κ}:k∈(eS ps p).map (·.2)↔k∈ps.map (·.2)\/k=p.2:=by
 unfold eS;by_cases h:p.2∈ps.map (·.2)
 ·rw[if_pos h];exact⟨.inl,λq=>q.elim id λe=>e▸h⟩
 ·rw[if_neg h,Zc,Yc];simp
theorem qW{ps:List (Addr×κ)}{p:Addr×κ}(h:(ps.map (·.2)).Nodup):((eS ps p).map (·.2)).Nodup:=by
 unfold eS
 split
 ·exact h
 ·rename_i a
  rw[Zc];exact kj h a
theorem sF:∀(l ps:List (Addr×κ)),(ps.map (·.2)).Nodup->((l.foldl eS ps).map (·.2)).Nodup/\(∀k,k∈(l.foldl eS ps).map (·.2)↔k∈ps.map (·.2)\/k∈l.map (·.2))/\(∀q∈l.foldl eS ps,q∈ps\/q∈l)
 |[],ps,h=>⟨h,λk=>by simp,λq a=> .inl a⟩
 | p::l,ps,h=>by
   obtain⟨b,c,d⟩:=sF l (eS ps p) (qW h);rw[foldl_cons];refine⟨b,λk=>?_,λq a=>?_⟩
   ·rw[c,ug,Ya,Ye];exact⟨λh=>h.elim (λh=>h.elim .inl λe=> .inr (.inl e)) λh=> .inr (.inr h),λh=>h.elim (λh=> .inl (.inl h)) λh=>h.elim (λe=> .inl (.inr e)) .inr⟩
   ·rcases d q a with z|z
    ·rcases wM z with z|z
     ·exact .inl z
     ·exact .inr (by rw[z];exact Zl)
    ·exact .inr (Zj _ z)
theorem ic(l:List (Addr×κ)):((aX l).map (·.2)).Nodup:=(sF l [] nodup_nil).1
theorem nY(l:List (Addr×κ))(k:κ):k∈(aX l).map (·.2)↔k∈l.map (·.2):=by
 have:=(sF l [] nodup_nil).2.1 k;simpa [aX]using this
theorem cB(l:List (Addr×κ)):∀q∈aX l,q∈l:=λq a=>by
 rcases(sF l [] nodup_nil).2.2 q a with z|z
 ·cases z
 ·exact z
theorem nZ(val:Nat->Addr×κ)(i:Nat):aX ((List.range (i+1)).map val)=eS (aX ((List.range i).map val)) (val i):=by
 unfold aX;rw[range_succ,Zc,List.foldl_append];rfl
end
section
variable{prog:Program}{w:World}{κ:Type}[DecidableEq κ]{knd:PySem.KeyKind prog w κ}{A:Around}{E:Value->Shared->Prop}{s:Shared}{a:Addr}
def j9(w:World)(knd:PySem.KeyKind prog w κ)(a:Addr)(ps:List (Addr×List κ))(h:Heap):Prop:=
 ∃o b c t,h.get? a=some o/\o.ExactSet/\o.data= .set b c t/\IN b t (!bj w)/\b.toList.Perm (ps.map λp=>(tupleKeyHash knd p.2,Value.ref p.1))
theorem j9.keep(S:j9 w knd a ps h)(k:∀o,h.get? a=some o->h'.get? a=some o):j9 w knd a ps h':=by
 obtain⟨o,b,c,t,d,r⟩:=S;exact⟨o,b,c,t,k o d,r⟩
theorem kl(x:IsTupleKey knd h k r)(q:∀o,h.get? r=some o->h'.get? r=some o):IsTupleKey knd h' k r:=by
 obtain⟨o,b,n,c,z⟩:=x;exact⟨o,b,n,q o c,z⟩
theorem wN(r:A.units<cLine)(u:j9 w knd a ps s.heap)(tk:∀q∈ps,IsTupleKey knd s.heap q.2 q.1)(v:IsTupleKey knd s.heap p.2 p.1)(room:ps.length+1<=1000)
 (x:∀(s':Shared) (k:Bool->Shared->Prop),IsTupleKey knd s'.heap p.2 p.1->k false s'->wpAny (model prog w) A (hashByValue 8 (.ref p.1)) k E s')
 (l:∀h' b tk,SameBut a s.heap h'->j9 w knd a (eS ps p) h'->s.toks<=tk->Q b {s with heap:=h',toks:=tk}):wpAny (model prog w) A (setAdd a (.ref p.1)) Q E s:=by
 obtain⟨o,f,y,t,m,g,n,I,P⟩:=u;have O:f.size=ps.length:=by
  have:=P.length_eq;rw[Z5,Za]at this;exact this
 have mem:∀(i:Nat) e,f[i]? =some e->∃q∈ps,e=(tupleKeyHash knd q.2,Value.ref q.1):=λi e h=>by
  have:e∈f.toList:=mem_toList_iff.mpr (Array.mem_of_getElem? h);obtain⟨q,c,rfl⟩:=Yv (P.mem_iff.mp this);exact⟨q,c,rfl⟩
 have B:EL knd s.heap f:=λi e h=>by
  obtain⟨q,c,rfl⟩:=mem i e h;exact⟨q.1,q.2,rfl,tk q c⟩
 refine uf r m n I (by lia) B v x (λ⟨i,C,e,D⟩=>?_) λd es' t' j h' g' G H J=>?_
 ·obtain⟨q,c,eq⟩:=mem i _ e;have L:C=q.1:=by injection eq with _ z;injection z
  subst L;have M:p.2=q.2:=D.inj (tk q c);refine l s.heap false _ (SameBut.refl a s.heap) ?_ (le_add_right _ _);unfold eS;rw[if_pos (Yw ⟨q,c,M.symm⟩)];exact⟨o,f,y,t,m,g,n,I,P⟩
 ·refine l h' true _ G ?_ (le_add_right _ _);unfold eS;rw[if_neg]
  ·refine⟨_,es',j,t',g',g,rfl,J,H.trans ?_⟩;rw[Zc];exact P.append_right _
  ·intro N;obtain⟨q,c,e⟩:=Yv N;have:(tupleKeyHash knd q.2,Value.ref q.1)∈f.toList:=P.mem_iff.mpr (Yw ⟨q,c,rfl⟩);obtain⟨i,hi⟩:=Yo this;exact d i q.1 q.2 (by simpa using hi) (tk q c) e
end
section
variable{prog:Program}{w:World}{κ:Type}[DecidableEq κ]{knd:PySem.KeyKind prog w κ}{A:Around}{R:Result->Shared->Prop}{I:Addr}{fp wr:List Addr}{G:Array GenState->Array GenState->Prop}{n:Nat}{P:Nat->Value->Prop}{St:Nat->Shared->Prop}
theorem lP(W:WalksS prog w A.in1 I fp wr G n P St)(S:Addr)(r:S∉fp)(Q:A.in1.units<cLine)(val:Nat->Addr×List κ)(t:∀i v,i<n->P i v->v= .ref (val i).1)(U:List (List κ))(hU:U.length<=999)(C:∀i,i<n->(val i).2∈U)(c:∀i,i<n->(val i).1≠S/\(val i).1∉wr)
 (T:∀i,i<n->∀(s':Shared) (B:Bool->Shared->Prop) (Y:Value->Shared->Prop),IsTupleKey knd s'.heap (val i).2 (val i).1->B false s'->wpAny (model prog w) A.in1 (hashByValue 8 (.ref (val i).1)) B Y s'):
 ∀(k i:Nat) (s:Shared),n-i=k->i<=n->St i s->j9 w knd S (aX ((List.range i).map val)) s.heap->(∀j,j<n->IsTupleKey knd s.heap (val j).2 (val j).1)->
  (∀s',Moved (S::wr) G s s'->j9 w knd S (aX ((List.range n).map val)) s'.heap->R (.ok (.ret .none)) s')->codeAny (model prog w) A (.builtin "set.update.loop" ⟨[.ref S,.ref I],[]⟩) R s:=by
 have u:S∉wr:=λh=>r (W.sub _ h)
 have more:∀b∈wr,b∈S::wr:=λb x=>Zj _ x
 intro k
 induction k with
 | zero=>
   intro i s D hi st E tk f;have e:i=n:=by lia
   subst e;refine codeAny_builtin F.entry_set_update_loop ?_;rw[Around.under_plainId F.plain_set_update_loop _];show wpAny _ A.in1 (pyNext (.ref I)>>= _) _ _ s;refine Z2 (W.done s _ _ st λd l=>?_);show wpAny _ A.in1 (ret Value.none) _ _ d;exact Z3 (f d (l.mono more) (E.keep λo e=>l.heap S o u e))
 | succ k ih=>
   intro i s D hi st E tk f;have lt:i<n:=by lia
   refine codeAny_builtin F.entry_set_update_loop ?_;rw[Around.under_plainId F.plain_set_update_loop _];show wpAny _ A.in1 (pyNext (.ref I)>>= _) _ _ s;refine Z2 (W.item i s _ _ lt st λv d pv H l=>?_);obtain rfl:=t i v lt pv;have J:=E.keep (h':=d.heap) λo e=>l.heap S o u e
   have g:∀j,j<n->IsTupleKey knd d.heap (val j).2 (val j).1:=λj a=>kl (tk j a) λo e=>l.heap _ o (c j a).2 e
   have L:∀q∈aX ((List.range i).map val),IsTupleKey knd d.heap q.2 q.1:=λq hq=>by
    obtain⟨j,a,rfl⟩:=Yv (cB _ q hq);exact g j (by have:=mem_range.mp a;lia)
   have room:(aX ((List.range i).map val)).length+1<=1000:=by
    have q:=nodup_sub (ic ((List.range i).map val)) (m:=U) λk D=>by
     obtain⟨p,hp,rfl⟩:=Yv ((nY _ k).mp D);obtain⟨j,a,rfl⟩:=Yv hp;exact C j (by have:=mem_range.mp a;lia)
    rw[Z5]at q
    lia
   show wpAny _ A.in1 (holding [Value.ref (val i).1] (setAdd S (.ref (val i).1))>>= _) _ _ d;refine Z2 (wpAny_holding (wN (p:=val i) Q J L (g i lt) room (λs' B=>T i lt s' B _) λh2 b ab M N y=>?_));have z:j9 w knd S (aX ((List.range (i+1)).map val)) h2:=by rw[nZ];exact N
   refine Z3 ⟨plainId_quiet F.plain_set_update_loop _,ih (i+1) _ (by lia) lt (W.frame _ d _ _ H y λb x o e=>?_) z (λj a=>kl (g j a) λo e=>by rw[M.2 _ (c j a).1];exact e) λs3 m3 O=>?_⟩
   ·rw[M.2 b (λq:b=S=>r (q▸x))];exact e
   ·refine f s3 (Moved.trans W.gtrans ((l.mono more).then_heap y λb o x e=>?_) m3) O;rw[M.2 b (λq:b=S=>x (by rw[q];exact Zl))];exact e
end
section
variable{prog:Program}{w:World}{κ:Type}[DecidableEq κ]{knd:PySem.KeyKind prog w κ}{A:Around}{E:Value->Shared->Prop}{s:Shared}
theorem lQ(hh:A.handled=none)(hu:A.units+16<cLine)(hl:s.heap.IsList l a)(hi:a.toList=ps.map λp=>Value.ref p.1)(tk:∀p∈ps,IsTupleKey knd s.heap p.2 p.1)(U:List (List κ))(hU:U.length<=999)(T:∀p∈ps,p.2∈U)
 (hv:∀p∈ps,∀(B:Around) (s':Shared) (L:Bool->Shared->Prop) (Y:Value->Shared->Prop),IsTupleKey knd s'.heap p.2 p.1->L false s'->wpAny (model prog w) B (hashByValue 8 (.ref p.1)) L Y s')
 (hQ:∀(h':Heap) (tk:Nat),j9 w knd s.heap.objs.size (aX ps) h'->(∀b o,s.heap.get? b=some o->h'.get? b=some o)->Q (.ref s.heap.objs.size) {s with heap:=h',toks:=tk}):
 wpAny (model prog w) A (call (.type "set") [.ref l]) Q E s:=by
 obtain⟨c,tl,a3⟩:=called_set.mro;have ab:=called_set.made;have a4:=called_set.sub;refine wpAny_call (codeAny_of_tree ?_);show wpAny _ _ (callAny (.type "set") _) _ _ _;refine Z3 ⟨Code.quiet_builtin _ (by decide +kernel),codeAny_builtin F.entry_type_call ?_⟩;rw[Around.under_plain (weight_type_call_type "set" [.ref l] []) rfl];have a6:=called_set.notType;have a7:=called_set.canCreate;have a8:=PySem.F.typeCall_set_1 (.ref l)
 repeat any_goals first|assumption|wp_step
 refine codeAny_mono (ph (.ref l) (E:=E) (Q₁:=λobj n=>obj= .ref s.heap.objs.size/\n={s with heap:=s.heap.push (bz w)}) ⟨rfl,rfl⟩) λr n y=>?_
 cases r with
 | error e=>exact y
 | ok fl=>
   cases fl with
   | ret obj=>
     obtain⟨rfl,rfl⟩:=y;have gS:(s.heap.push (bz w)).get? s.heap.objs.size=some (bz w):=Zi _ rfl;have tS:Shared.TypeIs {s with heap:=s.heap.push (bz w)} (.ref s.heap.objs.size) "set":=⟨_,gS,rfl⟩
     have a9:=called_set.init.lookup;have bf:=called_set.init.bind (.ref s.heap.objs.size)
     repeat any_goals first|assumption|wp_step
     refine codeAny_mono (codeAny_call_builtin (R:=wants (λr q=>r= .none/\∃h' tk,q={s with heap:=h',toks:=tk}/\j9 w knd s.heap.objs.size (aX ps) h'/\(∀b o,s.heap.get? b=some o->h'.get? b=some o)) E) called_set.init.plain F.entry_set_init (check_set_init_1 tS ?_)) λz q f=>?_
     ·obtain⟨ol,gl,cl,nl,dl⟩:=hl;obtain⟨a5,u,ac,k⟩:=ol;simp only at cl dl;subst cl;subst dl;have al:(s.heap.push (bz w)).get? l=some {cls:= .type "list",dict:=u,data:= .seq a nl,slots:=k}:=Z6 _ gl;have bi:=PySem.F.sub_list_set;have bl:=PySem.F.sub_list_frozenset;have bm:(Value.type "list"==Value.type "dict")=false:=by decide
      have C:(s.heap.push (bz w)).IsList l a:=⟨_,al,rfl,nl,rfl⟩
      unfold Builtin.«set.__init__»;unfold noKeywords;unfold Builtin.Frozenset.updateFrom
      generalize an:pyIter=PI
      wp_walk
      subst an;refine wpAny_pyIter_list C (Z2 (wpAny_runValue ?_));have D:l<s.heap.objs.size:=Zt gl;have h3:A.in1.in1.in1.handled=none:=by simp[hh]
      have M:(s.heap.push (bz w)).objs.size=s.heap.objs.size+1:=Zp ..;have as:l≠(s.heap.push (bz w)).objs.size:=by rw[M];exact Zr (Y8 D)
      have au:s.heap.objs.size∉[(s.heap.push (bz w)).objs.size,l]:=by
       rw[M];simp only[Ye,Yj,or_false,not_or];exact⟨Zr (Y9 _),Yh D⟩
      have G:a.size=ps.length:=by rw[<-Za,hi,Z5]
      have av:A.in1.in1.in1.units<cLine:=by simp only[Around.in1];lia
      have g:∀i,i<a.size->∃p∈ps,ps[i]? =some p/\ps.getD i (0,[])=p:=λi h=>by
       have h':i<ps.length:=by lia
       exact⟨ps[i],Y0 h',by simp[h'],by simp[Zb,h']⟩
      refine lP (knd:=knd) ((Walks.list h3 _ l as a).toS) s.heap.objs.size au av (λi=>ps.getD i (0,[])) (λi v d a0=>?_) U hU (λi d=>?_) (λi d=>?_) (λi d=>?_) (a.size-0) 0 _ (by lia) (Yn _)
       ⟨⟨_,Zi _ rfl,rfl,rfl⟩,C.push _⟩ ⟨_,#[],0,_,Z6 _ gS,⟨rfl,rfl,rfl⟩,rfl,IN.fresh 0 0 _,List.Perm.refl _⟩ (λj d=>?_) ?_
      ·obtain⟨p,t,H,m⟩:=g i d;have:a.toList[i]? =some v:=by rw[Array.getElem?_toList];exact a0
       rw[hi,Zk,H]at this;show v= .ref (ps.getD i (0,[])).1;rw[m];exact(Z9 this).symm
      ·obtain⟨p,t,H,m⟩:=g i d;show(ps.getD i (0,[])).2∈U;rw[m];exact T p t
      ·obtain⟨p,t,H,m⟩:=g i d;obtain⟨po,_,_,pg,_⟩:=tk p t;have I:=Zt pg;show(ps.getD i (0,[])).1≠_/\(ps.getD i (0,[])).1∉_;rw[m];refine⟨Zr I,?_⟩;simp only[Ye,Yj,or_false,M];exact Zr (Y8 I)
      ·obtain⟨p,t,H,m⟩:=g i d;intro s' L Y;show IsTupleKey knd s'.heap (ps.getD i (0,[])).2 (ps.getD i (0,[])).1->_->wpAny _ _ (hashByValue 8 (.ref (ps.getD i (0,[])).1)) _ _ _;rw[m];exact hv p t _ s' L Y
      ·obtain⟨p,t,H,m⟩:=g j d;show IsTupleKey knd _ (ps.getD j (0,[])).2 (ps.getD j (0,[])).1;rw[m];exact kl (tk p t) λo e=>Z6 _ (Z6 _ e)
      intro s3 N O;have y:(List.range a.size).map (λi=>ps.getD i (0,[]))=ps:=by
       rw[G];apply ext_getElem
       ·simp
       ·intro i h1 h2;simp[Zb,h2]
      rw[y]at O;obtain⟨h',g',d',a1,a2⟩:=s3;have eg:g'=s.gens:=N.gens;have ed:d'=s.drawn:=N.drawn;have eo:a2=s.os:=N.os;subst eg;subst ed;subst eo;refine Z3 ?_;show wpAny _ _ (ret Value.none) _ _ _;refine Z3 ⟨rfl,h',a1,rfl,O,λb o e=>?_⟩;have J:=Zt e;refine N.heap b o ?_ (Z6 _ (Z6 _ e));simp only[Ye,Yj,or_false,not_or,M];exact⟨Zr J,Zr (Y8 J)⟩
     ·cases z with
      | error e=>exact f
      | ok x=>
        cases x with
        | ret r=>
          obtain⟨rfl,h',tk,rfl,O,k3⟩:=f
          repeat any_goals first|assumption|wp_step
          exact hQ _ _ O k3
        | _=>exact f.elim
   | _=>exact y.elim
end
open PySem PySem.Spec PyProof.Rows
section
variable{prog:Program}{w:World}{A:Around}{s:Shared}
theorem ie{Nv:Value->Nat}{P:Fin->Shared->Prop}(B:s.heap.get? a=some (seqObj "list" vs.toArray n))(hsz:vs.length<64)
 (g:∀l:Heap,(∀b o,b≠a->s.heap.get? b=some o->l.get? b=some o)->2<=vs.length->∀Q:SortKind->Shared->Prop,Q kd {s with heap:=l}->wpAny (model prog w) A (keyKind' vs.toArray) Q E {s with heap:=l})
 (G:∀l:Heap,(∀b o,b≠a->s.heap.get? b=some o->l.get? b=some o)->SBig.Cmp prog w A (λs'=>s'={s with heap:=l}) kd (λx=>x.1∈vs) (λx=>Nv x.1))
 (h:∀j:List Value,j.Perm vs->j.Pairwise (λx y=>Nv x<=Nv y)->P (.done (.ret .none)) {s with heap:=sortedHeap s.heap a vs j.toArray}):
 wpAny (model prog w) A (Builtin.«list.sort» ⟨[.ref a],[]⟩) P E s:=by
 rw[list_sort_plain];have L:a<s.heap.objs.size:=Zt B;have k:vs.length<=sizeLine:=Y2 (le_of_lt hsz) (by decide);refine Z2 (listItems_at B rfl ?_);refine Z2 (listUpdate_at B rfl ?_ (by simpa using k));obtain⟨H,u⟩:∃H,(s.heap.update a (Obj.mapSeq λ_=> #[])).get? a=some (seqObj "list" #[] H):=⟨_,get?_update_seq B (λ_=> #[])⟩
 refine Z2 (seqEpoch_at u rfl ?_);refine Z2 (wpAny_newTuple ?_ (by simpa using k));refine Z2 (wpAny_newList ?_);refine wpAny_holding ?_;have keep:∀b o,b≠a->s.heap.get? b=some o->(((s.heap.update a (Obj.mapSeq λ_=> #[])).push (seqObj "tuple" vs.toArray 0)).push (seqObj "list" #[] 0)).get? b=some o:=λb o N e=>
  Z6 _ (Z6 _ ((get?_update_other _ _ (Ne.symm N)).trans e))
 have d:(((s.heap.update a (Obj.mapSeq λ_=> #[])).push (seqObj "tuple" vs.toArray 0)).push (seqObj "list" #[] 0)).get? a=some (seqObj "list" #[] H):=by
  rw[Heap.get?_push_ne _ _ _ (by rw[size_push',Heap.size_update];exact Zr (Y8 L)),Heap.get?_push_ne _ _ _ (by rw[Heap.size_update];exact Zr L)];exact u
 have g:=g _ keep;have G:=G _ keep;show wpAny (model prog w) A _ P E {s with heap:=((s.heap.update a (Obj.mapSeq λ_=> #[])).push (seqObj "tuple" vs.toArray 0)).push (seqObj "list" #[] 0)};dsimp only;have I:vs.toArray.size=vs.length:=by simp
 have m:(vs.toArray.zip vs.toArray).toList=vs.map λv=>(v,v):=by
  rw[Array.toList_zip,toList_toArray];apply ext_getElem
  ·simp
  ·intro i h1 p;simp
 have z:∀c:SortSt,(arrOf c).toList.Perm (vs.map λv=>(v,v))->SBig.Srt (λx=>Nv x.1) (arrOf c).toList->P (.done (.ret .none)) {s with heap:=sortedHeap s.heap a vs ((arrOf c).map (·.2))}:=by
  intro c t C;have eq:∀x∈(arrOf c).toList,x.1=x.2:=λx f=>by
   obtain⟨v,_,rfl⟩:=Yv (t.mem_iff.mp f);rfl
  have e:(arrOf c).map (·.2)=((arrOf c).toList.map (·.2)).toArray:=by
   apply Array.ext';simp
  rw[e];refine h _ ?_ ?_
  ·have:=t.map (·.2);rwa[Yb,show((λx:Keyed=>x.2) ∘ λv:Value=>(v,v))=id from rfl,map_id]at this
  ·rw[Yl];exact Yp (λ{x y} f O q=>by rw[<-eq x f,<-eq y O];exact q) C
 by_cases p:vs.toArray.size<2
 ·rw[if_pos p,if_pos p];refine Z2 (Z3 ?_);rw[StateT.run_pure];refine Z2 (Z3 ?_);dsimp only;refine Z2 (seqEpoch_at d rfl ?_);refine Z2 (listUpdate_at d rfl ?_ (hsz2:=by rw[size_map];show(pairsOf vs).size<=_;rw[pairsOf_size,sizeLine_eq];lia));simp only[bne_self_eq_false,Zw,if_false];refine Z3 (z (SortSt.mk' general' (vs.toArray.zip vs.toArray) #[] 7 none) (by show(vs.toArray.zip vs.toArray).toList.Perm _;rw[m]) ?_);show List.Pairwise _ (vs.toArray.zip vs.toArray).toList;rw[m]
  match vs,I,p with
  |[],_,_=>exact List.Pairwise.nil
  |[v],_,_=>exact List.pairwise_singleton _ _
  | v1::v2::r,h3,T=>simp at T;lia
 ·rw[if_neg p,if_neg p];refine Z2 (g (by lia) _ ?_);refine Z2 (wpAny_mono (SBig.sc_sortFew (D:=λx=>x.1∈vs) (st:=SortSt.mk' kd (vs.toArray.zip vs.toArray) #[] 7 none) G (λx f=>?_) ?_ ?_ rfl rfl
   (Q:=λ_ c=>(arrOf c).toList.Perm (vs.map λv=>(v,v))/\failedOf c=none/\SBig.Srt (λx=>Nv x.1) (arrOf c).toList) (λc J U Y=>⟨?_,Y,U⟩) _ rfl) ?_ λ_ _ e=>e.elim)
  ·have f:x∈(vs.toArray.zip vs.toArray).toList:=f;rw[m]at f;obtain⟨v,hv,rfl⟩:=Yv f;exact hv
  ·show 1<=(vs.toArray.zip vs.toArray).size;rw[<-Za,m,Z5]
   lia
  ·show(vs.toArray.zip vs.toArray).size<64;rw[<-Za,m,Z5];exact hsz
  ·have J:(arrOf c).toList.Perm (vs.toArray.zip vs.toArray).toList:=J;rwa[m]at J
  ·rintro⟨⟨⟩,c⟩ s' ⟨rfl,t,M,C⟩;dsimp only at t M C ⊢;refine Z2 (seqEpoch_at d rfl ?_);refine Z2 (listUpdate_at d rfl ?_ (hsz2:=?_))
   ·rw[M];simp only[bne_self_eq_false,Zw,if_false];exact Z3 (z c t C)
   ·rw[size_map,<-Za,t.length_eq,Z5];exact Nat.le_succ_of_le k
end
noncomputable def iW(x y:Str):Bool:=decide (x.cps.toList<y.cps.toList)
noncomputable def c6:List Str->List Str->Bool
 |[],[]=>false
 |[],_::_=>true
 | _::_,[]=>false
 | x::xs,y::ys=>if x=y then c6 xs ys else iW x y
theorem sG(x:Str):iW x x=false:=Zg (List.lt_irrefl _)
theorem AG{x y:Str}(h:x.cps.toList=y.cps.toList):x=y:=by
 obtain⟨⟨l⟩⟩:=x;obtain⟨⟨m⟩⟩:=y;simp at h;rw[h]
theorem uh(a:iW x y=true)(b:iW y z=true):iW x z=true:=Ze (List.lt_trans (Zn a) (Zn b))
theorem uk{x y:Str}(h:iW x y=false)(a:x≠y):iW y x=true:=by
 have b: ¬ x.cps.toList<y.cps.toList:=of_decide_eq_false h;have c:y.cps.toList<=x.cps.toList:=b;refine Ze (Classical.byContradiction λd=>a (AG ?_));exact List.le_antisymm d c
theorem sH:∀x:List Str,c6 x x=false
 |[]=>rfl
 | x::xs=>by rw[c6,if_pos rfl];exact sH xs
theorem gJ:∀{x y z:List Str},c6 x y=true->c6 y z=true->c6 x z=true
 |[],[],z,b,a=>by cases b
 |[],y::ys,[],b,a=>by cases a
 |[],y::ys,z::zs,b,a=>rfl
 | x::xs,[],z,b,a=>by cases b
 | x::xs,y::ys,[],b,a=>by cases a
 | x::xs,y::ys,z::zs,b,a=>by
   rw[c6]at b a ⊢;by_cases d:x=y
   ·rw[if_pos d]at b;subst d;by_cases c:x=z
    ·rw[if_pos c]at a ⊢;exact gJ b a
    ·rw[if_neg c]at a ⊢;exact a
   ·rw[if_neg d]at b;by_cases c:y=z
    ·rw[if_pos c]at a;subst c;rw[if_neg d];exact b
    ·rw[if_neg c]at a;have f:=uh b a;have g:x≠z:=λe=>by rw[e,sG]at f;cases f
     rw[if_neg g];exact f
theorem mO:∀{x y:List Str},c6 x y=false->x≠y->c6 y x=true
 |[],[],a,c=>absurd rfl c
 |[],y::ys,a,c=>by cases a
 | x::xs,[],a,c=>rfl
 | x::xs,y::ys,a,c=>by
   rw[c6]at a ⊢;by_cases b:x=y
   ·rw[if_pos b]at a;rw[if_pos b.symm];exact mO a λe=>c (by rw[b,e])
   ·rw[if_neg b]at a;rw[if_neg (Ne.symm b)];exact uk a b
noncomputable def fK(ks:List (List Str))(k:List Str):Nat:=ks.countP λu=>c6 u k
theorem ko(b:x∈ks):c6 x y=decide (fK ks x<fK ks y):=by
 have up:∀(l:List (List Str)) (p q:List Str->Bool),(∀u∈l,p u=true->q u=true)->l.countP p<=l.countP q:=λl p q h=>List.countP_mono_left h
 cases h:c6 x y with
 | true=>
   symm
   refine Ze ?_;have c:∀l:List (List Str),x∈l->l.countP (λu=>c6 u x)<l.countP (λu=>c6 u y):=by
    intro l
    induction l with
    | nil=>intro b;cases b
    | cons u l d=>
      intro b;rw[List.countP_cons,List.countP_cons];have f:=up l (λu=>c6 u x) (λu=>c6 u y) λu _ a=>gJ a h
      rcases mem_cons.mp b with e|e
      ·subst e;rw[if_neg (by rw[sH];simp),if_pos h]
       lia
      ·have:=d e;by_cases a:c6 u x=true
       ·rw[if_pos a,if_pos (gJ a h)]
        lia
       ·rw[if_neg a]
        split<;> lia
   exact c ks b
 | false=>
   symm
   refine Zg (Nat.not_lt.mpr ?_);refine up ks _ _ λu _ a=>?_
   by_cases e:x=y
   ·rw[e];exact a
   ·exact gJ a (mO h e)
section
variable{prog:Program}{w:World}{A:Around}{s:Shared}{E:Value->Shared->Prop}
abbrev um(prog:Program)(w:World)(h:Heap)(zs:List Str)(r:Addr):Prop:=IsTupleKey (aS prog w) h (zs.map Sum.inr) r
theorem eT:∀{zs:List Str} {vs:List Value},ItemsAre (aS prog w) (zs.map Sum.inr) vs->StrsAre vs zs
 |[],_,h=>by cases h;exact .nil
 | z::zs,_,h=>by
   cases h with
   | cons a d=>
     have a:jK (Sum.inr z) _=true:=a;rcases bh a with⟨i,t,b,c⟩|⟨y,t,b,c⟩
     ·cases b
     ·cases b;subst c;exact .cons z t (eT d)
theorem zc:∀(x y:List Str) (vs us:List Value) (i:Nat),StrsAre vs x->StrsAre us y->(x.length=y.length)->a=false->Q (c6 x y) s->PySem.W.KatLex prog w A b a Q (vs.zip us) i s
 |[],[],_,_,i,.nil,.nil,_,c,h=>by rw[c];exact h
 | x::xs,y::ys,_,_,i,.cons _ t d,.cons _ u f,g,c,h=>by
   rw[List.zip_cons_cons];refine PySem.W.kat_cons (eqBool_str ?_);rw[c6]at h;by_cases e:x=y
   ·subst e;rw[if_pos rfl]at h;rw[beq_self_eq_true];exact PySem.W.kat_yes (zc xs ys _ _ (i+1) d f (by simpa using g) c h)
   ·rw[if_neg e]at h;rw[beq_eq_false_iff_ne.mpr e];refine PySem.W.kat_no ?_;cases j:(b&&i==0)with
    | true=>exact oneLt_str h
    | false=>exact PySem.W.kat_one _ _ (lt_str h)
theorem yv(d:um prog w s.heap x r)(e:um prog w s.heap y q)(f:x.length=y.length)(h:Q (c6 x y) s):wpAny (model prog w) A (keyLt' (tuples' b) (.ref r) (.ref q)) Q E s:=by
 obtain⟨ox,xs,nx,g,_,i,j⟩:=d;obtain⟨o,ys,p,k,_,l,m⟩:=e;have a:=eT j;have c:=eT m;refine PySem.W.kat_lt g i k l (zc x y _ _ 0 a c f ?_ h);have l1:=cy a;have n:=cy c;rw[Za]at l1 n;exact Zg (by lia)
end
theorem pN [DecidableEq c][DecidableEq i](g:c->i)(j:∀a b,g a=g b->a=b)(l:List (Addr×c)):aX (l.map λp=>(p.1,g p.2))=(aX l).map λp=>(p.1,g p.2):=by
 have k:∀(l ps:List (Addr×c)),(l.map λp=>(p.1,g p.2)).foldl eS (ps.map λp=>(p.1,g p.2))=(l.foldl eS ps).map λp=>(p.1,g p.2):=by
  intro l
  induction l with
  | nil=>intro ps;rfl
  | cons p l m=>
    intro ps;rw[Ya,foldl_cons,foldl_cons];have e:eS (ps.map λp=>(p.1,g p.2)) (p.1,g p.2)=(eS ps p).map λp=>(p.1,g p.2):=by
     unfold eS;have f:(g p.2∈(ps.map λp=>(p.1,g p.2)).map (·.2))↔p.2∈ps.map (·.2):=by
      rw[Yb]
      constructor
      ·intro h;obtain⟨q,d,e⟩:=Yv h;exact Yw ⟨q,d,j _ _ e⟩
      ·intro h;obtain⟨q,d,e⟩:=Yv h;exact Yw ⟨q,d,by show g q.2=g p.2;rw[e]⟩
     by_cases h:p.2∈ps.map (·.2)
     ·rw[if_pos h,if_pos (f.mpr h)]
     ·rw[if_neg h,if_neg (λz=>h (f.mp z)),Zc];rfl
    rw[e];exact m _
 exact k l []
noncomputable abbrev yw(p:Addr×List Str):Addr×List Key:=(p.1,p.2.map Sum.inr)
theorem n6:∀a b:List Str,a.map (Sum.inr:Str->Key)=b.map Sum.inr->a=b
 |[],[],_=>rfl
 |[],_::_,h=>by cases h
 | _::_,[],h=>by cases h
 | x::xs,y::ys,h=>by
   rw[Ya,Ya]at h;injection h with c d
   injection c with e
   rw[e,n6 xs ys d]
section
variable{prog:Program}{w:World}{A:Around}{E:Value->Shared->Prop}{s:Shared}{S:Addr}
theorem lv:∀{vs:List Value} {zs:List Str},StrsAre vs zs->ItemsAre (aS prog w) (zs.map Sum.inr) vs
 | _,_,.nil=> .nil
 | _,_,.cons x t h=> .cons (eK x t) (lv h)
theorem yx(c:zs≠[])(b:um prog w s.heap zs r)(h:Q false s):wpAny (model prog w) A (hashByValue 8 (.ref r)) Q E s:=by
 have d:=b.typeIs;obtain⟨o,a,n,e,_,f,hi⟩:=b;have g:=eT hi;unfold hashByValue;refine Z2 (wpAny_specialOf d F.slot_tuple_hash.lookup ?_);dsimp only;refine Z2 (wpAny_seqItems e f ?_);refine Z2 ?_;simp only[Option.getD_some];rw[<-Array.forIn_toList]
 match zs,a.toList,g,c with
 | z::zs,_,.cons _ t i,_=>
   rw[forIn_cons];refine Z2 ?_;refine Z2 ?_;rw[show hashByValue 7 (Value.str z t)=pure false from rfl];refine Z3 ?_;simp only[Bool.not_false,if_true];refine Z3 ?_;exact Z3 (Z3 h)
noncomputable def kOf(ps:List (Addr×List Str)):Value->List Str
 | .ref r=>((ps.find? λp=>p.1==r).map (·.2)).getD []
 | _=>[]
noncomputable def aOf:Value->Addr
 | .ref r=>r
 | _=>0
theorem ly(I:∀(E1:Value->Shared->Prop) (R:List Value->Shared->Prop),(∀c vs,vs.Perm (ps.map λp=>Value.ref p.1)->(∀b o,s.heap.get? b=some o->c.heap.get? b=some o)->c.gens=s.gens->c.os=s.os->R vs c)->wpAny (model prog w) A.in1 (collect (.ref S)) R E1 s)(tk:∀p∈ps,um prog w s.heap p.2 p.1)(O:∀p∈ps,p.2.length=m)(m0:m≠0)(au:ps.length<64)
 (hQ:∀(c s':Shared) (l:Addr) (ss:List (Addr×List Str)) (n:Nat),ss.Perm ps->ss.Pairwise (λa b=>c6 b.2 a.2=false)->(∀b o,s.heap.get? b=some o->c.heap.get? b=some o)->c.gens=s.gens->c.os=s.os->(∀b o,c.heap.get? b=some o->s'.heap.get? b=some o)->s'.gens=c.gens->s'.os=c.os->c.heap.objs.size<=l->s'.heap.get? l=some {cls:= .type "list",data:= .seq (ss.map λp=>Value.ref p.1).toArray n}->Q (.ref l) s'):
 wpAny (model prog w) A (call (.builtin "sorted") [.ref S]) Q E s:=by
 have k:∀p∈ps,kOf ps (.ref p.1)=p.2:=λp g=>by
  show((ps.find? λq=>q.1==p.1).map (·.2)).getD []=p.2;cases r:ps.find? λq=>q.1==p.1 with
  | none=>
    have:=List.find?_eq_none.mp r p g;simp at this
  | some q=>
    have B:=List.mem_of_find?_eq_some r;have e:q.1=p.1:=by have:=List.find?_some r;simpa using this
    show q.2=p.2;have t1:=tk q B;rw[e]at t1;exact n6 _ _ (t1.inj (tk p g))
 refine Calls.call_function_entry kind_sorted plain_sorted entry_sorted (args_sorted1 _) ?_;unfold Builtin.«sorted»;refine Z2 (m:=checkCount "sorted" 1 1 _) (Z3 ?_);refine Z2 (I _ _ λc vs U k1 g1 o1=>?_);have hl:vs.length=ps.length:=by rw[U.length_eq,Z5]
 have mem:∀v∈vs,∃p∈ps,v=Value.ref p.1:=λv C=>by
  obtain⟨p,g,rfl⟩:=Yv (U.mem_iff.mp C);exact⟨p,g,rfl⟩
 refine Z2 (wpAny_newList ?_ (by rw[sizeLine_eq];lia));have Y:(c.heap.push (seqObj "list" vs.toArray 0)).get? c.heap.objs.size=some (seqObj "list" vs.toArray 0):=Zi _ rfl;have D:∀p∈ps,∀j:Heap,(∀b o,b≠c.heap.objs.size->(c.heap.push (seqObj "list" vs.toArray 0)).get? b=some o->j.get? b=some o)->um prog w j p.2 p.1:=λp g j H=>by
  refine kl (tk p g) λo e=>?_
  have J:=k1 _ _ e;exact H _ _ (Zr (Zt J)) (Z6 _ J)
 refine Z2 (wpAny_holding (wpAny_call_entry slot_list_sort ⟨_,Y,rfl⟩ entry_list_sort (ie (s:={c with heap:=c.heap.push (seqObj "list" vs.toArray 0)}) (kd:=tuples' true) (Nv:=λv=>fK (ps.map (·.2)) (kOf ps v)) Y (by lia) (λj H av Q6 ab=>?_) (λj H=>?_) λd p1 p2=>⟨_,rfl,?_⟩) (args_list_sort _)))
 ·have tups:∀l:List Value,(∀v∈l,∃p∈ps,v=Value.ref p.1)->∃fs:List Value,KatTups j l fs/\fs.length=l.length/\∀f∈fs,∃z t,f=Value.str z t:=by
   intro l
   induction l with
   | nil=>intro _;exact⟨[],KatTups.nil,rfl,λf r=>by cases r⟩
   | cons v l ih=>
     intro C;obtain⟨fs,f1,f2,f3⟩:=ih λu hu=>C u (Zj _ hu)
     obtain⟨p,g,rfl⟩:=C v Zl;obtain⟨o',h,n',g',c',d',i'⟩:=D p g j H;have i:=eT i';have ac:p.2≠[]:=λe=>by have:=O p g;rw[e]at this;exact m0 this.symm
     obtain⟨z,zs,ez⟩:∃z zs,p.2=z::zs:=by
      cases al:p.2 with
      | nil=>exact absurd al ac
      | cons z zs=>exact⟨z,zs,rfl⟩
     rw[ez]at i;obtain⟨t',vr,ev⟩:∃t' vr,h.toList=Value.str z t'::vr:=by
      cases L:h.toList with
      | nil=>rw[L]at i;cases i
      | cons a b=>
        rw[L]at i;cases i with
        | cons _ t' _=>exact⟨t',b,rfl⟩
     have e0:h[0]? =some (Value.str z t'):=by
      have:h.toList[0]? =some (Value.str z t'):=by rw[ev];rfl
      simpa using this
     exact⟨Value.str z t'::fs,KatTups.cons g' c' d' e0 f1,by simp[f2],λf r=>by
      rcases mem_cons.mp r with e|e
      ·exact⟨z,t',e⟩
      ·exact f3 f e⟩
  obtain⟨fs,f1,f2,f3⟩:=tups vs mem;refine PySem.W.kat_kind (T:= .type "str") f1 (by lia) (λf r=>?_) (by decide) ab;obtain⟨z,t',rfl⟩:=f3 f r;exact Looks.of_pure rfl
 ·intro x y s' hx hy i;subst i;obtain⟨p,g,an⟩:=mem _ hx;obtain⟨q,B,as⟩:=mem _ hy;obtain⟨x1,x2⟩:=x;obtain⟨y1,y2⟩:=y;obtain rfl:x1=Value.ref p.1:=an;obtain rfl:y1=Value.ref q.1:=as;show wpAny (model prog w) A.in1.in1 (keyLt' (tuples' true) (Value.ref p.1) (Value.ref q.1)) (λb s'=>b=decide (fK (ps.map (·.2)) (kOf ps (Value.ref p.1))<fK (ps.map (·.2)) (kOf ps (Value.ref q.1)))/\s'={c with heap:=j}) (λ_ _=>False) {c with heap:=j};rw[k p g,k q B];refine yv (s:={c with heap:=j}) (D p g j H) (D q B j H) (by rw[O p g,O q B]) ⟨?_,rfl⟩;exact ko (Yw ⟨p,g,rfl⟩)
 ·have N:d.Perm (ps.map λp=>Value.ref p.1):=p1.trans U;have oe:d=(d.map λv=>(aOf v,kOf ps v)).map λp=>Value.ref p.1:=by
   rw[Yb];refine(map_id d).symm.trans (List.map_congr_left λv C=>?_);obtain⟨p,g,rfl⟩:=Yv (N.mem_iff.mp C);rfl
  obtain⟨n,gl⟩:∃n,(sortedHeap (c.heap.push (seqObj "list" vs.toArray 0)) c.heap.objs.size vs d.toArray).get? c.heap.objs.size=some (seqObj "list" d.toArray n):=sortedHeap_at Y;refine Z3 ⟨_,rfl,hQ c _ c.heap.objs.size (d.map λv=>(aOf v,kOf ps v)) n ?_ ?_ k1 g1 o1 (λb o' J=>?_) rfl rfl (Zh _) ?_⟩
  ·have:=N.map λv=>(aOf v,kOf ps v)
   rw[Yb]at this;refine this.trans ?_;have:(ps.map ((λv=>(aOf v,kOf ps v)) ∘ λp=>Value.ref p.1))=ps:=by
    refine(List.map_congr_left λp g=>?_).trans (map_id ps);show(p.1,kOf ps (.ref p.1))=p;rw[k p g]
   rw[this]
  ·rw[Yl];refine Yp (λ{u v} hu C G=>?_) p2;obtain⟨p,g,rfl⟩:=Yv (N.mem_iff.mp hu);obtain⟨q,B,rfl⟩:=Yv (N.mem_iff.mp C);show c6 (kOf ps (.ref q.1)) (kOf ps (.ref p.1))=false;have G:fK (ps.map (·.2)) (kOf ps (.ref p.1))<=fK (ps.map (·.2)) (kOf ps (.ref q.1)):=G;rw[k p g,k q B]at G ⊢;rw[ko (ks:=ps.map (·.2)) (Yw ⟨q,B,rfl⟩)];exact Zg (by lia)
  ·have M:=Zt J;show(sortedHeap _ _ _ _).get? b=_;rw[sortedHeap_old (Zr M) (by rw[Zp];exact Y8 M)];exact Z6 _ J
  ·have e2:((d.map λv=>(aOf v,kOf ps v)).map λp=>Value.ref p.1).toArray=d.toArray:=congrArg List.toArray oe.symm;have e3:(seqObj "list" d.toArray n)=({cls:= .type "list",data:= .seq ((d.map λv=>(aOf v,kOf ps v)).map λp=>Value.ref p.1).toArray n}:Obj):=by
    rw[e2]
   exact gl.trans (congrArg some e3)
end
section
variable{X:Cx}{K:PySem.W.Frag}
noncomputable def lz(P:Program)(w:World)(a:Addr)(ps:List (Addr×List Str)):HO:= .ext (j9 w (aS P w) a (ps.map yw))
def bd(H:Hp)(ps:List (Addr×List Str)):Prop:=∀p∈ps,p.2≠[]/\H p.1=some (.tup (p.2.map V.str))
theorem n8(I:Inv X pins f H s)(h:bd H ps):∀p∈ps,um X.prog X.w s.heap p.2 p.1:=λp a=>by
 obtain⟨_,its,b,o,c,d,n,e⟩:=I.hok p.1 _ (h p a).2;exact⟨o,its.toArray,n,c,d,e,by simpa using lv (e8 b)⟩
theorem n9:∀{ps:List (Addr×List Str)} {us:List Value},aD (ps.map λp=>V.ref p.1) us->us=ps.map λp=>Value.ref p.1
 |[],_,.nil=>rfl
 | _::_,_,.cons r t=>by
   cases r;rw[n9 t];rfl
theorem oa:∀(ps:List (Addr×List Str)),aD (ps.map λp=>V.ref p.1) (ps.map λp=>Value.ref p.1)
 |[]=> .nil
 | _::ps=> .cons rfl (oa ps)
theorem uo(t:X.calm=true)(E:X.A.units+64<cLine):cn X (.type "set") (λxs H Q=>∃p ps,xs=[.ref p]/\SqL X.K H p (ps.map λq=>V.ref q.1)/\bd H ps/\(∃U:List (List Str),U.length<=999/\∀q∈ps,q.2∈U)/\∀l,H l=none->Q (.ref l) (upd H l (lz X.prog X.w l (aX ps)))):=by
 intro pins s G H xs us Q I r h;obtain⟨p,ps,rfl,v,m,⟨U,w,d⟩,q⟩:=h;obtain⟨u,rfl,x⟩:=eL r;cases x;obtain⟨its,y,pl,J⟩:=I.list v;have f:=n9 y;have tk:=n8 I m;refine lQ (knd:=aS X.prog X.w) (I.ok.hd t) (by lia) pl.isList (ps:=ps.map yw) (by simp[f,Function.comp]) (λn a=>?_) (U.map λz=>z.map Sum.inr) (by rw[Z5];exact w) (λn a=>?_) (λn a B s' L M g i=>?_) λh' j S k=>?_
 ·obtain⟨b,c,rfl⟩:=Yv a;exact tk b c
 ·obtain⟨b,c,rfl⟩:=Yv a;exact Yw ⟨b.2,d b c,rfl⟩
 ·obtain⟨b,c,rfl⟩:=Yv a;exact yx (m b c).1 g i
 ·have e:aX (ps.map yw)=(aX ps).map yw:=pN (λz:List Str=>z.map Sum.inr) n6 ps;rw[e]at S;refine⟨.ref s.heap.objs.size,_,I.laid (o:=lz X.prog X.w s.heap.objs.size (aX ps)) (t':=j) k (Zh _) ⟨S,?_,λN O A C=>j9.keep A C⟩,rfl,q _ I.fresh⟩;obtain⟨o,_,_,_,D,_⟩:=S;exact⟨o,D⟩
theorem og(x:X.calm=true):cn X (.builtin "sorted") (λxs H Q=>∃a ps m,xs=[.ref a]/\H a=some (lz X.prog X.w a ps)/\bd H ps/\(∀p∈ps,p.2.length=m)/\m≠0/\ps.length<64/\
 ∀(l:Addr) (ss:List (Addr×List Str)),H l=none->ss.Perm ps->ss.Pairwise (λa b=>c6 b.2 a.2=false)->Q (.ref l) (upd H l (.lst (ss.map λp=>V.ref p.1)))):=by
 intro pins s O H xs us Q I r h;obtain⟨a,ps,m,rfl,y,z,A,B,d,q⟩:=h;obtain⟨u,rfl,C⟩:=eL r;cases C;obtain⟨⟨o,e,T,t,D,f,E,J,P⟩,_,_⟩:=(show bg X.prog X.w H s.heap a (lz X.prog X.w a ps)from I.hok a _ y)
 have U:e.size=ps.length:=by
  have:=P.length_eq;rw[Z5,Z5,Za]at this;exact this
 have pv:(e.toList.map (·.2)).Perm (ps.map λp=>Value.ref p.1):=by
  have:=P.map (·.2);rw[Yb,Yb]at this;exact this
 refine ly (λY R G=>iQ (show X.A.in1.handled=none from I.ok.hd x) D f E (by show e.size<4096;lia) J.fits J.plain J.led λv vs L i g1 j _=>G v vs (L.trans pv) i g1 j) (n8 I z) A B d λv s' l ss n w M i g1 j k g o c N=>?_
 have I:=I.keptS i g1 j;refine⟨.ref l,_,I.stoodS (o:= .lst (ss.map λp=>V.ref p.1)) (I.keptS k g o) c ⟨?_,ss.map (λp=>Value.ref p.1),n,oa ss,N⟩,rfl,q l ss (I.hok.fresh c) w M⟩;rw[Z5,w.length_eq,sizeLine_eq]
 lia
theorem AH{P:Program}(h:X.K=K)(a:X.prog=P)(hw:X.w=w)(b:X.calm=true)(c:bN k X.A):cN X (.type "set") (λxs H Q=>∃p ps,xs=[.ref p]/\SqL K H p (ps.map λq=>V.ref q.1)/\bd H ps/\(∃U:List (List Str),U.length<=999/\∀q∈ps,q.2∈U)/\∀l,H l=none->Q (.ref l) (upd H l (lz P w l (aX ps)))):=by
 subst h;subst a;subst hw;exact⟨uo b c.units⟩
theorem uq{P:Program}(c:X.prog=P)(hw:X.w=w)(d:X.calm=true):cN X (.builtin "sorted") (λxs H Q=>∃a ps m,xs=[.ref a]/\H a=some (lz P w a ps)/\bd H ps/\(∀p∈ps,p.2.length=m)/\m≠0/\ps.length<64/\
 ∀(l:Addr) (ss:List (Addr×List Str)),H l=none->ss.Perm ps->ss.Pairwise (λa b=>c6 b.2 a.2=false)->Q (.ref l) (upd H l (.lst (ss.map λp=>V.ref p.1)))):=by
 subst c;subst hw;exact⟨og d⟩
end
noncomputable def ur(K:PySem.W.Frag)(a b:Addr):It:=⟨λi H=>∃xs ys x y,SqL K H a xs/\SqL K H b ys/\xs[i]? =some x/\ys[i]? =some y,
 λi H v c=>∃T x y,H T=none/\v= .ref T/\c=upd H T (.tup [x,y])/\(∀xs,SqL K H a xs->xs[i]? =some x)/\(∀ys,SqL K H b ys->ys[i]? =some y),
 λi H=>∃xs ys,SqL K H a xs/\SqL K H b ys/\i<=xs.length/\i<=ys.length/\(i=xs.length\/i=ys.length)⟩
theorem ut{P:Program}{K:PySem.W.Frag}(z TI TO i1 i2 l1 l2:Addr)(D:ZipApart z TI TO i1 i2 l1 l2):
 ng P w K (.Tuple elts kt tp) (ur K l1 l2) [z,TI,TO,i1,i2] z (ZSt z TI TO i1 i2 (λi h=>h.IsListIter i1 l1 i) (λi h=>h.IsListIter i2 l2 i)) where
 mem:=by simp
 obj:=λi h st b hb=>by
  obtain⟨hz,hTI,⟨a,c,hTO⟩,⟨o1,e1,_,d1⟩,o2,e2,_,d2⟩:=st;simp only[Ye,Yj,or_false]at hb;rcases hb with rfl|rfl|rfl|rfl|rfl
  ·exact⟨_,hz,λv q=>nomatch q⟩
  ·exact⟨_,hTI,λv q=>nomatch q⟩
  ·exact⟨_,hTO,λv q=>nomatch q⟩
  ·exact⟨o1,e1,λv q=>by rw[d1]at q;cases q⟩
  ·exact⟨o2,e2,λv q=>by rw[d2]at q;cases q⟩
 keep:=λi h h' st k=>by
  obtain⟨hz,hTI,⟨a,c,hTO⟩,⟨o1,e1,r1⟩,o2,e2,r2⟩:=st;exact⟨k z (by simp) _ hz,k TI (by simp) _ hTI,⟨a,c,k TO (by simp) _ hTO⟩,⟨o1,k i1 (by simp) _ e1,r1⟩,o2,k i2 (by simp) _ e2,r2⟩
 item:=by
  intro X hP hw hK hc i pins s σ H E I hf st hg;subst hP hw hK;obtain⟨hz,hTI,⟨a,c,hTO⟩,h1,h2⟩:=st;obtain⟨xs,ys,x,y,hq1,hq2,hx,hy⟩:=hg;obtain⟨its1,rv1,pl1,hz1⟩:=I.list hq1;obtain⟨its2,rv2,pl2,hz2⟩:=I.list hq2;obtain⟨u1,hu1,ru1⟩:=rv1.get hx;obtain⟨u2,hu2,ru2⟩:=rv2.get hy;refine wpAny_pyNext_zip_item D hz hTI hTO h1 h2 pl1.isList pl2.isList (x:=u1) (y:=u2) (by simpa using hu1) (by simpa using hu2) λh' a1 a2 a3 a4 a5 a6 hk=>?_
  refine⟨_,rfl,wpAny_letOwnedTupleGo_zip (s:={s with heap:=h'}) a1 λh'' hz'' sb=>?_⟩;replace sb:SameBut z h' h'':=sb;have zlt:z<s.heap.objs.size:=Zt hz;have Tne:s.heap.objs.size≠z:=Yh zlt;have hT2:h''.get? s.heap.objs.size=some {cls:= .type "tuple",data:= .seq #[u1,u2]}:=(sb.2 _ Tne).trans a5;have turn1:Inv X pins σ H {s with heap:=h''}:=by
   have nit:∀b v,H b=some v->b∉[z,TI,TO,i1,i2]:=λb v e hb=>by rw[(hf b hb).1]at e;cases e
   have kk:∀b o,b∉[z,TI,TO,i1,i2]->s.heap.get? b=some o->h''.get? b=some o:=λb o hb e=>by
    simp only[Ye,Yj,or_false,not_or]at hb;exact(sb.2 b hb.1).trans (hk b o hb.1 hb.2.2.1 hb.2.2.2.1 hb.2.2.2.2 e)
   refine I.step (g':=s.gens) (d':=s.drawn) (ch:=[z,TI,TO,i1,i2]) (λb hb=>⟨(hf b hb).2.2.2.1,(hf b hb).2.1,(hf b hb).2.2.2.2.1,(hf b hb).2.2.2.2.2⟩) (λb o _ _ hc e _=>kk b o hc e) (λb o _ _ hc e _=>⟨o.slots,kk b o hc e⟩) (λ_ _ _ _ n=>n)
    (λb o hc e=>⟨o,kk b o hc e⟩) (λ_ _ e=>e) (λ_ _ _ e=>e) (λb ps e=>⟨#[],by rw[e];simp⟩) (λm hm=>?_) (λb v e=>?_) I.bare
   ·obtain⟨o,es,ep,ho,r⟩:=hm;exact⟨o,es,ep,kk _ o (λhb=>(hf _ hb).2.1 rfl) ho,r⟩
   ·refine(I.hok b v e).stay (λc' v' hc' q=>kk c' v' ?_ q) (λ_ q=>q) λ_ _ q=>q
    rcases hc' with q'|q'
    ·rw[q'];exact nit b v e
    ·exact nit c' _ q'
  have Hn:H s.heap.objs.size=none:=I.fresh;have I2:Inv X pins σ (upd H s.heap.objs.size (.tup [x,y])) {s with heap:=h''}:=by
   have nf:s.heap.objs.size∉X.fs:=I.nofs (Zh _);refine⟨turn1.ok,turn1.os,turn1.bare,?_,turn1.loc,turn1.cell,?_,?_,?_,?_,turn1.len⟩
   ·have lt0:∀b o,X.s₀.heap.get? b=some o->b≠s.heap.objs.size:=λb o e=>Zr (Zf (Zt e) I.sz)
    refine⟨turn1.base.keep,turn1.base.slot,λb o e n hx=>?_,turn1.base.there,λb xs e=>?_,λb o v e=>?_,λb ps e=>?_⟩
    ·rw[aj (lt0 b o e)];exact turn1.base.free b o e n hx
    ·rw[aj (am (turn1.base.tups b xs e) Hn)];exact turn1.base.tups b xs e
    ·rw[aj (am (turn1.base.frzs b o v e) Hn)];exact turn1.base.frzs b o v e
    ·obtain⟨m,q⟩:=turn1.base.tbls b ps e;exact⟨m,by rw[aj (am q Hn)];exact q⟩
   ·rw[aj (Zr I.lt)];exact turn1.free
   ·intro x' c' e;obtain⟨v',q⟩:=I.cell x' c' e;rw[aj (Zr q.lt)];exact turn1.freeC x' c' e
   ·intro p hp;obtain⟨e,n,r⟩:=turn1.pin p hp;refine⟨e,?_,r⟩;rw[aj (Zr (Zt (I.pin p hp).1))];exact n
   ·intro b v e;by_cases hb:b=s.heap.objs.size
    ·subst hb;rw[aa]at e;cases e;exact⟨by show 2<=sizeLine;decide,[u1,u2],.cons ru1 (.cons ru2 .nil),_,hT2,rfl,_,rfl⟩
    ·rw[aj hb]at e;refine(turn1.hok b v e).stay (λ_ _ _ q=>q) (λc' q=>?_) λc' xs q=>?_
     ·rw[aj (am q Hn)];exact q
     ·rw[aj (am q Hn)];exact q
  refine⟨.ref s.heap.objs.size,_,I2,rfl,⟨_,x,y,Hn,rfl,rfl,λzs hzs=>by rw[I.list_inj hzs hq1];exact hx,λzs hzs=>by rw[I.list_inj hzs hq2];exact hy⟩,⟨hz'',(sb.2 _ D.TIz).trans (hk _ _ D.TIz D.TITO D.TIi1 D.TIi2 hTI),⟨_,_,(sb.2 _ D.TOz).trans a2⟩,?_,?_⟩,λb hb=>?_⟩
  ·obtain⟨o,e,r⟩:=a3;exact⟨o,(sb.2 _ D.i1z).trans e,r⟩
  ·obtain⟨o,e,r⟩:=a4;exact⟨o,(sb.2 _ D.i2z).trans e,r⟩
  ·have:b<s.heap.objs.size:=by
    simp only[Ye,Yj,or_false]at hb;obtain⟨o1,q1,_⟩:=h1;obtain⟨o2,q2,_⟩:=h2;rcases hb with rfl|rfl|rfl|rfl|rfl
    ·exact Zt hz
    ·exact Zt hTI
    ·exact Zt hTO
    ·exact Zt q1
    ·exact Zt q2
   rw[aj (Zr this)];exact(hf b hb).1
 done:=by
  intro X hP hw hK hc i pins s σ H E I hf st hg;subst hP hw hK;obtain⟨hz,hTI,⟨a,c,hTO⟩,h1,h2⟩:=st;obtain⟨xs,ys,hq1,hq2,g1,g2,g3⟩:=hg;obtain⟨its1,rv1,pl1,hz1⟩:=I.list hq1;obtain⟨its2,rv2,pl2,hz2⟩:=I.list hq2;have n1:=rv1.length;have n2:=rv2.length;refine wpAny_pyNext_zip_end (I.ok.hd hc) D hz hTI hTO h1 h2 pl1.isList pl2.isList (by
   rcases g3 with q|q
   ·exact .inl (by simp;lia)
   ·exact .inr (by simp;lia)) λh' hk=>⟨rfl,?_⟩
  have nit:∀b v,H b=some v->b∉[z,TI,TO,i1,i2]:=λb v e hb=>by rw[(hf b hb).1]at e;cases e
  have kk:∀b o,b∉[z,TI,TO,i1,i2]->s.heap.get? b=some o->h'.get? b=some o:=λb o hb e=>by
   simp only[Ye,Yj,or_false,not_or]at hb;exact hk b o hb.1 hb.2.2.1 hb.2.2.2.1 hb.2.2.2.2 e
  refine I.step (g':=s.gens) (d':=s.drawn) (ch:=[z,TI,TO,i1,i2]) (λb hb=>⟨(hf b hb).2.2.2.1,(hf b hb).2.1,(hf b hb).2.2.2.2.1,(hf b hb).2.2.2.2.2⟩) (λb o _ _ hc e _=>kk b o hc e) (λb o _ _ hc e _=>⟨o.slots,kk b o hc e⟩) (λ_ _ _ _ n=>n)
   (λb o hc e=>⟨o,kk b o hc e⟩) (λ_ _ e=>e) (λ_ _ _ e=>e) (λb ps e=>⟨#[],by rw[e];simp⟩) (λm hm=>?_) (λb v e=>?_) I.bare
  ·obtain⟨o',es,ep,ho',r⟩:=hm;exact⟨o',es,ep,kk _ o' (λhb=>(hf _ hb).2.1 rfl) ho',r⟩
  ·refine(I.hok b v e).stay (λc' v' hc' q=>kk c' v' ?_ q) (λ_ q=>q) λ_ _ q=>q
   rcases hc' with q'|q'
   ·rw[q'];exact nit b v e
   ·exact nit c' _ q'
 self:=λ_ _ _ _ _ st h=>wpAny_pyIter_zip st.1 h
def zd(K:PySem.W.Frag)(d:TA):TI:=λe H R=>d e H λvs c=>∃a b,vs=[.ref a,.ref b]/\(∃xs,SqL K c a xs)/\(∃ys,SqL K c b ys)/\R (ur K a b) c
section
variable{X:Cx}{K:PySem.W.Frag}{pos:Pos}
theorem BA(N:X.K=K){O p:Pos}{a b:Expr}{A:TA}(Q:Gl X "zip")(T:X.mg "zip"=none)(U:aY a=false)(r:aY b=false)(Y:QA X [a,b] A):
 QI X (.Tuple B kt O) (.Call (.Name "zip" p) [a,b] [] pos) (zd K A):=by
 subst N
 constructor
 intro pins s C H R I h;refine Call_ (ik I Q T boot_zip (PyProof.Rows.callWith_type1 (thn (Y.h pos pins s C H _ I h) λus c ⟨vs,D,d,r1,q1⟩=>?_) (ay U) (by rw[ay r];rfl)));obtain⟨l,m,e,⟨xs,t⟩,⟨ys,u⟩,q⟩:=q1;subst e;obtain⟨u1,u2,rfl,e1,e2⟩:=kG r1;cases e1;cases e2;obtain⟨E,ab,f,ac⟩:=d.list t;obtain⟨its2,al,g,an⟩:=d.list u;have la:l<c.heap.objs.size:=by obtain⟨o,v,_⟩:=f.isList;exact Zt v
 have lb:m<c.heap.objs.size:=by obtain⟨o,v,_⟩:=g.isList;exact Zt v
 refine call_zip_2 f.isList g.isList λG L w x y z _ hk=>wpAny_pyIter_zip (s:={c with heap:=G}) L ?_
 have J:Inv X pins C D {c with heap:=G}:=d.kept (t':=c.toks) hk;have ne:∀i j:Nat,i≠j->c.heap.objs.size+i≠c.heap.objs.size+j:=λi j h e=>h (Nat.add_left_cancel e)
 have n:∀i:Nat,l≠c.heap.objs.size+i:=λi=>Zr (Zf la (le_add_right _ _))
 have nb:∀i:Nat,m≠c.heap.objs.size+i:=λi=>Zr (Zf lb (le_add_right _ _))
 refine⟨c.heap.objs.size+4,[c.heap.objs.size+4,c.heap.objs.size+2,c.heap.objs.size+3,c.heap.objs.size+0,c.heap.objs.size+1],_,ur X.K l m,D,rfl,J,
  ut _ _ _ _ _ l m ⟨ne 2 4 (by decide),ne 3 4 (by decide),ne 0 4 (by decide),ne 1 4 (by decide),ne 2 3 (by decide),ne 2 0 (by decide),ne 2 1 (by decide),ne 3 0 (by decide),ne 3 1 (by decide),ne 0 1 (by decide),n 4,n 3,n 0,n 1,nb 4,nb 3,nb 0,nb 1⟩,
  ⟨L,w,⟨_,_,x⟩,y,z⟩,λb M=>?_,q⟩
 have k:c.heap.objs.size<=b:=by
  simp only[Ye,Yj,or_false]at M;rcases M with rfl|rfl|rfl|rfl|rfl<;> exact le_add_right _ _
 exact d.fpOk k (d.hok.fresh k)
end
open PySem PySem.Spec PySem.Calls PyProof.Rows PyProof.V PySem.W
section
variable{prog:Program}{w:World}{A:Around}{E:Value->Shared->Prop}{s:Shared}{d it:Addr}{es:Array DictEntry}{ep i:Nat}
end
section
variable{prog:Program}{w:World}{A:Around}{E:Value->Shared->Prop}{s:Shared}{S:Addr}
end
section
variable{X:Cx}{K:PySem.W.Frag}
end
section
variable{X:Cx}
theorem ze(c:bN k X.A)(d:swapsWith a (some (.Subscript o i b)) pos.line X.env=pure false)(e:QE X a f)(g:QE X o h)(hi:QE X i ty):QS X (.Assign [.Subscript o i b] a pos) (vO h ty f):=
 ⟨xV (by have:=c.units;lia) g.h hi.h e.h d⟩
theorem jq [DecidableEq f](a:List (f×V))(k:f)(v:V):(hX a k v).map (·.1)=if k∈a.map (·.1)then a.map (·.1)else a.map (·.1) ++[k]:=by
 unfold hX;have e:(a.any λb=>decide (b.1=k))=true↔k∈a.map (·.1):=by
  rw[any_eq_true,mem_map]
  constructor
  ·rintro⟨b,c,d⟩;exact⟨b,c,Zn d⟩
  ·rintro⟨b,c,d⟩;exact⟨b,c,Ze d⟩
 by_cases h:k∈a.map (·.1)
 ·rw[if_pos (e.mpr h),if_pos h,Yb];refine List.map_congr_left λb _=>?_
  show(if b.1=k then(b.1,v)else b).1=b.1
  split<;> rfl
 ·rw[if_neg (λz=>h (e.mp z)),if_neg h,Zc];rfl
end
structure zf (K:PySem.W.Frag) (mg:Str->Option Value) (x:Str):Prop where
 at_:mg x=some (.ref (aq mg x))
 cls:Cls K (aq mg x)
structure wO (K:PySem.W.Frag) (mg:Str->Option Value) (x qual:Str) (st:Stmt) (ps:List Str):Prop where
 ex:∃f fd,Mk K (aq mg x) f/\Fun K "__init__" qual st f fd/\dF K fd ps []
section
variable{P:Program}{w:World}{K:PySem.W.Frag}{mg:Str->Option Value}{base:Heap}{x m qual:Str}{st:Stmt}{N ps:List Str}{k:Nat}{sp:Sp}
end
section
variable{X:Cx}{K:PySem.W.Frag}{j k:Nat}{x m:Str}{ps:List Str}{sp:Sp}{p pos apos:Pos}{o e:Expr}{es:List Expr}{to te:TE}{t:TA}
theorem yy(h:X.K=K)(c:dg a=false)(d:QE X o to)(g:QE X a i):QS X (.Assign [.Attribute o f b] a pos) (zX K to i f):=by
 subst h;exact⟨zY d.h g.h (dU c)⟩
end
structure GvT (K:PySem.W.Frag) (mg:Str->Option Value) (x:Str) (xs:List V):Prop where
 ex:∃a,mg x=some (.ref a)/\∀H,SqT K H a xs
theorem wP{K:PySem.W.Frag}{h:Heap}{o:Obj}{its:Array Value}{n:Nat}(X:K.In h)(G:h.Ns mainGlobals mg)(z:nsIn K mainGlobals x=some (some (.ref a)))
 (b:K.lookup a=some o) (c:o.cls= .type "tuple") (d:o.data= .seq its n) (e:its.size<=sizeLine) (r:aD xs its.toList):GvT K mg x xs:=
 ⟨a,mg_of X G z,λ_=> .inr ⟨o,its,n,b,c,d,e,r⟩⟩
theorem BB{X:Cx}{K:PySem.W.Frag}{x:Str}(h:X.K=K)(g:GvT K X.mg x xs)(b:Gl X x)(c:(x==("__debug__":Str))=false):QE X (.Name x pos) (λ_ H Q=>∀a,(∀d,SqT K d a xs)->Q (.ref a) H):=by
 subst h;obtain⟨a,e,f⟩:=g.ex;refine⟨λpins s i H Q I q=>yZ (v:= .ref a) ⟨.ref a,e,rfl⟩ b c pins s i H Q I (q a f)⟩
section
variable{X:Cx}{K:PySem.W.Frag}
end
theorem pO(x y:Str):c6 [x] [y]=iW x y:=by
 show(if x=y then false else iW x y)=iW x y
 split
 ·rename_i e;rw[e,sG]
 ·rfl
section
variable{prog:Program}{w:World}{A:Around}{E:Value->Shared->Prop}{s:Shared}{S:Addr}
theorem pP(h:∀(M:Value->Shared->Prop) (R:List Value->Shared->Prop),(∀c,(∀b o,s.heap.get? b=some o->c.heap.get? b=some o)->c.gens=s.gens->c.os=s.os->R us c)->wpAny (model prog w) A.in1 (collect (.ref S)) R M s)(e:StrsAre us ks)(N:us.length<64)
 (O:∀(c s':Shared) (l:Addr) (vs:List Value) (ss:List Str) (n:Nat),StrsAre vs ss->ss.Perm ks->ss.Pairwise (λa b=>iW b a=false)->(∀b o,s.heap.get? b=some o->c.heap.get? b=some o)->c.gens=s.gens->c.os=s.os->(∀b o,c.heap.get? b=some o->s'.heap.get? b=some o)->s'.gens=c.gens->s'.os=c.os->c.heap.objs.size<=l->s'.heap.get? l=some {cls:= .type "list",data:= .seq vs.toArray n}->Q (.ref l) s'):
 wpAny (model prog w) A (call (.builtin "sorted") [.ref S]) Q E s:=by
 refine Calls.call_function_entry kind_sorted plain_sorted entry_sorted (args_sorted1 _) ?_;unfold Builtin.«sorted»;refine Z2 (m:=checkCount "sorted" 1 1 _) (Z3 ?_);refine Z2 (h _ _ λc T g1 U=>?_);refine Z2 (wpAny_newList ?_ (by rw[sizeLine_eq];lia));have B:(c.heap.push (seqObj "list" us.toArray 0)).get? c.heap.objs.size=some (seqObj "list" us.toArray 0):=Zi _ rfl;have f:∀v∈us,∃x t,v=Value.str x t/\[x]∈ks.map λz=>[z]:=λv g=>by
  obtain⟨x,t,rfl⟩:=e.all v g;refine⟨x,t,rfl,Yw ⟨x,?_,rfl⟩⟩;rw[<-e.strs];exact Yw ⟨_,g,rfl⟩
 refine Z2 (wpAny_holding (wpAny_call_entry slot_list_sort ⟨_,B,rfl⟩ entry_list_sort (ie (s:={c with heap:=c.heap.push (seqObj "list" us.toArray 0)}) (kd:=oneType') (Nv:=λv=>fK (ks.map λz=>[z]) [strOf v]) B (by lia) (λC Y D Q6 G=>?_) (λC Y=>?_) λd p p2=>⟨_,rfl,?_⟩) (args_list_sort _)))
 ·obtain⟨v1,q,r,rfl⟩:∃v1 q r,us=v1::q::r:=by
   match us,D with
   | v1::q::r,_=>exact⟨v1,q,r,rfl⟩
  rw[keyKind_strs e];exact Z3 G
 ·intro x y s' hx hy H;subst H;obtain⟨x1,x2⟩:=x;obtain⟨y1,y2⟩:=y;obtain⟨a,t,rfl,I⟩:=f _ hx;obtain⟨b,u,rfl,J⟩:=f _ hy;show wpAny (model prog w) A.in1.in1 (keyLt' oneType' (.str a t) (.str b u)) (λr s'=>r=decide (fK (ks.map λz=>[z]) [a]<fK (ks.map λz=>[z]) [b])/\s'={c with heap:=C}) (λ_ _=>False) {c with heap:=C};rw[keyLt'_oneType];refine oneLt_str ⟨?_,rfl⟩;rw[<-ko I,pO];rfl
 ·have i:∀v∈d,∃x t,v=Value.str x t:=λv g=>e.all v (p.mem_iff.mp g)
  obtain⟨n,gl⟩:∃n,(sortedHeap (c.heap.push (seqObj "list" us.toArray 0)) c.heap.objs.size us d.toArray).get? c.heap.objs.size=some (seqObj "list" d.toArray n):=sortedHeap_at B;refine Z3 ⟨_,rfl,O c _ c.heap.objs.size d (d.map strOf) n (strsAre_map d i) ?_ ?_ T g1 U (λb o' L=>?_) rfl rfl (Zh _) gl⟩
  ·rw[<-e.strs];exact p.map _
  ·rw[Yl];refine Yp (λ{u v} hu g j=>?_) p2;obtain⟨a,t,rfl,I⟩:=f _ (p.mem_iff.mp hu);obtain⟨b,t',rfl,J⟩:=f _ (p.mem_iff.mp g);show iW b a=false;rw[<-pO,ko J];have j:fK (ks.map λz=>[z]) [a]<=fK (ks.map λz=>[z]) [b]:=j;exact Zg (by lia)
  ·have k:=Zt L;show(sortedHeap _ _ _ _).get? b=_;rw[sortedHeap_old (Zr k) (by rw[Zp];exact Y8 k)];exact Z6 _ L
end
theorem iX:∀{ks:List Str} {us:List Value},aD (ks.map V.str) us->StrsAre us ks
 |[],_,.nil=> .nil
 | _::_,_,.cons r t=>by
   obtain⟨t',rfl⟩:=r;exact .cons _ _ (iX t)
theorem iY:∀{ks:List Str} {us:List Value},StrsAre us ks->aD (ks.map V.str) us
 | _,_,.nil=> .nil
 | _,_,.cons _ t h=> .cons ⟨t,rfl⟩ (iY h)
section
variable{X:Cx}{K:PySem.W.Frag}
theorem uu(h:X.K=K):cN X (.builtin "sorted") (λxs H Q=>∃(a:Addr) (ks:List Str),xs=[.ref a]/\SqL K H a (ks.map V.str)/\ks.length<64/\∀(l:Addr) (ss:List Str),H l=none->ss.Perm ks->ss.Pairwise (λa b=>iW b a=false)->Q (.ref l) (upd H l (.lst (ss.map V.str)))):=by
 subst h;refine⟨λpins s i H xs us Q I r h=>?_⟩;obtain⟨a,ks,rfl,p,t,q⟩:=h;obtain⟨u,rfl,v⟩:=eL r;cases v;obtain⟨its,j,⟨o,n,w,x,L,e⟩,M⟩:=I.list p;have y:=iX j;have N:its.length=ks.length:=by rw[<-j.length,Z5]
 refine pP (λO R z=>wpAny_collect_seq a (T:="list") (.inl rfl) w x e (λh' k=>?_) (by rw[Zo,sizeLine_eq];lia)) y (by lia) λA s' l vs ss n B m C D g1 E k g o d G=>?_
 ·exact z {s with heap:=h'} k rfl rfl
 ·have f:Inv X pins i H A:=I.keptS D g1 E;have c:H l=none:=f.hok.fresh d;have J:Inv X pins i H s':=f.keptS k g o;refine⟨.ref l,_,f.stoodS (o:= .lst (ss.map V.str)) J d ⟨?_,vs,n,iY B,G⟩,rfl,q l ss c m C⟩;rw[Z5,m.length_eq,sizeLine_eq]
  lia
theorem uw(h:X.K=K):cN X (.builtin "sorted") (λxs H Q=>∃(a:Addr) (ps:List (Addr×List Str)) (m:Nat),xs=[.ref a]/\SqL K H a (ps.map λp=>V.ref p.1)/\bd H ps/\(∀p∈ps,p.2.length=m)/\m≠0/\ps.length<64/\
 ∀(l:Addr) (ss:List (Addr×List Str)),H l=none->ss.Perm ps->ss.Pairwise (λa b=>c6 b.2 a.2=false)->Q (.ref l) (upd H l (.lst (ss.map λp=>V.ref p.1)))):=by
 subst h;refine⟨λpins s j H xs us Q I r h=>?_⟩;obtain⟨a,ps,m,rfl,v,w,x,y,e,q⟩:=h;obtain⟨u,rfl,z⟩:=eL r;cases z;obtain⟨its,A,⟨o,n,B,C,O,f⟩,U⟩:=I.list v;have:=n9 A;subst this;refine ly (λY R D=>wpAny_collect_seq a (T:="list") (.inl rfl) B C f (λh' k=>?_) (by rw[Zo,Z5,sizeLine_eq];lia)) (n8 I w) x y e λE s' l ss n t G L g1 M k g o d N=>?_
 ·exact D {s with heap:=h'} _ (List.Perm.refl _) k rfl rfl
 ·have i:Inv X pins j H E:=I.keptS L g1 M;have c:H l=none:=i.hok.fresh d;have J:Inv X pins j H s':=i.keptS k g o;refine⟨.ref l,_,i.stoodS (o:= .lst (ss.map λp=>V.ref p.1)) J d ⟨?_,ss.map (λp=>Value.ref p.1),n,oa ss,N⟩,rfl,q l ss c t G⟩;rw[Z5,t.length_eq,sizeLine_eq]
  lia
theorem dinT(a:bN k X.A)(b:behindInMarks .In o=false)(hi:QE X i ty)(c:QE X o d):QT X (.Compare i [.In] [o] pos) (tB (xU ty d)):=
 ⟨u5 (vP (by have:=a.units;lia) hi.h c.h) b⟩
end
theorem cL{X:Cx}{K:PySem.W.Frag}(h:X.K=K)(c:ki b)(d:QE X a e)(f:QE X b g):QE X (.Subscript a b pos) (tOp (z9 K) e g):=by subst h;exact⟨vI Ab d.h f.h c⟩
theorem qX(h:(env.blockKind== .function&&env.kindOf x==some .local&&b.line==pos.line&&!(a.names.any λ(n,k)=>n==x&&(k== .local||k== .cell)))=false):
 swapsWith (.ListComp c gens a pos) (some (.Name x b)) l env=pure false:=by
 show(pure (env.blockKind== .function&&env.kindOf x==some .local&&b.line==pos.line&&!(a.names.any λ(n,k)=>n==x&&(k== .local||k== .cell))):Sem Bool)=pure false;rw[h]
theorem wQ{X:Cx}(i:Nat)(e:X.N.Nodup)(hi:X.N[i]? =some x)(f:Loc X.env.scope x)(g:X.fn x=true\/X.env.scope.names.lookup x=some .local)
 (b:(X.env.blockKind== .function&&X.env.kindOf x==some .local&&h.line==pos.line&&!(a.names.any λ(n,k)=>n==x&&(k== .local||k== .cell)))=false) (j:QE X (.ListComp c gens a pos) l):
 QS X (.Assign [.Name x h] (.ListComp c gens a pos) d) (iK l (fF i)):=⟨vh e hi f j.h (qX b) g⟩
section
variable{prog:Program}{w:World}{A:Around}{E:Value->Shared->Prop}{s:Shared}
end
section
variable(h:Heap)(l1 l2:Addr)
end
section
variable{prog:Program}{w:World}{A:Around}{E:Value->Shared->Prop}{s:Shared}
end
section
variable{X:Cx}{K:PySem.W.Frag}{pos:Pos}
end
section
variable{X:Cx}{pos:Pos}
end
section
variable{prog:Program}{w:World}{A:Around}{E:Value->Shared->Prop}{s:Shared}
theorem qY{i:Nat}{v:Value}(h:(#[Value.str x t,Value.str y u]:Array Value)[i]? =some v):∃t,v= .str (if i=0 then x else y) t:=by
 match i,h with
 | 0,h=>exact⟨t,by simpa using h.symm⟩
 | 1,h=>exact⟨u,by simpa using h.symm⟩
 | i+2,h=>simp at h
end
section
variable{X:Cx}
end
section
variable{prog:Program}{w:World}{A:Around}{E:Value->Shared->Prop}{s:Shared}
end
section
variable{prog:Program}{w:World}{A:Around}{R:Result->Shared->Prop}{I:Addr}{fp wr:List Addr}{G:Array GenState->Array GenState->Prop}{n:Nat}{P:Nat->Value->Prop}{St:Nat->Shared->Prop}
end
section
variable{prog:Program}{w:World}{A:Around}{E:Value->Shared->Prop}{s:Shared}
end
section
variable{X:Cx}{K:PySem.W.Frag}
end
section
variable{X:Cx}{K:PySem.W.Frag}
end
section
variable{X:Cx}{K:PySem.W.Frag}
end
section
variable{prog:Program}{w:World}{A:Around}{E:Value->Shared->Prop}{s:Shared}
end
section
variable{X:Cx}
end
section
variable{prog:Program}{w:World}{A:Around}{E:Value->Shared->Prop}{s:Shared}
end
section
variable{prog:Program}{w:World}{A:Around}{E:Value->Shared->Prop}{s:Shared}
end
section
variable{prog:Program}{w:World}{A:Around}{E:Value->Shared->Prop}{s:Shared}
end
section
variable{prog:Program}{w:World}{A:Around}{E:Value->Shared->Prop}{s:Shared}
end
section
variable{prog:Program}{w:World}{A:Around}{E:Value->Shared->Prop}{s:Shared}
end
section
variable{X:Cx}
end
theorem yz{X:Cx}(a:bN k X.A)(b:behindInMarks .NotIn o=false)(hi:QE X i ty)(c:QE X o d):QT X (.Compare i [.NotIn] [o] pos) (tB (nF ty d)):=
 ⟨u5 (tw (by have:=a.units;lia) hi.h c.h) b⟩
open PySem PySem.Spec PyProof.Rows PySem.SeqAt
section
variable{X:Cx}
end
section
variable{X:Cx}{K:PySem.W.Frag}{pos:Pos}
theorem ad(i:Nat)(h:(X.N[i]?,X.env.scope.names.lookup x,x==("__debug__":Str),x==("__classdict__":Str))=(some x,some .local,false,false)):QE X (.Name x pos) (gZ i):=by
 simp only[Prod.mk.injEq]at h;exact vn i h.1 (.inl h.2.1) h.2.2.1 h.2.2.2
theorem eE(i:Nat)(h:(X.N[i]?,X.env.scope.names.lookup x,x==("__debug__":Str),x==("__classdict__":Str))=(some x,some .cell,false,false)):QE X (.Name x pos) (gZ i):=by
 simp only[Prod.mk.injEq]at h;exact vn i h.1 (.inr (.inl h.2.1)) h.2.2.1 h.2.2.2
theorem aZ(C:Cal X.prog X.w X.K X.mg X.base j x ps sp)(b:bN k X.A)(h:(X.env.kindOf x,Nat.ble j k,x==("__debug__":Str),(e::a).any aY)=(some .globalImplicit,true,false,false))(c:QA X (e::a) t):QE X (.Call (.Name x p) (e::a) [] pos) (l9 sp [] E0 t):=by
 simp only[Prod.mk.injEq]at h;exact calE C b h.1 h.2.1 h.2.2.1 h.2.2.2 c
theorem cbO{id:String}(b:cN X (.builtin id) r)(c:X.mg x=none)(d:bootBuiltins x=some (.builtin id))(h:(X.env.kindOf x,x==("__name__":Str),x==("__debug__":Str),(e::a).any aY)=(some .globalImplicit,false,false,false))(f:QA X (e::a) t):QE X (.Call (.Name x p) (e::a) [] pos) (tCB r t):=by
 simp only[Prod.mk.injEq]at h;exact cbE b h.1 c d h.2.1 h.2.2.1 h.2.2.2 f
theorem ctO(b:cN X (.type T) r)(c:X.mg x=none)(d:bootBuiltins x=some (.type T))(h:(X.env.kindOf x,x==("__name__":Str),x==("__debug__":Str),(e::a).any aY)=(some .globalImplicit,false,false,false))(f:QA X (e::a) t):QE X (.Call (.Name x p) (e::a) [] pos) (tCB r t):=by
 simp only[Prod.mk.injEq]at h;exact ctE b h.1 c d h.2.1 h.2.2.1 h.2.2.2 f
theorem bmO{T id:String}(f:PlainAttrs T)(slot:Slot T name id)(c:typeOf (.builtin id)=pure (.type "method_descriptor"))(g:MtQ X id r)
 (h:(gF o,(e::d).any aY,Nat.blt (e::d).length 30,a.endLine==b.line)=(false,false,true,true)) (i:QE X o j) (k:QA X (e::d) t):QE X (.Call (.Attribute o name a) (e::d) [] b) (tBM X.K T r j t):=by
 simp only[Prod.mk.injEq]at h;exact bmE rfl f slot c g h.1 h.2.1 h.2.2.1 h.2.2.2 i k
theorem aV(i:Nat)(b:X.N.Nodup)(h:(X.N[i]?,X.env.scope.names.lookup x,dg e)=(some x,some .local,false))(c:QE X e d):QS X (.Assign [.Name x a] e pos) (iK d (fF i)):=by
 simp only[Prod.mk.injEq]at h;exact Ay i b h.1 (.inl h.2.1) (.inr h.2.1) h.2.2 c
theorem bb(i:Nat)(a:X.N.Nodup)(h:(X.N[i]?,X.env.scope.names.lookup x)=(some x,some .local)):QG X (.Name x pos) (fF i):=by
 simp only[Prod.mk.injEq]at h;exact mC i a h.1 (.inl h.2) (.inr h.2)
end
def zg(b:TE):TE:=λc H Q=>b c H λv a=>(v= .non/\Q (.str "None") a)\/∃i:Int,v= .int i/\i.natAbs<2^64/\Q (.str (toString i)) a
theorem BC{X:Cx}(c:QE X e d):QE X (.FormattedValue e (-1) none pos) (zg d):=by
 refine⟨λpins s f H Q I h=>?_⟩;refine FormattedValue_plain (thn (c.h pins s f H _ I h) λu j ⟨v,a,b,r,q⟩=>?_);rcases q with⟨rfl,q⟩|⟨i,rfl,hi,q⟩
 ·cases(show u=Value.none from r);exact wpAny_formatField_none ⟨.str "None",a,b.tok _,⟨_,rfl⟩,q⟩
 ·obtain⟨t,rfl⟩:=(show∃t,u=Value.int i t from r)
  have g:i.natAbs.log2<1920:=by
   by_cases z:i.natAbs=0
   ·rw[z];decide
   ·exact(Nat.log2_lt z).mpr (Zf hi (Nat.pow_le_pow_right (by decide) (by decide)))
  exact formatField_int_small g ⟨V.str (toString i),a,b.tok _,⟨_,rfl⟩,q⟩
section
variable{prog:Program}{w:World}{A:Around}{E:Value->Shared->Prop}{s:Shared}{K:PySem.W.Frag}{x C:Addr}{name:Str}{v:Value}{ox:Obj}
theorem yA(X:K.In s.heap)(q:s.heap.get? x=some ox)(a:ox.cls= .ref C)(c:ox.data= .fields vs)(f:ox.dict=some d)(r:s.heap.Ns1 d m)(hw:Within m u)(U:u.length<=8)
 (z:findIn K (.ref C) "__setattr__"=some (some (.builtin "object.__setattr__"))) (B:iw K C=true) (D:findIn K (.ref C) name=some none) (G:hasDictIn K C=true)
 (h:∀h',h'.Ns1 d (λy=>if y=name then some v else m y)->(∀b o,b≠d->s.heap.get? b=some o->h'.get? b=some o)->Q () {s with heap:=h',toks:=s.toks+2}):
 wpAny (model prog w) A (setAttr (.ref x) name v) Q E s:=by
 obtain⟨Y,H,I,i⟩:=ox;dsimp only at a c f;subst a c f;obtain⟨t,L⟩:∃o,s.heap.get? d=some o:=let⟨o,_,_,e,_⟩:=r;⟨o,e⟩;have J:PySem.W.InstAt s.heap x ⟨.ref C,some d,.fields vs,i⟩ C (some t):=⟨q,rfl,rfl,L⟩
 refine set_plain X J z (wl (s:={s with toks:=s.toks+1}) X J B D ?_);obtain⟨cd,M,j⟩:=any_some G;refine Z2 (Z3 (Z2 (Z2 (wpAny_loadPart q (Z2 (Looks.here (s:={s with toks:=s.toks+1}) (looks_clsIn X M) ?_))))));rw[j];refine Z3 ?_;show wpAny _ _ (Builtin.ObjectAttr.storeInDict d (.str name _) name v) _ _ _;unfold Builtin.ObjectAttr.storeInDict Builtin.ObjectAttr.newKeyGuard;refine Z2 (Z3 (Z2 (wpAny_nsSet1 r λh' g k=>?_)));obtain⟨t,N,O,l,n,p⟩:=g.count (PySem.Within.cons name v hw);refine Z2 (wpAny_lookBehind l (by rw[n];exact pastItsLine_dict (Y2 p (by rw[Zq,sizeLine_eq];lia))) ?_);refine Z3 (h h' g λb o T e=>(k.2 b T).trans e)
end
section
variable{X:Cx}{o value:Expr}{nm:Str}{ta tv:TE}{C:Addr}{pos pos':Pos}
noncomputable def XdP(d:Addr)(fs:List (Str×V)):HO:= .ext λh=>∃a,h.Ns1 d a/\∀f,gY (fs.lookup f) (a f)
def wR(K:PySem.W.Frag)(C:Addr)(ta tv:TE)(f:Str):TS:=λD b H=>tv b H λy e=>ta b e λx c=>∃a,x= .ref a/\c a=some (ExO a C none)/\
 ∀d,c d=none->d≠a->D.nx b (upd (upd c a (ExO a C (some d))) d (XdP d [(f,y)]))
theorem yB(c:nT X.K C nm)(E:PE X o ta)(G:PE X value tv)(J:swapsWith value (some (.Attribute o nm pos')) pos.line X.env=pure false):PS X (.Assign [.Attribute o nm pos'] value pos) (wR X.K C ta tv nm):=by
 intro pins s j H D I h;refine plainObj_wpAny_Assign_Attribute (thn (G pins s j H _ I h) λu L ⟨y,M,N,O,q⟩=>thn (E pins L j M _ N q) λQ d ⟨x,T,f,U,a,ex,l,Y⟩=>?_) J;subst ex;obtain rfl:Q=Value.ref a:=U;obtain⟨⟨ob,vs,e,p,hd,t,hz,v⟩,_⟩:=f.hok a _ l;have i:d.heap.objs.size≠a:=Yh (Zt e);have w:T d.heap.objs.size=none:=f.hok.fresh (Zh _);refine si f.kIn e p t hd c.sa c.ov c.no c.hd λh' A B k=>?_
 refine⟨j,_,?_,Y d.heap.objs.size w i⟩;have I3:=f.write (x:=a) (e:=a) (o:=ExO a C (some d.heap.objs.size)) (t':=d.toks+2) (h':=h') (by rw[l];exact True.intro) (.inl rfl) (λb u n z=>k b u n z) ⟨_,A⟩ (ExO.ok A p rfl t hz v);refine Inv.stood2 (a:=d.heap.objs.size) (o:=XdP d.heap.objs.size [(nm,y)]) (s:=d) f I3 (by rw[aj i];exact w) (Zh _) ⟨⟨_,B,λg=>?_⟩,let⟨o,_,_,e,_⟩:=B;⟨o,e⟩,λv h2 ⟨m,n,r⟩ k=>⟨m,n.at k,r⟩⟩;show gY (List.lookup g [(nm,y)]) (if g=nm then some u else none);by_cases z:g=nm
 ·rw[if_pos z,z];simp only[List.lookup,beq_self_eq_true];exact O
 ·rw[if_neg z];have z':(g==nm)=false:=by simpa using z
  simp only[List.lookup,z'];exact True.intro
def wS(K:PySem.W.Frag)(C:Addr)(ta tv:TE)(f:Str):TS:=λD b H=>tv b H λy e=>ta b e λx c=>∃a d g z,x= .ref a/\c a=some (ExO a C (some d))/\c d=some (XdP d [(g,z)])/\
 D.nx b (upd c d (.xd [(f,y),(g,z)]))
theorem yC(c:nT X.K C nm)(t:PE X o ta)(v:PE X value tv)(A:swapsWith value (some (.Attribute o nm pos')) pos.line X.env=pure false):PS X (.Assign [.Attribute o nm pos'] value pos) (wS X.K C ta tv nm):=by
 intro pins s i H D I h;refine plainObj_wpAny_Assign_Attribute (thn (v pins s i H _ I h) λu B ⟨y,E,G,J,q⟩=>thn (t pins B i E _ G q) λL M ⟨x,H2,f,N,a,d,g,z,ex,O,l,Q⟩=>?_) A;subst ex;obtain rfl:L=Value.ref a:=N;obtain⟨⟨ob,vs,e,T,U,Y,hz,h1⟩,_⟩:=f.hok a _ O;obtain⟨⟨m,hn,p⟩,_⟩:=f.hok d _ l;have hw:Within m [g]:=λy hy=>by
  have:=p y;by_cases e:y=g
  ·rw[e];exact mem_singleton.mpr rfl
  ·have j:(y==g)=false:=by simpa using e
   simp only[List.lookup,j]at this
   revert this hy
   cases m y
   ·intro h _;exact absurd rfl h
   ·intro _ h;exact h.elim
 refine yA f.kIn e T Y U hn hw (by simp) c.sa c.ov c.no c.hd λh' r k=>?_
 refine⟨i,_,f.write (x:=d) (e:=d) (o:= .xd [(nm,y),(g,z)]) (t':=M.toks+2) (h':=h') (by rw[l];exact True.intro) (.inl rfl) (λb u n z=>k b u n z) (let⟨o,_,_,e,_⟩:=r;⟨o,e⟩) ⟨_,r,λw=>?_⟩,Q⟩;show gY (List.lookup w [(nm,y),(g,z)]) (if w=nm then some u else m w);by_cases e:w=nm
 ·rw[if_pos e,e];simp only[List.lookup,beq_self_eq_true];exact J
 ·rw[if_neg e];have j:(w==nm)=false:=by simpa using e
  have:=p w;simp only[List.lookup,j]at this ⊢;exact this
theorem BD(c:nT X.K C f)(a:dg e=false)(b:QE X o ta)(d:QE X e tv):QS X (.Assign [.Attribute o f pos'] e pos) (wR X.K C ta tv f):=⟨yB c b.h d.h (dU a)⟩
theorem BE(c:nT X.K C f)(a:dg e=false)(b:QE X o ta)(d:QE X e tv):QS X (.Assign [.Attribute o f pos'] e pos) (wS X.K C ta tv f):=⟨yC c b.h d.h (dU a)⟩
end
def zh(K:PySem.W.Frag)(D:Addr)(E:XK)(len:Nat)(e ts:TS):TS:=λDn f H=>e Dn f H/\∀cls d c,E cls d c->∃C,cls= .ref C/\subIn K (.ref C) (.ref D)=some true/\
 ∀(a:Addr) (b:St),b.length=len->c a=none->ts Dn b (upd c a (ExH a C d))
theorem yD{X:Cx}{D:Addr}(i:X.stack=X.env::X.outer)(hf:X.env.frame=some X.env.locals)
 (hg:Gl X x) (hm:X.mg x=some (.ref D)) (c:Cat X.K D) (j:∀pn,PSs (X.tryX pn E) t tb) (h:∀a,PSs (X.suiteX a) (w::k) ts)
 (U:(x==("__debug__":Str))=false):
 PS X (.Try t [.ExceptHandler (some (.Name x p)) none (w::k) a2] [] [] pos) (zh X.K D E X.N.length tb ts):=by
 intro pins s σ H Dn I ⟨h1,h2⟩;refine wpAny_Try_except (wpAny_mono (j (X.pn++pins) [] s σ H Dn (I.toPn _) h1) (λf g q=>?_) λe g q=>?_)
 ·have O:=SP.ofPn q;cases f with
  | next=>exact wpAny_execs_nil O
  | brk=>exact O
  | cont=>exact O
  | ret u=>exact O
 ·obtain⟨Y,d,H1,s2,I1,l,B,cls,dx,y,rfl,F,qE⟩:=q;obtain⟨C,rfl,A,ab⟩:=h2 cls dx y qE;have ac:X.A.frames=some (X.env::X.outer):=by rw[<-i];exact I.ok.frames
  have F':Fl X.prog X.w (X.env::X.outer) H1 s2 l B (.ref C) dx (some .none) y g:=by rw[<-i];exact F
  refine nS (.inr rfl) ac hf F'.up λha ua G=>?_
  refine iT (s:={g with heap:=ha}) ua λQ ub L=>?_
  obtain⟨un,al⟩:=F.fly ub.1 (G.trans L);have J:Inv X pins d y {g with heap:=Q}:=(I1.call' (s':={g with heap:=Q}) (ch:=[]) F.os un al F.bare λb z=>absurd z (by simp)).ofPn (E:=X.xe);obtain⟨_,_,_,oe,vs,eb,an,a3,a4,_⟩:=id ub;refine wpAny_handleBy_cons (codeAny_handlers_test ?_) (by intro q;cases q);refine et (J.toSuite l) hg hm ?_ U;refine pD (s:={g with heap:=Q}) J.kIn c.ty c.ex c.cd eb an A ?_;refine codeAny_handlers_suite (iT (s:={g with heap:=Q}) ub λhc uc as=>?_);obtain⟨au,M⟩:=F.fly uc.1 ((G.trans L).trans as);have J2:Inv X pins d y {g with heap:=hc}:=(I1.call' (s':={g with heap:=hc}) (ch:=[]) F.os au M F.bare λb z=>absurd z (by simp)).ofPn (E:=X.xe);obtain⟨_,_,_,oc,vc,ec,av,a0,a1,_⟩:=id uc;have N:Inv X pins d H1 s2:=I1.ofPn (E:=X.xe);have J3:Inv X pins d (upd y l (ExH l C dx)) {g with heap:=hc}:=N.stood3 (λ_ z=>z) J2 F.free F.new (ExH.ok ec av a0 a1);refine wpAny_mono (h l pins _ _ _ Dn (J3.toSuite l) (ab l d N.len F.free)) (λf s5 T=>?_) λ_ _ z=>z.elim
  cases f with
  | next=>obtain⟨m,H2,n,o⟩:=T;exact⟨_,_,n.ofSuite I.ok,o⟩
  | brk=>obtain⟨m,H2,n,o⟩:=T;exact⟨_,_,n.ofSuite I.ok,o⟩
  | cont=>obtain⟨m,H2,n,o⟩:=T;exact⟨_,_,n.ofSuite I.ok,o⟩
  | ret u=>obtain⟨v,m,H2,n,r,o⟩:=T;exact⟨v,_,_,n.ofSuite I.ok,r,o⟩
theorem BF{X:Cx}{D:Addr}(E:XK)(f:X.stack=X.env::X.outer)(k:X.env.frame=some X.env.locals)(l:Gl X x)(m:X.mg x=some (.ref D))(c:Cat X.K D)(i:(x==("__debug__":Str))=false)(d:∀pn,QSs (X.tryX pn E) g n)(b:∀a,QSs (X.suiteX a) (h::e) ts):
 QS X (.Try g [.ExceptHandler (some (.Name x p)) none (h::e) j] [] [] pos) (zh X.K D E X.N.length n ts):=
 ⟨yD f k l m c (λpn=>(d pn).h) (λa=>(b a).h) i⟩
structure wU (P:Program) (w:World) (K:PySem.W.Frag) (mg:Str->Option Value) (base:Heap) (k:Nat) (x:Str) (ps:List Str) (sp:Sp):Prop where
 ex:∃f fd,eB P w K mg base (CXO P w) k f fd ps sp/\Mk K (aq mg x) f/\dF K fd ps []
section
variable{P:Program}{w:World}{K:PySem.W.Frag}{mg:Str->Option Value}{base:Heap}{x qual:Str}{st:Stmt}{N ps:List Str}{k:Nat}{sp:Sp}
theorem wO.calX(D:wO K mg x qual st ps)(S:ar N ps (ah st))(len:∀vs H Q E,sp vs H Q E->vs.length=ps.length)
 (a:∀(f:Addr) (b:Value) (A:Around) (outer:List Env) (s:Shared) (H:Hp) (vs:List V) (Q:VK) (E:XK),bN k (A.deeper (envOfC qual (ah st) s.heap.objs.size f b))->sp vs H Q E->
  ∃t,PSs (dS (CXO P w) P w K mg base N qual (ah st) f b A outer s H E) (bx st) t/\t {nx:=λ_ c=>Q .non c,rt:=Q} (eM N vs) H):wU P w K mg base (k+1) x ps sp:=by
 obtain⟨f,d,e,F,g⟩:=D.ex;exact⟨f,d,F.okX S len (a f),e,g⟩
end
theorem AI{X:Cx}(i:eC (CXO X.prog X.w) X E)(C:wU X.prog X.w X.K mg X.base j x ps sp)(c:zf X.K mg x)(a:X.mg=mg)(l:bN k X.A)(m:Gl X x)(b:Nat.ble (j+1) k=true)(d:(x==("__debug__":Str))=false)(g:(e::h).any aY=false)(n:QA X (e::h) t):
 QE X (.Call (.Name x p) (e::h) [] pos) (vC (aq mg x) sp [] E t):=by
 subst a;obtain⟨f,q,F,a,o⟩:=C.ex;rw[Zv,Yk]at g;exact⟨xN a F (l.mono (Nat.le_of_ble_eq_true b)) m c.at_ o .nil i n.h d (ay g.1) (dH g.2)⟩
noncomputable def fh:V->Bool
 | .byt _=>false
 | .flt _=>false
 | _=>true
theorem gK(r:aD xs us)(h:j<us.toArray.size):∃x,xs[j]? =some x/\aG x us.toArray[j]:=by
 have l:j<us.length:=by simpa using h
 have a:j<xs.length:=by rw[r.length];exact l
 obtain⟨u,b,c⟩:=r.get (i:=j) (x:=xs[j]) (by simp[a]);refine⟨xs[j],by simp[a],?_⟩;have e:us.toArray[j]=u:=by
  have:us[j]? =some us[j]:=by simp[l]
  rw[this]at b;simpa using Z9 b
 rw[e];exact c
theorem jr{A:Around}{s:Shared}{x:V}{u v:Value}(d:fh x=true)(a:aG x u)(c:aG x v):EqAt A s u v true:=by
 cases x with
 | int i=>
   obtain⟨t,rfl⟩:=a;obtain⟨t2,rfl⟩:=c;have:=EqAt.int_int (A:=A) (s:=s) i t i t2;rwa[beq_self_eq_true]at this
 | str z=>
   obtain⟨t,rfl⟩:=a;obtain⟨t2,rfl⟩:=c;have:=EqAt.str_str (A:=A) (s:=s) z t z t2;rwa[beq_self_eq_true]at this
 | byt b=>cases d
 | flt b=>cases d
 | _=>cases a;cases c;exact EqAt.same _
def mP(H:Hp)(x y:V):Prop:=(x=y/\fh x=true)\/∃a b xs,x= .ref a/\y= .ref b/\H a=some (.lst xs)/\H b=some (.lst xs)/\xs.all fh=true
theorem pQ{xs:List V}(h:xs.all fh=true){j:Nat}{x:V}(e:xs[j]? =some x):fh x=true:=all_eq_true.mp h x (Z7 e)
section
variable{X:Cx}{pins:List (Addr×Obj)}{σ:St}{H:Hp}{s:Shared}
theorem qZ(I:Inv X pins σ H s){A:Around}(h:mP H x y)(m:A.units<cLine)(f:aG x u)(g:aG y v):EqAt A s u v true:=by
 rcases h with⟨rfl,d⟩|⟨a,b,xs,rfl,rfl,n,o,d⟩
 ·exact jr d f g
 ·cases f;cases g;by_cases e:a=b
  ·subst e;exact EqAt.same _
  ·obtain⟨us,i,p,_⟩:=I.list (SqL.of n);obtain⟨vs,k,q,_⟩:=I.list (SqL.of o);have c:=RcAt.lists (A:=A) (s:=s) (e:=λ_=>true) p.isList q.isList (by rw[Zo,Zo,<-i.length,<-k.length]) m λj r t=>by
    obtain⟨x,ex,w⟩:=gK i r;obtain⟨y,l,z⟩:=gK k t;rw[ex]at l;cases l;exact jr (pQ d ex) w z
   rw[show(List.range us.toArray.size).all (λ_=>true)=true by simp]at c;exact EqAt.of_refs e c
end
section
variable{X:Cx}
abbrev BG:R2:=λx y H Q=>∃a b xs ys,x= .ref a/\y= .ref b/\H a=some (.lst xs)/\H b=some (.lst ys)/\xs.length=ys.length/\(∀(j:Nat) (x y:V),xs[j]? =some x->ys[j]? =some y->mP H x y)/\Q (.bl true) H
theorem AJ(z:X.A.units+64<cLine):OpR X (compareOp .Eq) BG:=by
 intro pins s B H x y v u Q I d f h;obtain⟨a,b,xs,ys,rfl,rfl,g,i,k,l,q⟩:=h;cases d;cases f;obtain⟨us,d,m,_⟩:=I.list (SqL.of g);obtain⟨vs,f,n,_⟩:=I.list (SqL.of i);have c:=RcAt.lists (A:=X.A) (s:=s) (e:=λ_=>true) m.isList n.isList (by rw[Zo,Zo,<-d.length,<-f.length,k]) (by lia) λj o p=>by
  obtain⟨x,ex,r⟩:=gK d o;obtain⟨y,t,w⟩:=gK f p;exact qZ I (l j x y ex t) (by show X.A.units+1<cLine;lia) r w
 rw[show(List.range us.toArray.size).all (λ_=>true)=true by simp]at c;exact c _ _ _ _ ⟨.bl _,H,I,rfl,q⟩
theorem BH(a:bN k X.A):OpQ X (compareOp .Eq) BG:=⟨AJ a.units⟩
abbrev BI:R2:=λx y H Q=>((x= .non/\y= .non)\/∃a b xs,x= .ref a/\y= .ref b/\H a=some (.tup xs)/\H b=some (.tup xs)/\xs.all fh=true)/\Q (.bl false) H
theorem AK(z:X.A.units+64<cLine):OpR X (compareOp .NotEq) BI:=by
 intro pins s i H x y v u Q I d f h;obtain⟨⟨rfl,rfl⟩|⟨a,b,xs,rfl,rfl,k,l,m⟩,q⟩:=h
 ·exact yV pins s i H .non .non v u Q I d f ⟨rfl,q⟩
 cases d;cases f;obtain⟨us,d,n,_⟩:=I.tuple (SqT.of k);obtain⟨vs,f,o,_⟩:=I.tuple (SqT.of l);have c:=RcNeAt.tuples (A:=X.A) (s:=s) (e:=λ_=>true) n o (by lia) λj p r=>by
  obtain⟨x,ex,t⟩:=gK d p;obtain⟨y,g,w⟩:=gK f r;rw[ex]at g;cases g;exact jr (pQ m ex) t w
 have e:us.toArray.size=vs.toArray.size:=by rw[Zo,Zo,<-d.length,<-f.length]
 rw[e,show((List.range (min vs.toArray.size vs.toArray.size)).all (λ_=>true)&&vs.toArray.size==vs.toArray.size)=true by simp]at c;exact c _ _ _ _ ⟨.bl _,H,I,rfl,q⟩
theorem BJ(a:bN k X.A):OpQ X (compareOp .NotEq) BI:=⟨AK a.units⟩
abbrev BK:R2:=λx y H Q=>∃a b xs,x= .ref a/\y= .ref b/\H a=some (.lst xs)/\H b=some (.lst [])/\Q (.bl (decide (xs=[]))) H
theorem AL(o:X.A.units+64<cLine):OpR X (compareOp .Eq) BK:=by
 intro pins s p H x y v u Q I d f h;obtain⟨a,b,xs,rfl,rfl,l,m,q⟩:=h;cases d;cases f;obtain⟨us,d,i,_⟩:=I.list (SqL.of l);obtain⟨vs,f,k,_⟩:=I.list (SqL.of m);obtain rfl:vs=[]:=length_eq_zero_iff.mp f.length.symm;by_cases g:xs=[]
 ·subst g;obtain rfl:us=[]:=length_eq_zero_iff.mp d.length.symm;have c:=RcAt.lists (A:=X.A) (s:=s) (e:=λ_=>true) i.isList k.isList rfl (by lia) λj n r=>absurd n (Yi _)
  exact c _ _ _ _ ⟨.bl _,H,I,rfl,q⟩
 ·rw[show decide (xs=[])=false from Zg g]at q;have c:=RcAt.lists_lengths (A:=X.A) (s:=s) i.isList k.isList (by
   have:us.length≠0:=by rw[<-d.length];exact λq=>g (length_eq_zero_iff.mp q)
   simpa using this) (by lia)
  exact c _ _ _ _ ⟨.bl _,H,I,rfl,q⟩
theorem dinE(a:bN k X.A)(b:behindInMarks .In o=false)(hi:QE X i ty)(c:QE X o d):QE X (.Compare i [.In] [o] pos) (xU ty d):=⟨zx (vP (by have:=a.units;lia) hi.h c.h) b⟩
theorem BL(a:bN k X.A):OpQ X (compareOp .Eq) BK:=⟨AL a.units⟩
end
end L2
namespace Cut
open PySem L2
end Cut
namespace Cut
open PySem L2
def Ed(ks:List (List Str))(a b:Str):Prop:=∃z,[a,b,z]∈ks
inductive Rch (ks:List (List Str)):Str->Str->Prop
 | one {a b:Str}:Ed ks a b->Rch ks a b
 | more {a b c:Str}:Rch ks a b->Ed ks b c->Rch ks a c
theorem Rch.trans(h:Rch ks a b)(g:Rch ks b c):Rch ks a c:=by
 induction g with
 | one e=>exact .more h e
 | more _ e d=>exact .more d e
noncomputable def Wal:List (List Str)->Str->Str->Prop
 |[],a,b=>a=b
 | k::r,a,b=>∃c z,k=[a,c,z]/\Wal r c b
theorem Wal.app:∀{us vs:List (List Str)} {a:Str},Wal us a b->Wal vs b c->Wal (us++vs) a c
 |[],_,_,h,g=>by rw[show _=b from h];exact g
 | _::_,_,_,⟨d,z,e,h⟩,g=>⟨d,z,e,h.app g⟩
def Dst(ks:List (List Str))(s:Str)(n:Nat)(x:Str):Prop:=∃us:List (List Str),us.length=n/\(∀k∈us,k∈ks)/\Wal us s x
theorem Dst.nil:Dst ks s 0 s:=⟨[],rfl,λ_ h=>(nomatch h),rfl⟩
theorem Dst.app(h:Dst ks s n x)(g:Dst ks x m y):Dst ks s (n+m) y:=by
 obtain⟨us,a,b,c⟩:=h;obtain⟨vs,g1,g2,g3⟩:=g;exact⟨us++vs,by rw[Z8,a,g1],λk d=>(Yt d).elim (b k) (g2 k),c.app g3⟩
theorem Ed.dst(e:Ed ks s x):Dst ks s 1 x:=by
 obtain⟨z,e⟩:=e;exact⟨[[s,x,z]],rfl,λk a=>by rw[Yu a];exact e,x,z,rfl,rfl⟩
theorem Dst.last:∀{n:Nat} {s:Str},Dst ks s (n+1) x->∃y,Dst ks s n y/\Ed ks y x
 | n,s,⟨[],a,_,_⟩=>(nomatch a)
 | 0,s,⟨[k],_,b,c,z,e,h⟩=>⟨s,.nil,z,by rw[<-show c=x from h,<-e];exact b k Zl⟩
 | 0,s,⟨_::_::_,a,_,_⟩=>absurd a (by simp)
 | n+1,s,⟨k::r,a,b,c,z,e,h⟩=>by
   obtain⟨y,d,f⟩:=Dst.last (n:=n) (s:=c) ⟨r,by simpa using a,λk g=>b k (Zj _ g),h⟩;have:Ed ks s c:=⟨z,by rw[<-e];exact b k Zl⟩
   exact⟨y,add_comm 1 n▸this.dst.app d,f⟩
theorem Rch.dst(h:Rch ks a b):∃n,Dst ks a (n+1) b:=by
 induction h with
 | one e=>exact⟨0,e.dst⟩
 | more _ e c=>
   obtain⟨n,h⟩:=c;exact⟨n+1,h.app e.dst⟩
theorem Dst.rch:∀{n:Nat} {b:Str},Dst ks a (n+1) b->Rch ks a b
 | 0,b,h=>by
   obtain⟨y,⟨us,d,_,c⟩,e⟩:=h.last;rw[length_eq_zero_iff.mp d]at c;rw[show a=y from c];exact .one e
 | n+1,b,h=>by
   obtain⟨y,h,e⟩:=h.last;exact .more h.rch e
structure Lev (ks:List (List Str)) (st:Str) (rs:List (Str×Addr×List Str)) (d:Str->Nat) (k:Nat) (F:List Str):Prop where
 nd:(rs.map (·.1)).Nodup
 by_:∀r∈rs,r.2.2∈ks/\∃p z,r.2.2=[p,r.1,z]/\((p=st/\d r.1=1)\/(p≠st/\p∈rs.map (·.1)/\d r.1=d p+1))
 le:∀x∈rs.map (·.1),d x<=k
 edge:∀x,x∈F↔(k=0/\x=st)\/(1<=k/\x∈rs.map (·.1)/\d x=k)
 all:∀n x,1<=n->n<=k->Dst ks st n x->x∈rs.map (·.1)/\d x<=n
section
variable{ks:List (List Str)}{st:Str}{rs:List (Str×Addr×List Str)}{d:Str->Nat}{k:Nat}{F:List Str}
theorem Lev.nil:Lev ks st [] (λ_=>0) 0 [st]:=
 ⟨nodup_nil,λ_ h=>(nomatch h),λ_ h=>(nomatch h),λx=>by simp,λn x a b=>by lia⟩
theorem Lev.dst(h:Lev ks st rs d k F)(a:x∈rs.map (·.1)):1<=d x/\Dst ks st (d x) x:=by
 have:∀(m:Nat) x,x∈rs.map (·.1)->d x<=m->1<=d x/\Dst ks st (d x) x:=λm=>by
  induction m with
  | zero=>
    intro x a l;obtain⟨r,b,rfl⟩:=Yv a;obtain⟨_,p,z,_,⟨_,e⟩|⟨_,_,e⟩⟩:=h.by_ r b<;> lia
  | succ m g=>
    intro x a l;obtain⟨r,b,rfl⟩:=Yv a;obtain⟨c,p,z,i,q⟩:=h.by_ r b;rw[i]at c;have f:Ed ks p r.1:=⟨z,c⟩
    rcases q with⟨rfl,e⟩|⟨_,j,e⟩
    ·rw[e];exact⟨Zh _,f.dst⟩
    ·rw[e];exact⟨by lia,(g p j (by lia)).2.app f.dst⟩
 exact this _ x a (Zh _)
theorem Lev.min(h:Lev ks st rs d k F)(a:x∈rs.map (·.1))(g:Dst ks st (n+1) x):d x<=n+1:=by
 by_cases c:n+1<=k
 ·exact(h.all _ x (by lia) c g).2
 ·have:=h.le x a
  lia
theorem Lev.stop(h:Lev ks st rs d k []):∀{n:Nat},Dst ks st (n+1) x->x∈rs.map (·.1):=by
 have a:1<=k:=Nat.pos_of_ne_zero λc=>(nomatch (h.edge st).mpr (.inl ⟨c,rfl⟩))
 have:∀(n:Nat) x,Dst ks st (n+1) x->x∈rs.map (·.1):=λn=>by
  induction n with
  | zero=>exact λx g=>(h.all 1 x (Zh _) a g).1
  | succ n b=>
    intro x g;obtain⟨y,f,e⟩:=g.last;have q:=b y f;have l:=h.le y q;have ne:d y≠k:=λc=>(nomatch (h.edge y).mpr (.inr ⟨a,q,c⟩))
    exact(h.all _ x (by lia) (show d y+1<=k by lia) ((h.dst q).2.app e.dst)).1
 exact λ{n}=>this n x
theorem Lev.step(h:Lev ks st rs d k F)(u:((rs++new).map (·.1)).Nodup)(E:∀r∈new,r.2.2∈ks/\∃p z,p∈F/\r.2.2=[p,r.1,z])
 (v:∀x∈F,∀y,Ed ks x y->y∈(rs++new).map (·.1)):Lev ks st (rs++new) (λx=>if x∈new.map (·.1)then k+1 else d x) (k+1) (new.map (·.1)):=by
 have o:=u;rw[Zc,nodup_append]at o;have f:∀{x},x∈rs.map (·.1)->x∉new.map (·.1):=λ{x} a b=>o.2.2 x a x b rfl
 have mem:∀{x},x∈(rs++new).map (·.1)↔x∈rs.map (·.1)\/x∈new.map (·.1):=λ{x}=>by rw[Zc,Yc]
 have w:∀x∈(rs++new).map (·.1),(if x∈new.map (·.1)then k+1 else d x)<=k+1:=λx l=>by
  by_cases c:x∈new.map (·.1)
  ·rw[if_pos c];exact Zh _
  ·rw[if_neg c];have:=h.le x ((mem.mp l).resolve_right c);lia
 refine⟨u,λr G=>?_,w,λx=>?_,λn x H O g=>?_⟩
 ·rcases Yt G with q|q
  ·obtain⟨t,p,z,e,g⟩:=h.by_ r q;refine⟨t,p,z,e,?_⟩;rw[if_neg (f (Yw ⟨r,q,rfl⟩))];refine g.imp_right λ⟨a,b,c⟩=>⟨a,mem.mpr (.inl b),?_⟩
   rw[if_neg (f b)];exact c
  ·obtain⟨t,p,z,I,e⟩:=E r q;have A:r.1∈new.map (·.1):=Yw ⟨r,q,rfl⟩;refine⟨t,p,z,e,?_⟩;rw[if_pos A];rcases(h.edge p).mp I with⟨rfl,rfl⟩|⟨J,b,c⟩
   ·exact .inl ⟨rfl,rfl⟩
   ·refine .inr ⟨λps=>?_,mem.mpr (.inl b),by rw[if_neg (f b),c]⟩;have:Ed ks st r.1:=⟨z,by rw[<-ps,<-e];exact t⟩
    exact f (h.all 1 _ (Zh _) J this.dst).1 A
 ·refine⟨λl=> .inr ⟨by lia,mem.mpr (.inr l),if_pos l⟩,λl=>?_⟩;rcases l with⟨a,_⟩|⟨_,a,b⟩
  ·lia
  ·refine(mem.mp a).resolve_left λc=>?_
   rw[if_neg (f c)]at b;have:=h.le x c
   lia
 ·have i:∀{m},1<=m->m<=k->Dst ks st m x->x∈(rs++new).map (·.1)/\(if x∈new.map (·.1)then k+1 else d x)<=m:=λa b g=>by
   obtain⟨s,B⟩:=h.all _ x a b g;exact⟨mem.mpr (.inl s),by rw[if_neg (f s)];exact B⟩
  by_cases c:n<=k
  ·exact i H c g
  ·obtain rfl:n=k+1:=by lia
   have j:x∈(rs++new).map (·.1)->x∈(rs++new).map (·.1)/\(if x∈new.map (·.1)then k+1 else d x)<=k+1:=λa=>⟨a,w x a⟩
   obtain⟨y,C,e⟩:=g.last;by_cases L:k=0
   ·subst L;obtain⟨us,M,_,D⟩:=C;rw[length_eq_zero_iff.mp M]at D;exact j (v y ((h.edge y).mpr (.inl ⟨rfl,(show st=y from D).symm⟩)) x e)
   ·obtain⟨s,B⟩:=h.all k y (by lia) (Zh _) C;by_cases N:d y=k
    ·exact j (v y ((h.edge y).mpr (.inr ⟨by lia,s,N⟩)) x e)
    ·exact j (i (m:=d y+1) (by lia) (by lia) ((h.dst s).2.app e.dst)).1
end
structure Sho (ks:List (List Str)) (a b:Str) (us:List (List Str)):Prop where
 sub:∀k∈us,k∈ks
 wal:Wal us a b
 pos:0<us.length
 min:∀n,Dst ks a (n+1) b->us.length<=n+1
theorem Sho.dst(h:Sho ks a b us):∃n,us.length=n+1/\Dst ks a (n+1) b:=
 ⟨us.length-1,by have:=h.pos;lia,us,by have:=h.pos;lia,h.sub,h.wal⟩
theorem Sho.rch(h:Sho ks a b us):Rch ks a b:=by
 obtain⟨n,_,d⟩:=h.dst;exact d.rch
def Len(ks:List (List Str))(a b:Str)(n:Nat):Prop:=(¬ Rch ks a b/\n=0)\/∃us,Sho ks a b us/\n=us.length
theorem Len.one(h:Len ks a b n)(g:Len ks a b m):n=m:=by
 rcases h with⟨c,rfl⟩|⟨us,c,rfl⟩<;> rcases g with⟨g1,rfl⟩|⟨vs,g1,rfl⟩
 ·rfl
 ·exact absurd g1.rch c
 ·exact absurd c.rch g1
 ·obtain⟨n,f,d⟩:=c.dst;obtain⟨m,i,e⟩:=g1.dst;have:=c.min _ e;have:=g1.min _ d
  lia
theorem Len.rch(h:Len ks a b n)(p:0<n):Rch ks a b:=by
 rcases h with⟨_,rfl⟩|⟨us,h,_⟩
 ·lia
 ·exact h.rch
theorem Sho.rest(h:Sho ks a b ([a,c,z]::r))(p:0<r.length):Sho ks c b r:=by
 obtain⟨i,j,e,w⟩:=h.wal;simp only[List.cons.injEq,and_true,true_and]at e;obtain⟨rfl,rfl⟩:=e;refine⟨λk d=>h.sub k (Zj _ d),w,p,λn g=>?_⟩;have f:Ed ks a c:=⟨z,h.sub _ Zl⟩
 have:=h.min (n+1) (by have:=f.dst.app g;rwa[add_comm 1]at this);rw[Zq]at this
 lia
end Cut
namespace Cut
open PySem L2
def Let(rows:List Str)(c:Nat):Prop:=c≠46/\∃r∈rows,c∈r.cps.toList
def q0(rows:List Str)(a b:Nat):Prop:=a≠46/\a≠b/\∃(i j:Nat) (r c:Str),rows[i]? =some r/\rows[i+1]? =some c/\r.cps[j]? =some a/\c.cps[j]? =some b
theorem js:c∈bX rows↔Let rows c:=by
 unfold bX Let;rw[List.mem_filter,mH,mem_flatten,decide_eq_true_eq]
 constructor
 ·rintro⟨⟨l,e,b⟩,a⟩;obtain⟨r,d,rfl⟩:=Yv e;exact⟨a,r,d,b⟩
 ·rintro⟨a,r,d,b⟩;exact⟨⟨_,Yw ⟨r,d,rfl⟩,b⟩,a⟩
def mP(rows d:List Str):Prop:=(∀c,Let rows c↔Let d c)/\∀a b,q0 rows a b↔q0 d a b
end Cut
namespace Cut
open PySem L2
def St(wd:Bool)(c d:Int):Prop:=c<=d+(if wd=true then 1 else 0)/\d<=c+(if wd=true then 1 else 2)
def iZ(wd:Bool)(cs:List Int):Prop:=∃a:Nat,a<cs.length/\(∀(k:Nat) (c:Int),cs[k]? =some c->(k<a->c= -1)/\(a<=k->0<=c/\c<=7))/\∀(k:Nat) (c d:Int),cs[k]? =some c->cs[k+1]? =some d->a<=k->St wd c d
noncomputable def sg(a s:Int):Nat:=if a<0 then 46 else 97+((a*5+s)%26).toNat
theorem AM(h:0<=a):dG (sg a s)=true:=by
 unfold sg;rw[if_neg (by lia),tU]
 lia
theorem AN(h:a<0):sg a s=46:=if_pos h
theorem wV(h:0<=a):sg a s≠46:=by
 unfold sg;rw[if_neg (by lia)]
 lia
noncomputable def gr(a:List (List Int))(b:Int)(k:Nat):Str:=⟨(a.map λc=>sg (c.getD k 0) b).toArray⟩
noncomputable def drawn(a:List (List Int))(hi:Nat)(b:Int):List Str:=(List.range hi).map (gr a b)
theorem eU(h:(drawn a hi c)[k]? =some z):k<hi/\z=gr a c k:=by
 unfold drawn at h;rw[Zk]at h;by_cases b:k<hi
 ·rw[List.getElem?_range b]at h;exact⟨b,(Z9 h).symm⟩
 ·rw[List.getElem?_eq_none (by rw[Y4];lia)]at h;cases h
theorem jt{a:List (List Int)}{k j c:Nat}(h:(gr a d k).cps[j]? =some c):∃b,a[j]? =some b/\c=sg (b.getD k 0) d:=by
 have h:(a.map λc=>sg (c.getD k 0) d)[j]? =some c:=by simpa [gr]using h
 rw[Zk]at h;cases e:a[j]? with
 | none=>rw[e]at h;cases h
 | some b=>rw[e]at h;exact⟨b,rfl,(Z9 h).symm⟩
theorem cO{a:List Int}(b:a.length=hi)(c:k<hi):a[k]? =some (a.getD k 0):=by
 rw[Zb,Z4 (by lia)];rfl
theorem pR{a:List (List Int)}{b:Int}{wd:Bool}(L:1<=hi)(M:hi<=40)(x:1<=a.length)(y:a.length<=40)(v:∀c∈a,c.length=hi/\iZ wd c):aP (drawn a hi b):=by
 have len:(drawn a hi b).length=hi:=by unfold drawn;rw[Z5,Y4]
 have f:∀z∈drawn a hi b,∃k,k<hi/\z=gr a b k:=λz g=>by
  obtain⟨k,e⟩:=Yo g;exact⟨k,eU e⟩
 refine⟨by lia,by lia,⟨a.length,x,y,λz g=>?_⟩,λz g=>?_,λi r N A B j c O g1 g2 p=>?_,?_⟩
 ·obtain⟨k,_,rfl⟩:=f z g;simp[gr]
 ·obtain⟨k,h,rfl⟩:=f z g;rw[all_eq_true];intro c q;obtain⟨j,C⟩:=Yo q;obtain⟨d,s,rfl⟩:=jt (j:=j) (by simpa using C);by_cases D:d.getD k 0<0
  ·rw[AN D];decide +kernel
  ·unfold okc;rw[AM (by lia),Bool.or_true]
 ·obtain⟨t,rfl⟩:=eU A;obtain⟨u,rfl⟩:=eU B;obtain⟨d,s,rfl⟩:=jt g1;obtain⟨w,l,rfl⟩:=jt g2;rw[s]at l;cases l;obtain⟨o,m,E,h,_⟩:=v d (Z7 s);have G:=h i _ (cO o t);have H:=h (i+1) _ (cO o u);by_cases I:i+1<m
  ·rw[G.1 (by lia)];rfl
  ·exact absurd p (wV (H.2 (by lia)).1)
 ·have n:0<a.length:=by lia
  have J:=v a[0] (Y0 n);obtain⟨o,m,E,h,_⟩:=J;refine⟨gr a b (hi-1),Yw ⟨hi-1,by rw[mem_range];lia,rfl⟩,sg (a[0].getD (hi-1) 0) b,?_,wV ((h (hi-1) _ (cO o (by lia))).2 (by lia)).1⟩;show _∈(a.map λc=>sg (c.getD (hi-1) 0) b).toArray.toList;rw[toList_toArray];exact Yw ⟨a[0],Y0 n,rfl⟩
theorem wW{h:Int}{wd:Bool}(t:∀c∈d,c.length=hi/\iZ wd c){c:Nat}:Let (drawn d hi h) c↔∃a:Int,0<=a/\a<=7/\(∃b∈d,a∈b)/\c=sg a h:=by
 constructor
 ·rintro⟨l,r,u,m⟩;obtain⟨k,e⟩:=Yo u;obtain⟨i,rfl⟩:=eU e;obtain⟨j,v⟩:=Yo m;obtain⟨b,w,rfl⟩:=jt (j:=j) (by simpa using v);have f:=Z7 w;obtain⟨n,o,A,x,_⟩:=t b f;have g:=cO n i;have q:=x k _ g;have:o<=k:=by
   refine Nat.le_of_not_lt λz=>l ?_
   rw[q.1 z];rfl
  exact⟨_,(q.2 this).1,(q.2 this).2,⟨b,f,Z7 g⟩,rfl⟩
 ·rintro⟨a,y,B,⟨b,f,p⟩,rfl⟩;obtain⟨n,_⟩:=t b f;obtain⟨k,i⟩:=Yo p;have s:k<hi:=by rw[<-n];exact(Ys i).1
  refine⟨wV y,gr d h k,Yw ⟨k,by rw[mem_range];exact s,rfl⟩,?_⟩;show _∈(d.map λc=>sg (c.getD k 0) h).toArray.toList;rw[toList_toArray];refine Yw ⟨b,f,?_⟩;rw[Zb,i];rfl
noncomputable def there(b:List (List Int)):List Int:=((List.range 8).filter λa:Nat=>b.any λc=>decide ((a:Int)∈c)).map λa:Nat=>(a:Int)
theorem ju:a∈there c↔0<=a/\a<=7/\∃b∈c,a∈b:=by
 unfold there;rw[mem_map]
 constructor
 ·rintro⟨n,f,rfl⟩;rw[List.mem_filter,mem_range,any_eq_true]at f;obtain⟨g,b,d,e⟩:=f;exact⟨by lia,by lia,b,d,Zn e⟩
 ·rintro⟨h,i,b,d,e⟩;refine⟨a.toNat,?_,by lia⟩;rw[List.mem_filter,mem_range,any_eq_true];refine⟨by lia,b,d,Ze ?_⟩;rw[show((a.toNat:Nat):Int)=a by lia];exact e
theorem wX{a:List (List Int)}{hi:Nat}(i:1<=hi)(j:1<=a.length)(d:∀c∈a,c.length=hi/\iZ wd c):there a≠[]:=by
 have b:0<a.length:=by lia
 obtain⟨e,f,k,h,_⟩:=d a[0] (Y0 b);have g:=cO e (show hi-1<hi by lia);have q:=(h (hi-1) _ g).2 (by lia);exact List.ne_nil_of_mem (ju.mpr ⟨q.1,q.2,_,Y0 b,Z7 g⟩)
theorem gM(a:List (List Int)):(there a).length<=8:=by
 unfold there;rw[Z5];refine Y2 (List.length_filter_le _ _) ?_;rw[Y4];exact Zh _
noncomputable def i4(n:Str)(c:Nat):Str:=⟨(n.cps.toList++[46,c]).toArray⟩
def FewM(rows:List Str):Prop:=∃m:List (List Str),m.length<=14/\∀a b,q0 rows a b->[sgn a,sgn b]∈m
noncomputable def ra(wd:Bool):List (Int×Int):=((List.range 7).map λi:Nat=>((i:Int),(i:Int) +1)) ++if wd=true then(List.range 7).map λi:Nat=>((i:Int) +1,(i:Int))else(List.range 6).map λi:Nat=>((i:Int),(i:Int) +2)
theorem ux(h:St wd c d)(c0:0<=c)(a:c<=7)(b:0<=d)(f:d<=7)(ne:c≠d):(c,d)∈ra wd:=by
 unfold St at h;unfold ra;rw[Yc];by_cases e:d=c+1
 ·exact .inl (Yw ⟨c.toNat,mem_range.mpr (by lia),by rw[show((c.toNat:Nat):Int)=c by lia,e]⟩)
 ·refine .inr ?_;cases wd
  ·rw[if_neg (by decide),if_neg (by decide)]at h;rw[if_neg (by decide)];exact Yw ⟨c.toNat,mem_range.mpr (by lia),by rw[show((c.toNat:Nat):Int)=c by lia,show d=c+2 by lia]⟩
  ·rw[if_pos rfl,if_pos rfl]at h;rw[if_pos rfl];exact Yw ⟨d.toNat,mem_range.mpr (by lia),by rw[show((d.toNat:Nat):Int)=d by lia,show c=d+1 by lia]⟩
theorem wY{hi:Nat}{l:Int}{wd:Bool}(w:∀c∈f,c.length=hi/\iZ wd c):FewM (drawn f hi l):=by
 refine⟨(ra wd).map λp=>[sgn (sg p.1 l),sgn (sg p.2 l)],?_,?_⟩
 ·rw[Z5];cases wd<;> decide
 ·rintro a b ⟨x,y,i,j,r,D,A,B,g1,g2⟩;obtain⟨d,rfl⟩:=eU A;obtain⟨g,rfl⟩:=eU B;obtain⟨m,q,rfl⟩:=jt g1;obtain⟨s,h,rfl⟩:=jt g2;rw[q]at h;cases h;obtain⟨k,n,E,o,C⟩:=w m (Z7 q);have t:n<=i:=Nat.le_of_not_lt λz=>x (by rw[(o i _ (cO k d)).1 z];rfl)
  have u:=(o i _ (cO k d)).2 t;have v:=(o (i+1) _ (cO k g)).2 (by lia);exact Yw ⟨(_,_),ux (C i _ _ (cO k d) (cO k g) t) u.1 u.2 v.1 v.2 (λe=>y (by rw[e])),rfl⟩
end Cut
namespace K13
open PySem L2 Cut
local macro_rules | `(tactic| walk_at "rd") => `(tactic| simp only [↓bA, ↓va, ↓m9, ↓jY, ↓kD, ↓iK, ↓fF, ↓oO, ↓tB, ↓xy, ↓tOr, ↓zy, ↓u9, ↓zC, ↓tOp, ↓tUn, ↓tC, ↓zr, ↓zt, ↓tCB, ↓l9, ↓iL, ↓bR, ↓jh, ↓nh, ↓kE, ↓tBM, ↓tSl, ↓vG, ↓ni, ↓xY, ↓rI, ↓rI0, ↓rU, ↓An, ↓Ap, ↓rEq, ↓rNe, ↓rS, ↓yY, ↓vU, ↓Ag, ↓Ai, ↓z8, ↓z9, ↓Aa, ↓yb, ↓Bo, ↓rW, ↓rV, ↓v7, ↓qA, ↓nC, ↓rM, ↓zK, ↓xF, ↓vf, ↓zI, ↓y4, ↓y6, ↓zd, ↓vC, ↓zX, ↓AB, ld, ↓vO, ↓xU, ↓nF, ↓nG, ↓zg, ↓rIn, ↓yc, ↓Ad, ↓z6, ↓Al, ↓nB, ↓rR, xK, vw, ↓vj, ↓ye, zU, tyV, ↓A1, ↓A2, ↓A3, A4, A5, A6,
 List.getElem?_cons_zero,List.getElem?_cons_succ,List.set_cons_zero,List.set_cons_succ,Option.some.injEq,V.int.injEq,V.str.injEq,V.bl.injEq,V.ref.injEq,V.ty.injEq,List.cons.injEq,reduceCtorEq,and_true,true_and,and_false,false_and,or_false,false_or,or_true,true_or,exists_false,exists_eq_left',exists_eq_left,exists_eq_right,exists_eq_right',exists_and_left,exists_and_right,exists_eq,List.cons_append,List.nil_append,append_nil,exists_const,and_assoc,Int.zero_add,Bool.not_true,Bool.not_false,Zw,if_true,if_false,eq_self])
noncomputable def top(i:Nat):Stmt:=PySem.Challenge.pw_digbook_k13_no_ground.main.body.getD i (.Pass ⟨0,0,0,0⟩)
noncomputable abbrev gN:Stmt:=top 15
theorem rb:ar ["thing"] ["thing"] (ah gN):=by refine⟨rfl,rfl,rfl,?_,rfl,?_,?_⟩<;>decide +kernel
noncomputable abbrev jv:Stmt:=top 16
theorem cC:ar ["text","rows","number","row"] ["text"] (ah jv):=by refine⟨rfl,rfl,rfl,?_,rfl,?_,?_⟩<;>decide +kernel
noncomputable abbrev i5:Stmt:=top 17
theorem uy:ar ["row"] ["row"] (ah i5):=by refine⟨rfl,rfl,rfl,?_,rfl,?_,?_⟩<;>decide +kernel
noncomputable abbrev cP:Stmt:=top 18
theorem ka:ar ["row","above"] ["row","above"] (ah cP):=by refine⟨rfl,rfl,rfl,?_,rfl,?_,?_⟩<;>decide +kernel
noncomputable abbrev dN:Stmt:=top 19
theorem lR:ar ["rows"] ["rows"] (ah dN):=by refine⟨rfl,rfl,rfl,?_,rfl,?_,?_⟩<;>decide +kernel
noncomputable abbrev jw:Stmt:=top 20
theorem rc:ar ["text"] ["text"] (ah jw):=by refine⟨rfl,rfl,rfl,?_,rfl,?_,?_⟩<;>decide +kernel
noncomputable abbrev iC:Stmt:=top 21
theorem dm:ar ["text","rows","pairs","above","row"] ["text"] (ah iC):=by refine⟨rfl,rfl,rfl,?_,rfl,?_,?_⟩<;>decide +kernel
noncomputable abbrev bY:Stmt:=top 22
theorem ia:ar ["above","row"] ["above","row"] (ah bY):=by refine⟨rfl,rfl,rfl,?_,rfl,?_,?_⟩<;>decide +kernel
noncomputable abbrev fk:Stmt:=top 31
theorem dh:ar ["cuts","names","number","thing"] ["cuts"] (ah fk):=by refine⟨rfl,rfl,rfl,?_,rfl,?_,?_⟩<;>decide +kernel
noncomputable abbrev dZ:Stmt:=top 32
theorem kb:ar ["thing"] ["thing"] (ah dZ):=by refine⟨rfl,rfl,rfl,?_,rfl,?_,?_⟩<;>decide +kernel
noncomputable abbrev lA:Stmt:=top 33
theorem uz:ar ["thing"] ["thing"] (ah lA):=by refine⟨rfl,rfl,rfl,?_,rfl,?_,?_⟩<;>decide +kernel
noncomputable abbrev dz:Stmt:=top 34
theorem c8:ar ["sayings","layers","number","thing"] ["sayings","layers"] (ah dz):=by refine⟨rfl,rfl,rfl,?_,rfl,?_,?_⟩<;>decide +kernel
noncomputable abbrev gs:Stmt:=top 35
theorem oh:ar ["thing","layers"] ["thing","layers"] (ah gs):=by refine⟨rfl,rfl,rfl,?_,rfl,?_,?_⟩<;>decide +kernel
noncomputable abbrev dA:Stmt:=top 36
theorem jx:ar ["thing","texts"] ["thing","texts"] (ah dA):=by refine⟨rfl,rfl,rfl,?_,rfl,?_,?_⟩<;>decide +kernel
noncomputable abbrev jy:Stmt:=top 37
theorem re:ar ["thing"] ["thing"] (ah jy):=by refine⟨rfl,rfl,rfl,?_,rfl,?_,?_⟩<;>decide +kernel
noncomputable abbrev fo:Stmt:=top 38
theorem lS:ar ["name","letter"] ["name","letter"] (ah fo):=by refine⟨rfl,rfl,rfl,?_,rfl,?_,?_⟩<;>decide +kernel
noncomputable abbrev eA:Stmt:=top 39
theorem dO:ar ["cuts","layers","name","text"] ["cuts"] (ah eA):=by refine⟨rfl,rfl,rfl,?_,rfl,?_,?_⟩<;>decide +kernel
noncomputable abbrev d5:Stmt:=top 40
theorem bK:ar ["cuts","ties","name","text","upper","lower"] ["cuts"] (ah d5):=by refine⟨rfl,rfl,rfl,?_,rfl,?_,?_⟩<;>decide +kernel
noncomputable abbrev cQ:Stmt:=top 41
theorem bZ:ar ["sayings","ties","number","saying"] ["sayings"] (ah cQ):=by refine⟨rfl,rfl,rfl,?_,rfl,?_,?_⟩<;>decide +kernel
noncomputable abbrev eF:Stmt:=top 43
theorem lB:ar ["_law_script","_law_k"] ["_law_script","_law_k"] (ah eF):=by refine⟨rfl,rfl,rfl,?_,rfl,?_,?_⟩<;>decide +kernel
noncomputable abbrev jz:Stmt:=top 44
theorem cD:ar ["_law_script","_law_many","_law_found","_law_number","_law_k","_law_cell","_law_one","_law_two"] ["_law_script","_law_many"] (ah jz):=by refine⟨rfl,rfl,rfl,?_,rfl,?_,?_⟩<;>decide +kernel
noncomputable abbrev fq:Stmt:=top 45
theorem bD:ar ["_law_number","_law_high","_law_wild","_law_air","_law_at","_law_signs","_law_k"] ["_law_number","_law_high","_law_wild"] (ah fq):=by refine⟨rfl,rfl,rfl,?_,rfl,?_,?_⟩<;>decide +kernel
noncomputable abbrev iD:Stmt:=top 46
theorem pS:ar ["_law_at","_law_shift"] ["_law_at","_law_shift"] (ah iD):=by refine⟨rfl,rfl,rfl,?_,rfl,?_,?_⟩<;>decide +kernel
noncomputable abbrev c9:Stmt:=top 47
theorem b8:ar ["_law_row_here","_law_shift","_law_wide","_law_high","_law_wild","_law_columns","_law_rows","_law_k","_law_signs","_law_there"] ["_law_row_here","_law_shift"] (ah c9):=by refine⟨rfl,rfl,rfl,?_,rfl,?_,?_⟩<;>decide +kernel
noncomputable abbrev fu:Stmt:=top 48
theorem bE:ar ["_law_one","_law_two","_law_layers_here","_law_layer","_law_at","_law_other","_law_there","_law_kind","_law_odd","_law_year"] ["_law_one","_law_two","_law_layers_here"] (ah fu):=by refine⟨rfl,rfl,rfl,?_,rfl,?_,?_⟩<;>decide +kernel
noncomputable abbrev dP:Stmt:=top 49
theorem aN:ar ["_law_row_here","_law_cuts","_law_layers_here","_law_k","_law_name","_law_shift","_law_text","_law_there","_law_at","_law_many","_law_sayings"] ["_law_row_here"] (ah dP):=by refine⟨rfl,rfl,rfl,?_,rfl,?_,?_⟩<;>decide +kernel
noncomputable abbrev fv:Stmt:=top 50
theorem bP:ar ["_law_text","_law_rows","_law_earth","_law_k","_law_j","_law_sign_here"] ["_law_text"] (ah fv):=by refine⟨rfl,rfl,rfl,?_,rfl,?_,?_⟩<;>decide +kernel
noncomputable abbrev di:Stmt:=top 51
theorem lC:ar ["_law_thing"] ["_law_thing"] (ah di):=by refine⟨rfl,rfl,rfl,?_,rfl,?_,?_⟩<;>decide +kernel
noncomputable abbrev dB:Stmt:=top 52
theorem cF:ar ["_law_cuts","_law_names","_law_k","_law_thing"] ["_law_cuts"] (ah dB):=by refine⟨rfl,rfl,rfl,?_,rfl,?_,?_⟩<;>decide +kernel
noncomputable abbrev fw:Stmt:=top 53
theorem cJ:ar ["_law_cuts","_law_found","_law_name","_law_text","_law_sign_here"] ["_law_cuts"] (ah fw):=by refine⟨rfl,rfl,rfl,?_,rfl,?_,?_⟩<;>decide +kernel
noncomputable abbrev dC:Stmt:=top 54
theorem jA:ar ["_law_thing","_law_layers_here"] ["_law_thing","_law_layers_here"] (ah dC):=by refine⟨rfl,rfl,rfl,?_,rfl,?_,?_⟩<;>decide +kernel
noncomputable abbrev jB:Stmt:=top 55
theorem fz:ar ["_law_cuts","_law_sayings","_law_wrong","_law_layers_here","_law_k"] ["_law_cuts","_law_sayings"] (ah jB):=by refine⟨rfl,rfl,rfl,?_,rfl,?_,?_⟩<;>decide +kernel
noncomputable abbrev iE:Stmt:=top 56
theorem dn:ar ["_law_cuts","_law_sayings","_law_told_here","e","_law_others"] ["_law_cuts","_law_sayings"] (ah iE):=by refine⟨rfl,rfl,rfl,?_,rfl,?_,?_⟩<;>decide +kernel
noncomputable abbrev eG:Stmt:=top 57
theorem bo:ar ["_law_cuts","_law_number","_law_name","_law_text","_law_some"] ["_law_cuts","_law_number"] (ah eG):=by refine⟨rfl,rfl,rfl,?_,rfl,?_,?_⟩<;>decide +kernel
noncomputable abbrev da:Stmt:=top 58
theorem aK:ar ["_law_layers_here","_law_number","_law_one","_law_other","_law_some"] ["_law_layers_here","_law_number"] (ah da):=by refine⟨rfl,rfl,rfl,?_,rfl,?_,?_⟩<;>decide +kernel
noncomputable abbrev gu:Stmt:=top 59
theorem i7:ar ["_law_cuts","_law_sayings","_law_handed"] ["_law_cuts","_law_sayings"] (ah gu):=by refine⟨rfl,rfl,rfl,?_,rfl,?_,?_⟩<;>decide +kernel
noncomputable abbrev fM:Stmt:=top 60
theorem db:ar ["_law_script","_law_cuts","_law_sayings","_law_layers_here","_law_k","_law_number","_law_at","_law_there","_law_odd","_law_said","_law_many","_law_great","_law_made"] ["_law_script"] (ah fM):=by refine⟨rfl,rfl,rfl,?_,rfl,?_,?_⟩<;>decide +kernel
noncomputable abbrev bL:Stmt:=eZ (top 30) 0
theorem d6:ar ["self","cuts","sayings","layers"] ["self","cuts","sayings"] (ah bL):=by refine⟨rfl,rfl,rfl,?_,rfl,?_,?_⟩<;>decide +kernel
noncomputable abbrev lT:Stmt:=eZ (top 30) 1
theorem wZ:ar ["self"] ["self"] (ah lT):=by refine⟨rfl,rfl,rfl,?_,rfl,?_,?_⟩<;>decide +kernel
noncomputable abbrev jC:Stmt:=eZ (top 30) 2
theorem sI:ar ["self"] ["self"] (ah jC):=by refine⟨rfl,rfl,rfl,?_,rfl,?_,?_⟩<;>decide +kernel
noncomputable abbrev kf:Stmt:=eZ (top 30) 3
theorem uA:ar ["self"] ["self"] (ah kf):=by refine⟨rfl,rfl,rfl,?_,rfl,?_,?_⟩<;>decide +kernel
noncomputable abbrev lU:Stmt:=eZ (top 30) 4
theorem w4:ar ["self"] ["self"] (ah lU):=by refine⟨rfl,rfl,rfl,?_,rfl,?_,?_⟩<;>decide +kernel
noncomputable abbrev cR:Stmt:=eZ (top 2) 0
theorem lV:ar ["self","row"] ["self","row"] (ah cR):=by refine⟨rfl,rfl,rfl,?_,rfl,?_,?_⟩<;>decide +kernel
noncomputable abbrev cb:Stmt:=eZ (top 3) 0
theorem jD:ar ["self","part","number"] ["self","part","number"] (ah cb):=by refine⟨rfl,rfl,rfl,?_,rfl,?_,?_⟩<;>decide +kernel
def rf(K:PySem.W.Frag):Sp:=λvs H Q _=>∃(a:Addr) (b:List Int) (k:Int),vs=[.ref a,.int k]/\SqL K H a (b.map V.int)/\0<=k/\Q (.int (b.getD k.toNat 0)) H
def AO(K:PySem.W.Frag):Sp:=λvs H Q _=>∃(a:Addr) (c:List Int) (m:Int),vs=[.ref a,.int m]/\SqL K H a (c.map V.int)/\c.length<=1000/\0<=m/\m<=100/\∀l b (xs:List Int),ae H b->H l=none->b l=some (.lst (xs.map V.int))->xs.length=m.toNat->(∀x∈xs,0<=x/\x<9973)->Q (.ref l) b
def uB:Sp:=λvs H Q _=>∃(n hi:Int) (a:Bool),vs=[.int n,.int hi,.bl a]/\0<=n/\1<=hi/\hi<=6/\∀l b (cs:List Int),ae H b->H l=none->b l=some (.lst (cs.map V.int))->cs.length=hi.toNat->iZ a cs->Q (.ref l) b
def yE:Sp:=λvs H Q _=>∃a s:Int,vs=[.int a,.int s]/\0<=s/\Q (.str (sgn (sg a s))) H
def oi(H:Hp)(cs:List (Addr×List Int)):Prop:=∀p∈cs,H p.1=some (.lst (p.2.map V.int))
theorem oi.up(h:oi H cs)(s:ae H a):oi a cs:=λp b=>s _ _ (h p b)
def AQ(K:PySem.W.Frag):Sp:=λvs H Q _=>∃(a:Addr) (xs:List Int) (f:Int),vs=[.ref a,.int f]/\SqL K H a (xs.map V.int)/\(∀d,ae H d->SqL K d a (xs.map V.int))/\xs.length=6/\(∀x∈xs,0<=x/\x<9973)/\0<=f/\
 ∀(T e:Addr) d (b:List (List Int)) (hi:Nat) (wd:Bool),ae H d->H T=none->H e=none->T≠e->d T=some (.tup [.str (Str.join nl (drawn b hi f)),.ref e])->d e=some (.lst ((there b).map V.int))->
  1<=hi->hi<=6->1<=b.length->b.length<=5->(∀c∈b,c.length=hi/\iZ wd c)->Q (.ref T) d
structure Txt (K:PySem.W.Frag) (mg:Str->Option Value):Prop where
 b_len:mg "len"=none
 b_all:mg "all"=none
 b_str:mg "str"=none
 b_isinstance:mg "isinstance"=none
 b_enumerate:mg "enumerate"=none
 b_zip:mg "zip"=none
 b_set:mg "set"=none
 b_sorted:mg "sorted"=none
 b_list:mg "list"=none
 b_tuple:mg "tuple"=none
 b_int:mg "int"=none
 b_bool:mg "bool"=none
 b_range:mg "range"=none
 b_max:mg "max"=none
 b_abs:mg "abs"=none
 b_min:mg "min"=none
 b_ValueError:mg "ValueError"=none
 g_LONGEST_NAME:Gv mg "LONGEST_NAME" (.int 8)
 g_LETTERS:Gv mg "LETTERS" (.str "abcdefghijklmnopqrstuvwxyz")
 g_MOST_ROWS:Gv mg "MOST_ROWS" (.int 40)
 g_MOST_SIGNS:Gv mg "MOST_SIGNS" (.int 40)
 g_AIR:Gv mg "AIR" (.str ".")
 g_MOST_CUTS:Gv mg "MOST_CUTS" (.int 8)
 g_MOST_SAYINGS:Gv mg "MOST_SAYINGS" (.int 60)
 g_FIRST_YEAR:Gv mg "FIRST_YEAR" (.int (-9999))
 g_LAST_YEAR:Gv mg "LAST_YEAR" (.int 9999)
 d_is_name:aW K mg "is_name" gN ["thing"]
 d_rows_of:aW K mg "rows_of" jv ["text"]
 d_is_row:aW K mg "is_row" i5 ["row"]
 d_lies_beneath:aW K mg "lies_beneath" cP ["row","above"]
 d_letters_in:aW K mg "letters_in" dN ["rows"]
 d_letters:aW K mg "letters" jw ["text"]
 d_meetings:aW K mg "meetings" iC ["text"]
 d_meetings_between:aW K mg "meetings_between" bY ["above","row"]
 d_check_cuts:aW K mg "check_cuts" fk ["cuts"]
 d_is_named_cut:aW K mg "is_named_cut" dZ ["thing"]
 d_is_cut:aW K mg "is_cut" lA ["thing"]
 d_check_sayings:aW K mg "check_sayings" dz ["sayings","layers"]
 d_is_saying:aW K mg "is_saying" gs ["thing","layers"]
 d_is_text_among:aW K mg "is_text_among" dA ["thing","texts"]
 d_is_year:aW K mg "is_year" jy ["thing"]
 d_layer_name:aW K mg "layer_name" fo ["name","letter"]
 d_layers_of:aW K mg "layers_of" eA ["cuts"]
 d_ties_of_cuts:aW K mg "ties_of_cuts" d5 ["cuts"]
 d_ties_of_sayings:aW K mg "ties_of_sayings" cQ ["sayings"]
 d_law_cell_at:aW K mg "_law_cell_at" eF ["_law_script","_law_k"]
 d_law_row:aW K mg "_law_row" jz ["_law_script","_law_many"]
 d_law_column:aW K mg "_law_column" fq ["_law_number","_law_high","_law_wild"]
 d_law_sign:aW K mg "_law_sign" iD ["_law_at","_law_shift"]
 d_law_cut:aW K mg "_law_cut" c9 ["_law_row_here","_law_shift"]
 d_law_saying:aW K mg "_law_saying" fu ["_law_one","_law_two","_law_layers_here"]
 d_law_ground:aW K mg "_law_ground" dP ["_law_row_here"]
 d_law_is_cut:aW K mg "_law_is_cut" fv ["_law_text"]
 d_law_is_name:aW K mg "_law_is_name" di ["_law_thing"]
 d_law_wrong_cut:aW K mg "_law_wrong_cut" dB ["_law_cuts"]
 d_law_layers:aW K mg "_law_layers" fw ["_law_cuts"]
 d_law_is_saying:aW K mg "_law_is_saying" dC ["_law_thing","_law_layers_here"]
 d_law_due:aW K mg "_law_due" jB ["_law_cuts","_law_sayings"]
 d_law_told:aW K mg "_law_told" iE ["_law_cuts","_law_sayings"]
 d_law_odd_cut:aW K mg "_law_odd_cut" eG ["_law_cuts","_law_number"]
 d_law_odd_saying:aW K mg "_law_odd_saying" da ["_law_layers_here","_law_number"]
 d_law_right:aW K mg "_law_right" gu ["_law_cuts","_law_sayings"]
 c_NoCut:mg "NoCut"=some (.ref (aq mg "NoCut"))
 c_NoGround:mg "NoGround"=some (.ref (aq mg "NoGround"))
 c_DigError:mg "DigError"=some (.ref (aq mg "DigError"))
 c_Torn:mg "Torn"=some (.ref (aq mg "Torn"))
 c_NoSaying:mg "NoSaying"=some (.ref (aq mg "NoSaying"))
 c_NoRow:mg "NoRow"=some (.ref (aq mg "NoRow"))
 c_NoLayer:mg "NoLayer"=some (.ref (aq mg "NoLayer"))
 c_NoDeed:mg "NoDeed"=some (.ref (aq mg "NoDeed"))
 x_NoCut:sq K mg "NoCut" "NoCut.__init__" cR ["self","row"]
 f_NoCut_row:nT K (aq mg "NoCut") "row"
 g_NoCut_row:pE K (aq mg "NoCut") "row"
 u_NoCut_NoCut:subIn K (.ref (aq mg "NoCut")) (.ref (aq mg "NoCut"))=some true
 u_NoCut:subIn K (.ref (aq mg "NoCut")) (.ref (aq mg "DigError"))=some true
 k_NoCut_any0:kitAny K (.ref (aq mg "NoCut")) (([(aq mg "NoCut"),(aq mg "NoDeed"),(aq mg "NoLayer"),(aq mg "NoRow"),(aq mg "NoSaying"),(aq mg "Torn")]).map Value.ref)=some true
 k_NoCut_NoGround:kitOne K (.ref (aq mg "NoCut")) (.ref (aq mg "NoGround"))=some false
 k_NoCut_ValueError:kitOne K (.ref (aq mg "NoCut")) (.type "ValueError")=some true
 k_NoCut_DigError:kitOne K (.ref (aq mg "NoCut")) (.ref (aq mg "DigError"))=some true
 x_NoGround:sq K mg "NoGround" "NoGround.__init__" cb ["self","part","number"]
 f_NoGround_part:nT K (aq mg "NoGround") "part"
 g_NoGround_part:pE K (aq mg "NoGround") "part"
 f_NoGround_number:nT K (aq mg "NoGround") "number"
 g_NoGround_number:pE K (aq mg "NoGround") "number"
 u_NoGround_NoCut:subIn K (.ref (aq mg "NoGround")) (.ref (aq mg "NoCut"))=some false
 u_NoGround:subIn K (.ref (aq mg "NoGround")) (.ref (aq mg "DigError"))=some true
 k_NoGround_any0:kitAny K (.ref (aq mg "NoGround")) (([(aq mg "NoCut"),(aq mg "NoDeed"),(aq mg "NoLayer"),(aq mg "NoRow"),(aq mg "NoSaying"),(aq mg "Torn")]).map Value.ref)=some false
 k_NoGround_NoGround:kitOne K (.ref (aq mg "NoGround")) (.ref (aq mg "NoGround"))=some true
 k_NoGround_ValueError:kitOne K (.ref (aq mg "NoGround")) (.type "ValueError")=some true
 k_NoGround_DigError:kitOne K (.ref (aq mg "NoGround")) (.ref (aq mg "DigError"))=some true
 i_DigError:wo K (aq mg "DigError")
 t_NoCut:Cat K (aq mg "NoCut")
 t_DigError:Cat K (aq mg "DigError")
 o_Ground:zf K mg "Ground"
 n_Ground_kept_cuts:fR K (aq mg "Ground") "kept_cuts"
 n_Ground_kept_sayings:fR K (aq mg "Ground") "kept_sayings"
 n_Ground_kept_layers:fR K (aq mg "Ground") "kept_layers"
 n_Ground_kept_ties:fR K (aq mg "Ground") "kept_ties"
 i_Ground:wO K mg "Ground" "Ground.__init__" bL ["self","cuts","sayings"]
 t_YEAR_WORDS:GvT K mg "YEAR_WORDS" [.str "since",.str "by"]
 t_LAYER_WORDS:GvT K mg "LAYER_WORDS" [.str "later",.str "same"]
section
variable{P:Program}{w:World}{K:PySem.W.Frag}{mg:Str->Option Value}{base:Heap}
theorem aH(h:n<=5000):n<=sizeLine:=Y2 h (by decide)
theorem bp(h:n<=5000):n<sizeLine:=Nat.lt_of_le_of_lt h (by decide)
theorem ae.upd(h:H p=none):ae H (upd H p o):=λb u e=>by rw[aj (am e h)];exact e
theorem ae.set(a:ae H c)(h:H p=none):ae H (L2.upd c p o):=λb u e=>by rw[aj (am e h)];exact a b u e
theorem BM(xs:List d)(b:0<=i)(e:i<(xs.length:Int)):∃c,atI xs i=some c/\c∈xs:=by
 obtain⟨j,rfl⟩:=Yq b;have a:j<xs.length:=by lia
 exact⟨xs[j],bV (by simp[a]),Y0 a⟩
theorem i8(xs:List Int)(b:0<=i)(d:i<(xs.length:Int)):∃c,atI (xs.map V.int) i=some (V.int c)/\c∈xs:=by
 obtain⟨j,rfl⟩:=Yq b;have a:j<xs.length:=by lia
 exact⟨xs[j],bV (by simp[a]),Y0 a⟩
theorem zi:(dL.cps.toList.length:Int)=26:=by decide +kernel
theorem dj(T:Txt K mg):Cal P w K mg base 1 "_law_cell_at" ["_law_script","_law_k"] (rf K):=by
 refine T.d_law_cell_at.cal lB (λvs H Q E h=>?_) (λf g A outer s H vs Q E m h=>?_)
 ·obtain⟨a,c,k,rfl,_⟩:=h;rfl
 ·obtain⟨a,c,k,rfl,d,i,q⟩:=h;refine⟨_,(QSs.h (ag (ifS (bF v5 rfl (ad 1 rfl) (cbO (bH (K:=K) rfl) T.b_len PySem.boot_len rfl (paE rfl (ad 0 rfl) af)))
   (ao (aM (cm (K:=K) rfl (λ_ _=>rfl) (ad 0 rfl) (ad 1 rfl))))
   aI)
   (ao (aM ak)))),?_⟩
  show bA _ _ _ [some (.ref a),some (.int k)] H;walk_at "rd";refine⟨_,.inl ⟨_,d,rfl⟩,aA (λb=>?_) λb=>?_⟩
  ·have b:=Zn b;rw[Z5]at b;refine⟨_,d,.int (c.getD k.toNat 0),?_,q⟩;obtain⟨j,rfl⟩:=Yq i;have l:j<c.length:=by lia
   exact bV (by simp[l])
  ·have b: ¬ k<((c.map V.int).length:Int):=by simpa using b
   rw[Z5]at b;have e:c.getD k.toNat 0=0:=by
    rw[Zb,List.getElem?_eq_none (by lia)];rfl
   rw[e]at q;exact q
theorem uC(T:Txt K mg):Cal P w K mg base 2 "_law_row" ["_law_script","_law_many"] (AO K):=by
 refine T.d_law_row.cal cD (λvs H Q E h=>?_) (λf ab A outer s H vs Q E C h=>?_)
 ·obtain⟨a,k,m,rfl,_⟩:=h;rfl
 ·obtain⟨a,k,m,rfl,D,hn,h0,h1,q⟩:=h;refine⟨_,(QSs.h (ag (aV 2 cD.nd rfl (bB af))
   (ag (aV 3 cD.nd rfl (opE dW (cbO ⟨vy⟩ T.b_abs boot_abs rfl (paE rfl (aZ (dj T) C rfl (paE rfl (ad 0 rfl) (paE rfl ak af))) af)) (ctO y3 T.b_int boot_int rfl (paE rfl (hZ cV rfl (opE bC (aZ (dj T) C rfl (paE rfl (ad 0 rfl) (paE rfl ak af))) ak) ak) af))))
   (ag (ef PassesOwn.never rfl rfl (eO rfl T.b_range rfl (paE rfl (ad 1 rfl) af)) (bb 4 cD.nd rfl)
   (ao (ifS (bF tJ rfl (ad 3 rfl) ak)
    (ag (cM rfl (bmO plainAttrs_list PySem.F.slot_list_append PySem.F.type_list_append cx rfl (ad 2 rfl) (paE rfl (opE bC (ad 3 rfl) ak) af)))
     (ao (aV 3 cD.nd rfl (opE cr (ad 3 rfl) ak))))
    (ag (aV 5 cD.nd rfl (aZ (dj T) C rfl (paE rfl (ad 0 rfl) (paE rfl (opE bW ak (opE bC (ad 4 rfl) (cbO (y0 rfl) T.b_max boot_max rfl (paE rfl ak (paE rfl (opE mD (cbO (bH (K:=K) rfl) T.b_len PySem.boot_len rfl (paE rfl (ad 0 rfl) af)) ak) af))))) af))))
     (ag (aV 6 cD.nd rfl (opE bC (opE dW (opE bW (opE bW (opE bC (ad 5 rfl) ak) (opE dW ak (ad 4 rfl))) ak) ak) ak))
     (ag (aV 7 cD.nd rfl (opE bC (opE bW (opE kT (ad 6 rfl) (ad 6 rfl)) (opE dW ak (ad 4 rfl))) ak))
     (ao (cM rfl (bmO plainAttrs_list PySem.F.slot_list_append PySem.F.type_list_append cx rfl (ad 2 rfl) (paE rfl (opE bC (opE bC (opE kT (ad 7 rfl) (ad 7 rfl)) ak) ak) af))))))))))
   (ao (aM (ad 2 rfl))))))),?_⟩
  show bA _ _ _ [some (.ref a),some (.int m),none,none,none,none,none,none] H;refine jk λn1 c1=>?_
  walk_at "rd";refine⟨Yn _,λl G=>c1 _ _ (jk λn2 c2=>?_)⟩;have j:ae H (upd H l (.lst [])):=ae.upd G;walk_at "rd";refine⟨a,k,1,rfl,j.seq D,by decide,_,rfl,a,k,0,rfl,j.seq D,by decide,_,rfl,by decide,?_⟩;refine⟨.inr (by split<;> exact⟨by decide,by decide⟩),c2 _ _ (jk λn3 c3=>aF λO hK=>?_)⟩;walk_at "rd";refine⟨by lia,by lia,hK _ _ (cg (λi I g=>∃(n:Int) (o r t u:Option V) (xs:List Int),I=[some (.ref a),some (.int m),some (.ref l),some (.int n),o,r,t,u]/\ae H g/\g l=some (.lst (xs.map V.int))/\xs.length=i/\∀x∈xs,0<=x/\x<9973)
   ⟨_,none,none,none,none,[],rfl,j,aa,rfl,λ_ h=>nomatch h⟩ ?_ ?_)⟩
  ·rintro i I g hi ⟨n,o,r,t,u,xs,rfl,z,d,B,e⟩;have ac:i<100:=by lia
   have p:=z.seq D;show m9 _ _ _ _ [some (.ref a),some (.int m),some (.ref l),some (.int n),some (.int (0+i)),r,t,u] g;rw[Int.zero_add];have put:∀v:Int,0<=v->v<9973->ae H (upd g l (.lst (xs.map V.int++[.int v])))/\∃b:List Int,upd g l (.lst (xs.map V.int++[.int v])) l=some (.lst (b.map V.int))/\b.length=i+1/\∀x∈b,0<=x/\x<9973:=λv v0 v1=>
    ⟨ae.set z G,xs++[v],by rw[aa,Zc];rfl,by rw[Z8,B];rfl,λy hy=>by
     rcases Yt hy with q|q
     ·exact e y q
     ·rw[Yu q];exact⟨v0,v1⟩⟩
   have len:(xs.map V.int).length<sizeLine:=by rw[Z5,B];exact bp (by lia)
   have U:∀x:Nat,(0:Int)<(if(x:Int) -1>1 then(x:Int) -1 else 1):=λx=>by split<;> lia
   refine aU λD1 Y _=>?_
   walk_at "rd";refine aA (λ_=>?_) λ_=>?_
   ·refine⟨.inl ⟨_,SqL.of d⟩,by decide,_,d,len,⟨by decide,by decide⟩,Y _ _ ?_⟩;obtain⟨J,b,L,M,N⟩:=put (n%9973) (by lia) (by lia);exact⟨_,_,_,_,_,b,rfl,J,L,M,N⟩
   ·refine⟨_,.inl ⟨_,p,rfl⟩,U _,a,k,_,rfl,p,?_,?_⟩
    ·have:=Int.emod_nonneg (i:Int) (Int.ne_of_gt (U (k.map V.int).length))
     lia
    generalize k.getD _ 0=c
    walk_at "rd";refine⟨by decide,.inl ⟨by decide,by decide⟩,.inr ⟨by decide,by decide⟩,by decide,?_⟩;have b1:=Int.emod_nonneg ((c%1000003+7919*i+1)*48271) (by decide:(2147483629:Int)≠0);have b2:=Int.emod_lt_of_pos ((c%1000003+7919*i+1)*48271) (by decide:(0:Int)<2147483629)
    generalize (c%1000003+7919*i+1)*48271%2147483629=one at b1 b2
    refine⟨.inl ⟨by lia,by lia⟩,.inl ⟨by decide,by decide⟩,by decide,?_⟩;have b3:=Int.emod_nonneg (one*one+104729*i) (by decide:(2147483587:Int)≠0);have b4:=Int.emod_lt_of_pos (one*one+104729*i) (by decide:(0:Int)<2147483587)
    generalize (one*one+104729*i)%2147483587=two at b3 b4
    refine⟨.inl ⟨_,SqL.of d⟩,.inl ⟨by lia,by lia⟩,by decide,by decide,_,d,len,Y _ _ ?_⟩;obtain⟨J,b,L,M,N⟩:=put (two*two%2147483563%9973) (by lia) (by lia);exact⟨_,_,_,_,_,b,rfl,J,L,M,N⟩
  ·rintro I g ⟨n,o,r,t,u,xs,rfl,z,d,B,e⟩;refine c3 _ _ ?_;walk_at "rd";exact q l g xs z G d B e
theorem AR(a:0<=i)(c:i<26):atI dL.cps.toList i=some (97+i.toNat):=by
 obtain⟨j,rfl⟩:=Yq a;have b:j<26:=by omega
 have all:∀j:Fin 26,dL.cps.toList[j.1]? =some (97+j.1):=by decide +kernel
 exact bV (all ⟨j,b⟩)
theorem lD(T:Txt K mg):Cal P w K mg base 1 "_law_sign" ["_law_at","_law_shift"] yE:=by
 refine T.d_law_sign.cal pS (λvs H Q E h=>?_) (λf d A outer s H vs Q E g h=>?_)
 ·obtain⟨a,s,rfl,_⟩:=h;rfl
 ·obtain⟨a,e,rfl,i,c⟩:=h;refine⟨_,(QSs.h (ag (ifS (bF v5 rfl (ad 0 rfl) ak)
   (ao (aM ax))
   aI)
   (ao (aM (yh (λ_ _=>rfl) ax (opE bC (opE bS (opE kT (ad 0 rfl) ak) (ad 1 rfl)) ak)))))),?_⟩
  show bA _ _ _ [some (.int a),some (.int e)] H;walk_at "rd";unfold sg at c;refine aA (λb=>?_) λb=>?_
  ·have b:=Zn b;rw[if_pos b]at c;exact c
  ·have b: ¬ a<0:=by simpa using b
   rw[if_neg b]at c;refine⟨.inr ⟨by decide,by decide⟩,by decide,(show 26<=sizeLine by decide),_,AR (by omega) (by omega),c⟩
theorem oj(T:Txt K mg):Cal P w K mg base 1 "_law_column" ["_law_number","_law_high","_law_wild"] uB:=by
 refine T.d_law_column.cal bD (λvs H Q E h=>?_) (λf as A outer s H vs Q E hr h=>?_)
 ·obtain⟨n,hi,wd,rfl,_⟩:=h;rfl
 ·obtain⟨n,hi,wd,rfl,n0,h1,h6,kk⟩:=h;refine⟨_,(QSs.h (ag (aV 3 bD.nd rfl (opE bC (ad 0 rfl) ak))
   (ag (aV 4 bD.nd rfl (opE bC (opE cr (ad 0 rfl) ak) ak))
   (ag (aV 0 bD.nd rfl (opE cr (ad 0 rfl) ak))
   (ag (aV 5 bD.nd rfl (bB af))
   (ag (ef PassesOwn.never rfl rfl (eO rfl T.b_range rfl (paE rfl (ad 1 rfl) af)) (bb 6 bD.nd rfl)
   (ao (ifS (wT (kS (bF v5 rfl (ad 6 rfl) (ad 3 rfl)) (jR (bF v5 rfl (ad 6 rfl) (opE mD (ad 1 rfl) ak)))))
    (ao (cM rfl (bmO plainAttrs_list PySem.F.slot_list_append PySem.F.type_list_append cx rfl (ad 5 rfl) (paE rfl (oU ak) af))))
    (ag (cM rfl (bmO plainAttrs_list PySem.F.slot_list_append PySem.F.type_list_append cx rfl (ad 5 rfl) (paE rfl (ad 4 rfl) af)))
     (ag (aV 4 bD.nd rfl (cbO (y0 rfl) T.b_max boot_max rfl (paE rfl ak (paE rfl (cbO (Br rfl) T.b_min boot_min rfl (paE rfl ak (paE rfl (opE bS (ad 4 rfl) (cm (K:=K) rfl (λ_ _=>rfl) (bB (paE rfl ak (paE rfl ak (paE rfl (cm (K:=K) rfl (λ_ _=>rfl) (bB (paE rfl ak (paE rfl (oU ak) af))) (ctO y3 T.b_int boot_int rfl (paE rfl (ad 2 rfl) af))) af)))) (opE bC (ad 0 rfl) ak))) af))) af))))
     (ao (aV 0 bD.nd rfl (opE cr (ad 0 rfl) ak))))))))
   (ao (aM (ad 5 rfl))))))))),?_⟩
  show bA _ _ _ [some (.int n),some (.int hi),some (.bl wd),none,none,none,none] H;refine ai λD1 k1 _=>?_
  walk_at "rd";refine⟨by decide,k1 _ _ (ai λD2 k2 _=>?_)⟩;walk_at "rd";refine⟨⟨by decide,by decide⟩,by decide,k2 _ _ (ai λD3 k3 _=>?_)⟩;walk_at "rd";refine⟨⟨by decide,by decide⟩,k3 _ _ (ai λD4 k4 _=>?_)⟩;walk_at "rd";refine⟨Yn _,λL J=>k4 _ _ (ai λD5 k5 r5=>aF λan hK=>?_)⟩;walk_at "rd";have C:∃a:Nat,(a:Int)=(if n%3<hi-1 then n%3 else hi-1):=by
   split
   ·exact⟨(n%3).toNat,by omega⟩
   ·exact⟨(hi-1).toNat,by omega⟩
  obtain⟨a,ea⟩:=C;refine⟨by omega,by omega,hK _ _ (cg (λi O t=>∃(m b:Int) (o:Option V) (cs:List Int),O=[some (.int m),some (.int hi),some (.bl wd),some (.int (n%3)),some (.int b),some (.ref L),o]/\0<=b/\b<=7/\ae H t/\t L=some (.lst (cs.map V.int))/\cs.length=i/\
   (∀(k:Nat) (c:Int),cs[k]? =some c->(k<a->c= -1)/\(a<=k->0<=c/\c<=7))/\∀(k:Nat) (c d:Int),cs[k]? =some c->(cs++[b])[k+1]? =some d->a<=k->St wd c d)
   ⟨_,_,none,[],rfl,by omega,by omega,ae.upd J,aa,rfl,(λk c e=>by simp at e),λk c d e=>by simp at e⟩ ?_ ?_)⟩
  ·rintro i O t au ⟨m,b,o,cs,rfl,U,Y,M,j,x,l,y⟩;show m9 _ _ _ _ [some (.int m),some (.int hi),some (.bl wd),some (.int (n%3)),some (.int b),some (.ref L),some (.int (0+i))] t;rw[Int.zero_add];have len:(cs.map V.int).length<sizeLine:=by rw[Z5,x];exact bp (by omega)
   have put:∀v:Int,(i<a->v= -1)->(a<=i->0<=v/\v<=7)->∀(k:Nat) (c:Int),(cs++[v])[k]? =some c->(k<a->c= -1)/\(a<=k->0<=c/\c<=7):=λv v1 v2 k c e=>by
    by_cases N:k<cs.length
    ·rw[Zz N]at e;exact l k c e
    ·have ek:k=i:=by
      have:=(Ys e).1;rw[Z8]at this;simp only[Zq,length_nil]at this;omega
     subst ek;rw[List.getElem?_append_right (by omega),x,Nat.sub_self]at e;cases e;exact⟨v1,v2⟩
   refine aU λD6 k6 _=>?_
   walk_at "rd";have D:∀v u:Int,(a<=i->v=b/\St wd v u)->∀(k:Nat) (c d:Int),(cs++[v])[k]? =some c->(cs++[v] ++[u])[k+1]? =some d->a<=k->St wd c d:=λv u q k c d B r N=>by
    have av:k+1<=cs.length+1:=by
     have:=(Ys r).1;simp only[Z8,Zq,length_nil]at this;omega
    by_cases h:k+1<cs.length+1
    ·rw[Zz (by omega)]at B;rw[Zz (by simpa using h)]at r;by_cases h':a<=i
     ·rw[(q h').1]at r;exact y k c d B r N
     ·omega
    ·have ek:k=i:=by omega
     subst ek;rw[List.getElem?_append_right (by omega),x,Nat.sub_self]at B;rw[List.getElem?_append_right (by simp;omega)]at r;simp[x]at B r;rw[<-B,<-r];exact(q N).2
   have ab:∀_v:Int,¬ i<a->∀(m2 g:Int) (HH:Hp),0<=g->g<=7->St wd b g->ae (upd t L (.lst (cs.map V.int++[.int b]))) HH->D6.nx [some (.int m2),some (.int hi),some (.bl wd),some (.int (n%3)),some (.int g),some (.ref L),some (.int i)] HH:=λv hv m2 g HH b0 b7 st sh=>
    k6 _ _ ⟨m2,g,_,cs++[b],rfl,b0,b7,(ae.set M J).trans sh,by rw[sh L _ aa,Zc];rfl,by rw[Z8,x];rfl,put b (λz=>absurd z hv) λ_=>⟨U,Y⟩,D b g λ_=>⟨rfl,st⟩⟩
   refine aA (λhA=>aA (λhB=>?g1) λhB=>?g2) λhA=>?g3
   case g1=>
    simp only[decide_eq_true_eq]at hA hB;have G:i<a:=by split at ea<;> omega
    exact⟨.inl ⟨_,SqL.of j⟩,_,j,len,k6 _ _ ⟨m,b,_,cs++[-1],rfl,U,Y,ae.set M J,by rw[aa,Zc];rfl,by rw[Z8,x];rfl,put (-1) (λ_=>rfl) λz=>absurd G (by omega),D (-1) b λz=>absurd G (by omega)⟩⟩
   all_goals
    have ac: ¬ i<a:=by
     simp only[decide_eq_true_eq]at*
     split at ea<;> omega
    refine⟨.inl ⟨_,SqL.of j⟩,_,j,len,(show 2<=sizeLine by decide),λp hp=>⟨_,SqL.of aa,.int (if wd=true then -1 else 2),by cases wd<;> rfl,(show 3<=sizeLine by decide),λp1 al=>⟨by decide,_,SqL.of aa,?_⟩⟩⟩;obtain⟨c,hc,I⟩:=i8 [0,1,if wd=true then -1 else 2] (i:=m%3) (by omega) (by show m%3<3;omega);refine⟨_,hc,c,rfl,⟨by decide,by decide⟩,ab 0 ac _ _ _ ?_ ?_ ?_ ((ae.upd hp).trans (ae.upd al))⟩
    rotate_left 2
    ·unfold Cut.St;simp only[Ye,Yj,or_false]at I;cases wd<;> rcases I with rfl|rfl|rfl<;> simp<;>(split<;>(try split)<;> omega)
    all_goals(split<;>(try split)<;> omega)
  ·rintro O t ⟨m,b,o,cs,rfl,U,Y,M,j,x,l,y⟩;refine k5 _ _ ?_;walk_at "rd";exact kk L t cs M J j (by omega) ⟨a,by omega,l,λk c d B r=>y k c d B (by rw[Zz (Ys r).1];exact r)⟩
theorem pT(xs:List Int){lo hi:Int}(c:0<=lo)(d:lo<=hi)(e:hi<=xs.length):hJ (xs.map V.int) (some lo) (some hi)=((xs.drop lo.toNat).take (hi.toNat-lo.toNat)).map V.int:=by
 unfold hJ;rw[Z5];have a:HT.sIx xs.length 0 (some lo)=lo.toNat:=by
  show(if lo<0 then _ else min lo.toNat xs.length)=_;rw[if_neg (by lia)]
  lia
 have b:HT.sIx xs.length xs.length (some hi)=hi.toNat:=by
  show(if hi<0 then _ else min hi.toNat xs.length)=_;rw[if_neg (by lia)]
  lia
 rw[a,b,map_take,map_drop]
theorem BV(p:Nat->Bool)(n:Nat):inV (V.bl true) ((List.range n).map λr=>V.bl (p r))=(List.range n).any p:=by
 unfold inV;rw[any_map]
 congr 1
 funext r;show eqV (V.bl (p r)) (V.bl true)=p r;cases p r<;> rfl
theorem uD{a:Type}(p:a->Bool)(xs:List a):inV (V.bl true) (xs.map λr=>V.bl (p r))=xs.any p:=by
 unfold inV;rw[any_map]
 congr 1
 funext r;show eqV (V.bl (p r)) (V.bl true)=p r;cases p r<;> rfl
theorem yF(a:Int)(cs:List Int):inV (V.int a) (cs.map V.int)=decide (a∈cs):=by
 unfold inV;rw[any_map]
 induction cs with
 | nil=>rfl
 | cons c r b=>
   rw[Zv,b];show((c==a)||_)=_;by_cases h:c=a
   ·subst h;simp
   ·have:a≠c:=λe=>h e.symm
    simp[h,this]
theorem uE(cs:List Int):(cs.map V.int).all eN=true:=by simp[eN]
theorem uF(T:Txt K mg):Cal P w K mg base 2 "_law_cut" ["_law_row_here","_law_shift"] (AQ K):=by
 refine T.d_law_cut.cal b8 (λvs H Q E h=>?_) (λf cp A outer s H vs Q E hr h=>?_)
 ·obtain⟨a,xs,u,rfl,_⟩:=h;rfl
 ·obtain⟨a,xs,u,rfl,hs,keep,b4,hb,s0,kk⟩:=h;have get:∀i:Int,0<=i->i<6->∃c,atI (xs.map V.int) i=some (V.int c)/\0<=c/\c<9973:=λi h0 h1=>by
   obtain⟨c,e,hm⟩:=i8 xs h0 (by lia);exact⟨c,e,hb c hm⟩
  obtain⟨c0,g0,l0,u0⟩:=get 0 (by decide) (by decide);refine⟨_,(QSs.h (ag (aV 2 b8.nd rfl (opE bW ak (opE bC (cm (K:=K) rfl (λ_ _=>rfl) (ad 0 rfl) ak) ak)))
   (ag (Ay 3 b8.nd rfl Z1 Z0 rfl (opE bW ak (opE bC (opE cr (cm (K:=K) rfl (λ_ _=>rfl) (ad 0 rfl) ak) ak) ak)))
   (ag (Ay 4 b8.nd rfl Z1 Z0 rfl (hZ cV rfl (opE bC (opE cr (cm (K:=K) rfl (λ_ _=>rfl) (ad 0 rfl) ak) ak) ak) ak))
   (ag (wQ 5 b8.nd rfl Z1 Z0 rfl (fG (aC.of (show ci (ah c9) ["_law_row_here","_law_shift","_law_wide","_law_high","_law_wild","_law_columns","_law_rows","_law_k","_law_signs","_law_there"] _ ["_law_number","_law_high","_law_wild"] [(1,3),(2,4)]=true from by decide +kernel)) rfl rfl (fY (K:=K) rfl (slE (K:=K) rfl (ad 0 rfl) (fZ ak) (fZ (opE bW ak (ad 2 rfl))))) (λ_ _ _=>(bb 0 (show(["_law_number","_law_high","_law_wild"]:List Str).Nodup from by decide +kernel) rfl)) (λ_ _ _=>jm) (λ_ _ _=>(aZ (oj T) hr rfl (paE rfl (ad 0 rfl) (paE rfl (eE 1 rfl) (paE rfl (eE 2 rfl) af)))))))
   (ag (aV 6 b8.nd rfl (bB af))
   (ag (ef PassesOwn.never rfl rfl (eO rfl T.b_range rfl (paE rfl (eE 3 rfl) af)) (mC 7 b8.nd rfl Z1 Z0)
   (ag (iP 8 b8.nd rfl Z0 Z1 rfl (aC.of (show ci (ah c9) ["_law_row_here","_law_shift","_law_wide","_law_high","_law_wild","_law_columns","_law_rows","_law_k","_law_signs","_law_there"] _ ["_law_column_here","_law_k"] [(1,7)]=true from by decide +kernel)) rfl rfl (fY (K:=K) rfl (eE 5 rfl)) (λ_ _ _=>(bb 0 (show(["_law_column_here","_law_k"]:List Str).Nodup from by decide +kernel) rfl)) (λ_ _ _=>jm) (λ_ _ _=>(cm (K:=K) rfl (λ_ _=>rfl) (ad 0 rfl) (eE 1 rfl))))
    (ao (cM rfl (bmO plainAttrs_list PySem.F.slot_list_append PySem.F.type_list_append cx rfl (ad 6 rfl) (paE rfl (bmO plainAttrs_str slot_str_join type_str_join (kU (K:=K) rfl) rfl ax (paE rfl (fG (aC.of (show ci (ah c9) ["_law_row_here","_law_shift","_law_wide","_law_high","_law_wild","_law_columns","_law_rows","_law_k","_law_signs","_law_there"] _ ["_law_at","_law_shift"] [(1,1)]=true from by decide +kernel)) rfl rfl (fY (K:=K) rfl (ad 8 rfl)) (λ_ _ _=>(bb 0 (show(["_law_at","_law_shift"]:List Str).Nodup from by decide +kernel) rfl)) (λ_ _ _=>jm) (λ_ _ _=>(aZ (lD T) hr rfl (paE rfl (ad 0 rfl) (paE rfl (eE 1 rfl) af))))) af)) af))))))
   (ag (iP 9 b8.nd rfl Z0 Z1 rfl (aC.of (show ci (ah c9) ["_law_row_here","_law_shift","_law_wide","_law_high","_law_wild","_law_columns","_law_rows","_law_k","_law_signs","_law_there"] _ ["_law_at","_law_columns"] [(1,5)]=true from by decide +kernel)) rfl rfl (eO rfl T.b_range rfl (paE rfl ak af)) (λ_ _ _=>(mC 0 (show(["_law_at","_law_columns"]:List Str).Nodup from by decide +kernel) rfl Z1 Z0)) (λ_ _ _=>(v4 (bF (nJ (K:=K) rfl) rfl eBl (fG (aC.of (show ci _ ["_law_at","_law_columns"] _ ["_law_column_here","_law_at"] [(1,0)]=true from rfl)) rfl rfl (fY (K:=K) rfl (eE 1 rfl)) (λ_ _ _=>(bb 0 (show(["_law_column_here","_law_at"]:List Str).Nodup from by decide +kernel) rfl)) (λ_ _ _=>jm) (λ_ _ _=>(hZ (nJ (K:=K) rfl) rfl (eE 1 rfl) (ad 0 rfl))))))) (λ_ _ _=>(eE 0 rfl)))
   (ao (aM (aE (paE rfl (bmO plainAttrs_str slot_str_join type_str_join (kU (K:=K) rfl) rfl ax (paE rfl (ad 6 rfl) af)) (paE rfl (ad 9 rfl) af))))))))))))),?_⟩
  show bA _ _ _ [some (.ref a),some (.int u),none,none,none,none,none,none,none,none] H;refine ai λD1 k1 _=>?_
  walk_at "rd";refine⟨_,hs,_,g0,c0,rfl,by decide,k1 _ _ (ai λD2 k2 _=>?_)⟩;walk_at "rd";refine⟨_,hs,_,g0,c0,rfl,⟨by decide,by decide⟩,by decide,k2 _ _ (ai λD3 k3 _=>?_)⟩;walk_at "rd";refine⟨_,hs,_,g0,c0,rfl,⟨by decide,by decide⟩,by decide,k3 _ _ (ai λD4 k4 _=>?_)⟩;have w1:1<=1+c0%5:=by lia
  have w5:1+c0%5<=5:=by lia
  have i1:1<=1+c0/5%6:=by lia
  have i6:1+c0/5%6<=6:=by lia
  generalize cq:1+c0%5=wd at w1 w5
  generalize 1+c0/5%6=hi at i1 i6
  generalize decide (c0/30%8=0)=t
  refine aR λy L=>?_
  walk_at "rd";refine .inl ⟨_,hs,λp hp=> .inl ⟨⟨_,SqL.of aa⟩,L _ _ λD hD=>?_⟩⟩;rw[pT xs (by decide) (by lia) (by lia)]at hD ⊢;have a2:((xs.drop (Int.toNat 1)).take ((1+wd).toNat-Int.toNat 1)).length=wd.toNat:=by
   rw[Y6,Y3,b4];rw[show(1+wd).toNat=wd.toNat+1 by lia];exact min_eq_left (by lia)
  have a3:∀x∈(xs.drop (Int.toNat 1)).take ((1+wd).toNat-Int.toNat 1),0<=x/\x<9973:=λx hx=>hb x (Yf (Yg hx))
  generalize (xs.drop (Int.toNat 1)).take ((1+wd).toNat-Int.toNat 1)=ys at a2 a3 hD ⊢
  have a4:ae H (upd H p (.lst (ys.map V.int))):=ae.upd hp;have ab:upd H p (.lst (ys.map V.int)) p=some (.lst (ys.map V.int)):=aa
  generalize upd H p (.lst (ys.map V.int))=b5 at a4 ab hD ⊢
  refine bQ (J:=Itl K p) (n:=wd.toNat) (D:=D) (λi zs j d=>(∃o,j=[o,some (.int hi),some (.bl t)])/\ae b5 d/\d D=some (.lst zs)/\∃cs:List (Addr×List Int),zs=cs.map (λq=>V.ref q.1)/\cs.length=i/\oi d cs/\∀q∈cs,q.1≠D/\q.2.length=hi.toNat/\iZ t q.2)
   ⟨⟨none,rfl⟩,ae.upd hD,aa,[],rfl,rfl,λq v=>(nomatch v),λq v=>(nomatch v)⟩
   (λi _ _ d a5 ⟨_,b,_⟩=>⟨_,V.int (ys[i]'(by lia)),SqL.of (b _ _ ab),by simp[show i<ys.length by lia]⟩) (λ_ _ d ⟨_,b,_⟩=>⟨_,SqL.of (b _ _ ab),by simp[a2]⟩) ?_ ?_
  ·rintro i zs j d a5 ⟨⟨o,rfl⟩,b,a6,cs,rfl,B,ac,M⟩ x H2 ⟨e2,hx⟩;subst e2;have a7:i<ys.length:=by lia
   have k:=hx _ (SqL.of (b _ _ ab));rw[Zk,Z4 a7]at k;obtain rfl:x=V.int ys[i]:=(Z9 k).symm;walk_at "rd";refine⟨_,_,_,rfl,(a3 _ (Y0 a7)).1,i1,i6,λl H3 b6 av a8 a9 bf b7=>?_⟩;have bi:l≠D:=λe=>by rw[e,a6]at a8;cases a8
   refine CK.mk a5 (av _ _ a6) (by rw[Z5,B];exact bp (by lia)) ⟨⟨_,rfl⟩,ae.set (b.trans av) hD,aa,cs++[(l,b6)],by rw[Zc];rfl,by rw[Z8,B];rfl,λq v=>?_,λq v=>?_⟩
   ·rcases Yt v with z|z
    ·rw[aj (M q z).1];exact av _ _ (ac q z)
    ·rw[Yu z,aj bi];exact a9
   ·rcases Yt v with z|z
    ·exact M q z
    ·rw[Yu z];exact⟨bi,bf,b7⟩
  rintro zs j H4 ⟨_,ca,N,cs,rfl,B,ac,M⟩;have a0:ae H H4:=a4.trans ca;refine k4 _ _ (ai λD5 k5 _=>?_);walk_at "rd";refine⟨Yn _,λR hR=>k5 _ _ (ai λD6 k6 _=>aF λy L=>?_)⟩;walk_at "rd";have co:(cs.map (·.2)).length=wd.toNat:=by rw[Z5];exact B
  refine⟨by lia,by lia,L _ _ (cg (λi j d=>∃o7 o8,j=[some (.ref a),some (.int u),some (.int wd),some (.int hi),some (.bl t),some (.ref D),some (.ref R),o7,o8,none]/\ae H4 d/\d R=some (.lst (((List.range i).map (gr (cs.map (·.2)) u)).map V.str)))
   ⟨_,_,rfl,ae.upd hR,aa⟩ ?_ ?_)⟩
  ·rintro i j H5 ct ⟨o7,o8,rfl,g,al⟩;show bA _ _ _ [some (.ref a),some (.int u),some (.int wd),some (.int hi),some (.bl t),some (.ref D),some (.ref R),some (.int (0+i)),o8,none] H5;rw[Int.zero_add];refine ai λD7 k7 _=>aR λy L=>?_
   walk_at "rd";refine .inl ⟨⟨_,SqL.of (g _ _ N)⟩,L _ _ λE hE=>?_⟩;refine bQ (J:=Itl K D) (n:=wd.toNat) (D:=E) (λq zs j d=>(∃o,j=[o,some (.int i)])/\ae H5 d/\d E=some (.lst zs)/\zs=((cs.take q).map (λp=>p.2.getD i 0)).map V.int)
    ⟨⟨none,rfl⟩,ae.upd hE,aa,rfl⟩
    (λq _ _ d v ⟨_,b,_⟩=>⟨_,V.ref (cs[q]'(by lia)).1,SqL.of (b _ _ (g _ _ N)),by simp[show q<cs.length by lia]⟩) (λ_ _ d ⟨_,b,_⟩=>⟨_,SqL.of (b _ _ (g _ _ N)),by simp[B]⟩) ?_ ?_
   ·rintro q zs j d v ⟨⟨o,rfl⟩,b,cd,I⟩ x H2 ⟨e2,hx⟩;subst e2;have m:q<cs.length:=by lia
    have k:=hx _ (SqL.of (b _ _ (g _ _ N)));rw[Zk,Z4 m]at k;obtain rfl:x=V.ref cs[q].1:=(Z9 k).symm;walk_at "rd";have hm:=Y0 m;refine⟨_,SqL.of (b _ _ (g _ _ (ac _ hm))),V.int (cs[q].2.getD i 0),?_,?_⟩
    ·refine bV ?_;rw[Zk,cO (M _ hm).2.1 (by lia)];rfl
    ·refine CK.mk v cd (by rw[I,Z5,Z5,Y6];exact bp (by lia)) ⟨⟨_,rfl⟩,ae.set b hE,aa,?_⟩;rw[I,Ym,Zc,Zc,Z4 m];rfl
   rintro zs j H6 ⟨_,C,an,I⟩;rw[Zm (by lia)]at I;refine k7 _ _ (aU λD8 k8 _=>?_);have bl:=g.trans C;walk_at "rd";refine⟨.inl ⟨_,SqL.of (C _ _ al)⟩,aR λy L=>?_⟩;walk_at "rd";refine .inl ⟨⟨_,SqL.of an⟩,L _ _ λF hF=>?_⟩;refine bQ (J:=Itl K E) (n:=wd.toNat) (D:=F) (λq ts j d=>(∃o,j=[o,some (.int u)])/\ae H6 d/\d F=some (.lst ts)/\ts=(((cs.take q).map (λp=>sg (p.2.getD i 0) u)).map sgn).map V.str)
    ⟨⟨none,rfl⟩,ae.upd hF,aa,rfl⟩
    (λq _ _ d v ⟨_,b,_⟩=>⟨_,V.int ((cs[q]'(by lia)).2.getD i 0),SqL.of (b _ _ an),by rw[I];simp[show q<cs.length by lia]⟩) (λ_ _ d ⟨_,b,_⟩=>⟨_,SqL.of (b _ _ an),by rw[I];simp[B]⟩) ?_ ?_
   ·rintro q ts j d v ⟨⟨o,rfl⟩,b,a1,O⟩ x H2 ⟨e2,hx⟩;subst e2;have m:q<cs.length:=by lia
    have k:=hx _ (SqL.of (b _ _ an));rw[I,Zk,Zk,Z4 m]at k;obtain rfl:x=V.int (cs[q].2.getD i 0):=(Z9 k).symm;walk_at "rd";refine⟨_,_,rfl,s0,?_⟩;refine CK.mk v a1 (by rw[O,Z5,Z5,Z5,Y6];exact bp (by lia)) ⟨⟨_,rfl⟩,ae.set b hF,aa,?_⟩;rw[O,Ym,Zc,Zc,Zc,Z4 m];rfl
   rintro ts j H7 ⟨_,bm,cf,O⟩;rw[Zm (by lia)]at O;walk_at "rd";refine⟨(cs.map λp=>sg (p.2.getD i 0) u).map sgn,by rw[<-O];exact SqL.of cf,?_,_,bm _ _ (C _ _ al),by rw[Z5,Z5,Y4];exact bp (by lia),k8 _ _ ⟨_,_,rfl,ae.set (bl.trans bm) hR,?_⟩⟩
   ·rw[rZ,Z5,Z5,show(Str.ofString "").length=0 from rfl]
    lia
   ·rw[aa,range_succ,Zc,Zc,show Txt.join (Str.ofString "") ((cs.map λp=>sg (p.2.getD i 0) u).map sgn)=Str.join (Str.ofString "") ((cs.map λp=>sg (p.2.getD i 0) u).map sgn)from StrLaws.glued_eq_join _ _,qK];have e:gr (cs.map (·.2)) u i=⟨(cs.map λp=>sg (p.2.getD i 0) u).toArray⟩:=by
     unfold gr;rw[Yb];rfl
    rw[<-e];rfl
  ·rintro j H5 ⟨o7,o8,rfl,g,al⟩;refine k6 _ _ (ai λD7 k7 _=>aR λy L=>?_);walk_at "rd";refine⟨by decide,by decide,L _ _ λF hF=>?_⟩;refine bQ (J:=Itr 0 8) (n:=8) (D:=F) (λq ts j d=>(∃o,j=[o,some (.ref D)])/\ae H5 d/\d F=some (.lst ts)/\ts=(((List.range q).filter λa:Nat=>(cs.map (·.2)).any λc=>decide ((a:Int)∈c)).map λa:Nat=>(a:Int)).map V.int)
    ⟨⟨none,rfl⟩,ae.upd hF,aa,rfl⟩ (λq _ _ d v ⟨_,b,_⟩=>v) (λ_ _ d ⟨_,b,_⟩=>Zh _) ?_ ?_
   ·rintro q ts j d v ⟨⟨o,rfl⟩,b,a1,O⟩ x H2 ⟨e2,e3⟩;subst e2 e3;walk_at "rd";refine aR λy L=>?_
    walk_at "rd";have as:=b _ _ (g _ _ N);refine .inl ⟨⟨_,SqL.of as⟩,L _ _ λG hG=>?_⟩;refine bQ (J:=Itl K D) (n:=wd.toNat) (D:=G) (λr zs j H3=>(∃o,j=[o,some (.int q)])/\ae H2 H3/\H3 G=some (.lst zs)/\zs=(cs.take r).map (λp=>V.bl (decide ((q:Int)∈p.2))))
     ⟨⟨none,rfl⟩,ae.upd hG,aa,rfl⟩
     (λr _ _ H3 bn ⟨_,U,_⟩=>⟨_,V.ref (cs[r]'(by lia)).1,SqL.of (U _ _ as),by simp[show r<cs.length by lia]⟩) (λ_ _ H3 ⟨_,U,_⟩=>⟨_,SqL.of (U _ _ as),by simp[B]⟩) ?_ ?_
    ·rintro r zs j H3 bn ⟨⟨o,rfl⟩,U,ch,I⟩ x cu ⟨e2,hx⟩;subst e2;have m:r<cs.length:=by lia
     have k:=hx _ (SqL.of (U _ _ as));rw[Zk,Z4 m]at k;obtain rfl:x=V.ref cs[r].1:=(Z9 k).symm;have hm:=Y0 m;walk_at "rd";refine⟨_,.inl (SqL.of (U _ _ (b _ _ (g _ _ (ac _ hm))))),rfl,uE _,?_⟩;rw[yF];refine CK.mk bn ch (by rw[I,Z5,Y6];exact bp (by lia)) ⟨⟨_,rfl⟩,ae.set U hG,aa,?_⟩;rw[I,Ym,Zc,Z4 m];rfl
    rintro zs j H3 ⟨_,U,cl,I⟩;rw[Zm (by lia)]at I;have bt:=U _ _ a1;walk_at "rd";refine⟨_,.inl (SqL.of cl),rfl,by rw[I];simp[eN],?_⟩;rw[I,uD];have any:(cs.any λp=>decide ((q:Int)∈p.2))=(cs.map (·.2)).any λc=>decide ((q:Int)∈c):=by rw[any_map];rfl
    rw[any];have b0:ts.length<sizeLine:=by
     rw[O,Z5,Z5];have:=List.length_filter_le (λa:Nat=>(cs.map (·.2)).any λc=>decide ((a:Int)∈c)) (List.range q);rw[Y4]at this;exact bp (by lia)
    refine aA (λhb=>?_) λhb=>?_
    ·refine CK.mk v bt b0 ⟨⟨_,rfl⟩,ae.set (b.trans U) hF,aa,?_⟩;rw[O,range_succ,filter_append,Zc,Zc];rw[show List.filter (λa:Nat=>(cs.map (·.2)).any λc=>decide ((a:Int)∈c)) [q]=[q]from by rw[filter_cons,if_pos hb];rfl];rfl
    ·refine CN.mk v ⟨⟨_,rfl⟩,b.trans U,bt,?_⟩;rw[O,range_succ,filter_append,Zc,Zc];rw[show List.filter (λa:Nat=>(cs.map (·.2)).any λc=>decide ((a:Int)∈c)) [q]=[]from by rw[filter_cons,if_neg hb];rfl];simp
   rintro ts j H6 ⟨_,C,b1,O⟩;refine k7 _ _ ?_;walk_at "rd";have Y:∀c∈cs.map (·.2),c.length=hi.toNat/\iZ t c:=λc hc=>by
    obtain⟨p,hp,rfl⟩:=Yv hc;exact(M p hp).2
   have au:aP (drawn (cs.map (·.2)) hi.toNat u):=pR (by lia) (by lia) (by lia) (by lia) Y;have b2:H5 R=some (.lst ((drawn (cs.map (·.2)) hi.toNat u).map V.str)):=al;refine⟨drawn (cs.map (·.2)) hi.toNat u,SqL.of (C _ _ b2),?_,(show 2<=sizeLine by decide),λp hp=>?_⟩
   ·have:=au.sum;have:=au.high;rw[show(Str.ofString "\n").length=1 from rfl]
    lia
   ·have b3:ae H (upd H6 p (.tup [V.str (Txt.join (Str.ofString "\n") (drawn (cs.map (·.2)) hi.toNat u)),V.ref F])):=(a0.trans (g.trans C)).trans (ae.upd hp);refine kk p F _ (cs.map (·.2)) hi.toNat t b3 ((a0.trans (g.trans C)).free hp) ((a0.trans g).free hF) (λe=>by rw[e,b1]at hp;cases hp) ?_ ?_ (by lia) (by lia) (by lia) (by lia) Y
    ·rw[aa,show Txt.join (Str.ofString "\n") (drawn (cs.map (·.2)) hi.toNat u)=Str.join (Str.ofString "\n") (drawn (cs.map (·.2)) hi.toNat u)from StrLaws.glued_eq_join _ _];rfl
    ·rw[ae.upd hp F _ b1,O];rfl
def uG:Sp:=λvs H Q _=>∃z:Str,vs=[.str z]/\z.length<=1000/\∀a,ae H a->Q (.bl (h9 z)) a
def rg:Sp:=λvs H Q _=>∃row a:Str,vs=[.str row,.str a]/\row.length<=1000/\a.length<=1000/\∀b,ae H b->Q (.bl (bT row a)) b
def lW(K:PySem.W.Frag):Sp:=λvs H Q _=>∃(a:Addr) (rows:List Str),vs=[.ref a]/\SqL K H a (rows.map V.str)/\(rows.map (·.length)).sum<=3000/\(∀r∈rows,r.cps.toList.all okc=true)/\
 ∀l b ss,ae H b->H l=none->b l=some (.lst (ss.map V.str))->ss.Perm (aJ ((bX rows).map sgn))->PyProof.Rows.sortedS ss=true->Q (.ref l) b
def rh:Sp:=λvs H Q _=>∃rows:List Str,vs=[.str (Str.join nl rows)]/\aP rows/\∀l a,ae H a->H l=none->a l=some (.lst (rows.map V.str))->Q (.ref l) a
theorem de(z:Str)(i:Nat)(c:Nat)(h:z.cps[i]? =some c):(z.cps.toList.take i++[c])=z.cps.toList.take (i+1):=by
 have h':z.cps.toList[i]? =some c:=by simpa using h
 obtain⟨a,e⟩:=Ys h';rw[List.take_succ_eq_append_getElem a,e]
theorem w6(c d:Nat):((⟨#[c]⟩:Str)=⟨#[d]⟩)↔c=d:=by
 constructor
 ·intro h;have:(#[c]:Array Nat)= #[d]:=by injection h
  simpa using this
 ·intro h;rw[h]
theorem eI(c:Nat):((⟨#[c]⟩:Str)=Str.ofString ".")↔c=46:=w6 c 46
theorem pU(T:Txt K mg):Cal P w K mg base 1 "is_row" ["row"] uG:=by
 refine T.d_is_row.cal uy (λvs H Q E h=>?_) (λf v A outer s H vs Q E M h=>?_)
 ·obtain⟨z,rfl,_⟩:=h;rfl
 ·obtain⟨z,rfl,N,k⟩:=h;refine⟨_,(QSs.h (ao (aM (j3 (nH j5 j5 rfl ak (cbO (bH (K:=K) rfl) T.b_len PySem.boot_len rfl (paE rfl (ad 0 rfl) af)) (gvE T.g_MOST_SIGNS rfl rfl)) (kR (cbO (oW (K:=K) rfl rfl) T.b_all boot_all rfl (paE rfl (fG (aC.of (show ci (ah i5) ["row"] _ ["sign"] []=true from by decide +kernel)) rfl rfl (fY (K:=K) rfl (ad 0 rfl)) (λ_ _ _=>(bb 0 (show(["sign"]:List Str).Nodup from by decide +kernel) rfl)) (λ_ _ _=>jm) (λ_ _ _=>(orV (hZ cV rfl (ad 0 rfl) (gvE T.g_AIR rfl rfl)) (kR (hZ (nJ (K:=K) rfl) rfl (ad 0 rfl) (gvE T.g_LETTERS rfl rfl)))))) af))))))),?_⟩;show jY _ _ [some (.str z)] H;walk_at "rd";refine⟨aH (by lia),aA (λm=>aA (λp=>?_) λp=>?_) λm=>?_⟩
  ·refine aR λt y=>?_
   walk_at "rd";refine y _ _ λD u=>?_
   refine bQ (J:=Its z) (n:=z.cps.size) (D:=D) (λi ys d a=>(∃o,d=[o])/\ae H a/\a D=some (.lst ys)/\ys=(z.cps.toList.take i).map (λc=>V.bl (okc c))) ⟨⟨none,rfl⟩,ae.upd u,aa,rfl⟩
    (λi _ _ _ hi _=>hi) (λ_ _ _ _=>Zh _) ?_ ?_
   ·rintro i ys d a hi ⟨⟨o,rfl⟩,q,r,g⟩ x B ⟨C,c,G,rfl⟩;subst C;have j:ys.length=i:=by
     rw[g,Z5,Y6];have:z.cps.toList.length=z.cps.size:=by simp
     lia
    have I:i<1000:=by
     have:z.length=z.cps.size:=rfl
     lia
    have put:∀b:Bool,b=okc c->CK D z.cps.size i (λi ys d a=>(∃o,d=[o])/\ae H a/\a D=some (.lst ys)/\ys=(z.cps.toList.take i).map (λc=>V.bl (okc c))) ys [some (.str ⟨#[c]⟩)] (.bl b) B:=λb L=>
     CK.mk hi r (by rw[j];exact bp (by lia)) ⟨⟨_,rfl⟩,ae.set q u,aa,by rw[L,g,<-de z i c G,Zc];rfl⟩
    walk_at "rd";refine aA (λl=>put true ?_) λl=>put _ ?_
    ·have:=(eI c).mp (Zn l);unfold okc;rw[Ze this,Bool.true_or]
    ·have l: ¬ (⟨#[c]⟩:Str)=Str.ofString ".":=λe=>l (Ze e)
     have: ¬ c=46:=λe=>l ((eI c).mpr e)
     unfold okc;rw[Zg this,Bool.false_or,kO];rfl
   ·rintro ys d a ⟨_,q,r,g⟩;walk_at "rd";refine⟨z.cps.toList.map okc,?_,?_⟩
    ·have e:z.cps.toList.take z.cps.size=z.cps.toList:=by
      apply Zm;simp
     rw[e]at g;have:(z.cps.toList.map okc).map V.bl=ys:=by rw[g,Yb];rfl
     rw[this];exact SqL.of r
    ·have e:h9 z=(z.cps.toList.map okc).all id:=by
      unfold h9;rw[m,p,all_map]
      all_goals rfl
     rw[<-e];exact k a q
  ·rw[Bool.not_eq_true]at p;have e:h9 z=false:=by unfold h9;rw[p,Bool.and_false,Bool.false_and]
   rw[e]at k;exact k H (ae.refl H)
  ·rw[Bool.not_eq_true]at m;have e:h9 z=false:=by unfold h9;rw[m,Bool.false_and,Bool.false_and]
   rw[e]at k;exact k H (ae.refl H)
noncomputable def jW(p:Nat×Nat):Bool:=!decide (p.2=46)||decide (p.1=46)
theorem pV(x y:Str)(i c d:Nat)(b:x.cps[i]? =some c)(f:y.cps[i]? =some d):((List.zip x.cps.toList y.cps.toList).take i++[(c,d)])=(List.zip x.cps.toList y.cps.toList).take (i+1):=by
 have h:(List.zip x.cps.toList y.cps.toList)[i]? =some (c,d):=getElem?_zip_eq_some.mpr ⟨by simpa using b,by simpa using f⟩;obtain⟨a,e⟩:=Ys h;rw[List.take_succ_eq_append_getElem a,e]
theorem gw(T:Txt K mg):Cal P w K mg base 1 "lies_beneath" ["row","above"] rg:=by
 refine T.d_lies_beneath.cal ka (λvs H Q E h=>?_) (λf I A outer s H vs Q E hr h=>?_)
 ·obtain⟨row,a,rfl,_⟩:=h;rfl
 ·obtain⟨row,a,rfl,L,M,k⟩:=h;refine⟨_,(QSs.h (ag (ifS (bF cW rfl (cbO (bH (K:=K) rfl) T.b_len PySem.boot_len rfl (paE rfl (ad 0 rfl) af)) (cbO (bH (K:=K) rfl) T.b_len PySem.boot_len rfl (paE rfl (ad 1 rfl) af)))
   (ao (aM eBl))
   aI)
   (ao (aM (cbO (oW (K:=K) rfl rfl) T.b_all boot_all rfl (paE rfl (fG (aC.of (show ci (ah cP) ["row","above"] _ ["high","low"] []=true from by decide +kernel)) rfl rfl (y8 rfl T.b_zip rfl rfl (paE rfl (ad 1 rfl) (paE rfl (ad 0 rfl) af))) (λ_ _ _=>(fN (K:=K) rfl rfl rfl (gsE rfl (bb 0 (show(["high","low"]:List Str).Nodup from by decide +kernel) rfl) (gsE rfl (bb 1 (show(["high","low"]:List Str).Nodup from by decide +kernel) rfl) cU)))) (λ_ _ _=>jm) (λ_ _ _=>(orV (hZ cW rfl (ad 1 rfl) (gvE T.g_AIR rfl rfl)) (kR (hZ cV rfl (ad 0 rfl) (gvE T.g_AIR rfl rfl)))))) af)))))),?_⟩
  show bA _ _ _ [some (.str row),some (.str a)] H;refine ai λD1 N O=>?_
  walk_at "rd";refine⟨aH (by lia),aH (by lia),aA (λj=>?_) λj=>?_⟩
  ·have j: ¬ ((row.length:Int)=a.length):=by simpa using j
   have e:bT row a=false:=by
    unfold bT;rw[Zg (by lia),Bool.false_and]
   rw[e]at k;exact O _ _ (k H (ae.refl H))
  ·have j:row.length=a.length:=by
    have:(row.length:Int)=a.length:=by simpa using j
    lia
   refine N _ _ ?_;have hsz:row.cps.size=a.cps.size:=j;have t:(List.zip a.cps.toList row.cps.toList).length=a.cps.size:=by rw[length_zip];simp[hsz]
   walk_at "rd";refine aR λB U=>?_
   walk_at "rd";refine U _ _ λD C=>?_
   refine bQ (J:=Itz a row) (n:=a.cps.size) (D:=D) (λi ys l g=>(∃q r,l=[q,r])/\ae H g/\g D=some (.lst ys)/\ys=((List.zip a.cps.toList row.cps.toList).take i).map (λp=>V.bl (jW p))) ⟨⟨none,none,rfl⟩,ae.upd C,aa,rfl⟩
    (λi _ _ _ hi _=>⟨hi,by lia⟩) (λ_ _ _ _=>⟨Zh _,by lia,.inl rfl⟩) ?_ ?_
   ·rintro i ys l g hi ⟨⟨q,r,rfl⟩,u,v,m⟩ x H2 ⟨c,d,TT,Y,hd,G,rfl,rfl⟩;have o:ys.length=i:=by rw[m,Z5,Y6,t];lia
    have ab:i<1000:=by
     have:a.length=a.cps.size:=rfl
     lia
    have y:ae H (upd g TT (.tup [.str ⟨#[c]⟩,.str ⟨#[d]⟩])):=u.trans (ae.upd G);have z:upd g TT (.tup [.str ⟨#[c]⟩,.str ⟨#[d]⟩]) D=some (.lst ys):=ae.upd G _ _ v;have put:∀b:Bool,b=jW (c,d)->CK D a.cps.size i (λi ys l g=>(∃q r,l=[q,r])/\ae H g/\g D=some (.lst ys)/\ys=((List.zip a.cps.toList row.cps.toList).take i).map (λp=>V.bl (jW p))) ys [some (.str ⟨#[c]⟩),some (.str ⟨#[d]⟩)] (.bl b) (upd g TT (.tup [.str ⟨#[c]⟩,.str ⟨#[d]⟩])):=λb eb=>
     CK.mk hi z (by rw[o];exact bp (by lia)) ⟨⟨_,_,rfl⟩,ae.set y C,aa,by rw[eb,m,<-pV a row i c d Y hd,Zc];rfl⟩
    walk_at "rd";refine⟨_,SqT.of aa,rfl,_,_,rfl,_,_,rfl,rfl,rfl,?_⟩;simp only[V.str.injEq,eI];refine aA (λh=>put true ?_) λh=>⟨trivial,put _ ?_⟩
    ·unfold jW;rw[h,Bool.true_or]
    ·unfold jW;rw[Bool.not_eq_true]at h;rw[h,Bool.false_or]
   ·rintro ys l g ⟨_,u,v,m⟩;walk_at "rd";refine⟨(List.zip a.cps.toList row.cps.toList).map jW,?_,?_⟩
    ·have e:(List.zip a.cps.toList row.cps.toList).take a.cps.size=List.zip a.cps.toList row.cps.toList:=Zm (by lia);rw[e]at m;have:((List.zip a.cps.toList row.cps.toList).map jW).map V.bl=ys:=by rw[m,Yb];rfl
     rw[this];exact SqL.of v
    ·have e:bT row a=((List.zip a.cps.toList row.cps.toList).map jW).all id:=by
      unfold bT;rw[Ze j,all_map,Bool.true_and];rfl
     rw[<-e];exact k g u
theorem uH(h:(rows.map (·.length)).sum<=3000):(Str.join (Str.ofString "") rows).length<=3000:=by
 have:=StrLaws.join_length_le (Str.ofString "") rows;rw[show(Str.ofString "").length=0 from rfl]at this
 lia
theorem fA(T:Txt K mg):Cal P w K mg base 1 "letters_in" ["rows"] (lW K):=by
 refine T.d_letters_in.cal lR (λvs H Q E h=>?_) (λf M A outer s H vs Q E hr h=>?_)
 ·obtain⟨a,rows,rfl,_⟩:=h;rfl
 ·obtain⟨a,rows,rfl,N,g,u,k⟩:=h;refine⟨_,(QSs.h (ao (aM (cbO (tT (w:=w) rfl rfl) T.b_sorted boot_sorted rfl (paE rfl (ctO (Bs (K:=K) (w:=w) rfl rfl rfl) T.b_set boot_set rfl (paE rfl (fG (aC.of (show ci (ah dN) ["rows"] _ ["sign"] []=true from by decide +kernel)) rfl rfl (fY (K:=K) rfl (bmO plainAttrs_str slot_str_join type_str_join (kU (K:=K) rfl) rfl ax (paE rfl (ad 0 rfl) af))) (λ_ _ _=>(bb 0 (show(["sign"]:List Str).Nodup from by decide +kernel) rfl)) (λ_ _ _=>(v4 (bF cW rfl (ad 0 rfl) (gvE T.g_AIR rfl rfl)))) (λ_ _ _=>(ad 0 rfl))) af)) af))))),?_⟩;show jY _ _ [some (.ref a)] H;walk_at "rd";refine aR λC O=>?_
  walk_at "rd";refine⟨rows,N,by rw[show(Str.ofString "").length=0 from rfl];lia,?_⟩;rw[show Txt.join (Str.ofString "") rows=Str.join (Str.ofString "") rows from StrLaws.glued_eq_join _ _];have j:=uH g;have b:=jo u;unfold bX at b k
  generalize Str.join (Str.ofString "") rows=z at j b k ⊢
  refine O _ _ λD G=>?_
  refine bQ (J:=Its z) (n:=z.cps.size) (D:=D) (λi ys v m=>(∃o,v=[o])/\ae H m/\m D=some (.lst ys)/\ys=((z.cps.toList.take i).filter (λc=>decide (c≠46))).map (λc=>V.str (sgn c))) ⟨⟨none,rfl⟩,ae.upd G,aa,rfl⟩
   (λi _ _ _ hi _=>hi) (λ_ _ _ _=>Zh _) ?_ ?_
  ·rintro i ys v m hi ⟨⟨o,rfl⟩,r,t,d⟩ x H2 ⟨U,c,I,rfl⟩;subst U;have L:ys.length<=i:=by
    rw[d,Z5];have:=List.length_filter_le (λc=>decide (c≠46)) (z.cps.toList.take i);rw[Y6]at this
    lia
   have Y:i<3000:=by
    have:z.length=z.cps.size:=rfl
    lia
   walk_at "rd";simp only[eI];refine aA (λy=>?_) λy=>?_
   ·refine CK.mk hi t (bp (by lia)) ⟨⟨_,rfl⟩,ae.set r G,aa,?_⟩;rw[<-de z i c I,filter_append,Zc,d];have:decide (c≠46)=true:=by simpa using y
    rw[filter_cons,this];rfl
   ·refine CN.mk hi ⟨⟨_,rfl⟩,r,t,?_⟩;rw[<-de z i c I,filter_append,Zc,d];have:decide (c≠46)=false:=by simpa using y
    rw[filter_cons,this];simp
  ·rintro ys v m ⟨_,r,t,d⟩;have e:z.cps.toList.take z.cps.size=z.cps.toList:=by
    apply Zm;simp
   rw[e]at d;walk_at "rd";have ab:=List.length_filter_le (λc=>decide (c≠46)) z.cps.toList;have ac:z.cps.toList.length=z.length:=by simp[Str.length]
   refine⟨(z.cps.toList.filter (λc=>decide (c≠46))).map sgn,?_,by rw[Z5];lia,λS hS=>⟨_,aa,?_,λl ss p hp B=>?_⟩⟩
   ·rw[Yb];have:(z.cps.toList.filter (λc=>decide (c≠46))).map (V.str ∘ sgn)=ys:=by rw[d];rfl
    rw[this];exact SqL.of t
   ·have:=iu b
    lia
   ·have q:ae H (upd m S (qG w S (aJ ((z.cps.toList.filter (λc=>decide (c≠46))).map sgn)))):=r.trans (ae.upd hS);exact k l _ ss (q.trans (ae.upd p)) (q.free p) aa hp B
theorem jE(T:Txt K mg):Cal P w K mg base 2 "rows_of" ["text"] rh:=by
 refine T.d_rows_of.cal cC (λvs H Q E h=>?_) (λf au A outer s H vs Q E M h=>?_)
 ·obtain⟨rows,rfl,_⟩:=h;rfl
 ·obtain⟨rows,rfl,a,k⟩:=h;obtain⟨wd,w1,w2,hw⟩:=a.wide;have N:=a.text;have u:=a.split;refine⟨_,(QSs.h (ag (ifS (bU (bG (K:=K) rfl (λ_=>rfl) (cbO (cw (K:=K) rfl) T.b_isinstance boot_isinstance rfl (paE rfl (ad 0 rfl) (paE rfl (blE (v:= .ty "str") rfl T.b_str boot_str rfl rfl rfl) af)))))
   (ao nI)
   aI)
   (ag (aV 1 cC.nd rfl (bmO plainAttrs_str slot_str_split type_str_split nN rfl (ad 0 rfl) (paE rfl ax af)))
   (ag (ef PassesOwn.never rfl rfl (oY (K:=K) rfl rfl T.b_enumerate rfl (paE rfl (ad 1 rfl) af)) (fN (K:=K) rfl rfl rfl (gsE rfl (bb 2 cC.nd rfl) (gsE rfl (bb 3 cC.nd rfl) cU)))
   (ag (ifS (wT (orW (bF cV rfl (ad 2 rfl) (gvE T.g_MOST_ROWS rfl rfl)) (dI (bU (bG (K:=K) rfl (λ_=>rfl) (aZ (pU T) M rfl (paE rfl (ad 3 rfl) af)))))))
    (ao nI)
    aI)
    (ao (ifS (wT (kS (bF tJ rfl (ad 2 rfl) ak) (jR (bU (bG (K:=K) rfl (λ_=>rfl) (aZ (gw T) M rfl (paE rfl (ad 3 rfl) (paE rfl (cm (K:=K) rfl (λ_ _=>rfl) (ad 1 rfl) (opE mD (ad 2 rfl) ak)) af))))))))
    (ao nI)
    aI))))
   (ag (ifS (bF cV rfl (cbO (bH (K:=K) rfl) T.b_len PySem.boot_len rfl (paE rfl (aZ (fA T) M rfl (paE rfl (ad 1 rfl) af)) af)) ak)
   (ao nI)
   aI)
   (ao (aM (ad 1 rfl)))))))),?_⟩
  generalize Str.join nl rows=z at N u
  show bA _ _ _ [some (.str z),none,none,none] H;refine ai λD1 k1 _=>?_
  walk_at "rd";refine⟨.type "str",.str z,true,by rfl,io (k1 _ _ (ai λD2 k2 _=>?_))⟩;walk_at "rd";refine⟨by decide,Y2 (by lia:z.length+2<=5000) (by decide),λl hl=>k2 _ _ ?_⟩;rw[show(Str.ofString "\n")=nl from rfl,u];refine ai λD3 k3 _=>aF λal hK=>?_
  walk_at "rd";have O:ae H (upd H l (.lst (rows.map V.str))):=ae.upd hl;refine⟨_,SqL.of aa,hK _ _ (gf (λi J g=>∃U Y,J=[some (.str z),some (.ref l),U,Y]/\ae H g/\g l=some (.lst (rows.map V.str))) ⟨none,none,rfl,O,aa⟩ (λi J g _ ⟨_,_,_,_,q⟩=>SqL.of q) ?_ ?_)⟩
  ·rintro i x TT J g y ⟨U,Y,rfl,sm,j⟩ hT;obtain⟨r,m,rfl⟩:∃r,rows[i]? =some r/\x=V.str r:=by
    rw[Zk]at y;cases e:rows[i]? with
    | none=>rw[e]at y;cases y
    | some r=>rw[e]at y;exact⟨r,rfl,(Z9 y).symm⟩
   have an:i<rows.length:=(Ys m).1;have as:=a.high;have B:ae H (upd g TT (.tup [.int i,.str r])):=sm.trans (ae.upd hT);have o:upd g TT (.tup [.int i,.str r]) l=some (.lst (rows.map V.str)):=ae.upd hT _ _ j;have C:upd g TT (.tup [.int i,.str r]) TT=some (.tup [.int i,.str r]):=aa
   generalize upd g TT (.tup [.int i,.str r])=HT at B o C
   have D:r.length<=1000:=by
    have:r.length=wd:=hw r (Z7 m)
    lia
   refine⟨_,SqT.of C,rfl,_,_,rfl,_,_,rfl,rfl,?_⟩;show bA _ _ _ [some (.str z),some (.ref l),some (.int i),some (.str r)] HT;refine ai λD4 k4 _=>?_
   have go:∀p,ae HT p->D4.nx [some (.str z),some (.ref l),some (.int i),some (.str r)] p:=by
    intro p b;refine k4 _ _ (aU λD5 k5 _=>?_);have G:∀L,ae HT L->D5.nx [some (.str z),some (.ref l),some (.int i),some (.str r)] L:=λL n=>k5 _ _ ⟨_,_,rfl,B.trans n,n l _ o⟩
    walk_at "rd";refine aA (λI=>?_) λ_=>G _ b
    have I:0<(i:Int):=Zn I;obtain⟨d,rfl⟩:∃d,i=d+1:=⟨i-1,by lia⟩
    have t:d<rows.length:=by lia
    have ab:rows[d]? =some rows[d]:=by simp[t]
    have e1:(((d+1:Nat):Int) -1)=(d:Int):=by lia
    refine⟨_,SqL.of (b l _ o),.str rows[d],by rw[e1];exact bV (by simp[t]),r,rows[d],rfl,D,?_,λL n=>⟨_,rfl,?_⟩⟩
    ·have:rows[d].length=wd:=hw _ (Y0 t)
     lia
    ·rw[a.beneath ab m];exact io (G _ (b.trans n))
   walk_at "rd";rw[if_neg (by simp;lia)];refine⟨r,rfl,D,λp b=>⟨_,rfl,?_⟩⟩;rw[a.row (Z7 m)];exact io (go p b)
  ·rintro J g ⟨U,Y,rfl,sm,j⟩;refine k3 _ _ ?_;walk_at "rd";refine⟨l,rows,rfl,SqL.of j,by have:=a.sum;lia,a.sign,λl2 p ss b av ac I a0=>⟨_,.inl ⟨_,SqL.of ac,rfl⟩,?_⟩⟩;rw[if_neg]
   ·exact k l p (sm.trans b) hl (b l _ j)
   ·intro h0;have h0:=Zn h0;rw[Z5]at h0;have:ss=[]:=length_eq_zero_iff.mp (by lia);rw[this]at I;have hm:=I.symm.eq_nil;obtain⟨c,hc⟩:=List.exists_mem_of_ne_nil _ a.signs_ne;have:sgn c∈aJ ((bX rows).map sgn):=cE.mpr (Yw ⟨c,hc,rfl⟩);rw[hm]at this;cases this
noncomputable def mQ(p:Nat×Nat):Option (List Str):=if p.1≠46/\p.1≠p.2 then some [sgn p.1,sgn p.2]else none
noncomputable def iF(u r:Str):List (List Str):=(List.zip u.cps.toList r.cps.toList).filterMap mQ
theorem i9(H:Hp):bd H []:=λp a=>by cases a
theorem be(h:bd H ps)(s:∀b z,H b=some (.tup z)->c b=some (.tup z)):bd c ps:=λp a=>⟨(h p a).1,s _ _ (h p a).2⟩
theorem jF(h:bd H ps)(a:q.2≠[])(b:H q.1=some (.tup (q.2.map V.str))):bd H (ps++[q]):=λp c=>by
 rcases Yt c with z|z
 ·exact h p z
 ·rw[Yu z];exact⟨a,b⟩
theorem pW(a:bd H ps)(b:bd H qs):bd H (ps++qs):=λp c=>(Yt c).elim (a p) (b p)
def BN:Sp:=λvs H Q _=>∃u r:Str,vs=[.str u,.str r]/\u.length<=40/\r.length=u.length/\∀l a ps,ae H a->H l=none->a l=some (.lst (ps.map λp:Addr×List Str=>V.ref p.1))->bd a ps->ps.map (·.2)=iF u r->Q (.ref l) a
def yG:Sp:=λvs H Q _=>∃rows:List Str,vs=[.str (Str.join nl rows)]/\aP rows/\∀l a ss,ae H a->H l=none->a l=some (.lst (ss.map V.str))->ss.Perm (aJ ((bX rows).map sgn))->PyProof.Rows.sortedS ss=true->Q (.ref l) a
theorem uI(T:Txt K mg):Cal P w K mg base 3 "letters" ["text"] yG:=by
 refine T.d_letters.cal rc (λvs H Q E h=>?_) (λf d A outer s H vs Q E b h=>?_)
 ·obtain⟨rows,rfl,_⟩:=h;rfl
 ·obtain⟨rows,rfl,a,e⟩:=h;refine⟨_,(QSs.h (ao (aM (aZ (fA T) b rfl (paE rfl (aZ (jE T) b rfl (paE rfl (ad 0 rfl) af)) af))))),?_⟩;show jY _ _ [some (.str (Str.join nl rows))] H;walk_at "rd";refine⟨rows,rfl,a,λl q c r g=>⟨l,rows,rfl,SqL.of g,by have:=a.sum;lia,a.sign,λi j ss k m n o p=>e i j ss (c.trans k) (c.free m) n o p⟩⟩
theorem iG(T:Txt K mg):Cal P w K mg base 1 "meetings_between" ["above","row"] BN:=by
 refine T.d_meetings_between.cal ia (λvs H Q E h=>?_) (λf ab A outer s H vs Q E hr h=>?_)
 ·obtain⟨u,r,rfl,_⟩:=h;rfl
 ·obtain⟨u,r,rfl,hu,ac,kk⟩:=h;have al:u.length=u.cps.size:=rfl;have an:r.length=r.cps.size:=rfl;refine⟨_,(QSs.h (ao (aM (fG (aC.of (show ci (ah bY) ["above","row"] _ ["high","low"] []=true from by decide +kernel)) rfl rfl (y8 rfl T.b_zip rfl rfl (paE rfl (ad 0 rfl) (paE rfl (ad 1 rfl) af))) (λ_ _ _=>(fN (K:=K) rfl rfl rfl (gsE rfl (bb 0 (show(["high","low"]:List Str).Nodup from by decide +kernel) rfl) (gsE rfl (bb 1 (show(["high","low"]:List Str).Nodup from by decide +kernel) rfl) cU)))) (λ_ _ _=>(v4 (wT (kS (bF cW rfl (ad 0 rfl) (gvE T.g_AIR rfl rfl)) (jR (bF cW rfl (ad 0 rfl) (ad 1 rfl))))))) (λ_ _ _=>(aE (paE rfl (ad 0 rfl) (paE rfl (ad 1 rfl) af)))))))),?_⟩;show jY _ _ [some (.str u),some (.str r)] H;walk_at "rd";refine aR λY hK=>?_
  walk_at "rd";refine hK _ _ λD M=>?_
  refine bQ (J:=Itz u r) (n:=u.cps.size) (D:=D) (λi ys N k=>(∃o1 o2,N=[o1,o2])/\ae H k/\k D=some (.lst ys)/\ys.length<=i/\∃ps:List (Addr×List Str),ys=ps.map (λp=>V.ref p.1)/\bd k ps/\ps.map (·.2)=((List.zip u.cps.toList r.cps.toList).take i).filterMap mQ)
   ⟨⟨none,none,rfl⟩,ae.upd M,aa,Zh _,[],rfl,i9 _,rfl⟩ (λi _ _ _ hi _=>⟨hi,by lia⟩) (λ_ _ _ _=>⟨Zh _,by lia,.inl rfl⟩) ?_ ?_
  ·rintro i ys N k hi ⟨⟨o1,o2,rfl⟩,O,U,I,ps,L,l,j⟩ x H2 ⟨c,d,TT,hc,hd,hT,rfl,rfl⟩;have m:=ae.upd (o:= .tup [.str ⟨#[c]⟩,.str ⟨#[d]⟩]) hT;have nx:=pV u r i c d hc hd;have a:=m _ _ U;have y:upd k TT (.tup [.str ⟨#[c]⟩,.str ⟨#[d]⟩]) TT=some (.tup [.str ⟨#[c]⟩,.str ⟨#[d]⟩]):=aa;have g:bd (upd k TT (.tup [.str ⟨#[c]⟩,.str ⟨#[d]⟩])) ps:=λp G=>⟨(l p G).1,m _ _ (l p G).2⟩
   have t:=O.trans m
   generalize upd k TT (.tup [.str ⟨#[c]⟩,.str ⟨#[d]⟩])=HT at m a y g t
   refine⟨_,SqT.of y,rfl,_,_,rfl,_,_,rfl,rfl,?_⟩;show xy _ _ [some (.str ⟨#[c]⟩),some (.str ⟨#[d]⟩)] HT _;walk_at "rd";simp only[eI,w6];have as:D≠TT:=λe=>by rw[e,y]at a;cases a
   refine aA (λB=>aA (λC=>?_) λC=>?_) λB=>?_
   ·have B:c≠46:=by simpa using B
    have C:c≠d:=by simpa using C
    refine⟨show 2<=sizeLine from by decide,λp G=>?_⟩;have v:=ae.upd (o:= .tup [V.str ⟨#[c]⟩,V.str ⟨#[d]⟩]) G;have au:p≠D:=λe=>by rw[e,a]at G;cases G
    refine CK.mk hi (v _ _ a) (bp (by lia)) ⟨⟨_,_,rfl⟩,ae.set (t.trans v) M,aa,by rw[Z8,Y5];lia,ps++[(p,[sgn c,sgn d])],by rw[L,Zc];rfl,?_,?_⟩
    ·have keep:∀b z,upd HT p (.tup [V.str ⟨#[c]⟩,V.str ⟨#[d]⟩]) b=some (.tup z)->upd (upd HT p (.tup [V.str ⟨#[c]⟩,V.str ⟨#[d]⟩])) D (.lst (ys++[V.ref p])) b=some (.tup z):=λb z e=>by
      have:b≠D:=λe2=>by rw[e2,v _ _ a]at e;cases e
      rw[aj this];exact e
     exact be (jF (be g λb z e=>v _ _ e) (by simp) (by rw[aa];rfl)) keep
    ·rw[Zc,j,<-nx,List.filterMap_append];have:mQ (c,d)=some [sgn c,sgn d]:=if_pos ⟨B,C⟩;rw[Zx,this];rfl
   ·have C:c=d:=by simpa using C
    refine CN.mk hi ⟨⟨_,_,rfl⟩,t,a,by lia,ps,L,g,?_⟩;rw[j,<-nx,List.filterMap_append];have:mQ (c,d)=none:=if_neg λq=>q.2 C
    rw[Zx,this];simp
   ·have B:c=46:=by simpa using B
    refine CN.mk hi ⟨⟨_,_,rfl⟩,t,a,by lia,ps,L,g,?_⟩;rw[j,<-nx,List.filterMap_append];have:mQ (c,d)=none:=if_neg λq=>q.1 B
    rw[Zx,this];simp
  ·rintro ys N k ⟨_,O,U,I,ps,L,l,j⟩;rw[Zm (by rw[length_zip];simp;lia)]at j;exact kk D k ps O M (by rw[U,L]) l j
theorem w8{K:PySem.W.Frag}{xs ys:List V}{g:TG}{r:TS}{D:d9}(Pv:Nat->St->Hp->Prop)(t:Pv 0 c H)(u:ys.length<=xs.length)(z:∀i c H,i<=ys.length->Pv i c H->SqL K H a xs/\SqL K H b ys)
 (A:∀i x y T c H,xs[i]? =some x->ys[i]? =some y->Pv i c H->H T=none->g (.ref T) c (upd H T (.tup [x,y])) λd k=>r {D with nx:=Pv (i+1),ct:=Pv (i+1),bk:=D.nx} d k) (B:∀c H,Pv ys.length c H->D.nx c H):
 ∃W:Nat->Nat->St->Hp->Prop,(∃m,W 0 m c H)/\∀i m c H,W i m c H->
  ((ur K a b).stop i H/\D.nx c H)\/((ur K a b).go i H/\∃N:St->Hp->Prop,(∀f h,N f h->∃s,s<m/\W (i+1) s f h)/\∀x h,(ur K a b).yld i H x h->g x c h λd k=>r {D with nx:=N,ct:=N,bk:=D.nx} d k):=by
 refine⟨λi m c H=>m=ys.length-i/\i<=ys.length/\Pv i c H,⟨ys.length,by simp,Yn _,t⟩,?_⟩;rintro i m c H ⟨rfl,hi,p⟩;obtain⟨l,n⟩:=z i c H hi p;by_cases j:i<ys.length
 ·have C:xs[i]? =some xs[i]:=by simp[show i<xs.length by lia]
  have E:ys[i]? =some ys[i]:=by simp[j]
  refine .inr ⟨⟨xs,ys,_,_,l,n,C,E⟩,Pv (i+1),λf h G=>⟨ys.length-(i+1),by lia,rfl,j,G⟩,λv h y=>?_⟩;obtain⟨T,I,J,L,rfl,rfl,o,q⟩:=y;have o:=o xs l;have q:=q ys n;exact A i I J T c H o q p L
 ·have e:i=ys.length:=by lia
  subst e;exact .inl ⟨⟨xs,ys,l,n,by lia,Zh _,.inr rfl⟩,B c H p⟩
noncomputable def gO(rows:List Str)(i:Nat):List (List Str):=(List.range i).flatMap λj=>iF (rows.getD j ⟨#[]⟩) (rows.getD (j+1) ⟨#[]⟩)
theorem om(rows:List Str)(i:Nat):gO rows (i+1)=gO rows i++iF (rows.getD i ⟨#[]⟩) (rows.getD (i+1) ⟨#[]⟩):=by
 unfold gO;rw[range_succ,Zy];simp
theorem rj(u r:Str):(iF u r).length<=u.length:=by
 unfold iF;refine Y2 (List.length_filterMap_le _ _) ?_;rw[length_zip];have:u.cps.toList.length=u.length:=by simp[Str.length]
 lia
theorem uJ(h:k∈gO rows (rows.length-1)):∃a b,k=[sgn a,sgn b]/\q0 rows a b:=by
 unfold gO at h;obtain⟨j,d,f⟩:=mem_flatMap.mp h;have g:∀j (h:j<rows.length),rows.getD j ⟨#[]⟩=rows[j]:=λj h=>by simp[Zb,h]
 have d:=mem_range.mp d;unfold iF at f;obtain⟨⟨a,b⟩,i,e⟩:=mem_filterMap.mp f;unfold mQ at e
 split at e
 ·rename_i h
  obtain⟨q,c⟩:=Yo i;rw[getElem?_zip_eq_some,g j (by lia),g (j+1) (by lia)]at c;exact⟨a,b,(Z9 e).symm,h.1,h.2,j,q,rows[j],rows[j+1],Z4 _,Z4 _,by simpa using c.1,by simpa using c.2⟩
 ·cases e
theorem mR(k:aP rows)(h:q0 rows a b):Let rows a/\Let rows b:=by
 obtain⟨c,l,i,j,r,d,f,g,g1,g2⟩:=h;refine⟨⟨c,r,Z7 f,Z7 (i:=j) (by simpa using g1)⟩,λe=>c (k.fall i r d f g j a b g1 g2 e),d,Z7 g,Z7 (i:=j) (by simpa using g2)⟩
theorem uK(rows:List Str)(h:rows≠[]):hJ (rows.map V.str) (some 1) none=(rows.drop 1).map V.str:=by
 unfold hJ;have a:1<=rows.length:=length_pos_iff.mpr h;rw[HT.sIx_none,show(some (1:Int))=some ((1:Nat):Int)from rfl,HT.sIx_nat,Z5,min_eq_left a,<-map_drop,<-map_take]
 congr 1
 rw[Zm (by rw[Y3];exact Zh _)]
def pX(rows:List Str)(n:Nat):Prop:=∃m:List (List Str),m.length<=n/\∀a b,q0 rows a b->[sgn a,sgn b]∈m
def yH:Sp:=λvs H Q _=>∃(rows:List Str) (n:Nat),vs=[.str (Str.join nl rows)]/\aP rows/\pX rows n/\n<=42/\∀l c (ss:List (Addr×List Str)),ae H c->H l=none->c l=some (.lst (ss.map λp=>V.ref p.1))->bd c ss->ss.length<=n->
 (∀t∈ss,∃a b,t.2=[sgn a,sgn b]/\Let rows a/\Let rows b)->Q (.ref l) c
theorem rk(T:Txt K mg):Cal P w K mg base 3 "meetings" ["text"] yH:=by
 refine T.d_meetings.cal dm (λvs H Q E h=>?_) (λf b0 A outer s H vs Q E hr h=>?_)
 ·obtain⟨rows,n,rfl,_⟩:=h;rfl
 ·obtain⟨rows,n,rfl,c,⟨mm,ml,a6⟩,hn,kk⟩:=h;obtain⟨wd,w1,w2,Y⟩:=c.wide;have hp:1<=rows.length:=c.pos;have bm:=c.high;have a7:rows≠[]:=length_pos_iff.mp hp;refine⟨_,(QSs.h (ag (aV 1 dm.nd rfl (aZ (jE T) hr rfl (paE rfl (ad 0 rfl) af)))
   (ag (aV 2 dm.nd rfl (bB af))
   (ag (ef PassesOwn.never rfl rfl (BA (K:=K) rfl rfl T.b_zip rfl rfl (paE rfl (ad 1 rfl) (paE rfl (slE (K:=K) rfl (ad 1 rfl) (fZ ak) noO) af))) (fN (K:=K) rfl rfl rfl (gsE rfl (bb 3 dm.nd rfl) (gsE rfl (bb 4 dm.nd rfl) cU)))
   (ao (cM rfl (bmO plainAttrs_list PySem.F.slot_list_extend PySem.F.type_list_extend oX rfl (ad 2 rfl) (paE rfl (aZ (iG T) hr rfl (paE rfl (ad 3 rfl) (paE rfl (ad 4 rfl) af))) af)))))
   (ao (aM (cbO (uq (P:=P) (w:=w) rfl rfl rfl) T.b_sorted boot_sorted rfl (paE rfl (ctO (AH (K:=K) (P:=P) (w:=w) rfl rfl rfl rfl hr) T.b_set boot_set rfl (paE rfl (ad 2 rfl) af)) af)))))))),?_⟩
  show bA _ _ _ [some (.str (Str.join nl rows)),none,none,none,none] H;refine ai λD1 k1 r1=>?_
  walk_at "rd";refine⟨rows,rfl,c,λR H1 s1 f1 hR=>k1 _ _ (ai λD2 k2 r2=>?_)⟩;walk_at "rd";refine⟨Yn _,λL hL=>k2 _ _ (ai λD3 k3 r3=>aF λbn hK=>?_)⟩;have s2:=ae.upd (o:= .lst []) hL;have D:=s2 _ _ hR;have G:upd H1 L (.lst []) L=some (.lst []):=aa;have fL:H L=none:=s1.free hL;have ab:=s1.trans s2
  generalize upd H1 L (.lst [])=H2 at s2 D G ab
  walk_at "rd";refine .inl ⟨_,SqL.of D,λp hp=>?_⟩;rw[uK rows a7];have s3:=ae.upd (o:= .lst ((rows.drop 1).map V.str)) hp;have I:=s3 _ _ D;have ac:=s3 _ _ G;have J:upd H2 p (.lst ((rows.drop 1).map V.str)) p=some (.lst ((rows.drop 1).map V.str)):=aa;have al:=ab.trans s3;have a8:L≠R:=λe=>by rw[e,hR]at hL;cases hL
  have a9:p≠L:=λe=>by rw[e,G]at hp;cases hp
  generalize upd H2 p (.lst ((rows.drop 1).map V.str))=H3 at s3 I ac J al
  refine⟨⟨_,SqL.of I⟩,⟨_,SqL.of J⟩,hK _ _ (w8 (xs:=rows.map V.str) (ys:=(rows.drop 1).map V.str) (λi σ l=>(∃o3 o4,σ=[some (.str (Str.join nl rows)),some (.ref R),some (.ref L),o3,o4])/\ae H l/\l R=some (.lst (rows.map V.str))/\l p=some (.lst ((rows.drop 1).map V.str))/\
   ∃ps:List (Addr×List Str),l L=some (.lst (ps.map λq=>V.ref q.1))/\bd l ps/\ps.map (·.2)=gO rows i/\ps.length<=40*i) ⟨⟨none,none,rfl⟩,al,I,J,[],ac,i9 _,rfl,Yn _⟩ (by rw[Z5,Z5,Y3];lia) (λi σ l _ q=>⟨SqL.of q.2.2.1,SqL.of q.2.2.2.1⟩) ?_ ?_)⟩
  ·rintro i x y TT σ l hx hy ⟨⟨o3,o4,rfl⟩,sm,an,as,ps,M,g,v,au⟩ hT;rw[Zk]at hx hy;obtain⟨u,hu,rfl⟩:=map_eq_some_iff.mp hx;obtain⟨r,B,rfl⟩:=map_eq_some_iff.mp hy;rw[List.getElem?_drop,add_comm]at B;have b1:i+1<rows.length:=(Ys B).1;have ul:u.length=wd:=Y u (Z7 hu);have rl:r.length=wd:=Y r (Z7 B);have j:=ae.upd (o:= .tup [V.str u,V.str r]) hT;have av:upd l TT (.tup [V.str u,V.str r]) TT=some (.tup [V.str u,V.str r]):=aa;have a0:=j _ _ an;have a1:=j _ _ as;have t:=j _ _ M;have C:bd (upd l TT (.tup [V.str u,V.str r])) ps:=be g λb z e=>j _ _ e
   have a2:=sm.trans j
   generalize upd l TT (.tup [V.str u,V.str r])=HT at j av a0 a1 t C a2
   refine⟨_,SqT.of av,rfl,_,_,rfl,_,_,rfl,rfl,?_⟩;refine aU λD4 k4 r4=>?_
   walk_at "rd";refine⟨.inl ⟨_,SqL.of t⟩,u,r,rfl,by lia,by lia,λl4 H4 ps4 U f4 h4 a3 e4=>?_⟩;have b2:l4≠L:=λe=>by rw[e,t]at f4;cases f4
   have bt:ps4.length<=40:=by
    have:(ps4.map (·.2)).length=(iF u r).length:=by rw[e4]
    rw[Z5]at this;have:=rj u r
    lia
   refine⟨_,rfl,_,U _ _ t,_,h4,by rw[Z5,Z5];exact aH (by lia),k4 _ _ ?_⟩;have N:∀b z,H4 b=some (.tup z)->upd H4 L (.lst ((ps.map λq=>V.ref q.1) ++ps4.map λq=>V.ref q.1)) b=some (.tup z):=λb z e=>by
    have:b≠L:=λe2=>by rw[e2,U _ _ t]at e;cases e
    rw[aj this];exact e
   have bf:R≠L:=Ne.symm a8;refine⟨⟨_,_,rfl⟩,λb u' e=>?_,by rw[aj bf];exact U _ _ a0,by rw[aj a9];exact U _ _ a1,ps++ps4,by rw[aa,Zc],be (pW (be C λb z e=>U _ _ e) a3) N,?_,by rw[Z8];lia⟩
   ·rw[aj (am e fL)];exact U _ _ (a2 _ _ e)
   ·rw[Zc,v,e4,om];have g1:rows.getD i ⟨#[]⟩=u:=by rw[Zb,hu];rfl
    have g2:rows.getD (i+1) ⟨#[]⟩=r:=by rw[Zb,B];rfl
    rw[g1,g2]
  ·rintro σ l ⟨⟨o3,o4,rfl⟩,sm,an,as,ps,M,g,v,au⟩;rw[Z5,Y3]at v;refine k3 _ _ ?_;walk_at "rd";have O:∀q∈ps,∃a b,q.2=[sgn a,sgn b]/\q0 rows a b:=λq d=>uJ (by rw[<-v];exact Yw ⟨q,d,rfl⟩)
   have a4:∀q∈ps,q.2∈mm:=λq d=>by
    obtain⟨a,b,e,h⟩:=O q d;rw[e];exact a6 a b h
   refine⟨ps,SqL.of M,g,⟨mm,by lia,a4⟩,λl5 bi=>?_⟩;have s5:=ae.upd (o:=lz P w l5 (aX ps)) bi;have bl:(aX ps).length<=n:=by
    have:=STab.nodup_sub (ic ps) (m:=mm) λk hk=>by
     obtain⟨q,d,rfl⟩:=Yv hk;exact a4 q (cB ps q d)
    rw[Z5]at this
    lia
   refine⟨aX ps,aa,λq d=>⟨(g q (cB ps q d)).1,s5 _ _ (g q (cB ps q d)).2⟩,2,λq d=>?_,by decide,by lia,λl6 ss a5 pm so=>?_⟩
   ·obtain⟨a,b,e,_⟩:=O q (cB ps q d);rw[e];rfl
   have s6:=ae.upd (o:= .lst (ss.map λq=>V.ref q.1)) a5;refine kk l6 _ ss ((sm.trans s5).trans s6) ((sm.trans s5).free a5) aa (λq d=>?_) (by rw[pm.length_eq];exact bl) λq d=>?_
   ·have:=g q (cB ps q (pm.mem_iff.mp d));exact⟨this.1,s6 _ _ (s5 _ _ this.2)⟩
   ·obtain⟨a,b,e,h⟩:=O q (cB ps q (pm.mem_iff.mp d));exact⟨a,b,e,mR c h⟩
noncomputable def cc(z:Str):Bool:=(decide (1<=(z.length:Int))&&decide ((z.length:Int)<=8))&&z.cps.toList.all dG
inductive Kn (H:Hp):V->String->Prop
 | non:Kn H .non "NoneType"
 | bl {b:Bool}:Kn H (.bl b) "bool"
 | int {i:Int}:Kn H (.int i) "int"
 | str {z:Str}:Kn H (.str z) "str"
 | lst {p:Addr} {xs:List V}:H p=some (.lst xs)->Kn H (.ref p) "list"
 | tup {p:Addr} {xs:List V}:H p=some (.tup xs)->Kn H (.ref p) "tuple"
 | dct {p:Addr} {kvs:List (Key×V)}:H p=some (.dK kvs)->Kn H (.ref p) "dict"
theorem Kn.ty{K:PySem.W.Frag}(k:Kn H v n):fS K H v (.type n):=by
 cases k with
 | non=>exact .non
 | bl=>exact .bl _
 | int=>exact .int _
 | str=>exact .str _
 | lst e=>exact .lst e
 | tup e=>exact .tup e
 | dct e=>exact .dK e
theorem Kn.up(k:Kn H v n)(s:ae H a):Kn a v n:=by
 cases k with
 | non=>exact .non
 | bl=>exact .bl
 | int=>exact .int
 | str=>exact .str
 | lst e=>exact .lst (s _ _ e)
 | tup e=>exact .tup (s _ _ e)
 | dct e=>exact .dct (s _ _ e)
theorem Kn.kit{K:PySem.W.Frag}(k:Kn H v n)(a:m="str"\/m="tuple"\/m="int"\/m="bool"\/m="list"):kitOne K (.type n) (.type m)=some (n==m||(n=="bool"&&m=="int")):=by
 cases k<;> rcases a with rfl|rfl|rfl|rfl|rfl<;> rfl
structure KnD (H:Hp) (v:V):Prop where
 kn:∃n,Kn H v n
 it:∀p xs,v= .ref p->H p=some (.tup xs)->∀x∈xs,(∃n,Kn H x n)/\∀z,x= .str z->z.length<=3000
theorem KnD.up(k:KnD H v)(s:ae H b):KnD b v:=by
 obtain⟨n,a⟩:=k.kn;refine⟨⟨n,a.up s⟩,λp xs e h x c=>?_⟩;have d:H p=some (.tup xs):=by
  subst e;cases a with
  | lst q=>rw[s _ _ q]at h;cases h
  | tup q=>rw[q];exact(s _ _ q).symm.trans h
  | dct q=>rw[s _ _ q]at h;cases h
 obtain⟨⟨m,f⟩,l⟩:=k.it p xs e d x c;exact⟨⟨m,f.up s⟩,l⟩
theorem BO(h:xs.length=3):∃x y z,xs=[x,y,z]:=by
 match xs,h with
 |[x,y,z],_=>exact⟨x,y,z,rfl⟩
def sJ(v:V):Prop:=∃z,v= .str z/\cc z=true
def BP(ts:List Str)(v:V):Prop:=∃z∈ts,v= .str z
def BQ(v:V):Prop:=∃i:Int,v= .int i/\ -9999<=i/\i<=9999
def lE:Sp:=λvs H Q _=>∃(v:V) (n:String),vs=[v]/\Kn H v n/\(∀z,v= .str z->z.length<=3000)/\∀a (c:Bool),ae H a->(c=true↔sJ v)->Q (.bl c) a
def xa(K:PySem.W.Frag):Sp:=λvs H Q _=>∃(v:V) (n:String) (p:Addr) (ts:List Str),vs=[v,.ref p]/\Kn H v n/\(SqL K H p (ts.map V.str)\/SqT K H p (ts.map V.str))/\∀c:Bool,(c=true↔BP ts v)->Q (.bl c) H
def rp:Sp:=λvs H Q _=>∃(v:V) (n:String),vs=[v]/\Kn H v n/\∀c:Bool,(c=true↔BQ v)->Q (.bl c) H
def ig(c:List Str)(vs:List V):Prop:=
 (∃w a b:Str,vs=[.str w,.str a,.str b]/\(w="later"\/w="same")/\a∈c/\b∈c/\a≠b)\/
 ∃(w a:Str) (y:Int),vs=[.str w,.str a,.int y]/\(w="since"\/w="by")/\a∈c/\ -9999<=y/\y<=9999
def fO(H:Hp)(a:List Str)(v:V):Prop:=∃p xs,v= .ref p/\H p=some (.tup xs)/\ig a xs
def oo(K:PySem.W.Frag):Sp:=λvs H Q _=>∃(v:V) (p:Addr) (a:List Str),vs=[v,.ref p]/\KnD H v/\SqL K H p (a.map V.str)/\∀c:Bool,(c=true↔fO H a v)->Q (.bl c) H
noncomputable def lnS(n z:Str):Str:=Str.empty++n++Str.ofString "."++z
def lX:Sp:=λvs H Q _=>∃n z:Str,vs=[.str n,.str z]/\n.length<=100/\z.length<=100/\Q (.str (lnS n z)) H
theorem kr(z:Str)(ts:List Str):inV (V.str z) (ts.map V.str)=decide (z∈ts):=by
 unfold inV;rw[any_map]
 induction ts with
 | nil=>rfl
 | cons c r a=>
   rw[Zv,a];show((c==z)||_)=_;by_cases h:c=z
   ·subst h;simp
   ·have:z≠c:=λe=>h e.symm
    simp[h,this]
theorem mS(ts:List Str):(ts.map V.str).all eN=true:=by simp[eN]
theorem uL(T:Txt K mg):Cal P w K mg base 1 "is_name" ["thing"] lE:=by
 refine T.d_is_name.cal rb (λvs H Q E h=>?_) (λf C A outer s H vs Q E hr h=>?_)
 ·obtain⟨v,n,rfl,_⟩:=h;rfl
 ·obtain⟨v,n,rfl,l,b,k⟩:=h;refine⟨_,(QSs.h (ag (ifS (bU (bG (K:=K) rfl (λ_=>rfl) (cbO (cw (K:=K) rfl) T.b_isinstance boot_isinstance rfl (paE rfl (ad 0 rfl) (paE rfl (blE (v:= .ty "str") rfl T.b_str boot_str rfl rfl rfl) af)))))
   (ao (aM eBl))
   aI)
   (ao (aM (j3 (nH j5 j5 rfl ak (cbO (bH (K:=K) rfl) T.b_len PySem.boot_len rfl (paE rfl (ad 0 rfl) af)) (gvE T.g_LONGEST_NAME rfl rfl)) (kR (cbO (oW (K:=K) rfl rfl) T.b_all boot_all rfl (paE rfl (fG (aC.of (show ci (ah gN) ["thing"] _ ["sign"] []=true from by decide +kernel)) rfl rfl (fY (K:=K) rfl (ad 0 rfl)) (λ_ _ _=>(bb 0 (show(["sign"]:List Str).Nodup from by decide +kernel) rfl)) (λ_ _ _=>jm) (λ_ _ _=>(hZ (nJ (K:=K) rfl) rfl (ad 0 rfl) (gvE T.g_LETTERS rfl rfl)))) af)))))))),?_⟩
  show bA _ _ _ [some v] H;refine ai λD1 G I=>?_
  walk_at "rd";refine⟨_,l.ty,_,l.kit (.inl rfl),aA (λh=>?_) λh=>G _ _ ?_⟩
  ·refine I _ _ (k H false (ae.refl H) ⟨λc=>(nomatch c),λ⟨z,e,_⟩=>?_⟩);subst e;cases l;cases h
  ·cases l<;> first|exact absurd rfl h|skip
   rename_i z
   have hz:=b z rfl;have d:∀a,ae H a->cc z=false->Q (.bl false) a:=λa s e=>k a false s ⟨λc=>(nomatch c),λ⟨L,p,q⟩=>by cases p;rw[e]at q;exact q⟩
   walk_at "rd";refine⟨aH (by lia),aA (λr=>aA (λm=>?_) λm=>d H (ae.refl H) (by unfold cc;rw[eq_false_iff.mpr m,Bool.and_false];rfl)) λr=>d H (ae.refl H) (by unfold cc;rw[eq_false_iff.mpr r];rfl)⟩;have M:=Zn m;refine aR λy N=>?_
   walk_at "rd";refine N _ _ λD B=>?_
   refine bQ (J:=Its z) (n:=z.cps.size) (D:=D) (λi ys t a=>(∃o,t=[o])/\ae H a/\a D=some (.lst ys)/\ys=(z.cps.toList.take i).map (λc=>V.bl (dG c))) ⟨⟨none,rfl⟩,ae.upd B,aa,rfl⟩
    (λi _ _ _ hi _=>hi) (λ_ _ _ _=>Zh _) ?_ ?_
   ·rintro i ys t a hi ⟨⟨o,rfl⟩,u,b,g⟩ x H2 ⟨O,c,U,rfl⟩;subst O;walk_at "rd";have j:ys.length=i:=by
     rw[g,Z5,Y6];have:z.cps.toList.length=z.cps.size:=by simp
     lia
    have Y:i<1000:=by
     have:z.length=z.cps.size:=rfl
     lia
    refine CK.mk hi b (by rw[j];exact bp (by lia)) ⟨⟨_,rfl⟩,ae.set u B,aa,?_⟩;rw[kO,g,<-de z i c U,Zc]
    all_goals rfl
   ·rintro ys t a ⟨_,u,b,g⟩;refine⟨D,rfl,(z.cps.toList.map dG),?_,k a _ u ?_⟩
    ·have e:z.cps.toList.take z.cps.size=z.cps.toList:=by
      apply Zm;simp
     rw[e]at g;have:(z.cps.toList.map dG).map V.bl=ys:=by rw[g,Yb];rfl
     rw[this];exact SqL.of b
    ·have e:cc z=(z.cps.toList.map dG).all id:=by
      rw[all_map];unfold cc;rw[r,m];rfl
     rw[<-e];exact⟨λc=>⟨z,rfl,c⟩,λ⟨L,p,q⟩=>by cases p;exact q⟩
theorem ce(T:Txt K mg):Cal P w K mg base 1 "is_text_among" ["thing","texts"] (xa K):=by
 refine T.d_is_text_among.cal jx (λvs H Q E h=>?_) (λf b A outer s H vs Q E g h=>?_)
 ·obtain⟨v,n,p,ts,rfl,_⟩:=h;rfl
 ·obtain⟨v,n,p,ts,rfl,a,d,k⟩:=h;refine⟨_,(QSs.h (ao (aM (j3 (cbO (cw (K:=K) rfl) T.b_isinstance boot_isinstance rfl (paE rfl (ad 0 rfl) (paE rfl (blE (v:= .ty "str") rfl T.b_str boot_str rfl rfl rfl) af))) (kR (hZ (nJ (K:=K) rfl) rfl (ad 0 rfl) (ad 1 rfl))))))),?_⟩;show jY _ _ [some v,some (.ref p)] H;walk_at "rd";refine⟨_,a.ty,_,a.kit (.inl rfl),aA (λh=>?_) λh=>?_⟩
  ·cases a<;> first|cases h|skip
   refine⟨_,d,rfl,mS ts,k _ ?_⟩;rw[kr,decide_eq_true_iff];exact⟨λh=>⟨_,h,rfl⟩,λ⟨z,h,e⟩=>by cases e;exact h⟩
  ·refine k _ ⟨λc=>(nomatch c),λ⟨z,_,e⟩=>?_⟩;subst e;cases a;exact absurd rfl h
theorem uM(T:Txt K mg):Cal P w K mg base 1 "is_year" ["thing"] rp:=by
 refine T.d_is_year.cal re (λvs H Q E h=>?_) (λf o A outer s H vs Q E r h=>?_)
 ·obtain⟨v,n,rfl,_⟩:=h;rfl
 ·obtain⟨v,n,rfl,d,k⟩:=h;refine⟨_,(QSs.h (ag (ifS (wT (orW (bU (bG (K:=K) rfl (λ_=>rfl) (cbO (cw (K:=K) rfl) T.b_isinstance boot_isinstance rfl (paE rfl (ad 0 rfl) (paE rfl (blE (v:= .ty "int") rfl T.b_int boot_int rfl rfl rfl) af))))) (dI (bG (K:=K) rfl (λ_=>rfl) (cbO (cw (K:=K) rfl) T.b_isinstance boot_isinstance rfl (paE rfl (ad 0 rfl) (paE rfl (blE (v:= .ty "bool") rfl T.b_bool boot_bool rfl rfl rfl) af)))))))
   (ao (aM eBl))
   aI)
   (ao (aM (nH j5 j5 rfl (gvE T.g_FIRST_YEAR rfl rfl) (ad 0 rfl) (gvE T.g_LAST_YEAR rfl rfl)))))),?_⟩
  show bA _ _ _ [some v] H;refine ai λt p l=>?_
  have m:(∀i,v≠ .int i)->Q (.bl false) H:=λh=>k false ⟨λc=>(nomatch c),λ⟨i,e,_⟩=>absurd e (h i)⟩
  walk_at "rd";refine⟨_,d.ty,_,d.kit (.inr (.inr (.inl rfl))),aA (λh=>l _ _ (m λi e=>?_)) λh=>⟨_,d.ty,_,d.kit (.inr (.inr (.inr (.inl rfl)))),aA (λg=>l _ _ (m λi e=>?_)) λg=>p _ _ ?_⟩⟩
  ·subst e;cases d;cases h
  ·subst e;cases d;cases g
  ·cases d<;> first|exact absurd rfl h|exact absurd rfl g|skip
   rename_i i
   walk_at "rd";refine aA (λa=>k _ ⟨λb=>⟨i,rfl,Zn a,Zn b⟩,λ⟨j,e,_,q⟩=>by cases e;exact Ze q⟩) λa=>k _ ⟨λc=>(nomatch c),λ⟨j,e,q,_⟩=>by cases e;exact absurd (Ze q) a⟩
theorem fB(T:Txt K mg):Cal P w K mg base 1 "layer_name" ["name","letter"] lX:=by
 refine T.d_layer_name.cal lS (λvs H Q E h=>?_) (λf d A outer s H vs Q E j h=>?_)
 ·obtain⟨n,z,rfl,_⟩:=h;rfl
 ·obtain⟨n,z,rfl,l,m,k⟩:=h;refine⟨_,(QSs.h (ao (aM (sA (pjE (wA (ad 0 rfl)) (pjE ax (pjE (wA (ad 1 rfl)) sw))))))),?_⟩;show jY _ _ [some (.str n),some (.str z)] H;walk_at "rd";have e:∀a b:Str,(a++b).length=a.length+b.length:=λa b=>size_append
  have g:Str.empty.length=0:=rfl;have i:(Str.ofString ".").length=1:=rfl;have c:∀k:Nat,k<=1000->k<=sizeLine:=λk o=>aH (by lia)
  refine⟨c _ (by lia),c _ ?_,c _ ?_,c _ (by lia),c _ ?_,c _ ?_,k⟩<;> simp only[e,g,i]<;> lia
theorem pY(T:Txt K mg):Cal P w K mg base 2 "is_saying" ["thing","layers"] (oo K):=by
 refine T.d_is_saying.cal oh (λvs H Q E h=>?_) (λf an A outer s H vs Q E G h=>?_)
 ·obtain⟨v,p,r,rfl,_⟩:=h;rfl
 ·obtain⟨v,p,r,rfl,kd,O,k⟩:=h;obtain⟨n,L⟩:=kd.kn;refine⟨_,(QSs.h (ag (ifS (wT (orW (bU (bG (K:=K) rfl (λ_=>rfl) (cbO (cw (K:=K) rfl) T.b_isinstance boot_isinstance rfl (paE rfl (ad 0 rfl) (paE rfl (blE (v:= .ty "tuple") rfl T.b_tuple boot_tuple rfl rfl rfl) af))))) (dI (bF cW rfl (cbO (bH (K:=K) rfl) T.b_len PySem.boot_len rfl (paE rfl (ad 0 rfl) af)) ak))))
   (ao (aM eBl))
   aI)
   (ag (ifS (bG (K:=K) rfl (λ_=>rfl) (aZ (ce T) G rfl (paE rfl (cL (K:=K) rfl (λ_ _=>rfl) (ad 0 rfl) ak) (paE rfl (BB (K:=K) rfl T.t_LAYER_WORDS rfl rfl) af))))
   (ao (aM (j3 (aZ (ce T) G rfl (paE rfl (cL (K:=K) rfl (λ_ _=>rfl) (ad 0 rfl) ak) (paE rfl (ad 1 rfl) af))) (j3 (aZ (ce T) G rfl (paE rfl (cL (K:=K) rfl (λ_ _=>rfl) (ad 0 rfl) ak) (paE rfl (ad 1 rfl) af))) (kR (hZ cW rfl (cL (K:=K) rfl (λ_ _=>rfl) (ad 0 rfl) ak) (cL (K:=K) rfl (λ_ _=>rfl) (ad 0 rfl) ak)))))))
   aI)
   (ag (ifS (bG (K:=K) rfl (λ_=>rfl) (aZ (ce T) G rfl (paE rfl (cL (K:=K) rfl (λ_ _=>rfl) (ad 0 rfl) ak) (paE rfl (BB (K:=K) rfl T.t_YEAR_WORDS rfl rfl) af))))
   (ao (aM (j3 (aZ (ce T) G rfl (paE rfl (cL (K:=K) rfl (λ_ _=>rfl) (ad 0 rfl) ak) (paE rfl (ad 1 rfl) af))) (kR (aZ (uM T) G rfl (paE rfl (cL (K:=K) rfl (λ_ _=>rfl) (ad 0 rfl) ak) af))))))
   aI)
   (ao (aM eBl)))))),?_⟩
  show bA _ _ _ [some v,some (.ref p)] H;have t: ¬ fO H r v->Q (.bl false) H:=λh=>k false ⟨λc=>(nomatch c),λc=>absurd c h⟩
  refine ai λD1 k1 r1=>?_
  walk_at "rd";refine⟨_,L.ty,_,L.kit (.inr (.inl rfl)),aA (λh=>r1 _ _ (t λ⟨q,xs,e,m,_⟩=>?_)) λh=>?_⟩
  ·subst e;cases L with
   | lst a=>rw[a]at m;cases m
   | tup a=>cases h
   | dct a=>rw[a]at m;cases m
  ·cases L<;> first|exact absurd rfl h|skip
   rename_i q xs m
   have st:=SqT.of (K:=K) m;refine⟨xs.length,.inr ⟨_,st,rfl⟩,aA (λI=>r1 _ _ (t λ⟨q',ys,e,g,U⟩=>?_)) λI=>?_⟩
   ·cases e;rw[m]at g;cases g;rcases U with⟨_,_,_,rfl,_⟩|⟨_,_,_,rfl,_⟩<;> simp at I
   ·have I:xs.length=3:=by
     have:(xs.length:Int)=3:=by simpa using I
     lia
    obtain⟨x,y,z,rfl⟩:=BO I;have it:=kd.it q _ rfl m;obtain⟨⟨n1,kx⟩,_⟩:=it x (by simp);obtain⟨⟨n2,ky⟩,_⟩:=it y (by simp);obtain⟨⟨n3,kz⟩,_⟩:=it z (by simp);have sv:fO H r (.ref q)↔ig r [x,y,z]:=⟨λ⟨q',ys,e,g,U⟩=>by cases e;rw[m]at g;cases g;exact U,λh=>⟨q,_,rfl,m,h⟩⟩
    rw[sv]at k t;refine k1 _ _ (ai λD2 k2 Y=>?_);walk_at "rd";refine⟨_,st,_,rfl,λt1 ab=>⟨x,n1,t1,[Str.ofString "later",Str.ofString "same"],rfl,kx,.inr (ab H),λc1 u=>⟨c1,rfl,aA (λM=>?_) λM=>k2 _ _ (ai λD3 k3 r3=>?_)⟩⟩⟩
    ·obtain⟨wd,hw,rfl⟩:=u.mp M;have hw:wd="later"\/wd="same":=by simpa using hw
     have J:∀{d:Str},d="since"\/d="by"->wd≠d:=λ{d} h e=>by
      subst e;rcases h with rfl|rfl<;> rcases hw with q|q<;> exact absurd q (by decide +kernel)
     refine⟨_,st,_,rfl,y,n2,p,r,rfl,ky,.inl O,λc2 j=>⟨c2,rfl,aA (λB=>⟨_,st,_,rfl,z,n3,p,r,rfl,kz,.inl O,λc3 l=>⟨c3,rfl,aA (λC=>?_) λC=>Y _ _ (t ?_)⟩⟩) λB=>Y _ _ (t ?_)⟩⟩
     ·obtain⟨a,D,rfl⟩:=j.mp B;obtain⟨b,hb,rfl⟩:=l.mp C;refine⟨_,st,_,rfl,_,st,_,rfl,rfl,Y _ _ (k _ ⟨λh=> .inl ⟨wd,a,b,rfl,hw,D,hb,by simpa using h⟩,?_⟩)⟩;rintro(⟨d,o,N,e,_,_,_,ne⟩|⟨d,o,i,e,_⟩)<;> cases e
      simpa using ne
     ·rintro(⟨d,o,N,e,_,_,hb,_⟩|⟨d,o,i,e,h,_⟩)<;> cases e
      ·exact C (l.mpr ⟨_,hb,rfl⟩)
      ·exact J h rfl
     ·rintro(⟨d,o,N,e,_,D,_⟩|⟨d,o,i,e,h,_⟩)<;> cases e
      ·exact B (j.mpr ⟨_,D,rfl⟩)
      ·exact J h rfl
    ·walk_at "rd";refine⟨_,st,_,rfl,λt2 ac=>⟨x,n1,t2,[Str.ofString "since",Str.ofString "by"],rfl,kx,.inr (ac H),λc2 j=>⟨c2,rfl,aA (λB=>?_) λB=>k3 _ _ ?_⟩⟩⟩
     ·obtain⟨wd,hw,rfl⟩:=j.mp B;have hw:wd="since"\/wd="by":=by simpa using hw
      have J:∀{d:Str},d="later"\/d="same"->wd≠d:=λ{d} h e=>M (u.mpr ⟨d,by simpa using h,by rw[e]⟩)
      refine⟨_,st,_,rfl,y,n2,p,r,rfl,ky,.inl O,λc3 l=>⟨c3,rfl,aA (λC=>⟨_,st,_,rfl,z,n3,rfl,kz,λc4 al=>r3 _ _ (k c4 ?_)⟩) λC=>r3 _ _ (t ?_)⟩⟩
      ·obtain⟨a,D,rfl⟩:=l.mp C;rw[al]
       constructor
       ·rintro⟨i,rfl,h1,h2⟩;exact .inr ⟨wd,a,i,rfl,hw,D,h1,h2⟩
       ·rintro(⟨d,o,N,e,h,_⟩|⟨d,o,i,e,_,_,h⟩)<;> cases e
        ·exact absurd rfl (J h)
        ·exact⟨i,rfl,h⟩
      ·rintro(⟨d,o,N,e,h,_⟩|⟨d,o,i,e,_,D,_⟩)<;> cases e
       ·exact J h rfl
       ·exact C (l.mpr ⟨_,D,rfl⟩)
     ·walk_at "rd";refine t ?_;rintro(⟨d,a,b,e,hw,_⟩|⟨d,a,i,e,hw,_⟩)<;> cases e
      ·exact M (u.mpr ⟨d,by rcases hw with rfl|rfl<;> simp,rfl⟩)
      ·exact B (j.mpr ⟨d,by rcases hw with rfl|rfl<;> simp,rfl⟩)
def pZ(C:Addr):Sp:=λvs H Q _=>∃(a:Addr) (n:Int),vs=[.ref a,.int n]/\n.natAbs<2^64/\H a=some (ExO a C none)/\∀d,H d=none->d≠a->Q .non (upd (upd H a (ExO a C (some d))) d (.xd [("row",.int n)]))
def oq(rows:List Str)(n:Nat):Prop:=(n<rows.length/\bO rows n/\jT rows n)\/(n=0/\bO rows rows.length/\qL rows)
def AS(K:PySem.W.Frag)(H:Hp)(v:V):Prop:=∃t,fS K H v t/\kitOne K t (.type "str")=some false
def AT(K:PySem.W.Frag)(H:Hp)(v:V)(n:Nat):Prop:=(∃rows,v= .str (Str.join nl rows)/\cZ rows 50/\oq rows n)\/(n=0/\AS K H v)
def yI(K:PySem.W.Frag)(C:Addr):Sp:=λvs H _ E=>∃(v:V) (n:Nat),vs=[v]/\AT K H v n/\∀d a,ae H a->H d=none->a d=some (.xd [("row",.int n)])->E (.ref C) (some d) a
def zj(K:PySem.W.Frag):Sp:=λvs H Q _=>∃(v:V) (n:Nat),vs=[v,.int 0]/\AT K H v n/\∀a,ae H a->Q (.int n) a
def sK(C:Addr):Sp:=λvs H Q _=>∃(a:Addr) (z:Str) (v:V),vs=[.ref a,.str z,v]/\z.length<=100/\(v= .non\/∃n:Nat,v= .int n/\n<=1000)/\H a=some (ExO a C none)/\∀d,H d=none->d≠a->Q .non (upd (upd H a (ExO a C (some d))) d (.xd [("number",v),("part",.str z)]))
theorem C_NoCut(T:Txt K mg):ym P w K mg base 1 "NoCut" ["self","row"] (pZ (aq mg "NoCut")):=by
 refine T.x_NoCut.cal lV (λvs H Q E h=>?_) (λf i A outer s H vs Q E j m h=>?_)
 ·obtain⟨a,n,rfl,_⟩:=h;rfl
 ·obtain⟨a,n,rfl,c,g,q⟩:=h;refine⟨_,(QSs.h (ag (cM rfl (wC (C:=aq mg "NoCut") j rfl T.c_DigError T.i_DigError rfl rfl ⟨_,rfl⟩ (paE rfl (ad 0 rfl) (paE rfl (sA (pjE ax (pjE (wA (ad 1 rfl)) (pjE ax sw)))) af))))
   (ao (Bx (C:=aq mg "NoCut") T.f_NoCut_row rfl (ad 0 rfl) (ad 1 rfl))))),?_⟩
  show bA _ _ _ [some (.ref a),some (.int n)] H;walk_at "rd";have o:(Str.ofString (toString n)).length<=21:=by
   have e:=PySem.int_text_length_le10 (a:=n) (k:=20) (by decide) (Zf c (by decide));rw[PySem.ofString_length];lia
  have l1:(Str.empty++Str.ofString "no cut: row ").length=12:=by decide +kernel
  have p:(Str.ofString " is not so").length=10:=by decide +kernel
  refine⟨?_,c,?_,?_,?_,by simp,⟨_,g⟩,?_⟩
  ·rw[PySem.sizeLine_eq];lia
  ·rw[strLen_append,PySem.sizeLine_eq];lia
  ·rw[strLen_append,strLen_append,PySem.sizeLine_eq];lia
  ·rw[strLen_append,strLen_append,PySem.sizeLine_eq];lia
  ·exact⟨a,rfl,g,λd l b=>q d l b⟩
theorem ap(T:Txt K mg):ym P w K mg base 1 "NoGround" ["self","part","number"] (sK (aq mg "NoGround")):=by
 refine T.x_NoGround.cal jD (λvs H Q E h=>?_) (λf i A outer s H vs Q E j p h=>?_)
 ·obtain⟨a,z,v,rfl,_⟩:=h;rfl
 ·obtain⟨a,z,v,rfl,r,l,c,q⟩:=h;refine⟨_,(QSs.h (ag (cM rfl (wC (C:=aq mg "NoGround") j rfl T.c_DigError T.i_DigError rfl rfl ⟨_,rfl⟩ (paE rfl (ad 0 rfl) (paE rfl (sA (pjE ax (pjE (wA (ad 1 rfl)) (pjE ax (pjE (BC (ad 2 rfl)) sw))))) af))))
   (ag (BD (C:=aq mg "NoGround") T.f_NoGround_part rfl (ad 0 rfl) (ad 1 rfl)) (ao (BE (C:=aq mg "NoGround") T.f_NoGround_number rfl (ad 0 rfl) (ad 2 rfl)))))),?_⟩
  show bA _ _ _ [some (.ref a),some (.str z),some v] H;walk_at "rd";have l1:(Str.empty++Str.ofString "no ground: ").length=11:=by decide +kernel
  have t:(Str.ofString ", number ").length=9:=by decide +kernel
  refine⟨by rw[PySem.sizeLine_eq];lia,by rw[PySem.sizeLine_eq];lia,by rw[strLen_append,PySem.sizeLine_eq];lia,by rw[strLen_append,strLen_append,PySem.sizeLine_eq];lia,?_⟩;have last:wR K (aq mg "NoGround") (gZ 0) (gZ 1) "part" {nx:=wS K (aq mg "NoGround") (gZ 0) (gZ 2) "number" {nx:=λx m=>Q V.non m,rt:=Q},rt:=Q} [some (.ref a),some (.str z),some v] H:=
   ⟨a,rfl,c,λd o b=>⟨a,d,_,_,rfl,by rw[aj (Ne.symm b),aa],aa,by rw[m7];exact q d o b⟩⟩
  obtain rfl|⟨n,rfl,g⟩:=l
  ·have l3:(Str.ofString "None").length=4:=by decide +kernel
   refine .inl ⟨rfl,?_,?_,by simp,⟨_,c⟩,last⟩<;>
   ·rw[strLen_append,strLen_append,strLen_append,PySem.sizeLine_eq];lia
  ·have u:(Str.ofString (toString (n:Int))).length<=21:=by
    have e:=PySem.int_text_length_le10 (a:=(n:Int)) (k:=20) (by decide) (Nat.lt_of_le_of_lt g (by decide));rw[PySem.ofString_length];lia
   refine .inr ⟨n,rfl,Nat.lt_of_le_of_lt g (by decide),?_,?_,by simp,⟨_,c⟩,last⟩<;>
   ·rw[strLen_append,strLen_append,strLen_append,PySem.sizeLine_eq];lia
theorem gP{c:Bool}{A B:Prop}(a:c=true)(h:A):if c=true then A else B:=by
 rw[if_pos a];exact h
theorem dq{C:Addr}{n:Int}{H f:Hp}{l:St}{D:d9}{t:TA}{E:XK}(g:ae H f)(p:n.natAbs<2^64)(q:∀Q:List V->Hp->Prop,Q [.int n] f->t l f Q)
 (k:∀d i,ae H i->H d=none->i d=some (.xd [("row",.int n)])->E (.ref C) (some d) i):
 lg C (nU C (pZ C) t) (λa m=>∃d,m a=some (ExO a C (some d))/\H a=none/\E (.ref C) (some d) (drop m a)) D l f:=by
 refine q _ ⟨by simp,λx o=>⟨x,n,rfl,p,aa,λd h c=>⟨rfl,x,d,rfl,?_,d,?_,g.free o,k d _ (λb u e=>?_) (g.free ?_) ?_⟩⟩⟩
 ·rw[aj c.symm,aa]
 ·rw[aj c.symm,aa]
 ·have nx:b≠x:=am (g _ _ e) o;have j:f d=none:=by rw[aj c]at h;exact h
  rw[ck nx,aj (am (g _ _ e) j),m7,aj nx];exact g _ _ e
 ·rw[aj c]at h;exact h
 ·rw[ck c,aa]
theorem xc(h:oq rows n)(hi:i<rows.length)(f:bO rows i)(b:jT rows i):n=i:=by
 rcases h with⟨_,fn,a⟩|⟨_,c,_⟩
 ·rcases Nat.lt_trichotomy n i with q|q|q
  ·exact absurd a (f n q)
  ·exact q
  ·exact absurd b (fn i q)
 ·exact absurd b (c i hi)
theorem eV(T:Txt K mg):t7 P w K mg base 3 "rows_of" ["text"] (yI K (aq mg "NoCut")):=by
 obtain⟨_,_,a,_⟩:=T.x_NoCut.ini;refine T.d_rows_of.calX cC (λvs H Q E h=>?_) (λf a5 A outer s H vs Q E D h=>?_)
 ·obtain⟨v,n,rfl,_⟩:=h;rfl
 ·obtain⟨v,n,rfl,hv,kk⟩:=h;refine⟨_,(QSs.h (ag (ifS (bU (bG (K:=K) rfl (λ_=>rfl) (cbO (cw (K:=K) rfl) T.b_isinstance boot_isinstance rfl (paE rfl (ad 0 rfl) (paE rfl (blE (v:= .ty "str") rfl T.b_str boot_str rfl rfl rfl) af)))))
   (ao (gi a.ex (fe (C_NoCut T) D rfl rfl rfl rfl (paE rfl ak af))))
   aI)
   (ag (aV 1 cC.nd rfl (bmO plainAttrs_str slot_str_split type_str_split nN rfl (ad 0 rfl) (paE rfl ax af)))
   (ag (ef PassesOwn.leaving rfl rfl (oY (K:=K) rfl rfl T.b_enumerate rfl (paE rfl (ad 1 rfl) af)) (fN (K:=K) rfl rfl rfl (gsE rfl (bb 2 cC.nd rfl) (gsE rfl (bb 3 cC.nd rfl) cU)))
   (ag (ifS (wT (orW (bF cV rfl (ad 2 rfl) (gvE T.g_MOST_ROWS rfl rfl)) (dI (bU (bG (K:=K) rfl (λ_=>rfl) (aZ (pU T) D rfl (paE rfl (ad 3 rfl) af)))))))
    (ao (gi a.ex (fe (C_NoCut T) D rfl rfl rfl rfl (paE rfl (ad 2 rfl) af))))
    aI)
    (ao (ifS (wT (kS (bF tJ rfl (ad 2 rfl) ak) (jR (bU (bG (K:=K) rfl (λ_=>rfl) (aZ (gw T) D rfl (paE rfl (ad 3 rfl) (paE rfl (cm (K:=K) rfl (λ_ _=>rfl) (ad 1 rfl) (opE mD (ad 2 rfl) ak)) af))))))))
    (ao (gi a.ex (fe (C_NoCut T) D rfl rfl rfl rfl (paE rfl (ad 2 rfl) af))))
    aI))))
   (ag (ifS (bF cV rfl (cbO (bH (K:=K) rfl) T.b_len PySem.boot_len rfl (paE rfl (aZ (fA T) D rfl (paE rfl (ad 1 rfl) af)) af)) ak)
   (ao (gi a.ex (fe (C_NoCut T) D rfl rfl rfl rfl (paE rfl ak af))))
   aI)
   (ao (aM (ad 1 rfl)))))))),?_⟩
  show bA _ _ _ [some v,none,none,none] H;rcases hv with⟨rows,rfl,ok,hb⟩|⟨rfl,t,ht,a0⟩
  ·have a1:=ok.text (by decide);have Y:=ok.split;have a6:=ok.high
   generalize Str.join nl rows=z at a1 Y
   refine ai λD1 k1 _=>?_
   walk_at "rd";refine⟨.type "str",.str z,true,by rfl,io (k1 _ _ (ai λD2 k2 _=>?_))⟩;walk_at "rd";refine⟨by decide,Y2 (by lia:z.length+2<=5000) (by decide),λl hl=>k2 _ _ ?_⟩;rw[show(Str.ofString "\n")=nl from rfl,Y];refine ai λD3 k3 _=>aF λa4 hK=>?_
   walk_at "rd";have a2:ae H (upd H l (.lst (rows.map V.str))):=ae.upd hl;refine⟨_,SqL.of aa,hK _ _ (gf (λi σ G=>bO rows i/\∃o2 o3,σ=[some (.str z),some (.ref l),o2,o3]/\ae H G/\G l=some (.lst (rows.map V.str))) ⟨bO.zero _,none,none,rfl,a2,aa⟩ (λi σ G _ ⟨_,_,_,_,_,q⟩=>SqL.of q) ?_ ?_)⟩
   ·rintro i x TT σ G hx ⟨c,o2,o3,rfl,sm,J⟩ hT;obtain⟨r,j,rfl⟩:∃r,rows[i]? =some r/\x=V.str r:=by
     rw[Zk]at hx;cases e:rows[i]? with
     | none=>rw[e]at hx;cases hx
     | some r=>rw[e]at hx;exact⟨r,rfl,(Z9 hx).symm⟩
    have ab:i<rows.length:=(Ys j).1;have m:ae H (upd G TT (.tup [.int i,.str r])):=sm.trans (ae.upd hT);have L:upd G TT (.tup [.int i,.str r]) l=some (.lst (rows.map V.str)):=ae.upd hT _ _ J;have ac:upd G TT (.tup [.int i,.str r]) TT=some (.tup [.int i,.str r]):=aa
    generalize upd G TT (.tup [.int i,.str r])=HT at m L ac
    have al:r.length<=1000:=Y2 (ok.wide r (Z7 j)) (by decide);have M:jT rows i->∀d C,ae H C->H d=none->C d=some (.xd [("row",.int (i:Int))])->E (.ref (aq mg "NoCut")) (some d) C:=λb=>by
     rw[<-xc hb ab c b];exact kk
    refine⟨_,SqT.of ac,rfl,_,_,rfl,_,_,rfl,rfl,?_⟩;show bA _ _ _ [some (.str z),some (.ref l),some (.int i),some (.str r)] HT;refine ai λD4 k4 _=>?_
    have go:i≠40->h9 r=true->∀C,ae HT C->D4.nx [some (.str z),some (.ref l),some (.int i),some (.str r)] C:=by
     intro an o C g;refine k4 _ _ (aU λD5 k5 _=>?_);have as: ¬ jT rows i->∀H3,ae HT H3->D5.nx [some (.str z),some (.ref l),some (.int i),some (.str r)] H3:=λnb H3 p=>k5 _ _ ⟨c.step nb,_,_,rfl,m.trans p,p l _ L⟩
     walk_at "rd";refine aA (λI=>?_) λI=>as ?_ _ g
     ·have I:0<(i:Int):=Zn I;obtain⟨y,rfl⟩:∃y,i=y+1:=⟨i-1,by lia⟩
      have N:y<rows.length:=by lia
      have au:rows[y]? =some rows[y]:=by simp[N]
      have e1:(((y+1:Nat):Int) -1)=(y:Int):=by lia
      refine⟨_,SqL.of (g l _ L),.str rows[y],by rw[e1];exact bV (by simp[N]),r,rows[y],rfl,al,Y2 (ok.wide _ (Y0 N)) (by decide),λH3 p=>⟨_,rfl,?_⟩⟩;cases av:bT r rows[y]with
      | true=>exact io (as (by
       rintro⟨r2,O,q|q|⟨u,_,hu,q⟩⟩
       ·exact an q
       ·rw[j]at O;cases O;rw[o]at q;cases q
       ·rw[j]at O;cases O;rw[Nat.add_sub_cancel,au]at hu;cases hu;rw[av]at q;cases q) _ (g.trans p))
      | false=>
        refine gP rfl (dq ((m.trans g).trans p) (by lia) (λQ q=>?_) (M ⟨r,j,.inr (.inr ⟨rows[y],by lia,by rw[Nat.add_sub_cancel];exact au,av⟩)⟩));walk_at "rd";exact q
     ·have I: ¬ 0<(i:Int):=λq=>I (Ze q)
      rintro⟨r2,O,q|q|⟨u,h0,_,q⟩⟩
      ·exact an q
      ·rw[j]at O;cases O;rw[o]at q;cases q
      ·lia
    walk_at "rd";refine aA (λB=>?_) λB=>?_
    ·have B:(i:Int)=40:=by simpa using B
     refine dq m (by lia) (λQ q=>?_) (M ⟨r,j,.inl (by lia)⟩);walk_at "rd";exact q
    ·have B: ¬ (i:Int)=40:=by simpa using B
     refine⟨r,rfl,al,λC g=>⟨_,rfl,?_⟩⟩;cases o:h9 r with
     | true=>exact io (go (by lia) o C g)
     | false=>
       refine gP rfl (dq (m.trans g) (by lia) (λQ q=>?_) (M ⟨r,j,.inr (.inl o)⟩));walk_at "rd";exact q
   ·rintro σ G ⟨c,o2,o3,rfl,sm,J⟩;rw[Z5]at c;have U:n=0/\qL rows:=by
     rcases hb with⟨hn,_,bn⟩|⟨h0,_,ha⟩
     ·exact absurd bn (c n hn)
     ·exact⟨h0,ha⟩
    obtain⟨rfl,U⟩:=U;refine k3 _ _ ?_;refine ai λD4 k4 _=>?_
    walk_at "rd";refine⟨l,rows,rfl,SqL.of J,Y2 (ok.sum (by decide)) (by decide),λr D=>?_,λl2 C ss g a7 a3 I a8=>⟨_,.inl ⟨_,SqL.of a3,rfl⟩,?_⟩⟩
    ·obtain⟨k,hk⟩:=Yo D;exact(kZ.mp (c.row (Ys hk).1 hk).2.1).2.2
    ·rw[tV U]at I;have:ss=[]:=I.eq_nil;subst this;refine gP rfl (dq (sm.trans g) (by decide) (λQ q=>?_) kk);walk_at "rd";exact q
  ·refine ai λD1 k1 _=>?_
   walk_at "rd";refine⟨t,ht,false,a0,gP rfl (dq (ae.refl H) (by decide) (λQ q=>?_) kk)⟩;walk_at "rd";exact q
theorem xf(a:rows≠[])(h: ¬ aP rows):∃n,oq rows n:=by
 have d:∀k,k<=rows.length->bO rows k\/∃n,n<rows.length/\bO rows n/\jT rows n:=by
  intro k
  induction k with
  | zero=>exact λ_=> .inl (bO.zero _)
  | succ k g=>
    intro l;rcases g (by lia)with f|f
    ·by_cases b:jT rows k
     ·exact .inr ⟨k,by lia,f,b⟩
     ·exact .inl (f.step b)
    ·exact .inr f
 rcases d _ (Zh _)with f|⟨n,f⟩
 ·refine⟨0,.inr ⟨rfl,f,λr i c j=>?_⟩⟩;by_cases e:c=46
  ·exact e
  ·exact absurd (we f a ⟨r,i,c,j,e⟩) h
 ·exact⟨n,.inl f⟩
def uN(v:V):Prop:=∃rows,v= .str (Str.join nl rows)/\aP rows
def ot(v:V):Prop:=∀z,v= .str z->∃rows,z=Str.join nl rows/\cZ rows 50
theorem ot.ref{K:PySem.W.Frag}(a:Kn H v m)(t:ot v)(h: ¬ uN v):∃n,AT K H v n:=by
 by_cases e:∃z,v= .str z
 ·obtain⟨z,rfl⟩:=e;obtain⟨rows,rfl,ok⟩:=t z rfl;obtain⟨n,b⟩:=xf ok.pos λc=>h ⟨rows,rfl,c⟩
  exact⟨n,.inl ⟨rows,rfl,ok,b⟩⟩
 ·refine⟨0,.inr ⟨rfl,.type m,a.ty,?_⟩⟩;rw[a.kit (.inl rfl)];cases a<;> first|rfl|exact absurd ⟨_,rfl⟩ e
def mT:Sp:=λvs H Q _=>∃(v:V) (n:String),vs=[v]/\Kn H v n/\ot v/\∀a (c:Bool),ae H a->(c=true↔uN v)->Q (.bl c) a
theorem xg(T:Txt K mg):Cal P w K mg base 4 "is_cut" ["thing"] mT:=by
 refine T.d_is_cut.cal uz (λvs H Q E h=>?_) (λf t A outer s H vs Q E p h=>?_)
 ·obtain⟨v,n,rfl,_⟩:=h;rfl
 ·obtain⟨v,n,rfl,x,y,q⟩:=h;by_cases i:uN v
  ·have eV:=(jE (P:=P) (w:=w) (base:=base) T).up
   let j:XK:=λ_ _ _=>False
   refine⟨_,(QSs.h (ag (BF j rfl rfl rfl T.c_NoCut T.t_NoCut rfl (λ_=>
   (ao (cM rfl (sr (lh λ_ _ _ h=>h) eV p rfl rfl rfl rfl (paE rfl (ad 0 rfl) af)))))
   (λ_=>(ao (aM eBl))))
   (ao (aM eBl)))),?_⟩
   show bA _ _ _ [some v] H;refine ai λz r _=>?_
   refine⟨?_,λ_ _ _ h=>h.elim⟩;walk_at "rd";obtain⟨rows,rfl,g⟩:=i;refine⟨rows,rfl,g,λl J B L M=>?_⟩;refine r _ _ ?_;walk_at "rd";exact q _ true B ⟨λ_=>⟨rows,rfl,g⟩,λ_=>rfl⟩
  ·have eV:=eV (P:=P) (w:=w) (base:=base) T
   let j:XK:=λc d k=>c= .ref (aq mg "NoCut")/\ae H k
   refine⟨_,(QSs.h (ag (BF j rfl rfl rfl T.c_NoCut T.t_NoCut rfl (λ_=>
   (ao (cM rfl (sr (lh λ_ _ _ h=>h) eV p rfl rfl rfl rfl (paE rfl (ad 0 rfl) af)))))
   (λ_=>(ao (aM eBl))))
   (ao (aM eBl)))),?_⟩
   show bA _ _ _ [some v] H;refine ai λz r C=>?_
   obtain⟨m,D⟩:=y.ref (K:=K) x i;refine⟨?_,?_⟩
   ·walk_at "rd";exact⟨v,m,rfl,D,λd k o N O=>⟨rfl,o⟩⟩
   ·rintro c d k ⟨rfl,o⟩;refine⟨_,rfl,T.u_NoCut_NoCut,λa G U I=>?_⟩;walk_at "rd";exact C _ _ (q _ false (o.trans λb u e=>by rw[aj (am e I)];exact e) ⟨λh=>(nomatch h),λh=>absurd h i⟩)
def yJ(xs:List V):Prop:=∃z rows,xs=[.str z,.str (Str.join nl rows)]/\cc z=true/\aP rows
def cH(H:Hp)(v:V):Prop:=∃p xs,v= .ref p/\H p=some (.tup xs)/\yJ xs
structure KnC (H:Hp) (v:V):Prop where
 kd:KnD H v
 tx:∀p xs,v= .ref p->H p=some (.tup xs)->∀x∈xs,ot x
theorem KnC.up(k:KnC H v)(s:ae H a):KnC a v:=by
 refine⟨k.kd.up s,λp xs e h=>k.tx p xs e ?_⟩;obtain⟨n,b⟩:=k.kd.kn;subst e;cases b with
 | lst q=>rw[s _ _ q]at h;cases h
 | tup q=>rw[q];exact(s _ _ q).symm.trans h
 | dct q=>rw[s _ _ q]at h;cases h
theorem xh(h:xs.length=2):∃x y,xs=[x,y]:=by
 match xs,h with
 |[x,y],_=>exact⟨x,y,rfl⟩
def xi:Sp:=λvs H Q _=>∃v:V,vs=[v]/\KnC H v/\∀a (c:Bool),ae H a->(c=true↔cH H v)->Q (.bl c) a
theorem lF(T:Txt K mg):Cal P w K mg base 5 "is_named_cut" ["thing"] xi:=by
 refine T.d_is_named_cut.cal kb (λvs H Q E h=>?_) (λf C A outer s H vs Q E B h=>?_)
 ·obtain⟨v,rfl,_⟩:=h;rfl
 ·obtain⟨v,rfl,kc,k⟩:=h;obtain⟨n,l⟩:=kc.kd.kn;refine⟨_,(QSs.h (ao (aM (j3 (cbO (cw (K:=K) rfl) T.b_isinstance boot_isinstance rfl (paE rfl (ad 0 rfl) (paE rfl (blE (v:= .ty "tuple") rfl T.b_tuple boot_tuple rfl rfl rfl) af))) (j3 (hZ cV rfl (cbO (bH (K:=K) rfl) T.b_len PySem.boot_len rfl (paE rfl (ad 0 rfl) af)) ak) (j3 (aZ (uL T) B rfl (paE rfl (cL (K:=K) rfl (λ_ _=>rfl) (ad 0 rfl) ak) af)) (kR (aZ (xg T) B rfl (paE rfl (cL (K:=K) rfl (λ_ _=>rfl) (ad 0 rfl) ak) af))))))))),?_⟩;show jY _ _ [some v] H;have m:∀o,ae H o-> ¬ cH H v->Q (.bl false) o:=λo s h=>k o false s ⟨λc=>(nomatch c),λc=>absurd c h⟩
  walk_at "rd";refine⟨_,l.ty,_,l.kit (.inr (.inl rfl)),aA (λh=>?_) λh=>m H (ae.refl H) λ⟨q,xs,e,d,_⟩=>?_⟩
  ·cases l<;> first|exact absurd h (by decide)|skip
   rename_i q xs d
   have st:=SqT.of (K:=K) d;refine⟨xs.length,.inr ⟨_,st,rfl⟩,aA (λi=>?_) λi=>m H (ae.refl H) λ⟨D,ys,e,g,G⟩=>?_⟩
   ·have i:xs.length=2:=by
     have:(xs.length:Int)=2:=by simpa using i
     lia
    obtain⟨x,y,rfl⟩:=xh i;obtain⟨⟨I,J⟩,L⟩:=kc.kd.it q _ rfl d x (by simp);obtain⟨⟨M,ky⟩,_⟩:=kc.kd.it q _ rfl d y (by simp);have N:cH H (.ref q)↔sJ x/\uN y:=⟨λ⟨D,ys,e,g,z,rows,r,a,b⟩=>by cases e;rw[d]at g;cases g;cases r;exact⟨⟨z,rfl,a⟩,rows,rfl,b⟩,
     λ⟨⟨z,O,a⟩,rows,r,b⟩=>by subst O r;exact⟨q,_,rfl,d,z,rows,rfl,a,b⟩⟩
    rw[N]at k m;refine⟨_,rfl,_,st,_,rfl,x,I,rfl,J,L,λH1 c1 p j=>?_⟩;walk_at "rd";refine aA (λt=>⟨_,SqT.of (p _ _ d),y,rfl,y,M,rfl,ky.up p,kc.tx q _ rfl d y (by simp),λU Y s2 u=>k U Y (p.trans s2) ?_⟩) λt=>m _ p λh=>t (j.mpr h.1)
    rw[u];exact⟨λh=>⟨j.mp t,h⟩,λh=>h.2⟩
   ·cases e;rw[d]at g;cases g;obtain⟨_,_,rfl,_⟩:=G;simp at i
  ·subst e;cases l with
   | lst a=>rw[a]at d;cases d
   | tup a=>exact h rfl
   | dct a=>rw[a]at d;cases d
theorem bq{C:Addr}{z:Str}{v:V}{H f:Hp}{l:St}{D:d9}{t:TA}{E:XK}(g:ae H f)(p:z.length<=100)(q:v= .non\/∃n:Nat,v= .int n/\n<=1000)(r:∀Q:List V->Hp->Prop,Q [.str z,v] f->t l f Q)
 (k:∀d i,ae H i->H d=none->i d=some (.xd [("number",v),("part",.str z)])->E (.ref C) (some d) i):
 lg C (nU C (sK C) t) (λa m=>∃d,m a=some (ExO a C (some d))/\H a=none/\E (.ref C) (some d) (drop m a)) D l f:=by
 refine r _ ⟨by simp,λx o=>⟨x,z,v,rfl,p,q,aa,λd h c=>⟨rfl,x,d,rfl,?_,d,?_,g.free o,k d _ (λb u e=>?_) (g.free ?_) ?_⟩⟩⟩
 ·rw[aj c.symm,aa]
 ·rw[aj c.symm,aa]
 ·have nx:b≠x:=am (g _ _ e) o;have j:f d=none:=by rw[aj c]at h;exact h
  rw[ck nx,aj (am (g _ _ e) j),m7,aj nx];exact g _ _ e
 ·rw[aj c]at h;exact h
 ·rw[ck c,aa]
def br(H:Hp)(v:V)(xs:List V):Prop:=∃p,v= .ref p/\H p=some (.lst xs)
def eW(a:Nat->Prop)(n i:Nat):Prop:=i<n/\(∀j,j<i-> ¬ a j)/\a i
def cS(H:Hp)(a:List Str)(xs:List V)(i:Nat):Prop:=i=60\/∃x,xs[i]? =some x/\ ¬ fO H a x
def b9(H:Hp)(b:List Str)(v a:V):Prop:=((∀xs,¬ br H v xs)/\a= .non)\/∃xs i,br H v xs/\eW (cS H b xs) xs.length i/\a= .int (i:Nat)
def yK(C:Addr):Sp:=λvs H Q E=>∃(v:V) (n:String) (r:Addr) (c:List Str),vs=[v,.ref r]/\Kn H v n/\H r=some (.lst (c.map V.str))/\(∀xs,br H v xs->xs.length<=1000/\∀x∈xs,KnD H x)/\
 (∀xs,br H v xs->(∀i,i<xs.length-> ¬ cS H c xs i)->∀a,ae H a->Q .non a)/\
 ∀b d a,b9 H c v b->ae H a->H d=none->a d=some (.xd [("number",b),("part",.str "sayings")])->E (.ref C) (some d) a
theorem fO.same(kd:KnD H x)(s:ae H b):fO b c x↔fO H c x:=by
 obtain⟨n,d⟩:=kd.kn;refine⟨λ⟨p,xs,e,h,q⟩=>⟨p,xs,e,?_,q⟩,λ⟨p,xs,e,h,q⟩=>⟨p,xs,e,s _ _ h,q⟩⟩;subst e;cases d with
 | lst a=>rw[s _ _ a]at h;cases h
 | tup a=>rw[a];exact(s _ _ a).symm.trans h
 | dct a=>rw[s _ _ a]at h;cases h
theorem dD(T:Txt K mg):t7 P w K mg base 3 "check_sayings" ["sayings","layers"] (yK (aq mg "NoGround")):=by
 obtain⟨_,_,g,_⟩:=T.x_NoGround.ini;refine T.d_check_sayings.calX c8 (λvs H Q E h=>?_) (λf ac A outer s H vs Q E O h=>?_)
 ·obtain⟨v,n,r,I,rfl,_⟩:=h;rfl
 ·obtain⟨v,n,r,I,rfl,J,U,hk,hq,he⟩:=h;refine⟨_,(QSs.h (ag (ifS (bU (bG (K:=K) rfl (λ_=>rfl) (cbO (cw (K:=K) rfl) T.b_isinstance boot_isinstance rfl (paE rfl (ad 0 rfl) (paE rfl (blE (v:= .ty "list") rfl T.b_list boot_list rfl rfl rfl) af)))))
   (ao (gi g.ex (fe (ap T) O rfl rfl rfl rfl (paE rfl ax (paE rfl fX af)))))
   aI)
   (ao (ef PassesOwn.leaving rfl rfl (oY (K:=K) rfl rfl T.b_enumerate rfl (paE rfl (ad 0 rfl) af)) (fN (K:=K) rfl rfl rfl (gsE rfl (bb 2 c8.nd rfl) (gsE rfl (bb 3 c8.nd rfl) cU)))
   (ao (ifS (wT (orW (bF cV rfl (ad 2 rfl) (gvE T.g_MOST_SAYINGS rfl rfl)) (dI (bU (bG (K:=K) rfl (λ_=>rfl) (aZ (pY T) O rfl (paE rfl (ad 3 rfl) (paE rfl (ad 1 rfl) af))))))))
    (ao (gi g.ex (fe (ap T) O rfl rfl rfl rfl (paE rfl ax (paE rfl (ad 2 rfl) af)))))
    aI)))))),?_⟩
  show bA _ _ _ [some v,some (.ref r),none,none] H;refine ai λD1 k1 _=>?_
  walk_at "rd";refine⟨_,J.ty,_,J.kit (.inr (.inr (.inr (.inr rfl)))),aA (λh=>?_) λh=>?_⟩
  ·refine bq (ae.refl H) (by decide +kernel) (.inl rfl) (λQ q=>?_) λd t B hd z=>he .non d t (.inl ⟨λxs ⟨p,e,L⟩=>?_,rfl⟩) B hd z
   ·walk_at "rd";exact q
   ·subst e;cases J with
    | lst a=>cases h
    | tup a=>rw[a]at L;cases L
    | dct a=>rw[a]at L;cases L
  ·cases J<;> first|exact absurd rfl h|skip
   rename_i l xs C
   obtain⟨al,Y⟩:=hk xs ⟨l,rfl,C⟩;refine k1 _ _ (aU λD3 k3 _=>aF λab hK=>?_);walk_at "rd";refine⟨_,SqL.of C,hK _ _ (gf (λi M o=>(∀j,j<i-> ¬ cS H I xs j)/\∃o2 o3,M=[some (.ref l),some (.ref r),o2,o3]/\ae H o) ⟨λj hj=>absurd hj (Yi _),none,none,rfl,ae.refl H⟩ (λi M o _ ⟨_,_,_,_,q⟩=>SqL.of (q _ _ C)) ?_ ?_)⟩
   ·rintro i x TT M o z ⟨m,o2,o3,rfl,B⟩ hT;have hi:i<xs.length:=(Ys z).1;have kd:=Y x (Z7 z);have k:ae H (upd o TT (.tup [.int i,x])):=B.trans (ae.upd hT);have D:upd o TT (.tup [.int i,x]) TT=some (.tup [.int i,x]):=aa
    generalize upd o TT (.tup [.int i,x])=HT at k D
    have G:cS H I xs i->∀d t,ae H t->H d=none->t d=some (.xd [("number",.int (i:Nat)),("part",.str "sayings")])->E (.ref (aq mg "NoGround")) (some d) t:=λb d t=>he _ d t (.inr ⟨xs,i,⟨l,rfl,C⟩,⟨hi,m,b⟩,rfl⟩)
    refine⟨_,SqT.of D,rfl,_,_,rfl,_,_,rfl,rfl,?_⟩;show m9 _ _ _ _ [some (.ref l),some (.ref r),some (.int i),some x] HT;refine aU λD4 k4 _=>?_
    walk_at "rd";refine aA (λu=>?_) λu=>⟨x,r,I,rfl,kd.up k,SqL.of (k _ _ U),λc hc=>⟨c,rfl,aA (λN=>?_) λN=>k4 _ _ ⟨λj hj=>?_,_,_,rfl,k⟩⟩⟩
    ·refine bq k (by decide +kernel) (.inr ⟨i,rfl,by lia⟩) (λQ q=>?_) (G (.inl (by have:=Zn u;lia)));walk_at "rd";exact q
    ·refine bq k (by decide +kernel) (.inr ⟨i,rfl,by lia⟩) (λQ q=>?_) (G (.inr ⟨x,z,λsv=>?_⟩))
     ·walk_at "rd";exact q
     ·rw[hc.mpr ((fO.same kd k).mpr sv)]at N;cases N
    ·rcases lt_or_ge j i with q|q
     ·exact m j q
     ·have e:j=i:=by lia
      subst e;rintro(e|⟨y,hy,ny⟩)
      ·exact u (by simp[e])
      ·rw[z]at hy;cases hy;cases c with
       | true=>exact ny ((fO.same kd k).mp (hc.mp rfl))
       | false=>exact N rfl
   ·rintro M o ⟨m,o2,o3,rfl,B⟩;exact k3 _ _ (hq xs ⟨l,rfl,C⟩ m o B)
def fC(H:Hp)(xs:List V)(i:Nat)(z:Str):Prop:=∃p ys,xs[i]? =some (.ref p)/\H p=some (.tup (.str z::ys))
def cI(H:Hp)(xs:List V)(i:Nat):Prop:=i=8\/(∃x,xs[i]? =some x/\ ¬ cH H x)\/∃j z,j<i/\fC H xs j z/\fC H xs i z
def cT(H:Hp)(v a:V):Prop:=((∀xs,br H v xs->xs=[])/\a= .non)\/∃xs i,br H v xs/\eW (cI H xs) xs.length i/\a= .int (i:Nat)
def yL(C:Addr):Sp:=λvs H Q E=>∃(v:V) (n:String),vs=[v]/\Kn H v n/\(∀xs,br H v xs->xs.length<=1000/\∀x∈xs,KnC H x)/\
 (∀xs,br H v xs->xs≠[]->(∀i,i<xs.length-> ¬ cI H xs i)->∀a,ae H a->Q .non a)/\
 ∀b d a,cT H v b->ae H a->H d=none->a d=some (.xd [("number",b),("part",.str "cuts")])->E (.ref C) (some d) a
theorem cH.same(kd:KnD H x)(s:ae H b):cH b x↔cH H x:=by
 obtain⟨n,c⟩:=kd.kn;refine⟨λ⟨p,xs,e,h,q⟩=>⟨p,xs,e,?_,q⟩,λ⟨p,xs,e,h,q⟩=>⟨p,xs,e,s _ _ h,q⟩⟩;subst e;cases c with
 | lst a=>rw[s _ _ a]at h;cases h
 | tup a=>rw[a];exact(s _ _ a).symm.trans h
 | dct a=>rw[s _ _ a]at h;cases h
theorem fD(T:Txt K mg):t7 P w K mg base 6 "check_cuts" ["cuts"] (yL (aq mg "NoGround")):=by
 obtain⟨_,_,g,_⟩:=T.x_NoGround.ini;refine T.d_check_cuts.calX dh (λvs H Q E h=>?_) (λf a3 A outer s H vs Q E hr h=>?_)
 ·obtain⟨v,n,rfl,_⟩:=h;rfl
 ·obtain⟨v,n,rfl,kn,hk,hq,he⟩:=h;refine⟨_,(QSs.h (ag (ifS (wT (orW (bU (bG (K:=K) rfl (λ_=>rfl) (cbO (cw (K:=K) rfl) T.b_isinstance boot_isinstance rfl (paE rfl (ad 0 rfl) (paE rfl (blE (v:= .ty "list") rfl T.b_list boot_list rfl rfl rfl) af))))) (dI (bF cV rfl (cbO (bH (K:=K) rfl) T.b_len PySem.boot_len rfl (paE rfl (ad 0 rfl) af)) ak))))
   (ao (gi g.ex (fe (ap T) hr rfl rfl rfl rfl (paE rfl ax (paE rfl fX af)))))
   aI)
   (ag (aV 1 dh.nd rfl oV)
   (ao (ef PassesOwn.leaving rfl rfl (oY (K:=K) rfl rfl T.b_enumerate rfl (paE rfl (ad 0 rfl) af)) (fN (K:=K) rfl rfl rfl (gsE rfl (bb 2 dh.nd rfl) (gsE rfl (bb 3 dh.nd rfl) cU)))
   (ag (ifS (wT (orW (bF cV rfl (ad 2 rfl) (gvE T.g_MOST_CUTS rfl rfl)) (orW (bU (bG (K:=K) rfl (λ_=>rfl) (aZ (lF T) hr rfl (paE rfl (ad 3 rfl) af)))) (dI (dinT hr rfl (cL (K:=K) rfl (λ_ _=>rfl) (ad 3 rfl) ak) (ad 1 rfl))))))
    (ao (gi g.ex (fe (ap T) hr rfl rfl rfl rfl (paE rfl ax (paE rfl (ad 2 rfl) af)))))
    aI)
    (ao (ze hr rfl eBl (ad 1 rfl) (cL (K:=K) rfl (λ_ _=>rfl) (ad 3 rfl) ak))))))))),?_⟩
  show bA _ _ _ [some v,none,none,none] H;refine ai λD1 k1 _=>?_
  walk_at "rd";refine⟨_,kn.ty,_,kn.kit (.inr (.inr (.inr (.inr rfl)))),aA (λh=>?_) λh=>?_⟩
  ·refine bq (ae.refl H) (by decide +kernel) (.inl rfl) (λQ q=>?_) λd D M N G=>he .non d D (.inl ⟨λxs ⟨p,e,C⟩=>?_,rfl⟩) M N G
   ·walk_at "rd";exact q
   ·subst e;cases kn with
    | lst a=>cases h
    | tup a=>rw[a]at C;cases C
    | dct a=>rw[a]at C;cases C
  ·cases kn<;> first|exact absurd rfl h|skip
   rename_i l xs O
   obtain⟨a4,as⟩:=hk xs ⟨l,rfl,O⟩;refine⟨xs.length,.inl ⟨_,SqL.of O,rfl⟩,aA (λh0=>?_) λh0=>?_⟩
   ·refine bq (ae.refl H) (by decide +kernel) (.inl rfl) (λQ q=>?_) λd D M N G=>he .non d D (.inl ⟨λys ⟨p,e,C⟩=>?_,rfl⟩) M N G
    ·walk_at "rd";exact q
    ·cases e;rw[O]at C;cases C;have:=Zn h0;exact List.eq_nil_of_length_eq_zero (by lia)
   ·have au:xs≠[]:=λe=>h0 (by rw[e];decide)
    refine k1 _ _ (ai λD2 k2 _=>?_);walk_at "rd";refine λd N=>k2 _ _ (aU λD3 k3 _=>aF λa2 hK=>?_)
    walk_at "rd";have av:upd H d (.dK []) l=some (.lst xs):=ae.upd N _ _ O;refine⟨_,SqL.of av,hK _ _ (gf (λi σ I=>(∀j,j<i-> ¬ cI H xs j)/\∃o2 o3 B,σ=[some (.ref l),some (.ref d),o2,o3]/\ae H I/\I d=some (.dK B)/\B.length<=i/\∀z,(Sum.inr z:Key)∈B.map (·.1)↔∃j,j<i/\fC H xs j z)
     ⟨λj J=>absurd J (Yi _),none,none,[],rfl,ae.upd N,aa,Zh _,λz=>⟨λh=>(nomatch h),λ⟨j,J,_⟩=>absurd J (Yi _)⟩⟩ (λi σ I _ ⟨_,_,_,_,_,q,_⟩=>SqL.of (q _ _ O)) ?_ ?_)⟩
    ·rintro i x TT σ I G ⟨r,o2,o3,B,rfl,M,a0,a5,U⟩ hT;have hi:i<xs.length:=(Ys G).1;have kc:=as x (Z7 G);have m:ae H (upd I TT (.tup [.int i,x])):=M.trans (ae.upd hT);have ac:upd I TT (.tup [.int i,x]) TT=some (.tup [.int i,x]):=aa;have Y:=ae.upd (o:= .tup [.int i,x]) hT _ _ a0
     generalize upd I TT (.tup [.int i,x])=HT at m Y ac
     have ab:cI H xs i->∀d D,ae H D->H d=none->D d=some (.xd [("number",.int (i:Nat)),("part",.str "cuts")])->E (.ref (aq mg "NoGround")) (some d) D:=λb d D=>he _ d D (.inr ⟨xs,i,⟨l,rfl,O⟩,⟨hi,r,b⟩,rfl⟩)
     refine⟨_,SqT.of ac,rfl,_,_,rfl,_,_,rfl,rfl,?_⟩;show bA _ _ _ [some (.ref l),some (.ref d),some (.int i),some x] HT;refine ai λD4 k4 _=>?_
     walk_at "rd";refine aA (λh8=>?_) λh8=>⟨x,rfl,kc.up m,λD c s2 hc=>⟨c,rfl,aA (λh2=>?_) λh2=>?_⟩⟩
     ·refine bq m (by decide +kernel) (.inr ⟨i,rfl,by lia⟩) (λQ q=>?_) (ab (.inl (by have:=Zn h8;lia)));walk_at "rd";exact q
     ·refine bq (m.trans s2) (by decide +kernel) (.inr ⟨i,rfl,by lia⟩) (λQ q=>?_) (ab (.inr (.inl ⟨x,G,λsv=>?_⟩)))
      ·walk_at "rd";exact q
      ·rw[hc.mpr ((cH.same kc.kd m).mpr sv)]at h2;cases h2
     ·have nv:cH H x:=by
       cases c with
       | true=>exact(cH.same kc.kd m).mp (hc.mp rfl)
       | false=>exact absurd rfl h2
      obtain⟨p,ys,rfl,C,z,rows,rfl,hz,al⟩:=nv;have st:=SqT.of (K:=K) (s2 _ _ (m _ _ C));have t:∀{u},fC H xs i u↔u=z:=λ{u}=>⟨λ⟨q,ys,e,an⟩=>by rw[G]at e;cases e;rw[C]at an;cases an;rfl,λe=>e▸⟨p,_,G,C⟩⟩
      refine⟨p,rfl,_,st,_,rfl,_,nE.k (k:=Sum.inr z) (s2 _ _ Y),?_⟩;cases hv:hV B (Sum.inr z:Key)with
      | some v'=>
        obtain⟨j,J,nj⟩:=(U z).mp (rP hv);refine gP rfl (bq (m.trans s2) (by decide +kernel) (.inr ⟨i,rfl,by lia⟩) (λQ q=>?_) (ab (.inr (.inr ⟨j,z,J,nj,t.mpr rfl⟩))));walk_at "rd";exact q
      | none=>
        have L:=oR hv;refine io (k4 _ _ (aU λD5 k5 _=>?_));walk_at "rd";refine⟨_,st,_,rfl,_,tq.k (k:=Sum.inr z) (s2 _ _ Y) (bp (by lia)),k5 _ _ ⟨λj J=>?_,_,_,_,rfl,ae.set (m.trans s2) N,aa,?_,λu=>?_⟩⟩
        ·rcases lt_or_ge j i with q|q
         ·exact r j q
         ·have e:j=i:=by lia
          subst e;rintro(e|⟨y,hy,ny⟩|⟨j',u,a1,n1,n2⟩)
          ·exact h8 (by simp[e])
          ·rw[G]at hy;cases hy;exact ny ⟨p,_,rfl,C,z,rows,rfl,hz,al⟩
          ·rw[t]at n2;subst n2;exact L ((U _).mpr ⟨j',a1,n1⟩)
        ·rw[vL _ hv,Z8,Y5]
         lia
        ·rw[jq,if_neg L,Yc,mem_singleton,U];refine⟨λh=>h.elim (λ⟨j,J,nj⟩=>⟨j,by lia,nj⟩) λe=>⟨i,by lia,t.mpr (Sum.inr.inj e)⟩,λ⟨j,J,nj⟩=>?_⟩;rcases lt_or_ge j i with q|q
         ·exact .inl ⟨j,q,nj⟩
         ·have e:j=i:=by lia
          subst e;exact .inr (congrArg _ (t.mp nj))
    ·rintro σ I ⟨r,o2,o3,B,rfl,M,_⟩;exact k3 _ _ (hq xs ⟨l,rfl,O⟩ au r I M)
def aO(H:Hp)(cs:List (Addr×Str×List Str)):Prop:=∀p∈cs,H p.1=some (.tup [.str p.2.1,.str (Str.join nl p.2.2)])/\cc p.2.1=true/\aP p.2.2
theorem aO.up(h:aO H cs)(s:ae H b):aO b cs:=λp a=>⟨s _ _ (h p a).1,(h p a).2⟩
noncomputable def aT(cs:List (Addr×Str×List Str)):List V:=cs.map λp=>V.ref p.1
def dE(H:Hp)(a:List Str)(qs:List (Addr×List V)):Prop:=∀q∈qs,H q.1=some (.tup q.2)/\ig a q.2
theorem dE.up(h:dE H b qs)(s:ae H c):dE c b qs:=λp a=>⟨s _ _ (h p a).1,(h p a).2⟩
noncomputable def lyr(p:Addr×Str×List Str):List Str:=(aJ ((bX p.2.2).map sgn)).map (lnS p.2.1)
def ou:Sp:=λvs H Q _=>∃(l:Addr) (cs:List (Addr×Str×List Str)),vs=[.ref l]/\H l=some (.lst (aT cs))/\aO H cs/\cs.length<=8/\(cs.flatMap lyr).length<=60/\∀r c (d:List Str),ae H c->H r=none->c r=some (.lst (d.map V.str))->d.Perm (cs.flatMap lyr)->d.Pairwise (λa b=>iW b a=false)->Q (.ref r) c
def ii(c:List Str)(k:List Str):Prop:=∃a b z,k=[a,b,z]/\a∈c/\b∈c
theorem ii.three(h:ii c k):k.length=3:=by
 obtain⟨a,b,z,rfl,_⟩:=h;rfl
theorem ii.mono{c d k:List Str}(h:ii c k)(s:∀x∈c,x∈d):ii d k:=by
 obtain⟨a,b,z,e,f,g⟩:=h;exact⟨a,b,z,e,s a f,s b g⟩
theorem oz(h:Let p.2.2 a):lnS p.2.1 (sgn a)∈lyr p:=
 Yw ⟨_,cE.mpr (Yw ⟨a,js.mpr h,rfl⟩),rfl⟩
def Wt{b:Type}(f:b->Nat->Prop):List b->Nat->Prop
 |[],_=>True
 | p::r,n=>∃a,f p a/\a<=n/\Wt f r (n-a)
theorem Wt.mono{b:Type}{f:b->Nat->Prop}{xs:List b}{n m:Nat}(h:Wt f xs n)(l:n<=m):Wt f xs m:=by
 induction xs generalizing n m with
 | nil=>trivial
 | cons x r c=>
   obtain⟨a,d,e,w⟩:=h;exact⟨a,d,by lia,c w (by lia)⟩
theorem Wt.app{b:Type}{f:b->Nat->Prop}{xs ys:List b}{n m:Nat}(h:Wt f xs n)(k:Wt f ys m):Wt f (xs++ys) (n+m):=by
 induction xs generalizing n with
 | nil=>exact k.mono (by lia)
 | cons x r c=>
   obtain⟨a,d,e,w⟩:=h;exact⟨a,d,by lia,(c w).mono (by lia)⟩
theorem Wt.all{b:Type}{f:b->Nat->Prop}{xs:List b}{a:Nat}(h:∀x∈xs,f x a):Wt f xs (a*xs.length):=by
 induction xs with
 | nil=>trivial
 | cons x r c=>
   have e:a*(x::r).length=a*r.length+a:=by rw[Zq,mul_add,mul_one]
   exact⟨a,h x (Zl ..),by lia,(c λy d=>h y (Zj _ d)).mono (by lia)⟩
def jG(p:Addr×Str×List Str)(n:Nat):Prop:=pX p.2.2 n
def oA:Sp:=λvs H Q _=>∃(l:Addr) (cs:List (Addr×Str×List Str)),vs=[.ref l]/\H l=some (.lst (aT cs))/\aO H cs/\Wt jG cs 42/\cs.length<=8/\∀r a (ts:List (Addr×List Str)),ae H a->H r=none->a r=some (.lst (ts.map λt=>V.ref t.1))->bd a ts->(∀t∈ts,ii (cs.flatMap lyr) t.2)->ts.length<=42->Q (.ref r) a
def oB:Sp:=λvs H Q _=>∃(l:Addr) (b:List Str) (qs:List (Addr×List V)),vs=[.ref l]/\H l=some (.lst (qs.map λq=>V.ref q.1))/\dE H b qs/\qs.length<=60/\(qs.length<=20\/∀q∈qs,∃ys,q.2= .str "since"::ys)/\∀r a (ts:List (Addr×List Str)),ae H a->H r=none->a r=some (.lst (ts.map λt=>V.ref t.1))->bd a ts->(∀t∈ts,ii b t.2)->ts.length<=20->Q (.ref r) a
theorem d8{z:Str}(h:cc z=true):z.length<=8:=by
 unfold cc at h;rw[Zu,Zu]at h;have:=Zn h.1.2
 lia
theorem rq{cs:List Nat}{z:Str}(h:z∈aJ (cs.map sgn)):∃c∈cs,z=sgn c:=by
 have:z∈cs.map sgn:=cE.mp h;obtain⟨c,a,rfl⟩:=Yv this;exact⟨c,a,rfl⟩
theorem p7(T:Txt K mg):Cal P w K mg base 4 "layers_of" ["cuts"] ou:=by
 refine T.d_layers_of.cal dO (λvs H Q E h=>?_) (λf an A outer s H vs Q E hr h=>?_)
 ·obtain⟨l,cs,rfl,_⟩:=h;rfl
 ·obtain⟨l,cs,rfl,hl,N,h8,as,k⟩:=h;have u:(aT cs).length=cs.length:=Z5 _;refine⟨_,(QSs.h (ag (aV 1 dO.nd rfl (bB af))
   (ag (ef PassesOwn.never rfl rfl (fY (K:=K) rfl (ad 0 rfl)) (fN (K:=K) rfl rfl rfl (gsE rfl (mC 2 dO.nd rfl Z1 Z0) (gsE rfl (bb 3 dO.nd rfl) cU)))
   (ao (cM rfl (bmO plainAttrs_list PySem.F.slot_list_extend PySem.F.type_list_extend oX rfl (ad 1 rfl) (paE rfl (fG (aC.of (show ci (ah eA) ["cuts","layers","name","text"] _ ["letter","name"] [(1,2)]=true from by decide +kernel)) rfl rfl (fY (K:=K) rfl (aZ (uI T) hr rfl (paE rfl (ad 3 rfl) af))) (λ_ _ _=>(bb 0 (show(["letter","name"]:List Str).Nodup from by decide +kernel) rfl)) (λ_ _ _=>jm) (λ_ _ _=>(aZ (fB T) hr rfl (paE rfl (eE 1 rfl) (paE rfl (ad 0 rfl) af))))) af)))))
   (ao (aM (cbO (uu (K:=K) rfl) T.b_sorted boot_sorted rfl (paE rfl (ad 1 rfl) af))))))),?_⟩
  show bA _ _ _ [some (.ref l),none,none,none] H;refine ai λD1 k1 _=>?_
  walk_at "rd";refine⟨Yn _,λL O=>k1 _ _ (ai λD2 k2 _=>aF λv U=>?_)⟩;walk_at "rd";refine .inl ⟨⟨_,SqL.of (ae.upd O _ _ hl)⟩,U _ _ (fQ (λi e a=>∃Y o3,e=[some (.ref l),some (.ref L),Y,o3]/\ae H a/\∃g:List Str,a L=some (.lst (g.map V.str))/\g.Perm ((cs.take i).flatMap lyr)/\g.length<=26*i)
   ⟨none,none,rfl,ae.upd O,[],aa,List.Perm.refl _,Yn _⟩ (λi e a _ ⟨_,_,_,q,_⟩=>SqL.of (q _ _ hl)) ?_ ?_)⟩
  ·rintro i x e a m ⟨Y,o3,rfl,b,g,I,y,ab⟩;have hi:i<cs.length:=by rw[<-u];exact(Ys m).1
   obtain⟨q,hq,rfl⟩:∃q,cs[i]? =some q/\x=V.ref q.1:=by
    unfold aT at m;rw[Zk,Z4 hi]at m;exact⟨cs[i],Z4 hi,(Z9 m).symm⟩
   have d:=N q (Z7 hq);refine⟨_,SqT.of (b _ _ d.1),rfl,_,_,rfl,_,_,rfl,rfl,?_⟩;refine aU λD3 k3 _=>?_
   show kD _ _ [some (.ref l),some (.ref L),some (.str q.2.1),some (.str (Str.join nl q.2.2))] a;walk_at "rd";refine⟨.inl ⟨_,SqL.of I⟩,aR λv U=>?_⟩;walk_at "rd";refine⟨q.2.2,rfl,d.2.2,λl2 H2 ss s2 f2 M p2 q2=>?_⟩;walk_at "rd";refine .inl ⟨⟨_,SqL.of M⟩,U _ _ λF hF=>?_⟩;have au:ss.length<=26:=by rw[p2.length_eq];exact iu λc hc=>jo d.2.2.sign c hc
   have one:∀z∈ss,z.length=1:=λz hz=>by
    obtain⟨c,_,rfl⟩:=rq (p2.mem_iff.mp hz);rfl
   refine bQ (J:=Itl K l2) (n:=ss.length) (D:=F) (λj ts e a=>(∃o,e=[o,some (.str q.2.1)])/\ae H2 a/\a F=some (.lst ts)/\ts=((ss.take j).map (lnS q.2.1)).map V.str)
    ⟨⟨none,rfl⟩,ae.upd hF,aa,rfl⟩
    (λj _ _ a p ⟨_,b,_⟩=>⟨_,V.str ss[j],SqL.of (b _ _ M),by simp[p]⟩) (λ_ _ a ⟨_,b,_⟩=>⟨_,SqL.of (b _ _ M),by simp⟩) ?_ ?_
   ·rintro j ts e H3 p ⟨⟨o,rfl⟩,B,ac,t⟩ x H4 ⟨e2,m⟩;subst e2;have C:=m _ (SqL.of (B _ _ M));rw[Zk,Z4 p]at C;obtain rfl:x=V.str ss[j]:=(Z9 C).symm;walk_at "rd";refine⟨_,_,rfl,by have:=d8 d.2.1;lia,by rw[one _ (Y0 p)];decide,?_⟩;refine CK.mk p ac (by rw[t,Z5,Z5,Y6];exact bp (by lia)) ⟨⟨_,rfl⟩,ae.set B hF,aa,?_⟩;rw[t,Ym,Zc,Zc,Z4 p];rfl
   rintro ts e H3 ⟨_,B,al,t⟩;rw[Zm (Zh _)]at t;walk_at "rd";have sz:(g.map V.str).length+ts.length<=sizeLine:=by rw[t,Z5,Z5,Z5];exact aH (by lia)
   refine⟨_,B _ _ (s2 _ _ I),_,al,sz,k3 _ _ ⟨_,_,rfl,ae.set (b.trans (s2.trans B)) O,g++ss.map (lnS q.2.1),?_,?_,?_⟩⟩
   ·rw[aa,t,Zc]
   ·rw[Ym,hq,Zy];refine y.append ?_;show List.Perm _ ([q].flatMap lyr);rw[List.flatMap_singleton];exact p2.map _
   ·rw[Z8,Z5]
    lia
  ·rintro e a ⟨Y,o3,rfl,b,g,I,y,ab⟩;refine k2 _ _ ?_;walk_at "rd";rw[u,Zm (Zh _)]at y;exact⟨g,SqL.of I,by rw[y.length_eq];lia,λr ss G p' q'=>k r _ ss (b.trans (ae.upd G)) (b.free G) aa (p'.trans y) q'⟩
theorem lG(T:Txt K mg):Cal P w K mg base 4 "ties_of_cuts" ["cuts"] oA:=by
 refine T.d_ties_of_cuts.cal bK (λvs H Q E h=>?_) (λf a5 A outer s H vs Q E hr h=>?_)
 ·obtain⟨l,cs,rfl,_⟩:=h;rfl
 ·obtain⟨l,cs,rfl,hl,av,a0,h8,k⟩:=h;have a1:(aT cs).length=cs.length:=Z5 _;refine⟨_,(QSs.h (ag (aV 1 bK.nd rfl (bB af))
   (ag (ef PassesOwn.never rfl rfl (fY (K:=K) rfl (ad 0 rfl)) (fN (K:=K) rfl rfl rfl (gsE rfl (bb 2 bK.nd rfl) (gsE rfl (bb 3 bK.nd rfl) cU)))
   (ao (ef PassesOwn.never rfl rfl (fY (K:=K) rfl (aZ (rk T) hr rfl (paE rfl (ad 3 rfl) af))) (fN (K:=K) rfl rfl rfl (gsE rfl (bb 4 bK.nd rfl) (gsE rfl (bb 5 bK.nd rfl) cU)))
    (ao (cM rfl (bmO plainAttrs_list PySem.F.slot_list_append PySem.F.type_list_append cx rfl (ad 1 rfl) (paE rfl (aE (paE rfl (aZ (fB T) hr rfl (paE rfl (ad 2 rfl) (paE rfl (ad 4 rfl) af))) (paE rfl (aZ (fB T) hr rfl (paE rfl (ad 2 rfl) (paE rfl (ad 5 rfl) af))) (paE rfl (ad 2 rfl) af)))) af)))))))
   (ao (aM (ad 1 rfl)))))),?_⟩
  show bA _ _ _ [some (.ref l),none,none,none,none,none] H;refine ai λD1 k1 _=>?_
  walk_at "rd";refine⟨Yn _,λL hL=>k1 _ _ (ai λD2 k2 _=>aF λab hK=>?_)⟩;walk_at "rd";refine .inl ⟨⟨_,SqL.of (ae.upd hL _ _ hl)⟩,hK _ _ (fQ (λi v B=>∃o2 o3 C D,v=[some (.ref l),some (.ref L),o2,o3,C,D]/\ae H B/\∃ts:List (Addr×List Str),B L=some (.lst (ts.map λt=>V.ref t.1))/\bd B ts/\(∀t∈ts,ii (cs.flatMap lyr) t.2)/\∃n,Wt jG (cs.drop i) n/\ts.length+n<=42)
   ⟨none,none,none,none,rfl,ae.upd hL,[],aa,i9 _,λt ht=>(nomatch ht),42,a0,Zh _⟩ (λi v B _ ⟨_,_,_,_,_,q,_⟩=>SqL.of (q _ _ hl)) ?_ ?_)⟩
  ·rintro i x v B G ⟨o2,o3,C,D,rfl,sm,ts,hm,M,N,n,wt,a2⟩;have hi:i<cs.length:=by rw[<-a1];exact(Ys G).1
   obtain⟨q,hq,rfl⟩:∃q,cs[i]? =some q/\x=V.ref q.1:=by
    unfold aT at G;rw[Zk,Z4 hi]at G;exact⟨cs[i],Z4 hi,(Z9 G).symm⟩
   have O:=av q (Z7 hq);refine⟨_,SqT.of (sm _ _ O.1),rfl,_,_,rfl,_,_,rfl,rfl,?_⟩;refine aU λD3 k3 _=>?_
   show vk _ _ _ _ [some (.ref l),some (.ref L),some (.str q.2.1),some (.str (Str.join nl q.2.2)),C,D] B;refine aF λab hK=>?_
   walk_at "rd";have qm:=Z7 hq;rw[List.drop_eq_getElem_cons hi,show cs[i]=q from(Ys hq).2]at wt;obtain⟨na,fa,a6,wt⟩:=wt;refine⟨q.2.2,na,rfl,O.2.2,fa,by lia,?_⟩;intro l2 H2 ss s2 f2 h2 t2 a7 ac;have a4:=d8 O.2.1;have al:l2≠L:=λe=>by rw[e,hm]at f2;cases f2
   have an:(ss.map λp=>V.ref p.1).length=ss.length:=Z5 _;refine .inl ⟨l2,rfl,⟨_,SqL.of h2⟩,hK _ _ (fQ (xs:=ss.map λp=>V.ref p.1) (λj v d=>∃C D,v=[some (.ref l),some (.ref L),some (.str q.2.1),some (.str (Str.join nl q.2.2)),C,D]/\ae H d/\d l2=some (.lst (ss.map λp=>V.ref p.1))/\bd d ss/\∃c:List (Addr×List Str),d L=some (.lst (c.map λt=>V.ref t.1))/\bd d c/\(∀t∈c,ii (cs.flatMap lyr) t.2)/\c.length<=ts.length+j)
    ⟨_,_,rfl,sm.trans s2,h2,t2,ts,s2 _ _ hm,be M λb z e=>s2 _ _ e,N,by lia⟩ (λj v d _ ⟨_,_,_,_,q,_⟩=>SqL.of q) ?_ ?_)⟩
   ·rintro j x v d G ⟨C,D,rfl,U,as,g,c,y,m,Y,r⟩;have hj:j<ss.length:=by rw[<-an];exact(Ys G).1
    rw[Zk,Z4 hj]at G;obtain rfl:x=V.ref ss[j].1:=(Z9 G).symm;have I:=Y0 hj;obtain⟨a,b,a3,la,lb⟩:=ac _ I;have J:=(g _ I).2;rw[a3]at J;refine⟨_,SqT.of J,rfl,_,_,rfl,_,_,rfl,rfl,?_⟩;refine aU λD4 k4 _=>?_
    show kD _ _ [some (.ref l),some (.ref L),some (.str q.2.1),some (.str (Str.join nl q.2.2)),some (.str (sgn a)),some (.str (sgn b))] d;walk_at "rd";refine⟨.inl ⟨_,SqL.of y⟩,q.2.1,sgn a,rfl,by lia,(show 1<=100 by decide),?_⟩;walk_at "rd";refine⟨q.2.1,sgn b,rfl,by lia,(show 1<=100 by decide),?_⟩;walk_at "rd";refine⟨(show 3<=sizeLine by decide),λp hp=>?_⟩;have sp:=ae.upd (o:= .tup [V.str (lnS q.2.1 (sgn a)),V.str (lnS q.2.1 (sgn b)),V.str q.2.1]) hp;have gp:upd d p (.tup [V.str (lnS q.2.1 (sgn a)),V.str (lnS q.2.1 (sgn b)),V.str q.2.1]) p=_:=aa
    generalize upd d p (.tup [V.str (lnS q.2.1 (sgn a)),V.str (lnS q.2.1 (sgn b)),V.str q.2.1])=H4 at sp gp
    have au:=sp _ _ y;have u:∀b z,H4 b=some (.tup z)->upd H4 L (.lst (c.map (λt=>V.ref t.1) ++[V.ref p])) b=some (.tup z):=λb z e=>by
     have:b≠L:=λe2=>by rw[e2,au]at e;cases e
     rw[aj this];exact e
    refine⟨_,au,by rw[Z5];exact bp (by lia),k4 _ _ ⟨_,_,rfl,ae.set (U.trans sp) hL,by rw[aj al];exact sp _ _ as,be (be g λb z e=>sp _ _ e) u,c++[(p,[lnS q.2.1 (sgn a),lnS q.2.1 (sgn b),q.2.1])],?_,?_,?_,?_⟩⟩
    ·rw[aa,Zc];rfl
    ·exact be (jF (be m λb z e=>sp _ _ e) (by simp) gp) u
    ·intro t ht;rcases Yt ht with z|z
     ·exact Y t z
     ·rw[Yu z];exact⟨_,_,_,rfl,mem_flatMap.mpr ⟨q,qm,oz la⟩,mem_flatMap.mpr ⟨q,qm,oz lb⟩⟩
    ·rw[Z8,Y5];lia
   ·rintro v d ⟨C,D,rfl,U,as,g,c,y,m,Y,r⟩;rw[an]at r;exact k3 _ _ ⟨_,_,_,_,rfl,U,c,y,m,Y,_,wt,by lia⟩
  ·rintro v B ⟨o2,o3,C,D,rfl,sm,ts,hm,M,N,n,_,a2⟩;refine k2 _ _ ?_;walk_at "rd";exact k L B ts sm hL hm M N (by lia)
theorem ja(T:Txt K mg):Cal P w K mg base 1 "ties_of_sayings" ["sayings"] oB:=by
 refine T.d_ties_of_sayings.cal bZ (λvs H Q E h=>?_) (λf as A outer s H vs Q E hr h=>?_)
 ·obtain⟨l,J,qs,rfl,_⟩:=h;rfl
 ·obtain⟨l,J,qs,rfl,hl,O,au,v,k⟩:=h;have U:(qs.map λq=>V.ref q.1).length=qs.length:=Z5 _;refine⟨_,(QSs.h (ag (aV 1 bZ.nd rfl (bB af))
   (ag (ef PassesOwn.never rfl rfl (oY (K:=K) rfl rfl T.b_enumerate rfl (paE rfl (ad 0 rfl) af)) (fN (K:=K) rfl rfl rfl (gsE rfl (bb 2 bZ.nd rfl) (gsE rfl (bb 3 bZ.nd rfl) cU)))
   (ao (ifS (bF cV rfl (cL (K:=K) rfl (λ_ _=>rfl) (ad 3 rfl) ak) ax)
    (ao (cM rfl (bmO plainAttrs_list PySem.F.slot_list_append PySem.F.type_list_append cx rfl (ad 1 rfl) (paE rfl (aE (paE rfl (cL (K:=K) rfl (λ_ _=>rfl) (ad 3 rfl) ak) (paE rfl (cL (K:=K) rfl (λ_ _=>rfl) (ad 3 rfl) ak) (paE rfl (sA (pjE ax (pjE (wA (ad 2 rfl)) sw))) af)))) af))))
    aI)))
   (ao (aM (ad 1 rfl)))))),?_⟩
  show bA _ _ _ [some (.ref l),none,none,none] H;refine ai λD1 k1 _=>?_
  walk_at "rd";refine⟨Yn _,λL M=>k1 _ _ (ai λD2 k2 _=>aF λal hK=>?_)⟩;walk_at "rd";refine⟨_,SqL.of (ae.upd M _ _ hl),hK _ _ (gf (λi N n=>∃Y o3,N=[some (.ref l),some (.ref L),Y,o3]/\ae H n/\∃ts:List (Addr×List Str),n L=some (.lst (ts.map λt=>V.ref t.1))/\bd n ts/\(∀t∈ts,ii J t.2)/\ts.length<=i/\ts.length<=20)
   ⟨none,none,rfl,ae.upd M,[],aa,i9 _,λt ht=>(nomatch ht),Yn _,Yn _⟩ (λi N n _ ⟨_,_,_,q,_⟩=>SqL.of (q _ _ hl)) ?_ ?_)⟩
  ·rintro i x TT N n hx ⟨Y,o3,rfl,sm,ts,hm,r,g,ab,c⟩ hT;have hi:i<qs.length:=by rw[<-U];exact(Ys hx).1
   obtain⟨q,hq,rfl⟩:∃q,qs[i]? =some q/\x=V.ref q.1:=by
    rw[Zk,Z4 hi]at hx;exact⟨qs[i],Z4 hi,(Z9 hx).symm⟩
   have s0:=ae.upd (o:= .tup [.int i,.ref q.1]) hT;have j:ae H (upd n TT (.tup [.int i,.ref q.1])):=sm.trans s0;have B:upd n TT (.tup [.int i,.ref q.1]) TT=some (.tup [.int i,.ref q.1]):=aa;have m:=s0 _ _ hm;have d:=be r λb z e=>s0 _ _ e
   generalize upd n TT (.tup [.int i,.ref q.1])=HT at j B m d
   have C:=O q (Z7 hq);refine⟨_,SqT.of B,rfl,_,_,rfl,_,_,rfl,rfl,?_⟩;show m9 _ _ _ _ [some (.ref l),some (.ref L),some (.int i),some (.ref q.1)] HT;refine aU λD4 k4 _=>?_
   walk_at "rd";have st:=SqT.of (K:=K) (j _ _ C.1);have an:(Str.ofString (toString (i:Int))).length<=21:=by
    have e:=PySem.int_text_length_le10 (a:=(i:Int)) (k:=20) (by decide) (by have:(i:Int).natAbs=i:=rfl;lia);rw[PySem.ofString_length];lia
   have e1:(Str.empty++Str.ofString "#").length=1:=by decide +kernel
   have ea:∀a b:Str,(a++b).length=a.length+b.length:=λa b=>size_append
   have ac:qs.length<=20->∀a b:Str,a∈J->b∈J->∀p,HT p=none->∃x,upd HT p (.tup [.str a,.str b,V.str (Str.empty++Str.ofString "#"++Str.ofString (toString (i:Int)))]) L=some (.lst x)/\x.length<sizeLine/\D4.nx [some (.ref l),some (.ref L),some (.int i),some (.ref q.1)] (upd (upd HT p (.tup [.str a,.str b,V.str (Str.empty++Str.ofString "#"++Str.ofString (toString (i:Int)))])) L (.lst (x++[V.ref p]))):=by
    intro D a b ma mb p hp
    generalize hz:Str.empty++Str.ofString "#"++Str.ofString (toString (i:Int))=z
    have sp:=ae.upd (o:= .tup [V.str a,V.str b,V.str z]) hp;have gp:upd HT p (.tup [V.str a,V.str b,V.str z]) p=_:=aa
    generalize upd HT p (.tup [V.str a,V.str b,V.str z])=H4 at sp gp
    have G:=sp _ _ m;have u:∀b z,H4 b=some (.tup z)->upd H4 L (.lst (ts.map (λt=>V.ref t.1) ++[V.ref p])) b=some (.tup z):=λb z e=>by
     have:b≠L:=λe2=>by rw[e2,G]at e;cases e
     rw[aj this];exact e
    refine⟨_,G,by rw[Z5];exact bp (by lia),k4 _ _ ⟨_,_,rfl,ae.set (j.trans sp) M,ts++[(p,[a,b,z])],?_,?_,?_,?_⟩⟩
    ·rw[aa,Zc];rfl
    ·exact be (jF (be d λb z e=>sp _ _ e) (by simp) gp) u
    ·intro t ht;rcases Yt ht with z|z
     ·exact g t z
     ·rw[Yu z];exact⟨_,_,_,rfl,ma,mb⟩
    ·rw[Z8,Y5];lia
   rcases C.2 with⟨wd,a,b,e,hw,ma,mb,_⟩|⟨wd,a,y,e,hw,_⟩
   ·rw[e]at st;refine⟨_,st,_,rfl,rfl,aA (λI=>?_) λI=>?_⟩
    ·have D:qs.length<=20:=v.elim id λh=>by
      obtain⟨ys,e'⟩:=h q (Z7 hq);rw[e]at e';cases e';exact absurd I (by decide +kernel)
     refine⟨.inl ⟨_,SqL.of m⟩,_,st,_,rfl,_,st,_,rfl,aH (by lia),?_,aH (by rw[ea];lia),aH (by rw[ea];lia),(show 3<=sizeLine by decide),ac D a b ma mb⟩;have:(i:Int).natAbs=i:=rfl
     lia
    ·exact k4 _ _ ⟨_,_,rfl,j,ts,m,d,g,by lia,c⟩
   ·rw[e]at st;refine⟨_,st,_,rfl,rfl,?_⟩;rw[if_neg (by rcases hw with rfl|rfl<;> decide)];exact k4 _ _ ⟨_,_,rfl,j,ts,m,d,g,by lia,c⟩
  ·rintro N n ⟨Y,o3,rfl,sm,ts,hm,r,g,ab,c⟩;refine k2 _ _ ?_;walk_at "rd";exact k L n ts sm M hm r g c
theorem uO(h:∀i,i<xs.length-> ¬ cS H b xs i):∃qs:List (Addr×List V),xs=qs.map (λq=>V.ref q.1)/\dE H b qs/\qs.length<=60:=by
 have f:∀x∈xs,fO H b x:=λx g=>by
  obtain⟨i,hi⟩:=Yo g;exact Classical.byContradiction λn=>h i (Ys hi).1 (.inr ⟨x,hi,n⟩)
 have c:xs.length<=60:=by
  rcases lt_or_ge 60 xs.length with q|q
  ·exact absurd (.inl rfl) (h 60 q)
  ·exact q
 clear h;have:∃qs:List (Addr×List V),xs=qs.map (λq=>V.ref q.1)/\dE H b qs:=by
  clear c
  induction xs with
  | nil=>exact⟨[],rfl,λq a=>(nomatch a)⟩
  | cons x r j=>
    obtain⟨qs,e,d⟩:=j λy k=>f y (Zj _ k)
    obtain⟨p,ys,rfl,l,ok⟩:=f x (Zl ..);refine⟨(p,ys)::qs,by rw[e];rfl,λq a=>?_⟩;rcases mem_cons.mp a with rfl|a
    ·exact⟨l,ok⟩
    ·exact d q a
 obtain⟨qs,e,d⟩:=this;exact⟨qs,e,d,by rw[e,Z5]at c;exact c⟩
theorem mU(h:∀i,i<xs.length-> ¬ cI H xs i):∃cs:List (Addr×Str×List Str),xs=aT cs/\aO H cs/\(cs.map λp=>p.2.1).Nodup/\cs.length<=8:=by
 have g:∀x∈xs,cH H x:=λx m=>by
  obtain⟨i,hi⟩:=Yo m;exact Classical.byContradiction λn=>h i (Ys hi).1 (.inr (.inl ⟨x,hi,n⟩))
 have a:xs.length<=8:=by
  rcases lt_or_ge 8 xs.length with q|q
  ·exact absurd (.inl rfl) (h 8 q)
  ·exact q
 have:∃cs:List (Addr×Str×List Str),xs=aT cs/\aO H cs:=by
  clear a h
  induction xs with
  | nil=>exact⟨[],rfl,λq b=>(nomatch b)⟩
  | cons x r o=>
    obtain⟨cs,e,s⟩:=o λy t=>g y (Zj _ t)
    obtain⟨p,ys,rfl,u,z,rows,rfl,v,A⟩:=g x (Zl ..);refine⟨(p,z,rows)::cs,by rw[e];rfl,λq b=>?_⟩;rcases mem_cons.mp b with rfl|b
    ·exact⟨u,v,A⟩
    ·exact s q b
 obtain⟨cs,e,ca⟩:=this;refine⟨cs,e,ca,?_,by rw[e]at a;unfold aT at a;rw[Z5]at a;exact a⟩;have c:∀k (d:k<cs.length),fC H xs k cs[k].2.1:=λk d=>⟨cs[k].1,_,by rw[e];unfold aT;simp[d],(ca cs[k] (Y0 d)).1⟩
 have l:xs.length=cs.length:=by rw[e];exact Z5 _
 rw[nodup_iff_pairwise_ne,Yl,List.pairwise_iff_getElem];intro i j hi B f eq;refine h j (by lia) (.inr (.inr ⟨i,_,f,c i hi,?_⟩));rw[eq];exact c j B
theorem yM(c:aP a)(d:aP b)(h:Str.join nl a=Str.join nl b):a=b:=by
 have e:=c.split;rw[h,d.split]at e;exact e.symm
theorem jb(i:aO H a)(j:aO H b)(e:aT a=aT b):a=b:=by
 induction a generalizing b with
 | nil=>
   cases b with
   | nil=>rfl
   | cons q s=>cases e
 | cons p r l=>
   cases b with
   | nil=>cases e
   | cons q s=>
     have m:V.ref p.1::aT r=V.ref q.1::aT s:=e;injection m with d n
     have d:p.1=q.1:=V.ref.inj d;obtain⟨k,_,o⟩:=i p (Zl ..);obtain⟨t,_,u⟩:=j q (Zl ..);rw[d,t]at k;injection k with h
     injection h with h
     injection h with f c
     injection c with c _
     injection f with f
     injection c with c
     have v:=yM u o c;rw[l (λy g=>i y (Zj _ g)) (λy g=>j y (Zj _ g)) n];obtain⟨x,z,A⟩:=p;obtain⟨B,C,D⟩:=q;cases d;cases f;cases v;rfl
theorem br.one(a:br H v xs)(b:br H v ys):xs=ys:=by
 obtain⟨p,rfl,d⟩:=a;obtain⟨q,e,c⟩:=b;cases e;rw[d]at c;cases c;rfl
theorem eW.one(a:eW c n i)(b:eW c n j):i=j:=by
 rcases Nat.lt_trichotomy i j with q|q|q
 ·exact absurd a.2.2 (b.2.1 i q)
 ·exact q
 ·exact absurd b.2.2 (a.2.1 j q)
structure bu (H:Hp) (v:V) (cs:List (Addr×Str×List Str)):Prop where
 l:br H v (aT cs)
 ne:aT cs≠[]
 fine:∀i,i<(aT cs).length-> ¬ cI H (aT cs) i
 at_:aO H cs
 nd:(cs.map λp=>p.2.1).Nodup
 le:cs.length<=8
def du(H:Hp)(a:List Str)(u:V):Prop:=∃ys,br H u ys/\∀i,i<ys.length-> ¬ cS H a ys i
noncomputable def Res(H:Hp)(v u:V):Option (Str×V)->Prop
 | none=>∃cs,bu H v cs/\du H (cs.flatMap lyr) u
 | some (part,a)=>(part="cuts"/\cT H v a)\/(part="sayings"/\∃cs,bu H v cs/\b9 H (cs.flatMap lyr) u a)
theorem bu.not(f:bu H v cs)(b:cT H v c):False:=by
 rcases b with⟨b,_⟩|⟨xs,i,d,⟨hi,_,a⟩,_⟩
 ·exact f.ne (b _ f.l)
 ·rw[d.one f.l]at hi a;exact f.fine i hi a
theorem bu.one(f:bu H v cs)(g:bu H v ds):cs=ds:=jb f.at_ g.at_ (f.l.one g.l)
theorem du.not(f:du H d u)(b:b9 H d u e):False:=by
 obtain⟨ys,a,f⟩:=f;rcases b with⟨b,_⟩|⟨xs,i,g,⟨hi,_,c⟩,_⟩
 ·exact b _ a
 ·rw[g.one a]at hi c;exact f i hi c
theorem cT.one(a:cT H v n)(b:cT H v m):n=m:=by
 rcases a with⟨a,rfl⟩|⟨xs,i,e,c,rfl⟩<;> rcases b with⟨b,rfl⟩|⟨ys,j,f,d,rfl⟩
 ·rfl
 ·rw[a _ f]at d;exact absurd d.1 (Yi _)
 ·rw[b _ e]at c;exact absurd c.1 (Yi _)
 ·rw[e.one f]at c;rw[c.one d]
theorem b9.one(a:b9 H f v n)(b:b9 H f v m):n=m:=by
 rcases a with⟨a,rfl⟩|⟨xs,i,c,d,rfl⟩<;> rcases b with⟨b,rfl⟩|⟨ys,j,e,g,rfl⟩
 ·rfl
 ·exact absurd e (a _)
 ·exact absurd c (b _)
 ·rw[c.one e]at d;rw[d.one g]
theorem Res.one(a:Res H v u r)(b:Res H v u s):r=s:=by
 have c:∀{x:Str×V},Res H v u none-> ¬ Res H v u (some x):=λ{x} ⟨cs,f,e⟩ h=>by
  obtain⟨p,n⟩:=x;rcases h with⟨_,b⟩|⟨_,ds,g,d⟩
  ·exact f.not b
  ·rw[<-f.one g]at d;exact e.not d
 cases r with
 | none=>
   cases s with
   | none=>rfl
   | some y=>exact absurd b (c a)
 | some x=>
   cases s with
   | none=>exact absurd a (c b)
   | some y=>
     obtain⟨p,n⟩:=x;obtain⟨q,m⟩:=y;rcases a with⟨rfl,a⟩|⟨rfl,cs,f,a⟩<;> rcases b with⟨rfl,b⟩|⟨rfl,ds,g,b⟩
     ·rw[a.one b]
     ·exact(g.not a).elim
     ·exact(f.not b).elim
     ·rw[f.one g]at a;rw[a.one b]
structure bv (H:Hp) (v u:V):Prop where
 kv:∃n,Kn H v n
 ku:∃n,Kn H u n
 cs:∀xs,br H v xs->xs.length<=1000/\∀x∈xs,KnC H x
 ss:∀xs,br H u xs->xs.length<=1000/\∀x∈xs,KnD H x
 few:∀cs,bu H v cs->Wt jG cs 42/\(cs.flatMap lyr).length<=60
 lat:∀xs,br H u xs->xs.length<=20\/∀x∈xs,∃p ys,x= .ref p/\H p=some (.tup (.str "since"::ys))
structure Cpy (H H':Hp) (v v':V):Prop where
 s:ae H H'
 kn:∃n,Kn H' v' n
 l:∀xs,br H' v' xs↔br H v xs
theorem Kn.tupS(k:Kn H v n)(s:ae H b)(e:v= .ref p):b p=some (.tup o)↔H p=some (.tup o):=by
 refine⟨λh=>?_,s _ _⟩;subst e;cases k with
 | lst a=>rw[s _ _ a]at h;cases h
 | tup a=>rw[a];exact(s _ _ a).symm.trans h
 | dct a=>rw[s _ _ a]at h;cases h
theorem Kn.lstS(k:Kn H v n)(s:ae H b)(xs:List V):br b v xs↔br H v xs:=by
 refine⟨λ⟨p,e,h⟩=>⟨p,e,?_⟩,λ⟨p,e,h⟩=>⟨p,e,s _ _ h⟩⟩;subst e;cases k with
 | lst a=>rw[a];exact(s _ _ a).symm.trans h
 | tup a=>rw[s _ _ a]at h;cases h
 | dct a=>rw[s _ _ a]at h;cases h
theorem Cpy.up(k:∃n,Kn H v n)(s:ae H a):Cpy H a v v:=by
 obtain⟨n,k⟩:=k;exact⟨s,⟨n,k.up s⟩,k.lstS s⟩
theorem dv(s:ae H a)(k:∀x∈xs,KnD H x)(i:Nat):cI a xs i↔cI H xs i:=by
 have b:∀j z,fC a xs j z↔fC H xs j z:=λj z=>by
  refine⟨λ⟨p,ys,e,h⟩=>?_,λ⟨p,ys,e,h⟩=>⟨p,ys,e,s _ _ h⟩⟩;obtain⟨n,c⟩:=(k _ (Z7 e)).kn;exact⟨p,ys,e,(c.tupS s rfl).mp h⟩
 have d:∀x,xs[i]? =some x->(cH a x↔cH H x):=λx f=>cH.same (k x (Z7 f)) s
 unfold cI;simp only[b];refine or_congr_right (or_congr_left (exists_congr λx=>and_congr_right λe=>not_congr (d x e)))
theorem gA(s:ae H a)(k:∀x∈xs,KnD H x)(i:Nat):cS a b xs i↔cS H b xs i:=
 or_congr_right (exists_congr λx=>and_congr_right λe=>not_congr (fO.same (k x (Z7 e)) s))
theorem eW.same(h:∀i,a i↔b i):eW a n i↔eW b n i:=by
 unfold eW;simp only[h]
theorem p8(s:ae H b)(k:∀x∈aT cs,KnD H x):aO b cs↔aO H cs:=by
 refine⟨λh p a=>?_,λh=>h.up s⟩;obtain⟨n,c⟩:=(k (.ref p.1) (Yw ⟨p,a,rfl⟩)).kn;exact⟨(c.tupS s rfl).mp (h p a).1,(h p a).2⟩
theorem bu.same(c:Cpy H d v e)(k:∀xs,br H v xs->∀x∈xs,KnD H x):bu d e cs↔bu H v cs:=by
 refine⟨λh=>?_,λh=>?_⟩
 ·have a:=(c.l _).mp h.l;exact⟨a,h.ne,λi hi b=>h.fine i hi ((dv c.s (k _ a) i).mpr b),(p8 c.s (k _ a)).mp h.at_,h.nd,h.le⟩
 ·exact⟨(c.l _).mpr h.l,h.ne,λi hi b=>h.fine i hi ((dv c.s (k _ h.l) i).mp b),h.at_.up c.s,h.nd,h.le⟩
theorem cT.same(c:Cpy H b v d)(k:∀xs,br H v xs->∀x∈xs,KnD H x):cT b d a↔cT H v a:=by
 unfold cT;simp only[c.l];refine or_congr_right (exists_congr λxs=>exists_congr λi=>and_congr_right λe=>and_congr_left' (eW.same (dv c.s (k xs e))))
theorem b9.same(c:Cpy H b v d)(k:∀xs,br H v xs->∀x∈xs,KnD H x):b9 b e d a↔b9 H e v a:=by
 unfold b9;simp only[c.l];refine or_congr_right (exists_congr λxs=>exists_congr λi=>and_congr_right λf=>and_congr_left' (eW.same (gA c.s (k xs f))))
theorem du.same(c:Cpy H a v b)(k:∀xs,br H v xs->∀x∈xs,KnD H x):du a d b↔du H d v:=by
 unfold du;simp only[c.l];refine exists_congr λxs=>and_congr_right λe=>?_
 simp only[gA c.s (k xs e)]
theorem mV(h:∀z,z∈a↔z∈b):ig a=ig b:=by
 funext vs;unfold ig;simp only[h]
theorem p9(h:∀z,z∈b↔z∈c):b9 H b u a↔b9 H c u a:=by
 unfold b9 cS fO;rw[mV h]
theorem rz(h:∀z,z∈a↔z∈b):cS H a=cS H b:=by
 unfold cS fO;rw[mV h]
theorem bv.kc(G:bv H v u):∀xs,br H v xs->∀x∈xs,KnD H x:=λxs h x a=>((G.cs xs h).2 x a).kd
theorem bv.ks(G:bv H v u):∀xs,br H u xs->∀x∈xs,KnD H x:=λxs h=>(G.ss xs h).2
theorem bv.cpy(G:bv H v u)(a:Cpy H d v f)(b:Cpy H d u g):bv d f g:=by
 refine⟨a.kn,b.kn,λxs h=>?_,λxs h=>?_,λcs h=>G.few cs ((bu.same a G.kc).mp h),λxs h=>?_⟩
 ·have q:=G.cs xs ((a.l _).mp h);exact⟨q.1,λx c=>(q.2 x c).up a.s⟩
 ·have q:=G.ss xs ((b.l _).mp h);exact⟨q.1,λx c=>(q.2 x c).up a.s⟩
 ·exact(G.lat xs ((b.l _).mp h)).imp id λq x c=>(q x c).imp λp=>Exists.imp λys e=>⟨e.1,a.s _ _ e.2⟩
theorem bv.res(G:bv H v u)(a:Cpy H c v d)(b:Cpy H c u e):Res c d e r↔Res H v u r:=by
 cases r with
 | none=>exact exists_congr λcs=>and_congr (bu.same a G.kc) (du.same b G.ks)
 | some x=>exact or_congr (and_congr_right λ_=>cT.same a G.kc) (and_congr_right λ_=>exists_congr λcs=>and_congr (bu.same a G.kc) (b9.same b G.ks))
noncomputable def ResV(H:Hp)(v:V):Option (Str×V)->Prop
 | none=>v= .non
 | some (p,n)=>∃t,v= .ref t/\H t=some (.tup [.str p,n])
def xj:Sp:=λvs H Q _=>∃v u:V,vs=[v,u]/\bv H v u/\∀x r a,ae H a->Res H v u r->ResV a x r->Q x a
def jX(g:Addr)(H a:Hp):Prop:=∀b o,b≠g->H b=some o->a b=some o
def yN(mg:Str->Option Value):Sp:=λvs H Q E=>∃(g c:Addr) (v u:V),vs=[.ref g,v,u]/\H g=some (.ins (aq mg "Ground") c [])/\bv H v u/\(Res H v u none->∀a,jX g H a->Q .non a)/\
 ∀(part:Str) b d a,Res H v u (some (part,b))->jX g H a->H d=none->a d=some (.xd [("number",b),("part",.str part)])->E (.ref (aq mg "NoGround")) (some d) a
theorem lH(T:Txt K mg):wU P w K mg base 7 "Ground" ["self","cuts","sayings"] (yN mg):=by
 have fD:=fD (P:=P) (w:=w) (base:=base) T;have dD:=dD (P:=P) (w:=w) (base:=base) T;refine T.i_Ground.calX d6 (λvs H Q E h=>?_) (λf bn A outer s H vs Q E hr h=>?_)
 ·obtain⟨g,k,v,u,rfl,_⟩:=h;rfl
 ·obtain⟨g,k,v,u,rfl,hg,G,M,he⟩:=h;obtain⟨n,kn⟩:=G.kv;obtain⟨m,km⟩:=G.ku;refine⟨_,(QSs.h (ag (cM rfl (sr (se λ_ _ _ h=>h) fD hr rfl rfl rfl rfl (paE rfl (ad 1 rfl) af)))
   (ag (aV 3 d6.nd rfl (aZ (p7 T) hr rfl (paE rfl (ad 1 rfl) af)))
   (ag (cM rfl (sr (se λ_ _ _ h=>h) dD hr rfl rfl rfl rfl (paE rfl (ad 2 rfl) (paE rfl (ad 3 rfl) af))))
   (ag (yy (K:=K) rfl rfl (ad 0 rfl) (ctO (nM (K:=K) rfl) T.b_list boot_list rfl (paE rfl (ad 1 rfl) af)))
   (ag (yy (K:=K) rfl rfl (ad 0 rfl) (ctO (nM (K:=K) rfl) T.b_list boot_list rfl (paE rfl (ad 2 rfl) af)))
   (ag (yy (K:=K) rfl rfl (ad 0 rfl) (ad 3 rfl))
   (ao (yy (K:=K) rfl rfl (ad 0 rfl) (cbO (uw (K:=K) rfl) T.b_sorted boot_sorted rfl (paE rfl (opE bS (aZ (lG T) hr rfl (paE rfl (ad 1 rfl) af)) (aZ (ja T) hr rfl (paE rfl (ad 2 rfl) af))) af))))))))))),?_⟩
  show bA _ _ _ [some (.ref g),some v,some u,none] H;refine ai λD1 k1 _=>?_
  walk_at "rd";refine⟨v,n,rfl,kn,G.cs,λxs C a0 N H1 s1=>k1 _ _ (ai λD2 k2 _=>?_),λO d H' U s1 hd C=>he "cuts" O d H' (.inl ⟨rfl,U⟩) (λb o _ e=>s1 _ _ e) hd C⟩;obtain⟨cs,rfl,y,a1,h8⟩:=mU N;have cf:bu H v cs:=⟨C,a0,N,y,a1,h8⟩
  obtain⟨wt,a2⟩:=G.few cs cf;obtain⟨l,rfl,hl⟩:=C;walk_at "rd";refine⟨l,cs,rfl,s1 _ _ hl,y.up s1,h8,a2,λr H2 ls s2 f2 h2 p2 q2=>k2 _ _ (ai λD3 k3 _=>?_)⟩;have a:=s1.trans s2;have Y:=Cpy.up G.ku a;walk_at "rd";refine⟨u,m,r,ls,rfl,km.up a,h2,λxs C=>?_,λys hy sf H3 s3=>k3 _ _ (ai λD4 k4 _=>?_),λO d H' U s3 hd C=>he "sayings" O d H' (.inr ⟨rfl,cs,cf,(p9 λz=>p2.mem_iff).mp ((b9.same Y G.ks).mp U)⟩) (λb o _ e=>s3 _ _ (a _ _ e)) (a.free hd) C⟩
  ·have q:=G.ss xs ((Y.l _).mp C);exact⟨q.1,λx C=>(q.2 x C).up a⟩
  have a3:=G.lat _ ((Y.l _).mp hy);have ab:Res H (.ref l) u none:=⟨cs,cf,ys,(Y.l _).mp hy,λi hi b=>sf i hi ((gA a (G.ks _ ((Y.l _).mp hy)) i).mpr (by rw[rz λz=>p2.mem_iff];exact b))⟩
  obtain⟨qs,rfl,D,a4⟩:=uO sf;obtain⟨m',rfl,hm⟩:=(Y.l _).mp hy;have I:=a.trans s3;have OC:=T.o_Ground.cls;have gl:l≠g:=λe=>by rw[e,hg]at hl;cases hl
  have gm:m'≠g:=λe=>by rw[e,hg]at hm;cases hm
  walk_at "rd";refine⟨_,.inl (SqL.of (I _ _ hl)),λj ac=>⟨_,_,_,ae.upd ac _ _ (I _ _ hg),OC,T.n_Ground_kept_cuts,(by show 0<1000;decide),k4 _ _ (ai λD5 k5 _=>?_)⟩⟩;have a5:=ae.upd (o:= .lst (aT cs)) ac;have b4:jX g H3 (upd (upd H3 j (.lst (aT cs))) g (.ins (aq mg "Ground") k (dw (Str.ofString "kept_cuts") (V.ref j) []))):=λb o c e=>by rw[aj c];exact a5 _ _ e
  have g4:upd (upd H3 j (.lst (aT cs))) g (.ins (aq mg "Ground") k (dw (Str.ofString "kept_cuts") (V.ref j) [])) g=some (.ins (aq mg "Ground") k [("kept_cuts",V.ref j)]):=aa
  generalize upd (upd H3 j (.lst (aT cs))) g (.ins (aq mg "Ground") k (dw (Str.ofString "kept_cuts") (V.ref j) []))=H4 at b4 g4
  walk_at "rd";refine⟨_,.inl (SqL.of (b4 _ _ gm (I _ _ hm))),λB al=>⟨_,_,_,ae.upd al _ _ g4,OC,T.n_Ground_kept_sayings,(by show 1<1000;decide),k5 _ _ (ai λD6 k6 _=>?_)⟩⟩;have a6:=ae.upd (o:= .lst (qs.map λq=>V.ref q.1)) al;have b5:jX g H4 (upd (upd H4 B (.lst (qs.map λq=>V.ref q.1))) g (.ins (aq mg "Ground") k (dw (Str.ofString "kept_sayings") (V.ref B) [("kept_cuts",V.ref j)]))):=λb o c e=>by rw[aj c];exact a6 _ _ e
  have g5:upd (upd H4 B (.lst (qs.map λq=>V.ref q.1))) g (.ins (aq mg "Ground") k (dw (Str.ofString "kept_sayings") (V.ref B) [("kept_cuts",V.ref j)])) g=some (.ins (aq mg "Ground") k [("kept_cuts",V.ref j),("kept_sayings",V.ref B)]):=by rw[aa];rfl
  generalize upd (upd H4 B (.lst (qs.map λq=>V.ref q.1))) g (.ins (aq mg "Ground") k (dw (Str.ofString "kept_sayings") (V.ref B) [("kept_cuts",V.ref j)]))=H5 at b5 g5
  walk_at "rd";refine⟨_,_,_,g5,OC,T.n_Ground_kept_layers,(by show 2<1000;decide),k6 _ _ (aU λD7 k7 _=>?_)⟩;have b6:jX g H5 (upd H5 g (.ins (aq mg "Ground") k (dw (Str.ofString "kept_layers") (V.ref r) [("kept_cuts",V.ref j),("kept_sayings",V.ref B)]))):=λb o c e=>by rw[aj c];exact e
  have g6:upd H5 g (.ins (aq mg "Ground") k (dw (Str.ofString "kept_layers") (V.ref r) [("kept_cuts",V.ref j),("kept_sayings",V.ref B)])) g=some (.ins (aq mg "Ground") k [("kept_cuts",V.ref j),("kept_sayings",V.ref B),("kept_layers",V.ref r)]):=by rw[aa];rfl
  generalize upd H5 g (.ins (aq mg "Ground") k (dw (Str.ofString "kept_layers") (V.ref r) [("kept_cuts",V.ref j),("kept_sayings",V.ref B)]))=H6 at b6 g6
  have J:jX g H H6:=λb o c e=>b6 b o c (b5 b o c (b4 b o c (I _ _ e)))
  have a7:jX g H2 H6:=λb o c e=>b6 b o c (b5 b o c (b4 b o c (s3 _ _ e)))
  have g2:=a _ _ hg;have an:aO H6 cs:=λp L=>⟨J _ _ (λe=>by have:=(y p L).1;rw[e,hg]at this;cases this) (y p L).1,(y p L).2⟩
  have as:dE H6 ls qs:=λq M=>⟨a7 _ _ (λe=>by have:=(D q M).1;rw[e,g2]at this;cases this) (D q M).1,(D q M).2⟩
  have a8:qs.length<=20\/∀q∈qs,∃ys,q.2= .str "since"::ys:=by
   refine a3.imp (λh=>by rw[Z5]at h;exact h) λh q M=>?_
   obtain⟨p,ys,e,L⟩:=h (.ref q.1) (Yw ⟨q,M,rfl⟩);cases e;have:=(D q M).1;rw[a _ _ L]at this;injection this with this
   injection this with this
   exact⟨ys,this.symm⟩
  walk_at "rd";refine⟨l,cs,rfl,J _ _ gl hl,an,wt,h8,λt1 H7 ts s7 f7 h7 a9 bf bt=>?_⟩;walk_at "rd";refine⟨m',ls,qs,rfl,s7 _ _ (J _ _ gm hm),as.up s7,a4,a8,λt2 H8 us s8 f8 bi bl bm b0=>?_⟩;walk_at "rd";have au:bd H8 (ts++us):=pW (be a9 λb z e=>s8 _ _ e) bl;have g8:=s8 _ _ (s7 _ _ g6);refine⟨_,s8 _ _ h7,_,bi,by rw[Z5,Z5,PySem.sizeLine_eq];lia,λp L=>⟨ts++us,by rw[Zc];exact SqL.of aa,be au λb z e=>ae.upd L _ _ e,3,?_,by decide,by rw[Z8];lia,λc4 ss av b1 b2=>⟨_,_,_,ae.upd av _ _ (ae.upd L _ _ g8),OC,T.n_Ground_kept_ties,(by show 3<1000;decide),k7 _ _ ?_⟩⟩⟩
  ·intro t ht;rcases Yt ht with z|z
   ·exact(bf t z).three
   ·exact(bm t z).three
  ·exact M ab _ λb o c e=>by
    rw[aj c];exact ae.upd av _ _ (ae.upd L _ _ (s8 _ _ (s7 _ _ (J _ _ c e))))
def yO(rows:List Str)(i j c:Nat):Prop:=okc c=true/\ ¬ (0<i/\c=46/\∃u d,rows[i-1]? =some u/\u.cps[j]? =some d/\d≠46)
def rA(rows:List Str)(i:Nat):Prop:=∃r a,rows[i]? =some r/\rows[0]? =some a/\r.length=a.length/\1<=r.length/\r.length<=40/\i<=39/\∀j c,r.cps[j]? =some c->yO rows i j c
theorem rA.of(h:aP rows)(hi:i<rows.length):rA rows i:=by
 obtain⟨wd,l,m,hw⟩:=h.wide;have p:=h.pos;have q:=h.high;have a:∀k (b:k<rows.length),rows[k]? =some rows[k]:=λk b=>Z4 b
 have len:∀k (b:k<rows.length),rows[k].length=wd:=λk b=>hw _ (Y0 b)
 refine⟨rows[i],rows[0],a i hi,a 0 (by lia),by rw[len i hi,len 0 (by lia)],by rw[len i hi];exact l,by rw[len i hi];exact m,by lia,λj c g=>⟨all_eq_true.mp (h.sign _ (Y0 hi)) c (Z7 (by simpa using g)),?_⟩⟩;rintro⟨r,e,u,d,n,o,ne⟩;have f:i-1+1=i:=by lia
 exact ne (h.fall (i-1) u rows[i] n (by rw[f];exact a i hi) j d c o g e)
theorem cutG(p:rows≠[])(h:∀i,i<rows.length->rA rows i)(s:∃r∈rows,∃c∈r.cps.toList,c≠46):aP rows:=by
 have l:1<=rows.length:=length_pos_iff.mpr p;obtain⟨r,E,e,m,_,t,u,_⟩:=h 0 l;rw[e]at m;cases m;have get:∀x∈rows,∃i,i<rows.length/\rows[i]? =some x:=λx a=>by
  obtain⟨i,hi⟩:=Yo a;exact⟨i,(Ys hi).1,hi⟩
 refine⟨l,?_,⟨r.length,t,u,λx a=>?_⟩,λx a=>?_,λi x y ex n j c v z d f=>?_,s⟩
 ·obtain⟨_,_,_,_,_,_,_,q,_⟩:=h (rows.length-1) (by lia)
  lia
 ·obtain⟨i,hi,g⟩:=get x a;obtain⟨A,o,ex,k,B,_⟩:=h i hi;rw[g]at ex;rw[e]at k;cases ex;cases k;exact B
 ·obtain⟨i,hi,g⟩:=get x a;obtain⟨A,o,ex,k,_,_,_,_,sg⟩:=h i hi;rw[g]at ex;cases ex;rw[all_eq_true];intro c C;obtain⟨j,D⟩:=Yo C;exact(sg j c (by simpa using D)).1
 ·obtain⟨G,o,b,_,_,_,_,_,sg⟩:=h (i+1) (Ys n).1;rw[n]at b;cases b;exact Classical.byContradiction λne=>(sg j v d).2 ⟨by lia,f,x,c,ex,z,ne⟩
theorem xk(ok:cZ rows B):uN (.str (Str.join nl rows))↔aP rows:=by
 refine⟨λ⟨a,e,h⟩=>?_,λh=>⟨rows,rfl,h⟩⟩;have b:=ok.split;injection e with e
 rw[e,h.split]at b;rw[<-b];exact h
theorem gB(b:c≠10):c∈(Str.join nl rows).cps.toList↔∃r∈rows,c∈r.cps.toList:=by
 induction rows with
 | nil=>exact⟨λh=>(nomatch h),λ⟨_,h,_⟩=>(nomatch h)⟩
 | cons x r d=>
   cases r with
   | nil=>simp[Str.join]
   | cons y r=>
     rw[cY,Yc,Yc,d,show nl.cps.toList=[10]from rfl,mem_singleton]
     constructor
     ·rintro((h|h)|⟨z,a,h⟩)
      ·exact⟨x,Zl ..,h⟩
      ·exact absurd h b
      ·exact⟨z,Zj _ a,h⟩
     ·rintro⟨z,a,h⟩;rcases mem_cons.mp a with rfl|a
      ·exact .inl (.inl h)
      ·exact .inr ⟨z,a,h⟩
theorem yP:z∈lyr p↔∃c,Let p.2.2 c/\z=lnS p.2.1 (sgn c):=by
 constructor
 ·intro h;obtain⟨y,b,rfl⟩:=Yv h;obtain⟨c,a,rfl⟩:=Yv (cE.mp b);exact⟨c,js.mp a,rfl⟩
 ·rintro⟨c,a,rfl⟩;exact oz a
theorem AU(c:Nat):decide (c∈(Str.ofString ".abcdefghijklmnopqrstuvwxyz").cps.toList)=okc c:=by
 have e:(Str.ofString ".abcdefghijklmnopqrstuvwxyz").cps.toList=46::dL.cps.toList:=by decide +kernel
 rw[e];unfold okc dG;by_cases a:c=46<;> by_cases b:c∈dL.cps.toList<;> simp[a,b]
theorem lY(T:Txt K mg):Cal P w K mg base 1 "_law_is_name" ["_law_thing"] lE:=by
 refine T.d_law_is_name.cal lC (λvs H Q E h=>?_) (λf G A outer s H vs Q E hr h=>?_)
 ·obtain⟨v,n,rfl,_⟩:=h;rfl
 ·obtain⟨v,n,rfl,m,b,k⟩:=h;refine⟨_,(QSs.h (ag (ifS (wT (orW (bU (bG (K:=K) rfl (λ_=>rfl) (cbO (cw (K:=K) rfl) T.b_isinstance boot_isinstance rfl (paE rfl (ad 0 rfl) (paE rfl (blE (v:= .ty "str") rfl T.b_str boot_str rfl rfl rfl) af))))) (dI (bU (vZ j5 j5 rfl ak (cbO (bH (K:=K) rfl) T.b_len PySem.boot_len rfl (paE rfl (ad 0 rfl) af)) ak)))))
   (ao (aM eBl))
   aI)
   (ao (aM (cbO (oW (K:=K) rfl rfl) T.b_all boot_all rfl (paE rfl (fG (aC.of (show ci (ah di) ["_law_thing"] _ ["_law_sign_here"] []=true from by decide +kernel)) rfl rfl (fY (K:=K) rfl (ad 0 rfl)) (λ_ _ _=>(bb 0 (show(["_law_sign_here"]:List Str).Nodup from by decide +kernel) rfl)) (λ_ _ _=>jm) (λ_ _ _=>(hZ (nJ (K:=K) rfl) rfl (ad 0 rfl) ax))) af)))))),?_⟩
  show bA _ _ _ [some v] H;refine ai λD1 I p=>?_
  walk_at "rd";refine⟨_,m.ty,_,m.kit (.inl rfl),aA (λh=>?_) λh=>?_⟩
  ·refine p _ _ (k H false (ae.refl H) ⟨λc=>(nomatch c),λ⟨z,e,_⟩=>?_⟩);subst e;cases m;cases h
  ·cases m<;> first|exact absurd rfl h|skip
   rename_i z
   have hz:=b z rfl;have d:cc z=false->Q (.bl false) H:=λe=>k H false (ae.refl H) ⟨λc=>(nomatch c),λ⟨L,r,q⟩=>by cases r;rw[e]at q;exact q⟩
   walk_at "rd";refine⟨aH (by lia),aA (λt=>aA (λa=>p _ _ (d (by unfold cc;rw[show decide ((z.length:Int)<=8)=false by simpa using a,Bool.and_false];rfl))) λa=>I _ _ ?_) λt=>p _ _ (d (by unfold cc;rw[eq_false_iff.mpr t];rfl))⟩;have a:decide ((z.length:Int)<=8)=true:=by simpa using a
   have M:=Zn a;walk_at "rd";refine aR λB N=>?_
   walk_at "rd";refine N _ _ λD C=>?_
   refine bQ (J:=Its z) (n:=z.cps.size) (D:=D) (λi ys u g=>(∃o,u=[o])/\ae H g/\g D=some (.lst ys)/\ys=(z.cps.toList.take i).map (λc=>V.bl (dG c))) ⟨⟨none,rfl⟩,ae.upd C,aa,rfl⟩
    (λi _ _ _ hi _=>hi) (λ_ _ _ _=>Zh _) ?_ ?_
   ·rintro i ys u g hi ⟨⟨o,rfl⟩,y,b,j⟩ x H2 ⟨O,c,U,rfl⟩;subst O;walk_at "rd";have l:ys.length=i:=by
     rw[j,Z5,Y6];have:z.cps.toList.length=z.cps.size:=by simp
     lia
    have Y:i<1000:=by
     have:z.length=z.cps.size:=rfl
     lia
    refine CK.mk hi b (by rw[l];exact bp (by lia)) ⟨⟨_,rfl⟩,ae.set y C,aa,?_⟩;rw[kO,j,<-de z i c U,Zc]
    all_goals rfl
   ·rintro ys u g ⟨_,y,b,j⟩;refine⟨D,rfl,(z.cps.toList.map dG),?_,k g _ y ?_⟩
    ·have e:z.cps.toList.take z.cps.size=z.cps.toList:=by
      apply Zm;simp
     rw[e]at j;have:(z.cps.toList.map dG).map V.bl=ys:=by rw[j,Yb];rfl
     rw[this];exact SqL.of b
    ·have e:cc z=(z.cps.toList.map dG).all id:=by
      rw[all_map];unfold cc;rw[t,a];rfl
     rw[<-e];exact⟨λc=>⟨z,rfl,c⟩,λ⟨L,r,q⟩=>by cases r;exact q⟩
theorem oC(T:Txt K mg):Cal P w K mg base 1 "_law_is_cut" ["_law_text"] mT:=by
 refine T.d_law_is_cut.cal bP (λvs H Q E h=>?_) (λf bf A outer s H vs Q E M h=>?_)
 ·obtain⟨v,n,rfl,_⟩:=h;rfl
 ·obtain⟨v,n,rfl,kn,ht,q⟩:=h;refine⟨_,(QSs.h (ag (ifS (bU (bG (K:=K) rfl (λ_=>rfl) (cbO (cw (K:=K) rfl) T.b_isinstance boot_isinstance rfl (paE rfl (ad 0 rfl) (paE rfl (blE (v:= .ty "str") rfl T.b_str boot_str rfl rfl rfl) af)))))
   (ao (aM eBl))
   aI)
   (ag (aV 1 bP.nd rfl (bmO plainAttrs_str slot_str_split type_str_split nN rfl (ad 0 rfl) (paE rfl ax af)))
   (ag (aV 2 bP.nd rfl eBl)
   (ag (ef PassesOwn.never rfl rfl (eO rfl T.b_range rfl (paE rfl (cbO (bH (K:=K) rfl) T.b_len PySem.boot_len rfl (paE rfl (ad 1 rfl) af)) af)) (bb 3 bP.nd rfl)
   (ag (ifS (wT (orW (bF cW rfl (cbO (bH (K:=K) rfl) T.b_len PySem.boot_len rfl (paE rfl (cm (K:=K) rfl (λ_ _=>rfl) (ad 1 rfl) (ad 3 rfl)) af)) (cbO (bH (K:=K) rfl) T.b_len PySem.boot_len rfl (paE rfl (cm (K:=K) rfl (λ_ _=>rfl) (ad 1 rfl) ak) af))) (orW (bU (vZ j5 j5 rfl ak (cbO (bH (K:=K) rfl) T.b_len PySem.boot_len rfl (paE rfl (cm (K:=K) rfl (λ_ _=>rfl) (ad 1 rfl) (ad 3 rfl)) af)) ak)) (dI (bF tJ rfl (ad 3 rfl) ak)))))
    (ao (aM eBl))
    aI)
    (ao (ef PassesOwn.never rfl rfl (eO rfl T.b_range rfl (paE rfl (cbO (bH (K:=K) rfl) T.b_len PySem.boot_len rfl (paE rfl (cm (K:=K) rfl (λ_ _=>rfl) (ad 1 rfl) (ad 3 rfl)) af)) af)) (bb 4 bP.nd rfl)
    (ag (aV 5 bP.nd rfl (yh (λ_ _=>rfl) (cm (K:=K) rfl (λ_ _=>rfl) (ad 1 rfl) (ad 3 rfl)) (ad 4 rfl)))
     (ag (ifS (wT (orW (bF (nK (K:=K) rfl) rfl (ad 5 rfl) ax) (dI (wT (kS (bF tJ rfl (ad 3 rfl) ak) (kS (bF cV rfl (ad 5 rfl) ax) (jR (bF cW rfl (yh (λ_ _=>rfl) (cm (K:=K) rfl (λ_ _=>rfl) (ad 1 rfl) (opE mD (ad 3 rfl) ak)) (ad 4 rfl)) ax))))))))
     (ao (aM eBl))
     aI)
     (ao (aV 2 bP.nd rfl (orV (ad 2 rfl) (kR (hZ cW rfl (ad 5 rfl) ax)))))))))))
   (ao (aM (ad 2 rfl)))))))),?_⟩
  show bA _ _ _ [some v,none,none,none,none,none] H;refine ai λD1 k1 r1=>?_
  walk_at "rd";refine⟨_,kn.ty,_,kn.kit (.inl rfl),aA (λh=>r1 _ _ (q H false (ae.refl H) ⟨λc=>(nomatch c),λ⟨rows,e,_⟩=>?_⟩)) λh=>k1 _ _ ?_⟩
  ·subst e;cases kn;cases h
  cases kn<;> first|exact absurd rfl h|skip
  rename_i z
  obtain⟨rows,rfl,ok⟩:=ht z rfl;rw[xk ok]at q;have hp:0<rows.length:=length_pos_iff.mpr ok.pos;have bi:=ok.high;have a1:=ok.text (by decide);have au:=ok.split
  generalize Str.join nl rows=z at a1 au ⊢
  refine ai λD2 k2 r2=>?_
  walk_at "rd";refine⟨by decide,Y2 (by lia:z.length+2<=5000) (by decide),λR hR=>k2 _ _ ?_⟩;rw[show(Str.ofString "\n")=nl from rfl,au];have sR:=ae.upd (o:= .lst (rows.map V.str)) hR;have gR:upd H R (.lst (rows.map V.str)) R=_:=aa
  generalize upd H R (.lst (rows.map V.str))=H1 at sR gR
  have U:SqL K H1 R (rows.map V.str):=SqL.of gR;have no: ¬ aP rows->Q (.bl false) H1:=λh=>q H1 false sR ⟨λc=>(nomatch c),λc=>absurd c h⟩
  have y:∀(i:Nat) (hi:i<rows.length),atI (rows.map V.str) (i:Int)=some (V.str rows[i]):=λi hi=>bV (by simp[hi])
  have a2:atI (rows.map V.str) 0=some (V.str rows[0]):=y 0 hp;have av:∀(i:Nat) (hi:i<rows.length),rows[i].length<=50:=λi hi=>ok.wide _ (Y0 hi)
  have lw:∀(i:Nat) (hi:i<rows.length),rows[i].length<=sizeLine:=λi hi=>Y2 (av i hi) (by decide)
  refine ai λD3 k3 r3=>?_
  walk_at "rd";refine k3 _ _ (ai λD4 k4 r4=>aF λa8 hK=>?_);walk_at "rd";refine⟨_,.inl ⟨_,U,rfl⟩,(by rw[Z5];lia),(by rw[Z5];lia),hK _ _ (cg (λi Y H'=>H'=H1/\(∀k,k<i->rA rows k)/\∃(e:Bool) (o3 J I:Option V),Y=[some (.str z),some (.ref R),some (.bl e),o3,J,I]/\(e=true↔∃r∈rows.take i,∃c∈r.cps.toList,c≠46))
   ⟨rfl,λk hk=>absurd hk (Yi _),false,none,none,none,rfl,λh=>(nomatch h),λ⟨_,h,_⟩=>(nomatch h)⟩ ?_ ?_)⟩
  ·rintro i Y H' hi ⟨rfl,g,e,o3,J,I,rfl,he⟩;have hi:i<rows.length:=by simpa using hi
   have er:rows[i]? =some rows[i]:=by simp[hi]
   have e0:rows[0]? =some rows[0]:=by simp[hp]
   have p: ¬ rA rows i->D4.rt (.bl false) H':=λb=>r4 _ _ (no λc=>b (.of c hi))
   show bA _ _ _ [some (.str z),some (.ref R),some (.bl e),some (.int ((0:Int) +(i:Int))),J,I] H';rw[Int.zero_add];have lr:=av i hi;refine ai λD5 k5 r5=>?_
   walk_at "rd";refine⟨_,U,_,y i hi,_,⟨lw i hi,rfl⟩,_,U,_,a2,_,⟨lw 0 hp,rfl⟩,aA (λl=>r5 _ _ (p ?_)) λl=>⟨_,U,_,y i hi,_,⟨lw i hi,rfl⟩,aA (λh1=>aA (λh4=>r5 _ _ (p ?_)) λh4=>aA (λab=>r5 _ _ (p ?_)) λab=>?_) λh1=>r5 _ _ (p ?_)⟩⟩
   ·rintro⟨r,r0,C,B,hl,_⟩;rw[er]at C;rw[e0]at B;cases C;cases B;simp[hl]at l
   ·rintro⟨r,r0,C,_,_,_,bl,_⟩;rw[er]at C;cases C;simp at h4
    lia
   ·rintro⟨_,_,_,_,_,_,_,q,_⟩;have:=Zn ab
    lia
   ·have hl:rows[i].length=rows[0].length:=by
     have:(rows[i].length:Int)=(rows[0].length:Int):=by simpa using l
     lia
    have w1:1<=rows[i].length:=by
     have:=Zn h1
     lia
    have w2:rows[i].length<=40:=by
     have:(rows[i].length:Int)<=40:=by simpa using h4
     lia
    have a3:i<=39:=by
     have: ¬ (39:Int)<i:=λq=>ab (Ze q)
     lia
    refine k5 _ _ (aU λD6 k6 r6=>aF λa4 a5=>?_);have a9: ¬ rA rows i->D6.rt (.bl false) H':=λb=>r6 _ _ (p b)
    have N:∀j c,rows[i].cps[j]? =some c-> ¬ yO rows i j c-> ¬ rA rows i:=λj c O ns ⟨r,_,C,_,_,_,_,_,sg⟩=>by
     rw[er]at C;cases C;exact ns (sg j c O)
    walk_at "rd";refine⟨_,U,_,y i hi,_,⟨lw i hi,rfl⟩,by lia,by lia,a5 _ _ (cg (λj Y H2=>H2=H'/\(∀k c,k<j->rows[i].cps[k]? =some c->yO rows i k c)/\∃(B:Bool) (J I:Option V),Y=[some (.str z),some (.ref R),some (.bl B),some (.int (i:Int)),J,I]/\(B=true↔e=true\/∃c∈rows[i].cps.toList.take j,c≠46)) ⟨rfl,λk c h=>absurd h (Yi _),e,J,I,rfl,by simp⟩ ?_ ?_)⟩
    ·rintro j Y H2 hj ⟨rfl,L,B,J,I,rfl,D⟩;have hj:j<rows[i].cps.size:=by
      have q:j<rows[i].length:=by simpa using hj
      exact q
     have ec:rows[i].cps[j]? =some rows[i].cps[j]:=by simp[hj]
     have ac:atI rows[i].cps.toList (j:Int)=some rows[i].cps[j]:=bV (by simpa using ec);have tk:rows[i].cps.toList.take (j+1)=rows[i].cps.toList.take j++[rows[i].cps[j]]:=(de rows[i] j _ ec).symm
     generalize rows[i].cps[j]=c at ec ac tk
     show bA _ _ _ [some (.str z),some (.ref R),some (.bl B),some (.int (i:Int)),some (.int ((0:Int) +(j:Int))),I] H2;rw[Int.zero_add];refine ai λD7 k7 r7=>?_
     walk_at "rd";refine⟨_,U,_,y i hi,_,rfl,lw i hi,_,ac,k7 _ _ (ai λD8 k8 r8=>?_)⟩;have al:yO rows i j c->D8.nx [some (.str z),some (.ref R),some (.bl B),some (.int (i:Int)),some (.int (j:Int)),some (.str ⟨#[c]⟩)] H2:=λsg=>by
      refine k8 _ _ (aU λD9 k9 r9=>?_);have last:∀b:Bool,(b=true↔B=true\/c≠46)->D9.nx [some (.str z),some (.ref R),some (.bl b),some (.int (i:Int)),some (.int (j:Int)),some (.str ⟨#[c]⟩)] H2:=λb hb=>k9 _ _ ⟨rfl,λk c' hk O=>by
       by_cases q:k=j
       ·subst q;rw[ec]at O;cases O;exact sg
       ·exact L k c' (by lia) O,b,_,_,rfl,by
       rw[hb,D,tk,or_assoc];refine or_congr_right ⟨λh=>h.elim (λ⟨x,hx,nx⟩=>⟨x,mem_append.mpr (.inl hx),nx⟩) λnx=>⟨c,mem_append.mpr (.inr (mem_singleton.mpr rfl)),nx⟩,λ⟨x,hx,nx⟩=>?_⟩;rcases Yt hx with hx|hx
       ·exact .inl ⟨x,hx,nx⟩
       ·rw[Yu hx]at nx;exact .inr nx⟩
      walk_at "rd";refine aA (λh=>last true (by simp[h])) λh=>last _ ?_
      have:B=false:=by simpa using h
      subst this;rw[show decide ((⟨#[c]⟩:Str)=Str.ofString ".")=decide (c=46)from decide_eq_decide.mpr (eI c)];simp
     walk_at "rd";rw[kO,AU];cases G:okc c with
     | false=>exact gP rfl (r8 _ _ (r6 _ _ (p (N j c ec λsg=>by rw[sg.1]at G;cases G))))
     | true=>
       refine io (aA (λt=>?_) λt=>al ⟨G,λ⟨q,_⟩=>t (Ze (by lia))⟩);have t:0<(i:Int):=Zn t;refine aA (λm=>?_) λm=>al ⟨G,λ⟨_,q,_⟩=>m (Ze ((eI _).mpr q))⟩
       have m:c=46:=(eI _).mp (Zn m);obtain⟨a,rfl⟩:∃a,i=a+1:=⟨i-1,by lia⟩
       have h':a<rows.length:=by lia
       have a6:(((a+1:Nat):Int) -1)=(a:Int):=by lia
       obtain⟨u,u0,eu,a0,ul,_⟩:=g a (by lia);have an:rows[a]? =some rows[a]:=by simp[h']
       rw[an]at eu;rw[e0]at a0;cases eu;cases a0;have a7:j<rows[a].cps.size:=by
        have:rows[a].cps.size=rows[a+1].cps.size:=ul.trans hl.symm
        lia
       have as:rows[a].cps[j]? =some rows[a].cps[j]:=by simp[a7]
       refine⟨_,U,V.str rows[a],by rw[a6];exact y a h',_,rfl,lw a h',rows[a].cps[j],bV (by simpa using as),aA (λl=>r8 _ _ (r6 _ _ (p (N j c ec λsg=>sg.2 ⟨by lia,m,_,_,an,as,λq=>?_⟩)))) λl=>al ⟨G,λ⟨_,_,u,d,hu,hd,nd⟩=>?_⟩⟩
       ·rw[(eI _).mpr q]at l;simp at l
       ·rw[show a+1-1=a from rfl,an]at hu;cases hu;rw[as]at hd;cases hd;refine l ?_;rw[Zg (λz=>nd ((eI _).mp z))];rfl
    ·rintro Y H2 ⟨rfl,L,B,J,I,rfl,D⟩;rw[Int.toNat_natCast]at L D;have tl:rows[i].cps.toList.take rows[i].length=rows[i].cps.toList:=Zm (by simp[Str.length]);rw[tl]at D;refine k6 _ _ ⟨rfl,λk hk=>?_,B,_,_,_,rfl,?_⟩
     ·rcases lt_or_ge k i with q|q
      ·exact g k q
      ·have q:k=i:=by lia
       subst q;exact⟨_,_,er,e0,hl,w1,w2,a3,λj c O=>L j c (Array.getElem?_eq_some_iff.mp O).1 O⟩
     ·rw[D,he,Ym,er];show _↔∃r∈rows.take i++[rows[i]],_;refine⟨λh=>h.elim (λ⟨r,M,x⟩=>⟨r,mem_append.mpr (.inl M),x⟩) λx=>⟨_,mem_append.mpr (.inr (mem_singleton.mpr rfl)),x⟩,λ⟨r,M,x⟩=>?_⟩;rcases Yt M with M|M
      ·exact .inl ⟨r,M,x⟩
      ·rw[Yu M]at x;exact .inr x
   ·rintro⟨r,r0,C,_,_,w1,_⟩;rw[er]at C;cases C;exact h1 (Ze (by lia))
  ·rintro Y H' ⟨rfl,g,e,o3,J,I,rfl,he⟩;refine k4 _ _ ?_;walk_at "rd";rw[Z5,Int.toNat_natCast]at g he;rw[Zm (Zh _)]at he;refine q _ e sR ?_;exact⟨λh=>cutG ok.pos g (he.mp h),λh=>he.mpr h.some'⟩
def xl:Sp:=λvs H Q _=>∃(l:Addr) (xs:List V),vs=[.ref l]/\H l=some (.lst xs)/\xs.length<=1000/\(∀x∈xs,KnC H x)/\∀a,ae H a->((∀i,i<xs.length-> ¬ cI H xs i)->Q .non a)/\∀i:Nat,eW (cI H xs) xs.length i->Q (.int i) a
theorem kg(T:Txt K mg):Cal P w K mg base 2 "_law_wrong_cut" ["_law_cuts"] xl:=by
 refine T.d_law_wrong_cut.cal cF (λvs H Q E h=>?_) (λf a1 A outer s H vs Q E hr h=>?_)
 ·obtain⟨l,xs,rfl,_⟩:=h;rfl
 ·obtain⟨l,xs,rfl,hl,a2,au,kk⟩:=h;refine⟨_,(QSs.h (ag (aV 1 cF.nd rfl (bB af))
   (ag (ef PassesOwn.never rfl rfl (eO rfl T.b_range rfl (paE rfl (cbO (bH (K:=K) rfl) T.b_len PySem.boot_len rfl (paE rfl (ad 0 rfl) af)) af)) (bb 2 cF.nd rfl)
   (ag (aV 3 cF.nd rfl (cm (K:=K) rfl (λ_ _=>rfl) (ad 0 rfl) (ad 2 rfl)))
    (ag (ifS (wT (orW (bF cV rfl (ad 2 rfl) ak) (orW (bU (bG (K:=K) rfl (λ_=>rfl) (cbO (cw (K:=K) rfl) T.b_isinstance boot_isinstance rfl (paE rfl (ad 3 rfl) (paE rfl (blE (v:= .ty "tuple") rfl T.b_tuple boot_tuple rfl rfl rfl) af))))) (orW (bF cW rfl (cbO (bH (K:=K) rfl) T.b_len PySem.boot_len rfl (paE rfl (ad 3 rfl) af)) ak) (dI (bU (bG (K:=K) rfl (λ_=>rfl) (aZ (lY T) hr rfl (paE rfl (cL (K:=K) rfl (λ_ _=>rfl) (ad 3 rfl) ak) af)))))))))
    (ao (aM (ad 2 rfl)))
    aI)
    (ag (ifS (wT (orW (bF (nJ (K:=K) rfl) rfl (cL (K:=K) rfl (λ_ _=>rfl) (ad 3 rfl) ak) (ad 1 rfl)) (dI (bU (bG (K:=K) rfl (λ_=>rfl) (aZ (oC T) hr rfl (paE rfl (cL (K:=K) rfl (λ_ _=>rfl) (ad 3 rfl) ak) af)))))))
    (ao (aM (ad 2 rfl)))
    aI)
    (ao (cM rfl (bmO plainAttrs_list PySem.F.slot_list_append PySem.F.type_list_append cx rfl (ad 1 rfl) (paE rfl (cL (K:=K) rfl (λ_ _=>rfl) (ad 3 rfl) ak) af))))))))
   (ao (aM fX))))),?_⟩
  show bA _ _ _ [some (.ref l),none,none,none] H;refine ai λD1 k1 r1=>?_
  walk_at "rd";refine⟨Yn _,λL hL=>k1 _ _ (ai λD2 k2 r2=>aF λa0 hK=>?_)⟩;walk_at "rd";refine⟨_,.inl ⟨_,SqL.of (ae.upd hL _ _ hl),rfl⟩,by lia,by lia,hK _ _ (cg (λi σ r=>(∀j,j<i-> ¬ cI H xs j)/\∃o2 o3,σ=[some (.ref l),some (.ref L),o2,o3]/\ae H r/\∃G:List Str,r L=some (.lst (G.map V.str))/\G.length<=i/\∀z,z∈G↔∃j,j<i/\fC H xs j z)
   ⟨λj I=>absurd I (Yi _),none,none,rfl,ae.upd hL,[],aa,Zh _,λz=>⟨λh=>(nomatch h),λ⟨j,I,_⟩=>absurd I (Yi _)⟩⟩ ?_ ?_)⟩
  ·rintro i σ r hi ⟨c,o2,o3,rfl,t,G,N,a3,O⟩;have hi:i<xs.length:=by simpa using hi
   have B:xs[i]? =some xs[i]:=Z4 hi
   generalize xs[i]=x at B
   have kc:=au x (Z7 B);obtain⟨n,kn⟩:=kc.kd.kn;show bA _ _ _ [some (.ref l),some (.ref L),some (.int ((0:Int) +(i:Int))),o3] r;rw[Int.zero_add];have ab:∀d,ae r d->cI H xs i->D2.rt (.int (i:Int)) d:=λd C b=>r2 _ _ ((kk d (t.trans C)).2 i ⟨hi,c,b⟩)
   refine ai λD3 k3 r3=>?_
   walk_at "rd";refine⟨_,SqL.of (t _ _ hl),_,bV B,k3 _ _ (ai λD4 k4 r4=>?_)⟩;have g:∀d,ae r d->cI H xs i->D4.rt (.int (i:Int)) d:=λd C b=>r4 _ _ (ab d C b)
   walk_at "rd";refine aA (λh8=>g _ (ae.refl _) (.inl (by have:=Zn h8;lia))) λh8=>⟨_,(kn.up t).ty,_,(kn.up t).kit (.inr (.inl rfl)),aA (λht=>g _ (ae.refl _) (.inr (.inl ⟨x,B,λ⟨p,ys,e,k,_⟩=>?_⟩))) λht=>?_⟩
   ·subst e;cases kn with
    | lst a=>rw[a]at k;cases k
    | tup a=>cases ht
    | dct a=>rw[a]at k;cases k
   cases kn<;> first|exact absurd rfl ht|skip
   rename_i p ys k
   have st:=λ{d} (C:ae r d)=>SqT.of (K:=K) (C _ _ (t _ _ k))
   refine⟨ys.length,.inr ⟨_,st (ae.refl _),rfl⟩,aA (λU=>g _ (ae.refl _) (.inr (.inl ⟨_,B,λ⟨p',zs,e,ac,z,rows,e2,_⟩=>?_⟩))) λU=>?_⟩
   ·cases e;rw[k]at ac;cases ac;rw[e2]at U;simp at U
   have U:ys.length=2:=by
    have:(ys.length:Int)=2:=by simpa using U
    lia
   obtain⟨x,y,rfl⟩:=xh U;obtain⟨⟨n1,kx⟩,lx⟩:=kc.kd.it p _ rfl k x (by simp);obtain⟨⟨n2,ky⟩,_⟩:=kc.kd.it p _ rfl k y (by simp);have sv:cH H (.ref p)↔sJ x/\uN y:=⟨λ⟨q',ys,e,o,z,rows,e2,a,b⟩=>by cases e;rw[k]at o;cases o;cases e2;exact⟨⟨z,rfl,a⟩,rows,rfl,b⟩,
    λ⟨⟨z,e1,a⟩,rows,e2,b⟩=>by subst e1 e2;exact⟨p,_,rfl,k,z,rows,rfl,a,b⟩⟩
   refine⟨_,rfl,_,st (ae.refl _),_,rfl,x,n1,rfl,kx.up t,lx,λH1 c1 J al=>⟨c1,rfl,aA (λg1=>g _ J (.inr (.inl ⟨_,B,λh=>?_⟩))) λg1=>k4 _ _ (ai λD5 k5 r5=>?_)⟩⟩
   ·rw[al.mpr (sv.mp h).1]at g1;cases g1
   have M:∀d,ae r d->cI H xs i->D5.rt (.int (i:Int)) d:=λd C b=>r5 _ _ (ab d C b)
   have nx:sJ x:=by
    cases c1 with
    | true=>exact al.mp rfl
    | false=>exact absurd rfl g1
   obtain⟨z,rfl,hz⟩:=nx;have m:∀{u},fC H xs i u↔u=z:=λ{u}=>⟨λ⟨q,ys,e,o⟩=>by rw[B]at e;cases e;rw[k]at o;cases o;rfl,λe=>e▸⟨p,_,B,k⟩⟩
   walk_at "rd";refine⟨_,st J,_,rfl,_,.inl (SqL.of (J _ _ N)),rfl,mS G,?_⟩;rw[kr];refine aA (λg2=>M _ J ?_) λg2=>⟨_,st J,_,rfl,y,n2,rfl,ky.up (t.trans J),kc.tx p _ rfl k y (by simp),λd c2 C an=>⟨c2,rfl,aA (λg3=>M _ (J.trans C) (.inr (.inl ⟨_,B,λh=>?_⟩))) λg3=>k5 _ _ (aU λD6 k6 r6=>?_)⟩⟩
   ·obtain⟨j,I,Y⟩:=(O z).mp (Zn g2);exact .inr (.inr ⟨j,z,I,Y,m.mpr rfl⟩)
   ·rw[an.mpr (sv.mp h).2]at g3;cases g3
   have as:z∉G:=λh=>g2 (Ze h)
   have ok:cH H (.ref p):=sv.mpr ⟨⟨z,rfl,hz⟩,by
    cases c2 with
    | true=>exact an.mp rfl
    | false=>exact absurd rfl g3⟩
   have D:=J.trans C;walk_at "rd";refine⟨.inl ⟨_,SqL.of (D _ _ N)⟩,_,st D,_,rfl,_,D _ _ N,by rw[Z5];exact bp (by lia),k6 _ _ ⟨λj I=>?_,_,_,rfl,ae.set (t.trans D) hL,G++[z],by rw[aa,Zc];rfl,by rw[Z8,Y5];lia,λu=>?_⟩⟩
   ·rcases lt_or_ge j i with q|q
    ·exact c j q
    ·have e:j=i:=by lia
     subst e;rintro(e|⟨y',hy,ny⟩|⟨j',u,av,m1,m2⟩)
     ·exact h8 (by simp[e])
     ·rw[B]at hy;cases hy;exact ny ok
     ·rw[m]at m2;subst m2;exact as ((O _).mpr ⟨j',av,m1⟩)
   ·rw[Yc,mem_singleton,O];refine⟨λh=>h.elim (λ⟨j,I,Y⟩=>⟨j,by lia,Y⟩) λe=>⟨i,by lia,m.mpr e⟩,λ⟨j,I,Y⟩=>?_⟩;rcases lt_or_ge j i with q|q
    ·exact .inl ⟨j,q,Y⟩
    ·have e:j=i:=by lia
     subst e;exact .inr (m.mp Y)
  ·rintro σ r ⟨c,o2,o3,rfl,t,G,_⟩;refine k2 _ _ ?_;walk_at "rd";rw[Int.toNat_natCast]at c;exact(kk r t).1 c
theorem xn{z:Str}{g:TG}{k:TS}{D:d9}(Pv:Nat->St->Hp->Prop)(n:Pv 0 a H)
 (o:∀i c a H,z.cps[i]? =some c->Pv i a H->g (.str ⟨#[c]⟩) a H λb j=>k {D with nx:=Pv (i+1),ct:=Pv (i+1),bk:=D.nx} b j) (q:∀a H,Pv z.cps.size a H->D.nx a H):
 ∃W:Nat->Nat->St->Hp->Prop,(∃m,W 0 m a H)/\∀i m a H,W i m a H->
  ((Its z).stop i H/\D.nx a H)\/((Its z).go i H/\∃N:St->Hp->Prop,(∀d f,N d f->∃l,l<m/\W (i+1) l d f)/\∀x f,(Its z).yld i H x f->g x a f λb j=>k {D with nx:=N,ct:=N,bk:=D.nx} b j):=by
 refine⟨λi m a H=>m=z.cps.size-i/\i<=z.cps.size/\Pv i a H,⟨z.cps.size,by simp,Yn _,n⟩,?_⟩;rintro i m a H ⟨rfl,hi,p⟩;by_cases h:i<z.cps.size
 ·refine .inr ⟨h,Pv (i+1),λd f r=>⟨z.cps.size-(i+1),by lia,rfl,h,r⟩,λx f y=>?_⟩;obtain⟨e,c,s,rfl⟩:=y;subst e;exact o i c a _ s p
 ·have e:i=z.cps.size:=by lia
  subst e;exact .inl ⟨Zh _,q a H p⟩
theorem xo(h:aP rows):Let rows c↔c∈(Str.join nl rows).cps.toList/\c≠46/\c≠10:=by
 constructor
 ·rintro⟨f,r,b,d⟩;have a:c≠10:=λe=>h.nonl r b (e▸d)
  exact⟨(gB a).mpr ⟨r,b,d⟩,f,a⟩
 ·rintro⟨f,g,i⟩;obtain⟨r,b,d⟩:=(gB i).mp f;exact⟨g,r,b,d⟩
theorem AV(n z:Str):n++Str.ofString "."++z=lnS n z:=by
 refine iR ?_;show(n.cps++ #[46] ++z.cps).toList=(#[] ++n.cps++ #[46] ++z.cps).toList;simp
def lI(H:Hp)(d:Addr)(b:List Str):Prop:=∃a,H d=some (.dK a)/\∀z,(Sum.inr z:Key)∈a.map (·.1)↔z∈b
def AW:Sp:=λvs H Q _=>∃(l:Addr) (cs:List (Addr×Str×List Str)),vs=[.ref l]/\H l=some (.lst (aT cs))/\aO H cs/\cs.length<=8/\∀d a,ae H a->lI a d (cs.flatMap lyr)->Q (.ref d) a
def yQ:Sp:=λvs H Q _=>∃(v:V) (d:Addr) (a:List Str),vs=[v,.ref d]/\KnD H v/\lI H d a/\∀c b,ae H b->(c=true↔fO H a v)->Q (.bl c) b
theorem lI.get(h:lI H d c)(z:Str):∃o,nE H d (.str z) o/\(o.isSome=true↔z∈c):=by
 obtain⟨a,e,f⟩:=h;refine⟨_,nE.k (k:=Sum.inr z) e,?_⟩;rw[<-f];cases b:hV a (Sum.inr z:Key)with
 | some v=>exact⟨λ_=>rP b,λ_=>rfl⟩
 | none=>exact⟨λh=>(nomatch h),λh=>absurd h (oR b)⟩
theorem oE(T:Txt K mg):Cal P w K mg base 1 "_law_layers" ["_law_cuts"] AW:=by
 refine T.d_law_layers.cal cJ (λvs H Q E h=>?_) (λf av A outer s H vs Q E hr h=>?_)
 ·obtain⟨l,cs,rfl,_⟩:=h;rfl
 ·obtain⟨l,cs,rfl,hl,ab,h8,k⟩:=h;have D:(aT cs).length=cs.length:=Z5 _;refine⟨_,(QSs.h (ag (aV 1 cJ.nd rfl oV)
   (ag (ef PassesOwn.never rfl rfl (fY (K:=K) rfl (ad 0 rfl)) (fN (K:=K) rfl rfl rfl (gsE rfl (bb 2 cJ.nd rfl) (gsE rfl (bb 3 cJ.nd rfl) cU)))
   (ao (ef PassesOwn.never rfl rfl (fY (K:=K) rfl (ad 3 rfl)) (bb 4 cJ.nd rfl)
    (ao (ifS (bF (nK (K:=K) rfl) rfl (ad 4 rfl) ax)
     (ao (ze hr rfl eBl (ad 1 rfl) (opE bS (opE bS (ad 2 rfl) ax) (ad 4 rfl))))
     aI)))))
   (ao (aM (ad 1 rfl)))))),?_⟩
  show bA _ _ _ [some (.ref l),none,none,none,none] H;refine ai λD1 k1 _=>?_
  walk_at "rd";refine λd hd=>k1 _ _ (ai λD2 k2 _=>aF λG hK=>?_)
  walk_at "rd";refine .inl ⟨⟨_,SqL.of (ae.upd hd _ _ hl)⟩,hK _ _ (fQ (λi r y=>∃o2 o3 t,r=[some (.ref l),some (.ref d),o2,o3,t]/\ae H y/\∃g:List (Key×V),y d=some (.dK g)/\g.length<=2000*i/\∀x,(Sum.inr x:Key)∈g.map (·.1)↔x∈(cs.take i).flatMap lyr)
   ⟨none,none,none,rfl,ae.upd hd,[],aa,Yn _,λx=>⟨λh=>(nomatch h),λh=>(nomatch h)⟩⟩ (λi r y _ ⟨_,_,_,_,q,_⟩=>SqL.of (q _ _ hl)) ?_ ?_)⟩
  ·rintro i x r y O ⟨o2,o3,t,rfl,U,g,n,B,m⟩;have hi:i<cs.length:=by rw[<-D];exact(Ys O).1
   obtain⟨q,hq,rfl⟩:∃q,cs[i]? =some q/\x=V.ref q.1:=by
    unfold aT at O;rw[Zk,Z4 hi]at O;exact⟨cs[i],Z4 hi,(Z9 O).symm⟩
   have p:=ab q (Z7 hq);have ac:=p.2.2.text;have u:=λc=>xo p.2.2 (c:=c)
   refine⟨_,SqT.of (U _ _ p.1),rfl,_,_,rfl,_,_,rfl,rfl,?_⟩;show vk _ _ _ _ [some (.ref l),some (.ref d),some (.str q.2.1),some (.str (Str.join nl q.2.2)),t] y
   generalize Str.join nl q.2.2=z at ac u
   have a0:z.length=z.cps.size:=rfl;refine aU λD3 k3 _=>aF λG hK=>?_
   walk_at "rd";refine hK _ _ (xn (λj r I=>∃t,r=[some (.ref l),some (.ref d),some (.str q.2.1),some (.str z),t]/\ae H I/\∃g:List (Key×V),I d=some (.dK g)/\g.length<=2000*i+j/\∀x,(Sum.inr x:Key)∈g.map (·.1)↔x∈(cs.take i).flatMap lyr\/∃c∈z.cps.toList.take j,c≠46/\c≠10/\x=lnS q.2.1 (sgn c))
    ⟨_,rfl,U,g,n,by lia,λx=>by rw[m];simp⟩ ?_ ?_)
   ·rintro j c r I hc ⟨t,rfl,Y,g,n,B,m⟩;show m9 _ _ _ _ [some (.ref l),some (.ref d),some (.str q.2.1),some (.str z),some (.str ⟨#[c]⟩)] I;refine aU λD4 k4 _=>?_
    have hj:j<z.cps.size:=(Array.getElem?_eq_some_iff.mp hc).1;have J:z.cps.toList.take (j+1)=z.cps.toList.take j++[c]:=(de z j c hc).symm;walk_at "rd";rw[kO];have e2:(c∈(Str.ofString ".\n").cps.toList)↔(c=46\/c=10):=by
     show c∈[46,10]↔_;simp
    refine aA (λv=>?_) λv=>?_
    ·have v: ¬ (c=46\/c=10):=by
      rw[<-e2];simpa using v
     have al:c≠46:=λe=>v (.inl e)
     have an:c≠10:=λe=>v (.inr e)
     have au:=d8 p.2.1;have ea:∀a b:Str,(a++b).length=a.length+b.length:=λa b=>size_append
     have e1:(Str.ofString ".").length=1:=rfl;refine⟨aH (by lia),aH (by rw[ea,show(⟨#[c]⟩:Str).length=1 from rfl];lia),?_⟩;rw[show q.2.1++Str.ofString "."++(⟨#[c]⟩:Str)=lnS q.2.1 (sgn c)from AV _ _];refine⟨_,tq.k (k:=Sum.inr (lnS q.2.1 (sgn c))) n (Nat.lt_of_le_of_lt (show g.length<=50000 by lia) (by decide)),k4 _ _ ⟨_,rfl,ae.set Y hd,_,aa,?_,λx=>?_⟩⟩
     ·have:=congrArg List.length (jq g (Sum.inr (lnS q.2.1 (sgn c)):Key) (V.bl true));rw[Z5]at this;rw[this]
      split
      ·rw[Z5];lia
      ·rw[Z8,Z5,Y5];lia
     ·have as:(Sum.inr x:Key)∈(hX g (Sum.inr (lnS q.2.1 (sgn c)):Key) (V.bl true)).map (·.1)↔(Sum.inr x:Key)∈g.map (·.1)\/x=lnS q.2.1 (sgn c):=by
       rw[jq]
       split
       ·rename_i h
        exact⟨.inl,λz=>z.elim id λe=>e▸h⟩
       ·rw[Yc,mem_singleton,Sum.inr.injEq]
      rw[as,m,J]
      constructor
      ·rintro((h|⟨C,o,h⟩)|e)
       ·exact .inl h
       ·exact .inr ⟨C,mem_append.mpr (.inl o),h⟩
       ·exact .inr ⟨c,mem_append.mpr (.inr (mem_singleton.mpr rfl)),al,an,e⟩
      ·rintro(h|⟨C,o,L,M,N⟩)
       ·exact .inl (.inl h)
       ·rcases Yt o with z|z
        ·exact .inl (.inr ⟨C,z,L,M,N⟩)
        ·rw[Yu z]at N;exact .inr N
    ·have v:c=46\/c=10:=by
      rw[<-e2];simpa using v
     refine k4 _ _ ⟨_,rfl,Y,g,n,by lia,λx=>?_⟩;rw[m,J];refine or_congr_right ⟨λ⟨C,o,h⟩=>⟨C,mem_append.mpr (.inl o),h⟩,λ⟨C,o,L,M,N⟩=>?_⟩;rcases Yt o with z|z
     ·exact⟨C,z,L,M,N⟩
     ·rw[Yu z]at L M;exact v.elim (λe=>absurd e L) λe=>absurd e M
   ·rintro r I ⟨t,rfl,Y,g,n,B,m⟩;refine k3 _ _ ⟨_,_,_,rfl,Y,g,n,by lia,λx=>?_⟩;rw[m,Ym,hq,Zm (l:=z.cps.toList) (by simp),Zy,Yc];refine or_congr_right ?_;show _↔x∈[q].flatMap lyr;rw[List.flatMap_singleton,yP];exact exists_congr λc=>by rw[u c];exact⟨λ⟨a,b,c,d⟩=>⟨⟨a,b,c⟩,d⟩,λ⟨⟨a,b,c⟩,d⟩=>⟨a,b,c,d⟩⟩
  ·rintro r y ⟨o2,o3,t,rfl,U,g,n,B,m⟩;refine k2 _ _ ?_;walk_at "rd";rw[D,Zm (Zh _)]at m;exact k d y U ⟨g,n,m⟩
theorem kh(T:Txt K mg):Cal P w K mg base 1 "_law_is_saying" ["_law_thing","_law_layers_here"] yQ:=by
 refine T.d_law_is_saying.cal jA (λvs H Q E h=>?_) (λf av A outer s H vs Q E hr h=>?_)
 ·obtain⟨v,d,L,rfl,_⟩:=h;rfl
 ·obtain⟨v,d,L,rfl,kd,hd,k⟩:=h;obtain⟨n,kn⟩:=kd.kn;refine⟨_,(QSs.h (ag (ifS (wT (orW (bU (bG (K:=K) rfl (λ_=>rfl) (cbO (cw (K:=K) rfl) T.b_isinstance boot_isinstance rfl (paE rfl (ad 0 rfl) (paE rfl (blE (v:= .ty "tuple") rfl T.b_tuple boot_tuple rfl rfl rfl) af))))) (orW (bF cW rfl (cbO (bH (K:=K) rfl) T.b_len PySem.boot_len rfl (paE rfl (ad 0 rfl) af)) ak) (dI (bU (bG (K:=K) rfl (λ_=>rfl) (cbO (cw (K:=K) rfl) T.b_isinstance boot_isinstance rfl (paE rfl (cL (K:=K) rfl (λ_ _=>rfl) (ad 0 rfl) ak) (paE rfl (blE (v:= .ty "str") rfl T.b_str boot_str rfl rfl rfl) af)))))))))
   (ao (aM eBl))
   aI)
   (ag (ifS (wT (orW (bU (bG (K:=K) rfl (λ_=>rfl) (cbO (cw (K:=K) rfl) T.b_isinstance boot_isinstance rfl (paE rfl (cL (K:=K) rfl (λ_ _=>rfl) (ad 0 rfl) ak) (paE rfl (blE (v:= .ty "str") rfl T.b_str boot_str rfl rfl rfl) af))))) (dI (yz hr rfl (cL (K:=K) rfl (λ_ _=>rfl) (ad 0 rfl) ak) (ad 1 rfl)))))
   (ao (aM eBl))
   aI)
   (ag (ifS (bF (nJ (K:=K) rfl) rfl (cL (K:=K) rfl (λ_ _=>rfl) (ad 0 rfl) ak) (aE (paE rfl ax (paE rfl ax af))))
   (ao (aM (j3 (cbO (cw (K:=K) rfl) T.b_isinstance boot_isinstance rfl (paE rfl (cL (K:=K) rfl (λ_ _=>rfl) (ad 0 rfl) ak) (paE rfl (blE (v:= .ty "str") rfl T.b_str boot_str rfl rfl rfl) af))) (j3 (dinE hr rfl (cL (K:=K) rfl (λ_ _=>rfl) (ad 0 rfl) ak) (ad 1 rfl)) (kR (hZ cW rfl (cL (K:=K) rfl (λ_ _=>rfl) (ad 0 rfl) ak) (cL (K:=K) rfl (λ_ _=>rfl) (ad 0 rfl) ak)))))))
   aI)
   (ag (ifS (wT (orW (bF (nK (K:=K) rfl) rfl (cL (K:=K) rfl (λ_ _=>rfl) (ad 0 rfl) ak) (aE (paE rfl ax (paE rfl ax af)))) (orW (bU (bG (K:=K) rfl (λ_=>rfl) (cbO (cw (K:=K) rfl) T.b_isinstance boot_isinstance rfl (paE rfl (cL (K:=K) rfl (λ_ _=>rfl) (ad 0 rfl) ak) (paE rfl (blE (v:= .ty "int") rfl T.b_int boot_int rfl rfl rfl) af))))) (dI (bG (K:=K) rfl (λ_=>rfl) (cbO (cw (K:=K) rfl) T.b_isinstance boot_isinstance rfl (paE rfl (cL (K:=K) rfl (λ_ _=>rfl) (ad 0 rfl) ak) (paE rfl (blE (v:= .ty "bool") rfl T.b_bool boot_bool rfl rfl rfl) af))))))))
   (ao (aM eBl))
   aI)
   (ao (aM (nH j5 j5 rfl (oU ak) (cL (K:=K) rfl (λ_ _=>rfl) (ad 0 rfl) ak) ak)))))))),?_⟩
  show bA _ _ _ [some v,some (.ref d)] H;have p:∀{H'},ae H H'-> ¬ fO H L v->Q (.bl false) H':=λs h=>k false _ s ⟨λc=>(nomatch c),λc=>absurd c h⟩
  have U:=ae.refl H;refine ai λD1 k1 r1=>?_
  walk_at "rd";refine⟨_,kn.ty,_,kn.kit (.inr (.inl rfl)),aA (λh=>r1 _ _ (p U λ⟨q,xs,e,r,_⟩=>?_)) λh=>?_⟩
  ·subst e;cases kn with
   | lst a=>rw[a]at r;cases r
   | tup a=>cases h
   | dct a=>rw[a]at r;cases r
  cases kn<;> first|exact absurd rfl h|skip
  rename_i q xs r
  have st:=SqT.of (K:=K) r;refine⟨xs.length,.inr ⟨_,st,rfl⟩,aA (λY=>r1 _ _ (p U λ⟨q',ys,e,t,sy⟩=>?_)) λY=>?_⟩
  ·cases e;rw[r]at t;cases t;rcases sy with⟨_,_,_,rfl,_⟩|⟨_,_,_,rfl,_⟩<;> simp at Y
  have Y:xs.length=3:=by
   have:(xs.length:Int)=3:=by simpa using Y
   lia
  obtain⟨x,y,z,rfl⟩:=BO Y;have it:=kd.it q _ rfl r;obtain⟨⟨n1,kx⟩,_⟩:=it x (by simp);obtain⟨⟨n2,ky⟩,_⟩:=it y (by simp);obtain⟨⟨n3,I⟩,_⟩:=it z (by simp);have sv:fO H L (.ref q)↔ig L [x,y,z]:=⟨λ⟨q',ys,e,t,sy⟩=>by cases e;rw[r]at t;cases t;exact sy,λh=>⟨q,_,rfl,r,h⟩⟩
  rw[sv]at k p;refine⟨_,rfl,_,st,_,rfl,_,kx.ty,_,kx.kit (.inl rfl),aA (λhx=>r1 _ _ (p U ?_)) λhx=>k1 _ _ (ai λD2 k2 r2=>?_)⟩
  ·rintro(⟨g,a,b,e,_⟩|⟨g,a,i,e,_⟩)<;> cases e<;> cases kx<;> cases hx
  obtain⟨wd,rfl⟩:∃wd,x= .str wd:=by cases kx<;> first|exact absurd rfl hx|exact⟨_,rfl⟩
  walk_at "rd";refine⟨_,st,_,rfl,_,ky.ty,_,ky.kit (.inl rfl),aA (λhy=>r2 _ _ (p U ?_)) λhy=>?_⟩
  ·rintro(⟨g,a,b,e,_⟩|⟨g,a,i,e,_⟩)<;> cases e<;> cases ky<;> cases hy
  obtain⟨a,rfl⟩:∃a,y= .str a:=by cases ky<;> first|exact absurd rfl hy|exact⟨_,rfl⟩
  obtain⟨o,go,ho⟩:=hd.get a;refine⟨_,st,_,rfl,_,go,aA (λh=>r2 _ _ (p U ?_)) λh=>k2 _ _ (ai λD3 k3 r3=>?_)⟩
  ·have: ¬ a∈L:=λm=>by rw[ho.mpr m]at h;cases h
   rintro(⟨g,l,b,e,_,m,_⟩|⟨g,l,i,e,_,m,_⟩)<;> cases e<;> exact this m
  have ha:a∈L:=ho.mp (by cases o with
   | none=>exact absurd rfl h
   | some _=>rfl)
  walk_at "rd";refine⟨_,st,_,rfl,(show 2<=sizeLine by decide),λt1 ac=>?_⟩;have D:=ae.upd (o:= .tup [V.str (Str.ofString "later"),V.str (Str.ofString "same")]) ac;have g1:upd H t1 (.tup [V.str (Str.ofString "later"),V.str (Str.ofString "same")]) t1=_:=aa
  generalize upd H t1 (.tup [V.str (Str.ofString "later"),V.str (Str.ofString "same")])=H1 at D g1
  have u:=SqT.of (K:=K) (D _ _ r);have al:lI H1 d L:=by
   obtain⟨an,a,b⟩:=hd;exact⟨an,D _ _ a,b⟩
  refine⟨[.str "later",.str "same"],.inr (SqT.of g1),rfl,rfl,?_⟩;rw[show inV (V.str wd) [.str "later",.str "same"]=decide (wd∈[Str.ofString "later",Str.ofString "same"])from kr wd [Str.ofString "later",Str.ofString "same"]];refine aA (λhw=>?_) λhw=>k3 _ _ (ai λD4 k4 r4=>?_)
  ·have hw:wd="later"\/wd="same":=by simpa using hw
   have nw:∀{g:Str},g="since"\/g="by"->wd≠g:=λ{g} h e=>by
    subst e;rcases h with rfl|rfl<;> rcases hw with q|q<;> exact absurd q (by decide +kernel)
   refine⟨_,u,_,rfl,_,(I.up D).ty,_,(I.up D).kit (.inl rfl),aA (λhz=>?_) λhz=>r3 _ _ (p D ?_)⟩
   ·obtain⟨b,rfl⟩:∃b,z= .str b:=by cases I<;> first|exact absurd hz (by decide)|exact⟨_,rfl⟩
    obtain⟨o2,as,ab⟩:=al.get b;refine⟨_,u,_,rfl,_,as,aA (λh2=>?_) λh2=>r3 _ _ (p D ?_)⟩
    ·refine⟨_,u,_,rfl,_,u,_,rfl,rfl,r3 _ _ (k _ _ D ⟨λh=> .inl ⟨wd,a,b,rfl,hw,ha,ab.mp h2,by simpa using h⟩,?_⟩)⟩;rintro(⟨g,l,C,e,_,_,_,ne⟩|⟨g,l,i,e,_⟩)<;> cases e
     simpa using ne
    ·rintro(⟨g,l,C,e,_,_,M,_⟩|⟨g,l,i,e,h,_⟩)<;> cases e
     exact h2 (ab.mpr M)
   ·rintro(⟨g,l,C,e,_⟩|⟨g,l,i,e,h,_⟩)<;> cases e
    ·cases I;exact hz rfl
    ·exact nw h rfl
  have hw: ¬ (wd="later"\/wd="same"):=λh=>hw (by simpa using h)
  walk_at "rd";refine⟨_,u,_,rfl,(show 2<=sizeLine by decide),λt2 au=>?_⟩;have J:=D.trans (ae.upd (o:= .tup [V.str (Str.ofString "since"),V.str (Str.ofString "by")]) au);have g2:upd H1 t2 (.tup [V.str (Str.ofString "since"),V.str (Str.ofString "by")]) t2=_:=aa
  generalize upd H1 t2 (.tup [V.str (Str.ofString "since"),V.str (Str.ofString "by")])=H2 at J g2
  have N:=SqT.of (K:=K) (J _ _ r);have G:=I.up J;refine⟨[.str "since",.str "by"],.inr (SqT.of g2),rfl,rfl,?_⟩;rw[show inV (V.str wd) [.str "since",.str "by"]=decide (wd∈[Str.ofString "since",Str.ofString "by"])from kr wd [Str.ofString "since",Str.ofString "by"]];have B:∀g l C,[V.str wd,.str a,z]=[.str g,.str l,.str C]-> ¬ (g="later"\/g="same"):=λg l C e=>by
   cases e;exact hw
  refine aA (λM=>r4 _ _ (p J ?_)) λM=>⟨_,N,_,rfl,_,G.ty,_,G.kit (.inr (.inr (.inl rfl))),aA (λhi=>r4 _ _ (p J ?_)) λhi=>⟨_,N,_,rfl,_,G.ty,_,G.kit (.inr (.inr (.inr (.inl rfl)))),aA (λO=>r4 _ _ (p J ?_)) λO=>k4 _ _ ?_⟩⟩
  ·rintro(⟨g,l,C,e,h,_⟩|⟨g,l,i,e,h,_⟩)
   ·exact B _ _ _ e h
   ·cases e;rcases h with rfl|rfl<;> simp at M
  ·rintro(⟨g,l,C,e,h,_⟩|⟨g,l,i,e,h,_⟩)
   ·exact B _ _ _ e h
   ·cases e;cases I;cases hi
  ·rintro(⟨g,l,C,e,h,_⟩|⟨g,l,i,e,h,_⟩)
   ·exact B _ _ _ e h
   ·cases e;cases I;cases O
  obtain⟨i,rfl⟩:∃i,z= .int i:=by cases I<;> first|exact absurd rfl hi|exact absurd rfl O|exact⟨_,rfl⟩
  have M:wd="since"\/wd="by":=Decidable.or_iff_not_imp_left.mpr (by simpa using M);walk_at "rd";refine⟨_,N,_,rfl,_,rfl,aA (λh1=>⟨_,rfl,?_⟩) λh1=>p J ?_⟩
  ·refine k _ _ J ⟨λh2=> .inr ⟨wd,a,i,rfl,M,ha,Zn h1,Zn h2⟩,?_⟩;rintro(⟨g,l,C,e,h,_⟩|⟨g,l,j,e,_,_,_,h⟩)
   ·exact absurd h (B _ _ _ e)
   ·cases e;exact Ze h
  ·rintro(⟨g,l,C,e,h,_⟩|⟨g,l,j,e,_,_,h,_⟩)
   ·exact B _ _ _ e h
   ·cases e;exact h1 (Ze h)
theorem uP(T:Txt K mg):Cal P w K mg base 3 "_law_due" ["_law_cuts","_law_sayings"] xj:=by
 refine T.d_law_due.cal fz (λvs H Q E h=>?_) (λf a3 A outer s H vs Q E hr h=>?_)
 ·obtain⟨v,u,rfl,_⟩:=h;rfl
 ·obtain⟨v,u,rfl,G,kk⟩:=h;obtain⟨n,kn⟩:=G.kv;obtain⟨m,km⟩:=G.ku;refine⟨_,(QSs.h (ag (ifS (wT (orW (bU (bG (K:=K) rfl (λ_=>rfl) (cbO (cw (K:=K) rfl) T.b_isinstance boot_isinstance rfl (paE rfl (ad 0 rfl) (paE rfl (blE (v:= .ty "list") rfl T.b_list boot_list rfl rfl rfl) af))))) (dI (bF (BL hr) rfl (ad 0 rfl) (bB af)))))
   (ao (aM (aE (paE rfl ax (paE rfl fX af)))))
   aI)
   (ag (aV 2 fz.nd rfl (aZ (kg T) hr rfl (paE rfl (ad 0 rfl) af)))
   (ag (ifS (bF Az rfl (ad 2 rfl) fX)
   (ao (aM (aE (paE rfl ax (paE rfl (ad 2 rfl) af)))))
   aI)
   (ag (ifS (bU (bG (K:=K) rfl (λ_=>rfl) (cbO (cw (K:=K) rfl) T.b_isinstance boot_isinstance rfl (paE rfl (ad 1 rfl) (paE rfl (blE (v:= .ty "list") rfl T.b_list boot_list rfl rfl rfl) af)))))
   (ao (aM (aE (paE rfl ax (paE rfl fX af)))))
   aI)
   (ag (aV 3 fz.nd rfl (aZ (oE T) hr rfl (paE rfl (ad 0 rfl) af)))
   (ag (ef PassesOwn.never rfl rfl (eO rfl T.b_range rfl (paE rfl (cbO (bH (K:=K) rfl) T.b_len PySem.boot_len rfl (paE rfl (ad 1 rfl) af)) af)) (bb 4 fz.nd rfl)
   (ao (ifS (wT (orW (bF cV rfl (ad 4 rfl) ak) (dI (bU (bG (K:=K) rfl (λ_=>rfl) (aZ (kh T) hr rfl (paE rfl (cm (K:=K) rfl (λ_ _=>rfl) (ad 1 rfl) (ad 4 rfl)) (paE rfl (ad 3 rfl) af))))))))
    (ao (aM (aE (paE rfl ax (paE rfl (ad 4 rfl) af)))))
    aI)))
   (ao (aM fX))))))))),?_⟩
  show bA _ _ _ [some v,some u,none,none,none] H;have k:∀(p:Str) (x:V) L,ae H L->Res H v u (some (p,x))->∀t,L t=none->Q (.ref t) (upd L t (.tup [.str p,x])):=λp x L s1 r t D=>kk _ _ _ (s1.trans (ae.upd D)) r ⟨t,rfl,aa⟩
  refine ai λD1 k1 r1=>?_
  walk_at "rd";refine⟨_,kn.ty,_,kn.kit (.inr (.inr (.inr (.inr rfl)))),aA (λh=>?_) λh=>?_⟩
  ·refine⟨(show 2<=sizeLine by decide),λt D=>r1 _ _ (k _ _ H (ae.refl H) (.inl ⟨rfl,.inl ⟨λxs ⟨p,e,I⟩=>?_,rfl⟩⟩) t D)⟩;subst e;cases kn with
   | lst a=>cases h
   | tup a=>rw[a]at I;cases I
   | dct a=>rw[a]at I;cases I
  cases kn<;> first|exact absurd rfl h|skip
  rename_i l xs hl
  have il:br H (.ref l) xs:=⟨l,rfl,hl⟩
  refine⟨Yn _,λe0 U=>⟨_,_,xs,rfl,rfl,ae.upd U _ _ hl,aa,?_⟩⟩;have J:=ae.upd (o:= .lst []) U
  generalize upd H e0 (.lst [])=H0 at J
  walk_at "rd";refine aA (λh0=>⟨(show 2<=sizeLine by decide),λt D=>r1 _ _ (k _ _ H0 J (.inl ⟨rfl,.inl ⟨λys M=>?_,rfl⟩⟩) t D)⟩) λh0=>k1 _ _ (ai λD2 k2 r2=>?_)
  ·rw[M.one il];exact Zn h0
  have as:xs≠[]:=λe=>h0 (Ze e)
  obtain⟨au,Y⟩:=G.cs xs il;have ab:∀x∈xs,KnD H x:=λx hx=>(Y x hx).kd
  walk_at "rd";refine⟨l,xs,rfl,J _ _ hl,au,λx hx=>(Y x hx).up J,λL s1=>⟨λz=>k2 _ _ (ai λD3 k3 r3=>?_),λi hi=>k2 _ _ (ai λD3 k3 r3=>?_)⟩⟩
  rotate_left
  ·walk_at "rd";exact⟨(show 2<=sizeLine by decide),λt D=>r3 _ _ (k _ _ L (J.trans s1) (.inl ⟨rfl,.inr ⟨xs,i,il,(eW.same (dv J ab)).mp hi,rfl⟩⟩) t D)⟩
  have z:∀i,i<xs.length-> ¬ cI H xs i:=λi hi b=>z i hi ((dv J ab i).mpr b)
  obtain⟨cs,rfl,ac,av,h8⟩:=mU z;have cf:bu H (.ref l) cs:=⟨il,as,z,ac,av,h8⟩
  have B:=J.trans s1;walk_at "rd";refine k3 _ _ (ai λD4 k4 r4=>?_);walk_at "rd";refine⟨_,(km.up B).ty,_,(km.up B).kit (.inr (.inr (.inr (.inr rfl)))),aA (λh=>?_) λh=>k4 _ _ (ai λD5 k5 r5=>?_)⟩
  ·refine⟨(show 2<=sizeLine by decide),λt D=>r4 _ _ (k _ _ L B (.inr ⟨rfl,cs,cf,.inl ⟨λxs ⟨p,e,I⟩=>?_,rfl⟩⟩) t D)⟩;subst e;cases km with
   | lst a=>cases h
   | tup a=>rw[a]at I;cases I
   | dct a=>rw[a]at I;cases I
  cases km<;> first|exact absurd rfl h|skip
  rename_i m ys hm
  have im:br H (.ref m) ys:=⟨m,rfl,hm⟩
  obtain⟨a4,a0⟩:=G.ss ys im;walk_at "rd";refine⟨l,cs,rfl,B _ _ hl,ac.up B,h8,λd H2 s2 hd=>k5 _ _ (ai λD6 k6 r6=>aF λa2 hK=>?_)⟩;have N:=B.trans s2;walk_at "rd";refine⟨_,.inl ⟨_,SqL.of (N _ _ hm),rfl⟩,by lia,by lia,hK _ _ (cg (λi σ H'=>(∀j,j<i-> ¬ cS H (cs.flatMap lyr) ys j)/\∃o4,σ=[some (.ref l),some (.ref m),some .non,some (.ref d),o4]/\ae H2 H') ⟨λj hj=>absurd hj (Yi _),none,rfl,ae.refl _⟩ ?_ ?_)⟩
  ·rintro i σ H' hi ⟨fi,o4,rfl,s3⟩;have hi:i<ys.length:=by simpa using hi
   have M:ys[i]? =some ys[i]:=Z4 hi
   generalize ys[i]=y at M
   have kd:=a0 y (Z7 M);show m9 _ _ _ _ [some (.ref l),some (.ref m),some .non,some (.ref d),some (.int ((0:Int) +(i:Int)))] H';rw[Int.zero_add];have C:=N.trans s3;refine aU λD7 k7 r7=>?_
   have al:∀H3,ae H H3->cS H (cs.flatMap lyr) ys i->∀t,H3 t=none->D7.rt (.ref t) (upd H3 t (.tup [.str "sayings",.int (i:Nat)])):=λH3 s b t D=>r7 _ _ (r6 _ _ (k _ _ H3 s (.inr ⟨rfl,cs,cf,.inr ⟨ys,i,im,⟨hi,fi,b⟩,rfl⟩⟩) t D))
   walk_at "rd";refine aA (λO=>⟨(show 2<=sizeLine by decide),al _ C (.inl (by have:=Zn O;lia))⟩) λO=>⟨_,SqL.of (C _ _ hm),_,bV M,y,d,cs.flatMap lyr,rfl,kd.up C,?_,λc H4 s4 hc=>⟨c,rfl,aA (λg=>⟨(show 2<=sizeLine by decide),al _ (C.trans s4) (.inr ⟨y,M,λsv=>?_⟩)⟩) λg=>k7 _ _ ⟨λj hj=>?_,_,rfl,s3.trans s4⟩⟩⟩
   ·obtain⟨a1,a,b⟩:=hd;exact⟨a1,s3 _ _ a,b⟩
   ·rw[hc.mpr ((fO.same kd C).mpr sv)]at g;cases g
   ·rcases lt_or_ge j i with q|q
    ·exact fi j q
    ·have e:j=i:=by lia
     subst e;rintro(e|⟨y',an,ny⟩)
     ·exact O (by simp[e])
     ·rw[M]at an;cases an;cases c with
      | true=>exact ny ((fO.same kd C).mp (hc.mp rfl))
      | false=>exact g rfl
  ·rintro σ H' ⟨fi,o4,rfl,s3⟩;refine k6 _ _ ?_;walk_at "rd";rw[Int.toNat_natCast]at fi;exact kk .non none H' (N.trans s3) ⟨cs,cf,ys,im,fi⟩ rfl
theorem rB(T:Txt K mg):Cal P w K mg base 9 "_law_told" ["_law_cuts","_law_sayings"] xj:=by
 have lH:=lH (P:=P) (w:=w) (base:=base) T;refine T.d_law_told.cal dn (λvs H Q E h=>?_) (λf ac A outer s H vs Q E hr h=>?_)
 ·obtain⟨v,u,rfl,_⟩:=h;rfl
 ·obtain⟨v,u,rfl,G,kk⟩:=h
  let XE:XK:=λc d m=>c= .ref (aq mg "NoGround")/\∃j part k,d=some j/\m j=some (.xd [("number",k),("part",.str part)])/\ae H m/\Res H v u (some (part,k))
  refine⟨_,(QSs.h (ag (aV 2 dn.nd rfl fX)
   (ag (tryS (i:=3) XE rfl rfl dn.nd rfl rfl rfl rfl T.c_DigError T.t_DigError rfl (λ_=>
   (ao (cM rfl (AI (lh λ_ _ _ h=>h) lH T.o_Ground rfl hr rfl rfl rfl rfl (paE rfl (ad 0 rfl) (paE rfl (ad 1 rfl) af))))))
   (λ_=>(ao (aV 2 dn.nd rfl (ad 3 rfl)))))
   (ag (ifS (bF Bq rfl (ad 2 rfl) fX)
   (ao (aM fX))
   aI)
   (ag (aV 4 dn.nd rfl (cbE (wB (K:=K) rfl) rfl T.b_isinstance boot_isinstance rfl rfl rfl (paE rfl (ad 2 rfl) (paE rfl (aE (paE rfl (pF rfl T.c_NoCut rfl) (paE rfl (pF rfl T.c_NoDeed rfl) (paE rfl (pF rfl T.c_NoLayer rfl) (paE rfl (pF rfl T.c_NoRow rfl) (paE rfl (pF rfl T.c_NoSaying rfl) (paE rfl (pF rfl T.c_Torn rfl) af))))))) af))))
   (ag (ifS (wT (orW (bU (bG (K:=K) rfl (λ_=>rfl) (cbE (wB (K:=K) rfl) rfl T.b_isinstance boot_isinstance rfl rfl rfl (paE rfl (ad 2 rfl) (paE rfl (pF rfl T.c_NoGround rfl) af))))) (orW (bU (bG (K:=K) rfl (λ_=>rfl) (cbE (wB (K:=K) rfl) rfl T.b_isinstance boot_isinstance rfl rfl rfl (paE rfl (ad 2 rfl) (paE rfl (blE (v:= .ty "ValueError") rfl T.b_ValueError PyProof.Rows.Boot.«ValueError» rfl rfl rfl) af))))) (dI (bG (K:=K) rfl (λ_=>rfl) (ad 4 rfl))))))
   (ao (aM (aE (paE rfl ax (paE rfl ak af)))))
   aI)
   (ao (aM (aE (paE rfl (za T.g_NoGround_part rfl (ad 2 rfl)) (paE rfl (za T.g_NoGround_number rfl (ad 2 rfl)) af))))))))))),?_⟩
  show bA _ _ _ [some v,some u,none,none,none] H;refine ai λD1 k1 r1=>?_
  walk_at "rd";refine k1 _ _ (ai λD2 k2 r2=>?_);refine⟨?_,?_⟩
  ·walk_at "rd";intro g j hg n Y;have sg:ae H (upd (upd H j (.own g)) g (.ins (aq mg "Ground") j [])):=(ae.upd n).trans (ae.upd (by rw[aj Y.symm];exact hg));have gg:upd (upd H j (.own g)) g (.ins (aq mg "Ground") j []) g=_:=aa
   generalize upd (upd H j (.own g)) g (.ins (aq mg "Ground") j [])=C at sg gg
   have a:=Cpy.up G.kv sg;have b:=Cpy.up G.ku sg;have sk:∀m,jX g C m->ae H m:=λm D b o e=>D b o (am e hg) (sg _ _ e)
   refine⟨g,j,v,u,rfl,gg,G.cpy a b,λr m D=>⟨rfl,k2 _ _ (ai λD3 k3 r3=>?_)⟩,λpart k d m r D hd hx=>⟨rfl,d,part,k,rfl,hx,sk _ D,(G.res a b).mp r⟩⟩;walk_at "rd";exact r3 _ _ (kk .non none m (sk _ D) ((G.res a b).mp r) rfl)
  ·rintro c d m ⟨rfl,j,part,k,rfl,n,sm,res⟩;refine⟨_,rfl,T.u_NoGround,λa I hl ha=>?_⟩;obtain⟨z,B,O,o3,J,rfl⟩:∃z B O o3 J,I=[z,B,O,o3,J]:=by
    match I,hl with
    |[z,B,O,o3,J],_=>exact⟨_,_,_,_,_,rfl⟩
   show iK _ _ _ [z,B,O,some (.ref a),J] _;walk_at "rd";refine k2 [z,B,some (.ref a),none,J] _ ?_;have ab:j≠a:=λe=>by rw[e,ha]at n;cases n
   have hA:upd m a (ExH a (aq mg "NoGround") (some j)) a=some (ExH a (aq mg "NoGround") (some j)):=aa;have hD:upd m a (ExH a (aq mg "NoGround") (some j)) j=some (.xd [("number",k),("part",.str part)]):=by rw[aj ab];exact n
   have L:ae H (upd m a (ExH a (aq mg "NoGround") (some j))):=sm.trans λb u e=>by rw[aj (am e ha)];exact e
   generalize upd m a (ExH a (aq mg "NoGround") (some j))=C at hA hD L
   have p:∀U,ae C U->TyX K U (.ref a) (.ref (aq mg "NoGround")):=λU q=> .ex ⟨_,q _ _ hA,.inr ⟨j,_,rfl,q _ _ hD⟩⟩ T.x_NoGround.is
   refine ai λD3 k3 r3=>?_
   walk_at "rd";refine io (k3 _ _ (ai λD4 k4 r4=>?_));walk_at "rd";refine⟨show 6<=sizeLine from by decide,λtp M=>⟨_,p _ (ae.upd M),false,.inr ⟨[aq mg "NoCut",aq mg "NoDeed",aq mg "NoLayer",aq mg "NoRow",aq mg "NoSaying",aq mg "Torn"],aa,T.k_NoGround_any0⟩,k4 _ _ ?_⟩⟩;have q:=ae.upd (o:= .tup [.ref (aq mg "NoCut"),.ref (aq mg "NoDeed"),.ref (aq mg "NoLayer"),.ref (aq mg "NoRow"),.ref (aq mg "NoSaying"),.ref (aq mg "Torn")]) M;have x:=q _ _ hA;have y:=q _ _ hD;have N:=L.trans q;have l:=p _ q;show bA _ _ _ [z,B,some (V.ref a),none,some (.bl false)] (upd C tp (.tup [.ref (aq mg "NoCut"),.ref (aq mg "NoDeed"),.ref (aq mg "NoLayer"),.ref (aq mg "NoRow"),.ref (aq mg "NoSaying"),.ref (aq mg "Torn")]))
   generalize upd C tp (.tup [.ref (aq mg "NoCut"),.ref (aq mg "NoDeed"),.ref (aq mg "NoLayer"),.ref (aq mg "NoRow"),.ref (aq mg "NoSaying"),.ref (aq mg "Torn")])=U at x y N l
   refine ai λD5 k5 r5=>?_
   walk_at "rd";refine⟨_,l,true,.inl T.k_NoGround_NoGround,io ⟨_,l,true,T.k_NoGround_ValueError,io (k5 _ _ ?_)⟩⟩;walk_at "rd";simp only[wy];walk_at "rd";exact⟨j,x,_,y,.str part,by rfl,j,x,_,y,k,by rfl,(show 2<=sizeLine by decide),λt ht=>kk _ _ _ (N.trans (ae.upd ht)) res ⟨t,rfl,aa⟩⟩
theorem Kn.plain(k:Kn H v n):fh v=true:=by cases k<;> rfl
theorem uQ{xs:List V}(h:∀x∈xs,KnD H x):xs.all fh=true:=all_eq_true.mpr λx a=>by
 obtain⟨n,k⟩:=(h x a).kn;exact k.plain
def Cpd(H b:Hp)(h:Addr)(v a:V):Prop:=a=v\/∃c l xs,a= .ref c/\v= .ref l/\H l=some (.lst xs)/\b c=some (.lst xs)/\c≠h
theorem Cpd.cpy(c:Cpd H d h v f)(k:∃n,Kn H v n)(s:ae H d):Cpy H d v f:=by
 rcases c with rfl|⟨c,l,xs,rfl,rfl,e,b,_⟩
 ·exact Cpy.up k s
 ·refine⟨s,⟨_,.lst b⟩,λys=>⟨λa=>?_,λa=>?_⟩⟩
  ·rw[a.one ⟨c,rfl,b⟩];exact⟨l,rfl,e⟩
  ·rw[a.one ⟨l,rfl,e⟩];exact⟨c,rfl,b⟩
theorem Cpd.alike{h:Addr}{v a:V}(c:Cpd H b h v a)(k:∃n,Kn H v n)(s:ae H b)(kd:∀xs,br H v xs->∀x∈xs,KnD H x):mP b a v:=by
 rcases c with rfl|⟨c,l,xs,rfl,rfl,d,e,_⟩
 ·obtain⟨n,k⟩:=k;exact .inl ⟨rfl,k.plain⟩
 ·exact .inr ⟨c,l,xs,rfl,rfl,e,s _ _ d,uQ (kd xs ⟨l,rfl,d⟩)⟩
theorem Cpd.up(c:Cpd H g h v i)(s:ae g j):Cpd H j h v i:=
 c.imp id λ⟨c,l,xs,a,b,d,e,f⟩=>⟨c,l,xs,a,b,d,s _ _ e,f⟩
theorem Cpd.set(c:Cpd H g h v i):Cpd H (upd g h o) h v i:=
 c.imp id λ⟨c,l,xs,a,b,d,e,f⟩=>⟨c,l,xs,a,b,d,by rw[aj f];exact e,f⟩
def xp:Sp:=λvs H Q _=>∃v u:V,vs=[v,u]/\bv H v u/\∀a,ae H a->Q (.bl true) a
theorem bw(T:Txt K mg):Cal P w K mg base 10 "_law_right" ["_law_cuts","_law_sayings"] xp:=by
 refine T.d_law_right.cal i7 (λvs H Q E h=>?_) (λf an A outer s H vs Q E U h=>?_)
 ·obtain⟨v,u,rfl,_⟩:=h;rfl
 ·obtain⟨v,u,rfl,G,kk⟩:=h;obtain⟨n,Y⟩:=G.kv;obtain⟨m,km⟩:=G.ku;refine⟨_,(QSs.h (ag (aV 2 i7.nd rfl (bB (paE rfl (ad 0 rfl) (paE rfl (ad 1 rfl) af))))
   (ag (ifS (bG (K:=K) rfl (λ_=>rfl) (cbO (cw (K:=K) rfl) T.b_isinstance boot_isinstance rfl (paE rfl (ad 0 rfl) (paE rfl (blE (v:= .ty "list") rfl T.b_list boot_list rfl rfl rfl) af))))
   (ao (qz rfl rfl rfl (ctO (nM (K:=K) rfl) T.b_list boot_list rfl (paE rfl (ad 0 rfl) af)) (Bp rfl (ad 2 rfl) ak)))
   aI)
   (ag (ifS (bG (K:=K) rfl (λ_=>rfl) (cbO (cw (K:=K) rfl) T.b_isinstance boot_isinstance rfl (paE rfl (ad 1 rfl) (paE rfl (blE (v:= .ty "list") rfl T.b_list boot_list rfl rfl rfl) af))))
   (ao (qz rfl rfl rfl (ctO (nM (K:=K) rfl) T.b_list boot_list rfl (paE rfl (ad 1 rfl) af)) (Bp rfl (ad 2 rfl) ak)))
   aI)
   (ag (ifS (bF (BJ U) rfl (aZ (rB T) U rfl (paE rfl (cm (K:=K) rfl (λ_ _=>rfl) (ad 2 rfl) ak) (paE rfl (cm (K:=K) rfl (λ_ _=>rfl) (ad 2 rfl) ak) af))) (aZ (uP T) U rfl (paE rfl (ad 0 rfl) (paE rfl (ad 1 rfl) af))))
   (ao (aM eBl))
   aI)
   (ao (aM (hZ (BH U) rfl (ad 2 rfl) (bB (paE rfl (ad 0 rfl) (paE rfl (ad 1 rfl) af))))))))))),?_⟩
  show bA _ _ _ [some v,some u,none] H;refine ai λD1 k1 r1=>?_
  walk_at "rd";refine⟨(show 2<=sizeLine by decide),λh hh=>k1 _ _ (ai λD2 k2 r2=>?_)⟩;have i:=ae.upd (o:= .lst [v,u]) hh;have g1:upd H h (.lst [v,u]) h=_:=aa
  generalize upd H h (.lst [v,u])=H1 at i g1
  have next:∀d k,ae H k->Cpd H k h v d->k h=some (.lst [d,u])->D2.nx [some v,some u,some (.ref h)] k:=by
   intro d k I c2 g2;refine k2 _ _ (ai λD3 k3 r3=>?_);have next:∀J B,ae H B->Cpd H B h v d->Cpd H B h u J->B h=some (.lst [d,J])->D3.nx [some v,some u,some (.ref h)] B:=by
    intro J B C cv cu g3;refine k3 _ _ (ai λD4 k4 r4=>?_);have av:=cv.cpy G.kv C;have au:=cu.cpy G.ku C;walk_at "rd";refine⟨_,SqL.of g3,_,rfl,_,SqL.of g3,_,rfl,d,J,rfl,G.cpy av au,λx r H4 s4 res rv=>?_⟩;have b:=C.trans s4;refine⟨v,u,rfl,G.cpy (Cpy.up G.kv b) (Cpy.up G.ku b),λy r' H5 s5 L M=>?_⟩;have e:r=r':=((G.res av au).mp res).one ((G.res (Cpy.up G.kv b) (Cpy.up G.ku b)).mp L);subst e;refine⟨?_,false,rfl,io (k4 _ _ ?_)⟩
    ·cases r with
     | none=>exact .inl ⟨rv,M⟩
     | some z=>
       obtain⟨p,nm⟩:=z;obtain⟨t,rfl,ht⟩:=rv;obtain⟨t',rfl,ab⟩:=M;refine .inr ⟨t,t',_,rfl,rfl,s5 _ _ ht,ab,?_⟩;have pn:fh nm=true:=by
        rcases res with⟨_,⟨_,rfl⟩|⟨_,_,_,_,rfl⟩⟩|⟨_,_,_,⟨_,rfl⟩|⟨_,_,_,_,rfl⟩⟩<;> rfl
       simp only[all_cons,List.all_nil,pn];rfl
    ·have ac:=s4.trans s5;walk_at "rd";refine⟨(show 2<=sizeLine by decide),λq hq=>?_⟩;have a:=ac.trans (ae.upd (o:= .lst [v,u]) hq);have al:mP _ d v:=(cv.up a).alike G.kv (C.trans a) G.kc;have bl:mP _ J u:=(cu.up a).alike G.ku (C.trans a) G.ks;refine⟨h,q,_,_,rfl,rfl,a _ _ g3,aa,rfl,λj x y N O=>?_,kk _ (C.trans a)⟩
     match j,N,O with
     | 0,N,O=>cases N;cases O;exact al
     | 1,N,O=>cases N;cases O;exact bl
   walk_at "rd";refine⟨_,(km.up I).ty,_,(km.up I).kit (.inr (.inr (.inr (.inr rfl)))),aA (λh'=>?_) λh'=>next u k I c2 (.inl rfl) g2⟩;cases km<;> first|exact absurd h' (by decide)|skip
   rename_i m xs hm
   refine⟨_,rfl,_,.inl (SqL.of (I _ _ hm)),λc g=>?_⟩;have ch:c≠h:=λe=>by rw[e,g2]at g;cases g
   have D:=ae.upd (o:= .lst xs) g;refine⟨_,D _ _ g2,1,rfl,next (.ref c) _ (ae.set (I.trans D) hh) (c2.up D).set (.inr ⟨c,m,xs,rfl,rfl,hm,by rw[aj ch];exact aa,ch⟩) aa⟩
  walk_at "rd";refine⟨_,(Y.up i).ty,_,(Y.up i).kit (.inr (.inr (.inr (.inr rfl)))),aA (λh'=>?_) λh'=>next v H1 i (.inl rfl) g1⟩;cases Y<;> first|exact absurd h' (by decide)|skip
  rename_i l xs hl
  refine⟨_,rfl,_,.inl (SqL.of (i _ _ hl)),λc g=>?_⟩;have ch:c≠h:=λe=>by rw[e,g1]at g;cases g
  have D:=ae.upd (o:= .lst xs) g;exact⟨_,D _ _ g1,0,rfl,next (.ref c) _ (ae.set (i.trans D) hh) (.inr ⟨c,l,xs,rfl,rfl,hl,by rw[aj ch];exact aa,ch⟩) aa⟩
def Ev(F:Hp->Prop)(G:Hp->V->Prop)(b:St)(t:TE):Prop:=∀H Q,F H->(∀v a,ae H a->G a v->Q v a)->t b H Q
def Evs(F:Hp->Prop)(G:Hp->V->Prop)(b:St)(n:Nat)(t:TA):Prop:=∀H Q,F H->(∀vs a,ae H a->(∀v∈vs,G a v)->vs.length=n->Q vs a)->t b H Q
def Mon(G:Hp->V->Prop):Prop:=∀H a v,G H v->ae H a->G a v
section
variable{F:Hp->Prop}{G:Hp->V->Prop}{σ:St}{n:Nat}
theorem Evs.nil:Evs F G σ 0 iL:=λH Q _ k=>k [] H (ae.refl H) (λv a=>(nomatch a)) rfl
theorem Evs.cons(g:∀H c,F H->ae H c->F c)(h:Mon G)(a:Ev F G σ i)(r:Evs F G σ n ts):Evs F G σ (n+1) (bR i ts):=λH Q f k=>
 a H _ f λv j d g1=>r j _ (g _ _ f d) λvs m e g2 l=>k _ _ (d.trans e) (λx b=>by
   rcases mem_cons.mp b with rfl|b
   ·exact h _ _ _ g1 e
   ·exact g2 x b) (by rw[Zq,l])
theorem Ev.val(h:∀H Q,Q x H->t σ H Q)(a:∀H,F H->G H x):Ev F G σ t:=λH Q f k=>h H Q (k x H (ae.refl H) (a H f))
theorem Ev.eq(h:∀H Q,Q x H->t σ H Q):Ev F (λ_ v=>v=x) σ t:=Ev.val h λ_ _=>rfl
theorem Ev.tup(r:Evs F A σ n ts)(l:n<=1000)(e:∀H b,F H->ae H b->F b)(h:Mon A)(g:∀p xs H,F H->H p=some (.tup xs)->(∀x∈xs,A H x)->xs.length=n->G H (.ref p)):Ev F G σ (jh ts):=λH Q f k=>
 r H _ f λvs m c i d=>⟨by rw[d];exact aH (by lia),λp a=>k _ _ (c.trans (ae.upd a)) (g p vs _ (e _ _ f (c.trans (ae.upd a))) aa (λx j=>h _ _ _ (i x j) (ae.upd a)) d)⟩
theorem Ev.lst(r:Evs F A σ n ts)(d:n<=1000)(g:∀p xs H,H p=some (.lst xs)->G H (.ref p)):Ev F G σ (nh ts):=λH Q f k=>
 r H _ f λvs e a h b=>⟨by rw[b];exact aH (by lia),λp c=>k _ _ (a.trans (ae.upd c)) (g p vs _ aa)⟩
theorem Ev.dct(g:∀p H,H p=some (.dK [])->G H (.ref p)):Ev F G σ nG:=λH Q f k p a=>k _ _ (ae.upd a) (g p _ aa)
theorem Ev.pair(d:∀H e,F H->ae H e->F e)(j:Mon A)(l:Mon B)(a:Ev F A σ m)(b:Ev F B σ q)(g:∀p x y H,F H->A H x->B H y->H p=some (.tup [x,y])->G H (.ref p)):Ev F G σ (jh (bR m (bR q iL))):=λH Q f k=>
 a H _ f λx r h g1=>b r _ (d _ _ f h) λy u i g2=>⟨(show 2<=sizeLine by decide),λp t=>by
   have c:=ae.upd (o:= .tup [x,y]) t;have s:=h.trans (i.trans c);exact k _ _ s (g p x y _ (d _ _ f s) (j _ _ _ g1 (i.trans c)) (l _ _ _ g2 c) aa)⟩
theorem mW{D:d9}(c:Mon G)(e:Evs F G σ n ts)(m:1<=n)(d:n<=10)(f:F H)
 (k:∀p ys a,ae H a->a p=some (.lst ys)->(∀v∈ys,G a v)->1<=ys.length->ys.length<=10->D.nx (σ.set i (some (.ref p))) a):iK (nh ts) (fF i) D σ H:=
 e H _ f λvs o g h j=>⟨by rw[j];exact aH (by lia),λp b=>k p vs _ (g.trans (ae.upd b)) aa (λv l=>c _ _ _ (h v l) (ae.upd b)) (by lia) (by lia)⟩
theorem cG{D:d9}{S:Addr}(g:Mon G)(b:∀H Q,Q (.ref S) H->gZ j σ H Q)(e:Evs F G σ n ts)(r:n<=10)(f:F H)(s:H S=some (.lst xs))(t:∀v∈xs,G H v)(z:1<=xs.length)(l:xs.length<=100)
 (k:∀p ys a,ae H a->a p=some (.lst ys)->(∀v∈ys,G a v)->1<=ys.length->ys.length<=xs.length+10->D.nx (σ.set i (some (.ref p))) a):iK (tOp rS (gZ j) (nh ts)) (fF i) D σ H:=
 b _ _ (e H _ f λvs A c u x=>⟨by rw[x];exact aH (by lia),λp m=> .inr (.inr ⟨S,p,xs,vs,rfl,rfl,ae.upd m _ _ (c _ _ s),aa,aH (by lia),λq y=>by
  have d:=(ae.upd (o:= .lst vs) m).trans (ae.upd (o:= .lst (xs++vs)) y);refine k q (xs++vs) _ (c.trans d) aa (λv b=>?_) (by rw[Z8];lia) (by rw[Z8];lia);rcases Yt b with h|h
  ·exact g _ _ _ (t v h) (c.trans d)
  ·exact g _ _ _ (u v h) d⟩)⟩)
end
def It(H:Hp)(x:V):Prop:=(∃n,Kn H x n)/\∀z,x= .str z->z.length<=3000
theorem It.mon:Mon It:=λH a v ⟨⟨n,k⟩,l⟩ s=>⟨⟨n,k.up s⟩,l⟩
theorem KnD.mon:Mon KnD:=λH a v k s=>k.up s
theorem KnD.tup(h:H p=some (.tup xs))(b:∀x∈xs,It H x):KnD H (.ref p):=
 ⟨⟨_,.tup h⟩,λq ys e a x c=>by cases e;rw[h]at a;cases a;exact b x c⟩
theorem KnD.else(k:Kn H v n)(c:n≠"tuple"):KnD H v:=⟨⟨n,k⟩,λp xs e b=>by
 subst e;cases k with
 | lst a=>rw[a]at b;cases b
 | tup a=>exact absurd rfl c
 | dct a=>rw[a]at b;cases b⟩
theorem It.ref(k:Kn H (.ref p) n):It H (.ref p):=⟨⟨n,k⟩,λz e=>(nomatch e)⟩
theorem It.str(h:z.length<=3000):It H (.str z):=⟨⟨_,.str⟩,λy e=>by cases e;exact h⟩
section
variable{H0:Hp}{σ:St}{ta tb tc td:TE}
theorem Evs.it(a:Ev (ae H0) It σ ta)(r:Evs (ae H0) It σ n ts):Evs (ae H0) It σ (n+1) (bR ta ts):=Evs.cons (λ_ _ x y=>x.trans y) It.mon a r
theorem Ev.tk(a:n<=1000)(r:Evs (ae H0) It σ n ts):Ev (ae H0) KnD σ (jh ts):=Ev.tup r a (λ_ _ x y=>x.trans y) It.mon λp xs H _ h b _=>KnD.tup h b
theorem Ev.t2(a:Ev (ae H0) It σ ta)(b:Ev (ae H0) It σ tb):Ev (ae H0) KnD σ (jh (bR ta (bR tb iL))):=Ev.tk (n:=2) (by decide) (Evs.it a (Evs.it b Evs.nil))
theorem Ev.t3(a:Ev (ae H0) It σ ta)(b:Ev (ae H0) It σ tb)(c:Ev (ae H0) It σ tc):Ev (ae H0) KnD σ (jh (bR ta (bR tb (bR tc iL)))):=Ev.tk (n:=3) (by decide) (Evs.it a (Evs.it b (Evs.it c Evs.nil)))
theorem Ev.t4(a:Ev (ae H0) It σ ta)(b:Ev (ae H0) It σ tb)(c:Ev (ae H0) It σ tc)(d:Ev (ae H0) It σ td):Ev (ae H0) KnD σ (jh (bR ta (bR tb (bR tc (bR td iL))))):=Ev.tk (n:=4) (by decide) (Evs.it a (Evs.it b (Evs.it c (Evs.it d Evs.nil))))
theorem Ev.l3(a:Ev (ae H0) It σ ta)(b:Ev (ae H0) It σ tb)(c:Ev (ae H0) It σ tc):Ev (ae H0) KnD σ (nh (bR ta (bR tb (bR tc iL)))):=Ev.lst (n:=3) (Evs.it a (Evs.it b (Evs.it c Evs.nil))) (by decide) λp xs H h=>KnD.else (.lst h) (by decide)
theorem Ev.l1(a:Ev (ae H0) It σ ta):Ev (ae H0) It σ (nh (bR ta iL)):=Ev.lst (n:=1) (Evs.it a Evs.nil) (by decide) λp xs H h=>It.ref (.lst h)
end
theorem jc(d:1<=xs.length)(e:0<=j):∃v∈xs,atI xs (j%(xs.length:Int))=some v:=by
 have a:=Int.emod_nonneg j (show(xs.length:Int)≠0 by lia);have b:=Int.emod_lt_of_pos j (show 0<(xs.length:Int) by lia)
 generalize j%(xs.length:Int)=i at a b
 obtain⟨i,rfl⟩:=Yq a;have c:i<xs.length:=by lia
 exact⟨xs[i],Y0 c,bV (by simp[c])⟩
def yR:Sp:=λvs H Q _=>∃(N:Addr) (a:List Str) (k:Int),vs=[.ref N,.int k]/\H N=some (.lst (a.map V.str))/\1<=a.length/\a.length<=60/\(∀z∈a,z.length<=100)/\0<=k/\∀v b,ae H b->KnD b v->Q v b
theorem jH(T:Txt K mg):Cal P w K mg base 1 "_law_odd_saying" ["_law_layers_here","_law_number"] yR:=by
 refine T.d_law_odd_saying.cal aK (λvs H Q E h=>?_) (λf M A outer s H vs Q E hr h=>?_)
 ·obtain⟨N,c,k,rfl,_⟩:=h;rfl
 ·obtain⟨N,c,k,rfl,i,h1,O,l,U,Y⟩:=h;refine⟨_,(QSs.h (ag (aV 2 aK.nd rfl (cm (K:=K) rfl (λ_ _=>rfl) (ad 0 rfl) (opE bC (ad 1 rfl) (cbO (bH (K:=K) rfl) T.b_len PySem.boot_len rfl (paE rfl (ad 0 rfl) af)))))
   (ag (aV 3 aK.nd rfl (cm (K:=K) rfl (λ_ _=>rfl) (ad 0 rfl) (opE bC (opE cr (ad 1 rfl) ak) (cbO (bH (K:=K) rfl) T.b_len PySem.boot_len rfl (paE rfl (ad 0 rfl) af)))))
   (ag (aV 4 aK.nd rfl (bB (paE rfl fX (paE rfl (aE af) (paE rfl (aE (paE rfl ax (paE rfl (ad 2 rfl) af))) (paE rfl (bB (paE rfl ax (paE rfl (ad 2 rfl) (paE rfl (ad 3 rfl) af)))) (paE rfl (aE (paE rfl ax (paE rfl (ad 2 rfl) (paE rfl (ad 2 rfl) af)))) (paE rfl (aE (paE rfl ax (paE rfl (ad 2 rfl) (paE rfl (ad 2 rfl) af)))) (paE rfl (aE (paE rfl (ad 2 rfl) (paE rfl ax (paE rfl (ad 3 rfl) af)))) af)))))))))
   (ag (aV 4 aK.nd rfl (opE bS (ad 4 rfl) (bB (paE rfl (aE (paE rfl ax (paE rfl (ad 2 rfl) (paE rfl ax af)))) (paE rfl (aE (paE rfl ax (paE rfl (ad 2 rfl) (paE rfl fX af)))) (paE rfl (aE (paE rfl ax (paE rfl ak (paE rfl (ad 2 rfl) af)))) (paE rfl (aE (paE rfl ax (paE rfl (ad 2 rfl) (paE rfl (ad 3 rfl) af)))) (paE rfl (aE (paE rfl ax (paE rfl (ad 2 rfl) (paE rfl ak af)))) af))))))))
   (ag (aV 4 aK.nd rfl (opE bS (ad 4 rfl) (bB (paE rfl (aE (paE rfl ax (paE rfl (ad 2 rfl) (paE rfl ak af)))) (paE rfl (aE (paE rfl ax (paE rfl (ad 2 rfl) (paE rfl (oU ak) af)))) (paE rfl (aE (paE rfl ax (paE rfl (ad 2 rfl) (paE rfl eBl af)))) (paE rfl (aE (paE rfl ax (paE rfl (ad 2 rfl) (paE rfl ax af)))) (paE rfl (aE (paE rfl ax (paE rfl ak (paE rfl (ad 2 rfl) af)))) af))))))))
   (ag (aV 4 aK.nd rfl (opE bS (ad 4 rfl) (bB (paE rfl (aE (paE rfl ax (paE rfl (ad 2 rfl) (paE rfl fX af)))) (paE rfl (aE (paE rfl ax (paE rfl (ad 2 rfl) (paE rfl ak (paE rfl ak af))))) (paE rfl (aE (paE rfl ax (paE rfl (ad 2 rfl) af))) (paE rfl (aE (paE rfl ak (paE rfl (ad 2 rfl) (paE rfl ak af)))) (paE rfl (aE (paE rfl ax (paE rfl ax (paE rfl ak af)))) (paE rfl (aE (paE rfl ax (paE rfl (ad 2 rfl) (paE rfl ak af)))) af)))))))))
   (ag (aV 4 aK.nd rfl (opE bS (ad 4 rfl) (bB (paE rfl (aE (paE rfl ax (paE rfl (ad 2 rfl) (paE rfl (oU ak) af)))) (paE rfl (aE (paE rfl ax (paE rfl (ad 2 rfl) (paE rfl (bB (paE rfl ax af)) af)))) (paE rfl (aE (paE rfl ax (paE rfl (ad 2 rfl) (paE rfl (ad 3 rfl) af)))) (paE rfl (aE (paE rfl ax (paE rfl (ad 2 rfl) (paE rfl ak af)))) af)))))))
   (ag (aV 4 aK.nd rfl (opE bS (ad 4 rfl) (bB (paE rfl (aE (paE rfl (bB (paE rfl ax af)) (paE rfl (ad 2 rfl) (paE rfl (ad 3 rfl) af)))) (paE rfl (aE (paE rfl ax (paE rfl (bB (paE rfl (ad 2 rfl) af)) (paE rfl (ad 3 rfl) af)))) (paE rfl (aE (paE rfl ax (paE rfl (bB (paE rfl (ad 2 rfl) af)) (paE rfl ak af)))) (paE rfl (aE (paE rfl ax (paE rfl oV (paE rfl ak af)))) (paE rfl (aE (paE rfl (bB af) (paE rfl (ad 2 rfl) (paE rfl ak af)))) af))))))))
   (ao (aM (cm (K:=K) rfl (λ_ _=>rfl) (ad 4 rfl) (opE bC (opE cr (ad 1 rfl) ak) (cbO (bH (K:=K) rfl) T.b_len PySem.boot_len rfl (paE rfl (ad 4 rfl) af))))))))))))))),?_⟩
  show bA _ _ _ [some (.ref N),some (.int k),none,none,none] H;have u:∀v∈c.map V.str,∃z∈c,v= .str z:=λv hv=>by
   obtain⟨z,l,rfl⟩:=Yv hv;exact⟨z,l,rfl⟩
  have g:(c.map V.str).length=c.length:=Z5 _;have d:(0:Int)<(c.length:Int):=by lia
  obtain⟨a,ma,B⟩:=jc (xs:=c.map V.str) (by lia) U;obtain⟨b,mb,C⟩:=jc (xs:=c.map V.str) (j:=k/8) (by lia) (by lia);rw[g]at B C;obtain⟨a,na,rfl⟩:=u a ma;obtain⟨b,nb,rfl⟩:=u b mb;have la:=l a na;have lb:=l b nb;have hF:∀m o,ae H m->ae m o->ae H o:=λ_ _ x y=>x.trans y
  refine ai λD1 k1 r1=>?_
  walk_at "rd";refine⟨c.length,.inl ⟨_,SqL.of i,g.symm⟩,d,_,SqL.of i,_,B,k1 _ _ (ai λD2 k2 r2=>?_)⟩;walk_at "rd";refine⟨⟨by decide,by decide⟩,c.length,.inl ⟨_,SqL.of i,g.symm⟩,d,_,SqL.of i,_,C,k2 _ _ (ai λD3 k3 r3=>?_)⟩;show iK _ _ _ [some (.ref N),some (.int k),some (.str a),some (.str b),none] H;refine mW (F:=ae H) (G:=KnD) (n:=7) KnD.mon ?_ (by decide) (by decide) (ae.refl H) λS1 ab m r g1 o1 l1 m1=>k3 _ _ (ai λD4 k4 r4=>?_)
  rotate_left
  refine cG (F:=ae H) (G:=KnD) (n:=5) KnD.mon (λ_ _ q=>q) ?_ (by decide) r g1 o1 l1 (by lia) λS2 ac o D g2 o2 l2 m2=>k4 _ _ (ai λD5 k5 r5=>?_)
  rotate_left
  refine cG (F:=ae H) (G:=KnD) (n:=5) KnD.mon (λ_ _ q=>q) ?_ (by decide) (r.trans D) g2 o2 l2 (by lia) λS3 al H3 s3 g3 o3 l3 m3=>k5 _ _ (ai λD6 k6 r6=>?_)
  rotate_left
  have t3:=r.trans (D.trans s3);refine cG (F:=ae H) (G:=KnD) (n:=6) KnD.mon (λ_ _ q=>q) ?_ (by decide) t3 g3 o3 l3 (by lia) λS4 an H4 I g4 o4 l4 m4=>k6 _ _ (ai λD7 k7 r7=>?_)
  rotate_left
  refine cG (F:=ae H) (G:=KnD) (n:=4) KnD.mon (λ_ _ q=>q) ?_ (by decide) (t3.trans I) g4 o4 l4 (by lia) λS5 as H5 s5 g5 o5 l5 m5=>k7 _ _ (ai λD8 k8 r8=>?_)
  rotate_left
  have J:=t3.trans (I.trans s5);refine cG (F:=ae H) (G:=KnD) (n:=5) KnD.mon (λ_ _ q=>q) ?_ (by decide) J g5 o5 l5 (by lia) λS6 t H6 s6 L o6 l6 m6=>k8 _ _ ?_
  rotate_left
  obtain⟨v,mv,gv⟩:=jc (xs:=t) (j:=k/64) l6 (by lia);show jY _ _ [some (.ref N),some (.int k),some (.str a),some (.str b),some (.ref S6)] H6;walk_at "rd";exact⟨⟨by decide,by decide⟩,_,.inl ⟨_,SqL.of L,rfl⟩,by lia,_,SqL.of L,_,gv,Y v _ (J.trans s6) (o6 v mv)⟩
  all_goals repeat' first
   | exact Evs.nil
   | refine Evs.cons hF KnD.mon ?_ ?_
   | refine Ev.t3 ?_ ?_ ?_
   | refine Ev.t2 ?_ ?_
   | refine Ev.t4 ?_ ?_ ?_ ?_
   | refine Ev.l3 ?_ ?_ ?_
   | refine Ev.l1 ?_
   | exact Ev.tk (Yn _) Evs.nil
   | exact Ev.lst (A:=It) Evs.nil (Yn _) λp xs H h=>It.ref (.lst h)
   | exact Ev.dct λp H h=>It.ref (.dct h)
   | exact Ev.val (x:= .non) (λ_ _ q=>q) λH _=>KnD.else .non (by decide)
   | exact Ev.val (x:= .non) (λ_ _ q=>q) λH _=>⟨⟨_,.non⟩,λz e=>(nomatch e)⟩
   | exact Ev.val (x:= .str a) (λ_ _ q=>q) λH _=>It.str (by lia)
   | exact Ev.val (x:= .str b) (λ_ _ q=>q) λH _=>It.str (by lia)
   | exact Ev.val (x:= .str _) (λ_ _ q=>q) λH _=>It.str (by decide +kernel)
   | exact Ev.val (x:= .int _) (λ_ _ q=>q) λH _=>⟨⟨_,.int⟩,λz e=>(nomatch e)⟩
   | exact Ev.val (x:= .bl _) (λ_ _ q=>q) λH _=>⟨⟨_,.bl⟩,λz e=>(nomatch e)⟩
theorem xq(h:10∉z.cps.toList)(l:z.length<=50):ot (.str z):=λy e=>by
 cases e;refine⟨[z],by simp[Str.join],by simp,by simp,λr a=>?_,λr a=>?_⟩<;> rw[Yu a]
 ·exact l
 ·exact h
theorem mX(h:cZ rows 50):ot (.str (Str.join nl rows)):=λy e=>by
 cases e;exact⟨rows,rfl,h⟩
theorem qb(h:aP rows):ot (.str (Str.join nl rows)):=
 mX ⟨h.okRows.pos,h.okRows.high,λr a=>Y2 (h.okRows.wide r a) (by decide),h.nonl⟩
theorem uR(h:∀z,v≠ .str z):ot v:=λz e=>absurd e (h z)
def Itc(H:Hp)(x:V):Prop:=(∃n,Kn H x n)/\ot x
theorem Itc.mon:Mon Itc:=λH a v ⟨⟨n,k⟩,t⟩ s=>⟨⟨n,k.up s⟩,t⟩
theorem Itc.it(h:Itc H x):It H x:=⟨h.1,λz e=>by
 obtain⟨rows,rfl,ok⟩:=h.2 z e;exact Y2 (ok.text (by decide)) (by decide)⟩
theorem KnC.tup(h:H p=some (.tup xs))(a:∀x∈xs,Itc H x):KnC H (.ref p):=
 ⟨KnD.tup h λx m=>(a x m).it,λq ys e b x c=>by cases e;rw[h]at b;cases b;exact(a x c).2⟩
theorem KnC.else(k:Kn H v n)(c:n≠"tuple"):KnC H v:=⟨KnD.else k c,λp xs e b=>by
 subst e;cases k with
 | lst a=>rw[a]at b;cases b
 | tup a=>exact absurd rfl c
 | dct a=>rw[a]at b;cases b⟩
def OddC(H:Hp)(cs:List (Addr×Str×List Str))(v:V):Prop:=∀o:Addr×Str×List Str,v= .ref o.1->aO H [o]->o.2.1∉cs.map (λp=>p.2.1)->pX o.2.2 0
def Odd(cs:List (Addr×Str×List Str))(H:Hp)(v:V):Prop:=KnC H v/\OddC H cs v
theorem Odd.mon:Mon (Odd cs):=λH d v ⟨k,o⟩ s=>⟨k.up s,λp e c n=>by
 obtain⟨m,b⟩:=k.kd.kn;refine o p e (λq a=>?_) n;have:=c q a;rw[Yu a]at this ⊢;exact⟨(b.tupS s e).mp this.1,this.2⟩⟩
theorem kA(h:H p=some (.tup xs))(f:∀x∈xs,Itc H x)(g:∀z rows,xs=[.str z,.str (Str.join nl rows)]->cc z=true->aP rows->z∉cs.map (λp=>p.2.1)->pX rows 0):Odd cs H (.ref p):=
 ⟨KnC.tup h f,λo e c n=>by
  obtain⟨a,b,d⟩:=c o (mem_singleton.mpr rfl);cases e;rw[h]at a;injection a with a
  injection a with a
  exact g _ _ a b d n⟩
theorem qc(k:Kn H v n)(b:n≠"tuple"):Odd cs H v:=⟨KnC.else k b,λo e c _=>by
 subst e;have c:=(c o (mem_singleton.mpr rfl)).1;cases k with
 | lst a=>rw[a]at c;cases c
 | tup a=>exact absurd rfl b
 | dct a=>rw[a]at c;cases c⟩
theorem few0(g:aP rows)(x:Nat)(h:∀c∈(Str.join nl rows).cps.toList,c=10\/c=46\/c=x):pX rows 0:=by
 refine⟨[],Zh _,λa b m=>?_⟩;have one:∀c,Let rows c->c=x:=λc ⟨f,r,i,j⟩=>by
  have d:c≠10:=λe=>g.nonl r i (e▸j)
  rcases h c ((gB d).mpr ⟨r,i,j⟩)with e|e|e
  ·exact absurd e d
  ·exact absurd e f
  ·exact e
 obtain⟨k,l⟩:=mR g m;exact absurd ((one a k).trans (one b l).symm) m.2.1
theorem eJ(x:Nat)(h:∀c∈z.cps.toList,c=10\/c=46\/c=x)(e:V.str z= .str (Str.join nl rows))(a:aP rows):pX rows 0:=
 few0 a x (by rw[<-V.str.inj e];exact h)
theorem mY(h:∀c∈r.cps.toList,c=x):∀c∈(Str.join nl (List.replicate n r)).cps.toList,c=10\/c=46\/c=x:=λc b=>by
 by_cases e:c=10
 ·exact .inl e
 ·obtain⟨f,d,a⟩:=(gB e).mp b;rw[List.eq_of_mem_replicate d]at a;exact .inr (.inr (h c a))
theorem xr(h:∀c∈r.cps.toList,c=x)(b:x≠10)(g:1<=n)(d:n<=43)(f:r.length<=50):cZ (List.replicate n r) 50:=by
 refine⟨λe=>?_,by rw[length_replicate];exact d,λy a=>?_,λy a=>?_⟩
 ·have:=congrArg List.length e;rw[length_replicate]at this;simp at this
  lia
 ·rw[List.eq_of_mem_replicate a];exact f
 ·rw[List.eq_of_mem_replicate a];exact λm=>b (h _ m).symm
theorem eX(c n:Nat):(Txt.mul ⟨#[c]⟩ (n:Int)).cps.toList=List.replicate n c:=by
 rw[PyProof.Rows.mul_one_list];simp
theorem BR(e:V.str (Str.ofString "ab\na")= .str (Str.join nl rows))(h:aP rows):False:=by
 have d:Str.join nl [Str.ofString "ab",Str.ofString "a"]=Str.join nl rows:=(by decide +kernel:Str.join nl [Str.ofString "ab",Str.ofString "a"]=Str.ofString "ab\na").trans (V.str.inj e);have c:=ir (rows:=[Str.ofString "ab",Str.ofString "a"]) (by simp) (by decide +kernel);rw[d,h.split]at c;obtain⟨wd,_,_,hw⟩:=h.wide;rw[c]at hw;have a:=hw (Str.ofString "ab") (by simp);have b:=hw (Str.ofString "a") (by simp);rw[show(Str.ofString "ab").cps.size=2 by decide +kernel]at a;rw[show(Str.ofString "a").cps.size=1 by decide +kernel]at b
 lia
theorem AX(e:V.str (Str.ofString "a b")= .str (Str.join nl rows))(h:aP rows):False:=by
 have m:32∈(Str.join nl rows).cps.toList:=by rw[<-V.str.inj e];decide +kernel
 obtain⟨r,a,b⟩:=(gB (by decide)).mp m;exact absurd (all_eq_true.mp (h.sign r a) 32 b) (by decide +kernel)
def yS:Sp:=λvs H Q _=>∃(l:Addr) (cs:List (Addr×Str×List Str)) (k:Int),vs=[.ref l,.int k]/\H l=some (.lst (aT cs))/\aO H cs/\1<=cs.length/\cs.length<=3/\0<=k/\∀v a,ae H a->Odd cs a v->Q v a
def NS(H:Hp)(v:V):Prop:=Itc H v/\∀z,v≠ .str z
theorem NS.mon:Mon NS:=λH a v h s=>⟨Itc.mon H a v h.1 s,h.2⟩
theorem NS.of(k:Kn H v n)(h:∀z,v≠ .str z):NS H v:=⟨⟨⟨n,k⟩,uR h⟩,h⟩
section
variable{H0:Hp}{σ:St}{cs:List (Addr×Str×List Str)}{ta tb:TE}
theorem yT(b:Itc H x)(c:Itc H y):∀v∈[x,y],Itc H v:=λv a=>by
 rcases mem_cons.mp a with rfl|a
 ·exact b
 ·rw[Yu a];exact c
theorem Ev.two(a:Ev (ae H0) (λ_ v=>v=x) σ ta)(b:Ev (ae H0) (λ_ v=>v=y) σ tb)(d:∀H,Itc H x)(h:∀H,Itc H y)
 (g:∀z rows,x= .str z->y= .str (Str.join nl rows)->cc z=true->aP rows->z∉cs.map (λp=>p.2.1)->pX rows 0):Ev (ae H0) (Odd cs) σ (jh (bR ta (bR tb iL))):=
 Ev.pair (λ_ _ f s=>f.trans s) (λ_ _ _ e _=>e) (λ_ _ _ e _=>e) a b λp o q H f ex i j=>by
  subst ex i;refine kA j (yT (d H) (h H)) λz rows e k l m=>?_
  injection e with n c
  injection c with c _
  exact g z rows n c k l m
theorem Ev.nsL(a:Ev (ae H0) NS σ ta)(b:Ev (ae H0) Itc σ tb):Ev (ae H0) (Odd cs) σ (jh (bR ta (bR tb iL))):=
 Ev.pair (λ_ _ f s=>f.trans s) NS.mon Itc.mon a b λp x y H f c d g=>kA g (yT c.1 d) λz rows e=>absurd (List.cons.inj e).1 (c.2 z)
theorem Ev.nsR(a:Ev (ae H0) Itc σ ta)(b:Ev (ae H0) NS σ tb):Ev (ae H0) (Odd cs) σ (jh (bR ta (bR tb iL))):=
 Ev.pair (λ_ _ f s=>f.trans s) Itc.mon NS.mon a b λp x y H f d c g=>kA g (yT d c.1) λz rows e=>absurd (List.cons.inj (List.cons.inj e).2).1 (c.2 _)
theorem Ev.odd(r:Evs (ae H0) Itc σ n ts)(a:n<=1000)(b:n≠2):Ev (ae H0) (Odd cs) σ (jh ts):=
 Ev.tup r a (λ_ _ f s=>f.trans s) Itc.mon λp xs H _ h c d=>kA h c λz rows e=>absurd d (by rw[e];exact λq=>b q.symm)
end
theorem bM(h:10∉z.cps.toList)(l:z.length<=50):Itc H (.str z):=⟨⟨_,.str⟩,xq h l⟩
theorem eY(rows:List Str)(e:Str.join nl rows=z)(h:cZ rows 50):Itc H (.str z):=⟨⟨_,.str⟩,e▸mX h⟩
theorem qd{K:PySem.W.Frag}{H:Hp}{Q:VK}{r:Str}{n:Nat}(d:n<=100)(e:r.length<=50)(k:∀c,ae H c->Q (.str (Str.join nl (List.replicate n r))) c):∀p,H p=none->∃x,upd H p (.lst [.str r]) p=some (.lst x)/\ -2^63<=(n:Int)/\(n:Int)<2^63/\x.length*(n:Int).toNat<=sizeLine/\
 ∀a,upd H p (.lst [.str r]) a=none->∃y:List Str,SqL K (upd (upd H p (.lst [.str r])) a (.lst (List.replicate (n:Int).toNat x).flatten)) a (y.map V.str)/\(y.map λx=>x.length).sum+y.length*(Str.ofString "\n").length<=16777216/\Q (.str (Txt.join (Str.ofString "\n") y)) (upd (upd H p (.lst [.str r])) a (.lst (List.replicate (n:Int).toNat x).flatten)):=by
 refine λp g=>⟨_,aa,by lia,by lia,?_,λa b=>⟨List.replicate n r,?_,?_,by rw[show Txt.join (Str.ofString "\n") (List.replicate n r)=Str.join nl (List.replicate n r)from StrLaws.glued_eq_join _ _];exact k _ ((ae.upd g).trans (ae.upd b))⟩⟩
 ·rw[Int.toNat_natCast,Y5,one_mul];exact aH (by lia)
 ·refine SqL.of ?_;rw[aa,Int.toNat_natCast,List.map_replicate]
  congr 2
  clear k d
  induction n with
  | zero=>rfl
  | succ n h=>rw[replicate_succ,flatten_cons,h];rfl
 ·have:=gh (f:=λx:Str=>x.length) (B:=50) (xs:=List.replicate n r) λx i=>by rw[List.eq_of_mem_replicate i];exact e
  rw[length_replicate]at this ⊢;rw[show(Str.ofString "\n").length=1 by decide +kernel]
  lia
theorem lZ(T:Txt K mg):Cal P w K mg base 1 "_law_odd_cut" ["_law_cuts","_law_number"] yS:=by
 refine T.d_law_odd_cut.cal bo (λvs H Q E h=>?_) (λf ab A outer s H vs Q E hr h=>?_)
 ·obtain⟨l,cs,k,rfl,_⟩:=h;rfl
 ·obtain⟨l,cs,k,rfl,U,I,h1,h3,h0,kk⟩:=h;have o:(aT cs).length=cs.length:=Z5 _;have r:(0:Int)<(cs.length:Int):=by lia
  obtain⟨v,J,Y⟩:=jc (xs:=aT cs) (by lia) h0;rw[o]at Y;obtain⟨q,mq,rfl⟩:=Yv J;obtain⟨L,t,cq⟩:=I q mq;have u:q.2.1∈cs.map (λp=>p.2.1):=Yw ⟨q,mq,rfl⟩;have tx:=qb cq
  generalize q.2.1=B at L t u
  generalize Str.join nl q.2.2=z at L tx
  have d:∀H,Itc H (.str z):=λH=>⟨⟨_,.str⟩,tx⟩
  have g:∀H,Itc H (.str B):=λH=>bM (λm=>by
   unfold cc at t;rw[Zu]at t;exact absurd (all_eq_true.mp t.2 10 m) (by decide +kernel)) (by have:=d8 t;lia)
  have a:∀C M,ae H C->ae C M->ae H M:=λ_ _ x y=>x.trans y
  refine⟨_,(QSs.h (ag (qz rfl rfl rfl (cm (K:=K) rfl (λ_ _=>rfl) (ad 0 rfl) (opE bC (ad 1 rfl) (cbO (bH (K:=K) rfl) T.b_len PySem.boot_len rfl (paE rfl (ad 0 rfl) af)))) (fN (K:=K) rfl rfl rfl (gsE rfl (bb 2 bo.nd rfl) (gsE rfl (bb 3 bo.nd rfl) cU))))
   (ag (aV 4 bo.nd rfl (bB (paE rfl fX (paE rfl (aE af) (paE rfl (aE (paE rfl (ad 2 rfl) af)) (paE rfl (bB (paE rfl (ad 2 rfl) (paE rfl (ad 3 rfl) af))) (paE rfl (aE (paE rfl (ad 2 rfl) (paE rfl (ad 3 rfl) (paE rfl ak af)))) (paE rfl (aE (paE rfl ax (paE rfl (ad 3 rfl) af))) (paE rfl (aE (paE rfl ax (paE rfl (ad 3 rfl) af))) (paE rfl (aE (paE rfl ax (paE rfl (ad 3 rfl) af))) af))))))))))
   (ag (aV 4 bo.nd rfl (opE bS (ad 4 rfl) (bB (paE rfl (aE (paE rfl ax (paE rfl (ad 3 rfl) af))) (paE rfl (aE (paE rfl ak (paE rfl (ad 3 rfl) af))) (paE rfl (aE (paE rfl ax (paE rfl (ad 3 rfl) af))) (paE rfl (aE (paE rfl (ad 2 rfl) (paE rfl (ad 3 rfl) af))) (paE rfl (aE (paE rfl ax (paE rfl ax af))) (paE rfl (aE (paE rfl ax (paE rfl fX af))) (paE rfl (aE (paE rfl ax (paE rfl ax af))) af))))))))))
   (ag (aV 4 bo.nd rfl (opE bS (ad 4 rfl) (bB (paE rfl (aE (paE rfl ax (paE rfl ax af))) (paE rfl (aE (paE rfl ax (paE rfl ax af))) (paE rfl (aE (paE rfl ax (paE rfl ax af))) (paE rfl (aE (paE rfl ax (paE rfl ax af))) (paE rfl (aE (paE rfl ax (paE rfl ax af))) (paE rfl (aE (paE rfl ax (paE rfl (opE v8 ax ak) af))) af)))))))))
   (ag (aV 4 bo.nd rfl (opE bS (ad 4 rfl) (bB (paE rfl (aE (paE rfl ax (paE rfl (bmO plainAttrs_str slot_str_join type_str_join (kU (K:=K) rfl) rfl ax (paE rfl (opE kT (bB (paE rfl ax af)) ak) af)) af))) (paE rfl (aE (paE rfl ax (paE rfl ax af))) (paE rfl (aE (paE rfl ax (paE rfl ax af))) (paE rfl (aE (paE rfl ax (paE rfl (bmO plainAttrs_str slot_str_join type_str_join (kU (K:=K) rfl) rfl ax (paE rfl (opE kT (bB (paE rfl (opE v8 ax ak) af)) ak) af)) af))) af)))))))
   (ag (aV 4 bo.nd rfl (opE bS (ad 4 rfl) (bB (paE rfl (aE (paE rfl (bB (paE rfl ax af)) (paE rfl (ad 3 rfl) af))) (paE rfl (aE (paE rfl oV (paE rfl (ad 3 rfl) af))) (paE rfl (aE (paE rfl ax (paE rfl (bB (paE rfl ax af)) af))) (paE rfl (aE (paE rfl (aE (paE rfl ax af)) (paE rfl (ad 3 rfl) af))) af)))))))
   (ao (aM (cm (K:=K) rfl (λ_ _=>rfl) (ad 4 rfl) (opE bC (opE cr (ad 1 rfl) ak) (cbO (bH (K:=K) rfl) T.b_len PySem.boot_len rfl (paE rfl (ad 4 rfl) af))))))))))))),?_⟩
  show bA _ _ _ [some (.ref l),some (.int k),none,none,none] H;refine ai λD1 k1 r1=>?_
  walk_at "rd";refine⟨cs.length,.inl ⟨_,SqL.of U,o.symm⟩,r,_,SqL.of U,_,Y,_,rfl,_,SqT.of L,rfl,_,_,rfl,_,_,rfl,rfl,k1 _ _ (ai λD2 k2 r2=>?_)⟩;show iK _ _ _ [some (.ref l),some (.int k),some (.str B),some (.str z),none] H;refine mW (F:=ae H) (G:=Odd cs) (n:=8) Odd.mon ?_ (by decide) (by decide) (ae.refl H) λS1 ac C N g1 o1 l1 m1=>k2 _ _ (ai λD3 k3 r3=>?_)
  ·refine Evs.cons a Odd.mon (Ev.val (x:= .non) (λ_ _ q=>q) λH _=>qc .non (by decide)) ?_;refine Evs.cons a Odd.mon (Ev.odd Evs.nil (by decide) (by decide)) ?_;refine Evs.cons a Odd.mon (Ev.odd (n:=1) (Evs.cons a Itc.mon (Ev.val (λ_ _ q=>q) λH _=>g H) Evs.nil) (by decide) (by decide)) ?_;refine Evs.cons a Odd.mon (Ev.lst (n:=2) (A:=Itc) (Evs.cons a Itc.mon (Ev.val (λ_ _ q=>q) λH _=>g H) (Evs.cons a Itc.mon (Ev.val (λ_ _ q=>q) λH _=>d H) Evs.nil)) (by decide) λp xs H h=>qc (.lst h) (by decide)) ?_;refine Evs.cons a Odd.mon (Ev.odd (n:=3) (Evs.cons a Itc.mon (Ev.val (λ_ _ q=>q) λH _=>g H) (Evs.cons a Itc.mon (Ev.val (λ_ _ q=>q) λH _=>d H) (Evs.cons a Itc.mon (Ev.val (x:= .int 1) (λ_ _ q=>q) λH _=>(NS.of .int λz e=>(nomatch e)).1) Evs.nil))) (by decide) (by decide)) ?_
   repeat' first
    | exact Evs.nil
    | refine Evs.cons a Odd.mon ?_ ?_
    | exact Ev.two (x:= .str _) (y:= .str z) (Ev.eq λ_ _ q=>q) (Ev.eq λ_ _ q=>q) (λH=>bM (by decide +kernel) (by decide +kernel)) d (λn rows e _ D=>absurd D (by cases e;decide +kernel))
  refine cG (F:=ae H) (G:=Odd cs) (n:=7) Odd.mon (λ_ _ q=>q) ?_ (by decide) N g1 o1 l1 (by lia) λS2 al M s2 g2 o2 l2 m2=>k3 _ _ (ai λD4 k4 r4=>?_)
  ·refine Evs.cons a Odd.mon (Ev.two (x:= .str _) (y:= .str z) (Ev.eq λ_ _ q=>q) (Ev.eq λ_ _ q=>q) (λH=>bM (by decide +kernel) (by decide +kernel)) d (λn rows e _ D=>absurd D (by cases e;decide +kernel))) ?_;refine Evs.cons a Odd.mon (Ev.nsL (Ev.val (x:= .int 1) (λ_ _ q=>q) λH _=>NS.of .int λz e=>(nomatch e)) (Ev.val (λ_ _ q=>q) λH _=>d H)) ?_;refine Evs.cons a Odd.mon (Ev.two (x:= .str _) (y:= .str z) (Ev.eq λ_ _ q=>q) (Ev.eq λ_ _ q=>q) (λH=>bM (by decide +kernel) (by decide +kernel)) d (λn rows e _ D=>absurd D (by cases e;decide +kernel))) ?_;refine Evs.cons a Odd.mon (Ev.two (x:= .str B) (y:= .str z) (Ev.eq λ_ _ q=>q) (Ev.eq λ_ _ q=>q) g d (λn rows e _ _ _ nn=>absurd u (by cases e;exact nn))) ?_;refine Evs.cons a Odd.mon (Ev.two (x:= .str _) (y:= .str _) (Ev.eq λ_ _ q=>q) (Ev.eq λ_ _ q=>q) (λH=>bM (by decide +kernel) (by decide +kernel)) (λH=>bM (by decide +kernel) (by decide +kernel)) (λn rows _ e _ b _=>eJ 0 (by decide +kernel) e b)) ?_;refine Evs.cons a Odd.mon (Ev.nsR (Ev.val (x:= .str _) (λ_ _ q=>q) λH _=>bM (by decide +kernel) (by decide +kernel)) (Ev.val (x:= .non) (λ_ _ q=>q) λH _=>NS.of .non λz e=>(nomatch e))) ?_;exact Evs.cons a Odd.mon (Ev.two (x:= .str _) (y:= .str _) (Ev.eq λ_ _ q=>q) (Ev.eq λ_ _ q=>q) (λH=>bM (by decide +kernel) (by decide +kernel)) (λH=>bM (by decide +kernel) (by decide +kernel)) (λn rows _ e _ b _=>eJ 0 (by decide +kernel) e b)) Evs.nil
  have new:∀H,Itc H (.str (Str.ofString "new")):=λH=>bM (by decide +kernel) (by decide +kernel)
  refine cG (F:=ae H) (G:=Odd cs) (n:=6) Odd.mon (λ_ _ q=>q) ?_ (by decide) (N.trans s2) g2 o2 l2 (by lia) λS3 an H3 s3 g3 o3 l3 m3=>k4 _ _ (ai λD5 k5 r5=>?_)
  ·refine Evs.cons a Odd.mon (Ev.two (Ev.eq λ_ _ q=>q) (Ev.eq λ_ _ q=>q) new (λH=>eY [Str.ofString "a",Str.ofString "."] (by decide +kernel) ⟨by simp,by decide,by decide +kernel,by decide +kernel⟩) (λn rows _ e _ b _=>eJ 97 (by decide +kernel) e b)) ?_;refine Evs.cons a Odd.mon (Ev.two (Ev.eq λ_ _ q=>q) (Ev.eq λ_ _ q=>q) new (λH=>eY [Str.ofString "ab",Str.ofString "a"] (by decide +kernel) ⟨by simp,by decide,by decide +kernel,by decide +kernel⟩) (λn rows _ e _ b _=>(BR e b).elim)) ?_;refine Evs.cons a Odd.mon (Ev.two (Ev.eq λ_ _ q=>q) (Ev.eq λ_ _ q=>q) new (λH=>eY [Str.ofString "a",Str.ofString ""] (by decide +kernel) ⟨by simp,by decide,by decide +kernel,by decide +kernel⟩) (λn rows _ e _ b _=>eJ 97 (by decide +kernel) e b)) ?_;refine Evs.cons a Odd.mon (Ev.two (Ev.eq λ_ _ q=>q) (Ev.eq λ_ _ q=>q) new (λH=>bM (by decide +kernel) (by decide +kernel)) (λn rows _ e _ b _=>eJ 65 (by decide +kernel) e b)) ?_;refine Evs.cons a Odd.mon (Ev.two (Ev.eq λ_ _ q=>q) (Ev.eq λ_ _ q=>q) new (λH=>bM (by decide +kernel) (by decide +kernel)) (λn rows _ e _ b _=>(AX e b).elim)) ?_;refine Evs.cons a Odd.mon (Ev.two (y:= .str (Txt.mul ⟨#[97]⟩ ((41:Nat):Int))) (Ev.eq λ_ _ q=>q) (Ev.eq λ_ _ q=>⟨_,_,rfl,rfl,by decide,by decide,by decide,q⟩) new (λH=>bM (by rw[eX];decide +kernel) (by rw[show(Txt.mul ⟨#[97]⟩ ((41:Nat):Int)).length=(Txt.mul ⟨#[97]⟩ ((41:Nat):Int)).cps.toList.length by simp[Str.length],eX];decide +kernel)) (λn rows _ e _ b _=>eJ 97 (by rw[eX];decide +kernel) e b)) Evs.nil
  have t3:=N.trans (s2.trans s3);refine cG (F:=ae H) (G:=Odd cs) (n:=4) Odd.mon (λ_ _ q=>q) ?_ (by decide) t3 g3 o3 l3 (by lia) λS4 as H4 s4 g4 o4 l4 m4=>k5 _ _ (ai λD6 k6 r6=>?_)
  ·have rep:∀c∈(Str.ofString "a").cps.toList,c=97:=by decide +kernel
   have i:∀c∈(Txt.mul ⟨#[98]⟩ ((40:Nat):Int)).cps.toList,c=98:=by rw[eX];decide +kernel
   have xh:(Txt.mul ⟨#[98]⟩ ((40:Nat):Int)).length<=50:=by rw[show(Txt.mul ⟨#[98]⟩ ((40:Nat):Int)).length=(Txt.mul ⟨#[98]⟩ ((40:Nat):Int)).cps.toList.length by simp[Str.length],eX];decide +kernel
   refine Evs.cons a Odd.mon (Ev.two (y:= .str (Str.join nl (List.replicate 41 (Str.ofString "a")))) (Ev.eq λ_ _ q=>q) ?_ new (λH=>eY _ rfl (xr (x:=97) rep (by decide) (by decide) (by decide) (by decide +kernel))) (λn rows _ e _ b _=>eJ 97 (mY rep) e b)) ?_
   ·intro C Q f k;walk_at "rd";exact⟨(show 1<=sizeLine by decide),qd (n:=41) (by decide) (by decide +kernel) λH' s=>k _ _ s rfl⟩
   refine Evs.cons a Odd.mon (Ev.two (Ev.eq λ_ _ q=>q) (Ev.eq λ_ _ q=>q) new (λH=>eY [Str.ofString "..",Str.ofString ".."] (by decide +kernel) ⟨by simp,by decide,by decide +kernel,by decide +kernel⟩) (λn rows _ e _ b _=>eJ 0 (by decide +kernel) e b)) ?_;refine Evs.cons a Odd.mon (Ev.two (Ev.eq λ_ _ q=>q) (Ev.eq λ_ _ q=>q) new (λH=>bM (by decide +kernel) (by decide +kernel)) (λn rows _ e _ b _=>eJ 97 (by decide +kernel) e b)) ?_;refine Evs.cons a Odd.mon (Ev.two (y:= .str (Str.join nl (List.replicate 40 (Txt.mul ⟨#[98]⟩ ((40:Nat):Int))))) (Ev.eq λ_ _ q=>q) ?_ new (λH=>eY _ rfl (xr (x:=98) i (by decide) (by decide) (by decide) xh)) (λn rows _ e _ b _=>eJ 98 (mY i) e b)) Evs.nil
   ·intro C Q f k;walk_at "rd";exact⟨by decide,by decide,by decide,(show 1<=sizeLine by decide),qd (n:=40) (by decide) xh λH' s=>k _ _ s rfl⟩
  refine cG (F:=ae H) (G:=Odd cs) (n:=4) Odd.mon (λ_ _ q=>q) ?_ (by decide) (t3.trans s4) g4 o4 l4 (by lia) λS5 O H5 s5 g5 o5 l5 m5=>k6 _ _ ?_
  ·have la:Ev (ae H) NS [some (.ref l),some (.int k),some (.str B),some (.str z),some (.ref S4)] (nh (bR (tC (.str (Str.ofString "a"))) iL)):=Ev.lst (n:=1) (A:=Itc) (Evs.cons a Itc.mon (Ev.val (λ_ _ q=>q) λH _=>bM (by decide +kernel) (by decide +kernel)) Evs.nil) (by decide) λp xs H h=>NS.of (.lst h) λz e=>(nomatch e)
   refine Evs.cons a Odd.mon (Ev.nsL la (Ev.val (λ_ _ q=>q) λH _=>d H)) ?_;refine Evs.cons a Odd.mon (Ev.nsL (Ev.dct λp H h=>NS.of (.dct h) λz e=>(nomatch e)) (Ev.val (λ_ _ q=>q) λH _=>d H)) ?_;refine Evs.cons a Odd.mon (Ev.nsR (Ev.val (λ_ _ q=>q) λH _=>new H) la) ?_;exact Evs.cons a Odd.mon (Ev.nsL (Ev.tup (n:=1) (A:=Itc) (Evs.cons a Itc.mon (Ev.val (λ_ _ q=>q) λH _=>bM (by decide +kernel) (by decide +kernel)) Evs.nil) (by decide) a Itc.mon λp xs H _ h _ _=>NS.of (.tup h) λz e=>(nomatch e)) (Ev.val (λ_ _ q=>q) λH _=>d H)) Evs.nil
  obtain⟨v,J,gv⟩:=jc (xs:=O) (j:=k/8) l5 (by lia);show jY _ _ [some (.ref l),some (.int k),some (.str B),some (.str z),some (.ref S5)] H5;walk_at "rd";exact⟨⟨by decide,by decide⟩,_,.inl ⟨_,SqL.of g5,rfl⟩,by lia,_,SqL.of g5,_,gv,kk v _ (t3.trans (s4.trans s5)) (o5 v J)⟩
def df(H:Hp)(ys:List (Addr×Str×Int)):Prop:=∀p∈ys,H p.1=some (.tup [.str p.2.1,.int p.2.2])/\0<=p.2.2/\p.2.2<=7
theorem df.up(h:df H ys)(s:ae H b):df b ys:=λp a=>⟨s _ _ (h p a).1,(h p a).2⟩
def uS:Sp:=λvs H Q _=>∃(one two:Int) (l:Addr) (ys:List (Addr×Str×Int)),vs=[.int one,.int two,.ref l]/\H l=some (.lst (ys.map λp=>V.ref p.1))/\df H ys/\1<=ys.length/\ys.length<=100/\0<=one/\0<=two/\
 ∀(t:Addr) a (xs:List V),ae H a->H t=none->a t=some (.tup xs)->ig (ys.map λp=>p.2.1) xs->Q (.ref t) a
theorem oF(T:Txt K mg):Cal P w K mg base 1 "_law_saying" ["_law_one","_law_two","_law_layers_here"] uS:=by
 refine T.d_law_saying.cal bE (λvs H Q E h=>?_) (λf al A outer s H vs Q E hr h=>?_)
 ·obtain⟨one,two,l,ys,rfl,_⟩:=h;rfl
 ·obtain⟨one,two,l,ys,rfl,I,B,y1,ac,o0,t0,k⟩:=h;have get:∀n:Int,0<=n->∃q,atI (ys.map λp=>V.ref p.1) (n%(ys.length:Int))=some (V.ref q.1)/\q∈ys:=λn hn=>by
   have h0:=Int.emod_nonneg n (show(ys.length:Int)≠0 by lia);have h1:=Int.emod_lt_of_pos n (show(0:Int)<(ys.length:Int) by lia)
   generalize n%(ys.length:Int)=i at h0 h1
   obtain⟨j,rfl⟩:=Yq h0;have hj:j<ys.length:=by lia
   exact⟨ys[j],bV (by simp[hj]),Y0 hj⟩
  obtain⟨p,gp,mp⟩:=get one o0;obtain⟨q,gq,mq⟩:=get two t0;have C:(ys.map λp=>V.ref p.1).length=ys.length:=Z5 _;have v:(0:Int)<(ys.length:Int):=by lia
  have pa:=B p mp;have qa:=B q mq;refine⟨_,(QSs.h (ag (qz rfl rfl rfl (cm (K:=K) rfl (λ_ _=>rfl) (ad 2 rfl) (opE bC (ad 0 rfl) (cbO (bH (K:=K) rfl) T.b_len PySem.boot_len rfl (paE rfl (ad 2 rfl) af)))) (fN (K:=K) rfl rfl rfl (gsE rfl (bb 3 bE.nd rfl) (gsE rfl (bb 4 bE.nd rfl) cU))))
   (ag (qz rfl rfl rfl (cm (K:=K) rfl (λ_ _=>rfl) (ad 2 rfl) (opE bC (ad 1 rfl) (cbO (bH (K:=K) rfl) T.b_len PySem.boot_len rfl (paE rfl (ad 2 rfl) af)))) (fN (K:=K) rfl rfl rfl (gsE rfl (bb 5 bE.nd rfl) (gsE rfl (bb 6 bE.nd rfl) cU))))
   (ag (aV 7 bE.nd rfl (opE bC (opE cr (ad 0 rfl) ak) ak))
   (ag (aV 8 bE.nd rfl (hZ cV rfl (opE bC (opE cr (ad 1 rfl) ak) ak) ak))
   (ag (ifS (wT (kS (bF v5 rfl (ad 7 rfl) ak) (kS (bF cW rfl (ad 3 rfl) (ad 5 rfl)) (jR (wT (orW (bF cW rfl (ad 4 rfl) (ad 6 rfl)) (dI (bG (K:=K) rfl (λ_=>rfl) (ad 8 rfl)))))))))
   (ag (ifS (wT (kS (bF tJ rfl (ad 4 rfl) (ad 6 rfl)) (jR (bU (bG (K:=K) rfl (λ_=>rfl) (ad 8 rfl))))))
    (ao (aM (aE (paE rfl ax (paE rfl (ad 5 rfl) (paE rfl (ad 3 rfl) af))))))
    aI)
    (ao (aM (aE (paE rfl ax (paE rfl (ad 3 rfl) (paE rfl (ad 5 rfl) af)))))))
   aI)
   (ag (ifS (wT (kS (bF (nJ (K:=K) rfl) rfl (ad 7 rfl) (aE (paE rfl ak (paE rfl ak af)))) (kS (bF cW rfl (ad 3 rfl) (ad 5 rfl)) (jR (wT (orW (bF cV rfl (ad 4 rfl) (ad 6 rfl)) (dI (bG (K:=K) rfl (λ_=>rfl) (ad 8 rfl)))))))))
   (ao (aM (aE (paE rfl ax (paE rfl (ad 3 rfl) (paE rfl (ad 5 rfl) af))))))
   aI)
   (ag (aV 9 bE.nd rfl (opE bW (opE mD ak (opE dW ak (ad 4 rfl))) (cm (K:=K) rfl (λ_ _=>rfl) (bB (paE rfl ak (paE rfl (oU ak) (paE rfl (oU ak) (paE rfl ak (paE rfl ak (paE rfl (oU ak) (paE rfl ak (paE rfl ak af))))))))) (opE bC (ad 1 rfl) ak))))
   (ao (aM (aE (paE rfl (cm (K:=K) rfl (λ_ _=>rfl) (bB (paE rfl ax (paE rfl ax af))) (opE bC (ad 7 rfl) ak)) (paE rfl (ad 3 rfl) (paE rfl (ad 9 rfl) af)))))))))))))),?_⟩
  show bA _ _ _ [some (.int one),some (.int two),some (.ref l),none,none,none,none,none,none,none] H;refine ai λD1 k1 _=>?_
  walk_at "rd";refine⟨ys.length,.inl ⟨_,SqL.of I,C.symm⟩,v,_,SqL.of I,_,gp,_,rfl,_,SqT.of pa.1,rfl,_,_,rfl,_,_,rfl,rfl,k1 _ _ (ai λD2 k2 _=>?_)⟩;walk_at "rd";refine⟨ys.length,.inl ⟨_,SqL.of I,C.symm⟩,v,_,SqL.of I,_,gq,_,rfl,_,SqT.of qa.1,rfl,_,_,rfl,_,_,rfl,rfl,k2 _ _ (ai λD3 k3 _=>?_)⟩;walk_at "rd";refine⟨⟨by decide,by decide⟩,by decide,k3 _ _ (ai λD4 k4 _=>?_)⟩;walk_at "rd";refine⟨⟨by decide,by decide⟩,by decide,k4 _ _ (ai λO k5 r5=>?_)⟩;have b1:0<=one/64%8:=by lia
  have b2:one/64%8<8:=by lia
  generalize one/64%8=kind at b1 b2
  generalize decide (two/64%16=0)=odd
  obtain⟨an,pn,pi⟩:=p;obtain⟨as,g,qi⟩:=q;dsimp only at pa qa gp gq;have mem:∀{r:Addr×Str×Int},r∈ys->r.2.1∈ys.map λp=>p.2.1:=λ{r} hr=>Yw ⟨r,hr,rfl⟩
  have y:∀(x:Hp) (a b:Str),ae H x->a∈(ys.map λp=>p.2.1)->b∈(ys.map λp=>p.2.1)->a≠b->∀w:Str,w="later"\/w="same"->∀t,x t=none->Q (.ref t) (upd x t (.tup [.str w,.str a,.str b])):=λx a b D ha hb U w hw t m=>
   k t _ _ (D.trans (ae.upd m)) (D.free m) aa (.inl ⟨w,a,b,rfl,hw,ha,hb,U⟩)
  have J:pn∈ys.map λp=>p.2.1:=mem mp
  have m2:g∈ys.map λp=>p.2.1:=mem mq
  have u:3<=sizeLine:=by decide
  have rest:O.nx [some (.int one),some (.int two),some (.ref l),some (.str pn),some (.int pi),some (.str g),some (.int qi),some (.int kind),some (.bl odd),none] H:=by
   refine k5 _ _ (ai λD6 k6 r6=>?_);have z:∀x,ae H x->D6.nx [some (.int one),some (.int two),some (.ref l),some (.str pn),some (.int pi),some (.str g),some (.int qi),some (.int kind),some (.bl odd),none] x:=by
    intro x D;refine k6 _ _ (ai λD7 k7 _=>?_);walk_at "rd";refine⟨.inl ⟨by decide,by decide⟩,(show 8<=sizeLine by decide),λp M=>⟨by decide,_,SqL.of aa,?_⟩⟩;obtain⟨c,hc,Y⟩:=i8 [0,-20,-60,10,60,-200,110,0] (i:=two%8) (by lia) (by show two%8<8;lia);have au: -200<=c/\c<=110:=by
     simp only[Ye,Yj,or_false]at Y
     lia
    refine⟨_,hc,c,rfl,k7 _ _ ?_⟩;walk_at "rd";obtain⟨wd,ab,hw⟩:∃wd:Str,atI [V.str (Str.ofString "since"),V.str (Str.ofString "by")] (kind%2)=some (V.str wd)/\(wd="since"\/wd="by"):=by
     rcases(show kind%2=0\/kind%2=1 by lia)with e|e<;> rw[e]
     ·exact⟨_,rfl,.inl rfl⟩
     ·exact⟨_,rfl,.inr rfl⟩
    refine⟨(show 2<=sizeLine by decide),λp1 G=>⟨by decide,_,SqL.of aa,_,ab,u,λt m=>?_⟩⟩;exact k t _ _ (D.trans ((ae.upd M).trans ((ae.upd G).trans (ae.upd m)))) (D.free ((ae.upd M).free ((ae.upd G).free m))) aa (.inr ⟨wd,pn,_,rfl,hw,J,by lia,by lia⟩)
   walk_at "rd";refine⟨(show 2<=sizeLine by decide),λp M=>⟨_,.inr (SqT.of aa),rfl,rfl,?_⟩⟩;have sp:=ae.upd (o:= .tup [V.int 2,V.int 3]) M
   generalize upd H p (.tup [V.int 2,V.int 3])=N at sp
   have R:=z N sp;refine aA (λ_=>aA (λd=>?_) λ_=>R) λ_=>R
   have d:pn≠g:=by simpa using d
   have L:3<=sizeLine/\∀p,N p=none->D6.rt (.ref p) (upd N p (.tup [V.str (Str.ofString "same"),V.str pn,V.str g])):=⟨u,λt m=>r6 _ _ (y N pn g sp J m2 d _ (.inr rfl) t m)⟩
   exact aA (λ_=>L) λ_=>aA (λ_=>L) λ_=>R
  walk_at "rd";refine aA (λ_=>aA (λd=>?_) λ_=>rest) λ_=>rest
  have d:pn≠g:=by simpa using d
  have L1:3<=sizeLine/\∀p,H p=none->O.rt (.ref p) (upd H p (.tup [V.str (Str.ofString "later"),V.str g,V.str pn])):=⟨u,λt m=>r5 _ _ (y H g pn (ae.refl H) m2 J (Ne.symm d) _ (.inl rfl) t m)⟩
  have L2:3<=sizeLine/\∀p,H p=none->O.rt (.ref p) (upd H p (.tup [V.str (Str.ofString "later"),V.str pn,V.str g])):=⟨u,λt m=>r5 _ _ (y H pn g (ae.refl H) J m2 d _ (.inl rfl) t m)⟩
  exact aA (λ_=>aA (λ_=>aA (λ_=>L1) λ_=>L2) λ_=>L2) λ_=>aA (λ_=>aA (λ_=>aA (λ_=>L1) λ_=>L2) λ_=>L2) λ_=>rest
structure Drn where
 name:Str
 cols:List (List Int)
 hi:Nat
 sh:Int
 wd:Bool
noncomputable def Drn.rows(d:Drn):List Str:=drawn d.cols d.hi d.sh
def mZ(d:Drn):Prop:=cc d.name=true/\1<=d.hi/\d.hi<=6/\1<=d.cols.length/\d.cols.length<=5/\∀c∈d.cols,c.length=d.hi/\iZ d.wd c
theorem mZ.cut(h:mZ d):aP d.rows:=pR h.2.1 (by have:=h.2.2.1;lia) h.2.2.2.1 (by have:=h.2.2.2.2.1;lia) h.2.2.2.2.2
noncomputable def jI(d:Drn):List (Str×Int):=(there d.cols).map λa=>(i4 d.name (sg a d.sh),a)
noncomputable def dcs(ds:List (Addr×Drn)):List (Addr×Str×List Str):=ds.map λp=>(p.1,p.2.name,p.2.rows)
noncomputable def nmK(k:Int):Str:=if k=0 then "north" else if k=1 then "worth" else if k=2 then "norths" else "nort"
def uT(K:PySem.W.Frag):Sp:=λvs H Q _=>∃(a:Addr) (xs:List Int),vs=[.ref a]/\SqL K H a (xs.map V.int)/\(∀b,ae H b->SqL K b a (xs.map V.int))/\xs.length=43/\(∀x∈xs,0<=x/\x<9973)/\
 ∀(t l1 c l3:Addr) b (ds:List (Addr×Drn)) (qs:List (Addr×List V)),ae H b->H t=none->H l1=none->H c=none->H l3=none->l1≠c->l1≠l3->c≠l3->
  b t=some (.tup [.ref l1,.ref c,.ref l3])->b l1=some (.lst (aT (dcs ds)))->b c=some (.lst (qs.map λq=>V.ref q.1))->b l3=some (.lst ((ds.flatMap λp=>(jI p.2).map (·.1)).map V.str))->
  1<=ds.length->ds.length<=3->(∀p∈ds,mZ p.2)->(ds.map λp=>p.2.name).Nodup->aO b (dcs ds)->dE b (ds.flatMap λp=>(jI p.2).map (·.1)) qs->qs.length<=12->(∀p∈ds,∃k:Int,p.2.name=nmK k)->1<=(ds.flatMap λp=>(jI p.2).map (·.1)).length/\(ds.flatMap λp=>(jI p.2).map (·.1)).length<=24->Q (.ref t) b
theorem gQ(h:H M=some (.lst xs)):∀b z,H b=some (.tup z)->upd H M (.lst ys) b=some (.tup z):=λb z e=>by
 rw[aj (λa=>by rw[a,h]at e;cases e)];exact e
theorem df.keep(h:df H ys)(t:∀b z,H b=some (.tup z)->c b=some (.tup z)):df c ys:=λp a=>⟨t _ _ (h p a).1,(h p a).2⟩
theorem aO.keep(h:aO H cs)(t:∀b z,H b=some (.tup z)->c b=some (.tup z)):aO c cs:=λp a=>⟨t _ _ (h p a).1,(h p a).2⟩
theorem dE.keep(h:dE H c qs)(t:∀b z,H b=some (.tup z)->d b=some (.tup z)):dE d c qs:=λp a=>⟨t _ _ (h p a).1,(h p a).2⟩
theorem aO.snoc(h:aO H cs)(a:H q.1=some (.tup [.str q.2.1,.str (Str.join nl q.2.2)])/\cc q.2.1=true/\aP q.2.2):aO H (cs++[q]):=λp b=>by
 rcases Yt b with z|z
 ·exact h p z
 ·rw[Yu z];exact a
theorem df.snoc(h:df H ys)(a:H q.1=some (.tup [.str q.2.1,.int q.2.2])/\0<=q.2.2/\q.2.2<=7):df H (ys++[q]):=λp b=>by
 rcases Yt b with z|z
 ·exact h p z
 ·rw[Yu z];exact a
theorem uU(n:Str)(c:Nat):n++Str.ofString "."++sgn c=i4 n c:=by
 refine iR ?_;show(n.cps++ #[46] ++ #[c]).toList=(n.cps.toList++[46,c]).toArray.toList;simp
theorem AY(k:Int):cc (nmK k)=true:=by
 unfold nmK
 split
 ·decide +kernel
 ·split
  ·decide +kernel
  ·split<;> decide +kernel
theorem yU(c:0<=j)(e:j<4)(d:0<=k)(f:k<4)(h:nmK j=nmK k):j=k:=by
 have all:∀a b:Fin 4,nmK (a.1:Int)=nmK (b.1:Int)->a=b:=by decide +kernel
 obtain⟨a,rfl⟩:=Yq c;obtain⟨b,rfl⟩:=Yq d;have:=all ⟨a,by lia⟩ ⟨b,by lia⟩ h;have:=congrArg Fin.val this;dsimp only at this
 lia
theorem oG(T:Txt K mg):Cal P w K mg base 3 "_law_ground" ["_law_row_here"] (uT K):=by
 refine T.d_law_ground.cal aN (λvs H Q E h=>?_) (λf en A outer s H vs Q E hr h=>?_)
 ·obtain⟨a,xs,rfl,_⟩:=h;rfl
 ·obtain⟨a,xs,rfl,hs,keep,ca,hb,kk⟩:=h;have get:∀i:Int,0<=i->i<43->∃c,atI (xs.map V.int) i=some (V.int c)/\0<=c/\c<9973:=λi h0 h1=>by
   obtain⟨c,e,hm⟩:=i8 xs h0 (by lia);exact⟨c,e,hb c hm⟩
  obtain⟨c0,g0,l0,u0⟩:=get 0 (by decide) (by decide);refine⟨_,(QSs.h (ag (aV 1 aN.nd rfl (bB af))
   (ag (aV 2 aN.nd rfl (bB af))
   (ag (ef PassesOwn.never rfl rfl (eO rfl T.b_range rfl (paE rfl (opE bW ak (opE bC (cm (K:=K) rfl (λ_ _=>rfl) (ad 0 rfl) ak) ak)) af)) (bb 3 aN.nd rfl)
   (ag (aV 4 aN.nd rfl (cm (K:=K) rfl (λ_ _=>rfl) (bB (paE rfl ax (paE rfl ax (paE rfl ax (paE rfl ax af))))) (opE bC (opE bW (ad 3 rfl) (opE cr (cm (K:=K) rfl (λ_ _=>rfl) (ad 0 rfl) ak) ak)) ak)))
    (ag (aV 5 aN.nd rfl (opE bW (opE cr (cm (K:=K) rfl (λ_ _=>rfl) (ad 0 rfl) ak) ak) (opE dW ak (ad 3 rfl))))
    (ag (qz rfl rfl rfl (aZ (uF T) hr rfl (paE rfl (slE (K:=K) rfl (ad 0 rfl) (fZ (opE bW ak (opE dW ak (ad 3 rfl)))) (fZ (opE bW ak (opE dW ak (ad 3 rfl))))) (paE rfl (ad 5 rfl) af))) (fN (K:=K) rfl rfl rfl (gsE rfl (bb 6 aN.nd rfl) (gsE rfl (bb 7 aN.nd rfl) cU))))
    (ag (cM rfl (bmO plainAttrs_list PySem.F.slot_list_append PySem.F.type_list_append cx rfl (ad 1 rfl) (paE rfl (aE (paE rfl (ad 4 rfl) (paE rfl (ad 6 rfl) af))) af)))
    (ao (ef PassesOwn.never rfl rfl (fY (K:=K) rfl (ad 7 rfl)) (bb 8 aN.nd rfl)
    (ao (cM rfl (bmO plainAttrs_list PySem.F.slot_list_append PySem.F.type_list_append cx rfl (ad 2 rfl) (paE rfl (aE (paE rfl (opE bS (opE bS (ad 4 rfl) ax) (aZ (lD T) hr rfl (paE rfl (ad 8 rfl) (paE rfl (ad 5 rfl) af)))) (paE rfl (ad 8 rfl) af))) af)))))))))))
   (ag (aV 9 aN.nd rfl (opE bC (opE cr (cm (K:=K) rfl (λ_ _=>rfl) (ad 0 rfl) ak) ak) ak))
   (ag (aV 10 aN.nd rfl (bB af))
   (ag (ef PassesOwn.never rfl rfl (eO rfl T.b_range rfl (paE rfl (ad 9 rfl) af)) (bb 3 aN.nd rfl)
   (ao (cM rfl (bmO plainAttrs_list PySem.F.slot_list_append PySem.F.type_list_append cx rfl (ad 10 rfl) (paE rfl (aZ (oF T) hr rfl (paE rfl (cm (K:=K) rfl (λ_ _=>rfl) (ad 0 rfl) (opE bW ak (opE dW ak (ad 3 rfl)))) (paE rfl (cm (K:=K) rfl (λ_ _=>rfl) (ad 0 rfl) (opE bW ak (opE dW ak (ad 3 rfl)))) (paE rfl (ad 2 rfl) af)))) af)))))
   (ao (aM (aE (paE rfl (ad 1 rfl) (paE rfl (ad 10 rfl) (paE rfl (fG (aC.of (show ci (ah dP) ["_law_row_here","_law_cuts","_law_layers_here","_law_k","_law_name","_law_shift","_law_text","_law_there","_law_at","_law_many","_law_sayings"] _ ["_law_layer","_law_at"] []=true from by decide +kernel)) rfl rfl (fY (K:=K) rfl (ad 2 rfl)) (λ_ _ _=>(fN (K:=K) rfl rfl rfl (gsE rfl (bb 0 (show(["_law_layer","_law_at"]:List Str).Nodup from by decide +kernel) rfl) (gsE rfl (bb 1 (show(["_law_layer","_law_at"]:List Str).Nodup from by decide +kernel) rfl) cU)))) (λ_ _ _=>jm) (λ_ _ _=>(ad 0 rfl))) af))))))))))))),?_⟩
  show bA _ _ _ [some (.ref a),none,none,none,none,none,none,none,none,none,none] H;refine ai λD1 k1 _=>?_
  walk_at "rd";refine⟨Yn _,λu bm=>k1 _ _ (ai λD2 k2 _=>?_)⟩;have s1:=ae.upd (o:= .lst []) bm;walk_at "rd";refine⟨Yn _,λL3 a3=>k2 _ _ (ai λD3 k3 _=>aF λa0 hK=>?_)⟩;have s2:=s1.trans (ae.upd (o:= .lst []) a3);have bn:u≠L3:=λe=>by rw[<-e,aa]at a3;cases a3
  walk_at "rd";refine⟨_,keep _ s2,_,g0,c0,rfl,by decide,?_⟩;refine⟨by lia,by lia,hK _ _ (cg (λi M l=>∃o3 o4 o5 o6 o7 o8,M=[some (.ref a),some (.ref u),some (.ref L3),o3,o4,o5,o6,o7,o8,none,none]/\ae H l/\∃(ds:List (Addr×Drn)) (ys:List (Addr×Str×Int)),ds.length=i/\l u=some (.lst (aT (dcs ds)))/\l L3=some (.lst (ys.map λp=>V.ref p.1))/\df l ys/\(ys.map (·.2))=(ds.flatMap λp=>jI p.2)/\
   aO l (dcs ds)/\(∀p∈ds,mZ p.2)/\ds.map (λp=>p.2.name)=(List.range i).map λk:Nat=>nmK (((k:Int) +c0/3)%4))
   ⟨_,_,_,_,_,_,rfl,s2,[],[],rfl,by rw[aj bn];exact aa,aa,λp hp=>(nomatch hp),rfl,λp hp=>(nomatch hp),λp hp=>(nomatch hp),rfl⟩ ?_ ?_)⟩
  ·rintro i M H3 hi ⟨o3,o4,o5,o6,o7,o8,rfl,s3,ds,ys,bt,v,C,a4,Y,b0,a5,a6⟩;have eo:i<3:=by lia
   show bA _ _ _ [some (.ref a),some (.ref u),some (.ref L3),some (.int (0+i)),o4,o5,o6,o7,o8,none,none] H3;rw[Int.zero_add];refine ai λD4 k4 _=>?_
   walk_at "rd";obtain⟨m,cd,cf⟩:∃m:Str,atI [V.str (Str.ofString "north"),V.str (Str.ofString "worth"),V.str (Str.ofString "norths"),V.str (Str.ofString "nort")] (((i:Int) +c0/3)%4)=some (V.str m)/\m=nmK (((i:Int) +c0/3)%4):=by
    rcases(show((i:Int) +c0/3)%4=0\/((i:Int) +c0/3)%4=1\/((i:Int) +c0/3)%4=2\/((i:Int) +c0/3)%4=3 by lia)with e|e|e|e<;> rw[e]<;> exact⟨_,rfl,rfl⟩
   have b1:cc m=true:=by rw[cf];exact AY _
   refine⟨(show 4<=sizeLine by decide),λp hp=>⟨_,keep _ (s3.trans (ae.upd hp)),_,g0,c0,rfl,⟨by decide,by decide⟩,by decide,_,SqL.of aa,_,cd,k4 _ _ (ai λD5 k5 _=>?_)⟩⟩;have sp:=ae.upd (o:= .lst [V.str (Str.ofString "north"),V.str (Str.ofString "worth"),V.str (Str.ofString "norths"),V.str (Str.ofString "nort")]) hp
   generalize upd H3 p (.lst [V.str (Str.ofString "north"),V.str (Str.ofString "worth"),V.str (Str.ofString "norths"),V.str (Str.ofString "nort")])=H4 at sp
   have O:=s3.trans sp;walk_at "rd";refine⟨_,keep _ O,_,g0,c0,rfl,⟨by decide,by decide⟩,.inl ⟨by decide,by decide⟩,k5 _ _ (ai λD6 k6 _=>?_)⟩;have b2:0<=c0/12+3*(i:Int):=by lia
   generalize c0/12+3*(i:Int)=r at b2
   walk_at "rd";refine⟨.inl ⟨by decide,by decide⟩,.inl ⟨by decide,by decide⟩,.inl ⟨_,keep _ O,λp2 ch=>?_⟩⟩;rw[pT xs (by lia) (by lia) (by lia)];have cl:((xs.drop (1+6*(i:Int)).toNat).take ((7+6*(i:Int)).toNat-(1+6*(i:Int)).toNat)).length=6:=by
    rw[Y6,Y3,ca];exact(by decide:∀i:Nat,i<3->min ((7+6*(i:Int)).toNat-(1+6*(i:Int)).toNat) (43-(1+6*(i:Int)).toNat)=6) i (by lia)
   have co:∀x∈(xs.drop (1+6*(i:Int)).toNat).take ((7+6*(i:Int)).toNat-(1+6*(i:Int)).toNat),0<=x/\x<9973:=λx hx=>hb x (Yf (Yg hx))
   generalize (xs.drop (1+6*(i:Int)).toNat).take ((7+6*(i:Int)).toNat-(1+6*(i:Int)).toNat)=ws at cl co
   refine⟨p2,ws,r,rfl,SqL.of aa,λl sm=>SqL.of (sm _ _ aa),cl,co,b2,λT5 th H5 d g ab U f5 dd n5 dk dp dr dt dx dy b3=>⟨T5,rfl,_,SqT.of dk,rfl,_,_,rfl,_,_,rfl,rfl,k6 _ _ (ai λD7 k7 _=>?_)⟩⟩;have b4:ae H3 H5:=sp.trans ((ae.upd ch).trans U);have a9:mZ ⟨m,d,g,r,ab⟩:=⟨b1,dr,dt,dx,dy,b3⟩
   have al:H3 th=none:=sp.free ((ae.upd ch).free dd);have dK:th≠u:=λe=>by rw[e,v]at al;cases al
   have dT:th≠L3:=λe=>by rw[e,C]at al;cases al
   walk_at "rd";refine⟨.inl ⟨_,SqL.of (b4 _ _ v)⟩,(show 2<=sizeLine by decide),λI dV=>?_⟩;have s6:=ae.upd (o:= .tup [V.str m,V.str (nl.join (drawn d g r))]) dV;have g6:upd H5 I (.tup [V.str m,V.str (nl.join (drawn d g r))]) I=_:=aa;have av:=s6 _ _ (b4 _ _ v)
   generalize upd H5 I (.tup [V.str m,V.str (nl.join (drawn d g r))])=H6 at s6 g6 av
   have a7:=b4.trans s6;refine⟨_,av,by rw[show(aT (dcs ds)).length=ds.length by unfold aT dcs;rw[Z5,Z5],bt];exact bp (by lia),k7 _ _ (aU λD8 k8 _=>aF λa0 hK=>?_)⟩;have tk:=gQ (ys:=aT (dcs ds) ++[V.ref I]) av;have cp:ae H (upd H6 u (.lst (aT (dcs ds) ++[V.ref I]))):=ae.set (s3.trans a7) bm;have cq:upd H6 u (.lst (aT (dcs ds) ++[V.ref I])) u=some (.lst (aT (dcs (ds++[(I,⟨m,d,g,r,ab⟩)])))):=by
    rw[aa];unfold aT dcs;rw[Zc,Zc];rfl
   have l37:upd H6 u (.lst (aT (dcs ds) ++[V.ref I])) L3=some (.lst (ys.map λp=>V.ref p.1)):=by rw[aj (Ne.symm bn)];exact a7 _ _ C
   have b5:upd H6 u (.lst (aT (dcs ds) ++[V.ref I])) th=some (.lst ((there d).map V.int)):=by rw[aj dK];exact s6 _ _ dp
   have cs:aO (upd H6 u (.lst (aT (dcs ds) ++[V.ref I]))) (dcs (ds++[(I,⟨m,d,g,r,ab⟩)])):=by
    rw[show dcs (ds++[(I,⟨m,d,g,r,ab⟩)])=dcs ds++[(I,m,drawn d g r)] by unfold dcs;rw[Zc];rfl];exact((b0.up a7).snoc ⟨g6,b1,a9.cut⟩).keep tk
   have ct:df (upd H6 u (.lst (aT (dcs ds) ++[V.ref I]))) ys:=(a4.up a7).keep tk
   generalize upd H6 u (.lst (aT (dcs ds) ++[V.ref I]))=H7 at cp cq l37 b5 cs ct
   have an:ys.length<=8*i:=by
    have e:=congrArg List.length Y;rw[Z5,length_flatMap]at e;have:=gh (f:=λp:Addr×Drn=>(jI p.2).length) (B:=8) (xs:=ds) λp _=>by
     unfold jI;rw[Z5];exact gM _
    lia
   walk_at "rd";refine .inl ⟨⟨_,SqL.of b5⟩,hK _ _ (fQ (xs:=(there d).map V.int) (λj M l=>∃o8,M=[some (.ref a),some (.ref u),some (.ref L3),some (.int i),some (.str m),some (.int r),some (.str (nl.join (drawn d g r))),some (.ref th),o8,none,none]/\ae H l/\l u=some (.lst (aT (dcs (ds++[(I,⟨m,d,g,r,ab⟩)]))))/\l th=some (.lst ((there d).map V.int))/\aO l (dcs (ds++[(I,⟨m,d,g,r,ab⟩)]))/\
    ∃zs:List (Addr×Str×Int),l L3=some (.lst ((ys++zs).map λp=>V.ref p.1))/\df l (ys++zs)/\zs.map (·.2)=((there d).take j).map λa=>(i4 m (sg a r),a))
    ⟨_,rfl,cp,cq,b5,cs,[],by rw[append_nil];exact l37,by rw[append_nil];exact ct,rfl⟩ (λj M l _ ⟨_,_,_,_,q,_⟩=>SqL.of q) ?_ ?_)⟩
   ·rintro j x M H8 hx ⟨o8,rfl,s8,a1,bf,b6,zs,as,b7,a2⟩;have hj:j<(there d).length:=by have:=(Ys hx).1;rwa[Z5]at this
    rw[Zk,Z4 hj]at hx;obtain rfl:x=V.int (there d)[j]:=(Z9 hx).symm;have cu:=ju.mp (Y0 hj);show kD _ _ [some (.ref a),some (.ref u),some (.ref L3),some (.int i),some (.str m),some (.int r),some (.str (nl.join (drawn d g r))),some (.ref th),some (.int (there d)[j]),none,none] H8;refine aU λD9 k9 _=>?_
    walk_at "rd";have em:=d8 b1;have ea:∀a b:Str,(a++b).length=a.length+b.length:=λa b=>size_append
    have e1:(Str.ofString ".").length=1:=rfl;have zl:zs.length<=j:=by
     have:=congrArg List.length a2;rw[Z5,Z5,Y6]at this
     lia
    have tl:=gM d;refine⟨.inl ⟨_,SqL.of as⟩,aH (by lia),_,_,rfl,b2,_,rfl,aH (by rw[ea,show(sgn (sg (there d)[j] r)).length=1 from rfl];lia),(show 2<=sizeLine by decide),λp hp=>?_⟩;rw[uU];have s9:=ae.upd (o:= .tup [V.str (i4 m (sg (there d)[j] r)),V.int (there d)[j]]) hp;have g9:upd H8 p (.tup [V.str (i4 m (sg (there d)[j] r)),V.int (there d)[j]]) p=_:=aa
    generalize upd H8 p (.tup [V.str (i4 m (sg (there d)[j] r)),V.int (there d)[j]])=H9 at s9 g9
    have cv:=s9 _ _ as;have cz:=gQ (ys:=(ys++zs).map (λp=>V.ref p.1) ++[V.ref p]) cv;refine⟨_,cv,by rw[Z5,Z8];exact bp (by lia),k9 _ _ ⟨_,rfl,ae.set (s8.trans s9) (s1.free a3),by rw[aj bn];exact s9 _ _ a1,by rw[aj dT];exact s9 _ _ bf,(b6.up s9).keep cz,zs++[(p,i4 m (sg (there d)[j] r),(there d)[j])],?_,?_,?_⟩⟩
    ·rw[aa,<-Zd,Zc (l₂:=[(p,i4 m (sg (there d)[j] r),(there d)[j])])];rfl
    ·rw[<-Zd];exact((b7.up s9).snoc ⟨g9,cu.1,cu.2.1⟩).keep cz
    ·rw[Zc,a2,Ym,Z4 hj,Zc];rfl
   ·rintro M H8 ⟨o8,rfl,s8,a1,bf,b6,zs,as,b7,a2⟩;rw[Z5,Zm (Zh _)]at a2;refine k8 _ _ ⟨_,_,_,_,_,_,rfl,s8,ds++[(I,⟨m,d,g,r,ab⟩)],ys++zs,by rw[Z8,bt];rfl,a1,as,b7,?_,b6,λp hp=>?_,?_⟩
    ·rw[Zc,Y,a2,Zy]
     congr 1
     rw[List.flatMap_singleton];rfl
    ·rcases Yt hp with z|z
     ·exact a5 p z
     ·rw[Yu z];exact a9
    ·rw[Zc,a6,range_succ,Zc];rw[cf];rfl
  ·rintro M H3 ⟨o3,o4,o5,o6,o7,o8,rfl,s3,ds,ys,bt,v,C,a4,Y,b0,a5,a6⟩;refine k3 _ _ (ai λD4 k4 _=>?_);walk_at "rd";refine⟨_,keep _ s3,_,g0,c0,rfl,⟨by decide,by decide⟩,by decide,k4 _ _ (ai λD5 k5 _=>?_)⟩;have m0:0<=c0/100%13:=by lia
   have d0:c0/100%13<=12:=by lia
   generalize c0/100%13=bi at m0 d0
   walk_at "rd";refine⟨Yn _,λL2 ac=>k5 _ _ (ai λD6 k6 _=>aF λa0 hK=>?_)⟩;have d1:L2≠u:=λe=>by rw[e,v]at ac;cases ac
   have ep:L2≠L3:=λe=>by rw[e,C]at ac;cases ac
   have d2:=ae.upd (o:= .lst []) ac;have d3:1<=ds.length:=by lia
   have d4:ds.length<=3:=by lia
   have an:ys.length<=24/\1<=ys.length:=by
    have e:=congrArg List.length Y;rw[Z5,length_flatMap]at e;have:=gh (f:=λp:Addr×Drn=>(jI p.2).length) (B:=8) (xs:=ds) λp _=>by
     unfold jI;rw[Z5];exact gM _
    refine⟨by lia,Nat.pos_of_ne_zero λz=>?_⟩;have d7:ys=[]:=length_eq_zero_iff.mp z;rw[d7]at Y;have c1:0<ds.length:=by lia
    have hq:=a5 ds[0] (Y0 c1);have c2:=wX hq.2.1 hq.2.2.2.1 hq.2.2.2.2.2;obtain⟨a',eb⟩:=List.exists_mem_of_ne_nil _ c2;have:(i4 ds[0].2.name (sg a' ds[0].2.sh),a')∈ds.flatMap λp=>jI p.2:=mem_flatMap.mpr ⟨ds[0],Y0 c1,Yw ⟨a',eb,rfl⟩⟩
    rw[<-Y]at this;cases this
   have G:(ys.map λp=>p.2.1)=ds.flatMap λp=>(jI p.2).map (·.1):=by
    have e:=congrArg (List.map (·.1)) Y;rw[Yb,List.map_flatMap]at e;exact e
   walk_at "rd";refine⟨by lia,by lia,hK _ _ (cg (λi M l=>∃o3,M=[some (.ref a),some (.ref u),some (.ref L3),o3,o4,o5,o6,o7,o8,some (.int bi),some (.ref L2)]/\ae H3 l/\∃qs:List (Addr×List V),l L2=some (.lst (qs.map λq=>V.ref q.1))/\qs.length=i/\dE l (ys.map λp=>p.2.1) qs)
    ⟨_,rfl,d2,[],aa,rfl,λq hq=>(nomatch hq)⟩ ?_ ?_)⟩
   ·rintro i M H4 er ⟨o3,rfl,O,qs,L,c3,a8⟩;show kD _ _ [some (.ref a),some (.ref u),some (.ref L3),some (.int (0+i)),o4,o5,o6,o7,o8,some (.int bi),some (.ref L2)] H4;rw[Int.zero_add];obtain⟨x1,ec,ed,es⟩:=get (19+2*(i:Int)) (by lia) (by lia);obtain⟨x2,ee,eg,eu⟩:=get (20+2*(i:Int)) (by lia) (by lia);refine aU λD7 k7 _=>?_
    walk_at "rd";refine⟨.inl ⟨_,SqL.of L⟩,.inl ⟨by decide,by decide⟩,_,keep _ (s3.trans O),_,ec,.inl ⟨by decide,by decide⟩,_,keep _ (s3.trans O),_,ee,?_⟩;refine⟨x1,x2,L3,ys,rfl,O _ _ C,a4.up O,an.2,by lia,ed,eg,λt H5 eh U f5 h5 ei=>?_⟩;have av:=U _ _ L;have c4:=gQ (ys:=qs.map (λq=>V.ref q.1) ++[V.ref t]) av;walk_at "rd";refine⟨_,av,by rw[Z5];exact bp (by lia),k7 _ _ ⟨_,rfl,ae.set (O.trans U) ac,qs++[(t,eh)],by rw[aa,Zc];rfl,by rw[Z8,c3];rfl,λq hq=>?_⟩⟩;rcases Yt hq with z|z
    ·exact(((a8.up U).keep c4) q z)
    ·rw[Yu z];exact⟨c4 _ _ h5,ei⟩
   ·rintro M H4 ⟨o3,rfl,O,qs,L,c3,a8⟩;refine k6 _ _ ?_;walk_at "rd";refine aR λa0 hK=>?_
    walk_at "rd";have au:=O _ _ C;refine .inl ⟨⟨_,SqL.of au⟩,hK _ _ λN hN=>?_⟩;refine bQ (J:=Itl K L3) (n:=ys.length) (D:=N) (λj ts M l=>(∃o1 o2,M=[o1,o2])/\ae H4 l/\l N=some (.lst ts)/\ts=((ys.take j).map λp=>p.2.1).map V.str)
     ⟨⟨none,none,rfl⟩,ae.upd hN,aa,rfl⟩
     (λj _ _ l hj ⟨_,sm,_⟩=>⟨_,V.ref ys[j].1,SqL.of (sm _ _ au),by simp[hj]⟩) (λ_ _ l ⟨_,sm,_⟩=>⟨_,SqL.of (sm _ _ au),by simp⟩) ?_ ?_
    ·rintro j ts M H5 hj ⟨⟨o1,o2,rfl⟩,U,ej,ht⟩ x H6 ⟨e2,hx⟩;subst e2;have c5:=hx _ (SqL.of (U _ _ au));rw[Zk,Z4 hj]at c5;obtain rfl:x=V.ref ys[j].1:=(Z9 c5).symm;have ek:=(a4 ys[j] (Y0 hj)).1;refine⟨_,SqT.of (U _ _ (O _ _ ek)),rfl,_,_,rfl,_,_,rfl,rfl,?_⟩;show xY [some (.str ys[j].2.1),some (.int ys[j].2.2)] _ _;walk_at "rd";refine CK.mk hj ej (by rw[ht,Z5,Z5,Y6];exact bp (by lia)) ⟨⟨_,_,rfl⟩,ae.set U hN,aa,?_⟩;rw[ht,Ym,Zc,Zc,Z4 hj];rfl
    rintro ts M H5 ⟨_,U,el,ht⟩;rw[Zm (Zh _),G]at ht;refine⟨(show 3<=sizeLine by decide),λt c7=>?_⟩;have st:=ae.upd (o:= .tup [V.ref u,V.ref L2,V.ref N]) c7;have dc:=s3.trans (O.trans (U.trans st));rw[G]at a8;have bl:=O _ _ v;refine kk t u L2 N _ ds qs dc ((s3.trans (O.trans U)).free c7) bm (s3.free ac) ((s3.trans O).free hN) (Ne.symm d1) (λe=>by rw[<-e,bl]at hN;cases hN) (λe=>by rw[<-e,L]at hN;cases hN) aa (st _ _ (U _ _ bl)) (st _ _ (U _ _ L)) ?_ d3 d4 a5 ?_ (b0.up (O.trans (U.trans st))) (a8.up (U.trans st)) (by lia) (λp hp=>?_) (by rw[<-G,Z5];exact⟨an.2,an.1⟩)
    ·rw[st _ _ el,ht]
    ·rw[a6,nodup_iff_pairwise_ne,Yl];refine Yp (λ{x y} hx hy c2 he=>?_) (nodup_iff_pairwise_ne.mp (nodup_range (n:=(1+c0%3).toNat)));rw[mem_range]at hx hy;have:=yU (by lia) (by lia) (by lia) (by lia) he
     lia
    ·have:p.2.name∈ds.map λp=>p.2.name:=Yw ⟨p,hp,rfl⟩
     rw[a6]at this;obtain⟨k,_,e⟩:=Yv this;exact⟨_,e.symm⟩
theorem bv.mix(a:bv H v .non)(b:bv H .non u):bv H v u:=⟨a.kv,b.ku,a.cs,b.ss,a.few,b.lat⟩
theorem bv.up(a:bv H v u)(s:ae H b):bv b v u:=a.cpy (Cpy.up a.kv s) (Cpy.up a.ku s)
theorem gC(k:Kn H v n)(c:n≠"list")(h:br H v xs):False:=by
 obtain⟨p,rfl,b⟩:=h;cases k with
 | lst a=>exact c rfl
 | tup a=>rw[a]at b;cases b
 | dct a=>rw[a]at b;cases b
theorem gT(k:∃n,Kn H v n)(cs:∀xs,br H v xs->xs.length<=1000/\∀x∈xs,KnC H x)(a:∀cs,bu H v cs->Wt jG cs 42/\(cs.flatMap lyr).length<=60):bv H v .non:=
 ⟨k,⟨_,.non⟩,cs,λxs h=>(gC .non (by decide) h).elim,a,λxs h=>(gC .non (by decide) h).elim⟩
theorem jJ(k:∃n,Kn H u n)(ss:∀xs,br H u xs->xs.length<=1000/\∀x∈xs,KnD H x)(a:∀xs,br H u xs->xs.length<=20\/∀x∈xs,∃p ys,x= .ref p/\H p=some (.tup (.str "since"::ys))):bv H .non u:=
 ⟨⟨_,.non⟩,k,λxs h=>(gC .non (by decide) h).elim,ss,λcs h=>(gC .non (by decide) h.l).elim,a⟩
theorem rC(k:Kn H v n)(a:n≠"list"):bv H v .non/\bv H .non v:=
 ⟨gT ⟨n,k⟩ (λxs h=>(gC k a h).elim) λcs h=>(gC k a h.l).elim,jJ ⟨n,k⟩ (λxs h=>(gC k a h).elim) λxs h=>(gC k a h).elim⟩
theorem gU(h:H p=some (.lst [])):bv H (.ref p) .non/\bv H .non (.ref p):=by
 have e:∀{xs},br H (.ref p) xs->xs=[]:=λi=>i.one ⟨p,rfl,h⟩
 refine⟨gT ⟨_,.lst h⟩ (λxs i=>?_) λcs f=>absurd (e f.l) f.ne,jJ ⟨_,.lst h⟩ (λxs i=>?_) λxs i=>?_⟩
 ·rw[e i];exact⟨Yn _,λx a=>(nomatch a)⟩
 ·rw[e i];exact⟨Yn _,λx a=>(nomatch a)⟩
 ·rw[e i];exact .inl (Yn _)
theorem fE(h:H p=some (.lst xs))(b:xs.length<=1000)(kd:∀x∈xs,KnD H x)(a:xs.length<=20\/∀x∈xs,∃p ys,x= .ref p/\H p=some (.tup (.str "since"::ys))):bv H .non (.ref p):=by
 have e:∀{ys},br H (.ref p) ys->ys=xs:=λi=>i.one ⟨p,rfl,h⟩
 refine jJ ⟨_,.lst h⟩ (λys i=>?_) λys i=>?_
 ·rw[e i];exact⟨b,kd⟩
 ·rw[e i];exact a
theorem xt(h:cc z=true)(H:Hp):Itc H (.str z):=bM (λm=>by
 unfold cc at h;rw[Zu]at h;exact absurd (all_eq_true.mp h.2 10 m) (by decide +kernel)) (by have:=d8 h;lia)
theorem aO.knc(h:aO H cs):∀x∈aT cs,KnC H x:=λx d=>by
 obtain⟨p,e,rfl⟩:=Yv d;obtain⟨a,b,c⟩:=h p e;exact KnC.tup a (yT (xt b H) ⟨⟨_,.str⟩,qb c⟩)
theorem iH(h:H p=some (.lst (aT cs)))(ca:aO H cs)(b:cs.length<=1000)(a:cs.length<=8->Wt jG cs 42/\(cs.flatMap lyr).length<=60):bv H (.ref p) .non:=by
 refine gT ⟨_,.lst h⟩ (λxs i=>?_) λds f=>?_
 ·rw[i.one ⟨p,rfl,h⟩];exact⟨by unfold aT;rw[Z5];exact b,ca.knc⟩
 ·have e:=jb f.at_ ca (f.l.one ⟨p,rfl,h⟩);subst e;exact a f.le
theorem AZ(h:aP p.2.2):(lyr p).length<=26:=by
 unfold lyr;rw[Z5];exact iu λc a=>jo h.sign c a
theorem uV(h:H p=some (.lst ((aT cs).take i++[v] ++(aT cs).drop i)))(ca:aO H cs)(L:cs.length<=3)(j:∀q∈cs,jG q 14)(n:(cs.flatMap lyr).length<=24)(o:Odd cs H v):bv H (.ref p) .non:=by
 have A:(aT cs).length=cs.length:=Z5 _;refine gT ⟨_,.lst h⟩ (λxs k=>?_) λds f=>?_
 ·rw[k.one ⟨p,rfl,h⟩];refine⟨by rw[Z8,Z8,Y6,Y3,Y5];lia,λx d=>?_⟩;rcases Yt d with d|d
  ·rcases Yt d with d|d
   ·exact ca.knc x (Yg d)
   ·rw[Yu d];exact o.1
  ·exact ca.knc x (Yf d)
 ·have e:ds.map (λp=>V.ref p.1)=(aT cs).take i++[v] ++(aT cs).drop i:=f.l.one ⟨p,rfl,h⟩;obtain⟨M,c,rfl,r,s⟩:=List.map_eq_append_iff.mp e;obtain⟨a,b,rfl,t,u⟩:=List.map_eq_append_iff.mp r;have B:aO H a:=λq g=>f.at_ q (mem_append.mpr (.inl (mem_append.mpr (.inl g))))
  have z:aO H b:=λq g=>f.at_ q (mem_append.mpr (.inl (mem_append.mpr (.inr g))))
  have C:aO H c:=λq g=>f.at_ q (mem_append.mpr (.inr g))
  have t:a=cs.take i:=jb B (λq g=>ca q (Yg g)) (by unfold aT;rw[t];unfold aT;rw[map_take]);have s:c=cs.drop i:=jb C (λq g=>ca q (Yf g)) (by unfold aT;rw[s];unfold aT;rw[map_drop]);subst t s;obtain⟨q,rfl,eq⟩:∃q,b=[q]/\V.ref q.1=v:=by
   match b,u with
   |[q],u=>exact⟨q,rfl,(List.cons.inj u).1⟩
  have D:q.2.1∉cs.map (λp=>p.2.1):=λm=>by
   have y:=f.nd;rw[Zc,Zc]at y;rw[<-List.take_append_drop i cs,Zc]at m;rcases Yt m with m|m
   ·exact(nodup_append.mp (nodup_append.mp y).1).2.2 _ m _ (mem_singleton.mpr rfl) rfl
   ·exact(nodup_append.mp y).2.2 _ (mem_append.mpr (.inr (mem_singleton.mpr rfl))) _ m rfl
  have E:jG q 0:=o.2 q eq.symm z D;have G:=Wt.all (f:=jG) (a:=14) (xs:=cs.take i) λx d=>j x (Yg d)
  have I:=Wt.all (f:=jG) (a:=14) (xs:=cs.drop i) λx d=>j x (Yf d)
  have J:Wt jG [q] 0:=⟨0,E,Zh _,trivial⟩
  refine⟨((G.app J).app I).mono ?_,?_⟩
  ·rw[Y6,Y3]
   lia
  ·have l:=AZ (z q (mem_singleton.mpr rfl)).2.2;rw[<-List.take_append_drop i cs,Zy,Z8]at n;rw[Zy,Zy,Z8,Z8,List.flatMap_singleton]
   lia
theorem BS(h:mZ d):(lyr (a,d.name,d.rows)).length<=8:=by
 unfold lyr;rw[Z5];have:=STab.nodup_sub (f9 ((bX d.rows).map sgn)) (m:=(there d.cols).map λx=>sgn (sg x d.sh)) λz b=>by
  obtain⟨c,e,rfl⟩:=Yv (cE.mp b);obtain⟨x,f,g,i,rfl⟩:=(wW h.2.2.2.2.2).mp (js.mp e);exact Yw ⟨x,ju.mpr ⟨f,g,i⟩,rfl⟩
 rw[Z5]at this;exact Y2 this (gM _)
theorem ig.knd(h:H p=some (.tup xs))(ok:ig g xs)(d:∀z∈g,z.length<=100):KnD H (.ref p):=by
 refine KnD.tup h λx c=>?_
 rcases ok with⟨w,a,b,rfl,hw,f,i,_⟩|⟨w,a,y,rfl,hw,f,_⟩
 ·simp only[Ye,Yj,or_false]at c;rcases c with rfl|rfl|rfl
  ·exact It.str (by rcases hw with rfl|rfl<;> decide +kernel)
  ·exact It.str (Y2 (d a f) (by decide))
  ·exact It.str (Y2 (d b i) (by decide))
 ·simp only[Ye,Yj,or_false]at c;rcases c with rfl|rfl|rfl
  ·exact It.str (by rcases hw with rfl|rfl<;> decide +kernel)
  ·exact It.str (Y2 (d a f) (by decide))
  ·exact⟨⟨_,.int⟩,λz e=>(nomatch e)⟩
def BT(H:Hp)(cs:List (Addr×Str×List Str)):Prop:=aO H cs/\∀q∈cs,q.2.2=[Str.ofString "a",Str.ofString "b"]
theorem qY{x y r:Str}{i:Nat}(h:[x,y][i+1]? =some r):i=0/\r=y:=by
 match i,h with
 | 0,h=>exact⟨rfl,(Z9 h).symm⟩
theorem BU{j c:Nat}(h:(Str.ofString "a").cps[j]? =some c):c=97:=(by decide +kernel:∀c∈(Str.ofString "a").cps.toList,c=97) c (Z7 (i:=j) (by simpa using h))
theorem zk{j c:Nat}(h:(Str.ofString "b").cps[j]? =some c):c=98:=(by decide +kernel:∀c∈(Str.ofString "b").cps.toList,c=98) c (Z7 (i:=j) (by simpa using h))
theorem uW:aP [Str.ofString "a",Str.ofString "b"]:=by
 refine⟨by decide,by decide,⟨1,by decide,by decide,by decide +kernel⟩,by decide +kernel,λi r b d a j c f g1 g2 e=>?_,Str.ofString "a",by simp,97,by decide +kernel,by decide⟩;rw[(qY a).2]at g2;rw[zk g2]at e;cases e
theorem uX{q:Addr×Str×List Str}(e:q.2.2=[Str.ofString "a",Str.ofString "b"]):jG q 1/\(lyr q).length<=2:=by
 refine⟨?_,?_⟩
 ·show pX q.2.2 1;rw[e];refine⟨[[sgn 97,sgn 98]],Zh _,λa b ⟨_,_,i,j,r,f,c,d,g1,g2⟩=>?_⟩;obtain⟨rfl,rfl⟩:=qY d;cases c;rw[BU g1,zk g2];exact mem_singleton.mpr rfl
 ·unfold lyr;rw[Z5,e];decide +kernel
theorem gW(xs:List V)(n:Nat):hJ xs none (some (n:Int))=xs.take n:=by
 unfold hJ;rw[HT.sIx_none,HT.sIx_nat,List.drop_zero,Nat.sub_zero];rcases Nat.le_total n xs.length with h|h
 ·rw[min_eq_left h]
 ·rw[Nat.min_eq_right h,Zm (Zh _),Zm h]
theorem gX(xs:List V)(h:n<=xs.length):hJ xs (some (n:Int)) none=xs.drop n:=by
 unfold hJ;rw[HT.sIx_none,HT.sIx_nat,min_eq_left h,Zm (by rw[Y3];exact Zh _)]
def oH(K:PySem.W.Frag):Sp:=λvs H Q _=>∃(a:Addr) (b:List Int),vs=[.ref a]/\SqL K H a (b.map V.int)/\xW H/\b.length<=63/\∀c,Q (.bl true) c
theorem A0(F:Fun K "law" "law" fM f fd)(T:Txt K mg):eB P w K mg base CX0 12 f fd ["_law_script"] (oH K):=by
 refine F.ok db (λvs H Q E h=>?_) (λc7 A outer s H vs Q E C h=>?_)
 ·obtain⟨a,ns,rfl,_⟩:=h;rfl
 ·obtain⟨a,ns,rfl,hs,ho,hn,kk⟩:=h;refine⟨_,(QSs.h (ag (qz rfl rfl rfl (aZ (oG T) C rfl (paE rfl (aZ (uC T) C rfl (paE rfl (ad 0 rfl) (paE rfl ak af))) af)) (fN (K:=K) rfl rfl rfl (gsE rfl (mC 1 db.nd rfl Z1 Z0) (gsE rfl (bb 2 db.nd rfl) (gsE rfl (mC 3 db.nd rfl Z1 Z0) cU)))))
   (ag (ifS (bU (bG (K:=K) rfl (λ_=>rfl) (aZ (bw T) C rfl (paE rfl (eE 1 rfl) (paE rfl (ad 2 rfl) af)))))
   (ao (aM eBl))
   aI)
   (ag (ef PassesOwn.never rfl rfl (eO rfl T.b_range rfl (paE rfl ak af)) (bb 4 db.nd rfl)
   (ag (aV 5 db.nd rfl (opE bW (opE bC (aZ (dj T) C rfl (paE rfl (ad 0 rfl) (paE rfl (opE bW ak (ad 4 rfl)) af))) (opE ⟨zS⟩ ak ak)) (opE dW ak (ad 4 rfl))))
    (ag (aV 6 db.nd rfl (opE bC (opE cr (ad 5 rfl) ak) (opE bW (cbO (bH (K:=K) rfl) T.b_len PySem.boot_len rfl (paE rfl (eE 1 rfl) af)) ak)))
    (ag (aV 7 db.nd rfl (opE bC (opE cr (ad 5 rfl) ak) (opE bW (cbO (bH (K:=K) rfl) T.b_len PySem.boot_len rfl (paE rfl (ad 2 rfl) af)) ak)))
    (ag (aV 8 db.nd rfl (opE bS (opE bS (slE (K:=K) rfl (eE 1 rfl) noO (fZ (ad 6 rfl))) (bB (paE rfl (aZ (lZ T) C rfl (paE rfl (eE 1 rfl) (paE rfl (opE cr (ad 5 rfl) ak) af))) af))) (slE (K:=K) rfl (eE 1 rfl) (fZ (ad 6 rfl)) noO)))
    (ag (aV 9 db.nd rfl (opE bS (opE bS (slE (K:=K) rfl (ad 2 rfl) noO (fZ (ad 7 rfl))) (bB (paE rfl (aZ (jH T) C rfl (paE rfl (eE 3 rfl) (paE rfl (ad 5 rfl) af))) af))) (slE (K:=K) rfl (ad 2 rfl) (fZ (ad 7 rfl)) noO)))
    (ao (ifS (wT (orW (bU (bG (K:=K) rfl (λ_=>rfl) (aZ (bw T) C rfl (paE rfl (ad 8 rfl) (paE rfl (ad 2 rfl) af))))) (orW (bU (bG (K:=K) rfl (λ_=>rfl) (aZ (bw T) C rfl (paE rfl (eE 1 rfl) (paE rfl (ad 9 rfl) af))))) (dI (bU (bG (K:=K) rfl (λ_=>rfl) (aZ (bw T) C rfl (paE rfl (ad 8 rfl) (paE rfl (ad 9 rfl) af)))))))))
    (ao (aM eBl))
    aI))))))))
   (ag (iP 10 db.nd rfl Z0 Z1 rfl (aC.of (show ci (ah fM) ["_law_script","_law_cuts","_law_sayings","_law_layers_here","_law_k","_law_number","_law_at","_law_there","_law_odd","_law_said","_law_many","_law_great","_law_made"] _ ["_law_k"] []=true from by decide +kernel)) rfl rfl (eO rfl T.b_range rfl (paE rfl ak af)) (λ_ _ _=>(bb 0 (show(["_law_k"]:List Str).Nodup from by decide +kernel) rfl)) (λ_ _ _=>jm) (λ_ _ _=>(aE (paE rfl (yh (λ_ _=>rfl) ax (ad 0 rfl)) (paE rfl ax af)))))
   (ag (ifS (wT (orW (bU (bG (K:=K) rfl (λ_=>rfl) (aZ (bw T) C rfl (paE rfl (ad 10 rfl) (paE rfl (bB af) af))))) (orW (bU (bG (K:=K) rfl (λ_=>rfl) (aZ (bw T) C rfl (paE rfl (slE (K:=K) rfl (ad 10 rfl) noO (fZ ak)) (paE rfl (bB af) af))))) (dI (bU (bG (K:=K) rfl (λ_=>rfl) (aZ (bw T) C rfl (paE rfl (bB af) (paE rfl (bB (paE rfl fX af)) af)))))))))
   (ao (aM eBl))
   aI)
   (ag (iP 11 db.nd rfl Z0 Z1 rfl (aC.of (show ci (ah fM) ["_law_script","_law_cuts","_law_sayings","_law_layers_here","_law_k","_law_number","_law_at","_law_there","_law_odd","_law_said","_law_many","_law_great","_law_made"] _ ["_law_k","_law_layers_here"] [(1,3)]=true from by decide +kernel)) rfl rfl (eO rfl T.b_range rfl (paE rfl ak af)) (λ_ _ _=>(bb 0 (show(["_law_k","_law_layers_here"]:List Str).Nodup from by decide +kernel) rfl)) (λ_ _ _=>jm) (λ_ _ _=>(aE (paE rfl ax (paE rfl (cm (K:=K) rfl (λ_ _=>rfl) (eE 1 rfl) ak) (paE rfl (ad 0 rfl) af))))))
   (ag (ifS (wT (orW (bU (bG (K:=K) rfl (λ_=>rfl) (aZ (bw T) C rfl (paE rfl (eE 1 rfl) (paE rfl (ad 11 rfl) af))))) (dI (bU (bG (K:=K) rfl (λ_=>rfl) (aZ (bw T) C rfl (paE rfl (eE 1 rfl) (paE rfl (slE (K:=K) rfl (ad 11 rfl) noO (fZ ak)) af))))))))
   (ao (aM eBl))
   aI)
   (ag (aV 12 db.nd rfl (fe (ap T) C rfl rfl rfl rfl (paE rfl ax (paE rfl ak af))))
   (ag (ifS (wT (orW (bF cW rfl (zb T.g_NoGround_part rfl (ad 12 rfl)) ax) (orW (bF cW rfl (zb T.g_NoGround_number rfl (ad 12 rfl)) ak) (dI (bU (bG (K:=K) rfl (λ_=>rfl) (cbE (By (K:=K) rfl) rfl T.b_isinstance boot_isinstance rfl rfl rfl (paE rfl (ad 12 rfl) (paE rfl (pF rfl T.c_DigError rfl) af)))))))))
   (ao (aM eBl))
   aI)
   (ao (aM (cbO (oW (K:=K) rfl rfl) T.b_all boot_all rfl (paE rfl (fG (aC.of (show ci (ah fM) ["_law_script","_law_cuts","_law_sayings","_law_layers_here","_law_k","_law_number","_law_at","_law_there","_law_odd","_law_said","_law_many","_law_great","_law_made"] _ ["_law_thing","_law_cuts"] [(1,1)]=true from by decide +kernel)) rfl rfl (fY (K:=K) rfl (bB (paE rfl fX (paE rfl (aE af) (paE rfl oV (paE rfl ax (paE rfl ak af))))))) (λ_ _ _=>(bb 0 (show(["_law_thing","_law_cuts"]:List Str).Nodup from by decide +kernel) rfl)) (λ_ _ _=>jm) (λ_ _ _=>(j3 (aZ (bw T) C rfl (paE rfl (ad 0 rfl) (paE rfl (bB af) af))) (kR (aZ (bw T) C rfl (paE rfl (eE 1 rfl) (paE rfl (ad 0 rfl) af))))))) af)))))))))))))),?_⟩
  show bA _ _ _ [some (.ref a),none,none,none,none,none,none,none,none,none,none,none,none] H;refine ai λD1 k1 _=>?_
  walk_at "rd";refine⟨a,ns,43,rfl,hs,by lia,by decide,by decide,λl0 H0 xs s0 f0 h0 g hb=>?_⟩;walk_at "rd";refine⟨l0,xs,rfl,SqL.of h0,λm I=>SqL.of (I _ _ h0),g,hb,λt l1 l2 l3 H1 ds qs s1 ft f1 f2 f3 dc dk dp ht h1 h2 h3 d1 d3 a4 dr a5 a6 l dt a7=>?_⟩;walk_at "rd";refine⟨_,SqT.of ht,rfl,_,_,rfl,_,_,rfl,_,_,rfl,rfl,k1 _ _ (ai λD2 k2 _=>?_)⟩;have dl:(dcs ds).length=ds.length:=Z5 _;have al:∀p∈dcs ds,∃d∈ds,p=(d.1,d.2.name,d.2.rows):=λp k=>by
   obtain⟨d,hd,rfl⟩:=Yv k;exact⟨d,hd,rfl⟩
  have a8:∀p∈dcs ds,jG p 14:=λp k=>by
   obtain⟨d,hd,rfl⟩:=al p k;exact wY (a4 d hd).2.2.2.2.2
  have bm:((dcs ds).flatMap lyr).length<=24:=by
   rw[length_flatMap];have:=gh (f:=λp=>(lyr p).length) (B:=8) (xs:=dcs ds) λp k=>by
    obtain⟨d,hd,rfl⟩:=al p k;exact BS (a4 d hd)
   lia
  have nz:∀z∈(ds.flatMap λp=>(jI p.2).map (·.1)),z.length<=100:=λz hz=>by
   obtain⟨p,k,hz⟩:=mem_flatMap.mp hz;obtain⟨y,hy,rfl⟩:=Yv hz;obtain⟨c,_,rfl⟩:=Yv hy;have:=d8 (a4 p k).1;show(p.2.name.cps.toList++[46,_]).toArray.size<=100;simp only[Zo,Z8,Za,Zq,length_nil];have e:p.2.name.length=p.2.name.cps.size:=rfl
   lia
  have c3:(dcs ds).length<=3:=by lia
  have c1:1<=(dcs ds).length:=by lia
  generalize dcs ds=cs at h1 a5 a8 bm c3 c1
  generalize (ds.flatMap λp=>(jI p.2).map (·.1))=N at h3 a6 a7 nz
  have C1:bv H1 (.ref l1) .non:=iH h1 a5 (by lia) λ_=>⟨(Wt.all a8).mono (by lia),by lia⟩
  have ch:(qs.map λq=>V.ref q.1).length=qs.length:=Z5 _;have kq:∀x∈qs.map λq=>V.ref q.1,KnD H1 x:=λx g=>by
   obtain⟨q,bn,rfl⟩:=Yv g;exact(a6 q bn).2.knd (a6 q bn).1 nz
  have S1:bv H1 .non (.ref l2):=fE h2 (by lia) kq (.inl (by lia));have cl:∀m,ae H1 m->SqL K m a (ns.map V.int):=λm s=>((s0.trans s1).trans s).seq hs
  walk_at "rd";refine⟨_,_,rfl,C1.mix S1,λH2 s2=>?_⟩;walk_at "rd";refine k2 _ _ (ai λD3 k3 r3=>aF λan hK=>?_);walk_at "rd";refine⟨by decide,by decide,hK _ _ (cg (λi O m=>∃o4 o5 o6 o7 o8 o9,O=[some (.ref a),some (.ref l1),some (.ref l2),some (.ref l3),o4,o5,o6,o7,o8,o9,none,none,none]/\ae H1 m) ⟨_,_,_,_,_,_,rfl,s2⟩ ?_ ?_)⟩
  ·rintro i O m hi ⟨o4,o5,o6,o7,o8,o9,rfl,s3⟩;show bA _ _ _ [some (.ref a),some (.ref l1),some (.ref l2),some (.ref l3),some (.int ((0:Int) +(i:Int))),o5,o6,o7,o8,o9,none,none,none] m;rw[Int.zero_add];refine ai λD4 k4 _=>?_
   walk_at "rd";refine⟨a,ns,2+(i:Int),rfl,cl _ s3,by lia,⟨by decide,by decide,by decide⟩,_,rfl,by decide,.inl ⟨by decide,by decide⟩,k4 _ _ (ai λD5 k5 _=>?_)⟩;have n0:0<=ns.getD (2+(i:Int)).toNat 0%10^Int.toNat 6+37*(i:Int):=by
    have:=Int.emod_nonneg (ns.getD (2+(i:Int)).toNat 0) (show(10:Int)^Int.toNat 6≠0 by decide)
    lia
   generalize ns.getD (2+(i:Int)).toNat 0%10^Int.toNat 6+37*(i:Int)=n at n0
   walk_at "rd";have co:(aT cs).length=cs.length:=Z5 _;refine⟨⟨by decide,by decide⟩,cs.length,.inl ⟨_,SqL.of (s3 _ _ h1),co.symm⟩,by lia,k5 _ _ (ai λD6 k6 _=>?_)⟩;have bt:=Int.emod_nonneg (n/2) (show((cs.length:Int) +1)≠0 by lia);have cp:=Int.emod_lt_of_pos (n/2) (show 0<(cs.length:Int) +1 by lia)
   generalize n/2%((cs.length:Int) +1)=as at bt cp
   obtain⟨as,rfl⟩:=Yq bt;walk_at "rd";refine⟨⟨by decide,by decide⟩,qs.length,.inl ⟨_,SqL.of (s3 _ _ h2),ch.symm⟩,by lia,k6 _ _ (ai λD7 k7 _=>?_)⟩;have b0:=Int.emod_nonneg (n/3) (show((qs.length:Int) +1)≠0 by lia);have cq:=Int.emod_lt_of_pos (n/3) (show 0<(qs.length:Int) +1 by lia)
   generalize n/3%((qs.length:Int) +1)=th at b0 cq
   obtain⟨th,rfl⟩:=Yq b0;have b1:=a5.up s3;have go:∀q v H5,ae m H5->H5 q=some (.lst ((aT cs).take as++[v] ++(aT cs).drop as))->Odd cs H5 v->D7.nx [some (.ref a),some (.ref l1),some (.ref l2),some (.ref l3),some (.int (i:Int)),some (.int n),some (.int as),some (.int th),some (.ref q),o9,none,none,none] H5:=by
    intro q v H5 s5 gq ov;have G1:=uV gq (b1.up s5) c3 a8 bm ov;have t5:=s3.trans s5;refine k7 _ _ (ai λD8 k8 _=>?_);have go:∀q2 u H6,ae H5 H6->H6 q2=some (.lst ((qs.map λq=>V.ref q.1).take th++[u] ++(qs.map λq=>V.ref q.1).drop th))->KnD H6 u->D8.nx [some (.ref a),some (.ref l1),some (.ref l2),some (.ref l3),some (.int (i:Int)),some (.int n),some (.int as),some (.int th),some (.ref q),some (.ref q2),none,none,none] H6:=by
     intro q2 u H6 s6 ct ku;have t6:=t5.trans s6;have G2:bv H6 .non (.ref q2):=fE ct (by rw[Z8,Z8,Y6,Y3,Y5];lia) (λx g=>by
      rcases Yt g with g|g
      ·rcases Yt g with g|g
       ·exact(kq x (Yg g)).up t6
       ·rw[Yu g];exact ku
      ·exact(kq x (Yf g)).up t6) (.inl (by rw[Z8,Z8,Y6,Y3,Y5];lia))
     refine k8 _ _ (aU λD9 k9 _=>?_);walk_at "rd";refine⟨_,_,rfl,(G1.up s6).mix (S1.up t6),λH7 s7=>?_⟩;walk_at "rd";refine⟨_,_,rfl,((C1.up t6).mix G2).up s7,λH8 s8=>?_⟩;walk_at "rd";refine⟨_,_,rfl,((G1.up s6).mix G2).up (s7.trans s8),λH9 s9=>?_⟩;walk_at "rd";exact k9 _ _ ⟨_,_,_,_,_,_,rfl,t6.trans (s7.trans (s8.trans s9))⟩
    walk_at "rd";refine .inl ⟨_,SqL.of (t5 _ _ h2),λp k=>⟨l3,N,n,rfl,ae.upd k _ _ (t5 _ _ h3),a7.1,by lia,nz,n0,λu H6 s6 ku=>⟨(show 1<=sizeLine by decide),λp1 r=>?_⟩⟩⟩;have gp:=s6 _ _ (aa (H:=H5) (a:=p));rw[gW]at gp;have b2:=(ae.upd k).trans s6;refine⟨_,ae.upd r _ _ gp,_,aa,aH (by rw[Y6,Y5];lia),λp2 U=> .inl ⟨_,SqL.of (ae.upd U _ _ (ae.upd r _ _ (b2 _ _ (t5 _ _ h2)))),λp3 Y=>⟨_,ae.upd Y _ _ aa,_,aa,aH ?_,λp4 au=>go p4 u _ ?_ ?_ ?_⟩⟩⟩
    ·rw[gX _ (by lia),Z8,Y6,Y3,Y5];lia
    ·exact b2.trans ((ae.upd r).trans ((ae.upd U).trans ((ae.upd Y).trans (ae.upd au))))
    ·rw[aa,gX _ (by lia)]
    ·exact ku.up ((ae.upd r).trans ((ae.upd U).trans ((ae.upd Y).trans (ae.upd au))))
   walk_at "rd";refine .inl ⟨_,SqL.of (s3 _ _ h1),λp k=>⟨⟨by decide,by decide⟩,l1,cs,n/2,rfl,ae.upd k _ _ (s3 _ _ h1),b1.up (ae.upd k),c1,c3,by lia,λv H5 s5 ov=>⟨(show 1<=sizeLine by decide),λp1 r=>?_⟩⟩⟩;have gp:=s5 _ _ (aa (H:=m) (a:=p));rw[gW]at gp;have b3:=(ae.upd k).trans s5;refine⟨_,ae.upd r _ _ gp,_,aa,aH (by rw[Y6,Y5];lia),λp2 U=> .inl ⟨_,SqL.of (ae.upd U _ _ (ae.upd r _ _ (b3 _ _ (s3 _ _ h1)))),λp3 Y=>⟨_,ae.upd Y _ _ aa,_,aa,aH ?_,λp4 au=>go p4 v _ ?_ ?_ ?_⟩⟩⟩
   ·rw[gX _ (by lia),Z8,Y6,Y3,Y5];lia
   ·exact b3.trans ((ae.upd r).trans ((ae.upd U).trans ((ae.upd Y).trans (ae.upd au))))
   ·rw[aa,gX _ (by lia)]
   ·exact Odd.mon _ _ _ ov ((ae.upd r).trans ((ae.upd U).trans ((ae.upd Y).trans (ae.upd au))))
  ·rintro O m ⟨o4,o5,o6,o7,o8,o9,rfl,s3⟩;refine k3 _ _ (ai λD4 k4 _=>?_);refine aR λan hK=>?_
   walk_at "rd";refine⟨by decide,by decide,hK _ _ λM hM=>?_⟩;refine bQ (J:=Itr 0 9) (n:=9) (D:=M) (λj ts O H2=>(∃o,O=[o])/\ae m H2/\H2 M=some (.lst ts)/\∃ms:List (Addr×Str×List Str),ts=aT ms/\BT H2 ms/\ms.length=j)
    ⟨⟨none,rfl⟩,ae.upd hM,aa,[],rfl,⟨λq l=>(nomatch l),λq l=>(nomatch l)⟩,rfl⟩ (λq _ _ _ l _=>l) (λ_ _ _ _=>Zh _) ?_ ?_
   ·rintro j ts O H2 hj ⟨⟨o,rfl⟩,I,av,ms,rfl,ac,b4⟩ x H3 ⟨e2,e3⟩;subst e2 e3;obtain⟨gj,nj⟩:=(by decide +kernel:∀j:Nat,j<9->atI (Str.ofString "abcdefghi").cps.toList (j:Int)=some (97+j)/\cc (sgn (97+j))=true) j hj;walk_at "rd";refine⟨Y2 (by decide +kernel:(Str.ofString "abcdefghi").length<=9) (by decide),_,gj,(show 2<=sizeLine by decide),λp k=>?_⟩;have sp:=ae.upd (o:= .tup [V.str ⟨#[97+j]⟩,V.str (Str.ofString "a\nb")]) k;have gp:upd H3 p (.tup [V.str ⟨#[97+j]⟩,V.str (Str.ofString "a\nb")]) p=_:=aa
    generalize upd H3 p (.tup [V.str ⟨#[97+j]⟩,V.str (Str.ofString "a\nb")])=H4 at sp gp
    have b5:=sp _ _ av;have cu:(aT ms).length=ms.length:=Z5 _;refine CK.mk hj b5 (by rw[cu];exact bp (by lia)) ⟨⟨_,rfl⟩,ae.set (I.trans sp) hM,aa,ms++[(p,sgn (97+j),[Str.ofString "a",Str.ofString "b"])],?_,⟨((ac.1.up sp).snoc ⟨?_,nj,uW⟩).keep (gQ b5),λq l=>?_⟩,by rw[Z8,b4];rfl⟩
    ·unfold aT;rw[Zc];rfl
    ·rw[show Str.join nl [Str.ofString "a",Str.ofString "b"]=Str.ofString "a\nb" by decide +kernel];exact gp
    ·rcases Yt l with z|z
     ·exact ac.2 q z
     ·rw[Yu z]
   rintro ts O H2 ⟨_,I,av,ms,rfl,ac,b4⟩;walk_at "rd";refine k4 _ _ (ai λD5 k5 _=>?_);have t2:=s3.trans I;have G9:bv H2 (.ref M) .non:=iH av ac.1 (by lia) λh=>absurd h (by lia)
   have s8:∀q∈ms.take 8,jG q 1/\(lyr q).length<=2:=λq l=>uX (ac.2 q (Yg l))
   have l8:(ms.take 8).length<=8:=by rw[Y6];lia
   have dx:((ms.take 8).flatMap lyr).length<=16:=by
    rw[length_flatMap];have:=gh (f:=λp=>(lyr p).length) (B:=2) (xs:=ms.take 8) λp k=>(s8 p k).2
    lia
   walk_at "rd";refine⟨Yn _,λe1 b6=>⟨_,_,rfl,(G9.up (ae.upd b6)).mix (gU aa).2,λH3 s4=>?_⟩⟩;have t3:=(ae.upd (o:= .lst []) b6).trans s4;walk_at "rd";refine .inl ⟨_,SqL.of (t3 _ _ av),λp k=>⟨Yn _,λe2 b7=>⟨_,_,rfl,?_,λH4 s5=>?_⟩⟩⟩
   ·refine bv.mix ?_ (gU aa).2;refine(iH (cs:=ms.take 8) ?_ (λq l=>((ac.1.up t3).up (ae.upd k)) q (Yg l)) (by lia) λ_=>⟨(Wt.all λq l=>(s8 q l).1).mono (by lia),by lia⟩).up (ae.upd b7);rw[aa,show hJ (aT ms) none (some 8)=(aT ms).take 8 from gW _ 8];unfold aT;rw[map_take]
   have t4:=t3.trans ((ae.upd k).trans ((ae.upd b7).trans s5));walk_at "rd";refine⟨Yn _,λe3 cv=>⟨(show 1<=sizeLine by decide),λe4 ca=>⟨_,_,rfl,bv.mix ((gU aa).1.up (ae.upd ca)) (fE aa (by decide) (λx g=>?_) (.inl (by decide))),λH5 s6=>?_⟩⟩⟩
   ·rw[Yu g];exact KnD.else .non (by decide)
   have t5:=t2.trans (t4.trans ((ae.upd cv).trans ((ae.upd ca).trans s6)));walk_at "rd";refine k5 _ _ (ai λD6 k6 _=>aR λan hK=>?_);walk_at "rd";refine⟨by decide,by decide,hK _ _ λR hR=>?_⟩;have cz:0<N.length:=a7.1;obtain⟨z0,c0,g0⟩:∃z∈N,atI (N.map V.str) 0=some (V.str z):=⟨N[0],Y0 _,bV (j:=0) (by rw[Zk,Z4 cz];rfl)⟩
   refine bQ (J:=Itr 0 61) (n:=61) (D:=R) (λj ts O H6=>(∃o,O=[o,some (.ref l3)])/\ae H5 H6/\H6 R=some (.lst ts)/\ts.length=j/\∀x∈ts,∃p,x= .ref p/\∃y,H6 p=some (.tup [.str "since",.str z0,.int y]))
    ⟨⟨none,rfl⟩,ae.upd hR,aa,rfl,λx g=>(nomatch g)⟩ (λq _ _ _ l _=>l) (λ_ _ _ _=>Zh _) ?_ ?_
   ·rintro j ts O H6 hj ⟨⟨o,rfl⟩,a0,a1,a9,ab⟩ x H7 ⟨e2,e3⟩;subst e2 e3;walk_at "rd";refine⟨_,SqL.of (a0 _ _ (t5 _ _ h3)),_,g0,(show 3<=sizeLine by decide),λp k=>?_⟩;have sp:=ae.upd (o:= .tup [V.str (Str.ofString "since"),V.str z0,V.int j]) k;have gp:upd H7 p (.tup [V.str (Str.ofString "since"),V.str z0,V.int j]) p=_:=aa
    generalize upd H7 p (.tup [V.str (Str.ofString "since"),V.str z0,V.int j])=H8 at sp gp
    have bf:=sp _ _ a1;refine CK.mk hj bf (by rw[a9];exact bp (by lia)) ⟨⟨_,rfl⟩,ae.set (a0.trans sp) hR,aa,by rw[Z8,a9];rfl,λx g=>?_⟩;rcases Yt g with g|g
    ·obtain⟨p',e,y,c2⟩:=ab x g;exact⟨p',e,y,gQ bf _ _ (sp _ _ c2)⟩
    ·exact⟨p,Yu g,j,gQ bf _ _ gp⟩
   rintro ts O H6 ⟨_,a0,a1,a9,ab⟩;walk_at "rd";refine k6 _ _ (ai λD7 k7 _=>?_);have t6:=t5.trans a0;have zl:=nz z0 c0;have a3:∀{H7 p xs},ae H6 H7->H7 p=some (.lst xs)->(∀x∈xs,x∈ts)->xs.length<=61->bv H7 .non (.ref p):=λ{H7 p xs} s k sub hl=>fE k (by lia) (λx g=>by
    obtain⟨q,rfl,y,l⟩:=ab x (sub x g);refine KnD.tup (s _ _ l) λv hv=>?_
    simp only[Ye,Yj,or_false]at hv;rcases hv with rfl|rfl|rfl
    ·exact It.str (by decide +kernel)
    ·exact It.str (by lia)
    ·exact⟨⟨_,.int⟩,λz e=>(nomatch e)⟩) (.inr λx g=>by
    obtain⟨q,rfl,y,l⟩:=ab x (sub x g);exact⟨q,_,rfl,s _ _ l⟩)
   walk_at "rd";refine⟨_,_,rfl,(C1.up t6).mix (a3 (ae.refl _) a1 (λx g=>g) (by lia)),λH7 s7=>?_⟩;walk_at "rd";refine .inl ⟨_,SqL.of (s7 _ _ a1),λp k=>⟨_,_,rfl,(C1.up (t6.trans (s7.trans (ae.upd k)))).mix (a3 (s7.trans (ae.upd k)) aa (λx g=>?_) ?_),λH8 s8=>?_⟩⟩
   ·rw[show hJ ts none (some 60)=ts.take 60 from gW _ 60]at g;exact Yg g
   ·exact Y2 (fT _ _ _) (by lia)
   have t8:=t6.trans (s7.trans ((ae.upd k).trans s8));walk_at "rd";refine k7 _ _ (ai λD8 k8 _=>?_);refine⟨by decide,λx g=>⟨x,"sayings",.int 7,rfl,by decide +kernel,.inr ⟨7,rfl,by decide⟩,aa,λd hd cd=>⟨rfl,k8 _ _ ?_⟩⟩⟩;have c4:H8 d=none:=by rw[aj cd]at hd;exact hd
   show bA _ _ _ [some (.ref a),some (.ref l1),some (.ref l2),some (.ref l3),o4,o5,o6,o7,o8,o9,some (.ref M),some (.ref R),some (.ref x)] (upd (upd (upd H8 x (ExO x (aq mg "NoGround") none)) x (ExO x (aq mg "NoGround") (some d))) d (.xd [("number",.int 7),("part",.str "sayings")]));have q1:upd (upd (upd H8 x (ExO x (aq mg "NoGround") none)) x (ExO x (aq mg "NoGround") (some d))) d (.xd [("number",.int 7),("part",.str "sayings")]) x=some (ExO x (aq mg "NoGround") (some d)):=by rw[aj cd.symm,aa]
   have q2:upd (upd (upd H8 x (ExO x (aq mg "NoGround") none)) x (ExO x (aq mg "NoGround") (some d))) d (.xd [("number",.int 7),("part",.str "sayings")]) d=some (.xd [("number",.int 7),("part",.str "sayings")]):=aa;have s9:ae H8 (upd (upd (upd H8 x (ExO x (aq mg "NoGround") none)) x (ExO x (aq mg "NoGround") (some d))) d (.xd [("number",.int 7),("part",.str "sayings")])):=λb u e=>by
    rw[aj (am e c4),aj (am e g),aj (am e g)];exact e
   generalize upd (upd (upd H8 x (ExO x (aq mg "NoGround") none)) x (ExO x (aq mg "NoGround") (some d))) d (.xd [("number",.int 7),("part",.str "sayings")])=H9 at q1 q2 s9
   have t9:=t8.trans s9;refine ai λD9 k9 _=>?_
   walk_at "rd";simp only[wD];walk_at "rd";refine⟨d,q1,_,q2,.str "sayings",by rfl,rfl,io ⟨d,q1,_,q2,.int 7,by rfl,rfl,io ⟨_,d,q1,⟨_,q2⟩,T.x_NoGround.is,true,T.k_NoGround_DigError,io (k9 _ _ ?_)⟩⟩⟩;walk_at "rd";refine aR λan hK=>?_
   walk_at "rd";refine⟨Yn _,λtu c5=>λdd cf=>⟨(show 5<=sizeLine by decide),λL hL=> .inl ⟨⟨_,SqL.of aa⟩,hK _ _ λB hB=>?_⟩⟩⟩;have sL:=(ae.upd (o:= .tup []) c5).trans ((ae.upd (o:= .dK []) cf).trans (ae.upd (o:= .lst [V.non,V.ref tu,V.ref dd,V.str (Str.ofString "a"),V.int 3]) hL));have gt:upd (upd (upd H9 tu (.tup [])) dd (.dK [])) L (.lst [V.non,V.ref tu,V.ref dd,V.str (Str.ofString "a"),V.int 3]) tu=some (.tup []):=ae.upd hL _ _ (ae.upd cf _ _ aa);have gd:upd (upd (upd H9 tu (.tup [])) dd (.dK [])) L (.lst [V.non,V.ref tu,V.ref dd,V.str (Str.ofString "a"),V.int 3]) dd=some (.dK []):=ae.upd hL _ _ aa;have gL:upd (upd (upd H9 tu (.tup [])) dd (.dK [])) L (.lst [V.non,V.ref tu,V.ref dd,V.str (Str.ofString "a"),V.int 3]) L=some (.lst [V.non,V.ref tu,V.ref dd,V.str (Str.ofString "a"),V.int 3]):=aa
   generalize upd (upd (upd H9 tu (.tup [])) dd (.dK [])) L (.lst [V.non,V.ref tu,V.ref dd,V.str (Str.ofString "a"),V.int 3])=HL at sL gt gd gL hB
   have bi:∀x∈[V.non,V.ref tu,V.ref dd,V.str (Str.ofString "a"),V.int 3],∃n,Kn HL x n/\n≠"list":=λx g=>by
    simp only[Ye,Yj,or_false]at g;rcases g with rfl|rfl|rfl|rfl|rfl
    ·exact⟨_,.non,by decide⟩
    ·exact⟨_,.tup gt,by decide⟩
    ·exact⟨_,.dct gd,by decide⟩
    ·exact⟨_,.str,by decide⟩
    ·exact⟨_,.int,by decide⟩
   refine bQ (J:=Itl K L) (n:=5) (D:=B) (λj ts O m=>(∃o,O=[o,some (.ref l1)])/\ae HL m/\m B=some (.lst ts)/\ts=(List.replicate j true).map V.bl)
    ⟨⟨none,rfl⟩,ae.upd hB,aa,rfl⟩ (λj _ _ m hj ⟨_,I,_⟩=>⟨_,_,SqL.of (I _ _ gL),Z4 hj⟩) (λ_ _ m ⟨_,I,_⟩=>⟨_,SqL.of (I _ _ gL),Zh _⟩) ?_ ?_
   ·rintro j ts O m hj ⟨⟨o,rfl⟩,I,bl,ht⟩ x H2 ⟨e2,g⟩;subst e2;obtain⟨n,kn,hn⟩:=bi x (Z7 (g _ (SqL.of (I _ _ gL))));have G:=rC kn hn;walk_at "rd";refine⟨Yn _,λe he=>⟨_,_,rfl,(G.1.up (I.trans (ae.upd he))).mix (gU aa).2,λH3 s3=>?_⟩⟩;have a2:=(ae.upd (o:= .lst []) he).trans s3;walk_at "rd";refine⟨_,_,rfl,(C1.up (t9.trans (sL.trans (I.trans a2)))).mix (G.2.up (I.trans a2)),λH4 s4=>CK.mk hj (s4 _ _ (a2 _ _ bl)) (by rw[ht,Z5,length_replicate];exact bp (by lia)) ⟨⟨_,rfl⟩,ae.set (I.trans (a2.trans s4)) hB,aa,?_⟩⟩;rw[ht,List.replicate_succ',Zc];rfl
   ·rintro ts O m ⟨_,I,bl,ht⟩;exact⟨_,rfl,List.replicate 5 true,SqL.of (by rw[bl,ht]),kk _⟩
end
def DI(K:PySem.W.Frag)(x:Str)(st:Stmt):Prop:=∃(f:Addr) (b:Value) (od c:Option Addr) (d:Array (Option Value)) (kV e g a ct:Value),nsIn K mainGlobals x=some (some (.ref f))/\K.lookup f=some ⟨b,od,.func (fnOf x x (cj st) (bx st) (ah st) .none kV e g c a ct),d⟩/\codeIn K a x=true/\keepIn K (.ref f)=true
theorem di_mk{K:PySem.W.Frag}{x:Str}{st:Stmt}{f:Addr}{d:Value}{od e:Option Addr}{g:Array (Option Value)}{kV h i b ct:Value}(a:nsIn K mainGlobals x=some (some (.ref f)))(l:K.lookup f=some ⟨d,od,.func (fnOf x x (cj st) (bx st) (ah st) .none kV h i e b ct),g⟩)(c:codeIn K b x=true)(k:keepIn K (.ref f)=true):DI K x st:=⟨f,d,od,e,g,kV,h,i,b,ct,a,l,c,k⟩
theorem aL{K:PySem.W.Frag}{h:Heap}{mg:Str->Option Value}{x:Str}{st:Stmt}{ps:List Str}(X:K.In h)(G:h.Ns mainGlobals mg)(d:DI K x st)(b:∀(kV e i:Value) (j:Option Addr) (g ct:Value) (us:List Value),us.length=ps.length->bindArgs (fnOf x x (cj st) (bx st) (ah st) .none kV e i j g ct) ⟨us,[]⟩=pure (ps.zip us)):aW K mg x st ps:=by
 obtain⟨f,m,od,j,n,kV,o,i,p,ct,a,l,c,k⟩:=d;exact Av X G a l c k b
theorem all_mk{l:PySem.W.OpenLaw}{w:World}{K:PySem.W.Frag}{h:Heap}{mg:Str->Option Value}{fa f37:Addr}(X:K.In h)(G:h.Ns mainGlobals mg)(hfa:mg "law"=some (.ref fa))
 {od37 an37:Option Addr} {sl37:Array (Option Value)} {oc37 kV37 dc37 pm37 cd37 ct37:Value}
 (a1:DI K "is_name" gN)
 (a2:DI K "rows_of" jv)
 (a3:DI K "is_row" i5)
 (a4:DI K "lies_beneath" cP)
 (a5:DI K "letters_in" dN)
 (a6:DI K "letters" jw)
 (a7:DI K "meetings" iC)
 (a8:DI K "meetings_between" bY)
 (a9:DI K "check_cuts" fk)
 (a10:DI K "is_named_cut" dZ)
 (a11:DI K "is_cut" lA)
 (a12:DI K "check_sayings" dz)
 (a13:DI K "is_saying" gs)
 (a14:DI K "is_text_among" dA)
 (a15:DI K "is_year" jy)
 (a16:DI K "layer_name" fo)
 (a17:DI K "layers_of" eA)
 (a18:DI K "ties_of_cuts" d5)
 (a19:DI K "ties_of_sayings" cQ)
 (a20:DI K "_law_cell_at" eF)
 (a21:DI K "_law_row" jz)
 (a22:DI K "_law_column" fq)
 (a23:DI K "_law_sign" iD)
 (a24:DI K "_law_cut" c9)
 (a25:DI K "_law_saying" fu)
 (a26:DI K "_law_ground" dP)
 (a27:DI K "_law_is_cut" fv)
 (a28:DI K "_law_is_name" di)
 (a29:DI K "_law_wrong_cut" dB)
 (a30:DI K "_law_layers" fw)
 (a31:DI K "_law_is_saying" dC)
 (a32:DI K "_law_due" jB)
 (a33:DI K "_law_told" iE)
 (a34:DI K "_law_odd_cut" eG)
 (a35:DI K "_law_odd_saying" da)
 (a36:DI K "_law_right" gu)
 (a37:nsIn K mainGlobals "law"=some (some (.ref f37))) (l37:K.lookup f37=some ⟨oc37,od37,.func (fnOf "law" "law" (cj fM) (bx fM) (ah fM) .none kV37 dc37 pm37 an37 cd37 ct37),sl37⟩) (c37:codeIn K cd37 "law"=true) (k37:keepIn K (.ref f37)=true)
 {u_LONGEST_NAME u_LETTERS u_MOST_ROWS u_MOST_SIGNS u_AIR u_MOST_CUTS u_MOST_SAYINGS u_FIRST_YEAR u_LAST_YEAR:Value}
 (zb_len:nsIn K mainGlobals "len"=some none)
 (zb_all:nsIn K mainGlobals "all"=some none)
 (zb_str:nsIn K mainGlobals "str"=some none)
 (zb_isinstance:nsIn K mainGlobals "isinstance"=some none)
 (zb_enumerate:nsIn K mainGlobals "enumerate"=some none)
 (zb_zip:nsIn K mainGlobals "zip"=some none)
 (zb_set:nsIn K mainGlobals "set"=some none)
 (zb_sorted:nsIn K mainGlobals "sorted"=some none)
 (zb_list:nsIn K mainGlobals "list"=some none)
 (zb_tuple:nsIn K mainGlobals "tuple"=some none)
 (zb_int:nsIn K mainGlobals "int"=some none)
 (zb_bool:nsIn K mainGlobals "bool"=some none)
 (zb_range:nsIn K mainGlobals "range"=some none)
 (zb_max:nsIn K mainGlobals "max"=some none)
 (zb_abs:nsIn K mainGlobals "abs"=some none)
 (zb_min:nsIn K mainGlobals "min"=some none)
 (zb_ValueError:nsIn K mainGlobals "ValueError"=some none)
 (zg_LONGEST_NAME:nsIn K mainGlobals "LONGEST_NAME"=some (some u_LONGEST_NAME)) (rg_LONGEST_NAME:aG (.int 8) u_LONGEST_NAME)
 (zg_LETTERS:nsIn K mainGlobals "LETTERS"=some (some u_LETTERS)) (rg_LETTERS:aG (.str "abcdefghijklmnopqrstuvwxyz") u_LETTERS)
 (zg_MOST_ROWS:nsIn K mainGlobals "MOST_ROWS"=some (some u_MOST_ROWS)) (rg_MOST_ROWS:aG (.int 40) u_MOST_ROWS)
 (zg_MOST_SIGNS:nsIn K mainGlobals "MOST_SIGNS"=some (some u_MOST_SIGNS)) (rg_MOST_SIGNS:aG (.int 40) u_MOST_SIGNS)
 (zg_AIR:nsIn K mainGlobals "AIR"=some (some u_AIR)) (rg_AIR:aG (.str ".") u_AIR)
 (zg_MOST_CUTS:nsIn K mainGlobals "MOST_CUTS"=some (some u_MOST_CUTS)) (rg_MOST_CUTS:aG (.int 8) u_MOST_CUTS)
 (zg_MOST_SAYINGS:nsIn K mainGlobals "MOST_SAYINGS"=some (some u_MOST_SAYINGS)) (rg_MOST_SAYINGS:aG (.int 60) u_MOST_SAYINGS)
 (zg_FIRST_YEAR:nsIn K mainGlobals "FIRST_YEAR"=some (some u_FIRST_YEAR)) (rg_FIRST_YEAR:aG (.int (-9999)) u_FIRST_YEAR)
 (zg_LAST_YEAR:nsIn K mainGlobals "LAST_YEAR"=some (some u_LAST_YEAR)) (rg_LAST_YEAR:aG (.int 9999) u_LAST_YEAR)
 {C_NoCut ap C_DigError C_Torn C_NoSaying C_NoRow C_NoLayer C_NoDeed:Addr}
 {fi_NoCut:Addr} {od_NoCut an_NoCut:Option Addr} {sl_NoCut:Array (Option Value)} {kV_NoCut dc_NoCut pm_NoCut cd_NoCut ct_NoCut:Value}
 {fi_NoGround:Addr} {od_NoGround an_NoGround:Option Addr} {sl_NoGround:Array (Option Value)} {kV_NoGround dc_NoGround pm_NoGround cd_NoGround ct_NoGround:Value}
 (zc_NoCut:nsIn K mainGlobals "NoCut"=some (some (.ref C_NoCut)))
 (zc_NoGround:nsIn K mainGlobals "NoGround"=some (some (.ref ap)))
 (zc_DigError:nsIn K mainGlobals "DigError"=some (some (.ref C_DigError)))
 (zc_Torn:nsIn K mainGlobals "Torn"=some (some (.ref C_Torn)))
 (zc_NoSaying:nsIn K mainGlobals "NoSaying"=some (some (.ref C_NoSaying)))
 (zc_NoRow:nsIn K mainGlobals "NoRow"=some (some (.ref C_NoRow)))
 (zc_NoLayer:nsIn K mainGlobals "NoLayer"=some (some (.ref C_NoLayer)))
 (zc_NoDeed:nsIn K mainGlobals "NoDeed"=some (some (.ref C_NoDeed)))
 (zis_NoCut0:findIn K (.ref C_NoCut) "__getattribute__"=some (some (.builtin "BaseException.__getattribute__")))
 (zis_NoCut1:findIn K (.ref C_NoCut) "__getattr__"=some none)
 (zis_NoCut2:subIn K (.ref C_NoCut) (.type "BaseException")=some true)
 (zis_NoCut3:hasDictIn K C_NoCut=true)
 (zis_NoCut4:findIn K (.ref C_NoCut) "__class__"=some (some (.builtin "object.__class__")))
 (zis_NoCut5:specialIn K (.builtin "object.__class__") "__get__"=some (some (.builtin "getset_descriptor.__get__")))
 (zis_NoCut6:takesIn K (.builtin "object.__class__")=some true)
 (zis_NoCut7:mroIn K C_NoCut (.type "object")=some true)
 (zin_NoCut0:findIn K (.ref C_NoCut) "__init__"=some (some (.ref fi_NoCut)))
 (zin_NoCut1:K.lookup fi_NoCut=some ⟨.type "function",od_NoCut,.func (fnOf "__init__" "NoCut.__init__" (cj cR) (bx cR) (ah cR) .none kV_NoCut dc_NoCut pm_NoCut an_NoCut cd_NoCut ct_NoCut),sl_NoCut⟩)
 (zin_NoCut2:codeIn K cd_NoCut "NoCut.__init__"=true)
 (zin_NoCut3:keepIn K (.ref fi_NoCut)=true)
 (zin_NoCut4:exK K C_NoCut fi_NoCut=true)
 (zin_NoCut5:keepIn K (.ref C_NoCut)=true)
 (zfrow_NoCut0:findIn K (.ref C_NoCut) "__setattr__"=some (some (.builtin "object.__setattr__")))
 (zfrow_NoCut1:iw K C_NoCut=true)
 (zfrow_NoCut2:findIn K (.ref C_NoCut) "row"=some none)
 (zfrow_NoCut3:hasDictIn K C_NoCut=true)
 (zgrow_NoCut0:findIn K (.ref C_NoCut) "__getattribute__"=some (some (.builtin "BaseException.__getattribute__")))
 (zgrow_NoCut1:findIn K (.ref C_NoCut) "__getattr__"=some none)
 (zgrow_NoCut2:subIn K (.ref C_NoCut) (.type "BaseException")=some true)
 (zgrow_NoCut3:findIn K (.ref C_NoCut) "row"=some none)
 (zgrow_NoCut4:hasDictIn K C_NoCut=true)
 (zu_NoCut_NoCut:subIn K (.ref C_NoCut) (.ref C_NoCut)=some true)
 (zu_NoCut_DigError:subIn K (.ref C_NoCut) (.ref C_DigError)=some true)
 (zk_NoCut_any0:kitAny K (.ref C_NoCut) [.ref C_NoCut,.ref C_NoDeed,.ref C_NoLayer,.ref C_NoRow,.ref C_NoSaying,.ref C_Torn]=some true)
 (zk_NoCut_NoGround:kitOne K (.ref C_NoCut) (.ref ap)=some false)
 (zk_NoCut_ValueError:kitOne K (.ref C_NoCut) (.type "ValueError")=some true)
 (zk_NoCut_DigError:kitOne K (.ref C_NoCut) (.ref C_DigError)=some true)
 (zis_NoGround0:findIn K (.ref ap) "__getattribute__"=some (some (.builtin "BaseException.__getattribute__")))
 (zis_NoGround1:findIn K (.ref ap) "__getattr__"=some none)
 (zis_NoGround2:subIn K (.ref ap) (.type "BaseException")=some true)
 (zis_NoGround3:hasDictIn K ap=true)
 (zis_NoGround4:findIn K (.ref ap) "__class__"=some (some (.builtin "object.__class__")))
 (zis_NoGround5:specialIn K (.builtin "object.__class__") "__get__"=some (some (.builtin "getset_descriptor.__get__")))
 (zis_NoGround6:takesIn K (.builtin "object.__class__")=some true)
 (zis_NoGround7:mroIn K ap (.type "object")=some true)
 (zin_NoGround0:findIn K (.ref ap) "__init__"=some (some (.ref fi_NoGround)))
 (zin_NoGround1:K.lookup fi_NoGround=some ⟨.type "function",od_NoGround,.func (fnOf "__init__" "NoGround.__init__" (cj cb) (bx cb) (ah cb) .none kV_NoGround dc_NoGround pm_NoGround an_NoGround cd_NoGround ct_NoGround),sl_NoGround⟩)
 (zin_NoGround2:codeIn K cd_NoGround "NoGround.__init__"=true)
 (zin_NoGround3:keepIn K (.ref fi_NoGround)=true)
 (zin_NoGround4:exK K ap fi_NoGround=true)
 (zin_NoGround5:keepIn K (.ref ap)=true)
 (zfpart_NoGround0:findIn K (.ref ap) "__setattr__"=some (some (.builtin "object.__setattr__")))
 (zfpart_NoGround1:iw K ap=true)
 (zfpart_NoGround2:findIn K (.ref ap) "part"=some none)
 (zfpart_NoGround3:hasDictIn K ap=true)
 (zgpart_NoGround0:findIn K (.ref ap) "__getattribute__"=some (some (.builtin "BaseException.__getattribute__")))
 (zgpart_NoGround1:findIn K (.ref ap) "__getattr__"=some none)
 (zgpart_NoGround2:subIn K (.ref ap) (.type "BaseException")=some true)
 (zgpart_NoGround3:findIn K (.ref ap) "part"=some none)
 (zgpart_NoGround4:hasDictIn K ap=true)
 (zfnumber_NoGround0:findIn K (.ref ap) "__setattr__"=some (some (.builtin "object.__setattr__")))
 (zfnumber_NoGround1:iw K ap=true)
 (zfnumber_NoGround2:findIn K (.ref ap) "number"=some none)
 (zfnumber_NoGround3:hasDictIn K ap=true)
 (zgnumber_NoGround0:findIn K (.ref ap) "__getattribute__"=some (some (.builtin "BaseException.__getattribute__")))
 (zgnumber_NoGround1:findIn K (.ref ap) "__getattr__"=some none)
 (zgnumber_NoGround2:subIn K (.ref ap) (.type "BaseException")=some true)
 (zgnumber_NoGround3:findIn K (.ref ap) "number"=some none)
 (zgnumber_NoGround4:hasDictIn K ap=true)
 (zu_NoGround_NoCut:subIn K (.ref ap) (.ref C_NoCut)=some false)
 (zu_NoGround_DigError:subIn K (.ref ap) (.ref C_DigError)=some true)
 (zk_NoGround_any0:kitAny K (.ref ap) [.ref C_NoCut,.ref C_NoDeed,.ref C_NoLayer,.ref C_NoRow,.ref C_NoSaying,.ref C_Torn]=some false)
 (zk_NoGround_NoGround:kitOne K (.ref ap) (.ref ap)=some true)
 (zk_NoGround_ValueError:kitOne K (.ref ap) (.type "ValueError")=some true)
 (zk_NoGround_DigError:kitOne K (.ref ap) (.ref C_DigError)=some true)
 (zb_DigError0:specialIn K (.ref C_DigError) "__getattribute__"=some (some (.builtin "type.__getattribute__")))
 (zb_DigError1:readsIn K C_DigError (.type "type")=true)
 (zb_DigError2:findCls K (.ref C_DigError) (.type "type") "__init__"=some (.val (.builtin "ValueError.__init__")))
 (zt_NoCut0:typeIn K (.ref C_NoCut)=some (.type "type"))
 (zt_NoCut1:subIn K (.ref C_NoCut) (.type "BaseException")=some true)
 (zt_NoCut2:(K.lookup C_NoCut).any (λo=>match o.data with| .cls _=>true|_=>false)=true)
 (zt_DigError0:typeIn K (.ref C_DigError)=some (.type "type"))
 (zt_DigError1:subIn K (.ref C_DigError) (.type "BaseException")=some true)
 (zt_DigError2:(K.lookup C_DigError).any (λo=>match o.data with| .cls _=>true|_=>false)=true)
 {C_Ground:Addr}
 (zc_Ground:nsIn K mainGlobals "Ground"=some (some (.ref C_Ground)))
 (zo_Ground0:plainGet K C_Ground Str.empty=true)
 (zo_Ground1:hasDictIn K C_Ground=true)
 (zo_Ground2:plainOver K C_Ground=true)
 (zo_Ground3:findIn K (.ref C_Ground) "__setattr__"=some (some (.builtin "object.__setattr__")))
 (zn_Ground_kept_cuts:findIn K (.ref C_Ground) "kept_cuts"=some none)
 (zn_Ground_kept_sayings:findIn K (.ref C_Ground) "kept_sayings"=some none)
 (zn_Ground_kept_layers:findIn K (.ref C_Ground) "kept_layers"=some none)
 (zn_Ground_kept_ties:findIn K (.ref C_Ground) "kept_ties"=some none)
 {fi_Ground___init__:Addr} {od_Ground___init__ an_Ground___init__:Option Addr} {sl_Ground___init__:Array (Option Value)} {oc_Ground___init__ kV_Ground___init__ dc_Ground___init__ pm_Ground___init__ cd_Ground___init__ ct_Ground___init__:Value}
 (zm_Ground___init__0:findIn K (.ref C_Ground) "__init__"=some (some (.ref fi_Ground___init__)))
 (zm_Ground___init__1:K.lookup fi_Ground___init__=some ⟨oc_Ground___init__,od_Ground___init__,.func (fnOf "__init__" "Ground.__init__" (cj bL) (bx bL) (ah bL) .none kV_Ground___init__ dc_Ground___init__ pm_Ground___init__ an_Ground___init__ cd_Ground___init__ ct_Ground___init__),sl_Ground___init__⟩)
 (zm_Ground___init__2:codeIn K cd_Ground___init__ "Ground.__init__"=true)
 (zm_Ground___init__3:keepIn K (.ref fi_Ground___init__)=true)
 (zm_Ground___init__4:isFn K (.ref fi_Ground___init__)=true)
 (zm_Ground___init__5:makesIn K C_Ground=true)
 (zm_Ground___init__6:keepIn K (.ref C_Ground)=true)
 {ta_YEAR_WORDS:Addr} {to_YEAR_WORDS:Obj} {ti_YEAR_WORDS:Array Value} {tn_YEAR_WORDS:Nat}
 (zt_YEAR_WORDS0:nsIn K mainGlobals "YEAR_WORDS"=some (some (.ref ta_YEAR_WORDS)))
 (zt_YEAR_WORDS1:K.lookup ta_YEAR_WORDS=some to_YEAR_WORDS)
 (zt_YEAR_WORDS2:to_YEAR_WORDS.cls= .type "tuple")
 (zt_YEAR_WORDS3:to_YEAR_WORDS.data= .seq ti_YEAR_WORDS tn_YEAR_WORDS)
 (zt_YEAR_WORDS4:ti_YEAR_WORDS.size<=sizeLine)
 (zt_YEAR_WORDS5:aD [.str "since",.str "by"] ti_YEAR_WORDS.toList)
 {ta_LAYER_WORDS:Addr} {to_LAYER_WORDS:Obj} {ti_LAYER_WORDS:Array Value} {tn_LAYER_WORDS:Nat}
 (zt_LAYER_WORDS0:nsIn K mainGlobals "LAYER_WORDS"=some (some (.ref ta_LAYER_WORDS)))
 (zt_LAYER_WORDS1:K.lookup ta_LAYER_WORDS=some to_LAYER_WORDS)
 (zt_LAYER_WORDS2:to_LAYER_WORDS.cls= .type "tuple")
 (zt_LAYER_WORDS3:to_LAYER_WORDS.data= .seq ti_LAYER_WORDS tn_LAYER_WORDS)
 (zt_LAYER_WORDS4:ti_LAYER_WORDS.size<=sizeLine)
 (zt_LAYER_WORDS5:aD [.str "later",.str "same"] ti_LAYER_WORDS.toList)
 :∃fd:FuncData,(∀(s:Shared) (v:Value),BindsTo s fd ⟨[v],[]⟩ [("_law_script",v)])/\∀base:Heap,K.In base->base.Ns mainGlobals mg->eB l.prog w K mg base CX0 12 fa fd ["_law_script"] (oH K):=by
 have e:=hfa.symm.trans (mg_of X G a37);cases e;have e_NoCut:=dM (mg_of X G zc_NoCut);subst e_NoCut;have e_NoGround:=dM (mg_of X G zc_NoGround);subst e_NoGround;have e_DigError:=dM (mg_of X G zc_DigError);subst e_DigError;have e_Torn:=dM (mg_of X G zc_Torn);subst e_Torn;have e_NoSaying:=dM (mg_of X G zc_NoSaying);subst e_NoSaying;have e_NoRow:=dM (mg_of X G zc_NoRow);subst e_NoRow;have e_NoLayer:=dM (mg_of X G zc_NoLayer);subst e_NoLayer;have e_NoDeed:=dM (mg_of X G zc_NoDeed);subst e_NoDeed;have e_Ground:=dM (mg_of X G zc_Ground);subst e_Ground;have T:Txt K mg:=⟨mg_none_of X G zb_len,
  mg_none_of X G zb_all,
  mg_none_of X G zb_str,
  mg_none_of X G zb_isinstance,
  mg_none_of X G zb_enumerate,
  mg_none_of X G zb_zip,
  mg_none_of X G zb_set,
  mg_none_of X G zb_sorted,
  mg_none_of X G zb_list,
  mg_none_of X G zb_tuple,
  mg_none_of X G zb_int,
  mg_none_of X G zb_bool,
  mg_none_of X G zb_range,
  mg_none_of X G zb_max,
  mg_none_of X G zb_abs,
  mg_none_of X G zb_min,
  mg_none_of X G zb_ValueError,
  iO X G zg_LONGEST_NAME rg_LONGEST_NAME,
  iO X G zg_LETTERS rg_LETTERS,
  iO X G zg_MOST_ROWS rg_MOST_ROWS,
  iO X G zg_MOST_SIGNS rg_MOST_SIGNS,
  iO X G zg_AIR rg_AIR,
  iO X G zg_MOST_CUTS rg_MOST_CUTS,
  iO X G zg_MOST_SAYINGS rg_MOST_SAYINGS,
  iO X G zg_FIRST_YEAR rg_FIRST_YEAR,
  iO X G zg_LAST_YEAR rg_LAST_YEAR,
  aL X G a1 (λ_ _ _ _ _ _ us hl=>match us,hl with|[_],_=>rfl),
  aL X G a2 (λ_ _ _ _ _ _ us hl=>match us,hl with|[_],_=>rfl),
  aL X G a3 (λ_ _ _ _ _ _ us hl=>match us,hl with|[_],_=>rfl),
  aL X G a4 (λ_ _ _ _ _ _ us hl=>match us,hl with|[_,_],_=>rfl),
  aL X G a5 (λ_ _ _ _ _ _ us hl=>match us,hl with|[_],_=>rfl),
  aL X G a6 (λ_ _ _ _ _ _ us hl=>match us,hl with|[_],_=>rfl),
  aL X G a7 (λ_ _ _ _ _ _ us hl=>match us,hl with|[_],_=>rfl),
  aL X G a8 (λ_ _ _ _ _ _ us hl=>match us,hl with|[_,_],_=>rfl),
  aL X G a9 (λ_ _ _ _ _ _ us hl=>match us,hl with|[_],_=>rfl),
  aL X G a10 (λ_ _ _ _ _ _ us hl=>match us,hl with|[_],_=>rfl),
  aL X G a11 (λ_ _ _ _ _ _ us hl=>match us,hl with|[_],_=>rfl),
  aL X G a12 (λ_ _ _ _ _ _ us hl=>match us,hl with|[_,_],_=>rfl),
  aL X G a13 (λ_ _ _ _ _ _ us hl=>match us,hl with|[_,_],_=>rfl),
  aL X G a14 (λ_ _ _ _ _ _ us hl=>match us,hl with|[_,_],_=>rfl),
  aL X G a15 (λ_ _ _ _ _ _ us hl=>match us,hl with|[_],_=>rfl),
  aL X G a16 (λ_ _ _ _ _ _ us hl=>match us,hl with|[_,_],_=>rfl),
  aL X G a17 (λ_ _ _ _ _ _ us hl=>match us,hl with|[_],_=>rfl),
  aL X G a18 (λ_ _ _ _ _ _ us hl=>match us,hl with|[_],_=>rfl),
  aL X G a19 (λ_ _ _ _ _ _ us hl=>match us,hl with|[_],_=>rfl),
  aL X G a20 (λ_ _ _ _ _ _ us hl=>match us,hl with|[_,_],_=>rfl),
  aL X G a21 (λ_ _ _ _ _ _ us hl=>match us,hl with|[_,_],_=>rfl),
  aL X G a22 (λ_ _ _ _ _ _ us hl=>match us,hl with|[_,_,_],_=>rfl),
  aL X G a23 (λ_ _ _ _ _ _ us hl=>match us,hl with|[_,_],_=>rfl),
  aL X G a24 (λ_ _ _ _ _ _ us hl=>match us,hl with|[_,_],_=>rfl),
  aL X G a25 (λ_ _ _ _ _ _ us hl=>match us,hl with|[_,_,_],_=>rfl),
  aL X G a26 (λ_ _ _ _ _ _ us hl=>match us,hl with|[_],_=>rfl),
  aL X G a27 (λ_ _ _ _ _ _ us hl=>match us,hl with|[_],_=>rfl),
  aL X G a28 (λ_ _ _ _ _ _ us hl=>match us,hl with|[_],_=>rfl),
  aL X G a29 (λ_ _ _ _ _ _ us hl=>match us,hl with|[_],_=>rfl),
  aL X G a30 (λ_ _ _ _ _ _ us hl=>match us,hl with|[_],_=>rfl),
  aL X G a31 (λ_ _ _ _ _ _ us hl=>match us,hl with|[_,_],_=>rfl),
  aL X G a32 (λ_ _ _ _ _ _ us hl=>match us,hl with|[_,_],_=>rfl),
  aL X G a33 (λ_ _ _ _ _ _ us hl=>match us,hl with|[_,_],_=>rfl),
  aL X G a34 (λ_ _ _ _ _ _ us hl=>match us,hl with|[_,_],_=>rfl),
  aL X G a35 (λ_ _ _ _ _ _ us hl=>match us,hl with|[_,_],_=>rfl),
  aL X G a36 (λ_ _ _ _ _ _ us hl=>match us,hl with|[_,_],_=>rfl),
  mg_of X G zc_NoCut,
  mg_of X G zc_NoGround,
  mg_of X G zc_DigError,
  mg_of X G zc_Torn,
  mg_of X G zc_NoSaying,
  mg_of X G zc_NoRow,
  mg_of X G zc_NoLayer,
  mg_of X G zc_NoDeed,
  ⟨mg_of X G zc_NoCut,⟨zis_NoCut0,zis_NoCut1,zis_NoCut2,zis_NoCut3,zis_NoCut4,zis_NoCut5,zis_NoCut6,zis_NoCut7⟩,fi_NoCut,_,⟨zin_NoCut4,by rw[zin_NoCut1];rfl,zin_NoCut5⟩,e7 zin_NoCut1 zin_NoCut2 zin_NoCut3,(e7 zin_NoCut1 zin_NoCut2 zin_NoCut3).binds (λ_ _ _ _ _ _ us hl=>match us,hl with|[_,_],_=>rfl)⟩,
  ⟨zfrow_NoCut0,zfrow_NoCut1,zfrow_NoCut2,zfrow_NoCut3⟩,
  ⟨zgrow_NoCut0,zgrow_NoCut1,zgrow_NoCut2,zgrow_NoCut3,zgrow_NoCut4⟩,
  zu_NoCut_NoCut,
  zu_NoCut_DigError,
  zk_NoCut_any0,
  zk_NoCut_NoGround,
  zk_NoCut_ValueError,
  zk_NoCut_DigError,
  ⟨mg_of X G zc_NoGround,⟨zis_NoGround0,zis_NoGround1,zis_NoGround2,zis_NoGround3,zis_NoGround4,zis_NoGround5,zis_NoGround6,zis_NoGround7⟩,fi_NoGround,_,⟨zin_NoGround4,by rw[zin_NoGround1];rfl,zin_NoGround5⟩,e7 zin_NoGround1 zin_NoGround2 zin_NoGround3,(e7 zin_NoGround1 zin_NoGround2 zin_NoGround3).binds (λ_ _ _ _ _ _ us hl=>match us,hl with|[_,_,_],_=>rfl)⟩,
  ⟨zfpart_NoGround0,zfpart_NoGround1,zfpart_NoGround2,zfpart_NoGround3⟩,
  ⟨zgpart_NoGround0,zgpart_NoGround1,zgpart_NoGround2,zgpart_NoGround3,zgpart_NoGround4⟩,
  ⟨zfnumber_NoGround0,zfnumber_NoGround1,zfnumber_NoGround2,zfnumber_NoGround3⟩,
  ⟨zgnumber_NoGround0,zgnumber_NoGround1,zgnumber_NoGround2,zgnumber_NoGround3,zgnumber_NoGround4⟩,
  zu_NoGround_NoCut,
  zu_NoGround_DigError,
  zk_NoGround_any0,
  zk_NoGround_NoGround,
  zk_NoGround_ValueError,
  zk_NoGround_DigError,
  ⟨zb_DigError0,zb_DigError1,zb_DigError2⟩,
  ⟨zt_NoCut0,zt_NoCut1,zt_NoCut2⟩,
  ⟨zt_DigError0,zt_DigError1,zt_DigError2⟩,
  ⟨mg_of X G zc_Ground,zo_Ground0,zo_Ground1,zo_Ground2,zo_Ground3⟩,
  zn_Ground_kept_cuts,
  zn_Ground_kept_sayings,
  zn_Ground_kept_layers,
  zn_Ground_kept_ties,
  ⟨fi_Ground___init__,_,⟨zm_Ground___init__5,zm_Ground___init__0,zm_Ground___init__4,zm_Ground___init__6⟩,e7 zm_Ground___init__1 zm_Ground___init__2 zm_Ground___init__3,(e7 zm_Ground___init__1 zm_Ground___init__2 zm_Ground___init__3).binds (λ_ _ _ _ _ _ us hl=>match us,hl with|[_,_,_],_=>rfl)⟩,
  wP X G zt_YEAR_WORDS0 zt_YEAR_WORDS1 zt_YEAR_WORDS2 zt_YEAR_WORDS3 zt_YEAR_WORDS4 zt_YEAR_WORDS5,
  wP X G zt_LAYER_WORDS0 zt_LAYER_WORDS1 zt_LAYER_WORDS2 zt_LAYER_WORDS3 zt_LAYER_WORDS4 zt_LAYER_WORDS5⟩
 exact⟨fnOf "law" "law" (cj fM) (bx fM) (ah fM) .none kV37 dc37 pm37 an37 cd37 ct37,λs v=> .of_eq rfl,λbase _ _=>A0 (e7 (st:=fM) l37 c37 k37) T⟩
theorem walk{l:PySem.W.OpenLaw}{q:Program}{b:List Str}{j:(Str->Option Value)->Heap->Prop}{e:World->Heap->Prop}{d:DefRec}{K:Params->PySem.W.Frag}(m:l.most=some 63)(c:d.params.defaults=[])
 (o:∀(w:World) (h:Heap),e w h->(K w.params).In h)
 (F:∀(w:World) (mg:Str->Option Value) (g:Addr) (h:Heap),(K w.params).In h->h.Ns mainGlobals mg->mg d.name=some (.ref g)->
  ∃i:FuncData,(∀(s:Shared) (u:Value),BindsTo s i ⟨[u],[]⟩ [("_law_script",u)])/\∀base:Heap,(K w.params).In base->base.Ns mainGlobals mg->eB l.prog w (K w.params) mg base CX0 12 g i ["_law_script"] (oH (K w.params))):
 PySem.W.WalkO q b j e l.row.toRowW d [] (λf vs=>PySem.call f vs):=
 L2.walk_of (n:=63) (k:=12) (x:="_law_script") (CX:=λ_=>CX0) (sp:=λw=>oH (K w.params)) m (by decide) c ⟨rfl,by decide,by decide⟩ o F (λ_ _ a p r t v=>⟨a,p,rfl,v,t,r,λ_=>rfl⟩) λ_ _ _ _ _ z=>z
end K13
open PySem PySem.W PyProof.Rows
set_option maxRecDepth 100000 in
theorem PySem.Challenge.cw_digbook_k13_no_ground_holds : PySem.Challenge.rw_digbook_k13_no_ground.Holds := by
 w_on;o_law;k_head;(case hw=>w_witness2)
 k_fill
 refine K13.walk (l:=PySem.Challenge.rw_digbook_k13_no_ground) rfl rfl (λw h Y=>PySem.W.kIn_of Y) ?F
 case F=>
  intro w mg fa h KX G hmg;refine' K13.all_mk KX G hmg ?_ ?_ ?_ ?_ ?_ ?_ ?_ ?_ ?_ ?_ ?_ ?_ ?_ ?_ ?_ ?_ ?_ ?_ ?_ ?_ ?_ ?_ ?_ ?_ ?_ ?_ ?_ ?_ ?_ ?_ ?_ ?_ ?_ ?_ ?_ ?_ ?a37 ?l37 ?c37 ?k37 ?zb_len ?zb_all ?zb_str ?zb_isinstance ?zb_enumerate ?zb_zip ?zb_set ?zb_sorted ?zb_list ?zb_tuple ?zb_int ?zb_bool ?zb_range ?zb_max ?zb_abs ?zb_min ?zb_ValueError ?zg_LONGEST_NAME ?rg_LONGEST_NAME ?zg_LETTERS ?rg_LETTERS ?zg_MOST_ROWS ?rg_MOST_ROWS ?zg_MOST_SIGNS ?rg_MOST_SIGNS ?zg_AIR ?rg_AIR ?zg_MOST_CUTS ?rg_MOST_CUTS ?zg_MOST_SAYINGS ?rg_MOST_SAYINGS ?zg_FIRST_YEAR ?rg_FIRST_YEAR ?zg_LAST_YEAR ?rg_LAST_YEAR ?zc_NoCut ?zc_NoGround ?zc_DigError ?zc_Torn ?zc_NoSaying ?zc_NoRow ?zc_NoLayer ?zc_NoDeed ?zis_NoCut0 ?zis_NoCut1 ?zis_NoCut2 ?zis_NoCut3 ?zis_NoCut4 ?zis_NoCut5 ?zis_NoCut6 ?zis_NoCut7 ?zin_NoCut0 ?zin_NoCut1 ?zin_NoCut2 ?zin_NoCut3 ?zin_NoCut4 ?zin_NoCut5 ?zfrow_NoCut0 ?zfrow_NoCut1 ?zfrow_NoCut2 ?zfrow_NoCut3 ?zgrow_NoCut0 ?zgrow_NoCut1 ?zgrow_NoCut2 ?zgrow_NoCut3 ?zgrow_NoCut4 ?zu_NoCut_NoCut ?zu_NoCut_DigError ?zk_NoCut_any0 ?zk_NoCut_NoGround ?zk_NoCut_ValueError ?zk_NoCut_DigError ?zis_NoGround0 ?zis_NoGround1 ?zis_NoGround2 ?zis_NoGround3 ?zis_NoGround4 ?zis_NoGround5 ?zis_NoGround6 ?zis_NoGround7 ?zin_NoGround0 ?zin_NoGround1 ?zin_NoGround2 ?zin_NoGround3 ?zin_NoGround4 ?zin_NoGround5 ?zfpart_NoGround0 ?zfpart_NoGround1 ?zfpart_NoGround2 ?zfpart_NoGround3 ?zgpart_NoGround0 ?zgpart_NoGround1 ?zgpart_NoGround2 ?zgpart_NoGround3 ?zgpart_NoGround4 ?zfnumber_NoGround0 ?zfnumber_NoGround1 ?zfnumber_NoGround2 ?zfnumber_NoGround3 ?zgnumber_NoGround0 ?zgnumber_NoGround1 ?zgnumber_NoGround2 ?zgnumber_NoGround3 ?zgnumber_NoGround4 ?zu_NoGround_NoCut ?zu_NoGround_DigError ?zk_NoGround_any0 ?zk_NoGround_NoGround ?zk_NoGround_ValueError ?zk_NoGround_DigError ?zb_DigError0 ?zb_DigError1 ?zb_DigError2 ?zt_NoCut0 ?zt_NoCut1 ?zt_NoCut2 ?zt_DigError0 ?zt_DigError1 ?zt_DigError2 ?zc_Ground ?zo_Ground0 ?zo_Ground1 ?zo_Ground2 ?zo_Ground3 ?zn_Ground_kept_cuts ?zn_Ground_kept_sayings ?zn_Ground_kept_layers ?zn_Ground_kept_ties ?zm_Ground___init__0 ?zm_Ground___init__1 ?zm_Ground___init__2 ?zm_Ground___init__3 ?zm_Ground___init__4 ?zm_Ground___init__5 ?zm_Ground___init__6 ?zt_YEAR_WORDS0 ?zt_YEAR_WORDS1 ?zt_YEAR_WORDS2 ?zt_YEAR_WORDS3 ?zt_YEAR_WORDS4 ?zt_YEAR_WORDS5 ?zt_LAYER_WORDS0 ?zt_LAYER_WORDS1 ?zt_LAYER_WORDS2 ?zt_LAYER_WORDS3 ?zt_LAYER_WORDS4 ?zt_LAYER_WORDS5
  any_goals (refine' K13.di_mk ?a ?l ?c ?k;(case a=>k_is);(case l=>k_is);(case c=>k_is);(case k=>k_is))
  (case a37=>k_is)
  (case l37=>k_is)
  (case c37=>k_is)
  (case k37=>k_is)
  (case zb_len=>k_is)
  (case zb_all=>k_is)
  (case zb_str=>k_is)
  (case zb_isinstance=>k_is)
  (case zb_enumerate=>k_is)
  (case zb_zip=>k_is)
  (case zb_set=>k_is)
  (case zb_sorted=>k_is)
  (case zb_list=>k_is)
  (case zb_tuple=>k_is)
  (case zb_int=>k_is)
  (case zb_bool=>k_is)
  (case zb_range=>k_is)
  (case zb_max=>k_is)
  (case zb_abs=>k_is)
  (case zb_min=>k_is)
  (case zb_ValueError=>k_is)
  (case zg_LONGEST_NAME=>k_is)
  (case rg_LONGEST_NAME=>exact⟨_,rfl⟩)
  (case zg_LETTERS=>k_is)
  (case rg_LETTERS=>exact⟨_,rfl⟩)
  (case zg_MOST_ROWS=>k_is)
  (case rg_MOST_ROWS=>exact⟨_,rfl⟩)
  (case zg_MOST_SIGNS=>k_is)
  (case rg_MOST_SIGNS=>exact⟨_,rfl⟩)
  (case zg_AIR=>k_is)
  (case rg_AIR=>exact⟨_,rfl⟩)
  (case zg_MOST_CUTS=>k_is)
  (case rg_MOST_CUTS=>exact⟨_,rfl⟩)
  (case zg_MOST_SAYINGS=>k_is)
  (case rg_MOST_SAYINGS=>exact⟨_,rfl⟩)
  (case zg_FIRST_YEAR=>k_is)
  (case rg_FIRST_YEAR=>exact⟨_,rfl⟩)
  (case zg_LAST_YEAR=>k_is)
  (case rg_LAST_YEAR=>exact⟨_,rfl⟩)
  (case zc_NoCut=>k_is)
  (case zc_NoGround=>k_is)
  (case zc_DigError=>k_is)
  (case zc_Torn=>k_is)
  (case zc_NoSaying=>k_is)
  (case zc_NoRow=>k_is)
  (case zc_NoLayer=>k_is)
  (case zc_NoDeed=>k_is)
  (case zis_NoCut0=>k_is)
  (case zis_NoCut1=>k_is)
  (case zis_NoCut2=>k_is)
  (case zis_NoCut3=>k_is)
  (case zis_NoCut4=>k_is)
  (case zis_NoCut5=>k_is)
  (case zis_NoCut6=>k_is)
  (case zis_NoCut7=>k_is)
  (case zin_NoCut0=>k_is)
  (case zin_NoCut1=>k_is)
  (case zin_NoCut2=>k_is)
  (case zin_NoCut3=>k_is)
  (case zin_NoCut4=>kernel_rfl)
  (case zin_NoCut5=>k_is)
  (case zfrow_NoCut0=>k_is)
  (case zfrow_NoCut1=>kernel_rfl)
  (case zfrow_NoCut2=>k_is)
  (case zfrow_NoCut3=>k_is)
  (case zgrow_NoCut0=>k_is)
  (case zgrow_NoCut1=>k_is)
  (case zgrow_NoCut2=>k_is)
  (case zgrow_NoCut3=>k_is)
  (case zgrow_NoCut4=>k_is)
  (case zu_NoCut_NoCut=>k_is)
  (case zu_NoCut_DigError=>k_is)
  (case zk_NoCut_any0=>kit_is)
  (case zk_NoCut_NoGround=>kit_is)
  (case zk_NoCut_ValueError=>kit_is)
  (case zk_NoCut_DigError=>kit_is)
  (case zis_NoGround0=>k_is)
  (case zis_NoGround1=>k_is)
  (case zis_NoGround2=>k_is)
  (case zis_NoGround3=>k_is)
  (case zis_NoGround4=>k_is)
  (case zis_NoGround5=>k_is)
  (case zis_NoGround6=>k_is)
  (case zis_NoGround7=>k_is)
  (case zin_NoGround0=>k_is)
  (case zin_NoGround1=>k_is)
  (case zin_NoGround2=>k_is)
  (case zin_NoGround3=>k_is)
  (case zin_NoGround4=>kernel_rfl)
  (case zin_NoGround5=>k_is)
  (case zfpart_NoGround0=>k_is)
  (case zfpart_NoGround1=>kernel_rfl)
  (case zfpart_NoGround2=>k_is)
  (case zfpart_NoGround3=>k_is)
  (case zgpart_NoGround0=>k_is)
  (case zgpart_NoGround1=>k_is)
  (case zgpart_NoGround2=>k_is)
  (case zgpart_NoGround3=>k_is)
  (case zgpart_NoGround4=>k_is)
  (case zfnumber_NoGround0=>k_is)
  (case zfnumber_NoGround1=>kernel_rfl)
  (case zfnumber_NoGround2=>k_is)
  (case zfnumber_NoGround3=>k_is)
  (case zgnumber_NoGround0=>k_is)
  (case zgnumber_NoGround1=>k_is)
  (case zgnumber_NoGround2=>k_is)
  (case zgnumber_NoGround3=>k_is)
  (case zgnumber_NoGround4=>k_is)
  (case zu_NoGround_NoCut=>k_is)
  (case zu_NoGround_DigError=>k_is)
  (case zk_NoGround_any0=>kit_is)
  (case zk_NoGround_NoGround=>kit_is)
  (case zk_NoGround_ValueError=>kit_is)
  (case zk_NoGround_DigError=>kit_is)
  (case zb_DigError0=>k_is)
  (case zb_DigError1=>k_is)
  (case zb_DigError2=>k_is)
  (case zt_NoCut0=>k_is)
  (case zt_NoCut1=>k_is)
  (case zt_NoCut2=>kernel_rfl)
  (case zt_DigError0=>k_is)
  (case zt_DigError1=>k_is)
  (case zt_DigError2=>kernel_rfl)
  (case zc_Ground=>k_is)
  (case zo_Ground0=>k_is)
  (case zo_Ground1=>k_is)
  (case zo_Ground2=>k_is)
  (case zo_Ground3=>k_is)
  (case zn_Ground_kept_cuts=>k_is)
  (case zn_Ground_kept_sayings=>k_is)
  (case zn_Ground_kept_layers=>k_is)
  (case zn_Ground_kept_ties=>k_is)
  (case zm_Ground___init__0=>k_is)
  (case zm_Ground___init__1=>k_is)
  (case zm_Ground___init__2=>k_is)
  (case zm_Ground___init__3=>k_is)
  (case zm_Ground___init__4=>k_is)
  (case zm_Ground___init__5=>k_is)
  (case zm_Ground___init__6=>k_is)
  (case zt_YEAR_WORDS0=>k_is)
  (case zt_YEAR_WORDS1=>k_is)
  (case zt_YEAR_WORDS2=>rfl)
  (case zt_YEAR_WORDS3=>rfl)
  (case zt_YEAR_WORDS4=>decide)
  (case zt_YEAR_WORDS5=>exact .cons ⟨_,rfl⟩ (.cons ⟨_,rfl⟩ (.nil)))
  (case zt_LAYER_WORDS0=>k_is)
  (case zt_LAYER_WORDS1=>k_is)
  (case zt_LAYER_WORDS2=>rfl)
  (case zt_LAYER_WORDS3=>rfl)
  (case zt_LAYER_WORDS4=>decide)
  (case zt_LAYER_WORDS5=>exact .cons ⟨_,rfl⟩ (.cons ⟨_,rfl⟩ (.nil)))
