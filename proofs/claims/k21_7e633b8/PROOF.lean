import PyProof.Rows.All
import Wide.All
import OpenK.AllK
import Wide.FinOn
import Lean
import PyProof.EqAt
import PyProof.EqKinds
import PyProof.TupleCall
import PyProof.ExcInit
import PyProof.ExcClass2
import PyProof.InstStoreFacts
import OpenK.KOwn
import PyProof.RulesAs
import PyProof.ExcAttrAll.ValueError
import KE.KIsAll
import KE.KRevSl
import KE.KRevIter
import PyProof.Rows.SortRuns
import PySem.SetTable
import PySem.SetOps
import PyProof.TupleKey
import PyProof.SetKind
import PyProof.Rows.SetObj
import KE.KDictSum
import PyProof.WalkInts
import KE.KDictOf
import PyProof.AttrMissHeap
import PyProof.DictWalks
import KE.KDictLaws
import KE.KDictList
import PySem.Challenge.RW_digbook_k21_deposits
structure PySem.W.Fast:Prop where(tw14171720838127182175 tw13650396271625019720 tw636959921179578509 tw1451350666326822946 tw7772547081910748122 tw17938579924682032490 tw11733936457252329827 tw16550180275650792306 tw12914673058463953662 tw3602231436432721869 tw12142034820666012576 tw1758393744255302513 tw3470755166298673872 tw8286730885657331270 tw10102182264854743076 tw8899228123690213144 tw18217218126029752017 tw17446743065855925591 tw14658098083016894195 tw17267197477090592384 tw11523699282091034482 tw5131613224652823021 tw11773865992351753102 tw13470727915769606705 tw7659048551468043061 tw17789465150399596343 tw4331488479765229514 tw16221276452569345597 tw16810144461479697494 tw15625883502157340227 tw1205375475552456684 tw6660404574400261830 tw3663973918496439903 tw18082397599132769290 tw9630571803864276144 tw540282079031272343 tw16224417810956181459 tw422079475242917086 tw10370562870905102500 tw10278102132045246974 tw10470312775545106247 tw12207394618951385550 tw10169543954013064097 tw3775405716990401501 tw9123022677886745144 tw16481617261648016924 tw4117459093217778832 tw8944933141910505584 tw11819497304803891220 tw2396613493765702772 tw4352858984024952645 tw12604812491010847524 tw18208296836097437604 tw4646979771225196877 tw17048667202491920680 tw2925825712107275687 tw16606104200681309920 tw3623144274272990793 tw11251680158337333729 tw1840718775532366211 tw13571252871178940872 tw1532071037691358160 tw2965623157672510572 tw13774482922299611521 tw12774162164631563139 tw14417860172517352869 tw3102334318597387896 tw9660406608109283947 tw12791434432231226075 tw17343300478063328892 tw16325617396547666313 tw3831990145254358831 tw447180330694510087 tw11269346850288182054 tw12494546923124169322 tw5649480379887569092 tw16981746133688110665 tw10007757031669803604 tw14488905743131491334 tw13200077967541424477 tw7474224717893070072 tw17577140024674385789 tw14461237105791491562 tw4327576069605197432 tw1002380685042006417 tw11159787982998969712 tw17977527982300187036 tw8666247907695711819 tw6731432698239669437 tw7573023114537884266 tw10076673582402959921 tw12643343453896975724 tw2856075303690406966 tw7138684919679002822 tw11244098973613785560 tw17843355046085804410 tw8293217403102012863 tw15364408705367219695 tw16092524823367657045 tw37122069456270839 tw17408859538074177178 tw8175560147331618008 tw6112515098005670365 tw4927767510864296471 tw940022705694810206 tw13700538063569177729 tw16639645537680436455 tw11297170747476331235 tw1711706679844929019 tw16594119696702344570 tw12728562497512306927 tw6751629750190388189 tw9289129685663834046 tw13134038485072773064 tw12176930525265509634 tw14546905040047937969 tw742843947125860693 tw4325687471554524384 tw15018793763374280396 tw16104667888627556075 tw277371735197831873 tw2414385957608555950 tw371590252801980766 tw7209416732390505699 tw8149876096897202460 tw14257429351650183965 tw16124443969449183669 tw1085653514758977598 tw15303836536188159105 tw10720581541657880731 tw15862349034903287980 tw8321287062214230925 tw16548385811710890078 tw11049630569809495247 tw17335494034331045291 tw9011769496017045414 tw15512827115894058639 tw7422427217384284767 tw15851305329181136677 tw8315533832489072991 tw436970859796194466 tw6630629894009149499 tw2040329850949883 tw16646046669823253748 tw9076886944080402098 tw6302001982063804779 tw15131616554453319005 tw4259886952784277629 tw3385921795007412445 tw8719117919009023357 tw15628117715293849839 tw2556655689801558865 tw16027211347955340228 tw14903631833824645327 tw7036366479601293572 tw15694366674837359443 tw12175104215390500733 tw10245838048438085908 tw15343910473482442032 tw8968320935297630071 tw13658445469230637132 tw13779145599662503734 tw1652268101636184244 tw18012965018408270601 tw4719769085350914938 tw2101751189802073222 tw9387158560408064257 tw8419984124381489849 tw217058483689883739 tw17750321838896231007:0=0)
theorem Z0{α:Sort _}{b:Prop}{a:α}:a=a∨b:=Or.inl rfl
theorem Z1{α:Sort _}{b:Prop}{a:α}:b∨a=a:=Or.inr rfl
theorem Z2:type_of% @PySem.wpAny_bind:=@PySem.wpAny_bind
theorem Z3:type_of% @PySem.wpAny_pure:=@PySem.wpAny_pure
theorem Z4:type_of% @List.getElem?_eq_getElem:=@List.getElem?_eq_getElem
theorem Z6:type_of% @List.length_map:=@List.length_map
theorem Z7:type_of% @PySem.Heap.get?_push_of_some:=@PySem.Heap.get?_push_of_some
theorem Z8:type_of% @List.mem_of_getElem?:=@List.mem_of_getElem?
theorem Z9:type_of% @List.length_append:=@List.length_append
theorem Za:type_of% @Option.some.inj:=@Option.some.inj
theorem Zb:type_of% @Array.length_toList:=@Array.length_toList
theorem Zc:type_of% @List.getD_eq_getElem?_getD:=@List.getD_eq_getElem?_getD
theorem Zd:type_of% @List.map_append:=@List.map_append
theorem Ze:type_of% @List.append_assoc:=@List.append_assoc
theorem Zf:type_of% @decide_eq_true:=@decide_eq_true
theorem Zg:type_of% @Nat.lt_of_lt_of_le:=@Nat.lt_of_lt_of_le
theorem Zh:type_of% @decide_eq_false:=@decide_eq_false
theorem Zi:type_of% @Nat.le_refl:=@Nat.le_refl
theorem Zj:type_of% @PySem.Heap.get?_push_size:=@PySem.Heap.get?_push_size
theorem Zk:type_of% @List.mem_cons_of_mem:=@List.mem_cons_of_mem
theorem Zl:type_of% @List.getElem?_map:=@List.getElem?_map
theorem Zm:type_of% @List.mem_cons_self:=@List.mem_cons_self
theorem Zn:type_of% @List.take_of_length_le:=@List.take_of_length_le
theorem Zo:type_of% @of_decide_eq_true:=@of_decide_eq_true
theorem Zp:type_of% @List.size_toArray:=@List.size_toArray
theorem Zq:type_of% @PySem.Heap.size_push:=@PySem.Heap.size_push
theorem Zr:type_of% @List.length_cons:=@List.length_cons
theorem Zs:type_of% @Array.getD_eq_getD_getElem?:=@Array.getD_eq_getD_getElem?
theorem Zt:type_of% @Nat.ne_of_lt:=@Nat.ne_of_lt
theorem Zu:type_of% @Bool.false_ne_true:=@Bool.false_ne_true
theorem Zv:type_of% @PySem.Heap.lt_size:=@PySem.Heap.lt_size
theorem Zw:type_of% @Nat.add_sub_cancel_left:=@Nat.add_sub_cancel_left
theorem Zx:type_of% @Bool.and_eq_true:=@Bool.and_eq_true
theorem Zy:type_of% @List.any_cons:=@List.any_cons
theorem Zz:type_of% @List.append_nil:=@List.append_nil
theorem Y0:type_of% @List.ext_getElem:=@List.ext_getElem
theorem Y1:type_of% @Bool.false_eq_true:=@Bool.false_eq_true
theorem Y2:type_of% @List.filterMap_cons:=@List.filterMap_cons
theorem Y3:type_of% @List.filter_append:=@List.filter_append
theorem Y4:type_of% @List.foldl_cons:=@List.foldl_cons
theorem Y6:type_of% @List.getElem?_append_left:=@List.getElem?_append_left
theorem Y7:type_of% @List.getElem?_append_right:=@List.getElem?_append_right
theorem Y8:type_of% @List.getElem?_drop:=@List.getElem?_drop
theorem Y9:type_of% @List.getElem?_take:=@List.getElem?_take
theorem Ya:type_of% @List.getElem_mem:=@List.getElem_mem
theorem Yb:type_of% @Nat.le_of_lt:=@Nat.le_of_lt
theorem Yc:type_of% @Nat.le_succ:=@Nat.le_succ
theorem Yd:type_of% @Nat.le_trans:=@Nat.le_trans
theorem Ye:type_of% @List.length_drop:=@List.length_drop
theorem Yf:type_of% @List.length_filter_le:=@List.length_filter_le
theorem Yg:type_of% @List.length_range:=@List.length_range
theorem Yh:type_of% @List.length_take:=@List.length_take
theorem Yi:type_of% @List.lookup_cons:=@List.lookup_cons
theorem Yj:type_of% @Nat.lt_succ_of_lt:=@Nat.lt_succ_of_lt
theorem Yk:type_of% @Nat.lt_succ_self:=@Nat.lt_succ_self
theorem Yl:type_of% @List.map_congr_left:=@List.map_congr_left
theorem Ym:type_of% @List.map_cons:=@List.map_cons
theorem Yn:type_of% @List.map_map:=@List.map_map
theorem Yo:type_of% @List.mem_append_left:=@List.mem_append_left
theorem Yp:type_of% @List.mem_append_right:=@List.mem_append_right
theorem Yq:type_of% @List.mem_cons:=@List.mem_cons
theorem Yr:type_of% @List.mem_of_mem_drop:=@List.mem_of_mem_drop
theorem Ys:type_of% @List.mem_of_mem_take:=@List.mem_of_mem_take
theorem Yt:type_of% @Nat.min_eq_left:=@Nat.min_eq_left
theorem Yu:type_of% @Nat.ne_of_gt:=@Nat.ne_of_gt
theorem Yv:type_of% @List.nodup_append:=@List.nodup_append
theorem Yw:type_of% @List.nodup_iff_pairwise_ne:=@List.nodup_iff_pairwise_ne
theorem Yx:type_of% @Nat.not_lt_zero:=@Nat.not_lt_zero
theorem Yy:type_of% @List.not_mem_nil:=@List.not_mem_nil
theorem Yz:type_of% @Bool.or_eq_false_iff:=@Bool.or_eq_false_iff
theorem X1:type_of% @List.pairwise_map:=@List.pairwise_map
theorem X2:type_of% @List.take_add_one:=@List.take_add_one
theorem X3:type_of% @List.take_append_drop:=@List.take_append_drop
theorem X4:type_of% @Array.toList_append:=@Array.toList_append
theorem X6:type_of% @Array.toList_push:=@Array.toList_push
theorem X7:type_of% @Nat.zero_le:=@Nat.zero_le
theorem X8:type_of% @List.getElem?_of_mem:=@List.getElem?_of_mem
theorem X9:type_of% @List.Pairwise.imp_of_mem:=@List.Pairwise.imp_of_mem
theorem Xa:type_of% @Int.eq_ofNat_of_zero_le:=@Int.eq_ofNat_of_zero_le
theorem Xb:type_of% @Array.size_push:=@Array.size_push
theorem Xc:type_of% @Nat.lt_irrefl:=@Nat.lt_irrefl
theorem Xd:type_of% @List.Perm.append_right:=@List.Perm.append_right
theorem Xe:type_of% @List.getElem?_eq_none:=@List.getElem?_eq_none
theorem Xf{α:Type _}{l:List α}{i:Nat}{a:α}(h:l[i]?=some a):∃h:i<l.length,l[i]=a:=List.getElem?_eq_some_iff.mp h
theorem Xg{α:Type _}{a:α}{s t:List α}(h:a∈s++t):a∈s∨a∈t:=List.mem_append.mp h
theorem Xh{α:Type _}{a b:α}(h:a∈[b]):a=b:=List.mem_singleton.mp h
theorem Xi{α β:Type _}{f:α->β}{l:List α}{b:β}(h:b∈l.map f):∃a,a∈l/\f a=b:=List.mem_map.mp h
theorem Xj{α β:Type _}{f:α->β}{l:List α}{b:β}(h:∃a,a∈l/\f a=b):b∈l.map f:=List.mem_map.mpr h
open Array (getD_eq_getD_getElem? length_toList mem_toList_iff size_append size_map toList_append toList_push)
open Bool (and_eq_true false_eq_true or_eq_false_iff or_eq_true)
open List (all_cons all_eq_true all_map any_cons any_eq_true any_map append_nil cons_append drop_drop ext_getElem filterMap_cons filter_append filter_cons filter_cons_of_neg filter_cons_of_pos filter_nil find?_cons flatMap_append flatten_cons foldl_cons forIn_cons forIn_nil getD_eq_getElem?_getD getElem?_append_left getElem?_append_right getElem?_drop getElem?_map getElem?_take getElem_mem getElem_of_mem length_append length_cons length_drop length_eq_zero_iff length_filter_le length_flatMap length_map length_nil length_pos_iff length_range length_singleton length_take length_zip lookup_cons map_append map_congr_left map_cons map_drop map_id map_map map_nil map_take mem_append mem_append_left mem_append_right mem_cons mem_cons_of_mem mem_cons_self mem_filterMap mem_flatMap mem_map mem_of_mem_drop mem_of_mem_take mem_range mem_singleton nil_append nodup_append nodup_cons nodup_iff_pairwise_ne nodup_nil nodup_range not_mem_nil of_mem_zip pairwise_append pairwise_cons pairwise_map perm_append_comm range_succ replicate_succ size_toArray take_add_one take_append_drop take_of_length_le take_sublist toList_toArray)
open Nat (add_mod add_mul add_sub_cancel add_sub_cancel_left add_zero le_add_right le_of_lt le_refl le_succ le_trans lt_of_lt_of_le lt_succ_of_lt lt_succ_self min_eq_left mod_lt mul_add mul_assoc ne_of_gt ne_of_lt not_lt_zero pow_add pow_succ sub_self succ_pos zero_add zero_le)
open Option (bind_eq_some_iff getD_none getD_some map_eq_some_iff)
open PyProof.Rows (boot_abs boot_all boot_int boot_isinstance boot_list boot_max boot_min boot_set boot_sorted boot_str boot_tuple)
open PySem.F (called_set plainAttrs_list plainAttrs_str slot_str_join type_str_join)
open PySem.Heap (SameBut get?_push_of_some get?_push_size get?_update_other get?_update_self lt_size push)
open PySem.W (KatTups Looks callWith_K cellsFrom_some codeIn emptyDict findIn fnOf handedIn hasDictIn instObj isFn kat_kind keepIn kia_one kitOne kitx_dict kitx_list lookIn makesIn methodObj mg_none_of mg_of nsIn plainGet plainGet_of plainOver takerIn)
set_option maxHeartbeats 0
set_option Elab.async false
set_option linter.all false
set_option maxRecDepth 100000
namespace L2
open PySem PySem.Spec PyProof.Rows
noncomputable abbrev Key:=Sum Int Str
noncomputable def jq:Key->Value->Bool
 | .inl k,v=>Value.isInt k v
 | .inr x,v=>Value.isStrOf x v
noncomputable def keyH(w:World):Key->Int
 | .inl k=>hashInt k
 | .inr x=>hashStr w x
theorem bd:∀{k:Key} {v:Value},jq k v=true->(∃i t,k=Sum.inl i/\v=Value.int i t)\/(∃x t,k=Sum.inr x/\v=Value.str x t)
 | .inl i,v,h=>by
   obtain⟨t,e⟩:=Value.isInt_shape (k:=i) (v:=v) h;exact .inl ⟨i,t,rfl,e⟩
 | .inr x,v,h=>by
   obtain⟨t,e⟩:=Value.isStrOf_shape (x:=x) (v:=v) h;exact .inr ⟨x,t,rfl,e⟩
theorem sQ(i:Int)(t:Tok):jq (.inl i) (.int i t)=true:=by simp[jq,Value.isInt]
theorem eE(x:Str)(t:Tok):jq (.inr x) (.str x t)=true:=by simp[jq,Value.isStrOf]
theorem zq(a b:Int):decide ((Sum.inl a:Key)=Sum.inl b)=(a==b):=by
 by_cases e:a=b
 ·subst e;simp
 ·have h: ¬ (Sum.inl a:Key)=Sum.inl b:=fun q=>e (Sum.inl.inj q)
  rw[Zh h];exact(beq_eq_false_iff_ne.mpr e).symm
theorem zt(a b:Str):decide ((Sum.inr a:Key)=Sum.inr b)=decide (a=b):=by
 by_cases e:a=b
 ·subst e;simp
 ·have h: ¬ (Sum.inr a:Key)=Sum.inr b:=fun q=>e (Sum.inr.inj q)
  rw[Zh h,Zh e]
theorem zu(a:Int)(b:Str):decide ((Sum.inl a:Key)=Sum.inr b)=false:=Zh (fun q=>nomatch q)
theorem zv(a:Str)(b:Int):decide ((Sum.inr a:Key)=Sum.inl b)=false:=Zh (fun q=>nomatch q)
noncomputable def aB(prog:Program)(w:World):PySem.KeyKind prog w Key where
 is:=jq
 hash:=keyH w
 inj:=fun v a b ha hb=>by
  rcases bd ha with⟨i,t,rfl,rfl⟩|⟨x,t,rfl,rfl⟩
  ·rcases bd hb with⟨j,u,rfl,e⟩|⟨y,u,rfl,e⟩
   ·injection e with e1 _;rw[e1]
   ·exact nomatch e
  ·rcases bd hb with⟨j,u,rfl,e⟩|⟨y,u,rfl,e⟩
   ·exact nomatch e
   ·injection e with e1 _;rw[e1]
 byValue:=fun k v h=>by
  rcases bd h with⟨i,t,rfl,rfl⟩|⟨x,t,rfl,rfl⟩<;> rfl
 pyHash:=fun hv h=>by
  rcases bd hv with⟨i,t,rfl,rfl⟩|⟨x,t,rfl,rfl⟩
  ·exact wpAny_pyHash_int h
  ·exact wpAny_pyHash_str h
 eqBool:=fun hu hv h=>by
  rcases bd hu with⟨i,t,rfl,rfl⟩|⟨x,t,rfl,rfl⟩
  ·rcases bd hv with⟨j,u,rfl,rfl⟩|⟨y,u,rfl,rfl⟩
   ·rw[zq]at h;exact wpAny_eqBool_int h
   ·rw[zu]at h;exact SeqAt.EqAt.int_str i t y u _ _ _ _ h
  ·rcases bd hv with⟨j,u,rfl,rfl⟩|⟨y,u,rfl,rfl⟩
   ·rw[zv]at h;exact SeqAt.EqAt.str_int x t j u _ _ _ _ h
   ·rw[zt]at h;exact wpAny_eqBool_str h
 «strs»:=fun k x t v h=>by
  rcases bd h with⟨i,u,rfl,e⟩|⟨y,u,rfl,e⟩
  ·exact nomatch e
  ·injection e with e1 _
   subst e1;cases v<;> rfl
theorem oi(prog:Program)(w:World)(i:Int)(t:Tok):(aB prog w).is (.inl i) (.int i t)=true:=sQ i t
theorem oj(prog:Program)(w:World)(x:Str)(t:Tok):(aB prog w).is (.inr x) (.str x t)=true:=eE x t
inductive V where
 | non|bl (b:Bool)|int (i:Int)|str (x:Str)|byt (b:Array UInt8)|flt (b:UInt64)|ref (a:Addr)|ty (n:String)
 deriving DecidableEq
def aA:V->Value->Prop
 | .non,u=>u=Value.none
 | .bl b,u=>u=Value.bool b
 | .int i,u=>∃t,u=Value.int i t
 | .str x,u=>∃t,u=Value.str x t
 | .byt b,u=>∃t,u=Value.bytes b t
 | .flt b,u=>∃t,u=Value.float b t
 | .ref a,u=>u=Value.ref a
 | .ty n,u=>u=Value.type n
abbrev aC:List V->List Value->Prop:=Paired aA
theorem aC.length{xs:List V}{us:List Value}(r:aC xs us):xs.length=us.length:=Paired.length r
theorem aC.get:∀{xs:List V} {us:List Value} {i:Nat} {x:V},aC xs us->xs[i]? =some x->∃u,us[i]? =some u/\aA x u
 | _,_,_,_,.nil,e=>by simp at e
 | _,_,0,_,.cons r _,e=>by simp at e;subst e;exact⟨_,rfl,r⟩
 | _,_,i+1,x,.cons _ t,e=>by
   obtain⟨u,h1,h2⟩:=aC.get (i:=i) (x:=x) t (by simpa using e);exact⟨u,by simpa using h1,h2⟩
theorem aC.append:∀{xs ys:List V} {us ws:List Value},aC xs us->aC ys ws->aC (xs++ys) (us++ws)
 | _,_,_,_,.nil,s=>s
 | _,_,_,_,.cons r t,s=> .cons r (aC.append t s)
theorem aC.take:∀{xs:List V} {us:List Value} (n:Nat),aC xs us->aC (xs.take n) (us.take n)
 | _,_,0,_=> .nil
 | _,_,_+1,.nil=> .nil
 | _,_,n+1,.cons r t=> .cons r (aC.take n t)
theorem aC.drop:∀{xs:List V} {us:List Value} (n:Nat),aC xs us->aC (xs.drop n) (us.drop n)
 | _,_,0,r=>r
 | _,_,_+1,.nil=> .nil
 | _,_,n+1,.cons _ t=>aC.drop n t
def eR:Option V->Option Value->Prop
 | some v,some u=>aA v u
 | none,none=>True
 | _,_=>False
noncomputable def KV{κ:Type}:List (κ×V)->List (κ×Value)->Prop:=Paired fun(p:κ×V) (q:κ×Value)=>p.1=q.1/\aA p.2 q.2
noncomputable def kV:Key->V
 | .inl i=> .int i
 | .inr x=> .str x
inductive HO where
 | lst (xs:List V)
 | tup (xs:List V)
 | dK (kvs:List (Key×V))|dT (kvs:List (List Key×V))
 | set (S:Int->Bool) (n:Nat)
 | ins (C dx:Addr) (fs:List (Str×V))
 | own (x:Addr)
 | xd (fs:List (Str×V))
 | met (f x:Addr)
 | rng (lo hi:Int)
 | frz (o:Obj) (u:HO)
 | tbl (ps:Array Value)
 | ext (φ:Heap->Prop)
noncomputable abbrev Hp:=Addr->Option HO
noncomputable def upd(H:Hp)(a:Addr)(o:HO):Hp:=fun b=>if b=a then some o else H b
theorem aa{H:Hp}{a:Addr}{o:HO}:upd H a o a=some o:=by unfold upd;rw[if_pos rfl]
theorem ai{H:Hp}{a b:Addr}{o:HO}(h:b≠a):upd H a o b=H b:=by unfold upd;rw[if_neg h]
theorem A9{H:Hp}{a b:Addr}{o u:HO}(h:H a=some o)(h':H b=some u)(d:o≠u):a≠b:=by
 intro e;subst e;rw[h]at h';exact d (Za h')
theorem ap{H:Hp}{a b:Addr}{o:HO}(h:H a=some o)(h':H b=none):a≠b:=by
 intro e;subst e;rw[h]at h';cases h'
section
variable(P:Program)(w:World)
def br(H:Hp)(h:Heap)(a:Addr):HO->Prop
 | .lst xs=>xs.length<=sizeLine/\∃(its:List Value) (n:Nat),aC xs its/\h.get? a=some {cls:= .type "list",data:= .seq its.toArray n}
 | .tup xs=>xs.length<=sizeLine/\∃its:List Value,aC xs its/\IsTup h a its.toArray
 | .dK kvs=>kvs.length<=sizeLine/\(a==sysModules)=false/\∃vs,KV kvs vs/\h.DictOf (aB P w) a vs
 | .dT kvs=>kvs.length<=sizeLine/\(a==sysModules)=false/\∃xs:List (List Key×Addr×Value),
  Paired (fun(p:List Key×V) (q:List Key×Addr×Value)=>p.1=q.1/\H q.2.1=some (.tup (p.1.map kV))/\aA p.2 q.2.2) kvs xs/\
  ∃o es ep,h.get? a=some o/\o.ExactDict/\o.data= .dict es ep/\es.toList=xs.map (entryOfKey (tupleKind (aB P w)))/\(xs.map (·.1)).Nodup
 | .set S n=>h.SetOf (intKind P w) a S n
 | .ins C dx fs=>H dx=some (.own a)/\fs.length<=1000/\dx≠a/\h.get? a=some (instObj C dx)/\
  ∃mA,h.Ns1 dx mA/\(∀f,eR (fs.lookup f) (mA f))/\PySem.Within mA (fs.map (·.1))
 | .own _=>∃o,h.get? a=some o
 | .xd fs=>∃mA,h.Ns1 a mA/\∀f,eR (fs.lookup f) (mA f)
 | .rng lo hi=>∃t u v,h.get? a=some {cls:= .type "range",data:= .fields #[.int lo t,.int hi u,.int 1 v]}
 | .frz o u=>h.get? a=some o/\br H h a u
 | .tbl ps=>h.get? a=some {cls:= .none,data:= .fields ps}
 | .met f x=>h.get? a=some (methodObj (.ref f) (.ref x))
 | .ext φ=>φ h/\(∃o,h.get? a=some o)/\∀h1 h2:Heap,φ h1->(∀o,h1.get? a=some o->h2.get? a=some o)->φ h2
def HOk(H:Hp)(h:Heap):Prop:=∀a o,H a=some o->br P w H h a o
end
section
variable{P:Program}{w:World}{H H':Hp}{h h':Heap}{a:Addr}{o:HO}
theorem br.lt(x:br P w H h a o):a<h.objs.size:=by
 cases o with
 | lst xs=>obtain⟨_,_,_,_,e⟩:=x;exact Zv e
 | tup xs=>obtain⟨_,_,_,p⟩:=x;exact p.lt
 | dK kvs=>obtain⟨_,_,_,_,o,_,_,e,_⟩:=x;exact Zv e
 | dT kvs=>obtain⟨_,_,_,_,o,_,_,e,_⟩:=x;exact Zv e
 | set S n=>obtain⟨o,_,_,_,e,_⟩:=x;exact Zv e
 | ins C dx fs=>obtain⟨_,_,_,e,_⟩:=x;exact Zv e
 | own y=>obtain⟨_,e⟩:=x;exact Zv e
 | xd fs=>obtain⟨_,⟨_,_,_,e,_⟩,_⟩:=x;exact Zv e
 | rng lo hi=>obtain⟨_,_,_,e⟩:=x;exact Zv e
 | frz ob u=>obtain⟨e,_⟩:=x;exact Zv e
 | tbl ps=>exact Zv (show h.get? a=some _ from x)
 | met f y=>exact Zv (show h.get? a=some _ from x)
 | ext φ=>obtain⟨_,⟨_,e⟩,_⟩:=x;exact Zv e
theorem Paired.mapP{α β:Type}{F G:α->β->Prop}:∀{l₁:List α} {l₂:List β},Paired F l₁ l₂->(∀a b,F a b->G a b)->Paired G l₁ l₂
 | _,_,.nil,_=> .nil
 | _,_,.cons r t,f=> .cons (f _ _ r) (Paired.mapP t f)
theorem br.stay(x:br P w H h a o)(k:∀b u,(b=a\/H b=some (.own a))->h.get? b=some u->h'.get? b=some u)
 (ho:∀b,H b=some (.own a)->H' b=some (.own a)) (ht:∀b xs,H b=some (.tup xs)->H' b=some (.tup xs)):br P w H' h' a o:=by
 induction o with
 | lst xs=>obtain⟨z,its,n,r,e⟩:=x;exact⟨z,its,n,r,k _ _ (.inl rfl) e⟩
 | tup xs=>obtain⟨z,its,r,ob,e,c⟩:=x;exact⟨z,its,r,ob,k _ _ (.inl rfl) e,c⟩
 | dK kvs=>obtain⟨z,y,vs,r,ob,es,ep,e,c⟩:=x;exact⟨z,y,vs,r,ob,es,ep,k _ _ (.inl rfl) e,c⟩
 | dT kvs=>
   obtain⟨z,y,xs,r,ob,es,ep,e,c⟩:=x;exact⟨z,y,xs,Paired.mapP r fun p q z=>⟨z.1,ht _ _ z.2.1,z.2.2⟩,ob,es,ep,k _ _ (.inl rfl) e,c⟩
 | set S n=>obtain⟨ob,es,ep,t,e,c⟩:=x;exact⟨ob,es,ep,t,k _ _ (.inl rfl) e,c⟩
 | ins C dx fs=>
   obtain⟨d,z,ne,e,mA,⟨od,es,ep,e2,c⟩,r⟩:=x;exact⟨ho _ d,z,ne,k _ _ (.inl rfl) e,mA,⟨od,es,ep,k _ _ (.inr d) e2,c⟩,r⟩
 | own y=>obtain⟨ob,e⟩:=x;exact⟨ob,k _ _ (.inl rfl) e⟩
 | xd fs=>obtain⟨mA,⟨od,es,ep,e,c⟩,r⟩:=x;exact⟨mA,⟨od,es,ep,k _ _ (.inl rfl) e,c⟩,r⟩
 | rng lo hi=>obtain⟨t,u,v,e⟩:=x;exact⟨t,u,v,k _ _ (.inl rfl) e⟩
 | frz ob u ih=>obtain⟨e,q⟩:=x;exact⟨k _ _ (.inl rfl) e,ih q⟩
 | tbl ps=>
   have e:h.get? a=some {cls:= .none,data:= .fields ps}:=x;show h'.get? a=some {cls:= .none,data:= .fields ps};exact k a _ (.inl rfl) e
 | met f y=>
   have e:h.get? a=some (methodObj (.ref f) (.ref y)):=x;show h'.get? a=some (methodObj (.ref f) (.ref y));exact k a _ (.inl rfl) e
 | ext φ=>obtain⟨p,⟨o,e⟩,st⟩:=x;exact⟨st _ _ p fun o q=>k _ _ (.inl rfl) q,⟨o,k _ _ (.inl rfl) e⟩,st⟩
theorem HOk.lt(x:HOk P w H h)(e:H a=some o):a<h.objs.size:=(x a o e).lt
theorem HOk.fresh(x:HOk P w H h)(e:h.objs.size<=a):H a=none:=by
 cases q:H a with
 | none=>rfl
 | some u=>exact absurd (Zg (x.lt q) e) (Xc _)
theorem HOk.kept(x:HOk P w H h)(k:∀b u,h.get? b=some u->h'.get? b=some u):HOk P w H h':=fun a o e=>
 (x a o e).stay (fun b u _ q=>k b u q) (fun _ q=>q) fun _ _ q=>q
theorem HOk.laid(x:HOk P w H h)(k:∀b u,h.get? b=some u->h'.get? b=some u)(hp:h.objs.size<=a)(new:br P w (upd H a o) h' a o):HOk P w (upd H a o) h':=fun b u e=>by
 have hn:=x.fresh hp;by_cases hb:b=a
 ·subst hb;rw[aa]at e;cases e;exact new
 ·rw[ai hb]at e;exact(x b u e).stay (fun c v _ q=>k c v q) (fun c q=>by rw[ai (ap q hn)];exact q) fun c xs q=>by rw[ai (ap q hn)];exact q
end
def Rd(H:Hp)(a:Addr)(u:HO):Prop:=H a=some u\/∃o,H a=some (.frz o u)
theorem Rd.ok{P:Program}{w:World}{H:Hp}{h:Heap}{a:Addr}{u:HO}(r:Rd H a u)(x:HOk P w H h):br P w H h a u:=by
 rcases r with r|⟨o,r⟩
 ·exact x a u r
 ·obtain⟨_,q⟩:=x a _ r;exact q
def Mut:Option HO->Prop
 | some (.lst _)=>True
 | some (.dK _)=>True
 | some (.dT _)=>True
 | some (.set _ _)=>True
 | some (.ins _ _ _)=>True
 | some (.ext _)=>True
 | _=>False
section
variable{P:Program}{w:World}{H:Hp}{h h':Heap}{x e:Addr}{o':HO}
theorem HOk.write(ok:HOk P w H h)(mu:Mut (H x))(he:e=x\/H e=some (.own x))(k:∀b u,b≠e->h.get? b=some u->h'.get? b=some u)(heo:∃u,h'.get? e=some u)
 (new:br P w (upd H x o') h' x o'):HOk P w (upd H x o') h':=fun b u q=>by
 have nown:∀c y,H c=some (.own y)->c≠x:=fun c y r z=>by subst z;rw[r]at mu;exact mu
 have ntup:∀c xs,H c=some (.tup xs)->c≠x:=fun c xs r z=>by subst z;rw[r]at mu;exact mu
 by_cases hb:b=x
 ·subst hb;rw[aa]at q;cases q;exact new
 ·rw[ai hb]at q;by_cases hbe:b=e
  ·have q':H b=some (.own x):=by
    rcases he with z|z
    ·exact absurd (hbe.trans z) hb
    ·rw[hbe];exact z
   rw[q]at q';cases q';obtain⟨v,hv⟩:=heo;exact⟨v,by rw[hbe];exact hv⟩
  ·refine(ok b u q).stay (fun c v hc r=>k c v ?_ r) (fun c r=>by rw[ai (nown c b r)];exact r) fun c xs r=>by rw[ai (ntup c xs r)];exact r
   rcases hc with rfl|hc
   ·exact hbe
   ·rintro rfl;rcases he with z|z
    ·exact nown c b hc z
    ·rw[hc]at z;cases z;exact hb rfl
end
structure Un (fs ex:List Addr) (H H':Hp) (h h':Heap):Prop where
 keep:∀b o,h.get? b=some o->H b=none->b∉fs->b∉ex->h'.get? b=some o
 slot:∀b o,h.get? b=some o->H b=none->b∈fs->b∉ex->∃sl,h'.get? b=some {o with slots:=sl}
 free:∀b o,h.get? b=some o->H b=none->b∉ex->H' b=none
 there:∀b o,h.get? b=some o->b∉ex->∃o',h'.get? b=some o'
 tups:∀b xs,H b=some (.tup xs)->H' b=some (.tup xs)
 frzs:∀b o u,H b=some (.frz o u)->H' b=some (.frz o u)
 tbls:∀b ps,H b=some (.tbl ps)->∃more,H' b=some (.tbl (ps++more))
section
variable{fs fs' ex ex':List Addr}{H H1 H2:Hp}{h h1 h2 h':Heap}{a x e:Addr}{o:HO}
theorem Un.any(u:Un fs ex H H1 h h1){b:Addr}{ob:Obj}(q:h.get? b=some ob)(n:H b=none)(hx:b∉ex):∃sl,h1.get? b=some {ob with slots:=sl}:=by
 by_cases hb:b∈fs
 ·exact u.slot b ob q n hb hx
 ·exact⟨ob.slots,u.keep b ob q n hb hx⟩
theorem Un.trans(a:Un fs ex H H1 h h1)(b:Un fs ex H1 H2 h1 h2):Un fs ex H H2 h h2 where
 keep:=fun c ob q n hc hx=>b.keep c ob (a.keep c ob q n hc hx) (a.free c ob q n hx) hc hx
 slot:=fun c ob q n hc hx=>by
  obtain⟨sl,e1⟩:=a.slot c ob q n hc hx;obtain⟨sl',e2⟩:=b.slot c _ e1 (a.free c ob q n hx) hc hx;exact⟨sl',e2⟩
 free:=fun c ob q n hx=>by
  obtain⟨o',e1⟩:=a.there c ob q hx;exact b.free c o' e1 (a.free c ob q n hx) hx
 there:=fun c ob q hx=>by
  obtain⟨o',e1⟩:=a.there c ob q hx;exact b.there c o' e1 hx
 tups:=fun c xs q=>b.tups c xs (a.tups c xs q)
 frzs:=fun c ob xs q=>b.frzs c ob xs (a.frzs c ob xs q)
 tbls:=fun c ps q=>by
  obtain⟨m1,e1⟩:=a.tbls c ps q;obtain⟨m2,e2⟩:=b.tbls c _ e1;exact⟨m1++m2,by rw[e2,Array.append_assoc]⟩
theorem Un.kept(k:∀b u,h.get? b=some u->h'.get? b=some u):Un fs ex H H h h':=
 ⟨fun b ob q _ _ _=>k b ob q,fun b ob q _ _ _=>⟨ob.slots,k b ob q⟩,fun _ _ _ n _=>n,fun b ob q _=>⟨ob,k b ob q⟩,fun _ _ q=>q,fun _ _ _ q=>q,fun _ ps q=>⟨#[],by rw[q];simp⟩⟩
theorem Un.refl:Un fs ex H H h h:=Un.kept fun _ _ q=>q
theorem Un.laid(k:∀b u,h.get? b=some u->h'.get? b=some u)(hp:h.objs.size<=a)(hn:H a=none):Un fs ex H (upd H a o) h h' where
 keep:=fun b u q _ _ _=>k b u q
 slot:=fun b u q _ _ _=>⟨u.slots,k b u q⟩
 free:=fun b u q n _=>by rw[ai (Zt (Zg (Zv q) hp))];exact n
 there:=fun b u q _=>⟨u,k b u q⟩
 tups:=fun b xs q=>by rw[ai (ap q hn)];exact q
 frzs:=fun b u xs q=>by rw[ai (ap q hn)];exact q
 tbls:=fun b ps q=>⟨#[],by rw[ai (ap q hn),q];simp⟩
theorem Un.write(mu:Mut (H x))(he:e=x\/H e=some (.own x))(k:∀b u,b≠e->h.get? b=some u->h'.get? b=some u)(heo:∃u,h'.get? e=some u):Un fs ex H (upd H x o) h h':=by
 have hx:∀b,H b=none->b≠x:=fun b n z=>by subst z;rw[n]at mu;exact mu
 have hb:∀b,H b=none->b≠e:=fun b n z=>by
  subst z;rcases he with r|r
  ·exact hx b n r
  ·rw[n]at r;cases r
 have hm:∀b u,H b=some u-> ¬ Mut (some u)->b≠x:=fun b u q nm z=>by subst z;rw[q]at mu;exact nm mu
 refine⟨fun b u q n _ _=>k b u (hb b n) q,fun b u q n _ _=>⟨u.slots,k b u (hb b n) q⟩,fun b u q n _=>by rw[ai (hx b n)];exact n,fun b u q _=>?_,
  fun b xs q=>by rw[ai (hm b _ q fun z=>z)];exact q,fun b u xs q=>by rw[ai (hm b _ q fun z=>z)];exact q,fun b ps q=>⟨#[],by rw[ai (hm b _ q fun z=>z),q];simp⟩⟩
 by_cases hbe:b=e
 ·subst hbe;exact heo
 ·exact⟨u,k b u hbe q⟩
end
noncomputable def trk(h:Heap)(H:Hp):List Addr:=(List.range h.objs.size).filter fun a=>(H a).isSome
noncomputable def mH(h:Heap)(H:Hp):Heap:=PySem.W.hideAll h (trk h H)
theorem sR(h:Heap)(H:Hp):(mH h H).objs.size=h.objs.size:=PySem.W.hideAll_size _ _
theorem uO{h:Heap}{H:Hp}{b:Addr}{o:Obj}(e:h.get? b=some o)(n:H b=none):(mH h H).get? b=some o:=
 PySem.W.hideAll_get _ e fun hm=>by
  have q:(H b).isSome=true:=(List.mem_filter.mp hm).2;rw[n]at q;simp at q
theorem xu{h:Heap}{H:Hp}{b:Addr}{o:Obj}(e:(mH h H).get? b=some o):h.get? b=some o/\H b=none:=by
 have e':h.get? b=some o:=PySem.W.of_hideAll (trk h H) e;refine⟨e',?_⟩;cases q:H b with
 | none=>rfl
 | some x=>
   have hm:b∈trk h H:=List.mem_filter.mpr ⟨mem_range.mpr (Zv e'),by simp[q]⟩;have z:(mH h H).get? b=none:=PySem.W.hideAll_none (trk h H) hm;rw[z]at e;cases e
noncomputable def xv(g h:Heap)(L:Addr):List (Addr×Obj):=(List.range h.objs.size).filterMap fun a=>if a=L\/(g.get? a).isSome=true then none else(h.get? a).map fun o=>(a,o)
noncomputable def rest(g h:Heap)(L d:Addr):List (Addr×Obj):=(xv g h L).filter fun p=>decide (p.1≠d)
structure Mod (K:PySem.W.Frag) (mg:Str->Option Value) (base:Heap):Prop where
 kin:K.In base
 glob:base.Ns mainGlobals mg
 blt:∃mb,base.Ns builtinsNs mb/\∀x:Str,x≠"__name__"->mb x=bootBuiltins x
 nolimit:base.NoLimit
structure Cx where
 prog:Program
 w:World
 K:PySem.W.Frag
 mg:Str->Option Value
 base:Heap
 A:Around
 N:List Str
 s₀:Shared
 H₀:Hp
 env:Env
 outer:List Env
 stack:List Env
 ex:List Addr
 fn:Str->Bool
 calm:Bool
 pn:List (Addr×Obj)
 xe:Value->Shared->Prop
noncomputable def frs(l:List Env):List Addr:=l.filterMap (·.frame)
noncomputable abbrev Cx.fs(X:Cx):List Addr:=frs X.outer
def Vis(sc:Scope)(x:Str):Prop:=sc.names.lookup x=some .local\/sc.names.lookup x=some .cell\/sc.names.lookup x=some .free
def Loc(sc:Scope)(x:Str):Prop:=sc.names.lookup x=some .local\/sc.names.lookup x=some .cell
def Look(env:Env)(h:Heap)(m:Str->Option Value)(x:Str)(u:Value):Prop:=
 (env.kindOf x=some .local/\m x=some u)\/((env.kindOf x=some .cell\/env.kindOf x=some .free)/\∃c,env.cells.lookup x=some c/\h.IsCell c (some u))
structure Cx.Ok (X:Cx):Prop where
 mod:Mod X.K X.mg X.base
 kind:X.env.scope.kind= .function
 glob:X.env.globals=mainGlobals
 blt:X.env.builtins=builtinsNs
 above:X.s₀.heap.objs.size<=X.env.locals
 inj:∀x y c,X.env.cells.lookup x=some c->X.env.cells.lookup y=some c->x=y
 has:∀x,(X.env.kindOf x=some .cell\/X.env.kindOf x=some .free)->∃c,X.env.cells.lookup x=some c
 cab:∀x c,X.fn x=true->X.env.cells.lookup x=some c->X.s₀.heap.objs.size<=c
 hd:X.calm=true->X.A.handled=none
 frames:X.A.frames=some X.stack
 stk:X.stack=X.outer\/(X.stack=X.env::X.outer/\X.env.frame=some X.env.locals)
 exf:∀b∈X.ex,b≠X.env.locals/\∀x c,X.env.cells.lookup x=some c->c≠b
 bs:∀b o,X.base.get? b=some o->X.s₀.heap.get? b=some o/\X.H₀ b=none
 bsz:X.base.objs.size<=X.s₀.heap.objs.size
 noex:∀b o,X.base.get? b=some o->b∉X.ex
 exfs:∀b∈X.ex,b∉X.fs
 funs:X.s₀.heap.FunFrames X.base X.outer
 frf:∀b∈X.fs,X.H₀ b=none
structure Inv (X:Cx) (pins:List (Addr×Obj)) (σ:List (Option V)) (H:Hp) (s:Shared):Prop where
 ok:X.Ok
 os:s.os=X.s₀.os
 bare:AllBare s.gens
 base:Un X.fs X.ex X.H₀ H X.s₀.heap s.heap
 loc:∃m,s.heap.Ns X.env.locals m/\∀(i:Nat) (x:Str) (v:V),X.N[i]? =some x->σ[i]? =some (some v)->Vis X.env.scope x->∃u,aA v u/\Look X.env s.heap m x u
 cell:∀x c,X.env.cells.lookup x=some c->∃v,s.heap.IsCell c v
 free:H X.env.locals=none
 freeC:∀x c,X.env.cells.lookup x=some c->H c=none
 pin:∀p∈X.pn++pins,s.heap.get? p.1=some p.2/\H p.1=none/\p.1≠X.env.locals/\p.1∉X.fs/\∀v,p.2.data≠ .cell v
 hok:HOk X.prog X.w H s.heap
 len:σ.length=X.N.length
section
variable{X:Cx}{pins:List (Addr×Obj)}{σ:List (Option V)}{H H':Hp}{s:Shared}{h':Heap}
theorem Cx.Ok.nofr(ok:X.Ok){b:Addr}{o:Obj}(e:X.base.get? b=some o):b∉X.fs:=fun hb=>by
 have:=(ok.funs.mem hb).1;rw[e]at this;cases this
theorem Inv.bs(I:Inv X pins σ H s):∀b o,X.base.get? b=some o->s.heap.get? b=some o/\H b=none:=fun b o e=>
 ⟨I.base.keep b o (I.ok.bs b o e).1 (I.ok.bs b o e).2 (I.ok.nofr e) (I.ok.noex b o e),I.base.free b o (I.ok.bs b o e).1 (I.ok.bs b o e).2 (I.ok.noex b o e)⟩
theorem Inv.bk(I:Inv X pins σ H s):∀b o,X.base.get? b=some o->s.heap.get? b=some o:=fun b o e=>(I.bs b o e).1
theorem Inv.mod(I:Inv X pins σ H s):Mod X.K X.mg X.base:=I.ok.mod
theorem Inv.kIn(I:Inv X pins σ H s):X.K.In s.heap:=I.ok.mod.kin.keeps I.bk
theorem Inv.lt(I:Inv X pins σ H s):X.env.locals<s.heap.objs.size:=let⟨_,hn,_⟩:=I.loc;hn.lt
theorem Inv.sz(I:Inv X pins σ H s):X.s₀.heap.objs.size<=s.heap.objs.size:=Yd I.ok.above (Yb I.lt)
theorem Inv.nofs(I:Inv X pins σ H s){a:Addr}(h:s.heap.objs.size<=a):a∉X.fs:=fun hb=>by
 obtain⟨_,o,ho,_⟩:=I.ok.funs.mem hb;exact absurd (Zg (Zv ho) (Yd I.sz h)) (Xc _)
theorem Inv.cne(I:Inv X pins σ H s):∀x c,X.env.cells.lookup x=some c->c≠X.env.locals:=fun x c e z=>by
 obtain⟨v,o,ho,hd⟩:=I.cell x c e;obtain⟨m,⟨o',es,ep,ho',hd',_⟩,_⟩:=I.loc;rw[z,ho']at ho;cases ho;rw[hd']at hd;cases hd
theorem Inv.funs(I:Inv X pins σ H s):s.heap.FunFrames X.base X.outer:=by
 have all:∀(l:List Env),(∀b∈frs l,b∈X.fs)->X.s₀.heap.FunFrames X.base l->s.heap.FunFrames X.base l:=by
  intro l
  induction l with
  | nil=>intro _ _;trivial
  | cons env r ih=>
    intro hs hl;obtain⟨hk,⟨L,o,hf,hn,ho,hd⟩,hr⟩:=hl;have hL:L∈X.fs:=hs L (by unfold frs;rw[Y2,hf];exact Zm);obtain⟨sl,e⟩:=I.base.slot L o ho (I.ok.frf L hL) hL fun z=>I.ok.exfs L z hL
    exact⟨hk,⟨L,_,hf,hn,e,hd⟩,ih (fun b hb=>hs b (by unfold frs;rw[Y2,hf];exact Zk _ hb)) hr⟩
 exact all X.outer (fun _ hb=>hb) I.ok.funs
theorem Inv.stack(I:Inv X pins σ H s):s.heap.FunFrames X.base X.stack:=by
 rcases I.ok.stk with e|⟨e,hf⟩
 ·rw[e];exact I.funs
 ·rw[e];obtain⟨m,hn,_⟩:=I.loc;refine .cons (by rw[I.ok.kind];decide) hf hn ?_ I.funs;exact Heap.get?_none_of_le (Yd I.ok.bsz I.ok.above)
theorem Inv.stkSub(I:Inv X pins σ H s):∀b∈frs X.stack,b∈X.env.locals::X.fs:=fun b hb=>by
 rcases I.ok.stk with e|⟨e,hf⟩
 ·rw[e]at hb;exact Zk _ hb
 ·rw[e]at hb;unfold frs at hb;rw[Y2,hf]at hb;exact hb
theorem Inv.stkFree(I:Inv X pins σ H s):∀b∈frs X.stack,H b=none:=fun b hb=>by
 rcases mem_cons.mp (I.stkSub b hb)with e|hb
 ·rw[e];exact I.free
 ·obtain⟨_,o,ho,_⟩:=I.ok.funs.mem hb;exact I.base.free b o ho (I.ok.frf b hb) fun z=>I.ok.exfs b z hb
theorem Inv.step{g':Array GenState}{t':Nat}{d':Drawn}{ch:List Addr}(I:Inv X pins σ H s)
 (hch:∀b∈ch,(b∈X.ex\/X.s₀.heap.objs.size<=b)/\b≠X.env.locals/\(∀x c,X.env.cells.lookup x=some c->c≠b)/\∀p∈X.pn++pins,p.1≠b)
 (keep:∀b o,b≠X.env.locals->b∉X.fs->b∉ch->s.heap.get? b=some o->H b=none->h'.get? b=some o)
 (slot:∀b o,b≠X.env.locals->b∈X.fs->b∉ch->s.heap.get? b=some o->H b=none->∃sl,h'.get? b=some {o with slots:=sl}) (free:∀b o,b∉ch->s.heap.get? b=some o->H b=none->H' b=none)
 (there:∀b o,b∉ch->s.heap.get? b=some o->∃o',h'.get? b=some o')
 (tups:∀b xs,H b=some (.tup xs)->H' b=some (.tup xs)) (frzs:∀b o u,H b=some (.frz o u)->H' b=some (.frz o u)) (tbls:∀b ps,H b=some (.tbl ps)->∃more,H' b=some (.tbl (ps++more)))
 (ns:∀m,s.heap.Ns X.env.locals m->h'.Ns X.env.locals m) (hok:HOk X.prog X.w H' h') (hg:AllBare g'):
 Inv X pins σ H' {s with heap:=h',gens:=g',drawn:=d',toks:=t'}:=by
 have neL:∀b o,X.s₀.heap.get? b=some o->b≠X.env.locals:=fun b o e=>Zt (Zg (Zv e) I.ok.above)
 have neC:∀b o,X.s₀.heap.get? b=some o->b∉X.ex->b∉ch:=fun b o e hx hb=>by
  rcases(hch b hb).1 with z|z
  ·exact hx z
  ·exact absurd (Zg (Zv e) z) (Xc _)
 have cellK:∀x c,X.env.cells.lookup x=some c->∀v,s.heap.IsCell c v->h'.IsCell c v:=fun x c e v ⟨o,ho,hd⟩=>by
  have nch:c∉ch:=fun z=>(hch c z).2.2.1 x c e rfl
  by_cases hc:c∈X.fs
  ·obtain⟨sl,q⟩:=slot c o (I.cne x c e) hc nch ho (I.freeC x c e);exact⟨_,q,hd⟩
  ·exact⟨o,keep c o (I.cne x c e) hc nch ho (I.freeC x c e),hd⟩
 refine⟨I.ok,I.os,hg,⟨fun b o e n hb hx=>?_,fun b o e n hb hx=>?_,fun b o e n hx=>?_,fun b o e hx=>?_,fun b xs e=>tups b xs (I.base.tups b xs e),fun b o xs e=>frzs b o xs (I.base.frzs b o xs e),fun b ps e=>?_⟩,?_,fun x c e=>?_,?_,fun x c e=>?_,fun p hp=>?_,hok,I.len⟩
 ·exact keep b o (neL b o e) hb (neC b o e hx) (I.base.keep b o e n hb hx) (I.base.free b o e n hx)
 ·obtain⟨sl,e1⟩:=I.base.slot b o e n hb hx;obtain⟨sl',e2⟩:=slot b _ (neL b o e) hb (neC b o e hx) e1 (I.base.free b o e n hx);exact⟨sl',e2⟩
 ·obtain⟨o',e1⟩:=I.base.there b o e hx;exact free b o' (neC b o e hx) e1 (I.base.free b o e n hx)
 ·obtain⟨o',e1⟩:=I.base.there b o e hx;exact there b o' (neC b o e hx) e1
 ·obtain⟨m1,e1⟩:=I.base.tbls b ps e;obtain⟨m2,e2⟩:=tbls b _ e1;exact⟨m1++m2,by rw[e2,Array.append_assoc]⟩
 ·obtain⟨m,hn,hl⟩:=I.loc;refine⟨m,ns m hn,fun i x v e1 e2 e3=>?_⟩;obtain⟨u,r,l⟩:=hl i x v e1 e2 e3;refine⟨u,r,?_⟩;rcases l with l|⟨k,c,e,z⟩
  ·exact .inl l
  ·exact .inr ⟨k,c,e,cellK x c e _ z⟩
 ·obtain⟨v,z⟩:=I.cell x c e;exact⟨v,cellK x c e v z⟩
 ·obtain⟨m,⟨o,_,_,ho,_⟩,_⟩:=I.loc;exact free _ o (fun z=>(hch _ z).2.1 rfl) ho I.free
 ·obtain⟨v,o,ho,hd⟩:=I.cell x c e;exact free c o (fun z=>(hch c z).2.2.1 x c e rfl) ho (I.freeC x c e)
 ·obtain⟨e,n,ne,nf,d⟩:=I.pin p hp;have nch:p.1∉ch:=fun z=>(hch p.1 z).2.2.2 p hp rfl
  exact⟨keep p.1 p.2 ne nf nch e n,free p.1 p.2 nch e n,ne,nf,d⟩
theorem Inv.un{t':Nat}(I:Inv X pins σ H s)(u:Un X.fs [] H H' s.heap h')(hok:HOk X.prog X.w H' h'):Inv X pins σ H' {s with heap:=h',toks:=t'}:=by
 obtain⟨m,⟨o,es,ep,ho,r⟩,_⟩:=id I.loc;obtain⟨sl,hL⟩:=u.any ho I.free (by simp);exact I.step (g':=s.gens) (d':=s.drawn) (ch:=[]) (fun _ z=>nomatch z) (fun b o _ hb _ e n=>u.keep b o e n hb (by simp)) (fun b o _ hb _ e n=>u.slot b o e n hb (by simp)) (fun b o _ e n=>u.free b o e n (by simp)) (fun b o _ e=>u.there b o e (by simp)) u.tups u.frzs u.tbls (fun m' hm=>by
  obtain⟨o',es',ep',ho',r'⟩:=hm;rw[ho]at ho';cases ho';exact⟨_,es',ep',hL,r'⟩) hok I.bare
theorem Inv.call{g':Array GenState}{t':Nat}{d':Drawn}{ch:List Addr}(I:Inv X pins σ H s)(u:Un (frs X.stack) ch H H' s.heap h')(hok:HOk X.prog X.w H' h')(hg:AllBare g')
 (hch:∀b∈ch,(b∈X.ex\/X.s₀.heap.objs.size<=b)/\b≠X.env.locals/\(∀x c,X.env.cells.lookup x=some c->c≠b)/\∀p∈X.pn++pins,p.1≠b):
 Inv X pins σ H' {s with heap:=h',gens:=g',drawn:=d',toks:=t'}:=by
 obtain⟨m,⟨o,es,ep,ho,r⟩,_⟩:=id I.loc;obtain⟨sl,hL⟩:=u.any ho I.free fun z=>(hch _ z).2.1 rfl
 exact I.step (ch:=ch) hch (fun b o hL hb hc e n=>u.keep b o e n (fun z=>(mem_cons.mp (I.stkSub b z)).elim hL hb) hc) (fun b o _ _ hc e n=>u.any e n hc) (fun b o hc e n=>u.free b o e n hc) (fun b o hc e=>u.there b o e hc) u.tups u.frzs u.tbls (fun m' hm=>by
  obtain⟨o',es',ep',ho',r'⟩:=hm;rw[ho]at ho';cases ho';exact⟨_,es',ep',hL,r'⟩) hok hg
theorem Inv.turned{t':Nat}{it:Addr}(I:Inv X pins σ H s)(k:∀b o,b≠it->s.heap.get? b=some o->h'.get? b=some o)(hn:H it=none)(hL:it≠X.env.locals)
 (h1:it∈X.ex\/X.s₀.heap.objs.size<=it) (h2:∀x c,X.env.cells.lookup x=some c->c≠it) (h3:∀p∈X.pn++pins,p.1≠it):Inv X pins σ H {s with heap:=h',toks:=t'}:=by
 have nit:∀b u,H b=some u->b≠it:=fun b u e z=>by rw[z,hn]at e;cases e
 refine I.step (g':=s.gens) (d':=s.drawn) (ch:=[it]) (fun b hb=>?_) (fun b o _ _ hc e _=>k b o (fun z=>hc (by simp[z])) e) (fun b o _ _ hc e _=>⟨o.slots,k b o (fun z=>hc (by simp[z])) e⟩) (fun _ _ _ _ n=>n)
  (fun b o hc e=>⟨o,k b o (fun z=>hc (by simp[z])) e⟩) (fun _ _ e=>e) (fun _ _ _ e=>e) (fun b ps e=>⟨#[],by rw[e];simp⟩) (fun m hm=>?_) (fun b u e=>?_) I.bare
 ·have e:b=it:=by simpa using hb
  subst e;exact⟨h1,hL,h2,h3⟩
 ·obtain⟨o,es,ep,ho,r⟩:=hm;exact⟨o,es,ep,k _ o (Ne.symm hL) ho,r⟩
 ·refine(I.hok b u e).stay (fun c v hc q=>k c v ?_ q) (fun _ q=>q) fun _ _ q=>q
  rcases hc with z|z
  ·rw[z];exact nit b u e
  ·exact nit c _ z
theorem Inv.tok(I:Inv X pins σ H s)(t:Nat):Inv X pins σ H {s with toks:=t}:=I.un (h':=s.heap) (t':=t) Un.refl I.hok
theorem Inv.kept{t':Nat}(I:Inv X pins σ H s)(k:∀b u,s.heap.get? b=some u->h'.get? b=some u):Inv X pins σ H {s with heap:=h',toks:=t'}:=I.un (Un.kept k) (I.hok.kept k)
theorem Inv.laid{a:Addr}{o:HO}{t':Nat}(I:Inv X pins σ H s)(k:∀b u,s.heap.get? b=some u->h'.get? b=some u)(hp:s.heap.objs.size<=a)(new:br X.prog X.w (upd H a o) h' a o):
 Inv X pins σ (upd H a o) {s with heap:=h',toks:=t'}:=I.un (Un.laid k hp (I.hok.fresh hp)) (I.hok.laid k hp new)
theorem Inv.write{x e:Addr}{o:HO}{t':Nat}(I:Inv X pins σ H s)(mu:Mut (H x))(he:e=x\/H e=some (.own x))(k:∀b u,b≠e->s.heap.get? b=some u->h'.get? b=some u)(heo:∃u,h'.get? e=some u)
 (new:br X.prog X.w (upd H x o) h' x o):Inv X pins σ (upd H x o) {s with heap:=h',toks:=t'}:=I.un (Un.write mu he k heo) (I.hok.write mu he k heo new)
theorem Inv.pins_of{pins':List (Addr×Obj)}(I:Inv X pins σ H s)(h:∀p∈pins',s.heap.get? p.1=some p.2/\H p.1=none/\p.1≠X.env.locals/\p.1∉X.fs/\∀v,p.2.data≠ .cell v):Inv X pins' σ H s:=
 ⟨I.ok,I.os,I.bare,I.base,I.loc,I.cell,I.free,I.freeC,fun p hp=>(Xg hp).elim (fun z=>I.pin p (Yo _ z)) (h p),I.hok,I.len⟩
theorem j6{N:List Str}(hN:N.Nodup){i j:Nat}{x:Str}(a:N[i]? =some x)(b:N[j]? =some x):i=j:=by
 obtain⟨h1,e1⟩:=Xf a;obtain⟨h2,e2⟩:=Xf b;exact(List.getElem_inj hN).mp (e1.trans e2.symm)
theorem sS{M:Model}{A:Around}{E:Value->Shared->Prop}{i:Nat}{x:Str}{v:V}{u:Value}{Q:Unit->Shared->Prop}(I:Inv X pins σ H s)(hN:X.N.Nodup)(hi:X.N[i]? =some x)(hx:Loc X.env.scope x)(r:aA v u)
 (h:∀s',Inv X pins (σ.set i (some v)) H s'->(∃a,SameBut a s.heap s'.heap/\(a=X.env.locals\/X.env.cells.lookup x=some a))->Q () s') (hf:X.fn x=true\/X.env.scope.names.lookup x=some .local):wpAny M A (storeName X.env x u) Q E s:=by
 obtain⟨m,hn,hl⟩:=id I.loc;have hcls:(X.env.scope.kind== .class||(X.env.scope.kind== .module&&X.env.locals != X.env.globals))=false:=by rw[I.ok.kind];rfl
 have hiσ:i<σ.length:=by rw[I.len];exact(Xf hi).1
 have cne:=I.cne;have tracked:∀{a:Addr} {h':Heap},(∃o,s.heap.get? a=some o/\H a=none)->SameBut a s.heap h'->HOk X.prog X.w H h':=fun{a h'} ha hs b ob e=>by
  obtain⟨_,_,hfree⟩:=ha;refine(I.hok b ob e).stay (fun c w' hc q=>(hs.2 c ?_).trans q) (fun _ q=>q) fun _ _ q=>q
  rintro rfl;rcases hc with rfl|hc
  ·rw[hfree]at e;cases e
  ·rw[hfree]at hc;cases hc
 rcases hx with hk|hk
 ·refine wpAny_storeName_local hk hn (fun h' hn' hs=>?_) hcls;obtain⟨oL,_,_,hoL,_⟩:=id hn;refine h _ ⟨I.ok,I.os,I.bare,⟨fun b o e n hb hx=>?_,fun b o e n hb hx=>?_,I.base.free,fun b o e hx=>?_,I.base.tups,I.base.frzs,I.base.tbls⟩,⟨_,hn',fun j y v' e1 e2 e3=>?_⟩,fun y c e=>?_,I.free,I.freeC,fun p hp=>?_,tracked ⟨oL,hoL,I.free⟩ hs,by simpa using I.len⟩ ⟨_,hs,.inl rfl⟩
  ·exact(hs.2 b (Zt (Zg (Zv e) I.ok.above))).trans (I.base.keep b o e n hb hx)
  ·obtain⟨sl,e1⟩:=I.base.slot b o e n hb hx;exact⟨sl,(hs.2 b (Zt (Zg (Zv e) I.ok.above))).trans e1⟩
  ·obtain⟨o',e1⟩:=I.base.there b o e hx;exact⟨o',(hs.2 b (Zt (Zg (Zv e) I.ok.above))).trans e1⟩
  ·by_cases hj:j=i
   ·subst hj;rw[hi]at e1;cases e1;rw[List.getElem?_set_self hiσ]at e2;cases e2;exact⟨u,r,.inl ⟨hk,by simp⟩⟩
   ·rw[List.getElem?_set_ne (Ne.symm hj)]at e2;obtain⟨u',r',q⟩:=hl j y v' e1 e2 e3;refine⟨u',r',?_⟩;rcases q with⟨k,e⟩|⟨k,c,e,z⟩
    ·refine .inl ⟨k,?_⟩;have:y≠x:=fun e=>hj (j6 hN e1 (e▸hi))
     simp[this,e]
    ·exact .inr ⟨k,c,e,z.sameBut hs (cne y c e)⟩
  ·obtain⟨w',z⟩:=I.cell y c e;exact⟨w',z.sameBut hs (cne y c e)⟩
  ·obtain⟨e,n,ne,nf,d⟩:=I.pin p hp;exact⟨(hs.2 p.1 ne).trans e,n,ne,nf,d⟩
 ·have hfn:X.fn x=true:=by
   rcases hf with z|z
   ·exact z
   ·rw[z]at hk;cases hk
  obtain⟨c,hc⟩:=I.ok.has x (.inl hk);obtain⟨w',z⟩:=I.cell x c hc;refine wpAny_storeName_cell I.ok.kind hk hc z (fun h' hc' hs=>?_);obtain⟨oc,hoc,hocd⟩:=id z;refine h {s with heap:=h'} ⟨I.ok,I.os,I.bare,⟨fun b o e n hb hx=>?_,fun b o e n hb hx=>?_,I.base.free,fun b o e hx=>?_,I.base.tups,I.base.frzs,I.base.tbls⟩,⟨m,hn.sameBut hs (Ne.symm (cne x c hc)),fun j y v' e1 e2 e3=>?_⟩,fun y c' e=>?_,I.free,I.freeC,fun p hp=>?_,tracked ⟨oc,hoc,I.freeC x c hc⟩ hs,by simpa using I.len⟩ ⟨c,hs,.inr hc⟩
  ·exact(hs.2 b (Zt (Zg (Zv e) (I.ok.cab x c hfn hc)))).trans (I.base.keep b o e n hb hx)
  ·obtain⟨sl,e1⟩:=I.base.slot b o e n hb hx;exact⟨sl,(hs.2 b (Zt (Zg (Zv e) (I.ok.cab x c hfn hc)))).trans e1⟩
  ·obtain⟨o',e1⟩:=I.base.there b o e hx;exact⟨o',(hs.2 b (Zt (Zg (Zv e) (I.ok.cab x c hfn hc)))).trans e1⟩
  ·by_cases hj:j=i
   ·subst hj;rw[hi]at e1;cases e1;rw[List.getElem?_set_self hiσ]at e2;cases e2;exact⟨u,r,.inr ⟨.inl hk,c,hc,hc'⟩⟩
   ·rw[List.getElem?_set_ne (Ne.symm hj)]at e2;obtain⟨u',r',q⟩:=hl j y v' e1 e2 e3;refine⟨u',r',?_⟩;rcases q with q|⟨k,c',e,z'⟩
    ·exact .inl q
    ·refine .inr ⟨k,c',e,z'.sameBut hs ?_⟩;rintro rfl;exact hj (j6 hN e1 (I.ok.inj _ _ _ e hc▸hi))
  ·by_cases hcc:c'=c
   ·subst hcc;exact⟨_,hc'⟩
   ·obtain⟨w2,z2⟩:=I.cell y c' e;exact⟨w2,z2.sameBut hs hcc⟩
  ·obtain⟨e,n,ne,nf,d⟩:=I.pin p hp;refine⟨(hs.2 p.1 ?_).trans e,n,ne,nf,d⟩;intro q;rw[q,hoc]at e;have q':oc=p.2:=Za e;exact d w' (by rw[<-q'];exact hocd)
theorem j7{M:Model}{A:Around}{E:Value->Shared->Prop}{i:Nat}{x:Str}{v:V}{u:Value}{Q:Unit->Shared->Prop}(I:Inv X pins σ H s)(hN:X.N.Nodup)(hi:X.N[i]? =some x)(hx:Loc X.env.scope x)(r:aA v u)
 (h:∀s',Inv X pins (σ.set i (some v)) H s'->Q () s') (hf:X.fn x=true\/X.env.scope.names.lookup x=some .local):wpAny M A (storeName X.env x u) Q E s:=
 sS I hN hi hx r (fun s' I' _=>h s' I') hf
theorem Inv.call'{s':Shared}{ch:List Addr}(I:Inv X pins σ H s)(ho:s'.os=s.os)(u:Un (frs X.stack) ch H H' s.heap s'.heap)(hok:HOk X.prog X.w H' s'.heap)(hg:AllBare s'.gens)
 (hch:∀b∈ch,(b∈X.ex\/X.s₀.heap.objs.size<=b)/\b≠X.env.locals/\(∀x c,X.env.cells.lookup x=some c->c≠b)/\∀p∈X.pn++pins,p.1≠b):Inv X pins σ H' s':=by
 obtain⟨h',g',d',t',o'⟩:=s';have e:o'=s.os:=ho;subst e;exact I.call (g':=g') (t':=t') (d':=d') u hok hg hch
end
noncomputable abbrev XK:=Value->Option Addr->Hp->Prop
noncomputable abbrev St:=List (Option V)
noncomputable abbrev VK:=V->Hp->Prop
noncomputable abbrev TE:=St->Hp->VK->Prop
noncomputable abbrev TT:=St->Hp->(Bool->Hp->Prop)->Prop
noncomputable abbrev TA:=St->Hp->(List V->Hp->Prop)->Prop
structure gH where
 nx:St->Hp->Prop
 rt:VK
 bk:St->Hp->Prop:=fun _ _=>False
 ct:St->Hp->Prop:=fun _ _=>False
noncomputable abbrev TS:=gH->St->Hp->Prop
def EP(X:Cx)(pins:List (Addr×Obj))(σ:St)(Q:VK)(u:Value)(s':Shared):Prop:=∃v H',Inv X pins σ H' s'/\aA v u/\Q v H'
def TP(X:Cx)(pins:List (Addr×Obj))(σ:St)(Q:Bool->Hp->Prop)(b:Bool)(s':Shared):Prop:=∃H',Inv X pins σ H' s'/\Q b H'
def AP(X:Cx)(pins:List (Addr×Obj))(σ:St)(Q:List V->Hp->Prop)(us:List Value)(s':Shared):Prop:=∃vs H',Inv X pins σ H' s'/\aC vs us/\Q vs H'
def SP(X:Cx)(pins:List (Addr×Obj))(D:gH)(f:Flow)(s':Shared):Prop:=
 match f with
 | .next=>∃σ' H',Inv X pins σ' H' s'/\D.nx σ' H'
 | .brk=>∃σ' H',Inv X pins σ' H' s'/\D.bk σ' H'
 | .cont=>∃σ' H',Inv X pins σ' H' s'/\D.ct σ' H'
 | .ret u=>∃v σ' H',Inv X pins σ' H' s'/\aA v u/\D.rt v H'
def PE(X:Cx)(e:Expr)(t:TE):Prop:=
 ∀(pins:List (Addr×Obj)) (s:Shared) (σ:St) (H:Hp) (Q:VK),Inv X pins σ H s->t σ H Q->wpAny (model X.prog X.w) X.A (eval e X.env) (EP X pins σ Q) X.xe s
def PT(X:Cx)(e:Expr)(t:TT):Prop:=
 ∀(pins:List (Addr×Obj)) (s:Shared) (σ:St) (H:Hp) (Q:Bool->Hp->Prop),Inv X pins σ H s->t σ H Q->wpAny (model X.prog X.w) X.A (isTrue e X.env (eval e X.env)) (TP X pins σ Q) X.xe s
def PW(X:Cx)(e:Expr)(t:TT):Prop:=
 ∀(whole:Sem Value) (pins:List (Addr×Obj)) (s:Shared) (σ:St) (H:Hp) (Q:Bool->Hp->Prop),Inv X pins σ H s->t σ H Q->wpAny (model X.prog X.w) X.A (isTrue e X.env whole) (TP X pins σ Q) X.xe s
theorem PW.pt{X:Cx}{e:Expr}{t:TT}(h:PW X e t):PT X e t:=h _
def PA(X:Cx)(es:List Expr)(t:TA):Prop:=
 ∀(pos:Pos) (pins:List (Addr×Obj)) (s:Shared) (σ:St) (H:Hp) (Q:List V->Hp->Prop),Inv X pins σ H s->t σ H Q->wpAny (model X.prog X.w) X.A (spliced (backTo pos (starEach es X.env))) (AP X pins σ Q) X.xe s
def PS(X:Cx)(st:Stmt)(t:TS):Prop:=
 ∀(pins:List (Addr×Obj)) (s:Shared) (σ:St) (H:Hp) (D:gH),Inv X pins σ H s->t D σ H->wpAny (model X.prog X.w) X.A (exec st X.env) (SP X pins D) X.xe s
def PSs(X:Cx)(st:List Stmt)(t:TS):Prop:=
 ∀(pins:List (Addr×Obj)) (s:Shared) (σ:St) (H:Hp) (D:gH),Inv X pins σ H s->t D σ H->wpAny (model X.prog X.w) X.A (execs st X.env) (SP X pins D) X.xe s
theorem thn{α:Type}{t:Sem α}{Q Q':α->Shared->Prop}{M:Model}{A:Around}{E:Value->Shared->Prop}{s:Shared}(h:wpAny M A t Q E s)(hQ:∀a s,Q a s->Q' a s):wpAny M A t Q' E s:=wpAny_mono h hQ fun _ _ x=>x
section
variable{X:Cx}
def asI(x:V)(f:Int->Prop):Prop:=match x with| .int i=>f i|_=>False
def asB(x:V)(f:Bool->Prop):Prop:=match x with| .bl i=>f i|_=>False
def asR(x:V)(f:Addr->Prop):Prop:=match x with| .ref i=>f i|_=>False
theorem Ba{i:Int}{f:Int->Prop}:asI (.int i) f=f i:=rfl
theorem Bb{i:Bool}{f:Bool->Prop}:asB (.bl i) f=f i:=rfl
theorem Bc{i:Addr}{f:Addr->Prop}:asR (.ref i) f=f i:=rfl
theorem fJ{x:V}{f:Int->Prop}(h:asI x f):∃i,x= .int i/\f i:=by
 cases x<;> first|exact⟨_,rfl,h⟩|exact h.elim
theorem lL{x:V}{f:Bool->Prop}(h:asB x f):∃i,x= .bl i/\f i:=by
 cases x<;> first|exact⟨_,rfl,h⟩|exact h.elim
theorem j8{x:V}{f:Addr->Prop}(h:asR x f):∃i,x= .ref i/\f i:=by
 cases x<;> first|exact⟨_,rfl,h⟩|exact h.elim
theorem Bd{x:V}{f:Int->Prop}:asI x f=∃i,x= .int i/\f i:=propext ⟨fJ,fun⟨_,e,q⟩=>by subst e;exact q⟩
theorem Be{x:V}{f:Bool->Prop}:asB x f=∃i,x= .bl i/\f i:=propext ⟨lL,fun⟨_,e,q⟩=>by subst e;exact q⟩
theorem Bf{x:V}{f:Addr->Prop}:asR x f=∃i,x= .ref i/\f i:=propext ⟨j8,fun⟨_,e,q⟩=>by subst e;exact q⟩
def om:Nat->TE
 | 0,some v::_,H,Q=>Q v H
 | i+1,_::σ,H,Q=>om i σ H Q
 | _,_,_,_=>False
theorem zw{v:V}{σ:St}{H:Hp}{Q:VK}:om 0 (some v::σ) H Q=Q v H:=rfl
theorem zx{i:Nat}{o:Option V}{σ:St}{H:Hp}{Q:VK}:om (i+1) (o::σ) H Q=om i σ H Q:=rfl
theorem uP{H:Hp}{Q:VK}:∀{i:Nat} {σ:St},om i σ H Q->∃v,σ[i]? =some (some v)/\Q v H
 | 0,some v::_,h=>⟨v,rfl,h⟩
 | 0,none::_,h=>h.elim
 | 0,[],h=>h.elim
 | _+1,[],h=>h.elim
 | i+1,_::σ,h=>uP (i:=i) (σ:=σ) h
def tC(v:V):TE:=fun _ H Q=>Q v H
theorem uQ{i:Nat}{x:Str}{pos:Pos}(hN:X.N[i]? =some x)(hv:Vis X.env.scope x)(hd:(x==("__debug__":Str))=false)(hcd:(x==("__classdict__":Str))=false):PE X (.Name x pos) (om i):=by
 intro pins s σ H Q I h;obtain⟨v,e,h⟩:=uP h;obtain⟨m,hn,hl⟩:=I.loc;obtain⟨u,r,l⟩:=hl i x v hN e hv;have fin:EP X pins σ Q u s:=⟨v,H,I,r,h⟩
 rcases l with⟨hk,hm⟩|⟨hk,c,hc,hcell⟩
 ·exact wpAny_Name (wpAny_loadName_local I.ok.kind hk hn hm fin) hd
 ·rcases hk with hk|hk
  ·exact wpAny_Name (wpAny_loadName_cell I.ok.kind hk hc hcell fin) hd
  ·exact wpAny_Name (wpAny_loadName_free I.ok.kind hk hc hcell fin hcd) hd
theorem zy{i j pos}:PE X (.Constant (.int i) j pos) (tC (.int i)):=fun _ _ _ H _ I h=>wpAny_Constant_int ⟨.int i,H,I.tok _,⟨_,rfl⟩,h⟩
theorem Bg{b j pos}:PE X (.Constant (.bool b) j pos) (tC (.bl b)):=fun _ _ _ H _ I h=>Constant_bool ⟨.bl b,H,I,rfl,h⟩
theorem zz{x j pos}:PE X (.Constant (.str x) j pos) (tC (.str x)):=fun _ _ _ H _ I h=>Calls.Constant_str ⟨.str x,H,I.tok _,⟨_,rfl⟩,h⟩
def Gl(X:Cx)(x:Str):Prop:=X.env.kindOf x=some .globalImplicit
theorem mI{E:Value->Shared->Prop}{pins:List (Addr×Obj)}{s:Shared}{σ:St}{H:Hp}{x:Str}{u:Value}{pos:Pos}{Q:Value->Shared->Prop}(I:Inv X pins σ H s)(hg:Gl X x)(hm:X.mg x=some u)(h:Q u s)
 (hd:(x==("__debug__":Str))=false):wpAny (model X.prog X.w) X.A (eval (.Name x pos) X.env) Q E s:=
 Calls.Name_function_global I.ok.kind hg (Calls.loadGlobal_global (by rw[I.ok.glob];exact I.mod.glob.keeps I.bk) hm h) hd
theorem fK{E:Value->Shared->Prop}{pins:List (Addr×Obj)}{s:Shared}{σ:St}{H:Hp}{x:Str}{u:Value}{pos:Pos}{Q:Value->Shared->Prop}(I:Inv X pins σ H s)(hg:Gl X x)(hm:X.mg x=none)(hv:bootBuiltins x=some u)(h:Q u s)
 (hn:x≠"__name__":=by decide) (hd:(x==("__debug__":Str))=false:=by decide):wpAny (model X.prog X.w) X.A (eval (.Name x pos) X.env) Q E s:=by
 obtain⟨mb,h1,h2⟩:=I.mod.blt;exact Calls.Name_function_global I.ok.kind hg (Calls.loadGlobal_builtin (by rw[I.ok.glob];exact I.mod.glob.keeps I.bk) hm (by rw[I.ok.blt];exact h1.keeps I.bk) ((h2 x hn).trans hv) h) hd
theorem xw{x:Str}{v:V}{u:Value}{pos:Pos}(hg:Gl X x)(hm:X.mg x=some u)(r:aA v u)(hd:(x==("__debug__":Str))=false):PE X (.Name x pos) (tC v):=
 fun _ _ _ H _ I h=>mI I hg hm ⟨v,H,I,r,h⟩ hd
theorem xx{x:Str}{v:V}{u:Value}{pos:Pos}(hg:Gl X x)(hm:X.mg x=none)(hv:bootBuiltins x=some u)(r:aA v u)(hn:x≠"__name__")(hd:(x==("__debug__":Str))=false):PE X (.Name x pos) (tC v):=
 fun _ _ _ H _ I h=>fK I hg hm hv ⟨v,H,I,r,h⟩ hn hd
variable{a b:Expr}{ta tb:TE}{pos:Pos}
def PC(X:Cx)(op:CmpOp)(a b:Expr)(t:TE):Prop:=
 ∀(pins:List (Addr×Obj)) (s:Shared) (σ:St) (H:Hp) (Q:VK),Inv X pins σ H s->t σ H Q->
  wpAny (model X.prog X.w) X.A (eval a X.env) (fun v s₁=>wpAny (model X.prog X.w) X.A (eval b X.env) (fun u s₂=>wpAny (model X.prog X.w) X.A (compareOp op v u) (EP X pins σ Q) X.xe s₂) X.xe s₁) X.xe s
theorem Bh(b:Expr){op:CmpOp}(h:op≠ .In)(h2:op≠ .NotIn):behindInMarks op b=false:=by
 have e1:(op==CmpOp.In)=false:=by cases op<;> first|rfl|exact absurd rfl h
 have e2:(op==CmpOp.NotIn)=false:=by cases op<;> first|rfl|exact absurd rfl h2
 cases b<;> simp[behindInMarks,e1,e2]
def tB(t:TE):TT:=fun σ H Q=>t σ H fun x H1=>asB x fun c=>Q c H1
theorem zA{op:CmpOp}{t:TE}(h:PC X op a b t)(h1:behindInMarks op b=false):PT X (.Compare a [op] [b] pos) (tB t):=by
 intro pins s σ H Q I hw;refine wpAny_isTrue_Compare1 (thn (h pins s σ H _ I hw) fun v s1 h1=>thn h1 fun u s2 h2=>thn h2 fun c s3 ⟨x,H1,I1,r1,q1⟩=>?_) h1;obtain⟨d,rfl,q⟩:=lL q1;cases r1;exact wpAny_truthy_bool ⟨H1,I1,q⟩
variable{tA tB':TT}{rest:List Expr}
def xy(t u:TT):TT:=fun σ H Q=>t σ H fun c H1=>if c=true then u σ H1 Q else Q false H1
def tOr(t u:TT):TT:=fun σ H Q=>t σ H fun c H1=>if c=true then Q true H1 else u σ H1 Q
def zB(t:TT):TT:=fun σ H Q=>t σ H fun c H1=>Q (!c) H1
theorem xz(ha:PT X a tA):PW X (.BoolOp .And [a] pos) tA:=by
 intro wh pins s σ H Q I h;refine isTrue_and (thn (ha pins s σ H Q I h) fun c s1 e=>?_);cases c with
 | true=>exact isTrue_and_nil e
 | false=>exact e
theorem zC(ha:PT X a tA):PW X (.BoolOp .Or [a] pos) tA:=by
 intro wh pins s σ H Q I h;refine isTrue_or (thn (ha pins s σ H Q I h) fun c s1 e=>?_);cases c with
 | false=>exact isTrue_or_nil e
 | true=>exact e
theorem zD(ha:PT X a tA)(hb:PW X (.BoolOp .And (b::rest) pos) tB'):PW X (.BoolOp .And (a::b::rest) pos) (xy tA tB'):=by
 intro wh pins s σ H Q I h;refine isTrue_and (thn (ha pins s σ H _ I h) fun c s1 ⟨H1,I1,q1⟩=>?_);cases c with
 | true=>exact hb wh pins s1 σ H1 Q I1 q1
 | false=>exact⟨H1,I1,q1⟩
theorem Bi(ha:PT X a tA)(hb:PW X (.BoolOp .Or (b::rest) pos) tB'):PW X (.BoolOp .Or (a::b::rest) pos) (tOr tA tB'):=by
 intro wh pins s σ H Q I h;refine isTrue_or (thn (ha pins s σ H _ I h) fun c s1 ⟨H1,I1,q1⟩=>?_);cases c with
 | true=>exact⟨H1,I1,q1⟩
 | false=>exact hb wh pins s1 σ H1 Q I1 q1
theorem zE(ha:PT X a tA):PT X (.UnaryOp .Not a pos) (zB tA):=by
 intro pins s σ H Q I h;exact isTrue_not (ha pins s σ H (fun c H1=>Q (!c) H1) I h)
def uR(ta tb:TE):TE:=fun σ H Q=>ta σ H fun x H1=>asB x fun c=>if c=true then tb σ H1 Q else Q (.bl false) H1
def zG(ta tb:TE):TE:=fun σ H Q=>ta σ H fun x H1=>asB x fun c=>if c=true then Q (.bl true) H1 else tb σ H1 Q
def Bj(ta:TE):TE:=fun σ H Q=>ta σ H fun x H1=>asB x fun c=>Q (.bl (!c)) H1
theorem zH{op}{t:TE}(h:PE X a t):PE X (.BoolOp op [a] pos) t:=fun pins s σ H Q I hw=>BoolOp_one (h pins s σ H Q I hw)
theorem zI(ha:PE X a ta)(hb:PE X (.BoolOp .And (b::rest) pos) tb):PE X (.BoolOp .And (a::b::rest) pos) (uR ta tb):=by
 intro pins s σ H Q I h;refine BoolOp_and (thn (ha pins s σ H _ I h) fun v s1 ⟨x,H1,I1,r1,q1⟩=>?_);obtain⟨c,rfl,q1⟩:=lL q1;cases r1;refine wpAny_truthy_bool ?_;cases c with
 | true=>exact hb pins s1 σ H1 Q I1 q1
 | false=>exact⟨.bl false,H1,I1,rfl,q1⟩
theorem Bk(ha:PE X a ta)(hb:PE X (.BoolOp .Or (b::rest) pos) tb):PE X (.BoolOp .Or (a::b::rest) pos) (zG ta tb):=by
 intro pins s σ H Q I h;refine BoolOp_or (thn (ha pins s σ H _ I h) fun v s1 ⟨x,H1,I1,r1,q1⟩=>?_);obtain⟨c,rfl,q1⟩:=lL q1;cases r1;refine wpAny_truthy_bool ?_;cases c with
 | false=>exact hb pins s1 σ H1 Q I1 q1
 | true=>exact⟨.bl true,H1,I1,rfl,q1⟩
def tIf(t:TT)(ta tb:TE):TE:=fun σ H Q=>t σ H fun c H1=>if c=true then ta σ H1 Q else tb σ H1 Q
end
def SqL(K:PySem.W.Frag)(H:Hp)(a:Addr)(xs:List V):Prop:=
 Rd H a (.lst xs)\/
  ∃(o:Obj) (its:Array Value) (n:Nat),K.lookup a=some o/\o.cls= .type "list"/\o.dict=none/\o.data= .seq its n/\its.size<=sizeLine/\aC xs its.toList
def SqT(K:PySem.W.Frag)(H:Hp)(a:Addr)(xs:List V):Prop:=
 Rd H a (.tup xs)\/
  ∃(o:Obj) (its:Array Value) (n:Nat),K.lookup a=some o/\o.cls= .type "tuple"/\o.data= .seq its n/\its.size<=sizeLine/\aC xs its.toList
noncomputable def absV:Value->Option V
 | .none=>some .non
 | .bool b=>some (.bl b)
 | .int i _=>some (.int i)
 | .str x _=>some (.str x)
 | .bytes b _=>some (.byt b)
 | .float b _=>some (.flt b)
 | .ref a=>some (.ref a)
 | .type n=>some (.ty n)
 | _=>none
theorem aA.abs{x:V}{u:Value}(r:aA x u):absV u=some x:=by
 cases x with
 | non=>cases r;rfl
 | bl _=>cases r;rfl
 | int _=>obtain⟨t,rfl⟩:=r;rfl
 | str _=>obtain⟨t,rfl⟩:=r;rfl
 | byt _=>obtain⟨t,rfl⟩:=r;rfl
 | flt _=>obtain⟨t,rfl⟩:=r;rfl
 | ref _=>cases r;rfl
 | ty _=>cases r;rfl
theorem aA.inj{x y:V}{u:Value}(r:aA x u)(q:aA y u):x=y:=Za (r.abs.symm.trans q.abs)
theorem aC.inj:∀{xs ys:List V} {us:List Value},aC xs us->aC ys us->xs=ys
 | _,_,_,.nil,.nil=>rfl
 | _,_,_,.cons r t,.cons r' t'=>by rw[r.inj r',aC.inj t t']
section
variable{X:Cx}{pins:List (Addr×Obj)}{σ:St}{H:Hp}{s:Shared}{a:Addr}{xs ys:List V}
theorem SqL.of{K:PySem.W.Frag}(h:H a=some (.lst xs)):SqL K H a xs:= .inl (.inl h)
theorem SqT.of{K:PySem.W.Frag}(h:H a=some (.tup xs)):SqT K H a xs:= .inl (.inl h)
theorem Inv.list(I:Inv X pins σ H s)(h:SqL X.K H a xs):∃its:List Value,aC xs its/\PlainL s.heap a its.toArray/\xs.length<=sizeLine:=by
 rcases h with h|⟨o,its,n,hk,hc,hd,hs,hz,r⟩
 ·obtain⟨z,its,n,r,e⟩:=h.ok I.hok;exact⟨its,r,⟨_,n,e,rfl,rfl,rfl⟩,z⟩
 ·refine⟨its.toList,r,⟨o,n,I.kIn a o hk,hc,hd,by simpa using hs⟩,?_⟩;have e:=r.length;simp only[Zb]at e
  lia
theorem Inv.tuple(I:Inv X pins σ H s)(h:SqT X.K H a xs):∃its:List Value,aC xs its/\IsTup s.heap a its.toArray/\xs.length<=sizeLine:=by
 rcases h with h|⟨o,its,n,hk,hc,hs,hz,r⟩
 ·obtain⟨z,its,r,p⟩:=h.ok I.hok;exact⟨its,r,p,z⟩
 ·refine⟨its.toList,r,⟨o,I.kIn a o hk,hc,n,by simpa using hs⟩,?_⟩;have e:=r.length;simp only[Zb]at e
  lia
theorem Inv.list_inj(I:Inv X pins σ H s)(h:SqL X.K H a xs)(h':SqL X.K H a ys):xs=ys:=by
 obtain⟨its,r,⟨o,n,e,_,_,d⟩,_⟩:=I.list h;obtain⟨its',r',⟨o',n',e',_,_,d'⟩,_⟩:=I.list h';rw[e]at e';cases e';rw[d]at d';injection d' with d1 _
 have:its=its':=by simpa using congrArg Array.toList d1
 subst this;exact r.inj r'
theorem Inv.tuple_inj(I:Inv X pins σ H s)(h:SqT X.K H a xs)(h':SqT X.K H a ys):xs=ys:=by
 obtain⟨its,r,⟨o,e,_,n,d⟩,_⟩:=I.tuple h;obtain⟨its',r',⟨o',e',_,n',d'⟩,_⟩:=I.tuple h';rw[e]at e';cases e';rw[d]at d';injection d' with d1 _
 have:its=its':=by simpa using congrArg Array.toList d1
 subst this;exact r.inj r'
end
noncomputable abbrev Cx.wish(X:Cx)(E:Value->Shared->Prop):Cx:={X with xe:=E}
noncomputable abbrev Cx.nox(X:Cx):Cx:=X.wish fun _ _=>False
theorem Cx.Ok.wish{X:Cx}(ok:X.Ok)(E:Value->Shared->Prop):(X.wish E).Ok:=
 ⟨ok.mod,ok.kind,ok.glob,ok.blt,ok.above,ok.inj,ok.has,ok.cab,ok.hd,ok.frames,ok.stk,ok.exf,ok.bs,ok.bsz,ok.noex,ok.exfs,ok.funs,ok.frf⟩
theorem Cx.Ok.unwish{X:Cx}{E:Value->Shared->Prop}(ok:(X.wish E).Ok):X.Ok:=
 ⟨ok.mod,ok.kind,ok.glob,ok.blt,ok.above,ok.inj,ok.has,ok.cab,ok.hd,ok.frames,ok.stk,ok.exf,ok.bs,ok.bsz,ok.noex,ok.exfs,ok.funs,ok.frf⟩
section
variable{X:Cx}{pins:List (Addr×Obj)}{σ:St}{H:Hp}{s:Shared}{E:Value->Shared->Prop}
theorem Inv.wish(I:Inv X pins σ H s)(E:Value->Shared->Prop):Inv (X.wish E) pins σ H s:=⟨I.ok.wish E,I.os,I.bare,I.base,I.loc,I.cell,I.free,I.freeC,I.pin,I.hok,I.len⟩
theorem Inv.unwish(I:Inv (X.wish E) pins σ H s):Inv X pins σ H s:=⟨I.ok.unwish,I.os,I.bare,I.base,I.loc,I.cell,I.free,I.freeC,I.pin,I.hok,I.len⟩
theorem SP.unwish{D:gH}{f:Flow}{s':Shared}(h:SP (X.wish E) pins D f s'):SP X pins D f s':=by
 cases f with
 | next=>obtain⟨σ',H',I,q⟩:=h;exact⟨σ',H',I.unwish,q⟩
 | brk=>obtain⟨σ',H',I,q⟩:=h;exact⟨σ',H',I.unwish,q⟩
 | cont=>obtain⟨σ',H',I,q⟩:=h;exact⟨σ',H',I.unwish,q⟩
 | ret u=>obtain⟨v,σ',H',I,r,q⟩:=h;exact⟨v,σ',H',I.unwish,r,q⟩
theorem PSs.nox{st:List Stmt}{t:TS}(h:PSs X.nox st t):PSs X st t:=fun pins s σ H D I hw=>
 wpAny_mono (h pins s σ H D (I.wish _) hw) (fun _ _ q=>q.unwish) fun _ _ z=>False.elim z
end
section
variable{X:Cx}{st:Stmt}{rest:List Stmt}{t u:TS}{e:Expr}{te:TE}{pos:Pos}
def uS:TS:=fun D σ H=>D.nx σ H
def bL(t u:TS):TS:=fun D σ H=>t {D with nx:=u D} σ H
theorem xA:PSs X [] uS:=fun _ _ σ H _ I h=>wpAny_execs_nil ⟨σ,H,I,h⟩
theorem uT(h1:PS X st t)(h2:PSs X rest u):PSs X (st::rest) (bL t u):=by
 intro pins s σ H D I h;refine wpAny_execs_cons (thn (h1 pins s σ H {D with nx:=u D} I h) fun f s1 q=>?_);cases f with
 | next=>
   obtain⟨σ',H',I',q⟩:=q;exact h2 pins s1 σ' H' D I' q
 | ret v=>exact q
 | brk=>exact q
 | cont=>exact q
theorem xB(h1:PS X st t):PSs X [st] t:=by
 intro pins s σ H D I h;refine wpAny_execs_cons (thn (h1 pins s σ H D I h) fun f s1 q=>?_);cases f with
 | next=>exact wpAny_execs_nil q
 | ret v=>exact q
 | brk=>exact q
 | cont=>exact q
theorem Inv.quiet{pins:List (Addr×Obj)}{σ:St}{H:Hp}{s:Shared}(I:Inv X pins σ H s):interactive X.env=false:=by simp[interactive,I.ok.kind]
def jr(te:TE):TS:=fun D σ H=>te σ H fun _ H1=>D.nx σ H1
theorem xC(he:PE X e te)(hs:swapsWith e none pos.line X.env=pure false):PS X (.Expr e pos) (jr te):=by
 intro pins s σ H D I h;exact wpAny_Expr_any (thn (he pins s σ H _ I h) fun v s1 ⟨x,H1,I1,r1,q1⟩=>⟨σ,H1,I1,q1⟩) I.quiet hs
def iT(te:TE):TS:=fun D σ H=>te σ H D.rt
theorem zJ(he:PE X e te):PS X (.Return (some e) pos) (iT te):=by
 intro pins s σ H D I h;exact wpAny_Return_some (thn (he pins s σ H _ I h) fun v s1 ⟨x,H1,I1,r1,q1⟩=>⟨x,σ,H1,I1,r1,q1⟩)
def Bl:TS:=fun D _ H=>D.rt .non H
def jH(c:TT)(t u:TS):TS:=fun D σ H=>c σ H fun b H1=>if b=true then t D σ H1 else u D σ H1
theorem Bm{c:Expr}{a b:List Stmt}{tc:TT}(hc:PT X c tc)(ha:PSs X a t)(hb:PSs X b u):PS X (.If c a b pos) (jH tc t u):=by
 intro pins s σ H D I h;refine wpAny_If (thn (hc pins s σ H _ I h) fun d s1 ⟨H1,I1,q1⟩=>?_);cases d with
 | true=>exact ha pins s1 σ H1 D I1 q1
 | false=>exact hb pins s1 σ H1 D I1 q1
def uU:TS:=fun _ _ _=>False
theorem uV:PS X st uU:=fun _ _ _ _ _ _ h=>h.elim
end
noncomputable abbrev TG:=V->St->Hp->(St->Hp->Prop)->Prop
noncomputable abbrev TGs:=List V->St->Hp->(St->Hp->Prop)->Prop
def PG(X:Cx)(target:Expr)(t:TG):Prop:=
 ∀(pins:List (Addr×Obj)) (s:Shared) (σ:St) (H:Hp) (v:V) (u:Value) (Q:St->Hp->Prop),Inv X pins σ H s->aA v u->t v σ H Q->
  wpAny (model X.prog X.w) X.A (assign target X.env u) (fun _ s'=>∃σ' H',Inv X pins σ' H' s'/\Q σ' H') X.xe s
def PGs(X:Cx)(ts:List Expr)(t:TGs):Prop:=
 ∀(pins:List (Addr×Obj)) (s:Shared) (σ:St) (H:Hp) (vs:List V) (us:List Value) (Q:St->Hp->Prop),Inv X pins σ H s->aC vs us->t vs σ H Q->
  wpAny (model X.prog X.w) X.A (assignInOrder ((assignEach ts X.env).map (·.2)) us) (fun _ s'=>∃σ' H',Inv X pins σ' H' s'/\Q σ' H') X.xe s
noncomputable abbrev TSet:=V->V->V->Hp->(Hp->Prop)->Prop
section
variable{X:Cx}{pos:Pos}
def js(i:Nat):TG:=fun v σ H Q=>Q (σ.set i (some v)) H
theorem xD{i:Nat}{x:Str}(hN:X.N.Nodup)(hi:X.N[i]? =some x)(hx:Loc X.env.scope x)(hf:X.fn x=true\/X.env.scope.names.lookup x=some .local):PG X (.Name x pos) (js i):=by
 intro pins s σ H v u Q I r h;exact wpAny_assign_Name (j7 I hN hi hx r (fun s' I'=>⟨_,H,I',h⟩) hf)
def zK:TGs:=fun vs σ H Q=>vs=[]/\Q σ H
def uW(t:TG)(u:TGs):TGs:=fun vs σ H Q=>∃v r,vs=v::r/\t v σ H fun σ' H'=>u r σ' H' Q
theorem xE:PGs X [] zK:=by
 intro pins s σ H vs us Q I r h;obtain⟨e,h⟩:=h;subst e;cases r;exact assignInOrder_nil ⟨σ,H,I,h⟩
theorem uX{e:Expr}{es:List Expr}{t:TG}{u:TGs}(h1:PG X e t)(h2:PGs X es u)
 (hs:(assignEach (e::es) X.env).map (·.2)=assign e X.env::(assignEach es X.env).map (·.2)):PGs X (e::es) (uW t u):=by
 intro pins s σ H vs us Q I r h;obtain⟨v,vr,e1,h⟩:=h;subst e1;cases r with
 | cons r rr=>
   rw[hs];refine assignInOrder_cons (thn (h1 pins s σ H _ _ _ I r h) fun _ s1 ⟨σ1,H1,I1,q1⟩=>?_);exact h2 pins s1 σ1 H1 _ _ Q I1 rr q1
def xF(K:PySem.W.Frag)(n:Nat)(t:TGs):TG:=fun v σ H Q=>asR v fun a=>∃xs,SqT K H a xs/\xs.length=n/\t xs σ H Q
theorem zL{es:List Expr}{k:Nat}{t:TGs}{n:Nat}(hc:X.calm=true)(h:PGs X es t)
 (hn:(assignEach es X.env).length=n) (hst:(assignEach es X.env).findIdx? (·.1)=none):PG X (.Tuple es k pos) (xF X.K n t):=by
 intro pins s σ H v u Q I r hw;obtain⟨a,e1,xs,hq,hl,hw⟩:=j8 hw;clear ‹xF _ _ _ _ _ _ _›;subst e1;cases r;obtain⟨its,rv,ht,hz⟩:=I.tuple hq;refine assign_Tuple_tuple (I.ok.hd hc) ht (by simp[hn,<-hl,rv.length]) hst fun h' hx=>?_
 have I1:Inv X pins σ H {s with heap:=h'}:=I.kept (t':=s.toks) fun b o e=>hx b o (Zt (Zv e)) e
 exact h pins _ σ H xs _ Q I1 (by simpa using rv) hw
def gSub(to ti:TE)(t:TSet):TG:=fun v σ H Q=>to σ H fun o H1=>ti σ H1 fun i H2=>t o i v H2 fun H3=>Q σ H3
def oo(te:TE)(g:TG):TS:=fun D σ H=>te σ H fun x H1=>g x σ H1 D.nx
theorem zM{tg e:Expr}{te:TE}{g:TG}(he:PE X e te)(hg:PG X tg g)(hs:swapsWithSole [tg] e pos.line X.env=pure false)(hw:swappedStores [tg] e X.env=pure none)
 (h1:(assignEach [tg] X.env).map (·.2)=[assign tg X.env]):PS X (.Assign [tg] e pos) (oo te g):=by
 intro pins s σ H D I h;refine wpAny_Assign_stores (thn (he pins s σ H _ I h) fun v s1 ⟨x,H1,I1,r1,q1⟩=>?_) hs hw;rw[h1];exact thn (hg pins s1 σ H1 x v _ I1 r1 q1) fun _ s2 q=>q
theorem uY{i:Nat}{x:Str}{e:Expr}{te:TE}{pos':Pos}(hN:X.N.Nodup)(hi:X.N[i]? =some x)(hx:Loc X.env.scope x)(he:PE X e te)(hs:swapsWith e (some (.Name x pos')) pos.line X.env=pure false)(hf:X.fn x=true\/X.env.scope.names.lookup x=some .local):
 PS X (.Assign [.Name x pos'] e pos) (oo te (js i)):=by
 intro pins s σ H D I h;refine wpAny_Assign_Name (thn (he pins s σ H _ I h) fun v s1 ⟨y,H1,I1,r1,q1⟩=>?_) hs;exact j7 I1 hN hi hx r1 (fun s2 I2=>⟨_,H1,I2,q1⟩) hf
end
section
variable{X:Cx}{pos:Pos}
def uZ(c:TT)(tb:TS):TS:=fun D σ H=>∃W:Nat->St->Hp->Prop,(∃m,W m σ H)/\∀m σ H,W m σ H->
 c σ H fun b H1=>if b=true then∃N:St->Hp->Prop,(∀σ' H',N σ' H'->∃m',m'<m/\W m' σ' H')/\tb {D with nx:=N,ct:=N,bk:=D.nx} σ H1 else D.nx σ H1
theorem u4{c:Expr}{body:List Stmt}{tc:TT}{tb:TS}(hp:PassesOwn (model X.prog X.w) X.A X.env X.xe)(hc:PT X c tc)(hb:PSs X body tb):PS X (.While c body [] pos) (uZ tc tb):=by
 intro pins s σ H D I h;obtain⟨W,⟨m0,w0⟩,turn⟩:=h;refine wpAny_While (codeAny_whileLoop (fun n s'=>∃σ' H',Inv X pins σ' H' s'/\W n σ' H') ?_ m0 ⟨σ,H,I,w0⟩);rintro n s1 ⟨σ1,H1,I1,w1⟩;refine wpAny_passesOwn hp (thn (hc pins s1 σ1 H1 _ I1 (turn n σ1 H1 w1)) fun b s2 ⟨H2,I2,q2⟩=>?_);cases b with
 | true=>
   obtain⟨N,hN,q2⟩:=q2;rw[if_pos rfl];refine wpAny_passesOwn hp (thn (hb pins s2 σ1 H2 _ I2 q2) fun f s3 q3=>?_);cases f with
   | next=>
     obtain⟨σ3,H3,I3,n3⟩:=q3;obtain⟨m',hm,w3⟩:=hN σ3 H3 n3;exact⟨m',hm,σ3,H3,I3,w3⟩
   | cont=>
     obtain⟨σ3,H3,I3,n3⟩:=q3;obtain⟨m',hm,w3⟩:=hN σ3 H3 n3;exact⟨m',hm,σ3,H3,I3,w3⟩
   | brk=>exact q3
   | ret v=>exact q3
 | false=>
   rw[if_neg Zu];exact wpAny_execs_nil ⟨σ1,H2,I2,q2⟩
end
structure It where
 go:Nat->Hp->Prop
 yld:Nat->Hp->V->Hp->Prop
 stop:Nat->Hp->Prop
def jI(X:Cx)(pins:List (Addr×Obj))(H:Hp)(b:Addr):Prop:=
 H b=none/\b≠X.env.locals/\b∉X.fs/\(b∈X.ex\/X.s₀.heap.objs.size<=b)/\(∀x c,X.env.cells.lookup x=some c->c≠b)/\∀p∈X.pn++pins,p.1≠b
theorem Inv.fpOk{X:Cx}{pins:List (Addr×Obj)}{σ:St}{H H':Hp}{s:Shared}{b:Addr}(I:Inv X pins σ H s)(hb:s.heap.objs.size<=b)(hn:H' b=none):jI X pins H' b:=by
 refine⟨hn,Yu (Zg I.lt hb),I.nofs hb,.inr (Yd I.sz hb),fun x c e z=>?_,fun p hp z=>?_⟩
 ·obtain⟨v,q⟩:=I.cell x c e;exact absurd (Zg q.lt (by rw[z];exact hb)) (Xc _)
 ·exact absurd (Zg (Zv (I.pin p hp).1) (by rw[z];exact hb)) (Xc _)
structure mJ (P:Program) (w:World) (K:PySem.W.Frag) (tg:Expr) (J:It) (fp:List Addr) (it:Addr) (tn:Nat->Heap->Prop):Prop where
 mem:it∈fp
 obj:∀i h,tn i h->∀b∈fp,∃o,h.get? b=some o/\∀v,o.data≠ .cell v
 keep:∀i h h',tn i h->(∀b∈fp,∀o,h.get? b=some o->h'.get? b=some o)->tn i h'
 item:∀(X:Cx),X.prog=P->X.w=w->X.K=K->X.calm=true->∀(i:Nat) (pins:List (Addr×Obj)) (s:Shared) (σ:St) (H:Hp) (E:Value->Shared->Prop),Inv X pins σ H s->(∀b∈fp,jI X pins H b)->tn i s.heap->J.go i H->
  wpAny (model P w) X.A (pyNext (.ref it)) (fun r s1=>∃u,r=some u/\
   wpAny (model P w) X.A (letOwnedTupleGo tg (.ref it) u) (fun _ s2=>∃x H',Inv X pins σ H' s2/\aA x u/\J.yld i H x H'/\tn (i+1) s2.heap/\∀b∈fp,H' b=none) E s1) E s
 done:∀(X:Cx),X.prog=P->X.w=w->X.K=K->X.calm=true->∀(i:Nat) (pins:List (Addr×Obj)) (s:Shared) (σ:St) (H:Hp) (E:Value->Shared->Prop),Inv X pins σ H s->(∀b∈fp,jI X pins H b)->tn i s.heap->J.stop i H->
  wpAny (model P w) X.A (pyNext (.ref it)) (fun r s1=>r=none/\Inv X pins σ H s1) E s
 self:∀(A:Around) (i:Nat) (s:Shared) (Q:Value->Shared->Prop) (E:Value->Shared->Prop),tn i s.heap->Q (.ref it) s->wpAny (model P w) A (pyIter (.ref it)) Q E s
noncomputable abbrev TI:=St->Hp->(It->Hp->Prop)->Prop
def PIE(X:Cx)(pins:List (Addr×Obj))(σ:St)(tg:Expr)(R:It->Hp->Prop)(itv:Value)(s2:Shared):Prop:=
 ∃(it:Addr) (fp:List Addr) (tn:Nat->Heap->Prop) (J:It) (H':Hp),itv= .ref it/\Inv X pins σ H' s2/\mJ X.prog X.w X.K tg J fp it tn/\tn 0 s2.heap/\(∀b∈fp,jI X pins H' b)/\R J H'
def PI(X:Cx)(tg iter:Expr)(wi:TI):Prop:=
 ∀(pins:List (Addr×Obj)) (s:Shared) (σ:St) (H:Hp) (R:It->Hp->Prop),Inv X pins σ H s->wi σ H R->
  wpAny (model X.prog X.w) X.A (eval iter X.env) (fun v s1=>wpAny (model X.prog X.w) X.A (pyIter v) (PIE X pins σ tg R) X.xe s1) X.xe s
theorem oq{M:Model}{A:Around}{E:Value->Shared->Prop}{s:Shared}{tg:Expr}{it:Addr}{u:Value}{o:Obj}{n:String}{vs:Array Value}{Q:Unit->Shared->Prop}(ho:s.heap.get? it=some o)(hc:o.cls= .type n)(hd:o.data= .fields vs)
 (hn:["enumerate","zip","dict_itemiterator","dict_reverseitemiterator","odict_iterator","itertools.zip_longest","itertools.pairwise"].contains n=false) (hQ:Q () s):wpAny M A (letOwnedTupleGo tg (.ref it) u) Q E s:=by
 unfold letOwnedTupleGo;cases tg<;> first
  | exact Z3 hQ
  |(cases u<;> first
   | exact Z3 hQ
   |(refine Z2 (wpAny_load ho ?_)
     rw[hc,hd];show wpAny M A (if(["enumerate","zip","dict_itemiterator","dict_reverseitemiterator","odict_iterator","itertools.zip_longest","itertools.pairwise"].contains n&&vs[0]? ==some (rawInt _))=true then _ else _) Q E s;rw[if_neg (by intro h;rw[hn,Bool.false_and]at h;cases h)];exact Z3 hQ))
noncomputable def Itl(K:PySem.W.Frag)(a:Addr):It:=
 ⟨fun i H=>∃xs x,SqL K H a xs/\xs[i]? =some x,fun i H x H'=>H'=H/\∀xs,SqL K H a xs->xs[i]? =some x,fun i H=>∃xs,SqL K H a xs/\xs.length<=i⟩
noncomputable def Itt(K:PySem.W.Frag)(a:Addr):It:=
 ⟨fun i H=>∃xs x,SqT K H a xs/\xs[i]? =some x,fun i H x H'=>H'=H/\∀xs,SqT K H a xs->xs[i]? =some x,fun i H=>∃xs,SqT K H a xs/\xs.length<=i⟩
noncomputable def Itr(lo:Int)(n:Nat):It:=⟨fun i _=>i<n,fun i H x H'=>H'=H/\x= .int (lo+i),fun i _=>n<=i⟩
theorem sT{P:Program}{w:World}{K:PySem.W.Frag}{tg:Expr}(a it:Addr):mJ P w K tg (Itl K a) [it] it (fun i h=>h.IsListIter it a i) where
 mem:=by simp
 obj:=fun i h st b hb=>by
  have e:b=it:=by simpa using hb
  subst e;obtain⟨o,e,c,d⟩:=st;exact⟨o,e,fun v z=>by rw[d]at z;cases z⟩
 keep:=fun i h h' st k=>st.at fun o e=>k it (by simp) o e
 item:=by
  intro X hP hw hK hc i pins s σ H E I hf st hg;subst hP hw hK;obtain⟨xs,x,hq,hx⟩:=hg;obtain⟨its,rv,p,hz⟩:=I.list hq;obtain⟨u,hu,ru⟩:=rv.get hx;obtain⟨f0,f1,f2,f3,f4,f5⟩:=hf it (by simp);refine wpAny_pyNext_list_item st p.isList (x:=u) (by simpa using hu) fun h' st' sb=>?_
  have I1:Inv X pins σ H {s with heap:=h'}:=I.turned (t':=s.toks) (fun b o hb e=>(sb.2 b hb).trans e) f0 f1 f3 f4 f5;obtain⟨o,e,c,d⟩:=id st';exact⟨u,rfl,oq (s:={s with heap:=h'}) e c d (by decide) ⟨x,H,I1,ru,⟨rfl,fun ys hy=>by rw[I.list_inj hy hq];exact hx⟩,st',fun b hb=>(hf b hb).1⟩⟩
 done:=by
  intro X hP hw hK hc i pins s σ H E I hf st hg;subst hP hw hK;obtain⟨xs,hq,hx⟩:=hg;obtain⟨its,rv,p,hz⟩:=I.list hq;obtain⟨f0,f1,f2,f3,f4,f5⟩:=hf it (by simp);have hl:=rv.length;exact wpAny_pyNext_list_end (I.ok.hd hc) st p.isList (by simp;lia) fun h' eb=>⟨rfl,I.turned (t':=s.toks) (fun b o hb e=>eb b o hb e) f0 f1 f3 f4 f5⟩
 self:=fun _ _ _ _ _ st h=>wpAny_pyIter_listiter st h
theorem p7{P:Program}{w:World}{K:PySem.W.Frag}{tg:Expr}(a it:Addr):mJ P w K tg (Itt K a) [it] it (fun i h=>h.IsTupleIter it a i) where
 mem:=by simp
 obj:=fun i h st b hb=>by
  have e:b=it:=by simpa using hb
  subst e;obtain⟨o,e,c,d⟩:=st;exact⟨o,e,fun v z=>by rw[d]at z;cases z⟩
 keep:=fun i h h' st k=>st.at fun o e=>k it (by simp) o e
 item:=by
  intro X hP hw hK hc i pins s σ H E I hf st hg;subst hP hw hK;obtain⟨xs,x,hq,hx⟩:=hg;obtain⟨its,rv,p,hz⟩:=I.tuple hq;obtain⟨u,hu,ru⟩:=rv.get hx;obtain⟨f0,f1,f2,f3,f4,f5⟩:=hf it (by simp);refine wpAny_pyNext_tuple_item st (show s.heap.IsTuple a its.toArray from p) (x:=u) (by simpa using hu) fun h' st' sb=>?_
  have I1:Inv X pins σ H {s with heap:=h'}:=I.turned (t':=s.toks) (fun b o hb e=>(sb.2 b hb).trans e) f0 f1 f3 f4 f5;obtain⟨o,e,c,d⟩:=id st';exact⟨u,rfl,oq (s:={s with heap:=h'}) e c d (by decide) ⟨x,H,I1,ru,⟨rfl,fun ys hy=>by rw[I.tuple_inj hy hq];exact hx⟩,st',fun b hb=>(hf b hb).1⟩⟩
 done:=by
  intro X hP hw hK hc i pins s σ H E I hf st hg;subst hP hw hK;obtain⟨xs,hq,hx⟩:=hg;obtain⟨its,rv,p,hz⟩:=I.tuple hq;obtain⟨f0,f1,f2,f3,f4,f5⟩:=hf it (by simp);have hl:=rv.length;exact wpAny_pyNext_tuple_end (I.ok.hd hc) st (show s.heap.IsTuple a its.toArray from p) (by simp;lia) fun h' eb=>⟨rfl,I.turned (t':=s.toks) (fun b o hb e=>eb b o hb e) f0 f1 f3 f4 f5⟩
 self:=fun _ _ _ _ _ st h=>wpAny_pyIter_tupleiter st h
theorem p9{P:Program}{w:World}{K:PySem.W.Frag}{tg:Expr}(it:Addr)(lo:Int)(n:Nat):mJ P w K tg (Itr lo n) [it] it (fun i h=>IsRangeIter h it (lo+(i:Nat)*1) ((n:Int) -(i:Nat)) 1) where
 mem:=by simp
 obj:=fun i h st b hb=>by
  have e:b=it:=by simpa using hb
  subst e;exact⟨_,st,fun v z=>by
   have z':Data.fields _=Data.cell v:=z;cases z'⟩
 keep:=fun i h h' st k=>k it (by simp) _ st
 item:=by
  intro X hP hw hK hc i pins s σ H E I hf st hg;subst hP hw hK;obtain⟨f0,f1,f2,f3,f4,f5⟩:=hf it (by simp);have W:=Walks.range (prog:=X.prog) (w:=X.w) (I.ok.hd hc) it lo 1 n;refine W.item i s _ _ hg st fun v h' tk hv st' kk=>?_
  obtain⟨t,rfl⟩:=hv;have I1:Inv X pins σ H {s with heap:=h',toks:=tk}:=I.turned (fun b o hb e=>kk b o (by simpa using hb) e) f0 f1 f3 f4 f5;refine⟨_,rfl,oq (s:={s with heap:=h',toks:=tk}) (n:="range_iterator") st' rfl rfl (by decide) ⟨.int (lo+i),H,I1,⟨t,?_⟩,⟨rfl,rfl⟩,st',fun b hb=>(hf b hb).1⟩⟩;rw[Int.mul_one]
 done:=by
  intro X hP hw hK hc i pins s σ H E I hf st hg;subst hP hw hK;obtain⟨f0,f1,f2,f3,f4,f5⟩:=hf it (by simp);exact wpAny_pyNext_range_end (I.ok.hd hc) st (by have:n<=i:=hg;lia) fun h' eb=>⟨rfl,I.turned (t':=s.toks) (fun b o hb e=>eb b o hb e) f0 f1 f3 f4 f5⟩
 self:=fun _ _ _ _ _ st h=>wpAny_pyIter_rangeiter st h
section
variable{X:Cx}{tg:Expr}
theorem ot{pins:List (Addr×Obj)}{σ:St}{H:Hp}{s:Shared}{R:It->Hp->Prop}{E:Value->Shared->Prop}{lo hi:Int}{t u v:Tok}{tk:Nat}(I:Inv X pins σ H s)(h1: -(2^62)<=lo)(h2:lo<2^62)(h3: -(2^62)<=hi)(h4:hi<2^62)
 (q:R (Itr lo (hi-lo).toNat) H):wpAny (model X.prog X.w) X.A (pyIter (.ref s.heap.objs.size)) (PIE X pins σ tg R) E {s with heap:=s.heap.push {cls:= .type "range",data:= .fields #[.int lo t,.int hi u,.int 1 v]},toks:=tk}:=by
 refine wpAny_pyIter_range (IsRange.new ..) (small_one h1 h2 h3 h4) ?_;have I1:Inv X pins σ H {s with heap:=s.heap.push {cls:= .type "range",data:= .fields #[.int lo t,.int hi u,.int 1 v]},toks:=tk}:=I.kept fun b o e=>Z7 _ e
 refine⟨(s.heap.push {cls:= .type "range",data:= .fields #[.int lo t,.int hi u,.int 1 v]}).objs.size,[(s.heap.push {cls:= .type "range",data:= .fields #[.int lo t,.int hi u,.int 1 v]}).objs.size],_,_,H,rfl,
  I1.kept (t':=tk) fun b o e=>Z7 _ e,p9 _ lo (hi-lo).toNat,?_,fun b hb=>?_,q⟩
 ·have e1:lo+((0:Nat):Int)*1=lo:=by simp
  have e2:(((hi-lo).toNat:Nat):Int) -((0:Nat):Int)=Builtin.Range.rangeSize lo hi 1:=by rw[rangeSize_one];split<;> lia
  show IsRangeIter _ _ (lo+((0:Nat):Int)*1) ((((hi-lo).toNat:Nat):Int) -((0:Nat):Int)) 1;rw[e1,e2];exact Zj _ rfl
 ·have e:b=(s.heap.push {cls:= .type "range",data:= .fields #[.int lo t,.int hi u,.int 1 v]}).objs.size:=by simpa using hb
  subst e;exact I1.fpOk (Zi _) (I1.hok.fresh (Zi _))
def u5(ta:TA):TI:=fun σ H R=>ta σ H fun vs H1=>∃j:Int,vs=[.int j]/\ -(2^62)<=j/\j<2^62/\R (Itr 0 j.toNat) H1
def u9(ta:TA):TI:=fun σ H R=>ta σ H fun vs H1=>∃i j:Int,vs=[.int i,.int j]/\(-(2^62)<=i/\i<2^62/\ -(2^62)<=j/\j<2^62)/\R (Itr i (j-i).toNat) H1
theorem sU{a:Expr}{ta:TA}{p pos:Pos}(hg:Gl X "range")(hm:X.mg "range"=none)(ha:PA X [a] ta)(hs:starEach [a] X.env=[(false,eval a X.env)]):PI X tg (.Call (.Name "range" p) [a] [] pos) (u5 ta):=by
 intro pins s σ H R I h;refine Call_ (fK I hg hm boot_range (PyProof.Rows.callWith_type1 (thn (ha pos pins s σ H _ I h) fun us s1 ⟨vs,H1,I1,r1,q1⟩=>?_) hs rfl));obtain⟨j,e,q1,q2,q⟩:=q1;subst e;cases r1 with
 | cons r rr=>
   cases rr;obtain⟨t,rfl⟩:=r;exact call_range_1 (ot I1 (by lia) (by lia) q1 q2 (by simpa using q))
theorem sV{a b:Expr}{ta:TA}{p pos:Pos}(hg:Gl X "range")(hm:X.mg "range"=none)(ha:PA X [a,b] ta)(hs:starEach [a,b] X.env=[(false,eval a X.env),(false,eval b X.env)])(hs2:starEach [b] X.env=[(false,eval b X.env)]):
 PI X tg (.Call (.Name "range" p) [a,b] [] pos) (u9 ta):=by
 intro pins s σ H R I h;refine Call_ (fK I hg hm boot_range (PyProof.Rows.callWith_type1 (thn (ha pos pins s σ H _ I h) fun us s1 ⟨vs,H1,I1,r1,q1⟩=>?_) (by rw[hs,hs2]) (by rw[hs2];rfl)));obtain⟨i,j,e,⟨q1,q2,q3,q4⟩,q⟩:=q1;subst e;cases r1 with
 | cons r rr=>
   cases rr with
   | cons r' rr=>
     cases rr;obtain⟨t,rfl⟩:=r;obtain⟨t',rfl⟩:=r';exact call_range_2 (ot I1 q1 q2 q3 q4 q)
def va(wi:TI)(g:TG)(tb:TS):TS:=fun D σ H=>wi σ H fun J H1=>∃W:Nat->Nat->St->Hp->Prop,(∃m,W 0 m σ H1)/\∀i m σ H,W i m σ H->
 (J.stop i H/\D.nx σ H)\/(J.go i H/\∃N:St->Hp->Prop,(∀σ' H',N σ' H'->∃m',m'<m/\W (i+1) m' σ' H')/\∀x H',J.yld i H x H'->g x σ H' fun σ2 H2=>tb {D with nx:=N,ct:=N,bk:=D.nx} σ2 H2)
noncomputable def iU(fp:List Addr)(h:Heap):List (Addr×Obj):=fp.filterMap fun b=>(h.get? b).map fun o=>(b,o)
theorem dF{fp:List Addr}{h:Heap}{b:Addr}{o:Obj}(hb:b∈fp)(e:h.get? b=some o):(b,o)∈iU fp h:=mem_filterMap.mpr ⟨b,hb,by rw[e];rfl⟩
theorem sW{fp:List Addr}{h:Heap}{p:Addr×Obj}(hp:p∈iU fp h):p.1∈fp/\h.get? p.1=some p.2:=by
 obtain⟨b,hb,e⟩:=mem_filterMap.mp hp;cases q:h.get? b with
 | none=>rw[q]at e;cases e
 | some o=>
   rw[q]at e;have e':(b,o)=p:=Za e;subst e';exact⟨hb,q⟩
theorem Inv.pinned{pins:List (Addr×Obj)}{σ:St}{H:Hp}{s:Shared}{fp:List Addr}(I:Inv X pins σ H s)(hf:∀b∈fp,jI X pins H b)(ho:∀b∈fp,∃o,s.heap.get? b=some o/\∀v,o.data≠ .cell v):Inv X (pins++iU fp s.heap) σ H s:=
 I.pins_of fun p hp=>(Xg hp).elim (fun z=>I.pin p (Yp _ z)) fun z=>by
  obtain⟨hb,e⟩:=sW z;obtain⟨f0,f1,f2,_⟩:=hf p.1 hb;obtain⟨o,e',d⟩:=ho p.1 hb;rw[e]at e';cases e';exact⟨e,f0,f1,f2,d⟩
theorem Inv.unpinned{pins pl:List (Addr×Obj)}{σ:St}{H:Hp}{s:Shared}(I:Inv X (pins++pl) σ H s):Inv X pins σ H s:=I.pins_of fun p hp=>I.pin p (Yp _ (Yo _ hp))
theorem zN{iter:Expr}{body:List Stmt}{wi:TI}{g:TG}{tb:TS}{pos:Pos}(hp:PassesOwn (model X.prog X.w) X.A X.env X.xe)(hc:X.calm=true)(hi:PI X tg iter wi)(hg:PG X tg g)(hb:PSs X body tb)
 (hs:∀x,foldedSetIterable iter X.env x=pure x):PS X (.For tg iter body [] pos) (va wi g tb):=by
 intro pins s σ H D I h;refine wpAny_For (thn (hi pins s σ H _ I h) fun v s1 h1=>thn h1 fun itv s2 h2=>?_) hs;obtain⟨it,fp,tn,J,H2,e,I2,T,st2,f2,W,⟨m0,w0⟩,turn⟩:=h2;subst e;have stat:∀{H':Hp},(∀b∈fp,H' b=none)->∀b∈fp,jI X pins H' b:=fun hn b hb=>⟨hn b hb,(f2 b hb).2⟩
 refine codeAny_forLoop_any (fun n s'=>∃i σ' H',Inv X pins σ' H' s'/\tn i s'.heap/\(∀b∈fp,H' b=none)/\W i n σ' H') ?_ m0 ⟨0,σ,H2,I2,st2,fun b hb=>(f2 b hb).1,w0⟩;rintro n s3 ⟨i,σ3,H3,I3,st3,fr3,w3⟩;rcases turn i n σ3 H3 w3 with⟨stop,qn⟩|⟨go,N,hN,step⟩
 ·refine wpAny_passesOwn hp (thn (T.done X rfl rfl rfl hc i pins s3 σ3 H3 X.xe I3 (stat fr3) st3 stop) fun r s4 ⟨hr,I4⟩=>?_);subst hr;exact wpAny_execs_nil ⟨σ3,H3,I4,qn⟩
 ·refine wpAny_passesOwn hp (thn (T.item X rfl rfl rfl hc i pins s3 σ3 H3 X.xe I3 (stat fr3) st3 go) fun r s4 ⟨u,hr,h4⟩=>?_);subst hr;refine wpAny_passesOwn hp (thn h4 fun _ s5 ⟨x,H5,I5,r5,y5,st5,fr5⟩=>?_);have I5':=I5.pinned (stat fr5) (T.obj _ _ st5);refine wpAny_passesOwn hp (thn (hg _ s5 σ3 H5 x u _ I5' r5 (step x H5 y5)) fun _ s6 ⟨σ6,H6,I6,q6⟩=>?_);refine wpAny_passesOwn hp (thn (hb _ s6 σ6 H6 _ I6 q6) fun f s7 q7=>?_);have again:∀{σ7:St} {H7:Hp},Inv X (pins++iU fp s5.heap) σ7 H7 s7->N σ7 H7->∃m,m<n/\∃i σ' H',Inv X pins σ' H' s7/\tn i s7.heap/\(∀b∈fp,H' b=none)/\W i m σ' H':=fun{σ7 H7} I7 n7=>by
   obtain⟨m',hm,w7⟩:=hN σ7 H7 n7;refine⟨m',hm,i+1,σ7,H7,I7.unpinned,T.keep _ _ _ st5 fun b hb o e=>(I7.pin (b,o) (Yp _ (Yp _ (dF hb e)))).1,fun b hb=>?_,w7⟩;obtain⟨o,e,d⟩:=T.obj _ _ st5 b hb;exact(I7.pin (b,o) (Yp _ (Yp _ (dF hb e)))).2.1
  cases f with
  | next=>obtain⟨σ7,H7,I7,n7⟩:=q7;exact again I7 n7
  | cont=>obtain⟨σ7,H7,I7,n7⟩:=q7;exact again I7 n7
  | brk=>obtain⟨σ7,H7,I7,q7⟩:=q7;exact⟨σ7,H7,I7.unpinned,q7⟩
  | ret v=>obtain⟨x7,σ7,H7,I7,r7,q7⟩:=q7;exact⟨x7,σ7,H7,I7.unpinned,r7,q7⟩
end
theorem bQ{K:PySem.W.Frag}{a:Addr}{xs:List V}{g:TG}{tb:TS}{D:gH}{σ:St}{H:Hp}(Pv:Nat->St->Hp->Prop)(h0:Pv 0 σ H)(hl:∀i σ H,i<=xs.length->Pv i σ H->SqL K H a xs)
 (hs:∀i x σ H,xs[i]? =some x->Pv i σ H->g x σ H fun σ2 H2=>tb {D with nx:=Pv (i+1),ct:=Pv (i+1),bk:=D.nx} σ2 H2) (hd:∀σ H,Pv xs.length σ H->D.nx σ H):
 ∃W:Nat->Nat->St->Hp->Prop,(∃m,W 0 m σ H)/\∀i m σ H,W i m σ H->
  ((Itl K a).stop i H/\D.nx σ H)\/((Itl K a).go i H/\∃N:St->Hp->Prop,(∀σ' H',N σ' H'->∃m',m'<m/\W (i+1) m' σ' H')/\∀x H',(Itl K a).yld i H x H'->g x σ H' fun σ2 H2=>tb {D with nx:=N,ct:=N,bk:=D.nx} σ2 H2):=by
 refine⟨fun i m σ H=>m=xs.length-i/\i<=xs.length/\Pv i σ H,⟨xs.length,by simp,X7 _,h0⟩,?_⟩;rintro i m σ H ⟨rfl,hi,p⟩;have q:=hl i σ H hi p;by_cases hlt:i<xs.length
 ·refine .inr ⟨⟨xs,xs[i],q,by simp[hlt]⟩,Pv (i+1),fun σ' H' p'=>⟨xs.length-(i+1),by lia,rfl,hlt,p'⟩,fun x H' y=>?_⟩;obtain⟨e,y⟩:=y;subst e;exact hs i x σ _ (y xs q) p
 ·have e:i=xs.length:=by lia
  subst e;exact .inl ⟨⟨xs,q,Zi _⟩,hd σ H p⟩
theorem xG{K:PySem.W.Frag}{a:Addr}{xs:List V}{g:TG}{tb:TS}{D:gH}{σ:St}{H:Hp}(Pv:Nat->St->Hp->Prop)(h0:Pv 0 σ H)(hl:∀i σ H,i<=xs.length->Pv i σ H->SqT K H a xs)
 (hs:∀i x σ H,xs[i]? =some x->Pv i σ H->g x σ H fun σ2 H2=>tb {D with nx:=Pv (i+1),ct:=Pv (i+1),bk:=D.nx} σ2 H2) (hd:∀σ H,Pv xs.length σ H->D.nx σ H):
 ∃W:Nat->Nat->St->Hp->Prop,(∃m,W 0 m σ H)/\∀i m σ H,W i m σ H->
  ((Itt K a).stop i H/\D.nx σ H)\/((Itt K a).go i H/\∃N:St->Hp->Prop,(∀σ' H',N σ' H'->∃m',m'<m/\W (i+1) m' σ' H')/\∀x H',(Itt K a).yld i H x H'->g x σ H' fun σ2 H2=>tb {D with nx:=N,ct:=N,bk:=D.nx} σ2 H2):=by
 refine⟨fun i m σ H=>m=xs.length-i/\i<=xs.length/\Pv i σ H,⟨xs.length,by simp,X7 _,h0⟩,?_⟩;rintro i m σ H ⟨rfl,hi,p⟩;have q:=hl i σ H hi p;by_cases hlt:i<xs.length
 ·refine .inr ⟨⟨xs,xs[i],q,by simp[hlt]⟩,Pv (i+1),fun σ' H' p'=>⟨xs.length-(i+1),by lia,rfl,hlt,p'⟩,fun x H' y=>?_⟩;obtain⟨e,y⟩:=y;subst e;exact hs i x σ _ (y xs q) p
 ·have e:i=xs.length:=by lia
  subst e;exact .inl ⟨⟨xs,q,Zi _⟩,hd σ H p⟩
theorem dz{lo:Int}{n:Nat}{g:TG}{tb:TS}{D:gH}{σ:St}{H:Hp}(Pv:Nat->St->Hp->Prop)(h0:Pv 0 σ H)
 (hs:∀i σ H,i<n->Pv i σ H->g (.int (lo+i)) σ H fun σ2 H2=>tb {D with nx:=Pv (i+1),ct:=Pv (i+1),bk:=D.nx} σ2 H2) (hd:∀σ H,Pv n σ H->D.nx σ H):
 ∃W:Nat->Nat->St->Hp->Prop,(∃m,W 0 m σ H)/\∀i m σ H,W i m σ H->
  ((Itr lo n).stop i H/\D.nx σ H)\/((Itr lo n).go i H/\∃N:St->Hp->Prop,(∀σ' H',N σ' H'->∃m',m'<m/\W (i+1) m' σ' H')/\∀x H',(Itr lo n).yld i H x H'->g x σ H' fun σ2 H2=>tb {D with nx:=N,ct:=N,bk:=D.nx} σ2 H2):=by
 refine⟨fun i m σ H=>m=n-i/\i<=n/\Pv i σ H,⟨n,by simp,X7 _,h0⟩,?_⟩;rintro i m σ H ⟨rfl,hi,p⟩;by_cases hlt:i<n
 ·refine .inr ⟨hlt,Pv (i+1),fun σ' H' p'=>⟨n-(i+1),by lia,rfl,hlt,p'⟩,fun x H' y=>?_⟩;obtain⟨e,y⟩:=y;subst e y;exact hs i σ _ hlt p
 ·have e:i=n:=by lia
  subst e;exact .inl ⟨Zi _,hd σ H p⟩
noncomputable abbrev R2:=V->V->Hp->VK->Prop
def OpR(X:Cx)(f:Value->Value->Sem Value)(r:R2):Prop:=
 ∀(pins:List (Addr×Obj)) (s:Shared) (σ:St) (H:Hp) (x y:V) (v u:Value) (Q:VK),Inv X pins σ H s->aA x v->aA y u->r x y H Q->
  wpAny (model X.prog X.w) X.A (f v u) (EP X pins σ Q) X.xe s
def UnR(X:Cx)(f:Value->Sem Value)(r:V->Hp->VK->Prop):Prop:=
 ∀(pins:List (Addr×Obj)) (s:Shared) (σ:St) (H:Hp) (x:V) (v:Value) (Q:VK),Inv X pins σ H s->aA x v->r x H Q->
  wpAny (model X.prog X.w) X.A (f v) (EP X pins σ Q) X.xe s
def cq(X:Cx)(f:Value)(r:List V->Hp->VK->Prop):Prop:=
 ∀(pins:List (Addr×Obj)) (s:Shared) (σ:St) (H:Hp) (xs:List V) (us:List Value) (Q:VK),Inv X pins σ H s->aC xs us->r xs H Q->
  wpAny (model X.prog X.w) X.A (call f us) (EP X pins σ Q) X.xe s
def TruR(X:Cx)(r:V->Hp->(Bool->Hp->Prop)->Prop):Prop:=
 ∀(pins:List (Addr×Obj)) (s:Shared) (σ:St) (H:Hp) (x:V) (v:Value) (Q:Bool->Hp->Prop),Inv X pins σ H s->aA x v->r x H Q->
  wpAny (model X.prog X.w) X.A (truthy v) (TP X pins σ Q) X.xe s
def tOp(r:R2)(ta tb:TE):TE:=fun σ H Q=>ta σ H fun x H1=>tb σ H1 fun y H2=>r x y H2 Q
def tUn(r:V->Hp->VK->Prop)(ta:TE):TE:=fun σ H Q=>ta σ H fun x H1=>r x H1 Q
def rI(C:Int->Int->Prop)(g:Int->Int->V):R2:=fun x y H Q=>asI x fun i=>asI y fun j=>C i j/\Q (g i j) H
def rI0(g:Int->Int->V):R2:=fun x y H Q=>asI x fun i=>asI y fun j=>Q (g i j) H
def rU(g:Int->V):V->Hp->VK->Prop:=fun x H Q=>asI x fun i=>Q (g i) H
section
variable{X:Cx}{a b c:Expr}{ta tb tc:TE}{pos:Pos}
theorem zO(ha:PE X a ta)(hb:PE X b tb){pins:List (Addr×Obj)}{s:Shared}{σ:St}{H:Hp}{R:V->V->Hp->Prop}(I:Inv X pins σ H s)
 (h:ta σ H fun x H1=>tb σ H1 fun y H2=>R x y H2) {Q:Value->Shared->Prop} {f:Value->Value->Sem Value}
 (hf:∀v u s2 x y H2,Inv X pins σ H2 s2->aA x v->aA y u->R x y H2->wpAny (model X.prog X.w) X.A (f v u) Q X.xe s2):
 wpAny (model X.prog X.w) X.A (eval a X.env) (fun v s₁=>wpAny (model X.prog X.w) X.A (eval b X.env) (fun u s₂=>wpAny (model X.prog X.w) X.A (f v u) Q X.xe s₂) X.xe s₁) X.xe s:=by
 refine thn (ha pins s σ H _ I h) fun v s1 ⟨x,H1,I1,r1,q1⟩=>?_
 refine thn (hb pins s1 σ H1 _ I1 q1) fun u s2 ⟨y,H2,I2,r2,q2⟩=>?_
 exact hf v u s2 x y H2 I2 r1 r2 q2
theorem Bn{op:Operator}{r:R2}(ho:OpR X (binaryOp op) r)(ha:PE X a ta)(hb:PE X b tb):PE X (.BinOp a op b pos) (tOp r ta tb):=by
 intro pins s σ H Q I h;exact wpAny_BinOp (zO ha hb I h fun v u s2 x y H2 I2 rx ry q=>ho pins s2 σ H2 x y v u Q I2 rx ry q)
theorem Bo{op:UnaryOp}{r:V->Hp->VK->Prop}(ho:UnR X (unaryOp op) r)(ha:PE X a ta):PE X (.UnaryOp op a pos) (tUn r ta):=by
 intro pins s σ H Q I h;exact UnaryOp_ (thn (ha pins s σ H _ I h) fun v s1 ⟨x,H1,I1,r1,q1⟩=>ho pins s1 σ H1 x v Q I1 r1 q1)
theorem opI{f:Value->Value->Sem Value}{C:Int->Int->Prop}{g:Int->Int->Int}
 (rule:∀(i j:Int) (t u:Tok) (s:Shared) (Q:Value->Shared->Prop) (E:Value->Shared->Prop),C i j->Q (.int (g i j) s.toks) {s with toks:=s.toks+1}->wpAny (model X.prog X.w) X.A (f (.int i t) (.int j u)) Q E s):
 OpR X f (rI C fun i j=> .int (g i j)):=by
 intro pins s σ H x y v u Q I rx ry h;obtain⟨i,rfl,h2⟩:=fJ h;obtain⟨j,rfl,hc,q⟩:=fJ h2;obtain⟨t,rfl⟩:=rx;obtain⟨t',rfl⟩:=ry;exact rule i j t t' s _ _ hc ⟨.int (g i j),H,I.tok _,⟨_,rfl⟩,q⟩
theorem Bp{f:Value->Value->Sem Value}{g:Int->Int->Int}
 (rule:∀(i j:Int) (t u:Tok) (s:Shared) (Q:Value->Shared->Prop) (E:Value->Shared->Prop),Q (.int (g i j) s.toks) {s with toks:=s.toks+1}->wpAny (model X.prog X.w) X.A (f (.int i t) (.int j u)) Q E s):
 OpR X f (rI0 fun i j=> .int (g i j)):=by
 intro pins s σ H x y v u Q I rx ry h;obtain⟨i,rfl,h2⟩:=fJ h;obtain⟨j,rfl,q⟩:=fJ h2;obtain⟨t,rfl⟩:=rx;obtain⟨t',rfl⟩:=ry;exact rule i j t t' s _ _ ⟨.int (g i j),H,I.tok _,⟨_,rfl⟩,q⟩
theorem zP{f:Value->Value->Sem Value}{g:Int->Int->Bool}
 (rule:∀(i j:Int) (t u:Tok) (s:Shared) (Q:Value->Shared->Prop) (E:Value->Shared->Prop),Q (.bool (g i j)) s->wpAny (model X.prog X.w) X.A (f (.int i t) (.int j u)) Q E s):
 OpR X f (rI0 fun i j=> .bl (g i j)):=by
 intro pins s σ H x y v u Q I rx ry h;obtain⟨i,rfl,h2⟩:=fJ h;obtain⟨j,rfl,q⟩:=fJ h2;obtain⟨t,rfl⟩:=rx;obtain⟨t',rfl⟩:=ry;exact rule i j t t' s _ _ ⟨.bl (g i j),H,I,rfl,q⟩
def Bq(i j:Int):Prop:=0<j/\j<1073741824
def vb(i j:Int):Prop:=(-(2^64)<i/\i<2^64)\/(-(2^64)<j/\j<2^64)
theorem vb.ok{i j:Int}(h:vb i j):IntMulOk i j:=by
 rcases h with⟨h1,h2⟩|⟨h1,h2⟩
 ·exact .of_left (intBits_le_64 h1 h2)
 ·exact .of_right (intBits_le_64 h1 h2)
theorem vc:OpR X (binaryOp .Add) (rI0 fun i j=> .int (i+j)):=Bp fun _ _ _ _ _ _ _ q=>add_int q
theorem zQ:OpR X (binaryOp .Sub) (rI0 fun i j=> .int (i-j)):=Bp fun _ _ _ _ _ _ _ q=>sub_int q
theorem vd:OpR X (binaryOp .Mult) (rI vb fun i j=> .int (i*j)):=opI fun _ _ _ _ _ _ _ hc q=>mul_int q hc.ok
theorem xH:OpR X (binaryOp .FloorDiv) (rI Bq fun i j=> .int (i/j)):=opI fun i j _ _ _ _ _ hc q=>by
 have h1:(0:Int)<j:=hc.1;have h2:j<1073741824:=hc.2;exact floordiv_int (by lia) (by rw[Int.fdiv_eq_ediv_of_nonneg i (by lia)];exact q) (.inl (PyProof.noPylong_small (by lia)))
theorem zR:OpR X (binaryOp .Mod) (rI (fun _ j=>0<j) fun i j=> .int (i%j)):=opI fun i j _ _ _ _ _ hc q=>by
 have h1:(0:Int)<j:=hc;exact mod_int' (by lia) (by rw[Int.fmod_eq_emod_of_nonneg i (by lia)];exact q)
theorem unI{f:Value->Sem Value}{g:Int->Int}
 (rule:∀(i:Int) (t:Tok) (s:Shared) (Q:Value->Shared->Prop) (E:Value->Shared->Prop),Q (.int (g i) s.toks) {s with toks:=s.toks+1}->wpAny (model X.prog X.w) X.A (f (.int i t)) Q E s):
 UnR X f (rU fun i=> .int (g i)):=by
 intro pins s σ H x v Q I rx h;obtain⟨i,rfl,q⟩:=fJ h;obtain⟨t,rfl⟩:=rx;exact rule i t s _ _ ⟨.int (g i),H,I.tok _,⟨_,rfl⟩,q⟩
theorem zS:UnR X (unaryOp .USub) (rU fun i=> .int (-i)):=unI fun _ _ _ _ _ q=>neg_int q
end
noncomputable def zT:V->V->Bool
 | .non,.non=>true| .non,.int _=>true| .int _,.non=>true| .non,.bl _=>true| .bl _,.non=>true| .non,.str _=>true| .str _,.non=>true
 | .int _,.int _=>true| .bl _,.bl _=>true| .str _,.str _=>true| .byt _,.byt _=>true
 | .int _,.str _=>true| .str _,.int _=>true| .bl _,.str _=>true| .str _,.bl _=>true
 | _,_=>false
def rEq:R2:=fun x y H Q=>zT x y=true/\Q (.bl (decide (x=y))) H
def rNe:R2:=fun x y H Q=>zT x y=true/\Q (.bl (!decide (x=y))) H
theorem rV{i j:Int}:decide (V.int i=V.int j)=(i==j):=by
 rw[Bool.eq_iff_iff];simp
theorem ve{i j:Bool}:decide (V.bl i=V.bl j)=(i==j):=by
 rw[Bool.eq_iff_iff];simp
theorem rW{i j:Str}:decide (V.str i=V.str j)=(i==j):=by
 rw[Bool.eq_iff_iff];simp
theorem rX{i j:Array UInt8}:decide (V.byt i=V.byt j)=(i.toList==j.toList):=by
 rw[Bool.eq_iff_iff];cases i;cases j;simp
section
variable{X:Cx}{a b c:Expr}{ta tb tc:TE}{pos:Pos}
theorem aP{pins:List (Addr×Obj)}{σ:St}{H:Hp}{s:Shared}{Q:VK}{k k':Bool}(I:Inv X pins σ H s)(q:Q (.bl k) H)(e:k=k'):EP X pins σ Q (.bool k') s:=by
 subst e;exact⟨.bl k,H,I,rfl,q⟩
theorem Br:OpR X (compareOp .Eq) rEq:=by
 intro pins s σ H x y v u Q I rx ry h;obtain⟨hs,q⟩:=h;cases x with
 | non=>
   cases rx;cases y with
   | non=>cases ry;exact PySem.EqNone.eq_none_none (aP I q (by simp))
   | bl j=>cases ry;exact PySem.EqNone.eq_none_bool (aP I q (by simp))
   | int j=>obtain⟨t',rfl⟩:=ry;exact PySem.EqNone.eq_none_int (aP I q (by simp))
   | str j=>obtain⟨t',rfl⟩:=ry;exact PySem.EqNone.eq_none_str (aP I q (by simp))
   | _=>exact absurd (show false=true from hs) Zu
 | bl i=>
   cases rx;cases y with
   | non=>cases ry;exact PySem.EqNone.eq_bool_none (aP I q (by simp))
   | bl j=>cases ry;exact eq_bool (aP I q ve)
   | str j=>obtain⟨t',rfl⟩:=ry;exact PySem.EqMixed.eq_bool_str (aP I q (by simp))
   | _=>exact absurd (show false=true from hs) Zu
 | int i=>
   obtain⟨t,rfl⟩:=rx;cases y with
   | non=>cases ry;exact PySem.EqNone.eq_int_none (aP I q (by simp))
   | int j=>obtain⟨t',rfl⟩:=ry;exact eq_int (aP I q rV)
   | str j=>obtain⟨t',rfl⟩:=ry;exact PySem.EqMixed.eq_int_str (aP I q (by simp))
   | _=>exact absurd (show false=true from hs) Zu
 | str i=>
   obtain⟨t,rfl⟩:=rx;cases y with
   | non=>cases ry;exact PySem.EqNone.eq_str_none (aP I q (by simp))
   | bl j=>cases ry;exact PySem.EqMixed.eq_str_bool (aP I q (by simp))
   | int j=>obtain⟨t',rfl⟩:=ry;exact PySem.EqMixed.eq_str_int (aP I q (by simp))
   | str j=>obtain⟨t',rfl⟩:=ry;exact eq_str (aP I q rW)
   | _=>exact absurd (show false=true from hs) Zu
 | byt i=>
   obtain⟨t,rfl⟩:=rx;cases y with
   | byt j=>obtain⟨t',rfl⟩:=ry;exact PySem.W.eq_bytes (aP I q rX)
   | _=>exact absurd (show false=true from hs) Zu
 | _=>cases y<;> exact absurd (show false=true from hs) Zu
theorem y6:OpR X (compareOp .NotEq) rNe:=by
 intro pins s σ H x y v u Q I rx ry h;obtain⟨hs,q⟩:=h;cases x with
 | non=>
   cases rx;cases y with
   | non=>cases ry;exact PySem.EqNone.ne_none_none (aP I q (by simp))
   | bl j=>cases ry;exact PySem.EqNone.ne_none_bool (aP I q (by simp))
   | int j=>obtain⟨t',rfl⟩:=ry;exact PySem.EqNone.ne_none_int (aP I q (by simp))
   | str j=>obtain⟨t',rfl⟩:=ry;exact PySem.EqNone.ne_none_str (aP I q (by simp))
   | _=>exact absurd (show false=true from hs) Zu
 | bl i=>
   cases rx;cases y with
   | non=>cases ry;exact PySem.EqNone.ne_bool_none (aP I q (by simp))
   | bl j=>cases ry;exact ne_bool (aP I q (congrArg not ve))
   | str j=>obtain⟨t',rfl⟩:=ry;exact PySem.EqMixed.ne_bool_str (aP I q (by simp))
   | _=>exact absurd (show false=true from hs) Zu
 | int i=>
   obtain⟨t,rfl⟩:=rx;cases y with
   | non=>cases ry;exact PySem.EqNone.ne_int_none (aP I q (by simp))
   | int j=>obtain⟨t',rfl⟩:=ry;exact ne_int (aP I q (congrArg not rV))
   | str j=>obtain⟨t',rfl⟩:=ry;exact PySem.EqMixed.ne_int_str (aP I q (by simp))
   | _=>exact absurd (show false=true from hs) Zu
 | str i=>
   obtain⟨t,rfl⟩:=rx;cases y with
   | non=>cases ry;exact PySem.EqNone.ne_str_none (aP I q (by simp))
   | bl j=>cases ry;exact PySem.EqMixed.ne_str_bool (aP I q (by simp))
   | int j=>obtain⟨t',rfl⟩:=ry;exact PySem.EqMixed.ne_str_int (aP I q (by simp))
   | str j=>obtain⟨t',rfl⟩:=ry;exact ne_str (aP I q (congrArg not rW))
   | _=>exact absurd (show false=true from hs) Zu
 | byt i=>
   obtain⟨t,rfl⟩:=rx;cases y with
   | byt j=>obtain⟨t',rfl⟩:=ry;exact PySem.W.ne_bytes (aP I q (congrArg not rX))
   | _=>exact absurd (show false=true from hs) Zu
 | _=>cases y<;> exact absurd (show false=true from hs) Zu
theorem Bs:OpR X (compareOp .Lt) (rI0 fun i j=> .bl (decide (i<j))):=zP fun _ _ _ _ _ _ _ q=>lt_int q
theorem Bt:OpR X (compareOp .LtE) (rI0 fun i j=> .bl (decide (i<=j))):=zP fun _ _ _ _ _ _ _ q=>le_int q
theorem Bu:OpR X (compareOp .Gt) (rI0 fun i j=> .bl (decide (j<i))):=zP fun _ _ _ _ _ _ _ q=>gt_int q
theorem sX:OpR X (compareOp .In) (fun x y H Q=>∃i j,x= .str i/\y= .str j/\Q (.bl (!(Builtin.Str.occurrences j i 0 j.length 1).isEmpty)) H):=by
 intro pins s σ H x y v u Q I rx ry h;obtain⟨i,j,rfl,rfl,q⟩:=h;obtain⟨t,rfl⟩:=rx;obtain⟨t',rfl⟩:=ry;exact in_str (aP I q rfl)
theorem OpR.or{f:Value->Value->Sem Value}{r r':R2}(h:OpR X f r)(h':OpR X f r'):OpR X f (fun x y H Q=>r x y H Q\/r' x y H Q):=by
 intro pins s σ H x y v u Q I rx ry q;rcases q with q|q
 ·exact h pins s σ H x y v u Q I rx ry q
 ·exact h' pins s σ H x y v u Q I rx ry q
theorem nomark(b:Expr){op:CmpOp}(h:op≠ .In)(h2:op≠ .NotIn):behindInMarks op b=false:=by
 have e1:(op==CmpOp.In)=false:=by cases op<;> first|rfl|exact absurd rfl h
 have e2:(op==CmpOp.NotIn)=false:=by cases op<;> first|rfl|exact absurd rfl h2
 cases b<;> simp[behindInMarks,e1,e2]
theorem xI{op:CmpOp}{r:R2}(ho:OpR X (compareOp op) r)(ha:PE X a ta)(hb:PE X b tb)(hm:behindInMarks op b=false):PE X (.Compare a [op] [b] pos) (tOp r ta tb):=by
 intro pins s σ H Q I h;exact wpAny_Compare1 (zO ha hb I h fun v u s2 x y H2 I2 rx ry q=>ho pins s2 σ H2 x y v u Q I2 rx ry q) hm
def vf(t:TE):TT:=fun σ H Q=>t σ H fun x H'=>asB x fun k=>Q k H'
theorem xJ{op:CmpOp}{r:R2}(ho:OpR X (compareOp op) r)(ha:PE X a ta)(hb:PE X b tb)(hm:behindInMarks op b=false):PT X (.Compare a [op] [b] pos) (vf (tOp r ta tb)):=by
 intro pins s σ H Q I h;refine wpAny_isTrue_Compare1 (thn (ha pins s σ H _ I h) fun v s1 ⟨x,H1,I1,r1,q1⟩=>thn (hb pins s1 σ H1 _ I1 q1) fun u s2 ⟨y,H2,I2,r2,q2⟩=>
  thn (ho pins s2 σ H2 x y v u _ I2 r1 r2 q2) fun c s3 ⟨z,H3,I3,r3,q3⟩=>?_) hm
 obtain⟨k,rfl,q3⟩:=lL q3;cases r3;exact wpAny_truthy_bool ⟨H3,I3,q3⟩
def qc(r r':R2)(ta tb tc:TE):TE:=fun σ H Q=>ta σ H fun x H1=>tb σ H1 fun y H2=>r x y H2 fun z H3=>asB z fun k=>
 (if k=true then tc σ H3 fun w' H4=>r' y w' H4 Q else Q (.bl false) H3)
theorem vg{op op':CmpOp}{r r':R2}(ho:OpR X (compareOp op) r)(ho':OpR X (compareOp op') r')(ha:PE X a ta)(hb:PE X b tb)(hc:PE X c tc)
 (hm:lastMarks [op,op'] [b,c]=false):PE X (.Compare a [op,op'] [b,c] pos) (qc r r' ta tb tc):=by
 intro pins s σ H Q I h;refine Compare_chain (thn (ha pins s σ H _ I h) fun v s1 ⟨x,H1,I1,r1,q1⟩=>chain_link (thn (hb pins s1 σ H1 _ I1 q1) fun u s2 ⟨y,H2,I2,r2,q2⟩=>
  thn (ho pins s2 σ H2 x y v u _ I2 r1 r2 q2) fun d s3 ⟨z,H3,I3,r3,q3⟩=>?_)) hm
 obtain⟨k,rfl,q3⟩:=lL q3;cases r3;refine wpAny_truthy_bool ?_;cases k with
 | false=>exact ite_ff ⟨.bl false,H3,I3,rfl,q3⟩
 | true=>exact ite_tt (chain_last (thn (hc pins s3 σ H3 _ I3 q3) fun w' s4 ⟨z',H4,I4,r4,q4⟩=>ho' pins s4 σ H4 y z' u w' Q I4 r2 r4 q4))
def vh(K:PySem.W.Frag)(x:V)(H:Hp)(k:Bool):Prop:=
 match x with
 | .non=>k=false
 | .bl b=>k=b
 | .int i=>k=(i != 0)
 | .str y=>y.length<=sizeLine/\k=((y.length:Int) != 0)
 | .byt y=>y.size<=sizeLine/\k=((y.size:Int) != 0)
 | .ref p=>(∃xs,SqL K H p xs/\k=!xs.isEmpty)\/(∃xs,SqT K H p xs/\k=!xs.isEmpty)\/∃kvs,H p=some (.dK kvs)/\k=!kvs.isEmpty
 | _=>False
theorem qd{κ:Type}{kvs:List (κ×V)}{vs:List (κ×Value)}(r:KV kvs vs):(!vs.isEmpty)=!kvs.isEmpty:=by
 cases r<;> rfl
theorem j9{xs:List V}{its:List Value}(r:aC xs its):(!its.toArray.isEmpty)=!xs.isEmpty:=by
 cases r<;> simp
theorem kc:(sizeLine:Nat)<2^63:=by rw[sizeLine_eq];decide
theorem zU:TruR X (fun x H Q=>∃k,vh X.K x H k/\Q k H):=by
 intro pins s σ H x v Q I rx h;obtain⟨k,e,q⟩:=h;have hl:=kc;have hs:sizeLine=16777216:=sizeLine_eq;cases x with
 | non=>
   cases rx;have e':k=false:=e;subst e';exact truthy_none ⟨H,I,q⟩
 | bl b=>
   cases rx;have e':k=b:=e;subst e';exact wpAny_truthy_bool ⟨H,I,q⟩
 | int i=>
   obtain⟨t,rfl⟩:=rx;have e':k=(i != 0):=e;subst e';exact PySem.P.truthy_int ⟨H,I,q⟩
 | str y=>
   obtain⟨t,rfl⟩:=rx;obtain⟨hy,e'⟩:y.length<=sizeLine/\k=((y.length:Int) != 0):=e;subst e';exact PySem.P.truthy_str (by lia) ⟨H,I.tok _,q⟩
 | byt y=>
   obtain⟨t,rfl⟩:=rx;obtain⟨hy,e'⟩:y.size<=sizeLine/\k=((y.size:Int) != 0):=e;subst e';exact PySem.W.truthy_bytes (by lia) ⟨H,I.tok _,q⟩
 | ref p=>
   cases rx;have e':(∃xs,SqL X.K H p xs/\k=!xs.isEmpty)\/(∃xs,SqT X.K H p xs/\k=!xs.isEmpty)\/∃kvs,H p=some (.dK kvs)/\k=!kvs.isEmpty:=e;rcases e' with⟨xs,hx,e'⟩|⟨xs,hx,e'⟩|⟨kvs,hx,e'⟩
   ·subst e';obtain⟨its,r,pl,hz⟩:=I.list hx;have hlen:=r.length;exact wpAny_truthy_list pl.isList (by simp only[Zp];lia) ⟨H,I.tok _,by rw[j9 r];exact q⟩
   ·subst e';obtain⟨its,r,pl,hz⟩:=I.tuple hx;have hlen:=r.length;exact truthy_tuple pl (by simp only[Zp];lia) ⟨H,I.tok _,by rw[j9 r];exact q⟩
   ·subst e';obtain⟨hz,hS,vs,r,m⟩:kvs.length<=sizeLine/\(p==sysModules)=false/\∃vs,KV kvs vs/\s.heap.DictOf (aB X.prog X.w) p vs:=I.hok p _ hx;have hlen:kvs.length=vs.length:=Paired.length r;exact wpAny_truthy_dict hS m (by lia) ⟨H,I.tok _,by rw[qd r];exact q⟩
 | _=>exact(show False from e).elim
theorem vk(ha:PE X a ta)(he:∀whole,isTrue a X.env whole=(do let v<-whole;standAt a.pos;holding [v] (truthy v))):
 PT X a (fun σ H Q=>ta σ H fun x H'=>∃k,vh X.K x H' k/\Q k H'):=by
 intro pins s σ H Q I h;exact isTrue_plain (thn (ha pins s σ H _ I h) fun v s1 ⟨x,H1,I1,r1,q1⟩=>zU pins s1 σ H1 x v Q I1 r1 q1) (he _)
theorem qe:OpR X (binaryOp .Add) (fun x y H Q=>∃i j,x= .str i/\y= .str j/\i.length+j.length<=sizeLine/\Q (.str (i++j)) H):=by
 intro pins s σ H x y v u Q I rx ry h;obtain⟨i,j,rfl,rfl,hz,q⟩:=h;obtain⟨t,rfl⟩:=rx;obtain⟨t',rfl⟩:=ry;exact add_str (fun t' tk=>⟨.str (i++j),H,I.tok _,⟨_,rfl⟩,q⟩) hz
theorem d0{x:V}{us:List Value}(r:aC [x] us):∃u,us=[u]/\aA x u:=by
 cases r with
 | cons r1 r2=>cases r2;exact⟨_,rfl,r1⟩
theorem jt{x y:V}{us:List Value}(r:aC [x,y] us):∃u w',us=[u,w']/\aA x u/\aA y w':=by
 cases r with
 | cons r1 r2=>
   cases r2 with
   | cons r3 r4=>cases r4;exact⟨_,_,rfl,r1,r3⟩
theorem vm:cq X (.builtin "abs") (fun xs H Q=>∃i,xs=[.int i]/\Q (.int (if i<0 then -i else i)) H):=by
 intro pins s σ H xs us Q I r h;obtain⟨i,rfl,q⟩:=h;obtain⟨u,rfl,t,rfl⟩:=d0 r;exact call_abs_int fun u tk=>⟨.int (if i<0 then -i else i),H,I.tok _,⟨_,rfl⟩,q⟩
theorem sY(hc:X.calm=true):cq X (.builtin "max") (fun xs H Q=>∃i j,xs=[.int i,.int j]/\Q (.int (if j>i then j else i)) H):=by
 intro pins s σ H xs us Q I r h;obtain⟨i,j,rfl,q⟩:=h;obtain⟨u,w',rfl,⟨t,rfl⟩,t',rfl⟩:=jt r;refine max_two_ints (I.ok.hd hc) fun h' tk k=>⟨_,H,I.kept k,?_,q⟩
 by_cases hj:j>i
 ·rw[if_pos hj,if_pos hj];exact⟨_,rfl⟩
 ·rw[if_neg hj,if_neg hj];exact⟨_,rfl⟩
theorem sZ(hc:X.calm=true):cq X (.builtin "min") (fun xs H Q=>∃i j,xs=[.int i,.int j]/\Q (.int (if j<i then j else i)) H):=by
 intro pins s σ H xs us Q I r h;obtain⟨i,j,rfl,q⟩:=h;obtain⟨u,w',rfl,⟨t,rfl⟩,t',rfl⟩:=jt r;refine min_two_ints (I.ok.hd hc) fun h' tk k=>⟨_,H,I.kept k,?_,q⟩
 by_cases hj:j<i
 ·rw[if_pos hj,if_pos hj];exact⟨_,rfl⟩
 ·rw[if_neg hj,if_neg hj];exact⟨_,rfl⟩
theorem tf:cq X (.type "int") (fun xs H Q=>(∃i,xs=[.int i]/\Q (.int i) H)\/∃k,xs=[.bl k]/\Q (.int (if k then 1 else 0)) H):=by
 intro pins s σ H xs us Q I r h;rcases h with⟨i,rfl,q⟩|⟨k,rfl,q⟩
 ·obtain⟨u,rfl,t,rfl⟩:=d0 r;exact call_int_int ⟨.int i,H,I,⟨_,rfl⟩,q⟩
 ·obtain⟨u,rfl,r1⟩:=d0 r;cases r1;exact call_int_bool ⟨.int (if k then 1 else 0),H,I.tok _,⟨_,rfl⟩,q⟩
def xK(K:PySem.W.Frag)(x:V)(H:Hp)(n:Nat):Prop:=
 match x with
 | .str y=>y.length<=sizeLine/\n=y.length
 | .byt y=>y.size<=sizeLine/\n=y.size
 | .ref p=>(∃xs,SqL K H p xs/\n=xs.length)\/∃xs,SqT K H p xs/\n=xs.length
 | _=>False
theorem vo:cq X (.builtin "len") (fun xs H Q=>∃x n,xs=[x]/\xK X.K x H n/\Q (.int n) H):=by
 intro pins s σ H xs us Q I r h;obtain⟨x,n,rfl,e,q⟩:=h;obtain⟨u,rfl,rx⟩:=d0 r;have hl:=kc;have hs:sizeLine=16777216:=sizeLine_eq;cases x with
 | str y=>
   obtain⟨t,rfl⟩:=rx;obtain⟨hy,e'⟩:y.length<=sizeLine/\n=y.length:=e;subst e';exact len_str (by lia) ⟨.int _,H,I.tok _,⟨_,rfl⟩,q⟩
 | byt y=>
   obtain⟨t,rfl⟩:=rx;obtain⟨hy,e'⟩:y.size<=sizeLine/\n=y.size:=e;subst e';exact PySem.W.len_bytes (by lia) ⟨.int _,H,I.tok _,⟨_,rfl⟩,q⟩
 | ref p=>
   cases rx;have e':(∃xs,SqL X.K H p xs/\n=xs.length)\/∃xs,SqT X.K H p xs/\n=xs.length:=e;rcases e' with⟨xs,hx,e'⟩|⟨xs,hx,e'⟩
   ·subst e';obtain⟨its,r',pl,hz⟩:=I.list hx;have hlen:=r'.length;exact Calls.call_len_list pl.isList (by simp only[Zp];lia) ⟨.int xs.length,H,I.tok _,⟨_,by simp only[Zp];rw[hlen]⟩,q⟩
   ·subst e';obtain⟨its,r',pl,hz⟩:=I.tuple hx;have hlen:=r'.length;exact len_tuple pl (by simp only[Zp];lia) ⟨.int xs.length,H,I.tok _,⟨_,by simp only[Zp];rw[hlen]⟩,q⟩
 | _=>exact(show False from e).elim
end
structure qf (h:Heap) (x dx C:Addr) (mA:Str->Option Value):Prop where
 obj:h.get? x=some (instObj C dx)
 ns:h.Ns1 dx mA
 ne:dx≠x
theorem tq{h:Heap}{dx:Addr}{mA:Str->Option Value}(n:h.Ns1 dx mA):∃od,h.get? dx=some od/\∀name,lookIn name od=some (mA name):=by
 obtain⟨o,es,ep,ho,hd,hk,_,hm⟩:=n;refine⟨o,ho,fun name=>?_⟩;have e:=hm name;unfold nsFind findBy at e;rw[<-Array.find?_toList]at e;unfold lookIn;rw[hd];dsimp only
 split
 ·rename_i y q
  rw[q]at e;exact congrArg some e
 ·rename_i q
  rw[q]at e;have a:es.toList.any (·.refKey)=false:=by
   rw[List.any_eq_false];intro y hy;obtain⟨z,t,hkey⟩:=hk y (mem_toList_iff.mp hy);simp[DictEntry.refKey,hkey]
  have a': ¬ es.toList.any (·.refKey)=true:=by rw[a];exact Zu
  rw[if_neg a'];exact congrArg some e
theorem qf.look{h:Heap}{x dx C:Addr}{mA:Str->Option Value}(I:qf h x dx C mA):∃od,PySem.W.InstAt h x (instObj C dx) C (some od)/\∀name,lookIn name od=some (mA name):=
 let⟨od,ho,hl⟩:=tq I.ns
 ⟨od,⟨I.obj,rfl,rfl,ho⟩,hl⟩
section
variable{prog:Program}{w:World}{A:Around}{E:Value->Shared->Prop}{s:Shared}{K:PySem.W.Frag}{x dx C f:Addr}{mA:Str->Option Value}{name:Str}{v:Value}
theorem xL{expr:Bool}{Q:Value->Shared->Prop}(X:K.In s.heap)(I:qf s.heap x dx C mA)(hg:plainGet K C name=true)(hh:hasDictIn K C=true)
 (ha:findIn K (.ref C) name=some none) (hv:mA name=some v) (hv':handedIn v=true) (h:Q v {s with toks:=s.toks+1}):
 wpAny (model prog w) A (getAttr (.ref x) name expr) Q E s:=by
 obtain⟨od,J,hl⟩:=I.look;exact PySem.W.get_value X J (plainGet_of hg).1 (PySem.W.findObj_own hh ha rfl (by rw[hl,hv])) hv' h
theorem vp{pl:Sem Bool}{Q:Value×List Value->Shared->Prop}(X:K.In s.heap)(I:qf s.heap x dx C mA)(hg:plainGet K C name=true)
 (hf:findIn K (.ref C) name=some (some (.ref f))) (ht:isFn K (.ref f)=true) (hv:mA name=none) (h:Q (.ref f,[.ref x]) s):
 wpAny (model prog w) A (getMethod (.ref x) name pl) Q E s:=by
 obtain⟨od,J,hl⟩:=I.look;exact PySem.W.method_fn X J (plainGet_of hg).1 (plainGet_of hg).2 hf (beq_iff_eq.mp ht) (by show(lookIn name od).map (·.isSome)=some false;rw[hl,hv];rfl) h
theorem xM{ns:List Str}{Q:Unit->Shared->Prop}(X:K.In s.heap)(I:qf s.heap x dx C mA)
 (hs:findIn K (.ref C) "__setattr__"=some (some (.builtin "object.__setattr__"))) (hp:plainOver K C=true) (ht:takerIn K C name=some none) (hh:hasDictIn K C=true)
 (hw:PySem.Within mA ns) (hsz:ns.length<=sizeLine)
 (h:∀h',qf h' x dx C (fun y=>if y=name then some v else mA y)->SameBut dx s.heap h'->Q () {s with heap:=h',toks:=s.toks+2}):
 wpAny (model prog w) A (setAttr (.ref x) name v) Q E s:=by
 obtain⟨od,J,hl⟩:=I.look;refine PySem.W.set_plain X J hs (PySem.W.osa_open (s:={s with toks:=s.toks+1}) (r:=none) X J hp ht fun b=>?_);obtain⟨cd,hc,hd'⟩:=PySem.W.any_some hh;have hx:s.heap.get? x=some ⟨.ref C,some dx,.plain,#[]⟩:=I.obj;refine Z2 (Z3 (Z2 (Z2 (wpAny_loadPart hx (Z2 (Looks.here (s:={s with toks:=s.toks+1}) (PySem.W.looks_clsIn X hc) ?_))))));rw[hd'];refine Z3 (a:=some dx) (Z2 (Z3 (Z2 ?_)));refine wpAny_nsSet1 (s:={s with toks:=s.toks+1}) I.ns fun h' hn2 hs2=>?_
 obtain⟨oD,esD,epD,hoD,hdD,hcD⟩:=hn2.count (PySem.Within.cons name v hw);refine Z2 (wpAny_lookBehind hoD (by rw[hdD];exact pastItsLine_dict (Yd hcD (by rw[Zr];lia))) ?_);exact Z3 (h _ ⟨(hs2.2 _ (Ne.symm I.ne)).trans I.obj,hn2,I.ne⟩ hs2)
theorem vq{R:Result->Shared->Prop}{vs:List Value}{kw:List (Str×Value)}(X:K.In s.heap)(hm:makesIn K C=true)
 (hi:findIn K (.ref C) "__init__"=some (some (.ref f))) (hf:PySem.W.typeIn K (.ref f)=some (.type "function"))
 (h:codeAny (model prog w) (A.under (.builtin "type.__call__" ⟨.ref C::vs,kw⟩)) (.call (.ref f) ⟨.ref (s.heap.objs.size+1)::vs,kw⟩) (PySem.W.InitBack (s.heap.objs.size+1) R)
  {s with heap:=(s.heap.push emptyDict).push (instObj C s.heap.objs.size)}):
 codeAny (model prog w) A (.call (.ref C) ⟨vs,kw⟩) R s:=by
 obtain⟨hh,g,d,t,os⟩:=s;exact PySem.W.make_core (PySem.W.makes_of X hm) (PySem.W.looks_findIn X hi) (fun self=>PySem.W.bind_fn X self hf) (.inl rfl) h
end
noncomputable def cI(f:Str)(v:V):List (Str×V)->List (Str×V)
 |[]=>[(f,v)]
 |(g,x)::r=>if g=f then(g,v)::r else(g,x)::cI f v r
theorem ju(f g:Str)(v:V):∀fs:List (Str×V),(cI f v fs).lookup g=if g=f then some v else fs.lookup g
 |[]=>by
  show List.lookup g [(f,v)]=_;by_cases h:g=f
  ·have hb:(g==f)=true:=beq_iff_eq.mpr h;simp only[List.lookup,hb,if_pos h]
  ·have hb:(g==f)=false:=beq_eq_false_iff_ne.mpr h;simp only[List.lookup,hb,if_neg h]
 |(k,x)::r=>by
  have ih:=ju f g v r;rw[show cI f v ((k,x)::r)=(if k=f then(k,v)::r else(k,x)::cI f v r)from rfl];by_cases hk:k=f
  ·rw[if_pos hk];by_cases h:g=k
   ·have hb:(g==k)=true:=beq_iff_eq.mpr h;simp only[List.lookup,hb,if_pos (h.trans hk)]
   ·have hb:(g==k)=false:=beq_eq_false_iff_ne.mpr h;simp only[List.lookup,hb,if_neg (fun e:g=f=>h (e.trans hk.symm))]
  ·rw[if_neg hk];by_cases h:g=k
   ·have hb:(g==k)=true:=beq_iff_eq.mpr h;simp only[List.lookup,hb,if_neg (fun e:g=f=>hk (h.symm.trans e))]
   ·have hb:(g==k)=false:=beq_eq_false_iff_ne.mpr h;simp only[List.lookup,hb];exact ih
theorem iV(f:Str)(v:V):∀fs:List (Str×V),f∈(cI f v fs).map (·.1)/\∀g,g∈fs.map (·.1)->g∈(cI f v fs).map (·.1)
 |[]=>⟨by simp[cI],fun g h=>by simp at h⟩
 |(k,x)::r=>by
  obtain⟨i1,i2⟩:=iV f v r;rw[show cI f v ((k,x)::r)=(if k=f then(k,v)::r else(k,x)::cI f v r)from rfl];by_cases hk:k=f
  ·rw[if_pos hk];subst hk;exact⟨by simp,fun g h=>by simpa using h⟩
  ·rw[if_neg hk];refine⟨?_,fun g h=>?_⟩
   ·rw[Ym];exact Zk _ i1
   ·rw[Ym]at h ⊢;rcases mem_cons.mp h with e|e
    ·exact mem_cons.mpr (.inl e)
    ·exact Zk _ (i2 g e)
theorem jv(f:Str)(v:V):∀fs:List (Str×V),(cI f v fs).length<=fs.length+1
 |[]=>by simp[cI]
 |(k,x)::r=>by
  have ih:=jv f v r;rw[show cI f v ((k,x)::r)=(if k=f then(k,v)::r else(k,x)::cI f v r)from rfl];by_cases hk:k=f
  ·rw[if_pos hk,Zr,Zr];lia
  ·rw[if_neg hk,Zr,Zr];lia
theorem eR.some_of{v:V}{o:Option Value}(r:eR (some v) o):∃u,o=some u/\aA v u:=by
 cases o with
 | none=>exact(show False from r).elim
 | some u=>exact⟨u,rfl,r⟩
theorem eR.none_of{o:Option Value}(r:eR none o):o=none:=by
 cases o with
 | none=>rfl
 | some u=>exact(show False from r).elim
theorem tt{v:V}{u:Value}(r:aA v u):handedIn u=true:=by
 cases v with
 | non=>cases(show u=Value.none from r);rfl
 | bl b=>cases(show u=Value.bool b from r);rfl
 | int i=>obtain⟨t,e⟩:=(show∃t,u=Value.int i t from r);cases e;rfl
 | str x=>obtain⟨t,e⟩:=(show∃t,u=Value.str x t from r);cases e;rfl
 | byt b=>obtain⟨t,e⟩:=(show∃t,u=Value.bytes b t from r);cases e;rfl
 | flt b=>obtain⟨t,e⟩:=(show∃t,u=Value.float b t from r);cases e;rfl
 | ref a=>cases(show u=Value.ref a from r);rfl
 | ty n=>cases(show u=Value.type n from r);rfl
section
variable{P:Program}{w:World}{H H':Hp}{h h':Heap}{a C dx:Addr}{fs fs':List (Str×V)}
theorem jU(hok:HOk P w H h)(e:H a=some (.ins C dx fs)):∃mA,qf h a dx C mA/\(∀f,eR (fs.lookup f) (mA f))/\PySem.Within mA (fs.map (·.1))/\fs.length<=1000/\H dx=some (.own a):=by
 obtain⟨d,z,ne,ob,mA,n,r,q⟩:=(show br P w H h a (.ins C dx fs)from hok a _ e)
 exact⟨mA,⟨ob,n,ne⟩,r,q,z,d⟩
end
structure Cls (K:PySem.W.Frag) (C:Addr):Prop where
 pg:plainGet K C Str.empty=true
 hd:hasDictIn K C=true
 po:plainOver K C=true
 sa:findIn K (.ref C) "__setattr__"=some (some (.builtin "object.__setattr__"))
theorem Cls.get{K:PySem.W.Frag}{C:Addr}(c:Cls K C)(f:Str):plainGet K C f=true:=c.pg
def en(K:PySem.W.Frag)(C:Addr)(f:Str):Prop:=findIn K (.ref C) f=some none
theorem en.taker{K:PySem.W.Frag}{C:Addr}{f:Str}(n:en K C f):takerIn K C f=some none:=by
 unfold takerIn;rw[show findIn K (.ref C) f=some none from n];rfl
structure xN (K:PySem.W.Frag) (C:Addr) (m:Str) (f:Addr):Prop where
 at_:findIn K (.ref C) m=some (some (.ref f))
 fn:isFn K (.ref f)=true
 kp:keepIn K (.ref f)=true
section
variable{X:Cx}{pins:List (Addr×Obj)}{σ:St}{H:Hp}{s:Shared}{a C dx:Addr}{fs:List (Str×V)}{f:Str}{v:V}{A:Around}{E:Value->Shared->Prop}
theorem qg{b:Bool}{Q:Value->Shared->Prop}(I:Inv X pins σ H s)(e:H a=some (.ins C dx fs))(c:Cls X.K C)(n:en X.K C f)(l:fs.lookup f=some v)
 (h:∀u s',Inv X pins σ H s'->aA v u->Q u s'):wpAny (model X.prog X.w) A (getAttr (.ref a) f b) Q E s:=by
 obtain⟨mA,O,r,_,_,_⟩:=jU I.hok e;obtain⟨u,hu,ru⟩:=eR.some_of (v:=v) (o:=mA f) (by rw[<-l];exact r f);exact xL I.kIn O (c.get f) c.hd n hu (tt ru) (h u _ (I.tok _) ru)
theorem qh{m:Str}{g:Addr}{pl:Sem Bool}{Q:Value×List Value->Shared->Prop}(I:Inv X pins σ H s)(e:H a=some (.ins C dx fs))(c:Cls X.K C)(k:xN X.K C m g)(l:fs.lookup m=none)
 (h:Q (.ref g,[.ref a]) s):wpAny (model X.prog X.w) A (getMethod (.ref a) m pl) Q E s:=by
 obtain⟨mA,O,r,_,_,_⟩:=jU I.hok e;have hn:mA m=none:=eR.none_of (by rw[<-l];exact r m);exact vp I.kIn O (c.get m) k.at_ k.fn hn h
theorem qj{y:V}{u:Value}{Q:Unit->Shared->Prop}(I:Inv X pins σ H s)(e:H a=some (.ins C dx fs))(c:Cls X.K C)(n:en X.K C f)(hl:fs.length<1000)(ry:aA y u)
 (h:∀s',Inv X pins σ (upd H a (.ins C dx (cI f y fs))) s'->Q () s'):wpAny (model X.prog X.w) A (setAttr (.ref a) f u) Q E s:=by
 obtain⟨mA,O,r,wi,_,ho⟩:=jU I.hok e;have hz:(fs.map (·.1)).length<=sizeLine:=by rw[Z6,sizeLine_eq];lia
 refine xM I.kIn O c.sa c.po n.taker c.hd wi hz fun h' O' sb=>h _ ?_
 have hd:∃o,h'.get? dx=some o:=let⟨o,_,_,e',_⟩:=O'.ns;⟨o,e'⟩;refine I.write (x:=a) (e:=dx) (by rw[e];exact True.intro) (.inr ho) (fun b q hb z=>(sb.2 b hb).trans z) hd ?_;refine⟨by rw[ai O.ne];exact ho,?_,O.ne,O'.obj,_,O'.ns,fun g=>?_,fun g hg=>?_⟩
 ·have:=jv f y fs;lia
 ·show eR ((cI f y fs).lookup g) (if g=f then some u else mA g);rw[ju];by_cases q:g=f
  ·rw[if_pos q,if_pos q];exact ry
  ·rw[if_neg q,if_neg q];exact r g
 ·by_cases q:g=f
  ·rw[q];exact(iV f y fs).1
  ·refine(iV f y fs).2 g (wi g fun z=>hg ?_);show(if g=f then some u else mA g)=none;rw[if_neg q];exact z
theorem Inv.made(I:Inv X pins σ H s):Inv X pins σ (upd (upd H s.heap.objs.size (.own (s.heap.objs.size+1))) (s.heap.objs.size+1) (.ins C s.heap.objs.size []))
 {s with heap:=(s.heap.push emptyDict).push (instObj C s.heap.objs.size)}:=by
 have e1:(s.heap.push emptyDict).get? s.heap.objs.size=some emptyDict:=Zj s.heap rfl;have e2:((s.heap.push emptyDict).push (instObj C s.heap.objs.size)).get? (s.heap.objs.size+1)=some (instObj C s.heap.objs.size):=by
  have:=Zj (s.heap.push emptyDict) (o:=instObj C s.heap.objs.size) rfl;rwa[Zq]at this
 have e3:(s.heap.push emptyDict).Ns s.heap.objs.size (fun _=>none):=⟨emptyDict,#[],_,e1,rfl,(fun e he=>absurd he (by simp)),fun _=>rfl⟩
 have I1:=I.laid (a:=s.heap.objs.size) (o:= .own (s.heap.objs.size+1)) (h':=s.heap.push emptyDict) (t':=s.toks) (fun b u q=>Z7 _ q) (Zi _) ⟨_,e1⟩;refine I1.laid (a:=s.heap.objs.size+1) (o:= .ins C s.heap.objs.size []) (t':=s.toks) (fun b u q=>Z7 _ q) (Nat.le_of_eq (Zq _ _)) ?_;have ne:s.heap.objs.size≠s.heap.objs.size+1:=Zt (Yk _);refine⟨by rw[ai ne,aa],X7 _,ne,e2,fun _=>none,(Heap.Ns1.of_empty e3).at fun o q=>Z7 _ q,fun _=>True.intro,fun y hy=>absurd rfl hy⟩
theorem xO{prog:Program}{w:World}{env:Env}{e:Expr}{f:Str}{pos:Pos}{s:Shared}{Q:Value->Shared->Prop}(hb:attributeBase e f env (eval e env)=eval e env)
 (h:wpAny (model prog w) A (eval e env) (fun o s₁=>wpAny (model prog w) A (getAttr o f true) Q E s₁) E s):wpAny (model prog w) A (eval (.Attribute e f pos) env) Q E s:=
 Attribute_any_ h (by rw[arm_eval_Attribute,hb])
end
def zV(K:PySem.W.Frag)(ta:TE)(f:Str):TE:=fun σ H Q=>ta σ H fun x H1=>∃a C dx fs v,x= .ref a/\H1 a=some (.ins C dx fs)/\Cls K C/\en K C f/\fs.lookup f=some v/\Q v H1
def zW(K:PySem.W.Frag)(ta tv:TE)(f:Str):TS:=fun D σ H=>tv σ H fun y H1=>ta σ H1 fun x H2=>∃a C dx fs,x= .ref a/\H2 a=some (.ins C dx fs)/\Cls K C/\en K C f/\fs.length<1000/\
 D.nx σ (upd H2 a (.ins C dx (cI f y fs)))
section
variable{X:Cx}{o e value:Expr}{f:Str}{pos pos' tpos:Pos}{ta tv:TE}
theorem zX(he:PE X e ta)(hb:attributeBase e f X.env (eval e X.env)=eval e X.env):PE X (.Attribute e f pos) (zV X.K ta f):=by
 intro pins s σ H Q I h;refine xO hb (thn (he pins s σ H _ I h) fun u s1 ⟨x,H1,I1,rx,a,C,dx,fs,v,ex,ea,c,n,l,q⟩=>?_);subst ex;obtain rfl:u=Value.ref a:=rx;exact qg I1 ea c n l fun u' s2 I2 ru=>⟨v,H1,I2,ru,q⟩
theorem zY(ha:PE X o ta)(hv:PE X value tv)(hs:swapsWith value (some (.Attribute o f pos')) pos.line X.env=pure false):PS X (.Assign [.Attribute o f pos'] value pos) (zW X.K ta tv f):=by
 intro pins s σ H D I h;refine plainObj_wpAny_Assign_Attribute (thn (hv pins s σ H _ I h) fun u s1 ⟨y,H1,I1,ry,q⟩=>thn (ha pins s1 σ H1 _ I1 q) fun ov s2 ⟨x,H2,I2,rx,a,C,dx,fs,ex,ea,c,n,l,q2⟩=>?_) hs;subst ex;obtain rfl:ov=Value.ref a:=rx;exact qj I2 ea c n l ry fun s3 I3=>⟨σ,_,I3,q2⟩
end
section
variable{X:Cx}{pins:List (Addr×Obj)}{σ:St}{H:Hp}{s:Shared}{A:Around}{E:Value->Shared->Prop}{Q:Value->Shared->Prop}{c:Value}{b:Bool}
inductive gQ (K:PySem.W.Frag) (H:Hp):V->Value->Prop where
 | non:gQ K H .non (.type "NoneType")
 | bl (x:Bool):gQ K H (.bl x) (.type "bool")
 | int (i:Int):gQ K H (.int i) (.type "int")
 | str (x:Str):gQ K H (.str x) (.type "str")
 | flt (x:UInt64):gQ K H (.flt x) (.type "float")
 | lst {a:Addr} {xs:List V} (e:H a=some (.lst xs)):gQ K H (.ref a) (.type "list")
 | frz {a:Addr} {o:Obj} {xs:List V} (e:H a=some (.frz o (.lst xs))):gQ K H (.ref a) (.type "list")
 | tup {a:Addr} {xs:List V} (e:H a=some (.tup xs)):gQ K H (.ref a) (.type "tuple")
 | dK {a:Addr} {kvs:List (Key×V)} (e:H a=some (.dK kvs)):gQ K H (.ref a) (.type "dict")
 | dT {a:Addr} {kvs:List (List Key×V)} (e:H a=some (.dT kvs)):gQ K H (.ref a) (.type "dict")
 | ins {a C dx:Addr} {fs:List (Str×V)} (e:H a=some (.ins C dx fs)) (cl:Cls K C) (ha:findIn K (.ref C) "__class__"=some (some (.builtin "object.__class__")))
  (hn:PySem.W.specialIn K (.builtin "object.__class__") "__get__"=some (some (.builtin "getset_descriptor.__get__"))) (htk:PySem.W.takesIn K (.builtin "object.__class__")=some true)
  (hm:PySem.W.mroIn K C (.type "object")=some true):gQ K H (.ref a) (.ref C)
theorem tw{x:V}{u t:Value}(I:Inv X pins σ H s)(rx:aA x u)(ty:gQ X.K H x t)(e:kitOne X.K t c=some b)(h:∀tk,Q (.bool b) {s with toks:=tk}):
 wpAny (model X.prog X.w) A (call (.builtin "isinstance") [u,c]) Q E s:=by
 cases ty with
 | non=>cases(show u=Value.none from rx);exact kia_one PySem.W.kitx_none I.kIn True.intro e (fun z=>nomatch z) h
 | bl y=>cases(show u=Value.bool y from rx);exact kia_one PySem.W.kitx_bool I.kIn True.intro e (fun z=>nomatch z) h
 | int i=>obtain⟨t,q⟩:=(show∃t,u=Value.int i t from rx);cases q;exact kia_one PySem.W.kitx_int I.kIn True.intro e (fun z=>nomatch z) h
 | str y=>obtain⟨t,q⟩:=(show∃t,u=Value.str y t from rx);cases q;exact kia_one PySem.W.kitx_str I.kIn True.intro e (fun z=>nomatch z) h
 | flt y=>obtain⟨t,q⟩:=(show∃t,u=Value.float y t from rx);cases q;exact kia_one PySem.W.kitx_float I.kIn True.intro e (fun z=>nomatch z) h
 | @lst a xs ea=>
   cases(show u=Value.ref a from rx);obtain⟨_,_,n,_,h1⟩:=(show br X.prog X.w H s.heap a (.lst xs)from I.hok a _ ea)
   exact kia_one kitx_list I.kIn ⟨_,h1,rfl⟩ e (fun z=>nomatch z) h
 | @frz a ob xs ea=>
   cases(show u=Value.ref a from rx);obtain⟨_,_,_,n,_,h1⟩:=(show br X.prog X.w H s.heap a (.frz ob (.lst xs))from I.hok a _ ea)
   exact kia_one kitx_list I.kIn ⟨_,h1,rfl⟩ e (fun z=>nomatch z) h
 | @tup a xs ea=>
   cases(show u=Value.ref a from rx);obtain⟨_,_,_,p⟩:=(show br X.prog X.w H s.heap a (.tup xs)from I.hok a _ ea)
   obtain⟨o,h1,h2,_⟩:=p;exact kia_one PySem.W.kitx_tuple I.kIn ⟨o,h1,h2⟩ e (fun z=>nomatch z) h
 | @dK a kvs ea=>
   cases(show u=Value.ref a from rx);obtain⟨_,_,vs,_,p⟩:=(show br X.prog X.w H s.heap a (.dK kvs)from I.hok a _ ea)
   obtain⟨o,es,ep,h1,h2,_⟩:=p;exact kia_one kitx_dict I.kIn ⟨o,h1,h2.1⟩ e (fun z=>nomatch z) h
 | @dT a kvs ea=>
   cases(show u=Value.ref a from rx);obtain⟨_,_,xs,_,o,es,ep,h1,h2,_⟩:=(show br X.prog X.w H s.heap a (.dT kvs)from I.hok a _ ea)
   exact kia_one kitx_dict I.kIn ⟨o,h1,h2.1⟩ e (fun z=>nomatch z) h
 | @ins a C dx fs ea cl ha hn htk hm=>
   cases(show u=Value.ref a from rx);obtain⟨mA,O,_⟩:=jU I.hok ea;obtain⟨od,J,_⟩:=O.look;exact kia_one (PySem.W.kitx_own (cl.get _) cl.hd ha hn htk hm) I.kIn J e (fun z=>nomatch z) h
end
structure b8 (k:Nat) (A:Around):Prop where
 hd:A.handled=none
 dp:A.depth+3*k+5<recursionLimit
 un:A.units+16*k+200<cLine
theorem b8.mono{j k:Nat}{A:Around}(r:b8 k A)(h:j<=k):b8 j A:=⟨r.hd,by have:=r.dp;lia,by have:=r.un;lia⟩
theorem b8.deeper{k:Nat}{A:Around}(r:b8 (k+1) A)(env:Env):b8 k (A.deeper env):=
 ⟨r.hd,by have:=r.dp;show A.depth+1+3*k+5<_;lia,by have:=r.un;show A.units+3+16*k+200<_;lia⟩
theorem qk{A:Around}{C:Addr}{us:List Value}{kw:List (Str×Value)}:(A.under (.builtin "type.__call__" ⟨.ref C::us,kw⟩)).depth=A.depth+1:=by
 first|rfl|simp[Around.under,Code.weight,Code.isCreation,Code.isGuard,Code.isCaller,Code.frames,Code.isFrame,guardIds]
theorem qo{A:Around}{C:Addr}{us:List Value}{kw:List (Str×Value)}:(A.under (.builtin "type.__call__" ⟨.ref C::us,kw⟩)).units=A.units+1:=by
 first|rfl|simp[Around.under,Code.cUnits,Code.frames,Code.isFrame]
theorem b8.make{k:Nat}{A:Around}(r:b8 (k+1) A)(C:Addr)(us:List Value)(kw:List (Str×Value)):b8 k (A.under (.builtin "type.__call__" ⟨.ref C::us,kw⟩)):=
 ⟨r.hd,by have:=r.dp;rw[qk];lia,by have:=r.un;rw[qo];lia⟩
theorem b8.depth{k:Nat}{A:Around}(r:b8 k A):A.depth<recursionLimit:=by have:=r.dp;lia
theorem b8.units{k:Nat}{A:Around}(r:b8 k A):A.units+64<cLine:=by have:=r.un;lia
def vt:TA:=fun _ H Q=>Q [] H
def vv(ta:TE)(tr:TA):TA:=fun σ H Q=>ta σ H fun x H1=>tr σ H1 fun xs H2=>Q (x::xs) H2
section
variable{X:Cx}{e:Expr}{es:List Expr}{te:TE}{t:TA}{pos:Pos}
theorem zZ:PA X [] vt:=fun _ _ _ _ H Q I h=>Calls.spliced_nil ⟨[],H,I,.nil,h⟩
theorem xP(ha:PE X e te)(hr:PA X es t)(hs:starEach (e::es) X.env=(false,eval e X.env)::starEach es X.env):PA X (e::es) (vv te t):=by
 intro pos pins s σ H Q I h;rw[hs];show wpAny _ _ (spliced ((false,eval e X.env)::backTo pos (starEach es X.env))) _ _ s;refine Calls.spliced_cons (thn (ha pins s σ H _ I h) fun u s1 ⟨x,H1,I1,r1,q1⟩=>?_);exact thn (hr pos pins s1 σ H1 _ I1 q1) fun us s2 ⟨xs,H2,I2,r2,q2⟩=>⟨x::xs,H2,I2,.cons r1 r2,q2⟩
def z0(t:TA):TE:=fun σ H Q=>t σ H fun xs H1=>xs.length<=sizeLine/\∀p,H1 p=none->Q (.ref p) (upd H1 p (.tup xs))
def z9(t:TA):TE:=fun σ H Q=>t σ H fun xs H1=>xs.length<=sizeLine/\∀p,H1 p=none->Q (.ref p) (upd H1 p (.lst xs))
theorem Aa{x1}(h:PA X es t):PE X (.Tuple es x1 pos) (z0 t):=by
 intro pins s σ H Q I hq;refine wpAny_Tuple_spliced (thn (h pos pins s σ H _ I hq) fun us s1 ⟨xs,H1,I1,r,z,q⟩=>⟨by rw[<-r.length];exact z,?_⟩);have hf:H1 s1.heap.objs.size=none:=I1.hok.fresh (Zi _);refine⟨.ref s1.heap.objs.size,upd H1 s1.heap.objs.size (.tup xs),I1.laid (t':=s1.toks) (fun b u e=>Z7 _ e) (Zi _) ?_,rfl,q _ hf⟩;exact⟨z,us,r,_,Zj _ rfl,rfl,_,rfl⟩
theorem Ab(h:PA X es t):PE X (.List es pos) (z9 t):=by
 intro pins s σ H Q I hq;refine wpAny_List_spliced (thn (h pos pins s σ H _ I hq) fun us s1 ⟨xs,H1,I1,r,z,q⟩=>⟨by rw[<-r.length];exact z,?_⟩);have hf:H1 s1.heap.objs.size=none:=I1.hok.fresh (Zi _);refine⟨.ref s1.heap.objs.size,upd H1 s1.heap.objs.size (.lst xs),I1.laid (t':=s1.toks) (fun b u e=>Z7 _ e) (Zi _) ?_,rfl,q _ hf⟩;exact⟨z,us,0,r,Zj _ rfl⟩
end
noncomputable abbrev Sp:=List V->Hp->VK->XK->Prop
noncomputable abbrev CXT:=List Env->Hp->Shared->XK->Value->Shared->Prop
structure qp (P:Program) (w:World) (K:PySem.W.Frag) (mg:Str->Option Value) (base:Heap) (A:Around) (outer:List Env) (s:Shared) (H:Hp):Prop where
 frames:A.frames=some outer
 mod:Mod K mg base
 bs:∀b o,base.get? b=some o->s.heap.get? b=some o/\H b=none
 bsz:base.objs.size<=s.heap.objs.size
 funs:s.heap.FunFrames base outer
 frf:∀b∈frs outer,H b=none
 hok:HOk P w H s.heap
 bare:AllBare s.gens
def CE(outer:List Env)(P:Program)(w:World)(H:Hp)(s:Shared)(Q:VK)(u:Value)(s':Shared):Prop:=
 ∃v H',s'.os=s.os/\AllBare s'.gens/\Un (frs outer) [] H H' s.heap s'.heap/\HOk P w H' s'.heap/\aA v u/\Q v H'
def CR(CX:CXT)(outer:List Env)(P:Program)(w:World)(H:Hp)(s:Shared)(Q:VK)(E:XK)(r:Result)(s':Shared):Prop:=
 match r with
 | .ok (.ret u)=>CE outer P w H s Q u s'
 | .ok _=>False
 | .error e=>CX outer H s E e s'
structure gR (P:Program) (w:World) (K:PySem.W.Frag) (mg:Str->Option Value) (base:Heap) (CX:CXT) (k:Nat) (f:Addr) (fd:FuncData) (ps:List Str) (sp:Sp):Prop where
 len:∀vs H Q E,sp vs H Q E->vs.length=ps.length
 run:∀(A:Around) (outer:List Env) (s:Shared) (H:Hp) (args:Args) (us:List Value) (vs:List V) (Q:VK) (E:XK),b8 k A->qp P w K mg base A outer s H->BindsTo s fd args (ps.zip us)->aC vs us->sp vs H Q E->
  codeAny (model P w) A (.call (.ref f) args) (CR CX outer P w H s Q E) s
theorem qp.make{P:Program}{w:World}{K:PySem.W.Frag}{mg:Str->Option Value}{base:Heap}{A:Around}{outer:List Env}{s:Shared}{H:Hp}(e:qp P w K mg base A outer s H)(C:Addr)(us:List Value)(kw:List (Str×Value)):
 qp P w K mg base (A.under (.builtin "type.__call__" ⟨.ref C::us,kw⟩)) outer s H:=⟨by first|exact e.frames|(simpa [Around.under,Code.envs,Code.isFrame,pushEnvs]using e.frames),e.mod,e.bs,e.bsz,e.funs,e.frf,e.hok,e.bare⟩
section
variable{X:Cx}{pins:List (Addr×Obj)}{σ:St}{H:Hp}{s s':Shared}
theorem Inv.env0(I:Inv X pins σ H s):qp X.prog X.w X.K X.mg X.base X.A X.stack s H:=
 ⟨I.ok.frames,I.ok.mod,I.bs,Yd I.ok.bsz I.sz,I.stack,I.stkFree,I.hok,I.bare⟩
theorem Inv.after{Q:VK}{u:Value}(I:Inv X pins σ H s)(h:CE X.stack X.prog X.w H s Q u s'):EP X pins σ Q u s':=by
 obtain⟨v,H',os,bare,un,hok,r,q⟩:=h;obtain⟨hh,g,d,t,os'⟩:=s';obtain rfl:os'=s.os:=os;exact⟨v,H',I.call (h':=hh) (g':=g) (d':=d) (t':=t) (ch:=[]) un hok bare (fun b z=>absurd z (by simp)),r,q⟩
end
def rY(sp:Sp)(dvs:List V)(E:XK)(t:TA):TE:=fun σ H Q=>t σ H fun vs H1=>sp (vs++dvs) H1 Q E
def vw(C:Addr)(m:Str)(sp:Sp)(dvs:List V)(E:XK)(ta:TE)(t:TA):TE:=fun σ H Q=>ta σ H fun x H1=>∃a dx fs,x= .ref a/\H1 a=some (.ins C dx fs)/\fs.lookup m=none/\
 t σ H1 fun vs H2=>sp (x::(vs++dvs)) H2 Q E
def vx(C:Addr)(sp:Sp)(dvs:List V)(E:XK)(t:TA):TE:=fun σ H Q=>t σ H fun vs H1=>∀x dx,H1 x=none->H1 dx=none->dx≠x->
 sp (.ref x::(vs++dvs)) (upd (upd H1 dx (.own x)) x (.ins C dx [])) (fun v H2=>v= .non/\Q (.ref x) H2) E
def d5(K:PySem.W.Frag)(fd:FuncData)(ps:List Str)(ds:List Value):Prop:=
 ∀(s:Shared) (us:List Value),K.In s.heap->(us++ds).length=ps.length->BindsTo s fd ⟨us,[]⟩ (ps.zip (us++ds))
theorem d5.all{K:PySem.W.Frag}{fd:FuncData}{ps:List Str}(h:∀us:List Value,us.length=ps.length->bindArgs fd ⟨us,[]⟩=pure (ps.zip us)):d5 K fd ps []:=fun s us _ hl=>by
 rw[Zz]at hl ⊢;exact .of_eq (h us hl)
def gT(CX:CXT)(X:Cx)(E:XK):Prop:=∀(pins:List (Addr×Obj)) (σ:St) (H:Hp) (s:Shared) (e:Value) (s':Shared),Inv X pins σ H s->CX X.stack H s E e s'->X.xe e s'
section
variable{X:Cx}{CX:CXT}{k:Nat}{f C:Addr}{fd:FuncData}{ps:List Str}{sp:Sp}{dvs:List V}{ds:List Value}{E:XK}{x m:Str}{p pos apos:Pos}{e o:Expr}{es:List Expr}{ta:TE}{t:TA}
theorem vy{pins:List (Addr×Obj)}{σ:St}{H:Hp}{s:Shared}{Q:VK}{us:List Value}{vs:List V}(F:gR X.prog X.w X.K X.mg X.base CX k f fd ps sp)(hr:b8 k X.A)(hb:d5 X.K fd ps ds)(hd:aC dvs ds)(hx:gT CX X E)
 (I:Inv X pins σ H s) (r:aC vs us) (h:sp (vs++dvs) H Q E):wpAny (model X.prog X.w) X.A (call (.ref f) us) (EP X pins σ Q) X.xe s:=by
 have r2:aC (vs++dvs) (us++ds):=r.append hd;have hl:(us++ds).length=ps.length:=by rw[<-r2.length];exact F.len _ _ _ _ h
 refine wpAny_call (codeAny_mono (F.run X.A X.stack s H ⟨us,[]⟩ (us++ds) (vs++dvs) Q E hr I.env0 (hb s us I.kIn hl) r2 h) fun r s' hq=>?_);cases r with
 | error e=>exact hx pins σ H s e s' I hq
 | ok fl=>
   cases fl with
   | ret u=>exact I.after hq
   | next=>exact False.elim hq
   | brk=>exact False.elim hq
   | cont=>exact False.elim hq
theorem xQ(F:gR X.prog X.w X.K X.mg X.base CX k f fd ps sp)(hr:b8 k X.A)(hg:Gl X x)(hm:X.mg x=some (.ref f))(hk:keepIn X.K (.ref f)=true)(hb:d5 X.K fd ps ds)(hd:aC dvs ds)(hx:gT CX X E)
 (ha:PA X (e::es) t) (hdb:(x==("__debug__":Str))=false) (he:starEach (e::es) X.env=(false,eval e X.env)::starEach es X.env) (hpl:(backTo pos (starEach es X.env)).any (·.1)=false):
 PE X (.Call (.Name x p) (e::es) [] pos) (rY sp dvs E t):=by
 intro pins s σ H Q I h;refine wpAny_Call_Name_kw (mI I hg hm ?_ hdb);refine callWith_K (h₀:=X.base) I.ok.mod.kin hk (thn (ha pos pins s σ H _ I h) fun us s1 ⟨vs,H1,I1,r,q⟩=>⟨I1.kIn,?_⟩) he hpl;exact vy F hr hb hd hx I1 r q
theorem vz{pl:Sem Bool}(he:PE X o ta)(c:Cls X.K C)(hm:xN X.K C m f)(F:gR X.prog X.w X.K X.mg X.base CX k f fd ps sp)(hr:b8 k X.A)(hb:d5 X.K fd ps ds)(hd:aC dvs ds)(hx:gT CX X E)
 (ht:eval (.Call (.Attribute o m apos) [] [] pos) X.env=(do
  let ov<-eval o X.env
  standAt apos.atName
  let(f,first)<-holding [ov] (getMethod ov m pl)
  callWith pos f first (backTo pos (starEach [] X.env)) (backToKw pos (keywordEach [] X.env)))):
 PE X (.Call (.Attribute o m apos) [] [] pos) (vw C m sp dvs E ta vt):=by
 intro pins s σ H Q I h;refine PySem.W.methodCall_KW (pl:=pl) (thn (he pins s σ H _ I h) fun u s1 ⟨x,H1,I1,rx,a,dx,fs,ex,ea,l,q⟩=>?_) ht;subst ex;obtain rfl:u=Value.ref a:=rx;refine qh I1 ea c hm l ?_;exact PySem.W.callWith_K0 (first:=[.ref a]) I1.kIn hm.kp (vy (us:=[.ref a]) (vs:=[.ref a]) F hr hb hd hx I1 (.cons rfl .nil) q)
structure Mk (K:PySem.W.Frag) (C f:Addr):Prop where
 makes:makesIn K C=true
 init:findIn K (.ref C) "__init__"=some (some (.ref f))
 fn:isFn K (.ref f)=true
 kp:keepIn K (.ref C)=true
theorem vA{pins:List (Addr×Obj)}{σ:St}{H:Hp}{s:Shared}{Q:VK}{us:List Value}{vs:List V}(M:Mk X.K C f)(F:gR X.prog X.w X.K X.mg X.base CX k f fd ps sp)(hr:b8 (k+1) X.A)(hb:d5 X.K fd ps ds)(hd:aC dvs ds)
 (hx:gT CX X E) (I:Inv X pins σ H s) (r:aC vs us)
 (h:∀x dx,H x=none->H dx=none->dx≠x->sp (.ref x::(vs++dvs)) (upd (upd H dx (.own x)) x (.ins C dx [])) (fun v H2=>v= .non/\Q (.ref x) H2) E):
 wpAny (model X.prog X.w) X.A (call (.ref C) us) (EP X pins σ Q) X.xe s:=by
 have hq:=h (s.heap.objs.size+1) s.heap.objs.size (I.hok.fresh (Yc _)) (I.hok.fresh (Zi _)) (Zt (Yk _));have I2:=Inv.made (C:=C) I;have r2:aC (V.ref (s.heap.objs.size+1)::(vs++dvs)) (Value.ref (s.heap.objs.size+1)::(us++ds)):= .cons rfl (r.append hd);have hl:(Value.ref (s.heap.objs.size+1)::us++ds).length=ps.length:=by
  have e:=r2.length;rw[F.len _ _ _ _ hq]at e;exact e.symm
 refine wpAny_call (vq (f:=f) I.kIn M.makes M.init (beq_iff_eq.mp M.fn) (codeAny_mono (F.run _ X.stack _ _ ⟨Value.ref (s.heap.objs.size+1)::us,[]⟩ (Value.ref (s.heap.objs.size+1)::(us++ds)) _ _ E (hr.make C us [])
  (I2.env0.make C us []) (hb _ (Value.ref (s.heap.objs.size+1)::us) I2.kIn hl) r2 hq) fun r s' hq'=>?_))
 cases r with
 | error e=>exact hx pins σ _ _ e s' I2 hq'
 | ok fl=>
   cases fl with
   | ret u=>
     obtain⟨v,H',I3,rv,ev,q3⟩:=I2.after hq';subst ev;exact⟨rv,V.ref (s.heap.objs.size+1),H',I3,rfl,q3⟩
   | next=>exact False.elim hq'
   | brk=>exact False.elim hq'
   | cont=>exact False.elim hq'
theorem xR(M:Mk X.K C f)(F:gR X.prog X.w X.K X.mg X.base CX k f fd ps sp)(hr:b8 (k+1) X.A)(hg:Gl X x)(hm:X.mg x=some (.ref C))(hb:d5 X.K fd ps ds)(hd:aC dvs ds)(hx:gT CX X E)
 (ha:PA X (e::es) t) (hdb:(x==("__debug__":Str))=false) (he:starEach (e::es) X.env=(false,eval e X.env)::starEach es X.env) (hpl:(backTo pos (starEach es X.env)).any (·.1)=false):
 PE X (.Call (.Name x p) (e::es) [] pos) (vx C sp dvs E t):=by
 intro pins s σ H Q I h;refine wpAny_Call_Name_kw (mI I hg hm ?_ hdb);refine callWith_K (h₀:=X.base) I.ok.mod.kin M.kp (thn (ha pos pins s σ H _ I h) fun us s1 ⟨vs,H1,I1,r,q⟩=>⟨I1.kIn,?_⟩) he hpl;exact vA M F hr hb hd hx I1 r q
end
section
variable{X:Cx}{CX:CXT}{k:Nat}{f C:Addr}{fd:FuncData}{ps ks:List Str}{sp:Sp}{E:XK}{x m:Str}{p pos apos kpos:Pos}{e o:Expr}{es:List Expr}{kws:List Keyword}{te ta:TE}{t tk:TA}{nm:Option Str}
variable{g:List Value->List Value->List Value}{gV:List V->List V->List V}
end
structure aq (N P:List Str) (sc:Scope):Prop where
 kind:sc.kind= .function
 co:sc.isCoroutine=false
 gen:sc.isGenerator=false
 nd:N.Nodup
 pre:N.take P.length=P
 par:∀x∈P,sc.names.lookup x=some .local\/sc.names.lookup x=some .cell
 nofree:∀y∈sc.names,y.2≠ .free
theorem lM{kindOf:Str->Option NameKind}{x:Str}:∀{binds:List (Str×Value)} {m:Str->Option Value},(∀v,(x,v)∉binds)->bindL kindOf binds m x=m x
 |[],_,_=>rfl
 |(n,v)::r,m,h=>by
  unfold bindL;rw[lM fun w hw=>h w (Zk _ hw)]
  split
  ·have:x≠n:=by rintro rfl;exact h v Zm
   simp[this]
  ·rfl
theorem lN{kindOf:Str->Option NameKind}{x:Str}:∀{binds:List (Str×Value)} {m:Str->Option Value},(∀v,(x,v)∉binds)->bindC kindOf binds m x=m x
 |[],_,_=>rfl
 |(n,v)::r,m,h=>by
  unfold bindC;rw[lN fun w hw=>h w (Zk _ hw)]
  split
  ·rfl
  ·have:x≠n:=by rintro rfl;exact h v Zm
   simp[this]
theorem lO{kindOf:Str->Option NameKind}{x:Str}{v:Value}:∀{P:List Str} {vs:List Value} {i:Nat} {m:Str->Option Value},P.Nodup->P[i]? =some x->vs[i]? =some v->kindOf x=some .local->
 bindL kindOf (P.zip vs) m x=some v
 |[],_,_,_,_,h,_,_=>by simp at h
 | _::_,[],_,_,_,_,h,_=>by simp at h
 | p::P,w::vs,0,m,nd,h1,h2,hk=>by
   simp at h1 h2;subst h1;subst h2;show bindL kindOf ((p,w)::P.zip vs) m p=_;unfold bindL;rw[lM fun v hv=>(nodup_cons.mp nd).1 (of_mem_zip hv).1,if_pos hk];simp
 | p::P,w::vs,i+1,m,nd,h1,h2,hk=>by
   show bindL kindOf ((p,w)::P.zip vs) m x=_;unfold bindL;exact lO (i:=i) (nodup_cons.mp nd).2 (by simpa using h1) (by simpa using h2) hk
theorem lP{kindOf:Str->Option NameKind}{x:Str}{v:Value}:∀{P:List Str} {vs:List Value} {i:Nat} {m:Str->Option Value},P.Nodup->P[i]? =some x->vs[i]? =some v->kindOf x≠some .local->
 bindC kindOf (P.zip vs) m x=some v
 |[],_,_,_,_,h,_,_=>by simp at h
 | _::_,[],_,_,_,_,h,_=>by simp at h
 | p::P,w::vs,0,m,nd,h1,h2,hk=>by
   simp at h1 h2;subst h1;subst h2;show bindC kindOf ((p,w)::P.zip vs) m p=_;unfold bindC;rw[lN fun v hv=>(nodup_cons.mp nd).1 (of_mem_zip hv).1,if_neg hk];simp
 | p::P,w::vs,i+1,m,nd,h1,h2,hk=>by
   show bindC kindOf ((p,w)::P.zip vs) m x=_;unfold bindC;exact lP (i:=i) (nodup_cons.mp nd).2 (by simpa using h1) (by simpa using h2) hk
noncomputable def start(N:List Str)(vs:List V):St:=vs.map some++List.replicate (N.length-vs.length) none
noncomputable def mK(CX:CXT)(P:Program)(w:World)(K:PySem.W.Frag)(mg:Str->Option Value)(base:Heap)(N:List Str)(qual:Str)(scope:Scope)(f:Addr)(cd:Value)(A:Around)(outer:List Env)(s:Shared)(H:Hp)(E:XK):Cx where
 prog:=P
 w:=w
 K:=K
 mg:=mg
 base:=base
 A:=A.deeper (envOfC qual scope s.heap.objs.size f cd)
 N:=N
 s₀:=s
 H₀:=H
 env:=envOfC qual scope s.heap.objs.size f cd
 outer:=outer
 stack:=envOfC qual scope s.heap.objs.size f cd::outer
 ex:=[]
 calm:=true
 fn:=fun _=>true
 pn:=[]
 xe:=fun e s'=>wpAny (model P w) (A.deeper (envOfC qual scope s.heap.objs.size f cd)) (leaving (envOfC qual scope s.heap.objs.size f cd) e) (fun _ s''=>CX outer H s E e s'') (fun e' s''=>CX outer H s E e' s'') s'
theorem ou{sc:Scope}{n:Nat}{x:Str}(h:sc.names.lookup x=some .cell):∃c,(cellsFrom n sc.names []).lookup x=some c:=by
 have q:=cellsFrom_some sc.names n [] (.inl h);exact Option.isSome_iff_exists.mp q
theorem tz{CX:CXT}{P:Program}{w:World}{K:PySem.W.Frag}{mg:Str->Option Value}{base:Heap}{N ps:List Str}{qual:Str}{scope:Scope}{f:Addr}{cd:Value}{A:Around}{outer:List Env}{s s1:Shared}{H:Hp}{E:XK}{us:List Value}{vs:List V}
 (S:aq N ps scope) (hd:A.handled=none) (e0:qp P w K mg base A outer s H) (hl:vs.length=ps.length) (r:aC vs us)
 (x:InCallC s s.heap.objs.size (bindL (envOfC qual scope s.heap.objs.size f cd).kindOf (ps.zip us) fun _=>none) (cellsFrom (s.heap.objs.size+1) scope.names []) (bindC (envOfC qual scope s.heap.objs.size f cd).kindOf (ps.zip us) fun _=>none) s1):
 Inv (mK CX P w K mg base N qual scope f cd A outer s H E) [] (start N vs) H s1:=by
 have hpl:ps.length<=N.length:=by have:=congrArg List.length S.pre;rw[Yh]at this;lia
 obtain⟨h1,tk,rfl,hk⟩:=x.done;have noA:∀b:Addr,b∉(mK CX P w K mg base N qual scope f cd A outer s H E).ex:=fun b z=>absurd (show b∈([]:List Addr)from z) (by simp)
 refine⟨⟨e0.mod,S.kind,rfl,rfl,Zi _,fun y z c h1 h2=>?_,fun y hy=>?_,fun y c _ h=>?_,fun _=>hd,Around.frames_deeper e0.frames,.inr ⟨rfl,rfl⟩,fun b z=>absurd z (noA b),e0.bs,e0.bsz,fun b _ _=>noA b,fun b z=>absurd z (noA b),e0.funs,e0.frf⟩,
  rfl,e0.bare,Un.kept hk,⟨_,x.toInCall.ns,fun i y v h1 h2 h3=>?_⟩,fun y c h=>⟨_,x.cell y c h⟩,e0.hok.fresh (Zi _),fun y c h=>?_,fun p hp=>absurd (show p∈([]:List (Addr×Obj))from hp) (by simp),e0.hok.kept hk,?_⟩
 ·exact name_of_addr x.apart (PySem.mem_of_lookup h1) (PySem.mem_of_lookup h2)
 ·have hy:scope.names.lookup y=some .cell\/scope.names.lookup y=some .free:=hy;rcases hy with hy|hy
  ·exact ou hy
  ·exact absurd rfl (S.nofree _ (PySem.mem_of_lookup hy))
 ·exact Yb (x.above y c (PySem.mem_of_lookup h))
 ·have hi:i<vs.length:=by
   unfold start at h2;by_cases hi:i<vs.length
   ·exact hi
   ·rw[Y7 (by simpa using hi)]at h2;rw[List.getElem?_replicate]at h2
    split at h2<;> cases h2
  have ha:vs[i]? =some v:=by
   unfold start at h2;rw[Y6 (by simpa using hi),Zl]at h2;cases e:vs[i]? with
   | none=>rw[e]at h2;cases h2
   | some a=>rw[e]at h2;cases h2;rfl
  obtain⟨u,hu,rv⟩:=r.get ha;have hp:ps[i]? =some y:=by
   rw[<-S.pre,List.getElem?_take_of_lt (by lia)];exact h1
  have ndP:ps.Nodup:=by rw[<-S.pre];exact S.nd.sublist (take_sublist _ _)
  refine⟨u,rv,?_⟩;rcases S.par y (Z8 hp)with k|k
  ·exact .inl ⟨k,lO ndP hp hu k⟩
  ·obtain⟨c,e⟩:=ou (n:=s.heap.objs.size+1) k;refine .inr ⟨.inl k,c,e,?_⟩;have q:=x.cell y c e;rw[lP ndP hp hu (by show scope.names.lookup y≠_;rw[k];decide)]at q;exact q
 ·exact e0.hok.fresh (Yb (x.above y c (PySem.mem_of_lookup h)))
 ·unfold start;show _=N.length;rw[Z9,Z6,List.length_replicate]
  lia
theorem Bv{CX:CXT}{P:Program}{w:World}{K:PySem.W.Frag}{mg:Str->Option Value}{base:Heap}{k:Nat}{f:Addr}{name qual:Str}{params:Arguments}{body:List Stmt}{scope:Scope}{dV kV doc pm cdv ct oc:Value}{an od:Option Addr}
 {osl:Array (Option Value)} {N ps:List Str} {sp:Sp} (lk:K.lookup f=some ⟨oc,od,.func (fnOf name qual params body scope dV kV doc pm an cdv ct),osl⟩) (hcd:codeIn K cdv qual=true) (S:aq N ps scope)
 (len:∀vs H Q E,sp vs H Q E->vs.length=ps.length)
 (hbody:∀(A:Around) (outer:List Env) (s:Shared) (H:Hp) (vs:List V) (Q:VK) (E:XK),b8 k (A.deeper (envOfC qual scope s.heap.objs.size f cdv))->sp vs H Q E->
  ∃t,PSs (mK CX P w K mg base N qual scope f cdv A outer s H E) body t/\t {nx:=fun _ H'=>Q .non H',rt:=Q} (start N vs) H):
 gR P w K mg base CX (k+1) f (fnOf name qual params body scope dV kV doc pm an cdv ct) ps sp:=by
 refine⟨len,fun A outer s H args us vs Q E hr e0 hb r hsp=>?_⟩;have hl:=len _ _ _ _ hsp;have KX:K.In s.heap:=e0.mod.kin.keeps fun b o e=>(e0.bs b o e).1
 have lim:s.heap.NoLimit:=e0.mod.nolimit.keeps fun b o e=>(e0.bs b o e).1
 have hkind:∀y∈ps.zip us,scope.names.lookup y.1=some .local\/(scope.names.lookup y.1=some .cell/\((cellsFrom (s.heap.objs.size+1) scope.names []).lookup y.1).isSome=true):=fun⟨n,v⟩ hy=>by
  rcases S.par n (of_mem_zip hy).1 with q|q
  ·exact .inl q
  ·exact .inr ⟨q,cellsFrom_some _ _ _ (.inl q)⟩
 refine codeAny_call_function hr.depth (KX _ _ lk) rfl S.co S.gen rfl (PySem.W.codeRec_of KX hcd) (hb _ _ _ _ ?_);refine wpAny_newFunctionEnv_cells S.kind hkind fun env he s1 x=>?_
 subst he;refine⟨lim.keeps x.toInCall.keep,codeAny_func ?_⟩;obtain⟨t,ht,hq⟩:=hbody A outer s H vs Q E (hr.deeper _) hsp;have I:Inv (mK CX P w K mg base N qual scope f cdv A outer s H E) [] (start N vs) H s1:=tz S hr.hd e0 hl r x;refine wpAny_mono (ht [] s1 (start N vs) H _ I hq) (fun fl s' hs=>?_) fun e s' hs=>hs
 have fin:∀{σ':St} {H':Hp} {v:V} {u:Value},Inv (mK CX P w K mg base N qual scope f cdv A outer s H E) [] σ' H' s'->aA v u->Q v H'->CE outer P w H s Q u s':=
  fun{σ' H' v u} J rv q=>⟨v,H',J.os,J.bare,J.base,J.hok,rv,q⟩
 cases fl with
 | ret u=>
   obtain⟨v,σ',H',J,rv,q⟩:=hs;exact fin J rv q
 | next=>
   obtain⟨σ',H',J,q⟩:=hs;exact fin (v:=V.non) (u:=Value.none) J rfl q
 | brk=>
   obtain⟨_,_,_,q⟩:=hs;exact False.elim q
 | cont=>
   obtain⟨_,_,_,q⟩:=hs;exact False.elim q
section
variable{X:Cx}{x:Str}{p pos:Pos}{e:Expr}{es:List Expr}{t:TA}{id T:String}{r:List V->Hp->VK->Prop}
def tCB(r:List V->Hp->VK->Prop)(t:TA):TE:=fun σ H Q=>t σ H fun vs H1=>r vs H1 Q
theorem vB(hc:cq X (.builtin id) r)(hg:Gl X x)(hm:X.mg x=none)(hv:bootBuiltins x=some (.builtin id))(ha:PA X (e::es) t)(hn:x≠"__name__")(hdb:(x==("__debug__":Str))=false)
 (he:starEach (e::es) X.env=(false,eval e X.env)::starEach es X.env) (hpl:(backTo pos (starEach es X.env)).any (·.1)=false):PE X (.Call (.Name x p) (e::es) [] pos) (tCB r t):=by
 intro pins s σ H Q I h;refine wpAny_Call_Name_kw (fK I hg hm hv ?_ hn hdb);exact PyProof.Rows.callWith_builtin1 (thn (ha pos pins s σ H _ I h) fun us s1 ⟨vs,H1,I1,r1,q1⟩=>hc pins s1 σ H1 vs us Q I1 r1 q1) he hpl
theorem tD(hc:cq X (.type T) r)(hg:Gl X x)(hm:X.mg x=none)(hv:bootBuiltins x=some (.type T))(ha:PA X (e::es) t)(hn:x≠"__name__")(hdb:(x==("__debug__":Str))=false)
 (he:starEach (e::es) X.env=(false,eval e X.env)::starEach es X.env) (hpl:(backTo pos (starEach es X.env)).any (·.1)=false):PE X (.Call (.Name x p) (e::es) [] pos) (tCB r t):=by
 intro pins s σ H Q I h;refine wpAny_Call_Name_kw (fK I hg hm hv ?_ hn hdb);exact PyProof.Rows.callWith_type1 (thn (ha pos pins s σ H _ I h) fun us s1 ⟨vs,H1,I1,r1,q1⟩=>hc pins s1 σ H1 vs us Q I1 r1 q1) he hpl
end
end L2
namespace HT
open PySem PyProof.Rows
section
open PySem.SeqAt
open PySem.AutoSeq1 (wpAny_loadPart')
open PySem.MeetsSeq PySem.MeetsSeq2 PySem.MeetsSeq3
end
section
variable{prog:Program}{w:World}{A:Around}{E:Value->Shared->Prop}{s:Shared}
noncomputable def sIx(n d:Nat):Option Int->Nat
 | none=>d
 | some v=>if v<0 then(v+(n:Int)).toNat else min v.toNat n
theorem sIx_none(n d:Nat):sIx n d none=d:=rfl
theorem sIx_nat(n d k:Nat):sIx n d (some (k:Int))=min k n:=by
 show(if(k:Int)<0 then((k:Int) +(n:Int)).toNat else min (k:Int).toNat n)=min k n;rw[if_neg (by lia),Int.toNat_natCast]
theorem Ac(n d:Nat)(hd:d<=n)(o:Option Int):sIx n d o<=n:=by
 cases o with
 | none=>exact hd
 | some v=>
   show(if v<0 then(v+(n:Int)).toNat else min v.toNat n)<=n;by_cases hv:v<0
   ·rw[if_pos hv];lia
   ·rw[if_neg hv];exact Nat.min_le_right _ _
theorem rZ(v:Int)(n d:Nat):(if v<0 then max (v+(n:Int)) 0 else min v (n:Int))=((sIx n d (some v):Nat):Int):=by
 show(if v<0 then max (v+(n:Int)) 0 else min v (n:Int))=(((if v<0 then(v+(n:Int)).toNat else min v.toNat n):Nat):Int)
 by_cases hv:v<0
 ·simp only[if_pos hv];lia
 ·simp only[if_neg hv];lia
theorem qq(lo hi:Option Int)(n:Nat):Builtin.Slice.sliceAdjust lo hi 1 (n:Int)=(((sIx n 0 lo:Nat):Int),((sIx n n hi:Nat):Int)):=by
 have h1: ¬ ((1:Int)<0):=by lia
 unfold Builtin.Slice.sliceAdjust;simp only[h1,if_false];refine Prod.ext ?_ ?_
 ·cases lo with
  | none=>rfl
  | some v=>exact rZ v n 0
 ·cases hi with
  | none=>rfl
  | some v=>exact rZ v n n
theorem qr(i j:Nat):Builtin.Slice.slicePlaces (i:Int) (j:Int) 1=j-i:=by
 unfold Builtin.Slice.slicePlaces;have h1:(1:Int)>0:=by lia
 simp only[h1,if_true,Int.ediv_one]
 split<;> lia
theorem ke{v:Value}{o:Option Int}{Q:Option Int->Shared->Prop}(p:IsPart v o)(h:Q o s):wpAny (model prog w) A (Builtin.Slice.slicePartIndex v) Q E s:=by
 cases p with
 | none=>exact slicePart_none h
 | int i t=>exact slicePart_int h
theorem iW{sl:Addr}{vl vu:Value}{lo hi:Option Int}{n:Nat}{Q:Int×Int×Nat->Shared->Prop}(hs:s.heap.IsSliceOf sl vl vu .none)(pl:IsPart vl lo)(pu:IsPart vu hi)
 (h:Q (((sIx n 0 lo:Nat):Int),1,sIx n n hi-sIx n 0 lo) s):wpAny (model prog w) A (Builtin.Slice.sliceApplied (.ref sl) (pure (n:Int))) Q E s:=by
 obtain⟨os,hos,hcs,hds⟩:=id hs;unfold Builtin.Slice.sliceApplied Builtin.Slice.sliceFields;refine Z2 (Z2 (wpAny_field hos hds (x:=vl) rfl (Z2 (wpAny_field hos hds (x:=vu) rfl (Z2 (wpAny_field hos hds (x:= .none) rfl (Z3 ?_)))))));refine Z2 (slicePart_none ?_);show wpAny _ _ (if((1:Int)==0)=true then _ else _) _ _ s;rw[if_neg (by decide)];refine Z2 (ke pl (Z2 (ke pu (Z2 (Z3 ?_)))));show wpAny _ _ (match Builtin.Slice.sliceAdjust lo hi 1 (n:Int)with|(lo,hi)=>pure (lo,(1:Int),Builtin.Slice.slicePlaces lo hi 1)) _ _ s;rw[qq lo hi n];show wpAny _ _ (pure (((sIx n 0 lo:Nat):Int),(1:Int),Builtin.Slice.slicePlaces ((sIx n 0 lo:Nat):Int) ((sIx n n hi:Nat):Int) 1)) _ _ s;rw[qr];exact Z3 h
theorem vC(xs:Array Value)(i k:Nat):((List.range k).filterMap fun(m:Nat)=>xs[((i:Int) +(m:Int)*1).toNat]?).toArray=((xs.toList.drop i).take k).toArray:=by
 have e:(fun(m:Nat)=>xs[((i:Int) +(m:Int)*1).toNat]?)=fun m=>xs[i+m]? :=by
  funext m;have:((i:Int) +(m:Int)*1).toNat=i+m:=by lia
  rw[this]
 rw[e];have:=pick_run xs i k;rw[List.filterMap_map]at this;have e2:((fun x=>xs[x]?) ∘ fun x=>i+x)=fun m=>xs[i+m]? :=rfl
 rw[e2]at this;rw[this]
theorem getItem_tuple_cut{t sl:Addr}{items:Array Value}{vl vu:Value}{lo hi:Option Int}{Q:Value->Shared->Prop}(ht:IsTup s.heap t items)(hs:s.heap.IsSliceOf sl vl vu .none)(pl:IsPart vl lo)(pu:IsPart vu hi)
 (hw: ¬ (sIx items.size 0 lo=0/\sIx items.size items.size hi=items.size))
 (h:Q (.ref s.heap.objs.size) {s with heap:=s.heap.push {cls:= .type "tuple",data:= .seq ((items.toList.drop (sIx items.size 0 lo)).take (sIx items.size items.size hi-sIx items.size 0 lo)).toArray}})
 (hsz:items.size<=sizeLine):wpAny (model prog w) A (getItem (.ref t) (.ref sl)) Q E s:=by
 have htake:sizeOk (.seq ((items.toList.drop (sIx items.size 0 lo)).take (sIx items.size items.size hi-sIx items.size 0 lo)).toArray):=by
  show((items.toList.drop (sIx items.size 0 lo)).take (sIx items.size items.size hi-sIx items.size 0 lo)).toArray.size<=sizeLine;rw[Zp,Yh,Ye,Zb]
  lia
 have hj:sIx items.size items.size hi<=items.size:=Ac _ _ (Zi _) hi;obtain⟨os,hos,hcs,hds⟩:=id hs;have hTs:s.TypeIs (.ref sl) "slice":=⟨os,hos,hcs⟩
 unfold getItem
 try with_reducible refine wpAny_holding ?_
 first|refine Z2 (Z3 ?_)|skip
 refine Z2 (wpAny_sequenceKey ht.typeIs (by decide) ?_);refine Z2 (wpAny_callSpecial?_slot (name:=Str.ofString "__getitem__") ht.typeIs PyProof.Rows.slot_tuple_getitem
  (wpAny_call_entry PyProof.Rows.slot_tuple_getitem ht.typeIs entry_tuple_getitem ?_ (args_tuple_getitem _ _)))
 show wpAny _ _ (Builtin.Tuple.tupleItemsOf (.ref t)>>= _) _ _ s;refine Z2 (tupleItemsOf_ ht ?_);refine Z2 (wpAny_typeOf hTs ?_);rw[if_pos (by decide)];refine Z2 (iW hs pl pu ?_);have hno: ¬ ((((sIx items.size 0 lo:Nat):Int)==0&&(1:Int)==1&&(sIx items.size items.size hi-sIx items.size 0 lo)==items.size)=true):=by
  intro q;rw[Zx,Zx]at q;have q1:((sIx items.size 0 lo:Nat):Int)=0:=eq_of_beq q.1.1;have q2:sIx items.size items.size hi-sIx items.size 0 lo=items.size:=eq_of_beq q.2;exact hw ⟨by lia,by lia⟩
 show wpAny _ _ (if(((sIx items.size 0 lo:Nat):Int)==0&&(1:Int)==1&&(sIx items.size items.size hi-sIx items.size 0 lo)==items.size)=true then _ else _) _ _ s;rw[if_neg hno,vC]
 first
  | exact Z2 (m:=Builtin.Tuple.tupleExact _) (wpAny_newObj_type (Z3 ⟨_,rfl,Z3 h⟩) htake)
  | exact Z2 (m:=Builtin.Tuple.tupleExact _) (wpAny_newObj_type (Z2 (Z3 (Z3 ⟨_,rfl,Z3 h⟩))) htake)
  | exact Z2 (Z2 (m:=Builtin.Tuple.tupleExact _) (wpAny_newObj_type (Z3 (Z3 ⟨_,rfl,Z3 h⟩)) htake))
  | exact Z2 (Z2 (m:=Builtin.Tuple.tupleExact _) (wpAny_newObj_type (Z3 ⟨_,rfl,Z3 h⟩) htake))
end
end HT
namespace L2
open PySem PySem.Spec PyProof.Rows
noncomputable abbrev TO:=St->Hp->(Option Int->Hp->Prop)->Prop
def PO(X:Cx)(e:Option Expr)(t:TO):Prop:=
 ∀(pins:List (Addr×Obj)) (s:Shared) (σ:St) (H:Hp) (Q:Option Int->Hp->Prop),Inv X pins σ H s->t σ H Q->
  wpAny (model X.prog X.w) X.A (evalPart e X.env) (fun u s'=>∃o H',Inv X pins σ H' s'/\IsPart u o/\Q o H') X.xe s
def mL:TO:=fun _ H Q=>Q none H
def vD(t:TE):TO:=fun σ H Q=>t σ H fun x H1=>asI x fun i=>Q (some i) H1
section
variable{X:Cx}{e:Expr}{te:TE}{lo hi:Option Expr}{tl th:TO}{pos p2:Pos}
theorem xS:PO X none mL:=by
 intro pins s σ H Q I h;rw[evalPart_none];exact Z3 ⟨none,H,I,.none,h⟩
theorem xT(h:PE X e te):PO X (some e) (vD te):=by
 intro pins s σ H Q I hw;rw[evalPart_some];refine thn (h pins s σ H _ I hw) fun u s1 ⟨x,H1,I1,r1,q1⟩=>?_
 obtain⟨i,rfl,q⟩:=fJ q1;obtain⟨t,rfl⟩:=r1;exact⟨some i,H1,I1,.int i t,q⟩
def SlR(X:Cx)(r:V->Option Int->Option Int->Hp->VK->Prop):Prop:=
 ∀(pins:List (Addr×Obj)) (s:Shared) (σ:St) (H:Hp) (x:V) (v vl vu:Value) (lo hi:Option Int) (sl:Addr) (Q:VK),Inv X pins σ H s->aA x v->s.heap.IsSliceOf sl vl vu .none->IsPart vl lo->IsPart vu hi->r x lo hi H Q->
  ∃T id,typeLookup (.type T) "__getitem__"=pure (some (.builtin id))/\s.TypeIs v T/\wpAny (model X.prog X.w) X.A (getItem v (.ref sl)) (EP X pins σ Q) X.xe s
theorem SlR.or{r r':V->Option Int->Option Int->Hp->VK->Prop}(h:SlR X r)(h':SlR X r'):SlR X (fun x lo hi H Q=>r x lo hi H Q\/r' x lo hi H Q):=by
 intro pins s σ H x v vl vu lo hi sl Q I rx hs pl pu q;rcases q with q|q
 ·exact h pins s σ H x v vl vu lo hi sl Q I rx hs pl pu q
 ·exact h' pins s σ H x v vl vu lo hi sl Q I rx hs pl pu q
def tSl(r:V->Option Int->Option Int->Hp->VK->Prop)(te:TE)(tl th:TO):TE:=fun σ H Q=>te σ H fun x H1=>tl σ H1 fun l H2=>th σ H2 fun u H3=>r x l u H3 Q
theorem kf{r:V->Option Int->Option Int->Hp->VK->Prop}(hr:SlR X r)(he:PE X e te)(hl:PO X lo tl)(hu:PO X hi th):PE X (.Subscript e (.Slice lo hi none p2) pos) (tSl r te tl th):=by
 intro pins s σ H Q I h;refine Subscript_ (thn (he pins s σ H _ I h) fun v s1 ⟨x,H1,I1,r1,q1⟩=>?_);refine wpAny_Slice (thn (hl pins s1 σ H1 _ I1 q1) fun vl s2 ⟨l,H2,I2,pl,q2⟩=>thn (hu pins s2 σ H2 _ I2 q2) fun vu s3 ⟨u,H3,I3,pu,q3⟩=>?_);rw[evalPart_none];refine Z3 ?_;have I4:Inv X pins σ H3 {s3 with heap:=s3.heap.push {cls:= .type "slice",data:= .fields #[vl,vu,.none]}}:=I3.kept (t':=s3.toks) fun b ob q=>Z7 _ q
 obtain⟨T,id,hT,ht,hg⟩:=hr pins {s3 with heap:=s3.heap.push {cls:= .type "slice",data:= .fields #[vl,vu,.none]}} σ H3 x v vl vu l u s3.heap.objs.size Q I4 r1 (Heap.IsSliceOf.new ..) pl pu q3;show wpAny (model X.prog X.w) X.A (subscriptTail e (.Slice lo hi none p2) v (.ref s3.heap.objs.size)) (EP X pins σ Q) X.xe {s3 with heap:=s3.heap.push {cls:= .type "slice",data:= .fields #[vl,vu,.none]}};exact tail_any (ops:=[.ref s3.heap.objs.size,v]) ht hT hg (by with_unfolding_all rfl)
noncomputable def fN(xs:List V)(lo hi:Option Int):List V:=(xs.drop (HT.sIx xs.length 0 lo)).take (HT.sIx xs.length xs.length hi-HT.sIx xs.length 0 lo)
theorem jw(xs:List V)(lo hi:Option Int):(fN xs lo hi).length<=xs.length:=by
 unfold fN;rw[Yh,Ye]
 lia
def xU(K:PySem.W.Frag):V->Option Int->Option Int->Hp->VK->Prop:=fun x lo hi H Q=>∃a xs,x= .ref a/\SqT K H a xs/\
 ¬ (HT.sIx xs.length 0 lo=0/\HT.sIx xs.length xs.length hi=xs.length)/\∀p,H p=none->Q (.ref p) (upd H p (.tup (fN xs lo hi)))
theorem vE:SlR X (xU X.K):=by
 intro pins s σ H x v vl vu lo hi sl Q I rx hs pl pu h;obtain⟨a,xs,rfl,hx,hw,q⟩:=h;cases rx;obtain⟨its,r,ht,hz⟩:=I.tuple hx;have hlen:its.toArray.size=xs.length:=by rw[Zp];exact r.length.symm
 refine⟨"tuple",_,PyProof.Rows.slot_tuple_getitem.lookup,ht.typeIs,?_⟩;refine HT.getItem_tuple_cut ht hs pl pu (by rw[hlen];exact hw) ?_ (by rw[hlen];exact hz);rw[hlen];refine⟨.ref s.heap.objs.size,_,I.laid (t':=s.toks) (o:= .tup (fN xs lo hi)) (fun b ob q=>Z7 _ q) (Zi _) ?_,rfl,q _ (I.hok.fresh (Zi _))⟩;exact⟨Yd (jw xs lo hi) hz,_,(r.drop (HT.sIx xs.length 0 lo)).take (HT.sIx xs.length xs.length hi-HT.sIx xs.length 0 lo),IsTup.new _ _⟩
end
noncomputable def ixN(n:Nat)(i:Int):Option Nat:=if 0<=i then(if i<n then some i.toNat else none)else if -(n:Int)<=i then some (i+n).toNat else none
noncomputable def atI{α:Type}(xs:List α)(i:Int):Option α:=(ixN xs.length i).bind fun j=>xs[j]?
theorem xV{n:Nat}{i:Int}{j:Nat}(h:ixN n i=some j):seqIndex? i n=some j/\j<n/\ -(n:Int)<=i/\i<n:=by
 unfold ixN at h;by_cases h0:0<=i
 ·rw[if_pos h0]at h;by_cases h1:i<n
  ·rw[if_pos h1]at h;have e:i.toNat=j:=Za h;exact⟨by rw[seqIndex_of h0 h1,e],by lia,by lia,h1⟩
  ·rw[if_neg h1]at h;cases h
 ·rw[if_neg h0]at h;by_cases h1: -(n:Int)<=i
  ·rw[if_pos h1]at h;have e:(i+n).toNat=j:=Za h;exact⟨by rw[seqIndex_neg (by lia) h1,e],by lia,h1,by lia⟩
  ·rw[if_neg h1]at h;cases h
theorem mM{α:Type}{xs:List α}{i:Int}{v:α}(h:atI xs i=some v):∃j,seqIndex? i xs.length=some j/\xs[j]? =some v/\j<xs.length/\ -(xs.length:Int)<=i/\i<xs.length:=by
 unfold atI at h;cases e:ixN xs.length i with
 | none=>rw[e]at h;cases h
 | some j=>
   rw[e]at h;obtain⟨h1,h2,h3,h4⟩:=xV e;exact⟨j,h1,h,h2,h3,h4⟩
theorem cF{α:Type}{xs:List α}{j:Nat}{v:α}(h:xs[j]? =some v):atI xs (j:Int)=some v:=by
 have hj:j<xs.length:=(Xf h).1;have e:ixN xs.length (j:Int)=some j:=by
  unfold ixN;rw[if_pos (by lia),if_pos (by lia)];simp
 unfold atI;rw[e];exact h
def jV(b:Expr):Prop:=∀o i,subscripted b false o i=operate [o,i] (getItem o i)
def IxR(X:Cx)(r:R2):Prop:=
 ∀(value slice:Expr) (pins:List (Addr×Obj)) (s:Shared) (σ:St) (H:Hp) (x y:V) (v u:Value) (Q:VK),Inv X pins σ H s->aA x v->aA y u->r x y H Q->
  subscripted slice false v u=operate [v,u] (getItem v u)->wpAny (model X.prog X.w) X.A (subscriptTail value slice v u) (EP X pins σ Q) X.xe s
def MtR(X:Cx)(id:String)(r:V->List V->Hp->VK->Prop):Prop:=
 ∀(pins:List (Addr×Obj)) (s:Shared) (σ:St) (H:Hp) (x:V) (xs:List V) (v:Value) (us:List Value) (Q:VK),Inv X pins σ H s->aA x v->aC xs us->r x xs H Q->
  wpAny (model X.prog X.w) X.A (call (.builtin id) (v::us)) (EP X pins σ Q) X.xe s
section
variable{X:Cx}{a b:Expr}{ta tb:TE}{pos:Pos}
theorem vF{r:R2}(hr:IxR X r)(ha:PE X a ta)(hb:PE X b tb)(hs:jV b):PE X (.Subscript a b pos) (tOp r ta tb):=by
 intro pins s σ H Q I h;exact Subscript_ (zO ha hb I h fun v u s2 x y H2 I2 rx ry q=>hr a b pins s2 σ H2 x y v u Q I2 rx ry q (hs _ _))
def xW(K:PySem.W.Frag):R2:=fun x y H Q=>asR x fun p=>asI y fun i=>∃xs,SqL K H p xs/\∃v,atI xs i=some v/\Q v H
def xX(K:PySem.W.Frag):R2:=fun x y H Q=>asR x fun p=>asI y fun i=>∃xs,SqT K H p xs/\∃v,atI xs i=some v/\Q v H
def xY:R2:=fun x y H Q=>∃z i c,x= .str z/\y= .int i/\z.length<=sizeLine/\atI z.cps.toList i=some c/\Q (.str ⟨#[c]⟩) H
theorem xZ:IxR X (xW X.K):=by
 intro value slice pins s σ H x y v u Q I rx ry h hs;obtain⟨p,rfl,h2⟩:=j8 h;obtain⟨i,rfl,xs,hq,z,he,q⟩:=fJ h2;cases rx;obtain⟨t,rfl⟩:=ry;obtain⟨its,r,pl,hz⟩:=I.list hq;obtain⟨j,h1,h2,h3,h4,h5⟩:=mM he;obtain⟨w,ew,rw'⟩:=r.get h2;have hl:=r.length;have hn:=kc;have fin:EP X pins σ Q w s:=⟨z,H,I,rw',q⟩
 by_cases h0:0<=i
 ·have hj:i.toNat=j:=by
   rw[seqIndex_of h0 h5]at h1;exact Za h1
  exact item_listR pl.isList h0 (by lia) (by rw[hj];simpa using ew) fin hs
 ·have hj:(i+(its.toArray.size:Int)).toNat=j:=by
   rw[seqIndex_neg (by lia) h4]at h1;rw[Zp,<-hl];exact Za h1
  exact subscriptTail_builtinR (x:=w) pl.isList.typeIs slot_list_getitem.lookup
   (wpAny_getItem_list_neg (Q:=fun r s'=>r=w/\EP X pins σ Q r s') pl.isList (by lia) (by rw[Zp]<;> lia) (by lia) (by rw[hj];simpa using ew) ⟨rfl,fin⟩) hs
theorem Ad:IxR X (xX X.K):=by
 intro value slice pins s σ H x y v u Q I rx ry h hs;obtain⟨p,rfl,h2⟩:=j8 h;obtain⟨i,rfl,xs,hq,z,he,q⟩:=fJ h2;cases rx;obtain⟨t,rfl⟩:=ry;obtain⟨its,r,pl,hz⟩:=I.tuple hq;obtain⟨j,h1,h2,h3,h4,h5⟩:=mM he;obtain⟨w,ew,rw'⟩:=r.get h2;have hl:=r.length;have hn:=kc;have fin:EP X pins σ Q w s:=⟨z,H,I,rw',q⟩
 exact subscriptTail_builtinR (x:=w) pl.typeIs slot_tuple_getitem.lookup
  (getItem_tuple (j:=j) (Q:=fun r s'=>r=w/\EP X pins σ Q r s') pl (by lia) (by lia) (by rw[Zp,<-hl];exact h1) (by simpa using ew) ⟨rfl,fin⟩) hs
theorem Ae:IxR X xY:=by
 intro value slice pins s σ H x y v u Q I rx ry h hs;obtain⟨z,i,c,rfl,rfl,hz,he,q⟩:=h;obtain⟨t,rfl⟩:=rx;obtain⟨t',rfl⟩:=ry;obtain⟨j,h1,h2,h3,h4,h5⟩:=mM he;have hl:z.cps.toList.length=z.length:=by simp[Str.length]
 rw[hl]at h1 h4 h5;have hn:=kc;exact tail_any (typeIs_str s z t) slot_str_getitem.lookup (getItem_str (c:=c) (by
  have e1:decide (i< -(2^63:Int))=false:=Zh (by lia);have e2:decide (i>=2^63)=false:=Zh (by lia);rw[e1,e2,Bool.or_false]) (by rw[h1];simpa using h2) ⟨.str ⟨#[c]⟩,H,I.tok _,⟨_,rfl⟩,q⟩) hs
def rIx(K:PySem.W.Frag):R2:=fun x y H Q=>xW K x y H Q\/xX K x y H Q\/xY x y H Q
noncomputable def Bw:V->V->V->Hp->(Hp->Prop)->Prop:=fun o i v H Q=>∃p xs k j,o= .ref p/\i= .int k/\H p=some (.lst xs)/\ixN xs.length k=some j/\Q (upd H p (.lst (xs.set j v)))
theorem mN(lo hi:Option Int)(n:Nat):(sliceBounds lo hi none n).1=((HT.sIx n 0 lo:Nat):Int)/\(sliceBounds lo hi none n).2.1=((HT.sIx n n hi:Nat):Int)/\(sliceBounds lo hi none n).2.2=1:=by
 refine⟨?_,?_,rfl⟩
 ·cases lo with
  | none=>simp[sliceBounds,HT.sIx]
  | some i=>
    simp only[sliceBounds,HT.sIx,getD_none,show(1:Int)>0 by decide,if_true];by_cases h:i<0
    ·simp only[h,if_true]<;> lia
    ·simp only[h,if_false]<;> lia
 ·cases hi with
  | none=>simp[sliceBounds,HT.sIx]
  | some i=>
    simp only[sliceBounds,HT.sIx,getD_none,show(1:Int)>0 by decide,if_true];by_cases h:i<0
    ·simp only[h,if_true]<;> lia
    ·simp only[h,if_false]<;> lia
theorem lu(its:List Value)(lo hi:Option Int):slicePick its.toArray lo hi none=((its.drop (HT.sIx its.length 0 lo)).take (HT.sIx its.length its.length hi-HT.sIx its.length 0 lo)).toArray:=by
 obtain⟨h1,h2,h3⟩:=mN lo hi its.toArray.size;unfold slicePick;rw[h1,h2,h3];simp only[sliceRange_one,pick_run,Zp]<;> rfl
def x4(K:PySem.W.Frag):V->Option Int->Option Int->Hp->VK->Prop:=fun x lo hi H Q=>∃a xs,x= .ref a/\SqL K H a xs/\∀p,H p=none->Q (.ref p) (upd H p (.lst (fN xs lo hi)))
theorem r0:SlR X (x4 X.K):=by
 intro pins s σ H x v vl vu lo hi sl Q I rx hs pl pu h;obtain⟨a,xs,rfl,hx,q⟩:=h;cases rx;obtain⟨its,r,ht,hz⟩:=I.list hx;have hlen:=r.length;refine⟨"list",_,slot_list_getitem.lookup,ht.isList.typeIs,?_⟩;refine wpAny_getItem_list_slice ht.isList hs pl pu .none (by simp) ?_ (by rw[Zp]<;> lia);rw[lu,<-hlen];refine⟨.ref s.heap.objs.size,_,I.laid (t':=s.toks) (o:= .lst (fN xs lo hi)) (fun b ob q=>Z7 _ q) (Zi _) ?_,rfl,q _ (I.hok.fresh (Zi _))⟩;exact⟨Yd (jw xs lo hi) hz,_,0,(r.drop (HT.sIx xs.length 0 lo)).take (HT.sIx xs.length xs.length hi-HT.sIx xs.length 0 lo),Zj _ rfl⟩
noncomputable def eF:V->Bool
 | .non=>true
 | .bl _=>true
 | .int _=>true
 | .str _=>true
 | _=>false
noncomputable def eqV:V->V->Bool
 | .non,.non=>true
 | .bl a,.bl b=>a==b
 | .bl a,.int b=>(if a then 1 else 0)==b
 | .int a,.bl b=>a==(if b then 1 else 0)
 | .int a,.int b=>a==b
 | .str a,.str b=>a==b
 | _,_=>false
theorem Af{A:Around}{s:Shared}{y x:V}{u v:Value}(ry:aA y u)(rx:aA x v)(fy:eF y=true)(fx:eF x=true):SeqAt.EqAt A s u v (eqV y x):=by
 cases y with
 | non=>
   cases ry;cases x with
   | non=>cases rx;exact SeqAt.EqAt.same _
   | bl b=>cases rx;exact SeqAt.EqAt.none_bool b
   | int b=>obtain⟨t,rfl⟩:=rx;exact SeqAt.EqAt.none_int b t
   | str b=>obtain⟨t,rfl⟩:=rx;exact SeqAt.EqAt.none_str b t
   | _=>exact absurd (show false=true from fx) Zu
 | bl a=>
   cases ry;cases x with
   | non=>cases rx;exact SeqAt.EqAt.bool_none a
   | bl b=>cases rx;exact SeqAt.EqAt.bool_bool a b
   | int b=>obtain⟨t,rfl⟩:=rx;exact SeqAt.EqAt.bool_int a b t
   | str b=>obtain⟨t,rfl⟩:=rx;exact SeqAt.EqAt.bool_str a b t
   | _=>exact absurd (show false=true from fx) Zu
 | int a=>
   obtain⟨t',rfl⟩:=ry;cases x with
   | non=>cases rx;exact SeqAt.EqAt.int_none a t'
   | bl b=>cases rx;exact SeqAt.EqAt.int_bool a t' b
   | int b=>obtain⟨t,rfl⟩:=rx;exact SeqAt.EqAt.int_int a t' b t
   | str b=>obtain⟨t,rfl⟩:=rx;exact SeqAt.EqAt.int_str a t' b t
   | _=>exact absurd (show false=true from fx) Zu
 | str a=>
   obtain⟨t',rfl⟩:=ry;cases x with
   | non=>cases rx;exact SeqAt.EqAt.str_none a t'
   | bl b=>cases rx;exact SeqAt.EqAt.str_bool a t' b
   | int b=>obtain⟨t,rfl⟩:=rx;exact SeqAt.EqAt.str_int a t' b t
   | str b=>obtain⟨t,rfl⟩:=rx;exact SeqAt.EqAt.str_str a t' b t
   | _=>exact absurd (show false=true from fx) Zu
 | _=>exact absurd (show false=true from fy) Zu
noncomputable def eqU(x:V)(u:Value):Bool:=match u with
 | .none=>eqV .non x
 | .bool b=>eqV (.bl b) x
 | .int i _=>eqV (.int i) x
 | .str z _=>eqV (.str z) x
 | _=>false
theorem vG{x y:V}{u:Value}(r:aA y u)(f:eF y=true):eqU x u=eqV y x:=by
 cases y with
 | non=>cases r;rfl
 | bl b=>cases r;rfl
 | int i=>obtain⟨t,rfl⟩:=r;rfl
 | str z=>obtain⟨t,rfl⟩:=r;rfl
 | _=>exact absurd (show false=true from f) Zu
theorem ik{x:V}:∀{xs:List V} {us:List Value},aC xs us->xs.all eF=true->us.any (eqU x)=xs.any fun y=>eqV y x
 | _,_,.nil,_=>rfl
 | y::xs,u::us,.cons r t,f=>by
   rw[all_cons,Zx]at f;rw[Zy,Zy,vG r f.1,ik t f.2]
theorem fO{A:Around}{s:Shared}{x:V}{v:Value}(rx:aA x v)(fx:eF x=true):∀{xs:List V} {us:List Value},aC xs us->xs.all eF=true->∀u∈us,SeqAt.EqAt A s u v (eqU x u)
 | _,_,.nil,_=>fun u hu=>by cases hu
 | y::xs,u::us,.cons r t,f=>fun u' hu=>by
   rw[all_cons,Zx]at f;rcases mem_cons.mp hu with rfl|hu
   ·rw[vG r f.1];exact Af r rx f.1 fx
   ·exact fO rx fx t f.2 u' hu
noncomputable def inV(x:V)(xs:List V):Bool:=xs.any fun y=>eqV y x
def rIn(K:PySem.W.Frag)(neg:Bool):R2:=fun x y H Q=>∃p xs,y= .ref p/\(SqL K H p xs\/SqT K H p xs)/\eF x=true/\xs.all eF=true/\Q (.bl (if neg then !inV x xs else inV x xs)) H
theorem tE:OpR X (compareOp .In) (rIn X.K false):=by
 intro pins s σ H x y v u Q I rx ry h;obtain⟨p,xs,rfl,hq,fx,fs,q⟩:=h;cases ry;rcases hq with hq|hq
 ·obtain⟨its,r,pl,hz⟩:=I.list hq;refine SeqAt.in_listAt (eqU x) pl.isList (fun w hw=>fO rx fx r fs w (by simpa using hw)) ⟨.bl _,H,I,rfl,?_⟩;rw[show its.toArray.any (eqU x)=its.any (eqU x) by simp,ik r fs];exact q
 ·obtain⟨its,r,pl,hz⟩:=I.tuple hq;refine SeqAt.in_tupleAt (eqU x) pl (fun w hw=>fO rx fx r fs w (by simpa using hw)) ⟨.bl _,H,I,rfl,?_⟩;rw[show its.toArray.any (eqU x)=its.any (eqU x) by simp,ik r fs];exact q
theorem mO:OpR X (compareOp .NotIn) (rIn X.K true):=by
 intro pins s σ H x y v u Q I rx ry h;obtain⟨p,xs,rfl,hq,fx,fs,q⟩:=h;cases ry;rcases hq with hq|hq
 ·obtain⟨its,r,pl,hz⟩:=I.list hq;refine SeqAt.notIn_listAt (eqU x) pl.isList (fun w hw=>fO rx fx r fs w (by simpa using hw)) ⟨.bl _,H,I,rfl,?_⟩;rw[show its.toArray.any (eqU x)=its.any (eqU x) by simp,ik r fs];exact q
 ·obtain⟨its,r,pl,hz⟩:=I.tuple hq;refine SeqAt.notIn_tupleAt (eqU x) pl (fun w hw=>fO rx fx r fs w (by simpa using hw)) ⟨.bl _,H,I,rfl,?_⟩;rw[show its.toArray.any (eqU x)=its.any (eqU x) by simp,ik r fs];exact q
theorem mP:OpR X (compareOp .NotIn) (fun x y H Q=>∃i j,x= .str i/\y= .str j/\Q (.bl (!(!(Builtin.Str.occurrences j i 0 j.length 1).isEmpty))) H):=by
 intro pins s σ H x y v u Q I rx ry h;obtain⟨i,j,rfl,rfl,q⟩:=h;obtain⟨t,rfl⟩:=rx;obtain⟨t',rfl⟩:=ry;exact notIn_str ⟨.bl _,H,I,rfl,q⟩
theorem mQ:cq X (.type "list") (fun xs H Q=>∃p ys,xs=[.ref p]/\(SqL X.K H p ys\/SqT X.K H p ys)/\∀l,H l=none->Q (.ref l) (upd H l (.lst ys))):=by
 intro pins s σ H xs us Q I r h;obtain⟨p,ys,rfl,hq,q⟩:=h;obtain⟨u,rfl,rx⟩:=d0 r;cases rx;have fin:∀(its:List Value),aC ys its->ys.length<=sizeLine->∀(h':Heap) (c':Nat),(∀b o',s.heap.get? b=some o'->h'.get? b=some o')->
  h'.get? s.heap.objs.size=some {cls:= .type "list",dict:=none,data:= .seq its.toArray c',slots:= #[]}->EP X pins σ Q (.ref s.heap.objs.size) {s with heap:=h'}:=fun its r' hz h' c' kp e=>
  ⟨.ref s.heap.objs.size,_,I.laid (t':=s.toks) kp (Zi _) (show br X.prog X.w _ h' _ (.lst ys)from⟨hz,its,c',r',e⟩),rfl,q _ (I.hok.fresh (Zi _))⟩
 rcases hq with hq|hq
 ·obtain⟨its,r',pl,hz⟩:=I.list hq;have hlen:=r'.length;obtain⟨o,ho,hc,n,hd⟩:=pl.isList;exact call_list_seq p (.inl rfl) ho hc hd (fun h' c' kp e=>fin its r' hz h' c' kp e) (by simp only[Zp]<;> lia)
 ·obtain⟨its,r',pl,hz⟩:=I.tuple hq;have hlen:=r'.length;obtain⟨o,ho,hc,n,hd⟩:=pl;exact call_list_seq p (.inr rfl) ho hc hd (fun h' c' kp e=>fin its r' hz h' c' kp e) (by simp only[Zp]<;> lia)
def tyV(K:PySem.W.Frag)(T:String)(x:V)(H:Hp):Prop:=match x with
 | .str _=>T="str"
 | .int _=>T="int"
 | .ref p=>(T="list"/\∃xs,SqL K H p xs)\/(T="tuple"/\∃o,K.lookup p=some o/\o.cls= .type "tuple"/\o.dict=none)\/
  (T="dict"/\((∃kvs,H p=some (.dK kvs))\/∃kvs,H p=some (.dT kvs)))\/(T="set"/\∃S n,H p=some (.set S n))
 | _=>False
theorem vH{pins:List (Addr×Obj)}{σ:St}{H:Hp}{s:Shared}{T:String}{x:V}{v:Value}(I:Inv X pins σ H s)(r:aA x v)(ty:tyV X.K T x H):
 s.TypeIs v T/\∀a,v= .ref a->∃ob,s.heap.get? a=some ob/\ob.dict=none:=by
 cases x with
 | str z=>
   obtain⟨t,rfl⟩:=r;cases(show T="str" from ty);exact⟨typeIs_str s z t,fun _ e=>nomatch e⟩
 | int i=>
   obtain⟨t,rfl⟩:=r;cases(show T="int" from ty);exact⟨typeIs_int s i t,fun _ e=>nomatch e⟩
 | ref p=>
   cases r;rcases ty with⟨rfl,xs,hq⟩|⟨rfl,o,hk,hc,hd⟩|⟨rfl,hk⟩|⟨rfl,S,n,hk⟩
   ·obtain⟨its,_,pl,_⟩:=I.list hq;refine⟨pl.isList.typeIs,fun a e=>?_⟩;cases e;obtain⟨o,n,e,c,hd,_⟩:=pl;exact⟨o,e,hd⟩
   ·refine⟨⟨o,I.kIn p o hk,hc⟩,fun a e=>?_⟩;cases e;exact⟨o,I.kIn _ o hk,hd⟩
   ·have z:∃o,s.heap.get? p=some o/\o.ExactDict:=by
     rcases hk with⟨kvs,hk⟩|⟨kvs,hk⟩
     ·obtain⟨_,_,_,_,o,_,_,e,ex,_⟩:=I.hok p _ hk;exact⟨o,e,ex⟩
     ·obtain⟨_,_,_,_,o,_,_,e,ex,_⟩:=I.hok p _ hk;exact⟨o,e,ex⟩
    obtain⟨o,e,ex⟩:=z;refine⟨⟨o,e,ex.1⟩,fun a e2=>?_⟩;cases e2;exact⟨o,e,ex.2.1⟩
   ·obtain⟨o,_,_,_,e,ex,_⟩:=I.hok p _ hk;refine⟨⟨o,e,ex.1⟩,fun a e2=>?_⟩;cases e2;exact⟨o,e,ex.2.1⟩
 | _=>exact False.elim ty
def x5(K:PySem.W.Frag)(T:String)(r:V->List V->Hp->VK->Prop)(to:TE):TE:=fun σ H Q=>to σ H fun x H1=>tyV K T x H1/\r x [] H1 Q
def tBM(K:PySem.W.Frag)(T:String)(r:V->List V->Hp->VK->Prop)(to:TE)(t:TA):TE:=fun σ H Q=>to σ H fun x H1=>tyV K T x H1/\t σ H1 fun xs H2=>r x xs H2 Q
variable{o e:Expr}{es:List Expr}{to:TE}{t:TA}{name:Str}{apos cpos:Pos}{T id:String}{r:V->List V->Hp->VK->Prop}
theorem Ag(pa:PlainAttrs T)(slot:Slot T name id)(hty:typeOf (.builtin id)=pure (.type "method_descriptor"))(hm:MtR X id r)(ho:PE X o to)
 (hbase:attributeBase o name X.env (eval o X.env)=eval o X.env) (hline:(apos.endLine==cpos.line)=true):PE X (.Call (.Attribute o name apos) [] [] cpos) (x5 X.K T r to):=by
 intro pins s σ H Q I h;refine wpAny_Call_method0_late hbase hline (thn (ho pins s σ H _ I h) fun v s1 ⟨x,H1,I1,r1,ty,q1⟩=>?_);obtain⟨h1,h2⟩:=vH I1 r1 ty;exact⟨T,id,pa,slot,hty,h1,h2,Calls.callWith_builtin rfl (PySem.evalArgs_none (hm pins s1 σ H1 x [] v [] Q I1 r1 .nil q1))⟩
theorem Bx(pa:PlainAttrs T)(slot:Slot T name id)(hty:typeOf (.builtin id)=pure (.type "method_descriptor"))(hm:MtR X id r)(ho:PE X o to)(ha:PA X (e::es) t)
 (hbase:attributeBase o name X.env (eval o X.env)=eval o X.env)
 (hfew:((backTo cpos (starEach (e::es) X.env)).all (fun x=>!x.1)&&(backToKw cpos (keywordEach [] X.env)).all (fun x=>x.1.isSome)
  && decide ((e::es).length+([]:List Keyword).length+(if([]:List Keyword).isEmpty then 0 else 1)<30))=true)
 (hline:(apos.endLine==cpos.line)=true) (hs:starEach (e::es) X.env=(false,eval e X.env)::starEach es X.env) (hplain:(backTo cpos (starEach es X.env)).any (·.1)=false):
 PE X (.Call (.Attribute o name apos) (e::es) [] cpos) (tBM X.K T r to t):=by
 intro pins s σ H Q I h;refine wpAny_Call_method_late hbase hfew hline rfl (thn (ho pins s σ H _ I h) fun v s1 ⟨x,H1,I1,r1,ty,q1⟩=>?_);obtain⟨h1,h2⟩:=vH I1 r1 ty;refine⟨T,id,pa,slot,hty,h1,h2,?_⟩;have hA:=ha cpos pins s1 σ H1 _ I1 q1;rw[hs]at hA ⊢;refine Calls.callWith_builtin (by show(false||(backTo cpos (starEach es X.env)).any (·.1))=false;rw[hplain]<;> rfl) (Calls.evalArgs_plain ?_);exact thn hA fun us s2 ⟨vs,H2,I2,r2,q2⟩=>hm pins s2 σ H2 x vs v us Q I2 r1 r2 q2
end
def MtM(X:Cx)(id:String)(r:V->List V->Hp->VK->Prop):Prop:=
 ∀(pins:List (Addr×Obj)) (s:Shared) (σ:St) (H:Hp) (x:V) (xs:List V) (v:Value) (us:List Value) (Q:VK),Inv X pins σ H s->aA x v->aC xs us->r x xs H Q->
  wpAny (model X.prog X.w) X.A (call (.builtin id) (v::us)) (EP X pins σ Q) X.xe s
theorem aC.one:∀{x:V} {us:List Value},aC [x] us->∃u,us=[u]/\aA x u
 | _,_,.cons r .nil=>⟨_,rfl,r⟩
theorem aC.zero:∀{us:List Value},aC [] us->us=[]
 | _,.nil=>rfl
theorem aC.rep{xs:List V}{us:List Value}(h:aC xs us):∀k:Nat,aC (List.replicate k xs).flatten (List.replicate k us).flatten
 | 0=> .nil
 | k+1=>by
   rw[replicate_succ,replicate_succ,flatten_cons,flatten_cons];exact aC.append h (aC.rep h k)
theorem lQ(its:List Value):∀(k:Nat) (acc:List Value),
 List.foldl (fun x1 x2=>x1++x2) acc.toArray (List.replicate k its.toArray)=(acc++(List.replicate k its).flatten).toArray
 | 0,acc=>by simp
 | k+1,acc=>by
   have e:acc.toArray++its.toArray=(acc++its).toArray:=by simp
   have e2:(acc++its) ++(List.replicate k its).flatten=acc++(List.replicate (k+1) its).flatten:=by
    rw[replicate_succ,flatten_cons,Ze]
   rw[<-e2,<-lQ its k (acc++its),<-e,replicate_succ,Y4]
section
variable{X:Cx}{pins:List (Addr×Obj)}{σ:St}{H:Hp}{s:Shared}{l b:Addr}{xs ys zs:List V}
theorem Inv.lset{its its':List Value}{n:Nat}{f:Array Value->Array Value}{t':Nat}(I:Inv X pins σ H s)(hH:H l=some (.lst xs))
 (e:s.heap.get? l=some {cls:= .type "list",data:= .seq its.toArray n}) (hf:f its.toArray=its'.toArray) (hv:aC ys its') (hz:ys.length<=sizeLine):
 Inv X pins σ (upd H l (.lst ys)) {s with heap:=s.heap.update l (Obj.mapSeq f),toks:=t'}:=by
 have q:=PySem.IsL.update e f;rw[hf]at q;refine I.write (x:=l) (e:=l) (by rw[hH];exact trivial) (.inl rfl) (fun b' u hb hu=>(get?_update_other s.heap (Obj.mapSeq f) (Ne.symm hb)).trans hu) ⟨_,q⟩ ?_;exact⟨hz,its',_,hv,q⟩
theorem Inv.lnew{its:List Value}{t':Nat}(I:Inv X pins σ H s)(hv:aC ys its)(hz:ys.length<=sizeLine):
 Inv X pins σ (upd H s.heap.objs.size (.lst ys)) {s with heap:=s.heap.push {cls:= .type "list",data:= .seq its.toArray},toks:=t'}:=
 I.laid (fun _ _ q=>Z7 _ q) (Zi _) ⟨hz,its,0,hv,Zj _ rfl⟩
theorem Inv.fresh(I:Inv X pins σ H s):H s.heap.objs.size=none:=I.hok.fresh (Zi _)
theorem Inv.lstM(I:Inv X pins σ H s)(hH:H l=some (.lst xs)):xs.length<=sizeLine/\∃(its:List Value) (n:Nat),aC xs its/\xs.length=its.length/\s.heap.get? l=some {cls:= .type "list",data:= .seq its.toArray n}:=by
 obtain⟨z,its,n,r,e⟩:=I.hok l _ hH;exact⟨z,its,n,r,r.length,e⟩
theorem oz{n:Nat}(h:n<=sizeLine):Builtin.List.listTooLong n=false:=by
 unfold Builtin.List.listTooLong;exact Zh (by lia)
end
section
variable{X:Cx}
def mR:V->List V->Hp->VK->Prop:=fun x vs H Q=>asR x fun l=>∃y,vs=[y]/\∃xs,H l=some (.lst xs)/\xs.length<sizeLine/\Q .non (upd H l (.lst (xs++[y])))
theorem lR:MtM X "list.append" mR:=by
 intro pins s σ H x vs v us Q I rx rv h;obtain⟨l,rfl,y,rfl,xs,hH,hz,q⟩:=j8 h;cases rx;obtain⟨u,rfl,ru⟩:=rv.one;obtain⟨z,its,n,r,hl,e⟩:=I.lstM hH;refine call_meets F.slot_list_append ⟨_,e,rfl⟩ F.entry_list_append (F.args_list_append_2 _ _) (PySem.list_append l its.toArray n u (by rw[Zp];lia)) ⟨e,?_⟩;refine⟨.non,_,I.lset (its':=its++[u]) hH e (by simp) (r.append (.cons ru .nil)) ?_,rfl,q⟩;rw[Z9,length_singleton]
 lia
def mS:V->List V->Hp->VK->Prop:=fun x vs H Q=>∃l b xs zs,x= .ref l/\vs=[.ref b]/\H l=some (.lst xs)/\H b=some (.lst zs)/\xs.length+zs.length<=sizeLine/\Q .non (upd H l (.lst (xs++zs)))
theorem tF:MtM X "list.extend" mS:=by
 intro pins s σ H x vs v us Q I rx rv h;obtain⟨l,b,xs,zs,rfl,rfl,hH,hB,hz,q⟩:=h;cases rx;obtain⟨u,rfl,ru⟩:=rv.one;cases ru;obtain⟨z,its,n,r,hl,e⟩:=I.lstM hH;obtain⟨z2,its2,n2,r2,hl2,e2⟩:=I.lstM hB;have hsz:its.toArray.size+its2.toArray.size<=sizeLine:=by rw[Zp,Zp];lia
 have hlong: ¬ (!its.toArray.isEmpty&&Builtin.List.listTooLong (its.toArray.size+its2.toArray.size))=true:=by
  rw[oz hsz,Bool.and_false];exact Zu
 refine call_meets F.slot_list_extend ⟨_,e,rfl⟩ F.entry_list_extend (F.args_list_extend_2 _ _)
  (AutoSeq1.list_extend_list_list_0 l its.toArray n b its2.toArray n2 hlong (by rw[Zp];lia) (by lia)) ⟨e,e2,?_⟩
 refine⟨.non,_,I.lset (its':=its++its2) hH e (by simp) (r.append r2) ?_,rfl,q⟩;rw[Z9]
 lia
def Ah:V->List V->Hp->VK->Prop:=fun x vs H Q=>∃l xs,x= .ref l/\vs=[]/\H l=some (.lst xs)/\Q .non (upd H l (.lst []))
def Ai:R2:=fun x y H Q=>∃l b xs zs,x= .ref l/\y= .ref b/\H l=some (.lst xs)/\H b=some (.lst zs)/\xs.length+zs.length<=sizeLine/\∀p,H p=none->Q (.ref p) (upd H p (.lst (xs++zs)))
theorem Aj:OpR X (binaryOp .Add) Ai:=by
 intro pins s σ H x y v u Q I rx ry h;obtain⟨l,b,xs,zs,rfl,rfl,hH,hB,hz,q⟩:=h;cases rx;cases ry;obtain⟨z,its,n,r,hl,e⟩:=I.lstM hH;obtain⟨z2,its2,n2,r2,hl2,e2⟩:=I.lstM hB;refine PySem.P.add_list e e2 ?_ (by rw[Zp,Zp];lia);have ea:its.toArray++its2.toArray=(its++its2).toArray:=by simp
 rw[ea];exact⟨.ref _,_,I.lnew (t':=s.toks) (r.append r2) (by rw[Z9];lia),rfl,q _ I.fresh⟩
def Ak:R2:=fun x y H Q=>∃l k xs,x= .ref l/\y= .int k/\H l=some (.lst xs)/\ -(2^63)<=k/\k<2^63/\xs.length*k.toNat<=sizeLine/\
 ∀p,H p=none->Q (.ref p) (upd H p (.lst (List.replicate k.toNat xs).flatten))
theorem x6{α:Type}(xs:List α)(k:Nat):(List.replicate k xs).flatten.length=k*xs.length:=by
 induction k with
 | zero=>simp
 | succ k ih=>rw[replicate_succ,flatten_cons,Z9,ih,Nat.succ_mul,Nat.add_comm]
theorem Al:OpR X (binaryOp .Mult) Ak:=by
 intro pins s σ H x y v u Q I rx ry h;obtain⟨l,k,xs,rfl,rfl,hH,h1,h2,hz,q⟩:=h;cases rx;obtain⟨t,rfl⟩:=ry;obtain⟨z,its,n,r,hl,e⟩:=I.lstM hH;have hlen:its.toArray.size*k.toNat<=sizeLine:=by rw[Zp,<-hl];exact hz
 have hcap: ¬ its.toArray.size*k.toNat>(2^63-1)/8:=by
  have:(sizeLine:Nat)<=(2^63-1)/8:=by decide
  lia
 have hfit: ¬ (!Builtin.List.listFitsIndex k)=true:=by
  rw[fitsIndex_both h1 h2];exact Zu
 have hlong: ¬ Builtin.List.listTooLong (its.toArray.size*k.toNat)=true:=by
  rw[oz hlen];exact Zu
 have hnew:List.foldl (fun x1 x2=>x1++x2) #[] (List.replicate (if its.toArray.isEmpty=true then 0 else k.toNat) its.toArray)=(List.replicate k.toNat its).flatten.toArray:=by
  have f0:∀m:Nat,List.foldl (fun x1 x2=>x1++x2) #[] (List.replicate m its.toArray)=(List.replicate m its).flatten.toArray:=fun m=>by
   have:=lQ its m [];rw[nil_append]at this;exact this
  rw[f0];cases its with
  | nil=>simp
  | cons a r'=>rw[if_neg (by simp)]
 refine wpAny_binaryOp_repeat_ref (T:="list") (U:="int") (by decide) ⟨_,e,rfl⟩ (fun s'=>typeIs_int s' k t) noFill_list_mul F.fills_int_mul F.slot_int_rmul repeat_list F.slot_int_index.lookup
  (call_meets F.slot_int_rmul (typeIs_int s k t) F.entry_int_rmul (F.args_int_rmul_2 _ _) (int___rmul___int_list k t l its.toArray n)
   ⟨e,rfl,⟨_,e,rfl⟩,call_meets F.slot_list_mul ⟨_,e,rfl⟩ F.entry_list_mul (F.args_list_mul_2 _ _) (AutoListH.list___mul___list_int_3 l its.toArray n k t hfit hcap hlong) ⟨e,?_⟩⟩)
 rw[hnew];exact⟨.ref _,_,I.lnew (t':=s.toks) (r.rep k.toNat) (by rw[x6,Nat.mul_comm];exact hz),rfl,q _ I.fresh⟩
end
section
variable{prog:Program}{w:World}{A:Around}{E:Value->Shared->Prop}{s:Shared}
end
section
variable{X:Cx}
end
section
variable{κ:Type}[DecidableEq κ]
noncomputable def dj(kvs:List (κ×V))(k:κ):Option V:=(kvs.find? fun kv=>decide (kv.1=k)).map (·.2)
noncomputable def dG(kvs:List (κ×V))(k:κ)(v:V):List (κ×V):=
 if(kvs.any fun kv=>decide (kv.1=k))=true then kvs.map (fun kv=>if kv.1=k then(kv.1,v)else kv)else kvs++[(k,v)]
theorem eG{p:κ×V}{r:List (κ×V)}{k:κ}(e:p.1=k):dj (p::r) k=some p.2:=by simp[dj,find?_cons,e]
theorem dH{p:κ×V}{r:List (κ×V)}{k:κ}(e: ¬ p.1=k):dj (p::r) k=dj r k:=by simp[dj,find?_cons,e]
theorem il(k:κ):∀kvs:List (κ×V),(kvs.any fun kv=>decide (kv.1=k))=(dj kvs k).isSome
 |[]=>rfl
 | p::r=>by
   rw[Zy];by_cases e:p.1=k
   ·simp only[eG e,Zf e,Bool.true_or,Option.isSome_some]
   ·rw[dH e,Zh e,Bool.false_or];exact il k r
theorem fP(kvs:List (κ×V))(k:κ)(v:V):(dG kvs k v).length<=kvs.length+1:=by
 unfold dG
 split
 ·rw[Z6];lia
 ·rw[Z9,Zr,length_nil];lia
theorem vI{kvs:List (κ×V)}{k:κ}(v:V)(h:dj kvs k=none):dG kvs k v=kvs++[(k,v)]:=by
 unfold dG;rw[il,h];exact if_neg (by decide)
theorem eR.isSome_eq{o:Option V}{u:Option Value}(r:eR o u):o.isSome=u.isSome:=by
 cases o with
 | none=>cases u with
   | none=>rfl
   | some _=>exact(show False from r).elim
 | some _=>cases u with
   | none=>exact(show False from r).elim
   | some _=>rfl
theorem KV.val{kvs:List (κ×V)}{vs:List (κ×Value)}(r:KV kvs vs)(k:κ):eR (dj kvs k) (valueAt vs k):=by
 unfold KV at r
 induction r with
 | nil=>exact True.intro
 | @cons p q ps qs h t ih=>
   obtain⟨h1,h2⟩:=h;by_cases e:p.1=k
   ·have e':q.1=k:=h1.symm.trans e;have b:valueAt (q::qs) k=some q.2:=by simp[valueAt,find?_cons,e']
    rw[eG e,b];exact h2
   ·have e': ¬ q.1=k:=fun z=>e (h1.trans z)
    have b:valueAt (q::qs) k=valueAt qs k:=by simp[valueAt,find?_cons,e']
    rw[dH e,b];exact ih
theorem KV.any{kvs:List (κ×V)}{vs:List (κ×Value)}(r:KV kvs vs)(k:κ):(kvs.any fun kv=>decide (kv.1=k))=vs.any fun kv=>decide (kv.1=k):=by
 unfold KV at r
 induction r with
 | nil=>rfl
 | cons h t ih=>rw[Zy,Zy,ih,h.1]
theorem KV.repl{kvs:List (κ×V)}{vs:List (κ×Value)}(r:KV kvs vs)(k:κ){y:V}{u:Value}(ry:aA y u):
 KV (kvs.map fun kv=>if kv.1=k then(kv.1,y)else kv) (vs.map fun kv=>if kv.1=k then(kv.1,u)else kv):=by
 unfold KV at r ⊢
 induction r with
 | nil=>exact .nil
 | @cons p q ps qs h t ih=>
   rw[Ym,Ym];refine .cons ?_ ih;obtain⟨h1,h2⟩:=h;by_cases e:p.1=k
   ·rw[if_pos e,if_pos (h1.symm.trans e)];exact⟨h1,ry⟩
   ·rw[if_neg e,if_neg (fun z=>e (h1.trans z))];exact⟨h1,h2⟩
theorem KV.put{kvs:List (κ×V)}{vs:List (κ×Value)}(r:KV kvs vs)(k:κ){y:V}{u:Value}(ry:aA y u):KV (dG kvs k y) (stored vs k u):=by
 unfold dG stored;rw[r.any k];by_cases e:(vs.any fun kv=>decide (kv.1=k))=true
 ·rw[if_pos e,if_pos e];exact r.repl k ry
 ·rw[if_neg e,if_neg e];exact Paired.snoc r ⟨rfl,ry⟩
theorem KV.length{kvs:List (κ×V)}{vs:List (κ×Value)}(r:KV kvs vs):kvs.length=vs.length:=Paired.length r
end
theorem oA{P:Program}{w:World}{k:Key}{u:Value}(r:aA (kV k) u):(aB P w).is k u=true:=by
 cases k with
 | inl i=>obtain⟨t,e⟩:=(show∃t,u=Value.int i t from r);subst e;exact oi P w i t
 | inr x=>obtain⟨t,e⟩:=(show∃t,u=Value.str x t from r);subst e;exact oj P w x t
theorem lS{P:Program}{w:World}:∀{ks:List Key} {us:List Value},aC (ks.map kV) us->ItemsAre (aB P w) ks us
 |[],_,r=>by rw[map_nil]at r;cases r;exact .nil
 | k::ks,_,r=>by
   rw[Ym]at r;cases r with
   | cons h t=>exact .cons (oA h) (lS t)
noncomputable abbrev KT(H:Hp):List (List Key×V)->List (List Key×Addr×Value)->Prop:=Paired fun p q=>p.1=q.1/\H q.2.1=some (.tup (p.1.map kV))/\aA p.2 q.2.2
theorem KT.val{H:Hp}{kvs:List (List Key×V)}{xs:List (List Key×Addr×Value)}(r:KT H kvs xs)(k:List Key):eR (dj kvs k) ((atKey xs k).map (·.2)):=by
 induction r with
 | nil=>exact True.intro
 | @cons p q ps qs h t ih=>
   obtain⟨h1,_,h2⟩:=h;by_cases e:p.1=k
   ·have e':q.1=k:=h1.symm.trans e;have b:atKey (q::qs) k=some q.2:=by simp[atKey,find?_cons,e']
    rw[eG e,b];exact h2
   ·have e': ¬ q.1=k:=fun z=>e (h1.trans z)
    have b:atKey (q::qs) k=atKey qs k:=by simp[atKey,find?_cons,e']
    rw[dH e,b];exact ih
theorem KT.repl{H:Hp}{kvs:List (List Key×V)}{xs:List (List Key×Addr×Value)}(r:KT H kvs xs)(k:List Key){y:V}{u:Value}(ry:aA y u):
 KT H (kvs.map fun kv=>if kv.1=k then(kv.1,y)else kv) (xs.map (putAt k u)):=by
 induction r with
 | nil=>exact .nil
 | @cons p q ps qs h t ih=>
   rw[Ym,Ym];refine .cons ?_ ih;obtain⟨h1,h2,h3⟩:=h;unfold putAt;by_cases e:p.1=k
   ·rw[if_pos e,if_pos (h1.symm.trans e)];exact⟨h1,h2,ry⟩
   ·rw[if_neg e,if_neg (fun z=>e (h1.trans z))];exact⟨h1,h2,h3⟩
theorem KT.put{H:Hp}{kvs:List (List Key×V)}{xs:List (List Key×Addr×Value)}(r:KT H kvs xs)(k:List Key){b:Addr}{y:V}{u:Value}(hb:H b=some (.tup (k.map kV)))(ry:aA y u):
 KT H (dG kvs k y) (storedH xs k b u):=by
 have e:(kvs.any fun kv=>decide (kv.1=k))=(atKey xs k).isSome:=by
  rw[il,(r.val k).isSome_eq,Option.isSome_map]
 unfold dG storedH;rw[e];by_cases q:(atKey xs k).isSome=true
 ·rw[if_pos q,if_pos q];exact r.repl k ry
 ·rw[if_neg q,if_neg q];exact Paired.snoc r ⟨rfl,hb,ry⟩
theorem KT.keeps{H H':Hp}{kvs:List (List Key×V)}{xs:List (List Key×Addr×Value)}(r:KT H kvs xs)(ht:∀b ys,H b=some (.tup ys)->H' b=some (.tup ys)):KT H' kvs xs:=
 Paired.mapP r fun _ _ z=>⟨z.1,ht _ _ z.2.1,z.2.2⟩
section
variable{P:Program}{w:World}{H:Hp}{h:Heap}{a:Addr}
theorem y8{u:HO}(ok:HOk P w H h)(e:Rd H a u):br P w H h a u:=e.ok ok
theorem sd{kvs:List (Key×V)}(ok:HOk P w H h)(e:Rd H a (.dK kvs)):kvs.length<=sizeLine/\(a==sysModules)=false/\∃vs,KV kvs vs/\h.DictOf (aB P w) a vs:=
 show br P w H h a (.dK kvs)from y8 ok e
theorem se{kvs:List (Key×V)}(ok:HOk P w H h)(e:H a=some (.dK kvs)):kvs.length<=sizeLine/\(a==sysModules)=false/\∃vs,KV kvs vs/\h.DictOf (aB P w) a vs:=sd ok (.inl e)
theorem mT{ks:List Key}(ok:HOk P w H h)(e:H a=some (.tup (ks.map kV))):(tupleKind (aB P w)).is h ks a:=by
 obtain⟨_,its,r,o,h1,h2,n,h3⟩:=(show br P w H h a (.tup (ks.map kV))from ok a _ e)
 exact⟨o,its.toArray,n,h1,h2,h3,by simpa using lS r⟩
theorem sf{kvs:List (List Key×V)}(ok:HOk P w H h)(e:Rd H a (.dT kvs)):kvs.length<=sizeLine/\(a==sysModules)=false/\
 ∃xs,KT H kvs xs/\h.DictOfH (tupleKind (aB P w)) a xs:=by
 obtain⟨z,y,xs,r,o,es,ep,h1,h2,h3,h4,h5⟩:=(show br P w H h a (.dT kvs)from y8 ok e)
 refine⟨z,y,xs,r,o,es,ep,h1,h2,h3,h4,fun x hx=>?_,h5⟩;have all:∀{l:List (List Key×V)} {m:List (List Key×Addr×Value)},KT H l m->∀x∈m,(tupleKind (aB P w)).is h x.1 x.2.1:=by
  intro l m q
  induction q with
  | nil=>intro x hx;exact nomatch hx
  | @cons p q ps qs hq t ih=>
    intro x hx;rcases mem_cons.mp hx with e|hx
    ·subst e;exact mT ok (by rw[<-hq.1];exact hq.2.1)
    ·exact ih x hx
 exact all r x hx
theorem By{kvs:List (List Key×V)}(ok:HOk P w H h)(e:H a=some (.dT kvs)):kvs.length<=sizeLine/\(a==sysModules)=false/\
 ∃xs,KT H kvs xs/\h.DictOfH (tupleKind (aB P w)) a xs:=sf ok (.inl e)
end
def im(H:Hp)(a:Addr)(y:V)(r:Option V):Prop:=
 (∃kvs k,Rd H a (.dK kvs)/\y=kV k/\r=dj kvs k)\/∃kvs k b,Rd H a (.dT kvs)/\y= .ref b/\H b=some (.tup (k.map kV))/\r=dj kvs k
def oB(H:Hp)(a:Addr)(y v:V)(H':Hp):Prop:=
 (∃kvs k,H a=some (.dK kvs)/\y=kV k/\kvs.length<sizeLine/\H'=upd H a (.dK (dG kvs k v)))\/
 ∃kvs k b,H a=some (.dT kvs)/\y= .ref b/\H b=some (.tup (k.map kV))/\kvs.length<sizeLine/\H'=upd H a (.dT (dG kvs k v))
theorem im.k{H:Hp}{a:Addr}{kvs:List (Key×V)}{k:Key}(e:H a=some (.dK kvs)):im H a (kV k) (dj kvs k):= .inl ⟨kvs,k,.inl e,rfl,rfl⟩
theorem oB.k{H:Hp}{a:Addr}{kvs:List (Key×V)}{k:Key}{v:V}(e:H a=some (.dK kvs))(hl:kvs.length<sizeLine):oB H a (kV k) v (upd H a (.dK (dG kvs k v))):= .inl ⟨kvs,k,e,rfl,hl,rfl⟩
section
variable{X:Cx}{pins:List (Addr×Obj)}{σ:St}{H:Hp}{s:Shared}{a:Addr}{y v:V}{u r:Value}{o:Option V}{A:Around}{E:Value->Shared->Prop}
theorem Inv.big(I:Inv X pins σ H s):sysModules<s.heap.objs.size:=by
 have h:mainGlobals<s.heap.objs.size:=(I.mod.glob.keeps I.bk).lt;exact Nat.lt_trans (by decide) h
theorem tG{Q:Value->Shared->Prop}(hu:A.units+1<cLine)(I:Inv X pins σ H s)(g:im H a y (some v))(ry:aA y u)(h:∀w' s',Inv X pins σ H s'->aA v w'->Q w' s'):
 wpAny (model X.prog X.w) A (getItem (.ref a) u) Q E s:=by
 rcases g with⟨kvs,k,e,ey,l⟩|⟨kvs,k,b,e,ey,eb,l⟩
 ·subst ey;obtain⟨z,hd,vs,rel,dd⟩:=sd I.hok e;obtain⟨w',hw,rw'⟩:=eR.some_of (v:=v) (o:=valueAt vs k) (by rw[l];exact rel.val k);exact wpAny_getItem_of (oA ry) dd.mapOf hw (h w' _ (I.tok _) rw')
 ·subst ey;cases(show u=Value.ref b from ry);obtain⟨z,hd,xs,rel,dd⟩:=sf I.hok e;obtain⟨w',hw,rw'⟩:=eR.some_of (v:=v) (o:=(atKey xs k).map (·.2)) (by rw[l];exact rel.val k);obtain⟨p,hp,hp2⟩:=map_eq_some_iff.mp hw;refine wpAny_getItem_heap (tupleKind_room_in1 hu) (mT I.hok eb) dd hp ?_;rw[hp2];exact h w' _ (I.tok _) rw'
theorem d_in{Q:Value->Shared->Prop}(hu:A.units+1<cLine)(I:Inv X pins σ H s)(g:im H a y o)(ry:aA y u)(h:∀s',Inv X pins σ H s'->Q (.bool o.isSome) s'):
 wpAny (model X.prog X.w) A (compareOp .In u (.ref a)) Q E s:=by
 rcases g with⟨kvs,k,e,ey,l⟩|⟨kvs,k,b,e,ey,eb,l⟩
 ·subst ey;obtain⟨z,hd,vs,rel,dd⟩:=sd I.hok e;refine wpAny_in_of (oA ry) hd dd.mapOf ?_;rw[<-(rel.val k).isSome_eq,<-l];exact h _ (I.tok _)
 ·subst ey;cases(show u=Value.ref b from ry);obtain⟨z,hd,xs,rel,dd⟩:=sf I.hok e;refine wpAny_in_heap (tupleKind_room_in1 hu) (mT I.hok eb) hd dd ?_;have q:=(rel.val k).isSome_eq;rw[Option.isSome_map]at q;rw[<-q,<-l];exact h _ (I.tok _)
theorem mU{h':Heap}{t':Nat}{ob:HO}(I:Inv X pins σ H s)(mu:Mut (H a))(hs:SameBut a s.heap h')(he:∃q,h'.get? a=some q)(new:br X.prog X.w (upd H a ob) h' a ob):
 Inv X pins σ (upd H a ob) {s with heap:=h',toks:=t'}:=
 I.write (x:=a) (e:=a) mu (.inl rfl) (fun b q hb z=>(hs.2 b hb).trans z) he new
theorem vJ{P:Program}{w:World}{H':Hp}{h':Heap}{kvs:List (Key×V)}{vs:List (Key×Value)}(z:kvs.length<=sizeLine)(hd:(a==sysModules)=false)(rel:KV kvs vs)(dd:h'.DictOf (aB P w) a vs):
 br P w H' h' a (.dK kvs):=⟨z,hd,vs,rel,dd⟩
theorem tH{H':Hp}{Q:Unit->Shared->Prop}(hu:A.units+1<cLine)(I:Inv X pins σ H s)(g:oB H a y v H')(ry:aA y u)(rv:aA v r)(h:∀s',Inv X pins σ H' s'->Q () s'):
 wpAny (model X.prog X.w) A (setItem (.ref a) u r) Q E s:=by
 rcases g with⟨kvs,k,e,ey,l,eH⟩|⟨kvs,k,b,e,ey,eb,l,eH⟩
 ·subst ey eH;obtain⟨z,hd,vs,rel,dd⟩:=se I.hok e;have hz:vs.length<=sizeLine:=by rw[<-rel.length];exact z
  have hl:(dG kvs k v).length<=sizeLine:=by have:=fP kvs k v;lia
  refine wpAny_setItem_pairs (hsz:=hz) (oA ry) dd fun h' dd' hs=>h _ ?_
  have he:∃q,h'.get? a=some q:=let⟨q,_,_,hq,_⟩:=dd';⟨q,hq⟩;exact mU I (by rw[e];exact True.intro) hs he (vJ hl hd (rel.put k rv) dd')
 ·subst ey eH;cases(show u=Value.ref b from ry);obtain⟨z,hd,xs,rel,dd⟩:=By I.hok e;have hz:xs.length<=sizeLine:=by rw[<-Paired.length rel];exact z
  have hl:(dG kvs k v).length<=sizeLine:=by have:=fP kvs k v;lia
  refine wpAny_setItem_heap (hsz:=hz) (tupleKind_room_in1 hu) (mT I.hok eb) dd fun h' dd' hs=>h _ ?_
  obtain⟨q,es,ep,hq,h2,h3,h4,_,h5⟩:=dd';refine mU I (by rw[e];exact True.intro) hs ⟨q,hq⟩ ⟨hl,hd,_,(rel.put k eb rv).keeps fun c ys ec=>?_,q,es,ep,hq,h2,h3,h4,h5⟩;rw[ai (A9 ec e (fun z=>nomatch z))];exact ec
end
section
variable{X:Cx}{pins:List (Addr×Obj)}{σ:St}{H:Hp}{s:Shared}{a:Addr}{kvs:List (Key×V)}{k:Key}{u:Value}{A:Around}{E:Value->Shared->Prop}
end
def Am(i:Expr):Prop:=∀ov iv,subscripted i false ov iv=operate [ov,iv] (getItem ov iv)
theorem x8{prog:Program}{w:World}{A:Around}{E:Value->Shared->Prop}{s:Shared}{env:Env}{value slice:Expr}{pos:Pos}{T id:String}{Q:Value->Shared->Prop}
 (hl:typeLookup (.type T) "__getitem__"=pure (some (.builtin id))) (hs:Am slice)
 (h:wpAny (model prog w) A (eval value env) (fun o s₁=>wpAny (model prog w) A (eval slice env) (fun i s₂=>s₂.TypeIs o T/\wpAny (model prog w) A (getItem o i) Q E s₂) E s₁) E s):
 wpAny (model prog w) A (eval (.Subscript value slice pos) env) Q E s:=by
 refine Subscript_ (wpAny_mono h (fun o s₁ h₁=>wpAny_mono h₁ (fun i s₂ h₂=>?_) fun _ _ x=>x) fun _ _ x=>x);obtain⟨hT,h₂⟩:=h₂;unfold subscriptTail;refine Z2 ?_;rw[getitemInPython_of_ne hT.not_modules];refine Z2 (wpAny_specialOf hT hl ?_);have fin:wpAny (model prog w) A (subscripted slice false o i) (fun r s₃=>wpAny (model prog w) A (letTemporaryGo value o r>>= fun _=>pure r) Q E s₃) E s₂:=by
  rw[hs o i];exact wpAny_operating (wpAny_mono h₂ (fun r s₃ h₃=>Z2 (wpAny_letTemporaryGo (Z3 h₃))) fun _ _ x=>x)
 first
  | exact Z3 (Z2 fin)
  | exact Z2 (Z3 (Z2 fin))
  | exact Z2 fin
theorem oC{X:Cx}{pins:List (Addr×Obj)}{σ:St}{H:Hp}{s:Shared}{a:Addr}{y:V}{o:Option V}(I:Inv X pins σ H s)(g:im H a y o):s.TypeIs (.ref a) "dict":=by
 rcases g with⟨kvs,k,e,_,_⟩|⟨kvs,k,b,e,_,_,_⟩
 ·obtain⟨_,_,vs,_,dd⟩:=sd I.hok e;exact dd.typeIs
 ·obtain⟨_,_,xs,_,dd⟩:=sf I.hok e;exact dd.typeIs
def vK(td ty:TE):TE:=fun σ H Q=>td σ H fun x H1=>ty σ H1 fun y H2=>∃a v,x= .ref a/\im H2 a y (some v)/\Q v H2
def An(ty td:TE):TE:=fun σ H Q=>ty σ H fun y H1=>td σ H1 fun x H2=>∃a o,x= .ref a/\im H2 a y o/\Q (.bl o.isSome) H2
def oE(td ty tv:TE):TS:=fun D σ H=>tv σ H fun v H1=>td σ H1 fun x H2=>ty σ H2 fun y H3=>∃a H4,x= .ref a/\oB H3 a y v H4/\D.nx σ H4
section
variable{X:Cx}{o i e value:Expr}{pos pos' tpos:Pos}{td ty tv:TE}
theorem x9(hu:X.A.units+1<cLine)(ho:PE X o td)(hi:PE X i ty)(hs:Am i):PE X (.Subscript o i pos) (vK td ty):=by
 intro pins s σ H Q I h;refine x8 PySem.F.slot_dict_getitem.lookup hs (thn (ho pins s σ H _ I h) fun u s1 ⟨x,H1,I1,rx,q1⟩=>thn (hi pins s1 σ H1 _ I1 q1) fun iv s2 ⟨y,H2,I2,ry,a,v,ex,g,q2⟩=>?_);subst ex;obtain rfl:u=Value.ref a:=rx;exact⟨oC I2 g,tG hu I2 g ry fun w' s3 I3 rw'=>⟨v,H2,I3,rw',q2⟩⟩
theorem Ao(hu:X.A.units+1<cLine)(hi:PE X i ty)(ho:PE X o td):PC X .In i o (An ty td):=by
 intro pins s σ H Q I h;refine thn (hi pins s σ H _ I h) fun iv s1 ⟨y,H1,I1,ry,q1⟩=>thn (ho pins s1 σ H1 _ I1 q1) fun u s2 ⟨x,H2,I2,rx,a,ov,ex,g,q2⟩=>?_
 subst ex;obtain rfl:u=Value.ref a:=rx;exact d_in hu I2 g ry fun s3 I3=>⟨.bl ov.isSome,H2,I3,rfl,q2⟩
theorem ya(hu:X.A.units+1<cLine)(ho:PE X o td)(hi:PE X i ty)(hv:PE X value tv)(hs:swapsWith value (some (.Subscript o i pos')) pos.line X.env=pure false):
 PS X (.Assign [.Subscript o i pos'] value pos) (oE td ty tv):=by
 intro pins s σ H D I h;refine wpAny_Assign_Subscript (thn (hv pins s σ H _ I h) fun r s1 ⟨v,H1,I1,rv,q1⟩=>thn (ho pins s1 σ H1 _ I1 q1) fun u s2 ⟨x,H2,I2,rx,q2⟩=>thn (hi pins s2 σ H2 _ I2 q2) fun iv s3 ⟨y,H3,I3,ry,a,H4,ex,g,q3⟩=>?_) hs;subst ex;obtain rfl:u=Value.ref a:=rx;exact tH hu I3 g ry rv fun s4 I4=>⟨σ,H4,I4,q3⟩
end
theorem vL{P:Program}{w:World}{H:Hp}(h:Heap)(hb:sysModules<h.objs.size):br P w H (h.push {cls:= .type "dict",data:= .dict #[]}) h.objs.size (.dK []):=
 ⟨X7 _,beq_eq_false_iff_ne.mpr (Ne.symm (Zt hb)),[],.nil,Heap.DictOf.new h⟩
def qt:TE:=fun _ H Q=>∀p,H p=none->Q (.ref p) (upd H p (.dK []))
def Ap:TE:=fun _ H Q=>∀p,H p=none->Q (.ref p) (upd H p (.dT []))
section
variable{X:Cx}{pos:Pos}
theorem vM:PE X (.Dict [] [] pos) qt:=fun pins s σ H Q I h=>
 wpAny_Dict_empty ⟨.ref s.heap.objs.size,_,I.laid (a:=s.heap.objs.size) (o:= .dK []) (t':=s.toks) (fun _ _ q=>Z7 _ q) (Zi _) (vL s.heap I.big),rfl,h _ (I.hok.fresh (Zi _))⟩
end
section
variable{X:Cx}{pins:List (Addr×Obj)}{σ:St}{H:Hp}{s:Shared}{a:Addr}{y d:V}{u r:Value}{o:Option V}{A:Around}{E:Value->Shared->Prop}
end
section
variable{X:Cx}{o e f:Expr}{apos cpos:Pos}{td ty tx:TE}
end
section
variable{X:Cx}{pins:List (Addr×Obj)}{σ:St}{H:Hp}{s:Shared}{a:Addr}{kvs:List (Key×V)}{A:Around}{E:Value->Shared->Prop}
end
section
variable{X:Cx}{pins:List (Addr×Obj)}{σ:St}{H:Hp}{s:Shared}{a:Addr}{y:V}{u:Value}{A:Around}{E:Value->Shared->Prop}
end
end L2
namespace Att
open PySem PySem.W PySem.Calls PyProof.Rows
theorem jJ{P:Params}{h:Heap}:∀(ns:List Int) (vs:List Value),WellAll P h vs (ns.map WData.int)->IntsAre vs ns:=by
 intro ns
 induction ns with
 | nil=>
   intro vs w;rw[map_nil]at w;cases w;exact .nil
 | cons n ns ih=>
   intro vs w;rw[Ym]at w;cases w with
   | cons a b=>
     cases a;exact .cons _ _ (ih _ b)
theorem tI{l:OpenLaw}{n:Nat}(hn:l.most=some n){P:Params}{h:Heap}{args:List WData}{vals:List Value}
 (hpre:l.row.toRowW.claim.pre args=true) (hwl:WellAll P h vals args):
 ∃a vs ns,vals=[Value.ref a]/\args=[WData.list (ns.map WData.int)]/\h.get? a=some {cls:= .type "list",data:= .seq vs.toArray}/\IntsAre vs ns/\ns.length<=n:=by
 have hsh:WShape.hasAll [] args [.list .int]=true:=(pre_splitW hpre).1;have hc:l.pre.holds [] {args:=args}=true:=(pre_splitW hpre).2;obtain⟨d,r,rfl,h1,h2⟩:=hasAllW_cons hsh;obtain rfl:=hasAllW_nil h2;obtain⟨xs,rfl,h3⟩:=hasW_list h1;obtain⟨ns,rfl⟩:=items_int h3;have hlen:ns.length<=n:=by
  unfold OpenLaw.pre at hc;have h4:(WTm.not (.lt (.lit (.int (n:Int))) (.len (.arg 0)))).holds [] {args:=[.list (ns.map .int)]}=true:=by
   have h4:=(holds_andW hc).1;rw[hn]at h4;exact h4
  have h5:=condW_of h4 (w_not (w_lt w_lit (w_len_list (w_arg rfl))));rw[Z6]at h5;refine Nat.le_of_not_lt fun q=>?_
  have q':(n:Int)<((ns.length:Nat):Int):=by lia
  first
   |(rw[Zf q']at h5;exact absurd h5 (by decide))
   |(simp at h5;lia)
 cases hwl with
 | cons w1 w2=>
   cases w2;cases w1 with
   | list ho hall=>exact⟨_,_,ns,rfl,rfl,ho,jJ ns _ hall,hlen⟩
theorem tJ(l:OpenLaw)(args:List WData):l.row.toRowW.claim.post args (.bool true) args=true:=
 postW_of (r:=l.row.toRowW) (X:=(true==true))
  (show WShape.has [] (.bool true) .bool=true by first|rfl|decide|simp[WShape.has,WShape.arms,WShape.armsAll])
  (show(WTm.eq .res (.lit (.bool true))).value [] {args:=args,res:=some (.bool true),after:=args}=some (.bool (true==true))from w_eq_bool (w_res rfl) w_lit) rfl
theorem attach_call{l:OpenLaw}{n:Nat}{q:Program}{loose:List Str}{XP:(Str->Option Value)->Heap->Prop}{YP:World->Heap->Prop}{d:DefRec}
 (hn:l.most=some n) (hdf:d.params.defaults=[])
 (call:∀(w:World) (s₀ s₁:Shared) (mg mb:Str->Option Value) (fa:Addr) (o:Obj) (pm cd doc:Value) (a:Addr) (vs:List Value) (ns:List Int),
  Ground q loose [] XP w s₀ mg mb s₁.heap->YP w s₁.heap->
  s₁.heap.get? fa=some o->o.data= .func (docDef d.name d.params d.body d.scope pm cd doc)->s₁.heap.CodeRec cd d.name->mg d.name=some (.ref fa)->
  s₁.heap.get? a=some {cls:= .type "list",data:= .seq vs.toArray}->IntsAre vs ns->ns.length<=n->s₁.gens= #[]->
  codeAny (model l.prog w) callerA (.call (.ref fa) ⟨[.ref a],[]⟩) (fun r s'=>r= .ok (.ret (.bool true))/\OldK s₁.heap s'.heap/\s'.os=s₁.os/\AllBare s'.gens) s₁):
 WalkO q loose XP YP l.row.toRowW d [] (fun f vs=>PySem.call f vs):=by
 intro w s₀ s₁ mg mb G Y fa o pm cd doc dV kV ho hd hcd hD hmg hg args vals as hpre hlay hrd hwl hlo;obtain rfl:dV= .none:=Dflts.none hD hdf;obtain rfl:kV= .none:=Dflts.noKw hD;obtain⟨a,vs,ns,rfl,rfl,hobj,hints,hlen⟩:=tI hn hpre hwl;refine enter_call (codeAny_mono (call w s₀ s₁ mg mb fa o pm cd doc a vs ns G Y ho (fd_plain hd) hcd hmg hobj hints hlen hg) fun r s' hq=>?_);obtain⟨rfl,h2,h3,h4⟩:=hq;exact⟨.inl ⟨.bool true,.bool true,[],rfl,fun _=>rfl,.bool true,tJ l _,fun _=>⟨List.Pairwise.nil,fun _ hm=>(nomatch hm)⟩⟩,h2,h3,h4⟩
section
variable{prog:Program}{w:World}{A:Around}{E:Value->Shared->Prop}{s:Shared}{K:Frag}
end
end Att
namespace L2
open PySem PySem.Spec PyProof.Rows
theorem lT:∀{vs:List Value} {ns:List Int},IntsAre vs ns->aC (ns.map V.int) vs
 | _,_,.nil=> .nil
 | _,_,.cons n t h=> .cons ⟨t,rfl⟩ (lT h)
def yb(H:Hp):Prop:=∀b,H b=none\/∃o xs,H b=some (.frz o (.lst xs))
theorem law_call{P:Program}{w:World}{K:PySem.W.Frag}{mg mb:Str->Option Value}{CX:CXT}{k:Nat}{fa a:Addr}{fd:FuncData}{x:Str}{sp:Sp}{s₁:Shared}{vs:List Value}{ns:List Int}
 (KX:K.In s₁.heap) (hns:s₁.heap.Ns mainGlobals mg) (hb:s₁.heap.Ns builtinsNs mb) (hbb:∀x:Str,x≠"__name__"->mb x=bootBuiltins x) (hlim:s₁.heap.NoLimit) (hg:s₁.gens= #[])
 (ha:s₁.heap.get? a=some {cls:= .type "list",data:= .seq vs.toArray}) (hi:IntsAre vs ns) (hl:ns.length<=sizeLine) (hr:b8 k callerA)
 (F:∀base:Heap,K.In base->base.Ns mainGlobals mg->gR P w K mg base CX k fa fd [x] sp) (hbind:∀(s:Shared) (u:Value),BindsTo s fd ⟨[u],[]⟩ [(x,u)])
 (hsp:∀H:Hp,yb H->SqL K H a (ns.map V.int)->sp [.ref a] H (fun v _=>v= .bl true) fun _ _ _=>False)
 (hCX:∀H e s',CX [] H s₁ (fun _ _ _=>False) e s'->False):
 codeAny (model P w) callerA (.call (.ref fa) ⟨[.ref a],[]⟩) (fun r s'=>r= .ok (.ret (.bool true))/\OldK s₁.heap s'.heap/\s'.os=s₁.os/\AllBare s'.gens) s₁:=by
 have rv:=lT hi;have lenV:=hi.length;have core:∀H:Hp,yb H->SqL K H a (ns.map V.int)->HOk P w H s₁.heap->(∀b,H b≠none->b=a)->(H a≠none->K.lookup a=none)->
  codeAny (model P w) callerA (.call (.ref fa) ⟨[.ref a],[]⟩) (fun r s'=>r= .ok (.ret (.bool true))/\OldK s₁.heap s'.heap/\s'.os=s₁.os/\AllBare s'.gens) s₁:=by
  intro H hO hS hok hA hK;have base_of:∀{b:Addr} {o:Obj},s₁.heap.get? b=some o->H b=none->(mH s₁.heap H).get? b=some o:=fun e n=>uO e n
  have noA:∀{b:Addr} {o:Obj} {es:Array DictEntry} {ep:Nat},s₁.heap.get? b=some o->o.data= .dict es ep->H b=none:=fun{b o es ep} e d=>by
   cases q:H b with
   | none=>rfl
   | some u=>
     have e':b=a:=hA b (by rw[q];simp);subst e';rw[ha]at e;cases e;have d':Data.seq vs.toArray _=Data.dict es ep:=d;cases d'
  have nsK:∀{b:Addr} {m:Str->Option Value},s₁.heap.Ns b m->(mH s₁.heap H).Ns b m:=fun{b m} ⟨o,es,ep,e,d,r⟩=>⟨o,es,ep,base_of e (noA e d),d,r⟩
  have hKb:K.In (mH s₁.heap H):=fun b o e=>base_of (KX b o e) (by
   cases q:H b with
   | none=>rfl
   | some u=>
     have e':b=a:=hA b (by rw[q];simp);subst e';rw[hK (by rw[q];simp)]at e;cases e)
  have hM:Mod K mg (mH s₁.heap H):=⟨hKb,nsK hns,⟨mb,nsK hb,hbb⟩,let⟨mc,h1,h2⟩:=hlim;⟨mc,nsK h1,h2⟩⟩
  have e0:qp P w K mg (mH s₁.heap H) callerA [] s₁ H:=⟨rfl,hM,fun b o e=>xu e,Nat.le_of_eq (sR _ _),trivial,fun b hb=>absurd (show b∈([]:List Addr)from hb) (by simp),hok,.of_eq hg⟩
  refine codeAny_mono ((F _ hKb (nsK hns)).run callerA [] s₁ H ⟨[.ref a],[]⟩ [.ref a] [.ref a] _ _ hr e0 (hbind s₁ (.ref a)) (.cons rfl .nil) (hsp H hO hS)) fun r s' h=>?_
  cases r with
  | error e=>exact(hCX H e s' h).elim
  | ok fl=>
    cases fl with
    | next=>exact False.elim h
    | brk=>exact False.elim h
    | cont=>exact False.elim h
    | ret u=>
      obtain⟨v,H',os,bare,un,hok',r',q⟩:=h;have q':v= .bl true:=q;subst q';obtain rfl:u=Value.bool true:=r';refine⟨rfl,OldK.of_keep fun b o e=>?_,os,bare⟩;cases q:H b with
      | none=>exact un.keep b o e q (by intro z;exact absurd (show b∈([]:List Addr)from z) (by simp)) (by simp)
      | some u=>
        rcases hO b with z|⟨ob,xs,z⟩
        ·rw[q]at z;cases z
        ·have z2:=un.frzs b ob _ z;obtain⟨e1,_⟩:=hok b _ z;obtain⟨e2,_⟩:=hok' b _ z2;rw[e]at e1;cases e1;exact e2
 cases hk:K.lookup a with
 | some o=>
   have e:=KX a o hk;rw[ha]at e;cases e;refine core (fun _=>none) (fun _=> .inl rfl) (.inr ⟨_,vs.toArray,_,hk,rfl,rfl,rfl,by rw[Zp,lenV];exact hl,by simpa using rv⟩) (fun b u z=>by have z':(none:Option HO)=some u:=z;cases z') (fun b z=>absurd rfl z) fun z=>absurd rfl z
 | none=>
   refine core (fun b=>if b=a then some (.frz {cls:= .type "list",data:= .seq vs.toArray} (.lst (ns.map V.int)))else none) (fun b=>?_) (.inl (.inr ⟨{cls:= .type "list",data:= .seq vs.toArray},if_pos rfl⟩)) (fun b u z=>?_) (fun b z=>?_) fun _=>hk
   ·by_cases hb:b=a
    ·exact .inr ⟨_,_,if_pos hb⟩
    ·exact .inl (if_neg hb)
   ·by_cases hb:b=a
    ·have z':=(if_pos hb).symm.trans z;cases z';subst hb;exact⟨ha,by rw[Z6];exact hl,vs,_,rv,ha⟩
    ·have z':=(if_neg hb).symm.trans z;cases z'
   ·by_cases hb:b=a
    ·exact hb
    ·exact absurd (if_neg hb) z
theorem walk_of{l:PySem.W.OpenLaw}{n k:Nat}{q:Program}{loose:List Str}{XP:(Str->Option Value)->Heap->Prop}{YP:World->Heap->Prop}{d:DefRec}{K:Params->PySem.W.Frag}{CX:World->CXT}{sp:World->Sp}{x:Str}
 (hn:l.most=some n) (hn2:n<=sizeLine) (hdf:d.params.defaults=[]) (hr:b8 k callerA)
 (hY:∀(w:World) (h:Heap),YP w h->(K w.params).In h)
 (F:∀(w:World) (mg:Str->Option Value) (fa:Addr) (h:Heap),(K w.params).In h->h.Ns mainGlobals mg->mg d.name=some (.ref fa)->
  ∃fd:FuncData,(∀(s:Shared) (u:Value),BindsTo s fd ⟨[u],[]⟩ [(x,u)])/\
   ∀base:Heap,(K w.params).In base->base.Ns mainGlobals mg->gR l.prog w (K w.params) mg base (CX w) k fa fd [x] (sp w))
 (hsp:∀(w:World) (H:Hp) (a:Addr) (ns:List Int),ns.length<=n->yb H->SqL (K w.params) H a (ns.map V.int)->sp w [.ref a] H (fun v _=>v= .bl true) fun _ _ _=>False)
 (hCX:∀(w:World) (H:Hp) (s:Shared) (e:Value) (s':Shared),CX w [] H s (fun _ _ _=>False) e s'->False):
 PySem.W.WalkO q loose XP YP l.row.toRowW d [] (fun f vs=>PySem.call f vs):=by
 refine Att.attach_call hn hdf fun w s₀ s₁ mg mb fa o pm cd doc a vs ns G Y ho hd hcd hmg hobj hints hlen hg=>?_
 have KX:=hY w _ Y;obtain⟨fd,hb,hF⟩:=F w mg fa _ KX G.T.g hmg;exact law_call KX G.T.g G.T.b G.T.builtins G.T.nolimit hg hobj hints (Yd hlen hn2) hr hF hb (fun H hO hS=>hsp w H a ns hlen hO hS) fun H e s'=>hCX w H s₁ e s'
noncomputable def io(s:Stmt)(j:Nat):Stmt:=match s with
 | .ClassDef _ _ _ body _ _ _ _ _ _ _=>body.getD j (.Pass ⟨0,0,0,0⟩)
 | _=> .Pass ⟨0,0,0,0⟩
noncomputable def bX(s:Stmt):Arguments:=match s with
 | .FunctionDef _ a _ _ _ _ _ _ _ _=>a
 | _=>{posonlyargs:=[],args:=[],vararg:=none,kwonlyargs:=[],kw_defaults:=[],kwarg:=none,defaults:=[]}
noncomputable def bw(s:Stmt):List Stmt:=match s with
 | .FunctionDef _ _ b _ _ _ _ _ _ _=>b
 | _=>[]
noncomputable def ag(s:Stmt):Scope:=match s with
 | .FunctionDef _ _ _ _ _ _ sc _ _ _=>sc
 | _=>{kind:= .function,names:=[],isGenerator:=false,isCoroutine:=false}
noncomputable abbrev CX0:CXT:=fun _ _ _ _ _ _=>False
noncomputable abbrev E0:XK:=fun _ _ _=>False
theorem vN{X:Cx}:gT CX0 X E0:=fun _ _ _ _ _ _ _ h=>h.elim
structure Fun (K:PySem.W.Frag) (x qual:Str) (st:Stmt) (f:Addr) (fd:FuncData):Prop where
 ex:∃(oc:Value) (od:Option Addr) (kV doc pm:Value) (an:Option Addr) (cdv ct:Value) (osl:Array (Option Value)),
  fd=fnOf x qual (bX st) (bw st) (ag st) .none kV doc pm an cdv ct/\K.lookup f=some ⟨oc,od,.func fd,osl⟩/\codeIn K cdv qual=true
 kp:keepIn K (.ref f)=true
section
variable{P:Program}{w:World}{K:PySem.W.Frag}{mg:Str->Option Value}{base:Heap}
theorem Fun.ok{x qual:Str}{st:Stmt}{f:Addr}{fd:FuncData}{N ps:List Str}{k:Nat}{sp:Sp}(F:Fun K x qual st f fd)(S:aq N ps (ag st))(len:∀vs H Q E,sp vs H Q E->vs.length=ps.length)
 (hbody:∀(cdv:Value) (A:Around) (outer:List Env) (s:Shared) (H:Hp) (vs:List V) (Q:VK) (E:XK),b8 k (A.deeper (envOfC qual (ag st) s.heap.objs.size f cdv))->sp vs H Q E->
  ∃t,PSs (mK CX0 P w K mg base N qual (ag st) f cdv A outer s H E).nox (bw st) t/\t {nx:=fun _ H'=>Q .non H',rt:=Q} (start N vs) H):gR P w K mg base CX0 (k+1) f fd ps sp:=by
 obtain⟨oc,od,kV,doc,pm,an,cdv,ct,osl,rfl,lk,hcd⟩:=F.ex;refine Bv lk hcd S len fun A outer s H vs Q E hr hsp=>?_
 obtain⟨t,h,q⟩:=hbody cdv A outer s H vs Q E hr hsp;exact⟨t,h.nox,q⟩
theorem Fun.binds{x qual:Str}{st:Stmt}{f:Addr}{fd:FuncData}{ps:List Str}(F:Fun K x qual st f fd)
 (h:∀(kV doc pm:Value) (an:Option Addr) (cdv ct:Value) (us:List Value),us.length=ps.length->bindArgs (fnOf x qual (bX st) (bw st) (ag st) .none kV doc pm an cdv ct) ⟨us,[]⟩=pure (ps.zip us)):d5 K fd ps []:=by
 obtain⟨oc,od,kV,doc,pm,an,cdv,ct,osl,rfl,lk,hcd⟩:=F.ex;exact .all (h kV doc pm an cdv ct)
theorem eS{x qual:Str}{st:Stmt}{f:Addr}{oc:Value}{od an:Option Addr}{osl:Array (Option Value)}{kV doc pm cdv ct:Value}(l:K.lookup f=some ⟨oc,od,.func (fnOf x qual (bX st) (bw st) (ag st) .none kV doc pm an cdv ct),osl⟩)
 (c:codeIn K cdv qual=true) (k:keepIn K (.ref f)=true):Fun K x qual st f (fnOf x qual (bX st) (bw st) (ag st) .none kV doc pm an cdv ct):=⟨⟨oc,od,kV,doc,pm,an,cdv,ct,osl,rfl,l,c⟩,k⟩
end
section
variable{X:Cx}
theorem pv(i:Nat){x:Str}{pos:Pos}(hN:X.N[i]? =some x)(hv:Vis X.env.scope x)(hd:(x==("__debug__":Str))=false)
 (hcd:(x==("__classdict__":Str))=false):PE X (.Name x pos) (om i):=uQ hN hv hd hcd
end
theorem Aq{A B:Prop}(h:B):if false=true then A else B:=by
 rw[if_neg Zu];exact h
theorem bZ{c A B:Prop}[Decidable c](h1:c->A)(h2: ¬ c->B):if c then A else B:=by
 by_cases h:c
 ·rw[if_pos h];exact h1 h
 ·rw[if_neg h];exact h2 h
def af(H H':Hp):Prop:=∀b o,H b=some o->H' b=some o
theorem af.refl(H:Hp):af H H:=fun _ _ h=>h
theorem af.trans{H H1 H2:Hp}(a:af H H1)(b:af H1 H2):af H H2:=fun c o h=>b c o (a c o h)
theorem af.free{H H':Hp}(e:af H H'){l:Addr}(h:H' l=Option.none):H l=Option.none:=by
 cases q:H l with
 | none=>rfl
 | some o=>
   rw[e l o q]at h;cases h
theorem af.seq{K:PySem.W.Frag}{H H':Hp}{a:Addr}{xs:List V}(e:af H H')(h:SqL K H a xs):SqL K H' a xs:=by
 rcases h with(h|⟨o,h⟩)|h
 ·exact .inl (.inl (e _ _ h))
 ·exact .inl (.inr ⟨o,e _ _ h⟩)
 ·exact .inr h
section
variable{X:Cx}
end
section
variable{κ:Type}[DecidableEq κ]
theorem yc{kvs:List (κ×V)}{k:κ}{v:V}(h:dj kvs k=some v):k∈kvs.map (·.1):=by
 have q:(kvs.any fun kv=>decide (kv.1=k))=true:=by
  rw[il,h]
  all_goals rfl
 obtain⟨p,hp,e⟩:=any_eq_true.mp q;exact Xj ⟨p,hp,Zo e⟩
theorem jW:∀{l:List κ} {k:κ},l.Nodup-> ¬ k∈l->(l++[k]).Nodup
 |[],k,_,_=>by simp
 | a::r,k,h,hk=>by
   obtain⟨h1,h2⟩:=nodup_cons.mp h;show(a::(r++[k])).Nodup;refine nodup_cons.mpr ⟨fun m=>?_,jW h2 fun m=>hk (mem_cons.mpr (Or.inr m))⟩;rcases Xg m with q|q
   ·exact h1 q
   ·exact hk (mem_cons.mpr (Or.inl (Xh q).symm))
end
noncomputable def jK(env:Env):List (Str×NameKind)->List (Str×Addr)->List (Str×Addr)
 |[],acc=>acc
 |(n,k)::r,acc=>jK env r (if k= .free then(n,(env.cells.lookup n).getD 0)::acc else acc)
theorem kg{env:Env}:∀(names:List (Str×NameKind)) (acc:List (Str×Addr)),(∀y∈names,y.2= .free->∃c,env.cells.lookup y.1=some c)->
 (forIn names acc fun x r=>match x with
  |(name,kind)=>if(kind==NameKind.free)=true then do let a<-cellOf env name;pure (ForInStep.yield ((name,a)::r))else pure (ForInStep.yield r):Sem (List (Str×Addr)))=pure (jK env names acc)
 |[],acc,_=>rfl
 |(n,k)::r,acc,h=>by
  have ih:=fun acc=>kg (env:=env) r acc fun y hy=>h y (Zk _ hy)
  rw[forIn_cons];by_cases hk:k= .free
  ·subst hk;obtain⟨c,e⟩:=h (n,.free) Zm rfl;have e1:cellOf env n=pure c:=by unfold cellOf;rw[e]
   simp only[beq_self_eq_true,if_true,e1,pure_bind];rw[ih];show _=pure (jK env r (if(NameKind.free:NameKind)= .free then(n,(env.cells.lookup n).getD 0)::acc else acc));rw[if_pos rfl,e]
   all_goals rfl
  ·have hb:(k==NameKind.free)=false:=by simpa using hk
   simp only[hb,Y1,if_false,pure_bind];rw[ih];show _=pure (jK env r (if k= .free then(n,(env.cells.lookup n).getD 0)::acc else acc));rw[if_neg hk]
theorem yd{env:Env}{scope:Scope}(h:∀y∈scope.names,y.2= .free->∃c,env.cells.lookup y.1=some c):closureFor scope env=pure (jK env scope.names []):=by
 unfold closureFor;have e:=kg scope.names [] h;simp only[bind_pure];exact e
theorem oF{env:Env}{x:Str}{c:Addr}:∀(names:List (Str×NameKind)) (acc:List (Str×Addr)),(∀y∈names,y.2= .free->∃c,env.cells.lookup y.1=some c)->
 (∀y d,acc.lookup y=some d->env.cells.lookup y=some d)->(jK env names acc).lookup x=some c->env.cells.lookup x=some c
 |[],acc,_,ha,e=>ha x c e
 |(n,k)::r,acc,h,ha,e=>by
  refine oF r _ (fun y hy=>h y (Zk _ hy)) (fun y d q=>?_) e;by_cases hk:k= .free
  ·rw[if_pos hk,Yi]at q;obtain⟨c',e'⟩:=h (n,k) Zm hk;cases hy:y==n with
   | true=>
     rw[hy]at q;have:=eq_of_beq hy;subst this;rw[e']at q ⊢;exact q
   | false=>rw[hy]at q;exact ha y d q
  ·rw[if_neg hk]at q;exact ha y d q
theorem kh{env:Env}{x:Str}:∀(names:List (Str×NameKind)) (acc:List (Str×Addr)),(∃c,acc.lookup x=some c)->∃c,(jK env names acc).lookup x=some c
 |[],_,h=>h
 |(n,k)::r,acc,h=>by
  refine kh r _ ?_;by_cases hk:k= .free
  ·rw[if_pos hk,Yi];cases hy:x==n with
   | true=>exact⟨_,rfl⟩
   | false=>exact h
  ·rw[if_neg hk];exact h
theorem ki{env:Env}{x:Str}:∀(names:List (Str×NameKind)) (acc:List (Str×Addr)),(x,NameKind.free)∈names->∃c,(jK env names acc).lookup x=some c
 |[],_,h=>by simp at h
 |(n,k)::r,acc,h=>by
  rcases mem_cons.mp h with e|h
  ·cases e;refine kh r _ ?_;rw[if_pos rfl,Yi,beq_self_eq_true];exact⟨_,rfl⟩
  ·exact ki r _ h
noncomputable def aY(X:Cx)(scope:Scope)(N':List Str)(s₃:Shared)(H₃:Hp)(fp:List Addr):Cx:=
 {X with
  N:=N'
  s₀:=s₃
  H₀:=H₃
  env:=compEnvC scope (cellsFrom (s₃.heap.objs.size+1) scope.names (jK X.env scope.names [])) s₃.heap.objs.size X.env
  outer:=X.stack
  stack:=X.stack
  ex:=fp
  fn:=fun x=>decide (scope.names.lookup x=some .cell)
  pn:=[]
  xe:=fun _ _=>False}
structure ax (X:Cx) (scope:Scope) (N':List Str) (cap:List (Nat×Nat)):Prop where
 kind:scope.kind= .function
 cell:∀y∈scope.names,y.2= .cell->scope.names.lookup y.1=some .cell
 loc:∀y∈scope.names,y.2= .local->scope.names.lookup y.1=some .local
 free:∀y∈scope.names,y.2= .free->X.env.kindOf y.1=some .cell\/X.env.kindOf y.1=some .free
 capt:∀p∈cap,∃x,N'[p.1]? =some x/\X.N[p.2]? =some x/\scope.names.lookup x=some .free
noncomputable def lU(n:Nat)(cap:List (Nat×Nat))(σ:St):St:=(List.range n).map fun j=>(cap.lookup j).bind fun i=>(σ[i]?).join
theorem jx:∀{l:List (Nat×Nat)} {j i:Nat},l.lookup j=some i->(j,i)∈l
 |[],_,_,h=>by simp at h
 |(a,b)::r,j,i,h=>by
  rw[Yi]at h;cases hj:j==a with
  | true=>
    rw[hj]at h;have:=eq_of_beq hj;subst this;have e:b=i:=Za h;subst e;exact Zm
  | false=>rw[hj]at h;exact Zk _ (jx h)
theorem jy{env:Env}{names:List (Str×NameKind)}{x:Str}{k:NameKind}(h:(names.map fun(n,k)=>if(k==NameKind.free&&env.scope.kind== .function&&env.kindOf n==some .cell)then(n,NameKind.cell)else(n,k)).lookup x=some k)
 (hk:k= .cell\/k= .free):(x,NameKind.free)∈names\/(x,NameKind.cell)∈names:=by
 have m:=PySem.mem_of_lookup h;obtain⟨⟨n,k'⟩,hm,e⟩:=Xi m;by_cases hb:(k'==NameKind.free&&env.scope.kind== .function&&env.kindOf n==some .cell)=true
 ·have e':((n,NameKind.cell):Str×NameKind)=(x,k):=by rw[<-e];simp only[hb,if_true]
  cases e';have:k'= .free:=by
   simp only[Zx,beq_iff_eq]at hb;exact hb.1.1
  subst this;exact .inl hm
 ·have e':((n,k'):Str×NameKind)=(x,k):=by rw[<-e];simp only[hb];rfl
  cases e';rcases hk with rfl|rfl
  ·exact .inr hm
  ·exact .inl hm
theorem dC:∀(names:List (Str×NameKind)) (n:Nat) (acc:List (Str×Addr)),cellsFrom n names acc=cellsFrom n names [] ++acc
 |[],_,_=>rfl
 |(x,k)::r,n,acc=>by
  unfold cellsFrom
  split
  ·rw[dC r (n+1) ((x,n)::acc),dC r (n+1) [(x,n)],Ze];rfl
  ·exact dC r n acc
theorem iX{x:Str}{c:Addr}:∀{names:List (Str×NameKind)} {n:Nat},(x,c)∈cellsFrom n names []->(x,NameKind.cell)∈names
 |[],_,h=>nomatch h
 |(y,k)::r,n,h=>by
  unfold cellsFrom at h
  split at h
  ·rename_i hk
   rw[dC]at h;rcases Xg h with q|q
   ·exact Zk _ (iX q)
   ·have:=Xh q;cases this;rw[beq_iff_eq.mp hk];exact Zm
  ·exact Zk _ (iX h)
theorem jz{x:Str}{c:Addr}{names:List (Str×NameKind)}{n:Nat}{acc:List (Str×Addr)}(h:(cellsFrom n names acc).lookup x=some c):(x,c)∈cellsFrom n names []\/((cellsFrom n names []).lookup x=none/\acc.lookup x=some c):=by
 rw[dC,List.lookup_append]at h;cases e:(cellsFrom n names []).lookup x with
 | none=>rw[e]at h;exact .inr ⟨rfl,by simpa using h⟩
 | some d=>
   rw[e]at h;have:d=c:=by simpa using h
   rw[<-this];exact .inl (PySem.mem_of_lookup e)
theorem ip{env:Env}:∀{names:List (Str×NameKind)} {x:Str},names.lookup x=some .free->
 (names.map fun(n,k)=>if(k==NameKind.free&&env.scope.kind== .function&&env.kindOf n==some .cell)then(n,NameKind.cell)else(n,k)).lookup x=some .cell\/
 (names.map fun(n,k)=>if(k==NameKind.free&&env.scope.kind== .function&&env.kindOf n==some .cell)then(n,NameKind.cell)else(n,k)).lookup x=some .free
 |[],_,h=>by simp at h
 |(n,k)::r,x,h=>by
  have ih:= @ip env r x;simp only[Ym];cases hx:x==n with
  | true=>
    rw[Yi,hx]at h;have hk:k= .free:=Za h;subst hk;by_cases hc:((NameKind.free==NameKind.free)&&env.scope.kind== .function&&env.kindOf n==some .cell)=true
    ·rw[if_pos hc,Yi,hx];exact .inl rfl
    ·rw[if_neg hc,Yi,hx];exact .inr rfl
  | false=>
    rw[Yi,hx]at h;have h:=ih h;by_cases hc:(k==NameKind.free&&env.scope.kind== .function&&env.kindOf n==some .cell)=true
    ·rw[if_pos hc,Yi,hx];exact h
    ·rw[if_neg hc,Yi,hx];exact h
section
variable{X:Cx}{pins:List (Addr×Obj)}{σ:St}{H:Hp}{s:Shared}
theorem Inv.kindL(I:Inv X pins σ H s){x:Str}(h:X.env.kindOf x=some .cell\/X.env.kindOf x=some .free):∃c,X.env.cells.lookup x=some c:=I.ok.has x h
theorem Inv.block{scope:Scope}{N':List Str}{cap:List (Nat×Nat)}{fp:List Addr}{h₁:Heap}{tk:Nat}(S:ax X scope N' cap)(I:Inv X pins σ H s)(hf:∀b∈fp,jI X pins H b)(hlt:∀b∈fp,b<s.heap.objs.size)
 (hn:h₁.Ns s.heap.objs.size (fun _=>none)) (old:∀b u,s.heap.get? b=some u->h₁.get? b=some u) (nc:CellsOk h₁ (s.heap.objs.size+1) (cellsFrom (s.heap.objs.size+1) scope.names [])):
 Inv (aY X scope N' s H fp) [] (lU N'.length cap σ) H {s with heap:=h₁,toks:=tk}:=by
 have hfr:∀y∈scope.names,y.2= .free->∃c,X.env.cells.lookup y.1=some c:=fun y hy hk=>I.kindL (S.free y hy hk)
 have cl_old:∀x c,(jK X.env scope.names []).lookup x=some c->X.env.cells.lookup x=some c:=fun x c e=>oF scope.names [] hfr (fun _ _ q=>by simp at q) e
 have two:∀x c,(cellsFrom (s.heap.objs.size+1) scope.names (jK X.env scope.names [])).lookup x=some c->((x,c)∈cellsFrom (s.heap.objs.size+1) scope.names []/\h₁.IsCell c none/\s.heap.objs.size+1<=c)\/(X.env.cells.lookup x=some c/\c<s.heap.objs.size):=fun x c e=>by
  rcases jz e with q|⟨_,q⟩
  ·exact .inl ⟨q,nc.empty x c q⟩
  ·have q':=cl_old x c q;obtain⟨v,ob,ho,_⟩:=I.cell x c q';exact .inr ⟨q',Zv ho⟩
 refine⟨⟨I.ok.mod,S.kind,I.ok.glob,I.ok.blt,Zi _,fun x y c h1 h2=>?_,fun x hx=>?_,fun x c hq e=>?_,I.ok.hd,I.ok.frames,.inl rfl,fun b hb'=>⟨?_,fun x c e=>?_⟩,I.bs,
  Yd I.ok.bsz I.sz,fun b u e hb'=>?_,fun b hb' hs=>?_,I.stack,I.stkFree⟩,rfl,I.bare,Un.kept old,⟨_,hn,fun j x v e1 e2 e3=>?_⟩,fun x c e=>?_,I.hok.fresh (Zi _),fun x c e=>?_,fun p hp=>?_,I.hok.kept old,?_⟩
 ·rcases two x c h1 with⟨q1,_,q2⟩|⟨q1,q2⟩<;> rcases two y c h2 with⟨r1,_,r2⟩|⟨r1,r2⟩
  ·exact name_of_addr nc.apart q1 r1
  ·exact absurd r2 (Nat.not_lt_of_le (Yd (Yc _) q2))
  ·exact absurd q2 (Nat.not_lt_of_le (Yd (Yc _) r2))
  ·exact I.ok.inj x y c q1 r1
 ·have hx':(relabel scope X.env).names.lookup x=some .cell\/(relabel scope X.env).names.lookup x=some .free:=hx;have:(x,NameKind.free)∈scope.names\/(x,NameKind.cell)∈scope.names:=by
   rcases hx' with q|q
   ·exact jy q (.inl rfl)
   ·exact jy q (.inr rfl)
  refine Option.isSome_iff_exists.mp (cellsFrom_some scope.names _ _ ?_);rcases this with q|q
  ·exact .inr (Option.isSome_iff_exists.mpr (ki scope.names [] q))
  ·exact .inl (S.cell _ q rfl)
 ·have hq:scope.names.lookup x=some .cell:=Zo hq;rcases jz e with q|⟨q,_⟩
  ·have:=(nc.empty x c q).2;show s.heap.objs.size<=c
   lia
  ·have:=cellsFrom_some scope.names (s.heap.objs.size+1) [] (.inl hq);rw[q]at this;cases this
 ·exact Zt (hlt b hb')
 ·rcases two x c e with⟨_,_,q⟩|⟨q,_⟩
  ·exact fun z=>absurd (hlt b hb') (Nat.not_lt_of_le (Yd (Yc _) (z▸q)))
  ·exact(hf b hb').2.2.2.2.1 x c q
 ·rcases(hf b hb').2.2.2.1 with z|z
  ·exact I.ok.noex b u e z
  ·exact absurd (Zg (Zv e) (Yd I.ok.bsz z)) (Xc _)
 ·rcases mem_cons.mp (I.stkSub b hs)with z|z
  ·exact(hf b hb').2.1 z
  ·exact(hf b hb').2.2.1 z
 ·
  have hj:∃i,cap.lookup j=some i/\σ[i]? =some (some v):=by
   have e2':((List.range N'.length).map fun j=>(cap.lookup j).bind fun i=>(σ[i]?).join)[j]? =some (some v):=e2;rw[Zl]at e2';cases hr:(List.range N'.length)[j]? with
   | none=>rw[hr]at e2';cases e2'
   | some j'=>
     rw[hr]at e2';have hj':j'=j:=by
      have:=Xf hr;obtain⟨h1,h2⟩:=this;simpa using h2.symm
     subst hj';have e3':((cap.lookup j').bind fun i=>(σ[i]?).join)=some v:=Za e2';cases hc:cap.lookup j' with
     | none=>rw[hc]at e3';cases e3'
     | some i=>
       rw[hc]at e3';refine⟨i,rfl,?_⟩;have e4:(σ[i]?).join=some v:=e3';cases hs:σ[i]? with
       | none=>rw[hs]at e4;cases e4
       | some w=>rw[hs]at e4;have:w=some v:=e4;rw[this]
  obtain⟨i,hc,hi⟩:=hj;obtain⟨y,n1,n2,n3⟩:=S.capt (j,i) (jx hc);have hxy:y=x:=Za (n1.symm.trans e1);subst hxy;have vis:X.env.kindOf y=some .cell\/X.env.kindOf y=some .free:=S.free _ (PySem.mem_of_lookup n3) rfl;obtain⟨m,hm,hl⟩:=I.loc;obtain⟨u,r,l⟩:=hl i y v n2 hi (by rcases vis with q|q;exact .inr (.inl q);exact .inr (.inr q));refine⟨u,r,.inr ⟨?_,?_⟩⟩
  ·exact ip n3
  ·rcases l with⟨k,_⟩|⟨_,c,hcell,hv⟩
   ·rcases vis with q|q
    ·rw[k]at q;cases q
    ·rw[k]at q;cases q
   ·obtain⟨c',hc'⟩:=ki (env:=X.env) scope.names [] (PySem.mem_of_lookup n3);have:=cl_old y c' hc';rw[hcell]at this;have e5:c=c':=Za this;subst e5;obtain⟨ob,ho,hd⟩:=hv;refine⟨c,?_,ob,old c ob ho,hd⟩;show(cellsFrom _ _ _).lookup y=some c;rw[dC,List.lookup_append];cases e6:(cellsFrom (s.heap.objs.size+1) scope.names []).lookup y with
    | none=>simpa using hc'
    | some d=>
      have:=S.cell _ (iX (PySem.mem_of_lookup e6)) rfl;rw[n3]at this;cases this
 ·rcases two x c e with⟨_,q,_⟩|⟨q,_⟩
  ·exact⟨none,q⟩
  ·obtain⟨v,ob,ho,hd⟩:=I.cell x c q;exact⟨v,ob,old c ob ho,hd⟩
 ·rcases two x c e with⟨_,_,q⟩|⟨q,_⟩
  ·exact I.hok.fresh (by lia)
  ·exact I.freeC x c q
 ·exact absurd (show p∈([]:List (Addr×Obj))from hp) (by simp)
 ·show(lU N'.length cap σ).length=N'.length;unfold lU;rw[Z6,Yg]
end
def PTs(X:Cx)(ifs:List Expr)(t:TT):Prop:=
 ∀(pins:List (Addr×Obj)) (s:Shared) (σ:St) (H:Hp) (Q:Bool->Hp->Prop),Inv X pins σ H s->t σ H Q->
  wpAny (model X.prog X.w) X.A (forIn ifs true fun c r=>if r=true then do let ok<-isTrue c X.env (eval c X.env);pure (ForInStep.yield ok)else pure (ForInStep.yield r)) (TP X pins σ Q) X.xe s
def vO:TT:=fun _ H Q=>Q true H
theorem ye{X:Cx}:PTs X [] vO:=fun _ _ _ H _ I h=>wpAny_tests_nil ⟨H,I,h⟩
theorem yf{X:Cx}{c:Expr}{t:TT}(h:PT X c t):PTs X [c] t:=fun pins s σ H Q I q=>wpAny_tests_one (h pins s σ H Q I q)
def lV(wi:TI)(n:Nat)(cap:List (Nat×Nat))(g:TG)(tc:TT)(te:TE):TE:=fun σ H Q=>wi σ H fun J H1=>∀D,H1 D=none->∃W:Nat->Nat->List V->St->Hp->Prop,
 (∃m,W 0 m [] (lU n cap σ) (upd H1 D (.lst [])))/\∀i m ys σ' H',W i m ys σ' H'->(J.stop i H'/\Q (.ref D) H')\/
  (J.go i H'/\∀x H2,J.yld i H' x H2->g x σ' H2 fun σ2 H3=>tc σ2 H3 fun b H4=>if b=true then te σ2 H4 fun y H5=>∃zs m',H5 D=some (.lst zs)/\zs.length<sizeLine/\m'<m/\W (i+1) m' (ys++[y]) σ2 (upd H5 D (.lst (zs++[y])))
   else∃m',m'<m/\W (i+1) m' ys σ2 H4)
theorem yg{M:Model}{A:Around}{E:Value->Shared->Prop}{s:Shared}{scope:Scope}{globals:Addr}{closure:List (Str×Addr)}{qual:Str}{func:Option Addr}{code:Value}{env:Env}{builtins:Addr}{Q:Env->Shared->Prop}
 (hQ:∀h',h'.Ns s.heap.objs.size (fun _=>none)->(∀b u,s.heap.get? b=some u->h'.get? b=some u)->CellsOk h' (s.heap.objs.size+1) (cellsFrom (s.heap.objs.size+1) scope.names [])->
  Q (newEnv scope s.heap.objs.size globals (cellsFrom (s.heap.objs.size+1) scope.names closure) qual func code (some env) builtins) {s with heap:=h'}):wpAny M A (newFunctionEnv scope globals closure [] qual func code (some env) builtins) Q E s:=by
 simp only[newFunctionEnv,Option.isSome_some,if_true];refine Z2 (wpAny_alloc ?_);refine Z2 (wpAny_layCells _ (fun name kind cells=>by cases hkc:kind==NameKind.cell<;> simp[hkc]) _ _ _ _ ?_);have ok:=cellsFrom_ok scope.names (s.heap.push {cls:= .type "dict",data:= .dict #[]}) (s.heap.objs.size+1) [] ⟨fun _ _ hm=>(nomatch hm),List.Pairwise.nil⟩ (by rw[Zq];exact Zi _);rw[Zq]at ok;rw[show({s with heap:=s.heap.push {cls:= .type "dict",data:= .dict #[]}}:Shared).heap.objs.size=s.heap.objs.size+1 from Zq ..];rw[forIn_nil];exact Z2 (Z3 (Z3 (hQ _ ((Heap.Ns.new s.heap (.type "dict")).keeps (pushCells_keeps _ _)) (fun b u e=>pushCells_keeps _ _ b u (Z7 _ e)) ok)))
theorem lW{X:Cx}{tg iter elt:Expr}{ifs:List Expr}{scope:Scope}{pos ipos:Pos}{N':List Str}{cap:List (Nat×Nat)}{wi:TI}{g:TG}{tc:TT}{te:TE}{use:Option (Value->Sem Unit)}{pins:List (Addr×Obj)}{s:Shared}{σ:St}{H:Hp}{Q:VK}{QQ:Value->Shared->Prop}(S:ax X scope N' cap)(hc:X.calm=true)(hi:PI X tg iter wi)
 (hg:∀s₃ H₃ fp,PG (aY X scope N' s₃ H₃ fp) tg g) (ht:∀s₃ H₃ fp,PTs (aY X scope N' s₃ H₃ fp) ifs tc) (he:∀s₃ H₃ fp,PE (aY X scope N' s₃ H₃ fp) elt te)
 (hs:∀x,foldedSetIterable iter X.env x=pure x) (I:Inv X pins σ H s) (h:lV wi N'.length cap g tc te σ H Q)
 (hfin:∀(D C:Addr) (H5:Hp) (s6:Shared) (fl:Flow) (m:Str->Option Value),s6.heap.Ns C m->jI X pins H5 C->(∀h',SameBut C s6.heap h'->Inv X pins σ H5 {s6 with heap:=h'})->Q (.ref D) H5->compPost (model X.prog X.w) X.A X.xe use QQ (.ref D) C (.ok fl) s6):
 wpAny (model X.prog X.w) X.A (comprehension (.ListComp elt [⟨tg,iter,ifs,0⟩] scope pos) scope X.env ipos (newList []) false (eval iter X.env) use) QQ X.xe s:=by
 have hfr:∀y∈scope.names,y.2= .free->∃c,X.env.cells.lookup y.1=some c:=fun y hy hk=>I.kindL (S.free y hy hk)
 refine wpAny_comprehension_free (use:=use) rfl hs (yd hfr) S.kind S.loc (thn (hi pins s σ H _ I h) fun v s1 h1=>thn h1 fun itv s2 h2=>?_);obtain⟨it,fp,tn,J,H2,e,I2,T,st2,f2,R⟩:=h2;subst e;refine wpAny_newObj_type (yg fun h₁ hns₁ hold₁ hnc₁=>?_);dsimp only at hns₁ hold₁ hnc₁ ⊢;have I3:Inv X pins σ (upd H2 s2.heap.objs.size (.lst [])) {s2 with heap:=s2.heap.push {cls:= .type "list",data:= .seq ([]:List Value).toArray}}:=I2.lnew (its:=[]) (t':=s2.toks) .nil (X7 _);have hD:H2 s2.heap.objs.size=none:=I2.fresh;have hlt2:∀b∈fp,b<s2.heap.objs.size:=fun b hb=>by obtain⟨o,ho,_⟩:=T.obj 0 _ st2 b hb;exact Zv ho
 generalize hs3:({s2 with heap:=s2.heap.push {cls:= .type "list",data:= .seq ([]:List Value).toArray}}:Shared)=s3 at I3
 have hs3h:s3.heap=s2.heap.push {cls:= .type "list",data:= .seq ([]:List Value).toArray}:=by rw[<-hs3]
 have sz3:s3.heap.objs.size=s2.heap.objs.size+1:=by rw[hs3h,Zq]
 have f3:∀b∈fp,jI X pins (upd H2 s2.heap.objs.size (.lst [])) b:=fun b hb=>⟨by rw[ai (Zt (hlt2 b hb))];exact(f2 b hb).1,(f2 b hb).2⟩
 have hlt3:∀b∈fp,b<s3.heap.objs.size:=fun b hb=>by rw[sz3];exact Yj (hlt2 b hb)
 obtain⟨W,⟨m0,w0⟩,turn⟩:=R _ hD;have hns3:h₁.Ns s3.heap.objs.size (fun _=>none):=by rw[hs3h];exact hns₁
 have hold3:∀b u,s3.heap.get? b=some u->h₁.get? b=some u:=by rw[hs3h];exact hold₁
 have hnc3:CellsOk h₁ (s3.heap.objs.size+1) (cellsFrom (s3.heap.objs.size+1) scope.names []):=by rw[hs3h];exact hnc₁
 have I4:Inv (aY X scope N' s3 (upd H2 s2.heap.objs.size (.lst [])) fp) [] (lU N'.length cap σ) (upd H2 s2.heap.objs.size (.lst [])) {s3 with heap:=h₁,toks:=s3.toks}:=I3.block S f3 hlt3 hns3 hold3 hnc3;have st4:tn 0 h₁:=T.keep _ _ _ st2 fun b hb o e=>hold3 b o (by rw[hs3h];exact Z7 _ e)
 have hX':(aY X scope N' s3 (upd H2 s2.heap.objs.size (.lst [])) fp).env=compEnvC scope (cellsFrom (s3.heap.objs.size+1) scope.names (jK X.env scope.names [])) s3.heap.objs.size X.env:=rfl;have stat:∀{H':Hp},(∀b∈fp,H' b=none)->∀b∈fp,jI (aY X scope N' s3 (upd H2 s2.heap.objs.size (.lst [])) fp) [] H' b:=fun hn b hb=>
  ⟨hn b hb,(I4.ok.exf b hb).1,I4.ok.exfs b hb,.inl hb,(I4.ok.exf b hb).2,fun p hp=>absurd (show p∈([]:List (Addr×Obj))from hp) (by simp)⟩
 have loop:codeAny (model X.prog X.w) X.A (.compLoop (.ListComp elt [⟨tg,iter,ifs,0⟩] scope pos) 0 (.ref it) (.ref s2.heap.objs.size) (aY X scope N' s3 (upd H2 s2.heap.objs.size (.lst [])) fp).env)
  (compPost (model X.prog X.w) X.A X.xe use QQ (.ref s2.heap.objs.size) s3.heap.objs.size) {s3 with heap:=h₁,toks:=s3.toks}:=by
  refine codeAny_loop rfl (fun n s'=>∃i ys σ' H',Inv (aY X scope N' s3 (upd H2 s2.heap.objs.size (.lst [])) fp) [] σ' H' s'/\tn i s'.heap/\(∀b∈fp,H' b=none)/\W i n ys σ' H') ?_ m0 ⟨0,[],_,_,I4,st4,fun b hb=>(f3 b hb).1,w0⟩;rintro n s5 ⟨i,ys,σ5,H5,I5,st5,fr5,w5⟩;show wpAny _ X.A ((compTurn (.ListComp elt [⟨tg,iter,ifs,0⟩] scope pos) 0 (.ref it) (.ref s2.heap.objs.size) (aY X scope N' s3 (upd H2 s2.heap.objs.size (.lst [])) fp).env).onRaise (fun x=>do noteFrame x (aY X scope N' s3 (upd H2 s2.heap.objs.size (.lst [])) fp).env;theTreesLotGoes x)) _ _ s5;refine wpAny_noted ?_;rw[compTurn_list];refine Z2 (wpAny_standAt (Z2 ?_));rcases turn i n ys σ5 H5 w5 with⟨stop,q⟩|⟨go,step⟩
  ·refine thn (T.done (aY X scope N' s3 (upd H2 s2.heap.objs.size (.lst [])) fp) rfl rfl rfl hc i [] s5 σ5 H5 _ I5 (stat fr5) st5 stop) fun r s6 ⟨hr,I6⟩=>?_
   subst hr;refine Z3 ?_;obtain⟨m6,hn6,_⟩:=I6.loc;refine hfin s2.heap.objs.size s3.heap.objs.size H5 s6 _ m6 hn6 (I2.fpOk (by rw[sz3];exact Yc _) I6.free) (fun h' sb=>?_) q;have u6:Un (frs X.stack) fp (upd H2 s2.heap.objs.size (.lst [])) H5 s3.heap s6.heap:=I6.base;have ne6:∀b u,s3.heap.get? b=some u->b≠s3.heap.objs.size:=fun b u e=>Zt (Zv e)
   have u7:Un (frs X.stack) fp (upd H2 s2.heap.objs.size (.lst [])) H5 s3.heap h':=⟨fun b u e n hb hx=>(sb.2 b (ne6 b u e)).trans (u6.keep b u e n hb hx),fun b u e n hb hx=>by
    obtain⟨sl,q⟩:=u6.slot b u e n hb hx;exact⟨sl,(sb.2 b (ne6 b u e)).trans q⟩,u6.free,fun b u e hx=>by
    obtain⟨o',q⟩:=u6.there b u e hx;exact⟨o',(sb.2 b (ne6 b u e)).trans q⟩,u6.tups,u6.frzs,u6.tbls⟩
   have u8:Un (frs X.stack) fp H2 (upd H2 s2.heap.objs.size (.lst [])) s2.heap s3.heap:=Un.laid (fun b u e=>by rw[hs3h];exact Z7 _ e) (Zi _) hD;have ok7:HOk X.prog X.w H5 h':=fun b u e=>by
    have hne:∀c w,H5 c=some w->c≠s3.heap.objs.size:=fun c w q z=>by
     have:H5 s3.heap.objs.size=none:=I6.free;rw[z,this]at q;cases q
    refine(I6.hok b u e).stay (fun c w hc' q=>(sb.2 c ?_).trans q) (fun _ q=>q) fun _ _ q=>q
    rcases hc' with z|z
    ·rw[z];exact hne b u e
    ·exact hne c _ z
   exact I2.call' (s':={s6 with heap:=h'}) (ch:=fp) (by show s6.os=s2.os;rw[I6.os,<-hs3];rfl) (u8.trans u7) ok7 I6.bare fun b hb=>⟨(f2 b hb).2.2.2.1,(f2 b hb).2.1,(f2 b hb).2.2.2.2.1,(f2 b hb).2.2.2.2.2⟩
  ·refine thn (T.item (aY X scope N' s3 (upd H2 s2.heap.objs.size (.lst [])) fp) rfl rfl rfl hc i [] s5 σ5 H5 _ I5 (stat fr5) st5 go) fun r s6 ⟨u,hr,h6⟩=>?_
   subst hr;refine Z2 (thn h6 fun _ s7 ⟨x,H7,I7,r7,y7,st7,fr7⟩=>?_);have I7':=I7.pinned (stat fr7) (T.obj _ _ st7);have lift:∀{α:Type} {t:Sem α} {Q1:α->Shared->Prop} {E2:Value->Shared->Prop} {s':Shared},wpAny (model X.prog X.w) X.A t Q1 (fun _ _=>False) s'->wpAny (model X.prog X.w) X.A t Q1 E2 s':=fun h=>wpAny_mono h (fun _ _ q=>q) fun _ _ f=>f.elim
   have back:∀{σ8:St} {H8:Hp} {s8:Shared},Inv (aY X scope N' s3 (upd H2 s2.heap.objs.size (.lst [])) fp) ([] ++iU fp s7.heap) σ8 H8 s8->
    Inv (aY X scope N' s3 (upd H2 s2.heap.objs.size (.lst [])) fp) [] σ8 H8 s8/\tn (i+1) s8.heap/\∀b∈fp,H8 b=none:=fun{σ8 H8 s8} I8=>by
    refine⟨I8.unpinned,T.keep _ _ _ st7 fun b hb o e=>(I8.pin (b,o) (Yp _ (Yp _ (dF hb e)))).1,fun b hb=>?_⟩;obtain⟨o,e,d⟩:=T.obj _ _ st7 b hb;exact(I8.pin (b,o) (Yp _ (Yp _ (dF hb e)))).2.1
   refine Z2 (lift (thn (hg s3 _ fp _ s7 σ5 H7 x u _ I7' r7 (step x H7 y7)) fun _ s8 ⟨σ8,H8,I8,q8⟩=>?_));refine Z2 (lift (thn (ht s3 _ fp _ s8 σ8 H8 _ I8 q8) fun b s9 ⟨H9,I9,q9⟩=>?_));cases b with
   | false=>
     obtain⟨m',hm,w9⟩:=(by simpa using q9:∃m',m'<n/\W (i+1) m' ys σ8 H9)
     obtain⟨J1,J2,J3⟩:=back I9;exact Z3 ⟨rfl,m',hm,i+1,ys,σ8,H9,J1,J2,J3,w9⟩
   | true=>
     have q9:=(by simpa using q9:te σ8 H9 fun y H5=>∃zs m',H5 s2.heap.objs.size=some (.lst zs)/\zs.length<sizeLine/\m'<n/\W (i+1) m' (ys++[y]) σ8 (upd H5 s2.heap.objs.size (.lst (zs++[y]))))
     refine Z2 (Z2 (lift (thn (he s3 _ fp _ s9 σ8 H9 _ I9 q9) fun u2 s10 ⟨y,H10,I10,r10,zs,m',hz,hl,hm,w10⟩=>?_)));refine Z2 (lift (thn (lR _ s10 σ8 H10 (.ref s2.heap.objs.size) [y] (.ref s2.heap.objs.size) [u2] (fun v H'=>v= .non/\H'=upd H10 s2.heap.objs.size (.lst (zs++[y]))) I10 rfl (.cons r10 .nil) ⟨_,rfl,_,hz,hl,rfl,rfl⟩) fun u3 s11 ⟨v3,H11,I11,r11,e11,e12⟩=>?_));subst e12;obtain⟨J1,J2,J3⟩:=back I11;exact Z3 (Z3 ⟨rfl,m',hm,i+1,ys++[y],σ8,_,J1,J2,J3,w10⟩)
 have hloop:codeAny (model X.prog X.w) X.A (.compStart (.ListComp elt [⟨tg,iter,ifs,0⟩] scope pos) 0 (.ref it) (.ref s2.heap.objs.size) (aY X scope N' s3 (upd H2 s2.heap.objs.size (.lst [])) fp).env)
  (compPost (model X.prog X.w) X.A X.xe use QQ (.ref s2.heap.objs.size) s3.heap.objs.size) {s3 with heap:=h₁,toks:=s3.toks}:=
  codeAny_compStart_list loop (T.self _ 0 _ _ _ st4 loop)
 subst hs3;exact hloop
theorem yh{X:Cx}{tg iter elt:Expr}{ifs:List Expr}{scope:Scope}{pos:Pos}{N':List Str}{cap:List (Nat×Nat)}{wi:TI}{g:TG}{tc:TT}{te:TE}(S:ax X scope N' cap)(hc:X.calm=true)(hi:PI X tg iter wi)
 (hg:∀s₃ H₃ fp,PG (aY X scope N' s₃ H₃ fp) tg g) (ht:∀s₃ H₃ fp,PTs (aY X scope N' s₃ H₃ fp) ifs tc) (he:∀s₃ H₃ fp,PE (aY X scope N' s₃ H₃ fp) elt te)
 (hs:∀x,foldedSetIterable iter X.env x=pure x):
 PE X (.ListComp elt [⟨tg,iter,ifs,0⟩] scope pos) (lV wi N'.length cap g tc te):=by
 intro pins s σ H Q I h;rw[eval_ListComp];exact lW S hc hi hg ht he hs I h fun D C H5 s6 fl m hn _ k q=>⟨m,hn,fun h' sb=>⟨.ref D,H5,k h' sb,rfl,q⟩⟩
noncomputable def Its(z:Str):It:=⟨fun i _=>i<z.cps.size,fun i H x H'=>H'=H/\∃c,z.cps[i]? =some c/\x= .str ⟨#[c]⟩,fun i _=>z.cps.size<=i⟩
theorem qu{P:Program}{w:World}{K:PySem.W.Frag}{tg:Expr}(it:Addr)(z:Str)(t:Tok):mJ P w K tg (Its z) [it] it (fun i h=>h.IsStrIter it "str_ascii_iterator" z t i) where
 mem:=by simp
 obj:=fun i h st b hb=>by
  have e:b=it:=by simpa using hb
  subst e;obtain⟨o,e,c,d⟩:=st;exact⟨o,e,fun v z=>by rw[d]at z;cases z⟩
 keep:=fun i h h' st k=>by
  obtain⟨o,e,r⟩:=st;exact⟨o,k it (by simp) o e,r⟩
 item:=by
  intro X hP hw hK hc i pins s σ H E I hf st hg;subst hP hw hK;have hlt:i<z.cps.size:=hg;obtain⟨f0,f1,f2,f3,f4,f5⟩:=hf it (by simp);refine wpAny_pyNext_ascii_item st (c:=z.cps[i]) (by simp[hlt]) fun h' st' sb=>?_
  have I1:Inv X pins σ H {s with heap:=h',toks:=s.toks+1}:=I.turned (t':=s.toks+1) (fun b o hb e=>(sb.2 b hb).trans e) f0 f1 f3 f4 f5;obtain⟨o,e,c,d⟩:=id st';exact⟨_,rfl,oq (s:={s with heap:=h',toks:=s.toks+1}) e c d (by decide) ⟨.str ⟨#[z.cps[i]]⟩,H,I1,⟨_,rfl⟩,⟨rfl,_,by simp[hlt],rfl⟩,st',fun b hb=>(hf b hb).1⟩⟩
 done:=by
  intro X hP hw hK hc i pins s σ H E I hf st hg;subst hP hw hK;have hle:z.cps.size<=i:=hg;obtain⟨f0,f1,f2,f3,f4,f5⟩:=hf it (by simp);exact wpAny_pyNext_ascii_end (I.ok.hd hc) st (by simp[hle]) fun h' eb=>⟨rfl,I.turned (t':=s.toks) (fun b o hb e=>eb b o hb e) f0 f1 f3 f4 f5⟩
 self:=fun _ _ _ _ _ st h=>wpAny_pyIter_striter_ascii st h
theorem tK{P:Program}{w:World}{K:PySem.W.Frag}{tg:Expr}(it:Addr)(z:Str)(t:Tok):mJ P w K tg (Its z) [it] it (fun i h=>h.IsStrIter it "str_iterator" z t i) where
 mem:=by simp
 obj:=fun i h st b hb=>by
  have e:b=it:=by simpa using hb
  subst e;obtain⟨o,e,c,d⟩:=st;exact⟨o,e,fun v z=>by rw[d]at z;cases z⟩
 keep:=fun i h h' st k=>by
  obtain⟨o,e,r⟩:=st;exact⟨o,k it (by simp) o e,r⟩
 item:=by
  intro X hP hw hK hc i pins s σ H E I hf st hg;subst hP hw hK;have hlt:i<z.cps.size:=hg;obtain⟨f0,f1,f2,f3,f4,f5⟩:=hf it (by simp);refine wpAny_pyNext_wide_item st (c:=z.cps[i]) (by simp[hlt]) fun h' st' sb=>?_
  have I1:Inv X pins σ H {s with heap:=h',toks:=s.toks+1}:=I.turned (t':=s.toks+1) (fun b o hb e=>(sb.2 b hb).trans e) f0 f1 f3 f4 f5;obtain⟨o,e,c,d⟩:=id st';exact⟨_,rfl,oq (s:={s with heap:=h',toks:=s.toks+1}) e c d (by decide) ⟨.str ⟨#[z.cps[i]]⟩,H,I1,⟨_,rfl⟩,⟨rfl,_,by simp[hlt],rfl⟩,st',fun b hb=>(hf b hb).1⟩⟩
 done:=by
  intro X hP hw hK hc i pins s σ H E I hf st hg;subst hP hw hK;have hle:z.cps.size<=i:=hg;obtain⟨f0,f1,f2,f3,f4,f5⟩:=hf it (by simp);exact wpAny_pyNext_wide_end (I.ok.hd hc) st (by simp[hle]) fun h' eb=>⟨rfl,I.turned (t':=s.toks) (fun b o hb e=>eb b o hb e) f0 f1 f3 f4 f5⟩
 self:=fun _ _ _ _ _ st h=>wpAny_pyIter_striter_wide st h
def CK(D:Addr)(n i:Nat)(Pv:Nat->List V->St->Hp->Prop)(ys:List V)(σ:St)(y:V)(H:Hp):Prop:=
 ∃zs m',H D=some (.lst zs)/\zs.length<sizeLine/\m'<n-i/\(m'=n-(i+1)/\i+1<=n/\Pv (i+1) (ys++[y]) σ (upd H D (.lst (zs++[y]))))
def CN(n i:Nat)(Pv:Nat->List V->St->Hp->Prop)(ys:List V)(σ:St)(H:Hp):Prop:=∃m',m'<n-i/\(m'=n-(i+1)/\i+1<=n/\Pv (i+1) ys σ H)
theorem CK.mk{D:Addr}{n i:Nat}{Pv:Nat->List V->St->Hp->Prop}{ys zs:List V}{σ:St}{y:V}{H:Hp}(hi:i<n)(hz:H D=some (.lst zs))(hl:zs.length<sizeLine)(p:Pv (i+1) (ys++[y]) σ (upd H D (.lst (zs++[y])))):CK D n i Pv ys σ y H:=
 ⟨zs,n-(i+1),hz,hl,by lia,rfl,hi,p⟩
theorem CN.mk{n i:Nat}{Pv:Nat->List V->St->Hp->Prop}{ys:List V}{σ:St}{H:Hp}(hi:i<n)(p:Pv (i+1) ys σ H):CN n i Pv ys σ H:=⟨n-(i+1),by lia,rfl,hi,p⟩
theorem bG{J:It}{n:Nat}{g:TG}{tc:TT}{te:TE}{D:Addr}{σ:St}{H:Hp}{QD:Hp->Prop}(Pv:Nat->List V->St->Hp->Prop)(h0:Pv 0 [] σ H)(hgo:∀i ys σ H,i<n->Pv i ys σ H->J.go i H)(hstop:∀ys σ H,Pv n ys σ H->J.stop n H)
 (hs:∀i ys σ H,i<n->Pv i ys σ H->∀x H2,J.yld i H x H2->g x σ H2 fun σ2 H3=>tc σ2 H3 fun b H4=>if b=true then te σ2 H4 fun y H5=>CK D n i Pv ys σ2 y H5 else CN n i Pv ys σ2 H4) (hd:∀ys σ H,Pv n ys σ H->QD H):
 ∃W:Nat->Nat->List V->St->Hp->Prop,(∃m,W 0 m [] σ H)/\∀i m ys σ' H',W i m ys σ' H'->(J.stop i H'/\QD H')\/
  (J.go i H'/\∀x H2,J.yld i H' x H2->g x σ' H2 fun σ2 H3=>tc σ2 H3 fun b H4=>if b=true then te σ2 H4 fun y H5=>∃zs m',H5 D=some (.lst zs)/\zs.length<sizeLine/\m'<m/\W (i+1) m' (ys++[y]) σ2 (upd H5 D (.lst (zs++[y])))
   else∃m',m'<m/\W (i+1) m' ys σ2 H4):=by
 refine⟨fun i m ys σ H=>m=n-i/\i<=n/\Pv i ys σ H,⟨n,by simp,X7 _,h0⟩,?_⟩;rintro i m ys σ H ⟨rfl,hi,p⟩;by_cases hlt:i<n
 ·exact .inr ⟨hgo i ys σ H hlt p,fun x H2 y=>hs i ys σ H hlt p x H2 y⟩
 ·have e:i=n:=by lia
  subst e;exact .inl ⟨hstop ys σ H p,hd ys σ H p⟩
theorem si:∀{bs:List Bool} {us:List Value} {i:Nat} {v:Value},aC (bs.map V.bl) us->us[i]? =some v->∃b,bs[i]? =some b/\v= .bool b
 |[],_,_,_,r,e=>by rw[map_nil]at r;cases r;simp at e
 | b::bs,_,i,v,r,e=>by
   rw[Ym]at r;cases r with
   | cons r1 r2=>
     cases(show _=Value.bool b from r1);cases i with
     | zero=>simp at e;exact⟨b,rfl,e.symm⟩
     | succ i=>
       obtain⟨b',h1,h2⟩:=si (bs:=bs) (i:=i) r2 (by simpa using e);exact⟨b',by simpa using h1,h2⟩
theorem kj(bs:List Bool):(List.range bs.length).all (fun i=>bs.getD i false)=bs.all id:=by
 have e:(List.range bs.length).map (fun i=>bs.getD i false)=bs:=by
  apply Y0
  ·simp
  ·intro i h1 h2;simp[Zc,h2]
 have:(List.range bs.length).all (fun i=>bs.getD i false)=((List.range bs.length).map fun i=>bs.getD i false).all id:=by rw[all_map];rfl
 rw[this,e]
theorem vP{X:Cx}(hc:X.calm=true):cq X (.builtin "all") (fun xs H Q=>∃(p:Addr) (bs:List Bool),xs=[.ref p]/\SqL X.K H p (bs.map V.bl)/\Q (.bl (bs.all id)) H):=by
 intro pins s σ H xs us Q I r h;obtain⟨p,bs,rfl,hq,q⟩:=h;obtain⟨u,rfl,ru⟩:=d0 r;cases ru;obtain⟨its,rv,pl,hz⟩:=I.list hq;have hh:X.A.in1.handled=none:=I.ok.hd hc;have hp:p<s.heap.objs.size:=by obtain⟨o,ho,_⟩:=pl.isList;exact Zv ho
 have hlen:bs.length=its.toArray.size:=by rw[Zp,<-rv.length,Z6]
 refine call_all_walk (wpAny_pyIter_list pl.isList ?_);refine⟨s.heap.objs.size,[s.heap.objs.size,p],[s.heap.objs.size],its.toArray.size,_,_,fun i=>bs.getD i false,rfl,Walks.list (A:=X.A.in1) hh _ p (Zt hp) its.toArray,⟨⟨_,Zj _ rfl,rfl,rfl⟩,pl.isList.push _⟩,?_,?_⟩
 ·intro i v s' Q' E' hv hQ;obtain⟨b,hb,rfl⟩:=si (i:=i) rv (by simpa using hv);have e:bs.getD i false=b:=by rw[Zc,hb];rfl
  have hQ:Q' (bs.getD i false) s':=hQ;rw[e]at hQ;exact wpAny_truthy_bool hQ
 ·intro h' tk hk;rw[<-hlen,kj];refine⟨.bl (bs.all id),H,I.kept (t':=tk) fun b o e=>hk b o ?_ (Z7 _ e),rfl,q⟩;have:=Zv e;intro hb;exact absurd (Xh hb) (Zt this)
def Ar:V->Option Int->Option Int->Hp->VK->Prop:=fun x lo hi H Q=>∃z,x= .str z/\z.length<=sizeLine/\Q (.str (Txt.slice z lo hi)) H
theorem As{X:Cx}:SlR X Ar:=by
 intro pins s σ H x v vl vu lo hi sl Q I rx hs pl pu h;obtain⟨z,rfl,hz,q⟩:=h;obtain⟨t,rfl⟩:=rx;refine⟨"str",_,F.slot_str_getitem.lookup,typeIs_str _ _ _,?_⟩;have fin:∀l u,(Txt.slice z l u).length<=sizeLine:=fun l u=>Yd (Txt.slice_le z _ _) hz
 cases pl with
 | none=>
   cases pu with
   | none=>exact wpAny_getItem_str_slice (l:=none) (u:=none) (st:=none) hs rfl (post_val_or_str ⟨fin _ _,fun t' k=>⟨.str (Txt.slice z _ _),H,I.tok k,⟨_,rfl⟩,q⟩⟩)
   | int j uj=>exact wpAny_getItem_str_slice (l:=none) (u:=some (j,uj)) (st:=none) hs rfl (post_val_or_str ⟨fin _ _,fun t' k=>⟨.str (Txt.slice z _ _),H,I.tok k,⟨_,rfl⟩,q⟩⟩)
 | int i ui=>
   cases pu with
   | none=>exact wpAny_getItem_str_slice (l:=some (i,ui)) (u:=none) (st:=none) hs rfl (post_val_or_str ⟨fin _ _,fun t' k=>⟨.str (Txt.slice z _ _),H,I.tok k,⟨_,rfl⟩,q⟩⟩)
   | int j uj=>exact wpAny_getItem_str_slice (l:=some (i,ui)) (u:=some (j,uj)) (st:=none) hs rfl (post_val_or_str ⟨fin _ _,fun t' k=>⟨.str (Txt.slice z _ _),H,I.tok k,⟨_,rfl⟩,q⟩⟩)
theorem eT:∀{ss:List Str} {us:List Value},aC (ss.map V.str) us->StrsAre us ss
 |[],_,r=>by rw[map_nil]at r;cases r;exact .nil
 | x::ss,_,r=>by
   rw[Ym]at r;cases r with
   | cons r1 r2=>
     obtain⟨t,e⟩:=r1;subst e;exact .cons x t (eT r2)
theorem lZ:∀{ss:List Str} {us:List Value},StrsAre us ss->aC (ss.map V.str) us
 | _,_,.nil=> .nil
 | _,_,.cons x t h=> .cons ⟨t,rfl⟩ (lZ h)
def sj(K:PySem.W.Frag):V->List V->Hp->VK->Prop:=fun x vs H Q=>∃(z:Str) (l:Addr) (ss:List Str),x= .str z/\vs=[.ref l]/\SqL K H l (ss.map V.str)/\(ss.map (·.length)).sum+ss.length*z.length<=16777216/\Q (.str (Txt.join z ss)) H
theorem yi{X:Cx}:MtM X "str.join" (sj X.K):=by
 intro pins s σ H x vs v us Q I rx rv h;obtain⟨z,l,ss,rfl,rfl,hq,hw,q⟩:=h;obtain⟨t,rfl⟩:=rx;obtain⟨u,rfl,ru⟩:=rv.one;cases ru;obtain⟨its,r,pl,hz⟩:=I.list hq;exact PyProof.Rows.join_list pl.isList (eT r) hw fun t' k=>⟨.str (Txt.join z ss),H,I.tok k,⟨_,rfl⟩,q⟩
theorem vQ{X:Cx}:cq X (.builtin "isinstance") (fun xs H Q=>∃x n t b,xs=[x,.ty n]/\gQ X.K H x t/\kitOne X.K t (.type n)=some b/\Q (.bl b) H):=by
 intro pins s σ H xs us Q I r h;obtain⟨x,n,t,b,rfl,ty,e,q⟩:=h;obtain⟨u,u2,rfl,ru,ru2⟩:=jt r;cases(show u2=Value.type n from ru2);exact tw I ru ty e fun tk=>⟨.bl b,H,I.tok tk,rfl,q⟩
theorem l7(z:Str)(c i:Nat):Builtin.Str.subAt z ⟨#[c]⟩ i=decide (z.cps[i]? =some c):=by
 unfold Builtin.Str.subAt;have hl:(⟨#[c]⟩:Str).length=1:=rfl;rw[hl];by_cases hi:i<z.cps.size
 ·have e:z.cps.extract i (i+1)= #[z.cps[i]]:=by
   apply Array.ext
   ·simp;lia
   ·intro j h1 h2;simp at h2;subst h2;simp
  show(z.cps.extract i (i+1)== #[c])=_;rw[e,Array.getElem?_eq_getElem hi];by_cases hc:z.cps[i]=c
  ·subst hc;simp
  ·have h1:(#[z.cps[i]]== #[c])=false:=by simpa using hc
   rw[h1];exact(Zh fun q=>hc (Za q)).symm
 ·have e:z.cps.extract i (i+1)= #[]:=by
   apply Array.ext
   ·simp;lia
   ·intro j h1 h2;simp at h2
  show(z.cps.extract i (i+1)== #[c])=_;rw[e,Array.getElem?_eq_none (by lia)];simp
theorem vR(z:Str)(c:Nat):(!(Builtin.Str.occurrences z ⟨#[c]⟩ 0 z.length 1).isEmpty)=decide (c∈z.cps.toList):=by
 rcases StrLaws.occ_head z ⟨#[c]⟩ 1 (Zi _)with⟨e,hn⟩|⟨i,r,e,ha,_⟩
 ·rw[e];refine(Zh fun hm=>?_).symm;obtain⟨j,hj,e2⟩:=List.mem_iff_getElem.mp hm;have hj':j<z.cps.size:=by simpa using hj
  refine hn j ⟨?_,?_⟩
  ·show j+1<=z.cps.size;lia
  ·rw[l7];exact Zf (by rw[Array.getElem?_eq_getElem hj'];simpa using e2)
 ·rw[e];refine(Zf ?_).symm;have h2:=ha.2;rw[l7]at h2;have h3:=Zo h2;have:=Array.mem_of_getElem? h3;simpa using this
section
variable{X:Cx}
abbrev y9:R2:=fun x y H Q=>∃i j,x= .str i/\y= .str j/\i.length+j.length<=sizeLine/\Q (.str (i++j)) H
abbrev vS:R2:=fun x y H Q=>rI0 (fun i j=> .int (i+j)) x y H Q\/(y9 x y H Q\/Ai x y H Q)
theorem yj:OpR X (binaryOp .Add) vS:=vc.or (qe.or Aj)
abbrev vT:R2:=fun x y H Q=>rI vb (fun i j=> .int (i*j)) x y H Q\/Ak x y H Q
theorem yk:OpR X (binaryOp .Mult) vT:=vd.or Al
abbrev At:R2:=rEq
theorem Au:OpR X (compareOp .Eq) At:=Br
abbrev Av:R2:=rNe
theorem Aw:OpR X (compareOp .NotEq) Av:=y6
abbrev Bz:R2:=fun x y H Q=>∃i j,x= .str i/\y= .str j/\Q (.bl (!(Builtin.Str.occurrences j i 0 j.length 1).isEmpty)) H
abbrev yl(K:PySem.W.Frag):R2:=fun x y H Q=>Bz x y H Q\/rIn K false x y H Q
theorem Ax:OpR X (compareOp .In) (yl X.K):=sX.or tE
abbrev ym(K:PySem.W.Frag):V->Option Int->Option Int->Hp->VK->Prop:=fun x lo hi H Q=>x4 K x lo hi H Q\/(xU K x lo hi H Q\/Ar x lo hi H Q)
theorem Ay:SlR X (ym X.K):=r0.or (vE.or As)
def yn(K:PySem.W.Frag)(tl:TE):TI:=fun σ H R=>tl σ H fun x H1=>(∃a,x= .ref a/\(∃xs,SqL K H1 a xs)/\R (Itl K a) H1)\/(∃a,x= .ref a/\(∃xs,SqT K H1 a xs)/\R (Itt K a) H1)\/∃z,x= .str z/\R (Its z) H1
theorem Az{tg l:Expr}{tl:TE}(hl:PE X l tl):PI X tg l (yn X.K tl):=by
 intro pins s σ H R I h;refine thn (hl pins s σ H _ I h) fun v s1 ⟨x,H1,I1,r1,q1⟩=>?_
 have fpok:∀b∈[s1.heap.objs.size],jI X pins H1 b:=fun b hb=>by
  have e:b=s1.heap.objs.size:=by simpa using hb
  subst e;exact I1.fpOk (Zi _) (I1.hok.fresh (Zi _))
 rcases q1 with⟨a,e,⟨xs,hq⟩,q⟩|⟨a,e,⟨xs,hq⟩,q⟩|⟨z,e,q⟩
 ·subst e;cases r1;obtain⟨its,rv,p,hz⟩:=I1.list hq;refine wpAny_pyIter_list p.isList ?_;exact⟨s1.heap.objs.size,[s1.heap.objs.size],_,_,H1,rfl,I1.kept (t':=s1.toks) fun b o e=>Z7 _ e,sT a _,⟨_,Zj _ rfl,rfl,rfl⟩,fpok,q⟩
 ·subst e;cases r1;obtain⟨its,rv,p,hz⟩:=I1.tuple hq;refine wpAny_pyIter_tuple (show s1.heap.IsTuple a its.toArray from p) ?_;exact⟨s1.heap.objs.size,[s1.heap.objs.size],_,_,H1,rfl,I1.kept (t':=s1.toks) fun b o e=>Z7 _ e,p7 a _,⟨_,Zj _ rfl,rfl,rfl⟩,fpok,q⟩
 ·subst e;obtain⟨t,rfl⟩:=r1;cases ha:z.cps.all (·<128)with
  | true=>
    refine wpAny_pyIter_ascii ha ?_;exact⟨s1.heap.objs.size,[s1.heap.objs.size],_,_,H1,rfl,I1.kept (t':=s1.toks) fun b o e=>Z7 _ e,qu _ z t,⟨_,Zj _ rfl,rfl,rfl⟩,fpok,q⟩
  | false=>
    refine wpAny_pyIter_wide ha ?_;exact⟨s1.heap.objs.size,[s1.heap.objs.size],_,_,H1,rfl,I1.kept (t':=s1.toks) fun b o e=>Z7 _ e,tK _ z t,⟨_,Zj _ rfl,rfl,rfl⟩,fpok,q⟩
end
noncomputable def bU(sc:Scope)(N:List Str)(scope:Scope)(N':List Str)(cap:List (Nat×Nat)):Bool:=
 decide (scope.kind= .function)&&scope.names.all (fun y=>(decide (y.2≠ .cell)||decide (scope.names.lookup y.1=some .cell))&&(decide (y.2≠ .local)||decide (scope.names.lookup y.1=some .local))&&(decide (y.2≠ .free)||decide (sc.names.lookup y.1=some .cell)||decide (sc.names.lookup y.1=some .free)))&&
  cap.all fun p=>match N'[p.1]? with
   | some x=>decide (N[p.2]? =some x)&&decide (scope.names.lookup x=some .free)
   | none=>false
theorem ax.of{X:Cx}{scope:Scope}{N':List Str}{cap:List (Nat×Nat)}(h:bU X.env.scope X.N scope N' cap=true):ax X scope N' cap:=by
 unfold bU at h;rw[Zx,Zx,all_eq_true,all_eq_true]at h;obtain⟨⟨h1,h2⟩,h3⟩:=h;refine⟨Zo h1,fun y hy hl=>?_,fun y hy hl=>?_,fun y hy hf=>?_,fun p hp=>?_⟩
 ·have:=h2 y hy;simp only[Zx,or_eq_true,decide_eq_true_eq]at this;exact this.1.1.resolve_left fun q=>q hl
 ·have:=h2 y hy;simp only[Zx,or_eq_true,decide_eq_true_eq]at this;exact this.1.2.resolve_left fun q=>q hl
 ·have:=h2 y hy;simp only[Zx,or_eq_true,decide_eq_true_eq]at this;rcases this.2 with(q|q)|q
  ·exact absurd hf q
  ·exact .inl q
  ·exact .inr q
 ·have:=h3 p hp;cases e:N'[p.1]? with
  | none=>rw[e]at this;cases this
  | some x=>
    rw[e]at this;simp only[Zx,decide_eq_true_eq]at this;exact⟨x,rfl,this.1,this.2⟩
structure Gv (mg:Str->Option Value) (x:Str) (v:V):Prop where
 ex:∃u,mg x=some u/\aA v u
theorem za{X:Cx}{x:Str}{v:V}{pos:Pos}(g:Gv X.mg x v)(hg:Gl X x)(hd:(x==("__debug__":Str))=false):PE X (.Name x pos) (tC v):=by
 obtain⟨u,h,r⟩:=g.ex;exact xw hg h r hd
structure Cal (P:Program) (w:World) (K:PySem.W.Frag) (mg:Str->Option Value) (base:Heap) (k:Nat) (x:Str) (ps:List Str) (sp:Sp):Prop where
 ex:∃f fd,gR P w K mg base CX0 k f fd ps sp/\mg x=some (.ref f)/\keepIn K (.ref f)=true/\d5 K fd ps []
structure aX (K:PySem.W.Frag) (mg:Str->Option Value) (x:Str) (st:Stmt) (ps:List Str):Prop where
 ex:∃f fd,Fun K x x st f fd/\mg x=some (.ref f)/\d5 K fd ps []
theorem aX.cal{P:Program}{w:World}{K:PySem.W.Frag}{mg:Str->Option Value}{base:Heap}{x:Str}{st:Stmt}{N ps:List Str}{k:Nat}{sp:Sp}(D:aX K mg x st ps)(S:aq N ps (ag st))(len:∀vs H Q E,sp vs H Q E->vs.length=ps.length)
 (hbody:∀(f:Addr) (cdv:Value) (A:Around) (outer:List Env) (s:Shared) (H:Hp) (vs:List V) (Q:VK) (E:XK),b8 k (A.deeper (envOfC x (ag st) s.heap.objs.size f cdv))->sp vs H Q E->
  ∃t,PSs (mK CX0 P w K mg base N x (ag st) f cdv A outer s H E).nox (bw st) t/\t {nx:=fun _ H'=>Q .non H',rt:=Q} (start N vs) H):Cal P w K mg base (k+1) x ps sp:=by
 obtain⟨f,fd,F,hm,hb⟩:=D.ex;exact⟨f,fd,F.ok S len (hbody f),hm,F.kp,hb⟩
theorem AA{X:Cx}{j k:Nat}{x:Str}{ps:List Str}{sp:Sp}{p pos:Pos}{e:Expr}{es:List Expr}{t:TA}(C:Cal X.prog X.w X.K X.mg X.base j x ps sp)(hr:b8 k X.A)(hg:Gl X x)(hx:gT CX0 X E0)(ha:PA X (e::es) t)(hjk:j<=k)
 (hdb:(x==("__debug__":Str))=false) (he:starEach (e::es) X.env=(false,eval e X.env)::starEach es X.env) (hpl:(backTo pos (starEach es X.env)).any (·.1)=false):
 PE X (.Call (.Name x p) (e::es) [] pos) (rY sp [] E0 t):=by
 obtain⟨f,fd,F,hm,hk,hb⟩:=C.ex;exact xQ F (hr.mono hjk) hg hm hk hb .nil hx ha hdb he hpl
theorem AB{K:PySem.W.Frag}{h:Heap}{mg:Str->Option Value}{x:Str}{st:Stmt}{ps:List Str}{f:Addr}{oc:Value}{od an:Option Addr}{osl:Array (Option Value)}{kV doc pm cdv ct:Value}(X:K.In h)(G:h.Ns mainGlobals mg)
 (a:nsIn K mainGlobals x=some (some (.ref f))) (l:K.lookup f=some ⟨oc,od,.func (fnOf x x (bX st) (bw st) (ag st) .none kV doc pm an cdv ct),osl⟩) (c:codeIn K cdv x=true) (k:keepIn K (.ref f)=true)
 (b:∀(kV doc pm:Value) (an:Option Addr) (cdv ct:Value) (us:List Value),us.length=ps.length->bindArgs (fnOf x x (bX st) (bw st) (ag st) .none kV doc pm an cdv ct) ⟨us,[]⟩=pure (ps.zip us)):aX K mg x st ps:=
 ⟨f,_,eS l c k,mg_of X G a,(eS l c k).binds b⟩
theorem iq{K:PySem.W.Frag}{h:Heap}{mg:Str->Option Value}{x:Str}{v:V}{u:Value}(X:K.In h)(G:h.Ns mainGlobals mg)(a:nsIn K mainGlobals x=some (some u))(r:aA v u):Gv mg x v:=⟨u,mg_of X G a,r⟩
theorem iY{t u:TS}{D:gH}{σ:St}{H:Hp}(h:∀nx:St->Hp->Prop,(∀σ' H',u D σ' H'->nx σ' H')->t {D with nx:=nx} σ H):bL t u D σ H:=h _ fun _ _ x=>x
theorem ay{wi:TI}{g:TG}{tb:TS}{D:gH}{σ:St}{H:Hp}(h:∀Kont:It->Hp->Prop,(∀J H1,(∃W:Nat->Nat->St->Hp->Prop,(∃m,W 0 m σ H1)/\∀i m σ H,W i m σ H->
 (J.stop i H/\D.nx σ H)\/(J.go i H/\∃N:St->Hp->Prop,(∀σ' H',N σ' H'->∃m',m'<m/\W (i+1) m' σ' H')/\∀x H',J.yld i H x H'->g x σ H' fun σ2 H2=>tb {D with nx:=N,ct:=N,bk:=D.nx} σ2 H2))->Kont J H1)->wi σ H Kont):va wi g tb D σ H:=h _ fun _ _ x=>x
theorem aL{wi:TI}{n:Nat}{cap:List (Nat×Nat)}{g:TG}{tc:TT}{te:TE}{σ:St}{H:Hp}{Q:VK}(h:∀Kont:It->Hp->Prop,(∀J H1,(∀D,H1 D=none->∃W:Nat->Nat->List V->St->Hp->Prop,
 (∃m,W 0 m [] (lU n cap σ) (upd H1 D (.lst [])))/\∀i m ys σ' H',W i m ys σ' H'->(J.stop i H'/\Q (.ref D) H')\/
  (J.go i H'/\∀x H2,J.yld i H' x H2->g x σ' H2 fun σ2 H3=>tc σ2 H3 fun b H4=>if b=true then te σ2 H4 fun y H5=>∃zs m',H5 D=some (.lst zs)/\zs.length<sizeLine/\m'<m/\W (i+1) m' (ys++[y]) σ2 (upd H5 D (.lst (zs++[y])))
   else∃m',m'<m/\W (i+1) m' ys σ2 H4))->Kont J H1)->wi σ H Kont):lV wi n cap g tc te σ H Q:=h _ fun _ _ x=>x
section
variable{X:Cx}{K:PySem.W.Frag}
theorem AC(h:X.K=K):OpR X (compareOp .In) (yl K):=by subst h;exact Ax
theorem slK(h:X.K=K):SlR X (ym K):=by subst h;exact Ay
theorem tL(h:X.K=K):cq X (.builtin "len") (fun xs H Q=>∃x n,xs=[x]/\xK K x H n/\Q (.int n) H):=by subst h;exact vo
theorem tM(h:X.K=K)(hc:X.calm=true):cq X (.builtin "all") (fun xs H Q=>∃(p:Addr) (bs:List Bool),xs=[.ref p]/\SqL K H p (bs.map V.bl)/\Q (.bl (bs.all id)) H):=by subst h;exact vP hc
theorem tN(h:X.K=K):cq X (.builtin "isinstance") (fun xs H Q=>∃x n t b,xs=[x,.ty n]/\gQ K H x t/\kitOne K t (.type n)=some b/\Q (.bl b) H):=by subst h;exact vQ
theorem qv(h:X.K=K):cq X (.type "list") (fun xs H Q=>∃p ys,xs=[.ref p]/\(SqL K H p ys\/SqT K H p ys)/\∀l,H l=none->Q (.ref l) (upd H l (.lst ys))):=by subst h;exact mQ
theorem vU(h:X.K=K):MtR X "str.join" (sj K):=by subst h;exact yi
theorem tO{a:Expr}{ta:TE}(h:X.K=K)(ha:PE X a ta)(he:∀whole,isTrue a X.env whole=(do let v<-whole;standAt a.pos;holding [v] (truthy v))):PT X a (fun σ H Q=>ta σ H fun x H'=>∃k,vh K x H' k/\Q k H'):=by subst h;exact vk ha he
theorem yo{tg l:Expr}{tl:TE}(h:X.K=K)(hl:PE X l tl):PI X tg l (yn K tl):=by subst h;exact Az hl
variable{o e:Expr}{es:List Expr}{to:TE}{t:TA}{name:Str}{apos cpos:Pos}{T id:String}{r:V->List V->Hp->VK->Prop}
theorem yp(h:X.K=K)(pa:PlainAttrs T)(slot:Slot T name id)(hty:typeOf (.builtin id)=pure (.type "method_descriptor"))(hm:MtR X id r)(ho:PE X o to)
 (hbase:attributeBase o name X.env (eval o X.env)=eval o X.env) (hline:(apos.endLine==cpos.line)=true):PE X (.Call (.Attribute o name apos) [] [] cpos) (x5 K T r to):=by
 subst h;exact Ag pa slot hty hm ho hbase hline
theorem vV(h:X.K=K)(pa:PlainAttrs T)(slot:Slot T name id)(hty:typeOf (.builtin id)=pure (.type "method_descriptor"))(hm:MtR X id r)(ho:PE X o to)(ha:PA X (e::es) t)
 (hbase:attributeBase o name X.env (eval o X.env)=eval o X.env)
 (hfew:((backTo cpos (starEach (e::es) X.env)).all (fun x=>!x.1)&&(backToKw cpos (keywordEach [] X.env)).all (fun x=>x.1.isSome)
  && decide ((e::es).length+([]:List Keyword).length+(if([]:List Keyword).isEmpty then 0 else 1)<30))=true)
 (hline:(apos.endLine==cpos.line)=true) (hs:starEach (e::es) X.env=(false,eval e X.env)::starEach es X.env) (hplain:(backTo cpos (starEach es X.env)).any (·.1)=false):
 PE X (.Call (.Attribute o name apos) (e::es) [] cpos) (tBM K T r to t):=by
 subst h;exact Bx pa slot hty hm ho ha hbase hfew hline hs hplain
end
structure qw (z TI TO i1 i2:Addr):Prop where
 TIz:TI≠z
 TOz:TO≠z
 i1z:i1≠z
 i2z:i2≠z
 TITO:TI≠TO
 TIi1:TI≠i1
 TIi2:TI≠i2
 TOi1:TO≠i1
 TOi2:TO≠i2
 i12:i1≠i2
section
variable{prog:Program}{w:World}{A:Around}{E:Value->Shared->Prop}{s:Shared}{z TI TO i1 i2:Addr}{fp1 fp2:List Addr}{n1 n2 i:Nat}{P1 P2:Nat->Value->Prop}{St1 St2:Nat->Heap->Prop}
theorem vW{a b:Value}{Q:Value->Shared->Prop}(D1:Draws prog w A i1 fp1 n1 P1 St1)(D2:Draws prog w A i2 fp2 n2 P2 St2)(D:qw z TI TO i1 i2)(m1:∀b∈fp1,b≠z/\b≠TO/\b≠i2)(m2:∀b∈fp2,b≠z/\b≠TO/\b≠i1)
 (hz:IsZip s.heap z TI TO .none) (hTI:IsPair s.heap TI (.ref i1) (.ref i2)) (hTO:IsPair s.heap TO a b) (h1:St1 i s.heap) (h2:St2 i s.heap) (l1:i<n1) (l2:i<n2)
 (hQ:∀x y h' tk,P1 i x->P2 i y->IsZip h' z TI TO (rawInt s.heap.objs.size)->IsPair h' TO x y->St1 (i+1) h'->St2 (i+1) h'->IsPair h' s.heap.objs.size x y->
  (∀c o,c≠z->c≠TO->c≠i1->c≠i2->s.heap.get? c=some o->h'.get? c=some o)->Q (.ref s.heap.objs.size) {s with heap:=h',toks:=tk}):
 wpAny (model prog w) A (Builtin.«zip.__next__» ⟨[.ref z],[]⟩) (fun fin s'=>∃v,fin= .done (.ret v)/\Q v s') E s:=by
 have fr1:∀{k h h' c},(∀b∈fp1,b≠c)->SameBut c h h'->St1 k h->St1 k h':=fun hc sb st=>D1.frame _ _ _ st fun b hb o e=>(sb.2 b (hc b hb)).trans e
 have fr2:∀{k h h' c},(∀b∈fp2,b≠c)->SameBut c h h'->St2 k h->St2 k h':=fun hc sb st=>D2.frame _ _ _ st fun b hb o e=>(sb.2 b (hc b hb)).trans e
 show wpAny _ _ (field (.ref z) 2>>= _) _ _ _;refine Z2 (wpAny_field hz rfl (x:= .bool false) rfl ?_);show wpAny _ _ (field (.ref z) 3>>= _) _ _ _;refine Z2 (wpAny_field hz rfl (x:= .ref TI) rfl (Z2 (wpAny_seqItems hTI rfl ?_)));show wpAny _ _ (Builtin.SmallTypes.ownedTupleIsFree (.ref z)>>= _) _ _ _;refine Z2 ?_;unfold Builtin.SmallTypes.ownedTupleIsFree;refine Z2 (wpAny_field hz rfl (x:= .none) rfl (Z3 ?_));simp only[if_true];refine Z2 (wpAny_rule (Z2 (wpAny_field hz rfl (x:= .ref TO) rfl (Z2 (wpAny_setField_rec hz (by simp) fun g1 hz1 sb1=>?_)))));replace hz1:IsZip g1 z TI TO .ellipsis:=hz1;refine Z2 ?_;simp only[List.zipIdx_cons,List.zipIdx_nil,forIn_cons,forIn_nil];refine Z2 (Z2 (wpAny_onRaise ?_));show wpAny _ _ (Builtin.SmallTypes.nextOf (.ref i1)>>= _) _ _ _;refine Z2 (D1.item i _ _ _ l1 (fr1 (fun b hb=>(m1 b hb).1) sb1 h1) fun x g2 tk2 px st2 sb2=>Z3 ?_);replace sb2:SameBut i1 g1 g2:=sb2;have hTO2:IsPair g2 TO a b:=(sb2.2 _ D.TOi1).trans ((sb1.2 _ D.TOz).trans hTO);refine Z2 (wpAny_seqItems hTO2 rfl (Z2 (wpAny_updateSeq_pair (s:={s with heap:=g2,toks:=tk2}) hTO2 fun g3 hTO3 sb3=>?_)));replace hTO3:IsPair g3 TO x b:=hTO3;replace sb3:SameBut TO g2 g3:=sb3;refine Z2 (wpAny_letGo (Z3 (Z2 (Z2 (wpAny_onRaise ?_)))));show wpAny _ _ (Builtin.SmallTypes.nextOf (.ref i2)>>= _) _ _ _;have h2':St2 i g3:=fr2 (fun b hb=>(m2 b hb).2.1) sb3 (fr2 (fun b hb=>(m2 b hb).2.2) sb2 (fr2 (fun b hb=>(m2 b hb).1) sb1 h2));refine Z2 (D2.item i _ _ _ l2 h2' fun y g4 tk4 py st4 sb4=>Z3 ?_);replace sb4:SameBut i2 g3 g4:=sb4;have hTO4:IsPair g4 TO x b:=(sb4.2 _ D.TOi2).trans hTO3;refine Z2 (wpAny_seqItems hTO4 rfl (Z2 (wpAny_updateSeq_pair (s:={s with heap:=g4,toks:=tk4}) hTO4 fun g5 hTO5 sb5=>?_)));replace hTO5:IsPair g5 TO x y:=hTO5;replace sb5:SameBut TO g4 g5:=sb5;refine Z2 (wpAny_letGo (Z3 (Z3 (Z2 (wpAny_seqItems hTO5 rfl (Z2 (wpAny_newTuple ?_)))))));have hsz:g5.objs.size=s.heap.objs.size:=by rw[sb5.1,sb4.1,sb3.1,sb2.1,sb1.1]
 have hz5:IsZip g5 z TI TO .ellipsis:=(sb5.2 _ D.TOz.symm).trans ((sb4.2 _ D.i2z.symm).trans ((sb3.2 _ D.TOz.symm).trans ((sb2.2 _ D.i1z.symm).trans hz1)));have hk5:∀c o,c≠z->c≠TO->c≠i1->c≠i2->s.heap.get? c=some o->g5.get? c=some o:=fun c o c1 c2 c3 c4 e=>
  (sb5.2 c c2).trans ((sb4.2 c c4).trans ((sb3.2 c c2).trans ((sb2.2 c c3).trans ((sb1.2 c c1).trans e))))
 have h15:St1 (i+1) g5:=fr1 (fun b hb=>(m1 b hb).2.1) sb5 (fr1 (fun b hb=>(m1 b hb).2.2) sb4 (fr1 (fun b hb=>(m1 b hb).2.1) sb3 st2));have h25:St2 (i+1) g5:=fr2 (fun b hb=>(m2 b hb).2.1) sb5 st4;have hzlt:z<g5.objs.size:=Zv hz5;have hTOlt:TO<g5.objs.size:=Zv hTO5;show wpAny _ _ (Builtin.SmallTypes.ownedTupleHandOut (.ref z) (.ref g5.objs.size)>>= _) _ _ _;refine Z2 ?_;unfold Builtin.SmallTypes.ownedTupleHandOut;have hz6:IsZip (g5.push {cls:= .type "tuple",data:= .seq #[x,y]}) z TI TO .ellipsis:=Z7 _ hz5;refine Z2 (wpAny_setField_rec (s:={s with heap:=g5.push {cls:= .type "tuple",data:= .seq #[x,y]},toks:=tk4}) hz6 (by simp) fun g7 hz7 sb7=>?_);replace hz7:IsZip g7 z TI TO (rawInt g5.objs.size):=hz7;replace sb7:SameBut z (g5.push {cls:= .type "tuple",data:= .seq #[x,y]}) g7:=sb7;refine wpAny_setField_rec (s:={s with heap:=g7,toks:=tk4}) hz7 (by simp) fun g8 hz8 sb8=>?_
 replace hz8:IsZip g8 z TI TO (rawInt g5.objs.size):=hz8;replace sb8:SameBut z g7 g8:=sb8;have up:∀c o,c≠z->g5.get? c=some o->g8.get? c=some o:=fun c o c1 e=>(sb8.2 c c1).trans ((sb7.2 c c1).trans (Z7 _ e))
 have hT8:IsPair g8 g5.objs.size x y:=(sb8.2 _ (Yu hzlt)).trans ((sb7.2 _ (Yu hzlt)).trans (Zj _ rfl));have h18:St1 (i+1) g8:=D1.frame _ _ _ h15 fun b hb o e=>up b o (m1 b hb).1 e
 have h28:St2 (i+1) g8:=D2.frame _ _ _ h25 fun b hb o e=>up b o (m2 b hb).1 e
 rw[hsz]at hz8 hT8;refine Z3 ⟨_,rfl,?_⟩;show Q (.ref g5.objs.size) _;rw[hsz];exact hQ x y g8 tk4 px py hz8 (up _ _ D.TOz hTO5) h18 h28 hT8 fun c o c1 c2 c3 c4 e=>up c o c1 (hk5 c o c1 c2 c3 c4 e)
theorem vX{a b:Value}{Q:Fin->Shared->Prop}(D1:Draws prog w A i1 fp1 n1 P1 St1)(D2:Draws prog w A i2 fp2 n2 P2 St2)(D:qw z TI TO i1 i2)(m1:∀b∈fp1,b≠z/\b≠TO/\b≠i2)(m2:∀b∈fp2,b≠z/\b≠TO/\b≠i1)
 (hz:IsZip s.heap z TI TO .none) (hTI:IsPair s.heap TI (.ref i1) (.ref i2)) (hTO:IsPair s.heap TO a b) (h1:St1 i s.heap) (h2:St2 i s.heap) (l1:i<=n1) (l2:i<=n2) (hend:i=n1\/i=n2)
 (hE:∀h' e tk,(∀c o,c≠z->c≠TO->c≠i1->c≠i2->s.heap.get? c=some o->h'.get? c=some o)->(∃o,h'.get? e=some o/\o.cls= .type "StopIteration")->E (.ref e) {s with heap:=h',toks:=tk}):
 wpAny (model prog w) A (Builtin.«zip.__next__» ⟨[.ref z],[]⟩) Q E s:=by
 have fr1:∀{k h h' c},(∀b∈fp1,b≠c)->SameBut c h h'->St1 k h->St1 k h':=fun hc sb st=>D1.frame _ _ _ st fun b hb o e=>(sb.2 b (hc b hb)).trans e
 have fr2:∀{k h h' c},(∀b∈fp2,b≠c)->SameBut c h h'->St2 k h->St2 k h':=fun hc sb st=>D2.frame _ _ _ st fun b hb o e=>(sb.2 b (hc b hb)).trans e
 show wpAny _ _ (field (.ref z) 2>>= _) _ _ _;refine Z2 (wpAny_field hz rfl (x:= .bool false) rfl ?_);show wpAny _ _ (field (.ref z) 3>>= _) _ _ _;refine Z2 (wpAny_field hz rfl (x:= .ref TI) rfl (Z2 (wpAny_seqItems hTI rfl ?_)));show wpAny _ _ (Builtin.SmallTypes.ownedTupleIsFree (.ref z)>>= _) _ _ _;refine Z2 ?_;unfold Builtin.SmallTypes.ownedTupleIsFree;refine Z2 (wpAny_field hz rfl (x:= .none) rfl (Z3 ?_));simp only[if_true];refine Z2 (wpAny_rule (Z2 (wpAny_field hz rfl (x:= .ref TO) rfl (Z2 (wpAny_setField_rec hz (by simp) fun g1 hz1 sb1=>?_)))));replace hz1:IsZip g1 z TI TO .ellipsis:=hz1;refine Z2 ?_;simp only[List.zipIdx_cons,List.zipIdx_nil,forIn_cons,forIn_nil];refine Z2 (Z2 (wpAny_onRaise ?_));show wpAny _ _ (Builtin.SmallTypes.nextOf (.ref i1)>>= _) _ _ _;have h1':St1 i g1:=fr1 (fun b hb=>(m1 b hb).1) sb1 h1;by_cases c1:i<n1
 ·have e2:i=n2:=by lia
  refine Z2 (D1.item i _ _ _ c1 h1' fun x g2 tk2 px st2 sb2=>Z3 ?_);replace sb2:SameBut i1 g1 g2:=sb2;have hTO2:IsPair g2 TO a b:=(sb2.2 _ D.TOi1).trans ((sb1.2 _ D.TOz).trans hTO);refine Z2 (wpAny_seqItems hTO2 rfl (Z2 (wpAny_updateSeq_pair (s:={s with heap:=g2,toks:=tk2}) hTO2 fun g3 hTO3 sb3=>?_)));replace sb3:SameBut TO g2 g3:=sb3;refine Z2 (wpAny_letGo (Z3 (Z2 (Z2 (wpAny_onRaise ?_)))));show wpAny _ _ (Builtin.SmallTypes.nextOf (.ref i2)>>= _) _ _ _;have h2':St2 n2 g3:=e2▸fr2 (fun b hb=>(m2 b hb).2.1) sb3 (fr2 (fun b hb=>(m2 b hb).2.2) sb2 (fr2 (fun b hb=>(m2 b hb).1) sb1 h2));refine Z2 (D2.done _ _ _ h2' fun g4 e sb4 he=>?_);replace sb4:Heap.ExtBut i2 g3 g4:=sb4;obtain⟨oe,hoe,hce⟩:=he;have hz4:IsZip g4 z TI TO .ellipsis:=sb4 _ _ D.i2z.symm ((sb3.2 _ D.TOz.symm).trans ((sb2.2 _ D.i1z.symm).trans hz1));have hez:e≠z:=fun x=>by subst x;rw[hz4]at hoe;cases hoe;simp at hce
  refine wpAny_setField_rec (s:={s with heap:=g4,toks:=tk2}) hz4 (by simp) fun g5 _ sb5=>?_
  replace sb5:SameBut z g4 g5:=sb5;exact hE g5 e tk2 (fun c o d1 d2 d3 d4 x=>(sb5.2 c d1).trans (sb4 c o d4 ((sb3.2 c d2).trans ((sb2.2 c d3).trans ((sb1.2 c d1).trans x))))) ⟨oe,(sb5.2 e hez).trans hoe,hce⟩
 ·have e1:i=n1:=by lia
  refine Z2 (D1.done _ _ _ (e1▸h1') fun g2 e sb2 he=>?_);replace sb2:Heap.ExtBut i1 g1 g2:=sb2;obtain⟨oe,hoe,hce⟩:=he;have hz2:IsZip g2 z TI TO .ellipsis:=sb2 _ _ D.i1z.symm hz1;have hez:e≠z:=fun x=>by subst x;rw[hz2]at hoe;cases hoe;simp at hce
  refine wpAny_setField_rec (s:={s with heap:=g2}) hz2 (by simp) fun g3 _ sb3=>?_
  replace sb3:SameBut z g2 g3:=sb3;exact hE g3 e s.toks (fun c o d1 _ d3 _ x=>(sb3.2 c d1).trans (sb2 c o d3 ((sb1.2 c d1).trans x))) ⟨oe,(sb3.2 e hez).trans hoe,hce⟩
end
noncomputable def Itz(x y:Str):It:=⟨fun i _=>i<x.cps.size/\i<y.cps.size,fun i H v H'=>∃c d T,x.cps[i]? =some c/\y.cps[i]? =some d/\H T=none/\v= .ref T/\H'=upd H T (.tup [.str ⟨#[c]⟩,.str ⟨#[d]⟩]),
 fun i _=>i<=x.cps.size/\i<=y.cps.size/\(i=x.cps.size\/i=y.cps.size)⟩
def ZSt(z TI TO i1 i2:Addr)(S1 S2:Nat->Heap->Prop)(i:Nat)(h:Heap):Prop:=IsZip h z TI TO .none/\IsPair h TI (.ref i1) (.ref i2)/\(∃a b,IsPair h TO a b)/\S1 i h/\S2 i h
theorem gi(prog:Program)(w:World)(x:Str)(t:Tok)(it:Addr):∀A:Around,A.handled=none->
 Draws prog w A it [it] x.cps.size (fun i v=>∃c u,x.cps[i]? =some c/\v= .str ⟨#[c]⟩ u) (fun i h=>h.IsStrIter it (strIterType x) x t i):=by
 intro A hh;unfold strIterType;cases ha:x.cps.all (·<128)with
 | true=>exact Draws.strAscii hh it x t
 | false=>exact Draws.strWide hh it x t
theorem vY{P:Program}{w:World}{K:PySem.W.Frag}{elts:List Expr}{kt:Nat}{tp:Pos}(z TI TO i1 i2:Addr)(x y:Str)(t u:Tok)(D:qw z TI TO i1 i2):
 mJ P w K (.Tuple elts kt tp) (Itz x y) [z,TI,TO,i1,i2] z (ZSt z TI TO i1 i2 (fun i h=>h.IsStrIter i1 (strIterType x) x t i) (fun i h=>h.IsStrIter i2 (strIterType y) y u i)) where
 mem:=by simp
 obj:=fun i h st b hb=>by
  obtain⟨hz,hTI,⟨a,c,hTO⟩,⟨o1,e1,_,d1⟩,o2,e2,_,d2⟩:=st;simp only[Yq,Yy,or_false]at hb;rcases hb with rfl|rfl|rfl|rfl|rfl
  ·exact⟨_,hz,fun v q=>nomatch q⟩
  ·exact⟨_,hTI,fun v q=>nomatch q⟩
  ·exact⟨_,hTO,fun v q=>nomatch q⟩
  ·exact⟨o1,e1,fun v q=>by rw[d1]at q;cases q⟩
  ·exact⟨o2,e2,fun v q=>by rw[d2]at q;cases q⟩
 keep:=fun i h h' st k=>by
  obtain⟨hz,hTI,⟨a,c,hTO⟩,⟨o1,e1,r1⟩,o2,e2,r2⟩:=st;exact⟨k z (by simp) _ hz,k TI (by simp) _ hTI,⟨a,c,k TO (by simp) _ hTO⟩,⟨o1,k i1 (by simp) _ e1,r1⟩,o2,k i2 (by simp) _ e2,r2⟩
 item:=by
  intro X hP hw hK hc i pins s σ H E I hf st hg;subst hP hw hK;obtain⟨hz,hTI,⟨a,c,hTO⟩,h1,h2⟩:=st;obtain⟨g1,g2⟩:i<x.cps.size/\i<y.cps.size:=hg;have hT:s.TypeIs (.ref z) "zip":=⟨_,hz,rfl⟩
  have hh:X.A.in1.handled=none:=I.ok.hd hc;unfold pyNext;refine Z2 (wpAny_attempt (wpAny_callSpecial?_slot (name:=Str.ofString "__next__") hT F.slot_zip_next (wpAny_call_entry F.slot_zip_next hT F.entry_zip_next
   (vW (gi _ _ x t i1 _ hh) (gi _ _ y u i2 _ hh) D (fun b hb=>by rw[show b=i1 by simpa using hb];exact⟨D.i1z,Ne.symm D.TOi1,D.i12⟩) (fun b hb=>by rw[show b=i2 by simpa using hb];exact⟨D.i2z,Ne.symm D.TOi2,Ne.symm D.i12⟩) hz hTI hTO h1 h2 g1 g2 fun v1 v2 h' tk p1 p2 a1 a2 a3 a4 a5 hk=>Z3 ?_) (F.args_zip_next_1 _))))
  obtain⟨c1,u1,e1,rfl⟩:=p1;obtain⟨c2,u2,e2,rfl⟩:=p2;refine⟨_,rfl,wpAny_letOwnedTupleGo_zip (s:={s with heap:=h',toks:=tk}) a1 fun h'' hz'' sb=>?_⟩;replace sb:SameBut z h' h'':=sb;have zlt:z<s.heap.objs.size:=Zv hz;have Tne:s.heap.objs.size≠z:=Yu zlt;have hT2:h''.get? s.heap.objs.size=some {cls:= .type "tuple",data:= .seq #[.str ⟨#[c1]⟩ u1,.str ⟨#[c2]⟩ u2]}:=(sb.2 _ Tne).trans a5;have turn1:Inv X pins σ H {s with heap:=h'',toks:=tk}:=by
   have nit:∀b v,H b=some v->b∉[z,TI,TO,i1,i2]:=fun b v e hb=>by rw[(hf b hb).1]at e;cases e
   have kk:∀b o,b∉[z,TI,TO,i1,i2]->s.heap.get? b=some o->h''.get? b=some o:=fun b o hb e=>by
    simp only[Yq,Yy,or_false,not_or]at hb;exact(sb.2 b hb.1).trans (hk b o hb.1 hb.2.2.1 hb.2.2.2.1 hb.2.2.2.2 e)
   refine I.step (g':=s.gens) (d':=s.drawn) (ch:=[z,TI,TO,i1,i2]) (fun b hb=>⟨(hf b hb).2.2.2.1,(hf b hb).2.1,(hf b hb).2.2.2.2.1,(hf b hb).2.2.2.2.2⟩) (fun b o _ _ hc e _=>kk b o hc e) (fun b o _ _ hc e _=>⟨o.slots,kk b o hc e⟩) (fun _ _ _ _ n=>n)
    (fun b o hc e=>⟨o,kk b o hc e⟩) (fun _ _ e=>e) (fun _ _ _ e=>e) (fun b ps e=>⟨#[],by rw[e];simp⟩) (fun m hm=>?_) (fun b v e=>?_) I.bare
   ·obtain⟨o,es,ep,ho,r⟩:=hm;exact⟨o,es,ep,kk _ o (fun hb=>(hf _ hb).2.1 rfl) ho,r⟩
   ·refine(I.hok b v e).stay (fun c' v' hc' q=>kk c' v' ?_ q) (fun _ q=>q) fun _ _ q=>q
    rcases hc' with q'|q'
    ·rw[q'];exact nit b v e
    ·exact nit c' _ q'
  have Hn:H s.heap.objs.size=none:=I.fresh;have I2:Inv X pins σ (upd H s.heap.objs.size (.tup [.str ⟨#[c1]⟩,.str ⟨#[c2]⟩])) {s with heap:=h'',toks:=tk}:=by
   have nf:s.heap.objs.size∉X.fs:=I.nofs (Zi _);refine⟨turn1.ok,turn1.os,turn1.bare,?_,turn1.loc,turn1.cell,?_,?_,?_,?_,turn1.len⟩
   ·have lt0:∀b o,X.s₀.heap.get? b=some o->b≠s.heap.objs.size:=fun b o e=>Zt (Zg (Zv e) I.sz)
    refine⟨turn1.base.keep,turn1.base.slot,fun b o e n hx=>?_,turn1.base.there,fun b xs e=>?_,fun b o v e=>?_,fun b ps e=>?_⟩
    ·rw[ai (lt0 b o e)];exact turn1.base.free b o e n hx
    ·rw[ai (ap (turn1.base.tups b xs e) Hn)];exact turn1.base.tups b xs e
    ·rw[ai (ap (turn1.base.frzs b o v e) Hn)];exact turn1.base.frzs b o v e
    ·obtain⟨m,q⟩:=turn1.base.tbls b ps e;exact⟨m,by rw[ai (ap q Hn)];exact q⟩
   ·rw[ai (Zt I.lt)];exact turn1.free
   ·intro x' c' e;obtain⟨v',q⟩:=I.cell x' c' e;rw[ai (Zt q.lt)];exact turn1.freeC x' c' e
   ·intro p hp;obtain⟨e,n,r⟩:=turn1.pin p hp;refine⟨e,?_,r⟩;rw[ai (Zt (Zv (I.pin p hp).1))];exact n
   ·intro b v e;by_cases hb:b=s.heap.objs.size
    ·subst hb;rw[aa]at e;cases e;exact⟨by show 2<=sizeLine;decide,[.str ⟨#[c1]⟩ u1,.str ⟨#[c2]⟩ u2],.cons ⟨_,rfl⟩ (.cons ⟨_,rfl⟩ .nil),_,hT2,rfl,_,rfl⟩
    ·rw[ai hb]at e;refine(turn1.hok b v e).stay (fun _ _ _ q=>q) (fun c' q=>?_) fun c' xs q=>?_
     ·rw[ai (ap q Hn)];exact q
     ·rw[ai (ap q Hn)];exact q
  refine⟨.ref s.heap.objs.size,_,I2,rfl,⟨c1,c2,_,e1,e2,Hn,rfl,rfl⟩,⟨hz'',(sb.2 _ D.TIz).trans (hk _ _ D.TIz D.TITO D.TIi1 D.TIi2 hTI),⟨_,_,(sb.2 _ D.TOz).trans a2⟩,?_,?_⟩,fun b hb=>?_⟩
  ·obtain⟨o,e,r⟩:=a3;exact⟨o,(sb.2 _ D.i1z).trans e,r⟩
  ·obtain⟨o,e,r⟩:=a4;exact⟨o,(sb.2 _ D.i2z).trans e,r⟩
  ·have:b<s.heap.objs.size:=by
    simp only[Yq,Yy,or_false]at hb;obtain⟨o1,q1,_⟩:=h1;obtain⟨o2,q2,_⟩:=h2;rcases hb with rfl|rfl|rfl|rfl|rfl
    ·exact Zv hz
    ·exact Zv hTI
    ·exact Zv hTO
    ·exact Zv q1
    ·exact Zv q2
   rw[ai (Zt this)];exact(hf b hb).1
 done:=by
  intro X hP hw hK hc i pins s σ H E I hf st hg;subst hP hw hK;obtain⟨hz,hTI,⟨a,c,hTO⟩,h1,h2⟩:=st;obtain⟨g1,g2,g3⟩:i<=x.cps.size/\i<=y.cps.size/\(i=x.cps.size\/i=y.cps.size):=hg;have hT:s.TypeIs (.ref z) "zip":=⟨_,hz,rfl⟩
  have hh:X.A.in1.handled=none:=I.ok.hd hc;unfold pyNext;refine Z2 (wpAny_attempt (wpAny_callSpecial?_slot (name:=Str.ofString "__next__") hT F.slot_zip_next (wpAny_call_entry F.slot_zip_next hT F.entry_zip_next
   (vX (gi _ _ x t i1 _ hh) (gi _ _ y u i2 _ hh) D (fun b hb=>by rw[show b=i1 by simpa using hb];exact⟨D.i1z,Ne.symm D.TOi1,D.i12⟩) (fun b hb=>by rw[show b=i2 by simpa using hb];exact⟨D.i2z,Ne.symm D.TOi2,Ne.symm D.i12⟩) hz hTI hTO h1 h2 g1 g2 g3 fun h' e tk hk he=>?_) (F.args_zip_next_1 _))))
  obtain⟨o,ho,hco⟩:=he;refine Z2 (wpAny_isInstance (T:="StopIteration") (b:=true) ⟨o,ho,hco⟩ isSubtype_stop (Z3 ⟨rfl,?_⟩));have nit:∀b v,H b=some v->b∉[z,TI,TO,i1,i2]:=fun b v e hb=>by rw[(hf b hb).1]at e;cases e
  have kk:∀b o,b∉[z,TI,TO,i1,i2]->s.heap.get? b=some o->h'.get? b=some o:=fun b o hb e=>by
   simp only[Yq,Yy,or_false,not_or]at hb;exact hk b o hb.1 hb.2.2.1 hb.2.2.2.1 hb.2.2.2.2 e
  refine I.step (g':=s.gens) (d':=s.drawn) (ch:=[z,TI,TO,i1,i2]) (fun b hb=>⟨(hf b hb).2.2.2.1,(hf b hb).2.1,(hf b hb).2.2.2.2.1,(hf b hb).2.2.2.2.2⟩) (fun b o _ _ hc e _=>kk b o hc e) (fun b o _ _ hc e _=>⟨o.slots,kk b o hc e⟩) (fun _ _ _ _ n=>n)
   (fun b o hc e=>⟨o,kk b o hc e⟩) (fun _ _ e=>e) (fun _ _ _ e=>e) (fun b ps e=>⟨#[],by rw[e];simp⟩) (fun m hm=>?_) (fun b v e=>?_) I.bare
  ·obtain⟨o',es,ep,ho',r⟩:=hm;exact⟨o',es,ep,kk _ o' (fun hb=>(hf _ hb).2.1 rfl) ho',r⟩
  ·refine(I.hok b v e).stay (fun c' v' hc' q=>kk c' v' ?_ q) (fun _ q=>q) fun _ _ q=>q
   rcases hc' with q'|q'
   ·rw[q'];exact nit b v e
   ·exact nit c' _ q'
 self:=fun _ _ _ _ _ st h=>wpAny_pyIter_zip st.1 h
noncomputable def bi:Expr->Bool
 | .Starred _ _=>true
 | _=>false
theorem ar{e:Expr}{es:List Expr}{env:Env}(h:bi e=false):starEach (e::es) env=(false,eval e env)::starEach es env:=by
 cases e<;> first|rfl|exact absurd h (by simp[bi])
theorem cN{e:Expr}{es:List Expr}{env:Env}(h:bi e=false):assignEach (e::es) env=(false,assign e env)::assignEach es env:=by
 cases e<;> first|rfl|exact absurd h (by simp[bi])
theorem eU{pos:Pos}{env:Env}:∀{es:List Expr},es.any bi=false->(backTo pos (starEach es env)).any (·.1)=false
 |[],_=>rfl
 | e::es,h=>by
   rw[Zy,Yz]at h;rw[ar h.1];have:=eU (pos:=pos) (env:=env) h.2;cases es with
   | nil=>rfl
   | cons e2 es2=>
     simp only[backTo]at this ⊢;simpa using this
theorem mV{pos:Pos}{env:Env}:∀{es:List Expr},es.any bi=false->(backTo pos (starEach es env)).all (fun x=>!x.1)=true
 |[],_=>rfl
 | e::es,h=>by
   rw[Zy,Yz]at h;rw[ar h.1];have:=mV (pos:=pos) (env:=env) h.2;cases es with
   | nil=>rfl
   | cons e2 es2=>
     simp only[backTo]at this ⊢;simpa using this
theorem gU{env:Env}:∀{es:List Expr},es.any bi=false->(assignEach es env).length=es.length/\(assignEach es env).findIdx? (·.1)=none
 |[],_=>⟨rfl,rfl⟩
 | e::es,h=>by
   rw[Zy,Yz]at h;rw[cN h.1];have ih:=gU (env:=env) h.2;refine⟨by rw[Zr,Zr,ih.1],?_⟩;rw[List.findIdx?_cons,ih.2];rfl
noncomputable def gj:Expr->Bool
 | .ListComp _ _ _ _=>true
 | .SetComp _ _ _ _=>true
 | .DictComp _ _ _ _ _=>true
 | _=>false
theorem ir{e:Expr}{t:Option Expr}{l:Nat}{env:Env}(h:gj e=false):swapsWith e t l env=pure false:=by
 cases e<;> first|rfl|exact absurd h (by simp[gj])
noncomputable def qz:Expr->Bool
 | .Tuple _ _ _=>true
 | _=>false
theorem qA{t e:Expr}{env:Env}(h:qz e=false):swappedStores [t] e env=pure none:=by
 cases e with
 | Tuple _ _ _=>exact absurd h (by simp[qz])
 | _=>cases t<;> rfl
noncomputable def iu:Expr->Bool
 | .Call _ _ _ _=>true
 | _=>false
theorem fQ{o:Expr}{a:Str}{env:Env}{w:Sem Value}(h:iu o=false):attributeBase o a env w=w:=by
 cases o<;> first|rfl|exact absurd h (by simp[iu])
noncomputable def kl:Expr->Bool
 | .Set _ _ _=>true
 | _=>false
theorem iZ{e:Expr}{env:Env}(h:kl e=false)(x:Value):foldedSetIterable e env x=pure x:=by
 cases e<;> first|rfl|exact absurd h (by simp[kl])
structure QE (X:Cx) (e:Expr) (t:TE):Prop where
 h:PE X e t
structure QT (X:Cx) (e:Expr) (t:TT):Prop where
 h:PT X e t
structure QW (X:Cx) (e:Expr) (t:TT):Prop where
 h:PW X e t
structure QA (X:Cx) (es:List Expr) (t:TA):Prop where
 h:PA X es t
structure QS (X:Cx) (st:Stmt) (t:TS):Prop where
 h:PS X st t
structure QSs (X:Cx) (st:List Stmt) (t:TS):Prop where
 h:PSs X st t
structure QG (X:Cx) (e:Expr) (t:TG):Prop where
 h:PG X e t
structure QGs (X:Cx) (es:List Expr) (t:TGs):Prop where
 h:PGs X es t
structure QI (X:Cx) (tg iter:Expr) (wi:TI):Prop where
 h:PI X tg iter wi
structure QO (X:Cx) (e:Option Expr) (t:TO):Prop where
 h:PO X e t
structure QTs (X:Cx) (ifs:List Expr) (t:TT):Prop where
 h:PTs X ifs t
structure OpQ (X:Cx) (f:Value->Value->Sem Value) (r:R2):Prop where
 h:OpR X f r
structure cJ (X:Cx) (f:Value) (r:List V->Hp->VK->Prop):Prop where
 h:cq X f r
structure MtQ (X:Cx) (id:String) (r:V->List V->Hp->VK->Prop):Prop where
 h:MtR X id r
section
variable{X:Cx}{K:PySem.W.Frag}{pos:Pos}
theorem ao{i j}:QE X (.Constant (.int i) j pos) (tC (.int i)):=⟨zy⟩
theorem eBl{b j}:QE X (.Constant (.bool b) j pos) (tC (.bl b)):=⟨Bg⟩
theorem dI{x j}:QE X (.Constant (.str x) j pos) (tC (.str x)):=⟨zz⟩
theorem vn(i:Nat){x:Str}(hN:X.N[i]? =some x)(hv:Vis X.env.scope x)(hd:(x==("__debug__":Str))=false)(hcd:(x==("__classdict__":Str))=false):QE X (.Name x pos) (om i):=⟨uQ hN hv hd hcd⟩
theorem gvE{x:Str}{v:V}(g:Gv X.mg x v)(hg:Gl X x)(hd:(x==("__debug__":Str))=false):QE X (.Name x pos) (tC v):=⟨za g hg hd⟩
theorem blE{x:Str}{v:V}{u:Value}(hg:Gl X x)(hm:X.mg x=none)(hv:bootBuiltins x=some u)(r:aA v u)(hn:(x==("__name__":Str))=false)(hd:(x==("__debug__":Str))=false):QE X (.Name x pos) (tC v):=
 ⟨xx hg hm hv r (fun e=>by subst e;cases hn) hd⟩
theorem aj:QA X [] vt:=⟨zZ⟩
theorem paE{e:Expr}{es:List Expr}{te:TE}{t:TA}(hs:bi e=false)(ha:QE X e te)(hr:QA X es t):QA X (e::es) (vv te t):=⟨xP ha.h hr.h (ar hs)⟩
theorem aO{j k:Nat}{x:Str}{ps:List Str}{sp:Sp}{p:Pos}{e:Expr}{es:List Expr}{t:TA}(C:Cal X.prog X.w X.K X.mg X.base j x ps sp)(hr:b8 k X.A)(hg:Gl X x)(hjk:Nat.ble j k=true)
 (hdb:(x==("__debug__":Str))=false) (he:(e::es).any bi=false) (ha:QA X (e::es) t):
 QE X (.Call (.Name x p) (e::es) [] pos) (rY sp [] E0 t):=by
 rw[Zy,Yz]at he;exact⟨AA C hr hg vN ha.h (Nat.le_of_ble_eq_true hjk) hdb (ar he.1) (eU he.2)⟩
theorem cbE{x:Str}{id:String}{r:List V->Hp->VK->Prop}{p:Pos}{e:Expr}{es:List Expr}{t:TA}(hc:cJ X (.builtin id) r)(hg:Gl X x)(hm:X.mg x=none)(hv:bootBuiltins x=some (.builtin id))(hn:(x==("__name__":Str))=false)(hdb:(x==("__debug__":Str))=false)
 (he:(e::es).any bi=false) (ha:QA X (e::es) t):QE X (.Call (.Name x p) (e::es) [] pos) (tCB r t):=by
 rw[Zy,Yz]at he;exact⟨vB hc.h hg hm hv ha.h (fun e=>by subst e;cases hn) hdb (ar he.1) (eU he.2)⟩
theorem ctE{x:Str}{T:String}{r:List V->Hp->VK->Prop}{p:Pos}{e:Expr}{es:List Expr}{t:TA}(hc:cJ X (.type T) r)(hg:Gl X x)(hm:X.mg x=none)(hv:bootBuiltins x=some (.type T))(hn:(x==("__name__":Str))=false)(hdb:(x==("__debug__":Str))=false)
 (he:(e::es).any bi=false) (ha:QA X (e::es) t):QE X (.Call (.Name x p) (e::es) [] pos) (tCB r t):=by
 rw[Zy,Yz]at he;exact⟨tD hc.h hg hm hv ha.h (fun e=>by subst e;cases hn) hdb (ar he.1) (eU he.2)⟩
theorem bmE{o e:Expr}{es:List Expr}{to:TE}{t:TA}{name:Str}{apos cpos:Pos}{T id:String}{r:V->List V->Hp->VK->Prop}(h:X.K=K)(pa:PlainAttrs T)(slot:Slot T name id)(hty:typeOf (.builtin id)=pure (.type "method_descriptor"))(hm:MtQ X id r)
 (hbase:iu o=false) (hfew:(e::es).any bi=false) (h30:Nat.blt (e::es).length 30=true) (hline:(apos.endLine==cpos.line)=true) (ho:QE X o to) (ha:QA X (e::es) t):
 QE X (.Call (.Attribute o name apos) (e::es) [] cpos) (tBM K T r to t):=by
 have he:=hfew;rw[Zy,Yz]at he;refine⟨vV h pa slot hty hm.h ho.h ha.h (fQ hbase) ?_ hline (ar he.1) (eU he.2)⟩;rw[mV hfew];have h30':(e::es).length<30:=Nat.blt_eq.mp h30;have:decide ((e::es).length+([]:List Keyword).length+(if([]:List Keyword).isEmpty then 0 else 1)<30)=true:=Zf (by simpa using h30');rw[this];rfl
theorem bm0E{o:Expr}{to:TE}{name:Str}{apos cpos:Pos}{T id:String}{r:V->List V->Hp->VK->Prop}(h:X.K=K)(pa:PlainAttrs T)(slot:Slot T name id)(hty:typeOf (.builtin id)=pure (.type "method_descriptor"))(hm:MtQ X id r)
 (hbase:iu o=false) (hline:(apos.endLine==cpos.line)=true) (ho:QE X o to):QE X (.Call (.Attribute o name apos) [] [] cpos) (x5 K T r to):=⟨yp h pa slot hty hm.h ho.h (fQ hbase) hline⟩
theorem l8{tg a:Expr}{ta:TA}{p:Pos}(hg:Gl X "range")(hm:X.mg "range"=none)(hs:bi a=false)(ha:QA X [a] ta):QI X tg (.Call (.Name "range" p) [a] [] pos) (u5 ta):=⟨sU hg hm ha.h (ar hs)⟩
theorem BA{tg a b:Expr}{ta:TA}{p:Pos}(hg:Gl X "range")(hm:X.mg "range"=none)(hs:bi a=false)(hs2:bi b=false)(ha:QA X [a,b] ta):QI X tg (.Call (.Name "range" p) [a,b] [] pos) (u9 ta):=
 ⟨sV hg hm ha.h ((ar hs).trans (by rw[ar hs2];rfl)) (ar hs2)⟩
theorem cW{tg l:Expr}{tl:TE}(h:X.K=K)(hl:QE X l tl):QI X tg l (yn K tl):=⟨yo h hl.h⟩
section
variable{a b c:Expr}{ta tb tc:TE}{op op':CmpOp}{r r':R2}
theorem qB(ho:OpQ X (compareOp op) r)(ho':OpQ X (compareOp op') r')(hm:lastMarks [op,op'] [b,c]=false)(ha:QE X a ta)(hb:QE X b tb)(hc:QE X c tc):QE X (.Compare a [op,op'] [b,c] pos) (qc r r' ta tb tc):=⟨vg ho.h ho'.h ha.h hb.h hc.h hm⟩
theorem jL(ho:OpQ X (compareOp op) r)(hm:behindInMarks op b=false)(ha:QE X a ta)(hb:QE X b tb):QE X (.Compare a [op] [b] pos) (tOp r ta tb):=⟨xI ho.h ha.h hb.h hm⟩
theorem cc(ho:OpQ X (compareOp op) r)(hm:behindInMarks op b=false)(ha:QE X a ta)(hb:QE X b tb):QT X (.Compare a [op] [b] pos) (vf (tOp r ta tb)):=⟨xJ ho.h ha.h hb.h hm⟩
theorem opE{op:Operator}(ho:OpQ X (binaryOp op) r)(ha:QE X a ta)(hb:QE X b tb):QE X (.BinOp a op b pos) (tOp r ta tb):=⟨Bn ho.h ha.h hb.h⟩
theorem vZ(ha:QE X a ta):QE X (.UnaryOp .USub a pos) (tUn (rU fun i=> .int (-i)) ta):=⟨Bo zS ha.h⟩
theorem slE{p2:Pos}{lo hi:Option Expr}{tl th:TO}(h:X.K=K)(ha:QE X a ta)(hl:QO X lo tl)(hu:QO X hi th):QE X (.Subscript a (.Slice lo hi none p2) pos) (tSl (ym K) ta tl th):=⟨kf (slK h) ha.h hl.h hu.h⟩
theorem noO:QO X none mL:=⟨xS⟩
theorem fC(h:QE X a ta):QO X (some a) (vD ta):=⟨xT h.h⟩
theorem km{op}(h:QE X a ta):QE X (.BoolOp op [a] pos) ta:=⟨zH h.h⟩
theorem jM{rest:List Expr}(ha:QE X a ta)(hb:QE X (.BoolOp .And (b::rest) pos) tb):QE X (.BoolOp .And (a::b::rest) pos) (uR ta tb):=⟨zI ha.h hb.h⟩
theorem orV{rest:List Expr}(ha:QE X a ta)(hb:QE X (.BoolOp .Or (b::rest) pos) tb):QE X (.BoolOp .Or (a::b::rest) pos) (zG ta tb):=⟨Bk ha.h hb.h⟩
theorem dZ{es:List Expr}{t:TA}(h:QA X es t):QE X (.List es pos) (z9 t):=⟨Ab h.h⟩
theorem fR{es:List Expr}{t:TA}{x1}(h:QA X es t):QE X (.Tuple es x1 pos) (z0 t):=⟨Aa h.h⟩
theorem v8:QE X (.Dict [] [] pos) qt:=⟨vM⟩
variable{tA tB':TT}{rest:List Expr}
theorem gJ(ha:QT X a tA):QT X (.UnaryOp .Not a pos) (zB tA):=⟨zE ha.h⟩
theorem kn(ha:QT X a tA):QW X (.BoolOp .And [a] pos) tA:=⟨xz ha.h⟩
theorem mW(ha:QT X a tA):QW X (.BoolOp .Or [a] pos) tA:=⟨zC ha.h⟩
theorem mX(ha:QT X a tA)(hb:QW X (.BoolOp .And (b::rest) pos) tB'):QW X (.BoolOp .And (a::b::rest) pos) (xy tA tB'):=⟨zD ha.h hb.h⟩
theorem orW(ha:QT X a tA)(hb:QW X (.BoolOp .Or (b::rest) pos) tB'):QW X (.BoolOp .Or (a::b::rest) pos) (tOr tA tB'):=⟨Bi ha.h hb.h⟩
theorem wT(h:QW X a tA):QT X a tA:=⟨PW.pt h.h⟩
theorem et(h:X.K=K)(he:∀whole,isTrue a X.env whole=(do let v<-whole;standAt a.pos;holding [v] (truthy v)))(ha:QE X a ta):QT X a (fun σ H Q=>ta σ H fun x H'=>∃k,vh K x H' k/\Q k H'):=⟨tO h ha.h he⟩
theorem i4:QTs X [] vO:=⟨ye⟩
theorem v9(h:QT X c tA):QTs X [c] tA:=⟨yf h.h⟩
end
theorem eI{tg iter elt:Expr}{ifs:List Expr}{scope:Scope}{N':List Str}{cap:List (Nat×Nat)}{wi:TI}{g:TG}{tc:TT}{te:TE}(S:ax X scope N' cap)(hc:X.calm=true)(hs:kl iter=false)(hi:QI X tg iter wi)
 (hg:∀s₃ H₃ fp,QG (aY X scope N' s₃ H₃ fp) tg g) (ht:∀s₃ H₃ fp,QTs (aY X scope N' s₃ H₃ fp) ifs tc) (he:∀s₃ H₃ fp,QE (aY X scope N' s₃ H₃ fp) elt te):
 QE X (.ListComp elt [⟨tg,iter,ifs,0⟩] scope pos) (lV wi N'.length cap g tc te):=⟨yh S hc hi.h (fun s₃ H₃ fp=>(hg s₃ H₃ fp).h) (fun s₃ H₃ fp=>(ht s₃ H₃ fp).h) (fun s₃ H₃ fp=>(he s₃ H₃ fp).h) (iZ hs)⟩
theorem bu:QSs X [] uS:=⟨xA⟩
theorem ah{st:Stmt}{rest:List Stmt}{t u:TS}(h1:QS X st t)(h2:QSs X rest u):QSs X (st::rest) (bL t u):=⟨uT h1.h h2.h⟩
theorem am{st:Stmt}{t:TS}(h1:QS X st t):QSs X [st] t:=⟨xB h1.h⟩
theorem ifS{c:Expr}{a b:List Stmt}{tc:TT}{t u:TS}(hc:QT X c tc)(ha:QSs X a t)(hb:QSs X b u):QS X (.If c a b pos) (jH tc t u):=⟨Bm hc.h ha.h hb.h⟩
theorem bg{e:Expr}{te:TE}(he:QE X e te):QS X (.Return (some e) pos) (iT te):=⟨zJ he.h⟩
theorem fS{st:Stmt}:QS X st uU:=⟨uV⟩
theorem dm{tg iter:Expr}{body:List Stmt}{wi:TI}{g:TG}{tb:TS}(hp:PassesOwn (model X.prog X.w) X.A X.env X.xe)(hc:X.calm=true)(hs:kl iter=false)(hi:QI X tg iter wi)(hg:QG X tg g)(hb:QSs X body tb):
 QS X (.For tg iter body [] pos) (va wi g tb):=⟨zN hp hc hi.h hg.h hb.h (iZ hs)⟩
theorem ba(i:Nat){x:Str}{e:Expr}{te:TE}{pos':Pos}(hN:X.N.Nodup)(hi:X.N[i]? =some x)(hx:Loc X.env.scope x)(hf:X.fn x=true\/X.env.scope.names.lookup x=some .local)(hs:gj e=false)(he:QE X e te):
 QS X (.Assign [.Name x pos'] e pos) (oo te (js i)):=⟨uY hN hi hx he.h (ir hs) hf⟩
theorem cu{e:Expr}{te:TE}(hs:gj e=false)(he:QE X e te):QS X (.Expr e pos) (jr te):=⟨xC he.h (ir hs)⟩
theorem yq{tg e:Expr}{te:TE}{g:TG}(hs:gj e=false)(hw:qz e=false)(hst:bi tg=false)(he:QE X e te)(hg:QG X tg g):QS X (.Assign [tg] e pos) (oo te g):=
 ⟨zM he.h hg.h (ir hs) (qA hw) (by rw[cN hst];rfl)⟩
theorem au(i:Nat){x:Str}(hN:X.N.Nodup)(hi:X.N[i]? =some x)(hx:Loc X.env.scope x)(hf:X.fn x=true\/X.env.scope.names.lookup x=some .local):QG X (.Name x pos) (js i):=⟨xD hN hi hx hf⟩
theorem cX:QGs X [] zK:=⟨xE⟩
theorem gsE{e:Expr}{es:List Expr}{t:TG}{u:TGs}(hs:bi e=false)(h1:QG X e t)(h2:QGs X es u):QGs X (e::es) (uW t u):=⟨uX h1.h h2.h (by rw[cN hs];rfl)⟩
theorem fT{es:List Expr}{k:Nat}{t:TGs}(hK:X.K=K)(hc:X.calm=true)(hs:es.any bi=false)(h:QGs X es t):QG X (.Tuple es k pos) (xF K es.length t):=by
 subst hK;exact⟨zL hc h.h (gU hs).1 (gU hs).2⟩
theorem gW:OpQ X (binaryOp .Add) vS:=⟨yj⟩
theorem oG:OpQ X (binaryOp .Sub) (rI0 fun i j=> .int (i-j)):=⟨zQ⟩
theorem qC:OpQ X (binaryOp .Mult) vT:=⟨yk⟩
theorem bJ:OpQ X (binaryOp .Mod) (rI (fun _ j=>0<j) fun i j=> .int (i%j)):=⟨zR⟩
theorem dJ:OpQ X (binaryOp .FloorDiv) (rI Bq fun i j=> .int (i/j)):=⟨xH⟩
theorem dh:OpQ X (compareOp .Eq) At:=⟨Au⟩
theorem fD:OpQ X (compareOp .NotEq) Av:=⟨Aw⟩
theorem qD:OpQ X (compareOp .Lt) (rI0 fun i j=> .bl (decide (i<j))):=⟨Bs⟩
theorem tP:OpQ X (compareOp .LtE) (rI0 fun i j=> .bl (decide (i<=j))):=⟨Bt⟩
theorem AD:OpQ X (compareOp .Gt) (rI0 fun i j=> .bl (decide (j<i))):=⟨Bu⟩
theorem qE(h:X.K=K):OpQ X (compareOp .In) (yl K):=⟨AC h⟩
abbrev sk:R2:=fun x y H Q=>∃i j,x= .str i/\y= .str j/\Q (.bl (!(!(Builtin.Str.occurrences j i 0 j.length 1).isEmpty))) H
abbrev sr(K:PySem.W.Frag):R2:=fun x y H Q=>sk x y H Q\/rIn K true x y H Q
theorem yr(h:X.K=K):OpQ X (compareOp .NotIn) (sr K):=by subst h;exact⟨mP.or mO⟩
theorem dL(h:X.K=K):cJ X (.builtin "len") (fun xs H Q=>∃x n,xs=[x]/\xK K x H n/\Q (.int n) H):=⟨tL h⟩
theorem oH(h:X.K=K)(hc:X.calm=true):cJ X (.builtin "all") (fun xs H Q=>∃(p:Addr) (bs:List Bool),xs=[.ref p]/\SqL K H p (bs.map V.bl)/\Q (.bl (bs.all id)) H):=⟨tM h hc⟩
theorem zb(hc:X.calm=true):cJ X (.builtin "max") (fun xs H Q=>∃i j,xs=[.int i,.int j]/\Q (.int (if j>i then j else i)) H):=⟨sY hc⟩
theorem BB(hc:X.calm=true):cJ X (.builtin "min") (fun xs H Q=>∃i j,xs=[.int i,.int j]/\Q (.int (if j<i then j else i)) H):=⟨sZ hc⟩
theorem fE(h:X.K=K):cJ X (.builtin "isinstance") (fun xs H Q=>∃x n t b,xs=[x,.ty n]/\gQ K H x t/\kitOne K t (.type n)=some b/\Q (.bl b) H):=⟨tN h⟩
theorem zc:cJ X (.type "int") (fun xs H Q=>(∃i,xs=[.int i]/\Q (.int i) H)\/∃k,xs=[.bl k]/\Q (.int (if k then 1 else 0)) H):=⟨tf⟩
theorem eV(h:X.K=K):cJ X (.type "list") (fun xs H Q=>∃p ys,xs=[.ref p]/\(SqL K H p ys\/SqT K H p ys)/\∀l,H l=none->Q (.ref l) (upd H l (.lst ys))):=⟨qv h⟩
theorem bv:MtQ X "list.append" mR:=⟨lR⟩
theorem oI:MtQ X "list.extend" mS:=⟨tF⟩
theorem qF(h:X.K=K):MtQ X "str.join" (sj K):=⟨vU h⟩
end
open PySem PySem.Spec PyProof.Rows PySem.SeqAt
section
variable{X:Cx}{pins:List (Addr×Obj)}{σ:St}{H:Hp}{s:Shared}{h':Heap}{tk:Nat}{fp:List Addr}
theorem Inv.moved(I:Inv X pins σ H s)(hf:∀b∈fp,jI X pins H b)(kk:∀b o,b∉fp->s.heap.get? b=some o->h'.get? b=some o):Inv X pins σ H {s with heap:=h',toks:=tk}:=by
 have nit:∀b v,H b=some v->b∉fp:=fun b v e hb=>by rw[(hf b hb).1]at e;cases e
 refine I.step (g':=s.gens) (d':=s.drawn) (ch:=fp) (fun b hb=>⟨(hf b hb).2.2.2.1,(hf b hb).2.1,(hf b hb).2.2.2.2.1,(hf b hb).2.2.2.2.2⟩) (fun b o _ _ hc e _=>kk b o hc e) (fun b o _ _ hc e _=>⟨o.slots,kk b o hc e⟩) (fun _ _ _ _ n=>n)
  (fun b o hc e=>⟨o,kk b o hc e⟩) (fun _ _ e=>e) (fun _ _ _ e=>e) (fun b ps e=>⟨#[],by rw[e];simp⟩) (fun m hm=>?_) (fun b v e=>?_) I.bare
 ·obtain⟨o,es,ep,ho,r⟩:=hm;exact⟨o,es,ep,kk _ o (fun hb=>(hf _ hb).2.1 rfl) ho,r⟩
 ·refine(I.hok b v e).stay (fun c' v' hc' q=>kk c' v' ?_ q) (fun _ q=>q) fun _ _ q=>q
  rcases hc' with q'|q'
  ·rw[q'];exact nit b v e
  ·exact nit c' _ q'
theorem Inv.stood{a:Addr}{o:HO}(I:Inv X pins σ H s)(J:Inv X pins σ H {s with heap:=h',toks:=tk})(ha:s.heap.objs.size<=a)(new:br X.prog X.w (upd H a o) h' a o):Inv X pins σ (upd H a o) {s with heap:=h',toks:=tk}:=by
 have Hn:H a=none:=I.hok.fresh ha;have lt0:∀b o,X.s₀.heap.get? b=some o->b≠a:=fun b o e=>Zt (Zg (Zg (Zv e) I.sz) ha)
 refine⟨J.ok,J.os,J.bare,?_,J.loc,J.cell,?_,?_,?_,?_,J.len⟩
 ·refine⟨J.base.keep,J.base.slot,fun b o e n hx=>?_,J.base.there,fun b xs e=>?_,fun b o v e=>?_,fun b ps e=>?_⟩
  ·rw[ai (lt0 b o e)];exact J.base.free b o e n hx
  ·rw[ai (ap (J.base.tups b xs e) Hn)];exact J.base.tups b xs e
  ·rw[ai (ap (J.base.frzs b o v e) Hn)];exact J.base.frzs b o v e
  ·obtain⟨m,q⟩:=J.base.tbls b ps e;exact⟨m,by rw[ai (ap q Hn)];exact q⟩
 ·rw[ai (Zt (Zg I.lt ha))];exact J.free
 ·intro x' c' e;obtain⟨v',q⟩:=I.cell x' c' e;rw[ai (Zt (Zg q.lt ha))];exact J.freeC x' c' e
 ·intro p hp;obtain⟨e,n,r⟩:=J.pin p hp;refine⟨e,?_,r⟩;rw[ai (Zt (Zg (Zv (I.pin p hp).1) ha))];exact n
 ·intro b v e;by_cases hb:b=a
  ·subst hb;rw[aa]at e;cases e;exact new
  ·rw[ai hb]at e;refine(J.hok b v e).stay (fun _ _ _ q=>q) (fun c' q=>?_) fun c' xs q=>?_
   ·rw[ai (ap q Hn)];exact q
   ·rw[ai (ap q Hn)];exact q
end
def qG:V->List V->Hp->VK->Prop:=fun x vs H Q=>∃z y,x= .str z/\vs=[.str y]/\1<=y.length/\z.length+2<=sizeLine/\∀l,H l=none->Q (.ref l) (upd H l (.lst ((Txt.split z y).map V.str)))
theorem l9:∀(ss:List Str) (k:Nat),aC (ss.map V.str) (strsFrom k ss)
 |[],_=> .nil
 | _::r,k=> .cons ⟨_,rfl⟩ (l9 r (k+1))
theorem wa{X:Cx}:MtM X "str.split" qG:=by
 intro pins s σ H x vs v us Q I rx rv h;obtain⟨z,y,rfl,rfl,h1,hz,q⟩:=h;obtain⟨t,rfl⟩:=rx;obtain⟨u0,rfl,ru⟩:=rv.one;obtain⟨u,rfl⟩:=ru;have hy0:(y.length==0)=false:=by simp;lia
 have hsl:=split_le z y;by_cases c1:(decide (z.length<y.length)||decide (Builtin.Str.strKind z<Builtin.Str.strKind y))=true
 ·have e:Txt.split z y=[z]:=if_pos c1;rw[e]at q;exact call_meets F.slot_str_split (typeIs_str _ _ _) F.entry_str_split (F.args_str_split_2 _ _) (meets_str_split_cannot_occur z y t u c1) ⟨.ref _,_,I.lnew (ys:=[.str z]) (its:=[.str z t]) (t':=s.toks) (.cons ⟨_,rfl⟩ .nil) (by show 1<=sizeLine;decide),rfl,q _ I.fresh⟩
 ·have c1':=Bool.eq_false_iff.mpr c1;by_cases c2:(Builtin.Str.occurrences z y 0 z.length (z.length+1)).isEmpty=true
  ·have e:Txt.split z y=[z]:=(if_neg c1).trans (if_pos c2);rw[e]at q;exact call_meets F.slot_str_split (typeIs_str _ _ _) F.entry_str_split (F.args_str_split_2 _ _) (meets_str_split_not_found z y t u c1' hy0 c2) ⟨.ref _,_,I.lnew (ys:=[.str z]) (its:=[.str z t]) (t':=s.toks) (.cons ⟨_,rfl⟩ .nil) (by show 1<=sizeLine;decide),rfl,q _ I.fresh⟩
  ·have e:Txt.split z y=Builtin.Str.partsBetween z (Builtin.Str.occurrences z y 0 z.length (z.length+1)) y.length:=(if_neg c1).trans (if_neg c2);have hl2:(Builtin.Str.partsBetween z (Builtin.Str.occurrences z y 0 z.length (z.length+1)) y.length).length<=sizeLine:=by rw[<-e];lia
   refine call_meets F.slot_str_split (typeIs_str _ _ _) F.entry_str_split (F.args_str_split_2 _ _) (meets_str_split_sep z y t u c1' hy0 (Bool.eq_false_iff.mpr c2) (by lia) hl2) ?_;rw[<-e]at hl2 ⊢;exact⟨.ref _,_,I.lnew (its:=strsFrom s.toks (Txt.split z y)) (t':=s.toks+(Txt.split z y).length) (l9 _ _) (by rw[Z6];exact hl2),rfl,q _ I.fresh⟩
theorem yt{X:Cx}:MtQ X "str.split" qG:=⟨wa⟩
noncomputable def Ite(K:PySem.W.Frag)(a:Addr)(xs:List V):It:=⟨fun i H=>SqL K H a xs/\i<xs.length,fun i H v H'=>∃x T,xs[i]? =some x/\H T=none/\v= .ref T/\H'=upd H T (.tup [.int i,x]),fun i H=>SqL K H a xs/\xs.length<=i⟩
def ESt(e it a:Addr)(i:Nat)(h:Heap):Prop:=(∃old,IsEnum h e it i old)/\h.IsListIter it a i
theorem tQ{P:Program}{w:World}{K:PySem.W.Frag}{elts:List Expr}{kt:Nat}{tp:Pos}(e it a:Addr)(xs:List V)(hne:e≠it):mJ P w K (.Tuple elts kt tp) (Ite K a xs) [e,it] e (ESt e it a) where
 mem:=by simp
 obj:=fun i h st b hb=>by
  obtain⟨⟨old,he⟩,o1,e1,_,d1⟩:=st;simp only[Yq,Yy,or_false]at hb;rcases hb with rfl|rfl
  ·exact⟨_,he,fun v q=>nomatch q⟩
  ·exact⟨o1,e1,fun v q=>by rw[d1]at q;cases q⟩
 keep:=fun i h h' st k=>by
  obtain⟨⟨old,he⟩,o1,e1,r1⟩:=st;exact⟨⟨old,k e (by simp) _ he⟩,o1,k it (by simp) _ e1,r1⟩
 item:=by
  intro X hP hw hK hc i pins s σ H E I hf st hg;subst hP hw hK;obtain⟨⟨old,he⟩,hit⟩:=st;obtain⟨hq,hi⟩:SqL X.K H a xs/\i<xs.length:=hg;obtain⟨its,rv,p,hz⟩:=I.list hq;obtain⟨u,hu,ru⟩:=rv.get (i:=i) (x:=xs[i]) (by simp[hi]);refine wpAny_pyNext_enum_item he hit p.isList (x:=u) (by simpa using hu) hne fun h1 he1 hit1 ht1 hz1 hk1=>⟨_,rfl,?_⟩
  refine wpAny_letOwnedTupleGo_enum (s:={s with heap:=h1,toks:=s.toks+1}) he1 fun h2 he2 sb2=>?_
  replace sb2:SameBut e h1 h2:=sb2;have elt:e<s.heap.objs.size:=Zv he;have ilt:it<s.heap.objs.size:=by obtain⟨o,q,_⟩:=hit;exact Zv q
  have kk:∀b o,b∉[e,it]->s.heap.get? b=some o->h2.get? b=some o:=fun b o hb q=>by
   simp only[Yq,Yy,or_false,not_or]at hb;exact(sb2.2 b hb.1).trans (hk1 b o hb.1 hb.2 q)
  have J:Inv X pins σ H {s with heap:=h2,toks:=s.toks+1}:=I.moved hf kk;have hT:h2.get? s.heap.objs.size=some {cls:= .type "tuple",data:= .seq #[.int i s.toks,u]}:=(sb2.2 _ (Yu elt)).trans ht1;have I2:Inv X pins σ (upd H s.heap.objs.size (.tup [.int i,xs[i]])) {s with heap:=h2,toks:=s.toks+1}:=
   I.stood J (Zi _) ⟨by show 2<=sizeLine;decide,[.int i s.toks,u],.cons ⟨_,rfl⟩ (.cons ru .nil),_,hT,rfl,_,rfl⟩
  refine⟨.ref s.heap.objs.size,_,I2,rfl,⟨xs[i],_,by simp[hi],I.fresh,rfl,rfl⟩,⟨⟨u,by rw[Int.natCast_succ];exact he2⟩,?_⟩,fun b hb=>?_⟩
  ·obtain⟨o,q,r⟩:=hit1;exact⟨o,(sb2.2 _ (Ne.symm hne)).trans q,r⟩
  ·have:b<s.heap.objs.size:=by
    simp only[Yq,Yy,or_false]at hb;rcases hb with rfl|rfl
    ·exact elt
    ·exact ilt
   rw[ai (Zt this)];exact(hf b hb).1
 done:=by
  intro X hP hw hK hc i pins s σ H E I hf st hg;subst hP hw hK;obtain⟨⟨old,he⟩,hit⟩:=st;obtain⟨hq,hi⟩:SqL X.K H a xs/\xs.length<=i:=hg;obtain⟨its,rv,p,hz⟩:=I.list hq;have hl:=rv.length;have hh:X.A.handled=none:=I.ok.hd hc;refine wpAny_pyNext_enum_end hh he hit p.isList (by simp;lia) fun h1 xb=>⟨rfl,I.moved (fp:=[e,it]) (tk:=s.toks) hf fun b o hb q=>?_⟩
  simp only[Yq,Yy,or_false,not_or]at hb;exact xb b o hb.2 q
 self:=fun A i s Q E st h=>by
  obtain⟨⟨old,he⟩,hit⟩:=st;exact wpAny_pyIter_enum he h
def zd(K:PySem.W.Frag)(ta:TA):TI:=fun σ H R=>ta σ H fun vs H1=>∃a xs,vs=[.ref a]/\SqL K H1 a xs/\R (Ite K a xs) H1
section
variable{X:Cx}{K:PySem.W.Frag}{pos:Pos}
theorem sw{elts:List Expr}{kt:Nat}{tp p:Pos}{a:Expr}{ta:TA}(hK:X.K=K)(hg:Gl X "enumerate")(hm:X.mg "enumerate"=none)(hs:bi a=false)(ha:QA X [a] ta):
 QI X (.Tuple elts kt tp) (.Call (.Name "enumerate" p) [a] [] pos) (zd K ta):=by
 subst hK
 constructor
 intro pins s σ H R I h;refine Call_ (fK I hg hm boot_enumerate (PyProof.Rows.callWith_type1 (thn (ha.h pos pins s σ H _ I h) fun us s1 ⟨vs,H1,I1,r1,q1⟩=>?_) (ar hs) rfl));obtain⟨l,xs,e,hq,q⟩:=q1;subst e;obtain⟨u,rfl,ru⟩:=d0 r1;cases ru;obtain⟨its,rv,p,hz⟩:=I1.list hq;refine call_enumerate_list p.isList fun h1 he hit hz1 hk=>wpAny_pyIter_enum (s:={s1 with heap:=h1}) he ?_
 have J:Inv X pins σ H1 {s1 with heap:=h1}:=I1.kept (t':=s1.toks) hk;refine⟨s1.heap.objs.size+1,[s1.heap.objs.size+1,s1.heap.objs.size],ESt (s1.heap.objs.size+1) s1.heap.objs.size l,Ite X.K l xs,H1,rfl,J,tQ _ _ _ _ (Nat.succ_ne_self _),⟨⟨_,he⟩,hit⟩,fun b hb=>?_,q⟩;simp only[Yq,Yy,or_false]at hb;rcases hb with rfl|rfl
 ·exact I1.fpOk (Yc _) (I1.hok.fresh (Yc _))
 ·exact I1.fpOk (Zi _) (I1.hok.fresh (Zi _))
end
section
variable(h:Heap)(x y:Str)(t u:Tok)
noncomputable abbrev zs1:Heap:=h.push {cls:= .type (strIterType x),data:= .fields #[.str x t,.int 0 0]}
noncomputable abbrev zs2:Heap:=(zs1 h x t).push {cls:= .type (strIterType y),data:= .fields #[.str y u,.int 0 0]}
noncomputable abbrev zs3:Heap:=(zs2 h x y t u).push {cls:= .type "tuple",data:= .seq #[.ref h.objs.size,.ref (zs1 h x t).objs.size]}
noncomputable abbrev zs4:Heap:=(zs3 h x y t u).push {cls:= .type "tuple",data:= .seq #[.none,.none]}
noncomputable abbrev zs5:Heap:=(zs4 h x y t u).push {cls:= .type "zip",data:= .fields #[.none,.bool false,.bool false,.ref (zs2 h x y t u).objs.size,.ref (zs3 h x y t u).objs.size]}
end
theorem jN(x y:Str)(t u:Tok):
 Meets (Builtin.«zip.__new__» ⟨[.type "zip",.str x t,.str y u],[]⟩) (fun _ R s=>R (.ok (.ret (.ref (zs4 s.heap x y t u).objs.size))) {s with heap:=zs5 s.heap x y t u}):=
 .of_wp fun prog w A R s hR=>by
  obtain⟨hp,g,d,tk,os⟩:=s;have hsub:=PySem.sub_zip
  wp_walk using wpAny_pyIter_strU (x:=x) (t:=t),wpAny_pyIter_strU (x:=y) (t:=u)
  exact⟨_,rfl,hR⟩
section
variable{prog:Program}{w:World}{A:Around}{E:Value->Shared->Prop}{s:Shared}
theorem kq{x y:Str}{t u:Tok}{Q:Value->Shared->Prop}
 (h:∀h',IsZip h' (s.heap.objs.size+4) (s.heap.objs.size+2) (s.heap.objs.size+3) .none->IsPair h' (s.heap.objs.size+2) (.ref s.heap.objs.size) (.ref (s.heap.objs.size+1))->IsPair h' (s.heap.objs.size+3) .none .none->
  h'.IsStrIter s.heap.objs.size (strIterType x) x t 0->h'.IsStrIter (s.heap.objs.size+1) (strIterType y) y u 0->(∀c o,s.heap.get? c=some o->h'.get? c=some o)->Q (.ref (s.heap.objs.size+4)) {s with heap:=h'}):
 wpAny (model prog w) A (call (.type "zip") [.str x t,.str y u]) Q E s:=by
 refine callType_new F.called_zip (by decide) (F.typeCall_zip_2 _ _) (F.newCall_zip_2 _ _) (fun obj=>F.args_object_init_3 obj _ _) F.entry_zip_new (jN x y t u) ?_;have n1:(zs1 s.heap x t).objs.size=s.heap.objs.size+1:=Zq ..;have n2:(zs2 s.heap x y t u).objs.size=s.heap.objs.size+2:=by rw[Zq,n1]
 have n3:(zs3 s.heap x y t u).objs.size=s.heap.objs.size+3:=by rw[Zq,n2]
 have n4:(zs4 s.heap x y t u).objs.size=s.heap.objs.size+4:=by rw[Zq,n3]
 have k5:∀c o,(zs4 s.heap x y t u).get? c=some o->(zs5 s.heap x y t u).get? c=some o:=fun _ _ q=>Z7 _ q
 have k4:∀c o,(zs3 s.heap x y t u).get? c=some o->(zs5 s.heap x y t u).get? c=some o:=fun c o q=>k5 c o (Z7 _ q)
 have k3:∀c o,(zs2 s.heap x y t u).get? c=some o->(zs5 s.heap x y t u).get? c=some o:=fun c o q=>k4 c o (Z7 _ q)
 have k2:∀c o,(zs1 s.heap x t).get? c=some o->(zs5 s.heap x y t u).get? c=some o:=fun c o q=>k3 c o (Z7 _ q)
 have k1:∀c o,s.heap.get? c=some o->(zs5 s.heap x y t u).get? c=some o:=fun c o q=>k2 c o (Z7 _ q)
 have b5:(zs5 s.heap x y t u).get? (zs4 s.heap x y t u).objs.size=some _:=Zj _ rfl;have b4:(zs5 s.heap x y t u).get? (zs3 s.heap x y t u).objs.size=some _:=k5 _ _ (Zj _ rfl);have b3:(zs5 s.heap x y t u).get? (zs2 s.heap x y t u).objs.size=some _:=k4 _ _ (Zj _ rfl);have b2:(zs5 s.heap x y t u).get? (zs1 s.heap x t).objs.size=some _:=k3 _ _ (Zj _ rfl);have b1:(zs5 s.heap x y t u).get? s.heap.objs.size=some _:=k2 _ _ (Zj _ rfl);show _/\_;rw[n2,n3,n4]at b5;rw[n1,n2]at b3;rw[n3]at b4;rw[n1]at b2;rw[n4];exact⟨⟨_,b5,rfl⟩,h _ b5 b3 b4 ⟨_,b1,rfl,rfl⟩ ⟨_,b2,rfl,rfl⟩ k1⟩
end
def ze(ta:TA):TI:=fun σ H R=>ta σ H fun vs H1=>∃x y,vs=[.str x,.str y]/\R (Itz x y) H1
section
variable{X:Cx}{K:PySem.W.Frag}{pos:Pos}
theorem zf{elts:List Expr}{kt:Nat}{tp p:Pos}{a b:Expr}{ta:TA}(hg:Gl X "zip")(hm:X.mg "zip"=none)(hs:bi a=false)(hs2:bi b=false)(ha:QA X [a,b] ta):
 QI X (.Tuple elts kt tp) (.Call (.Name "zip" p) [a,b] [] pos) (ze ta):=by
 constructor
 intro pins s σ H R I h;refine Call_ (fK I hg hm boot_zip (PyProof.Rows.callWith_type1 (thn (ha.h pos pins s σ H _ I h) fun us s1 ⟨vs,H1,I1,r1,q1⟩=>?_) (ar hs) (by rw[ar hs2];rfl)));obtain⟨x,y,e,q⟩:=q1;subst e;obtain⟨u1,u2,rfl,⟨t,rfl⟩,u,rfl⟩:=jt r1;refine kq fun h1 hz hTI hTO hi1 hi2 hk=>wpAny_pyIter_zip (s:={s1 with heap:=h1}) hz ?_
 have J:Inv X pins σ H1 {s1 with heap:=h1}:=I1.kept (t':=s1.toks) hk;have ne:∀i j:Nat,i≠j->s1.heap.objs.size+i≠s1.heap.objs.size+j:=fun i j h e=>h (Nat.add_left_cancel e)
 refine⟨s1.heap.objs.size+4,[s1.heap.objs.size+4,s1.heap.objs.size+2,s1.heap.objs.size+3,s1.heap.objs.size+0,s1.heap.objs.size+1],_,Itz x y,H1,rfl,J,
  vY _ _ _ _ _ x y t u ⟨ne 2 4 (by decide),ne 3 4 (by decide),ne 0 4 (by decide),ne 1 4 (by decide),ne 2 3 (by decide),ne 2 0 (by decide),ne 2 1 (by decide),ne 3 0 (by decide),ne 3 1 (by decide),ne 0 1 (by decide)⟩,
  ⟨hz,hTI,⟨_,_,hTO⟩,hi1,hi2⟩,fun b hb=>?_,q⟩
 have hb':s1.heap.objs.size<=b:=by
  simp only[Yq,Yy,or_false]at hb;rcases hb with rfl|rfl|rfl|rfl|rfl<;> exact le_add_right _ _
 exact I1.fpOk hb' (I1.hok.fresh hb')
abbrev BC:R2:=fun x y H Q=>∃z n,x= .str z/\y= .int n/\0<=n/\n<=100000/\z.length<=100/\Q (.str (Txt.mul z n)) H
end
inductive D where
 | non|bl (b:Bool)|int (i:Int)|str (x:Str)|lst (ds:List D)|tup (ds:List D)
mutual
noncomputable def D.beq:D->D->Bool
 | .non,.non=>true
 | .bl a,.bl b=>a==b
 | .bl a,.int b=>(if a then 1 else 0)==b
 | .int a,.bl b=>a==(if b then 1 else 0)
 | .int a,.int b=>a==b
 | .str a,.str b=>a==b
 | .lst as,.lst bs=>D.beqs as bs
 | .tup as,.tup bs=>D.beqs as bs
 | _,_=>false
noncomputable def D.beqs:List D->List D->Bool
 |[],[]=>true
 | a::as,b::bs=>D.beq a b&&D.beqs as bs
 | _,_=>false
end
mutual
noncomputable def D.dep:D->Nat
 | .lst as=>D.deps as+1
 | .tup as=>D.deps as+1
 | _=>0
noncomputable def D.deps:List D->Nat
 |[]=>0
 | a::as=>max (D.dep a) (D.deps as)
end
mutual
def Has(K:PySem.W.Frag)(H:Hp):D->V->Prop
 | .non,x=>x= .non
 | .bl b,x=>x= .bl b
 | .int i,x=>x= .int i
 | .str z,x=>x= .str z
 | .lst ds,x=>∃a xs,x= .ref a/\SqL K H a xs/\bx K H ds xs
 | .tup ds,x=>∃a xs,x= .ref a/\SqT K H a xs/\bx K H ds xs
def bx(K:PySem.W.Frag)(H:Hp):List D->List V->Prop
 |[],xs=>xs=[]
 | d::ds,xs=>∃y ys,xs=y::ys/\Has K H d y/\bx K H ds ys
end
section
variable{K:PySem.W.Frag}{H H':Hp}
theorem bx.len:∀{ds:List D} {xs:List V},bx K H ds xs->ds.length=xs.length
 |[],_,h=>by simp only[bx]at h;subst h;rfl
 | d::ds,_,h=>by
   simp only[bx]at h;obtain⟨y,ys,rfl,_,h2⟩:=h;rw[Zr,Zr,bx.len h2]
theorem bx.get:∀{ds:List D} {xs:List V} {i:Nat} {x:V},bx K H ds xs->xs[i]? =some x->∃d,ds[i]? =some d/\Has K H d x
 |[],_,i,x,h,e=>by simp only[bx]at h;subst h;simp at e
 | d::ds,_,i,x,h,e=>by
   simp only[bx]at h;obtain⟨y,ys,rfl,h1,h2⟩:=h;cases i with
   | zero=>simp at e;subst e;exact⟨d,by simp,h1⟩
   | succ i=>
     obtain⟨d',q1,q2⟩:=bx.get (i:=i) h2 (by simpa using e);exact⟨d',by simpa using q1,q2⟩
theorem af.seqT{a:Addr}{xs:List V}(e:af H H')(h:SqT K H a xs):SqT K H' a xs:=by
 rcases h with(h|⟨o,h⟩)|h
 ·exact .inl (.inl (e _ _ h))
 ·exact .inl (.inr ⟨o,e _ _ h⟩)
 ·exact .inr h
mutual
theorem af.has(sm:af H H'):∀{d:D} {x:V},Has K H d x->Has K H' d x
 | .non,_,h=>by simpa only[Has]using h
 | .bl _,_,h=>by simpa only[Has]using h
 | .int _,_,h=>by simpa only[Has]using h
 | .str _,_,h=>by simpa only[Has]using h
 | .lst ds,_,h=>by
   simp only[Has]at h ⊢;obtain⟨a,xs,e,q,r⟩:=h;exact⟨a,xs,e,sm.seq q,af.hasL sm r⟩
 | .tup ds,_,h=>by
   simp only[Has]at h ⊢;obtain⟨a,xs,e,q,r⟩:=h;exact⟨a,xs,e,sm.seqT q,af.hasL sm r⟩
theorem af.hasL(sm:af H H'):∀{ds:List D} {xs:List V},bx K H ds xs->bx K H' ds xs
 |[],_,h=>by simpa only[bx]using h
 | d::ds,_,h=>by
   simp only[bx]at h ⊢;obtain⟨y,ys,e,h1,h2⟩:=h;exact⟨y,ys,e,af.has sm h1,af.hasL sm h2⟩
end
mutual
theorem D.beq_refl:∀d:D,D.beq d d=true
 | .non=>by simp[D.beq]
 | .bl _=>by simp[D.beq]
 | .int _=>by simp[D.beq]
 | .str _=>by simp[D.beq]
 | .lst ds=>by simp only[D.beq];exact D.beqs_refl ds
 | .tup ds=>by simp only[D.beq];exact D.beqs_refl ds
theorem D.beqs_refl:∀ds:List D,D.beqs ds ds=true
 |[]=>by simp[D.beqs]
 | d::ds=>by simp only[D.beqs];rw[D.beq_refl d,D.beqs_refl ds];rfl
end
theorem D.beqs_all:∀(as bs:List D),as.length=bs.length->(List.range as.length).all (fun j=>D.beq (as.getD j .non) (bs.getD j .non))=D.beqs as bs
 |[],[],_=>by simp[D.beqs]
 | a::as,b::bs,h=>by
   have ih:=D.beqs_all as bs (by simpa using h);rw[Zr,List.range_succ_eq_map,all_cons,all_map];simp only[D.beqs];rw[<-ih];rfl
theorem D.beqs_len:∀{as bs:List D},as.length≠bs.length->D.beqs as bs=false
 |[],[],h=>absurd rfl h
 |[],_::_,_=>by simp[D.beqs]
 | _::_,[],_=>by simp[D.beqs]
 | a::as,b::bs,h=>by
   simp only[D.beqs];rw[D.beqs_len (as:=as) (bs:=bs) (by simpa using h),Bool.and_false]
end
section
variable{X:Cx}{pins:List (Addr×Obj)}{σ:St}{H:Hp}{s:Shared}
theorem Inv.seq_apart(I:Inv X pins σ H s){a b:Addr}{xs ys:List V}(h:SqL X.K H a xs)(h':SqT X.K H b ys):a≠b:=by
 obtain⟨its,r,p,_⟩:=I.list h;obtain⟨its',r',p',_⟩:=I.tuple h';exact ne_of_list_tuple p.isList p'
mutual
theorem Has.inj(I:Inv X pins σ H s):∀{d e:D} {x:V},Has X.K H d x->Has X.K H e x->D.beq d e=true
 | .non,e,x,h,h'=>by
   simp only[Has]at h;subst h;cases e<;> simp only[Has]at h'<;> first|rfl|(obtain⟨_,_,q,_⟩:=h';cases q)|cases h'
   all_goals simp[D.beq]
 | .bl b,e,x,h,h'=>by
   simp only[Has]at h;subst h;cases e<;> simp only[Has]at h'<;> first|(obtain⟨_,_,q,_⟩:=h';cases q)|cases h'
   all_goals simp[D.beq]
 | .int i,e,x,h,h'=>by
   simp only[Has]at h;subst h;cases e<;> simp only[Has]at h'<;> first|(obtain⟨_,_,q,_⟩:=h';cases q)|cases h'
   all_goals simp[D.beq]
 | .str z,e,x,h,h'=>by
   simp only[Has]at h;subst h;cases e<;> simp only[Has]at h'<;> first|(obtain⟨_,_,q,_⟩:=h';cases q)|cases h'
   all_goals simp[D.beq]
 | .lst ds,e,x,h,h'=>by
   simp only[Has]at h;obtain⟨a,xs,rfl,q,r⟩:=h;cases e with
   | lst es=>
     simp only[Has]at h';obtain⟨b,ys,e,q',r'⟩:=h';cases e;have e:=I.list_inj q q';subst e;simp only[D.beq];exact bx.inj I r r'
   | tup es=>
     simp only[Has]at h';obtain⟨b,ys,e,q',r'⟩:=h';cases e;exact absurd rfl (I.seq_apart q q')
   | _=>simp only[Has]at h';cases h'
 | .tup ds,e,x,h,h'=>by
   simp only[Has]at h;obtain⟨a,xs,rfl,q,r⟩:=h;cases e with
   | tup es=>
     simp only[Has]at h';obtain⟨b,ys,e,q',r'⟩:=h';cases e;have e:=I.tuple_inj q q';subst e;simp only[D.beq];exact bx.inj I r r'
   | lst es=>
     simp only[Has]at h';obtain⟨b,ys,e,q',r'⟩:=h';cases e;exact absurd rfl (I.seq_apart q' q)
   | _=>simp only[Has]at h';cases h'
theorem bx.inj(I:Inv X pins σ H s):∀{ds es:List D} {xs:List V},bx X.K H ds xs->bx X.K H es xs->D.beqs ds es=true
 |[],es,xs,h,h'=>by
  simp only[bx]at h;subst h;cases es with
  | nil=>simp[D.beqs]
  | cons e es=>simp only[bx]at h';obtain⟨_,_,q,_⟩:=h';cases q
 | d::ds,es,xs,h,h'=>by
   simp only[bx]at h;obtain⟨y,ys,rfl,h1,h2⟩:=h;cases es with
   | nil=>simp only[bx]at h';cases h'
   | cons e es=>
     simp only[bx]at h';obtain⟨y',ys',q,h1',h2'⟩:=h';cases q;simp only[D.beqs];rw[Has.inj I h1 h1',bx.inj I h2 h2'];rfl
end
theorem iw{A:Around}{ds es:List D}{xs ys:List V}{us vs:List Value}(hx:bx X.K H ds xs)(hy:bx X.K H es ys)(rx:aC xs us)(ry:aC ys vs)
 (ih:∀(j:Nat) d e x y u v,ds[j]? =some d->es[j]? =some e->Has X.K H d x->Has X.K H e y->aA x u->aA y v->EqAt A s u v (D.beq d e)) (j:Nat) (h1:j<us.toArray.size) (h2:j<vs.toArray.size):
 EqAt A s us.toArray[j] vs.toArray[j] (D.beq (ds.getD j .non) (es.getD j .non)):=by
 have l1:j<us.length:=by simpa using h1
 have l2:j<vs.length:=by simpa using h2
 have lx:j<xs.length:=by rw[rx.length];exact l1
 have ly:j<ys.length:=by rw[ry.length];exact l2
 obtain⟨d,hd,hd'⟩:=hx.get (i:=j) (x:=xs[j]) (by simp[lx]);obtain⟨e,he,he'⟩:=hy.get (i:=j) (x:=ys[j]) (by simp[ly]);obtain⟨u,hu,ru⟩:=rx.get (i:=j) (x:=xs[j]) (by simp[lx]);obtain⟨v,hv,rv⟩:=ry.get (i:=j) (x:=ys[j]) (by simp[ly]);have eu:us.toArray[j]=u:=by
  have:us[j]? =some us[j]:=by simp[l1]
  rw[this]at hu;simpa using Za hu
 have ev:vs.toArray[j]=v:=by
  have:vs[j]? =some vs[j]:=by simp[l2]
  rw[this]at hv;simpa using Za hv
 rw[eu,ev,Zc,Zc,hd,he];exact ih j d e _ _ u v hd he hd' he' ru rv
theorem wb(I:Inv X pins σ H s){A:Around}{ds es:List D}{xs ys:List V}{a b:Addr}(qx:SqL X.K H a xs)(hx:bx X.K H ds xs)(qy:SqL X.K H b ys)(hy:bx X.K H es ys)(hu:A.units<cLine)
 (ih:∀(j:Nat) d e x y u v,ds[j]? =some d->es[j]? =some e->Has X.K H d x->Has X.K H e y->aA x u->aA y v->EqAt A.in1 s u v (D.beq d e)):RcAt A s (.ref a) (.ref b) (D.beqs ds es):=by
 obtain⟨us,rx,px,_⟩:=I.list qx;obtain⟨vs,ry,py,_⟩:=I.list qy;have n1:us.toArray.size=ds.length:=by rw[Zp,<-rx.length,hx.len]
 have n2:vs.toArray.size=es.length:=by rw[Zp,<-ry.length,hy.len]
 by_cases hl:ds.length=es.length
 ·rw[<-D.beqs_all ds es hl,<-n1];exact RcAt.lists px.isList py.isList (by rw[n1,n2,hl]) hu (iw hx hy rx ry ih)
 ·rw[D.beqs_len hl];exact RcAt.lists_lengths px.isList py.isList (by rw[n1,n2];simpa using hl) hu
theorem yv(I:Inv X pins σ H s){A:Around}{ds es:List D}{xs ys:List V}{a b:Addr}(qx:SqT X.K H a xs)(hx:bx X.K H ds xs)(qy:SqT X.K H b ys)(hy:bx X.K H es ys)(hu:A.units<cLine)
 (ih:∀(j:Nat) d e x y u v,ds[j]? =some d->es[j]? =some e->Has X.K H d x->Has X.K H e y->aA x u->aA y v->EqAt A.in1 s u v (D.beq d e)):RcAt A s (.ref a) (.ref b) (D.beqs ds es):=by
 obtain⟨us,rx,px,_⟩:=I.tuple qx;obtain⟨vs,ry,py,_⟩:=I.tuple qy;have n1:us.toArray.size=ds.length:=by rw[Zp,<-rx.length,hx.len]
 have n2:vs.toArray.size=es.length:=by rw[Zp,<-ry.length,hy.len]
 have main:=RcAt.tuples (A:=A) (s:=s) (l:=a) (b:=b) (items:=us.toArray) (items2:=vs.toArray) px py hu (iw hx hy rx ry ih);rw[n1,n2]at main;by_cases hl:ds.length=es.length
 ·rw[<-hl,Nat.min_self,D.beqs_all ds es hl]at main;simpa using main
 ·rw[D.beqs_len hl];have e:(ds.length==es.length)=false:=by simpa using hl
  rw[e,Bool.and_false]at main;exact main
theorem cv:∀{ds:List D} {j:Nat} {d:D},ds[j]? =some d->D.dep d<=D.deps ds
 |[],_,_,h=>by simp at h
 | a::as,0,d,h=>by
   simp at h;subst h;simp only[D.deps];exact Nat.le_max_left _ _
 | a::as,j+1,d,h=>by
   have:=cv (ds:=as) (j:=j) (d:=d) (by simpa using h);simp only[D.deps];exact Yd this (Nat.le_max_right _ _)
theorem oJ(I:Inv X pins σ H s):∀(n:Nat) {d e:D} {x y:V} {u v:Value} {A:Around},D.dep d<=n->A.units+n<cLine->Has X.K H d x->Has X.K H e y->aA x u->aA y v->EqAt A s u v (D.beq d e):=by
 intro n
 induction n with
 | zero=>
   intro d e x y u v A hn hu hx hy rx ry;have hu':A.units<cLine:=by lia
   cases d with
   | lst ds=>exact absurd hn (by simp[D.dep])
   | tup ds=>exact absurd hn (by simp[D.dep])
   | non=>
     simp only[Has]at hx;subst hx;cases rx;cases e with
     | non=>simp only[Has]at hy;subst hy;cases ry;simp only[D.beq];exact EqAt.same _
     | bl j=>simp only[Has]at hy;subst hy;cases ry;simp only[D.beq];exact EqAt.none_bool _
     | int j=>simp only[Has]at hy;subst hy;obtain⟨_,rfl⟩:=ry;simp only[D.beq];exact EqAt.none_int _ _
     | str j=>simp only[Has]at hy;subst hy;obtain⟨_,rfl⟩:=ry;simp only[D.beq];exact EqAt.none_str _ _
     | lst j=>simp only[Has]at hy;obtain⟨b,ys,rfl,q,_⟩:=hy;cases ry;obtain⟨vs,_,p,_⟩:=I.list q;simp only[D.beq];exact EqAt.none_list p.isList hu'
     | tup j=>simp only[Has]at hy;obtain⟨b,ys,rfl,q,_⟩:=hy;cases ry;obtain⟨vs,_,p,_⟩:=I.tuple q;simp only[D.beq];exact EqAt.none_tuple p hu'
   | bl i=>
     simp only[Has]at hx;subst hx;cases rx;cases e with
     | non=>simp only[Has]at hy;subst hy;cases ry;simp only[D.beq];exact EqAt.bool_none _
     | bl j=>simp only[Has]at hy;subst hy;cases ry;simp only[D.beq];exact EqAt.bool_bool _ _
     | int j=>simp only[Has]at hy;subst hy;obtain⟨_,rfl⟩:=ry;simp only[D.beq];exact EqAt.bool_int _ _ _
     | str j=>simp only[Has]at hy;subst hy;obtain⟨_,rfl⟩:=ry;simp only[D.beq];exact EqAt.bool_str _ _ _
     | lst j=>simp only[Has]at hy;obtain⟨b,ys,rfl,q,_⟩:=hy;cases ry;obtain⟨vs,_,p,_⟩:=I.list q;simp only[D.beq];exact EqAt.bool_list _ p.isList hu'
     | tup j=>simp only[Has]at hy;obtain⟨b,ys,rfl,q,_⟩:=hy;cases ry;obtain⟨vs,_,p,_⟩:=I.tuple q;simp only[D.beq];exact EqAt.bool_tuple _ p hu'
   | int i=>
     simp only[Has]at hx;subst hx;obtain⟨_,rfl⟩:=rx;cases e with
     | non=>simp only[Has]at hy;subst hy;cases ry;simp only[D.beq];exact EqAt.int_none _ _
     | bl j=>simp only[Has]at hy;subst hy;cases ry;simp only[D.beq];exact EqAt.int_bool _ _ _
     | int j=>simp only[Has]at hy;subst hy;obtain⟨_,rfl⟩:=ry;simp only[D.beq];exact EqAt.int_int _ _ _ _
     | str j=>simp only[Has]at hy;subst hy;obtain⟨_,rfl⟩:=ry;simp only[D.beq];exact EqAt.int_str _ _ _ _
     | lst j=>simp only[Has]at hy;obtain⟨b,ys,rfl,q,_⟩:=hy;cases ry;obtain⟨vs,_,p,_⟩:=I.list q;simp only[D.beq];exact EqAt.int_list _ _ p.isList hu'
     | tup j=>simp only[Has]at hy;obtain⟨b,ys,rfl,q,_⟩:=hy;cases ry;obtain⟨vs,_,p,_⟩:=I.tuple q;simp only[D.beq];exact EqAt.int_tuple _ _ p hu'
   | str i=>
     simp only[Has]at hx;subst hx;obtain⟨_,rfl⟩:=rx;cases e with
     | non=>simp only[Has]at hy;subst hy;cases ry;simp only[D.beq];exact EqAt.str_none _ _
     | bl j=>simp only[Has]at hy;subst hy;cases ry;simp only[D.beq];exact EqAt.str_bool _ _ _
     | int j=>simp only[Has]at hy;subst hy;obtain⟨_,rfl⟩:=ry;simp only[D.beq];exact EqAt.str_int _ _ _ _
     | str j=>simp only[Has]at hy;subst hy;obtain⟨_,rfl⟩:=ry;simp only[D.beq];exact EqAt.str_str _ _ _ _
     | lst j=>simp only[Has]at hy;obtain⟨b,ys,rfl,q,_⟩:=hy;cases ry;obtain⟨vs,_,p,_⟩:=I.list q;simp only[D.beq];exact EqAt.str_list _ _ p.isList hu'
     | tup j=>simp only[Has]at hy;obtain⟨b,ys,rfl,q,_⟩:=hy;cases ry;obtain⟨vs,_,p,_⟩:=I.tuple q;simp only[D.beq];exact EqAt.str_tuple _ _ p hu'
 | succ n ih=>
   intro d e x y u v A hn hu hx hy rx ry;by_cases h0:D.dep d<=n
   ·exact ih h0 (by lia) hx hy rx ry
   have hu':A.units<cLine:=by lia
   cases d with
   | lst ds=>
     simp only[Has]at hx;obtain⟨a,xs,rfl,q,r⟩:=hx;cases rx;have hd:D.deps ds<=n:=by simp only[D.dep]at hn;lia
     cases e with
     | lst es=>
       simp only[Has]at hy;obtain⟨b,ys,rfl,q',r'⟩:=hy;cases ry;simp only[D.beq];by_cases hab:a=b
       ·subst hab;have e:=I.list_inj q q';subst e;rw[bx.inj I r r'];exact EqAt.same _
       ·exact EqAt.of_refs hab (wb I q r q' r' hu' fun j d e x y u v hd' he' hdx hey ru rv=>ih (Yd (cv hd') hd) (by show A.units+1+n<cLine;lia) hdx hey ru rv)
     | tup es=>
       simp only[Has]at hy;obtain⟨b,ys,rfl,q',_⟩:=hy;cases ry;obtain⟨us,_,p,_⟩:=I.list q;obtain⟨vs,_,p',_⟩:=I.tuple q';simp only[D.beq];exact EqAt.list_tuple p.isList p' hu'
     | non=>simp only[Has]at hy;subst hy;cases ry;obtain⟨us,_,p,_⟩:=I.list q;simp only[D.beq];exact EqAt.list_none p.isList hu'
     | bl k=>simp only[Has]at hy;subst hy;cases ry;obtain⟨us,_,p,_⟩:=I.list q;simp only[D.beq];exact EqAt.list_bool _ p.isList hu'
     | int k=>simp only[Has]at hy;subst hy;obtain⟨t',rfl⟩:=ry;obtain⟨us,_,p,_⟩:=I.list q;simp only[D.beq];exact EqAt.list_int _ _ p.isList hu'
     | str k=>simp only[Has]at hy;subst hy;obtain⟨t',rfl⟩:=ry;obtain⟨us,_,p,_⟩:=I.list q;simp only[D.beq];exact EqAt.list_str _ _ p.isList hu'
   | tup ds=>
     simp only[Has]at hx;obtain⟨a,xs,rfl,q,r⟩:=hx;cases rx;have hd:D.deps ds<=n:=by simp only[D.dep]at hn;lia
     cases e with
     | tup es=>
       simp only[Has]at hy;obtain⟨b,ys,rfl,q',r'⟩:=hy;cases ry;simp only[D.beq];by_cases hab:a=b
       ·subst hab;have e:=I.tuple_inj q q';subst e;rw[bx.inj I r r'];exact EqAt.same _
       ·exact EqAt.of_refs hab (yv I q r q' r' hu' fun j d e x y u v hd' he' hdx hey ru rv=>ih (Yd (cv hd') hd) (by show A.units+1+n<cLine;lia) hdx hey ru rv)
     | lst es=>
       simp only[Has]at hy;obtain⟨b,ys,rfl,q',_⟩:=hy;cases ry;obtain⟨us,_,p,_⟩:=I.tuple q;obtain⟨vs,_,p',_⟩:=I.list q';simp only[D.beq];exact EqAt.tuple_list p p'.isList hu'
     | non=>simp only[Has]at hy;subst hy;cases ry;obtain⟨us,_,p,_⟩:=I.tuple q;simp only[D.beq];exact EqAt.tuple_none p hu'
     | bl k=>simp only[Has]at hy;subst hy;cases ry;obtain⟨us,_,p,_⟩:=I.tuple q;simp only[D.beq];exact EqAt.tuple_bool _ p hu'
     | int k=>simp only[Has]at hy;subst hy;obtain⟨t',rfl⟩:=ry;obtain⟨us,_,p,_⟩:=I.tuple q;simp only[D.beq];exact EqAt.tuple_int _ _ p hu'
     | str k=>simp only[Has]at hy;subst hy;obtain⟨t',rfl⟩:=ry;obtain⟨us,_,p,_⟩:=I.tuple q;simp only[D.beq];exact EqAt.tuple_str _ _ p hu'
   | _=>exact absurd (X7 n) h0
end
open PySem PySem.Spec PyProof.Rows PySem.SeqAt
theorem qH{X:Cx}{i:Nat}{x:Str}{px pos':Pos}{tg iter elt:Expr}{ifs:List Expr}{scope:Scope}{pos:Pos}{N':List Str}{cap:List (Nat×Nat)}{wi:TI}{g:TG}{tc:TT}{te:TE}(hN:X.N.Nodup)(hxi:X.N[i]? =some x)(hx:Loc X.env.scope x)(hf:X.fn x=true\/X.env.scope.names.lookup x=some .local)
 (hsw:swapsWith (.ListComp elt [⟨tg,iter,ifs,0⟩] scope pos) (some (.Name x px)) pos'.line X.env=pure true) (S:ax X scope N' cap) (hc:X.calm=true) (hs:∀x,foldedSetIterable iter X.env x=pure x) (hi:PI X tg iter wi)
 (hg:∀s₃ H₃ fp,PG (aY X scope N' s₃ H₃ fp) tg g) (ht:∀s₃ H₃ fp,PTs (aY X scope N' s₃ H₃ fp) ifs tc) (he:∀s₃ H₃ fp,PE (aY X scope N' s₃ H₃ fp) elt te):
 PS X (.Assign [.Name x px] (.ListComp elt [⟨tg,iter,ifs,0⟩] scope pos) pos') (oo (lV wi N'.length cap g tc te) (js i)):=by
 intro pins s σ H D I h;rw[arm_exec_Assign];refine Z2 (wpAny_standAt ?_);show wpAny _ _ (swapsWith (.ListComp elt [⟨tg,iter,ifs,0⟩] scope pos) (some (.Name x px)) pos'.line X.env>>= _) _ _ _;rw[hsw];refine Z2 (Z3 ?_);rw[if_pos rfl,arm_evalThenUse_ListComp];refine Z2 (Z2 (lW (QQ:=fun _ s'=>wpAny (model X.prog X.w) X.A (pure ()) (fun _ s2=>wpAny (model X.prog X.w) X.A (pure Flow.next) (SP X pins D) X.xe s2) X.xe s') S hc hi hg ht he hs I h fun D' C H5 s6 fl m hn fp k q=>?_));have I6:Inv X pins σ H5 s6:=k s6.heap (SameBut.refl _ _);obtain⟨o,es,ep,ho,hd,hr⟩:=id hn;have I7:Inv X (pins++iU [C] s6.heap) σ H5 s6:=I6.pinned (fun b hb=>by rw[Xh hb];exact fp) fun b hb=>by
  rw[Xh hb];exact⟨o,ho,fun v z=>by rw[hd]at z;cases z⟩
 show wpAny _ _ (assignAll (.ref D') [assign (.Name x px) X.env]) _ _ _;show wpAny _ _ (assign (.Name x px) X.env (.ref D')) _ _ _;refine wpAny_assign_Name (j7 I7 hN hxi hx (v:= .ref D') (u:= .ref D') rfl (fun s8 I8=>?_) hf);have hC:s8.heap.get? C=some o:=(I8.pin (C,o) (Yp _ (Yp _ (dF (mem_singleton.mpr rfl) ho)))).1;refine⟨m,⟨o,es,ep,hC,hd,hr⟩,fun h' sb=>?_⟩;refine Z3 (Z3 ⟨_,H5,?_,q⟩);refine(I8.unpinned).moved (fp:=[C]) (tk:=s8.toks) (fun b hb=>by rw[Xh hb];exact fp) fun b o' hb e=>(sb.2 b (fun z=>hb (mem_singleton.mpr z))).trans e
theorem tR{elt:Expr}{gens:List Comprehension}{scope:Scope}{pos px:Pos}{x:Str}{l:Nat}{env:Env}(h:(env.blockKind== .function&&env.kindOf x==some .local&&px.line==pos.line&&!(scope.names.any fun(n,k)=>n==x&&(k== .local||k== .cell)))=true):
 swapsWith (.ListComp elt gens scope pos) (some (.Name x px)) l env=pure true:=by
 show(pure (env.blockKind== .function&&env.kindOf x==some .local&&px.line==pos.line&&!(scope.names.any fun(n,k)=>n==x&&(k== .local||k== .cell))):Sem Bool)=pure true;rw[h]
theorem kr{X:Cx}(i:Nat){x:Str}{px pos':Pos}{tg iter elt:Expr}{ifs:List Expr}{scope:Scope}{pos:Pos}{N':List Str}{cap:List (Nat×Nat)}{wi:TI}{g:TG}{tc:TT}{te:TE}(hN:X.N.Nodup)(hxi:X.N[i]? =some x)(hx:Loc X.env.scope x)(hf:X.fn x=true\/X.env.scope.names.lookup x=some .local)
 (hsw:(X.env.blockKind== .function&&X.env.kindOf x==some .local&&px.line==pos.line&&!(scope.names.any fun(n,k)=>n==x&&(k== .local||k== .cell)))=true) (S:ax X scope N' cap) (hc:X.calm=true) (hs:kl iter=false) (hi:QI X tg iter wi)
 (hg:∀s₃ H₃ fp,QG (aY X scope N' s₃ H₃ fp) tg g) (ht:∀s₃ H₃ fp,QTs (aY X scope N' s₃ H₃ fp) ifs tc) (he:∀s₃ H₃ fp,QE (aY X scope N' s₃ H₃ fp) elt te):
 QS X (.Assign [.Name x px] (.ListComp elt [⟨tg,iter,ifs,0⟩] scope pos) pos') (oo (lV wi N'.length cap g tc te) (js i)):=
 ⟨qH hN hxi hx hf (tR hsw) S hc (iZ hs) hi.h (fun s₃ H₃ fp=>(hg s₃ H₃ fp).h) (fun s₃ H₃ fp=>(ht s₃ H₃ fp).h) (fun s₃ H₃ fp=>(he s₃ H₃ fp).h)⟩
section
variable{X:Cx}{pins:List (Addr×Obj)}{σ:St}{H:Hp}{s:Shared}
theorem wc(I:Inv X pins σ H s){A:Around}{ds es:List D}{xs ys:List V}{a b:Addr}(qx:SqL X.K H a xs)(hx:bx X.K H ds xs)(qy:SqL X.K H b ys)(hy:bx X.K H es ys)(hu:A.units<cLine)
 (ih:∀(j:Nat) d e x y u v,ds[j]? =some d->es[j]? =some e->Has X.K H d x->Has X.K H e y->aA x u->aA y v->EqAt A.in1 s u v (D.beq d e)):RcNeAt A s (.ref a) (.ref b) (!D.beqs ds es):=by
 obtain⟨us,rx,px,_⟩:=I.list qx;obtain⟨vs,ry,py,_⟩:=I.list qy;have n1:us.toArray.size=ds.length:=by rw[Zp,<-rx.length,hx.len]
 have n2:vs.toArray.size=es.length:=by rw[Zp,<-ry.length,hy.len]
 by_cases hl:ds.length=es.length
 ·rw[<-D.beqs_all ds es hl,<-n1];exact RcNeAt.lists px.isList py.isList (by rw[n1,n2,hl]) hu (iw hx hy rx ry ih)
 ·rw[D.beqs_len hl];exact RcNeAt.lists_lengths px.isList py.isList (by rw[n1,n2];simpa using hl) hu
theorem yw(I:Inv X pins σ H s){A:Around}{ds es:List D}{xs ys:List V}{a b:Addr}(qx:SqT X.K H a xs)(hx:bx X.K H ds xs)(qy:SqT X.K H b ys)(hy:bx X.K H es ys)(hu:A.units<cLine)
 (ih:∀(j:Nat) d e x y u v,ds[j]? =some d->es[j]? =some e->Has X.K H d x->Has X.K H e y->aA x u->aA y v->EqAt A.in1 s u v (D.beq d e)):RcNeAt A s (.ref a) (.ref b) (!D.beqs ds es):=by
 obtain⟨us,rx,px,_⟩:=I.tuple qx;obtain⟨vs,ry,py,_⟩:=I.tuple qy;have n1:us.toArray.size=ds.length:=by rw[Zp,<-rx.length,hx.len]
 have n2:vs.toArray.size=es.length:=by rw[Zp,<-ry.length,hy.len]
 have main:=RcNeAt.tuples (A:=A) (s:=s) (l:=a) (b:=b) (items:=us.toArray) (items2:=vs.toArray) px py hu (iw hx hy rx ry ih);rw[n1,n2]at main;by_cases hl:ds.length=es.length
 ·rw[<-hl,Nat.min_self,D.beqs_all ds es hl]at main;simpa using main
 ·rw[D.beqs_len hl];have e:(ds.length==es.length)=false:=by simpa using hl
  rw[e,Bool.and_false]at main;exact main
end
section
variable{X:Cx}{K:PySem.W.Frag}
abbrev BD(K:PySem.W.Frag):R2:=fun x y H Q=>∃ds es,Has K H (.lst ds) x/\Has K H (.lst es) y/\D.deps ds<=40/\Q (.bl (D.beqs ds es)) H
abbrev BE(K:PySem.W.Frag):R2:=fun x y H Q=>∃ds es,Has K H (.tup ds) x/\Has K H (.tup es) y/\D.deps ds<=40/\Q (.bl (D.beqs ds es)) H
abbrev AE(K:PySem.W.Frag):R2:=fun x y H Q=>∃ds es,Has K H (.lst ds) x/\Has K H (.lst es) y/\D.deps ds<=40/\Q (.bl (!D.beqs ds es)) H
abbrev AF(K:PySem.W.Frag):R2:=fun x y H Q=>∃ds es,Has K H (.tup ds) x/\Has K H (.tup es) y/\D.deps ds<=40/\Q (.bl (!D.beqs ds es)) H
theorem AG(hu:X.A.units+64<cLine):OpR X (compareOp .NotEq) (AE X.K):=by
 intro pins s σ H x y v u Q I rx ry h;obtain⟨ds,es,hx,hy,hd,q⟩:=h;simp only[Has]at hx hy;obtain⟨a,xs,rfl,qx,hx⟩:=hx;obtain⟨b,ys,rfl,qy,hy⟩:=hy;cases rx;cases ry;exact wc I qx hx qy hy (by lia) (fun j d e x y u v hd' he' hdx hey ru rv=>oJ I 40 (Yd (cv hd') hd) (by show X.A.units+1+40<cLine;lia) hdx hey ru rv) _ _ _ _ ⟨.bl _,H,I,rfl,q⟩
theorem AH(hu:X.A.units+64<cLine):OpR X (compareOp .NotEq) (AF X.K):=by
 intro pins s σ H x y v u Q I rx ry h;obtain⟨ds,es,hx,hy,hd,q⟩:=h;simp only[Has]at hx hy;obtain⟨a,xs,rfl,qx,hx⟩:=hx;obtain⟨b,ys,rfl,qy,hy⟩:=hy;cases rx;cases ry;exact yw I qx hx qy hy (by lia) (fun j d e x y u v hd' he' hdx hey ru rv=>oJ I 40 (Yd (cv hd') hd) (by show X.A.units+1+40<cLine;lia) hdx hey ru rv) _ _ _ _ ⟨.bl _,H,I,rfl,q⟩
abbrev rEqB(K:PySem.W.Frag):R2:=fun x y H Q=>rEq x y H Q\/(BD K x y H Q\/BE K x y H Q)
abbrev BF(K:PySem.W.Frag):R2:=fun x y H Q=>rNe x y H Q\/(AE K x y H Q\/AF K x y H Q)
theorem BG{k:Nat}(h:X.K=K)(hr:b8 k X.A):OpQ X (compareOp .NotEq) (BF K):=by subst h;exact⟨y6.or ((AG hr.units).or (AH hr.units))⟩
end
open PySem PySem.Spec PyProof.Rows
theorem bj:Slot "set_iterator" "__next__" "set_iterator.__next__":=
 .of (owner:="set_iterator") (n:="__next__") (by rw[typeLookup_type,builtinLookup_eq_fast];kernel_rfl) (by decide +kernel) (by decide +kernel) (by decide +kernel) (by first|exact .inl (by decide +kernel)|exact .inr (by decide +kernel)) (by rw[isSubtype_type];kernel_rfl)
theorem eJ:entryFor table "set_iterator.__next__"=some Builtin.«set_iterator.__next__»:=entryFor_of_tree (by kernel_rfl)
theorem fF(a:Value):argsOk "set_iterator.__next__" ⟨[a],[]⟩:=by unfold argsOk;kernel_rfl
theorem gN:entryFor table "set.__iter__"=some Builtin.«frozenset.__iter__»:=entryFor_alias (id':="frozenset.__iter__") (by kernel_rfl) rfl (by decide +kernel) (by kernel_rfl)
theorem lv(t:SetTable)(n:Nat):(t.orStandIn n).led=t.led:=by unfold SetTable.orStandIn;split<;> rfl
theorem qI(t:SetTable)(es:Array (Int×Value))(h:Int)(x:Value):(layNew t es h x).2.1.led=t.led:=by
 unfold layNew;cases t.freeSlot h with
 | none=>rfl
 | some p=>
   obtain⟨sl,d⟩:=p;exact lv (t.put sl).1 _
theorem mY(t:SetTable)(es:Array (Int×Value))(n:Nat):(relayAll t es n).2.1.led=t.led:=by
 unfold relayAll;cases hr:t.relaid (es.map (·.1)) n with
 | none=>rfl
 | some p=>
   obtain⟨t',ord⟩:=p;simp only
   split
   ·simp only[SetTable.relaid,SetTable.laid]at hr;cases hc:SetTable.layClean (SetTable.sizeAbove n-1) (es.map (·.1))with
    | none=>rw[hc]at hr;cases hr
    | some ow=>rw[hc]at hr;injection hr with hr;injection hr with h1 h2;rw[<-h1]
   ·rfl
theorem kx(t:SetTable)(es:Array (Int×Value))(n:Nat)(hp:t.plain=false):(relayAll t es n).2.1.plain=false:=by
 unfold relayAll;cases hr:t.relaid (es.map (·.1)) n with
 | none=>rfl
 | some p=>
   obtain⟨t',ord⟩:=p;simp only
   split
   ·simp only[SetTable.relaid,SetTable.laid]at hr;cases hc:SetTable.layClean (SetTable.sizeAbove n-1) (es.map (·.1))with
    | none=>rw[hc]at hr;cases hr
    | some ow=>rw[hc]at hr;injection hr with hr;injection hr with h1 h2;rw[<-h1];exact hp
   ·rfl
noncomputable def aI(w:World):Bool:=w.params.followText "set-order"
def dn(w:World)(a:Addr)(ks:List Str)(h:Heap):Prop:=
 ∃o es ep t ss,h.get? a=some o/\o.ExactSet/\o.data= .set es ep t/\StrsAre (es.toList.map (·.2)) ss/\ss.Perm ks/\ks.Nodup/\(∀e∈es.toList,∃z u,e=(hashStr w z,.str z u))/\es.size<scanBound/\t.fits es.size=true/\(es.size≠0->t.plain=false)/\t.led=!aI w
theorem tT{prog:Program}{w:World}{l:List (Int×Value)}(h:∀e∈l,∃z u,e=(hashStr w z,.str z u)):ElemsOf (aB prog w) l:=fun e he=>by
 obtain⟨z,u,rfl⟩:=h e he;exact⟨⟨Sum.inr z,eE z u,rfl⟩,rfl⟩
theorem jA:∀{vs:List Value} {ss:List Str} {z:Str},StrsAre vs ss->((∃u,Value.str z u∈vs)↔z∈ss)
 | _,_,z,.nil=>by simp
 | _,_,z,.cons x t h=>by
   have ih:=jA (z:=z) h
   constructor
   ·rintro⟨u,hu⟩;rcases mem_cons.mp hu with e|e
    ·injection e with e1 _;rw[e1];exact Zm
    ·exact Zk _ (ih.mp ⟨u,e⟩)
   ·intro hz;rcases mem_cons.mp hz with e|e
    ·rw[e];exact⟨t,Zm⟩
    ·obtain⟨u,hu⟩:=ih.mpr e;exact⟨u,Zk _ hu⟩
theorem fV:∀{vs ws:List Value} {ss ts:List Str},StrsAre vs ss->StrsAre ws ts->StrsAre (vs++ws) (ss++ts)
 | _,_,_,_,.nil,h=>h
 | _,_,_,_,.cons x t h,h'=> .cons x t (fV h h')
theorem ce:∀{vs:List Value} {ss:List Str},StrsAre vs ss->vs.length=ss.length
 | _,_,.nil=>rfl
 | _,_,.cons x t h=>by rw[Zr,Zr,ce h]
theorem dq{vs ws:List Value}{ss:List Str}(h:StrsAre vs ss)(p:ws.Perm vs):∃ts,StrsAre ws ts/\ts.Perm ss:=by
 refine⟨ws.map strOf,strsAre_map ws fun v hv=>h.all v (p.mem_iff.mp hv),?_⟩;have:=p.map strOf;rwa[h.strs]at this
section
variable{prog:Program}{w:World}{A:Around}{E:Value->Shared->Prop}{s:Shared}{a:Addr}
theorem dn.stored{h:Heap}{o:Obj}{es es':Array (Int×Value)}{ep:Nat}{t t':SetTable}{ss ks:List Str}(ho:h.get? a=some o)(hex:o.ExactSet)(hd:o.data= .set es ep t)(h1:StrsAre (es'.toList.map (·.2)) ss)(h2:ss.Perm ks)(h3:ks.Nodup)
 (h4:∀e∈es'.toList,∃z u,e=(hashStr w z,.str z u)) (h5:es'.size<scanBound) (h6:t'.fits es'.size=true) (h7:t'.plain=false) (h8:t'.led=!aI w):
 (h.update a (Obj.putSet es' t')).get? a=some {o with data:= .set es' (ep+1) t'}/\dn w a ks (h.update a (Obj.putSet es' t')):=by
 have hg:(h.update a (Obj.putSet es' t')).get? a=some {o with data:= .set es' (ep+1) t'}:=by
  have q:=get?_update_self (Obj.putSet es' t') ho (by rw[putSet_of es' t' hd];rfl);rwa[putSet_of es' t' hd]at q
 exact⟨hg,_,es',ep+1,t',ss,hg,hex,rfl,h1,h2,h3,h4,h5,h6,fun _=>h7,h8⟩
theorem oK{g:Bool->Sem Unit}(hg:∀(b:Bool) (s₁:Shared) (Q':Unit->Shared->Prop),Q' () s₁->wpAny (model prog w) A (g b) Q' E s₁){o:Obj}{es es1:Array (Int×Value)}{ep:Nat}{t t2:SetTable}{ss ks:List Str}{dum:Bool}{R:Option Bool->Shared->Prop}(ho:s.heap.get? a=some o)(hex:o.ExactSet)(hd:o.data= .set es ep t)
 (h1:StrsAre (es1.toList.map (·.2)) ss) (h2:ss.Perm ks) (h3:ks.Nodup) (h4:∀e∈es1.toList,∃z u,e=(hashStr w z,.str z u)) (h5:es1.size<scanBound) (h6:t2.fits es1.size=true) (h7:t2.plain=false) (h8:t2.led=!aI w)
 (hR:∀h',SameBut a s.heap h'->dn w a ks h'->R (some true) {s with heap:=h'}):
 wpAny (model prog w) A (do
  storeSet a es1 t2
  if(!dum&&t2.tooFull)=true then do
   g (relayAll t2 es1 (SetTable.grown es1.size)).2.2
   storeSet a (relayAll t2 es1 (SetTable.grown es1.size)).1 (relayAll t2 es1 (SetTable.grown es1.size)).2.1
   pure (some true)
  else pure (some true)) R E s:=by
 obtain⟨g1,S1⟩:=dn.stored (w:=w) (es':=es1) (t':=t2) ho hex hd h1 h2 h3 h4 h5 h6 h7 h8;have b1:=SameBut.update s.heap a (Obj.putSet es1 t2);refine Z2 (wpAny_storeSet_of ho hd ?_ (fits_of_scanBound h5))
 split
 ·have p:=relayAll_perm t2 es1 (SetTable.grown es1.size);have f:=relayAll_fits t2 es1 (SetTable.grown es1.size);have l:=mY t2 es1 (SetTable.grown es1.size);have pl:=kx t2 es1 (SetTable.grown es1.size) h7
  generalize relayAll t2 es1 (SetTable.grown es1.size)=L at p f l pl ⊢
  obtain⟨es2,t3,gv⟩:=L;dsimp only at p f l pl ⊢;have z:es2.size=es1.size:=by rw[<-Zb,p.length_eq,Zb]
  obtain⟨ts,q1,q2⟩:=dq h1 (p.map (·.2));refine Z2 (hg _ _ _ (Z2 (wpAny_storeSet_of (s:={s with heap:=s.heap.update a (Obj.putSet es1 t2)}) g1 rfl ?_ (fits_of_scanBound (by rw[z];exact h5)))));exact Z3 (hR _ (b1.trans (SameBut.update _ a _)) (dn.stored (w:=w) (es':=es2) (t':=t3) g1 hex rfl q1 (q2.trans h2) h3 (fun e he=>h4 e (p.mem_iff.mp he)) (by rw[z];exact h5) f pl (l.trans h8)).2)
 ·exact Z3 (hR _ b1 S1)
theorem oM{ks:List Str}{z:Str}{tk:Tok}{Q:Bool->Shared->Prop}(hS:dn w a ks s.heap)(hroom:ks.length+1<scanBound)
 (hQ:∀h' b,SameBut a s.heap h'->dn w a (if z∈ks then ks else ks++[z]) h'->Q b {s with heap:=h',toks:=s.toks+1}):wpAny (model prog w) A (setAdd a (.str z tk)) Q E s:=by
 obtain⟨o,es,ep,t,ss,ho,hex,hd,hst,hp,hnd,hel,hb,hf,hpl,hled⟩:=hS;have hn:es.size=ks.length:=by
  have q:=ce hst;rw[Z6,Zb,hp.length_eq]at q;exact q
 have hE:ElemsOf (aB prog w) es.toList:=tT hel;have hkey:(aB prog w).is (Sum.inr z) (.str z tk)=true:=eE z tk;unfold setAdd;refine wpAny_holding (Z2 (wpAny_pyHash_str ?_));unfold setAddHashed setAddHashedIn;refine wpAny_holding (Z2 (wpAny_setState_of (s:={s with toks:=s.toks+1}) ho hd hf ?_));dsimp only;rw[byScan_of (knd:=aB prog w) rfl hb hE];simp only[↓reduceIte];unfold setAddByScan;refine Z2 (Z2 (wpAny_rule (Z2 (wpAny_setScan_of (knd:=aB prog w) (k:=Sum.inr z) hkey ho hd hf hE ?_))));have hin:(∃e∈es.toList,(aB prog w).is (Sum.inr z) e.2=true)↔z∈ks:=by
  rw[<-hp.mem_iff,<-jA hst]
  constructor
  ·rintro⟨e,he,q⟩;obtain⟨y,u,rfl⟩:=hel e he;have q:jq (Sum.inr z) (Value.str y u)=true:=q;rcases bd q with⟨i,t',q1,q2⟩|⟨y',t',q1,q2⟩
   ·cases q2
   ·cases q1;exact⟨u,Xj ⟨_,he,by injection q2 with e1 _;rw[e1]⟩⟩
  ·rintro⟨u,hu⟩;obtain⟨e,he,q⟩:=Xi hu;exact⟨e,he,by rw[q];exact eE z u⟩
 cases hr:List.findIdx? (fun e=>(aB prog w).is (Sum.inr z) e.2) es.toList with
 | some j=>
   obtain⟨hj,hpj,_⟩:=List.findIdx?_eq_some_iff_getElem.mp hr;have hz:z∈ks:=hin.mp ⟨es.toList[j],Ya hj,hpj⟩;dsimp only;have q:=hQ s.heap false (SameBut.refl a s.heap) (by rw[if_pos hz];exact⟨o,es,ep,t,ss,ho,hex,hd,hst,hp,hnd,hel,hb,hf,hpl,hled⟩);exact Z3 (Z3 q)
 | none=>
   have hz:z∉ks:=fun q=>by
    obtain⟨e,he,q2⟩:=hin.mpr q;have:=List.findIdx?_eq_none_iff.mp hr e he;rw[q2]at this;cases this
   rw[if_neg hz]at hQ;dsimp only;have lp:=layNew_perm t es (hashStr w z) (.str z tk);have lf:=layNew_fits t es (hashStr w z) (.str z tk);have ll:=qI t es (hashStr w z) (.str z tk)
   generalize hL:layNew t es (hashStr w z) (.str z tk)=L at lp lf ll
   obtain⟨es1,t1,dum,gave⟩:=L;dsimp only at lp lf ll ⊢;rw[X6]at lp;have gone:∀(b:Bool) (s₁:Shared) (Q':Unit->Shared->Prop),Q' () s₁->wpAny (model prog w) A (match b with|true=>rule "set.scan.the-table-gave-way"|false=>pure ()) Q' E s₁:=fun b s₁ Q' q=>by
    cases b
    ·exact Z3 q
    ·exact wpAny_rule q
   have hel1:∀e∈es1.toList,∃z u,e=(hashStr w z,.str z u):=fun e he=>by
    rcases Xg (lp.mem_iff.mp he)with q|q
    ·exact hel e q
    ·rw[Xh q];exact⟨z,tk,rfl⟩
   have q1:StrsAre ((es.toList++[(hashStr w z,Value.str z tk)]).map (·.2)) (ss++[z]):=by
    rw[Zd];exact fV hst (.cons z tk .nil)
   obtain⟨ts,q2,q3⟩:=dq q1 (lp.map (·.2));have hp1:ts.Perm (ks++[z]):=q3.trans (hp.append_right _);have hnd1:(ks++[z]).Nodup:=jW hnd hz;have hz1:es1.size=es.size+1:=by rw[<-Zb,lp.length_eq,Z9,Zb];rfl
   have hb1:es1.size<scanBound:=by rw[hz1,hn];exact hroom
   have fin:∀h',SameBut a s.heap h'->dn w a (ks++[z]) h'->wpAny (model prog w) A (pure true) Q E {s with heap:=h',toks:=s.toks+1}:=fun h' sb S'=>Z3 (hQ h' true sb S')
   refine Z2 (gone _ _ _ ?_);cases hpl1:t1.plain with
   | true=>
     simp only[↓reduceIte];refine Z2 ?_;rw[show hashByValue 8 (Value.str z tk)=pure false from rfl];refine Z3 ?_;simp only[Y1,↓reduceIte];exact oK (s:={s with toks:=s.toks+1}) gone ho hex hd q2 hp1 hnd1 hel1 hb1 (SetTable.fits_plain_off lf) rfl (ll.trans hled) fun h' sb S'=>fin h' sb S'
   | false=>
     simp only[Y1,↓reduceIte];refine Z2 (Z3 ?_);simp only[↓reduceIte];exact oK (s:={s with toks:=s.toks+1}) gone ho hex hd q2 hp1 hnd1 hel1 hb1 lf hpl1 (ll.trans hled) fun h' sb S'=>fin h' sb S'
end
open PySem PySem.Spec PyProof.Rows
noncomputable def jO(ks:List Str)(z:Str):List Str:=if z∈ks then ks else ks++[z]
noncomputable def aE(ss:List Str):List Str:=ss.foldl jO []
theorem we(ks:List Str)(z:Str):(jO ks z).length<=ks.length+1:=by
 unfold jO;split
 ·lia
 ·rw[Z9];exact Zi _
theorem wg{ks:List Str}{z y:Str}:y∈jO ks z↔y∈ks\/y=z:=by
 unfold jO;by_cases h:z∈ks
 ·rw[if_pos h];exact⟨.inl,fun q=>q.elim id fun e=>e▸h⟩
 ·rw[if_neg h,mem_append,mem_singleton]
theorem qJ{ks:List Str}{z:Str}(h:ks.Nodup):(jO ks z).Nodup:=by
 unfold jO;by_cases hz:z∈ks
 ·rw[if_pos hz];exact h
 ·rw[if_neg hz];exact jW h hz
theorem oN:∀{ss ks:List Str} {y:Str},y∈ss.foldl jO ks↔y∈ks\/y∈ss
 |[],ks,y=>by simp
 | z::r,ks,y=>by
   rw[Y4,oN,wg,Yq];exact⟨fun h=>h.elim (fun h=>h.elim .inl fun e=> .inr (.inl e)) fun h=> .inr (.inr h),fun h=>h.elim (fun h=> .inl (.inl h)) fun h=>h.elim (fun e=> .inl (.inr e)) .inr⟩
theorem kz:∀{ss ks:List Str},ks.Nodup->(ss.foldl jO ks).Nodup
 |[],_,h=>h
 | z::r,ks,h=>by
   rw[Y4];exact kz (qJ h)
theorem dr{ss:List Str}{y:Str}:y∈aE ss↔y∈ss:=by unfold aE;rw[oN];simp
theorem fW(ss:List Str):(aE ss).Nodup:=kz nodup_nil
theorem oO:∀(ss ks:List Str),(ss.foldl jO ks).length<=ks.length+ss.length
 |[],ks=>by simp
 | z::r,ks=>by
   have h1:=oO r (jO ks z);have h2:=we ks z;rw[Y4,Zr]
   lia
theorem dn.keep{w:World}{a:Addr}{ks:List Str}{h h':Heap}(S:dn w a ks h)(k:∀o,h.get? a=some o->h'.get? a=some o):dn w a ks h':=by
 obtain⟨o,es,ep,t,ss,ho,r⟩:=S;exact⟨o,es,ep,t,ss,k o ho,r⟩
theorem oP(val:Nat->Str)(i:Nat):aE ((List.range (i+1)).map val)=jO (aE ((List.range i).map val)) (val i):=by
 unfold aE;rw[range_succ,Zd,List.foldl_append];rfl
section
variable{prog:Program}{w:World}{A:Around}{R:Result->Shared->Prop}{I:Addr}{fp wr:List Addr}{G:Array GenState->Array GenState->Prop}{n:Nat}{P:Nat->Value->Prop}{St:Nat->Shared->Prop}
theorem lw(W:WalksS prog w A.in1 I fp wr G n P St)(S:Addr)(hSf:S∉fp)(val:Nat->Str)(hval:∀i v,P i v->∃t,v= .str (val i) t)(hb:n+1<scanBound):
 ∀(k i:Nat) (s:Shared),n-i=k->i<=n->St i s->dn w S (aE ((List.range i).map val)) s.heap->
  (∀s',Moved (S::wr) G s s'->dn w S (aE ((List.range n).map val)) s'.heap->R (.ok (.ret .none)) s')->codeAny (model prog w) A (.builtin "set.update.loop" ⟨[.ref S,.ref I],[]⟩) R s:=by
 have out:S∉wr:=fun h=>hSf (W.sub _ h)
 have more:∀b∈wr,b∈S::wr:=fun b hb=>Zk _ hb
 intro k
 induction k with
 | zero=>
   intro i s hk hi st hS fin;have e:i=n:=by lia
   subst e;refine codeAny_builtin F.entry_set_update_loop ?_;rw[Around.under_plainId F.plain_set_update_loop _];show wpAny _ A.in1 (pyNext (.ref I)>>= _) _ _ s;refine Z2 (W.done s _ _ st fun s1 m1=>?_);show wpAny _ A.in1 (ret Value.none) _ _ s1;exact Z3 (fin s1 (m1.mono more) (hS.keep fun o e=>m1.heap S o out e))
 | succ k ih=>
   intro i s hk hi st hS fin;have lt:i<n:=by lia
   refine codeAny_builtin F.entry_set_update_loop ?_;rw[Around.under_plainId F.plain_set_update_loop _];show wpAny _ A.in1 (pyNext (.ref I)>>= _) _ _ s;refine Z2 (W.item i s _ _ lt st fun v s1 pv st1 m1=>?_);obtain⟨t,rfl⟩:=hval i v pv;have hS1:=hS.keep (h':=s1.heap) fun o e=>m1.heap S o out e
   have room:(aE ((List.range i).map val)).length+1<scanBound:=by
    have q:=oO ((List.range i).map val) [];rw[Z6,Yg]at q;unfold aE;simp only[length_nil,zero_add]at q
    lia
   show wpAny _ A.in1 (holding [Value.str (val i) t] (setAdd S (.str (val i) t))>>= _) _ _ s1;refine Z2 (wpAny_holding (oM hS1 room fun h2 b sb hS2=>?_));have hS2':dn w S (aE ((List.range (i+1)).map val)) h2:=by rw[oP];exact hS2
   refine Z3 ⟨plainId_quiet F.plain_set_update_loop _,ih (i+1) _ (by lia) lt (W.frame _ s1 _ _ st1 (Yc _) fun b hb o e=>?_) hS2' fun s3 m3 hS3=>?_⟩
   ·rw[sb.2 b (fun q:b=S=>hSf (q▸hb))];exact e
   ·refine fin s3 (Moved.trans W.gtrans ((m1.mono more).then_heap (Yc _) fun b o hb e=>?_) m3) hS3;rw[sb.2 b (fun q:b=S=>hb (by rw[q];exact Zm))];exact e
end
section
variable{prog:Program}{w:World}{A:Around}{E:Value->Shared->Prop}{s:Shared}
noncomputable abbrev bh(w:World):Obj:={cls:= .type "set",dict:=none,data:= .set #[] 0 (.fresh 0 0 (!aI w))}
theorem oQ(a:Value){Q₁:Value->Shared->Prop}(h:Q₁ (.ref s.heap.objs.size) {s with heap:=s.heap.push (bh w)}):
 codeAny (model prog w) A (.call (.builtin "set.__new__") ⟨[.type "set",a],[]⟩) (wants Q₁ E) s:=by
 refine codeAny_of_tree ?_;show wpAny _ A.in1 (checkBuiltinCall "set.__new__" ⟨[.type "set",a],[]⟩>>= fun _=>again (.builtin "set.__new__" ⟨[.type "set",a],[]⟩)) _ _ s;refine Z2 (wpAny_of_eq (PySem.F.newCall_set_1 a) (Z3 ⟨plainId_quiet PySem.F.plain_set_new _,codeAny_builtin PySem.F.entry_set_new ?_⟩));rw[Around.under_plainId PySem.F.plain_set_new _];unfold Builtin.«set.__new__» Builtin.Frozenset.newClass;have su:=sub_set_self;obtain⟨hp,g,d,tk,os⟩:=s;dsimp only
 wp_walk
 refine wpAny_askSetting (Z3 ?_);dsimp only;simp only[newObj];exact Z2 (wpAny_alloc (Z3 (Z3 h)))
theorem dn.empty{h:Heap}{a:Addr}(e:h.get? a=some (bh w)):dn w a [] h:=
 ⟨_,#[],0,_,[],e,⟨rfl,rfl,rfl⟩,rfl,.nil,.nil,nodup_nil,fun e he=>by simp at he,by decide,rfl,fun q=>absurd rfl q,rfl⟩
theorem oR:∀{vs:List Value} {ss:List Str},StrsAre vs ss->∀(i:Nat) (v:Value),vs[i]? =some v->∃t,v= .str (ss.getD i (Str.ofString "")) t
 | _,_,.nil,i,v,h=>by simp at h
 | _,_,.cons x t hr,0,v,h=>by simp at h;exact⟨t,by rw[<-h];rfl⟩
 | _,_,.cons x t hr,i+1,v,h=>by
   obtain⟨u,e⟩:=oR hr i v (by simpa using h);exact⟨u,by rw[e];rfl⟩
theorem qK(ss:List Str):(List.range ss.length).map (fun i=>ss.getD i (Str.ofString ""))=ss:=by
 apply Y0
 ·simp
 ·intro i h1 h2;simp[Zc,h2]
theorem lA{l:Addr}{items:Array Value}{ss:List Str}{Q:Value->Shared->Prop}(hh:A.handled=none)(hl:s.heap.IsList l items)(hi:StrsAre items.toList ss)(hb:items.size+1<scanBound)
 (hQ:∀(h':Heap) (tk:Nat),dn w s.heap.objs.size (aE ss) h'->(∀b o,s.heap.get? b=some o->h'.get? b=some o)->Q (.ref s.heap.objs.size) {s with heap:=h',toks:=tk}):
 wpAny (model prog w) A (call (.type "set") [.ref l]) Q E s:=by
 obtain⟨c,tl,hmro⟩:=called_set.mro;have hmade:=called_set.made;have hsub:=called_set.sub;refine wpAny_call (codeAny_of_tree ?_);show wpAny _ _ (callAny (.type "set") _) _ _ _;refine Z3 ⟨Code.quiet_builtin _ (by decide +kernel),codeAny_builtin F.entry_type_call ?_⟩;rw[Around.under_plain (weight_type_call_type "set" [.ref l] []) rfl];have ht1:=called_set.notType;have ht2:=called_set.canCreate;have ht3:=PySem.F.typeCall_set_1 (.ref l)
 repeat any_goals first|assumption|wp_step
 refine codeAny_mono (oQ (.ref l) (E:=E) (Q₁:=fun obj s₁=>obj= .ref s.heap.objs.size/\s₁={s with heap:=s.heap.push (bh w)}) ⟨rfl,rfl⟩) fun r s₁ hr=>?_
 cases r with
 | error e=>exact hr
 | ok fl=>
   cases fl with
   | ret obj=>
     obtain⟨rfl,rfl⟩:=hr;have gS:(s.heap.push (bh w)).get? s.heap.objs.size=some (bh w):=Zj _ rfl;have tS:Shared.TypeIs {s with heap:=s.heap.push (bh w)} (.ref s.heap.objs.size) "set":=⟨_,gS,rfl⟩
     have hli:=called_set.init.lookup;have hbi:=called_set.init.bind (.ref s.heap.objs.size)
     repeat any_goals first|assumption|wp_step
     refine codeAny_mono (codeAny_call_builtin (R:=wants (fun r s₂=>r= .none/\∃h' tk,s₂={s with heap:=h',toks:=tk}/\dn w s.heap.objs.size (aE ss) h'/\(∀b o,s.heap.get? b=some o->h'.get? b=some o)) E) called_set.init.plain F.entry_set_init (check_set_init_1 tS ?_)) fun r₂ s₂ hr₂=>?_
     ·obtain⟨ol,gl,cl,nl,dl⟩:=hl;obtain⟨ocls,odict,odata,oslots⟩:=ol;simp only at cl dl;subst cl;subst dl;have gl':(s.heap.push (bh w)).get? l=some {cls:= .type "list",dict:=odict,data:= .seq items nl,slots:=oslots}:=Z7 _ gl;have no1:=PySem.F.sub_list_set;have no2:=PySem.F.sub_list_frozenset;have no3:(Value.type "list"==Value.type "dict")=false:=by decide
      have isl:(s.heap.push (bh w)).IsList l items:=⟨_,gl',rfl,nl,rfl⟩
      unfold Builtin.«set.__init__»;unfold noKeywords;unfold Builtin.Frozenset.updateFrom
      generalize hPI:pyIter=PI
      wp_walk
      subst hPI;refine wpAny_pyIter_list isl (Z2 (wpAny_runValue ?_));have llt:l<s.heap.objs.size:=Zv gl;have h3:A.in1.in1.in1.handled=none:=by simp[hh]
      have nz:(s.heap.push (bh w)).objs.size=s.heap.objs.size+1:=Zq ..;have ne1:l≠(s.heap.push (bh w)).objs.size:=by rw[nz];exact Zt (Yj llt)
      have ne2:s.heap.objs.size∉[(s.heap.push (bh w)).objs.size,l]:=by
       rw[nz];simp only[Yq,Yy,or_false,not_or];exact⟨Zt (Yk _),Yu llt⟩
      have hlen:items.size=ss.length:=by rw[<-Zb];exact ce hi
      refine lw ((Walks.list h3 _ l ne1 items).toS) s.heap.objs.size ne2 (fun i=>ss.getD i (Str.ofString "")) (fun i v hv=>oR hi i v (by rw[Array.getElem?_toList];exact hv)) hb (items.size-0) 0 _ (by lia) (X7 _)
       ⟨⟨_,Zj _ rfl,rfl,rfl⟩,isl.push _⟩ (dn.empty (Z7 _ gS)) ?_
      intro s3 m3 S3;rw[hlen,qK]at S3;obtain⟨h',g',d',tk',os'⟩:=s3;have eg:g'=s.gens:=m3.gens;have ed:d'=s.drawn:=m3.drawn;have eo:os'=s.os:=m3.os;subst eg;subst ed;subst eo;refine Z3 ?_;show wpAny _ _ (ret Value.none) _ _ _;refine Z3 ⟨rfl,h',tk',rfl,S3,fun b o e=>?_⟩;have blt:=Zv e;refine m3.heap b o ?_ (Z7 _ (Z7 _ e));simp only[Yq,Yy,or_false,not_or,nz];exact⟨Zt blt,Zt (Yj blt)⟩
     ·cases r₂ with
      | error e=>exact hr₂
      | ok fl₂=>
        cases fl₂ with
        | ret r=>
          obtain⟨rfl,h',tk,rfl,S3,k3⟩:=hr₂
          repeat any_goals first|assumption|wp_step
          exact hQ _ _ S3 k3
        | _=>exact hr₂.elim
   | _=>exact hr.elim
end
section
variable{X:Cx}{K:PySem.W.Frag}
noncomputable def qL(w:World)(a:Addr)(ks:List Str):HO:= .ext (dn w a ks)
theorem wj(hc:X.calm=true):cq X (.type "set") (fun xs H Q=>∃p ss,xs=[.ref p]/\SqL X.K H p (ss.map V.str)/\ss.length<=4000/\∀l,H l=none->Q (.ref l) (upd H l (qL X.w l (aE ss)))):=by
 intro pins s σ H xs us Q I r h;obtain⟨p,ss,rfl,hq,hl,q⟩:=h;obtain⟨u,rfl,ru⟩:=d0 r;cases ru;obtain⟨its,rv,pl,hz⟩:=I.list hq;have hst:=eT rv;have hn:its.toArray.size=ss.length:=by rw[Zp];exact ce hst
 refine lA (I.ok.hd hc) pl.isList (ss:=ss) (by simpa using hst) (by rw[hn];show ss.length+1<4096;lia) fun h' tk S k=>?_
 refine⟨.ref s.heap.objs.size,_,I.laid (o:=qL X.w s.heap.objs.size (aE ss)) (t':=tk) k (Zi _) ⟨S,?_,fun h1 h2 S1 k1=>S1.keep k1⟩,rfl,q _ I.fresh⟩;obtain⟨o,_,_,_,_,ho,_⟩:=S;exact⟨o,ho⟩
theorem BH(h:X.K=K)(hw:X.w=w)(hc:X.calm=true):cJ X (.type "set") (fun xs H Q=>∃p ss,xs=[.ref p]/\SqL K H p (ss.map V.str)/\ss.length<=4000/\∀l,H l=none->Q (.ref l) (upd H l (qL w l (aE ss)))):=by subst h;subst hw;exact⟨wj hc⟩
end
open PySem PySem.Spec PyProof.Rows
theorem gX{α:Type}:∀{xs:List α} {i:Nat} (h:i<xs.length),(xs[i]::xs.eraseIdx i).Perm xs
 | x::r,0,_=>by simp
 | x::r,i+1,h=>by
   have ih:=gX (xs:=r) (i:=i) (by simpa using h);simp only[List.getElem_cons_succ,List.eraseIdx_cons_succ];exact(List.Perm.swap _ _ _).trans (.cons _ ih)
section
variable{prog:Program}{w:World}{A:Around}{E:Value->Shared->Prop}{s:Shared}
theorem tU{src:Source}{n:Nat}{Q:Nat->Shared->Prop}(hn:n≠0)(h:∀i d,i<n->Q i {s with drawn:=d}):wpAny (model prog w) A (choose src n) Q E s:=by
 intro Γ p _;show Sem.wp _ _ (.choose src n .pure) _ _ _ _;rw[Sem.wp_choose];exact⟨hn,h _ _ (mod_lt _ (Nat.pos_of_ne_zero hn))⟩
theorem mZ{α:Type}:∀(n:Nat) (xs:List α) (s:Shared) (Q:List α->Shared->Prop),xs.length<=n->(∀ys d,ys.Perm xs->Q ys {s with drawn:=d})->wpAny (model prog w) A (drawOrder n xs) Q E s
 | 0,xs,s,Q,hn,h=>by
   have e:xs=[]:=length_eq_zero_iff.mp (Nat.le_zero.mp hn);subst e;exact Z3 (h [] s.drawn .nil)
 | n+1,[],s,Q,hn,h=>Z3 (h [] s.drawn .nil)
 | n+1,x::r,s,Q,hn,h=>by
   unfold drawOrder;refine Z2 (tU (by simp) fun i d hi=>?_);have e:(x::r)[i]? =some ((x::r)[i]):=Z4 hi;rw[e];have l:((x::r).eraseIdx i).length<=n:=by rw[List.length_eraseIdx];simp only[hi,↓reduceIte];simp only[Zr]at hn ⊢;lia
   refine Z2 (mZ n ((x::r).eraseIdx i) _ _ l fun ys d2 p=>Z3 (h _ d2 ?_));exact(List.Perm.cons _ p).trans (gX hi)
end
theorem sC{α:Type}(next:Nat->Nat):∀(fuel k:Nat) (left:List α) (out:Array α),left.length<=fuel->(pickOrder.go next fuel k left out).toList.Perm (out.toList++left)
 | 0,k,left,out,h=>by
   have e:left=[]:=length_eq_zero_iff.mp (Nat.le_zero.mp h);subst e;rw[Zz];exact .refl _
 | fuel+1,k,[],out,h=>by
   unfold pickOrder.go;simp
 | fuel+1,k,x::r,out,h=>by
   unfold pickOrder.go;have hi:next k%(x::r).length<(x::r).length:=mod_lt _ (by simp);rw[Z4 hi];have l:((x::r).eraseIdx (next k%(x::r).length)).length<=fuel:=by rw[List.length_eraseIdx];simp only[hi,↓reduceIte];simp only[Zr]at h ⊢;lia
   refine(sC next fuel (k+1) _ _ l).trans ?_;rw[X6,Ze];exact(List.Perm.refl _).append (gX hi)
theorem md{α:Type}(next:Nat->Nat)(xs:Array α):(pickOrder next xs).toList.Perm xs.toList:=by
 have:=sC next xs.size 0 xs.toList #[] (by simp);simpa [pickOrder]using this
theorem mf(p j:Nat):SetTable.below #[p] j=if p<j then 1 else 0:=by
 unfold SetTable.below;simp only[Zp,Zr,length_nil,zero_add];unfold SetTable.below.go;simp
 split<;>(unfold SetTable.below.go;rfl)
theorem qM(j:Nat):SetTable.below #[] j=0:=rfl
theorem mj{α:Type}{xs:Array α}(h:xs.size=1):∃p,xs= #[p]:=by
 obtain⟨l⟩:=xs
 match l,h with
 |[p],_=>exact⟨p,rfl⟩
def SIt(w:World)(I S T:Addr)(o:Obj)(es:Array (Int×Value))(ep:Nat)(t:SetTable)(ord:List Value)(i:Nat)(h:Heap):Prop:=
 h.get? S=some o/\∃first,h.get? I=some {cls:= .type "set_iterator",dict:=none,data:= .fields #[first,rawInt i,.ref S,rawInt es.size,rawInt ep],slots:= #[]}/\
  ((aI w=true/\first=rawInt 0/\ord=(pickOrder (w.params.setOrder S ep) es).toList.map (·.2))\/
   (aI w=false/\first= .ref T/\T≠I/\∃ps:List Nat,h.get? T=some {cls:= .type "tuple",data:= .seq (ps.map fun(i:Nat)=>rawInt i).toArray}/\ps.length=ord.length/\∀(j p:Nat),ps[j]? =some p->∃e,es[p]? =some e/\ord[j]? =some e.2)\/
   (aI w=false/\es.size<=1/\ord=es.toList.map (·.2)/\(i=0->first=rawInt 0)/\(i=1->∃p:Nat,t.place[0]? =some p/\first=rawInt (p+1))))
theorem SIt.is{w:World}{I S T:Addr}{o:Obj}{es:Array (Int×Value)}{ep:Nat}{t:SetTable}{ord:List Value}{i:Nat}{s:Shared}(h:SIt w I S T o es ep t ord i s.heap):s.TypeIs (.ref I) "set_iterator":=by
 obtain⟨_,f,hI,_⟩:=h;exact⟨_,hI,rfl⟩
section
variable{prog:Program}{w:World}{A:Around}{E:Value->Shared->Prop}{s:Shared}{I S T:Addr}{o:Obj}{es:Array (Int×Value)}{ep:Nat}{t:SetTable}{ord:List Value}
theorem qN{i:Nat}{v:Value}{Q:Option Value->Shared->Prop}(hd:o.data= .set es ep t)(hf:t.fits es.size=true)(hled:t.led=!aI w)(hSI:S≠I)(st:SIt w I S T o es ep t ord i s.heap)(hv:ord[i]? =some v)(hn:ord.length=es.size)
 (hQ:∀h',SIt w I S T o es ep t ord (i+1) h'->SameBut I s.heap h'->Q (some v) {s with heap:=h'}):wpAny (model prog w) A (pyNext (.ref I)) Q E s:=by
 have hT:=st.is;obtain⟨hS,first,hI,m⟩:=st;unfold pyNext;refine Z2 (wpAny_attempt (wpAny_callSpecial?_slot (name:=Str.ofString "__next__") hT bj (wpAny_call_entry bj hT eJ ?_ (fF _))));unfold Builtin.«set_iterator.__next__»;refine Z2 (m:=slotArgs _ _ _) (Z3 ?_);refine Z2 (wpAny_fieldsOf hI rfl ?_);show wpAny _ _ (setEntries S>>= _) _ _ _;refine Z2 (wpAny_setEntries_of hS hd hf ?_);rw[if_neg (by simp)];rcases m with⟨bt,rfl,eo⟩|⟨bt,rfl,hTI,ps,hTt,hpl,hps⟩|⟨bt,h1,eo,f0,f1⟩
 ·show wpAny _ _ (setNext S 0 i ep>>= _) _ _ _;refine Z2 ?_;unfold setNext;refine Z2 (wpAny_setState_of hS hd hf ?_);refine Z2 (Z2 (wpAny_askSetting (Z3 ?_)));show wpAny _ _ (if aI w=true then _ else _) _ _ _;rw[if_pos bt];dsimp only;rw[if_neg (show ¬ ((ep != ep)=true) by simp)];refine Z2 ?_;unfold setWalk;refine Z2 (wpAny_setState_of hS hd hf ?_);refine Z2 (Z2 (wpAny_askSetting (Z3 ?_)));show wpAny _ _ (if aI w=true then _ else _) _ _ _;rw[if_pos bt];refine Z2 (wpAny_askSetting (Z3 (Z3 ?_)));have hv':(pickOrder (w.params.setOrder S ep) es)[i]?.map (·.2)=some v:=by
   rw[eo]at hv;simpa using hv
  cases hp:(pickOrder (w.params.setOrder S ep) es)[i]? with
  | none=>rw[hp]at hv';cases hv'
  | some e=>
    rw[hp]at hv';have ev:e.2=v:=by simpa using hv'
    show wpAny _ _ (match((pickOrder (w.params.setOrder S ep) es)[i]?).map fun e=>(e.2,0)with|some (x,next)=>_|none=>_) _ _ _;rw[hp];show wpAny _ _ (setField (.ref I) 0 (rawInt ((0:Nat):Int))>>= _) _ _ _;refine Z2 (wpAny_setField_rec hI (by simp) fun g1 hI1 sb1=>?_);refine Z2 (wpAny_setField_rec (s:={s with heap:=g1}) hI1 (by simp) fun g2 hI2 sb2=>?_);rw[ev];have sb:SameBut I s.heap g2:=sb1.trans sb2;refine Z3 ⟨v,rfl,Z3 (hQ g2 ⟨(sb.2 S hSI).trans hS,_,hI2,.inl ⟨bt,rfl,eo⟩⟩ sb)⟩
 ·show wpAny _ _ (seqItems? (.ref T)>>= _) _ _ _;refine Z2 (wpAny_seqItems hTt rfl ?_);have hi:i<ord.length:=(Xf hv).1;have hip:i<ps.length:=by lia
  obtain⟨e,he,hoe⟩:=hps i ps[i] (by simp[hip]);have ev:e.2=v:=by rw[hoe]at hv;exact Za hv
  have hpl':(ps.map fun(i:Nat)=>rawInt i).toArray[(i:Int).toNat]? =some (rawInt ps[i]):=by simp[hip]
  dsimp only;rw[hpl'];show wpAny _ _ (setNextDrawn S ps[i] ep>>= _) _ _ _;refine Z2 ?_;unfold setNextDrawn;refine Z2 (wpAny_setState_of hS hd hf ?_);dsimp only;rw[if_neg (show ¬ ((ep != ep)=true) by simp),he];refine Z3 ?_;refine Z2 (wpAny_setField_rec hI (by simp) fun g1 hI1 sb1=>?_);rw[ev];exact Z3 ⟨v,rfl,Z3 (hQ g1 ⟨(sb1.2 S hSI).trans hS,_,hI1,.inr (.inl ⟨bt,rfl,hTI,ps,(sb1.2 T hTI).trans hTt,hpl,hps⟩)⟩ sb1)⟩
 ·have hi:i<ord.length:=(Xf hv).1;have i0:i=0:=by lia
  subst i0;have f0:=f0 rfl;subst f0;have e1:es.size=1:=by lia
  have pz:t.place.size=1:=by
   simp only[SetTable.fits,Zx,beq_iff_eq,decide_eq_true_eq]at hf;rw[hf.1,e1]
  obtain⟨p,hp⟩:=mj pz;obtain⟨e,he⟩:∃e,es[0]? =some e:=⟨es[0],by simp[e1]⟩
  have ev:e.2=v:=by
   rw[eo]at hv;have:(es[0]?).map (·.2)=some v:=by simpa using hv
   rw[he]at this;simpa using this
  show wpAny _ _ (setNext S 0 0 ep>>= _) _ _ _;refine Z2 ?_;unfold setNext;refine Z2 (wpAny_setState_of hS hd hf ?_);refine Z2 (Z2 (wpAny_askSetting (Z3 ?_)));show wpAny _ _ (if aI w=true then _ else _) _ _ _;rw[if_neg (by rw[bt];decide)];dsimp only
  split
  ·rename_i hdr
   change (!t.plain&&decide (es.size>1))=true at hdr;rw[e1]at hdr;simp at hdr
  ·refine Z2 (m:=(if(!t.led&&!es.isEmpty)=true then unsupported "set:maker-not-led" else pure ())) ?_;rw[hled,bt];refine Z3 ?_;rw[hp,mf];simp only[Yx,↓reduceIte,he];refine Z3 ?_;show wpAny _ _ (setField (.ref I) 0 (rawInt ((p+1:Nat):Int))>>= _) _ _ _;refine Z2 (wpAny_setField_rec hI (by simp) fun g1 hI1 sb1=>?_);refine Z2 (wpAny_setField_rec (s:={s with heap:=g1}) hI1 (by simp) fun g2 hI2 sb2=>?_);rw[ev];have sb:SameBut I s.heap g2:=sb1.trans sb2;exact Z3 ⟨v,rfl,Z3 (hQ g2 ⟨(sb.2 S hSI).trans hS,_,hI2,.inr (.inr ⟨bt,by lia,eo,fun q=>by lia,fun _=>⟨p,by rw[hp];rfl,rfl⟩⟩)⟩ sb)⟩
theorem oS{α:Type}{Q:α->Shared->Prop}(hh:A.handled=none)(hE:∀h' e,(∀b o,s.heap.get? b=some o->h'.get? b=some o)->(∃o,h'.get? e=some o/\o.cls= .type "StopIteration")->E (.ref e) {s with heap:=h'}):
 wpAny (model prog w) A (newExc (.type "StopIteration") []>>= fun e=>(raiseNew e:Sem α)) Q E s:=by
 refine Z2 ?_;simp only[newExc,newTuple];refine Z2 (wpAny_newObj_type ?_ (by size_fits));refine Z2 (m:=firstArgMember _ _) (wpAny_of_eq (a:=Value.none) (by first|rfl|(simp only[firstArgMember];rfl)) (wpAny_newObj_type ?_ (by size_fits)));refine wpAny_raiseNew_none hh (hE _ _ (fun b o e=>Z7 _ (Z7 _ e)) ⟨_,Zj _ rfl,rfl⟩)
theorem tV{i:Nat}{Q:Option Value->Shared->Prop}(hh:A.handled=none)(hd:o.data= .set es ep t)(hf:t.fits es.size=true)(hled:t.led=!aI w)(st:SIt w I S T o es ep t ord i s.heap)(hi:i=ord.length)(hn:ord.length=es.size)
 (hQ:∀h',(∀b o,b≠I->s.heap.get? b=some o->h'.get? b=some o)->Q none {s with heap:=h'}):wpAny (model prog w) A (pyNext (.ref I)) Q E s:=by
 have hT:=st.is;obtain⟨hS,first,hI,m⟩:=st;have hh1:A.in1.handled=none:=hh;have fin:∀(g:Heap) (Q':Fin->Shared->Prop),SameBut I s.heap g->wpAny (model prog w) A.in1 (newExc (.type "StopIteration") []>>= fun e=>(raiseNew e:Sem Fin)) Q' (fun e s'=>wpAny (model prog w) A (do
  if(<-isInstance e (.type "StopIteration"))then pure none else throw e) Q E s') {s with heap:=g}:=fun g Q' sb=>by
  refine oS hh1 fun h' e k ⟨oe,he,hc⟩=>?_
  refine Z2 (wpAny_isInstance (T:="StopIteration") (b:=true) ⟨oe,he,hc⟩ isSubtype_stop (Z3 (hQ h' fun b o hb q=>k b o ((sb.2 b hb).trans q))))
 unfold pyNext;refine Z2 (wpAny_attempt (wpAny_callSpecial?_slot (name:=Str.ofString "__next__") hT bj (wpAny_call_entry bj hT eJ ?_ (fF _))));unfold Builtin.«set_iterator.__next__»;refine Z2 (m:=slotArgs _ _ _) (Z3 ?_);refine Z2 (wpAny_fieldsOf hI rfl ?_);show wpAny _ _ (setEntries S>>= _) _ _ _;refine Z2 (wpAny_setEntries_of hS hd hf ?_);rw[if_neg (by simp)];rcases m with⟨bt,rfl,eo⟩|⟨bt,rfl,hTI,ps,hTt,hpl,hps⟩|⟨bt,h1,eo,f0,f1⟩
 ·show wpAny _ _ (setNext S 0 i ep>>= _) _ _ _;refine Z2 ?_;unfold setNext;refine Z2 (wpAny_setState_of hS hd hf ?_);refine Z2 (Z2 (wpAny_askSetting (Z3 ?_)));show wpAny _ _ (if aI w=true then _ else _) _ _ _;rw[if_pos bt];dsimp only;rw[if_neg (show ¬ ((ep != ep)=true) by simp)];refine Z2 ?_;unfold setWalk;refine Z2 (wpAny_setState_of hS hd hf ?_);refine Z2 (Z2 (wpAny_askSetting (Z3 ?_)));show wpAny _ _ (if aI w=true then _ else _) _ _ _;rw[if_pos bt];refine Z2 (wpAny_askSetting (Z3 (Z3 ?_)));have hp:(pickOrder (w.params.setOrder S ep) es)[i]? =none:=by
   rw[Array.getElem?_eq_none_iff,hi,eo,Z6,Zb];exact Zi _
  show wpAny _ _ (match((pickOrder (w.params.setOrder S ep) es)[i]?).map fun e=>(e.2,0)with|some (x,next)=>_|none=>_) _ _ _;rw[hp];show wpAny _ _ (setField (.ref I) 2 .none>>= _) _ _ _;exact Z2 (wpAny_setField_rec hI (by simp) fun g1 _ sb1=>fin g1 _ sb1)
 ·show wpAny _ _ (seqItems? (.ref T)>>= _) _ _ _;refine Z2 (wpAny_seqItems hTt rfl ?_);have hpl':(ps.map fun(i:Nat)=>rawInt i).toArray[(i:Int).toNat]? =none:=by simp;lia
  dsimp only;rw[hpl'];show wpAny _ _ (setField (.ref I) 0 (rawInt 0)>>= _) _ _ _;refine Z2 (wpAny_setField_rec hI (by simp) fun g1 hI1 sb1=>?_);exact Z2 (wpAny_setField_rec (s:={s with heap:=g1}) hI1 (by simp) fun g2 _ sb2=>fin g2 _ (sb1.trans sb2))
 ·have done:∀slot:Nat,first=rawInt slot->SetTable.below t.place slot=es.size->wpAny (model prog w) A.in1 (setNext S slot i ep) (fun a s'=>a=none/\s'=s) (fun _ _=>False) s:=by
   intro slot _ hb;unfold setNext;refine Z2 (wpAny_setState_of hS hd hf ?_);refine Z2 (Z2 (wpAny_askSetting (Z3 ?_)));show wpAny _ _ (if aI w=true then _ else _) _ _ _;rw[if_neg (by rw[bt];decide)];dsimp only
   split
   ·rename_i hdr
    change (!t.plain&&decide (es.size>1))=true at hdr;have:decide (es.size>1)=false:=Zh (by lia);rw[this,Bool.and_false]at hdr;cases hdr
   ·refine Z2 (m:=(if(!t.led&&!es.isEmpty)=true then unsupported "set:maker-not-led" else pure ())) ?_;rw[hled,bt];refine Z3 ?_;rw[hb,show es[es.size]? =none by simp];exact Z3 ⟨rfl,rfl⟩
  have go:∀slot:Nat,first=rawInt slot->SetTable.below t.place slot=es.size->wpAny (model prog w) A.in1 (setNext S slot i ep>>= fun a=>match a with
   | some (x,next)=>(do
     setField (.ref I) 0 (rawInt ↑next)
     setField (.ref I) 1 (rawInt (↑i+1))
     ret x)
   | none=>(do
     setField (.ref I) 2 .none
     let e<-newExc (.type "StopIteration") []
     raiseNew e)) (fun fin s'=>∃v,fin=Fin.done (Flow.ret v)/\wpAny (model prog w) A (pure (some v)) Q E s') (fun e s'=>wpAny (model prog w) A (do
   if(<-isInstance e (.type "StopIteration"))then pure none else throw e) Q E s') s:=by
   intro slot e hb;refine Z2 (wpAny_mono (done slot e hb) (fun a s' ⟨e1,e2⟩=>?_) fun _ _ f=>f.elim);subst e1;subst e2;exact Z2 (wpAny_setField_rec hI (by simp) fun g1 _ sb1=>fin g1 _ sb1)
  have pz:t.place.size=es.size:=by
   simp only[SetTable.fits,Zx,beq_iff_eq,decide_eq_true_eq]at hf;exact hf.1
  by_cases e0:es.size=0
  ·have i0:i=0:=by lia
   subst i0;have f0:=f0 rfl;subst f0;refine go 0 rfl ?_;have:t.place= #[]:=Array.eq_empty_of_size_eq_zero (by lia);rw[this,qM,e0]
  ·have e1:es.size=1:=by lia
   have i1:i=1:=by lia
   subst i1;obtain⟨p,hp,f1⟩:=f1 rfl;subst f1;refine go (p+1) rfl ?_;obtain⟨p',hp'⟩:=mj (by rw[pz,e1]:t.place.size=1);rw[hp']at hp ⊢;have:p'=p:=by simpa using hp
   subst this;rw[mf,if_pos (Yk _),e1]
end
open PySem PySem.Spec PyProof.Rows
theorem fG:Slot "set_iterator" "__iter__" "set_iterator.__iter__":=
 .of (owner:="set_iterator") (n:="__iter__") (by rw[typeLookup_type,builtinLookup_eq_fast];kernel_rfl) (by decide +kernel) (by decide +kernel) (by decide +kernel) (by first|exact .inl (by decide +kernel)|exact .inr (by decide +kernel)) (by rw[isSubtype_type];kernel_rfl)
theorem i5:entryFor table "set_iterator.__iter__"=some Builtin.«dict_keyiterator.__iter__»:=entryFor_alias (id':="dict_keyiterator.__iter__") (by kernel_rfl) rfl (by decide +kernel) (by kernel_rfl)
theorem jP(a:Value):argsOk "set_iterator.__iter__" ⟨[a],[]⟩:=by unfold argsOk;kernel_rfl
theorem iz:typeLookup (.type "set") "__len__"=pure (some (.builtin "set.__len__")):=by rw[typeLookup_type,builtinLookup_eq_fast];kernel_rfl
section
variable{prog:Program}{w:World}{A:Around}{E:Value->Shared->Prop}{s:Shared}{I S T:Addr}{o:Obj}{es:Array (Int×Value)}{ep:Nat}{t:SetTable}{ord:List Value}
theorem mm(hh:A.handled=none)(hd:o.data= .set es ep t)(hf:t.fits es.size=true)(hled:t.led=!aI w)(hSI:S≠I)(hn:ord.length=es.size):
 Walks prog w A I [I,S,T] [I] ord.length (fun i v=>ord[i]? =some v) (fun i h=>SIt w I S T o es ep t ord i h) where
 sub:=by simp
 frame:=fun i h h' st k=>by
  obtain⟨hS,first,hI,m⟩:=st;refine⟨k S (by simp) _ hS,first,k I (by simp) _ hI,?_⟩;rcases m with m|⟨bt,e,hTI,ps,hTt,r⟩|m
  ·exact .inl m
  ·exact .inr (.inl ⟨bt,e,hTI,ps,k T (by simp) _ hTt,r⟩)
  ·exact .inr (.inr m)
 item:=fun i s Q E hi st hQ=>qN (v:=ord[i]) hd hf hled hSI st (by simp[hi]) hn fun h' st' sb=>hQ _ h' s.toks (by simp[hi]) st' fun b o' hb e=>(sb.2 b (fun q=>hb (by simp[q]))).trans e
 done:=fun s Q E st hQ=>tV hh hd hf hled st rfl hn fun h' k=>hQ h' s.toks fun b o' hb e=>k b o' (fun q=>hb (by simp[q])) e
 self:=fun i s Q E st hQ=>by
  have hT:=st.is;refine wpAny_pyIter_slot hT fG (wpAny_call_entry fG hT i5 ?_ (jP _));show wpAny _ _ (ret (.ref I)) _ _ s;exact Z3 ⟨_,rfl,"set_iterator",_,hT,bj.lookup,hQ⟩
theorem wk{ks:List Str}{Q:Value->Shared->Prop}(hS:dn w S ks s.heap)
 (hQ:∀(I T:Addr) (o:Obj) es ep t (ord:List Value) (ss:List Str) (h':Heap) d,(∀b o,s.heap.get? b=some o->h'.get? b=some o)->s.heap.objs.size<=I->S≠I->(T=S\/s.heap.objs.size<=T)->T<h'.objs.size->I<h'.objs.size->o.data= .set es ep t->t.fits es.size=true->t.led=(!aI w)->ord.length=es.size->
  SIt w I S T o es ep t ord 0 h'->StrsAre ord ss->ss.Perm ks->Q (.ref I) {s with heap:=h',drawn:=d}):wpAny (model prog w) A (pyIter (.ref S)) Q E s:=by
 obtain⟨o,es,ep,t,ss,ho,hex,hd,hst,hp,hnd,hel,hb,hf,hpl,hled⟩:=hS;have hT:s.TypeIs (.ref S) "set":=⟨o,ho,hex.1⟩
 have slt:S<s.heap.objs.size:=Zv ho;refine wpAny_pyIter_slot hT F.slot_set_iter (wpAny_call_entry F.slot_set_iter hT gN ?_ (F.args_set_iter_1 _));unfold Builtin.«frozenset.__iter__»;refine Z2 (m:=Builtin.Frozenset.slot0 _ _) (Z2 (m:=slotArgs _ _ _) (Z3 (Z3 ?_)));refine Z2 (m:=Builtin.Frozenset.sizeOf S) (Z2 (wpAny_setEntries_of ho hd hf (Z3 ?_)));refine Z2 (m:=setDrawn S) ?_;unfold setDrawn;refine Z2 (wpAny_setState_of ho hd hf (Z2 (Z2 (wpAny_askSetting (Z3 (Z3 ?_))))));have fin:∀(first:Value) (s1:Shared) (T:Addr) (ord:List Value),s1.heap.get? S=some o->(∃d h1,s1={s with heap:=h1,drawn:=d})->(∀b o,s.heap.get? b=some o->s1.heap.get? b=some o)->T<s1.heap.objs.size->s.heap.objs.size<=s1.heap.objs.size->(T=S\/s.heap.objs.size<=T)->(∃ss,StrsAre ord ss/\ss.Perm ks)->
  ((aI w=true/\first=rawInt 0/\ord=(pickOrder (w.params.setOrder S ep) es).toList.map (·.2))\/(aI w=false/\first= .ref T/\∃ps:List Nat,s1.heap.get? T=some {cls:= .type "tuple",data:= .seq (ps.map fun(i:Nat)=>rawInt i).toArray}/\ps.length=ord.length/\∀(j p:Nat),ps[j]? =some p->∃e,es[p]? =some e/\ord[j]? =some e.2)\/(aI w=false/\es.size<=1/\ord=es.toList.map (·.2)/\first=rawInt 0))->ord.length=es.size->
  wpAny (model prog w) A.in1 (do ret (<-newFields "set_iterator" [first,rawInt 0,.ref S,rawInt es.size,rawInt (<-setEpoch S)])) (fun fin s'=>∃v,fin=Fin.done (Flow.ret v)/\∃T' r,s'.TypeIs v T'/\typeLookup (.type T') "__next__"=pure (some r)/\Q v s') (fun e s'=>E e s') s1:=by
  intro first s1 T ord h1 ⟨d,g1,e1⟩ k1 tl sl hTT ⟨ss',q1,q2⟩ m hn
  subst e1;refine Z2 (wpAny_setEpoch_of h1 hd hf (Z2 (wpAny_newObj_type ?_)));have gI:(g1.push {cls:= .type "set_iterator",data:= .fields #[first,rawInt 0,.ref S,rawInt es.size,rawInt ep]}).get? g1.objs.size=some _:=Zj _ rfl;refine Z3 ⟨_,rfl,"set_iterator",_,⟨_,gI,rfl⟩,bj.lookup,hQ g1.objs.size T o es ep t ord ss' _ d (fun b o' e=>Z7 _ (k1 b o' e)) sl (Zt (Zv h1)) hTT (by rw[Zq];exact Yj tl) (by rw[Zq];exact Yk _) hd hf hled hn ?_ q1 q2⟩;refine⟨Z7 _ h1,first,gI,?_⟩;rcases m with m|⟨bt,e,ps,hTt,r⟩|⟨bt,h1',eo,e⟩
  ·exact .inl m
  ·exact .inr (.inl ⟨bt,e,Zt tl,ps,Z7 _ hTt,r⟩)
  ·exact .inr (.inr ⟨bt,h1',eo,fun _=>e,fun q=>absurd q (by decide)⟩)
 have lst:(es.toList.map (·.2)).length=es.size:=by rw[Z6,Zb]
 by_cases bt:aI w=true
 ·show wpAny _ _ (if(!aI w&&_)=true then _ else _) _ _ _;rw[bt,Bool.not_true,Bool.false_and,if_neg (by decide)];refine Z2 (Z3 ?_);have pp:=(md (w.params.setOrder S ep) es).map (·.2);obtain⟨ts,r1,r2⟩:=dq hst pp;exact fin (rawInt 0) s S _ ho ⟨s.drawn,s.heap,rfl⟩ (fun _ _ e=>e) slt (Zi _) (.inl rfl) ⟨ts,r1,r2.trans hp⟩ (.inl ⟨bt,rfl,rfl⟩) (by rw[pp.length_eq,lst])
 ·have bf:aI w=false:=by simpa using bt
  show wpAny _ _ (if(!aI w&&(!t.plain&&decide (es.size>1)))=true then _ else _) _ _ _;by_cases h1:es.size>1
  ·rw[bf,hpl (by lia),Zf h1];simp only[Bool.not_false,Bool.and_self,↓reduceIte];refine Z2 (mZ es.size (List.range es.size) _ _ (by simp) fun ps d pps=>Z2 ?_);refine wpAny_newTuple ?_ (by rw[Z6,pps.length_eq,Yg];exact fits_of_scanBound hb);have lt:∀p∈ps,p<es.size:=fun p q=>mem_range.mp (pps.mem_iff.mp q)
   have er:(List.range es.size).map (fun p=>((es[p]?).map (·.2)).getD .none)=es.toList.map (·.2):=by
    apply Y0
    ·simp
    ·intro i q1 q2;simp at q1;simp[q1]
   have pp:(ps.map (fun p=>((es[p]?).map (·.2)).getD .none)).Perm (es.toList.map (·.2)):=by rw[<-er];exact pps.map _
   obtain⟨ts,r1,r2⟩:=dq hst pp;refine fin (.ref s.heap.objs.size) {s with heap:=_,drawn:=d} s.heap.objs.size (ps.map (fun p=>((es[p]?).map (·.2)).getD .none)) (Z7 _ ho) ⟨d,_,rfl⟩ (fun b o' e=>Z7 _ e) (by show _<(push _ _).objs.size;rw[Zq];exact Yk _) (by show _<=(push _ _).objs.size;rw[Zq];exact Yc _) (.inr (Zi _)) ⟨ts,r1,r2.trans hp⟩
    (.inr (.inl ⟨bf,rfl,ps,Zj _ rfl,by rw[Z6],fun j p q=>?_⟩)) (by rw[pp.length_eq,lst])
   have hlt:=lt p (Z8 q);exact⟨es[p],by simp[hlt],by simp[q,hlt]⟩
  ·rw[bf,Zh h1];simp only[Bool.and_false,Y1,↓reduceIte];refine Z2 (Z3 ?_);exact fin (rawInt 0) s S _ ho ⟨s.drawn,s.heap,rfl⟩ (fun _ _ e=>e) slt (Zi _) (.inl rfl) ⟨ss,hst,hp⟩ (.inr (.inr ⟨bf,by lia,rfl,rfl⟩)) lst
theorem oU{ks:List Str}{Q:List Value->Shared->Prop}(hh:A.handled=none)(hS:dn w S ks s.heap)
 (hQ:∀s' vs ss,StrsAre vs ss->ss.Perm ks->(∀b o,s.heap.get? b=some o->s'.heap.get? b=some o)->s'.gens=s.gens->s'.os=s.os->s.heap.objs.size<=s'.heap.objs.size->Q vs s'):wpAny (model prog w) A (collect (.ref S)) Q E s:=by
 have hT0:∃o es ep t,s.heap.get? S=some o/\o.ExactSet/\o.data= .set es ep t/\t.fits es.size=true/\es.size<scanBound:=by
  obtain⟨o,es,ep,t,ss,ho,hex,hd,_,_,_,_,hb,hf,_⟩:=hS;exact⟨o,es,ep,t,ho,hex,hd,hf,hb⟩
 obtain⟨o0,es0,ep0,t0,ho0,hex0,hd0,hf0,hb0⟩:=hT0;unfold collect;refine Z2 (wpAny_runValue (codeAny_builtin F.entry_proto_collect ?_));rw[Around.under_plainId F.plain_proto_collect _];show wpAny _ A.in1 (newList []>>= fun l=>again (.builtin "list.__iadd__" ⟨[l,.ref S],[]⟩)) _ _ s;refine Z2 (wpAny_newObj_type (Z3 ⟨plainId_quiet F.plain_list_iadd _,codeAny_builtin F.entry_list_iadd ?_⟩));rw[Around.under_plainId F.plain_list_iadd _];have slt:S<s.heap.objs.size:=Zv ho0;show wpAny _ A.in1 (Builtin.List.listExtendWith (.ref s.heap.objs.size) (.ref S) (.ref s.heap.objs.size)) _ _ _;unfold Builtin.List.listExtendWith
 generalize hG:s.heap.push {cls:= .type "list",data:= .seq ([]:List Value).toArray}=G
 have gS:G.get? S=some o0:=by rw[<-hG];exact Z7 _ ho0
 have gz:G.objs.size=s.heap.objs.size+1:=by rw[<-hG,Zq]
 have gL:G.get? s.heap.objs.size=some {cls:= .type "list",data:= .seq ([]:List Value).toArray}:=by rw[<-hG];exact Zj _ rfl
 have tS:Shared.TypeIs {s with heap:=G} (.ref S) "set":=⟨o0,gS,hex0.1⟩
 refine Z2 (wpAny_typeOf (T:="set") tS ?_);have n1:Builtin.List.listSameRef (.ref s.heap.objs.size) (.ref S)=false:=by
  show(s.heap.objs.size==S)=false;exact beq_eq_false_iff_ne.mpr (Yu slt)
 have n2:(Value.type "set"==Value.type "list")=false:=by decide
 have n3:(Value.type "set"==Value.type "tuple")=false:=by decide
 simp only[n1,n2,n3,Bool.or_false,Y1,if_false];have hS1:dn w S ks G:=hS.keep fun o e=>by rw[<-hG];exact Z7 _ e
 refine Z2 (wk (s:={s with heap:=G}) hS1 fun I T o es ep t ord ss h1 d k1 hI hSI hTT hTl hIl hd hf hled hn st q1 q2=>?_);replace k1:∀b o,G.get? b=some o->h1.get? b=some o:=k1;replace hI:G.objs.size<=I:=hI;have gS1:h1.get? S=some o0:=k1 _ _ gS;refine Z2 (wpAny_holding ?_);unfold Builtin.List.listLengthHint;have tS1:Shared.TypeIs {s with heap:=h1,drawn:=d} (.ref S) "set":=⟨o0,gS1,hex0.1⟩
 refine Z2 (wpAny_specialOf (T:="set") tS1 iz ?_)
 wp_delta
 refine Z2 (wpAny_isInstance (T:="set") (b:=true) tS1 (by rw[isSubtype_type];kernel_rfl) ?_);show wpAny _ A.in1 (typeOf (.ref S)>>= _) _ _ _;refine Z2 (wpAny_typeOf (T:="set") tS1 (Z3 ?_));rw[if_pos (by decide)];refine Z2 (wpAny_rule ?_);have gL1:h1.get? s.heap.objs.size=some {cls:= .type "list",data:= .seq ([]:List Value).toArray}:=k1 _ _ gL;refine Z2 ?_;unfold Builtin.List.listTouch;refine Z2 (listUpdate_at (s:={s with heap:=h1,drawn:=d}) gL1 rfl ?_ (X7 _) (by show 1<=sizeLine+1;lia));have gL2:=get?_update_self (Obj.mapSeq (·.push Value.none)) gL1 rfl;refine listUpdate_at (xs:= #[Value.none]) (n:=1) (s:={s with heap:=h1.update s.heap.objs.size (Obj.mapSeq (·.push Value.none)),drawn:=d}) gL2 rfl ?_ (by show 1<=sizeLine;decide) (by show 0<=sizeLine+1;lia);have gL3:=get?_update_self (Obj.mapSeq (·.pop)) gL2 rfl;have oth:∀b o,b≠s.heap.objs.size->h1.get? b=some o->((h1.update s.heap.objs.size (Obj.mapSeq (·.push Value.none))).update s.heap.objs.size (Obj.mapSeq (·.pop))).get? b=some o:=fun b o hb e=>(get?_update_other _ _ (Ne.symm hb)).trans ((get?_update_other _ _ (Ne.symm hb)).trans e)
 have neI:s.heap.objs.size≠I:=Zt (Zg (by rw[gz];exact Yk _) hI);have neT:s.heap.objs.size≠T:=by
  rcases hTT with e|e
  ·rw[e];exact Yu slt
  ·exact Zt (Zg (by show s.heap.objs.size<G.objs.size;rw[gz];exact Yk _) e)
 have nfp:s.heap.objs.size∉[I,S,T]:=by
  simp only[Yq,Yy,or_false,not_or];exact⟨neI,Yu slt,neT⟩
 have hbn:ord.length<=sizeLine:=by
  have e:es.size<scanBound:=by
   obtain⟨hS',_⟩:=st;rw[gS1]at hS';cases hS';rw[hd0]at hd;injection hd with e1
   rw[<-e1];exact hb0
  rw[hn];exact fits_of_scanBound e
 have W:=mm (prog:=prog) (A:=A.in1) (T:=T) (show A.in1.handled=none from hh) hd hf hled hSI hn;have st2:=W.frame 0 h1 ((h1.update s.heap.objs.size (Obj.mapSeq (·.push Value.none))).update s.heap.objs.size (Obj.mapSeq (·.pop))) st fun b hb o' e=>oth b o' (fun q=>nfp (q▸hb)) e
 refine Z3 ⟨plainId_quiet F.plain_extend_loop _,codeAny_extend_loopS W.toS hbn _ nfp _ ord.length 0 _ _ _ rfl (X7 _) st2 gL3 (ItemsOf.nil _) fun s5 acc c5 m5 gL5 hacc=>?_⟩;show wpAny _ A (load s.heap.objs.size>>= _) _ _ s5;refine Z2 (wpAny_load gL5 (Z3 ?_));have ea:acc.toList=ord:=by
  apply List.ext_getElem?;intro j;by_cases hj:j<ord.length
  ·have hj':j<acc.size:=by rw[hacc.1];exact hj
   have:=hacc.2 j acc[j] (by simp[hj']);rw[this];simp[hj']
  ·have l1:acc.toList.length=ord.length:=by rw[Zb];exact hacc.1
   rw[Xe (l:=acc.toList) (by lia),Xe (l:=ord) (by lia)]
 rw[ea];refine hQ s5 ord ss q1 q2 (fun b o' e=>?_) m5.gens m5.os (Yb (Zv gL5));have blt:=Zv e;refine m5.heap b o' ?_ (oth b o' (Zt blt) (k1 b o' (by rw[<-hG];exact Z7 _ e)));simp only[Yq,Yy,or_false,not_or];exact⟨Zt blt,Zt (Zg blt (Yd (by rw[gz];exact Yc _) hI))⟩
end
open PySem PySem.Spec PyProof.Rows
section
variable{X:Cx}{pins:List (Addr×Obj)}{σ:St}{H:Hp}{s s':Shared}
theorem Inv.keptS(I:Inv X pins σ H s)(k:∀b o,s.heap.get? b=some o->s'.heap.get? b=some o)(hg:s'.gens=s.gens)(ho:s'.os=s.os):Inv X pins σ H s':=by
 obtain⟨h',g',d',t',o'⟩:=s';replace hg:g'=s.gens:=hg;replace ho:o'=s.os:=ho;subst hg;subst ho;refine I.step (g':=s.gens) (d':=d') (ch:=[]) (fun b hb=>absurd hb (by simp)) (fun b o _ _ _ e _=>k b o e) (fun b o _ _ _ e _=>⟨o.slots,k b o e⟩) (fun _ _ _ _ n=>n) (fun b o _ e=>⟨o,k b o e⟩) (fun _ _ e=>e) (fun _ _ _ e=>e) (fun b ps e=>⟨#[],by rw[e];simp⟩) (fun m hm=>?_) (fun b v e=>?_) I.bare
 ·obtain⟨o,es,ep,ho,r⟩:=hm;exact⟨o,es,ep,k _ o ho,r⟩
 ·exact(I.hok b v e).stay (fun c' v' _ q=>k c' v' q) (fun _ q=>q) fun _ _ q=>q
theorem Inv.stoodS{a:Addr}{o:HO}(I:Inv X pins σ H s)(J:Inv X pins σ H s')(ha:s.heap.objs.size<=a)(new:br X.prog X.w (upd H a o) s'.heap a o):Inv X pins σ (upd H a o) s':=by
 have Hn:H a=none:=I.hok.fresh ha;have lt0:∀b o,X.s₀.heap.get? b=some o->b≠a:=fun b o e=>Zt (Zg (Zg (Zv e) I.sz) ha)
 refine⟨J.ok,J.os,J.bare,?_,J.loc,J.cell,?_,?_,?_,?_,J.len⟩
 ·refine⟨J.base.keep,J.base.slot,fun b o e n hx=>?_,J.base.there,fun b xs e=>?_,fun b o v e=>?_,fun b ps e=>?_⟩
  ·rw[ai (lt0 b o e)];exact J.base.free b o e n hx
  ·rw[ai (ap (J.base.tups b xs e) Hn)];exact J.base.tups b xs e
  ·rw[ai (ap (J.base.frzs b o v e) Hn)];exact J.base.frzs b o v e
  ·obtain⟨m,q⟩:=J.base.tbls b ps e;exact⟨m,by rw[ai (ap q Hn)];exact q⟩
 ·rw[ai (Zt (Zg I.lt ha))];exact J.free
 ·intro x' c' e;obtain⟨v',q⟩:=I.cell x' c' e;rw[ai (Zt (Zg q.lt ha))];exact J.freeC x' c' e
 ·intro p hp;obtain⟨e,n,r⟩:=J.pin p hp;refine⟨e,?_,r⟩;rw[ai (Zt (Zg (Zv (I.pin p hp).1) ha))];exact n
 ·intro b v e;by_cases hb:b=a
  ·subst hb;rw[aa]at e;cases e;exact new
  ·rw[ai hb]at e;refine(J.hok b v e).stay (fun _ _ _ q=>q) (fun c' q=>?_) fun c' xs q=>?_
   ·rw[ai (ap q Hn)];exact q
   ·rw[ai (ap q Hn)];exact q
end
section
variable{prog:Program}{w:World}{A:Around}{E:Value->Shared->Prop}{s:Shared}{S:Addr}
theorem qO{ks:List Str}{Q:Value->Shared->Prop}(hh:A.handled=none)(hS:dn w S ks s.heap)(h64:ks.length<64)
 (hQ:∀(s':Shared) (l:Addr) (vs:List Value) (ss:List Str) (n:Nat),StrsAre vs ss->ss.Perm ks->sortedS ss=true->(∀b o,s.heap.get? b=some o->s'.heap.get? b=some o)->s'.gens=s.gens->s'.os=s.os->s.heap.objs.size<=l->s'.heap.get? l=some {cls:= .type "list",data:= .seq vs.toArray n}->Q (.ref l) s'):
 wpAny (model prog w) A (call (.builtin "sorted") [.ref S]) Q E s:=by
 refine Calls.call_function_entry kind_sorted plain_sorted entry_sorted (args_sorted1 _) ?_;unfold Builtin.«sorted»;refine Z2 (m:=checkCount "sorted" 1 1 _) (Z3 ?_);refine Z2 (oU (show A.in1.handled=none from hh) hS fun s1 vs ss q1 q2 k1 g1 o1 sle=>?_);have hl:vs.length<64:=by rw[ce q1,q2.length_eq];exact h64
 refine Z2 (wpAny_newList ?_ (by rw[sizeLine_eq];lia));have gL:(s1.heap.push (seqObj "list" vs.toArray 0)).get? s1.heap.objs.size=some (seqObj "list" vs.toArray 0):=Zj _ rfl;refine Z2 (wpAny_holding (wpAny_call_entry slot_list_sort ⟨_,gL,rfl⟩ entry_list_sort (list_sort_treeK (s:={s1 with heap:=s1.heap.push (seqObj "list" vs.toArray 0)}) strKind_oneLt gL q1.keysOf (fun v₁ v₂ rest e=>keyKind_strs (by rw[<-e];exact q1)) hl fun st' hp hs=>⟨_,rfl,?_⟩) (args_list_sort _)));obtain⟨ts,r1,r2,r3⟩:=sorted_out_str q1 hp hs;obtain⟨n,gl⟩:∃n,(sortedHeap (s1.heap.push (seqObj "list" vs.toArray 0)) s1.heap.objs.size vs ((arrOf st').map (·.2))).get? s1.heap.objs.size=some (seqObj "list" ((arrOf st').map (·.2)) n):=sortedHeap_at gL;refine Z3 ⟨_,rfl,hQ _ s1.heap.objs.size ((arrOf st').map (·.2)).toList ts n r1 (r2.trans q2) r3 (fun b o' e=>?_) g1 o1 sle ?_⟩
 rotate_left
 ·show _=some (seqObj "list" ((arrOf st').map (·.2)).toList.toArray n);rw[Array.toArray_toList];exact gl
 have e1:=k1 b o' e;have blt:=Zv e1;show(sortedHeap _ _ _ _).get? b=_;rw[sortedHeap_old (Zt blt) (by rw[Zq];exact Yj blt)];exact Z7 _ e1
end
section
variable{X:Cx}{K:PySem.W.Frag}
theorem m7(hc:X.calm=true):cq X (.builtin "sorted") (fun xs H Q=>∃a ks,xs=[.ref a]/\H a=some (qL X.w a ks)/\ks.length<64/\∀l ss,H l=none->ss.Perm ks->sortedS ss=true->Q (.ref l) (upd H l (.lst (ss.map V.str)))):=by
 intro pins s σ H xs us Q I r h;obtain⟨a,ks,rfl,ha,hl,q⟩:=h;obtain⟨u,rfl,ru⟩:=d0 r;cases ru;obtain⟨S,_,_⟩:=(show br X.prog X.w H s.heap a (qL X.w a ks)from I.hok a _ ha)
 refine qO (I.ok.hd hc) S hl fun s' l vs ss n r1 r2 r3 k g o hle gl=>?_
 have hfree:H l=none:=I.hok.fresh hle;have J:Inv X pins σ H s':=I.keptS k g o;refine⟨.ref l,_,I.stoodS (o:= .lst (ss.map V.str)) J hle ⟨?_,vs,n,lZ r1,gl⟩,rfl,q l ss hfree r2 r3⟩;rw[Z6,r2.length_eq,sizeLine_eq]
 lia
theorem tW(h:X.w=w)(hc:X.calm=true):cJ X (.builtin "sorted") (fun xs H Q=>∃a ks,xs=[.ref a]/\H a=some (qL w a ks)/\ks.length<64/\∀l ss,H l=none->ss.Perm ks->sortedS ss=true->Q (.ref l) (upd H l (.lst (ss.map V.str)))):=by subst h;exact⟨m7 hc⟩
end
theorem ak{t u:TS}{D:gH}{σ:St}{H:Hp}(h:∀D':gH,(∀σ' H',u D σ' H'->D'.nx σ' H')->(∀v H',D.rt v H'->D'.rt v H')->t D' σ H):bL t u D σ H:=h _ (fun _ _ x=>x) fun _ _ x=>x
theorem aD{t:TS}{D:gH}{σ:St}{H:Hp}(h:∀D':gH,(∀σ' H',D.nx σ' H'->D'.nx σ' H')->(∀v H',D.rt v H'->D'.rt v H')->t D' σ H):t D σ H:=h _ (fun _ _ x=>x) fun _ _ x=>x
theorem iA{K:PySem.W.Frag}{a:PySem.Addr}{xs:List V}{g:TG}{tb:TS}{D:gH}{σ:St}{H:Hp}(Pv:Nat->St->Hp->Prop)(h0:Pv 0 σ H)(hl:∀i σ H,i<=xs.length->Pv i σ H->SqL K H a xs)
 (hs:∀i x T σ H,xs[i]? =some x->Pv i σ H->H T=none->g (.ref T) σ (upd H T (.tup [.int i,x])) fun σ2 H2=>tb {D with nx:=Pv (i+1),ct:=Pv (i+1),bk:=D.nx} σ2 H2) (hd:∀σ H,Pv xs.length σ H->D.nx σ H):
 ∃W:Nat->Nat->St->Hp->Prop,(∃m,W 0 m σ H)/\∀i m σ H,W i m σ H->
  ((Ite K a xs).stop i H/\D.nx σ H)\/((Ite K a xs).go i H/\∃N:St->Hp->Prop,(∀σ' H',N σ' H'->∃m',m'<m/\W (i+1) m' σ' H')/\∀x H',(Ite K a xs).yld i H x H'->g x σ H' fun σ2 H2=>tb {D with nx:=N,ct:=N,bk:=D.nx} σ2 H2):=by
 refine⟨fun i m σ H=>m=xs.length-i/\i<=xs.length/\Pv i σ H,⟨xs.length,by simp,X7 _,h0⟩,?_⟩;rintro i m σ H ⟨rfl,hi,p⟩;have q:=hl i σ H hi p;by_cases lt:i<xs.length
 ·refine .inr ⟨⟨q,lt⟩,Pv (i+1),fun σ' H' p'=>⟨xs.length-(i+1),by lia,rfl,lt,p'⟩,fun v H' y=>?_⟩;obtain⟨x,T,e,hT,rfl,rfl⟩:=y;exact hs i x T σ _ e p hT
 ·have e:i=xs.length:=by lia
  subst e;exact .inl ⟨⟨q,Zi _⟩,hd σ H p⟩
section
open PySem PySem.Spec PyProof.Rows
variable{X:Cx}{K:PySem.W.Frag}{pos:Pos}{a b:Expr}{ta tb:TE}
theorem cf:OpQ X (binaryOp .Add) (rI0 fun i j=> .int (i+j)):=⟨vc⟩
theorem eA:OpQ X (binaryOp .Mult) (rI vb fun i j=> .int (i*j)):=⟨vd⟩
theorem cA(h:X.K=K)(hs:jV b)(ha:QE X a ta)(hb:QE X b tb):QE X (.Subscript a b pos) (tOp (xW K) ta tb):=by subst h;exact⟨vF xZ ha.h hb.h hs⟩
theorem ixSE(hs:jV b)(ha:QE X a ta)(hb:QE X b tb):QE X (.Subscript a b pos) (tOp xY ta tb):=⟨vF Ae ha.h hb.h hs⟩
end
end L2
namespace Cut
open PySem L2 PyProof.Rows
noncomputable def d6:Str:="abcdefghijklmnopqrstuvwxyz"
noncomputable def fX(c:Nat):Bool:=decide (c∈d6.cps.toList)
noncomputable def okc(c:Nat):Bool:=decide (c=46)||fX c
noncomputable def nl:Str:="\n"
theorem BI:nl=⟨#[10]⟩:=rfl
theorem tX{c:Nat}:fX c=true↔97<=c/\c<=122:=by
 have e:d6.cps.toList=(List.range 26).map (·+97):=by decide +kernel
 unfold fX;rw[decide_eq_true_iff,e,mem_map]
 constructor
 ·rintro⟨i,h,rfl⟩;have:=mem_range.mp h
  lia
 ·rintro⟨h1,h2⟩;exact⟨c-97,mem_range.mpr (by lia),by lia⟩
theorem AI{c:Nat}(h:okc c=true):c≠10:=by
 intro e;subst e
 revert h
 decide +kernel
structure bY (rows:List Str):Prop where
 pos:1<=rows.length
 high:rows.length<=40
 wide:∃wd,1<=wd/\wd<=40/\∀r∈rows,r.cps.size=wd
 sign:∀r∈rows,r.cps.toList.all okc=true
 fall:∀(i:Nat) (r r':Str),rows[i]? =some r->rows[i+1]? =some r'->∀(j c c':Nat),r.cps[j]? =some c->r'.cps[j]? =some c'->c'=46->c=46
 some':∃r∈rows,∃c∈r.cps.toList,c≠46
theorem eW{x y:Str}(h:x.cps.toList=y.cps.toList):x=y:=by
 obtain⟨⟨l⟩⟩:=x;obtain⟨⟨m⟩⟩:=y;simp at h;rw[h]
theorem eK(sep x y:Str)(r:List Str):(Str.join sep (x::y::r)).cps.toList=x.cps.toList++sep.cps.toList++(Str.join sep (y::r)).cps.toList:=by
 show((x.cps++sep.cps) ++(Str.join sep (y::r)).cps).toList=_;rw[X4,X4]
theorem wn{α:Type}[DecidableEq α]{c:α}:∀{a b x y:List α},c∉a->c∉b->a++c::x=b++c::y->a=b/\x=y
 |[],[],_,_,_,_,h=>⟨rfl,(List.cons.inj h).2⟩
 |[],b::bs,_,_,_,hb,h=>absurd (by rw[<-(List.cons.inj h).1];exact Zm) hb
 | a::as,[],_,_,ha,_,h=>absurd (by rw[(List.cons.inj h).1];exact Zm) ha
 | a::as,b::bs,x,y,ha,hb,h=>by
   obtain⟨h1,h2⟩:=List.cons.inj h;obtain⟨e1,e2⟩:=wn (fun q=>ha (Zk _ q)) (fun q=>hb (Zk _ q)) h2;exact⟨by rw[h1,e1],e2⟩
theorem oV{c:Nat}:∀{ps qs:List Str},ps≠[]->qs≠[]->(∀p∈ps,c∉p.cps.toList)->(∀q∈qs,c∉q.cps.toList)->(Str.join ⟨#[c]⟩ ps).cps.toList=(Str.join ⟨#[c]⟩ qs).cps.toList->ps=qs
 |[],_,h,_,_,_,_=>absurd rfl h
 | _,[],_,h,_,_,_=>absurd rfl h
 |[p],[q],_,_,_,_,e=>by rw[eW (show p.cps.toList=q.cps.toList from e)]
 |[p],q::q2::qs,_,_,hp,_,e=>by
  rw[eK]at e;refine absurd ?_ (hp p Zm);rw[show p.cps.toList=(Str.join ⟨#[c]⟩ [p]).cps.toList from rfl,e];simp
 | p::p2::ps,[q],_,_,_,hq,e=>by
   rw[eK]at e;refine absurd ?_ (hq q Zm);rw[show q.cps.toList=(Str.join ⟨#[c]⟩ [q]).cps.toList from rfl,<-e];simp
 | p::p2::ps,q::q2::qs,_,_,hp,hq,e=>by
   rw[eK,eK,Ze,Ze]at e;obtain⟨e1,e2⟩:=wn (c:=c) (hp p Zm) (hq q Zm) e;rw[eW e1,oV (by simp) (by simp) (fun x hx=>hp x (Zk _ hx)) (fun x hx=>hq x (Zk _ hx)) e2]
theorem qP{rows:List Str}(h0:rows≠[])(h:∀r∈rows,10∉r.cps.toList):Txt.split (Str.join nl rows) nl=rows:=by
 have e:=StrLaws.join_split (Str.join nl rows) nl;rw[BI]at e ⊢;refine oV (c:=10) ?_ h0 (StrLaws.split_free _ 10) h (by rw[e]);intro q;have:=split_pos (Str.join ⟨#[10]⟩ rows) ⟨#[10]⟩;rw[q]at this;simp at this
theorem bY.nonl{rows:List Str}(h:bY rows):∀r∈rows,10∉r.cps.toList:=fun r hr hm=>by
 have:=all_eq_true.mp (h.sign r hr) 10 hm;exact AI this rfl
theorem bY.split{rows:List Str}(h:bY rows):Txt.split (Str.join nl rows) nl=rows:=
 qP (fun e=>by have:=h.pos;rw[e]at this;simp at this) h.nonl
theorem kA{α:Type}{f:α->Nat}{B:Nat}:∀{xs:List α},(∀x∈xs,f x<=B)->(xs.map f).sum<=xs.length*B
 |[],_=>by simp
 | x::r,h=>by
   have h1:=kA fun y hy=>h y (Zk _ hy)
   have h2:=h x Zm;rw[Ym,List.sum_cons,Zr,Nat.succ_mul]
   lia
theorem bY.sum{rows:List Str}(h:bY rows):(rows.map (·.length)).sum<=1600:=by
 obtain⟨wd,_,w2,h3⟩:=h.wide;have:=kA (f:=fun r:Str=>r.length) (B:=40) (xs:=rows) fun r hr=>by have:=h3 r hr;show r.cps.size<=40;lia
 have:=h.high;have h5:rows.length*40<=40*40:=Nat.mul_le_mul_right _ this
 lia
theorem bY.text{rows:List Str}(h:bY rows):(Str.join nl rows).length<=2000:=by
 have h1:=StrLaws.join_length_le nl rows;have h2:=h.sum;have h3:=h.high;have h4:nl.length=1:=rfl;rw[h4]at h1
 lia
noncomputable def sgn(c:Nat):Str:=⟨#[c]⟩
theorem gY{cs:List Nat}(h:∀c∈cs,fX c=true):(aE (cs.map sgn)).length<=26:=by
 have hs:∀x∈aE (cs.map sgn),x∈d6.cps.toList.map sgn:=fun x hx=>by
  obtain⟨c,hc,e⟩:=Xi (dr.mp hx);exact Xj ⟨c,Zo (h c hc),e⟩
 have:=List.Nodup.length_le_of_subset (fW (cs.map sgn)) hs;rw[Z6]at this;have e:d6.cps.toList.length=26:=by decide +kernel
 lia
noncomputable def cj(rows:List Str):List Nat:=(Str.join (Str.ofString "") rows).cps.toList.filter (fun c=>decide (c≠46))
theorem oW:∀(rows:List Str),(Str.join (Str.ofString "") rows).cps.toList=(rows.map (·.cps.toList)).flatten
 |[]=>rfl
 |[x]=>by simp[Str.join]
 | x::y::r=>by
   have e:(Str.ofString "").cps.toList=[]:=rfl;rw[eK,oW (y::r),e,Zz];simp
theorem i7{rows:List Str}(h:∀r∈rows,r.cps.toList.all okc=true):∀c∈cj rows,fX c=true:=fun c hc=>by
 unfold cj at hc;rw[List.mem_filter,oW]at hc;obtain⟨h1,h2⟩:=hc;obtain⟨l,hl,hm⟩:=List.mem_flatten.mp h1;obtain⟨r,hr,rfl⟩:=Xi hl;have:=all_eq_true.mp (h r hr) c hm;unfold okc at this;rw[or_eq_true]at this;rcases this with q|q
 ·exact absurd (Zo q) (Zo h2)
 ·exact q
theorem bY.signs_ne{rows:List Str}(h:bY rows):cj rows≠[]:=by
 obtain⟨r,hr,c,hc,hne⟩:=h.some';intro e;have:c∈cj rows:=by
  unfold cj;rw[List.mem_filter,oW];exact⟨List.mem_flatten.mpr ⟨_,Xj ⟨r,hr,rfl⟩,hc⟩,Zf hne⟩
 rw[e]at this;cases this
noncomputable def m8(z:Str):Bool:=(decide (1<=(z.length:Int))&&decide ((z.length:Int)<=40))&&z.cps.toList.all okc
noncomputable def dM(row above:Str):Bool:=decide (row.length=above.length)&&(List.zip above.cps.toList row.cps.toList).all fun p=>!decide (p.2=46)||decide (p.1=46)
theorem bY.row{rows:List Str}(h:bY rows){r:Str}(hr:r∈rows):m8 r=true:=by
 obtain⟨wd,w1,w2,h3⟩:=h.wide;have e:r.length=wd:=h3 r hr;unfold m8;rw[h.sign r hr,e,Zf (by lia),Zf (by lia)];rfl
theorem bY.beneath{rows:List Str}(h:bY rows){i:Nat}{r r':Str}(h1:rows[i]? =some r)(h2:rows[i+1]? =some r'):dM r' r=true:=by
 obtain⟨wd,w1,w2,h3⟩:=h.wide;have e1:r.length=wd:=h3 r (Z8 h1);have e2:r'.length=wd:=h3 r' (Z8 h2);unfold dM;rw[Zf (e2.trans e1.symm),Bool.true_and,all_eq_true];intro p hp;obtain⟨j,hj⟩:=X8 hp;rw[List.getElem?_zip_eq_some]at hj;have g1:r.cps[j]? =some p.1:=by simpa using hj.1
 have g2:r'.cps[j]? =some p.2:=by simpa using hj.2
 have:=h.fall i r r' h1 h2 j p.1 p.2 g1 g2;by_cases q:p.2=46
 ·rw[Zf (this q),Bool.or_true]
 ·rw[Zh q];rfl
theorem qQ(cs:List Nat):(Str.join (Str.ofString "") (cs.map sgn))=⟨cs.toArray⟩:=by
 refine eW ?_;rw[oW,Yn];show((cs.map (fun c=>[c])).flatten)=cs
 induction cs with
 | nil=>rfl
 | cons c r ih=>rw[Ym,flatten_cons,ih];rfl
theorem sD:∀cs:List Nat,((cs.map sgn).map (fun x=>x.length)).sum=cs.length
 |[]=>rfl
 | c::r=>by
   rw[Ym,Ym,List.sum_cons,sD r,Zr];show 1+r.length=r.length+1
   lia
end Cut
namespace Cut
open PySem L2
end Cut
namespace L2
open PySem PySem.Spec PyProof.Rows
def Up(B:Heap)(l:List Env)(e:Addr)(cls:Value)(dct:Option Addr)(fl:Option Value)(h:Heap):Prop:=
 B.StaysIn h/\B.get? e=none/\h.FunFrames B l/\∃oe vs,h.get? e=some oe/\oe.cls=cls/\oe.dict=dct/\oe.data= .fields vs/\1<vs.size/\
  match fl with
  | none=>vs[1]? =some .none
  | some f=>∃T oT ts,vs[1]? =some (.ref T)/\B.get? T=none/\T≠e/\h.get? T=some oT/\oT.data= .fields ts/\ts[3]? =some f
section
variable{M:Model}{A:Around}{E:Value->Shared->Prop}{s:Shared}{B:Heap}{env:Env}{outer:List Env}{L e:Addr}{cls:Value}{dct:Option Addr}{Q:Unit->Shared->Prop}
end
section
variable{P:Program}{w:World}{H:Hp}{h:Heap}{a:Addr}{o:HO}
end
structure Fl (P:Program) (w:World) (l:List Env) (H:Hp) (s:Shared) (ea:Addr) (B:Heap) (cls:Value) (dx:Option Addr) (fl:Option Value) (H':Hp) (s':Shared):Prop where
 os:s'.os=s.os
 bare:AllBare s'.gens
 un:Un (frs l) [] H H' s.heap s'.heap
 hok:HOk P w H' s'.heap
 up:Up B l ea cls dx fl s'.heap
 free:H' ea=none
 new:s.heap.get? ea=none
 inB:∀b ob,s'.heap.get? b=some ob->((∃o,s.heap.get? b=some o)\/∃o,H' b=some o)->b∉frs l->B.get? b=some ob
 frf:∀b∈frs l,H' b=none
section
variable{P:Program}{w:World}{l:List Env}{H H':Hp}{s s':Shared}{ea:Addr}{B h':Heap}{cls:Value}{dx:Option Addr}{fl fl':Option Value}
end
section
variable{P:Program}{w:World}{K:PySem.W.Frag}{mg:Str->Option Value}{base:Heap}{N:List Str}{qual:Str}{scope:Scope}{f:Addr}{cd:Value}{A:Around}{outer:List Env}{s₀:Shared}{H₀:Hp}{E:XK}
end
section
variable{prog:Program}{w:World}{A:Around}{E:Value->Shared->Prop}{h:Heap}{g:Array GenState}{d:Drawn}{t:Nat}{os:OsState}
variable{nm q:Str}{C N:Addr}{bs bm bmB:List Value}{hdct:Bool}{sn:List Str}{sub:List Value}{ab:Bool}{col:Option Bool}{dd:Option Addr}{k0 k1 k2 k3 k5:Option Value}{B newId initId:String}
end
section
variable{prog:Program}{w:World}{A:Around}{E:Value->Shared->Prop}{s:Shared}{K:PySem.W.Frag}{x C:Addr}{name:Str}{v:Value}{ox:Obj}{od:Option Obj}
end
section
variable{X:Cx}{C f:Addr}
end
section
variable{X:Cx}{pins:List (Addr×Obj)}{σ:St}{H:Hp}{s s':Shared}
end
section
variable{X:Cx}{C D f:Addr}{x nm:Str}{p pos pos' apos:Pos}{e o value:Expr}{es:List Expr}{t:TA}{ta tv:TE}{r:List V->Hp->VK->Prop}
end
def AJ(te:TE):TE:=fun σ H Q=>te σ H fun v H1=>(∃i:Int,v= .int i/\i.natAbs<2^64/\Q (.str (toString i)) H1)\/∃y:Str,v= .str y/\y.length<=sizeLine/\Q (.str y) H1
def kB:List TE->Str->TE
 |[],out=>fun σ H Q=>out.length<=sizeLine/\Q (.str out) H
 | t::ts,out=>fun σ H Q=>t σ H fun v H1=>∃y:Str,v= .str y/\(out++y).length<=sizeLine/\kB ts (out++y) σ H1 Q
inductive PJ (X:Cx):List Expr->List TE->Prop
 | nil:PJ X [] []
 | cons {e:Expr} {es:List Expr} {t:TE} {ts:List TE}:PE X e t->PJ X es ts->PJ X (e::es) (t::ts)
section
variable{X:Cx}{e v1 v2:Expr}{rest:List Expr}{te t1 t2:TE}{ts:List TE}{pos:Pos}
theorem AK(he:PE X e te):PE X (.FormattedValue e (-1) none pos) (AJ te):=by
 intro pins s σ H Q I h;refine FormattedValue_plain (thn (he pins s σ H _ I h) fun u s1 ⟨v,H1,I1,r,q⟩=>?_);rcases q with⟨i,rfl,hi,q⟩|⟨y,rfl,hy,q⟩
 ·obtain⟨t,rfl⟩:=(show∃t,u=Value.int i t from r)
  have hl:i.natAbs.log2<1920:=by
   by_cases z:i.natAbs=0
   ·rw[z];decide
   ·exact(Nat.log2_lt z).mpr (Zg hi (Nat.pow_le_pow_right (by decide) (by decide)))
  exact formatField_int_small hl ⟨V.str (toString i),H1,I1.tok _,⟨_,rfl⟩,q⟩
 ·obtain⟨t,rfl⟩:=(show∃t,u=Value.str y t from r)
  exact formatField_str (fun t' tk=>⟨.str y,H1,I1.tok _,⟨_,rfl⟩,q⟩) hy
theorem wo{es:List Expr}(h:PJ X es ts):∀(out:Str) (pins:List (Addr×Obj)) (s:Shared) (σ:St) (H:Hp) (Q:VK),Inv X pins σ H s->kB ts out σ H Q->
 wpAny (model X.prog X.w) X.A (joinParts out (evalEach es X.env)) (EP X pins σ Q) X.xe s:=by
 induction h with
 | nil=>exact fun out pins s σ H Q I ⟨hz,q⟩=>joinParts_nil ⟨.str out,H,I.tok _,⟨_,rfl⟩,q⟩ hz
 | cons he _ ih=>
   intro out pins s σ H Q I q;refine joinParts_cons (thn (he pins s σ H _ I q) fun u s1 ⟨v,H1,I1,r,y,ev,hz,q1⟩=>?_);subst ev;obtain⟨t,rfl⟩:=(show∃t,u=Value.str y t from r)
   exact⟨hz,ih _ pins s1 σ H1 Q I1 q1⟩
theorem yx(h:PJ X (v1::v2::rest) ts):PE X (.JoinedStr (v1::v2::rest) pos) (kB ts Str.empty):=fun pins s σ H Q I q=>
 JoinedStr_many (wo h _ pins s σ H Q I q)
end
section
variable{X:Cx}{k:Nat}{f C:Addr}{fd:FuncData}{ps:List Str}{sp:Sp}{x:Str}{p pos cpos:Pos}{e:Expr}{es:List Expr}{te:TE}{t:TA}
end
noncomputable def drop(H:Hp)(a:Addr):Hp:=fun b=>if b=a then none else H b
section
variable{X:Cx}{pins:List (Addr×Obj)}{σ:St}{H:Hp}{s s':Shared}
end
section
variable{M:Model}{A:Around}{E:Value->Shared->Prop}{s:Shared}{K:PySem.W.Frag}{D C e:Addr}{oe:Obj}{b:Bool}{Q:Bool->Shared->Prop}
end
section
variable{X:Cx}{pins pins' pn:List (Addr×Obj)}{σ:St}{H:Hp}{s:Shared}{E:Value->Shared->Prop}
end
section
variable{prog:Program}{w:World}{A:Around}{E:Value->Shared->Prop}{s:Shared}{K:PySem.W.Frag}{x C:Addr}{name:Str}{v:Value}{ox:Obj}{od:Option Obj}
end
section
variable{prog:Program}{w:World}{A:Around}{E:Value->Shared->Prop}{s:Shared}{K:PySem.W.Frag}{x C:Addr}{ox:Obj}{od:Option Obj}
end
section
variable{X:Cx}{pins:List (Addr×Obj)}{σ:St}{H:Hp}{s:Shared}
end
noncomputable def ck(mg:Str->Option Value)(x:Str):Addr:=match mg x with
 | some (.ref C)=>C
 | _=>0
theorem yy{mg:Str->Option Value}{x:Str}{C:Addr}(h:mg x=some (.ref C)):ck mg x=C:=by unfold ck;rw[h]
section
variable{P:Program}{w:World}{K:PySem.W.Frag}{mg:Str->Option Value}{base:Heap}{x qual:Str}{st:Stmt}{N ps:List Str}{k:Nat}{sp:Sp}
end
section
variable{X:Cx}{K:PySem.W.Frag}{pos:Pos}
theorem AL{e:Expr}{te:TE}(he:QE X e te):QE X (.FormattedValue e (-1) none pos) (AJ te):=⟨AK he.h⟩
theorem zg:PJ X [] []:= .nil
theorem pjE{e:Expr}{es:List Expr}{t:TE}{ts:List TE}(he:QE X e t)(h:PJ X es ts):PJ X (e::es) (t::ts):= .cons he.h h
theorem zh{v1 v2:Expr}{rest:List Expr}{ts:List TE}(h:PJ X (v1::v2::rest) ts):QE X (.JoinedStr (v1::v2::rest) pos) (kB ts Str.empty):=⟨yx h⟩
end
section
variable{prog:Program}{w:World}{A:Around}{E:Value->Shared->Prop}{s:Shared}
end
section
variable{prog:Program}{w:World}{A:Around}{E:Value->Shared->Prop}{s:Shared}
end
section
variable{prog:Program}{w:World}{A:Around}{E:Value->Shared->Prop}{s:Shared}
end
section
variable{prog:Program}{w:World}{A:Around}{E:Value->Shared->Prop}{s:Shared}
end
section
variable{X:Cx}{K:PySem.W.Frag}{pos:Pos}
end
end L2
namespace SBig
open PySem PyProof.Rows
section
variable(prog:Program)(w:World)(A:Around)(SI:Shared->Prop)
def SC{α:Type}(m:StateT SortSt Sem α)(Q:α->SortSt->Prop)(st:SortSt):Prop:=
 ∀s,SI s->wpAny (model prog w) A (m.run st) (fun r s'=>SI s'/\Q r.1 r.2) (fun _ _=>False) s
def Cmp(κ:SortKind)(D:Keyed->Prop)(N:Keyed->Nat):Prop:=
 ∀x y s,D x->D y->SI s->wpAny (model prog w) A (keyLt' κ x.1 y.1) (fun b s'=>b=decide (N x<N y)/\SI s') (fun _ _=>False) s
end
section
variable{prog:Program}{w:World}{A:Around}{SI:Shared->Prop}{α β:Type}
theorem ae{a:α}{Q:α->SortSt->Prop}{st:SortSt}(h:Q a st):(SC prog w A SI) (pure a) Q st:=fun s hs=>by
 rw[StateT.run_pure];exact Z3 ⟨hs,h⟩
theorem ad{m:StateT SortSt Sem α}{f:α->StateT SortSt Sem β}{Q:β->SortSt->Prop}{st:SortSt}(h:(SC prog w A SI) m (fun a st'=>(SC prog w A SI) (f a) Q st') st):(SC prog w A SI) (m>>= f) Q st:=fun s hs=>by
 rw[StateT.run_bind];exact Z2 (wpAny_mono (h s hs) (fun r s' h'=>h'.2 s' h'.1) fun _ _ e=>e)
theorem aT{m:StateT SortSt Sem α}{Q Q':α->SortSt->Prop}{st:SortSt}(h:(SC prog w A SI) m Q st)(hq:∀a st',Q a st'->Q' a st'):(SC prog w A SI) m Q' st:=fun s hs=>
 wpAny_mono (h s hs) (fun r s' h'=>⟨h'.1,hq _ _ h'.2⟩) fun _ _ e=>e
theorem c8{Q:SortSt->SortSt->Prop}{st:SortSt}(h:Q st st):(SC prog w A SI) get Q st:=fun s hs=>by
 rw[StateT.run_get];exact Z3 ⟨hs,h⟩
theorem bq{f:SortSt->SortSt}{Q:PUnit->SortSt->Prop}{st:SortSt}(h:Q ⟨⟩ (f st)):(SC prog w A SI) (modify f) Q st:=fun s hs=>by
 rw[StateT.run_modify];exact Z3 ⟨hs,h⟩
theorem AM{x:SortSt}{Q:PUnit->SortSt->Prop}{st:SortSt}(h:Q ⟨⟩ x):(SC prog w A SI) (set x) Q st:=fun s hs=>by
 rw[StateT.run_set];exact Z3 ⟨hs,h⟩
theorem sE{m:Sem α}{Q:α->SortSt->Prop}{st:SortSt}(h:∀s,SI s->wpAny (model prog w) A m (fun a s'=>SI s'/\Q a st) (fun _ _=>False) s):(SC prog w A SI) (liftM m:StateT SortSt Sem α) Q st:=fun s hs=>by
 show wpAny _ _ ((StateT.lift m:StateT SortSt Sem α).run st) _ _ s;rw[StateT.run_lift];exact Z2 (wpAny_mono (h s hs) (fun a s' h'=>Z3 h') fun _ _ e=>e)
theorem eX{t:String}{Q:Unit->SortSt->Prop}{st:SortSt}(h:Q () st):(SC prog w A SI) (liftM (rule t):StateT SortSt Sem Unit) Q st:=sE fun s hs=>wpAny_rule ⟨hs,h⟩
theorem aG{a b:Nat}{c:β}{f:Nat->β->StateT SortSt Sem (ForInStep β)}{Q:β->SortSt->Prop}{st:SortSt}(I:Nat->β->SortSt->Prop)(hab:a<=b)(h0:I a c st)
 (hs:∀i x st,a<=i->i<b->I i x st->(SC prog w A SI) (f i x) (fun r st'=>match r with| .done y=>Q y st'| .yield y=>I (i+1) y st') st) (he:∀x st,I b x st->Q x st):(SC prog w A SI) (forIn [a:b] c f) Q st:=by
 rw[Std.Legacy.Range.forIn_eq_forIn_range'];have hsz:([a:b]:Std.Legacy.Range).size=b-a:=by simp[Std.Legacy.Range.size]
 show(SC prog w A SI) (forIn (List.range' a ([a:b]:Std.Legacy.Range).size 1) c f) Q st;rw[hsz];have go:∀(d i:Nat) (x:β) (st:SortSt),i+d=b->a<=i->I i x st->(SC prog w A SI) (forIn (List.range' i d 1) x f) Q st:=by
  intro d
  induction d with
  | zero=>
    intro i x st e _ hI;have e:i=b:=by lia
    subst e;rw[List.range'_zero,forIn_nil];exact ae (he x st hI)
  | succ d ih=>
    intro i x st e ha hI;rw[List.range'_succ,forIn_cons];refine ad (aT (hs i x st ha (by lia) hI) fun r st' h'=>?_);cases r with
    | done y=>exact ae h'
    | yield y=>exact ih (i+1) y st' (by lia) (by lia) h'
 exact go (b-a) a c st (by lia) (Zi _) h0
theorem az{xs:Array Keyed}{i:Nat}{x:Keyed}{Q:Keyed->SortSt->Prop}{st:SortSt}(hx:xs[i]? =some x)(h:Q x st):(SC prog w A SI) (elem' xs i) Q st:=by
 rw[elem'_eq,hx];exact ae h
theorem oX{D:Keyed->Prop}{N:Keyed->Nat}{x y:Keyed}{Q:Option Bool->SortSt->Prop}{st:SortSt}(c:Cmp prog w A SI (kindOf st) D N)(hx:D x)(hy:D y)(h:Q (some (decide (N x<N y))) st):(SC prog w A SI) (lt' x y) Q st:=by
 rw[lt'_eq];refine ad (c8 ?_);refine ad (sE (fun s hs=>wpAny_attempt (wpAny_mono (c x y s hx hy hs) (fun b s' ⟨hb,hs'⟩=>?_) fun _ _ e=>e.elim)));subst hb;exact⟨hs',ae h⟩
theorem yz{D:Keyed->Prop}{N:Keyed->Nat}{i j:Nat}{x y:Keyed}{Q:Option Bool->SortSt->Prop}{st:SortSt}(c:Cmp prog w A SI (kindOf st) D N)(hi:(arrOf st)[i]? =some x)(hj:(arrOf st)[j]? =some y)(hx:D x)(hy:D y)
 (h:Q (some (decide (N x<N y))) st):(SC prog w A SI) (ltAt' i j) Q st:=by
 rw[ltAt'_eq];refine ad (c8 ?_);exact ad (az hi (ad (az hj (oX c hx hy h))))
end
noncomputable def d7:Bool->Keyed->Array Keyed->Nat->Nat->Nat->StateT SortSt Sem (Option Nat):=sortPriv% PySem.Builtin.gallop
theorem qR(left:Bool)(key:Keyed)(arr:Array Keyed)(base n hint:Nat):d7 left key arr base n hint=(do
 let beyond (i:Nat):StateT SortSt Sem (Option Bool):=do
  let x<-elem' arr (base+i)
  if left then lt' x key else return (<-lt' key x).map (!·)
 let mut lastofs:=0
 let mut ofs:=1
 let mut lo:=0
 let mut hi:=0
 let some right<-beyond hint|return none
 if right then
  let maxofs:=n-hint
  for _ in [0:n] do
   if ofs>=maxofs then break
   let some more<-beyond (hint+ofs)|return none
   if !more then break
   lastofs:=ofs
   ofs:=2*ofs+1
  lo:=hint+lastofs+1
  hi:=hint+min ofs maxofs
 else
  let maxofs:=hint+1
  for _ in [0:n] do
   if ofs>=maxofs then break
   let some found<-beyond (hint-ofs)|return none
   if found then break
   lastofs:=ofs
   ofs:=2*ofs+1
  lo:=hint+1-min ofs maxofs
  hi:=hint-lastofs
 for _ in [0:n] do
  if lo>=hi then break
  let m:=lo+(hi-lo)/2
  let some more<-beyond m|return none
  if more then lo:=m+1 else hi:=m
 return some hi):=rfl
end SBig
namespace SBig
open PySem PyProof.Rows
section
variable{prog:Program}{w:World}{A:Around}{SI:Shared->Prop}{α β:Type}
noncomputable def bz(N:Keyed->Nat)(left:Bool)(key x:Keyed):Bool:=if left then decide (N x<N key)else !decide (N key<N x)
theorem tY{D:Keyed->Prop}{N:Keyed->Nat}{left:Bool}{key x:Keyed}{arr:Array Keyed}{i:Nat}{Q:Option Bool->SortSt->Prop}{st:SortSt}(c:Cmp prog w A SI (kindOf st) D N)(hk:D key)(hx:arr[i]? =some x)(hd:D x)
 (h:Q (some (bz N left key x)) st):(SC prog w A SI) (do let x<-elem' arr i;if left=true then lt' x key else do let y<-lt' key x;pure (y.map (!·))) Q st:=by
 refine ad (az hx ?_);cases left with
 | true=>
   rw[if_pos rfl];exact oX c hd hk h
 | false=>
   rw[if_neg (by simp)];exact ad (oX c hk hd (ae h))
theorem cD{D:Keyed->Prop}{N:Keyed->Nat}{left:Bool}{key:Keyed}{arr:Array Keyed}{base n hint:Nat}{Q:Option Nat->SortSt->Prop}{st:SortSt}(c:Cmp prog w A SI (kindOf st) D N)(hk:D key)
 (ha:∀i,i<n->∃x,arr[base+i]? =some x/\D x) (P:Nat->Bool) (hP:∀i x,i<n->arr[base+i]? =some x->P i=bz N left key x) (hmono:∀i j,i<=j->j<n->P j=true->P i=true) (hh:hint<n)
 (h:∀k,k<=n->(∀i,i<k->P i=true)->(∀i,k<=i->i<n->P i=false)->Q (some k) st):(SC prog w A SI) (d7 left key arr base n hint) Q st:=by
 have ask:∀(i:Nat) (R:Option Bool->SortSt->Prop),i<n->R (some (P i)) st->(SC prog w A SI) (do let x<-elem' arr (base+i);if left=true then lt' x key else do let y<-lt' key x;pure (y.map (!·))) R st:=fun i R hi hR=>by
  obtain⟨x,hx,hd⟩:=ha i hi;exact tY c hk hx hd (by rw[<-hP i x hi hx];exact hR)
 rw[qR];refine ad (ask hint _ hh ?_);dsimp only
 split
 ·rename_i hr
  refine ad (aT (aG (Q:=fun x st'=>st'=st/\∃l o,x=(none,l,o)/\l<o/\hint+l<n/\P (hint+l)=true/\(n-hint<=o\/(hint+o<n/\P (hint+o)=false)))
   (fun j x st'=>st'=st/\∃l o,x=(none,l,o)/\l<o/\hint+l<n/\P (hint+l)=true/\j<o) (X7 _) ⟨rfl,0,1,rfl,by lia,by lia,hr,by lia⟩ ?_ ?_) ?_)
  ·rintro j x st' _ hj ⟨rfl,l,o,rfl,hlo,hln,hp,hjo⟩;dsimp only;by_cases hge:o>=n-hint
   ·rw[if_pos hge];exact ae ⟨rfl,l,o,rfl,hlo,hln,hp,.inl hge⟩
   ·rw[if_neg hge];refine ad (ask _ _ (by lia) ?_);dsimp only;cases hq:P (hint+o)with
    | true=>
      rw[if_neg (by simp)];exact ae ⟨rfl,o,_,rfl,by lia,by lia,hq,by lia⟩
    | false=>
      rw[if_pos (by simp)];exact ae ⟨rfl,l,o,rfl,hlo,hln,hp,.inr ⟨by lia,hq⟩⟩
  ·rintro x st' ⟨rfl,l,o,rfl,hlo,hln,hp,hjo⟩;exact⟨rfl,l,o,rfl,hlo,hln,hp,.inl (by lia)⟩
  ·rintro x st0 ⟨e0,l,o,rfl,hlo,hln,hp,ho⟩;subst e0;dsimp only;have z1:∀i,i<hint+l+1->P i=true:=fun i hi=>hmono i _ (by lia) hln hp
   have z2:∀i,hint+min o (n-hint)<=i->i<n->P i=false:=fun i hi hin=>by
    rcases ho with ho|⟨ho,hq⟩
    ·lia
    ·cases hz:P i with
     | false=>rfl
     | true=>rw[hmono _ i (by lia) hin hz]at hq;cases hq
   have z3:hint+l+1<=hint+min o (n-hint):=by lia
   have z4:hint+min o (n-hint)<=n:=by lia
   refine ad (aT (aG (Q:=fun x st'=>st'=st0/\∃k,x=(none,k,k)/\k<=n/\(∀i,i<k->P i=true)/\(∀i,k<=i->i<n->P i=false))
    (fun j x st'=>st'=st0/\∃l k,x=(none,l,k)/\l<=k/\k-l<=n-j/\k<=n/\(∀i,i<l->P i=true)/\(∀i,k<=i->i<n->P i=false)) (X7 _) ⟨rfl,_,_,rfl,z3,by lia,z4,z1,z2⟩ ?_ ?_) ?_)
   ·rintro j x st' _ hj ⟨rfl,l,k,rfl,hlk,hm,hk,p1,p2⟩;dsimp only;by_cases hge:l>=k
    ·rw[if_pos hge];have:l=k:=by lia
     subst this;exact ae ⟨rfl,l,rfl,hk,p1,p2⟩
    ·rw[if_neg hge];have hmid:l+(k-l)/2<k:=by lia
     refine ad (ask _ _ (by lia) ?_);dsimp only;cases hp:P (l+(k-l)/2)with
     | true=>
       rw[if_pos rfl];exact ae ⟨rfl,_,_,rfl,by lia,by lia,hk,fun i hi=>hmono i _ (by lia) (by lia) hp,p2⟩
     | false=>
       rw[if_neg (by simp)];refine ae ⟨rfl,_,_,rfl,by lia,by lia,by lia,p1,fun i hi hin=>?_⟩;cases hq:P i with
       | false=>rfl
       | true=>rw[hmono _ i hi hin hq]at hp;cases hp
   ·rintro x st' ⟨rfl,l,k,rfl,hlk,hm,hk,p1,p2⟩;have:l=k:=by lia
    subst this;exact⟨rfl,l,rfl,hk,p1,p2⟩
   ·rintro x st' ⟨rfl,k,rfl,hk,p1,p2⟩;exact ae (h k hk p1 p2)
 ·rename_i hr
  have hr:P hint=false:=by simpa using hr
  refine ad (aT (aG (Q:=fun x st'=>st'=st/\∃l o,x=(none,l,o)/\l<o/\l<=hint/\P (hint-l)=false/\(hint+1<=o\/(o<=hint/\P (hint-o)=true)))
   (fun j x st'=>st'=st/\∃l o,x=(none,l,o)/\l<o/\l<=hint/\P (hint-l)=false/\j<o) (X7 _) ⟨rfl,0,1,rfl,by lia,by lia,hr,by lia⟩ ?_ ?_) ?_)
  ·rintro j x st' _ hj ⟨rfl,l,o,rfl,hlo,hln,hp,hjo⟩;dsimp only;by_cases hge:o>=hint+1
   ·rw[if_pos hge];exact ae ⟨rfl,l,o,rfl,hlo,hln,hp,.inl hge⟩
   ·rw[if_neg hge];refine ad (ask _ _ (by lia) ?_);dsimp only;cases hq:P (hint-o)with
    | false=>
      rw[if_neg (by simp)];exact ae ⟨rfl,o,_,rfl,by lia,by lia,hq,by lia⟩
    | true=>
      rw[if_pos rfl];exact ae ⟨rfl,l,o,rfl,hlo,hln,hp,.inr ⟨by lia,hq⟩⟩
  ·rintro x st' ⟨rfl,l,o,rfl,hlo,hln,hp,hjo⟩;exact⟨rfl,l,o,rfl,hlo,hln,hp,.inl (by lia)⟩
  ·rintro x st0 ⟨e0,l,o,rfl,hlo,hln,hp,ho⟩;subst e0;dsimp only;have z1:∀i,i<hint+1-min o (hint+1)->P i=true:=fun i hi=>by
    rcases ho with ho|⟨ho,hq⟩
    ·lia
    ·exact hmono i _ (by lia) (by lia) hq
   have z2:∀i,hint-l<=i->i<n->P i=false:=fun i hi hin=>by
    cases hz:P i with
    | false=>rfl
    | true=>rw[hmono _ i (by lia) hin hz]at hp;cases hp
   have z3:hint+1-min o (hint+1)<=hint-l:=by lia
   have z4:hint-l<=n:=by lia
   refine ad (aT (aG (Q:=fun x st'=>st'=st0/\∃k,x=(none,k,k)/\k<=n/\(∀i,i<k->P i=true)/\(∀i,k<=i->i<n->P i=false))
    (fun j x st'=>st'=st0/\∃l k,x=(none,l,k)/\l<=k/\k-l<=n-j/\k<=n/\(∀i,i<l->P i=true)/\(∀i,k<=i->i<n->P i=false)) (X7 _) ⟨rfl,_,_,rfl,z3,by lia,z4,z1,z2⟩ ?_ ?_) ?_)
   ·rintro j x st' _ hj ⟨rfl,l,k,rfl,hlk,hm,hk,p1,p2⟩;dsimp only;by_cases hge:l>=k
    ·rw[if_pos hge];have:l=k:=by lia
     subst this;exact ae ⟨rfl,l,rfl,hk,p1,p2⟩
    ·rw[if_neg hge];have hmid:l+(k-l)/2<k:=by lia
     refine ad (ask _ _ (by lia) ?_);dsimp only;cases hp:P (l+(k-l)/2)with
     | true=>
       rw[if_pos rfl];exact ae ⟨rfl,_,_,rfl,by lia,by lia,hk,fun i hi=>hmono i _ (by lia) (by lia) hp,p2⟩
     | false=>
       rw[if_neg (by simp)];refine ae ⟨rfl,_,_,rfl,by lia,by lia,by lia,p1,fun i hi hin=>?_⟩;cases hq:P i with
       | false=>rfl
       | true=>rw[hmono _ i hi hin hq]at hp;cases hp
   ·rintro x st' ⟨rfl,l,k,rfl,hlk,hm,hk,p1,p2⟩;have:l=k:=by lia
    subst this;exact⟨rfl,l,rfl,hk,p1,p2⟩
   ·rintro x st' ⟨rfl,k,rfl,hk,p1,p2⟩;exact ae (h k hk p1 p2)
end
end SBig
namespace SBig
open PySem PyProof.Rows
noncomputable def kC:Array Keyed->Array Keyed->StateT SortSt Sem (Array Keyed):=sortPriv% PySem.Builtin.mergeLo
noncomputable def kD:Array Keyed->Array Keyed->StateT SortSt Sem (Array Keyed):=sortPriv% PySem.Builtin.mergeHi
noncomputable def cw:Nat->StateT SortSt Sem Unit:=sortPriv% PySem.Builtin.setMinGallop
theorem cm(g:Nat):cw g=modify (fun s=>SortSt.mk' (kindOf s) (arrOf s) (pendingOf s) g (failedOf s)):=rfl
theorem oY(a b:Array Keyed):kC a b=(do
 rule "list.sort.merge-lo"
 let total:=a.size+b.size
 let done (out:Array Keyed) (ia ib:Nat):=out++a.extract ia a.size++b.extract ib b.size
 let lastOfA (out:Array Keyed) (ia ib:Nat):=out++b.extract ib b.size++a.extract ia a.size
 let mut out:Array Keyed:= #[<-elem' b 0]
 let mut ia:=0
 let mut ib:=1
 if ib==b.size then return done out ia ib
 if ia+1==a.size then return lastOfA out ia ib
 let mut minGallop:=gallopOf (<-get)
 for _ in [0:total] do
  let mut acount:=0
  let mut bcount:=0
  for _ in [0:total] do
   let some bWins<-lt' (<-elem' b ib) (<-elem' a ia)|return done out ia ib
   if bWins then
    out:=out.push (<-elem' b ib);ib:=ib+1;bcount:=bcount+1;acount:=0
    if ib==b.size then return done out ia ib
    if bcount>=minGallop then break
   else
    out:=out.push (<-elem' a ia);ia:=ia+1;acount:=acount+1;bcount:=0
    if ia+1==a.size then return lastOfA out ia ib
    if acount>=minGallop then break
  rule "list.sort.gallop"
  minGallop:=minGallop+1
  for _ in [0:total] do
   if minGallop>1 then minGallop:=minGallop-1
   cw minGallop
   let some k<-d7 false (<-elem' b ib) a ia (a.size-ia) 0|return done out ia ib
   acount:=k
   if k>0 then
    out:=out++a.extract ia (ia+k);ia:=ia+k
    if ia+1==a.size then return lastOfA out ia ib
    if ia==a.size then return done out ia ib
   out:=out.push (<-elem' b ib);ib:=ib+1
   if ib==b.size then return done out ia ib
   let some k<-d7 true (<-elem' a ia) b ib (b.size-ib) 0|return done out ia ib
   bcount:=k
   if k>0 then
    out:=out++b.extract ib (ib+k);ib:=ib+k
    if ib==b.size then return done out ia ib
   out:=out.push (<-elem' a ia);ia:=ia+1
   if ia+1==a.size then return lastOfA out ia ib
   if acount<7&&bcount<7 then break
  minGallop:=minGallop+1
  cw minGallop
 unsupported "internal:list.sort.merge-bound"):=rfl
def Srt(N:Keyed->Nat)(l:List Keyed):Prop:=l.Pairwise fun x y=>N x<=N y
theorem Srt.drop{N:Keyed->Nat}{l:List Keyed}(h:Srt N l)(k:Nat):Srt N (l.drop k):=List.Pairwise.sublist (List.drop_sublist _ _) h
theorem Srt.le{N:Keyed->Nat}{l:List Keyed}(h:Srt N l){i j:Nat}{x y:Keyed}(hij:i<=j)(hx:l[i]? =some x)(hy:l[j]? =some y):N x<=N y:=by
 rcases Nat.eq_or_lt_of_le hij with e|e
 ·subst e;rw[hx]at hy;cases hy;exact Zi _
 ·obtain⟨h1,e1⟩:=Xf hx;obtain⟨h2,e2⟩:=Xf hy;have:=List.pairwise_iff_getElem.mp h i j h1 h2 e;rwa[e1,e2]at this
theorem be{l:List Keyed}{k:Nat}{y:Keyed}(h:y∈l.drop k):∃j,k<=j/\j<l.length/\l[j]? =some y:=by
 obtain⟨i,hi⟩:=X8 h;rw[Y8]at hi;exact⟨k+i,by lia,(Xf hi).1,hi⟩
theorem fY{l:List Keyed}{i k:Nat}{x:Keyed}(h:x∈(l.drop i).take k):∃j,j<k/\l[i+j]? =some x:=by
 obtain⟨j,hj⟩:=X8 h;rw[Y9]at hj
 split at hj
 ·rw[Y8]at hj;exact⟨j,by assumption,hj⟩
 ·cases hj
theorem Srt.drop_le{N:Keyed->Nat}{l:List Keyed}(h:Srt N l){i:Nat}{x y:Keyed}(hx:l[i]? =some x)(hy:y∈l.drop i):N x<=N y:=by
 obtain⟨j,hj,_,e⟩:=be hy;exact h.le hj hx e
structure MI (N:Keyed->Nat) (A B out:List Keyed) (ia ib:Nat):Prop where
 perm:(out++A.drop ia++B.drop ib).Perm (A++B)
 srt:Srt N out
 ca:∀x∈out,∀y∈A.drop ia,N x<=N y
 cb:∀x∈out,∀y∈B.drop ib,N x<=N y
theorem MI.zero(N:Keyed->Nat)(A B:List Keyed):MI N A B [] 0 0:=⟨by simp,List.Pairwise.nil,fun _ h=>(nomatch h),fun _ h=>(nomatch h)⟩
theorem MI.takeA{N:Keyed->Nat}{A B out:List Keyed}{ia ib:Nat}(h:MI N A B out ia ib)(hA:Srt N A)(k:Nat)(hle:∀x∈(A.drop ia).take k,∀y∈B.drop ib,N x<=N y):MI N A B (out++(A.drop ia).take k) (ia+k) ib:=by
 have e:A.drop ia=(A.drop ia).take k++A.drop (ia+k):=by rw[<-drop_drop];exact(X3 k _).symm
 have sA:((A.drop ia).take k++A.drop (ia+k)).Pairwise fun x y=>N x<=N y:=by rw[<-e];exact hA.drop ia
 obtain⟨s1,_,s3⟩:=pairwise_append.mp sA;refine⟨?_,pairwise_append.mpr ⟨h.srt,s1,fun x hx y hy=>h.ca x hx y (Ys hy)⟩,fun x hx y hy=>?_,fun x hx y hy=>?_⟩
 ·have p:=h.perm;rw[e]at p;rwa[<-Ze]at p
 ·rcases Xg hx with hx|hx
  ·exact h.ca x hx y (by rw[e];exact Yp _ hy)
  ·exact s3 x hx y hy
 ·rcases Xg hx with hx|hx
  ·exact h.cb x hx y hy
  ·exact hle x hx y hy
theorem MI.takeB{N:Keyed->Nat}{A B out:List Keyed}{ia ib:Nat}(h:MI N A B out ia ib)(hB:Srt N B)(k:Nat)(hle:∀x∈(B.drop ib).take k,∀y∈A.drop ia,N x<=N y):MI N A B (out++(B.drop ib).take k) ia (ib+k):=by
 have e:B.drop ib=(B.drop ib).take k++B.drop (ib+k):=by rw[<-drop_drop];exact(X3 k _).symm
 have sB:((B.drop ib).take k++B.drop (ib+k)).Pairwise fun x y=>N x<=N y:=by rw[<-e];exact hB.drop ib
 obtain⟨s1,_,s3⟩:=pairwise_append.mp sB;refine⟨?_,pairwise_append.mpr ⟨h.srt,s1,fun x hx y hy=>h.cb x hx y (Ys hy)⟩,fun x hx y hy=>?_,fun x hx y hy=>?_⟩
 ·have p:=h.perm;rw[e]at p;refine List.Perm.trans ?_ p;rw[Ze,Ze,Ze];refine List.Perm.append_left _ ?_;rw[<-Ze,<-Ze];exact Xd _ perm_append_comm
 ·rcases Xg hx with hx|hx
  ·exact h.ca x hx y hy
  ·exact hle x hx y hy
 ·rcases Xg hx with hx|hx
  ·exact h.cb x hx y (by rw[e];exact Yp _ hy)
  ·exact s3 x hx y hy
def fI(N:Keyed->Nat)(A B r:List Keyed):Prop:=Srt N r/\r.Perm (A++B)
theorem MI.done{N:Keyed->Nat}{A B out:List Keyed}{ia ib:Nat}(h:MI N A B out ia ib)(hA:Srt N A)(hB:Srt N B)(hx:∀x∈A.drop ia,∀y∈B.drop ib,N x<=N y):fI N A B (out++A.drop ia++B.drop ib):=
 ⟨pairwise_append.mpr ⟨pairwise_append.mpr ⟨h.srt,hA.drop ia,h.ca⟩,hB.drop ib,fun x hx' y hy=>(Xg hx').elim (fun q=>h.cb x q y hy) fun q=>hx x q y hy⟩,h.perm⟩
theorem MI.last{N:Keyed->Nat}{A B out:List Keyed}{ia ib:Nat}(h:MI N A B out ia ib)(hA:Srt N A)(hB:Srt N B)(hx:∀y∈B.drop ib,∀x∈A.drop ia,N y<=N x):fI N A B (out++B.drop ib++A.drop ia):=by
 refine⟨pairwise_append.mpr ⟨pairwise_append.mpr ⟨h.srt,hB.drop ib,h.cb⟩,hA.drop ia,fun x hx' y hy=>(Xg hx').elim (fun q=>h.ca x q y hy) fun q=>hx x q y hy⟩,List.Perm.trans ?_ h.perm⟩;rw[Ze,Ze];exact List.Perm.append_left _ perm_append_comm
theorem iB{l:List Keyed}{i:Nat}{x:Keyed}(h:l[i]? =some x):(l.drop i).take 1=[x]:=by
 obtain⟨hl,e⟩:=Xf h;rw[List.drop_eq_getElem_cons hl,e];rfl
theorem MI.oneA{N:Keyed->Nat}{A B out:List Keyed}{ia ib:Nat}{x:Keyed}(h:MI N A B out ia ib)(hA:Srt N A)(hx:A[ia]? =some x)(hle:∀y∈B.drop ib,N x<=N y):MI N A B (out++[x]) (ia+1) ib:=by
 have:=h.takeA hA 1 (by rw[iB hx];intro z hz;rw[Xh hz];exact hle);rwa[iB hx]at this
theorem MI.oneB{N:Keyed->Nat}{A B out:List Keyed}{ia ib:Nat}{x:Keyed}(h:MI N A B out ia ib)(hB:Srt N B)(hx:B[ib]? =some x)(hle:∀y∈A.drop ia,N x<=N y):MI N A B (out++[x]) ia (ib+1):=by
 have:=h.takeB hB 1 (by rw[iB hx];intro z hz;rw[Xh hz];exact hle);rwa[iB hx]at this
theorem fZ(a:Array Keyed)(i j:Nat):(a.extract i j).toList=(a.toList.drop i).take (j-i):=by
 rw[Array.toList_extract,List.extract_eq_take_drop]
theorem jX(a:Array Keyed)(i:Nat):(a.extract i a.size).toList=a.toList.drop i:=by
 rw[fZ,Zn];rw[Ye,Zb];exact Zi _
def SG(st st':SortSt):Prop:=kindOf st'=kindOf st/\arrOf st'=arrOf st/\pendingOf st'=pendingOf st/\failedOf st'=failedOf st
theorem SG.refl(st:SortSt):SG st st:=⟨rfl,rfl,rfl,rfl⟩
theorem SG.set{st st':SortSt}(h:SG st st')(g:Nat):SG st (SortSt.mk' (kindOf st') (arrOf st') (pendingOf st') g (failedOf st')):=h
end SBig
namespace SBig
open PySem PyProof.Rows
section
variable{prog:Program}{w:World}{A:Around}{SI:Shared->Prop}{α β:Type}
theorem aM{a:Array Keyed}{i:Nat}(h:i<a.size):a[i]? =some a[i]/\a.toList[i]? =some a[i]:=⟨by simp[h],by simp[h]⟩
theorem jY(a:Array Keyed)(i k:Nat):(a.extract i (i+k)).toList=(a.toList.drop i).take k:=by
 rw[fZ,Zw]
theorem mn{N:Keyed->Nat}{a:Array Keyed}{ia:Nat}{key d:Keyed}(hA:Srt N a.toList){i j:Nat}(hij:i<=j)(hj:ia+j<a.size)(h:bz N false key (a.getD (ia+j) d)=true):bz N false key (a.getD (ia+i) d)=true:=by
 have e:∀(i:Nat) (hi:ia+i<a.size),a.getD (ia+i) d=a[ia+i]:=fun i hi=>by simp[Array.getD,hi]
 rw[e j hj]at h;rw[e i (by lia)];have l:=hA.le (i:=ia+i) (j:=ia+j) (by lia) (aM (by lia)).2 (aM hj).2;unfold bz at h ⊢;simp only[Y1,if_false,Bool.not_eq_true',decide_eq_false_iff_not]at h ⊢;omega
theorem gn{N:Keyed->Nat}{a:Array Keyed}{ia:Nat}{key d:Keyed}(hA:Srt N a.toList){i j:Nat}(hij:i<=j)(hj:ia+j<a.size)(h:bz N true key (a.getD (ia+j) d)=true):bz N true key (a.getD (ia+i) d)=true:=by
 have e:∀(i:Nat) (hi:ia+i<a.size),a.getD (ia+i) d=a[ia+i]:=fun i hi=>by simp[Array.getD,hi]
 rw[e j hj]at h;rw[e i (by omega)];have l:=hA.le (i:=ia+i) (j:=ia+j) (by omega) (aM (by omega)).2 (aM hj).2;unfold bz at h ⊢;simp only[if_true,decide_eq_true_eq]at h ⊢;omega
theorem BJ{N:Keyed->Nat}{a:Array Keyed}{ia n k:Nat}{key d:Keyed}(p1:∀i,i<k->bz N false key (a.getD (ia+i) d)=true)(p2:∀i,k<=i->i<n->bz N false key (a.getD (ia+i) d)=false):
 (∀i x,i<k->a[ia+i]? =some x->N x<=N key)/\∀i x,k<=i->i<n->a[ia+i]? =some x->N key<N x:=by
 refine⟨fun i x hi e=>?_,fun i x hi hn e=>?_⟩
 ·have:=p1 i hi;rw[Zs,e]at this;unfold bz at this;simpa using this
 ·have:=p2 i hi hn;rw[Zs,e]at this;unfold bz at this;simpa using this
theorem yA{N:Keyed->Nat}{a:Array Keyed}{ia n k:Nat}{key d:Keyed}(p1:∀i,i<k->bz N true key (a.getD (ia+i) d)=true)(p2:∀i,k<=i->i<n->bz N true key (a.getD (ia+i) d)=false):
 (∀i x,i<k->a[ia+i]? =some x->N x<N key)/\∀i x,k<=i->i<n->a[ia+i]? =some x->N key<=N x:=by
 refine⟨fun i x hi e=>?_,fun i x hi hn e=>?_⟩
 ·have:=p1 i hi;rw[Zs,e]at this;unfold bz at this;simpa using this
 ·have:=p2 i hi hn;rw[Zs,e]at this;unfold bz at this;simpa using this
structure ML (N:Keyed->Nat) (a b out:Array Keyed) (ia ib:Nat):Prop where
 mi:MI N a.toList b.toList out.toList ia ib
 na:ia+1<a.size
 nb:ib<b.size
theorem qS{D:Keyed->Prop}{N:Keyed->Nat}{a b:Array Keyed}{Q:Array Keyed->SortSt->Prop}{st:SortSt}(c:Cmp prog w A SI (kindOf st) D N)(hA:Srt N a.toList)(hB:Srt N b.toList)(dA:∀x∈a.toList,D x)(dB:∀x∈b.toList,D x)
 (ha:1<=a.size) (hb:1<=b.size) (h0:∀x y,b.toList[0]? =some x->a.toList[0]? =some y->N x<=N y) (hl:∀y∈b.toList,∀x∈a.toList.drop (a.size-1),N y<=N x)
 (h:∀r st',SG st st'->fI N a.toList b.toList r.toList->Q r st'):(SC prog w A SI) (kC a b) Q st:=by
 have DA:∀{i:Nat} (hi:i<a.size),D a[i]:=fun hi=>dA _ (by simp)
 have DB:∀{i:Nat} (hi:i<b.size),D b[i]:=fun hi=>dB _ (by simp)
 have fd:∀(out:Array Keyed) (ia ib:Nat),MI N a.toList b.toList out.toList ia ib->(a.size<=ia\/b.size<=ib)->fI N a.toList b.toList (out++a.extract ia a.size++b.extract ib b.size).toList:=fun out ia ib m q=>by
  rw[X4,X4,jX,jX];refine m.done hA hB fun x hx y hy=>?_
  rcases q with q|q
  ·obtain⟨j,h1,h2,_⟩:=be hx;rw[Zb]at h2
   lia
  ·obtain⟨j,h1,h2,_⟩:=be hy;rw[Zb]at h2
   lia
 have fl:∀(out:Array Keyed) (ia ib:Nat),MI N a.toList b.toList out.toList ia ib->ia+1=a.size->fI N a.toList b.toList (out++b.extract ib b.size++a.extract ia a.size).toList:=fun out ia ib m q=>by
  rw[X4,X4,jX,jX];exact m.last hA hB fun y hy x hx=>hl y (Yr hy) x (by rw[show a.size-1=ia by lia];exact hx)
 rw[oY];refine ad (eX ?_);dsimp only;obtain⟨eb,eb'⟩:=aM (a:=b) (i:=0) (by lia);refine ad (az eb ?_);have m0:MI N a.toList b.toList #[b[0]].toList 0 1:=(MI.zero N a.toList b.toList).oneB hB eb' fun y hy=>by
  obtain⟨ea,ea'⟩:=aM (a:=a) (i:=0) (by lia);exact Yd (h0 _ _ eb' ea') (hA.drop_le ea' hy)
 by_cases q1:1=b.size
 ·rw[if_pos (by simp[<-q1])];exact ae (h _ st (SG.refl _) (fd _ _ _ m0 (.inr (by lia))))
 rw[if_neg (by simp;lia)];by_cases q2:0+1=a.size
 ·rw[if_pos (by simp[<-q2])];exact ae (h _ st (SG.refl _) (fl _ _ _ m0 q2))
 rw[if_neg (by simp at q2 ⊢;lia)];refine ad (c8 ?_);refine ad (aT (aG (Q:=fun x st'=>SG st st'/\∃r,x.1=some r/\fI N a.toList b.toList r.toList)
  (fun j x st'=>SG st st'/\∃out ia ib g,x=(none,out,ia,ib,g)/\ML N a b out ia ib/\j+1<=out.size) (X7 _) ⟨SG.refl _,_,_,_,_,rfl,⟨m0,by lia,by lia⟩,Zi _⟩ ?_ ?_) ?_)
 ·rintro j x st1 _ hj ⟨sg,out,ia,ib,g,rfl,m,hsz⟩;dsimp only;refine ad (aT (aG (Q:=fun x st'=>SG st st'/\((∃r o,x=(some r,o)/\fI N a.toList b.toList r.toList)\/∃out ia ib ac bc,x=(none,out,ia,ib,ac,bc)/\ML N a b out ia ib/\j+2<=out.size))
   (fun j2 x st'=>SG st st'/\∃out ia ib ac bc,x=(none,out,ia,ib,ac,bc)/\ML N a b out ia ib/\j+1+j2<=out.size) (X7 _) ⟨sg,_,_,_,_,_,rfl,m,hsz⟩ ?_ ?_) ?_)
  ·rintro j2 x st2 _ hj2 ⟨sg2,out,ia,ib,ac,bc,rfl,m,hsz⟩;dsimp only;obtain⟨ea,ea'⟩:=aM (a:=a) (i:=ia) (by have:=m.na;lia);obtain⟨eb,eb'⟩:=aM (a:=b) (i:=ib) m.nb;refine ad (az eb (ad (az ea (ad (oX (by rw[sg2.1];exact c) (DB m.nb) (DA (by have:=m.na;lia)) ?_)))));dsimp only;have hia:ia<a.size:=by have:=m.na;lia
   have hib:=m.nb;by_cases hlt:N b[ib]<N a[ia]
   ·rw[Zf hlt,if_pos rfl];refine ad (az eb ?_);have m2:MI N a.toList b.toList (out.push b[ib]).toList ia (ib+1):=by
     rw[X6];exact m.mi.oneB hB eb' fun y hy=>Yd (Yb hlt) (hA.drop_le ea' hy)
    by_cases q:ib+1=b.size
    ·rw[if_pos (by simp[q])];exact ae ⟨sg2,.inl ⟨_,_,rfl,fd _ _ _ m2 (.inr (by lia))⟩⟩
    ·rw[if_neg (by simp[q])];have:=m.nb;have m3:ML N a b (out.push b[ib]) ia (ib+1):=⟨m2,m.na,by lia⟩
     split
     ·exact ae ⟨sg2,.inr ⟨_,_,_,_,_,rfl,m3,by rw[Xb];lia⟩⟩
     ·exact ae ⟨sg2,_,_,_,_,_,rfl,m3,by rw[Xb];lia⟩
   ·rw[Zh hlt,if_neg (by simp)];refine ad (az ea ?_);have m2:MI N a.toList b.toList (out.push a[ia]).toList (ia+1) ib:=by
     rw[X6];exact m.mi.oneA hA ea' fun y hy=>Yd (Nat.le_of_not_lt hlt) (hB.drop_le eb' hy)
    by_cases q:ia+1+1=a.size
    ·rw[if_pos (by simp[q])];exact ae ⟨sg2,.inl ⟨_,_,rfl,fl _ _ _ m2 q⟩⟩
    ·rw[if_neg (by simp[q])];have:=m.na;have m3:ML N a b (out.push a[ia]) (ia+1) ib:=⟨m2,by lia,m.nb⟩
     split
     ·exact ae ⟨sg2,.inr ⟨_,_,_,_,_,rfl,m3,by rw[Xb];lia⟩⟩
     ·exact ae ⟨sg2,_,_,_,_,_,rfl,m3,by rw[Xb];lia⟩
  ·rintro x st2 ⟨sg2,out,ia,ib,ac,bc,rfl,m,hsz⟩;exact⟨sg2,.inr ⟨_,_,_,_,_,rfl,m,by lia⟩⟩
  ·rintro x st2 ⟨sg2,⟨r,o,rfl,gd⟩|⟨out,ia,ib,ac,bc,rfl,m,hsz⟩⟩
   ·exact ae ⟨sg2,r,rfl,gd⟩
   ·dsimp only;refine ad (eX ?_);refine ad (aT (aG (Q:=fun x st'=>SG st st'/\((∃r o,x=(some r,o)/\fI N a.toList b.toList r.toList)\/∃out ia ib g ac bc,x=(none,out,ia,ib,g,ac,bc)/\ML N a b out ia ib/\j+2<=out.size))
     (fun j2 x st'=>SG st st'/\∃out ia ib g ac bc,x=(none,out,ia,ib,g,ac,bc)/\ML N a b out ia ib/\j+2<=out.size) (X7 _) ⟨sg2,_,_,_,_,_,_,rfl,m,hsz⟩ ?_ ?_) ?_)
    ·rintro j2 x st2 _ hj2 ⟨sg2,out,ia,ib,g,ac,bc,rfl,m,hsz⟩;dsimp only;have hib:=m.nb;obtain⟨eb,eb'⟩:=aM (a:=b) (i:=ib) hib;by_cases hg:g>1
     all_goals
      first|rw[if_pos hg]|rw[if_neg hg]
      rw[cm];refine ad (bq ?_);refine ad (az eb ?_);refine ad (cD (by rw[show kindOf _=kindOf st from sg2.1];exact c) (DB hib) (fun i hi=>⟨a[ia+i]'(by lia),(aM (by lia)).1,DA (by lia)⟩) (fun i=>bz N false b[ib] (a.getD (ia+i) b[ib]))
       (fun i x hi hx=>by rw[Zs,hx];rfl) (fun i i' hii hi hp=>mn hA hii (by lia) hp) (by have:=m.na;lia) fun k hk p1 p2=>?_)
      dsimp only;have ga:=BJ p1 p2;have mk:=m.mi.takeA hA k (fun x hx y hy=>by
       obtain⟨i,hi,e⟩:=fY hx;exact Yd (ga.1 i x hi (by simpa using e)) (hB.drop_le eb' hy))
      by_cases hk00:k>0
      ·rw[if_pos hk00];rw[<-jY,<-X4]at mk;by_cases q1:ia+k+1=a.size
       ·rw[if_pos (by simp[q1])];exact ae ⟨sg2.set _,.inl ⟨_,_,rfl,fl _ _ _ mk q1⟩⟩
       rw[if_neg (by simp[q1])];by_cases q2:ia+k=a.size
       ·rw[if_pos (by simp[q2])];exact ae ⟨sg2.set _,.inl ⟨_,_,rfl,fd _ _ _ mk (.inl (by lia))⟩⟩
       rw[if_neg (by simp[q2])];refine ad (az eb ?_);obtain⟨ia2,hia2⟩:∃ia2,ia2=(ia+k):=⟨_,rfl⟩
       rw[<-hia2]at mk ⊢;have hna2:ia2+1<a.size:=by rw[hia2];exact(by lia)
       obtain⟨ea2,ea2'⟩:=aM (a:=a) (i:=ia2) (by lia);have mb:=MI.oneB mk hB eb' (fun y hy=>by
        obtain⟨j,h1,h2,e⟩:=be hy;rw[Zb]at h2;exact Yb (ga.2 (j-ia) y (by lia) (by lia) (by rw[show ia+(j-ia)=j by lia];simpa using e)))
       rw[<-X6]at mb;by_cases q3:ib+1=b.size
       ·rw[if_pos (by simp[q3])];exact ae ⟨sg2.set _,.inl ⟨_,_,rfl,fd _ _ _ mb (.inr (by lia))⟩⟩
       rw[if_neg (by simp[q3])];refine ad (az ea2 ?_);refine ad (cD (by rw[show kindOf _=kindOf st from sg2.1];exact c) (DA (by lia)) (fun i hi=>⟨b[ib+1+i]'(by lia),(aM (by lia)).1,DB (by lia)⟩) (fun i=>bz N true (a[ia2]'(by lia)) (b.getD (ib+1+i) b[ib]))
        (fun i x hi hx=>by rw[Zs,hx];rfl) (fun i i' hii hi hp=>gn hB hii (by lia) hp) (by lia) fun k2 hk2 p3 p4=>?_)
       dsimp only;have gb:=yA p3 p4;have hle3:∀y∈b.toList.drop (ib+1+k2),N (a[ia2]'(by lia))<=N y:=fun y hy=>by
        obtain⟨j,h1,h2,e⟩:=be hy;rw[Zb]at h2;exact gb.2 (j-(ib+1)) y (by lia) (by lia) (by rw[show ib+1+(j-(ib+1))=j by lia];simpa using e)
       have m3:=mb.takeB hB k2 (fun x hx y hy=>by
        obtain⟨i,hi,e⟩:=fY hx;exact Yd (Yb (gb.1 i x hi (by simpa using e))) (hA.drop_le ea2' hy))
       by_cases hk200:k2>0
       ·rw[if_pos hk200];rw[<-jY,<-X4]at m3;by_cases q4:ib+1+k2=b.size
        ·rw[if_pos (by simp[q4])];exact ae ⟨sg2.set _,.inl ⟨_,_,rfl,fd _ _ _ m3 (.inr (by lia))⟩⟩
        rw[if_neg (by simp[q4])];refine ad (az ea2 ?_);have m4:=MI.oneA m3 hA ea2' hle3;rw[<-X6]at m4;by_cases q5:ia2+1+1=a.size
        ·rw[if_pos (by simp[q5])];exact ae ⟨sg2.set _,.inl ⟨_,_,rfl,fl _ _ _ m4 q5⟩⟩
        rw[if_neg (by simp[q5])];have m5:=ML.mk (a:=a) (b:=b) m4 (by lia) (by lia)
        split
        ·exact ae ⟨sg2.set _,.inr ⟨_,_,_,_,_,_,rfl,m5,by simp;lia⟩⟩
        ·exact ae ⟨sg2.set _,_,_,_,_,_,_,rfl,m5,by simp;lia⟩
       ·rw[if_neg hk200];have hk20:k2=0:=by lia
        subst hk20;refine ad (az ea2 ?_);have m4:=MI.oneA mb hA ea2' hle3;rw[<-X6]at m4;by_cases q5:ia2+1+1=a.size
        ·rw[if_pos (by simp[q5])];exact ae ⟨sg2.set _,.inl ⟨_,_,rfl,fl _ _ _ m4 q5⟩⟩
        rw[if_neg (by simp[q5])];have m5:=ML.mk (a:=a) (b:=b) m4 (by lia) (by lia)
        split
        ·exact ae ⟨sg2.set _,.inr ⟨_,_,_,_,_,_,rfl,m5,by simp;omega⟩⟩
        ·exact ae ⟨sg2.set _,_,_,_,_,_,_,rfl,m5,by simp;omega⟩
      ·rw[if_neg hk00];have hk0:k=0:=by lia
       subst hk0;have mk:=m.mi;refine ad (az eb ?_);obtain⟨ia2,hia2⟩:∃ia2,ia2=ia:=⟨_,rfl⟩
       rw[<-hia2]at mk ⊢;have hna2:ia2+1<a.size:=by rw[hia2];exact m.na
       obtain⟨ea2,ea2'⟩:=aM (a:=a) (i:=ia2) (by lia);have mb:=MI.oneB mk hB eb' (fun y hy=>by
        obtain⟨j,h1,h2,e⟩:=be hy;rw[Zb]at h2;exact Yb (ga.2 (j-ia) y (by lia) (by lia) (by rw[show ia+(j-ia)=j by lia];simpa using e)))
       rw[<-X6]at mb;by_cases q3:ib+1=b.size
       ·rw[if_pos (by simp[q3])];exact ae ⟨sg2.set _,.inl ⟨_,_,rfl,fd _ _ _ mb (.inr (by lia))⟩⟩
       rw[if_neg (by simp[q3])];refine ad (az ea2 ?_);refine ad (cD (by rw[show kindOf _=kindOf st from sg2.1];exact c) (DA (by lia)) (fun i hi=>⟨b[ib+1+i]'(by lia),(aM (by lia)).1,DB (by omega)⟩) (fun i=>bz N true (a[ia2]'(by lia)) (b.getD (ib+1+i) b[ib]))
        (fun i x hi hx=>by rw[Zs,hx];rfl) (fun i i' hii hi hp=>gn hB hii (by omega) hp) (by omega) fun k2 hk2 p3 p4=>?_)
       dsimp only;have gb:=yA p3 p4;have hle3:∀y∈b.toList.drop (ib+1+k2),N (a[ia2]'(by omega))<=N y:=fun y hy=>by
        obtain⟨j,h1,h2,e⟩:=be hy;rw[Zb]at h2;exact gb.2 (j-(ib+1)) y (by omega) (by lia) (by rw[show ib+1+(j-(ib+1))=j by lia];simpa using e)
       have m3:=mb.takeB hB k2 (fun x hx y hy=>by
        obtain⟨i,hi,e⟩:=fY hx;exact Yd (Yb (gb.1 i x hi (by simpa using e))) (hA.drop_le ea2' hy))
       by_cases hk200:k2>0
       ·rw[if_pos hk200];rw[<-jY,<-X4]at m3;by_cases q4:ib+1+k2=b.size
        ·rw[if_pos (by simp[q4])];exact ae ⟨sg2.set _,.inl ⟨_,_,rfl,fd _ _ _ m3 (.inr (by omega))⟩⟩
        rw[if_neg (by simp[q4])];refine ad (az ea2 ?_);have m4:=MI.oneA m3 hA ea2' hle3;rw[<-X6]at m4;by_cases q5:ia2+1+1=a.size
        ·rw[if_pos (by simp[q5])];exact ae ⟨sg2.set _,.inl ⟨_,_,rfl,fl _ _ _ m4 q5⟩⟩
        rw[if_neg (by simp[q5])];have m5:=ML.mk (a:=a) (b:=b) m4 (by lia) (by lia)
        split
        ·exact ae ⟨sg2.set _,.inr ⟨_,_,_,_,_,_,rfl,m5,by simp;lia⟩⟩
        ·exact ae ⟨sg2.set _,_,_,_,_,_,_,rfl,m5,by simp;omega⟩
       ·rw[if_neg hk200];have hk20:k2=0:=by lia
        subst hk20;refine ad (az ea2 ?_);have m4:=MI.oneA mb hA ea2' hle3;rw[<-X6]at m4;by_cases q5:ia2+1+1=a.size
        ·rw[if_pos (by simp[q5])];exact ae ⟨sg2.set _,.inl ⟨_,_,rfl,fl _ _ _ m4 q5⟩⟩
        rw[if_neg (by simp[q5])];have m5:=ML.mk (a:=a) (b:=b) m4 (by omega) (by omega)
        split
        ·exact ae ⟨sg2.set _,.inr ⟨_,_,_,_,_,_,rfl,m5,by simp;omega⟩⟩
        ·exact ae ⟨sg2.set _,_,_,_,_,_,_,rfl,m5,by simp;omega⟩
    ·rintro x st2 ⟨sg2,out,ia,ib,g,ac,bc,rfl,m,hsz⟩;exact⟨sg2,.inr ⟨_,_,_,_,_,_,rfl,m,by omega⟩⟩
    ·rintro x st2 ⟨sg2,⟨r,o,rfl,gd⟩|⟨out,ia,ib,g,ac,bc,rfl,m,hsz⟩⟩
     ·exact ae ⟨sg2,r,rfl,gd⟩
     ·dsimp only;rw[cm];exact ad (bq (ae ⟨sg2.set _,_,_,_,_,rfl,m,by lia⟩))
 ·rintro x st1 ⟨sg,out,ia,ib,g,rfl,m,hsz⟩;have:=m.na;have:=m.nb;have q:=m.mi.perm.length_eq;simp only[Z9,Ye,Zb]at q
  lia
 ·rintro x st1 ⟨sg,r,hr,gd⟩;obtain⟨x1,x2⟩:=x;dsimp only at hr;subst hr;exact ae (h r st1 sg gd)
end
end SBig
namespace SBig
open PySem PyProof.Rows
theorem oZ(a b:Array Keyed):kD a b=(do
 rule "list.sort.merge-hi"
 let total:=a.size+b.size
 let done (out:Array Keyed) (na nb:Nat):=a.extract 0 na++b.extract 0 nb++out.reverse
 let firstOfB (out:Array Keyed) (na nb:Nat):=b.extract 0 nb++a.extract 0 na++out.reverse
 let mut na:=a.size-1
 let mut nb:=b.size
 let mut out:Array Keyed:= #[<-elem' a na]
 if na==0 then return done out na nb
 if nb==1 then return firstOfB out na nb
 let mut minGallop:=gallopOf (<-get)
 for _ in [0:total] do
  let mut acount:=0
  let mut bcount:=0
  for _ in [0:total] do
   let some aWins<-lt' (<-elem' b (nb-1)) (<-elem' a (na-1))|return done out na nb
   if aWins then
    na:=na-1;out:=out.push (<-elem' a na);acount:=acount+1;bcount:=0
    if na==0 then return done out na nb
    if acount>=minGallop then break
   else
    nb:=nb-1;out:=out.push (<-elem' b nb);bcount:=bcount+1;acount:=0
    if nb==1 then return firstOfB out na nb
    if bcount>=minGallop then break
  rule "list.sort.gallop"
  minGallop:=minGallop+1
  for _ in [0:total] do
   if minGallop>1 then minGallop:=minGallop-1
   cw minGallop
   let some at_<-d7 false (<-elem' b (nb-1)) a 0 na (na-1)|return done out na nb
   let k:=na-at_
   acount:=k
   if k>0 then
    out:=out++(a.extract at_ na).reverse;na:=at_
    if na==0 then return done out na nb
   nb:=nb-1;out:=out.push (<-elem' b nb)
   if nb==1 then return firstOfB out na nb
   let some at_<-d7 true (<-elem' a (na-1)) b 0 nb (nb-1)|return done out na nb
   let k:=nb-at_
   bcount:=k
   if k>0 then
    out:=out++(b.extract at_ nb).reverse;nb:=at_
    if nb==1 then return firstOfB out na nb
    if nb==0 then return done out na nb
   na:=na-1;out:=out.push (<-elem' a na)
   if na==0 then return done out na nb
   if acount<7&&bcount<7 then break
  minGallop:=minGallop+1
  cw minGallop
 unsupported "internal:list.sort.merge-bound"):=rfl
theorem Srt.take{N:Keyed->Nat}{l:List Keyed}(h:Srt N l)(k:Nat):Srt N (l.take k):=List.Pairwise.sublist (take_sublist _ _) h
theorem aR{l:List Keyed}{k:Nat}{x:Keyed}(h:x∈l.take k):∃j,j<k/\j<l.length/\l[j]? =some x:=by
 obtain⟨j,hj⟩:=X8 h;rw[Y9]at hj
 split at hj
 ·exact⟨j,by assumption,(Xf hj).1,hj⟩
 ·cases hj
theorem m9{l:List Keyed}{i k:Nat}{x:Keyed}(h:x∈(l.take k).drop i):∃j,i<=j/\j<k/\j<l.length/\l[j]? =some x:=by
 obtain⟨j,h1,h2,e⟩:=be h;rw[Y9]at e
 split at e
 ·exact⟨j,h1,by assumption,(Xf e).1,e⟩
 ·cases e
structure MH (N:Keyed->Nat) (A B O:List Keyed) (na nb:Nat):Prop where
 perm:(A.take na++B.take nb++O).Perm (A++B)
 srt:Srt N O
 ca:∀x∈A.take na,∀y∈O,N x<=N y
 cb:∀x∈B.take nb,∀y∈O,N x<=N y
theorem MH.zero(N:Keyed->Nat)(A B:List Keyed):MH N A B [] A.length B.length:=⟨by simp,List.Pairwise.nil,fun _ _ _ h=>(nomatch h),fun _ _ _ h=>(nomatch h)⟩
theorem MH.takeA{N:Keyed->Nat}{A B O:List Keyed}{na nb:Nat}(h:MH N A B O na nb)(hA:Srt N A)(k:Nat)(hk:k<=na)(hle:∀y∈(A.take na).drop k,∀x∈B.take nb,N x<=N y):MH N A B ((A.take na).drop k++O) k nb:=by
 have e:A.take na=A.take k++(A.take na).drop k:=by
  have:=(X3 k (A.take na)).symm;rw[List.take_take,Yt hk]at this;exact this
 have sA:(A.take k++(A.take na).drop k).Pairwise fun x y=>N x<=N y:=by rw[<-e];exact hA.take na
 obtain⟨_,s2,s3⟩:=pairwise_append.mp sA;refine⟨?_,pairwise_append.mpr ⟨s2,h.srt,fun x hx y hy=>h.ca x (Yr hx) y hy⟩,fun x hx y hy=>?_,fun x hx y hy=>?_⟩
 ·refine List.Perm.trans ?_ h.perm;rw[<-Ze];refine Xd _ ?_;rw (occs:= .pos [2]) [e];rw[Ze,Ze];exact List.Perm.append_left _ perm_append_comm
 ·rcases Xg hy with hy|hy
  ·exact s3 x hx y hy
  ·exact h.ca x (by rw[e];exact Yo _ hx) y hy
 ·rcases Xg hy with hy|hy
  ·exact hle y hy x hx
  ·exact h.cb x hx y hy
theorem MH.takeB{N:Keyed->Nat}{A B O:List Keyed}{na nb:Nat}(h:MH N A B O na nb)(hB:Srt N B)(k:Nat)(hk:k<=nb)(hle:∀y∈(B.take nb).drop k,∀x∈A.take na,N x<=N y):MH N A B ((B.take nb).drop k++O) na k:=by
 have e:B.take nb=B.take k++(B.take nb).drop k:=by
  have:=(X3 k (B.take nb)).symm;rw[List.take_take,Yt hk]at this;exact this
 have sB:(B.take k++(B.take nb).drop k).Pairwise fun x y=>N x<=N y:=by rw[<-e];exact hB.take nb
 obtain⟨_,s2,s3⟩:=pairwise_append.mp sB;refine⟨?_,pairwise_append.mpr ⟨s2,h.srt,fun x hx y hy=>h.cb x (Yr hx) y hy⟩,fun x hx y hy=>?_,fun x hx y hy=>?_⟩
 ·refine List.Perm.trans ?_ h.perm;rw[<-Ze];refine Xd _ ?_;rw (occs:= .pos [2]) [e];rw[Ze]
 ·rcases Xg hy with hy|hy
  ·exact hle y hy x hx
  ·exact h.ca x hx y hy
 ·rcases Xg hy with hy|hy
  ·exact s3 x hx y hy
  ·exact h.cb x (by rw[e];exact Yo _ hx) y hy
theorem iC{l:List Keyed}{k:Nat}{x:Keyed}(h:l[k]? =some x):(l.take (k+1)).drop k=[x]:=by
 obtain⟨hl,e⟩:=Xf h;rw[List.take_succ_eq_append_getElem hl,e,List.drop_append_of_le_length (by rw[Yh];lia),List.drop_of_length_le (by rw[Yh];lia)];rfl
theorem MH.oneA{N:Keyed->Nat}{A B O:List Keyed}{na nb:Nat}{x:Keyed}(h:MH N A B O (na+1) nb)(hA:Srt N A)(hx:A[na]? =some x)(hle:∀y∈B.take nb,N y<=N x):MH N A B (x::O) na nb:=by
 have:=h.takeA hA na (by omega) (by rw[iC hx];intro z hz;rw[Xh hz];exact hle);rwa[iC hx]at this
theorem MH.oneB{N:Keyed->Nat}{A B O:List Keyed}{na nb:Nat}{x:Keyed}(h:MH N A B O na (nb+1))(hB:Srt N B)(hx:B[nb]? =some x)(hle:∀y∈A.take na,N y<=N x):MH N A B (x::O) na nb:=by
 have:=h.takeB hB nb (by omega) (by rw[iC hx];intro z hz;rw[Xh hz];exact hle);rwa[iC hx]at this
theorem MH.done{N:Keyed->Nat}{A B O:List Keyed}{na nb:Nat}(h:MH N A B O na nb)(hA:Srt N A)(hB:Srt N B)(hx:∀x∈A.take na,∀y∈B.take nb,N x<=N y):fI N A B (A.take na++B.take nb++O):=
 ⟨pairwise_append.mpr ⟨pairwise_append.mpr ⟨hA.take na,hB.take nb,hx⟩,h.srt,fun x hx' y hy=>(Xg hx').elim (fun q=>h.ca x q y hy) fun q=>h.cb x q y hy⟩,h.perm⟩
theorem MH.first{N:Keyed->Nat}{A B O:List Keyed}{na nb:Nat}(h:MH N A B O na nb)(hA:Srt N A)(hB:Srt N B)(hx:∀y∈B.take nb,∀x∈A.take na,N y<=N x):fI N A B (B.take nb++A.take na++O):=
 ⟨pairwise_append.mpr ⟨pairwise_append.mpr ⟨hB.take nb,hA.take na,hx⟩,h.srt,fun x hx' y hy=>(Xg hx').elim (fun q=>h.cb x q y hy) fun q=>h.ca x q y hy⟩,List.Perm.trans (Xd _ perm_append_comm) h.perm⟩
theorem yB(a:Array Keyed)(k:Nat):(a.extract 0 k).toList=a.toList.take k:=by rw[fZ];simp
theorem ng(a:Array Keyed)(i k:Nat):(a.extract i k).toList=(a.toList.take k).drop i:=by
 rw[fZ,List.drop_take]
theorem Srt.take_le{N:Keyed->Nat}{l:List Keyed}(h:Srt N l){i:Nat}{x y:Keyed}(hx:l[i]? =some x)(hy:y∈l.take (i+1)):N y<=N x:=by
 obtain⟨j,hj,_,e⟩:=aR hy;exact h.le (by omega) e hx
theorem cY(out:Array Keyed)(x:Keyed):(out.push x).reverse.toList=x::out.reverse.toList:=by simp
theorem nh(out p:Array Keyed):(out++p.reverse).reverse.toList=p.toList++out.reverse.toList:=by simp
section
variable{prog:Program}{w:World}{A:Around}{SI:Shared->Prop}{α β:Type}
structure MHS (N:Keyed->Nat) (a b out:Array Keyed) (na nb:Nat):Prop where
 mh:MH N a.toList b.toList out.reverse.toList na nb
 pa:1<=na
 pb:2<=nb
 ma:na<=a.size
 mb:nb<=b.size
theorem qT{D:Keyed->Prop}{N:Keyed->Nat}{a b:Array Keyed}{Q:Array Keyed->SortSt->Prop}{st:SortSt}(c:Cmp prog w A SI (kindOf st) D N)(hA:Srt N a.toList)(hB:Srt N b.toList)(dA:∀x∈a.toList,D x)(dB:∀x∈b.toList,D x)
 (ha:1<=a.size) (hb:1<=b.size) (h0:∀x y,b.toList[0]? =some x->a.toList[0]? =some y->N x<=N y) (hl:∀y∈b.toList,∀x∈a.toList.drop (a.size-1),N y<=N x)
 (h:∀r st',SG st st'->fI N a.toList b.toList r.toList->Q r st'):(SC prog w A SI) (kD a b) Q st:=by
 have DA:∀{i:Nat} (hi:i<a.size),D a[i]:=fun hi=>dA _ (by simp)
 have DB:∀{i:Nat} (hi:i<b.size),D b[i]:=fun hi=>dB _ (by simp)
 have fd:∀(out:Array Keyed) (na nb:Nat),MH N a.toList b.toList out.reverse.toList na nb->(na=0\/nb=0)->fI N a.toList b.toList (a.extract 0 na++b.extract 0 nb++out.reverse).toList:=fun out na nb m q=>by
  rw[X4,X4,yB,yB];refine m.done hA hB fun x hx y hy=>?_
  rcases q with q|q
  ·obtain⟨j,h1,_⟩:=aR hx
   lia
  ·obtain⟨j,h1,_⟩:=aR hy
   lia
 have ff:∀(out:Array Keyed) (na nb:Nat),MH N a.toList b.toList out.reverse.toList na nb->nb=1->fI N a.toList b.toList (b.extract 0 nb++a.extract 0 na++out.reverse).toList:=fun out na nb m q=>by
  rw[X4,X4,yB,yB];refine m.first hA hB fun y hy x hx=>?_
  obtain⟨j,h1,h2,e⟩:=aR hy;obtain⟨i,_,h4,e'⟩:=aR hx;have j0:j=0:=by lia
  subst j0;obtain⟨ea,ea'⟩:=aM (a:=a) (i:=0) (by lia);exact Yd (h0 _ _ e ea') (hA.le (X7 _) ea' e')
 rw[oZ];refine ad (eX ?_);dsimp only;obtain⟨la,hla⟩:∃la,a.size=la+1:=⟨a.size-1,by lia⟩
 obtain⟨ea,ea'⟩:=aM (a:=a) (i:=la) (by lia);rw[show a.size-1=la by lia];refine ad (az ea ?_);have m0:MH N a.toList b.toList #[a[la]].reverse.toList la b.size:=by
  have z:=MH.zero N a.toList b.toList;rw[Zb,Zb,hla]at z;exact z.oneA hA ea' fun y hy=>hl y (Ys hy) _ (by
   rw[show a.size-1=la by lia];exact Z8 (i:=0) (by rw[Y8];exact ea'))
 by_cases q1:la=0
 ·rw[if_pos (by simp[q1])];exact ae (h _ st (SG.refl _) (fd _ _ _ m0 (.inl q1)))
 rw[if_neg (by simp[q1])];by_cases q2:b.size=1
 ·rw[if_pos (by simp[q2])];exact ae (h _ st (SG.refl _) (ff _ _ _ m0 q2))
 rw[if_neg (by simp[q2])];refine ad (c8 ?_);refine ad (aT (aG (Q:=fun x st'=>SG st st'/\∃r,x.1=some r/\fI N a.toList b.toList r.toList)
  (fun j x st'=>SG st st'/\∃na nb out g,x=(none,na,nb,out,g)/\MHS N a b out na nb/\j+1<=out.size) (X7 _) ⟨SG.refl _,_,_,_,_,rfl,⟨m0,by lia,by lia,by lia,by lia⟩,Zi _⟩ ?_ ?_) ?_)
 ·rintro j x st1 _ hj ⟨sg,na,nb,out,g,rfl,m,hsz⟩;dsimp only;refine ad (aT (aG (Q:=fun x st'=>SG st st'/\((∃r o,x=(some r,o)/\fI N a.toList b.toList r.toList)\/∃na nb out ac bc,x=(none,na,nb,out,ac,bc)/\MHS N a b out na nb/\j+2<=out.size))
   (fun j2 x st'=>SG st st'/\∃na nb out ac bc,x=(none,na,nb,out,ac,bc)/\MHS N a b out na nb/\j+1+j2<=out.size) (X7 _) ⟨sg,_,_,_,_,_,rfl,m,hsz⟩ ?_ ?_) ?_)
  ·rintro j2 x st2 _ hj2 ⟨sg2,na,nb,out,ac,bc,rfl,m,hsz⟩;dsimp only;have pa:=m.pa;have pb:=m.pb;have ma:=m.ma;have mb:=m.mb;obtain⟨na,rfl⟩:∃n,na=n+1:=⟨na-1,by lia⟩
   obtain⟨nb,rfl⟩:∃n,nb=n+1:=⟨nb-1,by lia⟩
   rw[add_sub_cancel,add_sub_cancel];have hia:na<a.size:=by lia
   have hib:nb<b.size:=by lia
   obtain⟨ea,ea'⟩:=aM (a:=a) (i:=na) hia;obtain⟨eb,eb'⟩:=aM (a:=b) (i:=nb) hib;refine ad (az eb (ad (az ea (ad (oX (by rw[sg2.1];exact c) (DB hib) (DA hia) ?_)))));dsimp only;by_cases hlt:N b[nb]<N a[na]
   ·rw[Zf hlt,if_pos rfl];refine ad (az ea ?_);have m2:=m.mh.oneA hA ea' fun y hy=>Yd (hB.take_le eb' hy) (Yb hlt)
    rw[<-cY]at m2;by_cases q:na=0
    ·rw[if_pos (by simp[q])];exact ae ⟨sg2,.inl ⟨_,_,rfl,fd _ _ _ m2 (.inl q)⟩⟩
    ·rw[if_neg (by simp[q])];have m3:MHS N a b (out.push a[na]) na (nb+1):=⟨m2,by lia,by lia,by lia,by lia⟩
     split
     ·exact ae ⟨sg2,.inr ⟨_,_,_,_,_,rfl,m3,by rw[Xb];lia⟩⟩
     ·exact ae ⟨sg2,_,_,_,_,_,rfl,m3,by rw[Xb];lia⟩
   ·rw[Zh hlt,if_neg (by simp)];refine ad (az eb ?_);have m2:=m.mh.oneB hB eb' fun y hy=>Yd (hA.take_le ea' hy) (Nat.le_of_not_lt hlt)
    rw[<-cY]at m2;by_cases q:nb=1
    ·rw[if_pos (by simp[q])];exact ae ⟨sg2,.inl ⟨_,_,rfl,ff _ _ _ m2 q⟩⟩
    ·rw[if_neg (by simp[q])];have m3:MHS N a b (out.push b[nb]) (na+1) nb:=⟨m2,by lia,by lia,by lia,by lia⟩
     split
     ·exact ae ⟨sg2,.inr ⟨_,_,_,_,_,rfl,m3,by rw[Xb];lia⟩⟩
     ·exact ae ⟨sg2,_,_,_,_,_,rfl,m3,by rw[Xb];lia⟩
  ·rintro x st2 ⟨sg2,na,nb,out,ac,bc,rfl,m,hsz⟩;exact⟨sg2,.inr ⟨_,_,_,_,_,rfl,m,by lia⟩⟩
  ·rintro x st2 ⟨sg2,⟨r,o,rfl,gd⟩|⟨na,nb,out,ac,bc,rfl,m,hsz⟩⟩
   ·exact ae ⟨sg2,r,rfl,gd⟩
   ·dsimp only;refine ad (eX ?_);refine ad (aT (aG (Q:=fun x st'=>SG st st'/\((∃r o,x=(some r,o)/\fI N a.toList b.toList r.toList)\/∃na nb out g ac bc,x=(none,na,nb,out,g,ac,bc)/\MHS N a b out na nb/\j+2<=out.size))
     (fun j2 x st'=>SG st st'/\∃na nb out g ac bc,x=(none,na,nb,out,g,ac,bc)/\MHS N a b out na nb/\j+2<=out.size) (X7 _) ⟨sg2,_,_,_,_,_,_,rfl,m,hsz⟩ ?_ ?_) ?_)
    ·rintro j2 x st2 _ hj2 ⟨sg2,na,nb,out,g,ac,bc,rfl,m,hsz⟩;dsimp only;have pa:=m.pa;have pb:=m.pb;have ma:=m.ma;have mb0:=m.mb;obtain⟨nb,rfl⟩:∃n,nb=n+1:=⟨nb-1,by lia⟩
     simp only[add_sub_cancel];have hib:nb<b.size:=by lia
     obtain⟨eb,eb'⟩:=aM (a:=b) (i:=nb) hib;by_cases hg:g>1
     all_goals
      first|rw[if_pos hg]|rw[if_neg hg]
      rw[cm];refine ad (bq ?_);refine ad (az eb ?_);refine ad (cD (by rw[show kindOf _=kindOf st from sg2.1];exact c) (DB hib) (fun i hi=>⟨a[0+i]'(by lia),(aM (by lia)).1,DA (by lia)⟩) (fun i=>bz N false b[nb] (a.getD (0+i) b[nb]))
       (fun i x hi hx=>by rw[Zs,hx];rfl) (fun i i' hii hi hp=>mn hA hii (by lia) hp) (by lia) fun k hk p1 p2=>?_)
      dsimp only;have ga:=BJ p1 p2;simp only[zero_add]at ga;have mk:=m.mh.takeA hA k hk (fun y hy x hx=>by
       obtain⟨i,h1,h2,h3,e⟩:=m9 hy;exact Yd (hB.take_le eb' hx) (Yb (ga.2 i y h1 h2 (by simpa using e))))
      by_cases hk00:na-k>0
      ·rw[if_pos hk00];rw[<-ng,<-nh]at mk;by_cases q1:k=0
       ·rw[if_pos (by simp[q1])];exact ae ⟨sg2.set _,.inl ⟨_,_,rfl,fd _ _ _ mk (.inl q1)⟩⟩
       rw[if_neg (by simp[q1])];refine ad (az eb ?_);obtain⟨na2,hna2e⟩:∃na2,na2=k:=⟨_,rfl⟩
       rw[<-hna2e]at mk ⊢;have hna2:1<=na2:=by rw[hna2e];exact(by lia)
       have hna2m:na2<=a.size:=by have:=m.ma;lia
       obtain⟨na3,rfl⟩:∃na3,na2=na3+1:=⟨na2-1,by lia⟩
       rw[add_sub_cancel]at*;obtain⟨ea2,ea2'⟩:=aM (a:=a) (i:=na3) (by lia);have mb:=MH.oneB mk hB eb' (fun y hy=>by
        obtain⟨j,h1,h2,e⟩:=aR hy;rw[Zb]at h2;exact ga.1 j y (by lia) (by simpa using e))
       rw[<-cY]at mb;by_cases q3:nb=1
       ·rw[if_pos (by simp[q3])];exact ae ⟨sg2.set _,.inl ⟨_,_,rfl,ff _ _ _ mb q3⟩⟩
       rw[if_neg (by simp[q3])];refine ad (az ea2 ?_);refine ad (cD (by rw[show kindOf _=kindOf st from sg2.1];exact c) (DA (by lia)) (fun i hi=>⟨b[0+i]'(by lia),(aM (by lia)).1,DB (by lia)⟩) (fun i=>bz N true (a[na3]'(by lia)) (b.getD (0+i) b[nb]))
        (fun i x hi hx=>by rw[Zs,hx];rfl) (fun i i' hii hi hp=>gn hB hii (by lia) hp) (by lia) fun k2 hk2 p3 p4=>?_)
       dsimp only;have gb:=yA p3 p4;have hle3:∀y∈b.toList.take k2,N y<=N (a[na3]'(by lia)):=fun y hy=>by
        obtain⟨j,h1,h2,e⟩:=aR hy;exact Yb (gb.1 j y h1 (by simpa using e))
       have m3:=mb.takeB hB k2 hk2 (fun y hy x hx=>by
        obtain⟨i,h1,h2,h3,e⟩:=m9 hy;exact Yd (hA.take_le ea2' hx) (gb.2 i y h1 h2 (by simpa using e)))
       by_cases hk200:nb-k2>0
       ·rw[if_pos hk200];rw[<-ng,<-nh]at m3;by_cases q4:k2=1
        ·rw[if_pos (by simp[q4])];exact ae ⟨sg2.set _,.inl ⟨_,_,rfl,ff _ _ _ m3 q4⟩⟩
        rw[if_neg (by simp[q4])];by_cases q6:k2=0
        ·rw[if_pos (by simp[q6])];exact ae ⟨sg2.set _,.inl ⟨_,_,rfl,fd _ _ _ m3 (.inr q6)⟩⟩
        rw[if_neg (by simp[q6])];refine ad (az ea2 ?_);have m4:=MH.oneA m3 hA ea2' hle3;rw[<-cY]at m4;by_cases q5:na3=0
        ·rw[if_pos (by simp[q5])];exact ae ⟨sg2.set _,.inl ⟨_,_,rfl,fd _ _ _ m4 (.inl q5)⟩⟩
        rw[if_neg (by simp[q5])];have m5:=MHS.mk (a:=a) (b:=b) m4 (by lia) (by lia) (by lia) (by lia)
        split
        ·exact ae ⟨sg2.set _,.inr ⟨_,_,_,_,_,_,rfl,m5,by simp;lia⟩⟩
        ·exact ae ⟨sg2.set _,_,_,_,_,_,_,rfl,m5,by simp;lia⟩
       ·rw[if_neg hk200];have hk20:k2=nb:=by lia
        subst hk20;refine ad (az ea2 ?_);have m4:=MH.oneA mb hA ea2' hle3;rw[<-cY]at m4;by_cases q5:na3=0
        ·rw[if_pos (by simp[q5])];exact ae ⟨sg2.set _,.inl ⟨_,_,rfl,fd _ _ _ m4 (.inl q5)⟩⟩
        rw[if_neg (by simp[q5])];have m5:=MHS.mk (a:=a) (b:=b) m4 (by lia) (by lia) (by lia) (by lia)
        split
        ·exact ae ⟨sg2.set _,.inr ⟨_,_,_,_,_,_,rfl,m5,by simp;lia⟩⟩
        ·exact ae ⟨sg2.set _,_,_,_,_,_,_,rfl,m5,by simp;omega⟩
      ·rw[if_neg hk00];have hk0:k=na:=by lia
       subst hk0;have mk:=m.mh;refine ad (az eb ?_);obtain⟨na2,hna2e⟩:∃na2,na2=k:=⟨_,rfl⟩
       rw[<-hna2e]at mk ⊢;have hna2:1<=na2:=by rw[hna2e];exact(by lia)
       have hna2m:na2<=a.size:=by have:=m.ma;lia
       obtain⟨na3,rfl⟩:∃na3,na2=na3+1:=⟨na2-1,by lia⟩
       rw[add_sub_cancel]at*;obtain⟨ea2,ea2'⟩:=aM (a:=a) (i:=na3) (by lia);have mb:=MH.oneB mk hB eb' (fun y hy=>by
        obtain⟨j,h1,h2,e⟩:=aR hy;rw[Zb]at h2;exact ga.1 j y (by lia) (by simpa using e))
       rw[<-cY]at mb;by_cases q3:nb=1
       ·rw[if_pos (by simp[q3])];exact ae ⟨sg2.set _,.inl ⟨_,_,rfl,ff _ _ _ mb q3⟩⟩
       rw[if_neg (by simp[q3])];refine ad (az ea2 ?_);refine ad (cD (by rw[show kindOf _=kindOf st from sg2.1];exact c) (DA (by lia)) (fun i hi=>⟨b[0+i]'(by lia),(aM (by lia)).1,DB (by lia)⟩) (fun i=>bz N true (a[na3]'(by lia)) (b.getD (0+i) b[nb]))
        (fun i x hi hx=>by rw[Zs,hx];rfl) (fun i i' hii hi hp=>gn hB hii (by lia) hp) (by lia) fun k2 hk2 p3 p4=>?_)
       dsimp only;have gb:=yA p3 p4;have hle3:∀y∈b.toList.take k2,N y<=N (a[na3]'(by omega)):=fun y hy=>by
        obtain⟨j,h1,h2,e⟩:=aR hy;exact Yb (gb.1 j y h1 (by simpa using e))
       have m3:=mb.takeB hB k2 hk2 (fun y hy x hx=>by
        obtain⟨i,h1,h2,h3,e⟩:=m9 hy;exact Yd (hA.take_le ea2' hx) (gb.2 i y h1 h2 (by simpa using e)))
       by_cases hk200:nb-k2>0
       ·rw[if_pos hk200];rw[<-ng,<-nh]at m3;by_cases q4:k2=1
        ·rw[if_pos (by simp[q4])];exact ae ⟨sg2.set _,.inl ⟨_,_,rfl,ff _ _ _ m3 q4⟩⟩
        rw[if_neg (by simp[q4])];by_cases q6:k2=0
        ·rw[if_pos (by simp[q6])];exact ae ⟨sg2.set _,.inl ⟨_,_,rfl,fd _ _ _ m3 (.inr q6)⟩⟩
        rw[if_neg (by simp[q6])];refine ad (az ea2 ?_);have m4:=MH.oneA m3 hA ea2' hle3;rw[<-cY]at m4;by_cases q5:na3=0
        ·rw[if_pos (by simp[q5])];exact ae ⟨sg2.set _,.inl ⟨_,_,rfl,fd _ _ _ m4 (.inl q5)⟩⟩
        rw[if_neg (by simp[q5])];have m5:=MHS.mk (a:=a) (b:=b) m4 (by omega) (by omega) (by omega) (by omega)
        split
        ·exact ae ⟨sg2.set _,.inr ⟨_,_,_,_,_,_,rfl,m5,by simp;lia⟩⟩
        ·exact ae ⟨sg2.set _,_,_,_,_,_,_,rfl,m5,by simp;lia⟩
       ·rw[if_neg hk200];have hk20:k2=nb:=by lia
        subst hk20;refine ad (az ea2 ?_);have m4:=MH.oneA mb hA ea2' hle3;rw[<-cY]at m4;by_cases q5:na3=0
        ·rw[if_pos (by simp[q5])];exact ae ⟨sg2.set _,.inl ⟨_,_,rfl,fd _ _ _ m4 (.inl q5)⟩⟩
        rw[if_neg (by simp[q5])];have m5:=MHS.mk (a:=a) (b:=b) m4 (by omega) (by omega) (by omega) (by omega)
        split
        ·exact ae ⟨sg2.set _,.inr ⟨_,_,_,_,_,_,rfl,m5,by simp;omega⟩⟩
        ·exact ae ⟨sg2.set _,_,_,_,_,_,_,rfl,m5,by simp;omega⟩
    ·rintro x st2 ⟨sg2,na,nb,out,g,ac,bc,rfl,m,hsz⟩;exact⟨sg2,.inr ⟨_,_,_,_,_,_,rfl,m,by omega⟩⟩
    ·rintro x st2 ⟨sg2,⟨r,o,rfl,gd⟩|⟨na,nb,out,g,ac,bc,rfl,m,hsz⟩⟩
     ·exact ae ⟨sg2,r,rfl,gd⟩
     ·dsimp only;rw[cm];exact ad (bq (ae ⟨sg2.set _,_,_,_,_,rfl,m,by lia⟩))
 ·rintro x st1 ⟨sg,na,nb,out,g,rfl,m,hsz⟩;have:=m.pa;have:=m.pb;have:=m.ma;have:=m.mb;have q:=m.mh.perm.length_eq;simp only[Z9,Yh,Zb,Array.size_reverse]at q
  lia
 ·rintro x st1 ⟨sg,r,hr,gd⟩;obtain⟨x1,x2⟩:=x;dsimp only at hr;subst hr;exact ae (h r st1 sg gd)
end
end SBig
namespace SBig
open PySem PyProof.Rows
theorem o9(i:Nat):mergeAt' i=(do
 let s<-get
 let(some (sa,na,power),some (sb,nb,_)):=((pendingOf s)[i]?,(pendingOf s)[i+1]?)|unsupported "internal:list.sort.pending"
 set (setPending s (((pendingOf s).setIfInBounds i (sa,na+nb,power)).eraseIdxIfInBounds (i+1)))
 let some k<-d7 false (<-elem' (arrOf s) sb) (arrOf s) sa na 0|return false
 let(sa,na):=(sa+k,na-k)
 if na==0 then return true
 let some nb<-d7 true (<-elem' (arrOf s) (sa+na-1)) (arrOf s) sb nb (nb-1)|return false
 if nb==0 then return true
 let x:=(arrOf s).extract sa sb
 let y:=(arrOf s).extract sb (sb+nb)
 let merged<-if na<=nb then kC x y else kD x y
 modify fun s=>setArr s (merged.toList.zipIdx.foldl (fun a (p,j)=>a.setIfInBounds (sa+j) p) (arrOf s))
 return (failedOf (<-get)).isNone):=rfl
theorem pd:∀(m:List Keyed) (c o:Nat) (a:Array Keyed),o+c+m.length<=a.size->
 ((m.zipIdx c).foldl (fun(a:Array Keyed) (p:Keyed×Nat)=>a.setIfInBounds (o+p.2) p.1) a).toList=a.toList.take (o+c) ++m++a.toList.drop (o+c+m.length)
 |[],c,o,a,_=>by simp
 | x::m,c,o,a,h=>by
   rw[List.zipIdx_cons,Y4];rw[Zr]at h;rw[pd m (c+1) o _ (by rw[Array.size_setIfInBounds];lia),Array.toList_setIfInBounds];have hl:o+c<a.toList.length:=by rw[Zb];lia
   rw[Zr,List.take_set,List.drop_set];rw[show o+(c+1)=o+c+1 by lia,show o+c+1+m.length=o+c+(m.length+1) by lia];rw[if_pos (by lia)];have e:(a.toList.take (o+c+1)).set (o+c) x=a.toList.take (o+c) ++[x]:=by
    rw[List.take_succ_eq_append_getElem hl];rw[List.set_append_right _ _ (by rw[Yh];lia)];rw[Yh,Yt (by lia),sub_self];rfl
   rw[e];simp
section
variable{prog:Program}{w:World}{A:Around}{SI:Shared->Prop}{α β:Type}
theorem qU{D:Keyed->Prop}{N:Keyed->Nat}{i p p2:Nat}{L1 X Y L2:List Keyed}{Q:Bool->SortSt->Prop}{st:SortSt}(c:Cmp prog w A SI (kindOf st) D N)(e:(arrOf st).toList=L1++X++Y++L2)(hX:Srt N X)(hY:Srt N Y)(nX:X≠[])(nY:Y≠[])
 (dX:∀x∈X,D x) (dY:∀x∈Y,D x) (hp:(pendingOf st)[i]? =some (L1.length,X.length,p)) (hp2:(pendingOf st)[i+1]? =some (L1.length+X.length,Y.length,p2)) (hf:failedOf st=none)
 (h:∀Z st',Srt N Z->Z.Perm (X++Y)->(arrOf st').toList=L1++Z++L2->kindOf st'=kindOf st->failedOf st'=none->pendingOf st'=((pendingOf st).setIfInBounds i (L1.length,X.length+Y.length,p)).eraseIdxIfInBounds (i+1)->Q true st'):(SC prog w A SI) (mergeAt' i) Q st:=by
 have lX:0<X.length:=length_pos_iff.mpr nX;have lY:0<Y.length:=length_pos_iff.mpr nY;have sz:(arrOf st).size=L1.length+X.length+Y.length+L2.length:=by
  rw[<-Zb,e];simp only[Z9]
 have atX:∀(j:Nat) (hj:j<X.length),(arrOf st)[L1.length+j]? =some X[j]:=fun j hj=>by
  have:(arrOf st).toList[L1.length+j]? =some X[j]:=by
   rw[e,Ze,Ze,Y7 (by lia),Zw,Y6 hj];simp[hj]
  simpa using this
 have atY:∀(j:Nat) (hj:j<Y.length),(arrOf st)[L1.length+X.length+j]? =some Y[j]:=fun j hj=>by
  have:(arrOf st).toList[L1.length+X.length+j]? =some Y[j]:=by
   rw[e,Ze,Y7 (by rw[Z9];lia),Z9,Zw,Y6 hj];simp[hj]
  simpa using this
 have DX:∀(j:Nat) (hj:j<X.length),D X[j]:=fun j hj=>dX _ (Ya hj)
 have DY:∀(j:Nat) (hj:j<Y.length),D Y[j]:=fun j hj=>dY _ (Ya hj)
 have leX:∀(i j:Nat) (hi:i<=j) (hj:j<X.length),N (X[i]'(by lia))<=N X[j]:=fun i j hi hj=>hX.le hi (by simp) (by simp)
 have leY:∀(i j:Nat) (hi:i<=j) (hj:j<Y.length),N (Y[i]'(by lia))<=N Y[j]:=fun i j hi hj=>hY.le hi (by simp) (by simp)
 rw[o9];refine ad (c8 ?_);rw[hp,hp2];dsimp only;refine ad (AM ?_);have eb:=atY 0 lY;rw[add_zero]at eb;refine ad (az eb ?_);refine ad (cD c (DY 0 lY) (fun i hi=>⟨_,atX i hi,DX i hi⟩) (fun i=>bz N false Y[0] (X.getD i Y[0])) (fun i x hi hx=>by
  rw[atX i hi]at hx;cases hx;rw[Zc,Z4 hi];rfl) (fun i j hij hj hq=>?_) lX fun k hk p1 p2=>?_)
 ·rw[Zc,Z4 hj]at hq;rw[Zc,Z4 (by lia)];have:=leX i j hij hj;unfold bz at hq ⊢;simp only[Y1,if_false,Bool.not_eq_true',decide_eq_false_iff_not,getD_some]at hq ⊢
  lia
 have g1:∀(j:Nat) (hj:j<X.length),j<k->N X[j]<=N Y[0]:=fun j hj hjk=>by
  have:=p1 j hjk;rw[Zc,Z4 hj]at this;unfold bz at this;simpa using this
 have g2:∀(j:Nat) (hj:j<X.length),k<=j->N Y[0]<N X[j]:=fun j hj hjk=>by
  have:=p2 j hjk hj;rw[Zc,Z4 hj]at this;unfold bz at this;simpa using this
 dsimp only;by_cases q1:X.length-k=0
 ·rw[if_pos (by simp[q1])];refine ae (h (X++Y) _ (pairwise_append.mpr ⟨hX,hY,fun x hx y hy=>?_⟩) (List.Perm.refl _) (by show(arrOf st).toList=_;rw[e];simp) rfl hf rfl);obtain⟨j,hj,rfl⟩:=getElem_of_mem hx;obtain⟨j',hj',rfl⟩:=getElem_of_mem hy;exact Yd (g1 j hj (by lia)) (leY 0 j' (X7 _) hj')
 rw[if_neg (by simpa using q1)];have el:=atX (X.length-1) (by lia);rw[show L1.length+k+(X.length-k) -1=L1.length+(X.length-1) by lia];refine ad (az el ?_);refine ad (cD c (DX _ (by lia)) (fun i hi=>⟨_,atY i hi,DY i hi⟩) (fun i=>bz N true (X[X.length-1]'(by lia)) (Y.getD i Y[0])) (fun i x hi hx=>by
  rw[atY i hi]at hx;cases hx;rw[Zc,Z4 hi];rfl) (fun i j hij hj hq=>?_) (by lia) fun k2 hk2 p3 p4=>?_)
 ·rw[Zc,Z4 hj]at hq;rw[Zc,Z4 (by lia)];have:=leY i j hij hj;unfold bz at hq ⊢;simp only[if_true,decide_eq_true_eq,getD_some]at hq ⊢
  lia
 have g3:∀(j:Nat) (hj:j<Y.length),j<k2->N Y[j]<N (X[X.length-1]'(by lia)):=fun j hj hjk=>by
  have:=p3 j hjk;rw[Zc,Z4 hj]at this;unfold bz at this;simpa using this
 have g4:∀(j:Nat) (hj:j<Y.length),k2<=j->N (X[X.length-1]'(by lia))<=N Y[j]:=fun j hj hjk=>by
  have:=p4 j hjk hj;rw[Zc,Z4 hj]at this;unfold bz at this;simpa using this
 dsimp only;by_cases q2:k2=0
 ·rw[if_pos (by simp[q2])];refine ae (h (X++Y) _ (pairwise_append.mpr ⟨hX,hY,fun x hx y hy=>?_⟩) (List.Perm.refl _) (by show(arrOf st).toList=_;rw[e];simp) rfl hf rfl);obtain⟨j,hj,rfl⟩:=getElem_of_mem hx;obtain⟨j',hj',rfl⟩:=getElem_of_mem hy;exact Yd (leX j (X.length-1) (by lia) (by lia)) (g4 j' hj' (by lia))
 rw[if_neg (by simpa using q2)];have ex:((arrOf st).extract (L1.length+k) (L1.length+X.length)).toList=X.drop k:=by
  rw[fZ,e,Ze,Ze,List.drop_append,List.drop_of_length_le (by lia),nil_append,Zw,List.drop_append_of_le_length (by lia),List.take_append_of_le_length (by rw[Ye];lia),Zn (by rw[Ye];lia)]
 have ey:((arrOf st).extract (L1.length+X.length) (L1.length+X.length+k2)).toList=Y.take k2:=by
  rw[jY,e,Ze,List.drop_append,List.drop_of_length_le (by rw[Z9];lia),nil_append,Z9,sub_self,List.drop_zero,List.take_append_of_le_length (by lia)]
 have sx:((arrOf st).extract (L1.length+k) (L1.length+X.length)).size=X.length-k:=by rw[<-Zb,ex,Ye]
 have sy:((arrOf st).extract (L1.length+X.length) (L1.length+X.length+k2)).size=k2:=by rw[<-Zb,ey,Yh,Yt hk2]
 have fin:∀(r:Array Keyed) (st1:SortSt),SG (setPending st (((pendingOf st).setIfInBounds i (L1.length,X.length+Y.length,p)).eraseIdxIfInBounds (i+1))) st1->fI N (X.drop k) (Y.take k2) r.toList->
  (SC prog w A SI) (do modify (fun s=>setArr s (r.toList.zipIdx.foldl (fun a (p,j)=>a.setIfInBounds (L1.length+k+j) p) (arrOf s)));let x<-get;pure (failedOf x).isNone) Q st1:=fun r st1 sg gd=>by
  refine ad (bq (ad (c8 (ae ?_))));have hf1:failedOf st1=none:=by rw[sg.2.2.2];exact hf
  show Q (failedOf st1).isNone _;rw[hf1];have lr:r.toList.length=(X.length-k) +k2:=by
   rw[gd.2.length_eq,Z9,Ye,Yh,Yt hk2]
  refine h (X.take k++r.toList++Y.drop k2) _ ?_ ?_ ?_ sg.1 hf1 sg.2.2.1
  ·have mem:∀y∈r.toList,(∃(j:Nat) (hj:j<X.length),k<=j/\y=X[j])\/∃(j:Nat) (hj:j<Y.length),j<k2/\y=Y[j]:=fun y hy=>by
    rcases Xg (gd.2.mem_iff.mp hy)with q|q
    ·obtain⟨j,h1,h2,e⟩:=be q;obtain⟨hj,e⟩:=Xf e;exact .inl ⟨j,hj,h1,e.symm⟩
    ·obtain⟨j,h1,h2,e⟩:=aR q;obtain⟨hj,e⟩:=Xf e;exact .inr ⟨j,hj,h1,e.symm⟩
   refine pairwise_append.mpr ⟨pairwise_append.mpr ⟨hX.take k,gd.1,fun x hx y hy=>?_⟩,hY.drop k2,fun x hx y hy=>?_⟩
   ·obtain⟨j,h1,h2,e⟩:=aR hx;obtain⟨hj,rfl⟩:=Xf e;rcases mem y hy with⟨j',hj',h3,rfl⟩|⟨j',hj',h3,rfl⟩
    ·exact leX j j' (by lia) hj'
    ·exact Yd (g1 j hj h1) (leY 0 j' (X7 _) hj')
   ·obtain⟨j,h1,h2,e⟩:=be hy;obtain⟨hj,rfl⟩:=Xf e;rcases Xg hx with hx|hx
    ·obtain⟨j',h3,h4,e'⟩:=aR hx;obtain⟨hj',rfl⟩:=Xf e';exact Yd (leX j' (X.length-1) (by lia) (by lia)) (g4 j hj h1)
    ·rcases mem x hx with⟨j',hj',h3,rfl⟩|⟨j',hj',h3,rfl⟩
     ·exact Yd (leX j' (X.length-1) (by lia) (by lia)) (g4 j hj h1)
     ·exact leY j' j (by lia) hj
  ·have p1:(X.take k++r.toList++Y.drop k2).Perm (X.take k++(X.drop k++Y.take k2) ++Y.drop k2):=Xd _ (List.Perm.append_left _ gd.2);refine p1.trans ?_;rw[<-Ze,X3,Ze,X3]
  ·show(setArr st1 _|>arrOf).toList=_;have ea1:arrOf st1=arrOf st:=sg.2.1;show((r.toList.zipIdx).foldl (fun(a:Array Keyed) (p:Keyed×Nat)=>a.setIfInBounds (L1.length+k+p.2) p.1) (arrOf st1)).toList=_;rw[pd _ 0 _ _ (by rw[lr,ea1,sz];lia),ea1,e,lr];have t1:(L1++X++Y++L2).take (L1.length+k+0)=L1++X.take k:=by
    rw[add_zero,Ze,Ze,List.take_append,Zn (by lia),Zw,List.take_append_of_le_length (by lia)]
   have t2:(L1++X++Y++L2).drop (L1.length+k+0+(X.length-k+k2))=Y.drop k2++L2:=by
    rw[show L1.length+k+0+(X.length-k+k2)=(L1++X).length+k2 by rw[Z9];lia,Ze,List.drop_append,List.drop_of_length_le (by lia),nil_append,Zw,List.drop_append_of_le_length (by lia)]
   rw[t1,t2];simp
 have pre0:∀x y,((arrOf st).extract (L1.length+X.length) (L1.length+X.length+k2)).toList[0]? =some x->((arrOf st).extract (L1.length+k) (L1.length+X.length)).toList[0]? =some y->N x<=N y:=fun x y hx hy=>by
  rw[ey,Y9,if_pos (by lia),Z4 lY]at hx;rw[ex,Y8,Z4 (by omega)]at hy;cases hx;cases hy;exact Yb (g2 _ (by lia) (by lia))
 have prel:∀y∈((arrOf st).extract (L1.length+X.length) (L1.length+X.length+k2)).toList,∀x∈((arrOf st).extract (L1.length+k) (L1.length+X.length)).toList.drop (((arrOf st).extract (L1.length+k) (L1.length+X.length)).size-1),N y<=N x:=fun y hy x hx=>by
  rw[ey]at hy;rw[sx,ex,drop_drop]at hx;obtain⟨j,h1,h2,e1⟩:=aR hy;obtain⟨hj,rfl⟩:=Xf e1;obtain⟨j',h3,h4,e2⟩:=be hx;obtain⟨hj',rfl⟩:=Xf e2;have:j'=X.length-1:=by lia
  subst this;exact Yb (g3 j hj h1)
 have hXs:Srt N ((arrOf st).extract (L1.length+k) (L1.length+X.length)).toList:=by rw[ex];exact hX.drop k
 have hYs:Srt N ((arrOf st).extract (L1.length+X.length) (L1.length+X.length+k2)).toList:=by rw[ey];exact hY.take k2
 have dXs:∀x∈((arrOf st).extract (L1.length+k) (L1.length+X.length)).toList,D x:=fun x hx=>dX x (by rw[ex]at hx;exact Yr hx)
 have dYs:∀x∈((arrOf st).extract (L1.length+X.length) (L1.length+X.length+k2)).toList,D x:=fun x hx=>dY x (by rw[ey]at hx;exact Ys hx)
 have gg:∀(r:Array Keyed) (st1:SortSt),SG (setPending st (((pendingOf st).setIfInBounds i (L1.length,X.length+Y.length,p)).eraseIdxIfInBounds (i+1))) st1->fI N ((arrOf st).extract (L1.length+k) (L1.length+X.length)).toList ((arrOf st).extract (L1.length+X.length) (L1.length+X.length+k2)).toList r.toList->
  (SC prog w A SI) (do modify (fun s=>setArr s (r.toList.zipIdx.foldl (fun a (p,j)=>a.setIfInBounds (L1.length+k+j) p) (arrOf s)));let x<-get;pure (failedOf x).isNone) Q st1:=fun r st1 sg gd=>fin r st1 sg (by rw[ex,ey]at gd;exact gd)
 by_cases q3:X.length-k<=k2
 ·rw[if_pos q3];exact ad (qS c hXs hYs dXs dYs (by rw[sx];lia) (by rw[sy];lia) pre0 prel gg)
 ·rw[if_neg q3];exact ad (qT c hXs hYs dXs dYs (by rw[sx];lia) (by rw[sy];lia) pre0 prel gg)
end
end SBig
namespace SBig
open PySem PyProof.Rows
noncomputable def ky(N:Keyed->Nat)(a:Array Keyed)(i:Nat):Nat:=N (a.getD i (Value.none,Value.none))
theorem wq{N:Keyed->Nat}{a:Array Keyed}{i:Nat}{x:Keyed}(h:a[i]? =some x):ky N a i=N x:=by
 unfold ky;rw[Zs,h];rfl
theorem pf{N:Keyed->Nat}{a b:Array Keyed}{i j:Nat}(h:a[i]? =b[j]?):ky N a i=ky N b j:=by
 unfold ky;rw[Zs,Zs,h]
structure CR (st0 st:SortSt) (lo:Nat):Prop where
 kind:kindOf st=kindOf st0
 pend:pendingOf st=pendingOf st0
 fail:failedOf st=failedOf st0
 perm:(arrOf st).Perm (arrOf st0)
 same:∀i,i<lo->(arrOf st)[i]? =(arrOf st0)[i]?
theorem CR.refl(st:SortSt)(lo:Nat):CR st st lo:=⟨rfl,rfl,rfl,Array.Perm.refl _,fun _ _=>rfl⟩
theorem CR.size{st0 st:SortSt}{lo:Nat}(h:CR st0 st lo):(arrOf st).size=(arrOf st0).size:=h.perm.size_eq
theorem CR.rev{st0 st:SortSt}{lo i j:Nat}(h:CR st0 st lo)(hi:lo<=i)(hj:j<=(arrOf st).size):CR st0 (setArr st (mirror (arrOf st) i j ((j-i)/2))) lo:=
 ⟨h.kind,h.pend,h.fail,(mirror_perm _ _ _ _).trans h.perm,fun k hk=>by
  show(mirror (arrOf st) i j ((j-i)/2))[k]? =_;rw[getElem?_mirror_all hj,if_neg (by lia)];exact h.same k hk⟩
theorem qV{N:Keyed->Nat}{a:Array Keyed}{i j:Nat}(hj:j<=a.size)(k:Nat):ky N (mirror a i j ((j-i)/2)) k=if i<=k/\k<j then ky N a (i+j-1-k)else ky N a k:=by
 split
 ·rename_i h
  exact pf (by rw[getElem?_mirror_all hj,if_pos h])
 ·rename_i h
  exact pf (by rw[getElem?_mirror_all hj,if_neg h])
def Up(N:Keyed->Nat)(a:Array Keyed)(lo n:Nat):Prop:=∀i j,i<=j->j<n->ky N a (lo+i)<=ky N a (lo+j)
def Dn(N:Keyed->Nat)(a:Array Keyed)(lo n:Nat):Prop:=∀i j,i<=j->j<n->ky N a (lo+j)<=ky N a (lo+i)
theorem Up.one(N:Keyed->Nat)(a:Array Keyed)(lo:Nat):Up N a lo 1:=fun i j h1 h2=>by
 rw[show i=j by lia];exact Zi _
theorem Up.step{N:Keyed->Nat}{a:Array Keyed}{lo n:Nat}(h:Up N a lo n)(h1:1<=n)(hn: ¬ ky N a (lo+n)<ky N a (lo+n-1)):Up N a lo (n+1):=fun i j hij hj=>by
 by_cases e:j=n
 ·subst e;by_cases e2:i=j
  ·rw[e2];exact Zi _
  ·have:=h i (j-1) (by lia) (by lia);rw[show lo+(j-1)=lo+j-1 by lia]at this
   lia
 ·exact h i j hij (by lia)
theorem Dn.step{N:Keyed->Nat}{a:Array Keyed}{lo n:Nat}(h:Dn N a lo n)(h1:1<=n)(hn:ky N a (lo+n)<=ky N a (lo+n-1)):Dn N a lo (n+1):=fun i j hij hj=>by
 by_cases e:j=n
 ·subst e;by_cases e2:i=j
  ·rw[e2];exact Zi _
  ·have:=h i (j-1) (by lia) (by lia);rw[show lo+(j-1)=lo+j-1 by lia]at this
   lia
 ·exact h i j hij (by lia)
theorem Dn.rev{N:Keyed->Nat}{a:Array Keyed}{lo n:Nat}(h:Dn N a lo n)(hn:lo+n<=a.size):Up N (mirror a lo (lo+n) ((lo+n-lo)/2)) lo n:=fun i j hij hj=>by
 rw[qV hn,qV hn,if_pos (by lia),if_pos (by lia)];have:=h (n-1-j) (n-1-i) (by lia) (by lia);rw[show lo+(lo+n) -1-(lo+i)=lo+(n-1-i) by lia,show lo+(lo+n) -1-(lo+j)=lo+(n-1-j) by lia];exact this
theorem Dn.same{N:Keyed->Nat}{a:Array Keyed}{lo n i j:Nat}(h:Dn N a lo n)(hj:j<=a.size)(he:∀k k',i<=k->k<j->i<=k'->k'<j->ky N a k=ky N a k'):Dn N (mirror a i j ((j-i)/2)) lo n:=by
 have e:∀k,ky N (mirror a i j ((j-i)/2)) k=ky N a k:=fun k=>by
  rw[qV hj]
  split
  ·exact he _ _ (by lia) (by lia) (by lia) (by lia)
  ·rfl
 intro p q hpq hq;rw[e,e];exact h p q hpq hq
section
variable{prog:Program}{w:World}{A:Around}{SI:Shared->Prop}{α β:Type}
theorem dN{D:Keyed->Prop}{N:Keyed->Nat}{i j lo:Nat}{Q:Option Bool->SortSt->Prop}{st0 st:SortSt}(c:Cmp prog w A SI (kindOf st0) D N)(d:∀x∈(arrOf st0).toList,D x)(r:CR st0 st lo)(hi:i<(arrOf st0).size)(hj:j<(arrOf st0).size)
 (h:Q (some (decide (ky N (arrOf st) i<ky N (arrOf st) j))) st):(SC prog w A SI) (ltAt' i j) Q st:=by
 have dd:∀x∈(arrOf st).toList,D x:=fun x hx=>d x ((Array.perm_iff_toList_perm.mp r.perm).mem_iff.mp hx)
 have hi':i<(arrOf st).size:=by rw[r.size];exact hi
 have hj':j<(arrOf st).size:=by rw[r.size];exact hj
 obtain⟨e1,e1'⟩:=aM hi';obtain⟨e2,e2'⟩:=aM hj';refine yz (by rw[r.kind];exact c) e1 e2 (dd _ (by simp)) (dd _ (by simp)) ?_;rw[wq e1,wq e2]at h;exact h
theorem eY{i j:Nat}{Q:Unit->SortSt->Prop}{st:SortSt}(h:Q () (setArr st (mirror (arrOf st) i j ((j-i)/2)))):(SC prog w A SI) (reverseSlice' i j) Q st:=by
 rw[reverseSlice'_eq];exact bq h
theorem ph{D:Keyed->Prop}{N:Keyed->Nat}{lo nrem:Nat}{Q:Option Nat->SortSt->Prop}{st:SortSt}(c:Cmp prog w A SI (kindOf st) D N)(d:∀x∈(arrOf st).toList,D x)(h1:1<=nrem)(hs:lo+nrem<=(arrOf st).size)
 (h:∀n st',CR st st' lo->1<=n->n<=nrem->Up N (arrOf st') lo n->Q (some n) st'):(SC prog w A SI) (countRun' lo nrem) Q st:=by
 rw[countRun'_eq];refine ad (aT (aG (Q:=fun x st'=>st'=st/\∃n,x=(none,n)/\1<=n/\n<=nrem/\Up N (arrOf st) lo n/\(n=nrem\/ky N (arrOf st) (lo+n)<ky N (arrOf st) (lo+n-1)))
  (fun j x st'=>st'=st/\x=(none,j)/\Up N (arrOf st) lo j) h1 ⟨rfl,rfl,Up.one _ _ _⟩ ?_ ?_) ?_)
 ·rintro j x st' hj1 hj ⟨rfl,rfl,up⟩;dsimp only;refine ad (dN c d (CR.refl _ lo) (by lia) (by lia) ?_);dsimp only;by_cases q:ky N (arrOf st') (lo+j)<ky N (arrOf st') (lo+j-1)
  ·rw[Zf q,if_pos rfl];exact ae ⟨rfl,j,rfl,hj1,by lia,up,.inr q⟩
  ·rw[Zh q,if_neg (by simp)];exact ae ⟨rfl,rfl,up.step hj1 q⟩
 ·rintro x st' ⟨rfl,rfl,up⟩;exact⟨rfl,nrem,rfl,h1,Zi _,up,.inl rfl⟩
 ·rintro x st1 ⟨e1,n,rfl,n1,n2,up,hq⟩;subst e1;dsimp only;by_cases q1:n=nrem
  ·rw[if_pos (by simp[q1])];exact ae (h n st1 (CR.refl _ _) n1 n2 up)
  rw[if_neg (by simp[q1])];have hq:ky N (arrOf st1) (lo+n)<ky N (arrOf st1) (lo+n-1):=hq.resolve_left q1;have n3:n<nrem:=by lia
  by_cases q2:n>1
  ·rw[if_pos q2];refine ad (dN c d (CR.refl _ lo) (by lia) (by lia) ?_);dsimp only;by_cases q3:ky N (arrOf st1) lo<ky N (arrOf st1) (lo+n-1)
   ·rw[Zf q3,if_pos rfl];exact ae (h n st1 (CR.refl _ _) n1 n2 up)
   ·rw[Zh q3,if_neg (by simp)];refine ad (eY ?_);have r2:=(CR.refl st1 lo).rev (i:=lo) (j:=lo+n) (Zi _) (by lia);have all:∀i,i<n->ky N (arrOf st1) (lo+i)=ky N (arrOf st1) lo:=fun i hi=>by
     have a1:=up 0 i (X7 _) hi;have a2:=up i (n-1) (by lia) (by lia);rw[show lo+(n-1)=lo+n-1 by lia]at a2;rw[add_zero]at a1
     lia
    have dn0:Dn N (arrOf st1) lo n:=fun i j hij hj=>by rw[all i (by lia),all j hj];exact Zi _
    have dn1:Dn N (arrOf st1) lo (n+1):=dn0.step n1 (by lia);have dn2:=dn1.same (i:=lo) (j:=lo+n) (by lia) (fun k k' a1 a2 a3 a4=>by
     have b1:=all (k-lo) (by lia);have b2:=all (k'-lo) (by lia);rw[show lo+(k-lo)=k by lia]at b1;rw[show lo+(k'-lo)=k' by lia]at b2;rw[b1,b2])
    refine ad (eX ?_);refine ad (aT (aG (Q:=fun x st'=>CR st1 st' lo/\∃m q,x=(none,m,q)/\q+1<=m/\m<=nrem/\Dn N (arrOf st') lo m/\(∀k k',lo+m-(q+1)<=k->k<lo+m->lo+m-(q+1)<=k'->k'<lo+m->ky N (arrOf st') k=ky N (arrOf st') k'))
     (fun j x st'=>CR st1 st' lo/\∃q,x=(none,j,q)/\q+1<=j/\Dn N (arrOf st') lo j/\(∀k k',lo+j-(q+1)<=k->k<lo+j->lo+j-(q+1)<=k'->k'<lo+j->ky N (arrOf st') k=ky N (arrOf st') k')) (by lia) ⟨r2,0,rfl,by lia,dn2,fun k k' a1 a2 a3 a4=>by rw[show k=k' by lia]⟩ ?_ ?_) ?_)
    ·rintro j x st3 hj1 hj ⟨r3,q,rfl,hqj,dn3,eq3⟩;dsimp only;refine ad (dN c d r3 (by lia) (by lia) ?_);dsimp only;by_cases hs:ky N (arrOf st3) (lo+j)<ky N (arrOf st3) (lo+j-1)
     ·rw[Zf hs,if_pos rfl];by_cases hq0:q>0
      ·rw[if_pos hq0];refine ad (eY (ae ⟨r3.rev (by lia) (by rw[r3.size];lia),0,rfl,by lia,?_,fun k k' a1 a2 a3 a4=>by rw[show k=k' by lia]⟩));have dn4:Dn N (arrOf st3) lo (j+1):=dn3.step (by lia) (by lia);exact dn4.same (by rw[r3.size];lia) eq3
      ·rw[if_neg hq0];exact ae ⟨r3,0,rfl,by lia,dn3.step (by lia) (by lia),fun k k' a1 a2 a3 a4=>by rw[show k=k' by lia]⟩
     ·rw[Zh hs,if_neg (by simp)];refine ad (dN c d r3 (by lia) (by lia) ?_);dsimp only;by_cases hl:ky N (arrOf st3) (lo+j-1)<ky N (arrOf st3) (lo+j)
      ·rw[Zf hl,if_pos rfl];exact ae ⟨r3,j,q,rfl,hqj,by lia,dn3,eq3⟩
      ·rw[Zh hl,if_neg (by simp)];have ee:ky N (arrOf st3) (lo+j)=ky N (arrOf st3) (lo+j-1):=by lia
       have all:∀k,lo+j-(q+1)<=k->k<lo+(j+1)->ky N (arrOf st3) k=ky N (arrOf st3) (lo+j-1):=fun k a1 a2=>by
        by_cases e:k=lo+j
        ·rw[e];exact ee
        ·exact eq3 _ _ a1 (by lia) (by lia) (by lia)
       exact ae ⟨r3,q+1,rfl,by lia,dn3.step (by lia) (by lia),fun k k' a1 a2 a3 a4=>(all k (by lia) a2).trans (all k' (by lia) a4).symm⟩
    ·rintro x st3 ⟨r3,q,rfl,hqj,dn3,eq3⟩;exact⟨r3,nrem,q,rfl,hqj,Zi _,dn3,eq3⟩
    ·rintro x st3 ⟨r3,m,q,rfl,hqm,hm,dn3,eq3⟩;dsimp only;by_cases hq0:q>0
     ·rw[if_pos hq0];refine ad (eY ?_);have r4:=r3.rev (i:=lo+m-(q+1)) (j:=lo+m) (by lia) (by rw[r3.size];lia);have dn4:=dn3.same (i:=lo+m-(q+1)) (j:=lo+m) (by rw[r3.size];lia) eq3;refine ad (eY ?_);have r5:=(r4).rev (i:=lo) (j:=lo+m) (Zi _) (by rw[(r4).size];lia);have up5:=(dn4).rev (by rw[(r4).size];lia);refine ad (aT (aG (Q:=fun x st'=>CR st1 st' lo/\∃n,x=(none,n)/\1<=n/\n<=nrem/\Up N (arrOf st') lo n)
       (fun j x st'=>CR st1 st' lo/\x=(none,j)/\Up N (arrOf st') lo j) (by lia) ⟨r5,rfl,up5⟩ ?_ ?_) ?_)
      ·rintro j x st6 hj1 hj ⟨r6,rfl,up6⟩;dsimp only;refine ad (dN c d r6 (by lia) (by lia) ?_);dsimp only;by_cases q:ky N (arrOf st6) (lo+j)<ky N (arrOf st6) (lo+j-1)
       ·rw[Zf q,if_pos rfl];exact ae ⟨r6,j,rfl,by lia,by lia,up6⟩
       ·rw[Zh q,if_neg (by simp)];exact ae ⟨r6,rfl,up6.step (by lia) q⟩
      ·rintro x st6 ⟨r6,rfl,up6⟩;exact⟨r6,nrem,rfl,h1,Zi _,up6⟩
      ·rintro x st6 ⟨r6,m,rfl,m1,m2,up6⟩;exact ae (h m st6 r6 m1 m2 up6)
     ·rw[if_neg hq0];refine ad (eY ?_);have r5:=(r3).rev (i:=lo) (j:=lo+m) (Zi _) (by rw[(r3).size];lia);have up5:=(dn3).rev (by rw[(r3).size];lia);refine ad (aT (aG (Q:=fun x st'=>CR st1 st' lo/\∃n,x=(none,n)/\1<=n/\n<=nrem/\Up N (arrOf st') lo n)
       (fun j x st'=>CR st1 st' lo/\x=(none,j)/\Up N (arrOf st') lo j) (by lia) ⟨r5,rfl,up5⟩ ?_ ?_) ?_)
      ·rintro j x st6 hj1 hj ⟨r6,rfl,up6⟩;dsimp only;refine ad (dN c d r6 (by lia) (by lia) ?_);dsimp only;by_cases q:ky N (arrOf st6) (lo+j)<ky N (arrOf st6) (lo+j-1)
       ·rw[Zf q,if_pos rfl];exact ae ⟨r6,j,rfl,by lia,by lia,up6⟩
       ·rw[Zh q,if_neg (by simp)];exact ae ⟨r6,rfl,up6.step (by lia) q⟩
      ·rintro x st6 ⟨r6,rfl,up6⟩;exact⟨r6,nrem,rfl,h1,Zi _,up6⟩
      ·rintro x st6 ⟨r6,m,rfl,m1,m2,up6⟩;exact ae (h m st6 r6 m1 m2 up6)
  ·rw[if_neg q2];have e1:n=1:=by lia
   have r2:=CR.refl st1 lo;have dn2:Dn N (arrOf st1) lo (n+1):=by
    refine Dn.step (fun i j hij hj=>?_) n1 (by lia);rw[show i=j by lia];exact Zi _
   refine ad (eX ?_);refine ad (aT (aG (Q:=fun x st'=>CR st1 st' lo/\∃m q,x=(none,m,q)/\q+1<=m/\m<=nrem/\Dn N (arrOf st') lo m/\(∀k k',lo+m-(q+1)<=k->k<lo+m->lo+m-(q+1)<=k'->k'<lo+m->ky N (arrOf st') k=ky N (arrOf st') k'))
    (fun j x st'=>CR st1 st' lo/\∃q,x=(none,j,q)/\q+1<=j/\Dn N (arrOf st') lo j/\(∀k k',lo+j-(q+1)<=k->k<lo+j->lo+j-(q+1)<=k'->k'<lo+j->ky N (arrOf st') k=ky N (arrOf st') k')) (by lia) ⟨r2,0,rfl,by lia,dn2,fun k k' a1 a2 a3 a4=>by rw[show k=k' by lia]⟩ ?_ ?_) ?_)
   ·rintro j x st3 hj1 hj ⟨r3,q,rfl,hqj,dn3,eq3⟩;dsimp only;refine ad (dN c d r3 (by lia) (by lia) ?_);dsimp only;by_cases hs:ky N (arrOf st3) (lo+j)<ky N (arrOf st3) (lo+j-1)
    ·rw[Zf hs,if_pos rfl];by_cases hq0:q>0
     ·rw[if_pos hq0];refine ad (eY (ae ⟨r3.rev (by lia) (by rw[r3.size];lia),0,rfl,by lia,?_,fun k k' a1 a2 a3 a4=>by rw[show k=k' by lia]⟩));have dn4:Dn N (arrOf st3) lo (j+1):=dn3.step (by lia) (by lia);exact dn4.same (by rw[r3.size];lia) eq3
     ·rw[if_neg hq0];exact ae ⟨r3,0,rfl,by lia,dn3.step (by lia) (by lia),fun k k' a1 a2 a3 a4=>by rw[show k=k' by lia]⟩
    ·rw[Zh hs,if_neg (by simp)];refine ad (dN c d r3 (by lia) (by lia) ?_);dsimp only;by_cases hl:ky N (arrOf st3) (lo+j-1)<ky N (arrOf st3) (lo+j)
     ·rw[Zf hl,if_pos rfl];exact ae ⟨r3,j,q,rfl,hqj,by lia,dn3,eq3⟩
     ·rw[Zh hl,if_neg (by simp)];have ee:ky N (arrOf st3) (lo+j)=ky N (arrOf st3) (lo+j-1):=by lia
      have all:∀k,lo+j-(q+1)<=k->k<lo+(j+1)->ky N (arrOf st3) k=ky N (arrOf st3) (lo+j-1):=fun k a1 a2=>by
       by_cases e:k=lo+j
       ·rw[e];exact ee
       ·exact eq3 _ _ a1 (by lia) (by lia) (by lia)
      exact ae ⟨r3,q+1,rfl,by lia,dn3.step (by lia) (by lia),fun k k' a1 a2 a3 a4=>(all k (by lia) a2).trans (all k' (by lia) a4).symm⟩
   ·rintro x st3 ⟨r3,q,rfl,hqj,dn3,eq3⟩;exact⟨r3,nrem,q,rfl,hqj,Zi _,dn3,eq3⟩
   ·rintro x st3 ⟨r3,m,q,rfl,hqm,hm,dn3,eq3⟩;dsimp only;by_cases hq0:q>0
    ·rw[if_pos hq0];refine ad (eY ?_);have r4:=r3.rev (i:=lo+m-(q+1)) (j:=lo+m) (by lia) (by rw[r3.size];lia);have dn4:=dn3.same (i:=lo+m-(q+1)) (j:=lo+m) (by rw[r3.size];lia) eq3;refine ad (eY ?_);have r5:=(r4).rev (i:=lo) (j:=lo+m) (Zi _) (by rw[(r4).size];lia);have up5:=(dn4).rev (by rw[(r4).size];lia);refine ad (aT (aG (Q:=fun x st'=>CR st1 st' lo/\∃n,x=(none,n)/\1<=n/\n<=nrem/\Up N (arrOf st') lo n)
      (fun j x st'=>CR st1 st' lo/\x=(none,j)/\Up N (arrOf st') lo j) (by lia) ⟨r5,rfl,up5⟩ ?_ ?_) ?_)
     ·rintro j x st6 hj1 hj ⟨r6,rfl,up6⟩;dsimp only;refine ad (dN c d r6 (by lia) (by lia) ?_);dsimp only;by_cases q:ky N (arrOf st6) (lo+j)<ky N (arrOf st6) (lo+j-1)
      ·rw[Zf q,if_pos rfl];exact ae ⟨r6,j,rfl,by lia,by lia,up6⟩
      ·rw[Zh q,if_neg (by simp)];exact ae ⟨r6,rfl,up6.step (by lia) q⟩
     ·rintro x st6 ⟨r6,rfl,up6⟩;exact⟨r6,nrem,rfl,h1,Zi _,up6⟩
     ·rintro x st6 ⟨r6,m,rfl,m1,m2,up6⟩;exact ae (h m st6 r6 m1 m2 up6)
    ·rw[if_neg hq0];refine ad (eY ?_);have r5:=(r3).rev (i:=lo) (j:=lo+m) (Zi _) (by rw[(r3).size];lia);have up5:=(dn3).rev (by rw[(r3).size];lia);refine ad (aT (aG (Q:=fun x st'=>CR st1 st' lo/\∃n,x=(none,n)/\1<=n/\n<=nrem/\Up N (arrOf st') lo n)
      (fun j x st'=>CR st1 st' lo/\x=(none,j)/\Up N (arrOf st') lo j) (by lia) ⟨r5,rfl,up5⟩ ?_ ?_) ?_)
     ·rintro j x st6 hj1 hj ⟨r6,rfl,up6⟩;dsimp only;refine ad (dN c d r6 (by lia) (by lia) ?_);dsimp only;by_cases q:ky N (arrOf st6) (lo+j)<ky N (arrOf st6) (lo+j-1)
      ·rw[Zf q,if_pos rfl];exact ae ⟨r6,j,rfl,by lia,by lia,up6⟩
      ·rw[Zh q,if_neg (by simp)];exact ae ⟨r6,rfl,up6.step (by lia) q⟩
     ·rintro x st6 ⟨r6,rfl,up6⟩;exact⟨r6,nrem,rfl,h1,Zi _,up6⟩
     ·rintro x st6 ⟨r6,m,rfl,m1,m2,up6⟩;exact ae (h m st6 r6 m1 m2 up6)
end
end SBig
namespace SBig
open PySem PyProof.Rows
section
variable{prog:Program}{w:World}{A:Around}{SI:Shared->Prop}{α β:Type}
theorem CR.move{st0 st:SortSt}{lo k l:Nat}(h:CR st0 st lo)(hk:lo+k<(arrOf st).size)(hl:l<=k):CR st0 (setArr st (bubble (arrOf st) (lo+k) (lo+k-(lo+l)))) lo:=
 ⟨h.kind,h.pend,h.fail,(bubble_perm _ _ _).trans h.perm,fun i hi=>by
  show(bubble (arrOf st) (lo+k) (lo+k-(lo+l)))[i]? =_;rw[getElem?_bubble hk _ (by lia),if_neg (by lia),if_neg (by lia)];exact h.same i hi⟩
theorem sF{N:Keyed->Nat}{a:Array Keyed}{src d:Nat}(hs:src<a.size)(hd:d<=src)(k:Nat):ky N (bubble a src d) k=if k=src-d then ky N a src else if src-d<k/\k<=src then ky N a (k-1)else ky N a k:=by
 by_cases h1:k=src-d
 ·rw[if_pos h1];exact pf (by rw[getElem?_bubble hs d hd,if_pos h1])
 ·rw[if_neg h1];by_cases h2:src-d<k/\k<=src
  ·rw[if_pos h2];exact pf (by rw[getElem?_bubble hs d hd,if_neg h1,if_pos h2])
  ·rw[if_neg h2];exact pf (by rw[getElem?_bubble hs d hd,if_neg h1,if_neg h2])
theorem tZ{D:Keyed->Prop}{N:Keyed->Nat}{lo n ok:Nat}{Q:Bool->SortSt->Prop}{st0 st:SortSt}(c:Cmp prog w A SI (kindOf st0) D N)(d:∀x∈(arrOf st0).toList,D x)(r:CR st0 st lo)(h1:1<=ok)(hn:ok<=n)(hs:lo+n<=(arrOf st0).size)(up:Up N (arrOf st) lo ok)
 (h:∀st',CR st0 st' lo->Up N (arrOf st') lo n->Q true st'):(SC prog w A SI) (binarySort' lo n ok) Q st:=by
 rw[binarySort'_eq];rw[show max ok 1=ok by lia];refine ad (aT (aG (Q:=fun x st'=>x=(none,())/\CR st0 st' lo/\Up N (arrOf st') lo n) (fun k x st'=>x=(none,())/\CR st0 st' lo/\Up N (arrOf st') lo k) hn ⟨rfl,r,up⟩ ?_ ?_) ?_)
 ·rintro k x st1 hk1 hk ⟨rfl,r1,up1⟩;dsimp only;have pv:∀i,i<k->lo+i<(arrOf st0).size:=fun i hi=>by lia
  refine ad (aT (aG (Q:=fun x st'=>st'=st1/\∃l,x.1=none/\x.2.1=l/\l<=k/\(∀i,i<l->ky N (arrOf st1) (lo+i)<=ky N (arrOf st1) (lo+k))/\(∀i,l<=i->i<k->ky N (arrOf st1) (lo+k)<ky N (arrOf st1) (lo+i)))
   (fun j x st'=>st'=st1/\∃l q,x=(none,l,q)/\l<=q/\q<=k/\q-l<=k-j/\(∀i,i<l->ky N (arrOf st1) (lo+i)<=ky N (arrOf st1) (lo+k))/\(∀i,q<=i->i<k->ky N (arrOf st1) (lo+k)<ky N (arrOf st1) (lo+i))) (X7 _)
   ⟨rfl,0,k,rfl,by lia,by lia,by lia,fun i hi=>absurd hi (Yx _),fun i h1 h2=>by lia⟩ ?_ ?_) ?_)
  ·rintro j x st2 _ hj ⟨rfl,l,q,rfl,hlq,hqk,hm,p1,p2⟩;dsimp only;by_cases hge:l>=q
   ·rw[if_pos hge];have e:l=q:=by lia
    subst e;exact ae ⟨rfl,l,rfl,rfl,hqk,p1,p2⟩
   ·rw[if_neg hge];refine ad (dN c d r1 (by lia) (by lia) ?_);dsimp only;by_cases hlt:ky N (arrOf st2) (lo+k)<ky N (arrOf st2) (lo+(l+q)/2)
    ·rw[Zf hlt,if_pos rfl];exact ae ⟨rfl,l,_,rfl,by lia,by lia,by lia,p1,fun i a1 a2=>Zg hlt (up1 _ _ a1 a2)⟩
    ·rw[Zh hlt,if_neg (by simp)];exact ae ⟨rfl,_,q,rfl,by lia,by lia,by lia,fun i a1=>Yd (up1 i ((l+q)/2) (by lia) (by lia)) (by lia),p2⟩
  ·rintro x st2 ⟨rfl,l,q,rfl,hlq,hqk,hm,p1,p2⟩;have e:l=q:=by lia
   subst e;exact⟨rfl,l,rfl,rfl,hqk,p1,p2⟩
  ·rintro⟨x1,x2,x3⟩ st2 ⟨e2,l,e3,e4,hlk,p1,p2⟩;subst e2;dsimp only at e3 e4;subst e3 e4;dsimp only;rw[moveDown'_eq];refine ad (bq (ae ⟨rfl,r1.move (by rw[r1.size];lia) hlk,?_⟩));have hsz:lo+k<(arrOf st2).size:=by rw[r1.size];lia
   intro i j hij hj;show ky N (bubble (arrOf st2) (lo+k) (lo+k-(lo+x2))) (lo+i)<=ky N (bubble (arrOf st2) (lo+k) (lo+k-(lo+x2))) (lo+j);rw[sF hsz (by lia),sF hsz (by lia)];have ed:lo+k-(lo+k-(lo+x2))=lo+x2:=by lia
   rw[ed];by_cases a1:lo+i=lo+x2
   ·rw[if_pos a1];by_cases a2:lo+j=lo+x2
    ·rw[if_pos a2];exact Zi _
    ·rw[if_neg a2,if_pos (by lia)];have:=p2 (j-1) (by lia) (by lia);rw[show lo+(j-1)=lo+j-1 by lia]at this
     lia
   ·rw[if_neg a1];by_cases a3:lo+x2<lo+i/\lo+i<=lo+k
    ·rw[if_pos a3,if_neg (by lia),if_pos (by lia)];have:=up1 (i-1) (j-1) (by lia) (by lia);rw[show lo+(j-1)=lo+j-1 by lia,show lo+(i-1)=lo+i-1 by lia]at this;exact this
    ·rw[if_neg a3];by_cases a4:lo+j=lo+x2
     ·rw[if_pos a4];exact p1 i (by lia)
     ·rw[if_neg a4];by_cases a5:lo+x2<lo+j/\lo+j<=lo+k
      ·rw[if_pos a5];have:=up1 i (j-1) (by lia) (by lia);rw[show lo+(j-1)=lo+j-1 by lia]at this;exact this
      ·rw[if_neg a5];exact up1 i j hij (by lia)
 ·rintro x st1 ⟨rfl,r1,up1⟩;exact⟨rfl,r1,up1⟩
 ·rintro x st1 ⟨rfl,r1,up1⟩;exact ae (h st1 r1 up1)
end
end SBig
namespace SBig
open PySem PyProof.Rows
noncomputable def cr:List (List Keyed×Nat)->Nat->List (Nat×Nat×Nat)
 |[],_=>[]
 |(r,p)::t,o=>(o,r.length,p)::cr t (o+r.length)
noncomputable def aK(rp:List (List Keyed×Nat)):List Keyed:=(rp.map (·.1)).flatten
theorem aS(a b:List (List Keyed×Nat)):aK (a++b)=aK a++aK b:=by simp[aK]
theorem av(a:List Keyed×Nat)(b:List (List Keyed×Nat)):aK (a::b)=a.1++aK b:=by simp[aK]
theorem bT:∀(a b:List (List Keyed×Nat)) (o:Nat),cr (a++b) o=cr a o++cr b (o+(aK a).length)
 |[],b,o=>by simp[cr,aK]
 |(r,p)::t,b,o=>by
  rw[cons_append,cr,cr,bT t b,av,Z9,cons_append,Nat.add_assoc]
theorem cE:∀(a:List (List Keyed×Nat)) (o:Nat),(cr a o).length=a.length
 |[],_=>rfl
 |(r,p)::t,o=>by rw[cr,Zr,Zr,cE t]
structure RI (N:Keyed->Nat) (st0 st:SortSt) (rp:List (List Keyed×Nat)) (rest:List Keyed):Prop where
 kind:kindOf st=kindOf st0
 fail:failedOf st=none
 perm:(arrOf st).toList.Perm (arrOf st0).toList
 arr:(arrOf st).toList=aK rp++rest
 pend:(pendingOf st).toList=cr rp 0
 runs:∀r∈rp,r.1≠[]/\Srt N r.1
theorem RI.size{N:Keyed->Nat}{st0 st:SortSt}{rp:List (List Keyed×Nat)}{rest:List Keyed}(h:RI N st0 st rp rest):(arrOf st).size=(arrOf st0).size:=by
 rw[<-Zb,<-Zb,h.perm.length_eq]
theorem RI.psize{N:Keyed->Nat}{st0 st:SortSt}{rp:List (List Keyed×Nat)}{rest:List Keyed}(h:RI N st0 st rp rest):(pendingOf st).size=rp.length:=by
 rw[<-Zb,h.pend,cE]
section
variable{prog:Program}{w:World}{A:Around}{SI:Shared->Prop}{α β:Type}
theorem eZ{D:Keyed->Prop}{N:Keyed->Nat}{st0 st:SortSt}{a b:List (List Keyed×Nat)}{X Y:List Keyed}{p p2 i:Nat}{rest:List Keyed}{Q:Bool->SortSt->Prop}(c:Cmp prog w A SI (kindOf st0) D N)(d:∀x∈(arrOf st0).toList,D x)
 (h:RI N st0 st (a++(X,p)::(Y,p2)::b) rest) (hi:i=a.length) (k:∀Z st',RI N st0 st' (a++(Z,p)::b) rest->Z.length=X.length+Y.length->Q true st'):(SC prog w A SI) (mergeAt' i) Q st:=by
 subst hi;have e:=h.arr;rw[aS,av,av]at e;have e':(arrOf st).toList=aK a++X++Y++(aK b++rest):=by rw[e];simp
 have dd:∀x∈(arrOf st).toList,D x:=fun x hx=>d x (h.perm.mem_iff.mp hx)
 have pe:=h.pend;rw[bT,cr,cr,zero_add]at pe;have pl:(cr a 0).length=a.length:=cE a 0;have q1:(pendingOf st)[a.length]? =some ((aK a).length,X.length,p):=by
  have:(pendingOf st).toList[a.length]? =some ((aK a).length,X.length,p):=by
   rw[pe,Y7 (by lia),pl,sub_self];rfl
  simpa using this
 have q2:(pendingOf st)[a.length+1]? =some ((aK a).length+X.length,Y.length,p2):=by
  have:(pendingOf st).toList[a.length+1]? =some ((aK a).length+X.length,Y.length,p2):=by
   rw[pe,Y7 (by lia),pl,Zw];rfl
  simpa using this
 have hX:=h.runs (X,p) (by simp);have hY:=h.runs (Y,p2) (by simp);refine qU (by rw[h.kind];exact c) e' hX.2 hY.2 hX.1 hY.1 (fun x hx=>dd x (by rw[e'];simp[hx])) (fun x hx=>dd x (by rw[e'];simp[hx])) q1 q2 h.fail fun Z st' hZ hp ea hk hf hpe=>?_
 have zl:Z.length=X.length+Y.length:=by rw[hp.length_eq,Z9]
 refine k Z st' ⟨hk.trans h.kind,hf,?_,?_,?_,fun r hr=>?_⟩ zl
 ·refine List.Perm.trans ?_ h.perm;rw[ea,e'];rw[show aK a++X++Y++(aK b++rest)=aK a++(X++Y) ++(aK b++rest) by simp];exact Xd _ (List.Perm.append_left _ hp)
 ·rw[ea,aS,av];simp
 ·rw[hpe,Array.toList_eraseIdxIfInBounds,Array.toList_setIfInBounds,pe,bT,cr,zero_add];rw[List.set_append_right _ _ (by lia),pl,sub_self,List.set_cons_zero];rw[List.eraseIdx_append_of_length_le (by lia),pl,Zw,List.eraseIdx_cons_succ,List.eraseIdx_cons_zero];rw[zl,Nat.add_assoc]
 ·rcases Xg hr with hr|hr
  ·exact h.runs r (Yo _ hr)
  ·rcases mem_cons.mp hr with rfl|hr
   ·refine⟨fun q=>?_,hZ⟩;have hx:=length_pos_iff.mpr hX.1;dsimp only at q hx;rw[q,length_nil]at zl
    lia
   ·exact h.runs r (by simp[hr])
theorem t8{N:Keyed->Nat}{a:Array Keyed}{lo n:Nat}(h:Up N a lo n)(hn:lo+n<=a.size):Srt N ((a.toList.drop lo).take n):=by
 refine List.pairwise_iff_getElem.mpr fun i j hi hj hij=>?_
 have hj':j<n:=by rw[Yh]at hj;lia
 have g:∀(i:Nat) (hi:i<((a.toList.drop lo).take n).length),i<n->N ((a.toList.drop lo).take n)[i]=ky N a (lo+i):=fun i hi hin=>by
  refine(wq ?_).symm;have:((a.toList.drop lo).take n)[i]? =some ((a.toList.drop lo).take n)[i]:=Z4 hi;rw[Y9,if_pos hin,Y8]at this;simpa using this
 rw[g i hi (by lia),g j hj hj'];exact h i j (by lia) hj'
theorem CR.toRI{N:Keyed->Nat}{st0 st1 st2:SortSt}{rp:List (List Keyed×Nat)}{rest:List Keyed}{lo n:Nat}(h:RI N st0 st1 rp rest)(r:CR st1 st2 lo)(hlo:(aK rp).length=lo)(up:Up N (arrOf st2) lo n)(hn:lo+n<=(arrOf st1).size):
 ∃R rest',RI N st0 st2 rp (R++rest')/\R.length=n/\Srt N R:=by
 have hsz:(arrOf st2).size=(arrOf st1).size:=r.size;refine⟨((arrOf st2).toList.drop lo).take n,(arrOf st2).toList.drop (lo+n),⟨r.kind.trans h.kind,r.fail.trans h.fail,(Array.perm_iff_toList_perm.mp r.perm).trans h.perm,?_,by rw[r.pend];exact h.pend,h.runs⟩,?_,t8 up (by lia)⟩
 ·have e:(arrOf st2).toList.take lo=aK rp:=by
   have e1:(arrOf st2).toList.take lo=(arrOf st1).toList.take lo:=by
    apply List.ext_getElem?;intro i;rw[Y9,Y9]
    split
    ·rename_i hi
     have:=r.same i hi;simpa using this
    ·rfl
   rw[e1,h.arr,List.take_append_of_le_length (by lia),Zn (by lia)]
  rw[<-e];have t1:=X3 lo (arrOf st2).toList;have t2:=X3 n ((arrOf st2).toList.drop lo);rw[drop_drop]at t2;rw[t2,t1]
 ·rw[Yh,Ye,Zb]
  lia
theorem jB{α:Type}(f:α->α):∀(l:List α) (x:α),(l++[x]).modify l.length f=l++[f x]
 |[],x=>rfl
 | y::l,x=>by
   rw[cons_append,Zr,List.modify_succ_cons,jB f l x,cons_append]
theorem eL{α:Type}(l:List α):l=[]\/∃a x,l=a++[x]:=by
 by_cases h:l=[]
 ·exact .inl h
 ·exact .inr ⟨l.dropLast,l.getLast h,(List.dropLast_concat_getLast h).symm⟩
theorem mr{α:Type}(l:List α)(h:1<l.length):∃a x y,l=a++x::y::[]:=by
 rcases eL l with rfl|⟨a,y,rfl⟩
 ·simp at h
 ·rcases eL a with rfl|⟨b,x,rfl⟩
  ·simp at h
  ·exact⟨b,x,y,by simp⟩
theorem RI.pushed{N:Keyed->Nat}{st0 st:SortSt}{rp:List (List Keyed×Nat)}{R rest:List Keyed}{lo m:Nat}(h:RI N st0 st rp (R++rest))(hlo:(aK rp).length=lo)(hm:R.length=m)(h1:1<=m)(hR:Srt N R):RI N st0 (setPending st ((pendingOf st).push (lo,m,0))) (rp++[(R,0)]) rest:=by
 refine⟨h.kind,h.fail,h.perm,?_,?_,fun r hr=>?_⟩
 ·show(arrOf st).toList=_;rw[h.arr,aS,av];simp[aK]
 ·show((pendingOf st).push (lo,m,0)).toList=_;rw[X6,h.pend,bT,cr,cr,zero_add,hlo,hm]
 ·rcases Xg hr with hr|hr
  ·exact h.runs r hr
  ·rw[Xh hr];exact⟨fun q=>by dsimp only at q;rw[q]at hm;simp at hm;lia,hR⟩
theorem RI.powered{N:Keyed->Nat}{st0 st:SortSt}{rp:List (List Keyed×Nat)}{rest:List Keyed}{X:List Keyed}{p:Nat}(pw:Nat)(h:RI N st0 st (rp++[(X,p)]) rest):RI N st0 (setPending st ((pendingOf st).modify ((pendingOf st).size-1) fun x=>(x.fst,x.2.fst,pw))) (rp++[(X,pw)]) rest:=by
 refine⟨h.kind,h.fail,h.perm,?_,?_,fun r hr=>?_⟩
 ·show(arrOf st).toList=_;rw[h.arr,aS,aS,av,av]
 ·show((pendingOf st).modify ((pendingOf st).size-1) _).toList=_;rw[Array.toList_modify,h.psize,h.pend,bT,bT];rw[show(rp++[(X,p)]).length-1=(cr rp 0).length by rw[cE];simp];show List.modify (cr rp 0++[_]) _ _=_;rw[jB];rfl
 ·rcases Xg hr with hr|hr
  ·exact h.runs r (Yo _ hr)
  ·rw[Xh hr];exact h.runs (X,p) (by simp)
theorem sc_sortRuns{D:Keyed->Prop}{N:Keyed->Nat}{Q:Unit->SortSt->Prop}{st:SortSt}(c:Cmp prog w A SI (kindOf st) D N)(d:∀x∈(arrOf st).toList,D x)(h2:1<=(arrOf st).size)(hp:pendingOf st= #[])(hf:failedOf st=none)
 (h:∀st',(arrOf st').toList.Perm (arrOf st).toList->Srt N (arrOf st').toList->failedOf st'=none->Q () st'):(SC prog w A SI) sortRuns' Q st:=by
 rw[sortRuns'_eq];refine ad (c8 ?_);dsimp only;have ri0:RI N st st [] (arrOf st).toList:=⟨rfl,hf,List.Perm.refl _,rfl,by rw[hp];rfl,fun _ h=>(nomatch h)⟩
 refine ad (aT (aG (Q:=fun x st'=>∃rp lo,x=(none,lo)/\RI N st st' rp [])
  (fun j x st'=>∃rp rest lo,x=(none,lo)/\RI N st st' rp rest/\(aK rp).length=lo/\j<=lo/\lo<=(arrOf st).size) (X7 _) ⟨[],_,0,rfl,ri0,rfl,Zi _,X7 _⟩ ?_ ?_) ?_)
 ·rintro j x st1 _ hj ⟨rp,rest,lo,rfl,ri,hlo,hjl,hls⟩;dsimp only;have s1:=ri.size;by_cases hge:lo>=(arrOf st).size
  ·rw[if_pos hge];have er:rest=[]:=by
    have:=congrArg List.length ri.arr;rw[Z9,Zb,s1,hlo]at this;exact length_eq_zero_iff.mp (by lia)
   subst er;exact ae ⟨rp,lo,rfl,ri⟩
  rw[if_neg hge];have d1:∀x∈(arrOf st1).toList,D x:=fun x hx=>d x (ri.perm.mem_iff.mp hx)
  have c1:Cmp prog w A SI (kindOf st1) D N:=by rw[ri.kind];exact c
  refine ad (ph c1 d1 (by lia) (by lia) fun n st2 r2 n1 n2 up2=>?_);dsimp only;by_cases hmin:n<minRun' (arrOf st).size (arrOf st).size 0
  ·rw[if_pos hmin];refine ad (eX ?_);refine ad (tZ c1 d1 r2 n1 (by lia) (by lia) up2 fun st3 r3 up3=>?_);rw[if_neg (by simp)];obtain⟨R,rest',ri3,hR1,hR2⟩:=CR.toRI ri r3 hlo up3 (by lia);refine ad (c8 ?_);rcases eL rp with e0|⟨a0,⟨X0,p0⟩,e0⟩
   ·subst e0;have hb:(pendingOf st3).back? =none:=by
     have:=ri3.psize;rw[length_nil]at this;simp[Array.back?,this]
    rw[hb];dsimp only;exact ad (bq (ae ⟨_,_,_,rfl,ri3.pushed hlo hR1 (by lia) hR2,by rw[aS,Z9,hlo,av];simp[aK,hR1],by lia,by lia⟩))
   ·have hb:(pendingOf st3).back? =some ((aK a0).length,X0.length,p0):=by
     rw[<-Array.getLast?_toList,ri3.pend,e0,bT,cr,cr,zero_add];simp
    rw[hb];dsimp only;refine ad (aT (aG (Q:=fun x st'=>x=(none,())/\∃rp',RI N st st' rp' (R++rest')/\rp'≠[]/\(aK rp').length=lo) (fun j x st'=>x=(none,())/\∃rp',RI N st st' rp' (R++rest')/\rp'≠[]/\(aK rp').length=lo) (X7 _) ⟨rfl,rp,ri3,by rw[e0];simp,hlo⟩ ?_ ?_) ?_)
    ·rintro j5 x st5 _ _ ⟨rfl,rp5,ri5,ne5,lo5⟩;refine ad (c8 ?_);by_cases hz:(pendingOf st5).size>1
     ·obtain⟨a5,⟨X5,p5⟩,⟨Y5,q5⟩,rfl⟩:=mr rp5 (by rw[<-ri5.psize];exact hz);have hl5:(pendingOf st5).size-2=a5.length:=by rw[ri5.psize];simp
      have hg5:(pendingOf st5)[(pendingOf st5).size-2]? =some ((aK a5).length,X5.length,p5):=by
       have:(pendingOf st5).toList[a5.length]? =some ((aK a5).length,X5.length,p5):=by
        rw[ri5.pend,bT,Y7 (by rw[cE];lia),cE,sub_self,zero_add];rfl
       rw[hl5];simpa using this
      rw[if_pos hz,hg5];dsimp only
      split
      ·exact ae ⟨rfl,_,ri5,ne5,lo5⟩
      ·refine ad (eZ c d ri5 hl5 fun Z5 st6 ri6 zl6=>?_);rw[if_neg (by simp)];refine ae ⟨rfl,_,ri6,by simp,?_⟩;rw[<-lo5,aS,aS,av,av,av];simp[aK,zl6]
       all_goals lia
     ·rw[if_neg hz];exact ae ⟨rfl,_,ri5,ne5,lo5⟩
    ·rintro x st5 ⟨rfl,rp5,ri5,ne5,lo5⟩;exact⟨rfl,rp5,ri5,ne5,lo5⟩
    ·rintro x st5 ⟨rfl,rp5,ri5,ne5,lo5⟩;dsimp only;obtain⟨a5,⟨X5,p5⟩,rfl⟩:=(eL rp5).resolve_left ne5;refine ad (bq (ad (bq (ae ?_))));have lo6:∀pw:Nat,(aK (a5++[(X5,pw)])).length=lo:=fun pw=>by
      rw[<-lo5,aS,aS,av,av]
     exact⟨_,_,_,rfl,(ri5.powered _).pushed (lo6 _) hR1 (by lia) hR2,by rw[aS,Z9,lo6,av];simp[aK,hR1],by lia,by lia⟩
  ·rw[if_neg hmin];obtain⟨R,rest',ri3,hR1,hR2⟩:=CR.toRI ri r2 hlo up2 (by lia);obtain⟨st3,e3⟩:∃st3,st3=st2:=⟨_,rfl⟩
   subst e3;refine ad (c8 ?_);rcases eL rp with e0|⟨a0,⟨X0,p0⟩,e0⟩
   ·subst e0;have hb:(pendingOf st3).back? =none:=by
     have:=ri3.psize;rw[length_nil]at this;simp[Array.back?,this]
    rw[hb];dsimp only;exact ad (bq (ae ⟨_,_,_,rfl,ri3.pushed hlo hR1 (by lia) hR2,by rw[aS,Z9,hlo,av];simp[aK,hR1],by lia,by lia⟩))
   ·have hb:(pendingOf st3).back? =some ((aK a0).length,X0.length,p0):=by
     rw[<-Array.getLast?_toList,ri3.pend,e0,bT,cr,cr,zero_add];simp
    rw[hb];dsimp only;refine ad (aT (aG (Q:=fun x st'=>x=(none,())/\∃rp',RI N st st' rp' (R++rest')/\rp'≠[]/\(aK rp').length=lo) (fun j x st'=>x=(none,())/\∃rp',RI N st st' rp' (R++rest')/\rp'≠[]/\(aK rp').length=lo) (X7 _) ⟨rfl,rp,ri3,by rw[e0];simp,hlo⟩ ?_ ?_) ?_)
    ·rintro j5 x st5 _ _ ⟨rfl,rp5,ri5,ne5,lo5⟩;refine ad (c8 ?_);by_cases hz:(pendingOf st5).size>1
     ·obtain⟨a5,⟨X5,p5⟩,⟨Y5,q5⟩,rfl⟩:=mr rp5 (by rw[<-ri5.psize];exact hz);have hl5:(pendingOf st5).size-2=a5.length:=by rw[ri5.psize];simp
      have hg5:(pendingOf st5)[(pendingOf st5).size-2]? =some ((aK a5).length,X5.length,p5):=by
       have:(pendingOf st5).toList[a5.length]? =some ((aK a5).length,X5.length,p5):=by
        rw[ri5.pend,bT,Y7 (by rw[cE];lia),cE,sub_self,zero_add];rfl
       rw[hl5];simpa using this
      rw[if_pos hz,hg5];dsimp only
      split
      ·exact ae ⟨rfl,_,ri5,ne5,lo5⟩
      ·refine ad (eZ c d ri5 hl5 fun Z5 st6 ri6 zl6=>?_);rw[if_neg (by simp)];refine ae ⟨rfl,_,ri6,by simp,?_⟩;rw[<-lo5,aS,aS,av,av,av];simp[aK,zl6]
       all_goals lia
     ·rw[if_neg hz];exact ae ⟨rfl,_,ri5,ne5,lo5⟩
    ·rintro x st5 ⟨rfl,rp5,ri5,ne5,lo5⟩;exact⟨rfl,rp5,ri5,ne5,lo5⟩
    ·rintro x st5 ⟨rfl,rp5,ri5,ne5,lo5⟩;dsimp only;obtain⟨a5,⟨X5,p5⟩,rfl⟩:=(eL rp5).resolve_left ne5;refine ad (bq (ad (bq (ae ?_))));have lo6:∀pw:Nat,(aK (a5++[(X5,pw)])).length=lo:=fun pw=>by
      rw[<-lo5,aS,aS,av,av]
     exact⟨_,_,_,rfl,(ri5.powered _).pushed (lo6 _) hR1 (by lia) hR2,by rw[aS,Z9,lo6,av];simp[aK,hR1],by lia,by lia⟩
 ·rintro x st1 ⟨rp,rest,lo,rfl,ri,hlo,hjl,hls⟩;have s1:=ri.size;have er:rest=[]:=by
   have:=congrArg List.length ri.arr;rw[Z9,Zb,s1,hlo]at this;exact length_eq_zero_iff.mp (by lia)
  subst er;exact⟨rp,lo,rfl,ri⟩
 ·rintro x st1 ⟨rp,lo,rfl,ri⟩;dsimp only;have few:∀(rp:List (List Keyed×Nat)),(∀r∈rp,r.1≠[]/\Srt N r.1)->rp.length<=(aK rp).length:=by
   intro rp
   induction rp with
   | nil=>intro _;exact X7 _
   | cons r t ih=>
     intro hr;rw[av,Zr,Z9];have:=length_pos_iff.mpr (hr r (by simp)).1;have:=ih fun q hq=>hr q (by simp[hq])
     lia
  have l1:rp.length<=(arrOf st).size:=by
   have a1:=few rp ri.runs;have a2:=congrArg List.length ri.arr;rw[Zz,Zb,ri.size]at a2
   lia
  refine ad (aT (aG (Q:=fun x st'=>x=(none,())/\∃rp,RI N st st' rp []/\rp.length<=1) (fun j x st'=>x=(none,())/\∃rp,RI N st st' rp []/\rp.length<=max 1 ((arrOf st).size-j)) (X7 _) ⟨rfl,rp,ri,by lia⟩ ?_ ?_) ?_)
  ·rintro j x st2 _ hj ⟨rfl,rp,ri,hl⟩;refine ad (c8 ?_);by_cases hz:(pendingOf st2).size<=1
   ·rw[if_pos hz];exact ae ⟨rfl,rp,ri,by rw[<-ri.psize];exact hz⟩
   rw[if_neg hz];have hz2:1<rp.length:=by rw[<-ri.psize];lia
   have e2:(pendingOf st2).size=rp.length:=ri.psize
   generalize hi0:(if Option.any _ _=true then(pendingOf st2).size-2-1 else(pendingOf st2).size-2)=i
   have hi:i+1<rp.length:=by
    have pick:∀(c:Prop) [Decidable c] (n:Nat),2<=n->(if c then n-2-1 else n-2) +1<n:=fun c _ n hn=>by split<;> lia
    rw[<-hi0,<-e2];exact pick _ _ (by lia)
   clear hi0;obtain⟨a,X,p,Y,q,b,rfl,hl2⟩:∃a X p Y q b,rp=a++(X,p)::(Y,q)::b/\i=a.length:=by
    refine⟨rp.take i,rp[i].1,rp[i].2,rp[i+1].1,rp[i+1].2,rp.drop (i+2),?_,by rw[Yh];lia⟩;have t1:=(X3 i rp).symm;rw[List.drop_eq_getElem_cons (by lia),List.drop_eq_getElem_cons (by lia)]at t1;exact t1
   refine ad (eZ c d ri hl2 fun Z st3 ri3 zl=>?_);rw[if_neg (by simp)];refine ae ⟨rfl,_,ri3,?_⟩;simp only[Z9,Zr]at hl hi ⊢
   lia
  ·rintro x st2 ⟨rfl,rp,ri,hl⟩;exact⟨rfl,rp,ri,by lia⟩
  ·rintro x st2 ⟨rfl,rp,ri,hl⟩;refine ae (h st2 ri.perm ?_ ri.fail);rw[ri.arr,Zz]
   match rp,hl,ri.runs with
   |[],_,_=>exact List.Pairwise.nil
   |[r],_,hr=>
    rw[av];simp only[aK,map_nil,List.flatten_nil,Zz];exact(hr r (by simp)).2
end
end SBig
namespace STab
open PySem PySem.SetTable
theorem pj:∀k:Nat,∃q,5^(2^k)=1+2^(k+2)*(2*q+1)
 | 0=>⟨0,rfl⟩
 | k+1=>by
   obtain⟨q,e⟩:=pj k;refine⟨q+2^k*(2*q+1)*(2*q+1),?_⟩;rw[pow_succ 2 k,Nat.pow_mul,e]
   generalize hr:2*q+1=r
   have h2:2^(k+2)=4*2^k:=by rw[pow_add];lia
   have h3:2^(k+1+2)=8*2^k:=by rw[show k+1+2=k+3 by lia,pow_add];lia
   rw[h2,h3]
   generalize 2^k=p
   have e1:2*(q+p*r*r) +1=r+2*(p*r*r):=by lia
   rw[e1,mul_assoc 4 p r,mul_assoc 8 p]
   generalize hs:p*r=t
   have m1:p*(r+2*(t*r))=t+2*(t*t):=by
    rw[mul_add,hs];have:p*(2*(t*r))=2*(t*t):=by
     rw[Nat.mul_left_comm,Nat.mul_left_comm p t r,hs]
    lia
   rw[m1,Nat.pow_two,add_mul,Nat.one_mul,mul_add,Nat.mul_one];have m2:4*t*(4*t)=16*(t*t):=by rw[Nat.mul_mul_mul_comm]
   rw[m2]
   lia
noncomputable def step(M i:Nat):Nat:=(i*5+1)%M
noncomputable def iter(M:Nat):Nat->Nat->Nat
 | 0,i=>i
 | n+1,i=>step M (iter M n i)
noncomputable def geo:Nat->Nat
 | 0=>0
 | n+1=>geo n*5+1
theorem kE:∀n,4*geo n+1=5^n
 | 0=>rfl
 | n+1=>by
   have:=kE n;rw[pow_succ,<-this,geo]
   lia
theorem iD(M:Nat)(i:Nat):∀n,iter M n i%M=(5^n*i+geo n)%M
 | 0=>by simp[iter,geo]
 | n+1=>by
   have ih:=iD M i n;rw[iter,step,Nat.mod_mod,geo,pow_succ];rw[add_mod,Nat.mul_mod,ih,<-Nat.mul_mod,<-add_mod]
   congr 1
   rw[add_mul];have:5^n*5*i=5^n*i*5:=by rw[Nat.mul_right_comm]
   lia
theorem kF:∀(k i e:Nat),e<2^k->∃n,n<2^k/\iter (2^k) n i%2^k=e
 | 0,i,e,he=>⟨0,by decide,by simp at he;subst he;simp[Nat.mod_one]⟩
 | k+1,i,e,he=>by
   obtain⟨n,hn,hq⟩:=kF k i (e%2^k) (mod_lt _ (Nat.two_pow_pos k));have low:∀n,iter (2^(k+1)) n i%2^(k+1)%2^k=iter (2^k) n i%2^k:=fun n=>by
    rw[Nat.mod_mod_of_dvd _ (Nat.pow_dvd_pow 2 (Yc k)),<-Nat.mod_mod_of_dvd _ (Nat.pow_dvd_pow 2 (Yc k)),iD,Nat.mod_mod_of_dvd _ (Nat.pow_dvd_pow 2 (Yc k)),iD]
   obtain⟨q,hq5⟩:=pj k;have gk:geo (2^k)=2^k*(2*q+1):=by
    have g:=kE (2^k);rw[hq5,pow_add]at g;have:2^k*2^2*(2*q+1)=4*(2^k*(2*q+1)):=by
     rw[Nat.mul_right_comm];lia
    lia
   have far:∀n,iter (2^(k+1)) (n+2^k) i%2^(k+1)=(iter (2^(k+1)) n i+2^k)%2^(k+1):=fun n=>by
    rw[iD];have e1:5^(n+2^k)*i+geo (n+2^k)=5^(2^k)*(5^n*i+geo n) +geo (2^k):=by
     have g1:=kE (n+2^k);have g2:=kE n;have g3:=kE (2^k);rw[pow_add]at g1 ⊢;rw[<-g3,<-g2]at g1;rw[<-g3,<-g2]
     generalize geo (n+2^k)=x at g1 ⊢
     generalize geo n=y at g1 ⊢
     generalize geo (2^k)=z at g1 ⊢
     have m1:(4*y+1)*(4*z+1)=16*(y*z) +4*y+4*z+1:=by
      rw[add_mul,mul_add];have:4*y*(4*z)=16*(y*z):=by rw[Nat.mul_mul_mul_comm]
      lia
     have hx:x=4*(y*z) +y+z:=by lia
     have m2:(4*y+1)*(4*z+1)*i=(4*z+1)*((4*y+1)*i):=by rw[Nat.mul_comm (4*y+1),mul_assoc]
     rw[m2,mul_add (4*z+1),hx];have m3:(4*z+1)*y=4*(y*z) +y:=by rw[add_mul,mul_assoc,Nat.mul_comm z y];lia
     lia
    rw[e1,hq5,gk];have hM:2^(k+1)=2*2^k:=by rw[pow_succ];lia
    have hM2:2^(k+2)=2*2^(k+1):=by rw[pow_succ];lia
    have e2:=iD (2^(k+1)) i n
    generalize 5^n*i+geo n=v at e2 ⊢
    have e3:(1+2^(k+2)*(2*q+1))*v+2^k*(2*q+1)=v+2^k+2^(k+1)*(2*((2*q+1)*v) +q):=by
     rw[add_mul,Nat.one_mul,hM2];have p1:2*2^(k+1)*(2*q+1)*v=2^(k+1)*(2*((2*q+1)*v)):=by
      simp only[mul_assoc,Nat.mul_left_comm]
     have p2:2^k*(2*q+1)=2^k+2^(k+1)*q:=by
      rw[hM,mul_add,Nat.mul_one];have:2^k*(2*q)=2*2^k*q:=by simp only[mul_assoc,Nat.mul_left_comm]
      lia
     rw[p1,p2,mul_add]
     lia
    rw[e3,Nat.add_mul_mod_self_left,add_mod,<-e2,<-add_mod]
   have hM:2^(k+1)=2*2^k:=by rw[pow_succ];lia
   have l1:=low n;rw[hq]at l1;have b1:iter (2^(k+1)) n i%2^(k+1)<2^(k+1):=mod_lt _ (Nat.two_pow_pos _);have p:0<2^k:=Nat.two_pow_pos k;have f1:=far n;rw[add_mod,Nat.mod_eq_of_lt (by lia:2^k<2^(k+1))]at f1;obtain⟨a,ha⟩:∃a,a=iter (2^(k+1)) n i%2^(k+1):=⟨_,rfl⟩
   rw[<-ha]at l1 b1 f1;have key:a=e\/(a+2^k)%2^(k+1)=e:=by
    have d1:=Nat.div_add_mod a (2^k);have d2:=Nat.div_add_mod e (2^k);have q1:a/2^k<2:=Nat.div_lt_of_lt_mul (by lia);have q2:e/2^k<2:=Nat.div_lt_of_lt_mul (by lia);rw[l1]at d1
    generalize a/2^k=u at d1 q1
    generalize e/2^k=v at d2 q2
    generalize e%2^k=r at d1 d2
    have hu:u=0\/u=1:=by lia
    have hv:v=0\/v=1:=by lia
    rcases hu with rfl|rfl<;> rcases hv with rfl|rfl
    ·left;lia
    ·right
     rw[Nat.mod_eq_of_lt (by lia)]
     lia
    ·right
     rw[show a+2^k=e+2^(k+1) by lia,Nat.add_mod_right,Nat.mod_eq_of_lt he]
    ·left;lia
   rcases key with h|h
   ·exact⟨n,by lia,by rw[<-ha,h]⟩
   ·exact⟨n+2^k,by lia,by rw[f1,h]⟩
end STab
namespace STab
open PySem PySem.SetTable
noncomputable def stand(t:SetTable)(h:Int):Nat->Probe
 | 0=>t.probeStart h
 | n+1=>t.advance (stand t h n)
noncomputable def way(t:SetTable)(h:Int)(n:Nat):Nat:=(stand t h n).j
noncomputable def aw(t:SetTable)(h:Int):Nat->Nat×Nat
 | 0=>(bits h%(t.mask+1),bits h)
 | r+1=>leap t.mask (aw t h r).1 (aw t h r).2
theorem jC(t:SetTable)(h:Int):∀n,(stand t h n).dummy=none
 | 0=>rfl
 | n+1=>by
   have:=jC t h n;show(t.advance (stand t h n)).dummy=none;unfold advance
   split
   ·exact this
   ·exact this
theorem yC(m i:Nat):runEnd m i-i<=9:=by
 unfold runEnd
 split<;> lia
theorem t9(t:SetTable)(h:Int):∀r,∃n,n<=10*r/\∀d,d<=runEnd t.mask (aw t h r).1-(aw t h r).1->
 stand t h (n+d)=⟨(aw t h r).1+d,runEnd t.mask (aw t h r).1-(aw t h r).1-d,(aw t h r).1,(aw t h r).2,none⟩:=by
 have along:∀(n i pb:Nat),stand t h n=⟨i,runEnd t.mask i-i,i,pb,none⟩->∀d,d<=runEnd t.mask i-i->stand t h (n+d)=⟨i+d,runEnd t.mask i-i-d,i,pb,none⟩:=by
  intro n i pb e d
  induction d with
  | zero=>intro _;rw[add_zero,e];rfl
  | succ d ih=>
    intro hd;show t.advance (stand t h (n+d))=_;rw[ih (by lia)];unfold advance;rw[if_pos (by dsimp only;lia)];simp only[Probe.mk.injEq,and_true]
    lia
 intro r
 induction r with
 | zero=>exact⟨0,X7 _,along 0 _ _ rfl⟩
 | succ r ih=>
   obtain⟨n,hn,e⟩:=ih;have hl:=yC t.mask (aw t h r).1;refine⟨n+(runEnd t.mask (aw t h r).1-(aw t h r).1) +1,by lia,along _ _ (aw t h (r+1)).2 ?_⟩;show t.advance (stand t h _)=_;rw[e _ (Zi _)];unfold advance;rw[if_neg (by dsimp only;lia)];rfl
theorem yD(h:Int):bits h<2^64:=by
 unfold bits;have h1:=Int.emod_nonneg h (by decide:(2^64:Int)≠0);have h2:=Int.emod_lt_of_pos h (by decide:(0:Int)<2^64)
 lia
theorem kG(t:SetTable)(h:Int):∀r,(aw t h r).2=bits h/32^r
 | 0=>by simp[aw]
 | r+1=>by
   show(aw t h r).2/32=_;rw[kG t h r,Nat.div_div_eq_div_mul,pow_succ]
theorem wt(t:SetTable)(h:Int):∀r,(aw t h r).1<t.mask+1
 | 0=>mod_lt _ (succ_pos _)
 | r+1=>mod_lt _ (succ_pos _)
theorem gZ(t:SetTable)(h:Int):∀m,(aw t h (12+m)).1=iter (t.mask+1) m (aw t h 12).1
 | 0=>rfl
 | m+1=>by
   show((aw t h (12+m)).1*5+1+(aw t h (12+m)).2/32)%(t.mask+1)=step (t.mask+1) (iter (t.mask+1) m (aw t h 12).1);rw[gZ t h m,kG,Nat.div_div_eq_div_mul,<-pow_succ];have hz:bits h/32^(12+m+1)=0:=by
    refine Nat.div_eq_of_lt (Zg (yD h) ?_);exact Yd (by decide:2^64<=32^13) (Nat.pow_le_pow_right (by decide) (by lia))
   rw[hz,add_zero];rfl
theorem kH{t:SetTable}{k:Nat}(hm:t.mask+1=2^k)(h:Int)(e:Nat)(he:e<=t.mask):∃r,r<turns t.mask/\(aw t h r).1=e:=by
 obtain⟨n,hn,hq⟩:=kF k (aw t h 12).1 e (by lia);refine⟨12+n,by unfold turns;lia,?_⟩;rw[gZ,hm];rw[<-hm]at hq;have:iter (t.mask+1) n (aw t h 12).1<t.mask+1:=by rw[<-gZ];exact wt t h _
 rw[Nat.mod_eq_of_lt this]at hq;rw[<-hm];exact hq
theorem qW{t:SetTable}{k:Nat}(hm:t.mask+1=2^k)(h:Int)(e:Nat)(he:e<=t.mask):∃n,n+10<=10*turns t.mask/\way t h n=e:=by
 obtain⟨r,hr,hq⟩:=kH hm h e he;obtain⟨n,hn,hs⟩:=t9 t h r;refine⟨n,by lia,?_⟩;have:=hs 0 (X7 _);unfold way;rw[add_zero]at this;rw[this];exact hq
theorem pA{t:SetTable}(hd:t.dummies= #[]){hashAt:Nat->Int}{h:Int}:∀(fuel n m:Nat),n<=m->m<n+fuel->t.slot (way t h m)= .empty->
 ∃q,n<=q/\q<=m/\(∀j,n<=j->j<q->∃i,t.slot (way t h j)= .live i/\hashAt i≠h)/\
  ((t.slot (way t h q)= .empty/\probe.go t hashAt h fuel (stand t h n)=some (.empty (way t h q) none))\/
   ∃i,t.slot (way t h q)= .live i/\hashAt i=h/\probe.go t hashAt h fuel (stand t h n)=some (.candidate (way t h q) i (stand t h (q+1))))
 | 0,n,m,h1,h2,_=>by lia
 | fuel+1,n,m,h1,h2,he=>by
   have unf:probe.go t hashAt h (fuel+1) (stand t h n)=(match t.slot (stand t h n).j with
    | .empty=>some (.empty (stand t h n).j (stand t h n).dummy)
    | .dummy=>probe.go t hashAt h fuel (t.advance {stand t h n with dummy:=some (stand t h n).j})
    | .live i=>if hashAt i==h then some (.candidate (stand t h n).j i (t.advance (stand t h n)))else probe.go t hashAt h fuel (t.advance (stand t h n))):=rfl
   have ej:(stand t h n).j=way t h n:=rfl;cases hs:t.slot (way t h n)with
   | empty=>
     refine⟨n,Zi _,h1,fun j a b=>by lia,.inl ⟨hs,?_⟩⟩;rw[unf,ej,hs,jC]
   | dummy=>
     exfalso;unfold slot at hs;dsimp only at hs
     split at hs
     ·cases hs
     ·split at hs
      ·rename_i q
       rw[hd]at q;simp[has]at q
      ·cases hs
   | live i=>
     by_cases hq:hashAt i=h
     ·refine⟨n,Zi _,h1,fun j a b=>by lia,.inr ⟨i,hs,hq,?_⟩⟩;rw[unf,ej,hs];dsimp only;rw[if_pos (by simp[hq])];rfl
     ·have hnm:n≠m:=fun q=>by rw[q,he]at hs;cases hs
      obtain⟨q,q1,q2,q3,q4⟩:=pA hd fuel (n+1) m (by lia) (by lia) he;have e2:probe.go t hashAt h (fuel+1) (stand t h n)=probe.go t hashAt h fuel (stand t h (n+1)):=by
       rw[unf,ej,hs];dsimp only;rw[if_neg (by simp[hq])];rfl
      refine⟨q,by lia,q2,fun j a b=>?_,?_⟩
      ·by_cases e:j=n
       ·rw[e];exact⟨i,hs,hq⟩
       ·exact q3 j (by lia) b
      ·rw[e2];exact q4
end STab
namespace STab
open PySem PySem.SetTable
theorem kI(xs:Array Nat)(j:Nat)(hs:∀a b (ha:a<xs.size) (hb:b<xs.size),a<b->xs[a]<xs[b]):∀(fuel lo hi:Nat),hi-lo<=fuel->lo<=hi->hi<=xs.size->(∀i (h:i<xs.size),i<lo->xs[i]<j)->(∀i (h:i<xs.size),hi<=i->j<=xs[i])->
 below.go xs j fuel lo hi<=xs.size/\(∀i (h:i<xs.size),i<below.go xs j fuel lo hi->xs[i]<j)/\(∀i (h:i<xs.size),below.go xs j fuel lo hi<=i->j<=xs[i])
 | 0,lo,hi,h1,h2,h3,h4,h5=>by
   have e:lo=hi:=by lia
   subst e;exact⟨h3,h4,h5⟩
 | fuel+1,lo,hi,h1,h2,h3,h4,h5=>by
   rw[below.go];by_cases hlt:lo<hi
   ·rw[if_pos hlt];dsimp only;have hm:(lo+hi)/2<xs.size:=by lia
    have eg:xs.getD ((lo+hi)/2) j=xs[(lo+hi)/2]:=by simp[Array.getD,hm]
    rw[eg];by_cases hx:xs[(lo+hi)/2]<j
    ·rw[if_pos hx];refine kI xs j hs fuel _ hi (by lia) (by lia) h3 (fun i h hi'=>?_) h5;by_cases e:i=(lo+hi)/2
     ·subst e;exact hx
     ·exact Nat.lt_trans (hs i _ h hm (by lia)) hx
    ·rw[if_neg hx];refine kI xs j hs fuel lo _ (by lia) (by lia) (by lia) h4 (fun i h hi'=>?_);by_cases e:i=(lo+hi)/2
     ·subst e;lia
     ·have:=hs _ i hm h (by lia)
      lia
   ·rw[if_neg hlt];have e:lo=hi:=by lia
    subst e;exact⟨h3,h4,h5⟩
def wu(xs:Array Nat):Prop:=∀a b (ha:a<xs.size) (hb:b<xs.size),a<b->xs[a]<xs[b]
theorem hJ{xs:Array Nat}(hs:wu xs)(j:Nat):below xs j<=xs.size/\(∀i (h:i<xs.size),i<below xs j->xs[i]<j)/\(∀i (h:i<xs.size),below xs j<=i->j<=xs[i]):=
 kI xs j hs xs.size 0 xs.size (by lia) (X7 _) (Zi _) (fun i h q=>absurd q (Yx _)) (fun i h q=>by lia)
theorem wv{xs:Array Nat}(hs:wu xs){i j:Nat}(h:xs[i]? =some j):below xs j=i:=by
 obtain⟨b0,b1,b2⟩:=hJ hs j;obtain⟨hi,e⟩:=Array.getElem?_eq_some_iff.mp h;rcases Nat.lt_trichotomy i (below xs j)with q|q|q
 ·have:=b1 i hi q
  lia
 ·exact q.symm
 ·have h1:below xs j<xs.size:=by lia
  have:=b2 (below xs j) h1 (Zi _);have:=hs _ i h1 hi q
  lia
theorem mt{t:SetTable}(hs:wu t.place){i j:Nat}(h:t.place[i]? =some j):t.slot j= .live i:=by
 unfold slot;dsimp only;rw[wv hs h,h];simp
theorem hV{t:SetTable}(hs:wu t.place)(hd:t.dummies= #[])(j:Nat):(∃i,t.place[i]? =some j/\t.slot j= .live i)\/(j∉t.place.toList/\t.slot j= .empty):=by
 by_cases h:j∈t.place.toList
 ·obtain⟨i,hi⟩:=X8 h;have hi:t.place[i]? =some j:=by simpa using hi
  exact .inl ⟨i,hi,mt hs hi⟩
 ·refine .inr ⟨h,?_⟩;unfold slot;dsimp only;rw[if_neg,if_neg]
  ·rw[hd];simp[has]
  ·intro q;have q:t.place[below t.place j]? =some j:=by simpa using q
   exact h (mem_toList_iff.mpr (Array.mem_of_getElem? q))
theorem pB{t t':SetTable}(h:t.mask=t'.mask)(x:Int):∀n,stand t x n=stand t' x n
 | 0=>by
   show t.probeStart x=t'.probeStart x;unfold probeStart;rw[h]
 | n+1=>by
   show t.advance (stand t x n)=t'.advance (stand t' x n);rw[pB h x n];unfold advance;rw[h]
theorem mv{t t':SetTable}(h:t.mask=t'.mask)(x:Int)(n:Nat):way t x n=way t' x n:=by unfold way;rw[pB h]
structure WF (t:SetTable) (es:Array (Int×Value)):Prop where
 pow:∃k,t.mask+1=2^k
 big:7<=t.mask
 dum:t.dummies= #[]
 rise:wu t.place
 inb:∀j∈t.place.toList,j<=t.mask
 size:t.place.size=es.size
 chain:∀(i j:Nat) (h:Int) (x:Value),t.place[i]? =some j->es[i]? =some (h,x)->∃n,way t h n=j/\∀m,m<n->way t h m∈t.place.toList
theorem nodup_sub{α:Type}[DecidableEq α]:∀{l m:List α},l.Nodup->(∀x∈l,x∈m)->l.length<=m.length
 |[],_,_,_=>X7 _
 | x::l,m,hn,hs=>by
   obtain⟨h1,h2⟩:=nodup_cons.mp hn;have hx:x∈m:=hs x Zm;have ih:=nodup_sub (m:=m.erase x) h2 fun y hy=>(List.mem_erase_of_ne (fun e:y=x=>h1 (by rw[<-e];exact hy))).mpr (hs y (Zk _ hy))
   rw[List.length_erase_of_mem hx]at ih;have:0<m.length:=List.length_pos_of_mem hx;rw[Zr]
   lia
theorem qX{t:SetTable}{es:Array (Int×Value)}(W:WF t es)(R:t.place.size<=t.mask)(h:Int):∃m,m+10<=10*turns t.mask/\way t h m∉t.place.toList/\(∀q,q<m->way t h q∈t.place.toList):=by
 obtain⟨k,hk⟩:=W.pow;have ex:∃e,e<=t.mask/\e∉t.place.toList:=by
  refine Classical.byContradiction fun hno=>?_
  have all:∀e,e<=t.mask->e∈t.place.toList:=fun e he=>Classical.byContradiction fun q=>hno ⟨e,he,q⟩
  have:(List.range (t.mask+1)).length<=t.place.toList.length:=nodup_sub nodup_range fun x hx=>all x (by have:=mem_range.mp hx;lia)
  rw[Yg,Zb]at this
  lia
 obtain⟨e,he,hne⟩:=ex;obtain⟨n,hn,hw⟩:=qW hk h e he;have:∀d,∀n,n<=d->n+10<=10*turns t.mask->way t h n∉t.place.toList->∃m,m+10<=10*turns t.mask/\way t h m∉t.place.toList/\(∀q,q<m->way t h q∈t.place.toList):=by
  intro d
  induction d with
  | zero=>
    intro n h0 h1 h2;have:n=0:=by lia
    subst this;exact⟨0,h1,h2,fun q hq=>absurd hq (Yx _)⟩
  | succ d ih=>
    intro n h0 h1 h2;by_cases hall:∀q,q<n->way t h q∈t.place.toList
    ·exact⟨n,h1,h2,hall⟩
    ·obtain⟨q,hq⟩:=Classical.not_forall.mp hall;obtain⟨q1,q2⟩:=Classical.not_imp.mp hq;exact ih q (by lia) (by lia) q2
 exact this n n (Zi _) hn (by rw[hw];exact hne)
end STab
namespace STab
open PySem PySem.SetTable
theorem iE{α:Type}(xs:Array α)(p:Nat)(x:α)(hp:p<=xs.size):(insertAt xs p x).toList=xs.toList.take p++x::xs.toList.drop p:=by
 unfold insertAt;rw[X4,X6,Array.toList_extract,Array.toList_extract,List.extract_eq_take_drop,List.extract_eq_take_drop];rw[List.drop_zero,Nat.sub_zero,Zn (l:=xs.toList.drop p) (by rw[Ye,Zb];exact Zi _)];simp
theorem qY{α:Type}(xs:Array α){p:Nat}(x:α)(hp:p<=xs.size)(i:Nat):(insertAt xs p x)[i]? =if i<p then xs[i]? else if i=p then some x else xs[i-1]? :=by
 have e:(insertAt xs p x)[i]? =(insertAt xs p x).toList[i]? :=by simp
 rw[e,iE xs p x hp];have hl:(xs.toList.take p).length=p:=by rw[Yh,Zb];lia
 by_cases h1:i<p
 ·rw[if_pos h1,Y6 (by lia),Y9,if_pos h1];simp
 ·rw[if_neg h1,Y7 (by lia),hl];by_cases h2:i=p
  ·rw[if_pos h2,h2,sub_self];rfl
  ·rw[if_neg h2];obtain⟨d,hd⟩:∃d,i-p=d+1:=⟨i-p-1,by lia⟩
   rw[hd,List.getElem?_cons_succ,Y8];rw[show p+d=i-1 by lia];simp
theorem f6{α:Type}(xs:Array α)(p:Nat)(x:α)(hp:p<=xs.size):(insertAt xs p x).size=xs.size+1:=by
 rw[<-Zb,iE xs p x hp,Z9,Zr,Yh,Ye,Zb]
 lia
theorem ww(t:SetTable)(h:Int):∀n,(stand t h n).j+(stand t h n).more<=t.mask
 | 0=>by
   show bits h%(t.mask+1) +(runEnd t.mask (bits h%(t.mask+1)) -bits h%(t.mask+1))<=t.mask;have:=mod_lt (bits h) (show 0<t.mask+1 from succ_pos _);unfold runEnd
   split<;> lia
 | n+1=>by
   have ih:=ww t h n;show(t.advance (stand t h n)).j+(t.advance (stand t h n)).more<=t.mask;unfold advance
   split
   ·dsimp only;lia
   ·dsimp only[leap];have:=mod_lt ((stand t h n).i*5+1+(stand t h n).perturb/32) (show 0<t.mask+1 from succ_pos _);unfold runEnd
    split<;> lia
theorem ni(t:SetTable)(h:Int)(n:Nat):way t h n<=t.mask:=by
 have:=ww t h n;unfold way
 lia
theorem WF.put{t:SetTable}{es:Array (Int×Value)}(W:WF t es){h:Int}{x:Value}{m:Nat}(hf:way t h m∉t.place.toList)(hb:∀q,q<m->way t h q∈t.place.toList)(b1 b2:Bool):
 (t.put (way t h m)).2=below t.place (way t h m)/\(t.put (way t h m)).1.mask=t.mask/\(t.put (way t h m)).1.place.size=t.place.size+1/\(t.put (way t h m)).1.led=t.led/\(t.put (way t h m)).1.plain=t.plain/\(t.put (way t h m)).1.moves=t.moves/\
  WF {(t.put (way t h m)).1 with led:=b1,plain:=b2} (insertAt es (t.put (way t h m)).2 (h,x)):=by
 have hd:has t.dummies (way t h m)=false:=by rw[W.dum];simp[has]
 have ep:t.put (way t h m)=({t with place:=insertAt t.place (below t.place (way t h m)) (way t h m)},below t.place (way t h m)):=by
  unfold SetTable.put;dsimp only;rw[hd];rfl
 rw[ep];obtain⟨s0,s1,s2⟩:=hJ W.rise (way t h m)
 generalize hp:below t.place (way t h m)=p at s0 s1 s2
 have hpe:p<=es.size:=by rw[<-W.size];exact s0
 have s3:∀i (hi:i<t.place.size),p<=i->way t h m<t.place[i]:=fun i hi q=>by
  have:=s2 i hi q;rcases Nat.eq_or_lt_of_le this with e|e
  ·exact absurd (by rw[e];simp) hf
  ·exact e
 have memp:∀y,y∈(insertAt t.place p (way t h m)).toList↔y=way t h m\/y∈t.place.toList:=fun y=>by
  rw[iE _ _ _ s0,mem_append,Yq];have:=X3 p t.place.toList
  constructor
  ·rintro(q|q|q)
   ·exact .inr (Ys q)
   ·exact .inl q
   ·exact .inr (Yr q)
  ·rintro(q|q)
   ·exact .inr (.inl q)
   ·rw[<-this]at q;rcases Xg q with q|q
    ·exact .inl q
    ·exact .inr (.inr q)
 refine⟨rfl,rfl,f6 _ _ _ s0,rfl,rfl,rfl,W.pow,W.big,W.dum,?_,?_,?_,?_⟩
 ·intro a b ha hb' hab;have sz:=f6 t.place p (way t h m) s0;have ga:(insertAt t.place p (way t h m))[a]? =some (insertAt t.place p (way t h m))[a]:=by simp[ha]
  have gb:(insertAt t.place p (way t h m))[b]? =some (insertAt t.place p (way t h m))[b]:=by simp[hb']
  show(insertAt t.place p (way t h m))[a]<(insertAt t.place p (way t h m))[b];rw[qY _ _ s0]at ga gb;have hb2:b<t.place.size+1:=by rw[<-sz];exact hb'
  by_cases a1:a<p
  ·rw[if_pos a1]at ga;obtain⟨a2,a3⟩:=Array.getElem?_eq_some_iff.mp ga;rw[<-a3];by_cases b1:b<p
   ·rw[if_pos b1]at gb;obtain⟨b2,b3⟩:=Array.getElem?_eq_some_iff.mp gb;rw[<-b3];exact W.rise a b a2 b2 hab
   ·rw[if_neg b1]at gb;by_cases b2:b=p
    ·rw[if_pos b2]at gb;rw[<-Za gb];exact s1 a a2 a1
    ·rw[if_neg b2]at gb;obtain⟨b3,b4⟩:=Array.getElem?_eq_some_iff.mp gb;rw[<-b4];exact W.rise a (b-1) a2 b3 (by lia)
  ·rw[if_neg a1]at ga;have b1: ¬ b<p:=by lia
   have b2: ¬ b=p:=by lia
   rw[if_neg b1,if_neg b2]at gb;obtain⟨b3,b4⟩:=Array.getElem?_eq_some_iff.mp gb;rw[<-b4];by_cases a2:a=p
   ·rw[if_pos a2]at ga;rw[<-Za ga];exact s3 (b-1) b3 (by lia)
   ·rw[if_neg a2]at ga;obtain⟨a3,a4⟩:=Array.getElem?_eq_some_iff.mp ga;rw[<-a4];exact W.rise (a-1) (b-1) a3 b3 (by lia)
 ·intro y hy;rcases(memp y).mp hy with q|q
  ·rw[q];exact ni t h m
  ·exact W.inb y q
 ·show(insertAt t.place p (way t h m)).size=(insertAt es p (h,x)).size;rw[f6 _ _ _ s0,f6 _ _ _ hpe,W.size]
 ·intro i j h' x' hi he;have wm:∀n,way {t with place:=insertAt t.place p (way t h m),led:=b1,plain:=b2} h' n=way t h' n:=fun n=>mv (t':=t) (by rfl) h' n
  have key:∃n,way t h' n=j/\∀q,q<n->way t h' q∈(insertAt t.place p (way t h m)).toList:=by
   have hi:(insertAt t.place p (way t h m))[i]? =some j:=hi;rw[qY _ _ s0]at hi;rw[qY _ _ hpe]at he;by_cases i1:i<p
   ·rw[if_pos i1]at hi he;obtain⟨n,n1,n2⟩:=W.chain i j h' x' hi he;exact⟨n,n1,fun q hq=>(memp _).mpr (.inr (n2 q hq))⟩
   ·rw[if_neg i1]at hi he;by_cases i2:i=p
    ·rw[if_pos i2]at hi he;cases hi;cases he;exact⟨m,rfl,fun q hq=>(memp _).mpr (.inr (hb q hq))⟩
    ·rw[if_neg i2]at hi he;obtain⟨n,n1,n2⟩:=W.chain (i-1) j h' x' hi he;exact⟨n,n1,fun q hq=>(memp _).mpr (.inr (n2 q hq))⟩
  obtain⟨n,n1,n2⟩:=key;exact⟨n,by rw[wm];exact n1,fun q hq=>by rw[wm];exact n2 q hq⟩
end STab
namespace STab
open PySem PySem.SetTable
noncomputable def nb(t:SetTable)(h:Int):Nat->Nat
 | 0=>0
 | r+1=>nb t h r+(runEnd t.mask (aw t h r).1-(aw t h r).1) +1
theorem wx(t:SetTable)(h:Int):∀r d,d<=runEnd t.mask (aw t h r).1-(aw t h r).1->
 stand t h (nb t h r+d)=⟨(aw t h r).1+d,runEnd t.mask (aw t h r).1-(aw t h r).1-d,(aw t h r).1,(aw t h r).2,none⟩:=by
 have along:∀(n i pb:Nat),stand t h n=⟨i,runEnd t.mask i-i,i,pb,none⟩->∀d,d<=runEnd t.mask i-i->stand t h (n+d)=⟨i+d,runEnd t.mask i-i-d,i,pb,none⟩:=by
  intro n i pb e d
  induction d with
  | zero=>intro _;rw[add_zero,e];rfl
  | succ d ih=>
    intro hd;show t.advance (stand t h (n+d))=_;rw[ih (by lia)];unfold advance;rw[if_pos (by dsimp only;lia)];simp only[Probe.mk.injEq,and_true]
    lia
 intro r
 induction r with
 | zero=>exact along 0 _ _ rfl
 | succ r ih=>
   refine along _ _ (aw t h (r+1)).2 ?_;show t.advance (stand t h _)=_;rw[ih _ (Zi _)];unfold advance;rw[if_neg (by dsimp only;lia)];rfl
theorem qZ(t:SetTable)(h:Int)(r d:Nat)(hd:d<=runEnd t.mask (aw t h r).1-(aw t h r).1):way t h (nb t h r+d)=(aw t h r).1+d:=by
 unfold way;rw[wx t h r d hd]
noncomputable def dO(owner:Array (Option Nat))(j:Nat):Bool:=(owner.getD j (some 0)).isSome
theorem mw(t:SetTable)(h:Int)(owner:Array (Option Nat)):∀(fuel r:Nat),(∃r',r<=r'/\r'<r+fuel/\dO owner (aw t h r').1=false)->(∀m,m<nb t h r->dO owner (way t h m)=true)->
 ∃j n,layClean.free t.mask owner fuel (aw t h r).1 (aw t h r).2=some j/\way t h n=j/\dO owner j=false/\∀m,m<n->dO owner (way t h m)=true
 | 0,r,⟨r',h1,h2,_⟩,_=>by lia
 | fuel+1,r,⟨r',h1,h2,h3⟩,hb=>by
   rw[layClean.free];have hle:runEnd t.mask (aw t h r).1>=(aw t h r).1:=by unfold runEnd;split<;> lia
   have tk:∀k,(owner.getD ((aw t h r).1+k) (some 0)).isNone=!dO owner ((aw t h r).1+k):=fun k=>by
    unfold dO;cases owner.getD ((aw t h r).1+k) (some 0)<;> rfl
   cases hf:(List.range (runEnd t.mask (aw t h r).1+1-(aw t h r).1)).find? fun k=>(owner.getD ((aw t h r).1+k) (some 0)).isNone with
   | some k=>
     obtain⟨p1,as,bs,p2,p3⟩:=List.find?_eq_some_iff_append.mp hf;have hk:k∈List.range (runEnd t.mask (aw t h r).1+1-(aw t h r).1):=by rw[p2];simp
     have hk:=mem_range.mp hk;have ek:as=List.range k:=by
      have e1:as.length=k:=by
       have:(List.range (runEnd t.mask (aw t h r).1+1-(aw t h r).1))[as.length]? =some k:=by rw[p2];simp
       rw[List.getElem?_range (by have:=(Xf this).1;simpa using this)]at this;exact Za this
      have e2:as=(List.range (runEnd t.mask (aw t h r).1+1-(aw t h r).1)).take k:=by
       rw[p2,<-e1];simp
      rw[e2,List.take_range,Yt (by lia)]
     dsimp only;refine⟨_,nb t h r+k,rfl,qZ t h r k (by lia),?_,fun m hm=>?_⟩
     ·rw[tk]at p1;simpa using p1
     ·by_cases q:m<nb t h r
      ·exact hb m q
      ·have:=p3 (m-nb t h r) (by rw[ek];exact mem_range.mpr (by lia));rw[tk]at this;rw[show m=nb t h r+(m-nb t h r) by lia,qZ t h r _ (by lia)];simpa using this
   | none=>
     have hno:=List.find?_eq_none.mp hf;have all:∀k,k<=runEnd t.mask (aw t h r).1-(aw t h r).1->dO owner ((aw t h r).1+k)=true:=fun k hk=>by
      have:=hno k (mem_range.mpr (by lia));rw[tk]at this;simpa using this
     have hne:r≠r':=fun e=>by
      have:=all 0 (X7 _);rw[add_zero,e,h3]at this;cases this
     dsimp only;exact mw t h owner fuel (r+1) ⟨r',by lia,by lia,h3⟩ fun m hm=>by
      by_cases q:m<nb t h r
      ·exact hb m q
      ·have hm:m<nb t h r+(runEnd t.mask (aw t h r).1-(aw t h r).1) +1:=hm;rw[show m=nb t h r+(m-nb t h r) by lia,qZ t h r _ (by lia)];exact all _ (by lia)
structure LO (t:SetTable) (hs:List Int) (owner:Array (Option Nat)):Prop where
 size:owner.size=t.mask+1
 own:∀(j q:Nat),owner[j]? =some (some q)->∃h,hs[q]? =some h/\∃n,way t h n=j/\∀m,m<n->dO owner (way t h m)=true
 all:∀q:Nat,q<hs.length->∃j:Nat,owner[j]? =some (some q)
 one:∀(j j' q:Nat),owner[j]? =some (some q)->owner[j']? =some (some q)->j=j'
theorem eM{owner:Array (Option Nat)}{j:Nat}(hj:j<owner.size):dO owner j=true↔∃q,owner[j]? =some (some q):=by
 unfold dO;have e:owner.getD j (some 0)=owner[j]:=by simp[Array.getD,hj]
 rw[e];have e2:owner[j]? =some owner[j]:=by simp[hj]
 rw[e2];cases owner[j]with
 | none=>simp
 | some q=>simp
theorem LO.step{t:SetTable}{hs:List Int}{owner:Array (Option Nat)}(L:LO t hs owner){k:Nat}(hp:t.mask+1=2^k)(room:hs.length<=t.mask)(h:Int):
 ∃j,layClean.free t.mask owner (turns t.mask) (bits h%(t.mask+1)) (bits h)=some j/\LO t (hs++[h]) (owner.setIfInBounds j (some hs.length)):=by
 have wlt:∀h n,way t h n<owner.size:=fun h n=>by rw[L.size];have:=ni t h n;lia
 have ex:∃e,e<=t.mask/\dO owner e=false:=by
  refine Classical.byContradiction fun hno=>?_
  have all:∀e,e<t.mask+1->dO owner e=true:=fun e he=>by
   cases q:dO owner e with
   | true=>rfl
   | false=>exact absurd ⟨e,by lia,q⟩ hno
  have f:∀e,e<t.mask+1->∃q,owner[e]? =some (some q):=fun e he=>(eM (by rw[L.size];exact he)).mp (all e he)
  let g:Nat->Nat:=fun e=>((owner[e]?).getD none).getD 0
  have hg:∀e,e<t.mask+1->owner[e]? =some (some (g e)):=fun e he=>by
   obtain⟨q,hq⟩:=f e he;show owner[e]? =some (some (((owner[e]?).getD none).getD 0));rw[hq];rfl
  have nd:((List.range (t.mask+1)).map g).Nodup:=by
   rw[Yw,X1];refine X9 (R:=fun a b=>a≠b) (fun{a b} ha hb hab q=>hab ?_) (nodup_iff_pairwise_ne.mp nodup_range);have h1:=hg a (mem_range.mp ha);have h2:=hg b (mem_range.mp hb);rw[<-q]at h2;exact L.one a b (g a) h1 h2
  have:=nodup_sub nd (m:=List.range hs.length) fun y hy=>by
   obtain⟨e,he,rfl⟩:=Xi hy;obtain⟨h',e1,_⟩:=L.own e (g e) (hg e (mem_range.mp he));exact mem_range.mpr (Xf e1).1
  rw[Z6,Yg,Yg]at this
  lia
 obtain⟨e,he,hne⟩:=ex;obtain⟨r,hr,hq⟩:=kH hp h e he;obtain⟨j,n,f1,f2,f3,f4⟩:=mw t h owner (turns t.mask) 0 ⟨r,X7 _,by lia,by rw[hq];exact hne⟩ (fun m hm=>absurd hm (Yx _));refine⟨j,f1,?_⟩;have hj:j<owner.size:=by rw[<-f2];exact wlt h n
 have nj:∀q,owner[j]? ≠some (some q):=fun q e=>by
  have:=(eM hj).mpr ⟨q,e⟩;rw[f3]at this;cases this
 have get:∀i,(owner.setIfInBounds j (some hs.length))[i]? =if j=i then some (some hs.length)else owner[i]? :=fun i=>by
  rw[Array.getElem?_setIfInBounds]
  split
  ·first|rfl|rw[if_pos hj]
  ·rfl
 have keep:∀i,dO owner i=true->i<owner.size->dO (owner.setIfInBounds j (some hs.length)) i=true:=fun i hi hl=>by
  obtain⟨q,e⟩:=(eM hl).mp hi;refine(eM (by rw[Array.size_setIfInBounds];exact hl)).mpr ?_;rw[get]
  split
  ·exact⟨_,rfl⟩
  ·exact⟨q,e⟩
 refine⟨by rw[Array.size_setIfInBounds];exact L.size,fun i q e=>?_,fun q hq=>?_,fun i i' q e e'=>?_⟩
 ·rw[get]at e
  split at e
  ·rename_i ij
   cases e;refine⟨h,by simp,n,by rw[f2,ij],fun m hm=>keep _ (f4 m hm) (wlt h m)⟩
  ·obtain⟨h',e1,n',e2,e3⟩:=L.own i q e;exact⟨h',by rw[Y6 (Xf e1).1];exact e1,n',e2,fun m hm=>keep _ (e3 m hm) (wlt h' m)⟩
 ·rw[Z9,length_singleton]at hq;by_cases e:q=hs.length
  ·exact⟨j,by rw[get,if_pos rfl,e]⟩
  ·obtain⟨i,hi⟩:=L.all q (by lia);refine⟨i,?_⟩;rw[get,if_neg]
   ·exact hi
   ·intro ij;rw[<-ij]at hi;exact nj q hi
 ·have old:∀i,owner[i]? =some (some hs.length)->False:=fun i e=>by
   obtain⟨h',e1,_⟩:=L.own i _ e;have:=(Xf e1).1
   lia
  rw[get]at e e'
  split at e<;> split at e'
  ·lia
  ·cases e;exact absurd e' (fun z=>old i' z)
  ·cases e';exact absurd e (fun z=>old i z)
  ·exact L.one i i' q e e'
theorem pC{t:SetTable}{k:Nat}(hp:t.mask+1=2^k)(hashes:Array Int)(room:hashes.size<=t.mask+1):∃owner,layClean t.mask hashes=some owner/\LO t hashes.toList owner:=by
 have go:∀(rest done:List Int) (owner:Array (Option Nat)),LO t done owner->(done++rest).length<=t.mask+1->
  ∃owner',rest.foldl (fun acc h=>do
   let(owner,k)<-acc
   let j<-layClean.free t.mask owner (turns t.mask) (bits h%(t.mask+1)) (bits h)
   pure (owner.setIfInBounds j (some k),k+1)) (some (owner,done.length))=some (owner',(done++rest).length)/\LO t (done++rest) owner':=by
  intro rest
  induction rest with
  | nil=>intro done owner L _;exact⟨owner,by simp,by simpa using L⟩
  | cons h rest ih=>
    intro done owner L hl;simp only[Z9,Zr]at hl;obtain⟨j,f,L'⟩:=L.step hp (by lia) h;obtain⟨owner',e,L2⟩:=ih (done++[h]) _ L' (by simp only[Z9,Zr,length_nil];lia);refine⟨owner',?_,by simpa using L2⟩;rw[Y4];have e0:(do
     let(owner,k)<-(some (owner,done.length):Option (Array (Option Nat)×Nat))
     let j<-layClean.free t.mask owner (turns t.mask) (bits h%(t.mask+1)) (bits h)
     pure (owner.setIfInBounds j (some k),k+1))=some (owner.setIfInBounds j (some done.length),(done++[h]).length):=by
     show(layClean.free t.mask owner (turns t.mask) (bits h%(t.mask+1)) (bits h)).bind _=_;rw[f];simp
    rw[e0,e];simp
 have L0:LO t [] (Array.replicate (t.mask+1) none):=⟨by simp,fun j q e=>by
  rw[Array.getElem?_replicate]at e
  split at e<;> simp at e,fun q hq=>absurd hq (Yx _),fun j j' q e _=>by
  rw[Array.getElem?_replicate]at e
  split at e<;> simp at e⟩
 obtain⟨owner,e,L⟩:=go hashes.toList [] _ L0 (by simpa using room);refine⟨owner,?_,by simpa using L⟩;unfold layClean;rw[<-Array.foldl_toList];rw[show(0:Nat)=([]:List Int).length from rfl,e];rfl
end STab
namespace STab
open PySem PySem.SetTable
theorem pD(n:Nat):∀(fuel k:Nat),3<=k->n<2^(k+fuel)->(2^k<=2*n\/k=3)->∃k',3<=k'/\sizeAbove.go n fuel (2^k)=2^k'/\n<2^k'/\(2^k'<=2*n\/k'=3)
 | 0,k,h3,hn,hs=>⟨k,h3,rfl,by simpa using hn,hs⟩
 | fuel+1,k,h3,hn,hs=>by
   rw[sizeAbove.go];by_cases h:2^k<=n
   ·rw[if_pos h];have e:2^k*2=2^(k+1):=by rw[pow_succ]
    rw[e];exact pD n fuel (k+1) (by lia) (by rw[show k+1+fuel=k+(fuel+1) by lia];exact hn) (.inl (by lia))
   ·rw[if_neg h];exact⟨k,h3,rfl,by lia,hs⟩
theorem q0{n:Nat}(hn:n<2^60):∃k,3<=k/\sizeAbove n=2^k/\n<2^k/\(2^k<=2*n\/k=3):=
 pD n 64 3 (Zi _) (Zg hn (Nat.pow_le_pow_right (by decide) (by decide))) (.inr rfl)
theorem kJ{α:Type}[DecidableEq α]:∀{l m:List α},l.Nodup->m.Nodup->(∀x,x∈l↔x∈m)->l.Perm m
 |[],m,_,_,h=>by
  cases m with
  | nil=>exact List.Perm.refl _
  | cons x m=>exact absurd ((h x).mpr Zm) (by simp)
 | x::l,m,hl,hm,h=>by
   obtain⟨h1,h2⟩:=nodup_cons.mp hl;have hx:x∈m:=(h x).mp Zm;have p:=List.perm_cons_erase hx;refine List.Perm.trans (List.Perm.cons x (kJ h2 (hm.erase x) fun y=>?_)) p.symm
   constructor
   ·intro hy;exact(List.mem_erase_of_ne (fun e:y=x=>h1 (by rw[<-e];exact hy))).mpr ((h y).mp (Zk _ hy))
   ·intro hy;have hne:y≠x:=fun e=>by rw[e]at hy;exact hm.not_mem_erase hy
    rcases mem_cons.mp ((h y).mpr (List.mem_of_mem_erase hy))with q|q
    ·exact absurd q hne
    ·exact q
theorem yE{t:SetTable}{k:Nat}(hp:t.mask+1=2^k)(hb:7<=t.mask)(es:Array (Int×Value))(room:es.size<=t.mask)(finger moves:Nat)(led plain:Bool):
 ∃t' order,laid t.mask finger moves led plain (es.map (·.1))=some (t',order)/\t'.mask=t.mask/\t'.led=led/\t'.plain=plain/\t'.moves=moves/\WF t' (order.filterMap (es[·]?))/\(order.filterMap (es[·]?)).toList.Perm es.toList:=by
 obtain⟨owner,e,L⟩:=pC hp (es.map (·.1)) (by rw[size_map];lia);have hsz:(es.map (·.1)).toList.length=es.size:=by simp
 obtain⟨live,hlv⟩:∃live,(List.range (t.mask+1)).filterMap (fun j=>(owner.getD j none).map (fun q=>(j,q)))=live:=⟨_,rfl⟩
 refine⟨⟨t.mask,(live.map (·.1)).toArray,#[],finger,led,moves,plain⟩,(live.map (·.2)).toArray,by unfold laid;rw[e,<-hlv];rfl,rfl,rfl,rfl,rfl,?_⟩;have gd:∀j q,owner.getD j none=some q↔owner[j]? =some (some q):=fun j q=>by
  rw[Zs];cases owner[j]? with
  | none=>simp
  | some o=>simp
 have mem:∀j q,(j,q)∈live↔owner[j]? =some (some q):=fun j q=>by
  rw[<-hlv,mem_filterMap]
  constructor
  ·rintro⟨j',hj',e'⟩;obtain⟨q',e1,e2⟩:=map_eq_some_iff.mp e';cases e2;exact(gd j q).mp e1
  ·intro ho;have:j<owner.size:=by
    obtain⟨h1,_⟩:=Array.getElem?_eq_some_iff.mp ho;exact h1
   refine⟨j,mem_range.mpr (by rw[L.size]at this;exact this),?_⟩;rw[(gd j q).mpr ho];rfl
 have rise:(live.map (·.1)).Pairwise (·<·):=by
  rw[<-hlv,X1,List.pairwise_filterMap];refine List.Pairwise.imp (fun{a b} hab x hx y hy=>?_) List.pairwise_lt_range;obtain⟨_,_,rfl⟩:=map_eq_some_iff.mp hx;obtain⟨_,_,rfl⟩:=map_eq_some_iff.mp hy;exact hab
 have qlt:∀j q,(j,q)∈live->q<es.size:=fun j q h=>by
  obtain⟨h',e1,_⟩:=L.own j q ((mem j q).mp h);have:=(Xf e1).1
  lia
 have ordn:(live.map (·.2)).Nodup:=by
  rw[Yw,X1];have nd:live.Pairwise fun a b=>a.1<b.1:=by rw[X1]at rise;exact rise
  refine X9 (fun{a b} ha hb hab hq=>?_) nd;have h1:=(mem a.1 a.2).mp ha;have h2:=(mem b.1 b.2).mp hb;rw[<-hq]at h2;have:=L.one _ _ _ h1 h2
  lia
 have ordp:(live.map (·.2)).Perm (List.range es.size):=kJ ordn nodup_range fun q=>by
  constructor
  ·intro hq;obtain⟨⟨j,q'⟩,h1,rfl⟩:=Xi hq;exact mem_range.mpr (qlt j q' h1)
  ·intro hq;obtain⟨j,hj⟩:=L.all q (by rw[hsz];exact mem_range.mp hq);exact Xj ⟨(j,q),(mem j q).mpr hj,rfl⟩
 have fm:∀(l:List Nat),(∀q∈l,q<es.size)->l.filterMap (es[·]?)=l.map (fun q=>es.getD q (0,Value.none)):=by
  intro l
  induction l with
  | nil=>intro _;rfl
  | cons q l ih=>
    intro hq;have h1:=hq q Zm;have e1:es[q]? =some (es.getD q (0,Value.none)):=by simp[Array.getD,h1]
    rw[Y2,e1,Ym,ih fun y hy=>hq y (Zk _ hy)]
 have el:((live.map (·.2)).toArray.filterMap (es[·]?)).toList=(live.map (·.2)).map (fun q=>es.getD q (0,Value.none)):=by
  rw[Array.toList_filterMap,toList_toArray];exact fm _ fun q hq=>by
   obtain⟨⟨j,q'⟩,h1,rfl⟩:=Xi hq;exact qlt j q' h1
 have er:es.toList=(List.range es.size).map (fun q=>es.getD q (0,Value.none)):=by
  apply Y0
  ·simp
  ·intro i h1 h2;have h1:i<es.size:=by simpa using h1
   simp[Array.getD,h1]
 refine⟨⟨⟨k,hp⟩,hb,rfl,?_,fun j hj=>?_,?_,fun i j h x hi he=>?_⟩,?_⟩
 ·intro a b ha hb' hab;have:=List.pairwise_iff_getElem.mp rise a b (by simpa using ha) (by simpa using hb') hab;simpa using this
 ·have hj:j∈live.map (·.1):=by simpa using hj
  obtain⟨⟨j',q⟩,h1,rfl⟩:=Xi hj;have:=(Array.getElem?_eq_some_iff.mp ((mem j' q).mp h1)).1;rw[L.size]at this;show j'<=t.mask
  lia
 ·show(live.map (·.1)).toArray.size=_;rw[<-Zb (xs:=Array.filterMap _ _),el];simp
 ·have hi:(live.map (·.1))[i]? =some j:=by simpa using hi
  have he:((live.map (·.2)).toArray.filterMap (es[·]?)).toList[i]? =some (h,x):=by simpa using he
  rw[el,Yn,Zl]at he;rw[Zl]at hi;cases hl:live[i]? with
  | none=>rw[hl]at hi;cases hi
  | some p=>
    obtain⟨j',q⟩:=p;rw[hl]at hi he;cases hi;have hm:=Z8 hl;obtain⟨h',e1,n,n1,n2⟩:=L.own _ q ((mem _ q).mp hm);have hq:=qlt _ q hm;have eh:h'=h:=by
     have e2:(es.map (·.1)).toList[q]? =some (es[q]).1:=by simp[hq]
     rw[e2]at e1;have e3:es.getD q (0,Value.none)=es[q]:=by simp[Array.getD,hq]
     simp only[Function.comp,Option.map_some,e3,Option.some.injEq]at he;rw[he]at e1;exact(Za e1).symm
    subst eh;have wm:∀n,way {mask:=t.mask,place:=(live.map (·.1)).toArray,dummies:= #[],finger:=finger,led:=led,moves:=moves,plain:=plain} h' n=way t h' n:=fun n=>mv (t':=t) (by rfl) h' n
    refine⟨n,by rw[wm];exact n1,fun m hm'=>?_⟩;rw[wm];have hw:way t h' m<owner.size:=by rw[L.size];have:=ni t h' m;lia
    obtain⟨q',e'⟩:=(eM hw).mp (n2 m hm');show way t h' m∈(live.map (·.1)).toArray.toList;rw[toList_toArray];exact Xj ⟨(way t h' m,q'),(mem _ _).mpr e',rfl⟩
 ·rw[el,er];exact ordp.map _
end STab
namespace STab
open PySem PySem.SetTable
section
variable{prog:Program}{w:World}{K:Type}[DecidableEq K]{knd:KeyKind prog w K}{A:Around}{E:Value->Shared->Prop}{s:Shared}
def EL(knd:KeyKind prog w K)(h:Heap)(es:Array (Int×Value)):Prop:=∀(i:Nat) e,es[i]? =some e->∃r k,e=(tupleKeyHash knd k,Value.ref r)/\IsTupleKey knd h k r
theorem jD{ks:List K}{r:Addr}{Q:Bool->Shared->Prop}(hk:IsTupleKey knd s.heap ks r)(h:Q false s):wpAny (model prog w) A (ofAClassStatement 8 (.ref r)) Q E s:=by
 have hT:=hk.typeIs;obtain⟨o,items,n,ho,_,hd,hi⟩:=hk;unfold ofAClassStatement;refine Z2 (wpAny_typeOf hT ?_);dsimp only;rw[if_pos (by simp)];refine Z2 (Z3 ?_);simp only[Bool.not_true,Y1,if_false];refine Z2 (wpAny_seqItems ho hd ?_);dsimp only;refine Z2 ?_;rw[<-Array.forIn_toList];refine wpAny_forIn_list _ (fun rest r s'=>r=(none,())/\s'=s/\∃x',ItemsAre knd x' rest) _ ?_ ?_ _ _ ⟨rfl,rfl,ks,hi⟩
 ·rintro x rest r s' ⟨rfl,rfl,x',hx'⟩;cases hx' with
  | @cons k1 u' x'' xs'' h1 hx''=>
    have hb:=knd.byValue _ _ h1;have e:ofAClassStatement 7 x=pure false:=by
     cases x with
     | ref a=>simp[carriedByValue]at hb
     | _=>first|rfl|simp[ofAClassStatement]|(unfold ofAClassStatement;rfl)
    refine Z2 ?_;rw[e];refine Z3 ?_;simp only[Y1,if_false];exact Z3 ⟨rfl,rfl,x'',hx''⟩
 ·rintro r s' ⟨rfl,rfl,_⟩;exact Z3 h
theorem rc{ks:List K}{r:Addr}(hk:IsTupleKey knd s.heap ks r):∀(l:List Value),(∀y∈l,∃r' k',y=Value.ref r'/\IsTupleKey knd s.heap k' r')->∀{Q:Bool->Shared->Prop},Q false s->wpAny (model prog w) A (searchCouldBeSeen (.ref r) l) Q E s:=by
 intro l hl Q h;unfold searchCouldBeSeen;refine Z2 ?_;refine wpAny_forIn_list _ (fun rest x s'=>x=(none,())/\s'=s/\∀y∈rest,∃r' k',y=Value.ref r'/\IsTupleKey knd s.heap k' r') _ ?_ ?_ _ _ ⟨rfl,rfl,hl⟩
 ·rintro y rest x s' ⟨rfl,rfl,hr⟩;obtain⟨r',k',rfl,hk'⟩:=hr y Zm;have go:∀y∈rest,∃r' k',y=Value.ref r'/\IsTupleKey knd s'.heap k' r':=fun y hy=>hr y (Zk _ hy)
  dsimp only
  split
  ·exact Z3 ⟨rfl,rfl,go⟩
  ·refine Z2 (wpAny_eqIsQuiet_tuple hk ?_);simp only[Bool.not_true,Y1,if_false];refine Z2 (wpAny_eqIsQuiet_tuple hk' ?_);simp only[Bool.not_true,Y1,if_false];refine Z2 (jD hk ?_);simp only[Y1,if_false];refine Z2 (jD hk' ?_);simp only[Y1,if_false];exact Z3 ⟨rfl,rfl,go⟩
 ·rintro x s' ⟨rfl,rfl,_⟩;exact Z3 h
theorem nq{a r:Addr}{k:List K}{o:Obj}{es:Array (Int×Value)}{ep:Nat}{t:SetTable}{Q:SetFound->Shared->Prop}(hu:A.units<cLine)(ho:s.heap.get? a=some o)(hd:o.data= .set es ep t)(W:WF t es)(room:t.place.size<=t.mask)(small:t.mask<=9000)
 (el:EL knd s.heap es) (hk:IsTupleKey knd s.heap k r)
 (h1:(∃(i:Nat) (r':Addr),es[i]? =some (tupleKeyHash knd k,Value.ref r')/\IsTupleKey knd s.heap k r')->Q (.there none) s)
 (h2:∀m,way t (tupleKeyHash knd k) m∉t.place.toList->(∀q,q<m->way t (tupleKeyHash knd k) q∈t.place.toList)->(∀(i:Nat) r' k',es[i]? =some (tupleKeyHash knd k',Value.ref r')->IsTupleKey knd s.heap k' r'->k'≠k)->Q (.free (way t (tupleKeyHash knd k) m) false) s):
 wpAny (model prog w) A (setSearch a (.ref r) (tupleKeyHash knd k) true) Q E s:=by
 generalize hh:tupleKeyHash knd k=h at h1 h2
 have hf:t.fits es.size=true:=by
  unfold fits fill;rw[W.dum];simp[W.size];rw[<-W.size];exact room
 obtain⟨m0,m1,m2,m3⟩:=qX W room h;have me:t.slot (way t h m0)= .empty:=by
  rcases hV W.rise W.dum (way t h m0)with⟨i,e,_⟩|⟨_,e⟩
  ·exact absurd (mem_toList_iff.mpr (Array.mem_of_getElem? e)) m2
  ·exact e
 have odd:t.gaveWay=false:=by
  obtain⟨c,hc⟩:=W.pow;have hb:=W.big;have c0:c≠0:=fun q=>by rw[q]at hc;lia
  obtain⟨c',rfl⟩:=Nat.exists_eq_succ_of_ne_zero c0;rw[pow_succ]at hc;unfold gaveWay;have:t.mask%2=1:=by lia
  simp[this]
 have main:∀(fuel n:Nat) (st:Option Probe),st.getD (t.probeStart h)=stand t h n->n<=m0->m0<n+fuel->(∀j,j<n->∀(i:Nat) r' k',t.slot (way t h j)= .live i->es[i]? =some (tupleKeyHash knd k',Value.ref r')->IsTupleKey knd s.heap k' r'->k'≠k)->
  wpAny (model prog w) A (setSearchFrom a (.ref r) h true fuel st) Q E s:=by
  intro fuel
  induction fuel with
  | zero=>intro n st _ a1 a2;lia
  | succ fuel ih=>
    intro n st hst hn hfu old;unfold setSearchFrom;refine Z2 (wpAny_setState_of ho hd hf ?_);dsimp only;rw[odd];simp only[Y1,if_false];rw[hst]
    generalize hpr:SetTable.probe t _ h (stand t h n)=pr
    have hpr':SetTable.probe.go t (fun i=>((es[i]?).map (·.1)).getD 0) h (10*turns t.mask) (stand t h n)=pr:=hpr;obtain⟨q,q1,q2,q3,q4⟩:=pA (t:=t) W.dum (hashAt:=fun i=>((es[i]?).map (·.1)).getD 0) (h:=h) (10*turns t.mask) n m0 hn (by lia) me;rcases q4 with⟨e1,e2⟩|⟨i,e1,e2,e3⟩
    ·rw[e2]at hpr';subst hpr';have hq:q=m0:=by
      rcases Nat.eq_or_lt_of_le q2 with z|z
      ·exact z
      ·have:=m3 q z;rcases hV W.rise W.dum (way t h q)with⟨i,_,e'⟩|⟨z2,_⟩
       ·rw[e1]at e';cases e'
       ·exact absurd this z2
     subst hq;dsimp only;refine Z3 (h2 q m2 m3 fun i r' k' he hk' hkk=>?_);subst hkk;rw[hh]at he;have hi:i<es.size:=(Array.getElem?_eq_some_iff.mp he).1;have hp:t.place[i]? =some (t.place[i]'(by rw[W.size];exact hi)):=by simp[W.size,hi]
     obtain⟨nn,c1,c2⟩:=W.chain i _ h _ hp he;have hlv:=mt W.rise hp;have hnn:nn<q:=by
      rcases Nat.lt_trichotomy nn q with z|z|z
      ·exact z
      ·rw[z,]at c1;rw[<-c1,me]at hlv;cases hlv
      ·exact absurd (c2 q z) m2
     rw[<-c1]at hlv;by_cases hold:nn<n
     ·exact old nn hold i r' k' hlv (by rw[hh];exact he) hk' rfl
     ·obtain⟨i',e',ne'⟩:=q3 nn (by lia) hnn;rw[hlv]at e';cases e';rw[he]at ne';exact ne' rfl
    ·rw[e3]at hpr';subst hpr';obtain⟨x0,he⟩:∃e,es[i]? =some e:=by
      have hsl:t.place[i]? =some (way t h q):=by
       rcases hV W.rise W.dum (way t h q)with⟨i',p1,p2⟩|⟨_,p2⟩
       ·rw[e1]at p2;cases p2;exact p1
       ·rw[e1]at p2;cases p2
      have:=(Array.getElem?_eq_some_iff.mp hsl).1;exact⟨es[i]'(by rw[<-W.size];exact this),by simp[<-W.size,this]⟩
     obtain⟨r',k',rfl,hk'⟩:=el i x0 he;have eh:tupleKeyHash knd k'=h:=by rw[he]at e2;exact e2
     have hqm:q<m0:=Nat.lt_of_le_of_ne q2 fun z=>by rw[z,me]at e1;cases e1
     have body:wpAny (model prog w) A (do
      let equal<-holding [Value.ref r'] (eqBool (Value.ref r') (Value.ref r))
      let x<-setState a
      if(true&&equal)=true then pure (SetFound.there none)
      else match x.2.snd.sameMemory t.moves t.mask with
       | some same=>
         match if same=true then x.2.snd.slot (way t h q)else Slot.empty with
         | Slot.live i'=>
           match x.fst[i']? with
           | some (_,y')=>do
             let b<-isSame y' (Value.ref r')
             let still<-pure (if b=true then some i' else none)
             match still with
              | none=>do
                rule "set.search.anew"
                setSearchFrom a (Value.ref r) h true fuel none
              | some i'=>
                if equal=true then pure (SetFound.there (some i'))
                else setSearchFrom a (Value.ref r) h true fuel (some (stand t h (q+1)))
           | none=>do
             let still<-pure none
             match still with
              | none=>do
                rule "set.search.anew"
                setSearchFrom a (Value.ref r) h true fuel none
              | some i'=>
                if equal=true then pure (SetFound.there (some i'))
                else setSearchFrom a (Value.ref r) h true fuel (some (stand t h (q+1)))
         | x=>do
           let still<-pure none
           match still with
            | none=>do
              rule "set.search.anew"
              setSearchFrom a (Value.ref r) h true fuel none
            | some i'=>
              if equal=true then pure (SetFound.there (some i'))
              else setSearchFrom a (Value.ref r) h true fuel (some (stand t h (q+1)))
       | x=>unsupported "set.changed-during-lookup:is-the-new-block-at-the-old-address") Q E s:=by
      refine Z2 (wpAny_holding (wpAny_eqBool_tuple hu hk' hk ?_));refine Z2 (wpAny_setState_of ho hd hf ?_);dsimp only;by_cases hkk:k'=k
      ·subst hkk;rw[Zf rfl];simp only[Bool.and_self,if_true];exact Z3 (h1 ⟨i,r',by rw[<-eh];exact he,hk'⟩)
      ·rw[Zh hkk];simp only[Bool.and_false,Y1,if_false];have sm:t.sameMemory t.moves t.mask=some true:=by unfold sameMemory;rw[if_pos (by simp)]
       rw[sm];simp only[if_true];rw[e1];dsimp only;rw[he];dsimp only;have same:isSame (Value.ref r') (Value.ref r')=pure true:=by
        unfold isSame;simp
       refine Z2 ?_;rw[same];refine Z3 ?_;simp only[if_true];refine Z2 (Z3 ?_);dsimp only;refine ih (q+1) _ rfl (by lia) (by lia) fun j hj i2 r2 k2 s2 g2 t2=>?_
       by_cases hjn:j<n
       ·exact old j hjn i2 r2 k2 s2 g2 t2
       ·by_cases hjq:j=q
        ·subst hjq;rw[e1]at s2;cases s2;rw[he]at g2;have:r'=r2:=by
          have:=Za g2;injection this with _ z
          injection z
         subst this;rw[<-hk'.inj t2];exact hkk
        ·obtain⟨i3,p1,p2⟩:=q3 j (by lia) (by lia);rw[s2]at p1;cases p1;rw[g2]at p2;intro z;rw[z]at p2;exact p2 hh
     dsimp only;rw[he];dsimp only;by_cases hled:(!t.led)=true
     ·rw[if_pos hled];refine Z2 (rc hk _ (fun y hy=>?_) ?_)
      ·obtain⟨e,he1,rfl⟩:=Xi hy;have he2:=(Array.mem_filter.mp (mem_toList_iff.mp he1)).1;obtain⟨i2,hi2⟩:=Array.getElem?_of_mem he2;obtain⟨r2,k2,rfl,hk2⟩:=el i2 e hi2;exact⟨r2,k2,rfl,hk2⟩
      ·simp only[Y1,if_false];exact body
     ·rw[if_neg hled];exact body
 exact main 100000 0 none rfl (X7 _) (by unfold turns at m1;lia) (fun j hj=>absurd hj (Yx _))
end
end STab
namespace STab
open PySem PySem.SetTable
structure IN (es:Array (Int×Value)) (t:SetTable) (led:Bool):Prop where
 wf:WF t es
 roomy:t.place.size*5<t.mask*3
 small:t.mask<=7\/t.mask+1<=8*es.size
 led:t.led=led
 plain:es.size≠0->t.plain=false
theorem IN.fits{es:Array (Int×Value)}{t:SetTable}{led:Bool}(I:IN es t led):t.fits es.size=true:=by
 unfold SetTable.fits fill;rw[I.wf.dum];have:=I.roomy;simp[I.wf.size];rw[<-I.wf.size]
 lia
theorem IN.fresh(finger moves:Nat)(led:Bool):IN #[] (SetTable.fresh finger moves led) led:=
 ⟨⟨⟨3,rfl⟩,Zi _,rfl,fun a b ha=>absurd ha (by simp[SetTable.fresh]),fun j hj=>by simp[SetTable.fresh]at hj,rfl,fun i j h x hi=>by simp[SetTable.fresh]at hi⟩,show 0*5<7*3 from by decide,.inl (Zi _),rfl,fun q=>absurd rfl q⟩
section
variable{prog:Program}{w:World}{K:Type}[DecidableEq K]{knd:KeyKind prog w K}{A:Around}{E:Value->Shared->Prop}{s:Shared}
theorem wy{a:Addr}{o:Obj}{es:Array (Int×Value)}{ep:Nat}{t:SetTable}{Q:Unit->Shared->Prop}(ho:s.heap.get? a=some o)(hd:o.data= .set es ep t)(hf:t.fits es.size=true)(hn:es.size<=1000)(h0:es.size≠0)(hp:t.plain=false)
 (h:∀es' t',es'.toList.Perm es.toList->IN es' t' t.led->t'.plain=false->Q () {s with heap:=s.heap.update a (Obj.putSet es' t')}):
 wpAny (model prog w) A (setRelay a (grown es.size)) Q E s:=by
 have hg:grown es.size=es.size*4:=by unfold grown;rw[if_neg (by lia)]
 rw[hg];obtain⟨k,k3,ek,lt,le⟩:=q0 (n:=es.size*4) (by lia);have k8:8<=2^k:=Yd (by decide:8<=2^3) (Nat.pow_le_pow_right (by decide) k3);have hb:2^k<=8*es.size\/2^k=8:=by
  rcases le with q|q
  ·exact .inl (by lia)
  ·exact .inr (by rw[q])
 have hle:2^k<=8000:=by rcases hb with q|q<;> lia
 let tm:SetTable:={t with mask:=2^k-1}
 obtain⟨t',order,e1,e2,e3,e4,e5,W,P⟩:=yE (t:=tm) (k:=k) (by show 2^k-1+1=2^k;lia) (by show 7<=2^k-1;lia) es (by show es.size<=2^k-1;lia) t.finger (t.movedTo (2^k-1)) t.led t.plain;have er:t.relaid (es.map (·.1)) (es.size*4)=some (t',order):=by
  unfold relaid;rw[ek];exact e1
 have sz:(order.filterMap (es[·]?)).size=es.size:=by rw[<-Zb,P.length_eq,Zb]
 unfold setRelay;refine Z2 (wpAny_setState_of ho hd hf ?_);dsimp only;rw[ek,if_neg (by rw[PySem.sizeLine_eq];lia)];rw[er];have em:t'.mask=2^k-1:=e2;have fin:=h (order.filterMap (es[·]?)) t' P ⟨W,by rw[em,W.size,sz];lia,by rw[em,sz];rcases hb with q|q<;> lia,e3,fun _=>by rw[e4];exact hp⟩ (by rw[e4];exact hp);refine Z2 ?_;show wpAny (model prog w) A (if((order.filterMap (es[·]?)).size != es.size)=true then _ else pure (order.filterMap (es[·]?),t')) _ E s;rw[if_neg (by simp[sz])];refine Z3 ?_;exact wpAny_storeSet_of ho hd fin (by rw[sz];exact Yd hn (by decide))
theorem ua{a r:Addr}{k:List K}{o:Obj}{es:Array (Int×Value)}{ep:Nat}{t:SetTable}{led:Bool}{Q:Bool->Shared->Prop}(hu:A.units<cLine)(ho:s.heap.get? a=some o)(hd:o.data= .set es ep t)(I:IN es t led)(hn:es.size+1<=1000)
 (el:EL knd s.heap es) (hk:IsTupleKey knd s.heap k r) (hv:∀(s':Shared) (Q':Bool->Shared->Prop),IsTupleKey knd s'.heap k r->Q' false s'->wpAny (model prog w) A (hashByValue 8 (.ref r)) Q' E s')
 (h1:(∃(i:Nat) (r':Addr),es[i]? =some (tupleKeyHash knd k,Value.ref r')/\IsTupleKey knd s.heap k r')->Q false {s with toks:=s.toks+(k.length+1)})
 (h2:(∀(i:Nat) (r':Addr) (k':List K),es[i]? =some (tupleKeyHash knd k',Value.ref r')->IsTupleKey knd s.heap k' r'->k'≠k)->∀es' t' ep' h',h'.get? a=some {o with data:= .set es' ep' t'}->SameBut a s.heap h'->es'.toList.Perm (es.toList++[(tupleKeyHash knd k,Value.ref r)])->IN es' t' led->Q true {s with heap:=h',toks:=s.toks+(k.length+1)}):
 wpAny (model prog w) A (setAdd a (.ref r)) Q E s:=by
 unfold setAdd;refine wpAny_holding (Z2 (wpAny_pyHash_tuple hu hk ?_));unfold setAddHashed;refine wpAny_holding ?_;unfold setAddHashedIn;refine Z2 (wpAny_setState_of (s:={s with toks:=s.toks+(k.length+1)}) ho hd I.fits ?_);dsimp only;have ns:byScan (Value.ref r) es=false:=by unfold byScan;simp[Value.scannable]
 rw[ns];simp only[Y1,if_false];have sm:t.mask<=9000:=by rcases I.small with q|q<;> lia
 have rm:=I.roomy;refine Z2 (nq (s:={s with toks:=s.toks+(k.length+1)}) hu ho hd I.wf (by lia) sm el hk (fun q=>?_) fun m m1 m2 m3=>?_)
 ·exact Z3 (h1 q)
 ·dsimp only;refine Z2 (wpAny_setState_of (s:={s with toks:=s.toks+(k.length+1)}) ho hd I.fits ?_);dsimp only;have W0:=I.wf;obtain⟨p1,p2,p3,p4,p5,p6,Wp⟩:=W0.put (x:=Value.ref r) m1 m2 t.led false;obtain⟨_,_,_,_,_,_,Wq⟩:=W0.put (x:=Value.ref r) m1 m2 (t.put (way t (tupleKeyHash knd k) m)).1.led (t.put (way t (tupleKeyHash knd k) m)).1.plain;have hpe:(t.put (way t (tupleKeyHash knd k) m)).2<=es.size:=by
   rw[p1,<-W0.size];exact(hJ W0.rise _).1
  have sz1:(insertAt es (t.put (way t (tupleKeyHash knd k) m)).2 (tupleKeyHash knd k,Value.ref r)).size=es.size+1:=f6 _ _ _ hpe;have pm1:(insertAt es (t.put (way t (tupleKeyHash knd k) m)).2 (tupleKeyHash knd k,Value.ref r)).toList.Perm (es.toList++[(tupleKeyHash knd k,Value.ref r)]):=by
   rw[iE _ _ _ hpe];have q:=X3 (t.put (way t (tupleKeyHash knd k) m)).2 es.toList;refine List.Perm.trans List.perm_middle ?_;rw[q];exact perm_append_comm (l₁:=[_])
  generalize hes:insertAt es (t.put (way t (tupleKeyHash knd k) m)).2 (tupleKeyHash knd k,Value.ref r)=es1 at Wp Wq sz1 pm1
  have tail:∀t2:SetTable,WF t2 es1->t2.mask=t.mask->t2.place.size=t.place.size+1->t2.led=led->t2.plain=false->
   wpAny (model prog w) A (do storeSet a es1 t2;if(!false&&t2.tooFull)=true then do setRelay a (grown (es.size+1));pure true else pure true) Q E {s with toks:=s.toks+(k.length+1)}:=fun t2 W2 e1 e2 e3 e4=>by
   have g1:(s.heap.update a (Obj.putSet es1 t2)).get? a=some {o with data:= .set es1 (ep+1) t2}:=by
    have q:=get?_update_self (Obj.putSet es1 t2) ho (by rw[putSet_of es1 t2 hd];rfl);rwa[putSet_of es1 t2 hd]at q
   have b1:=SameBut.update s.heap a (Obj.putSet es1 t2);refine Z2 (wpAny_storeSet_of (s:={s with toks:=s.toks+(k.length+1)}) ho hd ?_ (by rw[sz1];exact Yd hn (by decide)));have hfull:t2.tooFull=true↔t2.mask*3<=t2.place.size*5:=by
    unfold tooFull fill;rw[W2.dum];simp
   have hroom:t2.place.size<=t2.mask:=by rw[e1,e2];have:=W0.big;lia
   by_cases hf:t2.tooFull=true
   ·rw[if_pos (by simp[hf])];have hfit:t2.fits es1.size=true:=by
     unfold SetTable.fits fill;rw[W2.dum];simp[W2.size];rw[<-W2.size];exact hroom
    rw[<-sz1];refine Z2 (wy (s:={s with heap:=s.heap.update a (Obj.putSet es1 t2),toks:=s.toks+(k.length+1)}) g1 rfl hfit (by lia) (by lia) e4 fun es2 t3 P3 I3 _=>Z3 ?_);have g2:((s.heap.update a (Obj.putSet es1 t2)).update a (Obj.putSet es2 t3)).get? a=some {o with data:= .set es2 (ep+1+1) t3}:=by
     have q:=get?_update_self (Obj.putSet es2 t3) g1 (by rw[putSet_of es2 t3 rfl];rfl);rwa[putSet_of es2 t3 rfl]at q
    exact h2 m3 es2 t3 _ _ g2 (b1.trans (SameBut.update _ a _)) (P3.trans pm1) (by rw[e3]at I3;exact I3)
   ·rw[if_neg (by simp[hf])];have hnf: ¬ t2.mask*3<=t2.place.size*5:=fun q=>hf (hfull.mpr q)
    refine Z3 (h2 m3 es1 t2 _ _ g1 b1 pm1 ⟨W2,by lia,?_,e3,fun _=>e4⟩);rw[e1,sz1];rcases I.small with q|q
    ·exact .inl q
    ·exact .inr (by lia)
  by_cases hpl:(t.put (way t (tupleKeyHash knd k) m)).1.plain=true
  ·rw[if_pos hpl];refine Z2 (hv _ _ hk ?_);simp only[Y1,if_false];exact tail _ Wp p2 p3 I.led rfl
  ·rw[if_neg hpl];refine Z2 (Z3 ?_);simp only[if_true];exact tail _ Wq p2 p3 (p4.trans I.led) (by simpa using hpl)
end
end STab
namespace L2
open PySem PySem.Spec PyProof.Rows
section
variable{prog:Program}{w:World}{A:Around}{E:Value->Shared->Prop}{s:Shared}{I S T:Addr}
theorem ub{o:Obj}{es:Array (Int×Value)}{ep:Nat}{t:SetTable}{Q:Value->Shared->Prop}(ho:s.heap.get? S=some o)(hex:o.ExactSet)(hd:o.data= .set es ep t)(hb:es.size<scanBound)(hf:t.fits es.size=true)(hpl:es.size≠0->t.plain=false)(hled:t.led=!aI w)
 (hQ:∀(I T:Addr) (ord:List Value) (h':Heap) d,(∀b o,s.heap.get? b=some o->h'.get? b=some o)->s.heap.objs.size<=I->S≠I->(T=S\/s.heap.objs.size<=T)->T<h'.objs.size->I<h'.objs.size->ord.length=es.size->
  SIt w I S T o es ep t ord 0 h'->ord.Perm (es.toList.map (·.2))->Q (.ref I) {s with heap:=h',drawn:=d}):wpAny (model prog w) A (pyIter (.ref S)) Q E s:=by
 have hT:s.TypeIs (.ref S) "set":=⟨o,ho,hex.1⟩
 have slt:S<s.heap.objs.size:=Zv ho;refine wpAny_pyIter_slot hT F.slot_set_iter (wpAny_call_entry F.slot_set_iter hT gN ?_ (F.args_set_iter_1 _));unfold Builtin.«frozenset.__iter__»;refine Z2 (m:=Builtin.Frozenset.slot0 _ _) (Z2 (m:=slotArgs _ _ _) (Z3 (Z3 ?_)));refine Z2 (m:=Builtin.Frozenset.sizeOf S) (Z2 (wpAny_setEntries_of ho hd hf (Z3 ?_)));refine Z2 (m:=setDrawn S) ?_;unfold setDrawn;refine Z2 (wpAny_setState_of ho hd hf (Z2 (Z2 (wpAny_askSetting (Z3 (Z3 ?_))))));have fin:∀(first:Value) (s1:Shared) (T:Addr) (ord:List Value),s1.heap.get? S=some o->(∃d h1,s1={s with heap:=h1,drawn:=d})->(∀b o,s.heap.get? b=some o->s1.heap.get? b=some o)->T<s1.heap.objs.size->s.heap.objs.size<=s1.heap.objs.size->(T=S\/s.heap.objs.size<=T)->ord.Perm (es.toList.map (·.2))->
  ((aI w=true/\first=rawInt 0/\ord=(pickOrder (w.params.setOrder S ep) es).toList.map (·.2))\/(aI w=false/\first= .ref T/\∃ps:List Nat,s1.heap.get? T=some {cls:= .type "tuple",data:= .seq (ps.map fun(i:Nat)=>rawInt i).toArray}/\ps.length=ord.length/\∀(j p:Nat),ps[j]? =some p->∃e,es[p]? =some e/\ord[j]? =some e.2)\/(aI w=false/\es.size<=1/\ord=es.toList.map (·.2)/\first=rawInt 0))->ord.length=es.size->
  wpAny (model prog w) A.in1 (do ret (<-newFields "set_iterator" [first,rawInt 0,.ref S,rawInt es.size,rawInt (<-setEpoch S)])) (fun fin s'=>∃v,fin=Fin.done (Flow.ret v)/\∃T' r,s'.TypeIs v T'/\typeLookup (.type T') "__next__"=pure (some r)/\Q v s') (fun e s'=>E e s') s1:=by
  intro first s1 T ord h1 ⟨d,g1,e1⟩ k1 tl sl hTT q1 m hn
  subst e1;refine Z2 (wpAny_setEpoch_of h1 hd hf (Z2 (wpAny_newObj_type ?_)));have gI:(g1.push {cls:= .type "set_iterator",data:= .fields #[first,rawInt 0,.ref S,rawInt es.size,rawInt ep]}).get? g1.objs.size=some _:=Zj _ rfl;refine Z3 ⟨_,rfl,"set_iterator",_,⟨_,gI,rfl⟩,bj.lookup,hQ g1.objs.size T ord _ d (fun b o' e=>Z7 _ (k1 b o' e)) sl (Zt (Zv h1)) hTT (by rw[Zq];exact Yj tl) (by rw[Zq];exact Yk _) hn ?_ q1⟩;refine⟨Z7 _ h1,first,gI,?_⟩;rcases m with m|⟨bt,e,ps,hTt,r⟩|⟨bt,h1',eo,e⟩
  ·exact .inl m
  ·exact .inr (.inl ⟨bt,e,Zt tl,ps,Z7 _ hTt,r⟩)
  ·exact .inr (.inr ⟨bt,h1',eo,fun _=>e,fun q=>absurd q (by decide)⟩)
 have lst:(es.toList.map (·.2)).length=es.size:=by rw[Z6,Zb]
 by_cases bt:aI w=true
 ·show wpAny _ _ (if(!aI w&&_)=true then _ else _) _ _ _;rw[bt,Bool.not_true,Bool.false_and,if_neg (by decide)];refine Z2 (Z3 ?_);have pp:=(md (w.params.setOrder S ep) es).map (·.2);exact fin (rawInt 0) s S _ ho ⟨s.drawn,s.heap,rfl⟩ (fun _ _ e=>e) slt (Zi _) (.inl rfl) pp (.inl ⟨bt,rfl,rfl⟩) (by rw[pp.length_eq,lst])
 ·have bf:aI w=false:=by simpa using bt
  show wpAny _ _ (if(!aI w&&(!t.plain&&decide (es.size>1)))=true then _ else _) _ _ _;by_cases h1:es.size>1
  ·rw[bf,hpl (by lia),Zf h1];simp only[Bool.not_false,Bool.and_self,↓reduceIte];refine Z2 (mZ es.size (List.range es.size) _ _ (by simp) fun ps d pps=>Z2 ?_);refine wpAny_newTuple ?_ (by rw[Z6,pps.length_eq,Yg];exact fits_of_scanBound hb);have lt:∀p∈ps,p<es.size:=fun p q=>mem_range.mp (pps.mem_iff.mp q)
   have er:(List.range es.size).map (fun p=>((es[p]?).map (·.2)).getD .none)=es.toList.map (·.2):=by
    apply Y0
    ·simp
    ·intro i q1 q2;simp at q1;simp[q1]
   have pp:(ps.map (fun p=>((es[p]?).map (·.2)).getD .none)).Perm (es.toList.map (·.2)):=by rw[<-er];exact pps.map _
   refine fin (.ref s.heap.objs.size) {s with heap:=_,drawn:=d} s.heap.objs.size (ps.map (fun p=>((es[p]?).map (·.2)).getD .none)) (Z7 _ ho) ⟨d,_,rfl⟩ (fun b o' e=>Z7 _ e) (by show _<(push _ _).objs.size;rw[Zq];exact Yk _) (by show _<=(push _ _).objs.size;rw[Zq];exact Yc _) (.inr (Zi _)) pp
    (.inr (.inl ⟨bf,rfl,ps,Zj _ rfl,by rw[Z6],fun j p q=>?_⟩)) (by rw[pp.length_eq,lst])
   have hlt:=lt p (Z8 q);exact⟨es[p],by simp[hlt],by simp[q,hlt]⟩
  ·rw[bf,Zh h1];simp only[Bool.and_false,Y1,↓reduceIte];refine Z2 (Z3 ?_);exact fin (rawInt 0) s S _ ho ⟨s.drawn,s.heap,rfl⟩ (fun _ _ e=>e) slt (Zi _) (.inl rfl) (List.Perm.refl _) (.inr (.inr ⟨bf,by lia,rfl,rfl⟩)) lst
theorem nr{o0:Obj}{es0:Array (Int×Value)}{ep0:Nat}{t0:SetTable}{Q:List Value->Shared->Prop}(hh:A.handled=none)(ho0:s.heap.get? S=some o0)(hex0:o0.ExactSet)(hd0:o0.data= .set es0 ep0 t0)(hb0:es0.size<scanBound)(hf0:t0.fits es0.size=true)(hpl0:es0.size≠0->t0.plain=false)(hled0:t0.led=!aI w)
 (hQ:∀s' vs,vs.Perm (es0.toList.map (·.2))->(∀b o,s.heap.get? b=some o->s'.heap.get? b=some o)->s'.gens=s.gens->s'.os=s.os->s.heap.objs.size<=s'.heap.objs.size->Q vs s'):wpAny (model prog w) A (collect (.ref S)) Q E s:=by
 unfold collect;refine Z2 (wpAny_runValue (codeAny_builtin F.entry_proto_collect ?_));rw[Around.under_plainId F.plain_proto_collect _];show wpAny _ A.in1 (newList []>>= fun l=>again (.builtin "list.__iadd__" ⟨[l,.ref S],[]⟩)) _ _ s;refine Z2 (wpAny_newObj_type (Z3 ⟨plainId_quiet F.plain_list_iadd _,codeAny_builtin F.entry_list_iadd ?_⟩));rw[Around.under_plainId F.plain_list_iadd _];have slt:S<s.heap.objs.size:=Zv ho0;show wpAny _ A.in1 (Builtin.List.listExtendWith (.ref s.heap.objs.size) (.ref S) (.ref s.heap.objs.size)) _ _ _;unfold Builtin.List.listExtendWith
 generalize hG:s.heap.push {cls:= .type "list",data:= .seq ([]:List Value).toArray}=G
 have gS:G.get? S=some o0:=by rw[<-hG];exact Z7 _ ho0
 have gz:G.objs.size=s.heap.objs.size+1:=by rw[<-hG,Zq]
 have gL:G.get? s.heap.objs.size=some {cls:= .type "list",data:= .seq ([]:List Value).toArray}:=by rw[<-hG];exact Zj _ rfl
 have tS:Shared.TypeIs {s with heap:=G} (.ref S) "set":=⟨o0,gS,hex0.1⟩
 refine Z2 (wpAny_typeOf (T:="set") tS ?_);have n1:Builtin.List.listSameRef (.ref s.heap.objs.size) (.ref S)=false:=by
  show(s.heap.objs.size==S)=false;exact beq_eq_false_iff_ne.mpr (Yu slt)
 have n2:(Value.type "set"==Value.type "list")=false:=by decide
 have n3:(Value.type "set"==Value.type "tuple")=false:=by decide
 simp only[n1,n2,n3,Bool.or_false,Y1,if_false];refine Z2 (ub (s:={s with heap:=G}) gS hex0 hd0 hb0 hf0 hpl0 hled0 fun I T ord h1 d k1 hI hSI hTT hTl hIl hn st q1=>?_);replace k1:∀b o,G.get? b=some o->h1.get? b=some o:=k1;replace hI:G.objs.size<=I:=hI;have gS1:h1.get? S=some o0:=k1 _ _ gS;refine Z2 (wpAny_holding ?_);unfold Builtin.List.listLengthHint;have tS1:Shared.TypeIs {s with heap:=h1,drawn:=d} (.ref S) "set":=⟨o0,gS1,hex0.1⟩
 refine Z2 (wpAny_specialOf (T:="set") tS1 iz ?_)
 wp_delta
 refine Z2 (wpAny_isInstance (T:="set") (b:=true) tS1 (by rw[isSubtype_type];kernel_rfl) ?_);show wpAny _ A.in1 (typeOf (.ref S)>>= _) _ _ _;refine Z2 (wpAny_typeOf (T:="set") tS1 (Z3 ?_));rw[if_pos (by decide)];refine Z2 (wpAny_rule ?_);have gL1:h1.get? s.heap.objs.size=some {cls:= .type "list",data:= .seq ([]:List Value).toArray}:=k1 _ _ gL;refine Z2 ?_;unfold Builtin.List.listTouch;refine Z2 (listUpdate_at (s:={s with heap:=h1,drawn:=d}) gL1 rfl ?_ (X7 _) (by show 1<=sizeLine+1;lia));have gL2:=get?_update_self (Obj.mapSeq (·.push Value.none)) gL1 rfl;refine listUpdate_at (xs:= #[Value.none]) (n:=1) (s:={s with heap:=h1.update s.heap.objs.size (Obj.mapSeq (·.push Value.none)),drawn:=d}) gL2 rfl ?_ (by show 1<=sizeLine;decide) (by show 0<=sizeLine+1;lia);have gL3:=get?_update_self (Obj.mapSeq (·.pop)) gL2 rfl;have oth:∀b o,b≠s.heap.objs.size->h1.get? b=some o->((h1.update s.heap.objs.size (Obj.mapSeq (·.push Value.none))).update s.heap.objs.size (Obj.mapSeq (·.pop))).get? b=some o:=fun b o hb e=>(get?_update_other _ _ (Ne.symm hb)).trans ((get?_update_other _ _ (Ne.symm hb)).trans e)
 have neI:s.heap.objs.size≠I:=Zt (Zg (by rw[gz];exact Yk _) hI);have neT:s.heap.objs.size≠T:=by
  rcases hTT with e|e
  ·rw[e];exact Yu slt
  ·exact Zt (Zg (by show s.heap.objs.size<G.objs.size;rw[gz];exact Yk _) e)
 have nfp:s.heap.objs.size∉[I,S,T]:=by
  simp only[Yq,Yy,or_false,not_or];exact⟨neI,Yu slt,neT⟩
 have hbn:ord.length<=sizeLine:=by rw[hn];exact fits_of_scanBound hb0
 have W:=mm (prog:=prog) (A:=A.in1) (T:=T) (show A.in1.handled=none from hh) hd0 hf0 hled0 hSI hn;have st2:=W.frame 0 h1 ((h1.update s.heap.objs.size (Obj.mapSeq (·.push Value.none))).update s.heap.objs.size (Obj.mapSeq (·.pop))) st fun b hb o' e=>oth b o' (fun q=>nfp (q▸hb)) e
 refine Z3 ⟨plainId_quiet F.plain_extend_loop _,codeAny_extend_loopS W.toS hbn _ nfp _ ord.length 0 _ _ _ rfl (X7 _) st2 gL3 (ItemsOf.nil _) fun s5 acc c5 m5 gL5 hacc=>?_⟩;show wpAny _ A (load s.heap.objs.size>>= _) _ _ s5;refine Z2 (wpAny_load gL5 (Z3 ?_));have ea:acc.toList=ord:=by
  apply List.ext_getElem?;intro j;by_cases hj:j<ord.length
  ·have hj':j<acc.size:=by rw[hacc.1];exact hj
   have:=hacc.2 j acc[j] (by simp[hj']);rw[this];simp[hj']
  ·have l1:acc.toList.length=ord.length:=by rw[Zb];exact hacc.1
   rw[Xe (l:=acc.toList) (by lia),Xe (l:=ord) (by lia)]
 rw[ea];refine hQ s5 ord q1 (fun b o' e=>?_) m5.gens m5.os (Yb (Zv gL5));have blt:=Zv e;refine m5.heap b o' ?_ (oth b o' (Zt blt) (k1 b o' (by rw[<-hG];exact Z7 _ e)));simp only[Yq,Yy,or_false,not_or];exact⟨Zt blt,Zt (Zg blt (Yd (by rw[gz];exact Yc _) hI))⟩
end
open PySem PySem.Spec PyProof.Rows STab
noncomputable def eN{κ:Type}[DecidableEq κ](ps:List (Addr×κ))(p:Addr×κ):List (Addr×κ):=if p.2∈ps.map (·.2)then ps else ps++[p]
noncomputable def aN{κ:Type}[DecidableEq κ](l:List (Addr×κ)):List (Addr×κ):=l.foldl eN []
section
variable{κ:Type}[DecidableEq κ]
theorem wz{ps:List (Addr×κ)}{p q:Addr×κ}(h:q∈eN ps p):q∈ps\/q=p:=by
 unfold eN at h
 split at h
 ·exact .inl h
 ·rcases Xg h with h|h
  ·exact .inl h
  ·exact .inr (Xh h)
theorem uc{ps:List (Addr×κ)}{p:Addr×κ}{k:κ}:k∈(eN ps p).map (·.2)↔k∈ps.map (·.2)\/k=p.2:=by
 unfold eN;by_cases h:p.2∈ps.map (·.2)
 ·rw[if_pos h];exact⟨.inl,fun q=>q.elim id fun e=>e▸h⟩
 ·rw[if_neg h,Zd,mem_append];simp
theorem re{ps:List (Addr×κ)}{p:Addr×κ}(h:(ps.map (·.2)).Nodup):((eN ps p).map (·.2)).Nodup:=by
 unfold eN
 split
 ·exact h
 ·rename_i hn
  rw[Zd];exact jW h hn
theorem sG:∀(l ps:List (Addr×κ)),(ps.map (·.2)).Nodup->((l.foldl eN ps).map (·.2)).Nodup/\(∀k,k∈(l.foldl eN ps).map (·.2)↔k∈ps.map (·.2)\/k∈l.map (·.2))/\(∀q∈l.foldl eN ps,q∈ps\/q∈l)
 |[],ps,h=>⟨h,fun k=>by simp,fun q hq=> .inl hq⟩
 | p::l,ps,h=>by
   obtain⟨h1,h2,h3⟩:=sG l (eN ps p) (re h);rw[Y4];refine⟨h1,fun k=>?_,fun q hq=>?_⟩
   ·rw[h2,uc,Ym,Yq];exact⟨fun h=>h.elim (fun h=>h.elim .inl fun e=> .inr (.inl e)) fun h=> .inr (.inr h),fun h=>h.elim (fun h=> .inl (.inl h)) fun h=>h.elim (fun e=> .inl (.inr e)) .inr⟩
   ·rcases h3 q hq with z|z
    ·rcases wz z with z|z
     ·exact .inl z
     ·exact .inr (by rw[z];exact Zm)
    ·exact .inr (Zk _ z)
theorem eB(l:List (Addr×κ)):((aN l).map (·.2)).Nodup:=(sG l [] nodup_nil).1
theorem iF(l:List (Addr×κ))(k:κ):k∈(aN l).map (·.2)↔k∈l.map (·.2):=by
 have:=(sG l [] nodup_nil).2.1 k;simpa [aN]using this
theorem cZ(l:List (Addr×κ)):∀q∈aN l,q∈l:=fun q hq=>by
 rcases(sG l [] nodup_nil).2.2 q hq with z|z
 ·cases z
 ·exact z
theorem nt(val:Nat->Addr×κ)(i:Nat):aN ((List.range (i+1)).map val)=eN (aN ((List.range i).map val)) (val i):=by
 unfold aN;rw[range_succ,Zd,List.foldl_append];rfl
end
section
variable{prog:Program}{w:World}{κ:Type}[DecidableEq κ]{knd:PySem.KeyKind prog w κ}{A:Around}{E:Value->Shared->Prop}{s:Shared}{a:Addr}
def i8(w:World)(knd:PySem.KeyKind prog w κ)(a:Addr)(ps:List (Addr×List κ))(h:Heap):Prop:=
 ∃o es ep t,h.get? a=some o/\o.ExactSet/\o.data= .set es ep t/\IN es t (!aI w)/\es.toList.Perm (ps.map fun p=>(tupleKeyHash knd p.2,Value.ref p.1))
theorem i8.keep{ps:List (Addr×List κ)}{h h':Heap}(S:i8 w knd a ps h)(k:∀o,h.get? a=some o->h'.get? a=some o):i8 w knd a ps h':=by
 obtain⟨o,es,ep,t,ho,r⟩:=S;exact⟨o,es,ep,t,k o ho,r⟩
theorem iG{h h':Heap}{k:List κ}{r:Addr}(x:IsTupleKey knd h k r)(q:∀o,h.get? r=some o->h'.get? r=some o):IsTupleKey knd h' k r:=by
 obtain⟨o,items,n,ho,z⟩:=x;exact⟨o,items,n,q o ho,z⟩
theorem wA{ps:List (Addr×List κ)}{p:Addr×List κ}{Q:Bool->Shared->Prop}(hu:A.units<cLine)(hS:i8 w knd a ps s.heap)(tk:∀q∈ps,IsTupleKey knd s.heap q.2 q.1)(hk:IsTupleKey knd s.heap p.2 p.1)(room:ps.length+1<=1000)
 (hv:∀(s':Shared) (Q':Bool->Shared->Prop),IsTupleKey knd s'.heap p.2 p.1->Q' false s'->wpAny (model prog w) A (hashByValue 8 (.ref p.1)) Q' E s')
 (hQ:∀h' b tk,SameBut a s.heap h'->i8 w knd a (eN ps p) h'->s.toks<=tk->Q b {s with heap:=h',toks:=tk}):wpAny (model prog w) A (setAdd a (.ref p.1)) Q E s:=by
 obtain⟨o,es,ep,t,ho,hex,hd,I,P⟩:=hS;have hn:es.size=ps.length:=by
  have:=P.length_eq;rw[Z6,Zb]at this;exact this
 have mem:∀(i:Nat) e,es[i]? =some e->∃q∈ps,e=(tupleKeyHash knd q.2,Value.ref q.1):=fun i e he=>by
  have:e∈es.toList:=mem_toList_iff.mpr (Array.mem_of_getElem? he);obtain⟨q,hq,rfl⟩:=Xi (P.mem_iff.mp this);exact⟨q,hq,rfl⟩
 have el:EL knd s.heap es:=fun i e he=>by
  obtain⟨q,hq,rfl⟩:=mem i e he;exact⟨q.1,q.2,rfl,tk q hq⟩
 refine ua hu ho hd I (by lia) el hk hv (fun⟨i,r',e,k'⟩=>?_) fun hnone es' t' ep' h' g' sb P' I'=>?_
 ·obtain⟨q,hq,eq⟩:=mem i _ e;have er:r'=q.1:=by injection eq with _ z;injection z
  subst er;have ek:p.2=q.2:=k'.inj (tk q hq);refine hQ s.heap false _ (SameBut.refl a s.heap) ?_ (le_add_right _ _);unfold eN;rw[if_pos (Xj ⟨q,hq,ek.symm⟩)];exact⟨o,es,ep,t,ho,hex,hd,I,P⟩
 ·refine hQ h' true _ sb ?_ (le_add_right _ _);unfold eN;rw[if_neg]
  ·refine⟨_,es',ep',t',g',hex,rfl,I',P'.trans ?_⟩;rw[Zd];exact P.append_right _
  ·intro hm;obtain⟨q,hq,e⟩:=Xi hm;have:(tupleKeyHash knd q.2,Value.ref q.1)∈es.toList:=P.mem_iff.mpr (Xj ⟨q,hq,rfl⟩);obtain⟨i,hi⟩:=X8 this;exact hnone i q.1 q.2 (by simpa using hi) (tk q hq) e
end
section
variable{prog:Program}{w:World}{κ:Type}[DecidableEq κ]{knd:PySem.KeyKind prog w κ}{A:Around}{R:Result->Shared->Prop}{I:Addr}{fp wr:List Addr}{G:Array GenState->Array GenState->Prop}{n:Nat}{P:Nat->Value->Prop}{St:Nat->Shared->Prop}
theorem lB(W:WalksS prog w A.in1 I fp wr G n P St)(S:Addr)(hSf:S∉fp)(hu:A.in1.units<cLine)(val:Nat->Addr×List κ)(hval:∀i v,i<n->P i v->v= .ref (val i).1)(U:List (List κ))(hU:U.length<=999)(hkU:∀i,i<n->(val i).2∈U)(hout:∀i,i<n->(val i).1≠S/\(val i).1∉wr)
 (hv:∀i,i<n->∀(s':Shared) (Q':Bool->Shared->Prop) (E':Value->Shared->Prop),IsTupleKey knd s'.heap (val i).2 (val i).1->Q' false s'->wpAny (model prog w) A.in1 (hashByValue 8 (.ref (val i).1)) Q' E' s'):
 ∀(k i:Nat) (s:Shared),n-i=k->i<=n->St i s->i8 w knd S (aN ((List.range i).map val)) s.heap->(∀j,j<n->IsTupleKey knd s.heap (val j).2 (val j).1)->
  (∀s',Moved (S::wr) G s s'->i8 w knd S (aN ((List.range n).map val)) s'.heap->R (.ok (.ret .none)) s')->codeAny (model prog w) A (.builtin "set.update.loop" ⟨[.ref S,.ref I],[]⟩) R s:=by
 have out:S∉wr:=fun h=>hSf (W.sub _ h)
 have more:∀b∈wr,b∈S::wr:=fun b hb=>Zk _ hb
 intro k
 induction k with
 | zero=>
   intro i s hk hi st hS tk fin;have e:i=n:=by lia
   subst e;refine codeAny_builtin F.entry_set_update_loop ?_;rw[Around.under_plainId F.plain_set_update_loop _];show wpAny _ A.in1 (pyNext (.ref I)>>= _) _ _ s;refine Z2 (W.done s _ _ st fun s1 m1=>?_);show wpAny _ A.in1 (ret Value.none) _ _ s1;exact Z3 (fin s1 (m1.mono more) (hS.keep fun o e=>m1.heap S o out e))
 | succ k ih=>
   intro i s hk hi st hS tk fin;have lt:i<n:=by lia
   refine codeAny_builtin F.entry_set_update_loop ?_;rw[Around.under_plainId F.plain_set_update_loop _];show wpAny _ A.in1 (pyNext (.ref I)>>= _) _ _ s;refine Z2 (W.item i s _ _ lt st fun v s1 pv st1 m1=>?_);obtain rfl:=hval i v lt pv;have hS1:=hS.keep (h':=s1.heap) fun o e=>m1.heap S o out e
   have tk1:∀j,j<n->IsTupleKey knd s1.heap (val j).2 (val j).1:=fun j hj=>iG (tk j hj) fun o e=>m1.heap _ o (hout j hj).2 e
   have tkf:∀q∈aN ((List.range i).map val),IsTupleKey knd s1.heap q.2 q.1:=fun q hq=>by
    obtain⟨j,hj,rfl⟩:=Xi (cZ _ q hq);exact tk1 j (by have:=mem_range.mp hj;lia)
   have room:(aN ((List.range i).map val)).length+1<=1000:=by
    have q:=nodup_sub (eB ((List.range i).map val)) (m:=U) fun k hk=>by
     obtain⟨p,hp,rfl⟩:=Xi ((iF _ k).mp hk);obtain⟨j,hj,rfl⟩:=Xi hp;exact hkU j (by have:=mem_range.mp hj;lia)
    rw[Z6]at q
    lia
   show wpAny _ A.in1 (holding [Value.ref (val i).1] (setAdd S (.ref (val i).1))>>= _) _ _ s1;refine Z2 (wpAny_holding (wA (p:=val i) hu hS1 tkf (tk1 i lt) room (fun s' Q'=>hv i lt s' Q' _) fun h2 b tk2 sb hS2 htk=>?_));have hS2':i8 w knd S (aN ((List.range (i+1)).map val)) h2:=by rw[nt];exact hS2
   refine Z3 ⟨plainId_quiet F.plain_set_update_loop _,ih (i+1) _ (by lia) lt (W.frame _ s1 _ _ st1 htk fun b hb o e=>?_) hS2' (fun j hj=>iG (tk1 j hj) fun o e=>by rw[sb.2 _ (hout j hj).1];exact e) fun s3 m3 hS3=>?_⟩
   ·rw[sb.2 b (fun q:b=S=>hSf (q▸hb))];exact e
   ·refine fin s3 (Moved.trans W.gtrans ((m1.mono more).then_heap htk fun b o hb e=>?_) m3) hS3;rw[sb.2 b (fun q:b=S=>hb (by rw[q];exact Zm))];exact e
end
section
variable{prog:Program}{w:World}{κ:Type}[DecidableEq κ]{knd:PySem.KeyKind prog w κ}{A:Around}{E:Value->Shared->Prop}{s:Shared}
theorem lC{l:Addr}{items:Array Value}{ps:List (Addr×List κ)}{Q:Value->Shared->Prop}(hh:A.handled=none)(hu:A.units+16<cLine)(hl:s.heap.IsList l items)(hi:items.toList=ps.map fun p=>Value.ref p.1)(tk:∀p∈ps,IsTupleKey knd s.heap p.2 p.1)(U:List (List κ))(hU:U.length<=999)(hkU:∀p∈ps,p.2∈U)
 (hv:∀p∈ps,∀(B:Around) (s':Shared) (Q':Bool->Shared->Prop) (E':Value->Shared->Prop),IsTupleKey knd s'.heap p.2 p.1->Q' false s'->wpAny (model prog w) B (hashByValue 8 (.ref p.1)) Q' E' s')
 (hQ:∀(h':Heap) (tk:Nat),i8 w knd s.heap.objs.size (aN ps) h'->(∀b o,s.heap.get? b=some o->h'.get? b=some o)->Q (.ref s.heap.objs.size) {s with heap:=h',toks:=tk}):
 wpAny (model prog w) A (call (.type "set") [.ref l]) Q E s:=by
 obtain⟨c,tl,hmro⟩:=called_set.mro;have hmade:=called_set.made;have hsub:=called_set.sub;refine wpAny_call (codeAny_of_tree ?_);show wpAny _ _ (callAny (.type "set") _) _ _ _;refine Z3 ⟨Code.quiet_builtin _ (by decide +kernel),codeAny_builtin F.entry_type_call ?_⟩;rw[Around.under_plain (weight_type_call_type "set" [.ref l] []) rfl];have ht1:=called_set.notType;have ht2:=called_set.canCreate;have ht3:=PySem.F.typeCall_set_1 (.ref l)
 repeat any_goals first|assumption|wp_step
 refine codeAny_mono (oQ (.ref l) (E:=E) (Q₁:=fun obj s₁=>obj= .ref s.heap.objs.size/\s₁={s with heap:=s.heap.push (bh w)}) ⟨rfl,rfl⟩) fun r s₁ hr=>?_
 cases r with
 | error e=>exact hr
 | ok fl=>
   cases fl with
   | ret obj=>
     obtain⟨rfl,rfl⟩:=hr;have gS:(s.heap.push (bh w)).get? s.heap.objs.size=some (bh w):=Zj _ rfl;have tS:Shared.TypeIs {s with heap:=s.heap.push (bh w)} (.ref s.heap.objs.size) "set":=⟨_,gS,rfl⟩
     have hli:=called_set.init.lookup;have hbi:=called_set.init.bind (.ref s.heap.objs.size)
     repeat any_goals first|assumption|wp_step
     refine codeAny_mono (codeAny_call_builtin (R:=wants (fun r s₂=>r= .none/\∃h' tk,s₂={s with heap:=h',toks:=tk}/\i8 w knd s.heap.objs.size (aN ps) h'/\(∀b o,s.heap.get? b=some o->h'.get? b=some o)) E) called_set.init.plain F.entry_set_init (check_set_init_1 tS ?_)) fun r₂ s₂ hr₂=>?_
     ·obtain⟨ol,gl,cl,nl,dl⟩:=hl;obtain⟨ocls,odict,odata,oslots⟩:=ol;simp only at cl dl;subst cl;subst dl;have gl':(s.heap.push (bh w)).get? l=some {cls:= .type "list",dict:=odict,data:= .seq items nl,slots:=oslots}:=Z7 _ gl;have no1:=PySem.F.sub_list_set;have no2:=PySem.F.sub_list_frozenset;have no3:(Value.type "list"==Value.type "dict")=false:=by decide
      have isl:(s.heap.push (bh w)).IsList l items:=⟨_,gl',rfl,nl,rfl⟩
      unfold Builtin.«set.__init__»;unfold noKeywords;unfold Builtin.Frozenset.updateFrom
      generalize hPI:pyIter=PI
      wp_walk
      subst hPI;refine wpAny_pyIter_list isl (Z2 (wpAny_runValue ?_));have llt:l<s.heap.objs.size:=Zv gl;have h3:A.in1.in1.in1.handled=none:=by simp[hh]
      have nz:(s.heap.push (bh w)).objs.size=s.heap.objs.size+1:=Zq ..;have ne1:l≠(s.heap.push (bh w)).objs.size:=by rw[nz];exact Zt (Yj llt)
      have ne2:s.heap.objs.size∉[(s.heap.push (bh w)).objs.size,l]:=by
       rw[nz];simp only[Yq,Yy,or_false,not_or];exact⟨Zt (Yk _),Yu llt⟩
      have hlen:items.size=ps.length:=by rw[<-Zb,hi,Z6]
      have hun:A.in1.in1.in1.units<cLine:=by simp only[Around.in1];lia
      have vat:∀i,i<items.size->∃p∈ps,ps[i]? =some p/\ps.getD i (0,[])=p:=fun i h=>by
       have h':i<ps.length:=by lia
       exact⟨ps[i],Ya h',by simp[h'],by simp[Zc,h']⟩
      refine lB (knd:=knd) ((Walks.list h3 _ l ne1 items).toS) s.heap.objs.size ne2 hun (fun i=>ps.getD i (0,[])) (fun i v hlt hv'=>?_) U hU (fun i hlt=>?_) (fun i hlt=>?_) (fun i hlt=>?_) (items.size-0) 0 _ (by lia) (X7 _)
       ⟨⟨_,Zj _ rfl,rfl,rfl⟩,isl.push _⟩ ⟨_,#[],0,_,Z7 _ gS,⟨rfl,rfl,rfl⟩,rfl,IN.fresh 0 0 _,List.Perm.refl _⟩ (fun j hlt=>?_) ?_
      ·obtain⟨p,hp,e1,e2⟩:=vat i hlt;have:items.toList[i]? =some v:=by rw[Array.getElem?_toList];exact hv'
       rw[hi,Zl,e1]at this;show v= .ref (ps.getD i (0,[])).1;rw[e2];exact(Za this).symm
      ·obtain⟨p,hp,e1,e2⟩:=vat i hlt;show(ps.getD i (0,[])).2∈U;rw[e2];exact hkU p hp
      ·obtain⟨p,hp,e1,e2⟩:=vat i hlt;obtain⟨po,_,_,pg,_⟩:=tk p hp;have plt:=Zv pg;show(ps.getD i (0,[])).1≠_/\(ps.getD i (0,[])).1∉_;rw[e2];refine⟨Zt plt,?_⟩;simp only[Yq,Yy,or_false,nz];exact Zt (Yj plt)
      ·obtain⟨p,hp,e1,e2⟩:=vat i hlt;intro s' Q' E';show IsTupleKey knd s'.heap (ps.getD i (0,[])).2 (ps.getD i (0,[])).1->_->wpAny _ _ (hashByValue 8 (.ref (ps.getD i (0,[])).1)) _ _ _;rw[e2];exact hv p hp _ s' Q' E'
      ·obtain⟨p,hp,e1,e2⟩:=vat j hlt;show IsTupleKey knd _ (ps.getD j (0,[])).2 (ps.getD j (0,[])).1;rw[e2];exact iG (tk p hp) fun o e=>Z7 _ (Z7 _ e)
      intro s3 m3 S3;have hr:(List.range items.size).map (fun i=>ps.getD i (0,[]))=ps:=by
       rw[hlen];apply Y0
       ·simp
       ·intro i h1 h2;simp[Zc,h2]
      rw[hr]at S3;obtain⟨h',g',d',tk',os'⟩:=s3;have eg:g'=s.gens:=m3.gens;have ed:d'=s.drawn:=m3.drawn;have eo:os'=s.os:=m3.os;subst eg;subst ed;subst eo;refine Z3 ?_;show wpAny _ _ (ret Value.none) _ _ _;refine Z3 ⟨rfl,h',tk',rfl,S3,fun b o e=>?_⟩;have blt:=Zv e;refine m3.heap b o ?_ (Z7 _ (Z7 _ e));simp only[Yq,Yy,or_false,not_or,nz];exact⟨Zt blt,Zt (Yj blt)⟩
     ·cases r₂ with
      | error e=>exact hr₂
      | ok fl₂=>
        cases fl₂ with
        | ret r=>
          obtain⟨rfl,h',tk,rfl,S3,k3⟩:=hr₂
          repeat any_goals first|assumption|wp_step
          exact hQ _ _ S3 k3
        | _=>exact hr₂.elim
   | _=>exact hr.elim
end
section
variable{prog:Program}{w:World}{A:Around}{s:Shared}
theorem eC{a:Addr}{vs:List Value}{n:Nat}{kd:SortKind}{Nv:Value->Nat}{P:Fin->Shared->Prop}{E:Value->Shared->Prop}(ho:s.heap.get? a=some (seqObj "list" vs.toArray n))(hsz:vs.length<=100000)
 (hkk:∀h6:Heap,(∀b o,b≠a->s.heap.get? b=some o->h6.get? b=some o)->2<=vs.length->∀Q:SortKind->Shared->Prop,Q kd {s with heap:=h6}->wpAny (model prog w) A (keyKind' vs.toArray) Q E {s with heap:=h6})
 (hc:∀h6:Heap,(∀b o,b≠a->s.heap.get? b=some o->h6.get? b=some o)->SBig.Cmp prog w A (fun s'=>s'={s with heap:=h6}) kd (fun x=>x.1∈vs) (fun x=>Nv x.1))
 (h:∀out:List Value,out.Perm vs->out.Pairwise (fun x y=>Nv x<=Nv y)->P (.done (.ret .none)) {s with heap:=sortedHeap s.heap a vs out.toArray}):
 wpAny (model prog w) A (Builtin.«list.sort» ⟨[.ref a],[]⟩) P E s:=by
 rw[list_sort_plain];have ha:a<s.heap.objs.size:=Zv ho;have hsl:vs.length<=sizeLine:=Yd hsz (by decide);refine Z2 (listItems_at ho rfl ?_);refine Z2 (listUpdate_at ho rfl ?_ (by simpa using hsl));obtain⟨e1,ho1⟩:∃e1,(s.heap.update a (Obj.mapSeq fun _=> #[])).get? a=some (seqObj "list" #[] e1):=⟨_,get?_update_seq ho (fun _=> #[])⟩
 refine Z2 (seqEpoch_at ho1 rfl ?_);refine Z2 (wpAny_newTuple ?_ (by simpa using hsl));refine Z2 (wpAny_newList ?_);refine wpAny_holding ?_;have keep:∀b o,b≠a->s.heap.get? b=some o->(((s.heap.update a (Obj.mapSeq fun _=> #[])).push (seqObj "tuple" vs.toArray 0)).push (seqObj "list" #[] 0)).get? b=some o:=fun b o hb e=>
  Z7 _ (Z7 _ ((get?_update_other _ _ (Ne.symm hb)).trans e))
 have ho6:(((s.heap.update a (Obj.mapSeq fun _=> #[])).push (seqObj "tuple" vs.toArray 0)).push (seqObj "list" #[] 0)).get? a=some (seqObj "list" #[] e1):=by
  rw[Heap.get?_push_ne _ _ _ (by rw[size_push',Heap.size_update];exact Zt (Yj ha)),Heap.get?_push_ne _ _ _ (by rw[Heap.size_update];exact Zt ha)];exact ho1
 have hkk:=hkk _ keep;have hc:=hc _ keep;show wpAny (model prog w) A _ P E {s with heap:=((s.heap.update a (Obj.mapSeq fun _=> #[])).push (seqObj "tuple" vs.toArray 0)).push (seqObj "list" #[] 0)};dsimp only;have hvs:vs.toArray.size=vs.length:=by simp
 have zp:(vs.toArray.zip vs.toArray).toList=vs.map fun v=>(v,v):=by
  rw[Array.toList_zip,toList_toArray];apply Y0
  ·simp
  ·intro i h1 h2;simp
 have fin:∀st':SortSt,(arrOf st').toList.Perm (vs.map fun v=>(v,v))->SBig.Srt (fun x=>Nv x.1) (arrOf st').toList->P (.done (.ret .none)) {s with heap:=sortedHeap s.heap a vs ((arrOf st').map (·.2))}:=by
  intro st' hp hs;have eq:∀x∈(arrOf st').toList,x.1=x.2:=fun x hx=>by
   obtain⟨v,_,rfl⟩:=Xi (hp.mem_iff.mp hx);rfl
  have e:(arrOf st').map (·.2)=((arrOf st').toList.map (·.2)).toArray:=by
   apply Array.ext';simp
  rw[e];refine h _ ?_ ?_
  ·have:=hp.map (·.2);rwa[Yn,show((fun x:Keyed=>x.2) ∘ fun v:Value=>(v,v))=id from rfl,map_id]at this
  ·rw[X1];exact X9 (fun{x y} hx hy q=>by rw[<-eq x hx,<-eq y hy];exact q) hs
 by_cases h2:vs.toArray.size<2
 ·rw[if_pos h2,if_pos h2];refine Z2 (Z3 ?_);rw[StateT.run_pure];refine Z2 (Z3 ?_);dsimp only;refine Z2 (seqEpoch_at ho6 rfl ?_);refine Z2 (listUpdate_at ho6 rfl ?_ (hsz2:=by rw[size_map];show(pairsOf vs).size<=_;rw[pairsOf_size,sizeLine_eq];lia));simp only[bne_self_eq_false,Y1,if_false];refine Z3 (fin (SortSt.mk' general' (vs.toArray.zip vs.toArray) #[] 7 none) (by show(vs.toArray.zip vs.toArray).toList.Perm _;rw[zp]) ?_);show List.Pairwise _ (vs.toArray.zip vs.toArray).toList;rw[zp]
  match vs,hvs,h2 with
  |[],_,_=>exact List.Pairwise.nil
  |[v],_,_=>exact List.pairwise_singleton _ _
  | v1::v2::r,h3,h4=>simp at h4;lia
 ·rw[if_neg h2,if_neg h2];refine Z2 (hkk (by lia) _ ?_);refine Z2 (wpAny_mono (SBig.sc_sortRuns (D:=fun x=>x.1∈vs) (st:=SortSt.mk' kd (vs.toArray.zip vs.toArray) #[] 7 none) hc (fun x hx=>?_) ?_ rfl rfl
   (Q:=fun _ st'=>(arrOf st').toList.Perm (vs.map fun v=>(v,v))/\failedOf st'=none/\SBig.Srt (fun x=>Nv x.1) (arrOf st').toList) (fun st' a1 a2 a3=>⟨?_,a3,a2⟩) _ rfl) ?_ fun _ _ e=>e.elim)
  ·have hx:x∈(vs.toArray.zip vs.toArray).toList:=hx;rw[zp]at hx;obtain⟨v,hv,rfl⟩:=Xi hx;exact hv
  ·show 1<=(vs.toArray.zip vs.toArray).size;rw[<-Zb,zp,Z6]
   lia
  ·have a1:(arrOf st').toList.Perm (vs.toArray.zip vs.toArray).toList:=a1;rwa[zp]at a1
  ·rintro⟨⟨⟩,st'⟩ s' ⟨rfl,hp,hf,hs⟩;dsimp only at hp hf hs ⊢;refine Z2 (seqEpoch_at ho6 rfl ?_);refine Z2 (listUpdate_at ho6 rfl ?_ (hsz2:=?_))
   ·rw[hf];simp only[bne_self_eq_false,Y1,if_false];exact Z3 (fin st' hp hs)
   ·rw[size_map,<-Zb,hp.length_eq,Z6];exact Nat.le_succ_of_le hsl
end
noncomputable def aQ(x y:Str):Bool:=decide (x.cps.toList<y.cps.toList)
noncomputable def cx:List Str->List Str->Bool
 |[],[]=>false
 |[],_::_=>true
 | _::_,[]=>false
 | x::xs,y::ys=>if x=y then cx xs ys else aQ x y
theorem d8(x:Str):aQ x x=false:=Zh (List.lt_irrefl _)
theorem AN{x y:Str}(h:x.cps.toList=y.cps.toList):x=y:=by
 obtain⟨⟨l⟩⟩:=x;obtain⟨⟨m⟩⟩:=y;simp at h;rw[h]
theorem eO{x y z:Str}(h1:aQ x y=true)(h2:aQ y z=true):aQ x z=true:=Zf (List.lt_trans (Zo h1) (Zo h2))
theorem cp{x y:Str}(h:aQ x y=false)(hn:x≠y):aQ y x=true:=by
 have h1: ¬ x.cps.toList<y.cps.toList:=of_decide_eq_false h;have h2:y.cps.toList<=x.cps.toList:=h1;refine Zf (Classical.byContradiction fun h3=>hn (AN ?_));exact List.le_antisymm h3 h2
theorem sH:∀x:List Str,cx x x=false
 |[]=>rfl
 | x::xs=>by rw[cx,if_pos rfl];exact sH xs
theorem gu:∀{x y z:List Str},cx x y=true->cx y z=true->cx x z=true
 |[],[],z,h1,h2=>by cases h1
 |[],y::ys,[],h1,h2=>by cases h2
 |[],y::ys,z::zs,h1,h2=>rfl
 | x::xs,[],z,h1,h2=>by cases h1
 | x::xs,y::ys,[],h1,h2=>by cases h2
 | x::xs,y::ys,z::zs,h1,h2=>by
   rw[cx]at h1 h2 ⊢;by_cases e1:x=y
   ·rw[if_pos e1]at h1;subst e1;by_cases e2:x=z
    ·rw[if_pos e2]at h2 ⊢;exact gu h1 h2
    ·rw[if_neg e2]at h2 ⊢;exact h2
   ·rw[if_neg e1]at h1;by_cases e2:y=z
    ·rw[if_pos e2]at h2;subst e2;rw[if_neg e1];exact h1
    ·rw[if_neg e2]at h2;have h3:=eO h1 h2;have e3:x≠z:=fun e=>by rw[e,d8]at h3;cases h3
     rw[if_neg e3];exact h3
theorem i9:∀{x y:List Str},cx x y=false->x≠y->cx y x=true
 |[],[],h1,h2=>absurd rfl h2
 |[],y::ys,h1,h2=>by cases h1
 | x::xs,[],h1,h2=>rfl
 | x::xs,y::ys,h1,h2=>by
   rw[cx]at h1 ⊢;by_cases e1:x=y
   ·rw[if_pos e1]at h1;rw[if_pos e1.symm];exact i9 h1 fun e=>h2 (by rw[e1,e])
   ·rw[if_neg e1]at h1;rw[if_neg (Ne.symm e1)];exact cp h1 e1
noncomputable def cK(ks:List (List Str))(k:List Str):Nat:=ks.countP fun u=>cx u k
theorem e7{ks:List (List Str)}{x y:List Str}(hx:x∈ks):cx x y=decide (cK ks x<cK ks y):=by
 have up:∀(l:List (List Str)) (p q:List Str->Bool),(∀u∈l,p u=true->q u=true)->l.countP p<=l.countP q:=fun l p q h=>List.countP_mono_left h
 cases h:cx x y with
 | true=>
   symm
   refine Zf ?_;have gen:∀l:List (List Str),x∈l->l.countP (fun u=>cx u x)<l.countP (fun u=>cx u y):=by
    intro l
    induction l with
    | nil=>intro hx;cases hx
    | cons u l ih=>
      intro hx;rw[List.countP_cons,List.countP_cons];have le:=up l (fun u=>cx u x) (fun u=>cx u y) fun u _ hu=>gu hu h
      rcases mem_cons.mp hx with e|e
      ·subst e;rw[if_neg (by rw[sH];simp),if_pos h]
       lia
      ·have:=ih e;by_cases hu:cx u x=true
       ·rw[if_pos hu,if_pos (gu hu h)]
        lia
       ·rw[if_neg hu]
        split<;> lia
   exact gen ks hx
 | false=>
   symm
   refine Zh (Nat.not_lt.mpr ?_);refine up ks _ _ fun u _ hu=>?_
   by_cases e:x=y
   ·rw[e];exact hu
   ·exact gu hu (i9 h e)
section
variable{prog:Program}{w:World}{A:Around}{s:Shared}{E:Value->Shared->Prop}
abbrev pE(prog:Program)(w:World)(h:Heap)(zs:List Str)(r:Addr):Prop:=IsTupleKey (aB prog w) h (zs.map Sum.inr) r
theorem dD:∀{zs:List Str} {vs:List Value},ItemsAre (aB prog w) (zs.map Sum.inr) vs->StrsAre vs zs
 |[],_,h=>by cases h;exact .nil
 | z::zs,_,h=>by
   cases h with
   | cons h1 h2=>
     have h1:jq (Sum.inr z) _=true:=h1;rcases bd h1 with⟨i,t,q1,q2⟩|⟨y,t,q1,q2⟩
     ·cases q1
     ·cases q1;subst q2;exact .cons z t (dD h2)
theorem zi{b fin:Bool}{Q:Bool->Shared->Prop}:∀(x y:List Str) (vs us:List Value) (i:Nat),StrsAre vs x->StrsAre us y->(x.length=y.length)->fin=false->Q (cx x y) s->PySem.W.KatLex prog w A b fin Q (vs.zip us) i s
 |[],[],_,_,i,.nil,.nil,_,hf,h=>by rw[hf];exact h
 | x::xs,y::ys,_,_,i,.cons _ t hx,.cons _ u hy,hl,hf,h=>by
   rw[List.zip_cons_cons];refine PySem.W.kat_cons (eqBool_str ?_);rw[cx]at h;by_cases e:x=y
   ·subst e;rw[if_pos rfl]at h;rw[beq_self_eq_true];exact PySem.W.kat_yes (zi xs ys _ _ (i+1) hx hy (by simpa using hl) hf h)
   ·rw[if_neg e]at h;rw[beq_eq_false_iff_ne.mpr e];refine PySem.W.kat_no ?_;cases hb:(b&&i==0)with
    | true=>exact oneLt_str h
    | false=>exact PySem.W.kat_one _ _ (lt_str h)
theorem sI{x y:List Str}{r q:Addr}{Q:Bool->Shared->Prop}{b:Bool}(hx:pE prog w s.heap x r)(hy:pE prog w s.heap y q)(hl:x.length=y.length)(h:Q (cx x y) s):wpAny (model prog w) A (keyLt' (tuples' b) (.ref r) (.ref q)) Q E s:=by
 obtain⟨ox,xs,nx,gx,_,dx,ix⟩:=hx;obtain⟨oy,ys,ny,gy,_,dy,iy⟩:=hy;have sx:=dD ix;have sy:=dD iy;refine PySem.W.kat_lt gx dx gy dy (zi x y _ _ 0 sx sy hl ?_ h);have l1:=ce sx;have l2:=ce sy;rw[Zb]at l1 l2;exact Zh (by lia)
end
theorem pF{κ μ:Type}[DecidableEq κ][DecidableEq μ](g:κ->μ)(hg:∀a b,g a=g b->a=b)(l:List (Addr×κ)):aN (l.map fun p=>(p.1,g p.2))=(aN l).map fun p=>(p.1,g p.2):=by
 have go:∀(l ps:List (Addr×κ)),(l.map fun p=>(p.1,g p.2)).foldl eN (ps.map fun p=>(p.1,g p.2))=(l.foldl eN ps).map fun p=>(p.1,g p.2):=by
  intro l
  induction l with
  | nil=>intro ps;rfl
  | cons p l ih=>
    intro ps;rw[Ym,Y4,Y4];have e:eN (ps.map fun p=>(p.1,g p.2)) (p.1,g p.2)=(eN ps p).map fun p=>(p.1,g p.2):=by
     unfold eN;have hm:(g p.2∈(ps.map fun p=>(p.1,g p.2)).map (·.2))↔p.2∈ps.map (·.2):=by
      rw[Yn]
      constructor
      ·intro h;obtain⟨q,hq,e⟩:=Xi h;exact Xj ⟨q,hq,hg _ _ e⟩
      ·intro h;obtain⟨q,hq,e⟩:=Xi h;exact Xj ⟨q,hq,by show g q.2=g p.2;rw[e]⟩
     by_cases h:p.2∈ps.map (·.2)
     ·rw[if_pos h,if_pos (hm.mpr h)]
     ·rw[if_neg h,if_neg (fun z=>h (hm.mp z)),Zd];rfl
    rw[e];exact ih _
 exact go l []
noncomputable abbrev wB(p:Addr×List Str):Addr×List Key:=(p.1,p.2.map Sum.inr)
theorem jZ:∀a b:List Str,a.map (Sum.inr:Str->Key)=b.map Sum.inr->a=b
 |[],[],_=>rfl
 |[],_::_,h=>by cases h
 | _::_,[],h=>by cases h
 | x::xs,y::ys,h=>by
   rw[Ym,Ym]at h;injection h with h1 h2
   injection h1 with h3
   rw[h3,jZ xs ys h2]
section
variable{prog:Program}{w:World}{A:Around}{E:Value->Shared->Prop}{s:Shared}{S:Addr}
theorem kK:∀{vs:List Value} {zs:List Str},StrsAre vs zs->ItemsAre (aB prog w) (zs.map Sum.inr) vs
 | _,_,.nil=> .nil
 | _,_,.cons x t h=> .cons (eE x t) (kK h)
theorem yF{zs:List Str}{r:Addr}{Q:Bool->Shared->Prop}(hz:zs≠[])(hk:pE prog w s.heap zs r)(h:Q false s):wpAny (model prog w) A (hashByValue 8 (.ref r)) Q E s:=by
 have hT:=hk.typeIs;obtain⟨o,items,n,ho,_,hd,hi⟩:=hk;have hs:=dD hi;unfold hashByValue;refine Z2 (wpAny_specialOf hT F.slot_tuple_hash.lookup ?_);dsimp only;refine Z2 (wpAny_seqItems ho hd ?_);refine Z2 ?_;simp only[getD_some];rw[<-Array.forIn_toList]
 match zs,items.toList,hs,hz with
 | z::zs,_,.cons _ t hr,_=>
   rw[forIn_cons];refine Z2 ?_;refine Z2 ?_;rw[show hashByValue 7 (Value.str z t)=pure false from rfl];refine Z3 ?_;simp only[Bool.not_false,if_true];refine Z3 ?_;exact Z3 (Z3 h)
noncomputable def kOf(ps:List (Addr×List Str)):Value->List Str
 | .ref r=>((ps.find? fun p=>p.1==r).map (·.2)).getD []
 | _=>[]
noncomputable def aOf:Value->Addr
 | .ref r=>r
 | _=>0
theorem pG{ps:List (Addr×List Str)}{m:Nat}{Q:Value->Shared->Prop}(hh:A.handled=none)(hS:i8 w (aB prog w) S (ps.map wB) s.heap)(tk:∀p∈ps,pE prog w s.heap p.2 p.1)(hm:∀p∈ps,p.2.length=m)(m0:m≠0)(few:ps.length<=1000)
 (hQ:∀(s':Shared) (l:Addr) (ss:List (Addr×List Str)) (n:Nat),ss.Perm ps->ss.Pairwise (fun a b=>cx b.2 a.2=false)->(∀b o,s.heap.get? b=some o->s'.heap.get? b=some o)->s'.gens=s.gens->s'.os=s.os->s.heap.objs.size<=l->s'.heap.get? l=some {cls:= .type "list",data:= .seq (ss.map fun p=>Value.ref p.1).toArray n}->Q (.ref l) s'):
 wpAny (model prog w) A (call (.builtin "sorted") [.ref S]) Q E s:=by
 obtain⟨o,es,ep,t,ho,hex,hd,I,P⟩:=hS;have hn:es.size=ps.length:=by
  have:=P.length_eq;rw[Z6,Z6,Zb]at this;exact this
 have pv:(es.toList.map (·.2)).Perm (ps.map fun p=>Value.ref p.1):=by
  have:=P.map (·.2);rw[Yn,Yn]at this;exact this
 have key:∀p∈ps,kOf ps (.ref p.1)=p.2:=fun p hp=>by
  show((ps.find? fun q=>q.1==p.1).map (·.2)).getD []=p.2;cases hf:ps.find? fun q=>q.1==p.1 with
  | none=>
    have:=List.find?_eq_none.mp hf p hp;simp at this
  | some q=>
    have hq:=List.mem_of_find?_eq_some hf;have e:q.1=p.1:=by have:=List.find?_some hf;simpa using this
    show q.2=p.2;have t1:=tk q hq;rw[e]at t1;exact jZ _ _ (t1.inj (tk p hp))
 refine Calls.call_function_entry kind_sorted plain_sorted entry_sorted (args_sorted1 _) ?_;unfold Builtin.«sorted»;refine Z2 (m:=checkCount "sorted" 1 1 _) (Z3 ?_);refine Z2 (nr (show A.in1.handled=none from hh) ho hex hd (by show es.size<4096;lia) I.fits I.plain I.led fun s1 vs q1 k1 g1 o1 sle=>?_);have q2:vs.Perm (ps.map fun p=>Value.ref p.1):=q1.trans pv;have hl:vs.length=ps.length:=by rw[q2.length_eq,Z6]
 have mem:∀v∈vs,∃p∈ps,v=Value.ref p.1:=fun v hv=>by
  obtain⟨p,hp,rfl⟩:=Xi (q2.mem_iff.mp hv);exact⟨p,hp,rfl⟩
 refine Z2 (wpAny_newList ?_ (by rw[sizeLine_eq];lia));have gL:(s1.heap.push (seqObj "list" vs.toArray 0)).get? s1.heap.objs.size=some (seqObj "list" vs.toArray 0):=Zj _ rfl;have tk1:∀p∈ps,∀h6:Heap,(∀b o,b≠s1.heap.objs.size->(s1.heap.push (seqObj "list" vs.toArray 0)).get? b=some o->h6.get? b=some o)->pE prog w h6 p.2 p.1:=fun p hp h6 k6=>by
  refine iG (tk p hp) fun o e=>?_
  have e1:=k1 _ _ e;exact k6 _ _ (Zt (Zv e1)) (Z7 _ e1)
 refine Z2 (wpAny_holding (wpAny_call_entry slot_list_sort ⟨_,gL,rfl⟩ entry_list_sort (eC (s:={s1 with heap:=s1.heap.push (seqObj "list" vs.toArray 0)}) (kd:=tuples' true) (Nv:=fun v=>cK (ps.map (·.2)) (kOf ps v)) gL (by lia) (fun h6 k6 hv2 Q6 hq6=>?_) (fun h6 k6=>?_) fun out p1 p2=>⟨_,rfl,?_⟩) (args_list_sort _)))
 ·have tups:∀l:List Value,(∀v∈l,∃p∈ps,v=Value.ref p.1)->∃fs:List Value,KatTups h6 l fs/\fs.length=l.length/\∀f∈fs,∃z t,f=Value.str z t:=by
   intro l
   induction l with
   | nil=>intro _;exact⟨[],KatTups.nil,rfl,fun f hf=>by cases hf⟩
   | cons v l ih=>
     intro hv;obtain⟨fs,f1,f2,f3⟩:=ih fun u hu=>hv u (Zk _ hu)
     obtain⟨p,hp,rfl⟩:=hv v Zm;obtain⟨o',items,n',g',c',d',i'⟩:=tk1 p hp h6 k6;have hs':=dD i';have hne:p.2≠[]:=fun e=>by have:=hm p hp;rw[e]at this;exact m0 this.symm
     obtain⟨z,zs,ez⟩:∃z zs,p.2=z::zs:=by
      cases hp2:p.2 with
      | nil=>exact absurd hp2 hne
      | cons z zs=>exact⟨z,zs,rfl⟩
     rw[ez]at hs';obtain⟨t',vr,ev⟩:∃t' vr,items.toList=Value.str z t'::vr:=by
      cases hit:items.toList with
      | nil=>rw[hit]at hs';cases hs'
      | cons a b=>
        rw[hit]at hs';cases hs' with
        | cons _ t' _=>exact⟨t',b,rfl⟩
     have e0:items[0]? =some (Value.str z t'):=by
      have:items.toList[0]? =some (Value.str z t'):=by rw[ev];rfl
      simpa using this
     exact⟨Value.str z t'::fs,KatTups.cons g' c' d' e0 f1,by simp[f2],fun f hf=>by
      rcases mem_cons.mp hf with e|e
      ·exact⟨z,t',e⟩
      ·exact f3 f e⟩
  obtain⟨fs,f1,f2,f3⟩:=tups vs mem;refine kat_kind (T:= .type "str") f1 (by lia) (fun f hf=>?_) (by decide) hq6;obtain⟨z,t',rfl⟩:=f3 f hf;exact Looks.of_pure rfl
 ·intro x y s' hx hy hs';subst hs';obtain⟨p,hp,ep'⟩:=mem _ hx;obtain⟨q,hq,eq'⟩:=mem _ hy;obtain⟨x1,x2⟩:=x;obtain⟨y1,y2⟩:=y;obtain rfl:x1=Value.ref p.1:=ep';obtain rfl:y1=Value.ref q.1:=eq';show wpAny (model prog w) A.in1.in1 (keyLt' (tuples' true) (Value.ref p.1) (Value.ref q.1)) (fun b s'=>b=decide (cK (ps.map (·.2)) (kOf ps (Value.ref p.1))<cK (ps.map (·.2)) (kOf ps (Value.ref q.1)))/\s'={s1 with heap:=h6}) (fun _ _=>False) {s1 with heap:=h6};rw[key p hp,key q hq];refine sI (s:={s1 with heap:=h6}) (tk1 p hp h6 k6) (tk1 q hq h6 k6) (by rw[hm p hp,hm q hq]) ⟨?_,rfl⟩;exact e7 (Xj ⟨p,hp,rfl⟩)
 ·have p3:out.Perm (ps.map fun p=>Value.ref p.1):=p1.trans q2;have oe:out=(out.map fun v=>(aOf v,kOf ps v)).map fun p=>Value.ref p.1:=by
   rw[Yn];refine(map_id out).symm.trans (Yl fun v hv=>?_);obtain⟨p,hp,rfl⟩:=Xi (p3.mem_iff.mp hv);rfl
  obtain⟨n,gl⟩:∃n,(sortedHeap (s1.heap.push (seqObj "list" vs.toArray 0)) s1.heap.objs.size vs out.toArray).get? s1.heap.objs.size=some (seqObj "list" out.toArray n):=sortedHeap_at gL;refine Z3 ⟨_,rfl,hQ _ s1.heap.objs.size (out.map fun v=>(aOf v,kOf ps v)) n ?_ ?_ (fun b o' e=>?_) g1 o1 sle ?_⟩
  ·have:=p3.map fun v=>(aOf v,kOf ps v)
   rw[Yn]at this;refine this.trans ?_;have:(ps.map ((fun v=>(aOf v,kOf ps v)) ∘ fun p=>Value.ref p.1))=ps:=by
    refine(Yl fun p hp=>?_).trans (map_id ps);show(p.1,kOf ps (.ref p.1))=p;rw[key p hp]
   rw[this]
  ·rw[X1];refine X9 (fun{u v} hu hv huv=>?_) p2;obtain⟨p,hp,rfl⟩:=Xi (p3.mem_iff.mp hu);obtain⟨q,hq,rfl⟩:=Xi (p3.mem_iff.mp hv);show cx (kOf ps (.ref q.1)) (kOf ps (.ref p.1))=false;have huv:cK (ps.map (·.2)) (kOf ps (.ref p.1))<=cK (ps.map (·.2)) (kOf ps (.ref q.1)):=huv;rw[key p hp,key q hq]at huv ⊢;rw[e7 (ks:=ps.map (·.2)) (Xj ⟨q,hq,rfl⟩)];exact Zh (by lia)
  ·have e1:=k1 b o' e;have blt:=Zv e1;show(sortedHeap _ _ _ _).get? b=_;rw[sortedHeap_old (Zt blt) (by rw[Zq];exact Yj blt)];exact Z7 _ e1
  ·have e2:((out.map fun v=>(aOf v,kOf ps v)).map fun p=>Value.ref p.1).toArray=out.toArray:=congrArg List.toArray oe.symm;have e3:(seqObj "list" out.toArray n)=({cls:= .type "list",data:= .seq ((out.map fun v=>(aOf v,kOf ps v)).map fun p=>Value.ref p.1).toArray n}:Obj):=by
    rw[e2]
   exact gl.trans (congrArg some e3)
end
section
variable{X:Cx}{K:PySem.W.Frag}
noncomputable def kL(P:Program)(w:World)(a:Addr)(ps:List (Addr×List Str)):HO:= .ext (i8 w (aB P w) a (ps.map wB))
def aZ(H:Hp)(ps:List (Addr×List Str)):Prop:=∀p∈ps,p.2≠[]/\H p.1=some (.tup (p.2.map V.str))
theorem nu{pins:List (Addr×Obj)}{σ:St}{H:Hp}{s:Shared}(I:Inv X pins σ H s){ps:List (Addr×List Str)}(h:aZ H ps):∀p∈ps,pE X.prog X.w s.heap p.2 p.1:=fun p hp=>by
 obtain⟨_,its,rv,o,ho,hc,n,hd⟩:=I.hok p.1 _ (h p hp).2;exact⟨o,its.toArray,n,ho,hc,hd,by simpa using kK (eT rv)⟩
theorem nv:∀{ps:List (Addr×List Str)} {us:List Value},aC (ps.map fun p=>V.ref p.1) us->us=ps.map fun p=>Value.ref p.1
 |[],_,.nil=>rfl
 | _::_,_,.cons r t=>by
   cases r;rw[nv t];rfl
theorem nw:∀(ps:List (Addr×List Str)),aC (ps.map fun p=>V.ref p.1) (ps.map fun p=>Value.ref p.1)
 |[]=> .nil
 | _::ps=> .cons rfl (nw ps)
theorem ud(hc:X.calm=true)(hu:X.A.units+64<cLine):cq X (.type "set") (fun xs H Q=>∃p ps,xs=[.ref p]/\SqL X.K H p (ps.map fun q=>V.ref q.1)/\aZ H ps/\(∃U:List (List Str),U.length<=999/\∀q∈ps,q.2∈U)/\∀l,H l=none->Q (.ref l) (upd H l (kL X.prog X.w l (aN ps)))):=by
 intro pins s σ H xs us Q I r h;obtain⟨p,ps,rfl,hq,ht,⟨U,hU,hkU⟩,q⟩:=h;obtain⟨u,rfl,ru⟩:=d0 r;cases ru;obtain⟨its,rv,pl,hz⟩:=I.list hq;have hit:=nv rv;have tk:=nu I ht;refine lC (knd:=aB X.prog X.w) (I.ok.hd hc) (by lia) pl.isList (ps:=ps.map wB) (by simp[hit,Function.comp]) (fun p' hp'=>?_) (U.map fun z=>z.map Sum.inr) (by rw[Z6];exact hU) (fun p' hp'=>?_) (fun p' hp' B s' Q' E' hk' hq'=>?_) fun h' tk' S k=>?_
 ·obtain⟨p0,h0,rfl⟩:=Xi hp';exact tk p0 h0
 ·obtain⟨p0,h0,rfl⟩:=Xi hp';exact Xj ⟨p0.2,hkU p0 h0,rfl⟩
 ·obtain⟨p0,h0,rfl⟩:=Xi hp';exact yF (ht p0 h0).1 hk' hq'
 ·have e:aN (ps.map wB)=(aN ps).map wB:=pF (fun z:List Str=>z.map Sum.inr) jZ ps;rw[e]at S;refine⟨.ref s.heap.objs.size,_,I.laid (o:=kL X.prog X.w s.heap.objs.size (aN ps)) (t':=tk') k (Zi _) ⟨S,?_,fun h1 h2 S1 k1=>i8.keep S1 k1⟩,rfl,q _ I.fresh⟩;obtain⟨o,_,_,_,ho,_⟩:=S;exact⟨o,ho⟩
theorem nA(hc:X.calm=true):cq X (.builtin "sorted") (fun xs H Q=>∃a ps m,xs=[.ref a]/\H a=some (kL X.prog X.w a ps)/\aZ H ps/\(∀p∈ps,p.2.length=m)/\m≠0/\ps.length<=1000/\
 ∀(l:Addr) (ss:List (Addr×List Str)),H l=none->ss.Perm ps->ss.Pairwise (fun a b=>cx b.2 a.2=false)->Q (.ref l) (upd H l (.lst (ss.map fun p=>V.ref p.1)))):=by
 intro pins s σ H xs us Q I r h;obtain⟨a,ps,m,rfl,ha,ht,hm,m0,few,q⟩:=h;obtain⟨u,rfl,ru⟩:=d0 r;cases ru;obtain⟨S,_,_⟩:=(show br X.prog X.w H s.heap a (kL X.prog X.w a ps)from I.hok a _ ha)
 refine pG (I.ok.hd hc) S (nu I ht) hm m0 few fun s' l ss n p1 p2 k g o hle gl=>?_
 have hfree:H l=none:=I.hok.fresh hle;have J:Inv X pins σ H s':=I.keptS k g o;refine⟨.ref l,_,I.stoodS (o:= .lst (ss.map fun p=>V.ref p.1)) J hle ⟨?_,ss.map (fun p=>Value.ref p.1),n,nw ss,gl⟩,rfl,q l ss hfree p1 p2⟩;rw[Z6,p1.length_eq,sizeLine_eq]
 lia
theorem AO{k:Nat}{P:Program}{w:World}(h:X.K=K)(hp:X.prog=P)(hw:X.w=w)(hc:X.calm=true)(hr:b8 k X.A):cJ X (.type "set") (fun xs H Q=>∃p ps,xs=[.ref p]/\SqL K H p (ps.map fun q=>V.ref q.1)/\aZ H ps/\(∃U:List (List Str),U.length<=999/\∀q∈ps,q.2∈U)/\∀l,H l=none->Q (.ref l) (upd H l (kL P w l (aN ps)))):=by
 subst h;subst hp;subst hw;exact⟨ud hc hr.units⟩
theorem ue{P:Program}{w:World}(hp:X.prog=P)(hw:X.w=w)(hc:X.calm=true):cJ X (.builtin "sorted") (fun xs H Q=>∃a ps m,xs=[.ref a]/\H a=some (kL P w a ps)/\aZ H ps/\(∀p∈ps,p.2.length=m)/\m≠0/\ps.length<=1000/\
 ∀(l:Addr) (ss:List (Addr×List Str)),H l=none->ss.Perm ps->ss.Pairwise (fun a b=>cx b.2 a.2=false)->Q (.ref l) (upd H l (.lst (ss.map fun p=>V.ref p.1)))):=by
 subst hp;subst hw;exact⟨nA hc⟩
end
noncomputable def rg(K:PySem.W.Frag)(a b:Addr):It:=⟨fun i H=>∃xs ys x y,SqL K H a xs/\SqL K H b ys/\xs[i]? =some x/\ys[i]? =some y,
 fun i H v H'=>∃T x y,H T=none/\v= .ref T/\H'=upd H T (.tup [x,y])/\(∀xs,SqL K H a xs->xs[i]? =some x)/\(∀ys,SqL K H b ys->ys[i]? =some y),
 fun i H=>∃xs ys,SqL K H a xs/\SqL K H b ys/\i<=xs.length/\i<=ys.length/\(i=xs.length\/i=ys.length)⟩
theorem uf{P:Program}{w:World}{K:PySem.W.Frag}{elts:List Expr}{kt:Nat}{tp:Pos}(z TI TO i1 i2 l1 l2:Addr)(D:ZipApart z TI TO i1 i2 l1 l2):
 mJ P w K (.Tuple elts kt tp) (rg K l1 l2) [z,TI,TO,i1,i2] z (ZSt z TI TO i1 i2 (fun i h=>h.IsListIter i1 l1 i) (fun i h=>h.IsListIter i2 l2 i)) where
 mem:=by simp
 obj:=fun i h st b hb=>by
  obtain⟨hz,hTI,⟨a,c,hTO⟩,⟨o1,e1,_,d1⟩,o2,e2,_,d2⟩:=st;simp only[Yq,Yy,or_false]at hb;rcases hb with rfl|rfl|rfl|rfl|rfl
  ·exact⟨_,hz,fun v q=>nomatch q⟩
  ·exact⟨_,hTI,fun v q=>nomatch q⟩
  ·exact⟨_,hTO,fun v q=>nomatch q⟩
  ·exact⟨o1,e1,fun v q=>by rw[d1]at q;cases q⟩
  ·exact⟨o2,e2,fun v q=>by rw[d2]at q;cases q⟩
 keep:=fun i h h' st k=>by
  obtain⟨hz,hTI,⟨a,c,hTO⟩,⟨o1,e1,r1⟩,o2,e2,r2⟩:=st;exact⟨k z (by simp) _ hz,k TI (by simp) _ hTI,⟨a,c,k TO (by simp) _ hTO⟩,⟨o1,k i1 (by simp) _ e1,r1⟩,o2,k i2 (by simp) _ e2,r2⟩
 item:=by
  intro X hP hw hK hc i pins s σ H E I hf st hg;subst hP hw hK;obtain⟨hz,hTI,⟨a,c,hTO⟩,h1,h2⟩:=st;obtain⟨xs,ys,x,y,hq1,hq2,hx,hy⟩:=hg;obtain⟨its1,rv1,pl1,hz1⟩:=I.list hq1;obtain⟨its2,rv2,pl2,hz2⟩:=I.list hq2;obtain⟨u1,hu1,ru1⟩:=rv1.get hx;obtain⟨u2,hu2,ru2⟩:=rv2.get hy;refine wpAny_pyNext_zip_item D hz hTI hTO h1 h2 pl1.isList pl2.isList (x:=u1) (y:=u2) (by simpa using hu1) (by simpa using hu2) fun h' a1 a2 a3 a4 a5 a6 hk=>?_
  refine⟨_,rfl,wpAny_letOwnedTupleGo_zip (s:={s with heap:=h'}) a1 fun h'' hz'' sb=>?_⟩;replace sb:SameBut z h' h'':=sb;have zlt:z<s.heap.objs.size:=Zv hz;have Tne:s.heap.objs.size≠z:=Yu zlt;have hT2:h''.get? s.heap.objs.size=some {cls:= .type "tuple",data:= .seq #[u1,u2]}:=(sb.2 _ Tne).trans a5;have turn1:Inv X pins σ H {s with heap:=h''}:=by
   have nit:∀b v,H b=some v->b∉[z,TI,TO,i1,i2]:=fun b v e hb=>by rw[(hf b hb).1]at e;cases e
   have kk:∀b o,b∉[z,TI,TO,i1,i2]->s.heap.get? b=some o->h''.get? b=some o:=fun b o hb e=>by
    simp only[Yq,Yy,or_false,not_or]at hb;exact(sb.2 b hb.1).trans (hk b o hb.1 hb.2.2.1 hb.2.2.2.1 hb.2.2.2.2 e)
   refine I.step (g':=s.gens) (d':=s.drawn) (ch:=[z,TI,TO,i1,i2]) (fun b hb=>⟨(hf b hb).2.2.2.1,(hf b hb).2.1,(hf b hb).2.2.2.2.1,(hf b hb).2.2.2.2.2⟩) (fun b o _ _ hc e _=>kk b o hc e) (fun b o _ _ hc e _=>⟨o.slots,kk b o hc e⟩) (fun _ _ _ _ n=>n)
    (fun b o hc e=>⟨o,kk b o hc e⟩) (fun _ _ e=>e) (fun _ _ _ e=>e) (fun b ps e=>⟨#[],by rw[e];simp⟩) (fun m hm=>?_) (fun b v e=>?_) I.bare
   ·obtain⟨o,es,ep,ho,r⟩:=hm;exact⟨o,es,ep,kk _ o (fun hb=>(hf _ hb).2.1 rfl) ho,r⟩
   ·refine(I.hok b v e).stay (fun c' v' hc' q=>kk c' v' ?_ q) (fun _ q=>q) fun _ _ q=>q
    rcases hc' with q'|q'
    ·rw[q'];exact nit b v e
    ·exact nit c' _ q'
  have Hn:H s.heap.objs.size=none:=I.fresh;have I2:Inv X pins σ (upd H s.heap.objs.size (.tup [x,y])) {s with heap:=h''}:=by
   have nf:s.heap.objs.size∉X.fs:=I.nofs (Zi _);refine⟨turn1.ok,turn1.os,turn1.bare,?_,turn1.loc,turn1.cell,?_,?_,?_,?_,turn1.len⟩
   ·have lt0:∀b o,X.s₀.heap.get? b=some o->b≠s.heap.objs.size:=fun b o e=>Zt (Zg (Zv e) I.sz)
    refine⟨turn1.base.keep,turn1.base.slot,fun b o e n hx=>?_,turn1.base.there,fun b xs e=>?_,fun b o v e=>?_,fun b ps e=>?_⟩
    ·rw[ai (lt0 b o e)];exact turn1.base.free b o e n hx
    ·rw[ai (ap (turn1.base.tups b xs e) Hn)];exact turn1.base.tups b xs e
    ·rw[ai (ap (turn1.base.frzs b o v e) Hn)];exact turn1.base.frzs b o v e
    ·obtain⟨m,q⟩:=turn1.base.tbls b ps e;exact⟨m,by rw[ai (ap q Hn)];exact q⟩
   ·rw[ai (Zt I.lt)];exact turn1.free
   ·intro x' c' e;obtain⟨v',q⟩:=I.cell x' c' e;rw[ai (Zt q.lt)];exact turn1.freeC x' c' e
   ·intro p hp;obtain⟨e,n,r⟩:=turn1.pin p hp;refine⟨e,?_,r⟩;rw[ai (Zt (Zv (I.pin p hp).1))];exact n
   ·intro b v e;by_cases hb:b=s.heap.objs.size
    ·subst hb;rw[aa]at e;cases e;exact⟨by show 2<=sizeLine;decide,[u1,u2],.cons ru1 (.cons ru2 .nil),_,hT2,rfl,_,rfl⟩
    ·rw[ai hb]at e;refine(turn1.hok b v e).stay (fun _ _ _ q=>q) (fun c' q=>?_) fun c' xs q=>?_
     ·rw[ai (ap q Hn)];exact q
     ·rw[ai (ap q Hn)];exact q
  refine⟨.ref s.heap.objs.size,_,I2,rfl,⟨_,x,y,Hn,rfl,rfl,fun zs hzs=>by rw[I.list_inj hzs hq1];exact hx,fun zs hzs=>by rw[I.list_inj hzs hq2];exact hy⟩,⟨hz'',(sb.2 _ D.TIz).trans (hk _ _ D.TIz D.TITO D.TIi1 D.TIi2 hTI),⟨_,_,(sb.2 _ D.TOz).trans a2⟩,?_,?_⟩,fun b hb=>?_⟩
  ·obtain⟨o,e,r⟩:=a3;exact⟨o,(sb.2 _ D.i1z).trans e,r⟩
  ·obtain⟨o,e,r⟩:=a4;exact⟨o,(sb.2 _ D.i2z).trans e,r⟩
  ·have:b<s.heap.objs.size:=by
    simp only[Yq,Yy,or_false]at hb;obtain⟨o1,q1,_⟩:=h1;obtain⟨o2,q2,_⟩:=h2;rcases hb with rfl|rfl|rfl|rfl|rfl
    ·exact Zv hz
    ·exact Zv hTI
    ·exact Zv hTO
    ·exact Zv q1
    ·exact Zv q2
   rw[ai (Zt this)];exact(hf b hb).1
 done:=by
  intro X hP hw hK hc i pins s σ H E I hf st hg;subst hP hw hK;obtain⟨hz,hTI,⟨a,c,hTO⟩,h1,h2⟩:=st;obtain⟨xs,ys,hq1,hq2,g1,g2,g3⟩:=hg;obtain⟨its1,rv1,pl1,hz1⟩:=I.list hq1;obtain⟨its2,rv2,pl2,hz2⟩:=I.list hq2;have n1:=rv1.length;have n2:=rv2.length;refine wpAny_pyNext_zip_end (I.ok.hd hc) D hz hTI hTO h1 h2 pl1.isList pl2.isList (by
   rcases g3 with q|q
   ·exact .inl (by simp;lia)
   ·exact .inr (by simp;lia)) fun h' hk=>⟨rfl,?_⟩
  have nit:∀b v,H b=some v->b∉[z,TI,TO,i1,i2]:=fun b v e hb=>by rw[(hf b hb).1]at e;cases e
  have kk:∀b o,b∉[z,TI,TO,i1,i2]->s.heap.get? b=some o->h'.get? b=some o:=fun b o hb e=>by
   simp only[Yq,Yy,or_false,not_or]at hb;exact hk b o hb.1 hb.2.2.1 hb.2.2.2.1 hb.2.2.2.2 e
  refine I.step (g':=s.gens) (d':=s.drawn) (ch:=[z,TI,TO,i1,i2]) (fun b hb=>⟨(hf b hb).2.2.2.1,(hf b hb).2.1,(hf b hb).2.2.2.2.1,(hf b hb).2.2.2.2.2⟩) (fun b o _ _ hc e _=>kk b o hc e) (fun b o _ _ hc e _=>⟨o.slots,kk b o hc e⟩) (fun _ _ _ _ n=>n)
   (fun b o hc e=>⟨o,kk b o hc e⟩) (fun _ _ e=>e) (fun _ _ _ e=>e) (fun b ps e=>⟨#[],by rw[e];simp⟩) (fun m hm=>?_) (fun b v e=>?_) I.bare
  ·obtain⟨o',es,ep,ho',r⟩:=hm;exact⟨o',es,ep,kk _ o' (fun hb=>(hf _ hb).2.1 rfl) ho',r⟩
  ·refine(I.hok b v e).stay (fun c' v' hc' q=>kk c' v' ?_ q) (fun _ q=>q) fun _ _ q=>q
   rcases hc' with q'|q'
   ·rw[q'];exact nit b v e
   ·exact nit c' _ q'
 self:=fun _ _ _ _ _ st h=>wpAny_pyIter_zip st.1 h
def zj(K:PySem.W.Frag)(ta:TA):TI:=fun σ H R=>ta σ H fun vs H1=>∃a b,vs=[.ref a,.ref b]/\(∃xs,SqL K H1 a xs)/\(∃ys,SqL K H1 b ys)/\R (rg K a b) H1
section
variable{X:Cx}{K:PySem.W.Frag}{pos:Pos}
theorem BK(h0:X.K=K){elts:List Expr}{kt:Nat}{tp p:Pos}{a b:Expr}{ta:TA}(hg:Gl X "zip")(hm:X.mg "zip"=none)(hs:bi a=false)(hs2:bi b=false)(ha:QA X [a,b] ta):
 QI X (.Tuple elts kt tp) (.Call (.Name "zip" p) [a,b] [] pos) (zj K ta):=by
 subst h0
 constructor
 intro pins s σ H R I h;refine Call_ (fK I hg hm boot_zip (PyProof.Rows.callWith_type1 (thn (ha.h pos pins s σ H _ I h) fun us s1 ⟨vs,H1,I1,r1,q1⟩=>?_) (ar hs) (by rw[ar hs2];rfl)));obtain⟨a',b',e,⟨xs,hq1⟩,⟨ys,hq2⟩,q⟩:=q1;subst e;obtain⟨u1,u2,rfl,e1,e2⟩:=jt r1;cases e1;cases e2;obtain⟨its1,rv1,pl1,hz1⟩:=I1.list hq1;obtain⟨its2,rv2,pl2,hz2⟩:=I1.list hq2;have la:a'<s1.heap.objs.size:=by obtain⟨o,ho,_⟩:=pl1.isList;exact Zv ho
 have lb:b'<s1.heap.objs.size:=by obtain⟨o,ho,_⟩:=pl2.isList;exact Zv ho
 refine call_zip_2 pl1.isList pl2.isList fun h1 hz hTI hTO hi1 hi2 _ hk=>wpAny_pyIter_zip (s:={s1 with heap:=h1}) hz ?_
 have J:Inv X pins σ H1 {s1 with heap:=h1}:=I1.kept (t':=s1.toks) hk;have ne:∀i j:Nat,i≠j->s1.heap.objs.size+i≠s1.heap.objs.size+j:=fun i j h e=>h (Nat.add_left_cancel e)
 have na:∀i:Nat,a'≠s1.heap.objs.size+i:=fun i=>Zt (Zg la (le_add_right _ _))
 have nb:∀i:Nat,b'≠s1.heap.objs.size+i:=fun i=>Zt (Zg lb (le_add_right _ _))
 refine⟨s1.heap.objs.size+4,[s1.heap.objs.size+4,s1.heap.objs.size+2,s1.heap.objs.size+3,s1.heap.objs.size+0,s1.heap.objs.size+1],_,rg X.K a' b',H1,rfl,J,
  uf _ _ _ _ _ a' b' ⟨ne 2 4 (by decide),ne 3 4 (by decide),ne 0 4 (by decide),ne 1 4 (by decide),ne 2 3 (by decide),ne 2 0 (by decide),ne 2 1 (by decide),ne 3 0 (by decide),ne 3 1 (by decide),ne 0 1 (by decide),na 4,na 3,na 0,na 1,nb 4,nb 3,nb 0,nb 1⟩,
  ⟨hz,hTI,⟨_,_,hTO⟩,hi1,hi2⟩,fun b hb=>?_,q⟩
 have hb':s1.heap.objs.size<=b:=by
  simp only[Yq,Yy,or_false]at hb;rcases hb with rfl|rfl|rfl|rfl|rfl<;> exact le_add_right _ _
 exact I1.fpOk hb' (I1.hok.fresh hb')
end
open PySem PySem.Spec PySem.Calls PyProof.Rows PyProof.V PySem.W
section
variable{prog:Program}{w:World}{A:Around}{E:Value->Shared->Prop}{s:Shared}{d it:Addr}{es:Array DictEntry}{ep i:Nat}
end
section
variable{prog:Program}{w:World}{A:Around}{E:Value->Shared->Prop}{s:Shared}{S:Addr}
theorem rh{ps:List (Addr×List Str)}{m:Nat}{Q:Value->Shared->Prop}(hcol:∀(E1:Value->Shared->Prop) (R:List Value->Shared->Prop),(∀s1 vs,vs.Perm (ps.map fun p=>Value.ref p.1)->(∀b o,s.heap.get? b=some o->s1.heap.get? b=some o)->s1.gens=s.gens->s1.os=s.os->R vs s1)->wpAny (model prog w) A.in1 (collect (.ref S)) R E1 s)(tk:∀p∈ps,pE prog w s.heap p.2 p.1)(hm:∀p∈ps,p.2.length=m)(m0:m≠0)(few:ps.length<=50000)
 (hQ:∀(s1 s':Shared) (l:Addr) (ss:List (Addr×List Str)) (n:Nat),ss.Perm ps->ss.Pairwise (fun a b=>cx b.2 a.2=false)->(∀b o,s.heap.get? b=some o->s1.heap.get? b=some o)->s1.gens=s.gens->s1.os=s.os->(∀b o,s1.heap.get? b=some o->s'.heap.get? b=some o)->s'.gens=s1.gens->s'.os=s1.os->s1.heap.objs.size<=l->s'.heap.get? l=some {cls:= .type "list",data:= .seq (ss.map fun p=>Value.ref p.1).toArray n}->Q (.ref l) s'):
 wpAny (model prog w) A (call (.builtin "sorted") [.ref S]) Q E s:=by
 have key:∀p∈ps,kOf ps (.ref p.1)=p.2:=fun p hp=>by
  show((ps.find? fun q=>q.1==p.1).map (·.2)).getD []=p.2;cases hf:ps.find? fun q=>q.1==p.1 with
  | none=>
    have:=List.find?_eq_none.mp hf p hp;simp at this
  | some q=>
    have hq:=List.mem_of_find?_eq_some hf;have e:q.1=p.1:=by have:=List.find?_some hf;simpa using this
    show q.2=p.2;have t1:=tk q hq;rw[e]at t1;exact jZ _ _ (t1.inj (tk p hp))
 refine Calls.call_function_entry kind_sorted plain_sorted entry_sorted (args_sorted1 _) ?_;unfold Builtin.«sorted»;refine Z2 (m:=checkCount "sorted" 1 1 _) (Z3 ?_);refine Z2 (hcol _ _ fun s1 vs q2 k1 g1 o1=>?_);have hl:vs.length=ps.length:=by rw[q2.length_eq,Z6]
 have mem:∀v∈vs,∃p∈ps,v=Value.ref p.1:=fun v hv=>by
  obtain⟨p,hp,rfl⟩:=Xi (q2.mem_iff.mp hv);exact⟨p,hp,rfl⟩
 refine Z2 (wpAny_newList ?_ (by rw[sizeLine_eq];lia));have gL:(s1.heap.push (seqObj "list" vs.toArray 0)).get? s1.heap.objs.size=some (seqObj "list" vs.toArray 0):=Zj _ rfl;have tk1:∀p∈ps,∀h6:Heap,(∀b o,b≠s1.heap.objs.size->(s1.heap.push (seqObj "list" vs.toArray 0)).get? b=some o->h6.get? b=some o)->pE prog w h6 p.2 p.1:=fun p hp h6 k6=>by
  refine iG (tk p hp) fun o e=>?_
  have e1:=k1 _ _ e;exact k6 _ _ (Zt (Zv e1)) (Z7 _ e1)
 refine Z2 (wpAny_holding (wpAny_call_entry slot_list_sort ⟨_,gL,rfl⟩ entry_list_sort (eC (s:={s1 with heap:=s1.heap.push (seqObj "list" vs.toArray 0)}) (kd:=tuples' true) (Nv:=fun v=>cK (ps.map (·.2)) (kOf ps v)) gL (by lia) (fun h6 k6 hv2 Q6 hq6=>?_) (fun h6 k6=>?_) fun out p1 p2=>⟨_,rfl,?_⟩) (args_list_sort _)))
 ·have tups:∀l:List Value,(∀v∈l,∃p∈ps,v=Value.ref p.1)->∃fs:List Value,KatTups h6 l fs/\fs.length=l.length/\∀f∈fs,∃z t,f=Value.str z t:=by
   intro l
   induction l with
   | nil=>intro _;exact⟨[],KatTups.nil,rfl,fun f hf=>by cases hf⟩
   | cons v l ih=>
     intro hv;obtain⟨fs,f1,f2,f3⟩:=ih fun u hu=>hv u (Zk _ hu)
     obtain⟨p,hp,rfl⟩:=hv v Zm;obtain⟨o',items,n',g',c',d',i'⟩:=tk1 p hp h6 k6;have hs':=dD i';have hne:p.2≠[]:=fun e=>by have:=hm p hp;rw[e]at this;exact m0 this.symm
     obtain⟨z,zs,ez⟩:∃z zs,p.2=z::zs:=by
      cases hp2:p.2 with
      | nil=>exact absurd hp2 hne
      | cons z zs=>exact⟨z,zs,rfl⟩
     rw[ez]at hs';obtain⟨t',vr,ev⟩:∃t' vr,items.toList=Value.str z t'::vr:=by
      cases hit:items.toList with
      | nil=>rw[hit]at hs';cases hs'
      | cons a b=>
        rw[hit]at hs';cases hs' with
        | cons _ t' _=>exact⟨t',b,rfl⟩
     have e0:items[0]? =some (Value.str z t'):=by
      have:items.toList[0]? =some (Value.str z t'):=by rw[ev];rfl
      simpa using this
     exact⟨Value.str z t'::fs,KatTups.cons g' c' d' e0 f1,by simp[f2],fun f hf=>by
      rcases mem_cons.mp hf with e|e
      ·exact⟨z,t',e⟩
      ·exact f3 f e⟩
  obtain⟨fs,f1,f2,f3⟩:=tups vs mem;refine kat_kind (T:= .type "str") f1 (by lia) (fun f hf=>?_) (by decide) hq6;obtain⟨z,t',rfl⟩:=f3 f hf;exact Looks.of_pure rfl
 ·intro x y s' hx hy hs';subst hs';obtain⟨p,hp,ep'⟩:=mem _ hx;obtain⟨q,hq,eq'⟩:=mem _ hy;obtain⟨x1,x2⟩:=x;obtain⟨y1,y2⟩:=y;obtain rfl:x1=Value.ref p.1:=ep';obtain rfl:y1=Value.ref q.1:=eq';show wpAny (model prog w) A.in1.in1 (keyLt' (tuples' true) (Value.ref p.1) (Value.ref q.1)) (fun b s'=>b=decide (cK (ps.map (·.2)) (kOf ps (Value.ref p.1))<cK (ps.map (·.2)) (kOf ps (Value.ref q.1)))/\s'={s1 with heap:=h6}) (fun _ _=>False) {s1 with heap:=h6};rw[key p hp,key q hq];refine sI (s:={s1 with heap:=h6}) (tk1 p hp h6 k6) (tk1 q hq h6 k6) (by rw[hm p hp,hm q hq]) ⟨?_,rfl⟩;exact e7 (Xj ⟨p,hp,rfl⟩)
 ·have p3:out.Perm (ps.map fun p=>Value.ref p.1):=p1.trans q2;have oe:out=(out.map fun v=>(aOf v,kOf ps v)).map fun p=>Value.ref p.1:=by
   rw[Yn];refine(map_id out).symm.trans (Yl fun v hv=>?_);obtain⟨p,hp,rfl⟩:=Xi (p3.mem_iff.mp hv);rfl
  obtain⟨n,gl⟩:∃n,(sortedHeap (s1.heap.push (seqObj "list" vs.toArray 0)) s1.heap.objs.size vs out.toArray).get? s1.heap.objs.size=some (seqObj "list" out.toArray n):=sortedHeap_at gL;refine Z3 ⟨_,rfl,hQ s1 _ s1.heap.objs.size (out.map fun v=>(aOf v,kOf ps v)) n ?_ ?_ k1 g1 o1 (fun b o' e1=>?_) rfl rfl (Zi _) ?_⟩
  ·have:=p3.map fun v=>(aOf v,kOf ps v)
   rw[Yn]at this;refine this.trans ?_;have:(ps.map ((fun v=>(aOf v,kOf ps v)) ∘ fun p=>Value.ref p.1))=ps:=by
    refine(Yl fun p hp=>?_).trans (map_id ps);show(p.1,kOf ps (.ref p.1))=p;rw[key p hp]
   rw[this]
  ·rw[X1];refine X9 (fun{u v} hu hv huv=>?_) p2;obtain⟨p,hp,rfl⟩:=Xi (p3.mem_iff.mp hu);obtain⟨q,hq,rfl⟩:=Xi (p3.mem_iff.mp hv);show cx (kOf ps (.ref q.1)) (kOf ps (.ref p.1))=false;have huv:cK (ps.map (·.2)) (kOf ps (.ref p.1))<=cK (ps.map (·.2)) (kOf ps (.ref q.1)):=huv;rw[key p hp,key q hq]at huv ⊢;rw[e7 (ks:=ps.map (·.2)) (Xj ⟨q,hq,rfl⟩)];exact Zh (by lia)
  ·have blt:=Zv e1;show(sortedHeap _ _ _ _).get? b=_;rw[sortedHeap_old (Zt blt) (by rw[Zq];exact Yj blt)];exact Z7 _ e1
  ·have e2:((out.map fun v=>(aOf v,kOf ps v)).map fun p=>Value.ref p.1).toArray=out.toArray:=congrArg List.toArray oe.symm;have e3:(seqObj "list" out.toArray n)=({cls:= .type "list",data:= .seq ((out.map fun v=>(aOf v,kOf ps v)).map fun p=>Value.ref p.1).toArray n}:Obj):=by
    rw[e2]
   exact gl.trans (congrArg some e3)
end
section
variable{X:Cx}{K:PySem.W.Frag}
end
section
variable{X:Cx}
theorem sJ{k:Nat}{o i value:Expr}{pos pos':Pos}{td ty tv:TE}(hr:b8 k X.A)(hs:swapsWith value (some (.Subscript o i pos')) pos.line X.env=pure false)(hv:QE X value tv)(ho:QE X o td)(hi:QE X i ty):QS X (.Assign [.Subscript o i pos'] value pos) (oE td ty tv):=
 ⟨ya (by have:=hr.units;lia) ho.h hi.h hv.h hs⟩
theorem ug{κ:Type}[DecidableEq κ](kvs:List (κ×V))(k:κ)(v:V):(dG kvs k v).map (·.1)=if k∈kvs.map (·.1)then kvs.map (·.1)else kvs.map (·.1) ++[k]:=by
 unfold dG;have e:(kvs.any fun kv=>decide (kv.1=k))=true↔k∈kvs.map (·.1):=by
  rw[any_eq_true,mem_map]
  constructor
  ·rintro⟨kv,h1,h2⟩;exact⟨kv,h1,Zo h2⟩
  ·rintro⟨kv,h1,h2⟩;exact⟨kv,h1,Zf h2⟩
 by_cases h:k∈kvs.map (·.1)
 ·rw[if_pos (e.mpr h),if_pos h,Yn];refine Yl fun kv _=>?_
  show(if kv.1=k then(kv.1,v)else kv).1=kv.1
  split<;> rfl
 ·rw[if_neg (fun z=>h (e.mp z)),if_neg h,Zd];rfl
end
structure wC (K:PySem.W.Frag) (mg:Str->Option Value) (x:Str):Prop where
 at_:mg x=some (.ref (ck mg x))
 cls:Cls K (ck mg x)
structure sK (K:PySem.W.Frag) (mg:Str->Option Value) (x m qual:Str) (st:Stmt) (ps:List Str):Prop where
 ex:∃f fd,xN K (ck mg x) m f/\Fun K m qual st f fd/\d5 K fd ps []
structure wD (K:PySem.W.Frag) (mg:Str->Option Value) (x qual:Str) (st:Stmt) (ps:List Str):Prop where
 ex:∃f fd,Mk K (ck mg x) f/\Fun K "__init__" qual st f fd/\d5 K fd ps []
structure yG (P:Program) (w:World) (K:PySem.W.Frag) (mg:Str->Option Value) (base:Heap) (k:Nat) (x m:Str) (ps:List Str) (sp:Sp):Prop where
 ex:∃f fd,gR P w K mg base CX0 k f fd ps sp/\xN K (ck mg x) m f/\d5 K fd ps []
structure AQ (P:Program) (w:World) (K:PySem.W.Frag) (mg:Str->Option Value) (base:Heap) (k:Nat) (x:Str) (ps:List Str) (sp:Sp):Prop where
 ex:∃f fd,gR P w K mg base CX0 k f fd ps sp/\Mk K (ck mg x) f/\d5 K fd ps []
section
variable{P:Program}{w:World}{K:PySem.W.Frag}{mg:Str->Option Value}{base:Heap}{x m qual:Str}{st:Stmt}{N ps:List Str}{k:Nat}{sp:Sp}
theorem sK.cal(D:sK K mg x m qual st ps)(S:aq N ps (ag st))(len:∀vs H Q E,sp vs H Q E->vs.length=ps.length)
 (hbody:∀(f:Addr) (cdv:Value) (A:Around) (outer:List Env) (s:Shared) (H:Hp) (vs:List V) (Q:VK) (E:XK),b8 k (A.deeper (envOfC qual (ag st) s.heap.objs.size f cdv))->sp vs H Q E->
  ∃t,PSs (mK CX0 P w K mg base N qual (ag st) f cdv A outer s H E).nox (bw st) t/\t {nx:=fun _ H'=>Q .non H',rt:=Q} (start N vs) H):yG P w K mg base (k+1) x m ps sp:=by
 obtain⟨f,fd,hm,F,hb⟩:=D.ex;exact⟨f,fd,F.ok S len (hbody f),hm,hb⟩
theorem wD.cal(D:wD K mg x qual st ps)(S:aq N ps (ag st))(len:∀vs H Q E,sp vs H Q E->vs.length=ps.length)
 (hbody:∀(f:Addr) (cdv:Value) (A:Around) (outer:List Env) (s:Shared) (H:Hp) (vs:List V) (Q:VK) (E:XK),b8 k (A.deeper (envOfC qual (ag st) s.heap.objs.size f cdv))->sp vs H Q E->
  ∃t,PSs (mK CX0 P w K mg base N qual (ag st) f cdv A outer s H E).nox (bw st) t/\t {nx:=fun _ H'=>Q .non H',rt:=Q} (start N vs) H):AQ P w K mg base (k+1) x ps sp:=by
 obtain⟨f,fd,hm,F,hb⟩:=D.ex;exact⟨f,fd,F.ok S len (hbody f),hm,hb⟩
end
section
variable{X:Cx}{K:PySem.W.Frag}{j k:Nat}{x m:Str}{ps:List Str}{sp:Sp}{p pos apos:Pos}{o e:Expr}{es:List Expr}{to te:TE}{t:TA}
theorem nB{pl:Sem Bool}(C:yG X.prog X.w X.K X.mg X.base j x m ps sp)(c:wC X.K X.mg x)(hr:b8 k X.A)(hjk:Nat.ble j k=true)
 (ht:eval (.Call (.Attribute o m apos) [] [] pos) X.env=(do
  let ov<-eval o X.env
  standAt apos.atName
  let(f,first)<-holding [ov] (getMethod ov m pl)
  callWith pos f first (backTo pos (starEach [] X.env)) (backToKw pos (keywordEach [] X.env)))) (ho:QE X o to):QE X (.Call (.Attribute o m apos) [] [] pos) (vw (ck X.mg x) m sp [] E0 to vt):=by
 obtain⟨f,fd,F,hm,hb⟩:=C.ex;exact⟨vz ho.h c.cls hm F (hr.mono (Nat.le_of_ble_eq_true hjk)) hb .nil vN ht⟩
theorem wE(C:AQ X.prog X.w X.K X.mg X.base j x ps sp)(c:wC X.K X.mg x)(hr:b8 k X.A)(hg:Gl X x)(hjk:Nat.ble (j+1) k=true)(hdb:(x==("__debug__":Str))=false)(he:(e::es).any bi=false)(ha:QA X (e::es) t):
 QE X (.Call (.Name x p) (e::es) [] pos) (vx (ck X.mg x) sp [] E0 t):=by
 obtain⟨f,fd,F,hm,hb⟩:=C.ex;rw[Zy,Yz]at he;exact⟨xR hm F (hr.mono (Nat.le_of_ble_eq_true hjk)) hg c.at_ hb .nil vN ha.h hdb (ar he.1) (eU he.2)⟩
theorem BL{f:Str}(h:X.K=K)(hb:iu o=false)(ho:QE X o to):QE X (.Attribute o f pos) (zV K to f):=by
 subst h;exact⟨zX ho.h (fQ hb)⟩
theorem yH{f:Str}{value:Expr}{tv:TE}{pos':Pos}(h:X.K=K)(hs:gj value=false)(ho:QE X o to)(hv:QE X value tv):QS X (.Assign [.Attribute o f pos'] value pos) (zW K to tv f):=by
 subst h;exact⟨zY ho.h hv.h (ir hs)⟩
end
structure GvT (K:PySem.W.Frag) (mg:Str->Option Value) (x:Str) (xs:List V):Prop where
 ex:∃a,mg x=some (.ref a)/\∀H,SqT K H a xs
theorem wF{K:PySem.W.Frag}{h:Heap}{mg:Str->Option Value}{x:Str}{xs:List V}{a:Addr}{o:Obj}{its:Array Value}{n:Nat}(X:K.In h)(G:h.Ns mainGlobals mg)(z:nsIn K mainGlobals x=some (some (.ref a)))
 (hk:K.lookup a=some o) (hc:o.cls= .type "tuple") (hd:o.data= .seq its n) (hz:its.size<=sizeLine) (r:aC xs its.toList):GvT K mg x xs:=
 ⟨a,mg_of X G z,fun _=> .inr ⟨o,its,n,hk,hc,hd,hz,r⟩⟩
theorem BM{X:Cx}{K:PySem.W.Frag}{x:Str}{xs:List V}{pos:Pos}(h:X.K=K)(g:GvT K X.mg x xs)(hg:Gl X x)(hd:(x==("__debug__":Str))=false):QE X (.Name x pos) (fun _ H Q=>∀a,(∀H',SqT K H' a xs)->Q (.ref a) H):=by
 subst h;obtain⟨a,hm,hq⟩:=g.ex;refine⟨fun pins s σ H Q I q=>za (v:= .ref a) ⟨.ref a,hm,rfl⟩ hg hd pins s σ H Q I (q a hq)⟩
theorem tryN{X:Cx}{body:List Stmt}{h:ExceptHandler}{pos:Pos}{tb:TS}(hx:∀e s,X.xe e s->False)(hb:QSs X body tb):QS X (.Try body [h] [] [] pos) tb:=by
 refine⟨fun pins s σ H D I q=>?_⟩;refine wpAny_Try_except (wpAny_mono (hb.h pins s σ H D I q) (fun f s1 q=>?_) fun e s1 q=>(hx e s1 q).elim);cases f with
 | next=>exact wpAny_execs_nil q
 | brk=>exact q
 | cont=>exact q
 | ret u=>exact q
section
variable{X:Cx}{K:PySem.W.Frag}
end
theorem kM(x y:Str):cx [x] [y]=aQ x y:=by
 show(if x=y then false else aQ x y)=aQ x y
 split
 ·rename_i e;rw[e,d8]
 ·rfl
section
variable{prog:Program}{w:World}{A:Around}{E:Value->Shared->Prop}{s:Shared}{S:Addr}
theorem pH{us:List Value}{ks:List Str}{Q:Value->Shared->Prop}(hcol:∀(E1:Value->Shared->Prop) (R:List Value->Shared->Prop),(∀s1,(∀b o,s.heap.get? b=some o->s1.heap.get? b=some o)->s1.gens=s.gens->s1.os=s.os->R us s1)->wpAny (model prog w) A.in1 (collect (.ref S)) R E1 s)(hus:StrsAre us ks)(few:us.length<=50000)
 (hQ:∀(s1 s':Shared) (l:Addr) (vs:List Value) (ss:List Str) (n:Nat),StrsAre vs ss->ss.Perm ks->ss.Pairwise (fun a b=>aQ b a=false)->(∀b o,s.heap.get? b=some o->s1.heap.get? b=some o)->s1.gens=s.gens->s1.os=s.os->(∀b o,s1.heap.get? b=some o->s'.heap.get? b=some o)->s'.gens=s1.gens->s'.os=s1.os->s1.heap.objs.size<=l->s'.heap.get? l=some {cls:= .type "list",data:= .seq vs.toArray n}->Q (.ref l) s'):
 wpAny (model prog w) A (call (.builtin "sorted") [.ref S]) Q E s:=by
 refine Calls.call_function_entry kind_sorted plain_sorted entry_sorted (args_sorted1 _) ?_;unfold Builtin.«sorted»;refine Z2 (m:=checkCount "sorted" 1 1 _) (Z3 ?_);refine Z2 (hcol _ _ fun s1 k1 g1 o1=>?_);refine Z2 (wpAny_newList ?_ (by rw[sizeLine_eq];lia));have gL:(s1.heap.push (seqObj "list" us.toArray 0)).get? s1.heap.objs.size=some (seqObj "list" us.toArray 0):=Zj _ rfl;have hin:∀v∈us,∃x t,v=Value.str x t/\[x]∈ks.map fun z=>[z]:=fun v hv=>by
  obtain⟨x,t,rfl⟩:=hus.all v hv;refine⟨x,t,rfl,Xj ⟨x,?_,rfl⟩⟩;rw[<-hus.strs];exact Xj ⟨_,hv,rfl⟩
 refine Z2 (wpAny_holding (wpAny_call_entry slot_list_sort ⟨_,gL,rfl⟩ entry_list_sort (eC (s:={s1 with heap:=s1.heap.push (seqObj "list" us.toArray 0)}) (kd:=oneType') (Nv:=fun v=>cK (ks.map fun z=>[z]) [strOf v]) gL (by lia) (fun h6 k6 hv2 Q6 hq6=>?_) (fun h6 k6=>?_) fun out p1 p2=>⟨_,rfl,?_⟩) (args_list_sort _)))
 ·obtain⟨v1,v2,r,rfl⟩:∃v1 v2 r,us=v1::v2::r:=by
   match us,hv2 with
   | v1::v2::r,_=>exact⟨v1,v2,r,rfl⟩
  rw[keyKind_strs hus];exact Z3 hq6
 ·intro x y s' hx hy hs';subst hs';obtain⟨x1,x2⟩:=x;obtain⟨y1,y2⟩:=y;obtain⟨a,t,rfl,ha⟩:=hin _ hx;obtain⟨b,u,rfl,hb⟩:=hin _ hy;show wpAny (model prog w) A.in1.in1 (keyLt' oneType' (.str a t) (.str b u)) (fun r s'=>r=decide (cK (ks.map fun z=>[z]) [a]<cK (ks.map fun z=>[z]) [b])/\s'={s1 with heap:=h6}) (fun _ _=>False) {s1 with heap:=h6};rw[keyLt'_oneType];refine oneLt_str ⟨?_,rfl⟩;rw[<-e7 ha,kM];rfl
 ·have hall:∀v∈out,∃x t,v=Value.str x t:=fun v hv=>hus.all v (p1.mem_iff.mp hv)
  obtain⟨n,gl⟩:∃n,(sortedHeap (s1.heap.push (seqObj "list" us.toArray 0)) s1.heap.objs.size us out.toArray).get? s1.heap.objs.size=some (seqObj "list" out.toArray n):=sortedHeap_at gL;refine Z3 ⟨_,rfl,hQ s1 _ s1.heap.objs.size out (out.map strOf) n (strsAre_map out hall) ?_ ?_ k1 g1 o1 (fun b o' e1=>?_) rfl rfl (Zi _) gl⟩
  ·rw[<-hus.strs];exact p1.map _
  ·rw[X1];refine X9 (fun{u v} hu hv huv=>?_) p2;obtain⟨a,t,rfl,ha⟩:=hin _ (p1.mem_iff.mp hu);obtain⟨b,t',rfl,hb⟩:=hin _ (p1.mem_iff.mp hv);show aQ b a=false;rw[<-kM,e7 hb];have huv:cK (ks.map fun z=>[z]) [a]<=cK (ks.map fun z=>[z]) [b]:=huv;exact Zh (by lia)
  ·have blt:=Zv e1;show(sortedHeap _ _ _ _).get? b=_;rw[sortedHeap_old (Zt blt) (by rw[Zq];exact Yj blt)];exact Z7 _ e1
end
theorem iH:∀{ks:List Str} {us:List Value},aC (ks.map V.str) us->StrsAre us ks
 |[],_,.nil=> .nil
 | _::_,_,.cons r t=>by
   obtain⟨t',rfl⟩:=r;exact .cons _ _ (iH t)
theorem iI:∀{ks:List Str} {us:List Value},StrsAre us ks->aC (ks.map V.str) us
 | _,_,.nil=> .nil
 | _,_,.cons _ t h=> .cons ⟨t,rfl⟩ (iI h)
section
variable{X:Cx}{K:PySem.W.Frag}
theorem gw(h:X.K=K):cJ X (.builtin "sorted") (fun xs H Q=>∃(a:Addr) (ks:List Str),xs=[.ref a]/\SqL K H a (ks.map V.str)/\ks.length<=50000/\∀(l:Addr) (ss:List Str),H l=none->ss.Perm ks->ss.Pairwise (fun a b=>aQ b a=false)->Q (.ref l) (upd H l (.lst (ss.map V.str)))):=by
 subst h;refine⟨fun pins s σ H xs us Q I r h=>?_⟩;obtain⟨a,ks,rfl,ha,few,q⟩:=h;obtain⟨u,rfl,ru⟩:=d0 r;cases ru;obtain⟨its,rv,⟨o,n,go,hc,hd,hdt⟩,hz⟩:=I.list ha;have hs:=iH rv;have hl:its.length=ks.length:=by rw[<-rv.length,Z6]
 refine pH (fun E1 R hR=>wpAny_collect_seq a (T:="list") (.inl rfl) go hc hdt (fun h' k=>?_) (by rw[Zp,sizeLine_eq];lia)) hs (by lia) fun s1 s' l vs ss n q1 q2 q3 k1 g1 o1 k g o hle gl=>?_
 ·exact hR {s with heap:=h'} k rfl rfl
 ·have I1:Inv X pins σ H s1:=I.keptS k1 g1 o1;have hfree:H l=none:=I1.hok.fresh hle;have J:Inv X pins σ H s':=I1.keptS k g o;refine⟨.ref l,_,I1.stoodS (o:= .lst (ss.map V.str)) J hle ⟨?_,vs,n,iI q1,gl⟩,rfl,q l ss hfree q2 q3⟩;rw[Z6,q2.length_eq,sizeLine_eq]
  lia
theorem uh(h:X.K=K):cJ X (.builtin "sorted") (fun xs H Q=>∃(a:Addr) (ps:List (Addr×List Str)) (m:Nat),xs=[.ref a]/\SqL K H a (ps.map fun p=>V.ref p.1)/\aZ H ps/\(∀p∈ps,p.2.length=m)/\m≠0/\ps.length<=50000/\
 ∀(l:Addr) (ss:List (Addr×List Str)),H l=none->ss.Perm ps->ss.Pairwise (fun a b=>cx b.2 a.2=false)->Q (.ref l) (upd H l (.lst (ss.map fun p=>V.ref p.1)))):=by
 subst h;refine⟨fun pins s σ H xs us Q I r h=>?_⟩;obtain⟨a,ps,m,rfl,ha,ta,hm,m0,few,q⟩:=h;obtain⟨u,rfl,ru⟩:=d0 r;cases ru;obtain⟨its,rv,⟨o,n,go,hc,hd,hdt⟩,hz⟩:=I.list ha;have:=nv rv;subst this;refine rh (fun E1 R hR=>wpAny_collect_seq a (T:="list") (.inl rfl) go hc hdt (fun h' k=>?_) (by rw[Zp,Z6,sizeLine_eq];lia)) (nu I ta) hm m0 few fun s1 s' l ss n q1 q2 k1 g1 o1 k g o hle gl=>?_
 ·exact hR {s with heap:=h'} _ (List.Perm.refl _) k rfl rfl
 ·have I1:Inv X pins σ H s1:=I.keptS k1 g1 o1;have hfree:H l=none:=I1.hok.fresh hle;have J:Inv X pins σ H s':=I1.keptS k g o;refine⟨.ref l,_,I1.stoodS (o:= .lst (ss.map fun p=>V.ref p.1)) J hle ⟨?_,ss.map (fun p=>Value.ref p.1),n,nw ss,gl⟩,rfl,q l ss hfree q1 q2⟩;rw[Z6,q1.length_eq,sizeLine_eq]
  lia
theorem dinT{k:Nat}{i o:Expr}{ty td:TE}{pos:Pos}(hr:b8 k X.A)(hm:behindInMarks .In o=false)(hi:QE X i ty)(ho:QE X o td):QT X (.Compare i [.In] [o] pos) (tB (An ty td)):=
 ⟨zA (Ao (by have:=hr.units;lia) hi.h ho.h) hm⟩
end
theorem gK{X:Cx}{K:PySem.W.Frag}{a b:Expr}{ta tb:TE}{pos:Pos}(h:X.K=K)(hs:jV b)(ha:QE X a ta)(hb:QE X b tb):QE X (.Subscript a b pos) (tOp (xX K) ta tb):=by subst h;exact⟨vF Ad ha.h hb.h hs⟩
theorem rj{elt:Expr}{gens:List Comprehension}{scope:Scope}{pos px:Pos}{x:Str}{l:Nat}{env:Env}(h:(env.blockKind== .function&&env.kindOf x==some .local&&px.line==pos.line&&!(scope.names.any fun(n,k)=>n==x&&(k== .local||k== .cell)))=false):
 swapsWith (.ListComp elt gens scope pos) (some (.Name x px)) l env=pure false:=by
 show(pure (env.blockKind== .function&&env.kindOf x==some .local&&px.line==pos.line&&!(scope.names.any fun(n,k)=>n==x&&(k== .local||k== .cell))):Sem Bool)=pure false;rw[h]
theorem wG{X:Cx}(i:Nat){x:Str}{px pos' pos:Pos}{elt:Expr}{gens:List Comprehension}{scope:Scope}{te:TE}(hN:X.N.Nodup)(hi:X.N[i]? =some x)(hx:Loc X.env.scope x)(hf:X.fn x=true\/X.env.scope.names.lookup x=some .local)
 (hsw:(X.env.blockKind== .function&&X.env.kindOf x==some .local&&px.line==pos.line&&!(scope.names.any fun(n,k)=>n==x&&(k== .local||k== .cell)))=false) (he:QE X (.ListComp elt gens scope pos) te):
 QS X (.Assign [.Name x px] (.ListComp elt gens scope pos) pos') (oo te (js i)):=⟨uY hN hi hx he.h (rj hsw) hf⟩
section
variable{prog:Program}{w:World}{A:Around}{E:Value->Shared->Prop}{s:Shared}
end
noncomputable def Itzt(K:PySem.W.Frag)(a b:Addr):It:=⟨fun i H=>∃xs ys x y,SqT K H a xs/\SqT K H b ys/\xs[i]? =some x/\ys[i]? =some y,
 fun i H v H'=>∃T x y,H T=none/\v= .ref T/\H'=upd H T (.tup [x,y])/\(∀xs,SqT K H a xs->xs[i]? =some x)/\(∀ys,SqT K H b ys->ys[i]? =some y),
 fun i H=>∃xs ys,SqT K H a xs/\SqT K H b ys/\i<=xs.length/\i<=ys.length/\(i=xs.length\/i=ys.length)⟩
section
variable(h:Heap)(l1 l2:Addr)
end
section
variable{prog:Program}{w:World}{A:Around}{E:Value->Shared->Prop}{s:Shared}
end
def BN(K:PySem.W.Frag)(ta:TA):TI:=fun σ H R=>ta σ H fun vs H1=>∃a b,vs=[.ref a,.ref b]/\(((∃xs,SqL K H1 a xs)/\(∃ys,SqL K H1 b ys)/\R (rg K a b) H1)\/((∃xs,SqT K H1 a xs)/\(∃ys,SqT K H1 b ys)/\R (Itzt K a b) H1))
section
variable{X:Cx}{K:PySem.W.Frag}{pos:Pos}
end
section
variable{X:Cx}{pos:Pos}
theorem wH{c:Expr}{body:List Stmt}{tc:TT}{tb:TS}(hp:PassesOwn (model X.prog X.w) X.A X.env X.xe)(hc:QT X c tc)(hb:QSs X body tb):QS X (.While c body [] pos) (uZ tc tb):=⟨u4 hp hc.h hb.h⟩
theorem my{k:Nat}{o i:Expr}{td ty:TE}(hr:b8 k X.A)(hs:Am i)(ho:QE X o td)(hi:QE X i ty):QE X (.Subscript o i pos) (vK td ty):=⟨x9 (by have:=hr.units;lia) ho.h hi.h hs⟩
end
section
variable{prog:Program}{w:World}{A:Around}{E:Value->Shared->Prop}{s:Shared}
theorem yI{P:Nat->Value->Prop}(val:Nat->Str)(hval:∀i v,P i v->∃t,v= .str (val i) t):CmpOf prog w A .Gt P (fun i j=>decide ((val j).cps.toList<(val i).cps.toList)):=fun i j vi vj s Q E hi hj h=>by
 obtain⟨t,rfl⟩:=hval i vi hi;obtain⟨u,rfl⟩:=hval j vj hj;exact richCompare_gives (op:= .Gt) (typeIs_str s _ t) (typeIs_str s _ u) PySem.F.slot_str_gt PySem.F.entry_str_gt (PySem.F.args_str_gt_2 _ _) (gives_str_gt _ _ t u) (fun x=>nomatch x) h
theorem yJ{P:Nat->Value->Prop}(val:Nat->Str)(hval:∀i v,P i v->∃t,v= .str (val i) t):CmpOf prog w A .Lt P (fun i j=>decide ((val i).cps.toList<(val j).cps.toList)):=fun i j vi vj s Q E hi hj h=>by
 obtain⟨t,rfl⟩:=hval i vi hi;obtain⟨u,rfl⟩:=hval j vj hj;exact richCompare_gives (op:= .Lt) (typeIs_str s _ t) (typeIs_str s _ u) PySem.F.slot_str_lt PySem.F.entry_str_lt (PySem.F.args_str_lt_2 _ _) (gives_str_lt _ _ t u) (fun x=>nomatch x) h
theorem wI{x y:Str}{t u:Tok}{i:Nat}{v:Value}(h:(#[Value.str x t,Value.str y u]:Array Value)[i]? =some v):∃t,v= .str (if i=0 then x else y) t:=by
 match i,h with
 | 0,h=>exact⟨t,by simpa using h.symm⟩
 | 1,h=>exact⟨u,by simpa using h.symm⟩
 | i+2,h=>simp at h
theorem pI(bt:Nat->Nat->Bool):argBest bt 1=if bt 1 0=true then 1 else 0:=by simp[argBest]
theorem nC{x y:Str}{t u:Tok}{Q:Value->Shared->Prop}(hh:A.handled=none)
 (h:∀h' tk,(∀c o,s.heap.get? c=some o->h'.get? c=some o)->Q (if x.cps.toList<y.cps.toList then .str y u else .str x t) {s with heap:=h',toks:=tk}):
 wpAny (model prog w) A (call (.builtin "max") [.str x t,.str y u]) Q E s:=by
 have hT:(s.heap.push {cls:= .type "tuple",data:= .seq #[.str x t,.str y u]}).IsTuple s.heap.objs.size #[.str x t,.str y u]:=⟨_,Zj _ rfl,rfl,0,rfl⟩
 refine call_max_two (wpAny_pyIter_tuple hT ?_);have hsz:(s.heap.push {cls:= .type "tuple",data:= .seq #[.str x t,.str y u]}).objs.size=s.heap.objs.size+1:=Zq ..;refine⟨_,[_,s.heap.objs.size],[_],_,_,_,_,rfl,Walks.tuple (A:=A.in1) hh _ s.heap.objs.size (by rw[hsz];exact Zt (Yk _)) #[.str x t,.str y u],
  ⟨⟨_,Zj _ rfl,rfl,rfl⟩,hT.push _⟩,fun c hc=>?_,by simp,yI (fun i=>if i=0 then x else y) (fun _ _=>wI),fun v h' tk hP hk=>?_⟩
 ·show c<((s.heap.push _).push _).objs.size;rw[Zq,hsz];rcases mem_cons.mp hc with rfl|hc
  ·rw[hsz];exact Yk _
  ·rcases mem_cons.mp hc with rfl|hc
   ·exact Yj (Yk _)
   ·cases hc
 ·have hold:∀c o,s.heap.get? c=some o->h'.get? c=some o:=fun c o e=>by
   refine hk c o (fun hm=>?_) (Z7 _ (Z7 _ e));rcases mem_cons.mp hm with e1|hm
   ·have:=Zv e;rw[e1,hsz]at this;exact Xc _ (Nat.lt_of_succ_lt this)
   ·cases hm
  have q:=h h' tk hold;have hP':(#[Value.str x t,Value.str y u]:Array Value)[argBest _ 1]? =some v:=hP;rw[pI]at hP';by_cases hb:x.cps.toList<y.cps.toList
  ·rw[if_pos (by simp[hb])]at hP';rw[if_pos hb]at q;rw[<-show Value.str y u=v by simpa using hP'];exact q
  ·rw[if_neg (by simp[hb])]at hP';rw[if_neg hb]at q;rw[<-show Value.str x t=v by simpa using hP'];exact q
theorem nD{x y:Str}{t u:Tok}{Q:Value->Shared->Prop}(hh:A.handled=none)
 (h:∀h' tk,(∀c o,s.heap.get? c=some o->h'.get? c=some o)->Q (if y.cps.toList<x.cps.toList then .str y u else .str x t) {s with heap:=h',toks:=tk}):
 wpAny (model prog w) A (call (.builtin "min") [.str x t,.str y u]) Q E s:=by
 have hT:(s.heap.push {cls:= .type "tuple",data:= .seq #[.str x t,.str y u]}).IsTuple s.heap.objs.size #[.str x t,.str y u]:=⟨_,Zj _ rfl,rfl,0,rfl⟩
 refine call_min_two (wpAny_pyIter_tuple hT ?_);have hsz:(s.heap.push {cls:= .type "tuple",data:= .seq #[.str x t,.str y u]}).objs.size=s.heap.objs.size+1:=Zq ..;refine⟨_,[_,s.heap.objs.size],[_],_,_,_,_,rfl,Walks.tuple (A:=A.in1) hh _ s.heap.objs.size (by rw[hsz];exact Zt (Yk _)) #[.str x t,.str y u],
  ⟨⟨_,Zj _ rfl,rfl,rfl⟩,hT.push _⟩,fun c hc=>?_,by simp,yJ (fun i=>if i=0 then x else y) (fun _ _=>wI),fun v h' tk hP hk=>?_⟩
 ·show c<((s.heap.push _).push _).objs.size;rw[Zq,hsz];rcases mem_cons.mp hc with rfl|hc
  ·rw[hsz];exact Yk _
  ·rcases mem_cons.mp hc with rfl|hc
   ·exact Yj (Yk _)
   ·cases hc
 ·have hold:∀c o,s.heap.get? c=some o->h'.get? c=some o:=fun c o e=>by
   refine hk c o (fun hm=>?_) (Z7 _ (Z7 _ e));rcases mem_cons.mp hm with e1|hm
   ·have:=Zv e;rw[e1,hsz]at this;exact Xc _ (Nat.lt_of_succ_lt this)
   ·cases hm
  have q:=h h' tk hold;have hP':(#[Value.str x t,Value.str y u]:Array Value)[argBest _ 1]? =some v:=hP;rw[pI]at hP';by_cases hb:y.cps.toList<x.cps.toList
  ·rw[if_pos (by simp[hb])]at hP';rw[if_pos hb]at q;rw[<-show Value.str y u=v by simpa using hP'];exact q
  ·rw[if_neg (by simp[hb])]at hP';rw[if_neg hb]at q;rw[<-show Value.str x t=v by simpa using hP'];exact q
end
section
variable{X:Cx}
theorem uk(hc:X.calm=true):cq X (.builtin "max") (fun xs H Q=>∃x y,xs=[.str x,.str y]/\Q (.str (if aQ x y=true then y else x)) H):=by
 intro pins s σ H xs us Q I r h;obtain⟨x,y,rfl,q⟩:=h;obtain⟨u,w',rfl,⟨t,rfl⟩,t',rfl⟩:=jt r;refine nC (I.ok.hd hc) fun h' tk k=>⟨_,H,I.kept k,?_,q⟩
 by_cases hj:x.cps.toList<y.cps.toList
 ·rw[if_pos hj,if_pos (show aQ x y=true from Zf hj)];exact⟨_,rfl⟩
 ·rw[if_neg hj,if_neg (show ¬ aQ x y=true from fun e=>hj (Zo e))];exact⟨_,rfl⟩
theorem uo(hc:X.calm=true):cq X (.builtin "min") (fun xs H Q=>∃x y,xs=[.str x,.str y]/\Q (.str (if aQ y x=true then y else x)) H):=by
 intro pins s σ H xs us Q I r h;obtain⟨x,y,rfl,q⟩:=h;obtain⟨u,w',rfl,⟨t,rfl⟩,t',rfl⟩:=jt r;refine nD (I.ok.hd hc) fun h' tk k=>⟨_,H,I.kept k,?_,q⟩
 by_cases hj:y.cps.toList<x.cps.toList
 ·rw[if_pos hj,if_pos (show aQ y x=true from Zf hj)];exact⟨_,rfl⟩
 ·rw[if_neg hj,if_neg (show ¬ aQ y x=true from fun e=>hj (Zo e))];exact⟨_,rfl⟩
theorem AR(hc:X.calm=true):cJ X (.builtin "max") (fun xs H Q=>∃x y,xs=[.str x,.str y]/\Q (.str (if aQ x y=true then y else x)) H):=⟨uk hc⟩
theorem AS(hc:X.calm=true):cJ X (.builtin "min") (fun xs H Q=>∃x y,xs=[.str x,.str y]/\Q (.str (if aQ y x=true then y else x)) H):=⟨uo hc⟩
end
section
variable{prog:Program}{w:World}{A:Around}{E:Value->Shared->Prop}{s:Shared}
end
section
variable{prog:Program}{w:World}{A:Around}{R:Result->Shared->Prop}{I:Addr}{fp wr:List Addr}{G:Array GenState->Array GenState->Prop}{n:Nat}{P:Nat->Value->Prop}{St:Nat->Shared->Prop}
end
section
variable{prog:Program}{w:World}{A:Around}{E:Value->Shared->Prop}{s:Shared}
end
section
variable{X:Cx}{K:PySem.W.Frag}
end
theorem yK{κ:Type}{kvs:List (κ×V)}{vs:List (κ×Value)}(r:KV kvs vs):aC (kvs.map (·.2)) (vs.map (·.2)):=by
 induction r with
 | nil=>exact .nil
 | cons h _ ih=>exact .cons h.2 ih
section
variable{X:Cx}{K:PySem.W.Frag}
def wJ:V->List V->Hp->VK->Prop:=fun x vs H Q=>asR x fun a=>∃k y,vs=[kV k,y]/\∃kvs,H a=some (.dK kvs)/\kvs.length<sizeLine/\(∀v,dj kvs k=some v->Q v H)/\(dj kvs k=none->Q y (upd H a (.dK (dG kvs k y))))
theorem yL:MtM X "dict.setdefault" wJ:=by
 intro pins s σ H x vs v us Q I rx rv h;obtain⟨a,rfl,k,y,rfl,kvs,e,hz,h1,h2⟩:=j8 h;cases rx;obtain⟨ku,yu,rfl,rk,ry⟩:=jt rv;obtain⟨z,hd,vs,rel,dd⟩:=se I.hok e;refine call_meetsIn PySem.F.slot_dict_setdefault dd.typeIs PySem.F.entry_dict_setdefault (PySem.F.args_dict_setdefault_3 _ _ _) (kt_meets_setdefault (aB X.prog X.w) a (oA rk) hd yu) ⟨vs,dd,by rw[<-rel.length];exact z,fun w' hw=>?_,fun hn h' dd' hs=>?_⟩
 ·have q:=rel.val k;cases e1:dj kvs k with
  | none=>
    rw[eR.none_of (o:=valueAt vs k) (by rw[<-e1];exact q)]at hw;cases hw
  | some v'=>
    obtain⟨w2,hw2,rw2⟩:=eR.some_of (v:=v') (o:=valueAt vs k) (by rw[<-e1];exact q);rw[hw2]at hw;rw[<-Za hw];exact⟨v',H,I.tok _,rw2,h1 v' e1⟩
 ·have e1:dj kvs k=none:=by
   cases e1:dj kvs k with
   | none=>rfl
   | some v'=>
     obtain⟨w2,hw2,_⟩:=eR.some_of (v:=v') (o:=valueAt vs k) (by rw[<-e1];exact rel.val k);rw[hw2]at hn;cases hn
  have hl:(dG kvs k y).length<=sizeLine:=by have:=fP kvs k y;lia
  have he:∃q,h'.get? a=some q:=let⟨q,_,_,hq,_⟩:=dd';⟨q,hq⟩;exact⟨y,_,mU I (by rw[e];exact True.intro) hs he (vJ hl hd (rel.put k ry) dd'),ry,h2 e1⟩
theorem nE:MtQ X "dict.setdefault" wJ:=⟨yL⟩
noncomputable def kN(v a:Addr):HO:= .ext fun h=>h.IsValuesView v a
def wK:V->List V->Hp->VK->Prop:=fun x vs H Q=>asR x fun a=>vs=[]/\∃kvs,H a=some (.dK kvs)/\∀v,H v=none->Q (.ref v) (upd H v (kN v a))
theorem yM:MtM X "dict.values" wK:=by
 intro pins s σ H x vs v us Q I rx rv h;obtain⟨a,rfl,rfl,kvs,e,q⟩:=j8 h;cases rx;have hus:=rv.zero;subst hus;obtain⟨z,hd,vs,rel,dd⟩:=se I.hok e;refine call_meetsIn PySem.F.slot_dict_values dd.typeIs PySem.F.entry_dict_values (PySem.F.args_dict_values_1 _) (meets_dict_values (aB X.prog X.w) a hd) ⟨⟨vs,dd⟩,?_⟩;have hv:(s.heap.push {cls:= .type "dict_values",data:= .fields #[.ref a]}).IsValuesView s.heap.objs.size a:=⟨_,Zj _ rfl,rfl,rfl⟩
 refine⟨.ref s.heap.objs.size,_,I.laid (o:=kN s.heap.objs.size a) (t':=s.toks) (fun b u e=>Z7 _ e) (Zi _) ⟨hv,?_,fun h1 h2 S1 k1=>?_⟩,rfl,q _ I.fresh⟩
 ·obtain⟨o,ho,_⟩:=hv;exact⟨o,ho⟩
 ·obtain⟨o,ho,r⟩:=S1;exact⟨o,k1 _ ho,r⟩
theorem wL:MtQ X "dict.values" wK:=⟨yM⟩
theorem ro(hc:X.calm=true):cq X (.type "list") (fun xs H Q=>∃(v a:Addr) (kvs:List (Key×V)),xs=[.ref v]/\H v=some (kN v a)/\H a=some (.dK kvs)/\∀l,H l=none->Q (.ref l) (upd H l (.lst (kvs.map (·.2))))):=by
 intro pins s σ H xs us Q I r h;obtain⟨v,a,kvs,rfl,hv,ha,q⟩:=h;obtain⟨u,rfl,ru⟩:=d0 r;cases ru;obtain⟨z,hd,vs,rel,dd⟩:=se I.hok ha;have hvv:s.heap.IsValuesView v a:=(show br X.prog X.w H s.heap v (kN v a)from I.hok _ _ hv).1;obtain⟨o,es,ep,ho,hr⟩:=dd;have da:s.heap.DictAt (aB X.prog X.w) a vs ep:=⟨o,es,ho,hr⟩
 have vl:=rel.length;refine PySem.W.kdl_call (PySem.W.kdl_values (r:=v) (d:=a) (kvs:=vs) (ep:=ep) (knd:=aB X.prog X.w)) (I.ok.hd hc) ⟨hvv,da⟩ (by lia) fun h' tk acc c keep hD hacc=>?_
 have hl:acc.toList.length=kvs.length:=by rw[Zb,hacc.1,vl]
 refine⟨.ref s.heap.objs.size,_,I.laid (o:= .lst (kvs.map (·.2))) (t':=tk) keep (Zi _) ?_,rfl,q _ I.fresh⟩;have e:acc.toList=vs.map (·.2):=by
  refine Y0 (by rw[hl,Z6,vl]) fun i h1 h2=>?_
  have h1':i<acc.size:=by rw[<-Zb];exact h1
  obtain⟨k,ek⟩:=hacc.2 i acc[i] (Array.getElem?_eq_getElem h1');obtain⟨h3,e3⟩:=Xf ek;rw[List.getElem_map,e3];simp
 refine⟨by rw[Z6];exact z,acc.toList,c,by rw[e];exact yK rel,?_⟩;rw[Array.toArray_toList];exact hD
theorem yN(hc:X.calm=true):cJ X (.type "list") (fun xs H Q=>∃(v a:Addr) (kvs:List (Key×V)),xs=[.ref v]/\H v=some (kN v a)/\H a=some (.dK kvs)/\∀l,H l=none->Q (.ref l) (upd H l (.lst (kvs.map (·.2))))):=⟨ro hc⟩
end
end L2
namespace Cut
open PySem L2
inductive bV (S:Str->Str->Prop):Str->Str->Prop
 | refl (x:Str):bV S x x
 | step {x y z:Str}:bV S x y->(S y z\/S z y)->bV S x z
theorem bV.trans{S:Str->Str->Prop}{x y z:Str}(h:bV S x y)(g:bV S y z):bV S x z:=by
 induction g with
 | refl=>exact h
 | step _ s ih=>exact .step ih s
theorem bV.one{S:Str->Str->Prop}{x y:Str}(h:S x y\/S y x):bV S x y:= .step (.refl x) h
theorem bV.symm{S:Str->Str->Prop}{x y:Str}(h:bV S x y):bV S y x:=by
 induction h with
 | refl=>exact .refl _
 | step _ s ih=>exact(bV.one s.symm).trans ih
theorem bV.mono{S R:Str->Str->Prop}(m:∀a b,S a b->R a b){x y:Str}(h:bV S x y):bV R x y:=by
 induction h with
 | refl=>exact .refl _
 | step _ s ih=>exact .step ih (s.imp (m _ _) (m _ _))
theorem bV.within{S:Str->Str->Prop}{p:Str->Prop}(w:∀a b,S a b->p a/\p b){x y:Str}(h:bV S x y)(hx:p x):p y:=by
 induction h with
 | refl=>exact hx
 | step _ s _=>
   rcases s with s|s
   ·exact(w _ _ s).2
   ·exact(w _ _ s).1
def c6(S:Str->Str->Prop)(z r:Str):Prop:=bV S z r/\∀y,bV S z y->aQ y r=false
theorem c6.one{S:Str->Str->Prop}{z r r':Str}(h:c6 S z r)(g:c6 S z r'):r=r':=by
 by_cases e:r=r'
 ·exact e
 ·have:=cp (g.2 _ h.1) e;rw[h.2 _ g.1]at this;cases this
structure bn (ls:List Str) (f r:Str->Str) (S:Str->Str->Prop):Prop where
 ws:∀a b,S a b->a∈ls/\b∈ls
 fin:∀z∈ls,f z∈ls
 rin:∀z∈ls,r z∈ls
 rf:∀z∈ls,r (f z)=r z
 fr:∀z∈ls,f (r z)=r z
 fix:∀z∈ls,f z=z->r z=z
 dec:∀z∈ls,f z≠z->aQ (f z) z=true
 le:∀z∈ls,aQ z (r z)=false
 cl:∀x∈ls,∀y∈ls,r x=r y↔bV S x y
theorem bn.rr{ls:List Str}{f r:Str->Str}{S:Str->Str->Prop}(F:bn ls f r S){z:Str}(h:z∈ls):r (r z)=r z:=F.fix _ (F.rin z h) (F.fr z h)
theorem bn.conn{ls:List Str}{f r:Str->Str}{S:Str->Str->Prop}(F:bn ls f r S){z:Str}(h:z∈ls):bV S z (r z):=(F.cl z h _ (F.rin z h)).mp (F.rr h).symm
theorem bn.least{ls:List Str}{f r:Str->Str}{S:Str->Str->Prop}(F:bn ls f r S){z:Str}(h:z∈ls):c6 S z (r z):=by
 refine⟨F.conn h,fun y c=>?_⟩;have hy:y∈ls:=c.within F.ws h;rw[(F.cl z h y hy).mpr c];exact F.le y hy
theorem bn.start(ls:List Str):bn ls id id (fun _ _=>False):=by
 refine⟨fun _ _ h=>h.elim,fun z h=>h,fun z h=>h,fun _ _=>rfl,fun _ _=>rfl,fun _ _ _=>rfl,fun z _ h=>(h rfl).elim,fun z _=>d8 z,fun x hx y hy=>⟨fun e=>?_,fun c=>?_⟩⟩
 ·rw[show x=y from e];exact .refl _
 ·induction c with
  | refl=>rfl
  | step _ s _=>rcases s with s|s<;> exact s.elim
theorem bn.join{ls:List Str}{f r:Str->Str}{S:Str->Str->Prop}(F:bn ls f r S){a b M m:Str}(ha:a∈ls)(hb:b∈ls)(hM:M=if aQ (r a) (r b)=true then r b else r a)(hm:m=if aQ (r b) (r a)=true then r b else r a):
 bn ls (fun x=>if x=M then m else f x) (fun x=>if r x=M then m else r x) (fun x y=>S x y\/(x=a/\y=b)):=by
 have two:(M=r a/\m=r b)\/(M=r b/\m=r a):=by
  rw[hM,hm];cases e:aQ (r a) (r b)with
  | true=>
    have:aQ (r b) (r a)=false:=by
     cases e2:aQ (r b) (r a)with
     | false=>rfl
     | true=>have:=eO e e2;rw[d8]at this;cases this
    rw[this];exact .inr ⟨rfl,rfl⟩
  | false=>
    cases e2:aQ (r b) (r a)with
    | true=>exact .inl ⟨rfl,rfl⟩
    | false=>
      have:r a=r b:=by
       by_cases h:r a=r b
       ·exact h
       ·have:=cp e h;rw[e2]at this;cases this
      rw[this];exact .inl ⟨rfl,rfl⟩
 have lt:m≠M->aQ m M=true:=by
  rw[hM,hm];cases e:aQ (r a) (r b)with
  | true=>
    cases e2:aQ (r b) (r a)with
    | true=>intro h;exact(h rfl).elim
    | false=>intro _;exact e
  | false=>
    cases e2:aQ (r b) (r a)with
    | true=>intro _;exact e2
    | false=>intro h;exact(h rfl).elim
 have ra:=F.rin a ha;have rb:=F.rin b hb;have Mi:M∈ls:=by rcases two with⟨h,_⟩|⟨h,_⟩<;> rw[h]<;> assumption
 have mi:m∈ls:=by rcases two with⟨_,h⟩|⟨_,h⟩<;> rw[h]<;> assumption
 have rM:r M=M:=by rcases two with⟨h,_⟩|⟨h,_⟩<;> rw[h]<;> apply F.rr<;> assumption
 have rm:r m=m:=by rcases two with⟨_,h⟩|⟨_,h⟩<;> rw[h]<;> apply F.rr<;> assumption
 have fm:f m=m:=by rcases two with⟨_,h⟩|⟨_,h⟩<;> rw[h]<;> apply F.fr<;> assumption
 have fM:f M=M:=by rcases two with⟨h,_⟩|⟨h,_⟩<;> rw[h]<;> apply F.fr<;> assumption
 have cM:bV (fun x y=>S x y\/(x=a/\y=b)) M m:=by
  have c1:bV (fun x y=>S x y\/(x=a/\y=b)) (r a) (r b):=(((F.conn ha).mono fun _ _=> .inl).symm.trans (.one (.inl (.inr ⟨rfl,rfl⟩)))).trans ((F.conn hb).mono fun _ _=> .inl);rcases two with⟨h1,h2⟩|⟨h1,h2⟩
  ·rw[h1,h2];exact c1
  ·rw[h1,h2];exact c1.symm
 have toR:∀x∈ls,bV (fun x y=>S x y\/(x=a/\y=b)) x (if r x=M then m else r x):=fun x hx=>by
  have c:=(F.conn hx).mono (R:=fun x y=>S x y\/(x=a/\y=b)) fun _ _=> .inl
  by_cases e:r x=M
  ·rw[if_pos e];rw[e]at c;exact c.trans cM
  ·rw[if_neg e];exact c
 have ab:(if r a=M then m else r a)=(if r b=M then m else r b):=by
  rcases two with⟨h1,h2⟩|⟨h1,h2⟩
  ·rw[if_pos h1.symm];by_cases e:r b=M
   ·rw[if_pos e]
   ·rw[if_neg e];exact h2
  ·rw[if_pos (c:=r b=M) h1.symm];by_cases e:r a=M
   ·rw[if_pos e]
   ·rw[if_neg e];exact h2.symm
 refine⟨fun x y h=>?_,fun z hz=>?_,fun z hz=>?_,fun z hz=>?_,fun z hz=>?_,fun z hz h=>?_,fun z hz h=>?_,fun z hz=>?_,fun x hx y hy=>⟨fun e=>?_,fun c=>?_⟩⟩
 ·rcases h with h|⟨rfl,rfl⟩
  ·exact F.ws x y h
  ·exact⟨ha,hb⟩
 ·split
  ·exact mi
  ·exact F.fin z hz
 ·split
  ·exact mi
  ·exact F.rin z hz
 ·by_cases e:z=M
  ·rw[if_pos e,e,rM,if_pos rfl,rm]
   split<;> rfl
  ·rw[if_neg e,F.rf z hz]
 ·by_cases e:r z=M
  ·rw[if_pos e]
   split
   ·rfl
   ·exact fm
  ·rw[if_neg e,if_neg e];exact F.fr z hz
 ·by_cases e:z=M
  ·rw[if_pos e]at h;rw[e,rM,if_pos rfl,<-e];exact h
  ·rw[if_neg e]at h;rw[F.fix z hz h,if_neg e]
 ·by_cases e:z=M
  ·rw[if_pos e]at h ⊢;rw[e]at h ⊢;exact lt h
  ·rw[if_neg e]at h ⊢;exact F.dec z hz h
 ·by_cases e:r z=M
  ·rw[if_pos e];cases e2:aQ z m with
   | false=>rfl
   | true=>
     have hle:=F.le z hz;rw[e]at hle;by_cases em:m=M
     ·rw[em]at e2;rw[hle]at e2;cases e2
     ·have:=eO e2 (lt em);rw[hle]at this;cases this
  ·rw[if_neg e];exact F.le z hz
 ·have c:=(toR x hx)
  rw[show(if r x=M then m else r x)=(if r y=M then m else r y)from e]at c;exact c.trans (toR y hy).symm
 ·have ws:∀x y,(S x y\/(x=a/\y=b))->x∈ls/\y∈ls:=fun x y h=>by
   rcases h with h|⟨rfl,rfl⟩
   ·exact F.ws x y h
   ·exact⟨ha,hb⟩
  clear hy
  induction c with
  | refl=>rfl
  | step c s ih=>
    rename_i u v
    have hu:u∈ls:=c.within ws hx;rw[ih];rcases s with(s|⟨rfl,rfl⟩)|(s|⟨rfl,rfl⟩)
    ·rw[(F.cl u hu v (F.ws u v s).2).mpr (.one (.inl s))]
    ·exact ab
    ·rw[(F.cl u hu v (F.ws v u s).1).mpr (.one (.inr s))]
    ·exact ab.symm
theorem bn.short{ls:List Str}{f r:Str->Str}{S:Str->Str->Prop}(F:bn ls f r S){z:Str}(hz:z∈ls):bn ls (fun x=>if x=z then f (f z)else f x) r S:=by
 have dd:f z≠z->aQ (f (f z)) z=true:=fun h=>by
  have h1:=F.dec z hz h;by_cases e:f (f z)=f z
  ·rw[e];exact h1
  ·exact eO (F.dec _ (F.fin z hz) e) h1
 refine⟨F.ws,fun x hx=>?_,F.rin,fun x hx=>?_,fun x hx=>?_,fun x hx h=>?_,fun x hx h=>?_,F.le,F.cl⟩
 ·split
  ·exact F.fin _ (F.fin z hz)
  ·exact F.fin x hx
 ·by_cases e:x=z
  ·rw[if_pos e,F.rf _ (F.fin z hz),F.rf z hz,e]
  ·rw[if_neg e];exact F.rf x hx
 ·by_cases e:r x=z
  ·rw[if_pos e];have:=F.fr x hx;rw[e]at this;rw[this,this,e]
  ·rw[if_neg e];exact F.fr x hx
 ·by_cases e:x=z
  ·rw[if_pos e]at h;rw[e]at h ⊢;by_cases e2:f z=z
   ·exact F.fix z hz e2
   ·have:=dd e2;rw[h,d8]at this;cases this
  ·rw[if_neg e]at h;exact F.fix x hx h
 ·by_cases e:x=z
  ·rw[if_pos e]at h ⊢;rw[e]at h ⊢;refine dd fun e2=>h ?_
   rw[e2,e2]
  ·rw[if_neg e]at h ⊢;exact F.dec x hx h
theorem bn.done{ls:List Str}{f r:Str->Str}{S:Str->Str->Prop}(F:bn ls f r S){z:Str}(hz:z∈ls)(h:∀w∈ls,aQ w z=true->f w=r w):f (f z)=r z:=by
 by_cases e:f z=z
 ·rw[e,e];exact(F.fix z hz e).symm
 ·rw[h _ (F.fin z hz) (F.dec z hz e),F.rf z hz]
end Cut
namespace Cut
open PySem L2
theorem dP{α:Type}(lt:α->α->Bool)(total:∀x y,lt x y=false->x≠y->lt y x=true):∀{l m:List α},l.Pairwise (fun a b=>lt b a=false)->m.Pairwise (fun a b=>lt b a=false)->l.Nodup->m.Nodup->(∀x,x∈l↔x∈m)->l=m
 |[],[],_,_,_,_,_=>rfl
 |[],y::m,_,_,_,_,h=>absurd ((h y).mpr Zm) (by simp)
 | x::l,[],_,_,_,_,h=>absurd ((h x).mp Zm) (by simp)
 | x::l,y::m,hl,hm,nl,nm,h=>by
   obtain⟨hl1,hl2⟩:=pairwise_cons.mp hl;obtain⟨hm1,hm2⟩:=pairwise_cons.mp hm;obtain⟨nl1,nl2⟩:=nodup_cons.mp nl;obtain⟨nm1,nm2⟩:=nodup_cons.mp nm;have e:x=y:=Classical.byContradiction fun hne=>by
    have hx:x∈m:=(mem_cons.mp ((h x).mp Zm)).resolve_left hne;have hy:y∈l:=(mem_cons.mp ((h y).mpr Zm)).resolve_left (Ne.symm hne);have q1:=hm1 x hx;have q2:=hl1 y hy;rw[total x y q1 hne]at q2;cases q2
   subst e;rw[dP lt total hl2 hm2 nl2 nm2 fun z=>?_]
   constructor
   ·intro hz;rcases mem_cons.mp ((h z).mp (Zk _ hz))with e|e
    ·rw[e]at hz;exact absurd hz nl1
    ·exact e
   ·intro hz;rcases mem_cons.mp ((h z).mpr (Zk _ hz))with e|e
    ·rw[e]at hz;exact absurd hz nm1
    ·exact e
def Let(rows:List Str)(c:Nat):Prop:=c≠46/\∃r∈rows,c∈r.cps.toList
def BO(rows:List Str)(a b:Nat):Prop:=a≠46/\a≠b/\∃(i j:Nat) (r r':Str),rows[i]? =some r/\rows[i+1]? =some r'/\r.cps[j]? =some a/\r'.cps[j]? =some b
theorem mz{rows:List Str}{c:Nat}:c∈cj rows↔Let rows c:=by
 unfold cj Let;rw[List.mem_filter,oW,List.mem_flatten,decide_eq_true_eq]
 constructor
 ·rintro⟨⟨l,hl,hc⟩,hne⟩;obtain⟨r,hr,rfl⟩:=Xi hl;exact⟨hne,r,hr,hc⟩
 ·rintro⟨hne,r,hr,hc⟩;exact⟨⟨_,Xj ⟨r,hr,rfl⟩,hc⟩,hne⟩
end Cut
namespace Cut
open PySem L2
def jE(cs:List Int):Prop:=∃air:Nat,air<cs.length/\(∀(k:Nat) (c:Int),cs[k]? =some c->(k<air->c= -1)/\(air<=k->0<=c/\c<=7))
noncomputable def sg(a s:Int):Nat:=if a<0 then 46 else 97+((a*5+s)%26).toNat
theorem AT{a s:Int}(h:0<=a):fX (sg a s)=true:=by
 unfold sg;rw[if_neg (by lia),tX]
 lia
theorem AU{a s:Int}(h:a<0):sg a s=46:=if_pos h
theorem wM{a s:Int}(h:0<=a):sg a s≠46:=by
 unfold sg;rw[if_neg (by lia)]
 lia
theorem AV{a b s:Int}(ha:0<=a)(ha7:a<=7)(hb:0<=b)(hb7:b<=7)(h:sg a s=sg b s):a=b:=by
 unfold sg at h;rw[if_neg (by lia),if_neg (by lia)]at h;omega
noncomputable def f9(cols:List (List Int))(sh:Int)(k:Nat):Str:=⟨(cols.map fun c=>sg (c.getD k 0) sh).toArray⟩
noncomputable def drawn(cols:List (List Int))(hi:Nat)(sh:Int):List Str:=(List.range hi).map (f9 cols sh)
theorem iJ{cols:List (List Int)}{hi:Nat}{sh:Int}{k:Nat}{z:Str}(h:(drawn cols hi sh)[k]? =some z):k<hi/\z=f9 cols sh k:=by
 unfold drawn at h;rw[Zl]at h;by_cases hk:k<hi
 ·rw[List.getElem?_range hk]at h;exact⟨hk,(Za h).symm⟩
 ·rw[Xe (by rw[Yg];lia)]at h;cases h
theorem nF{cols:List (List Int)}{sh:Int}{k j c:Nat}(h:(f9 cols sh k).cps[j]? =some c):∃col,cols[j]? =some col/\c=sg (col.getD k 0) sh:=by
 have h:(cols.map fun c=>sg (c.getD k 0) sh)[j]? =some c:=by simpa [f9]using h
 rw[Zl]at h;cases e:cols[j]? with
 | none=>rw[e]at h;cases h
 | some col=>rw[e]at h;exact⟨col,rfl,(Za h).symm⟩
theorem gA{col:List Int}{hi k:Nat}(hl:col.length=hi)(hk:k<hi):col[k]? =some (col.getD k 0):=by
 rw[Zc,Z4 (by lia)];rfl
theorem pJ{cols:List (List Int)}{hi:Nat}{sh:Int}(h1:1<=hi)(h2:hi<=40)(w1:1<=cols.length)(w2:cols.length<=40)(hc:∀c∈cols,c.length=hi/\jE c):bY (drawn cols hi sh):=by
 have len:(drawn cols hi sh).length=hi:=by unfold drawn;rw[Z6,Yg]
 have at':∀z∈drawn cols hi sh,∃k,k<hi/\z=f9 cols sh k:=fun z hz=>by
  obtain⟨k,e⟩:=X8 hz;exact⟨k,iJ e⟩
 refine⟨by lia,by lia,⟨cols.length,w1,w2,fun z hz=>?_⟩,fun z hz=>?_,fun i r r' e1 e2 j c c' g1 g2 hc'=>?_,?_⟩
 ·obtain⟨k,_,rfl⟩:=at' z hz;simp[f9]
 ·obtain⟨k,hk,rfl⟩:=at' z hz;rw[all_eq_true];intro c hcm;obtain⟨j,hj⟩:=X8 hcm;obtain⟨col,ec,rfl⟩:=nF (j:=j) (by simpa using hj);by_cases h0:col.getD k 0<0
  ·rw[AU h0];decide +kernel
  ·unfold okc;rw[AT (by lia),Bool.or_true]
 ·obtain⟨hi1,rfl⟩:=iJ e1;obtain⟨hi2,rfl⟩:=iJ e2;obtain⟨col,ec,rfl⟩:=nF g1;obtain⟨col',ec',rfl⟩:=nF g2;rw[ec]at ec';cases ec';obtain⟨hl,air,ha,hk⟩:=hc col (Z8 ec);have q1:=hk i _ (gA hl hi1);have q2:=hk (i+1) _ (gA hl hi2);by_cases hlt:i+1<air
  ·rw[q1.1 (by lia)];rfl
  ·exact absurd hc' (wM (q2.2 (by lia)).1)
 ·have hne:0<cols.length:=by lia
  have hm:=hc cols[0] (Ya hne);obtain⟨hl,air,ha,hk⟩:=hm;refine⟨f9 cols sh (hi-1),Xj ⟨hi-1,by rw[mem_range];lia,rfl⟩,sg (cols[0].getD (hi-1) 0) sh,?_,wM ((hk (hi-1) _ (gA hl (by lia))).2 (by lia)).1⟩;show _∈(cols.map fun c=>sg (c.getD (hi-1) 0) sh).toArray.toList;rw[toList_toArray];exact Xj ⟨cols[0],Ya hne,rfl⟩
theorem pK{cols:List (List Int)}{hi:Nat}{sh:Int}(hc:∀c∈cols,c.length=hi/\jE c){c:Nat}:Let (drawn cols hi sh) c↔∃a:Int,0<=a/\a<=7/\(∃col∈cols,a∈col)/\c=sg a sh:=by
 constructor
 ·rintro⟨hne,r,hr,hcr⟩;obtain⟨k,e⟩:=X8 hr;obtain⟨hk,rfl⟩:=iJ e;obtain⟨j,hj⟩:=X8 hcr;obtain⟨col,ec,rfl⟩:=nF (j:=j) (by simpa using hj);have hm:=Z8 ec;obtain⟨hl,air,ha,hq⟩:=hc col hm;have g:=gA hl hk;have q:=hq k _ g;have:air<=k:=by
   refine Nat.le_of_not_lt fun z=>hne ?_
   rw[q.1 z];rfl
  exact⟨_,(q.2 this).1,(q.2 this).2,⟨col,hm,Z8 g⟩,rfl⟩
 ·rintro⟨a,a0,a7,⟨col,hm,hac⟩,rfl⟩;obtain⟨hl,_⟩:=hc col hm;obtain⟨k,hk⟩:=X8 hac;have hkl:k<hi:=by rw[<-hl];exact(Xf hk).1
  refine⟨wM a0,f9 cols sh k,Xj ⟨k,by rw[mem_range];exact hkl,rfl⟩,?_⟩;show _∈(cols.map fun c=>sg (c.getD k 0) sh).toArray.toList;rw[toList_toArray];refine Xj ⟨col,hm,?_⟩;rw[Zc,hk];rfl
noncomputable def there(cols:List (List Int)):List Int:=((List.range 8).filter fun a:Nat=>cols.any fun c=>decide ((a:Int)∈c)).map fun a:Nat=>(a:Int)
theorem dE{cols:List (List Int)}{a:Int}:a∈there cols↔0<=a/\a<=7/\∃col∈cols,a∈col:=by
 unfold there;rw[mem_map]
 constructor
 ·rintro⟨n,hn,rfl⟩;rw[List.mem_filter,mem_range,any_eq_true]at hn;obtain⟨h8,col,hm,hd⟩:=hn;exact⟨by lia,by lia,col,hm,Zo hd⟩
 ·rintro⟨a0,a7,col,hm,hd⟩;refine⟨a.toNat,?_,by lia⟩;rw[List.mem_filter,mem_range,any_eq_true];refine⟨by lia,col,hm,Zf ?_⟩;rw[show((a.toNat:Nat):Int)=a by lia];exact hd
theorem pL(cols:List (List Int)):(there cols).Nodup:=by
 unfold there;rw[Yw,X1];refine(List.Pairwise.filter _ (nodup_iff_pairwise_ne.mp nodup_range)).imp fun h e=>h (by lia)
theorem wN{cols:List (List Int)}{hi:Nat}(h1:1<=hi)(w1:1<=cols.length)(hc:∀c∈cols,c.length=hi/\jE c):there cols≠[]:=by
 have hne:0<cols.length:=by lia
 obtain⟨hl,air,ha,hk⟩:=hc cols[0] (Ya hne);have g:=gA hl (show hi-1<hi by lia);have q:=(hk (hi-1) _ g).2 (by lia);exact List.ne_nil_of_mem (dE.mpr ⟨q.1,q.2,_,Ya hne,Z8 g⟩)
theorem ja(cols:List (List Int)):(there cols).length<=8:=by
 unfold there;rw[Z6];refine Yd (Yf _ _) ?_;rw[Yg];exact Zi _
noncomputable def cL(n:Str)(c:Nat):Str:=⟨(n.cps.toList++[46,c]).toArray⟩
theorem jb{n m:Str}{c d:Nat}(h:cL n c=cL m d):n=m/\c=d:=by
 have e:n.cps.toList++[46,c]=m.cps.toList++[46,d]:=by
  have:=congrArg (fun z:Str=>z.cps.toList) h;simpa [cL]using this
 have q:=List.append_inj' e rfl;refine⟨eW q.1,?_⟩;have:=q.2;simpa using this
end Cut
namespace K21
open PySem L2 Cut
local macro_rules | `(tactic| walk_at "rd") => `(tactic| simp only [↓bL, ↓uS, ↓jH, ↓iT, ↓Bl, ↓jr, ↓oo, ↓js, ↓vf, ↓tB, ↓xy, ↓tOr, ↓zB, ↓uR, ↓zG, ↓Bj, ↓tIf, ↓tOp, ↓tUn, ↓tC, ↓zw, ↓zx, ↓tCB, ↓rY, ↓vt, ↓vv, ↓z0, ↓z9, ↓qc, ↓tBM, ↓x5, ↓tSl, ↓vD, ↓mL, ↓vO, ↓rI, ↓rI0, ↓rU, ↓At, ↓Av, ↓rEq, ↓rNe, ↓vS, ↓y9, ↓vT, ↓Ai, ↓Ak, ↓rIx, ↓xW, ↓xX, ↓xY, ↓yl, ↓Bz, ↓sr, ↓sk, ↓rEqB, ↓BF, ↓BD, ↓AE, ↓BE, ↓AF, ↓BC, ↓qG, ↓Ah, ↓mS, ↓Bw, ↓gSub, ↓xF, ↓uW, ↓zK, ↓zd, ↓ze, ↓zj, ↓BN, ↓vw, ↓vx, ↓zV, ↓zW, ↓AJ, kB, ↓oE, ↓An, ↓qt, ↓Ap, ↓vK, ↓wJ, ↓wK, ↓rIn, ↓ym, ↓x4, ↓xU, ↓Ar, ↓mR, ↓sj, xK, vh, ↓u5, ↓u9, ↓yn, zT, tyV, ↓Ba, ↓Bb, ↓Bc, Bd, Be, Bf,
 List.getElem?_cons_zero,List.getElem?_cons_succ,List.set_cons_zero,List.set_cons_succ,Option.some.injEq,V.int.injEq,V.str.injEq,V.bl.injEq,V.ref.injEq,V.ty.injEq,List.cons.injEq,reduceCtorEq,and_true,true_and,and_false,false_and,or_false,false_or,or_true,true_or,exists_false,exists_eq_left',exists_eq_left,exists_eq_right,exists_eq_right',exists_and_left,exists_and_right,exists_eq,cons_append,nil_append,Zz,exists_const,and_assoc,Int.zero_add,Bool.not_true,Bool.not_false,Y1,if_true,if_false,eq_self])
noncomputable def top(i:Nat):Stmt:=PySem.Challenge.pw_digbook_k21_deposits.main.body.getD i (.Pass ⟨0,0,0,0⟩)
noncomputable abbrev cO:Stmt:=top 1
theorem aV:aq ["ground","names","layer","word","one","other"] ["ground"] (ag cO):=by refine⟨rfl,rfl,rfl,?_,rfl,?_,?_⟩<;>decide +kernel
noncomputable abbrev c9:Stmt:=top 2
theorem cP:aq ["names","one","other","first","second"] ["names","one","other"] (ag c9):=by refine⟨rfl,rfl,rfl,?_,rfl,?_,?_⟩<;>decide +kernel
noncomputable abbrev cB:Stmt:=top 3
theorem di:aq ["names","layer"] ["names","layer"] (ag cB):=by refine⟨rfl,rfl,rfl,?_,rfl,?_,?_⟩<;>decide +kernel
noncomputable abbrev hW:Stmt:=top 4
theorem d9:aq ["ground","names","groups","layer"] ["ground"] (ag hW):=by refine⟨rfl,rfl,rfl,?_,rfl,?_,?_⟩<;>decide +kernel
noncomputable abbrev e8:Stmt:=top 5
theorem lD:aq ["ground","layer"] ["ground","layer"] (ag e8):=by refine⟨rfl,rfl,rfl,?_,rfl,?_,?_⟩<;>decide +kernel
noncomputable abbrev gB:Stmt:=top 16
theorem rq:aq ["thing"] ["thing"] (ag gB):=by refine⟨rfl,rfl,rfl,?_,rfl,?_,?_⟩<;>decide +kernel
noncomputable abbrev jc:Stmt:=top 17
theorem e9:aq ["text","rows","number","row"] ["text"] (ag jc):=by refine⟨rfl,rfl,rfl,?_,rfl,?_,?_⟩<;>decide +kernel
noncomputable abbrev iK:Stmt:=top 18
theorem uq:aq ["row"] ["row"] (ag iK):=by refine⟨rfl,rfl,rfl,?_,rfl,?_,?_⟩<;>decide +kernel
noncomputable abbrev cG:Stmt:=top 19
theorem jQ:aq ["row","above"] ["row","above"] (ag cG):=by refine⟨rfl,rfl,rfl,?_,rfl,?_,?_⟩<;>decide +kernel
noncomputable abbrev dt:Stmt:=top 20
theorem lE:aq ["rows"] ["rows"] (ag dt):=by refine⟨rfl,rfl,rfl,?_,rfl,?_,?_⟩<;>decide +kernel
noncomputable abbrev jd:Stmt:=top 21
theorem rs:aq ["text"] ["text"] (ag jd):=by refine⟨rfl,rfl,rfl,?_,rfl,?_,?_⟩<;>decide +kernel
noncomputable abbrev h9:Stmt:=top 22
theorem c7:aq ["text","rows","pairs","above","row"] ["text"] (ag h9):=by refine⟨rfl,rfl,rfl,?_,rfl,?_,?_⟩<;>decide +kernel
noncomputable abbrev bM:Stmt:=top 23
theorem gM:aq ["above","row"] ["above","row"] (ag bM):=by refine⟨rfl,rfl,rfl,?_,rfl,?_,?_⟩<;>decide +kernel
noncomputable abbrev fb:Stmt:=top 32
theorem cT:aq ["cuts","names","number","thing"] ["cuts"] (ag fb):=by refine⟨rfl,rfl,rfl,?_,rfl,?_,?_⟩<;>decide +kernel
noncomputable abbrev dQ:Stmt:=top 33
theorem jR:aq ["thing"] ["thing"] (ag dQ):=by refine⟨rfl,rfl,rfl,?_,rfl,?_,?_⟩<;>decide +kernel
noncomputable abbrev kO:Stmt:=top 34
theorem ur:aq ["thing"] ["thing"] (ag kO):=by refine⟨rfl,rfl,rfl,?_,rfl,?_,?_⟩<;>decide +kernel
noncomputable abbrev db:Stmt:=top 35
theorem cQ:aq ["sayings","layers","number","thing"] ["sayings","layers"] (ag db):=by refine⟨rfl,rfl,rfl,?_,rfl,?_,?_⟩<;>decide +kernel
noncomputable abbrev gc:Stmt:=top 36
theorem nG:aq ["thing","layers"] ["thing","layers"] (ag gc):=by refine⟨rfl,rfl,rfl,?_,rfl,?_,?_⟩<;>decide +kernel
noncomputable abbrev df:Stmt:=top 37
theorem je:aq ["thing","texts"] ["thing","texts"] (ag df):=by refine⟨rfl,rfl,rfl,?_,rfl,?_,?_⟩<;>decide +kernel
noncomputable abbrev jf:Stmt:=top 38
theorem rA:aq ["thing"] ["thing"] (ag jf):=by refine⟨rfl,rfl,rfl,?_,rfl,?_,?_⟩<;>decide +kernel
noncomputable abbrev fh:Stmt:=top 39
theorem lF:aq ["name","letter"] ["name","letter"] (ag fh):=by refine⟨rfl,rfl,rfl,?_,rfl,?_,?_⟩<;>decide +kernel
noncomputable abbrev ef:Stmt:=top 40
theorem dv:aq ["cuts","layers","name","text"] ["cuts"] (ag ef):=by refine⟨rfl,rfl,rfl,?_,rfl,?_,?_⟩<;>decide +kernel
noncomputable abbrev dR:Stmt:=top 41
theorem bA:aq ["cuts","ties","name","text","upper","lower"] ["cuts"] (ag dR):=by refine⟨rfl,rfl,rfl,?_,rfl,?_,?_⟩<;>decide +kernel
noncomputable abbrev cH:Stmt:=top 42
theorem bN:aq ["sayings","ties","number","saying"] ["sayings"] (ag cH):=by refine⟨rfl,rfl,rfl,?_,rfl,?_,?_⟩<;>decide +kernel
noncomputable abbrev eD:Stmt:=top 44
theorem kP:aq ["_law_script","_law_k"] ["_law_script","_law_k"] (ag eD):=by refine⟨rfl,rfl,rfl,?_,rfl,?_,?_⟩<;>decide +kernel
noncomputable abbrev jg:Stmt:=top 45
theorem cg:aq ["_law_script","_law_many","_law_found","_law_number","_law_k","_law_cell","_law_one","_law_two"] ["_law_script","_law_many"] (ag jg):=by refine⟨rfl,rfl,rfl,?_,rfl,?_,?_⟩<;>decide +kernel
noncomputable abbrev fi:Stmt:=top 46
theorem bo:aq ["_law_number","_law_high","_law_wild","_law_air","_law_at","_law_signs","_law_k"] ["_law_number","_law_high","_law_wild"] (ag fi):=by refine⟨rfl,rfl,rfl,?_,rfl,?_,?_⟩<;>decide +kernel
noncomputable abbrev ic:Stmt:=top 47
theorem pM:aq ["_law_at","_law_shift"] ["_law_at","_law_shift"] (ag ic):=by refine⟨rfl,rfl,rfl,?_,rfl,?_,?_⟩<;>decide +kernel
noncomputable abbrev cR:Stmt:=top 48
theorem bO:aq ["_law_row_here","_law_shift","_law_wide","_law_high","_law_wild","_law_columns","_law_rows","_law_k","_law_signs","_law_there"] ["_law_row_here","_law_shift"] (ag cR):=by refine⟨rfl,rfl,rfl,?_,rfl,?_,?_⟩<;>decide +kernel
noncomputable abbrev fj:Stmt:=top 49
theorem bp:aq ["_law_one","_law_two","_law_layers","_law_layer","_law_at","_law_other","_law_there","_law_kind","_law_odd","_law_year"] ["_law_one","_law_two","_law_layers"] (ag fj):=by refine⟨rfl,rfl,rfl,?_,rfl,?_,?_⟩<;>decide +kernel
noncomputable abbrev dw:Stmt:=top 50
theorem aH:aq ["_law_row_here","_law_cuts","_law_layers","_law_k","_law_name","_law_shift","_law_text","_law_there","_law_at","_law_many","_law_sayings"] ["_law_row_here"] (ag dw):=by refine⟨rfl,rfl,rfl,?_,rfl,?_,?_⟩<;>decide +kernel
noncomputable abbrev dS:Stmt:=top 51
theorem bB:aq ["_law_layer","_law_sayings","_law_found","_law_at","_law_saying_here","_law_other"] ["_law_layer","_law_sayings"] (ag dS):=by refine⟨rfl,rfl,rfl,?_,rfl,?_,?_⟩<;>decide +kernel
noncomputable abbrev jh:Stmt:=top 52
theorem fk:aq ["_law_layers","_law_sayings","_law_found","_law_layer","_law_some"] ["_law_layers","_law_sayings"] (ag jh):=by refine⟨rfl,rfl,rfl,?_,rfl,?_,?_⟩<;>decide +kernel
noncomputable abbrev ei:Stmt:=top 53
theorem nH:aq ["_law_found","_law_due_here"] ["_law_found","_law_due_here"] (ag ei):=by refine⟨rfl,rfl,rfl,?_,rfl,?_,?_⟩<;>decide +kernel
noncomputable abbrev gf:Stmt:=top 54
theorem bW:aq ["_law_script","_law_cuts","_law_sayings","_law_layers","_law_ground_here","_law_due_here","_law_found","_law_some","_law_layer","_law_kept","_law_alone","_law_at","_law_turn","_law_pairs","_law_made","_law_many","_law_said"] ["_law_script"] (ag gf):=by refine⟨rfl,rfl,rfl,?_,rfl,?_,?_⟩<;>decide +kernel
noncomputable abbrev bC:Stmt:=io (top 31) 0
theorem dU:aq ["self","cuts","sayings","layers"] ["self","cuts","sayings"] (ag bC):=by refine⟨rfl,rfl,rfl,?_,rfl,?_,?_⟩<;>decide +kernel
noncomputable abbrev lG:Stmt:=io (top 31) 1
theorem wO:aq ["self"] ["self"] (ag lG):=by refine⟨rfl,rfl,rfl,?_,rfl,?_,?_⟩<;>decide +kernel
noncomputable abbrev bH:Stmt:=io (top 31) 2
theorem iL:aq ["self"] ["self"] (ag bH):=by refine⟨rfl,rfl,rfl,?_,rfl,?_,?_⟩<;>decide +kernel
noncomputable abbrev bR:Stmt:=io (top 31) 3
theorem jj:aq ["self"] ["self"] (ag bR):=by refine⟨rfl,rfl,rfl,?_,rfl,?_,?_⟩<;>decide +kernel
noncomputable abbrev lH:Stmt:=io (top 31) 4
theorem wP:aq ["self"] ["self"] (ag lH):=by refine⟨rfl,rfl,rfl,?_,rfl,?_,?_⟩<;>decide +kernel
def rB(K:PySem.W.Frag):Sp:=fun vs H Q _=>∃(a:Addr) (ns:List Int) (k:Int),vs=[.ref a,.int k]/\SqL K H a (ns.map V.int)/\0<=k/\Q (.int (ns.getD k.toNat 0)) H
def AW(K:PySem.W.Frag):Sp:=fun vs H Q _=>∃(a:Addr) (ns:List Int) (m:Int),vs=[.ref a,.int m]/\SqL K H a (ns.map V.int)/\ns.length<=1000/\0<=m/\m<=100/\∀l H' (xs:List Int),af H H'->H l=none->H' l=some (.lst (xs.map V.int))->xs.length=m.toNat->(∀x∈xs,0<=x/\x<9973)->Q (.ref l) H'
def ut:Sp:=fun vs H Q _=>∃(n hi:Int) (wild:Bool),vs=[.int n,.int hi,.bl wild]/\0<=n/\1<=hi/\hi<=6/\∀l H' (cs:List Int),af H H'->H l=none->H' l=some (.lst (cs.map V.int))->cs.length=hi.toNat->jE cs->Q (.ref l) H'
def yO:Sp:=fun vs H Q _=>∃a s:Int,vs=[.int a,.int s]/\0<=s/\Q (.str (sgn (sg a s))) H
def nI(H:Hp)(cs:List (Addr×List Int)):Prop:=∀p∈cs,H p.1=some (.lst (p.2.map V.int))
theorem nI.up{H H':Hp}{cs:List (Addr×List Int)}(h:nI H cs)(s:af H H'):nI H' cs:=fun p hp=>s _ _ (h p hp)
def AX(K:PySem.W.Frag):Sp:=fun vs H Q _=>∃(a:Addr) (xs:List Int) (sh:Int),vs=[.ref a,.int sh]/\SqL K H a (xs.map V.int)/\(∀H',af H H'->SqL K H' a (xs.map V.int))/\xs.length=6/\(∀x∈xs,0<=x/\x<9973)/\0<=sh/\
 ∀(T th:Addr) H' (cols:List (List Int)) (hi:Nat),af H H'->H T=none->H th=none->T≠th->H' T=some (.tup [.str (Str.join nl (drawn cols hi sh)),.ref th])->H' th=some (.lst ((there cols).map V.int))->
  1<=hi->hi<=6->1<=cols.length->cols.length<=5->(∀c∈cols,c.length=hi/\jE c)->Q (.ref T) H'
structure Txt (K:PySem.W.Frag) (mg:Str->Option Value):Prop where
 b_min:mg "min"=none
 b_max:mg "max"=none
 b_list:mg "list"=none
 b_len:mg "len"=none
 b_all:mg "all"=none
 b_str:mg "str"=none
 b_isinstance:mg "isinstance"=none
 b_enumerate:mg "enumerate"=none
 b_zip:mg "zip"=none
 b_set:mg "set"=none
 b_sorted:mg "sorted"=none
 b_tuple:mg "tuple"=none
 b_int:mg "int"=none
 b_bool:mg "bool"=none
 b_range:mg "range"=none
 b_abs:mg "abs"=none
 g_LONGEST_NAME:Gv mg "LONGEST_NAME" (.int 8)
 g_LETTERS:Gv mg "LETTERS" (.str "abcdefghijklmnopqrstuvwxyz")
 g_MOST_ROWS:Gv mg "MOST_ROWS" (.int 40)
 g_MOST_SIGNS:Gv mg "MOST_SIGNS" (.int 40)
 g_AIR:Gv mg "AIR" (.str ".")
 g_MOST_CUTS:Gv mg "MOST_CUTS" (.int 8)
 g_MOST_SAYINGS:Gv mg "MOST_SAYINGS" (.int 60)
 g_FIRST_YEAR:Gv mg "FIRST_YEAR" (.int (-9999))
 g_LAST_YEAR:Gv mg "LAST_YEAR" (.int 9999)
 d_names_by_layer:aX K mg "names_by_layer" cO ["ground"]
 d_join_deposits:aX K mg "join_deposits" c9 ["names","one","other"]
 d_least_pointed_to:aX K mg "least_pointed_to" cB ["names","layer"]
 d_deposits:aX K mg "deposits" hW ["ground"]
 d_deposit_of:aX K mg "deposit_of" e8 ["ground","layer"]
 d_is_name:aX K mg "is_name" gB ["thing"]
 d_rows_of:aX K mg "rows_of" jc ["text"]
 d_is_row:aX K mg "is_row" iK ["row"]
 d_lies_beneath:aX K mg "lies_beneath" cG ["row","above"]
 d_letters_in:aX K mg "letters_in" dt ["rows"]
 d_letters:aX K mg "letters" jd ["text"]
 d_meetings:aX K mg "meetings" h9 ["text"]
 d_meetings_between:aX K mg "meetings_between" bM ["above","row"]
 d_check_cuts:aX K mg "check_cuts" fb ["cuts"]
 d_is_named_cut:aX K mg "is_named_cut" dQ ["thing"]
 d_is_cut:aX K mg "is_cut" kO ["thing"]
 d_check_sayings:aX K mg "check_sayings" db ["sayings","layers"]
 d_is_saying:aX K mg "is_saying" gc ["thing","layers"]
 d_is_text_among:aX K mg "is_text_among" df ["thing","texts"]
 d_is_year:aX K mg "is_year" jf ["thing"]
 d_layer_name:aX K mg "layer_name" fh ["name","letter"]
 d_layers_of:aX K mg "layers_of" ef ["cuts"]
 d_ties_of_cuts:aX K mg "ties_of_cuts" dR ["cuts"]
 d_ties_of_sayings:aX K mg "ties_of_sayings" cH ["sayings"]
 d_law_cell_at:aX K mg "_law_cell_at" eD ["_law_script","_law_k"]
 d_law_row:aX K mg "_law_row" jg ["_law_script","_law_many"]
 d_law_column:aX K mg "_law_column" fi ["_law_number","_law_high","_law_wild"]
 d_law_sign:aX K mg "_law_sign" ic ["_law_at","_law_shift"]
 d_law_cut:aX K mg "_law_cut" cR ["_law_row_here","_law_shift"]
 d_law_saying:aX K mg "_law_saying" fj ["_law_one","_law_two","_law_layers"]
 d_law_ground:aX K mg "_law_ground" dw ["_law_row_here"]
 d_law_one_with:aX K mg "_law_one_with" dS ["_law_layer","_law_sayings"]
 d_law_due:aX K mg "_law_due" jh ["_law_layers","_law_sayings"]
 d_law_right:aX K mg "_law_right" ei ["_law_found","_law_due_here"]
 o_Ground:wC K mg "Ground"
 n_Ground_kept_cuts:en K (ck mg "Ground") "kept_cuts"
 n_Ground_kept_sayings:en K (ck mg "Ground") "kept_sayings"
 n_Ground_kept_layers:en K (ck mg "Ground") "kept_layers"
 n_Ground_kept_ties:en K (ck mg "Ground") "kept_ties"
 i_Ground:wD K mg "Ground" "Ground.__init__" bC ["self","cuts","sayings"]
 m_Ground_sayings:sK K mg "Ground" "sayings" "Ground.sayings" bH ["self"]
 m_Ground_layers:sK K mg "Ground" "layers" "Ground.layers" bR ["self"]
 t_YEAR_WORDS:GvT K mg "YEAR_WORDS" [.str "since",.str "by"]
 t_LAYER_WORDS:GvT K mg "LAYER_WORDS" [.str "later",.str "same"]
section
variable{P:Program}{w:World}{K:PySem.W.Frag}{mg:Str->Option Value}{base:Heap}
theorem bD{n:Nat}(h:n<=5000):n<=sizeLine:=Yd h (by decide)
theorem aU{n:Nat}(h:n<=5000):n<sizeLine:=Nat.lt_of_le_of_lt h (by decide)
theorem af.upd{H:Hp}{p:Addr}{o:HO}(h:H p=none):af H (upd H p o):=fun b u e=>by rw[ai (ap e h)];exact e
theorem af.set{H H':Hp}{p:Addr}{o:HO}(sm:af H H')(h:H p=none):af H (L2.upd H' p o):=fun b u e=>by rw[ai (ap e h)];exact sm b u e
theorem BP{α:Type}(xs:List α){i:Int}(h0:0<=i)(h1:i<(xs.length:Int)):∃c,atI xs i=some c/\c∈xs:=by
 obtain⟨j,rfl⟩:=Xa h0;have hj:j<xs.length:=by lia
 exact⟨xs[j],cF (by simp[hj]),Ya hj⟩
theorem iM(xs:List Int){i:Int}(h0:0<=i)(h1:i<(xs.length:Int)):∃c,atI (xs.map V.int) i=some (V.int c)/\c∈xs:=by
 obtain⟨j,rfl⟩:=Xa h0;have hj:j<xs.length:=by lia
 exact⟨xs[j],cF (by simp[hj]),Ya hj⟩
theorem zk:(d6.cps.toList.length:Int)=26:=by decide +kernel
theorem cy(T:Txt K mg):Cal P w K mg base 1 "_law_cell_at" ["_law_script","_law_k"] (rB K):=by
 refine T.d_law_cell_at.cal kP (fun vs H Q E h=>?_) (fun f cdv A outer s H vs Q E hr h=>?_)
 ·obtain⟨a,ns,k,rfl,_⟩:=h;rfl
 ·obtain⟨a,ns,k,rfl,hs,h0,q⟩:=h;refine⟨_,(QSs.h (ah (ifS (cc qD rfl (vn 1 rfl Z0 rfl rfl) (cbE (dL (K:=K) rfl) rfl T.b_len PySem.boot_len rfl rfl rfl (paE rfl (vn 0 rfl Z0 rfl rfl) aj)))
   (am (bg (cA (K:=K) rfl (fun _ _=>rfl) (vn 0 rfl Z0 rfl rfl) (vn 1 rfl Z0 rfl rfl))))
   bu)
   (am (bg ao)))),?_⟩
  show bL _ _ _ [some (.ref a),some (.int k)] H;walk_at "rd";refine⟨_,.inl ⟨_,hs,rfl⟩,bZ (fun hk=>?_) fun hk=>?_⟩
  ·have hk:=Zo hk;rw[Z6]at hk;refine⟨_,hs,.int (ns.getD k.toNat 0),?_,q⟩;obtain⟨j,rfl⟩:=Xa h0;have hj:j<ns.length:=by lia
   exact cF (by simp[hj])
  ·have hk: ¬ k<((ns.map V.int).length:Int):=by simpa using hk
   rw[Z6]at hk;have e:ns.getD k.toNat 0=0:=by
    rw[Zc,Xe (by lia)];rfl
   rw[e]at q;exact q
theorem uu(T:Txt K mg):Cal P w K mg base 2 "_law_row" ["_law_script","_law_many"] (AW K):=by
 refine T.d_law_row.cal cg (fun vs H Q E h=>?_) (fun f cdv A outer s H vs Q E hr h=>?_)
 ·obtain⟨a,ns,m,rfl,_⟩:=h;rfl
 ·obtain⟨a,ns,m,rfl,hs,hn,h0,h1,q⟩:=h;refine⟨_,(QSs.h (ah (ba 2 cg.nd rfl Z0 Z1 rfl (dZ aj))
   (ah (ba 3 cg.nd rfl Z0 Z1 rfl (opE eA (cbE ⟨vm⟩ rfl T.b_abs boot_abs rfl rfl rfl (paE rfl (aO (cy T) hr rfl rfl rfl rfl (paE rfl (vn 0 rfl Z0 rfl rfl) (paE rfl ao aj))) aj)) (ctE zc rfl T.b_int boot_int rfl rfl rfl (paE rfl (jL dh rfl (opE bJ (aO (cy T) hr rfl rfl rfl rfl (paE rfl (vn 0 rfl Z0 rfl rfl) (paE rfl ao aj))) ao) ao) aj))))
   (ah (dm PassesOwn.never rfl rfl (l8 rfl T.b_range rfl (paE rfl (vn 1 rfl Z0 rfl rfl) aj)) (au 4 cg.nd rfl Z0 Z1)
   (am (ifS (cc AD rfl (vn 3 rfl Z0 rfl rfl) ao)
    (ah (cu rfl (bmE (K:=K) rfl plainAttrs_list PySem.F.slot_list_append PySem.F.type_list_append bv rfl rfl rfl rfl (vn 2 rfl Z0 rfl rfl) (paE rfl (opE bJ (vn 3 rfl Z0 rfl rfl) ao) aj)))
     (am (ba 3 cg.nd rfl Z0 Z1 rfl (opE dJ (vn 3 rfl Z0 rfl rfl) ao))))
    (ah (ba 5 cg.nd rfl Z0 Z1 rfl (aO (cy T) hr rfl rfl rfl rfl (paE rfl (vn 0 rfl Z0 rfl rfl) (paE rfl (opE cf ao (opE bJ (vn 4 rfl Z0 rfl rfl) (cbE (zb rfl) rfl T.b_max boot_max rfl rfl rfl (paE rfl ao (paE rfl (opE oG (cbE (dL (K:=K) rfl) rfl T.b_len PySem.boot_len rfl rfl rfl (paE rfl (vn 0 rfl Z0 rfl rfl) aj)) ao) aj))))) aj))))
     (ah (ba 6 cg.nd rfl Z0 Z1 rfl (opE bJ (opE eA (opE cf (opE cf (opE bJ (vn 5 rfl Z0 rfl rfl) ao) (opE eA ao (vn 4 rfl Z0 rfl rfl))) ao) ao) ao))
     (ah (ba 7 cg.nd rfl Z0 Z1 rfl (opE bJ (opE cf (opE qC (vn 6 rfl Z0 rfl rfl) (vn 6 rfl Z0 rfl rfl)) (opE eA ao (vn 4 rfl Z0 rfl rfl))) ao))
     (am (cu rfl (bmE (K:=K) rfl plainAttrs_list PySem.F.slot_list_append PySem.F.type_list_append bv rfl rfl rfl rfl (vn 2 rfl Z0 rfl rfl) (paE rfl (opE bJ (opE bJ (opE qC (vn 7 rfl Z0 rfl rfl) (vn 7 rfl Z0 rfl rfl)) ao) ao) aj))))))))))
   (am (bg (vn 2 rfl Z0 rfl rfl))))))),?_⟩
  show bL _ _ _ [some (.ref a),some (.int m),none,none,none,none,none,none] H;refine iY fun n1 c1=>?_
  walk_at "rd";refine⟨X7 _,fun l hl=>c1 _ _ (iY fun n2 c2=>?_)⟩;have sml:af H (upd H l (.lst [])):=af.upd hl;walk_at "rd";refine⟨a,ns,1,rfl,sml.seq hs,by decide,_,rfl,a,ns,0,rfl,sml.seq hs,by decide,_,rfl,by decide,?_⟩;refine⟨.inr (by split<;> exact⟨by decide,by decide⟩),c2 _ _ (iY fun n3 c3=>ay fun Kont hK=>?_)⟩;walk_at "rd";refine⟨by lia,by lia,hK _ _ (dz (fun i σ H'=>∃(n:Int) (o o1 o2 o3:Option V) (xs:List Int),σ=[some (.ref a),some (.int m),some (.ref l),some (.int n),o,o1,o2,o3]/\af H H'/\H' l=some (.lst (xs.map V.int))/\xs.length=i/\∀x∈xs,0<=x/\x<9973)
   ⟨_,none,none,none,none,[],rfl,sml,aa,rfl,fun _ h=>nomatch h⟩ ?_ ?_)⟩
  ·rintro i σ H' hi ⟨n,o,o1,o2,o3,xs,rfl,sm,hl',hx,hall⟩;have hi':i<100:=by lia
   have hs':=sm.seq hs;show jH _ _ _ _ [some (.ref a),some (.int m),some (.ref l),some (.int n),some (.int (0+i)),o1,o2,o3] H';rw[Int.zero_add];have put:∀v:Int,0<=v->v<9973->af H (upd H' l (.lst (xs.map V.int++[.int v])))/\∃xs2:List Int,upd H' l (.lst (xs.map V.int++[.int v])) l=some (.lst (xs2.map V.int))/\xs2.length=i+1/\∀x∈xs2,0<=x/\x<9973:=fun v v0 v1=>
    ⟨af.set sm hl,xs++[v],by rw[aa,Zd];rfl,by rw[Z9,hx];rfl,fun y hy=>by
     rcases Xg hy with q|q
     ·exact hall y q
     ·rw[Xh q];exact⟨v0,v1⟩⟩
   have len:(xs.map V.int).length<sizeLine:=by rw[Z6,hx];exact aU (by lia)
   have mx:∀x:Nat,(0:Int)<(if(x:Int) -1>1 then(x:Int) -1 else 1):=fun x=>by split<;> lia
   refine aD fun D1 k1 _=>?_
   walk_at "rd";refine bZ (fun _=>?_) fun _=>?_
   ·refine⟨.inl ⟨_,SqL.of hl'⟩,by decide,_,hl',len,⟨by decide,by decide⟩,k1 _ _ ?_⟩;obtain⟨p1,xs2,p2,p3,p4⟩:=put (n%9973) (by lia) (by lia);exact⟨_,_,_,_,_,xs2,rfl,p1,p2,p3,p4⟩
   ·refine⟨_,.inl ⟨_,hs',rfl⟩,mx _,a,ns,_,rfl,hs',?_,?_⟩
    ·have:=Int.emod_nonneg (i:Int) (Int.ne_of_gt (mx (ns.map V.int).length))
     lia
    generalize ns.getD _ 0=c
    walk_at "rd";refine⟨by decide,.inl ⟨by decide,by decide⟩,.inr ⟨by decide,by decide⟩,by decide,?_⟩;have b1:=Int.emod_nonneg ((c%1000003+7919*i+1)*48271) (by decide:(2147483629:Int)≠0);have b2:=Int.emod_lt_of_pos ((c%1000003+7919*i+1)*48271) (by decide:(0:Int)<2147483629)
    generalize (c%1000003+7919*i+1)*48271%2147483629=one at b1 b2
    refine⟨.inl ⟨by lia,by lia⟩,.inl ⟨by decide,by decide⟩,by decide,?_⟩;have b3:=Int.emod_nonneg (one*one+104729*i) (by decide:(2147483587:Int)≠0);have b4:=Int.emod_lt_of_pos (one*one+104729*i) (by decide:(0:Int)<2147483587)
    generalize (one*one+104729*i)%2147483587=two at b3 b4
    refine⟨.inl ⟨_,SqL.of hl'⟩,.inl ⟨by lia,by lia⟩,by decide,by decide,_,hl',len,k1 _ _ ?_⟩;obtain⟨p1,xs2,p2,p3,p4⟩:=put (two*two%2147483563%9973) (by lia) (by lia);exact⟨_,_,_,_,_,xs2,rfl,p1,p2,p3,p4⟩
  ·rintro σ H' ⟨n,o,o1,o2,o3,xs,rfl,sm,hl',hx,hall⟩;refine c3 _ _ ?_;walk_at "rd";exact q l H' xs sm hl hl' hx hall
theorem AY{i:Int}(h0:0<=i)(h1:i<26):atI d6.cps.toList i=some (97+i.toNat):=by
 obtain⟨j,rfl⟩:=Xa h0;have hj:j<26:=by lia
 have all:∀j:Fin 26,d6.cps.toList[j.1]? =some (97+j.1):=by decide +kernel
 exact cF (all ⟨j,hj⟩)
theorem kQ(T:Txt K mg):Cal P w K mg base 1 "_law_sign" ["_law_at","_law_shift"] yO:=by
 refine T.d_law_sign.cal pM (fun vs H Q E h=>?_) (fun f cdv A outer s H vs Q E hr h=>?_)
 ·obtain⟨a,s,rfl,_⟩:=h;rfl
 ·obtain⟨a,sh,rfl,h0,kk⟩:=h;refine⟨_,(QSs.h (ah (ifS (cc qD rfl (vn 0 rfl Z0 rfl rfl) ao)
   (am (bg dI))
   bu)
   (am (bg (ixSE (fun _ _=>rfl) dI (opE bJ (opE gW (opE qC (vn 0 rfl Z0 rfl rfl) ao) (vn 1 rfl Z0 rfl rfl)) ao)))))),?_⟩
  show bL _ _ _ [some (.int a),some (.int sh)] H;walk_at "rd";unfold sg at kk;refine bZ (fun ha=>?_) fun ha=>?_
  ·have ha:=Zo ha;rw[if_pos ha]at kk;exact kk
  ·have ha: ¬ a<0:=by simpa using ha
   rw[if_neg ha]at kk;refine⟨.inr ⟨by decide,by decide⟩,by decide,(show 26<=sizeLine by decide),_,AY (by lia) (by lia),kk⟩
theorem nJ(T:Txt K mg):Cal P w K mg base 1 "_law_column" ["_law_number","_law_high","_law_wild"] ut:=by
 refine T.d_law_column.cal bo (fun vs H Q E h=>?_) (fun f cdv A outer s H vs Q E hr h=>?_)
 ·obtain⟨n,hi,wd,rfl,_⟩:=h;rfl
 ·obtain⟨n,hi,wd,rfl,n0,h1,h6,kk⟩:=h;refine⟨_,(QSs.h (ah (ba 3 bo.nd rfl Z0 Z1 rfl (opE bJ (vn 0 rfl Z0 rfl rfl) ao))
   (ah (ba 4 bo.nd rfl Z0 Z1 rfl (opE bJ (opE dJ (vn 0 rfl Z0 rfl rfl) ao) ao))
   (ah (ba 0 bo.nd rfl Z0 Z1 rfl (opE dJ (vn 0 rfl Z0 rfl rfl) ao))
   (ah (ba 5 bo.nd rfl Z0 Z1 rfl (dZ aj))
   (ah (dm PassesOwn.never rfl rfl (l8 rfl T.b_range rfl (paE rfl (vn 1 rfl Z0 rfl rfl) aj)) (au 6 bo.nd rfl Z0 Z1)
   (am (ifS (wT (mX (cc qD rfl (vn 6 rfl Z0 rfl rfl) (vn 3 rfl Z0 rfl rfl)) (kn (cc qD rfl (vn 6 rfl Z0 rfl rfl) (opE oG (vn 1 rfl Z0 rfl rfl) ao)))))
    (am (cu rfl (bmE (K:=K) rfl plainAttrs_list PySem.F.slot_list_append PySem.F.type_list_append bv rfl rfl rfl rfl (vn 5 rfl Z0 rfl rfl) (paE rfl (vZ ao) aj))))
    (ah (cu rfl (bmE (K:=K) rfl plainAttrs_list PySem.F.slot_list_append PySem.F.type_list_append bv rfl rfl rfl rfl (vn 5 rfl Z0 rfl rfl) (paE rfl (vn 4 rfl Z0 rfl rfl) aj)))
     (ah (ba 4 bo.nd rfl Z0 Z1 rfl (cbE (zb rfl) rfl T.b_max boot_max rfl rfl rfl (paE rfl ao (paE rfl (cbE (BB rfl) rfl T.b_min boot_min rfl rfl rfl (paE rfl ao (paE rfl (opE gW (vn 4 rfl Z0 rfl rfl) (cA (K:=K) rfl (fun _ _=>rfl) (dZ (paE rfl ao (paE rfl ao (paE rfl (cA (K:=K) rfl (fun _ _=>rfl) (dZ (paE rfl ao (paE rfl (vZ ao) aj))) (ctE zc rfl T.b_int boot_int rfl rfl rfl (paE rfl (vn 2 rfl Z0 rfl rfl) aj))) aj)))) (opE bJ (vn 0 rfl Z0 rfl rfl) ao))) aj))) aj))))
     (am (ba 0 bo.nd rfl Z0 Z1 rfl (opE dJ (vn 0 rfl Z0 rfl rfl) ao))))))))
   (am (bg (vn 5 rfl Z0 rfl rfl))))))))),?_⟩
  show bL _ _ _ [some (.int n),some (.int hi),some (.bl wd),none,none,none,none] H;refine ak fun D1 k1 _=>?_
  walk_at "rd";refine⟨by decide,k1 _ _ (ak fun D2 k2 _=>?_)⟩;walk_at "rd";refine⟨⟨by decide,by decide⟩,by decide,k2 _ _ (ak fun D3 k3 _=>?_)⟩;walk_at "rd";refine⟨⟨by decide,by decide⟩,k3 _ _ (ak fun D4 k4 _=>?_)⟩;walk_at "rd";refine⟨X7 _,fun L hL=>k4 _ _ (ak fun D5 k5 r5=>ay fun Kont hK=>?_)⟩;walk_at "rd";have hair:∃air:Nat,(air:Int)=(if n%3<hi-1 then n%3 else hi-1):=by
   split
   ·exact⟨(n%3).toNat,by lia⟩
   ·exact⟨(hi-1).toNat,by lia⟩
  obtain⟨air,ea⟩:=hair;refine⟨by lia,by lia,hK _ _ (dz (fun i σ H'=>∃(m at':Int) (o:Option V) (cs:List Int),σ=[some (.int m),some (.int hi),some (.bl wd),some (.int (n%3)),some (.int at'),some (.ref L),o]/\0<=at'/\at'<=7/\af H H'/\H' L=some (.lst (cs.map V.int))/\cs.length=i/\
   ∀(k:Nat) (c:Int),cs[k]? =some c->(k<air->c= -1)/\(air<=k->0<=c/\c<=7))
   ⟨_,_,none,[],rfl,by lia,by lia,af.upd hL,aa,rfl,fun k c e=>by simp at e⟩ ?_ ?_)⟩
  ·rintro i σ H' hi' ⟨m,at',o,cs,rfl,a0,a7,sm,hl',hx,hall⟩;show jH _ _ _ _ [some (.int m),some (.int hi),some (.bl wd),some (.int (n%3)),some (.int at'),some (.ref L),some (.int (0+i))] H';rw[Int.zero_add];have len:(cs.map V.int).length<sizeLine:=by rw[Z6,hx];exact aU (by lia)
   have put:∀v:Int,(i<air->v= -1)->(air<=i->0<=v/\v<=7)->∀(k:Nat) (c:Int),(cs++[v])[k]? =some c->(k<air->c= -1)/\(air<=k->0<=c/\c<=7):=fun v v1 v2 k c e=>by
    by_cases hk:k<cs.length
    ·rw[Y6 hk]at e;exact hall k c e
    ·have ek:k=i:=by
      have:=(Xf e).1;rw[Z9]at this;simp only[Zr,length_nil]at this
      lia
     subst ek;rw[Y7 (by lia),hx,sub_self]at e;cases e;exact⟨v1,v2⟩
   refine aD fun D6 k6 _=>?_
   walk_at "rd";have fin:∀_v:Int,¬ i<air->∀(m2 at2:Int) (HH:Hp),0<=at2->at2<=7->af (upd H' L (.lst (cs.map V.int++[.int at']))) HH->D6.nx [some (.int m2),some (.int hi),some (.bl wd),some (.int (n%3)),some (.int at2),some (.ref L),some (.int i)] HH:=fun v hv m2 at2 HH b0 b7 sh=>
    k6 _ _ ⟨m2,at2,_,cs++[at'],rfl,b0,b7,(af.set sm hL).trans sh,by rw[sh L _ aa,Zd];rfl,by rw[Z9,hx];rfl,put at' (fun z=>absurd z hv) fun _=>⟨a0,a7⟩⟩
   refine bZ (fun hA=>bZ (fun hB=>?g1) fun hB=>?g2) fun hA=>?g3
   case g1=>
    simp only[decide_eq_true_eq]at hA hB;have hlt:i<air:=by split at ea<;> lia
    exact⟨.inl ⟨_,SqL.of hl'⟩,_,hl',len,k6 _ _ ⟨m,at',_,cs++[-1],rfl,a0,a7,af.set sm hL,by rw[aa,Zd];rfl,by rw[Z9,hx];rfl,put (-1) (fun _=>rfl) fun z=>absurd hlt (by lia)⟩⟩
   all_goals
    have hge: ¬ i<air:=by
     simp only[decide_eq_true_eq]at*
     split at ea<;> lia
    refine⟨.inl ⟨_,SqL.of hl'⟩,_,hl',len,(show 2<=sizeLine by decide),fun p hp=>⟨_,SqL.of aa,.int (if wd=true then -1 else 2),by cases wd<;> rfl,(show 3<=sizeLine by decide),fun p1 hp1=>⟨by decide,_,SqL.of aa,?_⟩⟩⟩;obtain⟨c,hc,_⟩:=iM [0,1,if wd=true then -1 else 2] (i:=m%3) (by lia) (by show m%3<3;lia);refine⟨_,hc,c,rfl,⟨by decide,by decide⟩,fin 0 hge _ _ _ ?_ ?_ ((af.upd hp).trans (af.upd hp1))⟩<;>(split<;>(try split)<;> lia)
  ·rintro σ H' ⟨m,at',o,cs,rfl,a0,a7,sm,hl',hx,hall⟩;refine k5 _ _ ?_;walk_at "rd";exact kk L H' cs sm hL hl' (by lia) ⟨air,by lia,hall⟩
theorem pN(xs:List Int){lo hi:Int}(h0:0<=lo)(h1:lo<=hi)(h2:hi<=xs.length):fN (xs.map V.int) (some lo) (some hi)=((xs.drop lo.toNat).take (hi.toNat-lo.toNat)).map V.int:=by
 unfold fN;rw[Z6];have e1:HT.sIx xs.length 0 (some lo)=lo.toNat:=by
  show(if lo<0 then _ else min lo.toNat xs.length)=_;rw[if_neg (by lia)]
  lia
 have e2:HT.sIx xs.length xs.length (some hi)=hi.toNat:=by
  show(if hi<0 then _ else min hi.toNat xs.length)=_;rw[if_neg (by lia)]
  lia
 rw[e1,e2,map_take,map_drop]
theorem BT(p:Nat->Bool)(n:Nat):inV (V.bl true) ((List.range n).map fun r=>V.bl (p r))=(List.range n).any p:=by
 unfold inV;rw[any_map]
 congr 1
 funext r;show eqV (V.bl (p r)) (V.bl true)=p r;cases p r<;> rfl
theorem uv{α:Type}(p:α->Bool)(xs:List α):inV (V.bl true) (xs.map fun r=>V.bl (p r))=xs.any p:=by
 unfold inV;rw[any_map]
 congr 1
 funext r;show eqV (V.bl (p r)) (V.bl true)=p r;cases p r<;> rfl
theorem yP(a:Int)(cs:List Int):inV (V.int a) (cs.map V.int)=decide (a∈cs):=by
 unfold inV;rw[any_map]
 induction cs with
 | nil=>rfl
 | cons c r ih=>
   rw[Zy,ih];show((c==a)||_)=_;by_cases h:c=a
   ·subst h;simp
   ·have:a≠c:=fun e=>h e.symm
    simp[h,this]
theorem uw(cs:List Int):(cs.map V.int).all eF=true:=by simp[eF]
theorem ux(T:Txt K mg):Cal P w K mg base 2 "_law_cut" ["_law_row_here","_law_shift"] (AX K):=by
 refine T.d_law_cut.cal bO (fun vs H Q E h=>?_) (fun f cdv A outer s H vs Q E hr h=>?_)
 ·obtain⟨a,xs,sh,rfl,_⟩:=h;rfl
 ·obtain⟨a,xs,sh,rfl,hs,keep,hx6,hb,s0,kk⟩:=h;have get:∀i:Int,0<=i->i<6->∃c,atI (xs.map V.int) i=some (V.int c)/\0<=c/\c<9973:=fun i h0 h1=>by
   obtain⟨c,e,hm⟩:=iM xs h0 (by lia);exact⟨c,e,hb c hm⟩
  obtain⟨c0,g0,l0,u0⟩:=get 0 (by decide) (by decide);refine⟨_,(QSs.h (ah (ba 2 bO.nd rfl Z0 Z1 rfl (opE cf ao (opE bJ (cA (K:=K) rfl (fun _ _=>rfl) (vn 0 rfl Z0 rfl rfl) ao) ao)))
   (ah (ba 3 bO.nd rfl Z1 Z0 rfl (opE cf ao (opE bJ (opE dJ (cA (K:=K) rfl (fun _ _=>rfl) (vn 0 rfl Z0 rfl rfl) ao) ao) ao)))
   (ah (ba 4 bO.nd rfl Z1 Z0 rfl (jL dh rfl (opE bJ (opE dJ (cA (K:=K) rfl (fun _ _=>rfl) (vn 0 rfl Z0 rfl rfl) ao) ao) ao) ao))
   (ah (wG 5 bO.nd rfl Z1 Z0 rfl (eI (ax.of (show bU (ag cR) ["_law_row_here","_law_shift","_law_wide","_law_high","_law_wild","_law_columns","_law_rows","_law_k","_law_signs","_law_there"] _ ["_law_number","_law_high","_law_wild"] [(1,3),(2,4)]=true from by decide +kernel)) rfl rfl (cW (K:=K) rfl (slE (K:=K) rfl (vn 0 rfl Z0 rfl rfl) (fC ao) (fC (opE cf ao (vn 2 rfl Z0 rfl rfl))))) (fun _ _ _=>(au 0 (show(["_law_number","_law_high","_law_wild"]:List Str).Nodup from by decide +kernel) rfl Z0 Z1)) (fun _ _ _=>i4) (fun _ _ _=>(aO (nJ T) hr rfl rfl rfl rfl (paE rfl (vn 0 rfl Z0 rfl rfl) (paE rfl (vn 1 rfl (Or.inr Z0) rfl rfl) (paE rfl (vn 2 rfl (Or.inr Z0) rfl rfl) aj)))))))
   (ah (ba 6 bO.nd rfl Z0 Z1 rfl (dZ aj))
   (ah (dm PassesOwn.never rfl rfl (l8 rfl T.b_range rfl (paE rfl (vn 3 rfl (Or.inr Z0) rfl rfl) aj)) (au 7 bO.nd rfl Z1 Z0)
   (ah (kr 8 bO.nd rfl Z0 Z1 rfl (ax.of (show bU (ag cR) ["_law_row_here","_law_shift","_law_wide","_law_high","_law_wild","_law_columns","_law_rows","_law_k","_law_signs","_law_there"] _ ["_law_column_here","_law_k"] [(1,7)]=true from by decide +kernel)) rfl rfl (cW (K:=K) rfl (vn 5 rfl (Or.inr Z0) rfl rfl)) (fun _ _ _=>(au 0 (show(["_law_column_here","_law_k"]:List Str).Nodup from by decide +kernel) rfl Z0 Z1)) (fun _ _ _=>i4) (fun _ _ _=>(cA (K:=K) rfl (fun _ _=>rfl) (vn 0 rfl Z0 rfl rfl) (vn 1 rfl (Or.inr Z0) rfl rfl))))
    (am (cu rfl (bmE (K:=K) rfl plainAttrs_list PySem.F.slot_list_append PySem.F.type_list_append bv rfl rfl rfl rfl (vn 6 rfl Z0 rfl rfl) (paE rfl (bmE (K:=K) rfl plainAttrs_str slot_str_join type_str_join (qF (K:=K) rfl) rfl rfl rfl rfl dI (paE rfl (eI (ax.of (show bU (ag cR) ["_law_row_here","_law_shift","_law_wide","_law_high","_law_wild","_law_columns","_law_rows","_law_k","_law_signs","_law_there"] _ ["_law_at","_law_shift"] [(1,1)]=true from by decide +kernel)) rfl rfl (cW (K:=K) rfl (vn 8 rfl Z0 rfl rfl)) (fun _ _ _=>(au 0 (show(["_law_at","_law_shift"]:List Str).Nodup from by decide +kernel) rfl Z0 Z1)) (fun _ _ _=>i4) (fun _ _ _=>(aO (kQ T) hr rfl rfl rfl rfl (paE rfl (vn 0 rfl Z0 rfl rfl) (paE rfl (vn 1 rfl (Or.inr Z0) rfl rfl) aj))))) aj)) aj))))))
   (ah (kr 9 bO.nd rfl Z0 Z1 rfl (ax.of (show bU (ag cR) ["_law_row_here","_law_shift","_law_wide","_law_high","_law_wild","_law_columns","_law_rows","_law_k","_law_signs","_law_there"] _ ["_law_at","_law_columns"] [(1,5)]=true from by decide +kernel)) rfl rfl (l8 rfl T.b_range rfl (paE rfl ao aj)) (fun _ _ _=>(au 0 (show(["_law_at","_law_columns"]:List Str).Nodup from by decide +kernel) rfl Z1 Z0)) (fun _ _ _=>(v9 (cc (qE (K:=K) rfl) rfl eBl (eI (ax.of (show bU _ ["_law_at","_law_columns"] _ ["_law_column_here","_law_at"] [(1,0)]=true from rfl)) rfl rfl (cW (K:=K) rfl (vn 1 rfl (Or.inr Z0) rfl rfl)) (fun _ _ _=>(au 0 (show(["_law_column_here","_law_at"]:List Str).Nodup from by decide +kernel) rfl Z0 Z1)) (fun _ _ _=>i4) (fun _ _ _=>(jL (qE (K:=K) rfl) rfl (vn 1 rfl (Or.inr Z0) rfl rfl) (vn 0 rfl Z0 rfl rfl))))))) (fun _ _ _=>(vn 0 rfl (Or.inr Z0) rfl rfl)))
   (am (bg (fR (paE rfl (bmE (K:=K) rfl plainAttrs_str slot_str_join type_str_join (qF (K:=K) rfl) rfl rfl rfl rfl dI (paE rfl (vn 6 rfl Z0 rfl rfl) aj)) (paE rfl (vn 9 rfl Z0 rfl rfl) aj))))))))))))),?_⟩
  show bL _ _ _ [some (.ref a),some (.int sh),none,none,none,none,none,none,none,none] H;refine ak fun D1 k1 _=>?_
  walk_at "rd";refine⟨_,hs,_,g0,c0,rfl,by decide,k1 _ _ (ak fun D2 k2 _=>?_)⟩;walk_at "rd";refine⟨_,hs,_,g0,c0,rfl,⟨by decide,by decide⟩,by decide,k2 _ _ (ak fun D3 k3 _=>?_)⟩;walk_at "rd";refine⟨_,hs,_,g0,c0,rfl,⟨by decide,by decide⟩,by decide,k3 _ _ (ak fun D4 k4 _=>?_)⟩;have w1:1<=1+c0%5:=by lia
  have w5:1+c0%5<=5:=by lia
  have i1:1<=1+c0/5%6:=by lia
  have i6:1+c0/5%6<=6:=by lia
  generalize hwd:1+c0%5=wd at w1 w5
  generalize 1+c0/5%6=hi at i1 i6
  generalize decide (c0/30%8=0)=wild
  refine aL fun Kont hK=>?_
  walk_at "rd";refine .inl ⟨_,hs,fun p hp=> .inl ⟨⟨_,SqL.of aa⟩,hK _ _ fun D hD=>?_⟩⟩;rw[pN xs (by decide) (by lia) (by lia)]at hD ⊢;have hyl:((xs.drop (Int.toNat 1)).take ((1+wd).toNat-Int.toNat 1)).length=wd.toNat:=by
   rw[Yh,Ye,hx6];rw[show(1+wd).toNat=wd.toNat+1 by lia];exact Yt (by lia)
  have hyb:∀x∈(xs.drop (Int.toNat 1)).take ((1+wd).toNat-Int.toNat 1),0<=x/\x<9973:=fun x hx=>hb x (Yr (Ys hx))
  generalize (xs.drop (Int.toNat 1)).take ((1+wd).toNat-Int.toNat 1)=ys at hyl hyb hD ⊢
  have smp:af H (upd H p (.lst (ys.map V.int))):=af.upd hp;have hpp:upd H p (.lst (ys.map V.int)) p=some (.lst (ys.map V.int)):=aa
  generalize upd H p (.lst (ys.map V.int))=Hp' at smp hpp hD ⊢
  refine bG (J:=Itl K p) (n:=wd.toNat) (D:=D) (fun i zs σ H'=>(∃o,σ=[o,some (.int hi),some (.bl wild)])/\af Hp' H'/\H' D=some (.lst zs)/\∃cs:List (Addr×List Int),zs=cs.map (fun q=>V.ref q.1)/\cs.length=i/\nI H' cs/\∀q∈cs,q.1≠D/\q.2.length=hi.toNat/\jE q.2)
   ⟨⟨none,rfl⟩,af.upd hD,aa,[],rfl,rfl,fun q hq=>(nomatch hq),fun q hq=>(nomatch hq)⟩
   (fun i _ _ H' hi' ⟨_,sm,_⟩=>⟨_,V.int (ys[i]'(by lia)),SqL.of (sm _ _ hpp),by simp[show i<ys.length by lia]⟩) (fun _ _ H' ⟨_,sm,_⟩=>⟨_,SqL.of (sm _ _ hpp),by simp[hyl]⟩) ?_ ?_
  ·rintro i zs σ H' hi' ⟨⟨o,rfl⟩,sm,hDv,cs,rfl,hcl,hca,hcp⟩ x H2 ⟨e2,hx⟩;subst e2;have hil:i<ys.length:=by lia
   have hxi:=hx _ (SqL.of (sm _ _ hpp));rw[Zl,Z4 hil]at hxi;obtain rfl:x=V.int ys[i]:=(Za hxi).symm;walk_at "rd";refine⟨_,_,_,rfl,(hyb _ (Ya hil)).1,i1,i6,fun l H3 col sm3 hl3 hl3' hcol hok=>?_⟩;have hlD:l≠D:=fun e=>by rw[e,hDv]at hl3;cases hl3
   refine CK.mk hi' (sm3 _ _ hDv) (by rw[Z6,hcl];exact aU (by lia)) ⟨⟨_,rfl⟩,af.set (sm.trans sm3) hD,aa,cs++[(l,col)],by rw[Zd];rfl,by rw[Z9,hcl];rfl,fun q hq=>?_,fun q hq=>?_⟩
   ·rcases Xg hq with z|z
    ·rw[ai (hcp q z).1];exact sm3 _ _ (hca q z)
    ·rw[Xh z,ai hlD];exact hl3'
   ·rcases Xg hq with z|z
    ·exact hcp q z
    ·rw[Xh z];exact⟨hlD,hcol,hok⟩
  rintro zs σ H4 ⟨_,sm4,hD4,cs,rfl,hcl,hca,hcp⟩;have sH4:af H H4:=smp.trans sm4;refine k4 _ _ (ak fun D5 k5 _=>?_);walk_at "rd";refine⟨X7 _,fun R hR=>k5 _ _ (ak fun D6 k6 _=>ay fun Kont hK=>?_)⟩;walk_at "rd";have hcl':(cs.map (·.2)).length=wd.toNat:=by rw[Z6];exact hcl
  refine⟨by lia,by lia,hK _ _ (dz (fun i σ H'=>∃o7 o8,σ=[some (.ref a),some (.int sh),some (.int wd),some (.int hi),some (.bl wild),some (.ref D),some (.ref R),o7,o8,none]/\af H4 H'/\H' R=some (.lst (((List.range i).map (f9 (cs.map (·.2)) sh)).map V.str)))
   ⟨_,_,rfl,af.upd hR,aa⟩ ?_ ?_)⟩
  ·rintro i σ H5 hi5 ⟨o7,o8,rfl,sm5,hR5⟩;show bL _ _ _ [some (.ref a),some (.int sh),some (.int wd),some (.int hi),some (.bl wild),some (.ref D),some (.ref R),some (.int (0+i)),o8,none] H5;rw[Int.zero_add];refine ak fun D7 k7 _=>aL fun Kont hK=>?_
   walk_at "rd";refine .inl ⟨⟨_,SqL.of (sm5 _ _ hD4)⟩,hK _ _ fun E hE=>?_⟩;refine bG (J:=Itl K D) (n:=wd.toNat) (D:=E) (fun q zs σ H'=>(∃o,σ=[o,some (.int i)])/\af H5 H'/\H' E=some (.lst zs)/\zs=((cs.take q).map (fun p=>p.2.getD i 0)).map V.int)
    ⟨⟨none,rfl⟩,af.upd hE,aa,rfl⟩
    (fun q _ _ H' hq ⟨_,sm,_⟩=>⟨_,V.ref (cs[q]'(by lia)).1,SqL.of (sm _ _ (sm5 _ _ hD4)),by simp[show q<cs.length by lia]⟩) (fun _ _ H' ⟨_,sm,_⟩=>⟨_,SqL.of (sm _ _ (sm5 _ _ hD4)),by simp[hcl]⟩) ?_ ?_
   ·rintro q zs σ H' hq ⟨⟨o,rfl⟩,sm,hEv,hz⟩ x H2 ⟨e2,hx⟩;subst e2;have hql:q<cs.length:=by lia
    have hxi:=hx _ (SqL.of (sm _ _ (sm5 _ _ hD4)));rw[Zl,Z4 hql]at hxi;obtain rfl:x=V.ref cs[q].1:=(Za hxi).symm;walk_at "rd";have hm:=Ya hql;refine⟨_,SqL.of (sm _ _ (sm5 _ _ (hca _ hm))),V.int (cs[q].2.getD i 0),?_,?_⟩
    ·refine cF ?_;rw[Zl,gA (hcp _ hm).2.1 (by lia)];rfl
    ·refine CK.mk hq hEv (by rw[hz,Z6,Z6,Yh];exact aU (by lia)) ⟨⟨_,rfl⟩,af.set sm hE,aa,?_⟩;rw[hz,X2,Zd,Zd,Z4 hql];rfl
   rintro zs σ H6 ⟨_,sm6,hE6,hz⟩;rw[Zn (by lia)]at hz;refine k7 _ _ (aD fun D8 k8 _=>?_);have sm46:=sm5.trans sm6;walk_at "rd";refine⟨.inl ⟨_,SqL.of (sm6 _ _ hR5)⟩,aL fun Kont hK=>?_⟩;walk_at "rd";refine .inl ⟨⟨_,SqL.of hE6⟩,hK _ _ fun F hF=>?_⟩;refine bG (J:=Itl K E) (n:=wd.toNat) (D:=F) (fun q ts σ H'=>(∃o,σ=[o,some (.int sh)])/\af H6 H'/\H' F=some (.lst ts)/\ts=(((cs.take q).map (fun p=>sg (p.2.getD i 0) sh)).map sgn).map V.str)
    ⟨⟨none,rfl⟩,af.upd hF,aa,rfl⟩
    (fun q _ _ H' hq ⟨_,sm,_⟩=>⟨_,V.int ((cs[q]'(by lia)).2.getD i 0),SqL.of (sm _ _ hE6),by rw[hz];simp[show q<cs.length by lia]⟩) (fun _ _ H' ⟨_,sm,_⟩=>⟨_,SqL.of (sm _ _ hE6),by rw[hz];simp[hcl]⟩) ?_ ?_
   ·rintro q ts σ H' hq ⟨⟨o,rfl⟩,sm,hFv,ht⟩ x H2 ⟨e2,hx⟩;subst e2;have hql:q<cs.length:=by lia
    have hxi:=hx _ (SqL.of (sm _ _ hE6));rw[hz,Zl,Zl,Z4 hql]at hxi;obtain rfl:x=V.int (cs[q].2.getD i 0):=(Za hxi).symm;walk_at "rd";refine⟨_,_,rfl,s0,?_⟩;refine CK.mk hq hFv (by rw[ht,Z6,Z6,Z6,Yh];exact aU (by lia)) ⟨⟨_,rfl⟩,af.set sm hF,aa,?_⟩;rw[ht,X2,Zd,Zd,Zd,Z4 hql];rfl
   rintro ts σ H7 ⟨_,sm7,hF7,ht⟩;rw[Zn (by lia)]at ht;walk_at "rd";refine⟨(cs.map fun p=>sg (p.2.getD i 0) sh).map sgn,by rw[<-ht];exact SqL.of hF7,?_,_,sm7 _ _ (sm6 _ _ hR5),by rw[Z6,Z6,Yg];exact aU (by lia),k8 _ _ ⟨_,_,rfl,af.set (sm46.trans sm7) hR,?_⟩⟩
   ·rw[sD,Z6,Z6,show(Str.ofString "").length=0 from rfl]
    lia
   ·rw[aa,range_succ,Zd,Zd,show Txt.join (Str.ofString "") ((cs.map fun p=>sg (p.2.getD i 0) sh).map sgn)=Str.join (Str.ofString "") ((cs.map fun p=>sg (p.2.getD i 0) sh).map sgn)from StrLaws.glued_eq_join _ _,qQ];have e:f9 (cs.map (·.2)) sh i=⟨(cs.map fun p=>sg (p.2.getD i 0) sh).toArray⟩:=by
     unfold f9;rw[Yn];rfl
    rw[<-e];rfl
  ·rintro σ H5 ⟨o7,o8,rfl,sm5,hR5⟩;refine k6 _ _ (ak fun D7 k7 _=>aL fun Kont hK=>?_);walk_at "rd";refine⟨by decide,by decide,hK _ _ fun F hF=>?_⟩;refine bG (J:=Itr 0 8) (n:=8) (D:=F) (fun q ts σ H'=>(∃o,σ=[o,some (.ref D)])/\af H5 H'/\H' F=some (.lst ts)/\ts=(((List.range q).filter fun a:Nat=>(cs.map (·.2)).any fun c=>decide ((a:Int)∈c)).map fun a:Nat=>(a:Int)).map V.int)
    ⟨⟨none,rfl⟩,af.upd hF,aa,rfl⟩ (fun q _ _ H' hq ⟨_,sm,_⟩=>hq) (fun _ _ H' ⟨_,sm,_⟩=>Zi _) ?_ ?_
   ·rintro q ts σ H' hq ⟨⟨o,rfl⟩,sm,hFv,ht⟩ x H2 ⟨e2,e3⟩;subst e2 e3;walk_at "rd";refine aL fun Kont hK=>?_
    walk_at "rd";have hD':=sm _ _ (sm5 _ _ hD4);refine .inl ⟨⟨_,SqL.of hD'⟩,hK _ _ fun G hG=>?_⟩;refine bG (J:=Itl K D) (n:=wd.toNat) (D:=G) (fun r zs σ H3=>(∃o,σ=[o,some (.int q)])/\af H2 H3/\H3 G=some (.lst zs)/\zs=(cs.take r).map (fun p=>V.bl (decide ((q:Int)∈p.2))))
     ⟨⟨none,rfl⟩,af.upd hG,aa,rfl⟩
     (fun r _ _ H3 hr' ⟨_,s3,_⟩=>⟨_,V.ref (cs[r]'(by lia)).1,SqL.of (s3 _ _ hD'),by simp[show r<cs.length by lia]⟩) (fun _ _ H3 ⟨_,s3,_⟩=>⟨_,SqL.of (s3 _ _ hD'),by simp[hcl]⟩) ?_ ?_
    ·rintro r zs σ H3 hr' ⟨⟨o,rfl⟩,s3,hGv,hz⟩ x H4' ⟨e2,hx⟩;subst e2;have hql:r<cs.length:=by lia
     have hxi:=hx _ (SqL.of (s3 _ _ hD'));rw[Zl,Z4 hql]at hxi;obtain rfl:x=V.ref cs[r].1:=(Za hxi).symm;have hm:=Ya hql;walk_at "rd";refine⟨_,.inl (SqL.of (s3 _ _ (sm _ _ (sm5 _ _ (hca _ hm))))),rfl,uw _,?_⟩;rw[yP];refine CK.mk hr' hGv (by rw[hz,Z6,Yh];exact aU (by lia)) ⟨⟨_,rfl⟩,af.set s3 hG,aa,?_⟩;rw[hz,X2,Zd,Z4 hql];rfl
    rintro zs σ H3 ⟨_,s3,hG3,hz⟩;rw[Zn (by lia)]at hz;have hF3:=s3 _ _ hFv;walk_at "rd";refine⟨_,.inl (SqL.of hG3),rfl,by rw[hz];simp[eF],?_⟩;rw[hz,uv];have any:(cs.any fun p=>decide ((q:Int)∈p.2))=(cs.map (·.2)).any fun c=>decide ((q:Int)∈c):=by rw[any_map];rfl
    rw[any];have lenT:ts.length<sizeLine:=by
     rw[ht,Z6,Z6];have:=Yf (fun a:Nat=>(cs.map (·.2)).any fun c=>decide ((a:Int)∈c)) (List.range q);rw[Yg]at this;exact aU (by lia)
    refine bZ (fun hb=>?_) fun hb=>?_
    ·refine CK.mk hq hF3 lenT ⟨⟨_,rfl⟩,af.set (sm.trans s3) hF,aa,?_⟩;rw[ht,range_succ,Y3,Zd,Zd];rw[show List.filter (fun a:Nat=>(cs.map (·.2)).any fun c=>decide ((a:Int)∈c)) [q]=[q]from by rw[filter_cons,if_pos hb];rfl];rfl
    ·refine CN.mk hq ⟨⟨_,rfl⟩,sm.trans s3,hF3,?_⟩;rw[ht,range_succ,Y3,Zd,Zd];rw[show List.filter (fun a:Nat=>(cs.map (·.2)).any fun c=>decide ((a:Int)∈c)) [q]=[]from by rw[filter_cons,if_neg hb];rfl];simp
   rintro ts σ H6 ⟨_,sm6,hF6,ht⟩;refine k7 _ _ ?_;walk_at "rd";have hcols:∀c∈cs.map (·.2),c.length=hi.toNat/\jE c:=fun c hc=>by
    obtain⟨p,hp,rfl⟩:=Xi hc;exact(hcp p hp).2
   have hcut:bY (drawn (cs.map (·.2)) hi.toNat sh):=pJ (by lia) (by lia) (by lia) (by lia) hcols;have hR5':H5 R=some (.lst ((drawn (cs.map (·.2)) hi.toNat sh).map V.str)):=hR5;refine⟨drawn (cs.map (·.2)) hi.toNat sh,SqL.of (sm6 _ _ hR5'),?_,(show 2<=sizeLine by decide),fun p hp=>?_⟩
   ·have:=hcut.sum;have:=hcut.high;rw[show(Str.ofString "\n").length=1 from rfl]
    lia
   ·have sAll:af H (upd H6 p (.tup [V.str (Txt.join (Str.ofString "\n") (drawn (cs.map (·.2)) hi.toNat sh)),V.ref F])):=(sH4.trans (sm5.trans sm6)).trans (af.upd hp);refine kk p F _ (cs.map (·.2)) hi.toNat sAll ((sH4.trans (sm5.trans sm6)).free hp) ((sH4.trans sm5).free hF) (fun e=>by rw[e,hF6]at hp;cases hp) ?_ ?_ (by lia) (by lia) (by lia) (by lia) hcols
    ·rw[aa,show Txt.join (Str.ofString "\n") (drawn (cs.map (·.2)) hi.toNat sh)=Str.join (Str.ofString "\n") (drawn (cs.map (·.2)) hi.toNat sh)from StrLaws.glued_eq_join _ _];rfl
    ·rw[af.upd hp F _ hF6,ht];rfl
def uy:Sp:=fun vs H Q _=>∃z:Str,vs=[.str z]/\z.length<=1000/\∀H',af H H'->Q (.bl (m8 z)) H'
def rC:Sp:=fun vs H Q _=>∃row above:Str,vs=[.str row,.str above]/\row.length<=1000/\above.length<=1000/\∀H',af H H'->Q (.bl (dM row above)) H'
def lI(K:PySem.W.Frag):Sp:=fun vs H Q _=>∃(a:Addr) (rows:List Str),vs=[.ref a]/\SqL K H a (rows.map V.str)/\(rows.map (·.length)).sum<=3000/\(∀r∈rows,r.cps.toList.all okc=true)/\
 ∀l H' ss,af H H'->H l=none->H' l=some (.lst (ss.map V.str))->ss.Perm (aE ((cj rows).map sgn))->PyProof.Rows.sortedS ss=true->Q (.ref l) H'
def rD:Sp:=fun vs H Q _=>∃rows:List Str,vs=[.str (Str.join nl rows)]/\bY rows/\∀l H',af H H'->H l=none->H' l=some (.lst (rows.map V.str))->Q (.ref l) H'
theorem gC(z:Str)(i:Nat)(c:Nat)(h:z.cps[i]? =some c):(z.cps.toList.take i++[c])=z.cps.toList.take (i+1):=by
 have h':z.cps.toList[i]? =some c:=by simpa using h
 obtain⟨hlt,e⟩:=Xf h';rw[List.take_succ_eq_append_getElem hlt,e]
theorem wQ(c d:Nat):((⟨#[c]⟩:Str)=⟨#[d]⟩)↔c=d:=by
 constructor
 ·intro h;have:(#[c]:Array Nat)= #[d]:=by injection h
  simpa using this
 ·intro h;rw[h]
theorem kR(c:Nat):((⟨#[c]⟩:Str)=Str.ofString ".")↔c=46:=wQ c 46
theorem wR(T:Txt K mg):Cal P w K mg base 1 "is_row" ["row"] uy:=by
 refine T.d_is_row.cal uq (fun vs H Q E h=>?_) (fun f cdv A outer s H vs Q E hr h=>?_)
 ·obtain⟨z,rfl,_⟩:=h;rfl
 ·obtain⟨z,rfl,hz,k⟩:=h;refine⟨_,(QSs.h (am (bg (jM (qB tP tP rfl ao (cbE (dL (K:=K) rfl) rfl T.b_len PySem.boot_len rfl rfl rfl (paE rfl (vn 0 rfl Z0 rfl rfl) aj)) (gvE T.g_MOST_SIGNS rfl rfl)) (km (cbE (oH (K:=K) rfl rfl) rfl T.b_all boot_all rfl rfl rfl (paE rfl (eI (ax.of (show bU (ag iK) ["row"] _ ["sign"] []=true from by decide +kernel)) rfl rfl (cW (K:=K) rfl (vn 0 rfl Z0 rfl rfl)) (fun _ _ _=>(au 0 (show(["sign"]:List Str).Nodup from by decide +kernel) rfl Z0 Z1)) (fun _ _ _=>i4) (fun _ _ _=>(orV (jL dh rfl (vn 0 rfl Z0 rfl rfl) (gvE T.g_AIR rfl rfl)) (km (jL (qE (K:=K) rfl) rfl (vn 0 rfl Z0 rfl rfl) (gvE T.g_LETTERS rfl rfl)))))) aj))))))),?_⟩;show iT _ _ [some (.str z)] H;walk_at "rd";refine⟨bD (by lia),bZ (fun h1=>bZ (fun h8=>?_) fun h8=>?_) fun h1=>?_⟩
  ·refine aL fun Kont hK=>?_
   walk_at "rd";refine hK _ _ fun D hD=>?_
   refine bG (J:=Its z) (n:=z.cps.size) (D:=D) (fun i ys σ H'=>(∃o,σ=[o])/\af H H'/\H' D=some (.lst ys)/\ys=(z.cps.toList.take i).map (fun c=>V.bl (okc c))) ⟨⟨none,rfl⟩,af.upd hD,aa,rfl⟩
    (fun i _ _ _ hi _=>hi) (fun _ _ _ _=>Zi _) ?_ ?_
   ·rintro i ys σ H' hi ⟨⟨o,rfl⟩,sm,hl,hy⟩ x H2 ⟨e2,c,hc,rfl⟩;subst e2;have hlen:ys.length=i:=by
     rw[hy,Z6,Yh];have:z.cps.toList.length=z.cps.size:=by simp
     lia
    have hi8:i<1000:=by
     have:z.length=z.cps.size:=rfl
     lia
    have put:∀b:Bool,b=okc c->CK D z.cps.size i (fun i ys σ H'=>(∃o,σ=[o])/\af H H'/\H' D=some (.lst ys)/\ys=(z.cps.toList.take i).map (fun c=>V.bl (okc c))) ys [some (.str ⟨#[c]⟩)] (.bl b) H2:=fun b eb=>
     CK.mk hi hl (by rw[hlen];exact aU (by lia)) ⟨⟨_,rfl⟩,af.set sm hD,aa,by rw[eb,hy,<-gC z i c hc,Zd];rfl⟩
    walk_at "rd";refine bZ (fun hd=>put true ?_) fun hd=>put _ ?_
    ·have:=(kR c).mp (Zo hd);unfold okc;rw[Zf this,Bool.true_or]
    ·have hd: ¬ (⟨#[c]⟩:Str)=Str.ofString ".":=fun e=>hd (Zf e)
     have: ¬ c=46:=fun e=>hd ((kR c).mpr e)
     unfold okc;rw[Zh this,Bool.false_or,vR];rfl
   ·rintro ys σ H' ⟨_,sm,hl,hy⟩;walk_at "rd";refine⟨z.cps.toList.map okc,?_,?_⟩
    ·have e:z.cps.toList.take z.cps.size=z.cps.toList:=by
      apply Zn;simp
     rw[e]at hy;have:(z.cps.toList.map okc).map V.bl=ys:=by rw[hy,Yn];rfl
     rw[this];exact SqL.of hl
    ·have e:m8 z=(z.cps.toList.map okc).all id:=by
      unfold m8;rw[h1,h8,all_map]
      all_goals rfl
     rw[<-e];exact k H' sm
  ·rw[Bool.not_eq_true]at h8;have e:m8 z=false:=by unfold m8;rw[h8,Bool.and_false,Bool.false_and]
   rw[e]at k;exact k H (af.refl H)
  ·rw[Bool.not_eq_true]at h1;have e:m8 z=false:=by unfold m8;rw[h1,Bool.false_and,Bool.false_and]
   rw[e]at k;exact k H (af.refl H)
noncomputable def jF(p:Nat×Nat):Bool:=!decide (p.2=46)||decide (p.1=46)
theorem pO(x y:Str)(i c d:Nat)(h1:x.cps[i]? =some c)(h2:y.cps[i]? =some d):((List.zip x.cps.toList y.cps.toList).take i++[(c,d)])=(List.zip x.cps.toList y.cps.toList).take (i+1):=by
 have h:(List.zip x.cps.toList y.cps.toList)[i]? =some (c,d):=List.getElem?_zip_eq_some.mpr ⟨by simpa using h1,by simpa using h2⟩;obtain⟨hlt,e⟩:=Xf h;rw[List.take_succ_eq_append_getElem hlt,e]
theorem kS(T:Txt K mg):Cal P w K mg base 1 "lies_beneath" ["row","above"] rC:=by
 refine T.d_lies_beneath.cal jQ (fun vs H Q E h=>?_) (fun f cdv A outer s H vs Q E hr h=>?_)
 ·obtain⟨row,above,rfl,_⟩:=h;rfl
 ·obtain⟨row,above,rfl,hz1,hz2,k⟩:=h;refine⟨_,(QSs.h (ah (ifS (cc fD rfl (cbE (dL (K:=K) rfl) rfl T.b_len PySem.boot_len rfl rfl rfl (paE rfl (vn 0 rfl Z0 rfl rfl) aj)) (cbE (dL (K:=K) rfl) rfl T.b_len PySem.boot_len rfl rfl rfl (paE rfl (vn 1 rfl Z0 rfl rfl) aj)))
   (am (bg eBl))
   bu)
   (am (bg (cbE (oH (K:=K) rfl rfl) rfl T.b_all boot_all rfl rfl rfl (paE rfl (eI (ax.of (show bU (ag cG) ["row","above"] _ ["high","low"] []=true from by decide +kernel)) rfl rfl (zf rfl T.b_zip rfl rfl (paE rfl (vn 1 rfl Z0 rfl rfl) (paE rfl (vn 0 rfl Z0 rfl rfl) aj))) (fun _ _ _=>(fT (K:=K) rfl rfl rfl (gsE rfl (au 0 (show(["high","low"]:List Str).Nodup from by decide +kernel) rfl Z0 Z1) (gsE rfl (au 1 (show(["high","low"]:List Str).Nodup from by decide +kernel) rfl Z0 Z1) cX)))) (fun _ _ _=>i4) (fun _ _ _=>(orV (jL fD rfl (vn 1 rfl Z0 rfl rfl) (gvE T.g_AIR rfl rfl)) (km (jL dh rfl (vn 0 rfl Z0 rfl rfl) (gvE T.g_AIR rfl rfl)))))) aj)))))),?_⟩
  show bL _ _ _ [some (.str row),some (.str above)] H;refine ak fun D1 k1 r1=>?_
  walk_at "rd";refine⟨bD (by lia),bD (by lia),bZ (fun h1=>?_) fun h1=>?_⟩
  ·have h1: ¬ ((row.length:Int)=above.length):=by simpa using h1
   have e:dM row above=false:=by
    unfold dM;rw[Zh (by lia),Bool.false_and]
   rw[e]at k;exact r1 _ _ (k H (af.refl H))
  ·have h1:row.length=above.length:=by
    have:(row.length:Int)=above.length:=by simpa using h1
    lia
   refine k1 _ _ ?_;have hsz:row.cps.size=above.cps.size:=h1;have hzl:(List.zip above.cps.toList row.cps.toList).length=above.cps.size:=by rw[length_zip];simp[hsz]
   walk_at "rd";refine aL fun Kont hK=>?_
   walk_at "rd";refine hK _ _ fun D hD=>?_
   refine bG (J:=Itz above row) (n:=above.cps.size) (D:=D) (fun i ys σ H'=>(∃o1 o2,σ=[o1,o2])/\af H H'/\H' D=some (.lst ys)/\ys=((List.zip above.cps.toList row.cps.toList).take i).map (fun p=>V.bl (jF p))) ⟨⟨none,none,rfl⟩,af.upd hD,aa,rfl⟩
    (fun i _ _ _ hi _=>⟨hi,by lia⟩) (fun _ _ _ _=>⟨Zi _,by lia,.inl rfl⟩) ?_ ?_
   ·rintro i ys σ H' hi ⟨⟨o1,o2,rfl⟩,sm,hl,hy⟩ x H2 ⟨c,d,TT,hc,hd,hT,rfl,rfl⟩;have hlen:ys.length=i:=by rw[hy,Z6,Yh,hzl];lia
    have hi8:i<1000:=by
     have:above.length=above.cps.size:=rfl
     lia
    have smT:af H (upd H' TT (.tup [.str ⟨#[c]⟩,.str ⟨#[d]⟩])):=sm.trans (af.upd hT);have hl2:upd H' TT (.tup [.str ⟨#[c]⟩,.str ⟨#[d]⟩]) D=some (.lst ys):=af.upd hT _ _ hl;have put:∀b:Bool,b=jF (c,d)->CK D above.cps.size i (fun i ys σ H'=>(∃o1 o2,σ=[o1,o2])/\af H H'/\H' D=some (.lst ys)/\ys=((List.zip above.cps.toList row.cps.toList).take i).map (fun p=>V.bl (jF p))) ys [some (.str ⟨#[c]⟩),some (.str ⟨#[d]⟩)] (.bl b) (upd H' TT (.tup [.str ⟨#[c]⟩,.str ⟨#[d]⟩])):=fun b eb=>
     CK.mk hi hl2 (by rw[hlen];exact aU (by lia)) ⟨⟨_,_,rfl⟩,af.set smT hD,aa,by rw[eb,hy,<-pO above row i c d hc hd,Zd];rfl⟩
    walk_at "rd";refine⟨_,SqT.of aa,rfl,_,_,rfl,_,_,rfl,rfl,rfl,?_⟩;simp only[V.str.injEq,kR];refine bZ (fun h=>put true ?_) fun h=>⟨trivial,put _ ?_⟩
    ·unfold jF;rw[h,Bool.true_or]
    ·unfold jF;rw[Bool.not_eq_true]at h;rw[h,Bool.false_or]
   ·rintro ys σ H' ⟨_,sm,hl,hy⟩;walk_at "rd";refine⟨(List.zip above.cps.toList row.cps.toList).map jF,?_,?_⟩
    ·have e:(List.zip above.cps.toList row.cps.toList).take above.cps.size=List.zip above.cps.toList row.cps.toList:=Zn (by lia);rw[e]at hy;have:((List.zip above.cps.toList row.cps.toList).map jF).map V.bl=ys:=by rw[hy,Yn];rfl
     rw[this];exact SqL.of hl
    ·have e:dM row above=((List.zip above.cps.toList row.cps.toList).map jF).all id:=by
      unfold dM;rw[Zf h1,all_map,Bool.true_and];rfl
     rw[<-e];exact k H' sm
theorem uz{rows:List Str}(h:(rows.map (·.length)).sum<=3000):(Str.join (Str.ofString "") rows).length<=3000:=by
 have:=StrLaws.join_length_le (Str.ofString "") rows;rw[show(Str.ofString "").length=0 from rfl]at this
 lia
theorem iN(T:Txt K mg):Cal P w K mg base 1 "letters_in" ["rows"] (lI K):=by
 refine T.d_letters_in.cal lE (fun vs H Q E h=>?_) (fun f cdv A outer s H vs Q E hr h=>?_)
 ·obtain⟨a,rows,rfl,_⟩:=h;rfl
 ·obtain⟨a,rows,rfl,hs,hsum,hok,k⟩:=h;refine⟨_,(QSs.h (am (bg (cbE (tW (w:=w) rfl rfl) rfl T.b_sorted boot_sorted rfl rfl rfl (paE rfl (ctE (BH (K:=K) (w:=w) rfl rfl rfl) rfl T.b_set boot_set rfl rfl rfl (paE rfl (eI (ax.of (show bU (ag dt) ["rows"] _ ["sign"] []=true from by decide +kernel)) rfl rfl (cW (K:=K) rfl (bmE (K:=K) rfl plainAttrs_str slot_str_join type_str_join (qF (K:=K) rfl) rfl rfl rfl rfl dI (paE rfl (vn 0 rfl Z0 rfl rfl) aj))) (fun _ _ _=>(au 0 (show(["sign"]:List Str).Nodup from by decide +kernel) rfl Z0 Z1)) (fun _ _ _=>(v9 (cc fD rfl (vn 0 rfl Z0 rfl rfl) (gvE T.g_AIR rfl rfl)))) (fun _ _ _=>(vn 0 rfl Z0 rfl rfl))) aj)) aj))))),?_⟩;show iT _ _ [some (.ref a)] H;walk_at "rd";refine aL fun Kont hK=>?_
  walk_at "rd";refine⟨rows,hs,by rw[show(Str.ofString "").length=0 from rfl];lia,?_⟩;rw[show Txt.join (Str.ofString "") rows=Str.join (Str.ofString "") rows from StrLaws.glued_eq_join _ _];have hfew:=uz hsum;have hlet:=i7 hok;unfold cj at hlet k
  generalize Str.join (Str.ofString "") rows=z at hfew hlet k ⊢
  refine hK _ _ fun D hD=>?_
  refine bG (J:=Its z) (n:=z.cps.size) (D:=D) (fun i ys σ H'=>(∃o,σ=[o])/\af H H'/\H' D=some (.lst ys)/\ys=((z.cps.toList.take i).filter (fun c=>decide (c≠46))).map (fun c=>V.str (sgn c))) ⟨⟨none,rfl⟩,af.upd hD,aa,rfl⟩
   (fun i _ _ _ hi _=>hi) (fun _ _ _ _=>Zi _) ?_ ?_
  ·rintro i ys σ H' hi ⟨⟨o,rfl⟩,sm,hl,hy⟩ x H2 ⟨e2,c,hc,rfl⟩;subst e2;have hlen:ys.length<=i:=by
    rw[hy,Z6];have:=Yf (fun c=>decide (c≠46)) (z.cps.toList.take i);rw[Yh]at this
    lia
   have hi8:i<3000:=by
    have:z.length=z.cps.size:=rfl
    lia
   walk_at "rd";simp only[kR];refine bZ (fun hd=>?_) fun hd=>?_
   ·refine CK.mk hi hl (aU (by lia)) ⟨⟨_,rfl⟩,af.set sm hD,aa,?_⟩;rw[<-gC z i c hc,Y3,Zd,hy];have:decide (c≠46)=true:=by simpa using hd
    rw[filter_cons,this];rfl
   ·refine CN.mk hi ⟨⟨_,rfl⟩,sm,hl,?_⟩;rw[<-gC z i c hc,Y3,Zd,hy];have:decide (c≠46)=false:=by simpa using hd
    rw[filter_cons,this];simp
  ·rintro ys σ H' ⟨_,sm,hl,hy⟩;have e:z.cps.toList.take z.cps.size=z.cps.toList:=by
    apply Zn;simp
   rw[e]at hy;walk_at "rd";have hfl:=Yf (fun c=>decide (c≠46)) z.cps.toList;have hzz:z.cps.toList.length=z.length:=by simp[Str.length]
   refine⟨(z.cps.toList.filter (fun c=>decide (c≠46))).map sgn,?_,by rw[Z6];lia,fun S hS=>⟨_,aa,?_,fun l ss hl' hp hst=>?_⟩⟩
   ·rw[Yn];have:(z.cps.toList.filter (fun c=>decide (c≠46))).map (V.str ∘ sgn)=ys:=by rw[hy];rfl
    rw[this];exact SqL.of hl
   ·have:=gY hlet
    lia
   ·have smS:af H (upd H' S (qL w S (aE ((z.cps.toList.filter (fun c=>decide (c≠46))).map sgn)))):=sm.trans (af.upd hS);exact k l _ ss (smS.trans (af.upd hl')) (smS.free hl') aa hp hst
theorem jk(T:Txt K mg):Cal P w K mg base 2 "rows_of" ["text"] rD:=by
 refine T.d_rows_of.cal e9 (fun vs H Q E h=>?_) (fun f cdv A outer s H vs Q E hr h=>?_)
 ·obtain⟨rows,rfl,_⟩:=h;rfl
 ·obtain⟨rows,rfl,hcut,k⟩:=h;obtain⟨wd,w1,w2,hw⟩:=hcut.wide;have htl:=hcut.text;have hsp:=hcut.split;refine⟨_,(QSs.h (ah (ifS (gJ (et (K:=K) rfl (fun _=>rfl) (cbE (fE (K:=K) rfl) rfl T.b_isinstance boot_isinstance rfl rfl rfl (paE rfl (vn 0 rfl Z0 rfl rfl) (paE rfl (blE (v:= .ty "str") rfl T.b_str boot_str rfl rfl rfl) aj)))))
   (am fS)
   bu)
   (ah (ba 1 e9.nd rfl Z0 Z1 rfl (bmE (K:=K) rfl plainAttrs_str PySem.F.slot_str_split PySem.F.type_str_split yt rfl rfl rfl rfl (vn 0 rfl Z0 rfl rfl) (paE rfl dI aj)))
   (ah (dm PassesOwn.never rfl rfl (sw (K:=K) rfl rfl T.b_enumerate rfl (paE rfl (vn 1 rfl Z0 rfl rfl) aj)) (fT (K:=K) rfl rfl rfl (gsE rfl (au 2 e9.nd rfl Z0 Z1) (gsE rfl (au 3 e9.nd rfl Z0 Z1) cX)))
   (ah (ifS (wT (orW (cc dh rfl (vn 2 rfl Z0 rfl rfl) (gvE T.g_MOST_ROWS rfl rfl)) (mW (gJ (et (K:=K) rfl (fun _=>rfl) (aO (wR T) hr rfl rfl rfl rfl (paE rfl (vn 3 rfl Z0 rfl rfl) aj)))))))
    (am fS)
    bu)
    (am (ifS (wT (mX (cc AD rfl (vn 2 rfl Z0 rfl rfl) ao) (kn (gJ (et (K:=K) rfl (fun _=>rfl) (aO (kS T) hr rfl rfl rfl rfl (paE rfl (vn 3 rfl Z0 rfl rfl) (paE rfl (cA (K:=K) rfl (fun _ _=>rfl) (vn 1 rfl Z0 rfl rfl) (opE oG (vn 2 rfl Z0 rfl rfl) ao)) aj))))))))
    (am fS)
    bu))))
   (ah (ifS (cc dh rfl (cbE (dL (K:=K) rfl) rfl T.b_len PySem.boot_len rfl rfl rfl (paE rfl (aO (iN T) hr rfl rfl rfl rfl (paE rfl (vn 1 rfl Z0 rfl rfl) aj)) aj)) ao)
   (am fS)
   bu)
   (am (bg (vn 1 rfl Z0 rfl rfl)))))))),?_⟩
  generalize Str.join nl rows=z at htl hsp
  show bL _ _ _ [some (.str z),none,none,none] H;refine ak fun D1 k1 _=>?_
  walk_at "rd";refine⟨.type "str",.str z,true,by rfl,Aq (k1 _ _ (ak fun D2 k2 _=>?_))⟩;walk_at "rd";refine⟨by decide,Yd (by lia:z.length+2<=5000) (by decide),fun l hl=>k2 _ _ ?_⟩;rw[show(Str.ofString "\n")=nl from rfl,hsp];refine ak fun D3 k3 _=>ay fun Kont hK=>?_
  walk_at "rd";have sml:af H (upd H l (.lst (rows.map V.str))):=af.upd hl;refine⟨_,SqL.of aa,hK _ _ (iA (fun i σ H'=>∃o2 o3,σ=[some (.str z),some (.ref l),o2,o3]/\af H H'/\H' l=some (.lst (rows.map V.str))) ⟨none,none,rfl,sml,aa⟩ (fun i σ H' _ ⟨_,_,_,_,q⟩=>SqL.of q) ?_ ?_)⟩
  ·rintro i x TT σ H' hx ⟨o2,o3,rfl,sm,hl'⟩ hT;obtain⟨r,hr1,rfl⟩:∃r,rows[i]? =some r/\x=V.str r:=by
    rw[Zl]at hx;cases e:rows[i]? with
    | none=>rw[e]at hx;cases hx
    | some r=>rw[e]at hx;exact⟨r,rfl,(Za hx).symm⟩
   have hilt:i<rows.length:=(Xf hr1).1;have hi40:=hcut.high;have smT:af H (upd H' TT (.tup [.int i,.str r])):=sm.trans (af.upd hT);have hlT:upd H' TT (.tup [.int i,.str r]) l=some (.lst (rows.map V.str)):=af.upd hT _ _ hl';have hgT:upd H' TT (.tup [.int i,.str r]) TT=some (.tup [.int i,.str r]):=aa
   generalize upd H' TT (.tup [.int i,.str r])=HT at smT hlT hgT
   have hrl:r.length<=1000:=by
    have:r.length=wd:=hw r (Z8 hr1)
    lia
   refine⟨_,SqT.of hgT,rfl,_,_,rfl,_,_,rfl,rfl,?_⟩;show bL _ _ _ [some (.str z),some (.ref l),some (.int i),some (.str r)] HT;refine ak fun D4 k4 _=>?_
   have go:∀H2,af HT H2->D4.nx [some (.str z),some (.ref l),some (.int i),some (.str r)] H2:=by
    intro H2 sm2;refine k4 _ _ (aD fun D5 k5 _=>?_);have fin:∀H3,af HT H3->D5.nx [some (.str z),some (.ref l),some (.int i),some (.str r)] H3:=fun H3 sm3=>k5 _ _ ⟨_,_,rfl,smT.trans sm3,sm3 l _ hlT⟩
    walk_at "rd";refine bZ (fun hp=>?_) fun _=>fin _ sm2
    have hp:0<(i:Int):=Zo hp;obtain⟨i',rfl⟩:∃i',i=i'+1:=⟨i-1,by lia⟩
    have hi':i'<rows.length:=by lia
    have hr0:rows[i']? =some rows[i']:=by simp[hi']
    have e1:(((i'+1:Nat):Int) -1)=(i':Int):=by lia
    refine⟨_,SqL.of (sm2 l _ hlT),.str rows[i'],by rw[e1];exact cF (by simp[hi']),r,rows[i'],rfl,hrl,?_,fun H3 sm3=>⟨_,rfl,?_⟩⟩
    ·have:rows[i'].length=wd:=hw _ (Ya hi')
     lia
    ·rw[hcut.beneath hr0 hr1];exact Aq (fin _ (sm2.trans sm3))
   walk_at "rd";rw[if_neg (by simp;lia)];refine⟨r,rfl,hrl,fun H2 sm2=>⟨_,rfl,?_⟩⟩;rw[hcut.row (Z8 hr1)];exact Aq (go H2 sm2)
  ·rintro σ H' ⟨o2,o3,rfl,sm,hl'⟩;refine k3 _ _ ?_;walk_at "rd";refine⟨l,rows,rfl,SqL.of hl',by have:=hcut.sum;lia,hcut.sign,fun l2 H2 ss sm2 hf2 hl2 hp hst=>⟨_,.inl ⟨_,SqL.of hl2,rfl⟩,?_⟩⟩;rw[if_neg]
   ·exact k l H2 (sm.trans sm2) hl (sm2 l _ hl')
   ·intro h0;have h0:=Zo h0;rw[Z6]at h0;have:ss=[]:=length_eq_zero_iff.mp (by lia);rw[this]at hp;have hm:=hp.symm.eq_nil;obtain⟨c,hc⟩:=List.exists_mem_of_ne_nil _ hcut.signs_ne;have:sgn c∈aE ((cj rows).map sgn):=dr.mpr (Xj ⟨c,hc,rfl⟩);rw[hm]at this;cases this
noncomputable def mB(p:Nat×Nat):Option (List Str):=if p.1≠46/\p.1≠p.2 then some [sgn p.1,sgn p.2]else none
noncomputable def gh(u r:Str):List (List Str):=(List.zip u.cps.toList r.cps.toList).filterMap mB
theorem iO(H:Hp):aZ H []:=fun p hp=>by cases hp
theorem aW{H H':Hp}{ps:List (Addr×List Str)}(h:aZ H ps)(s:∀b z,H b=some (.tup z)->H' b=some (.tup z)):aZ H' ps:=fun p hp=>⟨(h p hp).1,s _ _ (h p hp).2⟩
theorem jl{H:Hp}{ps:List (Addr×List Str)}{q:Addr×List Str}(h:aZ H ps)(h1:q.2≠[])(h2:H q.1=some (.tup (q.2.map V.str))):aZ H (ps++[q]):=fun p hp=>by
 rcases Xg hp with z|z
 ·exact h p z
 ·rw[Xh z];exact⟨h1,h2⟩
theorem pP{H:Hp}{ps qs:List (Addr×List Str)}(h1:aZ H ps)(h2:aZ H qs):aZ H (ps++qs):=fun p hp=>(Xg hp).elim (h1 p) (h2 p)
def BQ:Sp:=fun vs H Q _=>∃u r:Str,vs=[.str u,.str r]/\u.length<=40/\r.length=u.length/\∀l H' ps,af H H'->H l=none->H' l=some (.lst (ps.map fun p:Addr×List Str=>V.ref p.1))->aZ H' ps->ps.map (·.2)=gh u r->Q (.ref l) H'
def yQ:Sp:=fun vs H Q _=>∃rows:List Str,vs=[.str (Str.join nl rows)]/\bY rows/\∀l H' ss,af H H'->H l=none->H' l=some (.lst (ss.map V.str))->ss.Perm (aE ((cj rows).map sgn))->PyProof.Rows.sortedS ss=true->Q (.ref l) H'
theorem uA(T:Txt K mg):Cal P w K mg base 3 "letters" ["text"] yQ:=by
 refine T.d_letters.cal rs (fun vs H Q E h=>?_) (fun f cdv A outer s H vs Q E hr h=>?_)
 ·obtain⟨rows,rfl,_⟩:=h;rfl
 ·obtain⟨rows,rfl,hcut,kk⟩:=h;refine⟨_,(QSs.h (am (bg (aO (iN T) hr rfl rfl rfl rfl (paE rfl (aO (jk T) hr rfl rfl rfl rfl (paE rfl (vn 0 rfl Z0 rfl rfl) aj)) aj))))),?_⟩;show iT _ _ [some (.str (Str.join nl rows))] H;walk_at "rd";refine⟨rows,rfl,hcut,fun l H1 s1 f1 h1=>⟨l,rows,rfl,SqL.of h1,by have:=hcut.sum;lia,hcut.sign,fun l2 H2 ss s2 f2 h2 p2 q2=>kk l2 H2 ss (s1.trans s2) (s1.free f2) h2 p2 q2⟩⟩
theorem ie(T:Txt K mg):Cal P w K mg base 1 "meetings_between" ["above","row"] BQ:=by
 refine T.d_meetings_between.cal gM (fun vs H Q E h=>?_) (fun f cdv A outer s H vs Q E hr h=>?_)
 ·obtain⟨u,r,rfl,_⟩:=h;rfl
 ·obtain⟨u,r,rfl,hu,hru,kk⟩:=h;have hus:u.length=u.cps.size:=rfl;have hrs:r.length=r.cps.size:=rfl;refine⟨_,(QSs.h (am (bg (eI (ax.of (show bU (ag bM) ["above","row"] _ ["high","low"] []=true from by decide +kernel)) rfl rfl (zf rfl T.b_zip rfl rfl (paE rfl (vn 0 rfl Z0 rfl rfl) (paE rfl (vn 1 rfl Z0 rfl rfl) aj))) (fun _ _ _=>(fT (K:=K) rfl rfl rfl (gsE rfl (au 0 (show(["high","low"]:List Str).Nodup from by decide +kernel) rfl Z0 Z1) (gsE rfl (au 1 (show(["high","low"]:List Str).Nodup from by decide +kernel) rfl Z0 Z1) cX)))) (fun _ _ _=>(v9 (wT (mX (cc fD rfl (vn 0 rfl Z0 rfl rfl) (gvE T.g_AIR rfl rfl)) (kn (cc fD rfl (vn 0 rfl Z0 rfl rfl) (vn 1 rfl Z0 rfl rfl))))))) (fun _ _ _=>(fR (paE rfl (vn 0 rfl Z0 rfl rfl) (paE rfl (vn 1 rfl Z0 rfl rfl) aj)))))))),?_⟩;show iT _ _ [some (.str u),some (.str r)] H;walk_at "rd";refine aL fun Kont hK=>?_
  walk_at "rd";refine hK _ _ fun D hD=>?_
  refine bG (J:=Itz u r) (n:=u.cps.size) (D:=D) (fun i ys σ H'=>(∃o1 o2,σ=[o1,o2])/\af H H'/\H' D=some (.lst ys)/\ys.length<=i/\∃ps:List (Addr×List Str),ys=ps.map (fun p=>V.ref p.1)/\aZ H' ps/\ps.map (·.2)=((List.zip u.cps.toList r.cps.toList).take i).filterMap mB)
   ⟨⟨none,none,rfl⟩,af.upd hD,aa,Zi _,[],rfl,iO _,rfl⟩ (fun i _ _ _ hi _=>⟨hi,by lia⟩) (fun _ _ _ _=>⟨Zi _,by lia,.inl rfl⟩) ?_ ?_
  ·rintro i ys σ H' hi ⟨⟨o1,o2,rfl⟩,sm,hl,hlen,ps,hy,tps,hks⟩ x H2 ⟨c,d,TT,hc,hd,hT,rfl,rfl⟩;have smT:=af.upd (o:= .tup [.str ⟨#[c]⟩,.str ⟨#[d]⟩]) hT;have nx:=pO u r i c d hc hd;have hl2:=smT _ _ hl;have hgT:upd H' TT (.tup [.str ⟨#[c]⟩,.str ⟨#[d]⟩]) TT=some (.tup [.str ⟨#[c]⟩,.str ⟨#[d]⟩]):=aa;have tps2:aZ (upd H' TT (.tup [.str ⟨#[c]⟩,.str ⟨#[d]⟩])) ps:=fun p hp=>⟨(tps p hp).1,smT _ _ (tps p hp).2⟩
   have sm2:=sm.trans smT
   generalize upd H' TT (.tup [.str ⟨#[c]⟩,.str ⟨#[d]⟩])=HT at smT hl2 hgT tps2 sm2
   refine⟨_,SqT.of hgT,rfl,_,_,rfl,_,_,rfl,rfl,?_⟩;show xy _ _ [some (.str ⟨#[c]⟩),some (.str ⟨#[d]⟩)] HT _;walk_at "rd";simp only[kR,wQ];have hDT:D≠TT:=fun e=>by rw[e,hgT]at hl2;cases hl2
   refine bZ (fun h1=>bZ (fun h2=>?_) fun h2=>?_) fun h1=>?_
   ·have h1:c≠46:=by simpa using h1
    have h2:c≠d:=by simpa using h2
    refine⟨show 2<=sizeLine from by decide,fun p hp=>?_⟩;have smp:=af.upd (o:= .tup [V.str ⟨#[c]⟩,V.str ⟨#[d]⟩]) hp;have hDp:p≠D:=fun e=>by rw[e,hl2]at hp;cases hp
    refine CK.mk hi (smp _ _ hl2) (aU (by lia)) ⟨⟨_,_,rfl⟩,af.set (sm2.trans smp) hD,aa,by rw[Z9,length_singleton];lia,ps++[(p,[sgn c,sgn d])],by rw[hy,Zd];rfl,?_,?_⟩
    ·have keep:∀b z,upd HT p (.tup [V.str ⟨#[c]⟩,V.str ⟨#[d]⟩]) b=some (.tup z)->upd (upd HT p (.tup [V.str ⟨#[c]⟩,V.str ⟨#[d]⟩])) D (.lst (ys++[V.ref p])) b=some (.tup z):=fun b z e=>by
      have:b≠D:=fun e2=>by rw[e2,smp _ _ hl2]at e;cases e
      rw[ai this];exact e
     exact aW (jl (aW tps2 fun b z e=>smp _ _ e) (by simp) (by rw[aa];rfl)) keep
    ·rw[Zd,hks,<-nx,List.filterMap_append];have:mB (c,d)=some [sgn c,sgn d]:=if_pos ⟨h1,h2⟩;rw[Y2,this];rfl
   ·have h2:c=d:=by simpa using h2
    refine CN.mk hi ⟨⟨_,_,rfl⟩,sm2,hl2,by lia,ps,hy,tps2,?_⟩;rw[hks,<-nx,List.filterMap_append];have:mB (c,d)=none:=if_neg fun q=>q.2 h2
    rw[Y2,this];simp
   ·have h1:c=46:=by simpa using h1
    refine CN.mk hi ⟨⟨_,_,rfl⟩,sm2,hl2,by lia,ps,hy,tps2,?_⟩;rw[hks,<-nx,List.filterMap_append];have:mB (c,d)=none:=if_neg fun q=>q.1 h1
    rw[Y2,this];simp
  ·rintro ys σ H' ⟨_,sm,hl,hlen,ps,hy,tps,hks⟩;rw[Zn (by rw[length_zip];simp;lia)]at hks;exact kk D H' ps sm hD (by rw[hl,hy]) tps hks
theorem wS{K:PySem.W.Frag}{a b:Addr}{xs ys:List V}{g:TG}{tb:TS}{D:gH}{σ:St}{H:Hp}(Pv:Nat->St->Hp->Prop)(h0:Pv 0 σ H)(hle:ys.length<=xs.length)(hl:∀i σ H,i<=ys.length->Pv i σ H->SqL K H a xs/\SqL K H b ys)
 (hs:∀i x y T σ H,xs[i]? =some x->ys[i]? =some y->Pv i σ H->H T=none->g (.ref T) σ (upd H T (.tup [x,y])) fun σ2 H2=>tb {D with nx:=Pv (i+1),ct:=Pv (i+1),bk:=D.nx} σ2 H2) (hd:∀σ H,Pv ys.length σ H->D.nx σ H):
 ∃W:Nat->Nat->St->Hp->Prop,(∃m,W 0 m σ H)/\∀i m σ H,W i m σ H->
  ((rg K a b).stop i H/\D.nx σ H)\/((rg K a b).go i H/\∃N:St->Hp->Prop,(∀σ' H',N σ' H'->∃m',m'<m/\W (i+1) m' σ' H')/\∀x H',(rg K a b).yld i H x H'->g x σ H' fun σ2 H2=>tb {D with nx:=N,ct:=N,bk:=D.nx} σ2 H2):=by
 refine⟨fun i m σ H=>m=ys.length-i/\i<=ys.length/\Pv i σ H,⟨ys.length,by simp,X7 _,h0⟩,?_⟩;rintro i m σ H ⟨rfl,hi,p⟩;obtain⟨q1,q2⟩:=hl i σ H hi p;by_cases hlt:i<ys.length
 ·have hx:xs[i]? =some xs[i]:=by simp[show i<xs.length by lia]
  have hy:ys[i]? =some ys[i]:=by simp[hlt]
  refine .inr ⟨⟨xs,ys,_,_,q1,q2,hx,hy⟩,Pv (i+1),fun σ' H' p'=>⟨ys.length-(i+1),by lia,rfl,hlt,p'⟩,fun v H' y=>?_⟩;obtain⟨T,x',y',hT,rfl,rfl,e1,e2⟩:=y;have e1:=e1 xs q1;have e2:=e2 ys q2;exact hs i x' y' T σ H e1 e2 p hT
 ·have e:i=ys.length:=by lia
  subst e;exact .inl ⟨⟨xs,ys,q1,q2,by lia,Zi _,.inr rfl⟩,hd σ H p⟩
noncomputable def cU(rows:List Str)(i:Nat):List (List Str):=(List.range i).flatMap fun j=>gh (rows.getD j ⟨#[]⟩) (rows.getD (j+1) ⟨#[]⟩)
theorem nK(rows:List Str)(i:Nat):cU rows (i+1)=cU rows i++gh (rows.getD i ⟨#[]⟩) (rows.getD (i+1) ⟨#[]⟩):=by
 unfold cU;rw[range_succ,flatMap_append];simp
theorem rE(u r:Str):(gh u r).length<=u.length:=by
 unfold gh;refine Yd (List.length_filterMap_le _ _) ?_;rw[length_zip];have:u.cps.toList.length=u.length:=by simp[Str.length]
 lia
theorem kT{u r:Str}{k:List Str}:k∈gh u r↔∃(a b j:Nat),k=[sgn a,sgn b]/\a≠46/\a≠b/\u.cps[j]? =some a/\r.cps[j]? =some b:=by
 unfold gh;rw[mem_filterMap]
 constructor
 ·rintro⟨⟨a,b⟩,hp,e⟩;unfold mB at e
  split at e
  ·rename_i h
   obtain⟨j,hj⟩:=X8 hp;rw[List.getElem?_zip_eq_some]at hj;exact⟨a,b,j,(Za e).symm,h.1,h.2,by simpa using hj.1,by simpa using hj.2⟩
  ·cases e
 ·rintro⟨a,b,j,rfl,h1,h2,h3,h4⟩;refine⟨(a,b),Z8 (i:=j) ?_,if_pos ⟨h1,h2⟩⟩;rw[List.getElem?_zip_eq_some];exact⟨by simpa using h3,by simpa using h4⟩
theorem gE{rows:List Str}{k:List Str}:k∈cU rows (rows.length-1)↔∃a b,k=[sgn a,sgn b]/\BO rows a b:=by
 unfold cU;rw[mem_flatMap];have gd:∀j (h:j<rows.length),rows.getD j ⟨#[]⟩=rows[j]:=fun j h=>by simp[Zc,h]
 constructor
 ·rintro⟨j,hj,hk⟩;have hj:=mem_range.mp hj;obtain⟨a,b,q,e,h1,h2,h3,h4⟩:=kT.mp hk;rw[gd j (by lia)]at h3;rw[gd (j+1) (by lia)]at h4;exact⟨a,b,e,h1,h2,j,q,_,_,by simp[show j<rows.length by lia],by simp[show j+1<rows.length by lia],h3,h4⟩
 ·rintro⟨a,b,e,h1,h2,i,q,r,r',e1,e2,h3,h4⟩;obtain⟨l2,g2⟩:=Xf e2;obtain⟨l1,g1⟩:=Xf e1;refine⟨i,mem_range.mpr (by lia),kT.mpr ⟨a,b,q,e,h1,h2,?_,?_⟩⟩
  ·rw[gd i l1,g1];exact h3
  ·rw[gd (i+1) l2,g2];exact h4
noncomputable def iP:List Nat:=d6.cps.toList++[46]
noncomputable def cz:List (List Str):=iP.flatMap fun a=>iP.map fun b=>[sgn a,sgn b]
theorem zo{c:Nat}(h:okc c=true):c∈iP:=by
 unfold okc at h;unfold iP;rcases(or_eq_true _ _).mp h with q|q
 ·rw[Zo q];simp
 ·exact Yo _ (Zo q)
theorem nL:cz.length=729:=by
 unfold cz;rw[length_flatMap];have:iP.length=27:=by decide +kernel
 simp only[Z6,this];rw[List.map_const',List.sum_replicate_nat,this]
theorem sL{rows:List Str}(hc:bY rows){k:List Str}(h:k∈cU rows (rows.length-1)):k∈cz/\k.length=2/\k≠[]:=by
 obtain⟨a,b,rfl,_,_,i,j,r,r',e1,e2,g1,g2⟩:=gE.mp h;have ka:=all_eq_true.mp (hc.sign r (Z8 e1)) a (Z8 (i:=j) (by simpa using g1));have kb:=all_eq_true.mp (hc.sign r' (Z8 e2)) b (Z8 (i:=j) (by simpa using g2));refine⟨?_,rfl,by simp⟩;unfold cz;exact mem_flatMap.mpr ⟨a,zo ka,Xj ⟨b,zo kb,rfl⟩⟩
theorem uB(rows:List Str)(h:rows≠[]):fN (rows.map V.str) (some 1) none=(rows.drop 1).map V.str:=by
 unfold fN;have h1:1<=rows.length:=length_pos_iff.mpr h;rw[HT.sIx_none,show(some (1:Int))=some ((1:Nat):Int)from rfl,HT.sIx_nat,Z6,Yt h1,<-map_drop,<-map_take]
 congr 1
 rw[Zn (by rw[Ye];exact Zi _)]
def yR:Sp:=fun vs H Q _=>∃rows:List Str,vs=[.str (Str.join nl rows)]/\bY rows/\∀l H' (ss:List (Addr×List Str)),af H H'->H l=none->H' l=some (.lst (ss.map fun p=>V.ref p.1))->aZ H' ss->(ss.map (·.2)).Nodup->(ss.map (·.2)).Pairwise (fun a b=>cx b a=false)->
 (∀k,k∈ss.map (·.2)↔∃a b,k=[sgn a,sgn b]/\BO rows a b)->Q (.ref l) H'
theorem rF(T:Txt K mg):Cal P w K mg base 3 "meetings" ["text"] yR:=by
 refine T.d_meetings.cal c7 (fun vs H Q E h=>?_) (fun f cdv A outer s H vs Q E hr h=>?_)
 ·obtain⟨rows,rfl,_⟩:=h;rfl
 ·obtain⟨rows,rfl,hcut,kk⟩:=h;obtain⟨wd,w1,w2,hwd⟩:=hcut.wide;have hp:1<=rows.length:=hcut.pos;have hi40:=hcut.high;have hne:rows≠[]:=length_pos_iff.mp hp;refine⟨_,(QSs.h (ah (ba 1 c7.nd rfl Z0 Z1 rfl (aO (jk T) hr rfl rfl rfl rfl (paE rfl (vn 0 rfl Z0 rfl rfl) aj)))
   (ah (ba 2 c7.nd rfl Z0 Z1 rfl (dZ aj))
   (ah (dm PassesOwn.never rfl rfl (BK (K:=K) rfl rfl T.b_zip rfl rfl (paE rfl (vn 1 rfl Z0 rfl rfl) (paE rfl (slE (K:=K) rfl (vn 1 rfl Z0 rfl rfl) (fC ao) noO) aj))) (fT (K:=K) rfl rfl rfl (gsE rfl (au 3 c7.nd rfl Z0 Z1) (gsE rfl (au 4 c7.nd rfl Z0 Z1) cX)))
   (am (cu rfl (bmE (K:=K) rfl plainAttrs_list PySem.F.slot_list_extend PySem.F.type_list_extend oI rfl rfl rfl rfl (vn 2 rfl Z0 rfl rfl) (paE rfl (aO (ie T) hr rfl rfl rfl rfl (paE rfl (vn 3 rfl Z0 rfl rfl) (paE rfl (vn 4 rfl Z0 rfl rfl) aj))) aj)))))
   (am (bg (cbE (ue (P:=P) (w:=w) rfl rfl rfl) rfl T.b_sorted boot_sorted rfl rfl rfl (paE rfl (ctE (AO (K:=K) (P:=P) (w:=w) rfl rfl rfl rfl hr) rfl T.b_set boot_set rfl rfl rfl (paE rfl (vn 2 rfl Z0 rfl rfl) aj)) aj)))))))),?_⟩
  show bL _ _ _ [some (.str (Str.join nl rows)),none,none,none,none] H;refine ak fun D1 k1 r1=>?_
  walk_at "rd";refine⟨rows,rfl,hcut,fun R H1 s1 f1 hR=>k1 _ _ (ak fun D2 k2 r2=>?_)⟩;walk_at "rd";refine⟨X7 _,fun L hL=>k2 _ _ (ak fun D3 k3 r3=>ay fun Kont hK=>?_)⟩;have s2:=af.upd (o:= .lst []) hL;have hR2:=s2 _ _ hR;have hLz:upd H1 L (.lst []) L=some (.lst []):=aa;have fL:H L=none:=s1.free hL;have s12:=s1.trans s2
  generalize upd H1 L (.lst [])=H2 at s2 hR2 hLz s12
  walk_at "rd";refine .inl ⟨_,SqL.of hR2,fun p hp=>?_⟩;rw[uB rows hne];have s3:=af.upd (o:= .lst ((rows.drop 1).map V.str)) hp;have hR3:=s3 _ _ hR2;have hL3:=s3 _ _ hLz;have hP3:upd H2 p (.lst ((rows.drop 1).map V.str)) p=some (.lst ((rows.drop 1).map V.str)):=aa;have s13:=s12.trans s3;have hLR:L≠R:=fun e=>by rw[e,hR]at hL;cases hL
  have hpL:p≠L:=fun e=>by rw[e,hLz]at hp;cases hp
  generalize upd H2 p (.lst ((rows.drop 1).map V.str))=H3 at s3 hR3 hL3 hP3 s13
  refine⟨⟨_,SqL.of hR3⟩,⟨_,SqL.of hP3⟩,hK _ _ (wS (xs:=rows.map V.str) (ys:=(rows.drop 1).map V.str) (fun i σ H'=>(∃o3 o4,σ=[some (.str (Str.join nl rows)),some (.ref R),some (.ref L),o3,o4])/\af H H'/\H' R=some (.lst (rows.map V.str))/\H' p=some (.lst ((rows.drop 1).map V.str))/\
   ∃ps:List (Addr×List Str),H' L=some (.lst (ps.map fun q=>V.ref q.1))/\aZ H' ps/\ps.map (·.2)=cU rows i/\ps.length<=40*i) ⟨⟨none,none,rfl⟩,s13,hR3,hP3,[],hL3,iO _,rfl,X7 _⟩ (by rw[Z6,Z6,Ye];lia) (fun i σ H' _ q=>⟨SqL.of q.2.2.1,SqL.of q.2.2.2.1⟩) ?_ ?_)⟩
  ·rintro i x y TT σ H' hx hy ⟨⟨o3,o4,rfl⟩,sm,hR',hP',ps,hL',tps,hks,hlen⟩ hT;rw[Zl]at hx hy;obtain⟨u,hu,rfl⟩:=map_eq_some_iff.mp hx;obtain⟨r,hr',rfl⟩:=map_eq_some_iff.mp hy;rw[Y8,Nat.add_comm]at hr';have hil:i+1<rows.length:=(Xf hr').1;have ul:u.length=wd:=hwd u (Z8 hu);have rl:r.length=wd:=hwd r (Z8 hr');have smT:=af.upd (o:= .tup [V.str u,V.str r]) hT;have hgT:upd H' TT (.tup [V.str u,V.str r]) TT=some (.tup [V.str u,V.str r]):=aa;have hRT:=smT _ _ hR';have hPT:=smT _ _ hP';have hLT:=smT _ _ hL';have tpsT:aZ (upd H' TT (.tup [V.str u,V.str r])) ps:=aW tps fun b z e=>smT _ _ e
   have smH:=sm.trans smT
   generalize upd H' TT (.tup [V.str u,V.str r])=HT at smT hgT hRT hPT hLT tpsT smH
   refine⟨_,SqT.of hgT,rfl,_,_,rfl,_,_,rfl,rfl,?_⟩;refine aD fun D4 k4 r4=>?_
   walk_at "rd";refine⟨.inl ⟨_,SqL.of hLT⟩,u,r,rfl,by lia,by lia,fun l4 H4 ps4 s4 f4 h4 tps4 e4=>?_⟩;have l4L:l4≠L:=fun e=>by rw[e,hLT]at f4;cases f4
   have len4:ps4.length<=40:=by
    have:(ps4.map (·.2)).length=(gh u r).length:=by rw[e4]
    rw[Z6]at this;have:=rE u r
    lia
   refine⟨_,rfl,_,s4 _ _ hLT,_,h4,by rw[Z6,Z6];exact bD (by lia),k4 _ _ ?_⟩;have keepT:∀b z,H4 b=some (.tup z)->upd H4 L (.lst ((ps.map fun q=>V.ref q.1) ++ps4.map fun q=>V.ref q.1)) b=some (.tup z):=fun b z e=>by
    have:b≠L:=fun e2=>by rw[e2,s4 _ _ hLT]at e;cases e
    rw[ai this];exact e
   have hRL:R≠L:=Ne.symm hLR;refine⟨⟨_,_,rfl⟩,fun b u' e=>?_,by rw[ai hRL];exact s4 _ _ hRT,by rw[ai hpL];exact s4 _ _ hPT,ps++ps4,by rw[aa,Zd],aW (pP (aW tpsT fun b z e=>s4 _ _ e) tps4) keepT,?_,by rw[Z9];lia⟩
   ·rw[ai (ap e fL)];exact s4 _ _ (smH _ _ e)
   ·rw[Zd,hks,e4,nK];have g1:rows.getD i ⟨#[]⟩=u:=by rw[Zc,hu];rfl
    have g2:rows.getD (i+1) ⟨#[]⟩=r:=by rw[Zc,hr'];rfl
    rw[g1,g2]
  ·rintro σ H' ⟨⟨o3,o4,rfl⟩,sm,hR',hP',ps,hL',tps,hks,hlen⟩;rw[Z6,Ye]at hks;refine k3 _ _ ?_;walk_at "rd";have inU:∀q∈ps,q.2∈cz/\q.2.length=2/\q.2≠[]:=fun q hq=>sL hcut (by rw[<-hks];exact Xj ⟨q,hq,rfl⟩)
   refine⟨ps,SqL.of hL',tps,⟨cz,by rw[nL];decide,fun q hq=>(inU q hq).1⟩,fun l5 hl5=>?_⟩;have s5:=af.upd (o:=kL P w l5 (aN ps)) hl5;have fU:∀q∈aN ps,q.2∈cz/\q.2.length=2/\q.2≠[]:=fun q hq=>inU q (cZ ps q hq)
   have few:(aN ps).length<=1000:=by
    have:=STab.nodup_sub (eB ps) (m:=cz) fun k hk=>by
     obtain⟨q,hq,rfl⟩:=Xi hk;exact(fU q hq).1
    rw[Z6,nL]at this
    lia
   refine⟨aN ps,aa,fun q hq=>⟨(tps q (cZ ps q hq)).1,s5 _ _ (tps q (cZ ps q hq)).2⟩,2,fun q hq=>(fU q hq).2.1,by decide,few,fun l6 ss hl6 pm so=>?_⟩;have s6:=af.upd (o:= .lst (ss.map fun q=>V.ref q.1)) hl6;have sall:=(sm.trans s5).trans s6;have pk:(ss.map (·.2)).Perm ((aN ps).map (·.2)):=pm.map _;refine kk l6 _ ss sall ((sm.trans s5).free hl6) aa (fun q hq=>?_) (pk.nodup_iff.mpr (eB ps)) (by rw[X1];exact so) fun k=>?_
   ·have hq':=pm.mem_iff.mp hq;have:=tps q (cZ ps q hq');exact⟨this.1,s6 _ _ (s5 _ _ this.2)⟩
   ·rw[pk.mem_iff,iF,hks];exact gE
noncomputable def gO(z:Str):Bool:=(decide (1<=(z.length:Int))&&decide ((z.length:Int)<=8))&&z.cps.toList.all fX
def rG:Sp:=fun vs H Q _=>∃z:Str,vs=[.str z]/\gO z=true/\∀H',af H H'->Q (.bl true) H'
def wU(K:PySem.W.Frag):Sp:=fun vs H Q _=>∃(z:Str) (p:Addr) (ts:List Str),vs=[.str z,.ref p]/\(SqL K H p (ts.map V.str)\/SqT K H p (ts.map V.str))/\Q (.bl (decide (z∈ts))) H
def rH:Sp:=fun vs H Q _=>∃i:Int,vs=[.int i]/\ -9999<=i/\i<=9999/\Q (.bl true) H
def mC(ls:List Str)(vs:List V):Prop:=
 (∃w a b:Str,vs=[.str w,.str a,.str b]/\(w="later"\/w="same")/\a∈ls/\b∈ls/\a≠b)\/
 ∃(w a:Str) (y:Int),vs=[.str w,.str a,.int y]/\(w="since"\/w="by")/\a∈ls/\ -9999<=y/\y<=9999
def nM(K:PySem.W.Frag):Sp:=fun vs H Q _=>∃(t p:Addr) (xs:List V) (ls:List Str),vs=[.ref t,.ref p]/\H t=some (.tup xs)/\SqL K H p (ls.map V.str)/\mC ls xs/\Q (.bl true) H
noncomputable def lnS(n z:Str):Str:=Str.empty++n++Str.ofString "."++z
def lJ:Sp:=fun vs H Q _=>∃n z:Str,vs=[.str n,.str z]/\n.length<=100/\z.length<=100/\Q (.str (lnS n z)) H
theorem nN(z:Str)(ts:List Str):inV (V.str z) (ts.map V.str)=decide (z∈ts):=by
 unfold inV;rw[any_map]
 induction ts with
 | nil=>rfl
 | cons c r ih=>
   rw[Zy,ih];show((c==z)||_)=_;by_cases h:c=z
   ·subst h;simp
   ·have:z≠c:=fun e=>h e.symm
    simp[h,this]
theorem jm(ts:List Str):(ts.map V.str).all eF=true:=by simp[eF]
theorem uC(T:Txt K mg):Cal P w K mg base 1 "is_name" ["thing"] rG:=by
 refine T.d_is_name.cal rq (fun vs H Q E h=>?_) (fun f cdv A outer s H vs Q E hr h=>?_)
 ·obtain⟨x,rfl,_⟩:=h;rfl
 ·obtain⟨z,rfl,hn,k⟩:=h;refine⟨_,(QSs.h (ah (ifS (gJ (et (K:=K) rfl (fun _=>rfl) (cbE (fE (K:=K) rfl) rfl T.b_isinstance boot_isinstance rfl rfl rfl (paE rfl (vn 0 rfl Z0 rfl rfl) (paE rfl (blE (v:= .ty "str") rfl T.b_str boot_str rfl rfl rfl) aj)))))
   (am (bg eBl))
   bu)
   (am (bg (jM (qB tP tP rfl ao (cbE (dL (K:=K) rfl) rfl T.b_len PySem.boot_len rfl rfl rfl (paE rfl (vn 0 rfl Z0 rfl rfl) aj)) (gvE T.g_LONGEST_NAME rfl rfl)) (km (cbE (oH (K:=K) rfl rfl) rfl T.b_all boot_all rfl rfl rfl (paE rfl (eI (ax.of (show bU (ag gB) ["thing"] _ ["sign"] []=true from by decide +kernel)) rfl rfl (cW (K:=K) rfl (vn 0 rfl Z0 rfl rfl)) (fun _ _ _=>(au 0 (show(["sign"]:List Str).Nodup from by decide +kernel) rfl Z0 Z1)) (fun _ _ _=>i4) (fun _ _ _=>(jL (qE (K:=K) rfl) rfl (vn 0 rfl Z0 rfl rfl) (gvE T.g_LETTERS rfl rfl)))) aj)))))))),?_⟩
  show bL _ _ _ [some (.str z)] H;have hn':=hn;unfold gO at hn';rw[Zx,Zx]at hn';obtain⟨⟨h1,h8⟩,hall⟩:=hn';have hz:z.length<=8:=by have:=Zo h8;lia
  walk_at "rd";refine⟨.type "str",.str z,true,by rfl,?_⟩;walk_at "rd";refine⟨bD (by lia),?_⟩;rw[if_pos h1,if_pos h8];refine aL fun Kont hK=>?_
  walk_at "rd";refine hK _ _ fun D hD=>?_
  refine bG (J:=Its z) (n:=z.cps.size) (D:=D) (fun i ys σ H'=>(∃o,σ=[o])/\af H H'/\H' D=some (.lst ys)/\ys=(z.cps.toList.take i).map (fun c=>V.bl (fX c))) ⟨⟨none,rfl⟩,af.upd hD,aa,rfl⟩
   (fun i _ _ _ hi _=>hi) (fun _ _ _ _=>Zi _) ?_ ?_
  ·rintro i ys σ H' hi ⟨⟨o,rfl⟩,sm,hl,hy⟩ x H2 ⟨e2,c,hc,rfl⟩;subst e2;walk_at "rd";have hlen:ys.length=i:=by
    rw[hy,Z6,Yh];have:z.cps.toList.length=z.cps.size:=by simp
    lia
   have hi8:i<1000:=by
    have:z.length=z.cps.size:=rfl
    lia
   refine CK.mk hi hl (by rw[hlen];exact aU (by lia)) ⟨⟨_,rfl⟩,af.set sm hD,aa,?_⟩;rw[vR,hy,<-gC z i c hc,Zd]
   all_goals rfl
  ·rintro ys σ H' ⟨_,sm,hl,hy⟩;refine⟨D,rfl,(z.cps.toList.map fX),?_,?_⟩
   ·have e:z.cps.toList.take z.cps.size=z.cps.toList:=by
     apply Zn;simp
    rw[e]at hy;have:(z.cps.toList.map fX).map V.bl=ys:=by rw[hy,Yn];rfl
    rw[this];exact SqL.of hl
   ·have e:(z.cps.toList.map fX).all id=true:=by
     rw[all_map];exact hall
    rw[e];exact k H' sm
theorem bS(T:Txt K mg):Cal P w K mg base 1 "is_text_among" ["thing","texts"] (wU K):=by
 refine T.d_is_text_among.cal je (fun vs H Q E h=>?_) (fun f cdv A outer s H vs Q E hr h=>?_)
 ·obtain⟨z,p,ts,rfl,_⟩:=h;rfl
 ·obtain⟨z,p,ts,rfl,hp,k⟩:=h;refine⟨_,(QSs.h (am (bg (jM (cbE (fE (K:=K) rfl) rfl T.b_isinstance boot_isinstance rfl rfl rfl (paE rfl (vn 0 rfl Z0 rfl rfl) (paE rfl (blE (v:= .ty "str") rfl T.b_str boot_str rfl rfl rfl) aj))) (km (jL (qE (K:=K) rfl) rfl (vn 0 rfl Z0 rfl rfl) (vn 1 rfl Z0 rfl rfl))))))),?_⟩;show iT _ _ [some (.str z),some (.ref p)] H;walk_at "rd";refine⟨.type "str",.str z,true,by rfl,?_⟩;walk_at "rd";rw[<-nN]at k;exact⟨_,hp,rfl,jm ts,k⟩
theorem uD(T:Txt K mg):Cal P w K mg base 1 "is_year" ["thing"] rH:=by
 refine T.d_is_year.cal rA (fun vs H Q E h=>?_) (fun f cdv A outer s H vs Q E hr h=>?_)
 ·obtain⟨i,rfl,_⟩:=h;rfl
 ·obtain⟨i,rfl,h1,h2,k⟩:=h;refine⟨_,(QSs.h (ah (ifS (wT (orW (gJ (et (K:=K) rfl (fun _=>rfl) (cbE (fE (K:=K) rfl) rfl T.b_isinstance boot_isinstance rfl rfl rfl (paE rfl (vn 0 rfl Z0 rfl rfl) (paE rfl (blE (v:= .ty "int") rfl T.b_int boot_int rfl rfl rfl) aj))))) (mW (et (K:=K) rfl (fun _=>rfl) (cbE (fE (K:=K) rfl) rfl T.b_isinstance boot_isinstance rfl rfl rfl (paE rfl (vn 0 rfl Z0 rfl rfl) (paE rfl (blE (v:= .ty "bool") rfl T.b_bool PyProof.Rows.boot_bool rfl rfl rfl) aj)))))))
   (am (bg eBl))
   bu)
   (am (bg (qB tP tP rfl (gvE T.g_FIRST_YEAR rfl rfl) (vn 0 rfl Z0 rfl rfl) (gvE T.g_LAST_YEAR rfl rfl)))))),?_⟩
  show bL _ _ _ [some (.int i)] H;walk_at "rd";refine⟨.type "int",.int i,true,by rfl,?_⟩;walk_at "rd";refine⟨.type "int",.int i,false,by rfl,?_⟩;walk_at "rd";rw[if_pos (Zf h1),Zf h2];exact k
theorem fq(T:Txt K mg):Cal P w K mg base 1 "layer_name" ["name","letter"] lJ:=by
 refine T.d_layer_name.cal lF (fun vs H Q E h=>?_) (fun f cdv A outer s H vs Q E hr h=>?_)
 ·obtain⟨n,z,rfl,_⟩:=h;rfl
 ·obtain⟨n,z,rfl,hn,hz,k⟩:=h;refine⟨_,(QSs.h (am (bg (zh (pjE (AL (vn 0 rfl Z0 rfl rfl)) (pjE dI (pjE (AL (vn 1 rfl Z0 rfl rfl)) zg))))))),?_⟩;show iT _ _ [some (.str n),some (.str z)] H;walk_at "rd";have e:∀a b:Str,(a++b).length=a.length+b.length:=fun a b=>size_append
  have e0:Str.empty.length=0:=rfl;have e1:(Str.ofString ".").length=1:=rfl;have le:∀k:Nat,k<=1000->k<=sizeLine:=fun k hk=>bD (by lia)
  refine⟨le _ (by lia),le _ ?_,le _ ?_,le _ (by lia),le _ ?_,le _ ?_,k⟩<;> simp only[e,e0,e1]<;> lia
theorem pQ(T:Txt K mg):Cal P w K mg base 2 "is_saying" ["thing","layers"] (nM K):=by
 refine T.d_is_saying.cal nG (fun vs H Q E h=>?_) (fun f cdv A outer s H vs Q E hr h=>?_)
 ·obtain⟨t,p,xs,ls,rfl,_⟩:=h;rfl
 ·obtain⟨t,p,xs,ls,rfl,ht,hp,ok,k⟩:=h;refine⟨_,(QSs.h (ah (ifS (wT (orW (gJ (et (K:=K) rfl (fun _=>rfl) (cbE (fE (K:=K) rfl) rfl T.b_isinstance boot_isinstance rfl rfl rfl (paE rfl (vn 0 rfl Z0 rfl rfl) (paE rfl (blE (v:= .ty "tuple") rfl T.b_tuple boot_tuple rfl rfl rfl) aj))))) (mW (cc fD rfl (cbE (dL (K:=K) rfl) rfl T.b_len PySem.boot_len rfl rfl rfl (paE rfl (vn 0 rfl Z0 rfl rfl) aj)) ao))))
   (am (bg eBl))
   bu)
   (ah (ifS (et (K:=K) rfl (fun _=>rfl) (aO (bS T) hr rfl rfl rfl rfl (paE rfl (gK (K:=K) rfl (fun _ _=>rfl) (vn 0 rfl Z0 rfl rfl) ao) (paE rfl (BM (K:=K) rfl T.t_LAYER_WORDS rfl rfl) aj))))
   (am (bg (jM (aO (bS T) hr rfl rfl rfl rfl (paE rfl (gK (K:=K) rfl (fun _ _=>rfl) (vn 0 rfl Z0 rfl rfl) ao) (paE rfl (vn 1 rfl Z0 rfl rfl) aj))) (jM (aO (bS T) hr rfl rfl rfl rfl (paE rfl (gK (K:=K) rfl (fun _ _=>rfl) (vn 0 rfl Z0 rfl rfl) ao) (paE rfl (vn 1 rfl Z0 rfl rfl) aj))) (km (jL fD rfl (gK (K:=K) rfl (fun _ _=>rfl) (vn 0 rfl Z0 rfl rfl) ao) (gK (K:=K) rfl (fun _ _=>rfl) (vn 0 rfl Z0 rfl rfl) ao)))))))
   bu)
   (ah (ifS (et (K:=K) rfl (fun _=>rfl) (aO (bS T) hr rfl rfl rfl rfl (paE rfl (gK (K:=K) rfl (fun _ _=>rfl) (vn 0 rfl Z0 rfl rfl) ao) (paE rfl (BM (K:=K) rfl T.t_YEAR_WORDS rfl rfl) aj))))
   (am (bg (jM (aO (bS T) hr rfl rfl rfl rfl (paE rfl (gK (K:=K) rfl (fun _ _=>rfl) (vn 0 rfl Z0 rfl rfl) ao) (paE rfl (vn 1 rfl Z0 rfl rfl) aj))) (km (aO (uD T) hr rfl rfl rfl rfl (paE rfl (gK (K:=K) rfl (fun _ _=>rfl) (vn 0 rfl Z0 rfl rfl) ao) aj))))))
   bu)
   (am (bg eBl)))))),?_⟩
  show bL _ _ _ [some (.ref t),some (.ref p)] H;walk_at "rd";refine⟨.type "tuple",.tup ht,true,by rfl,?_⟩;have st:=SqT.of (K:=K) ht;rcases ok with⟨wd,a,b,rfl,hw,ha,hb,hab⟩|⟨wd,a,y,rfl,hw,ha,y1,y2⟩
  ·have e1:decide (wd∈([Str.ofString "later",Str.ofString "same"]:List Str))=true:=by rcases hw with rfl|rfl<;> decide
   walk_at "rd";refine⟨3,.inr ⟨_,st,rfl⟩,?_⟩;rw[if_neg (by decide)];refine⟨_,st,_,rfl,fun q hq=>⟨wd,q,[Str.ofString "later",Str.ofString "same"],rfl,.inr (hq H),_,rfl,?_⟩⟩;rw[e1];walk_at "rd";refine⟨_,st,_,rfl,a,p,ls,rfl,.inl hp,_,rfl,?_⟩;rw[Zf ha];walk_at "rd";refine⟨_,st,_,rfl,b,p,ls,rfl,.inl hp,_,rfl,?_⟩;rw[Zf hb];walk_at "rd";refine⟨_,st,_,rfl,_,st,_,rfl,rfl,?_⟩;rw[show(!decide (V.str a=V.str b))=true from by simp[hab]];exact k
  ·have e1:decide (wd∈([Str.ofString "later",Str.ofString "same"]:List Str))=false:=by rcases hw with rfl|rfl<;> decide
   have e2:decide (wd∈([Str.ofString "since",Str.ofString "by"]:List Str))=true:=by rcases hw with rfl|rfl<;> decide
   walk_at "rd";refine⟨3,.inr ⟨_,st,rfl⟩,?_⟩;rw[if_neg (by decide)];refine⟨_,st,_,rfl,fun q hq=>⟨wd,q,[Str.ofString "later",Str.ofString "same"],rfl,.inr (hq H),_,rfl,?_⟩⟩;rw[e1];walk_at "rd";refine⟨_,st,_,rfl,fun q hq=>⟨wd,q,[Str.ofString "since",Str.ofString "by"],rfl,.inr (hq H),_,rfl,?_⟩⟩;rw[e2];walk_at "rd";refine⟨_,st,_,rfl,a,p,ls,rfl,.inl hp,_,rfl,?_⟩;rw[Zf ha];walk_at "rd";exact⟨_,st,_,rfl,y,rfl,y1,y2,k⟩
def bF(H:Hp)(cs:List (Addr×Str×List Str)):Prop:=∀p∈cs,H p.1=some (.tup [.str p.2.1,.str (Str.join nl p.2.2)])/\gO p.2.1=true/\bY p.2.2
theorem bF.up{H H':Hp}{cs:List (Addr×Str×List Str)}(h:bF H cs)(s:af H H'):bF H' cs:=fun p hp=>⟨s _ _ (h p hp).1,(h p hp).2⟩
def uE:Sp:=fun vs H Q _=>∃rows:List Str,vs=[.str (Str.join nl rows)]/\bY rows/\∀H',af H H'->Q (.bl true) H'
def wV:Sp:=fun vs H Q _=>∃p:Addr×Str×List Str,vs=[.ref p.1]/\bF H [p]/\∀H',af H H'->Q (.bl true) H'
noncomputable def bE(cs:List (Addr×Str×List Str)):List V:=cs.map fun p=>V.ref p.1
def lK:Sp:=fun vs H Q _=>∃(l:Addr) (cs:List (Addr×Str×List Str)),vs=[.ref l]/\H l=some (.lst (bE cs))/\bF H cs/\(cs.map fun p=>p.2.1).Nodup/\1<=cs.length/\cs.length<=8/\∀H',af H H'->Q .non H'
def ci(H:Hp)(ls:List Str)(qs:List (Addr×List V)):Prop:=∀q∈qs,H q.1=some (.tup q.2)/\mC ls q.2
theorem ci.up{H H':Hp}{ls:List Str}{qs:List (Addr×List V)}(h:ci H ls qs)(s:af H H'):ci H' ls qs:=fun p hp=>⟨s _ _ (h p hp).1,(h p hp).2⟩
def jn(K:PySem.W.Frag):Sp:=fun vs H Q _=>∃(l r:Addr) (ls:List Str) (qs:List (Addr×List V)),vs=[.ref l,.ref r]/\H l=some (.lst (qs.map fun q=>V.ref q.1))/\H r=some (.lst (ls.map V.str))/\ci H ls qs/\qs.length<=60/\∀H',af H H'->Q .non H'
theorem wW(T:Txt K mg):Cal P w K mg base 3 "is_cut" ["thing"] uE:=by
 refine T.d_is_cut.cal ur (fun vs H Q E h=>?_) (fun f cdv A outer s H vs Q E hr h=>?_)
 ·obtain⟨rows,rfl,_⟩:=h;rfl
 ·obtain⟨rows,rfl,hcut,k⟩:=h;refine⟨_,(QSs.h (ah (tryN (fun _ _ h=>h) (am (cu rfl (aO (jk T) hr rfl rfl rfl rfl (paE rfl (vn 0 rfl Z0 rfl rfl) aj)))))
   (am (bg eBl)))),?_⟩
  show bL _ _ _ [some (.str (Str.join nl rows))] H;walk_at "rd";exact⟨rows,rfl,hcut,fun l H1 s1 f1 h1=>k H1 s1⟩
theorem kU(T:Txt K mg):Cal P w K mg base 4 "is_named_cut" ["thing"] wV:=by
 refine T.d_is_named_cut.cal jR (fun vs H Q E h=>?_) (fun f cdv A outer s H vs Q E hr h=>?_)
 ·obtain⟨p,rfl,_⟩:=h;rfl
 ·obtain⟨p,rfl,hp,k⟩:=h;obtain⟨ht,hn,hcut⟩:=hp p (mem_singleton.mpr rfl);refine⟨_,(QSs.h (am (bg (jM (cbE (fE (K:=K) rfl) rfl T.b_isinstance boot_isinstance rfl rfl rfl (paE rfl (vn 0 rfl Z0 rfl rfl) (paE rfl (blE (v:= .ty "tuple") rfl T.b_tuple boot_tuple rfl rfl rfl) aj))) (jM (jL dh rfl (cbE (dL (K:=K) rfl) rfl T.b_len PySem.boot_len rfl rfl rfl (paE rfl (vn 0 rfl Z0 rfl rfl) aj)) ao) (jM (aO (uC T) hr rfl rfl rfl rfl (paE rfl (gK (K:=K) rfl (fun _ _=>rfl) (vn 0 rfl Z0 rfl rfl) ao) aj)) (km (aO (wW T) hr rfl rfl rfl rfl (paE rfl (gK (K:=K) rfl (fun _ _=>rfl) (vn 0 rfl Z0 rfl rfl) ao) aj))))))))),?_⟩;show iT _ _ [some (.ref p.1)] H;walk_at "rd";refine⟨.type "tuple",.tup ht,true,by rfl,?_⟩;have st:=SqT.of (K:=K) ht;walk_at "rd";refine⟨2,.inr ⟨_,st,rfl⟩,?_⟩;rw[if_pos (by decide)];refine⟨_,st,_,rfl,p.2.1,rfl,hn,fun H1 s1=>?_⟩;walk_at "rd";exact⟨_,SqT.of (s1 _ _ ht),_,rfl,p.2.2,rfl,hcut,fun H2 s2=>k H2 (s1.trans s2)⟩
theorem nO(T:Txt K mg):Cal P w K mg base 5 "check_cuts" ["cuts"] lK:=by
 refine T.d_check_cuts.cal cT (fun vs H Q E h=>?_) (fun f cdv A outer s H vs Q E hr h=>?_)
 ·obtain⟨l,cs,rfl,_⟩:=h;rfl
 ·obtain⟨l,cs,rfl,hl,hca,hnd,h1,h8,k⟩:=h;have hrl:(bE cs).length=cs.length:=Z6 _;refine⟨_,(QSs.h (ah (ifS (wT (orW (gJ (et (K:=K) rfl (fun _=>rfl) (cbE (fE (K:=K) rfl) rfl T.b_isinstance boot_isinstance rfl rfl rfl (paE rfl (vn 0 rfl Z0 rfl rfl) (paE rfl (blE (v:= .ty "list") rfl T.b_list boot_list rfl rfl rfl) aj))))) (mW (cc dh rfl (cbE (dL (K:=K) rfl) rfl T.b_len PySem.boot_len rfl rfl rfl (paE rfl (vn 0 rfl Z0 rfl rfl) aj)) ao))))
   (am fS)
   bu)
   (ah (ba 1 cT.nd rfl Z0 Z1 rfl v8)
   (am (dm PassesOwn.never rfl rfl (sw (K:=K) rfl rfl T.b_enumerate rfl (paE rfl (vn 0 rfl Z0 rfl rfl) aj)) (fT (K:=K) rfl rfl rfl (gsE rfl (au 2 cT.nd rfl Z0 Z1) (gsE rfl (au 3 cT.nd rfl Z0 Z1) cX)))
   (ah (ifS (wT (orW (cc dh rfl (vn 2 rfl Z0 rfl rfl) (gvE T.g_MOST_CUTS rfl rfl)) (orW (gJ (et (K:=K) rfl (fun _=>rfl) (aO (kU T) hr rfl rfl rfl rfl (paE rfl (vn 3 rfl Z0 rfl rfl) aj)))) (mW (dinT hr rfl (gK (K:=K) rfl (fun _ _=>rfl) (vn 3 rfl Z0 rfl rfl) ao) (vn 1 rfl Z0 rfl rfl))))))
    (am fS)
    bu)
    (am (sJ hr rfl eBl (vn 1 rfl Z0 rfl rfl) (gK (K:=K) rfl (fun _ _=>rfl) (vn 3 rfl Z0 rfl rfl) ao))))))))),?_⟩
  show bL _ _ _ [some (.ref l),none,none,none] H;refine ak fun D1 k1 _=>?_
  walk_at "rd";refine⟨.type "list",.lst hl,true,by rfl,?_⟩;walk_at "rd";refine⟨cs.length,.inl ⟨_,SqL.of hl,hrl.symm⟩,?_⟩;rw[if_neg (by simp only[decide_eq_true_eq];lia)];refine k1 _ _ (ak fun D2 k2 _=>?_);walk_at "rd";refine fun d hd=>k2 _ _ (aD fun D3 k3 _=>ay fun Kont hK=>?_)
  walk_at "rd";have hl':upd H d (.dK []) l=some (.lst (bE cs)):=af.upd hd _ _ hl;refine⟨_,SqL.of hl',hK _ _ (iA (fun i σ H'=>∃o2 o3 kvs,σ=[some (.ref l),some (.ref d),o2,o3]/\af H H'/\H' d=some (.dK kvs)/\kvs.map (·.1)=(cs.take i).map fun p=>Sum.inr p.2.1) ⟨none,none,[],rfl,af.upd hd,aa,rfl⟩ (fun i σ H' _ ⟨_,_,_,_,q,_⟩=>SqL.of (q _ _ hl)) ?_ ?_)⟩
  ·rintro i x TT σ H' hx ⟨o2,o3,kvs,rfl,sm,hdv,hks⟩ hT;have hi:i<cs.length:=by rw[<-hrl];exact(Xf hx).1
   obtain⟨q,hq,rfl⟩:∃q,cs[i]? =some q/\x=V.ref q.1:=by
    unfold bE at hx;rw[Zl,Z4 hi]at hx;exact⟨cs[i],Z4 hi,(Za hx).symm⟩
   have smT:af H (upd H' TT (.tup [.int i,.ref q.1])):=sm.trans (af.upd hT);have hgT:upd H' TT (.tup [.int i,.ref q.1]) TT=some (.tup [.int i,.ref q.1]):=aa;have hdT:=af.upd (o:= .tup [.int i,.ref q.1]) hT _ _ hdv
   generalize upd H' TT (.tup [.int i,.ref q.1])=HT at smT hdT hgT
   have hqm:=Z8 hq;have hqa:=hca q hqm;refine⟨_,SqT.of hgT,rfl,_,_,rfl,_,_,rfl,rfl,?_⟩;show bL _ _ _ [some (.ref l),some (.ref d),some (.int i),some (.ref q.1)] HT;refine ak fun D4 k4 _=>?_
   walk_at "rd";rw[if_neg (by simp only[decide_eq_true_eq];lia)];refine⟨q,rfl,fun p hp=>by rw[Xh hp];exact⟨smT _ _ hqa.1,hqa.2⟩,fun H2 s2=>⟨true,rfl,?_⟩⟩;rw[if_neg (by decide)];have hnew:(Sum.inr q.2.1:Key)∉kvs.map (·.1):=by
    rw[hks];intro hm;obtain⟨q',hq',e⟩:=Xi hm;have e:q'.2.1=q.2.1:=Sum.inr.inj e;obtain⟨j,hj⟩:=X8 hq';have hji:j<i:=by
     have:=(Xf hj).1;rw[Yh]at this
     lia
    rw[List.getElem?_take_of_lt hji]at hj;have n1:(cs.map fun p=>p.2.1)[j]? =some q.2.1:=by rw[Zl,hj,<-e];rfl
    have n2:(cs.map fun p=>p.2.1)[i]? =some q.2.1:=by rw[Zl,hq];rfl
    have:=j6 hnd n1 n2
    lia
   refine⟨_,SqT.of (s2 _ _ (smT _ _ hqa.1)),_,rfl,_,im.k (k:=Sum.inr q.2.1) (s2 _ _ hdT),?_⟩;have hv:dj kvs (Sum.inr q.2.1:Key)=none:=by
    cases e:dj kvs (Sum.inr q.2.1:Key)with
    | none=>rfl
    | some v=>exact absurd (yc e) hnew
   rw[hv,if_neg (by decide)];refine k4 _ _ (aD fun D5 k5 _=>?_);walk_at "rd";have hkl:kvs.length=i:=by
    have:=congrArg List.length hks;rw[Z6,Z6,Yh]at this
    lia
   refine⟨_,SqT.of (s2 _ _ (smT _ _ hqa.1)),_,rfl,_,oB.k (k:=Sum.inr q.2.1) (s2 _ _ hdT) (by rw[hkl];exact aU (by lia)),k5 _ _ ⟨_,_,_,rfl,af.set (smT.trans s2) hd,aa,?_⟩⟩;rw[ug,if_neg hnew,hks,X2,Zd,hq];rfl
  ·rintro σ H' ⟨o2,o3,kvs,rfl,sm,hdv,hks⟩;exact k3 _ _ (k H' sm)
theorem jS(T:Txt K mg):Cal P w K mg base 3 "check_sayings" ["sayings","layers"] (jn K):=by
 refine T.d_check_sayings.cal cQ (fun vs H Q E h=>?_) (fun f cdv A outer s H vs Q E hr h=>?_)
 ·obtain⟨l,r,ls,qs,rfl,_⟩:=h;rfl
 ·obtain⟨l,r,ls,qs,rfl,hl,hrr,hsa,h60,k⟩:=h;refine⟨_,(QSs.h (ah (ifS (gJ (et (K:=K) rfl (fun _=>rfl) (cbE (fE (K:=K) rfl) rfl T.b_isinstance boot_isinstance rfl rfl rfl (paE rfl (vn 0 rfl Z0 rfl rfl) (paE rfl (blE (v:= .ty "list") rfl T.b_list boot_list rfl rfl rfl) aj)))))
   (am fS)
   bu)
   (am (dm PassesOwn.never rfl rfl (sw (K:=K) rfl rfl T.b_enumerate rfl (paE rfl (vn 0 rfl Z0 rfl rfl) aj)) (fT (K:=K) rfl rfl rfl (gsE rfl (au 2 cQ.nd rfl Z0 Z1) (gsE rfl (au 3 cQ.nd rfl Z0 Z1) cX)))
   (am (ifS (wT (orW (cc dh rfl (vn 2 rfl Z0 rfl rfl) (gvE T.g_MOST_SAYINGS rfl rfl)) (mW (gJ (et (K:=K) rfl (fun _=>rfl) (aO (pQ T) hr rfl rfl rfl rfl (paE rfl (vn 3 rfl Z0 rfl rfl) (paE rfl (vn 1 rfl Z0 rfl rfl) aj))))))))
    (am fS)
    bu)))))),?_⟩
  show bL _ _ _ [some (.ref l),some (.ref r),none,none] H;refine ak fun D1 k1 _=>?_
  walk_at "rd";refine⟨.type "list",.lst hl,true,by rfl,?_⟩;walk_at "rd";refine k1 _ _ (aD fun D3 k3 _=>ay fun Kont hK=>?_);walk_at "rd";have hql:(qs.map fun q=>V.ref q.1).length=qs.length:=Z6 _;refine⟨_,SqL.of hl,hK _ _ (iA (fun i σ H'=>∃o2 o3,σ=[some (.ref l),some (.ref r),o2,o3]/\af H H') ⟨none,none,rfl,af.refl H⟩ (fun i σ H' _ ⟨_,_,_,q⟩=>SqL.of (q _ _ hl)) ?_ ?_)⟩
  ·rintro i x TT σ H' hx ⟨o2,o3,rfl,sm⟩ hT;have hi:i<qs.length:=by rw[<-hql];exact(Xf hx).1
   obtain⟨q,hq,rfl⟩:∃q,qs[i]? =some q/\x=V.ref q.1:=by
    rw[Zl,Z4 hi]at hx;exact⟨qs[i],Z4 hi,(Za hx).symm⟩
   have smT:af H (upd H' TT (.tup [.int i,.ref q.1])):=sm.trans (af.upd hT);have hgT:upd H' TT (.tup [.int i,.ref q.1]) TT=some (.tup [.int i,.ref q.1]):=aa
   generalize upd H' TT (.tup [.int i,.ref q.1])=HT at smT hgT
   have hqm:=Z8 hq;have hqa:=hsa q hqm;refine⟨_,SqT.of hgT,rfl,_,_,rfl,_,_,rfl,rfl,?_⟩;show jH _ _ _ _ [some (.ref l),some (.ref r),some (.int i),some (.ref q.1)] HT;refine aD fun D4 k4 _=>?_
   walk_at "rd";rw[if_neg (by simp only[decide_eq_true_eq];lia)];refine⟨q.1,r,q.2,ls,rfl,smT _ _ hqa.1,SqL.of (smT _ _ hrr),hqa.2,true,rfl,?_⟩;rw[if_neg (by decide)];exact k4 _ _ ⟨_,_,rfl,smT⟩
  ·rintro σ H' ⟨o2,o3,rfl,sm⟩;exact k3 _ _ (k H' sm)
noncomputable def lyr(p:Addr×Str×List Str):List Str:=(aE ((cj p.2.2).map sgn)).map (lnS p.2.1)
def nP:Sp:=fun vs H Q _=>∃(l:Addr) (cs:List (Addr×Str×List Str)),vs=[.ref l]/\H l=some (.lst (bE cs))/\bF H cs/\cs.length<=8/\∀r H' (ls:List Str),af H H'->H r=none->H' r=some (.lst (ls.map V.str))->ls.Perm (cs.flatMap lyr)->ls.Pairwise (fun a b=>aQ b a=false)->Q (.ref r) H'
noncomputable def kW(n:Str)(k:List Str):List Str:=k.map (lnS n) ++[n]
noncomputable def nQ(i:Nat):Str:=Str.empty++Str.ofString "#"++Str.ofString (toString (i:Int))
noncomputable def fu(cs:List (Addr×Str×List Str)):List (List Str):=cs.flatMap fun p=>(cU p.2.2 (p.2.2.length-1)).map (kW p.2.1)
noncomputable def ig(i:Nat):List V->Option (List Str)
 |[.str w,.str a,.str b]=>if w=Str.ofString "later" then some [a,b,nQ i]else none
 | _=>none
noncomputable def cV(qs:List (Addr×List V))(n:Nat):List (List Str):=(List.range n).filterMap fun j=>qs[j]?.bind fun q=>ig j q.2
theorem yS{n x y:Str}(h:lnS n x=lnS n y):x=y:=by
 have e:=congrArg (fun z:Str=>z.cps.toList) h;refine eW (List.append_cancel_left (as:=(Str.empty++n++Str.ofString ".").cps.toList) ?_);rw[<-X4,<-X4];exact e
theorem mD{n n':Str}{k k':List Str}(h:kW n k=kW n' k'):n=n'/\k=k':=by
 obtain⟨h1,h2⟩:=List.append_inj' h rfl;have e:n=n':=by simpa using h2
 subst e;exact⟨rfl,(List.map_inj_right fun _ _=>yS).mp h1⟩
theorem wX{cs:List (Addr×Str×List Str)}{i:Nat}{q p:Addr×Str×List Str}(hnd:(cs.map fun p=>p.2.1).Nodup)(hq:cs[i]? =some q)(hp:p∈cs.take i):p.2.1≠q.2.1:=by
 rw[<-X3 i cs,Zd,Yv]at hnd;exact hnd.2.2 _ (Xj ⟨p,hp,rfl⟩) _ (Xj ⟨q,Z8 (i:=0) (by rw[Y8];exact hq),rfl⟩)
theorem nR{cs:List (Addr×Str×List Str)}{i:Nat}{q:Addr×Str×List Str}(hq:cs[i]? =some q):fu (cs.take (i+1))=fu (cs.take i) ++(cU q.2.2 (q.2.2.length-1)).map (kW q.2.1):=by
 unfold fu;rw[X2,hq,flatMap_append];show _++([q].flatMap fun p=>(cU p.2.2 (p.2.2.length-1)).map (kW p.2.1))=_;rw[List.flatMap_singleton]
theorem fw{qs:List (Addr×List V)}{i:Nat}{q:Addr×List V}(hq:qs[i]? =some q):cV qs (i+1)=cV qs i++(ig i q.2).toList:=by
 unfold cV;rw[range_succ,List.filterMap_append];refine congrArg _ ?_;rw[Y2,hq];rw[Option.bind_some];cases ig i q.2<;> rfl
def nS:Sp:=fun vs H Q _=>∃(l:Addr) (cs:List (Addr×Str×List Str)),vs=[.ref l]/\H l=some (.lst (bE cs))/\bF H cs/\(cs.map fun p=>p.2.1).Nodup/\cs.length<=8/\∀r H' (ts:List (Addr×List Str)),af H H'->H r=none->H' r=some (.lst (ts.map fun t=>V.ref t.1))->aZ H' ts->(∀t∈ts,t.2.length=3)->ts.length<=8*1000->(ts.map (·.2)).Nodup->(∀k,k∈ts.map (·.2)↔k∈fu cs)->Q (.ref r) H'
def nT:Sp:=fun vs H Q _=>∃(l:Addr) (ls:List Str) (qs:List (Addr×List V)),vs=[.ref l]/\H l=some (.lst (qs.map fun q=>V.ref q.1))/\ci H ls qs/\qs.length<=60/\∀r H' (ts:List (Addr×List Str)),af H H'->H r=none->H' r=some (.lst (ts.map fun t=>V.ref t.1))->aZ H' ts->(∀t∈ts,t.2.length=3)->ts.length<=60->ts.map (·.2)=cV qs qs.length->Q (.ref r) H'
theorem kX{z:Str}(h:gO z=true):z.length<=8:=by
 unfold gO at h;rw[Zx,Zx]at h;have:=Zo h.1.2
 lia
theorem fz{cs:List Nat}{z:Str}(h:z∈aE (cs.map sgn)):∃c∈cs,z=sgn c:=by
 have:z∈cs.map sgn:=dr.mp h;obtain⟨c,hc,rfl⟩:=Xi this;exact⟨c,hc,rfl⟩
theorem pR(T:Txt K mg):Cal P w K mg base 4 "layers_of" ["cuts"] nP:=by
 refine T.d_layers_of.cal dv (fun vs H Q E h=>?_) (fun f cdv A outer s H vs Q E hr h=>?_)
 ·obtain⟨l,cs,rfl,_⟩:=h;rfl
 ·obtain⟨l,cs,rfl,hl,hca,h8,k⟩:=h;have hrl:(bE cs).length=cs.length:=Z6 _;refine⟨_,(QSs.h (ah (ba 1 dv.nd rfl Z0 Z1 rfl (dZ aj))
   (ah (dm PassesOwn.never rfl rfl (cW (K:=K) rfl (vn 0 rfl Z0 rfl rfl)) (fT (K:=K) rfl rfl rfl (gsE rfl (au 2 dv.nd rfl Z1 Z0) (gsE rfl (au 3 dv.nd rfl Z0 Z1) cX)))
   (am (cu rfl (bmE (K:=K) rfl plainAttrs_list PySem.F.slot_list_extend PySem.F.type_list_extend oI rfl rfl rfl rfl (vn 1 rfl Z0 rfl rfl) (paE rfl (eI (ax.of (show bU (ag ef) ["cuts","layers","name","text"] _ ["letter","name"] [(1,2)]=true from by decide +kernel)) rfl rfl (cW (K:=K) rfl (aO (uA T) hr rfl rfl rfl rfl (paE rfl (vn 3 rfl Z0 rfl rfl) aj))) (fun _ _ _=>(au 0 (show(["letter","name"]:List Str).Nodup from by decide +kernel) rfl Z0 Z1)) (fun _ _ _=>i4) (fun _ _ _=>(aO (fq T) hr rfl rfl rfl rfl (paE rfl (vn 1 rfl (Or.inr Z0) rfl rfl) (paE rfl (vn 0 rfl Z0 rfl rfl) aj))))) aj)))))
   (am (bg (cbE (gw (K:=K) rfl) rfl T.b_sorted boot_sorted rfl rfl rfl (paE rfl (vn 1 rfl Z0 rfl rfl) aj))))))),?_⟩
  show bL _ _ _ [some (.ref l),none,none,none] H;refine ak fun D1 k1 _=>?_
  walk_at "rd";refine⟨X7 _,fun L hL=>k1 _ _ (ak fun D2 k2 _=>ay fun Kont hK=>?_)⟩;walk_at "rd";refine .inl ⟨⟨_,SqL.of (af.upd hL _ _ hl)⟩,hK _ _ (bQ (fun i σ H'=>∃o2 o3,σ=[some (.ref l),some (.ref L),o2,o3]/\af H H'/\∃ms:List Str,H' L=some (.lst (ms.map V.str))/\ms.Perm ((cs.take i).flatMap lyr)/\ms.length<=26*i)
   ⟨none,none,rfl,af.upd hL,[],aa,List.Perm.refl _,X7 _⟩ (fun i σ H' _ ⟨_,_,_,q,_⟩=>SqL.of (q _ _ hl)) ?_ ?_)⟩
  ·rintro i x σ H' hx ⟨o2,o3,rfl,sm,ms,hm,hp,hml⟩;have hi:i<cs.length:=by rw[<-hrl];exact(Xf hx).1
   obtain⟨q,hq,rfl⟩:∃q,cs[i]? =some q/\x=V.ref q.1:=by
    unfold bE at hx;rw[Zl,Z4 hi]at hx;exact⟨cs[i],Z4 hi,(Za hx).symm⟩
   have hqa:=hca q (Z8 hq);refine⟨_,SqT.of (sm _ _ hqa.1),rfl,_,_,rfl,_,_,rfl,rfl,?_⟩;refine aD fun D3 k3 _=>?_
   show jr _ _ [some (.ref l),some (.ref L),some (.str q.2.1),some (.str (Str.join nl q.2.2))] H';walk_at "rd";refine⟨.inl ⟨_,SqL.of hm⟩,aL fun Kont hK=>?_⟩;walk_at "rd";refine⟨q.2.2,rfl,hqa.2.2,fun l2 H2 ss s2 f2 h2 p2 q2=>?_⟩;walk_at "rd";refine .inl ⟨⟨_,SqL.of h2⟩,hK _ _ fun F hF=>?_⟩;have few:ss.length<=26:=by rw[p2.length_eq];exact gY fun c hc=>i7 hqa.2.2.sign c hc
   have one:∀z∈ss,z.length=1:=fun z hz=>by
    obtain⟨c,_,rfl⟩:=fz (p2.mem_iff.mp hz);rfl
   refine bG (J:=Itl K l2) (n:=ss.length) (D:=F) (fun j ts σ H'=>(∃o,σ=[o,some (.str q.2.1)])/\af H2 H'/\H' F=some (.lst ts)/\ts=((ss.take j).map (lnS q.2.1)).map V.str)
    ⟨⟨none,rfl⟩,af.upd hF,aa,rfl⟩
    (fun j _ _ H' hj ⟨_,sm,_⟩=>⟨_,V.str ss[j],SqL.of (sm _ _ h2),by simp[hj]⟩) (fun _ _ H' ⟨_,sm,_⟩=>⟨_,SqL.of (sm _ _ h2),by simp⟩) ?_ ?_
   ·rintro j ts σ H3 hj ⟨⟨o,rfl⟩,s3,hFv,ht⟩ x H4 ⟨e2,hx⟩;subst e2;have hxi:=hx _ (SqL.of (s3 _ _ h2));rw[Zl,Z4 hj]at hxi;obtain rfl:x=V.str ss[j]:=(Za hxi).symm;walk_at "rd";refine⟨_,_,rfl,by have:=kX hqa.2.1;lia,by rw[one _ (Ya hj)];decide,?_⟩;refine CK.mk hj hFv (by rw[ht,Z6,Z6,Yh];exact aU (by lia)) ⟨⟨_,rfl⟩,af.set s3 hF,aa,?_⟩;rw[ht,X2,Zd,Zd,Z4 hj];rfl
   rintro ts σ H3 ⟨_,s3,hF3,ht⟩;rw[Zn (Zi _)]at ht;walk_at "rd";have sz:(ms.map V.str).length+ts.length<=sizeLine:=by rw[ht,Z6,Z6,Z6];exact bD (by lia)
   refine⟨_,s3 _ _ (s2 _ _ hm),_,hF3,sz,k3 _ _ ⟨_,_,rfl,af.set (sm.trans (s2.trans s3)) hL,ms++ss.map (lnS q.2.1),?_,?_,?_⟩⟩
   ·rw[aa,ht,Zd]
   ·rw[X2,hq,flatMap_append];refine hp.append ?_;show List.Perm _ ([q].flatMap lyr);rw[List.flatMap_singleton];exact p2.map _
   ·rw[Z9,Z6]
    lia
  ·rintro σ H' ⟨o2,o3,rfl,sm,ms,hm,hp,hml⟩;refine k2 _ _ ?_;walk_at "rd";rw[hrl,Zn (Zi _)]at hp;exact⟨ms,SqL.of hm,by lia,fun r ss hr' p' q'=>k r _ ss (sm.trans (af.upd hr')) (sm.free hr') aa (p'.trans hp) q'⟩
theorem kY(T:Txt K mg):Cal P w K mg base 4 "ties_of_cuts" ["cuts"] nS:=by
 refine T.d_ties_of_cuts.cal bA (fun vs H Q E h=>?_) (fun f cdv A outer s H vs Q E hr h=>?_)
 ·obtain⟨l,cs,rfl,_⟩:=h;rfl
 ·obtain⟨l,cs,rfl,hl,hca,hnd,h8,k⟩:=h;have hrl:(bE cs).length=cs.length:=Z6 _;refine⟨_,(QSs.h (ah (ba 1 bA.nd rfl Z0 Z1 rfl (dZ aj))
   (ah (dm PassesOwn.never rfl rfl (cW (K:=K) rfl (vn 0 rfl Z0 rfl rfl)) (fT (K:=K) rfl rfl rfl (gsE rfl (au 2 bA.nd rfl Z0 Z1) (gsE rfl (au 3 bA.nd rfl Z0 Z1) cX)))
   (am (dm PassesOwn.never rfl rfl (cW (K:=K) rfl (aO (rF T) hr rfl rfl rfl rfl (paE rfl (vn 3 rfl Z0 rfl rfl) aj))) (fT (K:=K) rfl rfl rfl (gsE rfl (au 4 bA.nd rfl Z0 Z1) (gsE rfl (au 5 bA.nd rfl Z0 Z1) cX)))
    (am (cu rfl (bmE (K:=K) rfl plainAttrs_list PySem.F.slot_list_append PySem.F.type_list_append bv rfl rfl rfl rfl (vn 1 rfl Z0 rfl rfl) (paE rfl (fR (paE rfl (aO (fq T) hr rfl rfl rfl rfl (paE rfl (vn 2 rfl Z0 rfl rfl) (paE rfl (vn 4 rfl Z0 rfl rfl) aj))) (paE rfl (aO (fq T) hr rfl rfl rfl rfl (paE rfl (vn 2 rfl Z0 rfl rfl) (paE rfl (vn 5 rfl Z0 rfl rfl) aj))) (paE rfl (vn 2 rfl Z0 rfl rfl) aj)))) aj)))))))
   (am (bg (vn 1 rfl Z0 rfl rfl)))))),?_⟩
  show bL _ _ _ [some (.ref l),none,none,none,none,none] H;refine ak fun D1 k1 _=>?_
  walk_at "rd";refine⟨X7 _,fun L hL=>k1 _ _ (ak fun D2 k2 _=>ay fun Kont hK=>?_)⟩;walk_at "rd";refine .inl ⟨⟨_,SqL.of (af.upd hL _ _ hl)⟩,hK _ _ (bQ (fun i σ H'=>∃o2 o3 o4 o5,σ=[some (.ref l),some (.ref L),o2,o3,o4,o5]/\af H H'/\∃ts:List (Addr×List Str),H' L=some (.lst (ts.map fun t=>V.ref t.1))/\aZ H' ts/\(∀t∈ts,t.2.length=3)/\ts.length<=1000*i/\(ts.map (·.2)).Nodup/\∀k,k∈ts.map (·.2)↔k∈fu (cs.take i))
   ⟨none,none,none,none,rfl,af.upd hL,[],aa,iO _,fun t ht=>(nomatch ht),X7 _,nodup_nil,fun k=>Iff.rfl⟩ (fun i σ H' _ ⟨_,_,_,_,_,q,_⟩=>SqL.of (q _ _ hl)) ?_ ?_)⟩
  ·rintro i x σ H' hx ⟨o2,o3,o4,o5,rfl,sm,ts,hm,hta,ht3,htl,tnd,tmem⟩;have hi:i<cs.length:=by rw[<-hrl];exact(Xf hx).1
   obtain⟨q,hq,rfl⟩:∃q,cs[i]? =some q/\x=V.ref q.1:=by
    unfold bE at hx;rw[Zl,Z4 hi]at hx;exact⟨cs[i],Z4 hi,(Za hx).symm⟩
   have hqa:=hca q (Z8 hq);refine⟨_,SqT.of (sm _ _ hqa.1),rfl,_,_,rfl,_,_,rfl,rfl,?_⟩;refine aD fun D3 k3 _=>?_
   show va _ _ _ _ [some (.ref l),some (.ref L),some (.str q.2.1),some (.str (Str.join nl q.2.2)),o4,o5] H';refine ay fun Kont hK=>?_
   walk_at "rd";refine⟨q.2.2,rfl,hqa.2.2,?_⟩;intro l2 H2 ss s2 f2 h2 t2 nd2 _ mem2;have inU:∀t∈ss,t.2∈cz/\∃a b,t.2=[sgn a,sgn b]:=fun t ht=>by
    obtain⟨a,b,e,hm⟩:=(mem2 t.2).mp (Xj ⟨t,ht,rfl⟩);exact⟨(sL hqa.2.2 (gE.mpr ⟨a,b,e,hm⟩)).1,a,b,e⟩
   have few:ss.length<=729:=by
    have:=List.Nodup.length_le_of_subset nd2 (l₂:=cz) fun k hk=>by
     obtain⟨t,ht,rfl⟩:=Xi hk;exact(inU t ht).1
    rw[Z6,nL]at this;exact this
   have nlen:=kX hqa.2.1;have hl2L:l2≠L:=fun e=>by rw[e,hm]at f2;cases f2
   have hsl:(ss.map fun p=>V.ref p.1).length=ss.length:=Z6 _;refine .inl ⟨l2,rfl,⟨_,SqL.of h2⟩,hK _ _ (bQ (xs:=ss.map fun p=>V.ref p.1) (fun j σ H3=>∃o4 o5,σ=[some (.ref l),some (.ref L),some (.str q.2.1),some (.str (Str.join nl q.2.2)),o4,o5]/\af H H3/\H3 l2=some (.lst (ss.map fun p=>V.ref p.1))/\aZ H3 ss/\∃ts':List (Addr×List Str),H3 L=some (.lst (ts'.map fun t=>V.ref t.1))/\aZ H3 ts'/\(∀t∈ts',t.2.length=3)/\ts'.length<=1000*i+j/\ts'.map (·.2)=ts.map (·.2) ++((ss.take j).map (·.2)).map (kW q.2.1))
    ⟨_,_,rfl,sm.trans s2,h2,t2,ts,s2 _ _ hm,aW hta fun b z e=>s2 _ _ e,ht3,by lia,(Zz _).symm⟩ (fun j σ H3 _ ⟨_,_,_,_,q,_⟩=>SqL.of q) ?_ ?_)⟩
   ·rintro j x σ H3 hx ⟨o4,o5,rfl,sm3,hl3,ht3',ts',hm3,hta3,h33,hlen3,heq3⟩;have hj:j<ss.length:=by rw[<-hsl];exact(Xf hx).1
    rw[Zl,Z4 hj]at hx;obtain rfl:x=V.ref ss[j].1:=(Za hx).symm;have hmem:=Ya hj;obtain⟨_,a,b,eab⟩:=inU _ hmem;have hta':=(ht3' _ hmem).2;rw[eab]at hta';refine⟨_,SqT.of hta',rfl,_,_,rfl,_,_,rfl,rfl,?_⟩;refine aD fun D4 k4 _=>?_
    show jr _ _ [some (.ref l),some (.ref L),some (.str q.2.1),some (.str (Str.join nl q.2.2)),some (.str (sgn a)),some (.str (sgn b))] H3;walk_at "rd";refine⟨.inl ⟨_,SqL.of hm3⟩,q.2.1,sgn a,rfl,by lia,(show 1<=100 by decide),?_⟩;walk_at "rd";refine⟨q.2.1,sgn b,rfl,by lia,(show 1<=100 by decide),?_⟩;walk_at "rd";refine⟨(show 3<=sizeLine by decide),fun p hp=>?_⟩;have sp:=af.upd (o:= .tup [V.str (lnS q.2.1 (sgn a)),V.str (lnS q.2.1 (sgn b)),V.str q.2.1]) hp;have gp:upd H3 p (.tup [V.str (lnS q.2.1 (sgn a)),V.str (lnS q.2.1 (sgn b)),V.str q.2.1]) p=_:=aa
    generalize upd H3 p (.tup [V.str (lnS q.2.1 (sgn a)),V.str (lnS q.2.1 (sgn b)),V.str q.2.1])=H4 at sp gp
    have hm4:=sp _ _ hm3;have keepT:∀b z,H4 b=some (.tup z)->upd H4 L (.lst (ts'.map (fun t=>V.ref t.1) ++[V.ref p])) b=some (.tup z):=fun b z e=>by
     have:b≠L:=fun e2=>by rw[e2,hm4]at e;cases e
     rw[ai this];exact e
    refine⟨_,hm4,by rw[Z6];exact Nat.lt_of_le_of_lt (show ts'.length<=10000 by lia) (by decide),k4 _ _ ⟨_,_,rfl,af.set (sm3.trans sp) hL,by rw[ai hl2L];exact sp _ _ hl3,aW (aW ht3' fun b z e=>sp _ _ e) keepT,ts'++[(p,[lnS q.2.1 (sgn a),lnS q.2.1 (sgn b),q.2.1])],?_,?_,?_,?_,?_⟩⟩
    ·rw[aa,Zd];rfl
    ·exact aW (jl (aW hta3 fun b z e=>sp _ _ e) (by simp) gp) keepT
    ·intro t ht;rcases Xg ht with z|z
     ·exact h33 t z
     ·rw[Xh z];rfl
    ·rw[Z9,length_singleton];lia
    ·rw[Zd,heq3,Ze,X2,Z4 hj,Zd,Zd];show _++(_++[_])=_++(_++[kW q.2.1 ss[j].2]);rw[eab];rfl
   ·rintro σ H3 ⟨o4,o5,rfl,sm3,hl3,ht3',ts',hm3,hta3,h33,hlen3,heq3⟩;rw[hsl,Zn (Zi _)]at heq3;refine k3 _ _ ⟨_,_,_,_,rfl,sm3,ts',hm3,hta3,h33,by rw[hsl]at hlen3;lia,?_,fun k=>?_⟩
    ·rw[heq3,Yv];refine⟨tnd,?_,fun x hx y hy e=>?_⟩
     ·rw[Yw,X1];exact(nodup_iff_pairwise_ne.mp nd2).imp fun hne he=>hne (mD he).2
     ·obtain⟨p,hp,hx⟩:=mem_flatMap.mp ((tmem x).mp hx);obtain⟨k1,_,rfl⟩:=Xi hx;obtain⟨k2,_,rfl⟩:=Xi hy;exact wX hnd hq hp (mD e).1
    ·rw[heq3,nR hq,mem_append,mem_append,tmem,mem_map,mem_map];refine or_congr Iff.rfl (exists_congr fun z=>and_congr_left fun _=>?_);rw[mem2,gE]
  ·rintro σ H' ⟨o2,o3,o4,o5,rfl,sm,ts,hm,hta,ht3,htl,tnd,tmem⟩;refine k2 _ _ ?_;walk_at "rd";rw[hrl,Zn (Zi _)]at tmem;exact k L H' ts sm hL hm hta ht3 (by lia) tnd tmem
theorem iQ(T:Txt K mg):Cal P w K mg base 1 "ties_of_sayings" ["sayings"] nT:=by
 refine T.d_ties_of_sayings.cal bN (fun vs H Q E h=>?_) (fun f cdv A outer s H vs Q E hr h=>?_)
 ·obtain⟨l,ls,qs,rfl,_⟩:=h;rfl
 ·obtain⟨l,ls,qs,rfl,hl,hsa,h60,k⟩:=h;have hql:(qs.map fun q=>V.ref q.1).length=qs.length:=Z6 _;refine⟨_,(QSs.h (ah (ba 1 bN.nd rfl Z0 Z1 rfl (dZ aj))
   (ah (dm PassesOwn.never rfl rfl (sw (K:=K) rfl rfl T.b_enumerate rfl (paE rfl (vn 0 rfl Z0 rfl rfl) aj)) (fT (K:=K) rfl rfl rfl (gsE rfl (au 2 bN.nd rfl Z0 Z1) (gsE rfl (au 3 bN.nd rfl Z0 Z1) cX)))
   (am (ifS (cc dh rfl (gK (K:=K) rfl (fun _ _=>rfl) (vn 3 rfl Z0 rfl rfl) ao) dI)
    (am (cu rfl (bmE (K:=K) rfl plainAttrs_list PySem.F.slot_list_append PySem.F.type_list_append bv rfl rfl rfl rfl (vn 1 rfl Z0 rfl rfl) (paE rfl (fR (paE rfl (gK (K:=K) rfl (fun _ _=>rfl) (vn 3 rfl Z0 rfl rfl) ao) (paE rfl (gK (K:=K) rfl (fun _ _=>rfl) (vn 3 rfl Z0 rfl rfl) ao) (paE rfl (zh (pjE dI (pjE (AL (vn 2 rfl Z0 rfl rfl)) zg))) aj)))) aj))))
    bu)))
   (am (bg (vn 1 rfl Z0 rfl rfl)))))),?_⟩
  show bL _ _ _ [some (.ref l),none,none,none] H;refine ak fun D1 k1 _=>?_
  walk_at "rd";refine⟨X7 _,fun L hL=>k1 _ _ (ak fun D2 k2 _=>ay fun Kont hK=>?_)⟩;walk_at "rd";refine⟨_,SqL.of (af.upd hL _ _ hl),hK _ _ (iA (fun i σ H'=>∃o2 o3,σ=[some (.ref l),some (.ref L),o2,o3]/\af H H'/\∃ts:List (Addr×List Str),H' L=some (.lst (ts.map fun t=>V.ref t.1))/\aZ H' ts/\(∀t∈ts,t.2.length=3)/\ts.length<=i/\ts.map (·.2)=cV qs i)
   ⟨none,none,rfl,af.upd hL,[],aa,iO _,fun t ht=>(nomatch ht),X7 _,rfl⟩ (fun i σ H' _ ⟨_,_,_,q,_⟩=>SqL.of (q _ _ hl)) ?_ ?_)⟩
  ·rintro i x TT σ H' hx ⟨o2,o3,rfl,sm,ts,hm,hta,ht3,htl,teq⟩ hT;have hi:i<qs.length:=by rw[<-hql];exact(Xf hx).1
   obtain⟨q,hq,rfl⟩:∃q,qs[i]? =some q/\x=V.ref q.1:=by
    rw[Zl,Z4 hi]at hx;exact⟨qs[i],Z4 hi,(Za hx).symm⟩
   have s0:=af.upd (o:= .tup [.int i,.ref q.1]) hT;have smT:af H (upd H' TT (.tup [.int i,.ref q.1])):=sm.trans s0;have hgT:upd H' TT (.tup [.int i,.ref q.1]) TT=some (.tup [.int i,.ref q.1]):=aa;have hmT:=s0 _ _ hm;have htaT:=aW hta fun b z e=>s0 _ _ e
   generalize upd H' TT (.tup [.int i,.ref q.1])=HT at smT hgT hmT htaT
   have hqa:=hsa q (Z8 hq);refine⟨_,SqT.of hgT,rfl,_,_,rfl,_,_,rfl,rfl,?_⟩;show jH _ _ _ _ [some (.ref l),some (.ref L),some (.int i),some (.ref q.1)] HT;refine aD fun D4 k4 _=>?_
   walk_at "rd";have st:=SqT.of (K:=K) (smT _ _ hqa.1);have hlen:(Str.ofString (toString (i:Int))).length<=21:=by
    have e:=PySem.int_text_length_le10 (a:=(i:Int)) (k:=20) (by decide) (by have:(i:Int).natAbs=i:=rfl;lia);rw[PySem.ofString_length];lia
   have e1:(Str.empty++Str.ofString "#").length=1:=by decide +kernel
   have ea:∀a b:Str,(a++b).length=a.length+b.length:=fun a b=>size_append
   have add:∀a b:Str,ig i q.2=some [a,b,nQ i]->∀p,HT p=none->∃x,upd HT p (.tup [.str a,.str b,V.str (Str.empty++Str.ofString "#"++Str.ofString (toString (i:Int)))]) L=some (.lst x)/\x.length<sizeLine/\D4.nx [some (.ref l),some (.ref L),some (.int i),some (.ref q.1)] (upd (upd HT p (.tup [.str a,.str b,V.str (Str.empty++Str.ofString "#"++Str.ofString (toString (i:Int)))])) L (.lst (x++[V.ref p]))):=by
    intro a b hst p hp;have tn:=fw hq;rw[hst,<-teq]at tn;unfold nQ at tn
    generalize hz:Str.empty++Str.ofString "#"++Str.ofString (toString (i:Int))=z at tn ⊢
    have sp:=af.upd (o:= .tup [V.str a,V.str b,V.str z]) hp;have gp:upd HT p (.tup [V.str a,V.str b,V.str z]) p=_:=aa
    generalize upd HT p (.tup [V.str a,V.str b,V.str z])=H4 at sp gp
    have hm4:=sp _ _ hmT;have keepT:∀b z,H4 b=some (.tup z)->upd H4 L (.lst (ts.map (fun t=>V.ref t.1) ++[V.ref p])) b=some (.tup z):=fun b z e=>by
     have:b≠L:=fun e2=>by rw[e2,hm4]at e;cases e
     rw[ai this];exact e
    refine⟨_,hm4,by rw[Z6];exact aU (by lia),k4 _ _ ⟨_,_,rfl,af.set (smT.trans sp) hL,ts++[(p,[a,b,z])],?_,?_,?_,?_,?_⟩⟩
    ·rw[aa,Zd];rfl
    ·exact aW (jl (aW htaT fun b z e=>sp _ _ e) (by simp) gp) keepT
    ·intro t ht;rcases Xg ht with z|z
     ·exact ht3 t z
     ·rw[Xh z];rfl
    ·rw[Z9,length_singleton];lia
    ·rw[tn,Zd];rfl
   rcases hqa.2 with⟨wd,a,b,e,hw,_⟩|⟨wd,a,y,e,hw,_⟩
   ·rw[e]at st;refine⟨_,st,_,rfl,rfl,bZ (fun hw2=>?_) fun hw2=>?_⟩
    ·refine⟨.inl ⟨_,SqL.of hmT⟩,_,st,_,rfl,_,st,_,rfl,bD (by lia),?_,bD (by rw[ea];lia),bD (by rw[ea];lia),(show 3<=sizeLine by decide),add a b (by rw[e];exact if_pos (V.str.inj (Zo hw2)))⟩;have:(i:Int).natAbs=i:=rfl
     lia
    ·refine k4 _ _ ⟨_,_,rfl,smT,ts,hmT,htaT,ht3,by lia,?_⟩;rw[fw hq,e,show ig i [V.str wd,V.str a,V.str b]=none from if_neg fun z=>hw2 (Zf (by rw[z])),teq];exact(Zz _).symm
   ·rw[e]at st;refine⟨_,st,_,rfl,rfl,?_⟩;rw[if_neg (by rcases hw with rfl|rfl<;> decide)];refine k4 _ _ ⟨_,_,rfl,smT,ts,hmT,htaT,ht3,by lia,?_⟩;rw[fw hq,e,teq];exact(Zz _).symm
  ·rintro σ H' ⟨o2,o3,rfl,sm,ts,hm,hta,ht3,htl,teq⟩;refine k2 _ _ ?_;walk_at "rd";rw[hql]at teq;exact k L H' ts sm hL hm hta ht3 (by lia) teq
structure nU (cs:List (Addr×Str×List Str)) (qs:List (Addr×List V)) (ks:List (List Str)):Prop where
 nd:ks.Nodup
 so:ks.Pairwise (fun a b=>cx b a=false)
 mem:∀k,k∈ks↔k∈fu cs\/k∈cV qs qs.length
theorem nU.one{cs:List (Addr×Str×List Str)}{qs:List (Addr×List V)}{ks ms:List (List Str)}(h:nU cs qs ks)(g:nU cs qs ms):ks=ms:=
 dP cx (fun _ _ a b=>i9 a b) h.so g.so h.nd g.nd fun x=>(h.mem x).trans (g.mem x).symm
theorem yT:∀a b:Fin 60,nQ a.1=nQ b.1->a=b:=by decide +kernel
theorem wY:∀a:Fin 60,gO (nQ a.1)=false:=by decide +kernel
theorem ii{i:Nat}{xs:List V}{t:List Str}(h:ig i xs=some t):∃a b,t=[a,b,nQ i]:=by
 unfold ig at h
 split at h
 ·split at h
  ·exact⟨_,_,(Za h).symm⟩
  ·cases h
 ·cases h
theorem wZ{qs:List (Addr×List V)}{n:Nat}{t:List Str}(h:t∈cV qs n):∃i,i<n/\∃a b,t=[a,b,nQ i]:=by
 obtain⟨i,hi,e⟩:=mem_filterMap.mp h;obtain⟨q,_,e⟩:=bind_eq_some_iff.mp e;exact⟨i,mem_range.mp hi,ii e⟩
theorem rJ{qs:List (Addr×List V)}{n:Nat}(h:n<=60):(cV qs n).Nodup:=by
 unfold cV;rw[Yw,List.pairwise_filterMap];refine X9 (fun{i j} hi hj hlt b eb c ec e=>?_) List.pairwise_lt_range;have hi:=mem_range.mp hi;have hj:=mem_range.mp hj;obtain⟨_,_,eb⟩:=bind_eq_some_iff.mp eb;obtain⟨_,_,ec⟩:=bind_eq_some_iff.mp ec;obtain⟨x,y,e1⟩:=ii eb;obtain⟨x',y',e2⟩:=ii ec;rw[e1,e2]at e;simp only[List.cons.injEq,and_true]at e;have:=congrArg Fin.val (yT ⟨i,by lia⟩ ⟨j,by lia⟩ e.2.2);dsimp only at this
 lia
theorem rK{H:Hp}{cs:List (Addr×Str×List Str)}{qs:List (Addr×List V)}{n:Nat}(hc:bF H cs)(h:n<=60){k:List Str}(h1:k∈fu cs)(h2:k∈cV qs n):False:=by
 obtain⟨i,hi,a,b,e⟩:=wZ h2;obtain⟨p,hp,hk⟩:=mem_flatMap.mp h1;obtain⟨z,_,rfl⟩:=Xi hk;have:=(List.append_inj' (show z.map (lnS p.2.1) ++[p.2.1]=[a,b] ++[nQ i]from e) rfl).2;have nb:=(hc p hp).2.1;rw[(List.cons.inj this).1,wY ⟨i,by lia⟩]at nb;cases nb
structure GrF (mg:Str->Option Value) (H:Hp) (g c2 c3 c4:Addr) (qs:List (Addr×List V)) (ls:List Str) (ts:List (Addr×List Str)):Prop where
 at_:∃dx c1,H g=some (.ins (ck mg "Ground") dx [("kept_cuts",.ref c1),("kept_sayings",.ref c2),("kept_layers",.ref c3),("kept_ties",.ref c4)])
 a2:H c2=some (.lst (qs.map fun q=>V.ref q.1))
 a3:H c3=some (.lst (ls.map V.str))
 a4:H c4=some (.lst (ts.map fun t=>V.ref t.1))
 sa:ci H ls qs
 tu:aZ H ts
theorem GrF.up{mg:Str->Option Value}{H H':Hp}{g c2 c3 c4:Addr}{qs:List (Addr×List V)}{ls:List Str}{ts:List (Addr×List Str)}(h:GrF mg H g c2 c3 c4 qs ls ts)(s:af H H'):GrF mg H' g c2 c3 c4 qs ls ts:=by
 obtain⟨dx,c1,h0⟩:=h.at_;exact⟨⟨dx,c1,s _ _ h0⟩,s _ _ h.a2,s _ _ h.a3,s _ _ h.a4,h.sa.up s,aW h.tu fun b z e=>s _ _ e⟩
def uF(mg:Str->Option Value):Sp:=fun vs H Q _=>∃(g c2 c3 c4:Addr) (qs:List (Addr×List V)) (ls:List Str) (ts:List (Addr×List Str)),vs=[.ref g]/\GrF mg H g c2 c3 c4 qs ls ts/\∀l,H l=none->Q (.ref l) (upd H l (.lst (ls.map V.str)))
def rL(mg:Str->Option Value):Sp:=fun vs H Q _=>∃(g c2 c3 c4:Addr) (qs:List (Addr×List V)) (ls:List Str) (ts:List (Addr×List Str)),vs=[.ref g]/\GrF mg H g c2 c3 c4 qs ls ts/\∀l,H l=none->Q (.ref l) (upd H l (.lst (qs.map fun q=>V.ref q.1)))
def BU(mg:Str->Option Value):Sp:=fun vs H Q _=>∃(g c2 c3 c4:Addr) (qs:List (Addr×List V)) (ls:List Str) (ts:List (Addr×List Str)),vs=[.ref g]/\GrF mg H g c2 c3 c4 qs ls ts/\∀l,H l=none->Q (.ref l) (upd H l (.lst (ts.map fun t=>V.ref t.1)))
def sM(mg:Str->Option Value):Sp:=fun vs H Q _=>∃(g l m dx:Addr) (cs:List (Addr×Str×List Str)) (qs:List (Addr×List V)),vs=[.ref g,.ref l,.ref m]/\H g=some (.ins (ck mg "Ground") dx [])/\H l=some (.lst (bE cs))/\H m=some (.lst (qs.map fun q=>V.ref q.1))/\
 bF H cs/\(cs.map fun p=>p.2.1).Nodup/\1<=cs.length/\cs.length<=8/\(∀ls:List Str,ls.Perm (cs.flatMap lyr)->ci H ls qs)/\qs.length<=60/\
 ∀H' ls ts c2 c3 c4,(∀b o,b≠g->H b=some o->H' b=some o)->GrF mg H' g c2 c3 c4 qs ls ts->nU cs qs (ts.map (·.2))->ls.Perm (cs.flatMap lyr)->ls.Pairwise (fun a b=>aQ b a=false)->Q .non H'
theorem kZ(T:Txt K mg):AQ P w K mg base 6 "Ground" ["self","cuts","sayings"] (sM mg):=by
 refine T.i_Ground.cal dU (fun vs H Q E h=>?_) (fun f cdv A outer s H vs Q E hr h=>?_)
 ·obtain⟨g,l,m,dx,cs,qs,rfl,_⟩:=h;rfl
 ·obtain⟨g,l,m,dx,cs,qs,rfl,hg,hl,hm,hca,hnd,h1,h8,hsa,h60,k⟩:=h;refine⟨_,(QSs.h (ah (cu rfl (aO (nO T) hr rfl rfl rfl rfl (paE rfl (vn 1 rfl Z0 rfl rfl) aj)))
   (ah (ba 3 dU.nd rfl Z0 Z1 rfl (aO (pR T) hr rfl rfl rfl rfl (paE rfl (vn 1 rfl Z0 rfl rfl) aj)))
   (ah (cu rfl (aO (jS T) hr rfl rfl rfl rfl (paE rfl (vn 2 rfl Z0 rfl rfl) (paE rfl (vn 3 rfl Z0 rfl rfl) aj))))
   (ah (yH (K:=K) rfl rfl (vn 0 rfl Z0 rfl rfl) (ctE (eV (K:=K) rfl) rfl T.b_list boot_list rfl rfl rfl (paE rfl (vn 1 rfl Z0 rfl rfl) aj)))
   (ah (yH (K:=K) rfl rfl (vn 0 rfl Z0 rfl rfl) (ctE (eV (K:=K) rfl) rfl T.b_list boot_list rfl rfl rfl (paE rfl (vn 2 rfl Z0 rfl rfl) aj)))
   (ah (yH (K:=K) rfl rfl (vn 0 rfl Z0 rfl rfl) (vn 3 rfl Z0 rfl rfl))
   (am (yH (K:=K) rfl rfl (vn 0 rfl Z0 rfl rfl) (cbE (uh (K:=K) rfl) rfl T.b_sorted boot_sorted rfl rfl rfl (paE rfl (opE gW (aO (kY T) hr rfl rfl rfl rfl (paE rfl (vn 1 rfl Z0 rfl rfl) aj)) (aO (iQ T) hr rfl rfl rfl rfl (paE rfl (vn 2 rfl Z0 rfl rfl) aj))) aj))))))))))),?_⟩
  show bL _ _ _ [some (.ref g),some (.ref l),some (.ref m),none] H;refine ak fun D1 k1 _=>?_
  walk_at "rd";refine⟨l,cs,rfl,hl,hca,hnd,h1,h8,fun H1 s1=>k1 _ _ (ak fun D2 k2 _=>?_)⟩;walk_at "rd";refine⟨l,cs,rfl,s1 _ _ hl,hca.up s1,h8,fun r H2 ls s2 f2 h2 p2 q2=>k2 _ _ (ak fun D3 k3 _=>?_)⟩;have s12:=s1.trans s2;walk_at "rd";refine⟨m,r,ls,qs,rfl,s12 _ _ hm,h2,(hsa ls p2).up s12,h60,fun H3 s3=>k3 _ _ (ak fun D4 k4 _=>?_)⟩;have s13:=s12.trans s3;have OC:=T.o_Ground.cls;have gl:l≠g:=fun e=>by rw[e,hg]at hl;cases hl
  have gm:m≠g:=fun e=>by rw[e,hg]at hm;cases hm
  have gr:r≠g:=fun e=>by rw[e,s1 _ _ hg]at f2;cases f2
  walk_at "rd";refine⟨_,.inl (SqL.of (s13 _ _ hl)),fun c1 hc1=>⟨_,_,_,af.upd hc1 _ _ (s13 _ _ hg),OC,T.n_Ground_kept_cuts,(by show 0<1000;decide),k4 _ _ (ak fun D5 k5 _=>?_)⟩⟩;have c1g:c1≠g:=fun e=>by rw[e,s13 _ _ hg]at hc1;cases hc1
  have sc1:=af.upd (o:= .lst (bE cs)) hc1;have b4:∀b o,b≠g->H3 b=some o->upd (upd H3 c1 (.lst (bE cs))) g (.ins (ck mg "Ground") dx (cI (Str.ofString "kept_cuts") (V.ref c1) [])) b=some o:=fun b o hb e=>by rw[ai hb];exact sc1 _ _ e
  have g4:upd (upd H3 c1 (.lst (bE cs))) g (.ins (ck mg "Ground") dx (cI (Str.ofString "kept_cuts") (V.ref c1) [])) g=some (.ins (ck mg "Ground") dx [("kept_cuts",V.ref c1)]):=aa;have a4:upd (upd H3 c1 (.lst (bE cs))) g (.ins (ck mg "Ground") dx (cI (Str.ofString "kept_cuts") (V.ref c1) [])) c1=some (.lst (bE cs)):=by rw[ai c1g];exact aa
  generalize upd (upd H3 c1 (.lst (bE cs))) g (.ins (ck mg "Ground") dx (cI (Str.ofString "kept_cuts") (V.ref c1) []))=H4 at b4 g4 a4
  have n4:∀b,H4 b=none->b≠g:=fun b hb e=>by rw[e,g4]at hb;cases hb
  walk_at "rd";refine⟨_,.inl (SqL.of (b4 _ _ gm (s13 _ _ hm))),fun c2 hc2=>⟨_,_,_,af.upd hc2 _ _ g4,OC,T.n_Ground_kept_sayings,(by show 1<1000;decide),k5 _ _ (ak fun D6 k6 _=>?_)⟩⟩;have c2g:=n4 c2 hc2;have sc2:=af.upd (o:= .lst (qs.map fun q=>V.ref q.1)) hc2;have b5:∀b o,b≠g->H4 b=some o->upd (upd H4 c2 (.lst (qs.map fun q=>V.ref q.1))) g (.ins (ck mg "Ground") dx (cI (Str.ofString "kept_sayings") (V.ref c2) [("kept_cuts",V.ref c1)])) b=some o:=fun b o hb e=>by rw[ai hb];exact sc2 _ _ e
  have g5:upd (upd H4 c2 (.lst (qs.map fun q=>V.ref q.1))) g (.ins (ck mg "Ground") dx (cI (Str.ofString "kept_sayings") (V.ref c2) [("kept_cuts",V.ref c1)])) g=some (.ins (ck mg "Ground") dx [("kept_cuts",V.ref c1),("kept_sayings",V.ref c2)]):=by rw[aa];rfl
  have a5:upd (upd H4 c2 (.lst (qs.map fun q=>V.ref q.1))) g (.ins (ck mg "Ground") dx (cI (Str.ofString "kept_sayings") (V.ref c2) [("kept_cuts",V.ref c1)])) c2=some (.lst (qs.map fun q=>V.ref q.1)):=by rw[ai c2g];exact aa
  generalize upd (upd H4 c2 (.lst (qs.map fun q=>V.ref q.1))) g (.ins (ck mg "Ground") dx (cI (Str.ofString "kept_sayings") (V.ref c2) [("kept_cuts",V.ref c1)]))=H5 at b5 g5 a5
  walk_at "rd";refine⟨_,_,_,g5,OC,T.n_Ground_kept_layers,(by show 2<1000;decide),k6 _ _ (aD fun D7 k7 _=>?_)⟩;have b6:∀b o,b≠g->H5 b=some o->upd H5 g (.ins (ck mg "Ground") dx (cI (Str.ofString "kept_layers") (V.ref r) [("kept_cuts",V.ref c1),("kept_sayings",V.ref c2)])) b=some o:=fun b o hb e=>by rw[ai hb];exact e
  have g6:upd H5 g (.ins (ck mg "Ground") dx (cI (Str.ofString "kept_layers") (V.ref r) [("kept_cuts",V.ref c1),("kept_sayings",V.ref c2)])) g=some (.ins (ck mg "Ground") dx [("kept_cuts",V.ref c1),("kept_sayings",V.ref c2),("kept_layers",V.ref r)]):=by rw[aa];rfl
  generalize upd H5 g (.ins (ck mg "Ground") dx (cI (Str.ofString "kept_layers") (V.ref r) [("kept_cuts",V.ref c1),("kept_sayings",V.ref c2)]))=H6 at b6 g6
  have b36:∀b o,b≠g->H3 b=some o->H6 b=some o:=fun b o hb e=>b6 b o hb (b5 b o hb (b4 b o hb e))
  have b06:∀b o,b≠g->H b=some o->H6 b=some o:=fun b o hb e=>b36 b o hb (s13 _ _ e)
  have hca6:bF H6 cs:=fun p hp=>⟨b06 _ _ (fun e=>by have:=(hca p hp).1;rw[e,hg]at this;cases this) (hca p hp).1,(hca p hp).2⟩
  have hsa6:ci H6 ls qs:=fun q hq=>⟨b06 _ _ (fun e=>by have:=(hsa ls p2 q hq).1;rw[e,hg]at this;cases this) (hsa ls p2 q hq).1,(hsa ls p2 q hq).2⟩
  walk_at "rd";refine⟨l,cs,rfl,b06 _ _ gl hl,hca6,hnd,h8,fun t1 H7 ts s7 f7 h7 ta7 ht3 htl tnd tmem=>?_⟩;walk_at "rd";refine⟨m,ls,qs,rfl,s7 _ _ (b06 _ _ gm hm),hsa6.up s7,h60,fun t2 H8 us s8 f8 h8' ta8 hu3 hul ueq=>?_⟩;walk_at "rd";have tall:aZ H8 (ts++us):=pP (aW ta7 fun b z e=>s8 _ _ e) ta8;have g8:=s8 _ _ (s7 _ _ g6);refine⟨_,s8 _ _ h7,_,h8',by rw[Z6,Z6,PySem.sizeLine_eq];lia,fun p hp=>⟨ts++us,by rw[Zd];exact SqL.of aa,aW tall fun b z e=>af.upd hp _ _ e,3,?_,by decide,by rw[Z9];lia,fun c4 ss hc4 pss qss=>⟨_,_,_,af.upd hc4 _ _ (af.upd hp _ _ g8),OC,T.n_Ground_kept_ties,(by show 3<1000;decide),k7 _ _ ?_⟩⟩⟩
  ·intro t ht;rcases Xg ht with z|z
   ·exact ht3 t z
   ·exact hu3 t z
  ·have c4g:c4≠g:=fun e=>by rw[e,af.upd hp _ _ g8]at hc4;cases hc4
   have sp:=(af.upd (o:= .lst (ts.map (fun p=>V.ref p.1) ++us.map fun p=>V.ref p.1)) hp).trans (af.upd (o:= .lst (ss.map fun p=>V.ref p.1)) hc4);have b9:∀b o,b≠g->H8 b=some o->upd (upd (upd H8 p (.lst (ts.map (fun p=>V.ref p.1) ++us.map fun p=>V.ref p.1))) c4 (.lst (ss.map fun p=>V.ref p.1))) g (.ins (ck mg "Ground") dx (cI (Str.ofString "kept_ties") (V.ref c4) [("kept_cuts",V.ref c1),("kept_sayings",V.ref c2),("kept_layers",V.ref r)])) b=some o:=fun b o hb e=>by rw[ai hb];exact sp _ _ e
   have b69:∀b o,b≠g->H6 b=some o->_:=fun b o hb e=>b9 b o hb (s8 _ _ (s7 _ _ e))
   have new:∀(c:Addr) (HH:Hp),(∀b o,b≠g->H b=some o->HH b=some o)->c≠g->HH c=none->H c=none:=fun c HH bb hc hn=>by
    cases e:H c with
    | none=>rfl
    | some o=>rw[bb c o hc e]at hn;cases hn
   refine k _ ls ss c2 r c4 (fun b o hb e=>b69 b o hb (b06 b o hb e)) ⟨⟨dx,c1,?_⟩,?_,?_,?_,?_,?_⟩ ⟨?_,pairwise_map.mpr qss,fun z=>?_⟩ p2 q2
   ·rw[aa];rfl
   ·exact b69 _ _ c2g (b6 _ _ c2g a5)
   ·exact b69 _ _ gr (b36 _ _ gr (s3 _ _ h2))
   ·rw[ai c4g];exact aa
   ·exact fun q hq=>⟨b69 _ _ (fun e=>by have:=(hsa6 q hq).1;rw[e,g6]at this;cases this) (hsa6 q hq).1,(hsa6 q hq).2⟩
   ·intro t ht;have:=tall t (pss.mem_iff.mp ht);exact⟨this.1,b9 _ _ (fun e=>by have q:=this.2;rw[e,g8]at q;cases q) this.2⟩
   ·rw[(pss.map (·.2)).nodup_iff,Zd,Yv,ueq];exact⟨tnd,rJ h60,fun x hx y hy e=>rK hca h60 ((tmem x).mp hx) (e▸hy)⟩
   ·rw[(pss.map (·.2)).mem_iff,Zd,mem_append,tmem,ueq]
theorem dg(T:Txt K mg):yG P w K mg base 1 "Ground" "layers" ["self"] (uF mg):=by
 refine T.m_Ground_layers.cal jj (fun vs H Q E h=>?_) (fun f cdv A outer s H vs Q E hr h=>?_)
 ·obtain⟨g,c2,c3,c4,qs,ls,ts,rfl,_⟩:=h;rfl
 ·obtain⟨g,c2,c3,c4,qs,ls,ts,rfl,hg,k⟩:=h;obtain⟨dx,c1,h0⟩:=hg.at_;refine⟨_,(QSs.h (am (bg (ctE (eV (K:=K) rfl) rfl T.b_list boot_list rfl rfl rfl (paE rfl (BL (K:=K) rfl rfl (vn 0 rfl Z0 rfl rfl)) aj))))),?_⟩;show iT _ _ [some (.ref g)] H;walk_at "rd";refine⟨_,_,_,h0,T.o_Ground.cls,T.n_Ground_kept_layers,?_⟩;exact⟨_,rfl,_,rfl,_,.inl (SqL.of hg.a3),fun l hl=>k l hl⟩
theorem jo(T:Txt K mg):yG P w K mg base 1 "Ground" "sayings" ["self"] (rL mg):=by
 refine T.m_Ground_sayings.cal iL (fun vs H Q E h=>?_) (fun f cdv A outer s H vs Q E hr h=>?_)
 ·obtain⟨g,c2,c3,c4,qs,ls,ts,rfl,_⟩:=h;rfl
 ·obtain⟨g,c2,c3,c4,qs,ls,ts,rfl,hg,k⟩:=h;obtain⟨dx,c1,h0⟩:=hg.at_;refine⟨_,(QSs.h (am (bg (ctE (eV (K:=K) rfl) rfl T.b_list boot_list rfl rfl rfl (paE rfl (BL (K:=K) rfl rfl (vn 0 rfl Z0 rfl rfl)) aj))))),?_⟩;show iT _ _ [some (.ref g)] H;walk_at "rd";refine⟨_,_,_,h0,T.o_Ground.cls,T.n_Ground_kept_sayings,?_⟩;exact⟨_,rfl,_,rfl,_,.inl (SqL.of hg.a2),fun l hl=>k l hl⟩
def cS(H:Hp)(ys:List (Addr×Str×Int)):Prop:=∀p∈ys,H p.1=some (.tup [.str p.2.1,.int p.2.2])/\0<=p.2.2/\p.2.2<=7
theorem cS.up{H H':Hp}{ys:List (Addr×Str×Int)}(h:cS H ys)(s:af H H'):cS H' ys:=fun p hp=>⟨s _ _ (h p hp).1,(h p hp).2⟩
def uG:Sp:=fun vs H Q _=>∃(one two:Int) (l:Addr) (ys:List (Addr×Str×Int)),vs=[.int one,.int two,.ref l]/\H l=some (.lst (ys.map fun p=>V.ref p.1))/\cS H ys/\1<=ys.length/\ys.length<=100/\0<=one/\0<=two/\
 ∀(t:Addr) H' (xs:List V),af H H'->H t=none->H' t=some (.tup xs)->mC (ys.map fun p=>p.2.1) xs->Q (.ref t) H'
theorem nV(T:Txt K mg):Cal P w K mg base 1 "_law_saying" ["_law_one","_law_two","_law_layers"] uG:=by
 refine T.d_law_saying.cal bp (fun vs H Q E h=>?_) (fun f cdv A outer s H vs Q E hr h=>?_)
 ·obtain⟨one,two,l,ys,rfl,_⟩:=h;rfl
 ·obtain⟨one,two,l,ys,rfl,hl,hya,y1,y100,o0,t0,k⟩:=h;have get:∀n:Int,0<=n->∃q,atI (ys.map fun p=>V.ref p.1) (n%(ys.length:Int))=some (V.ref q.1)/\q∈ys:=fun n hn=>by
   have h0:=Int.emod_nonneg n (show(ys.length:Int)≠0 by lia);have h1:=Int.emod_lt_of_pos n (show(0:Int)<(ys.length:Int) by lia)
   generalize n%(ys.length:Int)=i at h0 h1
   obtain⟨j,rfl⟩:=Xa h0;have hj:j<ys.length:=by lia
   exact⟨ys[j],cF (by simp[hj]),Ya hj⟩
  obtain⟨p,gp,mp⟩:=get one o0;obtain⟨q,gq,mq⟩:=get two t0;have hyl:(ys.map fun p=>V.ref p.1).length=ys.length:=Z6 _;have lpos:(0:Int)<(ys.length:Int):=by lia
  have pa:=hya p mp;have qa:=hya q mq;refine⟨_,(QSs.h (ah (yq rfl rfl rfl (cA (K:=K) rfl (fun _ _=>rfl) (vn 2 rfl Z0 rfl rfl) (opE bJ (vn 0 rfl Z0 rfl rfl) (cbE (dL (K:=K) rfl) rfl T.b_len PySem.boot_len rfl rfl rfl (paE rfl (vn 2 rfl Z0 rfl rfl) aj)))) (fT (K:=K) rfl rfl rfl (gsE rfl (au 3 bp.nd rfl Z0 Z1) (gsE rfl (au 4 bp.nd rfl Z0 Z1) cX))))
   (ah (yq rfl rfl rfl (cA (K:=K) rfl (fun _ _=>rfl) (vn 2 rfl Z0 rfl rfl) (opE bJ (vn 1 rfl Z0 rfl rfl) (cbE (dL (K:=K) rfl) rfl T.b_len PySem.boot_len rfl rfl rfl (paE rfl (vn 2 rfl Z0 rfl rfl) aj)))) (fT (K:=K) rfl rfl rfl (gsE rfl (au 5 bp.nd rfl Z0 Z1) (gsE rfl (au 6 bp.nd rfl Z0 Z1) cX))))
   (ah (ba 7 bp.nd rfl Z0 Z1 rfl (opE bJ (opE dJ (vn 0 rfl Z0 rfl rfl) ao) ao))
   (ah (ba 8 bp.nd rfl Z0 Z1 rfl (jL dh rfl (opE bJ (opE dJ (vn 1 rfl Z0 rfl rfl) ao) ao) ao))
   (ah (ifS (wT (mX (cc qD rfl (vn 7 rfl Z0 rfl rfl) ao) (mX (cc fD rfl (vn 3 rfl Z0 rfl rfl) (vn 5 rfl Z0 rfl rfl)) (kn (wT (orW (cc fD rfl (vn 4 rfl Z0 rfl rfl) (vn 6 rfl Z0 rfl rfl)) (mW (et (K:=K) rfl (fun _=>rfl) (vn 8 rfl Z0 rfl rfl)))))))))
   (ah (ifS (wT (mX (cc AD rfl (vn 4 rfl Z0 rfl rfl) (vn 6 rfl Z0 rfl rfl)) (kn (gJ (et (K:=K) rfl (fun _=>rfl) (vn 8 rfl Z0 rfl rfl))))))
    (am (bg (fR (paE rfl dI (paE rfl (vn 5 rfl Z0 rfl rfl) (paE rfl (vn 3 rfl Z0 rfl rfl) aj))))))
    bu)
    (am (bg (fR (paE rfl dI (paE rfl (vn 3 rfl Z0 rfl rfl) (paE rfl (vn 5 rfl Z0 rfl rfl) aj)))))))
   bu)
   (ah (ifS (wT (mX (cc (qE (K:=K) rfl) rfl (vn 7 rfl Z0 rfl rfl) (fR (paE rfl ao (paE rfl ao aj)))) (mX (cc fD rfl (vn 3 rfl Z0 rfl rfl) (vn 5 rfl Z0 rfl rfl)) (kn (wT (orW (cc dh rfl (vn 4 rfl Z0 rfl rfl) (vn 6 rfl Z0 rfl rfl)) (mW (et (K:=K) rfl (fun _=>rfl) (vn 8 rfl Z0 rfl rfl)))))))))
   (am (bg (fR (paE rfl dI (paE rfl (vn 3 rfl Z0 rfl rfl) (paE rfl (vn 5 rfl Z0 rfl rfl) aj))))))
   bu)
   (ah (ba 9 bp.nd rfl Z0 Z1 rfl (opE cf (opE oG ao (opE eA ao (vn 4 rfl Z0 rfl rfl))) (cA (K:=K) rfl (fun _ _=>rfl) (dZ (paE rfl ao (paE rfl (vZ ao) (paE rfl (vZ ao) (paE rfl ao (paE rfl ao (paE rfl (vZ ao) (paE rfl ao (paE rfl ao aj))))))))) (opE bJ (vn 1 rfl Z0 rfl rfl) ao))))
   (am (bg (fR (paE rfl (cA (K:=K) rfl (fun _ _=>rfl) (dZ (paE rfl dI (paE rfl dI aj))) (opE bJ (vn 7 rfl Z0 rfl rfl) ao)) (paE rfl (vn 3 rfl Z0 rfl rfl) (paE rfl (vn 9 rfl Z0 rfl rfl) aj)))))))))))))),?_⟩
  show bL _ _ _ [some (.int one),some (.int two),some (.ref l),none,none,none,none,none,none,none] H;refine ak fun D1 k1 _=>?_
  walk_at "rd";refine⟨ys.length,.inl ⟨_,SqL.of hl,hyl.symm⟩,lpos,_,SqL.of hl,_,gp,_,rfl,_,SqT.of pa.1,rfl,_,_,rfl,_,_,rfl,rfl,k1 _ _ (ak fun D2 k2 _=>?_)⟩;walk_at "rd";refine⟨ys.length,.inl ⟨_,SqL.of hl,hyl.symm⟩,lpos,_,SqL.of hl,_,gq,_,rfl,_,SqT.of qa.1,rfl,_,_,rfl,_,_,rfl,rfl,k2 _ _ (ak fun D3 k3 _=>?_)⟩;walk_at "rd";refine⟨⟨by decide,by decide⟩,by decide,k3 _ _ (ak fun D4 k4 _=>?_)⟩;walk_at "rd";refine⟨⟨by decide,by decide⟩,by decide,k4 _ _ (ak fun D5 k5 r5=>?_)⟩;have b1:0<=one/64%8:=by lia
  have b2:one/64%8<8:=by lia
  generalize one/64%8=kind at b1 b2
  generalize decide (two/64%16=0)=odd
  obtain⟨pa0,pn,pi⟩:=p;obtain⟨qa0,qn,qi⟩:=q;dsimp only at pa qa gp gq;have mem:∀{r:Addr×Str×Int},r∈ys->r.2.1∈ys.map fun p=>p.2.1:=fun{r} hr=>Xj ⟨r,hr,rfl⟩
  have fin:∀(HH:Hp) (a b:Str),af H HH->a∈(ys.map fun p=>p.2.1)->b∈(ys.map fun p=>p.2.1)->a≠b->∀w:Str,w="later"\/w="same"->∀t,HH t=none->Q (.ref t) (upd HH t (.tup [.str w,.str a,.str b])):=fun HH a b sh ha hb hab w hw t ht=>
   k t _ _ (sh.trans (af.upd ht)) (sh.free ht) aa (.inl ⟨w,a,b,rfl,hw,ha,hb,hab⟩)
  have m1:pn∈ys.map fun p=>p.2.1:=mem mp
  have m2:qn∈ys.map fun p=>p.2.1:=mem mq
  have le3:3<=sizeLine:=by decide
  have rest:D5.nx [some (.int one),some (.int two),some (.ref l),some (.str pn),some (.int pi),some (.str qn),some (.int qi),some (.int kind),some (.bl odd),none] H:=by
   refine k5 _ _ (ak fun D6 k6 r6=>?_);have rest2:∀HH,af H HH->D6.nx [some (.int one),some (.int two),some (.ref l),some (.str pn),some (.int pi),some (.str qn),some (.int qi),some (.int kind),some (.bl odd),none] HH:=by
    intro HH sh;refine k6 _ _ (ak fun D7 k7 _=>?_);walk_at "rd";refine⟨.inl ⟨by decide,by decide⟩,(show 8<=sizeLine by decide),fun p hp=>⟨by decide,_,SqL.of aa,?_⟩⟩;obtain⟨c,hc,hcm⟩:=iM [0,-20,-60,10,60,-200,110,0] (i:=two%8) (by lia) (by show two%8<8;lia);have hcb: -200<=c/\c<=110:=by
     simp only[Yq,Yy,or_false]at hcm
     lia
    refine⟨_,hc,c,rfl,k7 _ _ ?_⟩;walk_at "rd";obtain⟨wd,hwd,hw⟩:∃wd:Str,atI [V.str (Str.ofString "since"),V.str (Str.ofString "by")] (kind%2)=some (V.str wd)/\(wd="since"\/wd="by"):=by
     rcases(show kind%2=0\/kind%2=1 by lia)with e|e<;> rw[e]
     ·exact⟨_,rfl,.inl rfl⟩
     ·exact⟨_,rfl,.inr rfl⟩
    refine⟨(show 2<=sizeLine by decide),fun p1 hp1=>⟨by decide,_,SqL.of aa,_,hwd,le3,fun t ht=>?_⟩⟩;exact k t _ _ (sh.trans ((af.upd hp).trans ((af.upd hp1).trans (af.upd ht)))) (sh.free ((af.upd hp).free ((af.upd hp1).free ht))) aa (.inr ⟨wd,pn,_,rfl,hw,m1,by lia,by lia⟩)
   walk_at "rd";refine⟨(show 2<=sizeLine by decide),fun p hp=>⟨_,.inr (SqT.of aa),rfl,rfl,?_⟩⟩;have sp:=af.upd (o:= .tup [V.int 2,V.int 3]) hp
   generalize upd H p (.tup [V.int 2,V.int 3])=H6 at sp
   have R:=rest2 H6 sp;refine bZ (fun _=>bZ (fun hne=>?_) fun _=>R) fun _=>R
   have hne:pn≠qn:=by simpa using hne
   have L:3<=sizeLine/\∀p,H6 p=none->D6.rt (.ref p) (upd H6 p (.tup [V.str (Str.ofString "same"),V.str pn,V.str qn])):=⟨le3,fun t ht=>r6 _ _ (fin H6 pn qn sp m1 m2 hne _ (.inr rfl) t ht)⟩
   exact bZ (fun _=>L) fun _=>bZ (fun _=>L) fun _=>R
  walk_at "rd";refine bZ (fun _=>bZ (fun hne=>?_) fun _=>rest) fun _=>rest
  have hne:pn≠qn:=by simpa using hne
  have L1:3<=sizeLine/\∀p,H p=none->D5.rt (.ref p) (upd H p (.tup [V.str (Str.ofString "later"),V.str qn,V.str pn])):=⟨le3,fun t ht=>r5 _ _ (fin H qn pn (af.refl H) m2 m1 (Ne.symm hne) _ (.inl rfl) t ht)⟩
  have L2:3<=sizeLine/\∀p,H p=none->D5.rt (.ref p) (upd H p (.tup [V.str (Str.ofString "later"),V.str pn,V.str qn])):=⟨le3,fun t ht=>r5 _ _ (fin H pn qn (af.refl H) m1 m2 hne _ (.inl rfl) t ht)⟩
  exact bZ (fun _=>bZ (fun _=>bZ (fun _=>L1) fun _=>L2) fun _=>L2) fun _=>bZ (fun _=>bZ (fun _=>bZ (fun _=>L1) fun _=>L2) fun _=>L2) fun _=>rest
structure Drn where
 name:Str
 cols:List (List Int)
 hi:Nat
 sh:Int
noncomputable def Drn.rows(d:Drn):List Str:=drawn d.cols d.hi d.sh
def jG(d:Drn):Prop:=gO d.name=true/\1<=d.hi/\d.hi<=6/\1<=d.cols.length/\d.cols.length<=5/\∀c∈d.cols,c.length=d.hi/\jE c
theorem jG.cut{d:Drn}(h:jG d):bY d.rows:=pJ h.2.1 (by have:=h.2.2.1;lia) h.2.2.2.1 (by have:=h.2.2.2.2.1;lia) h.2.2.2.2.2
noncomputable def fA(d:Drn):List (Str×Int):=(there d.cols).map fun a=>(cL d.name (sg a d.sh),a)
noncomputable def dcs(ds:List (Addr×Drn)):List (Addr×Str×List Str):=ds.map fun p=>(p.1,p.2.name,p.2.rows)
noncomputable def nmK(k:Int):Str:=if k=0 then "north" else if k=1 then "worth" else if k=2 then "norths" else "nort"
def uH(K:PySem.W.Frag):Sp:=fun vs H Q _=>∃(a:Addr) (xs:List Int),vs=[.ref a]/\SqL K H a (xs.map V.int)/\(∀H',af H H'->SqL K H' a (xs.map V.int))/\xs.length=43/\(∀x∈xs,0<=x/\x<9973)/\
 ∀(t l1 l2 l3:Addr) H' (ds:List (Addr×Drn)) (qs:List (Addr×List V)),af H H'->H t=none->H l1=none->H l2=none->H l3=none->l1≠l2->l1≠l3->l2≠l3->
  H' t=some (.tup [.ref l1,.ref l2,.ref l3])->H' l1=some (.lst (bE (dcs ds)))->H' l2=some (.lst (qs.map fun q=>V.ref q.1))->H' l3=some (.lst ((ds.flatMap fun p=>(fA p.2).map (·.1)).map V.str))->
  1<=ds.length->ds.length<=3->(∀p∈ds,jG p.2)->(ds.map fun p=>p.2.name).Nodup->bF H' (dcs ds)->ci H' (ds.flatMap fun p=>(fA p.2).map (·.1)) qs->qs.length<=12->(∀p∈ds,∃k:Int,p.2.name=nmK k)->1<=(ds.flatMap fun p=>(fA p.2).map (·.1)).length/\(ds.flatMap fun p=>(fA p.2).map (·.1)).length<=24->Q (.ref t) H'
theorem j1{H:Hp}{M:Addr}{xs ys:List V}(h:H M=some (.lst xs)):∀b z,H b=some (.tup z)->upd H M (.lst ys) b=some (.tup z):=fun b z e=>by
 rw[ai (fun e2=>by rw[e2,h]at e;cases e)];exact e
theorem cS.keep{H H':Hp}{ys:List (Addr×Str×Int)}(h:cS H ys)(t:∀b z,H b=some (.tup z)->H' b=some (.tup z)):cS H' ys:=fun p hp=>⟨t _ _ (h p hp).1,(h p hp).2⟩
theorem bF.keep{H H':Hp}{cs:List (Addr×Str×List Str)}(h:bF H cs)(t:∀b z,H b=some (.tup z)->H' b=some (.tup z)):bF H' cs:=fun p hp=>⟨t _ _ (h p hp).1,(h p hp).2⟩
theorem ci.keep{H H':Hp}{ls:List Str}{qs:List (Addr×List V)}(h:ci H ls qs)(t:∀b z,H b=some (.tup z)->H' b=some (.tup z)):ci H' ls qs:=fun p hp=>⟨t _ _ (h p hp).1,(h p hp).2⟩
theorem bF.snoc{H:Hp}{cs:List (Addr×Str×List Str)}{q:Addr×Str×List Str}(h:bF H cs)(hq:H q.1=some (.tup [.str q.2.1,.str (Str.join nl q.2.2)])/\gO q.2.1=true/\bY q.2.2):bF H (cs++[q]):=fun p hp=>by
 rcases Xg hp with z|z
 ·exact h p z
 ·rw[Xh z];exact hq
theorem cS.snoc{H:Hp}{ys:List (Addr×Str×Int)}{q:Addr×Str×Int}(h:cS H ys)(hq:H q.1=some (.tup [.str q.2.1,.int q.2.2])/\0<=q.2.2/\q.2.2<=7):cS H (ys++[q]):=fun p hp=>by
 rcases Xg hp with z|z
 ·exact h p z
 ·rw[Xh z];exact hq
theorem uI(n:Str)(c:Nat):n++Str.ofString "."++sgn c=cL n c:=by
 refine eW ?_;show(n.cps++ #[46] ++ #[c]).toList=(n.cps.toList++[46,c]).toArray.toList;simp
theorem AZ(k:Int):gO (nmK k)=true:=by
 unfold nmK
 split
 ·decide +kernel
 ·split
  ·decide +kernel
  ·split<;> decide +kernel
theorem yU{j k:Int}(j0:0<=j)(j4:j<4)(k0:0<=k)(k4:k<4)(h:nmK j=nmK k):j=k:=by
 have all:∀a b:Fin 4,nmK (a.1:Int)=nmK (b.1:Int)->a=b:=by decide +kernel
 obtain⟨a,rfl⟩:=Xa j0;obtain⟨b,rfl⟩:=Xa k0;have:=all ⟨a,by lia⟩ ⟨b,by lia⟩ h;have:=congrArg Fin.val this;dsimp only at this
 lia
theorem nW(T:Txt K mg):Cal P w K mg base 3 "_law_ground" ["_law_row_here"] (uH K):=by
 refine T.d_law_ground.cal aH (fun vs H Q E h=>?_) (fun f cdv A outer s H vs Q E hr h=>?_)
 ·obtain⟨a,xs,rfl,_⟩:=h;rfl
 ·obtain⟨a,xs,rfl,hs,keep,hx43,hb,kk⟩:=h;have get:∀i:Int,0<=i->i<43->∃c,atI (xs.map V.int) i=some (V.int c)/\0<=c/\c<9973:=fun i h0 h1=>by
   obtain⟨c,e,hm⟩:=iM xs h0 (by lia);exact⟨c,e,hb c hm⟩
  obtain⟨c0,g0,l0,u0⟩:=get 0 (by decide) (by decide);refine⟨_,(QSs.h (ah (ba 1 aH.nd rfl Z0 Z1 rfl (dZ aj))
   (ah (ba 2 aH.nd rfl Z0 Z1 rfl (dZ aj))
   (ah (dm PassesOwn.never rfl rfl (l8 rfl T.b_range rfl (paE rfl (opE cf ao (opE bJ (cA (K:=K) rfl (fun _ _=>rfl) (vn 0 rfl Z0 rfl rfl) ao) ao)) aj)) (au 3 aH.nd rfl Z0 Z1)
   (ah (ba 4 aH.nd rfl Z0 Z1 rfl (cA (K:=K) rfl (fun _ _=>rfl) (dZ (paE rfl dI (paE rfl dI (paE rfl dI (paE rfl dI aj))))) (opE bJ (opE cf (vn 3 rfl Z0 rfl rfl) (opE dJ (cA (K:=K) rfl (fun _ _=>rfl) (vn 0 rfl Z0 rfl rfl) ao) ao)) ao)))
    (ah (ba 5 aH.nd rfl Z0 Z1 rfl (opE cf (opE dJ (cA (K:=K) rfl (fun _ _=>rfl) (vn 0 rfl Z0 rfl rfl) ao) ao) (opE eA ao (vn 3 rfl Z0 rfl rfl))))
    (ah (yq rfl rfl rfl (aO (ux T) hr rfl rfl rfl rfl (paE rfl (slE (K:=K) rfl (vn 0 rfl Z0 rfl rfl) (fC (opE cf ao (opE eA ao (vn 3 rfl Z0 rfl rfl)))) (fC (opE cf ao (opE eA ao (vn 3 rfl Z0 rfl rfl))))) (paE rfl (vn 5 rfl Z0 rfl rfl) aj))) (fT (K:=K) rfl rfl rfl (gsE rfl (au 6 aH.nd rfl Z0 Z1) (gsE rfl (au 7 aH.nd rfl Z0 Z1) cX))))
    (ah (cu rfl (bmE (K:=K) rfl plainAttrs_list PySem.F.slot_list_append PySem.F.type_list_append bv rfl rfl rfl rfl (vn 1 rfl Z0 rfl rfl) (paE rfl (fR (paE rfl (vn 4 rfl Z0 rfl rfl) (paE rfl (vn 6 rfl Z0 rfl rfl) aj))) aj)))
    (am (dm PassesOwn.never rfl rfl (cW (K:=K) rfl (vn 7 rfl Z0 rfl rfl)) (au 8 aH.nd rfl Z0 Z1)
    (am (cu rfl (bmE (K:=K) rfl plainAttrs_list PySem.F.slot_list_append PySem.F.type_list_append bv rfl rfl rfl rfl (vn 2 rfl Z0 rfl rfl) (paE rfl (fR (paE rfl (opE gW (opE gW (vn 4 rfl Z0 rfl rfl) dI) (aO (kQ T) hr rfl rfl rfl rfl (paE rfl (vn 8 rfl Z0 rfl rfl) (paE rfl (vn 5 rfl Z0 rfl rfl) aj)))) (paE rfl (vn 8 rfl Z0 rfl rfl) aj))) aj)))))))))))
   (ah (ba 9 aH.nd rfl Z0 Z1 rfl (opE bJ (opE dJ (cA (K:=K) rfl (fun _ _=>rfl) (vn 0 rfl Z0 rfl rfl) ao) ao) ao))
   (ah (ba 10 aH.nd rfl Z0 Z1 rfl (dZ aj))
   (ah (dm PassesOwn.never rfl rfl (l8 rfl T.b_range rfl (paE rfl (vn 9 rfl Z0 rfl rfl) aj)) (au 3 aH.nd rfl Z0 Z1)
   (am (cu rfl (bmE (K:=K) rfl plainAttrs_list PySem.F.slot_list_append PySem.F.type_list_append bv rfl rfl rfl rfl (vn 10 rfl Z0 rfl rfl) (paE rfl (aO (nV T) hr rfl rfl rfl rfl (paE rfl (cA (K:=K) rfl (fun _ _=>rfl) (vn 0 rfl Z0 rfl rfl) (opE cf ao (opE eA ao (vn 3 rfl Z0 rfl rfl)))) (paE rfl (cA (K:=K) rfl (fun _ _=>rfl) (vn 0 rfl Z0 rfl rfl) (opE cf ao (opE eA ao (vn 3 rfl Z0 rfl rfl)))) (paE rfl (vn 2 rfl Z0 rfl rfl) aj)))) aj)))))
   (am (bg (fR (paE rfl (vn 1 rfl Z0 rfl rfl) (paE rfl (vn 10 rfl Z0 rfl rfl) (paE rfl (eI (ax.of (show bU (ag dw) ["_law_row_here","_law_cuts","_law_layers","_law_k","_law_name","_law_shift","_law_text","_law_there","_law_at","_law_many","_law_sayings"] _ ["_law_layer","_law_at"] []=true from by decide +kernel)) rfl rfl (cW (K:=K) rfl (vn 2 rfl Z0 rfl rfl)) (fun _ _ _=>(fT (K:=K) rfl rfl rfl (gsE rfl (au 0 (show(["_law_layer","_law_at"]:List Str).Nodup from by decide +kernel) rfl Z0 Z1) (gsE rfl (au 1 (show(["_law_layer","_law_at"]:List Str).Nodup from by decide +kernel) rfl Z0 Z1) cX)))) (fun _ _ _=>i4) (fun _ _ _=>(vn 0 rfl Z0 rfl rfl))) aj))))))))))))),?_⟩
  show bL _ _ _ [some (.ref a),none,none,none,none,none,none,none,none,none,none] H;refine ak fun D1 k1 _=>?_
  walk_at "rd";refine⟨X7 _,fun L1 hL1=>k1 _ _ (ak fun D2 k2 _=>?_)⟩;have s1:=af.upd (o:= .lst []) hL1;walk_at "rd";refine⟨X7 _,fun L3 hL3=>k2 _ _ (ak fun D3 k3 _=>ay fun Kont hK=>?_)⟩;have s2:=s1.trans (af.upd (o:= .lst []) hL3);have h13:L1≠L3:=fun e=>by rw[<-e,aa]at hL3;cases hL3
  walk_at "rd";refine⟨_,keep _ s2,_,g0,c0,rfl,by decide,?_⟩;refine⟨by lia,by lia,hK _ _ (dz (fun i σ H'=>∃o3 o4 o5 o6 o7 o8,σ=[some (.ref a),some (.ref L1),some (.ref L3),o3,o4,o5,o6,o7,o8,none,none]/\af H H'/\∃(ds:List (Addr×Drn)) (ys:List (Addr×Str×Int)),ds.length=i/\H' L1=some (.lst (bE (dcs ds)))/\H' L3=some (.lst (ys.map fun p=>V.ref p.1))/\cS H' ys/\(ys.map (·.2))=(ds.flatMap fun p=>fA p.2)/\
   bF H' (dcs ds)/\(∀p∈ds,jG p.2)/\ds.map (fun p=>p.2.name)=(List.range i).map fun k:Nat=>nmK (((k:Int) +c0/3)%4))
   ⟨_,_,_,_,_,_,rfl,s2,[],[],rfl,by rw[ai h13];exact aa,aa,fun p hp=>(nomatch hp),rfl,fun p hp=>(nomatch hp),fun p hp=>(nomatch hp),rfl⟩ ?_ ?_)⟩
  ·rintro i σ H3 hi ⟨o3,o4,o5,o6,o7,o8,rfl,s3,ds,ys,hdl,h3L1,h3L3,hya,hyl,hca,hdo,hnm⟩;have hi3:i<3:=by lia
   show bL _ _ _ [some (.ref a),some (.ref L1),some (.ref L3),some (.int (0+i)),o4,o5,o6,o7,o8,none,none] H3;rw[Int.zero_add];refine ak fun D4 k4 _=>?_
   walk_at "rd";obtain⟨nm,hnmE,enm⟩:∃nm:Str,atI [V.str (Str.ofString "north"),V.str (Str.ofString "worth"),V.str (Str.ofString "norths"),V.str (Str.ofString "nort")] (((i:Int) +c0/3)%4)=some (V.str nm)/\nm=nmK (((i:Int) +c0/3)%4):=by
    rcases(show((i:Int) +c0/3)%4=0\/((i:Int) +c0/3)%4=1\/((i:Int) +c0/3)%4=2\/((i:Int) +c0/3)%4=3 by lia)with e|e|e|e<;> rw[e]<;> exact⟨_,rfl,rfl⟩
   have nok:gO nm=true:=by rw[enm];exact AZ _
   refine⟨(show 4<=sizeLine by decide),fun p hp=>⟨_,keep _ (s3.trans (af.upd hp)),_,g0,c0,rfl,⟨by decide,by decide⟩,by decide,_,SqL.of aa,_,hnmE,k4 _ _ (ak fun D5 k5 _=>?_)⟩⟩;have sp:=af.upd (o:= .lst [V.str (Str.ofString "north"),V.str (Str.ofString "worth"),V.str (Str.ofString "norths"),V.str (Str.ofString "nort")]) hp
   generalize upd H3 p (.lst [V.str (Str.ofString "north"),V.str (Str.ofString "worth"),V.str (Str.ofString "norths"),V.str (Str.ofString "nort")])=H4 at sp
   have s4:=s3.trans sp;walk_at "rd";refine⟨_,keep _ s4,_,g0,c0,rfl,⟨by decide,by decide⟩,.inl ⟨by decide,by decide⟩,k5 _ _ (ak fun D6 k6 _=>?_)⟩;have sh0:0<=c0/12+3*(i:Int):=by lia
   generalize c0/12+3*(i:Int)=sh at sh0
   walk_at "rd";refine⟨.inl ⟨by decide,by decide⟩,.inl ⟨by decide,by decide⟩,.inl ⟨_,keep _ s4,fun p2 hp2=>?_⟩⟩;rw[pN xs (by lia) (by lia) (by lia)];have hws:((xs.drop (1+6*(i:Int)).toNat).take ((7+6*(i:Int)).toNat-(1+6*(i:Int)).toNat)).length=6:=by
    rw[Yh,Ye,hx43];exact(by decide:∀i:Nat,i<3->min ((7+6*(i:Int)).toNat-(1+6*(i:Int)).toNat) (43-(1+6*(i:Int)).toNat)=6) i (by lia)
   have hwb:∀x∈(xs.drop (1+6*(i:Int)).toNat).take ((7+6*(i:Int)).toNat-(1+6*(i:Int)).toNat),0<=x/\x<9973:=fun x hx=>hb x (Yr (Ys hx))
   generalize (xs.drop (1+6*(i:Int)).toNat).take ((7+6*(i:Int)).toNat-(1+6*(i:Int)).toNat)=ws at hws hwb
   refine⟨p2,ws,sh,rfl,SqL.of aa,fun H' sm=>SqL.of (sm _ _ aa),hws,hwb,sh0,fun T5 th H5 cols hi5 s5 f5 f5' n5 hT5 hth hh1 hh6 hw1 hw5 hcols=>⟨T5,rfl,_,SqT.of hT5,rfl,_,_,rfl,_,_,rfl,rfl,k6 _ _ (ak fun D7 k7 _=>?_)⟩⟩;have s45:af H3 H5:=sp.trans ((af.upd hp2).trans s5);have hdrn:jG ⟨nm,cols,hi5,sh⟩:=⟨nok,hh1,hh6,hw1,hw5,hcols⟩
   have hthn:H3 th=none:=sp.free ((af.upd hp2).free f5');have th1:th≠L1:=fun e=>by rw[e,h3L1]at hthn;cases hthn
   have th3:th≠L3:=fun e=>by rw[e,h3L3]at hthn;cases hthn
   walk_at "rd";refine⟨.inl ⟨_,SqL.of (s45 _ _ h3L1)⟩,(show 2<=sizeLine by decide),fun p6 hp6=>?_⟩;have s6:=af.upd (o:= .tup [V.str nm,V.str (nl.join (drawn cols hi5 sh))]) hp6;have g6:upd H5 p6 (.tup [V.str nm,V.str (nl.join (drawn cols hi5 sh))]) p6=_:=aa;have hL5:=s6 _ _ (s45 _ _ h3L1)
   generalize upd H5 p6 (.tup [V.str nm,V.str (nl.join (drawn cols hi5 sh))])=H6 at s6 g6 hL5
   have s36:=s45.trans s6;refine⟨_,hL5,by rw[show(bE (dcs ds)).length=ds.length by unfold bE dcs;rw[Z6,Z6],hdl];exact aU (by lia),k7 _ _ (aD fun D8 k8 _=>ay fun Kont hK=>?_)⟩;have tk:=j1 (ys:=bE (dcs ds) ++[V.ref p6]) hL5;have sm7:af H (upd H6 L1 (.lst (bE (dcs ds) ++[V.ref p6]))):=af.set (s3.trans s36) hL1;have l17:upd H6 L1 (.lst (bE (dcs ds) ++[V.ref p6])) L1=some (.lst (bE (dcs (ds++[(p6,⟨nm,cols,hi5,sh⟩)])))):=by
    rw[aa];unfold bE dcs;rw[Zd,Zd];rfl
   have l37:upd H6 L1 (.lst (bE (dcs ds) ++[V.ref p6])) L3=some (.lst (ys.map fun p=>V.ref p.1)):=by rw[ai (Ne.symm h13)];exact s36 _ _ h3L3
   have th7:upd H6 L1 (.lst (bE (dcs ds) ++[V.ref p6])) th=some (.lst ((there cols).map V.int)):=by rw[ai th1];exact s6 _ _ hth
   have ca7:bF (upd H6 L1 (.lst (bE (dcs ds) ++[V.ref p6]))) (dcs (ds++[(p6,⟨nm,cols,hi5,sh⟩)])):=by
    rw[show dcs (ds++[(p6,⟨nm,cols,hi5,sh⟩)])=dcs ds++[(p6,nm,drawn cols hi5 sh)] by unfold dcs;rw[Zd];rfl];exact((hca.up s36).snoc ⟨g6,nok,hdrn.cut⟩).keep tk
   have ya7:cS (upd H6 L1 (.lst (bE (dcs ds) ++[V.ref p6]))) ys:=(hya.up s36).keep tk
   generalize upd H6 L1 (.lst (bE (dcs ds) ++[V.ref p6]))=H7 at sm7 l17 l37 th7 ca7 ya7
   have ylen:ys.length<=8*i:=by
    have e:=congrArg List.length hyl;rw[Z6,length_flatMap]at e;have:=kA (f:=fun p:Addr×Drn=>(fA p.2).length) (B:=8) (xs:=ds) fun p _=>by
     unfold fA;rw[Z6];exact ja _
    lia
   walk_at "rd";refine .inl ⟨⟨_,SqL.of th7⟩,hK _ _ (bQ (xs:=(there cols).map V.int) (fun j σ H'=>∃o8,σ=[some (.ref a),some (.ref L1),some (.ref L3),some (.int i),some (.str nm),some (.int sh),some (.str (nl.join (drawn cols hi5 sh))),some (.ref th),o8,none,none]/\af H H'/\H' L1=some (.lst (bE (dcs (ds++[(p6,⟨nm,cols,hi5,sh⟩)]))))/\H' th=some (.lst ((there cols).map V.int))/\bF H' (dcs (ds++[(p6,⟨nm,cols,hi5,sh⟩)]))/\
    ∃zs:List (Addr×Str×Int),H' L3=some (.lst ((ys++zs).map fun p=>V.ref p.1))/\cS H' (ys++zs)/\zs.map (·.2)=((there cols).take j).map fun a=>(cL nm (sg a sh),a))
    ⟨_,rfl,sm7,l17,th7,ca7,[],by rw[Zz];exact l37,by rw[Zz];exact ya7,rfl⟩ (fun j σ H' _ ⟨_,_,_,_,q,_⟩=>SqL.of q) ?_ ?_)⟩
   ·rintro j x σ H8 hx ⟨o8,rfl,s8,h8L1,h8th,ca8,zs,h8L3,ya8,hzs⟩;have hj:j<(there cols).length:=by have:=(Xf hx).1;rwa[Z6]at this
    rw[Zl,Z4 hj]at hx;obtain rfl:x=V.int (there cols)[j]:=(Za hx).symm;have hat:=dE.mp (Ya hj);show jr _ _ [some (.ref a),some (.ref L1),some (.ref L3),some (.int i),some (.str nm),some (.int sh),some (.str (nl.join (drawn cols hi5 sh))),some (.ref th),some (.int (there cols)[j]),none,none] H8;refine aD fun D9 k9 _=>?_
    walk_at "rd";have nlen:=kX nok;have ea:∀a b:Str,(a++b).length=a.length+b.length:=fun a b=>size_append
    have e1:(Str.ofString ".").length=1:=rfl;have zl:zs.length<=j:=by
     have:=congrArg List.length hzs;rw[Z6,Z6,Yh]at this
     lia
    have tl:=ja cols;refine⟨.inl ⟨_,SqL.of h8L3⟩,bD (by lia),_,_,rfl,sh0,_,rfl,bD (by rw[ea,show(sgn (sg (there cols)[j] sh)).length=1 from rfl];lia),(show 2<=sizeLine by decide),fun p hp=>?_⟩;rw[uI];have s9:=af.upd (o:= .tup [V.str (cL nm (sg (there cols)[j] sh)),V.int (there cols)[j]]) hp;have g9:upd H8 p (.tup [V.str (cL nm (sg (there cols)[j] sh)),V.int (there cols)[j]]) p=_:=aa
    generalize upd H8 p (.tup [V.str (cL nm (sg (there cols)[j] sh)),V.int (there cols)[j]])=H9 at s9 g9
    have hL9:=s9 _ _ h8L3;have tk9:=j1 (ys:=(ys++zs).map (fun p=>V.ref p.1) ++[V.ref p]) hL9;refine⟨_,hL9,by rw[Z6,Z9];exact aU (by lia),k9 _ _ ⟨_,rfl,af.set (s8.trans s9) (s1.free hL3),by rw[ai h13];exact s9 _ _ h8L1,by rw[ai th3];exact s9 _ _ h8th,(ca8.up s9).keep tk9,zs++[(p,cL nm (sg (there cols)[j] sh),(there cols)[j])],?_,?_,?_⟩⟩
    ·rw[aa,<-Ze,Zd (l₂:=[(p,cL nm (sg (there cols)[j] sh),(there cols)[j])])];rfl
    ·rw[<-Ze];exact((ya8.up s9).snoc ⟨g9,hat.1,hat.2.1⟩).keep tk9
    ·rw[Zd,hzs,X2,Z4 hj,Zd];rfl
   ·rintro σ H8 ⟨o8,rfl,s8,h8L1,h8th,ca8,zs,h8L3,ya8,hzs⟩;rw[Z6,Zn (Zi _)]at hzs;refine k8 _ _ ⟨_,_,_,_,_,_,rfl,s8,ds++[(p6,⟨nm,cols,hi5,sh⟩)],ys++zs,by rw[Z9,hdl];rfl,h8L1,h8L3,ya8,?_,ca8,fun p hp=>?_,?_⟩
    ·rw[Zd,hyl,hzs,flatMap_append]
     congr 1
     rw[List.flatMap_singleton];rfl
    ·rcases Xg hp with z|z
     ·exact hdo p z
     ·rw[Xh z];exact hdrn
    ·rw[Zd,hnm,range_succ,Zd];rw[enm];rfl
  ·rintro σ H3 ⟨o3,o4,o5,o6,o7,o8,rfl,s3,ds,ys,hdl,h3L1,h3L3,hya,hyl,hca,hdo,hnm⟩;refine k3 _ _ (ak fun D4 k4 _=>?_);walk_at "rd";refine⟨_,keep _ s3,_,g0,c0,rfl,⟨by decide,by decide⟩,by decide,k4 _ _ (ak fun D5 k5 _=>?_)⟩;have m0:0<=c0/100%13:=by lia
   have m12:c0/100%13<=12:=by lia
   generalize c0/100%13=many at m0 m12
   walk_at "rd";refine⟨X7 _,fun L2 hL2=>k5 _ _ (ak fun D6 k6 _=>ay fun Kont hK=>?_)⟩;have h21:L2≠L1:=fun e=>by rw[e,h3L1]at hL2;cases hL2
   have h23:L2≠L3:=fun e=>by rw[e,h3L3]at hL2;cases hL2
   have sL2:=af.upd (o:= .lst []) hL2;have hd1:1<=ds.length:=by lia
   have hd3:ds.length<=3:=by lia
   have ylen:ys.length<=24/\1<=ys.length:=by
    have e:=congrArg List.length hyl;rw[Z6,length_flatMap]at e;have:=kA (f:=fun p:Addr×Drn=>(fA p.2).length) (B:=8) (xs:=ds) fun p _=>by
     unfold fA;rw[Z6];exact ja _
    refine⟨by lia,Nat.pos_of_ne_zero fun z=>?_⟩;have hy0:ys=[]:=length_eq_zero_iff.mp z;rw[hy0]at hyl;have hpd:0<ds.length:=by lia
    have hq:=hdo ds[0] (Ya hpd);have hne:=wN hq.2.1 hq.2.2.2.1 hq.2.2.2.2.2;obtain⟨a',ha'⟩:=List.exists_mem_of_ne_nil _ hne;have:(cL ds[0].2.name (sg a' ds[0].2.sh),a')∈ds.flatMap fun p=>fA p.2:=mem_flatMap.mpr ⟨ds[0],Ya hpd,Xj ⟨a',ha',rfl⟩⟩
    rw[<-hyl]at this;cases this
   have hnames:(ys.map fun p=>p.2.1)=ds.flatMap fun p=>(fA p.2).map (·.1):=by
    have e:=congrArg (List.map (·.1)) hyl;rw[Yn,List.map_flatMap]at e;exact e
   walk_at "rd";refine⟨by lia,by lia,hK _ _ (dz (fun i σ H'=>∃o3,σ=[some (.ref a),some (.ref L1),some (.ref L3),o3,o4,o5,o6,o7,o8,some (.int many),some (.ref L2)]/\af H3 H'/\∃qs:List (Addr×List V),H' L2=some (.lst (qs.map fun q=>V.ref q.1))/\qs.length=i/\ci H' (ys.map fun p=>p.2.1) qs)
    ⟨_,rfl,sL2,[],aa,rfl,fun q hq=>(nomatch hq)⟩ ?_ ?_)⟩
   ·rintro i σ H4 hi4 ⟨o3,rfl,s4,qs,h4L2,hql,hsa⟩;show jr _ _ [some (.ref a),some (.ref L1),some (.ref L3),some (.int (0+i)),o4,o5,o6,o7,o8,some (.int many),some (.ref L2)] H4;rw[Int.zero_add];obtain⟨x1,gx1,lx1,ux1⟩:=get (19+2*(i:Int)) (by lia) (by lia);obtain⟨x2,gx2,lx2,ux2⟩:=get (20+2*(i:Int)) (by lia) (by lia);refine aD fun D7 k7 _=>?_
    walk_at "rd";refine⟨.inl ⟨_,SqL.of h4L2⟩,.inl ⟨by decide,by decide⟩,_,keep _ (s3.trans s4),_,gx1,.inl ⟨by decide,by decide⟩,_,keep _ (s3.trans s4),_,gx2,?_⟩;refine⟨x1,x2,L3,ys,rfl,s4 _ _ h3L3,hya.up s4,ylen.2,by lia,lx1,lx2,fun t H5 xs' s5 f5 h5 ok5=>?_⟩;have hL5:=s5 _ _ h4L2;have tk5:=j1 (ys:=qs.map (fun q=>V.ref q.1) ++[V.ref t]) hL5;walk_at "rd";refine⟨_,hL5,by rw[Z6];exact aU (by lia),k7 _ _ ⟨_,rfl,af.set (s4.trans s5) hL2,qs++[(t,xs')],by rw[aa,Zd];rfl,by rw[Z9,hql];rfl,fun q hq=>?_⟩⟩;rcases Xg hq with z|z
    ·exact(((hsa.up s5).keep tk5) q z)
    ·rw[Xh z];exact⟨tk5 _ _ h5,ok5⟩
   ·rintro σ H4 ⟨o3,rfl,s4,qs,h4L2,hql,hsa⟩;refine k6 _ _ ?_;walk_at "rd";refine aL fun Kont hK=>?_
    walk_at "rd";have h4L3:=s4 _ _ h3L3;refine .inl ⟨⟨_,SqL.of h4L3⟩,hK _ _ fun N hN=>?_⟩;refine bG (J:=Itl K L3) (n:=ys.length) (D:=N) (fun j ts σ H'=>(∃o1 o2,σ=[o1,o2])/\af H4 H'/\H' N=some (.lst ts)/\ts=((ys.take j).map fun p=>p.2.1).map V.str)
     ⟨⟨none,none,rfl⟩,af.upd hN,aa,rfl⟩
     (fun j _ _ H' hj ⟨_,sm,_⟩=>⟨_,V.ref ys[j].1,SqL.of (sm _ _ h4L3),by simp[hj]⟩) (fun _ _ H' ⟨_,sm,_⟩=>⟨_,SqL.of (sm _ _ h4L3),by simp⟩) ?_ ?_
    ·rintro j ts σ H5 hj ⟨⟨o1,o2,rfl⟩,s5,hNv,ht⟩ x H6 ⟨e2,hx⟩;subst e2;have hxi:=hx _ (SqL.of (s5 _ _ h4L3));rw[Zl,Z4 hj]at hxi;obtain rfl:x=V.ref ys[j].1:=(Za hxi).symm;have hyj:=(hya ys[j] (Ya hj)).1;refine⟨_,SqT.of (s5 _ _ (s4 _ _ hyj)),rfl,_,_,rfl,_,_,rfl,rfl,?_⟩;show vO [some (.str ys[j].2.1),some (.int ys[j].2.2)] _ _;walk_at "rd";refine CK.mk hj hNv (by rw[ht,Z6,Z6,Yh];exact aU (by lia)) ⟨⟨_,_,rfl⟩,af.set s5 hN,aa,?_⟩;rw[ht,X2,Zd,Zd,Z4 hj];rfl
    rintro ts σ H5 ⟨_,s5,hN5,ht⟩;rw[Zn (Zi _),hnames]at ht;refine⟨(show 3<=sizeLine by decide),fun t htn=>?_⟩;have st:=af.upd (o:= .tup [V.ref L1,V.ref L2,V.ref N]) htn;have sAll:=s3.trans (s4.trans (s5.trans st));rw[hnames]at hsa;have h4L1:=s4 _ _ h3L1;refine kk t L1 L2 N _ ds qs sAll ((s3.trans (s4.trans s5)).free htn) hL1 (s3.free hL2) ((s3.trans s4).free hN) (Ne.symm h21) (fun e=>by rw[<-e,h4L1]at hN;cases hN) (fun e=>by rw[<-e,h4L2]at hN;cases hN) aa (st _ _ (s5 _ _ h4L1)) (st _ _ (s5 _ _ h4L2)) ?_ hd1 hd3 hdo ?_ (hca.up (s4.trans (s5.trans st))) (hsa.up (s5.trans st)) (by lia) (fun p hp=>?_) (by rw[<-hnames,Z6];exact⟨ylen.2,ylen.1⟩)
    ·rw[st _ _ hN5,ht]
    ·rw[hnm,Yw,X1];refine X9 (fun{x y} hx hy hne he=>?_) (nodup_iff_pairwise_ne.mp (nodup_range (n:=(1+c0%3).toNat)));rw[mem_range]at hx hy;have:=yU (by lia) (by lia) (by lia) (by lia) he
     lia
    ·have:p.2.name∈ds.map fun p=>p.2.name:=Xj ⟨p,hp,rfl⟩
     rw[hnm]at this;obtain⟨k,_,e⟩:=Xi this;exact⟨_,e.symm⟩
noncomputable def NmD(ls:List Str)(f:Str->Str):List (Key×V):=ls.map fun z=>(Sum.inr z,V.str (f z))
theorem lc{f:Str->Str}{z:Str}:∀{ls:List Str},z∈ls->dj (NmD ls f) (Sum.inr z)=some (.str (f z))
 |[],h=>(nomatch h)
 | x::ls,h=>by
   by_cases e:x=z
   ·subst e;exact eG rfl
   ·rw[show NmD (x::ls) f=(Sum.inr x,V.str (f x))::NmD ls f from rfl,dH (fun q=>e (Sum.inr.inj q))];exact lc (by rcases mem_cons.mp h with q|q;exact(e q.symm).elim;exact q)
theorem w8{f:Str->Str}{z:Str}{ls:List Str}:((NmD ls f).any fun kv=>decide (kv.1=(Sum.inr z:Key)))=true↔z∈ls:=by
 rw[any_eq_true];unfold NmD
 constructor
 ·rintro⟨kv,h1,h2⟩;obtain⟨x,hx,rfl⟩:=Xi h1;have:=Sum.inr.inj (Zo h2);rw[<-this];exact hx
 ·intro h;exact⟨_,Xj ⟨z,h,rfl⟩,Zf rfl⟩
theorem xa{f:Str->Str}{z v:Str}{ls:List Str}(h:z∈ls):dG (NmD ls f) (Sum.inr z) (.str v)=NmD ls (fun x=>if x=z then v else f x):=by
 unfold dG;rw[if_pos (w8.mpr h)];unfold NmD;rw[Yn];refine Yl fun x _=>?_
 show(if(Sum.inr x:Key)=Sum.inr z then((Sum.inr x:Key),V.str v)else(Sum.inr x,V.str (f x)))=(Sum.inr x,V.str (if x=z then v else f x))
 by_cases e:x=z
 ·rw[if_pos (congrArg _ e),if_pos e]
 ·rw[if_neg (fun q=>e (Sum.inr.inj q)),if_neg e]
theorem A0{z:Str}{ls:List Str}(h:z∉ls):dG (NmD ls id) (Sum.inr z) (.str z)=NmD (ls++[z]) id:=by
 unfold dG;rw[if_neg (fun q=>h (w8.mp q))];unfold NmD;rw[Zd];rfl
noncomputable def xc(ls:List Str)(z:Str):Nat:=cK (ls.map fun u=>[u]) [z]
theorem xf{ls:List Str}{x y:Str}(hx:x∈ls)(h:aQ x y=true):xc ls x<xc ls y:=by
 have:=e7 (ks:=ls.map fun u=>[u]) (x:=[x]) (y:=[y]) (Xj ⟨x,hx,rfl⟩);rw[kM,h]at this;exact Zo this.symm
def bI(qs:List (Addr×List V))(a b:Str):Prop:=∃q∈qs,q.2=[.str "same",.str a,.str b]
theorem gF{ls:List Str}{f r:Str->Str}{S R:Str->Str->Prop}(F:bn ls f r S)(h:∀a b,S a b↔R a b):bn ls f r R:=by
 rw[show R=S from funext fun a=>funext fun b=>(propext (h a b)).symm];exact F
def A1:Sp:=fun vs H Q _=>∃(d:Addr) (z:Str) (ls:List Str) (f r:Str->Str) (S:Str->Str->Prop),vs=[.ref d,.str z]/\H d=some (.dK (NmD ls f))/\bn ls f r S/\z∈ls/\Q (.str (r z)) H
def yV:Sp:=fun vs H Q _=>∃(d:Addr) (a b:Str) (ls:List Str) (f r:Str->Str) (S:Str->Str->Prop),vs=[.ref d,.str a,.str b]/\H d=some (.dK (NmD ls f))/\bn ls f r S/\a∈ls/\b∈ls/\ls.length<=5000/\
 ∀f' r',bn ls f' r' (fun x y=>S x y\/(x=a/\y=b))->Q .non (upd H d (.dK (NmD ls f')))
theorem dW(T:Txt K mg):Cal P w K mg base 1 "least_pointed_to" ["names","layer"] A1:=by
 refine T.d_least_pointed_to.cal di (fun vs H Q E h=>?_) (fun f cdv A outer s H vs Q E hr h=>?_)
 ·obtain⟨d,z,ls,f,r,S,rfl,_⟩:=h;rfl
 ·obtain⟨d,z,ls,p,r,S,rfl,hd,F,hz,kk⟩:=h;refine⟨_,(QSs.h (ah (wH PassesOwn.never (cc fD rfl (my hr (fun _ _=>rfl) (vn 0 rfl Z0 rfl rfl) (vn 1 rfl Z0 rfl rfl)) (vn 1 rfl Z0 rfl rfl))
   (am (ba 1 di.nd rfl Z0 Z1 rfl (my hr (fun _ _=>rfl) (vn 0 rfl Z0 rfl rfl) (vn 1 rfl Z0 rfl rfl)))))
   (am (bg (vn 1 rfl Z0 rfl rfl))))),?_⟩
  show bL _ _ _ [some (.ref d),some (.str z)] H;refine ak fun D1 k1 _=>?_
  refine⟨fun m σ H'=>∃y,σ=[some (.ref d),some (.str y)]/\H'=H/\y∈ls/\r y=r z/\m=xc ls y,⟨_,z,rfl,rfl,hz,rfl,rfl⟩,?_⟩;rintro m σ H' ⟨y,rfl,rfl,hy,hry,rfl⟩;walk_at "rd";have g1:im H' d (.str y) (some (.str (p y))):=by
   have:=im.k (k:=Sum.inr y) hd;rw[lc hy]at this;exact this
  refine⟨_,g1,rfl,bZ (fun h=>?_) fun h=>?_⟩
  ·have h:p y≠y:=by simpa using h
   refine⟨fun σ' H2=>σ'=[some (.ref d),some (.str (p y))]/\H2=H',?_,_,g1,rfl,rfl⟩;rintro σ' H2 ⟨rfl,rfl⟩;exact⟨_,xf (F.fin y hy) (F.dec y hy h),p y,rfl,rfl,F.fin y hy,(F.rf y hy).trans hry,rfl⟩
  ·have h:p y=y:=by simpa using h
   refine k1 _ _ ?_;walk_at "rd";rw[<-hry,F.fix y hy h]at kk;exact kk
theorem jT(T:Txt K mg):Cal P w K mg base 2 "join_deposits" ["names","one","other"] yV:=by
 refine T.d_join_deposits.cal cP (fun vs H Q E h=>?_) (fun f cdv A outer s H vs Q E hr h=>?_)
 ·obtain⟨d,a,b,ls,f,r,S,rfl,_⟩:=h;rfl
 ·obtain⟨d,a,b,ls,p,r,S,rfl,hd,F,ha,hb,hll,kk⟩:=h;refine⟨_,(QSs.h (ah (ba 3 cP.nd rfl Z0 Z1 rfl (aO (dW T) hr rfl rfl rfl rfl (paE rfl (vn 0 rfl Z0 rfl rfl) (paE rfl (vn 1 rfl Z0 rfl rfl) aj))))
   (ah (ba 4 cP.nd rfl Z0 Z1 rfl (aO (dW T) hr rfl rfl rfl rfl (paE rfl (vn 0 rfl Z0 rfl rfl) (paE rfl (vn 2 rfl Z0 rfl rfl) aj))))
   (am (sJ hr rfl (cbE (AS rfl) rfl T.b_min boot_min rfl rfl rfl (paE rfl (vn 3 rfl Z0 rfl rfl) (paE rfl (vn 4 rfl Z0 rfl rfl) aj))) (vn 0 rfl Z0 rfl rfl) (cbE (AR rfl) rfl T.b_max boot_max rfl rfl rfl (paE rfl (vn 3 rfl Z0 rfl rfl) (paE rfl (vn 4 rfl Z0 rfl rfl) aj)))))))),?_⟩
  show bL _ _ _ [some (.ref d),some (.str a),some (.str b),none,none] H;refine ak fun D1 k1 _=>?_
  walk_at "rd";refine⟨d,a,ls,p,r,S,rfl,hd,F,ha,k1 _ _ (ak fun D2 k2 _=>?_)⟩;walk_at "rd";refine⟨d,b,ls,p,r,S,rfl,hd,F,hb,k2 _ _ (aD fun D3 k3 _=>?_)⟩;walk_at "rd";have J:=F.join ha hb rfl rfl;have Mi:(if aQ (r a) (r b)=true then r b else r a)∈ls:=by
   split
   ·exact F.rin b hb
   ·exact F.rin a ha
  generalize (if aQ (r a) (r b)=true then r b else r a)=M at J Mi
  generalize (if aQ (r b) (r a)=true then r b else r a)=m at J
  refine⟨_,oB.k (k:=Sum.inr M) hd (by unfold NmD;rw[Z6,PySem.sizeLine_eq];lia),k3 _ _ ?_⟩;rw[xa Mi];exact kk _ _ J
theorem ld{qs:List (Addr×List V)}{i:Nat}{q:Addr×List V}(hq:qs[i]? =some q)(a b:Str):bI (qs.take (i+1)) a b↔bI (qs.take i) a b\/q.2=[.str "same",.str a,.str b]:=by
 unfold bI;rw[X2,hq]
 constructor
 ·rintro⟨p,hp,e⟩;rcases Xg hp with h|h
  ·exact .inl ⟨p,h,e⟩
  ·rw[show p=q from Xh h]at e;exact .inr e
 ·rintro(⟨p,hp,e⟩|e)
  ·exact⟨p,Yo _ hp,e⟩
  ·exact⟨q,Yp _ (mem_singleton.mpr rfl),e⟩
theorem fB{ls:List Str}(so:ls.Pairwise (fun a b=>aQ b a=false)){i:Nat}{z w:Str}(hz:ls[i]? =some z)(hw:w∈ls)(h:aQ w z=true):w∈ls.take i:=by
 rw[<-X3 i ls]at hw;rcases Xg hw with e|e
 ·exact e
 ·exfalso;obtain⟨hi,ez⟩:=Xf hz;obtain⟨j,hj,rfl⟩:=getElem_of_mem e;rw[List.getElem_drop]at h;rw[Ye]at hj;by_cases e0:j=0
  ·subst e0;rw[<-ez]at h;simp only[add_zero]at h;rw[d8]at h;cases h
  ·have:=List.pairwise_iff_getElem.mp so i (i+j) hi (by lia) (by lia);rw[ez,h]at this;cases this
def xg(mg:Str->Option Value):Sp:=fun vs H Q _=>∃(g c2 c3 c4:Addr) (qs:List (Addr×List V)) (ls:List Str) (ts:List (Addr×List Str)),vs=[.ref g]/\GrF mg H g c2 c3 c4 qs ls ts/\ls.Nodup/\ls.Pairwise (fun a b=>aQ b a=false)/\ls.length<=5000/\
 ∀d H' r,af H H'->H d=none->H' d=some (.dK (NmD ls r))->(∀z∈ls,r z∈ls/\c6 (bI qs) z (r z))->Q (.ref d) H'
theorem nZ{H:Hp}{g c2 c3 c4:Addr}{qs:List (Addr×List V)}{ls:List Str}{ts:List (Addr×List Str)}{m:Str}{R:Prop}(h:GrF mg H g c2 c3 c4 qs ls ts)(hm:m="layers"\/m="sayings"\/m="ties")(k:R):∃dx fs,H g=some (.ins (ck mg "Ground") dx fs)/\List.lookup m fs=none/\R:=by
 obtain⟨dx,c1,h0⟩:=h.at_;exact⟨dx,_,h0,by rcases hm with rfl|rfl|rfl<;> rfl,k⟩
theorem eP(T:Txt K mg):Cal P w K mg base 3 "names_by_layer" ["ground"] (xg mg):=by
 refine T.d_names_by_layer.cal aV (fun vs H Q E h=>?_) (fun f cdv A outer s H vs Q E hr h=>?_)
 ·obtain⟨g,c2,c3,c4,qs,ls,ts,rfl,_⟩:=h;rfl
 ·obtain⟨g,c2,c3,c4,qs,ls,ts,rfl,hg,nd,so,hll,kk⟩:=h;have lm:(ls.map V.str).length=ls.length:=Z6 _;have qm:(qs.map fun q=>V.ref q.1).length=qs.length:=Z6 _;refine⟨_,(QSs.h (ah (ba 1 aV.nd rfl Z0 Z1 rfl v8)
   (ah (dm PassesOwn.never rfl rfl (cW (K:=K) rfl (nB (dg T) T.o_Ground hr rfl rfl (vn 0 rfl Z0 rfl rfl))) (au 2 aV.nd rfl Z0 Z1)
   (am (sJ hr rfl (vn 2 rfl Z0 rfl rfl) (vn 1 rfl Z0 rfl rfl) (vn 2 rfl Z0 rfl rfl))))
   (ah (dm PassesOwn.never rfl rfl (cW (K:=K) rfl (nB (jo T) T.o_Ground hr rfl rfl (vn 0 rfl Z0 rfl rfl))) (fT (K:=K) rfl rfl rfl (gsE rfl (au 3 aV.nd rfl Z0 Z1) (gsE rfl (au 4 aV.nd rfl Z0 Z1) (gsE rfl (au 5 aV.nd rfl Z0 Z1) cX))))
   (am (ifS (cc dh rfl (vn 3 rfl Z0 rfl rfl) dI)
    (am (cu rfl (aO (jT T) hr rfl rfl rfl rfl (paE rfl (vn 1 rfl Z0 rfl rfl) (paE rfl (vn 4 rfl Z0 rfl rfl) (paE rfl (vn 5 rfl Z0 rfl rfl) aj))))))
    bu)))
   (ah (dm PassesOwn.never rfl rfl (cW (K:=K) rfl (nB (dg T) T.o_Ground hr rfl rfl (vn 0 rfl Z0 rfl rfl))) (au 2 aV.nd rfl Z0 Z1)
   (am (sJ hr rfl (my hr (fun _ _=>rfl) (vn 1 rfl Z0 rfl rfl) (my hr (fun _ _=>rfl) (vn 1 rfl Z0 rfl rfl) (vn 2 rfl Z0 rfl rfl))) (vn 1 rfl Z0 rfl rfl) (vn 2 rfl Z0 rfl rfl))))
   (am (bg (vn 1 rfl Z0 rfl rfl)))))))),?_⟩
  show bL _ _ _ [some (.ref g),none,none,none,none,none] H;refine ak fun D1 k1 _=>?_
  walk_at "rd";intro d hd;refine k1 _ _ (ak fun D2 k2 _=>ay fun Kont hK=>?_);have s1:=af.upd (o:= .dK []) hd;have gd:upd H d (.dK []) d=some (.dK (NmD (ls.take 0) id)):=aa
  generalize upd H d (.dK [])=H1 at s1 gd
  walk_at "rd";have hg1:=hg.up s1;refine nZ hg1 (.inl rfl) ⟨g,c2,c3,c4,qs,ls,ts,rfl,hg1,fun l1 fl1=> .inl ⟨l1,rfl,⟨_,SqL.of aa⟩,hK _ _ ?_⟩⟩;have s2:=af.upd (o:= .lst (ls.map V.str)) fl1;have gl1:upd H1 l1 (.lst (ls.map V.str)) l1=_:=aa;have n1:l1≠d:=fun e=>by rw[e,gd]at fl1;cases fl1
  have gd:=s2 _ _ gd
  generalize upd H1 l1 (.lst (ls.map V.str))=H2 at s2 gl1 gd
  refine bQ (xs:=ls.map V.str) (fun i σ H'=>(∃o2 o3 o4 o5,σ=[some (.ref g),some (.ref d),o2,o3,o4,o5])/\af H H'/\H' l1=some (.lst (ls.map V.str))/\H' d=some (.dK (NmD (ls.take i) id)))
   ⟨⟨_,_,_,_,rfl⟩,s1.trans s2,gl1,gd⟩ (fun i σ H' _ h=>SqL.of h.2.2.1) ?_ ?_
  ·rintro i x σ H' hx ⟨⟨o2,o3,o4,o5,rfl⟩,sm,hl,hdv⟩;rw[Zl]at hx;obtain⟨z,hz,rfl⟩:=map_eq_some_iff.mp hx;show oE _ _ _ _ [some (.ref g),some (.ref d),some (.str z),o3,o4,o5] H';refine aD fun D3 k3 _=>?_
   walk_at "rd";have zn:z∉ls.take i:=fun hm=>by
    have h:=nd;rw[<-X3 i ls,Yv]at h;exact h.2.2 z hm z (Z8 (i:=0) (by rw[Y8];exact hz)) rfl
   refine⟨_,oB.k (k:=Sum.inr z) hdv (by unfold NmD;rw[Z6,Yh,PySem.sizeLine_eq];lia),k3 _ _ ⟨⟨_,_,_,_,rfl⟩,af.set sm hd,(ai n1).trans hl,?_⟩⟩;rw[aa,A0 zn,X2,hz];rfl
  rintro σ H3 ⟨⟨o2,o3,o4,o5,rfl⟩,sm,hl,hdv⟩;rw[lm,Zn (Zi _)]at hdv;refine k2 _ _ (ak fun D4 k4 _=>ay fun Kont hK=>?_);walk_at "rd";have hg3:=hg.up sm;refine nZ hg3 (.inr (.inl rfl)) ⟨g,c2,c3,c4,qs,ls,ts,rfl,hg3,fun l2 fl2=> .inl ⟨l2,rfl,⟨_,SqL.of aa⟩,hK _ _ ?_⟩⟩;have s4:=af.upd (o:= .lst (qs.map fun q=>V.ref q.1)) fl2;have gl2:upd H3 l2 (.lst (qs.map fun q=>V.ref q.1)) l2=_:=aa;have n2:l2≠d:=fun e=>by rw[e,hdv]at fl2;cases fl2
  have hdv:=s4 _ _ hdv;have sm4:=sm.trans s4
  generalize upd H3 l2 (.lst (qs.map fun q=>V.ref q.1))=H4 at s4 gl2 hdv sm4
  refine bQ (xs:=qs.map fun q=>V.ref q.1) (fun i σ H'=>(∃o2 o3 o4 o5,σ=[some (.ref g),some (.ref d),o2,o3,o4,o5])/\af H H'/\H' l2=some (.lst (qs.map fun q=>V.ref q.1))/\∃f r,H' d=some (.dK (NmD ls f))/\bn ls f r (bI (qs.take i)))
   ⟨⟨_,_,_,_,rfl⟩,sm4,gl2,id,id,hdv,gF (bn.start ls) fun a b=>⟨fun h=>h.elim,fun⟨q,hq,_⟩=>(nomatch hq)⟩⟩ (fun i σ H' _ h=>SqL.of h.2.2.1) ?_ ?_
  ·rintro i x σ H' hx ⟨⟨o2,o3,o4,o5,rfl⟩,sm,hl,f,r,hdv,F⟩;rw[Zl]at hx;obtain⟨q,hq,rfl⟩:=map_eq_some_iff.mp hx;obtain⟨q1,q2⟩:=hg.sa q (Z8 hq);have st:=sm _ _ q1;have stp:=ld hq;rcases q2 with⟨wd,a,b,e,hw,ha,hb,_⟩|⟨wd,a,y,e,hw,_⟩
   ·rw[e]at st stp;refine⟨_,SqT.of st,rfl,_,_,rfl,_,_,rfl,_,_,rfl,rfl,?_⟩;show jH _ _ _ _ [some (.ref g),some (.ref d),o2,some (.str wd),some (.str a),some (.str b)] H';refine aD fun D5 k5 _=>?_
    walk_at "rd";refine bZ (fun h=>?_) fun h=>?_
    ·have h:wd=Str.ofString "same":=by simpa using h
     refine⟨d,a,b,ls,f,r,_,rfl,hdv,F,ha,hb,hll,fun f' r' F'=>k5 _ _ ⟨⟨_,_,_,_,rfl⟩,af.set sm hd,(ai n2).trans hl,f',r',aa,gF F' fun x y=>?_⟩⟩;rw[stp,h];refine or_congr Iff.rfl ⟨fun⟨e1,e2⟩=>by rw[e1,e2],fun e=>?_⟩;simp only[List.cons.injEq,V.str.injEq,and_true,true_and]at e;exact⟨e.1.symm,e.2.symm⟩
    ·have h:wd≠Str.ofString "same":=by simpa using h
     refine k5 _ _ ⟨⟨_,_,_,_,rfl⟩,sm,hl,f,r,hdv,gF F fun x y=>?_⟩;rw[stp];refine⟨.inl,fun e=>e.resolve_right fun e=>h ?_⟩;simp only[List.cons.injEq,V.str.injEq]at e;exact e.1
   ·rw[e]at st stp;refine⟨_,SqT.of st,rfl,_,_,rfl,_,_,rfl,_,_,rfl,rfl,?_⟩;show jH _ _ _ _ [some (.ref g),some (.ref d),o2,some (.str wd),some (.str a),some (.int y)] H';refine aD fun D5 k5 _=>?_
    walk_at "rd";rw[if_neg (by rcases hw with rfl|rfl<;> decide)];refine k5 _ _ ⟨⟨_,_,_,_,rfl⟩,sm,hl,f,r,hdv,gF F fun x z=>?_⟩;rw[stp];refine⟨.inl,fun e=>e.resolve_right fun e=>?_⟩;simp at e
  rintro σ H5 ⟨⟨o2,o3,o4,o5,rfl⟩,sm,hl,f,r,hdv,F⟩;rw[qm,Zn (Zi _)]at F;refine k4 _ _ (ak fun D6 k6 _=>ay fun Kont hK=>?_);walk_at "rd";have hg5:=hg.up sm;refine nZ hg5 (.inl rfl) ⟨g,c2,c3,c4,qs,ls,ts,rfl,hg5,fun l3 fl3=> .inl ⟨l3,rfl,⟨_,SqL.of aa⟩,hK _ _ ?_⟩⟩;have s6:=af.upd (o:= .lst (ls.map V.str)) fl3;have gl3:upd H5 l3 (.lst (ls.map V.str)) l3=_:=aa;have n3:l3≠d:=fun e=>by rw[e,hdv]at fl3;cases fl3
  have hdv:=s6 _ _ hdv;have sm6:=sm.trans s6
  generalize upd H5 l3 (.lst (ls.map V.str))=H6 at s6 gl3 hdv sm6
  refine bQ (xs:=ls.map V.str) (fun i σ H'=>(∃o2 o3 o4 o5,σ=[some (.ref g),some (.ref d),o2,o3,o4,o5])/\af H H'/\H' l3=some (.lst (ls.map V.str))/\∃f,H' d=some (.dK (NmD ls f))/\bn ls f r (bI qs)/\∀z∈ls.take i,f z=r z)
   ⟨⟨_,_,_,_,rfl⟩,sm6,gl3,f,hdv,F,fun z hz=>(nomatch hz)⟩ (fun i σ H' _ h=>SqL.of h.2.2.1) ?_ ?_
  ·rintro i x σ H' hx ⟨⟨o2,o3,o4,o5,rfl⟩,sm,hl,f,hdv,F,hdn⟩;rw[Zl]at hx;obtain⟨z,hz,rfl⟩:=map_eq_some_iff.mp hx;have zm:=Z8 hz;show oE _ _ _ _ [some (.ref g),some (.ref d),some (.str z),o3,o4,o5] H';refine aD fun D7 k7 _=>?_
   walk_at "rd";have get:∀y∈ls,im H' d (.str y) (some (.str (f y))):=fun y hy=>by
    have:=im.k (k:=Sum.inr y) hdv;rw[lc hy]at this;exact this
   refine⟨_,get z zm,_,get _ (F.fin z zm),_,oB.k (k:=Sum.inr z) hdv (by unfold NmD;rw[Z6,PySem.sizeLine_eq];lia),k7 _ _ ⟨⟨_,_,_,_,rfl⟩,af.set sm hd,(ai n3).trans hl,_,?_,F.short zm,fun y hy=>?_⟩⟩
   ·rw[aa,xa zm]
   ·rw[X2,hz]at hy;by_cases e:y=z
    ·rw[if_pos e,e];exact F.done zm fun w hw h=>hdn w (fB so hz hw h)
    ·rw[if_neg e];rcases Xg hy with h|h
     ·exact hdn y h
     ·exact(e (Xh h)).elim
  rintro σ H7 ⟨⟨o2,o3,o4,o5,rfl⟩,sm,hl,f,hdv,F,hdn⟩;rw[lm,Zn (Zi _)]at hdn;refine k6 _ _ ?_;walk_at "rd";refine kk d H7 r sm hd ?_ fun z hz=>⟨F.rin z hz,F.least hz⟩
  rw[hdv];unfold NmD;rw[Yl fun z hz=>by rw[hdn z hz]]
theorem bmCE{X:Cx}{K:PySem.W.Frag}{o e:Expr}{es:List Expr}{to:TE}{t:TA}{name:Str}{apos cpos:Pos}{T id:String}{r:V->List V->Hp->VK->Prop}(h:X.K=K)(pa:PlainAttrs T)(slot:Slot T name id)(hty:typeOf (.builtin id)=pure (.type "method_descriptor"))(hm:MtQ X id r)
 (hbase:attributeBase o name X.env (eval o X.env)=eval o X.env) (hfew:(e::es).any bi=false) (h30:Nat.blt (e::es).length 30=true) (hline:(apos.endLine==cpos.line)=true) (ho:QE X o to) (ha:QA X (e::es) t):
 QE X (.Call (.Attribute o name apos) (e::es) [] cpos) (tBM K T r to t):=by
 have he:=hfew;rw[Zy,Yz]at he;refine⟨vV h pa slot hty hm.h ho.h ha.h hbase ?_ hline (ar he.1) (eU he.2)⟩;rw[mV hfew];have h30':(e::es).length<30:=Nat.blt_eq.mp h30;have:decide ((e::es).length+([]:List Keyword).length+(if([]:List Keyword).isEmpty then 0 else 1)<30)=true:=Zf (by simpa using h30');rw[this];rfl
noncomputable def grp(r:Str->Str)(xs:List Str):List (Str×List Str):=(xs.filter fun z=>decide (r z=z)).map fun z=>(z,xs.filter fun x=>decide (r x=z))
theorem mE{r r':Str->Str}{xs:List Str}(h:∀z∈xs,r z=r' z):grp r xs=grp r' xs:=by
 unfold grp;rw[List.filter_congr fun z hz=>by rw[h z hz]];refine Yl fun z hz=>?_
 rw[List.filter_congr fun x hx=>by rw[h x hx]]
theorem yW{r:Str->Str}{xs:List Str}{z:Str}(hz:r z=z)(zn:z∉xs)(hc:∀x∈xs,r x∈xs):grp r (xs++[z])=grp r xs++[(z,[z])]:=by
 unfold grp;rw[Y3,Zd];refine congr (congrArg _ (Yl fun w hw=>?_)) ?_
 ·have:w≠z:=fun e=>zn (by rw[<-e];exact(List.mem_filter.mp hw).1)
  rw[Y3,filter_cons_of_neg (by rw[hz];simpa using this.symm),filter_nil,Zz]
 ·rw[filter_cons_of_pos (by rw[hz];simp),filter_nil];show [(z,_)]=_;rw[Y3,filter_cons_of_pos (by rw[hz];simp),filter_nil,List.filter_eq_nil_iff.mpr fun x hx=>?_]
  ·rfl
  ·intro e;exact zn (by rw[<-Zo e];exact hc x hx)
theorem yX{r:Str->Str}{xs:List Str}{z:Str}(hz:r z≠z):grp r (xs++[z])=(grp r xs).map fun p=>if p.1=r z then(p.1,p.2++[z])else p:=by
 unfold grp;rw[Y3,filter_cons_of_neg (by simpa using hz),filter_nil,Zz,Yn];refine Yl fun w hw=>?_
 show(w,_)=if w=r z then(w,_)else(w,_)
 rw[Y3];by_cases e:w=r z
 ·rw[if_pos e,filter_cons_of_pos (by simpa using e.symm),filter_nil]
 ·rw[if_neg e,filter_cons_of_neg (by simpa using fun q=>e q.symm),filter_nil,Zz]
theorem iR{r:Str->Str}{xs:List Str}{y:Str}:y∈(grp r xs).map (·.1)↔y∈xs/\r y=y:=by
 unfold grp;rw[Yn,mem_map]
 constructor
 ·rintro⟨z,hz,rfl⟩;have:=List.mem_filter.mp hz;exact⟨this.1,Zo this.2⟩
 ·rintro⟨h1,h2⟩;exact⟨y,List.mem_filter.mpr ⟨h1,Zf h2⟩,rfl⟩
theorem mF{r:Str->Str}{xs:List Str}(h:xs.Nodup):((grp r xs).map (·.1)).Nodup:=by
 unfold grp;rw[Yn,show((fun x:Str×List Str=>x.1) ∘ fun z=>(z,List.filter (fun x=>decide (r x=z)) xs))=id from rfl,map_id];exact h.filter _
def fH(S:Str->Str->Prop)(ls:List Str)(ds:List (List Str)):Prop:=∃r:Str->Str,(∀z∈ls,r z∈ls/\c6 S z (r z))/\ds=(grp r ls).map (·.2)
theorem fH.one{S:Str->Str->Prop}{ls:List Str}{ds es:List (List Str)}(h:fH S ls ds)(g:fH S ls es):ds=es:=by
 obtain⟨r,h1,rfl⟩:=h;obtain⟨r',g1,rfl⟩:=g;rw[mE fun z hz=>(h1 z hz).2.one (g1 z hz).2]
noncomputable abbrev Gs:=List (Str×Addr×List Str)
noncomputable def gD(gs:Gs):List (Key×V):=gs.map fun g=>(Sum.inr g.1,V.ref g.2.1)
theorem sN{y:Str}:∀{gs:Gs},y∉gs.map (·.1)->dj (gD gs) (Sum.inr y)=none
 |[],_=>rfl
 | g::gs,h=>by
   rw[Ym,Yq,not_or]at h;rw[show gD (g::gs)=(Sum.inr g.1,V.ref g.2.1)::gD gs from rfl,dH (fun q=>h.1 (Sum.inr.inj q).symm)];exact sN h.2
theorem sO{y:Str}{v:V}:∀{gs:Gs},dj (gD gs) (Sum.inr y)=some v->∃g∈gs,g.1=y/\v= .ref g.2.1
 |[],h=>(nomatch h)
 | g::gs,h=>by
   rw[show gD (g::gs)=(Sum.inr g.1,V.ref g.2.1)::gD gs from rfl]at h;by_cases e:g.1=y
   ·rw[eG (congrArg Sum.inr e)]at h;exact⟨g,Zm,e,(Za h).symm⟩
   ·rw[dH (fun q=>e (Sum.inr.inj q))]at h;obtain⟨g',h1,h2⟩:=sO h;exact⟨g',Zk _ h1,h2⟩
theorem xh{g:Str×Addr×List Str}:∀{gs:Gs},g∈gs->dj (gD gs) (Sum.inr g.1)≠none
 | x::gs,h,c=>by
   rw[show gD (x::gs)=(Sum.inr x.1,V.ref x.2.1)::gD gs from rfl]at c;by_cases e:x.1=g.1
   ·rw[eG (congrArg Sum.inr e)]at c;cases c
   ·rw[dH (fun q=>e (Sum.inr.inj q))]at c;rcases mem_cons.mp h with q|q
    ·exact e (by rw[q])
    ·exact xh q c
def bP(H:Hp)(gs:List (Addr×List Str)):Prop:=∀g∈gs,H g.1=some (.lst (g.2.map V.str))
theorem bP.up{H H':Hp}{gs:List (Addr×List Str)}(h:bP H gs)(s:af H H'):bP H' gs:=fun g hg=>s _ _ (h g hg)
structure gP (H0 H:Hp) (d:Addr) (gs:Gs):Prop where
 at_:H d=some (.dK (gD gs))
 la:∀g∈gs,H0 g.2.1=none/\H g.2.1=some (.lst (g.2.2.map V.str))
 nd:(gs.map (·.2.1)).Nodup
theorem yY{gs:Gs}(hk:(gs.map (·.1)).Nodup){g h:Str×Addr×List Str}(hg:g∈gs)(hh:h∈gs)(e:g.1=h.1):g=h:=by
 induction gs with
 | nil=>cases hg
 | cons x xs ih=>
   rw[Ym,nodup_cons]at hk;rcases mem_cons.mp hg with e1|e1<;> rcases mem_cons.mp hh with e2|e2
   ·rw[e1,e2]
   ·exact(hk.1 (by rw[<-e1,e];exact Xj ⟨_,e2,rfl⟩)).elim
   ·exact(hk.1 (by rw[<-e2,<-e];exact Xj ⟨_,e1,rfl⟩)).elim
   ·exact ih hk.2 e1 e2
theorem xi{gs:Gs}(hk:(gs.map (·.2.1)).Nodup){g h:Str×Addr×List Str}(hg:g∈gs)(hh:h∈gs)(e:g.2.1=h.2.1):g=h:=by
 induction gs with
 | nil=>cases hg
 | cons x xs ih=>
   rw[Ym,nodup_cons]at hk;rcases mem_cons.mp hg with e1|e1<;> rcases mem_cons.mp hh with e2|e2
   ·rw[e1,e2]
   ·exact(hk.1 (by rw[<-e1,e];exact Xj ⟨_,e2,rfl⟩)).elim
   ·exact(hk.1 (by rw[<-e2,<-e];exact Xj ⟨_,e1,rfl⟩)).elim
   ·exact ih hk.2 e1 e2
noncomputable def rN(y z:Str)(gs:Gs):Gs:=gs.map fun g=>if g.1=y then(g.1,g.2.1,g.2.2++[z])else g
theorem A2(y z:Str)(gs:Gs):gD (rN y z gs)=gD gs:=by
 unfold rN gD;rw[Yn];refine Yl fun g _=>?_
 show(Sum.inr (if g.1=y then(g.1,g.2.1,g.2.2++[z])else g).1,V.ref (if g.1=y then(g.1,g.2.1,g.2.2++[z])else g).2.1)=_
 split<;> rfl
theorem A3(y z:Str)(gs:Gs):(rN y z gs).map (·.2.1)=gs.map (·.2.1):=by
 unfold rN;rw[Yn];refine Yl fun g _=>?_
 show(if g.1=y then(g.1,g.2.1,g.2.2++[z])else g).2.1=_
 split<;> rfl
theorem A4(y z:Str)(gs:Gs):(rN y z gs).map (fun g=>(g.1,g.2.2))=(gs.map fun g=>(g.1,g.2.2)).map fun p=>if p.1=y then(p.1,p.2++[z])else p:=by
 unfold rN;rw[Yn,Yn];refine Yl fun g _=>?_
 show((if g.1=y then(g.1,g.2.1,g.2.2++[z])else g).1,(if g.1=y then(g.1,g.2.1,g.2.2++[z])else g).2.2)=if g.1=y then(g.1,g.2.2++[z])else(g.1,g.2.2)
 split<;> rfl
theorem gP.up{H0 H H':Hp}{d:Addr}{gs:Gs}(h:gP H0 H d gs)(s:af H H'):gP H0 H' d gs:=⟨s _ _ h.at_,fun g hg=>⟨(h.la g hg).1,s _ _ (h.la g hg).2⟩,h.nd⟩
theorem gP.add{H0 H:Hp}{d:Addr}{gs:Gs}(h:gP H0 H d gs)(hk:(gs.map (·.1)).Nodup){g:Str×Addr×List Str}(hg:g∈gs)(z:Str):gP H0 (upd H g.2.1 (.lst (g.2.2.map V.str++[.str z]))) d (rN g.1 z gs):=by
 refine⟨?_,fun g' hg'=>?_,by rw[A3];exact h.nd⟩
 ·rw[A2,ai (fun e=>by have:=(h.la g hg).2;rw[<-e,h.at_]at this;cases this)];exact h.at_
 ·obtain⟨g0,h0,rfl⟩:=Xi hg';by_cases e:g0.1=g.1
  ·rw[if_pos e];obtain rfl:=yY hk h0 hg e;refine⟨(h.la _ hg).1,?_⟩;rw[aa,Zd];rfl
  ·rw[if_neg e];refine⟨(h.la _ h0).1,?_⟩;rw[ai (fun q=>e (by rw[xi h.nd h0 hg q]))];exact(h.la _ h0).2
theorem gP.new{H0 H:Hp}{d e:Addr}{gs:Gs}(h:gP H0 H d gs)(s:af H0 H)(he:H e=none)(z:Str)(zn:z∉gs.map (·.1)):gP H0 (upd (upd (upd H e (.lst [])) d (.dK (dG (gD gs) (Sum.inr z) (.ref e)))) e (.lst [.str z])) d (gs++[(z,e,[z])]):=by
 have de:d≠e:=fun q=>by rw[<-q,h.at_]at he;cases he
 refine⟨?_,fun g hg=>?_,?_⟩
 ·rw[ai de,aa,vI _ (sN zn)];unfold gD;rw[Zd];rfl
 ·rcases Xg hg with hg|hg
  ·refine⟨(h.la g hg).1,?_⟩;have q:=(h.la g hg).2;rw[ai (fun c=>by rw[c,he]at q;cases q),ai (fun c=>by rw[c,h.at_]at q;cases q),ai (fun c=>by rw[c,he]at q;cases q)];exact q
  ·rw[Xh hg];exact⟨s.free he,aa⟩
 ·rw[Zd,Yv];refine⟨h.nd,by simp,fun a ha b hb c=>?_⟩;obtain⟨g,hg,rfl⟩:=Xi ha;have q:=(h.la g hg).2;rw[show b=e from Xh hb]at c;rw[show g.2.1=e from c,he]at q;cases q
def n6(mg:Str->Option Value):Sp:=fun vs H Q _=>∃(g c2 c3 c4:Addr) (qs:List (Addr×List V)) (ls:List Str) (ts:List (Addr×List Str)),vs=[.ref g]/\GrF mg H g c2 c3 c4 qs ls ts/\ls.Nodup/\ls.Pairwise (fun a b=>aQ b a=false)/\ls.length<=5000/\
 ∀l H' (ss:List (Addr×List Str)),af H H'->H l=none->H' l=some (.lst (ss.map fun t=>V.ref t.1))->bP H' ss->(∀s∈ss,H s.1=none)->fH (bI qs) ls (ss.map (·.2))->ss.length<=5000->Q (.ref l) H'
def xj(mg:Str->Option Value):Sp:=fun vs H Q _=>∃(g c2 c3 c4:Addr) (qs:List (Addr×List V)) (ls:List Str) (ts:List (Addr×List Str)) (z:Str),vs=[.ref g,.str z]/\GrF mg H g c2 c3 c4 qs ls ts/\ls.Nodup/\ls.Pairwise (fun a b=>aQ b a=false)/\ls.length<=5000/\z∈ls/\
 ∀H' m,af H H'->c6 (bI qs) z m->Q (.str m) H'
theorem n8(T:Txt K mg):Cal P w K mg base 4 "deposit_of" ["ground","layer"] (xj mg):=by
 refine T.d_deposit_of.cal lD (fun vs H Q E h=>?_) (fun f cdv A outer s H vs Q E hr h=>?_)
 ·obtain⟨g,c2,c3,c4,qs,ls,ts,z,rfl,_⟩:=h;rfl
 ·obtain⟨g,c2,c3,c4,qs,ls,ts,z,rfl,hg,nd,so,hll,hz,kk⟩:=h;refine⟨_,(QSs.h (am (bg (my hr (fun _ _=>rfl) (aO (eP T) hr rfl rfl rfl rfl (paE rfl (vn 0 rfl Z0 rfl rfl) aj)) (vn 1 rfl Z0 rfl rfl))))),?_⟩;show iT _ _ [some (.ref g),some (.str z)] H;walk_at "rd";refine⟨g,c2,c3,c4,qs,ls,ts,rfl,hg,nd,so,hll,fun d H1 r s1 fd hd hr=>?_⟩;have:=im.k (k:=Sum.inr z) hd;rw[lc hz]at this;exact⟨d,rfl,_,this,kk H1 (r z) s1 (hr z hz).2⟩
theorem cC(T:Txt K mg):Cal P w K mg base 4 "deposits" ["ground"] (n6 mg):=by
 refine T.d_deposits.cal d9 (fun vs H Q E h=>?_) (fun f cdv A outer s H vs Q E hr h=>?_)
 ·obtain⟨g,c2,c3,c4,qs,ls,ts,rfl,_⟩:=h;rfl
 ·obtain⟨g,c2,c3,c4,qs,ls,ts,rfl,hg,nd,so,hll,kk⟩:=h;have lm:(ls.map V.str).length=ls.length:=Z6 _;refine⟨_,(QSs.h (ah (ba 1 d9.nd rfl Z0 Z1 rfl (aO (eP T) hr rfl rfl rfl rfl (paE rfl (vn 0 rfl Z0 rfl rfl) aj)))
   (ah (ba 2 d9.nd rfl Z0 Z1 rfl v8)
   (ah (dm PassesOwn.never rfl rfl (cW (K:=K) rfl (nB (dg T) T.o_Ground hr rfl rfl (vn 0 rfl Z0 rfl rfl))) (au 3 d9.nd rfl Z0 Z1)
   (am (cu rfl (bmCE (K:=K) rfl plainAttrs_list PySem.F.slot_list_append PySem.F.type_list_append bv rfl rfl rfl rfl (bmE (K:=K) rfl PySem.F.plainAttrs_dict PySem.F.slot_dict_setdefault PySem.F.type_dict_setdefault nE rfl rfl rfl rfl (vn 2 rfl Z0 rfl rfl) (paE rfl (my hr (fun _ _=>rfl) (vn 1 rfl Z0 rfl rfl) (vn 3 rfl Z0 rfl rfl)) (paE rfl (dZ aj) aj))) (paE rfl (vn 3 rfl Z0 rfl rfl) aj)))))
   (am (bg (ctE (yN rfl) rfl T.b_list boot_list rfl rfl rfl (paE rfl (bm0E (K:=K) rfl PySem.F.plainAttrs_dict PySem.F.slot_dict_values PySem.F.type_dict_values wL rfl rfl (vn 2 rfl Z0 rfl rfl)) aj)))))))),?_⟩
  show bL _ _ _ [some (.ref g),none,none,none] H;refine ak fun D1 k1 _=>?_
  walk_at "rd";refine⟨g,c2,c3,c4,qs,ls,ts,rfl,hg,nd,so,hll,fun d H1 r s1 fd hd hr=>k1 _ _ (ak fun D2 k2 _=>?_)⟩;walk_at "rd";intro e fe;refine k2 _ _ (ak fun D3 k3 _=>ay fun Kont hK=>?_);have nde:d≠e:=fun c=>by rw[c,fe]at hd;cases hd
  have s2:=af.upd (o:= .dK []) fe;have ge:upd H1 e (.dK []) e=some (.dK (gD [])):=aa;have hd:=s2 _ _ hd;have fe:=s1.free fe;have s12:=s1.trans s2
  generalize upd H1 e (.dK [])=H2 at s2 ge hd s12
  walk_at "rd";have hg2:=hg.up s12;refine nZ hg2 (.inl rfl) ⟨g,c2,c3,c4,qs,ls,ts,rfl,hg2,fun l1 fl1=> .inl ⟨l1,rfl,⟨_,SqL.of aa⟩,hK _ _ ?_⟩⟩;have s3:=af.upd (o:= .lst (ls.map V.str)) fl1;have gl1:upd H2 l1 (.lst (ls.map V.str)) l1=_:=aa;have hd:=s3 _ _ hd;have ge:=s3 _ _ ge;have s13:=s12.trans s3
  generalize upd H2 l1 (.lst (ls.map V.str))=H3 at s3 gl1 hd ge s13
  have r2:∀z∈ls,r (r z)=r z:=fun z hz=>by
   have h:=(hr z hz)
   have h2:=(hr _ h.1).2;exact h2.one ⟨.refl _,fun y c=>h.2.2 y (h.2.1.trans c)⟩
  have rle:∀z∈ls,r z≠z->aQ (r z) z=true:=fun z hz h=>cp ((hr z hz).2.2 z (.refl _)) h.symm
  obtain⟨H0,h0e,hd0,gl0,s00,s0⟩:∃H0:Hp,H0 e=none/\H0 d=some (.dK (NmD ls r))/\H0 l1=some (.lst (ls.map V.str))/\af H H0/\af H0 H3:=by
   refine⟨fun a=>if a=e then none else H3 a,if_pos rfl,?_,?_,fun a o h=>?_,fun a o h=>?_⟩
   ·exact(if_neg (fun c=>nde c)).trans hd
   ·exact(if_neg (fun c=>by rw[c,ge]at gl1;cases gl1)).trans gl1
   ·exact(if_neg (fun c=>by rw[c,fe]at h;cases h)).trans (s13 _ _ h)
   ·have h:(if a=e then none else H3 a)=some o:=h
    split at h
    ·cases h
    ·exact h
  refine bQ (xs:=ls.map V.str) (fun i σ H'=>(∃o3,σ=[some (.ref g),some (.ref d),some (.ref e),o3])/\af H0 H'/\∃gs,gP H0 H' e gs/\gs.map (fun g=>(g.1,g.2.2))=grp r (ls.take i))
   ⟨⟨_,rfl⟩,s0,[],⟨ge,fun g hg=>(nomatch hg),nodup_nil⟩,rfl⟩ (fun i σ H' _ h=>SqL.of (h.2.1 _ _ gl0)) ?_ ?_
  ·rintro i x σ H' hx ⟨⟨o3,rfl⟩,sm,gs,hgs,hgr⟩;rw[Zl]at hx;obtain⟨z,hz,rfl⟩:=map_eq_some_iff.mp hx;have zm:=Z8 hz;have i1:i<ls.length:=(Xf hz).1;show jr _ _ [some (.ref g),some (.ref d),some (.ref e),some (.str z)] H';refine aD fun D4 k4 _=>?_
   walk_at "rd";have get:=im.k (k:=Sum.inr z) (sm _ _ hd0);rw[lc zm]at get;have gk:gs.map (·.1)=(grp r (ls.take i)).map (·.1):=by rw[<-hgr,Yn];rfl
   have gkn:(gs.map (·.1)).Nodup:=by rw[gk];exact mF (nd.sublist (take_sublist _ _))
   have gl:gs.length<=ls.length:=by
    have:=STab.nodup_sub gkn (m:=ls) fun y hy=>by rw[gk,iR]at hy;exact Ys hy.1
    rw[Z6]at this;exact this
   have zn:z∉ls.take i:=fun hm=>by
    have h:=nd;rw[<-X3 i ls,Yv]at h;exact h.2.2 z hm z (Z8 (i:=0) (by rw[Y8];exact hz)) rfl
   have tk:ls.take (i+1)=ls.take i++[z]:=by rw[X2,hz];rfl
   refine⟨.inr (.inr (.inl (.inl ⟨_,hgs.at_⟩))),_,get,(show 0<=sizeLine by decide),fun p hp=>⟨Sum.inr (r z),rfl,gD gs,?_,?_,fun v hv=>?_,fun hv=>?_⟩⟩
   ·rw[ai (fun c=>by rw[<-c,hgs.at_]at hp;cases hp)];exact hgs.at_
   ·unfold gD;rw[Z6];exact aU (by lia)
   ·obtain⟨q,hq,e1,rfl⟩:=sO hv;have hq1:q.1∈gs.map (·.1):=Xj ⟨q,hq,rfl⟩;have hq2:=hq1;rw[gk,iR,e1]at hq2;have rn:r z≠z:=fun c=>zn (by rw[<-c];exact hq2.1)
    have sp:=af.upd (o:= .lst []) hp;have hl:=sp _ _ (hgs.la q hq).2;have G:=(hgs.up sp).add gkn hq z;have ml:q.2.2.length<=ls.length:=by
     have:(q.1,q.2.2)∈grp r (ls.take i):=by rw[<-hgr];exact Xj ⟨q,hq,rfl⟩
     obtain⟨y,hy,c⟩:=Xi this;rw[<-(Prod.mk.inj c).2];exact Yd (Yf _ _) (by rw[Yh];lia)
    refine⟨.inl ⟨_,SqL.of hl⟩,_,rfl,_,hl,by rw[Z6];exact aU (by lia),k4 _ _ ⟨⟨_,rfl⟩,af.set (sm.trans sp) (hgs.la q hq).1,_,G,?_⟩⟩;rw[A4,hgr,tk,yX rn,e1]
   ·have nk:r z∉gs.map (·.1):=fun h=>by
     obtain⟨q,hq,c⟩:=Xi h;have:=xh hq;rw[c,hv]at this;exact this rfl
    have rz:r z=z:=Decidable.byContradiction fun c=>nk (by rw[gk,iR];exact⟨fB so hz (hr z zm).1 (rle z zm c),r2 z zm⟩)
    have de:e≠p:=fun q=>by rw[<-q,hgs.at_]at hp;cases hp
    rw[rz]at hv nk ⊢;have gp:upd (upd H' p (.lst [])) e (.dK (dG (gD gs) (Sum.inr z) (.ref p))) p=some (.lst []):=by rw[ai de.symm,aa]
    refine⟨.inl ⟨_,SqL.of gp⟩,[],gp,(show 0<sizeLine by decide),k4 _ _ ⟨⟨_,rfl⟩,af.set (af.set (sm.trans (af.upd hp)) h0e) (sm.free hp),_,hgs.new sm hp z nk,?_⟩⟩;rw[Zd,hgr,tk,yW rz zn fun x hx=>?_]
    ·rfl
    ·obtain⟨j,hj⟩:=List.mem_iff_getElem?.mp hx;have xm:=Ys hx;by_cases c:r x=x
     ·rw[c];exact hx
     ·have ji:j<i:=by have:=(Xf hj).1;rw[Yh]at this;lia
      rw[List.getElem?_take_of_lt ji]at hj;exact List.take_subset_take_left _ (Yb ji) (fB so hj (hr x xm).1 (rle x xm c))
  rintro σ H' ⟨⟨o3,rfl⟩,sm,gs,hgs,hgr⟩;rw[lm,Zn (Zi _)]at hgr;refine k3 _ _ ?_;walk_at "rd";have gk:gs.map (·.1)=(grp r ls).map (·.1):=by rw[<-hgr,Yn];rfl
  have gl:gs.length<=ls.length:=by
   have:=STab.nodup_sub (l:=gs.map (·.1)) (by rw[gk];exact mF nd) (m:=ls) fun y hy=>by rw[gk,iR]at hy;exact hy.1
   rw[Z6]at this;exact this
  refine⟨.inr (.inr (.inl (.inl ⟨_,hgs.at_⟩))),⟨_,hgs.at_⟩,fun v fv=>⟨e,aa,_,af.upd fv _ _ hgs.at_,fun l fl=>?_⟩⟩;have sv:=af.upd (o:=kN v e) fv
  generalize upd H' v (kN v e)=H4 at sv fl ⊢
  have sl:=af.upd (o:= .lst ((gD gs).map (·.2))) fl;have s0l:=sm.trans (sv.trans sl);refine kk l _ (gs.map (·.2)) (s00.trans s0l) ((s00.trans (sm.trans sv)).free fl) ?_ (fun s hs=>?_) (fun s hs=>?_) ⟨r,hr,?_⟩ (by rw[Z6];lia)
  ·rw[aa];unfold gD;rw[Yn,Yn];rfl
  ·obtain⟨q,hq,rfl⟩:=Xi hs;exact sl _ _ (sv _ _ (hgs.la q hq).2)
  ·obtain⟨q,hq,rfl⟩:=Xi hs;exact s00.free (hgs.la q hq).1
  ·rw[<-hgr,Yn,Yn];rfl
theorem BR{X:Cx}{K:PySem.W.Frag}{e:Expr}{lo hi:Option Expr}{te:TE}{tl th:TO}{p2 pos:Pos}(h:X.K=K)(he:QE X e te)(hl:QO X lo tl)(hu:QO X hi th):QE X (.Subscript e (.Slice lo hi none p2) pos) (tSl (xU K) te tl th):=by subst h;exact⟨kf vE he.h hl.h hu.h⟩
def A5:Sp:=fun vs H Q _=>∃(z:Str) (l:Addr) (ls:List Str) (qs:List (Addr×List V)),vs=[.str z,.ref l]/\H l=some (.lst (qs.map fun q=>V.ref q.1))/\ci H ls qs/\z∈ls/\ls.length<=900/\∀r H' (cs:List Str),af H H'->H r=none->H' r=some (.lst (cs.map V.str))->cs.Nodup->cs.Pairwise (fun a b=>aQ b a=false)->(∀x,x∈cs↔bV (bI qs) z x)->(∀x∈cs,x∈ls)->Q (.ref r) H'
def BS(qs:List (Addr×List V))(ls:List Str)(z:Str)(l fo:Addr)(H:Hp)(m:Nat)(σ:St)(H':Hp):Prop:=∃(n:Nat) (F:List Str) (o4 o5:Option V),σ=[some (.str z),some (.ref l),some (.ref fo),some (.int n),o4,o5]/\af H H'/\H' fo=some (.lst (F.map V.str))/\z∈F/\F.Nodup/\(∀x∈F,x∈ls/\bV (bI qs) z x)/\n<=F.length/\(∀j,j<n->∀x,F[j]? =some x->∀y,(bI qs x y\/bI qs y x)->y∈F)/\m=ls.length-n
theorem lg(T:Txt K mg):Cal P w K mg base 1 "_law_one_with" ["_law_layer","_law_sayings"] A5:=by
 refine T.d_law_one_with.cal bB (fun vs H Q E h=>?_) (fun f cdv A outer s H vs Q E hr h=>?_)
 ·obtain⟨z,l,ls,qs,rfl,_⟩:=h;rfl
 ·obtain⟨z,l,ls,qs,rfl,hl,hsa,hz,hll,kk⟩:=h;have qm:(qs.map fun q=>V.ref q.1).length=qs.length:=Z6 _;refine⟨_,(QSs.h (ah (ba 2 bB.nd rfl Z0 Z1 rfl (dZ (paE rfl (vn 0 rfl Z0 rfl rfl) aj)))
   (ah (ba 3 bB.nd rfl Z0 Z1 rfl ao)
   (ah (wH PassesOwn.never (cc qD rfl (vn 3 rfl Z0 rfl rfl) (cbE (dL (K:=K) rfl) rfl T.b_len PySem.boot_len rfl rfl rfl (paE rfl (vn 2 rfl Z0 rfl rfl) aj)))
   (ah (dm PassesOwn.never rfl rfl (cW (K:=K) rfl (vn 1 rfl Z0 rfl rfl)) (au 4 bB.nd rfl Z0 Z1)
    (am (ifS (wT (mX (cc dh rfl (gK (K:=K) rfl (fun _ _=>rfl) (vn 4 rfl Z0 rfl rfl) ao) dI) (kn (cc (qE (K:=K) rfl) rfl (cA (K:=K) rfl (fun _ _=>rfl) (vn 2 rfl Z0 rfl rfl) (vn 3 rfl Z0 rfl rfl)) (BR (K:=K) rfl (vn 4 rfl Z0 rfl rfl) (fC ao) noO)))))
     (am (dm PassesOwn.never rfl rfl (cW (K:=K) rfl (BR (K:=K) rfl (vn 4 rfl Z0 rfl rfl) (fC ao) noO)) (au 5 bB.nd rfl Z0 Z1)
      (am (ifS (cc (yr (K:=K) rfl) rfl (vn 5 rfl Z0 rfl rfl) (vn 2 rfl Z0 rfl rfl))
       (am (cu rfl (bmE (K:=K) rfl plainAttrs_list PySem.F.slot_list_append PySem.F.type_list_append bv rfl rfl rfl rfl (vn 2 rfl Z0 rfl rfl) (paE rfl (vn 5 rfl Z0 rfl rfl) aj))))
       bu))))
     bu)))
    (am (ba 3 bB.nd rfl Z0 Z1 rfl (opE cf (vn 3 rfl Z0 rfl rfl) ao)))))
   (am (bg (cbE (gw (K:=K) rfl) rfl T.b_sorted boot_sorted rfl rfl rfl (paE rfl (vn 2 rfl Z0 rfl rfl) aj)))))))),?_⟩
  show bL _ _ _ [some (.str z),some (.ref l),none,none,none,none] H;refine ak fun D1 k1 _=>?_
  walk_at "rd";refine⟨(show 1<=sizeLine by decide),fun fo ffo=>k1 _ _ (ak fun D2 k2 _=>?_)⟩;have s1:=af.upd (o:= .lst [V.str z]) ffo;have gfo:upd H fo (.lst [V.str z]) fo=some (.lst ([z].map V.str)):=aa
  generalize upd H fo (.lst [V.str z])=H1 at s1 gfo
  walk_at "rd";refine k2 _ _ (ak fun D3 k3 _=>?_);refine⟨BS qs ls z l fo H,⟨_,0,[z],none,none,rfl,s1,gfo,mem_singleton.mpr rfl,by simp,fun x hx=>?_,X7 _,fun j hj=>(Yx _ hj).elim,rfl⟩,?_⟩
  ·rw[Xh hx];exact⟨hz,.refl _⟩
  rintro m σ H2 ⟨n,F,o4,o5,rfl,sm,hF,zF,nd,hFc,hn,hcl,rfl⟩;have fm:(F.map V.str).length=F.length:=Z6 _;have Fl:F.length<=ls.length:=STab.nodup_sub nd fun x hx=>(hFc x hx).1
  walk_at "rd";refine⟨F.length,.inl ⟨_,SqL.of hF,fm.symm⟩,bZ (fun h=>?_) fun h=>?_⟩
  ·have h:n<F.length:=by have:=Zo h;lia
   refine⟨fun σ' H'=>∃m',m'<ls.length-n/\BS qs ls z l fo H m' σ' H',fun _ _ h=>h,?_⟩;obtain⟨x0,hx0⟩:∃x0,F[n]? =some x0:=⟨_,Z4 h⟩
   have c0:=hFc x0 (Z8 hx0);refine aD fun D4 k4 _=>ay fun Kont hK=>?_
   walk_at "rd";refine .inl ⟨⟨_,SqL.of (sm _ _ hl)⟩,hK _ _ (bQ (xs:=qs.map fun q=>V.ref q.1) (fun i σ H'=>∃(G:List Str) (o4 o5:Option V),σ=[some (.str z),some (.ref l),some (.ref fo),some (.int n),o4,o5]/\af H H'/\H' fo=some (.lst ((F++G).map V.str))/\(F++G).Nodup/\(∀x∈F++G,x∈ls/\bV (bI qs) z x)/\∀y,(bI (qs.take i) x0 y\/bI (qs.take i) y x0)->y∈F++G)
    ⟨[],_,_,rfl,sm,by rw[Zz];exact hF,by rw[Zz];exact nd,by rw[Zz];exact hFc,fun y hy=>by rcases hy with⟨q,hq,_⟩|⟨q,hq,_⟩<;> exact(nomatch hq)⟩ (fun i σ H' _ ⟨_,_,_,_,s,_⟩=>SqL.of (s _ _ hl)) ?_ ?_)⟩
   ·rintro i x σ H3 hx ⟨G,o4,o5,rfl,sm3,hG,ndG,hGc,hdn⟩;rw[Zl]at hx;obtain⟨q,hq,rfl⟩:=map_eq_some_iff.mp hx;obtain⟨q1,q2⟩:=hsa q (Z8 hq);have st:=sm3 _ _ q1;have stp:=ld hq;have qin:=Z8 hq;show jH _ _ _ _ [some (.str z),some (.ref l),some (.ref fo),some (.int n),some (.ref q.1),o5] H3;refine aD fun D5 k5 _=>?_
    walk_at "rd";rcases q2 with⟨wd,a,b,e,hw,ha,hb,_⟩|⟨wd,a,y,e,hw,_⟩
    ·rw[e]at st stp;refine⟨_,SqT.of st,_,rfl,rfl,bZ (fun h1=>?_) fun h1=>?_⟩
     ·have h1:wd=Str.ofString "same":=by simpa using h1
      rw[h1]at stp;have aF:atI ((F++G).map V.str) (n:Int)=some (.str x0):=cF (by rw[Zl,Y6 h,hx0];rfl);refine⟨_,SqL.of hG,_,aF,_,SqT.of st,(by show ¬ (1=0/\3=3);decide),fun p hp=>?_⟩;rw[show fN [V.str wd,V.str a,V.str b] (some 1) none=[a,b].map V.str from rfl];have s4:=af.upd (o:= .tup ([a,b].map V.str)) hp;have gp:upd H3 p (.tup ([a,b].map V.str)) p=_:=aa
      generalize upd H3 p (.tup ([a,b].map V.str))=H4 at s4 gp ⊢
      have hG:=s4 _ _ hG;have sm4:=sm3.trans s4;have sab:bI qs a b:=⟨q,qin,by rw[e,h1]⟩
      refine⟨_,.inr (SqT.of gp),rfl,jm _,?_⟩;rw[nN];refine bZ (fun h2=>?_) fun h2=>?_
      ·have h2:x0∈[a,b]:=Zo h2;have cab:bV (bI qs) z a/\bV (bI qs) z b:=by
        rcases mem_cons.mp h2 with e0|e0
        ·rw[e0]at c0;exact⟨c0.2,.step c0.2 (.inl sab)⟩
        ·rw[Xh e0]at c0;exact⟨.step c0.2 (.inr sab),c0.2⟩
       refine ay fun Kont hK=>?_
       walk_at "rd";refine⟨_,SqT.of (s4 _ _ st),(by show ¬ (1=0/\3=3);decide),fun p2 hp2=> .inr ⟨⟨_,SqT.of aa⟩,hK _ _ ?_⟩⟩;rw[show fN [V.str wd,V.str a,V.str b] (some 1) none=[a,b].map V.str from rfl];have s5:=af.upd (o:= .tup ([a,b].map V.str)) hp2;have gp2:upd H4 p2 (.tup ([a,b].map V.str)) p2=_:=aa
       generalize upd H4 p2 (.tup ([a,b].map V.str))=H5 at s5 gp2 ⊢
       have hG:=s5 _ _ hG;have n2:p2≠fo:=fun e=>by rw[e,hG]at gp2;cases gp2
       refine xG (xs:=[a,b].map V.str) (fun k σ H'=>∃(G':List Str) (o5:Option V),σ=[some (.str z),some (.ref l),some (.ref fo),some (.int n),some (.ref q.1),o5]/\af H H'/\H' p2=some (.tup ([a,b].map V.str))/\H' fo=some (.lst ((F++G').map V.str))/\(F++G').Nodup/\(∀x∈F++G',x∈ls/\bV (bI qs) z x)/\(∀y∈F++G,y∈F++G')/\∀y∈[a,b].take k,y∈F++G')
        ⟨G,_,rfl,sm4.trans s5,gp2,hG,ndG,hGc,fun y hy=>hy,fun y hy=>(nomatch hy)⟩ (fun k σ H' _ ⟨_,_,_,_,g,_⟩=>SqT.of g) ?_ ?_
       ·rintro k x σ H6 hx ⟨G',o5,rfl,sm6,g6,hG6,nd6,hc6,hup,htk⟩;rw[Zl]at hx;obtain⟨c,hc,rfl⟩:=map_eq_some_iff.mp hx;have hcm:=Z8 hc;have hcc:c∈ls/\bV (bI qs) z c:=by
         rcases mem_cons.mp hcm with e0|e0
         ·rw[e0];exact⟨ha,cab.1⟩
         ·rw[Xh e0];exact⟨hb,cab.2⟩
        have l6:(F++G').length<=ls.length:=STab.nodup_sub nd6 fun x hx=>(hc6 x hx).1
        show jH _ _ _ _ [some (.str z),some (.ref l),some (.ref fo),some (.int n),some (.ref q.1),some (.str c)] H6;refine aD fun D6 k6 _=>?_
        walk_at "rd";refine⟨_,.inl (SqL.of hG6),rfl,jm _,?_⟩;rw[nN];refine bZ (fun h3=>?_) fun h3=>?_
        ·have h3:c∉F++G':=by simpa using h3
         refine⟨.inl ⟨_,SqL.of hG6⟩,_,hG6,by rw[Z6];exact aU (by lia),k6 _ _ ⟨G'++[c],_,rfl,af.set sm6 ffo,(ai n2).trans g6,by rw[aa,<-Ze,Zd (l₂:=[c])];rfl,?_,?_,?_,?_⟩⟩
         ·rw[<-Ze,Yv];exact⟨nd6,by simp,fun x hx y hy e=>h3 (by rw[Xh hy]at e;rw[<-e];exact hx)⟩
         ·intro x hx;rw[<-Ze]at hx;rcases Xg hx with e0|e0
          ·exact hc6 x e0
          ·rw[Xh e0];exact hcc
         ·intro y hy;rw[<-Ze];exact Yo _ (hup y hy)
         ·intro y hy;rw[X2,hc]at hy;rw[<-Ze];rcases Xg hy with e0|e0
          ·exact Yo _ (htk y e0)
          ·exact Yp _ e0
        ·have h3:c∈F++G':=Decidable.byContradiction fun q=>h3 (by rw[Zh q];rfl)
         refine k6 _ _ ⟨G',_,rfl,sm6,g6,hG6,nd6,hc6,hup,fun y hy=>?_⟩;rw[X2,hc]at hy;rcases Xg hy with e0|e0
         ·exact htk y e0
         ·rw[show y=c from Xh e0];exact h3
       ·rintro σ H6 ⟨G',o5,rfl,sm6,g6,hG6,nd6,hc6,hup,htk⟩;have htk:∀y∈[a,b],y∈F++G':=htk;refine k5 _ _ ⟨G',_,_,rfl,sm6,hG6,nd6,hc6,fun y hy=>?_⟩;rw[stp,stp]at hy;rcases hy with(e0|e0)|(e0|e0)
        ·exact hup y (hdn y (.inl e0))
        ·simp only[List.cons.injEq,V.str.injEq,and_true,true_and]at e0;rw[<-e0.2];exact htk b (by simp)
        ·exact hup y (hdn y (.inr e0))
        ·simp only[List.cons.injEq,V.str.injEq,and_true,true_and]at e0;rw[<-e0.1];exact htk a (by simp)
      ·have h2:x0∉[a,b]:=fun q=>h2 (Zf q)
       refine k5 _ _ ⟨G,_,_,rfl,sm4,hG,ndG,hGc,fun y hy=>hdn y ?_⟩;rw[stp,stp]at hy;refine hy.imp (fun e0=>e0.resolve_right fun e0=>h2 ?_) (fun e0=>e0.resolve_right fun e0=>h2 ?_)
       ·simp only[List.cons.injEq,V.str.injEq,and_true,true_and]at e0;rw[<-e0.1];simp
       ·simp only[List.cons.injEq,V.str.injEq,and_true,true_and]at e0;rw[<-e0.2];simp
     ·have h1:wd≠Str.ofString "same":=by simpa using h1
      refine k5 _ _ ⟨G,_,_,rfl,sm3,hG,ndG,hGc,fun y hy=>hdn y ?_⟩;rw[stp,stp]at hy;have no:∀c d:Str,¬ [V.str wd,V.str a,V.str b]=[.str "same",.str c,.str d]:=fun c d e=>by
       simp only[List.cons.injEq,V.str.injEq]at e;exact h1 e.1
      exact hy.imp (fun e=>e.resolve_right (no _ _)) (fun e=>e.resolve_right (no _ _))
    ·rw[e]at st stp;refine⟨_,SqT.of st,_,rfl,rfl,?_⟩;rw[if_neg (by rcases hw with rfl|rfl<;> decide)];refine k5 _ _ ⟨G,_,_,rfl,sm3,hG,ndG,hGc,fun y' hy=>hdn y' ?_⟩;rw[stp,stp]at hy;have no:∀c d:Str,¬ [V.str wd,V.str a,V.int y]=[.str "same",.str c,.str d]:=fun c d e=>by simp at e
     exact hy.imp (fun e=>e.resolve_right (no _ _)) (fun e=>e.resolve_right (no _ _))
   ·rintro σ H3 ⟨G,o4,o5,rfl,sm3,hG,ndG,hGc,hdn⟩;rw[qm,Zn (Zi _)]at hdn;refine k4 _ _ ?_;walk_at "rd";refine⟨ls.length-(n+1),by lia,n+1,F++G,o4,o5,rfl,sm3,hG,Yo _ zF,ndG,hGc,by rw[Z9];lia,fun j hj x hx y hy=>?_,rfl⟩;by_cases hjn:j<n
    ·rw[Y6 (by lia)]at hx;exact Yo _ (hcl j hjn x hx y hy)
    ·have:j=n:=by lia
     rw[this,Y6 h,hx0]at hx;rw[<-Za hx]at hy;exact hdn y hy
  ·have h:n=F.length:=by
    have: ¬ (n:Int)<F.length:=fun q=>h (Zf q)
    lia
   refine k3 _ _ ?_;walk_at "rd";refine⟨F,SqL.of hF,by lia,fun r cs fr pm so=>kk r _ cs (sm.trans (af.upd fr)) (sm.free fr) aa (pm.nodup_iff.mpr nd) so (fun x=>?_) fun x hx=>(hFc x (pm.mem_iff.mp hx)).1⟩;rw[pm.mem_iff];refine⟨fun hx=>(hFc x hx).2,fun c=>?_⟩;clear kk
   induction c with
   | refl=>exact zF
   | step c s ih=>
     obtain⟨j,hj⟩:=List.mem_iff_getElem?.mp ih;exact hcl j (by rw[h];exact(Xf hj).1) _ hj _ s
theorem xk:∀F:List Str,F≠[]->∃m∈F,∀y∈F,aQ y m=false
 |[],h=>(h rfl).elim
 |[x],_=>⟨x,by simp,fun y hy=>by rw[Xh hy];exact d8 x⟩
 | x::y::F,_=>by
   obtain⟨m,hm,hl⟩:=xk (y::F) (by simp);cases e:aQ x m with
   | false=>
     refine⟨m,Zk _ hm,fun z hz=>?_⟩;rcases mem_cons.mp hz with q|q
     ·rw[q];exact e
     ·exact hl z q
   | true=>
     refine⟨x,Zm,fun z hz=>?_⟩;rcases mem_cons.mp hz with q|q
     ·rw[q];exact d8 x
     ·cases e2:aQ z x with
      | false=>rfl
      | true=>have:=eO e2 e;rw[hl z q]at this;cases this
open Classical in
theorem xn{S:Str->Str->Prop}{ls:List Str}(ws:∀a b,S a b->a∈ls/\b∈ls){z:Str}(hz:z∈ls):∃m∈ls,c6 S z m:=by
 obtain⟨m,hm,hl⟩:=xk (ls.filter fun x=>decide (bV S z x)) (List.ne_nil_of_mem (List.mem_filter.mpr ⟨hz,Zf (.refl z)⟩));have:=List.mem_filter.mp hm;exact⟨m,this.1,Zo this.2,fun y c=>hl y (List.mem_filter.mpr ⟨c.within ws hz,Zf c⟩)⟩
theorem uJ{S:Str->Str->Prop}{ls:List Str}(ws:∀a b,S a b->a∈ls/\b∈ls):∃r:Str->Str,∀z∈ls,r z∈ls/\c6 S z (r z):=by
 have:∀z,∃m,z∈ls->m∈ls/\c6 S z m:=fun z=>by
  by_cases h:z∈ls
  ·obtain⟨m,h1,h2⟩:=xn ws h;exact⟨m,fun _=>⟨h1,h2⟩⟩
  ·exact⟨z,fun q=>(h q).elim⟩
 exact Classical.axiomOfChoice this
theorem rO{S:Str->Str->Prop}{z x m:Str}(h:c6 S z m)(c:bV S z x):c6 S x m:=⟨c.symm.trans h.1,fun y d=>h.2 y (c.trans d)⟩
theorem pS{H:Hp}{ls:List Str}{qs:List (Addr×List V)}(h:ci H ls qs)(a b:Str)(s:bI qs a b):a∈ls/\b∈ls:=by
 obtain⟨q,hq,e⟩:=s;rcases(h q hq).2 with⟨wd,x,y,e2,_,hx,hy,_⟩|⟨wd,x,y,e2,_⟩
 ·rw[e2]at e;simp only[List.cons.injEq,V.str.injEq,and_true]at e;rw[<-e.2.1,<-e.2.2];exact⟨hx,hy⟩
 ·rw[e2]at e;simp at e
theorem xo{S:Str->Str->Prop}{ls cs:List Str}{r:Str->Str}(ws:∀a b,S a b->a∈ls/\b∈ls)(nd:ls.Nodup)(so:ls.Pairwise (fun a b=>aQ b a=false))(hr:∀z∈ls,r z∈ls/\c6 S z (r z)){z:Str}(hz:z∈ls)(cn:cs.Nodup)(cso:cs.Pairwise (fun a b=>aQ b a=false))(hc:∀x,x∈cs↔bV S z x):cs=ls.filter (fun x=>decide (r x=r z)):=by
 refine dP aQ (fun _ _ a b=>cp a b) cso (so.sublist List.filter_sublist) cn (nd.filter _) fun x=>?_
 rw[hc,List.mem_filter]
 constructor
 ·intro c;have hx:=c.within ws hz;exact⟨hx,Zf ((hr x hx).2.one (rO (hr z hz).2 c))⟩
 ·rintro⟨hx,e⟩;have e:=Zo e;have:=(hr x hx).2.1;rw[e]at this;exact(hr z hz).2.1.trans this.symm
theorem rP{S:Str->Str->Prop}{cs:List Str}{z m:Str}(cso:cs.Pairwise (fun a b=>aQ b a=false))(hc:∀x,x∈cs↔bV S z x)(h:c6 S z m):cs[0]? =some m:=by
 have hm:=(hc m).mpr h.1;cases cs with
 | nil=>cases hm
 | cons x cs=>
   rw[List.getElem?_cons_zero];rcases mem_cons.mp hm with e|e
   ·rw[e]
   ·have h1:=(pairwise_cons.mp cso).1 m e;have h2:=h.2 x ((hc x).mp Zm);by_cases q:x=m
    ·rw[q]
    ·have:=cp h2 q;rw[h1]at this;cases this
def xp:Sp:=fun vs H Q _=>∃(l m:Addr) (ns ls:List Str) (qs:List (Addr×List V)),vs=[.ref l,.ref m]/\H l=some (.lst (ns.map V.str))/\H m=some (.lst (qs.map fun q=>V.ref q.1))/\ci H ls qs/\ns.length<=900/\ns.Nodup/\ls.Nodup/\ls.Pairwise (fun a b=>aQ b a=false)/\(∀x,x∈ls↔x∈ns)/\
 ∀r H' (ss:List (Addr×List Str)),af H H'->H r=none->H' r=some (.lst (ss.map fun t=>V.ref t.1))->bP H' ss->fH (bI qs) ls (ss.map (·.2))->Q (.ref r) H'
theorem mG(T:Txt K mg):Cal P w K mg base 2 "_law_due" ["_law_layers","_law_sayings"] xp:=by
 refine T.d_law_due.cal fk (fun vs H Q E h=>?_) (fun f cdv A outer s H vs Q E hr h=>?_)
 ·obtain⟨l,m,ns,ls,qs,rfl,_⟩:=h;rfl
 ·obtain⟨l,m,ns,ls,qs,rfl,hl,hm,hsa,hnl,nn,nd,so,hnm,kk⟩:=h;have lm:(ls.map V.str).length=ls.length:=Z6 _;have ws:=pS hsa;obtain⟨r,rr⟩:=uJ ws;have lle:ls.length<=900:=Yd (STab.nodup_sub nd fun x hx=>(hnm x).mp hx) hnl;refine⟨_,(QSs.h (ah (ba 2 fk.nd rfl Z0 Z1 rfl (dZ aj))
   (ah (dm PassesOwn.never rfl rfl (cW (K:=K) rfl (cbE (gw (K:=K) rfl) rfl T.b_sorted boot_sorted rfl rfl rfl (paE rfl (vn 0 rfl Z0 rfl rfl) aj))) (au 3 fk.nd rfl Z0 Z1)
   (ah (ba 4 fk.nd rfl Z0 Z1 rfl (aO (lg T) hr rfl rfl rfl rfl (paE rfl (vn 3 rfl Z0 rfl rfl) (paE rfl (vn 1 rfl Z0 rfl rfl) aj))))
    (am (ifS (cc dh rfl (cA (K:=K) rfl (fun _ _=>rfl) (vn 4 rfl Z0 rfl rfl) ao) (vn 3 rfl Z0 rfl rfl))
    (am (cu rfl (bmE (K:=K) rfl plainAttrs_list PySem.F.slot_list_append PySem.F.type_list_append bv rfl rfl rfl rfl (vn 2 rfl Z0 rfl rfl) (paE rfl (vn 4 rfl Z0 rfl rfl) aj))))
    bu))))
   (am (bg (vn 2 rfl Z0 rfl rfl)))))),?_⟩
  show bL _ _ _ [some (.ref l),some (.ref m),none,none,none] H;refine ak fun D1 k1 _=>?_
  walk_at "rd";refine⟨(show 0<=sizeLine by decide),fun fo ffo=>k1 _ _ (ak fun D2 k2 _=>ay fun Kont hK=>?_)⟩;have s1:=af.upd (o:= .lst []) ffo;have gfo:upd H fo (.lst []) fo=_:=aa
  generalize upd H fo (.lst [])=H1 at s1 gfo
  walk_at "rd";refine⟨ns,SqL.of (s1 _ _ hl),by lia,fun l1 ms fl1 pm mso=> .inl ⟨⟨_,SqL.of aa⟩,hK _ _ ?_⟩⟩;obtain rfl:ms=ls:=dP aQ (fun _ _ a b=>cp a b) mso so (pm.nodup_iff.mpr nn) nd fun x=>by rw[pm.mem_iff,hnm]
  have s2:=af.upd (o:= .lst (ms.map V.str)) fl1;have gl1:upd H1 l1 (.lst (ms.map V.str)) l1=_:=aa;have n1:l1≠fo:=fun e=>by rw[e,gfo]at fl1;cases fl1
  have gfo:=s2 _ _ gfo;have s02:=s1.trans s2
  generalize upd H1 l1 (.lst (ms.map V.str))=H2 at s2 gl1 gfo s02
  refine bQ (xs:=ms.map V.str) (fun i σ H'=>(∃o3 o4,σ=[some (.ref l),some (.ref m),some (.ref fo),o3,o4])/\af H H'/\H' l1=some (.lst (ms.map V.str))/\∃ss:List (Addr×List Str),H' fo=some (.lst (ss.map fun t=>V.ref t.1))/\bP H' ss/\(∀q∈ss,q.1≠fo)/\ss.map (·.2)=((ms.take i).filter fun z=>decide (r z=z)).map fun z=>ms.filter fun x=>decide (r x=z))
   ⟨⟨_,_,rfl⟩,s02,gl1,[],gfo,fun g hg=>(nomatch hg),fun g hg=>(nomatch hg),rfl⟩ (fun i σ H' _ h=>SqL.of h.2.2.1) ?_ ?_
  ·rintro i x σ H' hx ⟨⟨o3,o4,rfl⟩,sm,hl1,ss,hfo,hls,hnf,hss⟩;rw[Zl]at hx;obtain⟨z,hz,rfl⟩:=map_eq_some_iff.mp hx;have zm:=Z8 hz;have i1:i<ms.length:=(Xf hz).1;show bL _ _ _ [some (.ref l),some (.ref m),some (.ref fo),some (.str z),o4] H';refine ak fun D3 k3 _=>?_
   walk_at "rd";refine⟨z,m,ms,qs,rfl,sm _ _ hm,hsa.up sm,zm,lle,fun c H3 cs s3 fc hc cn cso hcc hcl=>k3 _ _ ?_⟩;refine aD fun D4 k4 _=>?_
   walk_at "rd";have hd:=rP cso hcc (rr z zm).2;have oc:=xo ws nd so rr zm cn cso hcc;have tk:ms.take (i+1)=ms.take i++[z]:=by rw[X2,hz];rfl
   have sl:ss.length<=ms.length:=by
    have:=congrArg List.length hss;rw[Z6,Z6]at this;rw[this];exact Yd (Yf _ _) (by rw[Yh];lia)
   refine⟨_,SqL.of hc,_,(show atI (cs.map V.str) ((0:Nat):Int)=some (.str (r z))from cF (by rw[Zl,hd];rfl)),rfl,bZ (fun h=>?_) fun h=>?_⟩
   ·have h:r z=z:=by simpa using h
    have ko:=s3 _ _ hfo;have nfo:∀q∈ss++[(c,cs)],q.1≠fo/\H3 q.1=some (.lst (q.2.map V.str)):=fun q hq=>by
     rcases Xg hq with q1|q1
     ·exact⟨hnf q q1,s3 _ _ (hls q q1)⟩
     ·rw[Xh q1];exact⟨(fun e=>by rw[show c=fo from e,hfo]at fc;cases fc),hc⟩
    refine⟨.inl ⟨_,SqL.of ko⟩,_,ko,by rw[Z6];exact aU (by lia),k4 _ _ ⟨⟨_,_,rfl⟩,af.set (sm.trans s3) ffo,(ai n1).trans (s3 _ _ hl1),ss++[(c,cs)],by rw[aa,Zd];rfl,fun q hq=>?_,fun q hq=>(nfo q hq).1,?_⟩⟩
    ·rw[ai (nfo q hq).1];exact(nfo q hq).2
    ·rw[Zd,hss,tk,Y3,filter_cons_of_pos (by simpa using h),filter_nil,Zd,oc,h];rfl
   ·have h:r z≠z:=by simpa using h
    refine k4 _ _ ⟨⟨_,_,rfl⟩,sm.trans s3,s3 _ _ hl1,ss,s3 _ _ hfo,hls.up s3,hnf,?_⟩;rw[hss,tk,Y3,filter_cons_of_neg (by simpa using h),filter_nil,Zz]
  ·rintro σ H' ⟨⟨o3,o4,rfl⟩,sm,hl1,ss,hfo,hls,hnf,hss⟩;rw[lm,Zn (Zi _)]at hss;refine k2 _ _ ?_;walk_at "rd";refine kk fo H' ss sm ffo hfo hls ⟨r,rr,?_⟩;rw[hss];unfold grp;rw[Yn];rfl
theorem pT{K:PySem.W.Frag}{H:Hp}:∀ts:List Str,bx K H (ts.map D.str) (ts.map V.str)
 |[]=>by simp only[map_nil,bx]
 | t::ts=>by
   simp only[Ym,bx];refine⟨_,_,rfl,?_,pT ts⟩;simp only[Has]
theorem pU:∀ts:List Str,D.deps (ts.map D.str)<=0
 |[]=>by simp only[map_nil,D.deps];lia
 | t::ts=>by
   simp only[Ym,D.deps,D.dep];have:=pU ts
   lia
noncomputable def lh(ks:List (List Str)):List D:=ks.map fun k=> .lst (k.map D.str)
theorem pV{K:PySem.W.Frag}{H:Hp}:∀{ts:List (Addr×List Str)},bP H ts->bx K H (lh (ts.map (·.2))) (ts.map fun t=>V.ref t.1)
 |[],_=>by simp only[lh,map_nil,bx]
 | t::ts,h=>by
   simp only[lh,Ym,bx];refine⟨_,_,rfl,?_,pV fun q hq=>h q (Zk _ hq)⟩;simp only[Has];exact⟨t.1,_,rfl,SqL.of (h t Zm),pT _⟩
theorem pW:∀ks:List (List Str),D.deps (lh ks)<=1
 |[]=>by simp only[lh,map_nil,D.deps];lia
 | k::ks=>by
   have h1:=pW ks;have h2:=pU k;unfold lh at h1 ⊢;simp only[Ym,D.deps,D.dep]
   lia
theorem pX{K:PySem.W.Frag}{H:Hp}{a:Addr}{ts:List (Addr×List Str)}(h:H a=some (.lst (ts.map fun t=>V.ref t.1)))(ta:bP H ts):Has K H (.lst (lh (ts.map (·.2)))) (.ref a):=by
 simp only[Has];exact⟨a,_,rfl,SqL.of h,pV ta⟩
def iS:Sp:=fun vs H Q _=>∃(a b:Addr) (ts ss:List (Addr×List Str)),vs=[.ref a,.ref b]/\H a=some (.lst (ts.map fun t=>V.ref t.1))/\H b=some (.lst (ss.map fun t=>V.ref t.1))/\bP H ts/\bP H ss/\ts.map (·.2)=ss.map (·.2)/\ts.length<=5000/\(∀t∈ts,t.2.length<=5000)/\∀H',af H H'->Q (.bl true) H'
theorem bK(T:Txt K mg):Cal P w K mg base 1 "_law_right" ["_law_found","_law_due_here"] iS:=by
 refine T.d_law_right.cal nH (fun vs H Q E h=>?_) (fun f cdv A outer s H vs Q E hr h=>?_)
 ·obtain⟨a,b,ts,ss,rfl,_⟩:=h;rfl
 ·obtain⟨a,b,ts,ss,rfl,ha,hb,hta,htb,heq,htl,ht3,kk⟩:=h;have la:(ts.map fun t=>V.ref t.1).length=ts.length:=Z6 _;refine⟨_,(QSs.h (ah (ifS (wT (orW (gJ (et (K:=K) rfl (fun _=>rfl) (cbE (fE (K:=K) rfl) rfl T.b_isinstance boot_isinstance rfl rfl rfl (paE rfl (vn 0 rfl Z0 rfl rfl) (paE rfl (blE (v:= .ty "list") rfl T.b_list boot_list rfl rfl rfl) aj))))) (mW (cc (BG (K:=K) rfl hr) rfl (vn 0 rfl Z0 rfl rfl) (vn 1 rfl Z0 rfl rfl)))))
   (am (bg eBl))
   bu)
   (am (bg (cbE (oH (K:=K) rfl rfl) rfl T.b_all boot_all rfl rfl rfl (paE rfl (eI (ax.of (show bU (ag ei) ["_law_found","_law_due_here"] _ ["_law_some"] []=true from by decide +kernel)) rfl rfl (cW (K:=K) rfl (vn 0 rfl Z0 rfl rfl)) (fun _ _ _=>(au 0 (show(["_law_some"]:List Str).Nodup from by decide +kernel) rfl Z0 Z1)) (fun _ _ _=>i4) (fun _ _ _=>(jM (cbE (fE (K:=K) rfl) rfl T.b_isinstance boot_isinstance rfl rfl rfl (paE rfl (vn 0 rfl Z0 rfl rfl) (paE rfl (blE (v:= .ty "list") rfl T.b_list boot_list rfl rfl rfl) aj))) (km (cbE (oH (K:=K) rfl rfl) rfl T.b_all boot_all rfl rfl rfl (paE rfl (eI (ax.of (show bU _ ["_law_some"] _ ["_law_one"] []=true from rfl)) rfl rfl (cW (K:=K) rfl (vn 0 rfl Z0 rfl rfl)) (fun _ _ _=>(au 0 (show(["_law_one"]:List Str).Nodup from by decide +kernel) rfl Z0 Z1)) (fun _ _ _=>i4) (fun _ _ _=>(cbE (fE (K:=K) rfl) rfl T.b_isinstance boot_isinstance rfl rfl rfl (paE rfl (vn 0 rfl Z0 rfl rfl) (paE rfl (blE (v:= .ty "str") rfl T.b_str boot_str rfl rfl rfl) aj))))) aj)))))) aj)))))),?_⟩
  show bL _ _ _ [some (.ref a),some (.ref b)] H;refine ak fun D1 k1 _=>?_
  walk_at "rd";refine⟨.type "list",.lst ha,true,by rfl,?_⟩;rw[if_neg (by decide)];have h2:=pX (K:=K) hb htb;rw[<-heq]at h2;refine .inl ⟨_,pX ha hta,_,h2,by have:=pW (ts.map (·.2));lia,?_⟩;rw[D.beqs_refl,if_neg (by decide)];refine k1 _ _ ?_;walk_at "rd";refine aL fun Kont hK=>?_
  walk_at "rd";refine .inl ⟨⟨_,SqL.of ha⟩,hK _ _ fun F hF=>?_⟩;refine bG (J:=Itl K a) (n:=ts.length) (D:=F) (fun j vs σ H'=>(∃o1,σ=[o1])/\af H H'/\H' F=some (.lst vs)/\vs=(List.replicate j true).map V.bl)
   ⟨⟨none,rfl⟩,af.upd hF,aa,rfl⟩ (fun j _ _ H' hj ⟨_,sm,_⟩=>⟨_,V.ref ts[j].1,SqL.of (sm _ _ ha),by simp[hj]⟩) (fun _ _ H' ⟨_,sm,_⟩=>⟨_,SqL.of (sm _ _ ha),by simp⟩) ?_ ?_
  ·rintro j vs σ H3 hj ⟨⟨o1,rfl⟩,s3,hFv,hv⟩ x H4 ⟨e2,hx⟩;subst e2;have hxi:=hx _ (SqL.of (s3 _ _ ha));rw[Zl,Z4 hj]at hxi;obtain rfl:x=V.ref ts[j].1:=(Za hxi).symm;have tj:=Ya hj;have st:=s3 _ _ (hta _ tj);walk_at "rd";refine⟨.type "list",.lst st,true,by rfl,?_⟩;rw[if_pos rfl];refine aL fun Kont hK=>?_
   walk_at "rd";refine .inl ⟨⟨_,SqL.of st⟩,hK _ _ fun G hG=>?_⟩;have hl3:=ht3 _ tj;refine bG (J:=Itl K ts[j].1) (n:=ts[j].2.length) (D:=G) (fun k us σ H'=>(∃o1,σ=[o1])/\af H4 H'/\H' G=some (.lst us)/\us=(List.replicate k true).map V.bl)
    ⟨⟨none,rfl⟩,af.upd hG,aa,rfl⟩ (fun k _ _ H' hk ⟨_,sm,_⟩=>⟨_,V.str ts[j].2[k],SqL.of (sm _ _ st),by simp[hk]⟩) (fun _ _ H' ⟨_,sm,_⟩=>⟨_,SqL.of (sm _ _ st),by simp⟩) ?_ ?_
   ·rintro k us σ H5 hk ⟨⟨o1,rfl⟩,s5,hGv,hu⟩ x H6 ⟨e2,hx⟩;subst e2;have hxi:=hx _ (SqL.of (s5 _ _ st));rw[Zl,Z4 hk]at hxi;obtain rfl:x=V.str ts[j].2[k]:=(Za hxi).symm;walk_at "rd";refine⟨.type "str",.str _,true,by rfl,?_⟩;refine CK.mk hk hGv (by rw[hu,Z6,List.length_replicate];exact aU (by lia)) ⟨⟨_,rfl⟩,af.set s5 hG,aa,?_⟩;rw[hu,List.replicate_succ',Zd];rfl
   rintro us σ H5 ⟨_,s5,hG5,hu⟩;refine⟨G,rfl,List.replicate ts[j].2.length true,by rw[<-hu];exact SqL.of hG5,?_⟩;rw[show(List.replicate ts[j].2.length true).all id=true by simp];refine CK.mk hj (s5 _ _ hFv) (by rw[hv,Z6,List.length_replicate];exact aU (by lia)) ⟨⟨_,rfl⟩,af.set (s3.trans s5) hF,aa,?_⟩;rw[hv,List.replicate_succ',Zd];rfl
  rintro vs σ H3 ⟨_,s3,hF3,hv⟩;refine⟨F,rfl,List.replicate ts.length true,by rw[<-hv];exact SqL.of hF3,?_⟩;rw[show(List.replicate ts.length true).all id=true by simp];exact kk H3 s3
theorem yZ{X:Cx}{K:PySem.W.Frag}{e:Expr}{lo hi:Option Expr}{te:TE}{tl th:TO}{p2 pos:Pos}(h:X.K=K)(he:QE X e te)(hl:QO X lo tl)(hu:QO X hi th):QE X (.Subscript e (.Slice lo hi none p2) pos) (tSl (x4 K) te tl th):=by subst h;exact⟨kf r0 he.h hl.h hu.h⟩
theorem j3(n:Str)(c:Nat):lnS n (sgn c)=cL n c:=by
 refine eW ?_;show(#[] ++n.cps++ #[46] ++ #[c]).toList=(n.cps.toList++[46,c]).toArray.toList;simp
theorem n9{p:Addr×Str×List Str}{x:Str}:x∈lyr p↔∃c,Let p.2.2 c/\x=cL p.2.1 c:=by
 unfold lyr;rw[mem_map]
 constructor
 ·rintro⟨z,hz,rfl⟩;obtain⟨c,hc,rfl⟩:=fz hz;exact⟨c,mz.mp hc,j3 _ _⟩
 ·rintro⟨c,hc,rfl⟩;exact⟨sgn c,dr.mpr (Xj ⟨c,mz.mpr hc,rfl⟩),j3 _ _⟩
theorem li{d:Drn}(h:jG d){x:Str}:x∈(fA d).map (·.1)↔∃c,Let d.rows c/\x=cL d.name c:=by
 unfold fA Drn.rows;rw[Yn,mem_map]
 constructor
 ·rintro⟨a,ha,rfl⟩;obtain⟨a0,a7,hc⟩:=dE.mp ha;exact⟨sg a d.sh,(pK h.2.2.2.2.2).mpr ⟨a,a0,a7,hc,rfl⟩,rfl⟩
 ·rintro⟨c,hc,rfl⟩;obtain⟨a,a0,a7,hcol,rfl⟩:=(pK h.2.2.2.2.2).mp hc;exact⟨a,dE.mpr ⟨a0,a7,hcol⟩,rfl⟩
theorem lj{α:Type}{f:α->List Str}{nm:α->Str}:∀{xs:List α},(xs.map nm).Nodup->(∀p∈xs,(f p).Nodup)->(∀p∈xs,∀x∈f p,∃c,x=cL (nm p) c)->(xs.flatMap f).Nodup
 |[],_,_,_=>nodup_nil
 | p::xs,h1,h2,h3=>by
   rw[Ym,nodup_cons]at h1;rw[List.flatMap_cons,Yv];refine⟨h2 p Zm,lj h1.2 (fun q hq=>h2 q (Zk _ hq)) (fun q hq=>h3 q (Zk _ hq)),fun a ha b hb e=>?_⟩;obtain⟨q,hq,hbq⟩:=mem_flatMap.mp hb;obtain⟨c,e1⟩:=h3 p Zm a ha;obtain⟨d,e2⟩:=h3 q (Zk _ hq) b hbq;have:=(jb (e1.symm.trans (e.trans e2))).1;exact h1.1 (Xj ⟨q,hq,this.symm⟩)
theorem uK(p:Addr×Str×List Str):(lyr p).Nodup:=by
 unfold lyr;rw[Yw,X1];refine X9 (fun{x y} hx hy hne he=>?_) (nodup_iff_pairwise_ne.mp (fW ((cj p.2.2).map sgn)));obtain⟨c,_,rfl⟩:=fz hx;obtain⟨d,_,rfl⟩:=fz hy;rw[j3,j3]at he;exact hne (by rw[(jb he).2])
theorem rQ(d:Drn):((fA d).map (·.1)).Nodup:=by
 unfold fA;rw[Yn,Yw,X1];refine X9 (fun{x y} hx hy hne he=>?_) (nodup_iff_pairwise_ne.mp (pL d.cols));obtain⟨x0,x7,_⟩:=dE.mp hx;obtain⟨y0,y7,_⟩:=dE.mp hy;exact hne (AV x0 x7 y0 y7 (jb he).2)
theorem mC.mono{ls ms:List Str}{xs:List V}(h:mC ls xs)(s:∀x∈ls,x∈ms):mC ms xs:=by
 rcases h with⟨w,a,b,e,h1,h2,h3,h4⟩|⟨w,a,y,e,h1,h2,h3⟩
 ·exact .inl ⟨w,a,b,e,h1,s _ h2,s _ h3,h4⟩
 ·exact .inr ⟨w,a,y,e,h1,s _ h2,h3⟩
theorem rR{cs:List (Addr×Str×List Str)}{ls:List Str}(h:ls.Perm (cs.flatMap lyr)){x:Str}:x∈ls↔∃p∈cs,∃c,Let p.2.2 c/\x=cL p.2.1 c:=by
 rw[h.mem_iff,mem_flatMap]
 constructor
 ·rintro⟨p,hp,hx⟩;exact⟨p,hp,n9.mp hx⟩
 ·rintro⟨p,hp,hx⟩;exact⟨p,hp,n9.mpr hx⟩
theorem uL{ds:List (Addr×Drn)}(h:∀p∈ds,jG p.2){x:Str}:x∈(ds.flatMap fun p=>(fA p.2).map (·.1))↔∃p∈dcs ds,∃c,Let p.2.2 c/\x=cL p.2.1 c:=by
 rw[mem_flatMap];unfold dcs
 constructor
 ·rintro⟨p,hp,hx⟩;exact⟨_,Xj ⟨p,hp,rfl⟩,(li (h p hp)).mp hx⟩
 ·rintro⟨q,hq,hx⟩;obtain⟨p,hp,rfl⟩:=Xi hq;exact⟨p,hp,(li (h p hp)).mpr hx⟩
theorem pY{ds:List (Addr×Drn)}(h:∀p∈ds,jG p.2)(hn:(ds.map fun p=>p.2.name).Nodup):(ds.flatMap fun p=>(fA p.2).map (·.1)).Nodup:=
 lj (nm:=fun p:Addr×Drn=>p.2.name) hn (fun p _=>rQ p.2) fun p hp x hx=>by
  obtain⟨c,_,e⟩:=(li (h p hp)).mp hx;exact⟨c,e⟩
theorem oa{cs:List (Addr×Str×List Str)}(hn:(cs.map fun p=>p.2.1).Nodup){ls:List Str}(h:ls.Perm (cs.flatMap lyr)):ls.Nodup:=by
 rw[h.nodup_iff];exact lj (nm:=fun p:Addr×Str×List Str=>p.2.1) hn (fun p _=>uK p) fun p hp x hx=>by
  obtain⟨c,_,e⟩:=n9.mp hx;exact⟨c,e⟩
structure jp (H:Hp) (l m:Addr) (cs:List (Addr×Str×List Str)) (qs:List (Addr×List V)):Prop where
 hl:H l=some (.lst (bE cs))
 hm:H m=some (.lst (qs.map fun q=>V.ref q.1))
 ca:bF H cs
 nd:(cs.map fun p=>p.2.1).Nodup
 p1:1<=cs.length
 p8:cs.length<=8
 sa:∀ls:List Str,ls.Perm (cs.flatMap lyr)->ci H ls qs
 q60:qs.length<=60
theorem jp.up{H H':Hp}{l m:Addr}{cs:List (Addr×Str×List Str)}{qs:List (Addr×List V)}(h:jp H l m cs qs)(s:af H H'):jp H' l m cs qs:=
 ⟨s _ _ h.hl,s _ _ h.hm,h.ca.up s,h.nd,h.p1,h.p8,fun ls p=>(h.sa ls p).up s,h.q60⟩
theorem ln{α:Type}(f:α->V)(xs:List α)(a b:Option Int):∃ys:List α,fN (xs.map f) a b=ys.map f/\(∀y∈ys,y∈xs)/\ys.length<=xs.length:=by
 refine⟨(xs.drop (HT.sIx (xs.map f).length 0 a)).take (HT.sIx (xs.map f).length (xs.map f).length b-HT.sIx (xs.map f).length 0 a),?_,fun y h=>Yr (Ys h),?_⟩
 ·unfold fN;rw[map_take,map_drop]
 ·rw[Yh,Ye]
  lia
theorem uM(N:List Str)(k:Nat)(h:k+4<=N.length):∃x0 x1 x2 x3,fN (N.map V.str) (some (k:Int)) (some ((k:Int) +4))=[.str x0,.str x1,.str x2,.str x3]/\[x0,x1,x2,x3].Sublist N:=by
 have e:fN (N.map V.str) (some (k:Int)) (some ((k:Int) +4))=((N.drop k).take 4).map V.str:=by
  unfold fN;rw[show(k:Int) +4=((k+4:Nat):Int)from rfl,HT.sIx_nat,HT.sIx_nat,Z6,Yt h,Yt (by lia),show k+4-k=4 by lia,map_take,map_drop]
 have s:((N.drop k).take 4).Sublist N:=(take_sublist _ _).trans (List.drop_sublist _ _);have l:((N.drop k).take 4).length=4:=by rw[Yh,Ye];lia
 rw[e]
 generalize (N.drop k).take 4=M at s l
 match M,l with
 |[x0,x1,x2,x3],_=>exact⟨x0,x1,x2,x3,rfl,s⟩
theorem pZ{K:PySem.W.Frag}{H H':Hp}{a:Addr}{xs:List V}(h:SqL K H a xs)(s:af H H'):SqL K H' a xs:=h.imp_left fun r=>r.imp (s _ _) fun⟨o,e⟩=>⟨o,s _ _ e⟩
theorem lq{z:Str}:∀{ls:List Str},ls.Nodup->z∈ls->ls.filter (fun x=>decide (x=z))=[z]
 | x::ls,h,m=>by
   rw[nodup_cons]at h;by_cases e:x=z
   ·rw[filter_cons_of_pos (by simpa using e),List.filter_eq_nil_iff.mpr fun y hy c=>h.1 (by rw[e,<-Zo c];exact hy),e]
   ·rw[filter_cons_of_neg (by simpa using e)];exact lq h.2 ((mem_cons.mp m).resolve_left fun q=>e q.symm)
theorem xq{x y:Str}(h:bV (bI []) x y):x=y:=by
 induction h with
 | refl=>rfl
 | step c s ih=>rcases s with⟨q,hq,_⟩|⟨q,hq,_⟩<;> cases hq
theorem uN{ls:List Str}{ds:List (List Str)}(nd:ls.Nodup)(h:fH (bI []) ls ds):ds=ls.map fun z=>[z]:=by
 obtain⟨r,h1,rfl⟩:=h;have e:grp r ls=grp id ls:=mE fun z hz=>(xq (h1 z hz).2.1).symm
 rw[e];unfold grp;rw[Yn,show ls.filter (fun z=>decide (id z=z))=ls from List.filter_eq_self.mpr fun z _=>Zf rfl];exact Yl fun z hz=>lq nd hz
theorem rS{S:Str->Str->Prop}{ls:List Str}{ds:List (List Str)}(so:ls.Pairwise (fun a b=>aQ b a=false))(h:fH S ls ds){g:List Str}(hg:g∈ds):g.length<=ls.length/\∃m,g[0]? =some m/\∀x∈g,x∈ls/\c6 S x m:=by
 obtain⟨r,h1,rfl⟩:=h;obtain⟨p,hp,rfl⟩:=Xi hg;unfold grp at hp;obtain⟨z,hz,rfl⟩:=Xi hp;obtain⟨zl,zr⟩:=List.mem_filter.mp hz;have zr:=Zo zr;have all:∀x∈ls.filter (fun x=>decide (r x=z)),x∈ls/\c6 S x z:=fun x hx=>by
  obtain⟨xl,xr⟩:=List.mem_filter.mp hx;refine⟨xl,?_⟩;rw[<-Zo xr];exact(h1 x xl).2
 have zm:z∈ls.filter (fun x=>decide (r x=z)):=List.mem_filter.mpr ⟨zl,Zf zr⟩;have so:=so.sublist (List.filter_sublist (p:=fun x=>decide (r x=z)));refine⟨Yf _ _,z,?_,all⟩;show(ls.filter fun x=>decide (r x=z))[0]? =some z
 generalize ls.filter (fun x=>decide (r x=z))=g at all zm so
 cases g with
 | nil=>cases zm
 | cons y g=>
   rw[List.getElem?_cons_zero];rcases mem_cons.mp zm with e|e
   ·rw[e]
   ·have a:=(pairwise_cons.mp so).1 z e;have b:=(all y Zm).2.2 y (.refl _);by_cases q:y=z
    ·rw[q]
    ·have:=cp b q;rw[a]at this;cases this
theorem A6{S:Str->Str->Prop}{ls:List Str}{ds:List (List Str)}(h:fH S ls ds)(n:1<=ls.length):∃g gs,ds=g::gs:=by
 obtain⟨r,h1,rfl⟩:=h;cases ls with
 | nil=>cases n
 | cons x ls=>
   have h:=h1 x Zm;have h2:r (r x)=r x:=(h1 _ h.1).2.one ⟨.refl _,fun y c=>h.2.2 y (h.2.1.trans c)⟩;have:=iR.mpr ⟨h.1,h2⟩;cases e:grp r (x::ls)with
   | nil=>rw[e]at this;cases this
   | cons p ps=>exact⟨_,_,rfl⟩
theorem sP{S:Str->Str->Prop}{ls:List Str}{ds:List (List Str)}(h:fH S ls ds):ds.length<=ls.length:=by
 obtain⟨r,h1,rfl⟩:=h;unfold grp;rw[Z6,Z6];exact Yf _ _
def og(K:PySem.W.Frag):Sp:=fun vs H Q _=>∃(a:Addr) (ns:List Int),vs=[.ref a]/\SqL K H a (ns.map V.int)/\yb H/\ns.length<=63/\∀H',Q (.bl true) H'
structure rT (mg:Str->Option Value) (H:Hp) (g c4:Addr) (qs:List (Addr×List V)) (ls:List Str) (ts:List (Addr×List Str)):Prop where
 gr:∃c2 c3,GrF mg H g c2 c3 c4 qs ls ts
 nd:ls.Nodup
 so:ls.Pairwise (fun a b=>aQ b a=false)
 ll:ls.length<=5000
theorem rT.up{H H':Hp}{g c4:Addr}{qs:List (Addr×List V)}{ls:List Str}{ts:List (Addr×List Str)}(h:rT mg H g c4 qs ls ts)(s:af H H'):rT mg H' g c4 qs ls ts:=by
 obtain⟨c2,c3,gr⟩:=h.gr;exact⟨⟨c2,c3,gr.up s⟩,h.nd,h.so,h.ll⟩
theorem oh{H:Hp}{g dx a b l m:Addr}{cs:List (Addr×Str×List Str)}{qs:List (Addr×List V)}{R:Hp->Prop}(fg:H g=none)(fdx:H dx=none)(ha:H a=some (.lst (bE cs)))(hb:H b=some (.lst (qs.map fun q=>V.ref q.1)))(p:jp H l m cs qs)
 (k:∀H' ls ts c4,af H H'->rT mg H' g c4 qs ls ts->ls.Perm (cs.flatMap lyr)->R H'):
 sM mg [.ref g,.ref a,.ref b] (upd (upd H dx (.own g)) g (.ins (ck mg "Ground") dx [])) (fun v H2=>v= .non/\R H2) E0:=by
 have s0:af H (upd (upd H dx (.own g)) g (.ins (ck mg "Ground") dx [])):=fun b o e=>by
  rw[ai (ap e fg),ai (ap e fdx)];exact e
 refine⟨g,a,b,dx,cs,qs,rfl,aa,s0 _ _ ha,s0 _ _ hb,p.ca.up s0,p.nd,p.p1,p.p8,fun ls q=>(p.sa ls q).up s0,p.q60,fun H' ls ts c2 c3 c4 bb gr tk pl so=>⟨rfl,k H' ls ts c4 (fun b o e=>bb b o (ap e fg) (s0 _ _ e)) ⟨⟨c2,c3,gr⟩,oa p.nd pl,so,?_⟩ pl⟩⟩;rw[pl.length_eq,length_flatMap];have:=kA (f:=fun p:Addr×Str×List Str=>(lyr p).length) (B:=26) (xs:=cs) fun q hq=>by
  unfold lyr;rw[Z6];exact gY fun c hc=>i7 (p.ca q hq).2.2.sign c hc
 have:=p.p8
 lia
theorem gG{H:Hp}{g c4:Addr}{qs:List (Addr×List V)}{ls:List Str}{ts:List (Addr×List Str)}{Q:VK}{E:XK}(h:rT mg H g c4 qs ls ts)(k:∀l H' (ss:List (Addr×List Str)),af H H'->H l=none->H' l=some (.lst (ss.map fun t=>V.ref t.1))->bP H' ss->(∀s∈ss,H s.1=none)->fH (bI qs) ls (ss.map (·.2))->Q (.ref l) H'):n6 mg [.ref g] H Q E:=by
 obtain⟨c2,c3,gr⟩:=h.gr;exact⟨g,c2,c3,c4,qs,ls,ts,rfl,gr,h.nd,h.so,h.ll,fun l H' ss a b c d e f _=>k l H' ss a b c d e f⟩
theorem A7{H:Hp}{g c4:Addr}{qs:List (Addr×List V)}{ls:List Str}{ts:List (Addr×List Str)}{z m:Str}{Q:VK}{E:XK}(h:rT mg H g c4 qs ls ts)(hz:z∈ls/\c6 (bI qs) z m)(k:∀H',af H H'->Q (.str m) H'):xj mg [.ref g,.str z] H Q E:=by
 obtain⟨c2,c3,gr⟩:=h.gr;refine⟨g,c2,c3,c4,qs,ls,ts,z,rfl,gr,h.nd,h.so,h.ll,hz.1,fun H' m' s l=>?_⟩;rw[l.one hz.2];exact k H' s
theorem xt{H:Hp}{g c4 l m:Addr}{qs:List (Addr×List V)}{ls ns:List Str}{ts:List (Addr×List Str)}{Q:VK}{E:XK}(h:rT mg H g c4 qs ls ts)(hn:∀x,x∈ls↔x∈ns)(nn:ns.Nodup)(hnl:ns.length<=900)(hl:H l=some (.lst (ns.map V.str)))(hm:H m=some (.lst (qs.map fun q=>V.ref q.1)))
 (k:∀r H' (ss:List (Addr×List Str)),af H H'->H r=none->H' r=some (.lst (ss.map fun t=>V.ref t.1))->bP H' ss->fH (bI qs) ls (ss.map (·.2))->Q (.ref r) H'):xp [.ref l,.ref m] H Q E:=by
 obtain⟨c2,c3,gr⟩:=h.gr;exact⟨l,m,ns,ls,qs,rfl,hl,hm,gr.sa,hnl,nn,h.nd,h.so,hn,k⟩
theorem eQ{S:Str->Str->Prop}{ls:List Str}{H:Hp}{a b:Addr}{ts ss:List (Addr×List Str)}{Q:VK}{E:XK}(so:ls.Pairwise (fun a b=>aQ b a=false))(hll:ls.length<=5000)(ha:H a=some (.lst (ts.map fun t=>V.ref t.1)))(hb:H b=some (.lst (ss.map fun t=>V.ref t.1)))(ta:bP H ts)(tb:bP H ss)(h1:fH S ls (ts.map (·.2)))(h2:ts.map (·.2)=ss.map (·.2))(k:∀H',af H H'->Q (.bl true) H'):iS [.ref a,.ref b] H Q E:=by
 refine⟨a,b,ts,ss,rfl,ha,hb,ta,tb,h2,?_,fun t ht=>Yd (rS so h1 (Xj ⟨t,ht,rfl⟩)).1 hll,k⟩;have:=sP h1;rw[Z6]at this
 lia
theorem A8{f:Addr}{fd:FuncData}(F:Fun K "law" "law" gf f fd)(T:Txt K mg):gR P w K mg base CX0 12 f fd ["_law_script"] (og K):=by
 refine F.ok bW (fun vs H Q E h=>?_) (fun cdv A outer s H vs Q E hr h=>?_)
 ·obtain⟨a,ns,rfl,_⟩:=h;rfl
 ·obtain⟨a,ns,rfl,hs,ho,hn,kk⟩:=h;refine⟨_,(QSs.h (ah (yq rfl rfl rfl (aO (nW T) hr rfl rfl rfl rfl (paE rfl (aO (uu T) hr rfl rfl rfl rfl (paE rfl (vn 0 rfl Z0 rfl rfl) (paE rfl ao aj))) aj)) (fT (K:=K) rfl rfl rfl (gsE rfl (au 1 bW.nd rfl Z0 Z1) (gsE rfl (au 2 bW.nd rfl Z0 Z1) (gsE rfl (au 3 bW.nd rfl Z0 Z1) cX)))))
   (ah (ba 4 bW.nd rfl Z0 Z1 rfl (wE (kZ T) T.o_Ground hr rfl rfl rfl rfl (paE rfl (ctE (eV (K:=K) rfl) rfl T.b_list boot_list rfl rfl rfl (paE rfl (vn 1 rfl Z0 rfl rfl) aj)) (paE rfl (ctE (eV (K:=K) rfl) rfl T.b_list boot_list rfl rfl rfl (paE rfl (vn 2 rfl Z0 rfl rfl) aj)) aj))))
   (ah (ba 5 bW.nd rfl Z0 Z1 rfl (aO (mG T) hr rfl rfl rfl rfl (paE rfl (vn 3 rfl Z0 rfl rfl) (paE rfl (vn 2 rfl Z0 rfl rfl) aj))))
   (ah (ba 6 bW.nd rfl Z0 Z1 rfl (aO (cC T) hr rfl rfl rfl rfl (paE rfl (vn 4 rfl Z0 rfl rfl) aj)))
   (ah (ifS (gJ (et (K:=K) rfl (fun _=>rfl) (aO (bK T) hr rfl rfl rfl rfl (paE rfl (vn 6 rfl Z0 rfl rfl) (paE rfl (vn 5 rfl Z0 rfl rfl) aj)))))
   (am (bg eBl))
   bu)
   (ah (dm PassesOwn.never rfl rfl (cW (K:=K) rfl (vn 5 rfl Z0 rfl rfl)) (au 7 bW.nd rfl Z0 Z1)
   (am (dm PassesOwn.never rfl rfl (cW (K:=K) rfl (vn 7 rfl Z0 rfl rfl)) (au 8 bW.nd rfl Z0 Z1)
    (am (ifS (cc fD rfl (aO (n8 T) hr rfl rfl rfl rfl (paE rfl (vn 4 rfl Z0 rfl rfl) (paE rfl (vn 8 rfl Z0 rfl rfl) aj))) (cA (K:=K) rfl (fun _ _=>rfl) (vn 7 rfl Z0 rfl rfl) ao))
     (am (bg eBl))
     bu)))))
   (ah (cu rfl (bmE (K:=K) rfl plainAttrs_list PySem.F.slot_list_append PySem.F.type_list_append bv rfl rfl rfl rfl (cA (K:=K) rfl (fun _ _=>rfl) (vn 6 rfl Z0 rfl rfl) ao) (paE rfl dI aj)))
   (ah (cu rfl (bmE (K:=K) rfl plainAttrs_list PySem.F.slot_list_append PySem.F.type_list_append bv rfl rfl rfl rfl (vn 6 rfl Z0 rfl rfl) (paE rfl (dZ aj) aj)))
   (ah (ifS (gJ (et (K:=K) rfl (fun _=>rfl) (aO (bK T) hr rfl rfl rfl rfl (paE rfl (aO (cC T) hr rfl rfl rfl rfl (paE rfl (vn 4 rfl Z0 rfl rfl) aj)) (paE rfl (vn 5 rfl Z0 rfl rfl) aj)))))
   (am (bg eBl))
   bu)
   (ah (ba 9 bW.nd rfl Z0 Z1 rfl (aO (cC T) hr rfl rfl rfl rfl (paE rfl (vn 4 rfl Z0 rfl rfl) aj)))
   (ah (ba 10 bW.nd rfl Z0 Z1 rfl (wE (kZ T) T.o_Ground hr rfl rfl rfl rfl (paE rfl (ctE (eV (K:=K) rfl) rfl T.b_list boot_list rfl rfl rfl (paE rfl (vn 1 rfl Z0 rfl rfl) aj)) (paE rfl (dZ aj) aj))))
   (ah (ifS (gJ (et (K:=K) rfl (fun _=>rfl) (aO (bK T) hr rfl rfl rfl rfl (paE rfl (aO (cC T) hr rfl rfl rfl rfl (paE rfl (vn 10 rfl Z0 rfl rfl) aj)) (paE rfl (eI (ax.of (show bU (ag gf) ["_law_script","_law_cuts","_law_sayings","_law_layers","_law_ground_here","_law_due_here","_law_found","_law_some","_law_layer","_law_kept","_law_alone","_law_at","_law_turn","_law_pairs","_law_made","_law_many","_law_said"] _ ["_law_layer"] []=true from by decide +kernel)) rfl rfl (cW (K:=K) rfl (cbE (gw (K:=K) rfl) rfl T.b_sorted boot_sorted rfl rfl rfl (paE rfl (vn 3 rfl Z0 rfl rfl) aj))) (fun _ _ _=>(au 0 (show(["_law_layer"]:List Str).Nodup from by decide +kernel) rfl Z0 Z1)) (fun _ _ _=>i4) (fun _ _ _=>(dZ (paE rfl (vn 0 rfl Z0 rfl rfl) aj)))) aj)))))
   (am (bg eBl))
   bu)
   (ah (ifS (cc qD rfl (cbE (dL (K:=K) rfl) rfl T.b_len PySem.boot_len rfl rfl rfl (paE rfl (vn 3 rfl Z0 rfl rfl) aj)) ao)
   (am (bg (jM (aO (bK T) hr rfl rfl rfl rfl (paE rfl (aO (cC T) hr rfl rfl rfl rfl (paE rfl (vn 4 rfl Z0 rfl rfl) aj)) (paE rfl (vn 5 rfl Z0 rfl rfl) aj))) (km (aO (bK T) hr rfl rfl rfl rfl (paE rfl (vn 9 rfl Z0 rfl rfl) (paE rfl (vn 5 rfl Z0 rfl rfl) aj)))))))
   bu)
   (ah (ba 11 bW.nd rfl Z0 Z1 rfl (opE bJ (aO (cy T) hr rfl rfl rfl rfl (paE rfl (vn 0 rfl Z0 rfl rfl) (paE rfl ao aj))) (opE oG (cbE (dL (K:=K) rfl) rfl T.b_len PySem.boot_len rfl rfl rfl (paE rfl (vn 3 rfl Z0 rfl rfl) aj)) ao)))
   (ah (ba 7 bW.nd rfl Z0 Z1 rfl (yZ (K:=K) rfl (vn 3 rfl Z0 rfl rfl) (fC (vn 11 rfl Z0 rfl rfl)) (fC (opE cf (vn 11 rfl Z0 rfl rfl) ao))))
   (ah (ba 12 bW.nd rfl Z0 Z1 rfl (opE bJ (aO (cy T) hr rfl rfl rfl rfl (paE rfl (vn 0 rfl Z0 rfl rfl) (paE rfl ao aj))) ao))
   (ah (ba 13 bW.nd rfl Z0 Z1 rfl (dZ (paE rfl (fR (paE rfl (cA (K:=K) rfl (fun _ _=>rfl) (vn 7 rfl Z0 rfl rfl) ao) (paE rfl (cA (K:=K) rfl (fun _ _=>rfl) (vn 7 rfl Z0 rfl rfl) ao) aj))) (paE rfl (fR (paE rfl (cA (K:=K) rfl (fun _ _=>rfl) (vn 7 rfl Z0 rfl rfl) ao) (paE rfl (cA (K:=K) rfl (fun _ _=>rfl) (vn 7 rfl Z0 rfl rfl) ao) aj))) (paE rfl (fR (paE rfl (cA (K:=K) rfl (fun _ _=>rfl) (vn 7 rfl Z0 rfl rfl) ao) (paE rfl (cA (K:=K) rfl (fun _ _=>rfl) (vn 7 rfl Z0 rfl rfl) ao) aj))) (paE rfl (fR (paE rfl (cA (K:=K) rfl (fun _ _=>rfl) (vn 7 rfl Z0 rfl rfl) ao) (paE rfl (cA (K:=K) rfl (fun _ _=>rfl) (vn 7 rfl Z0 rfl rfl) ao) aj))) aj))))))
   (ah (kr 14 bW.nd rfl Z0 Z1 rfl (ax.of (show bU (ag gf) ["_law_script","_law_cuts","_law_sayings","_law_layers","_law_ground_here","_law_due_here","_law_found","_law_some","_law_layer","_law_kept","_law_alone","_law_at","_law_turn","_law_pairs","_law_made","_law_many","_law_said"] _ ["_law_one","_law_other"] []=true from by decide +kernel)) rfl rfl (cW (K:=K) rfl (opE gW (yZ (K:=K) rfl (vn 13 rfl Z0 rfl rfl) (fC (vn 12 rfl Z0 rfl rfl)) noO) (yZ (K:=K) rfl (vn 13 rfl Z0 rfl rfl) noO (fC (vn 12 rfl Z0 rfl rfl))))) (fun _ _ _=>(fT (K:=K) rfl rfl rfl (gsE rfl (au 0 (show(["_law_one","_law_other"]:List Str).Nodup from by decide +kernel) rfl Z0 Z1) (gsE rfl (au 1 (show(["_law_one","_law_other"]:List Str).Nodup from by decide +kernel) rfl Z0 Z1) cX)))) (fun _ _ _=>i4) (fun _ _ _=>(fR (paE rfl dI (paE rfl (vn 0 rfl Z0 rfl rfl) (paE rfl (vn 1 rfl Z0 rfl rfl) aj))))))
   (ah (dm PassesOwn.never rfl rfl (BA rfl T.b_range rfl rfl (paE rfl ao (paE rfl ao aj))) (au 15 bW.nd rfl Z0 Z1)
   (ah (ba 16 bW.nd rfl Z0 Z1 rfl (opE gW (vn 2 rfl Z0 rfl rfl) (yZ (K:=K) rfl (vn 14 rfl Z0 rfl rfl) noO (fC (vn 15 rfl Z0 rfl rfl)))))
    (am (ifS (gJ (et (K:=K) rfl (fun _=>rfl) (aO (bK T) hr rfl rfl rfl rfl (paE rfl (aO (cC T) hr rfl rfl rfl rfl (paE rfl (wE (kZ T) T.o_Ground hr rfl rfl rfl rfl (paE rfl (ctE (eV (K:=K) rfl) rfl T.b_list boot_list rfl rfl rfl (paE rfl (vn 1 rfl Z0 rfl rfl) aj)) (paE rfl (ctE (eV (K:=K) rfl) rfl T.b_list boot_list rfl rfl rfl (paE rfl (vn 16 rfl Z0 rfl rfl) aj)) aj))) aj)) (paE rfl (aO (mG T) hr rfl rfl rfl rfl (paE rfl (vn 3 rfl Z0 rfl rfl) (paE rfl (vn 16 rfl Z0 rfl rfl) aj))) aj)))))
    (am (bg eBl))
    bu))))
   (am (bg (jM (aO (bK T) hr rfl rfl rfl rfl (paE rfl (aO (cC T) hr rfl rfl rfl rfl (paE rfl (vn 4 rfl Z0 rfl rfl) aj)) (paE rfl (vn 5 rfl Z0 rfl rfl) aj))) (km (aO (bK T) hr rfl rfl rfl rfl (paE rfl (vn 9 rfl Z0 rfl rfl) (paE rfl (vn 5 rfl Z0 rfl rfl) aj))))))))))))))))))))))))))),?_⟩
  show bL _ _ _ [some (.ref a),none,none,none,none,none,none,none,none,none,none,none,none,none,none,none,none] H;refine ak fun D1 k1 _=>?_
  walk_at "rd";refine⟨a,ns,43,rfl,hs,by lia,by decide,by decide,fun l0 H0 xs s0 f0 h0 hx hb=>?_⟩;walk_at "rd";refine⟨l0,xs,rfl,SqL.of h0,fun H' sm=>SqL.of (sm _ _ h0),hx,hb,fun t l1 l2 l3 H1 ds qs s1 ft f1 f2 f3 n12 n13 n23 ht h1 h2 h3 d1 d3 hdo hnd hca hsa hq hnk hnl=>?_⟩;walk_at "rd";refine⟨_,SqT.of ht,rfl,_,_,rfl,_,_,rfl,_,_,rfl,rfl,k1 _ _ (ak fun D3 k3 _=>?_)⟩;have nm:((dcs ds).map fun p=>p.2.1).Nodup:=by
   unfold dcs;rw[Yn];exact hnd
  have dl:(dcs ds).length=ds.length:=by unfold dcs;rw[Z6]
  have sub:∀ls:List Str,ls.Perm ((dcs ds).flatMap lyr)->∀x,x∈ls↔x∈(ds.flatMap fun p=>(fA p.2).map (·.1)):=fun ls pl x=>by rw[rR pl,uL hdo]
  have P1:jp H1 l1 l2 (dcs ds) qs:=⟨h1,h2,hca,nm,by lia,by lia,fun ls p q hq'=>⟨(hsa q hq').1,(hsa q hq').2.mono fun x=>(sub ls p x).mpr⟩,by lia⟩
  have nn:=pY hdo hnd
  generalize (ds.flatMap fun p=>(fA p.2).map (·.1))=N at h3 sub hsa hnl nn
  walk_at "rd";refine⟨_,.inl (SqL.of h1),fun a1 fa1=>⟨_,.inl (SqL.of (af.upd fa1 _ _ h2)),fun b1 fb1=>?_⟩⟩;have t1:=af.upd (o:= .lst (bE (dcs ds))) fa1;have ga1:upd H1 a1 (.lst (bE (dcs ds))) a1=some (.lst (bE (dcs ds))):=aa
  generalize upd H1 a1 (.lst (bE (dcs ds)))=H2 at t1 ga1 fb1 ⊢
  have t2:=af.upd (o:= .lst (qs.map fun q=>V.ref q.1)) fb1;have gb1:upd H2 b1 (.lst (qs.map fun q=>V.ref q.1)) b1=some (.lst (qs.map fun q=>V.ref q.1)):=aa;have ga2:=t2 _ _ ga1
  generalize upd H2 b1 (.lst (qs.map fun q=>V.ref q.1))=H3 at t2 gb1 ga2 ⊢
  have t13:=t1.trans t2;refine fun g dx fg fdx ngd=>oh fg fdx ga2 gb1 (P1.up t13) fun H4 ls ts c4 t4 gr pl=>k3 _ _ (ak fun D4 k4 _=>?_)
  have t14:=t13.trans t4;have lsn:=sub ls pl;have so:=gr.so;have ll:=gr.ll;have nd:=gr.nd;have l0:1<=ls.length:=length_pos_iff.mpr fun e=>by
   have:N[0]'(by lia)∈ls:=(lsn _).mpr (Ya _);rw[e]at this;cases this
  walk_at "rd";refine xt gr lsn nn (by lia) (t14 _ _ h3) (t14 _ _ h2) fun due H5 us t5 fdue hdue tus du=>k4 _ _ (ak fun D5 k5 _=>?_)
  have t15:=t14.trans t5;have gr5:=gr.up t5;walk_at "rd";refine gG gr5 fun fo H6 ss t6 ffo hfo tss fss dk=>k5 _ _ (ak fun D6 k6 _=>?_)
  walk_at "rd";refine eQ so ll hfo (t6 _ _ hdue) tss (tus.up t6) dk (dk.one du) fun H7 t7=>⟨true,rfl,?_⟩
  rw[if_neg (by decide)];refine k6 _ _ (ak fun D7 k7 _=>?_);refine ay fun Kont hK=>?_
  walk_at "rd";have t57:=t6.trans t7;have hfo:=t7 _ _ hfo;have tss:=tss.up t7;have hdue7:=t57 _ _ hdue;refine .inl ⟨⟨_,SqL.of hdue7⟩,hK _ _ ?_⟩;refine bQ (xs:=us.map fun t=>V.ref t.1) (fun i σ H'=>(∃o7 o8,σ=[some (.ref a),some (.ref l1),some (.ref l2),some (.ref l3),some (.ref g),some (.ref due),some (.ref fo),o7,o8,none,none,none,none,none,none,none,none])/\af H7 H')
   ⟨⟨_,_,rfl⟩,fun _ _ e=>e⟩ (fun i σ H' _ h=>SqL.of (h.2 _ _ hdue7)) ?_ ?_
  ·rintro i x σ H' hx ⟨⟨o7,o8,rfl⟩,sm⟩;rw[Zl]at hx;obtain⟨u,hu,rfl⟩:=map_eq_some_iff.mp hx;have um:=Z8 hu;obtain⟨_,m,um0,uml⟩:=rS so du (Xj ⟨u,um,rfl⟩);have hu:=(t57.trans sm) _ _ (tus u um);show va _ _ _ _ [some (.ref a),some (.ref l1),some (.ref l2),some (.ref l3),some (.ref g),some (.ref due),some (.ref fo),some (.ref u.1),o8,none,none,none,none,none,none,none,none] H';refine aD fun D8 k8 r8=>?_
   refine ay fun Kont hK=>?_
   walk_at "rd";refine .inl ⟨⟨_,SqL.of hu⟩,hK _ _ ?_⟩;refine bQ (xs:=u.2.map V.str) (fun i σ H2=>(∃o8,σ=[some (.ref a),some (.ref l1),some (.ref l2),some (.ref l3),some (.ref g),some (.ref due),some (.ref fo),some (.ref u.1),o8,none,none,none,none,none,none,none,none])/\af H' H2)
    ⟨⟨_,rfl⟩,fun _ _ e=>e⟩ (fun i σ H2 _ h=>SqL.of (h.2 _ _ hu)) ?_ ?_
   ·rintro i x σ H2 hx ⟨⟨o8,rfl⟩,sm2⟩;rw[Zl]at hx;obtain⟨z,hz,rfl⟩:=map_eq_some_iff.mp hx;show jH _ _ _ _ [some (.ref a),some (.ref l1),some (.ref l2),some (.ref l3),some (.ref g),some (.ref due),some (.ref fo),some (.ref u.1),some (.str z),none,none,none,none,none,none,none,none] H2;refine aD fun D9 k9 r9=>?_
    walk_at "rd";refine A7 (gr5.up (t57.trans (sm.trans sm2))) (uml z (Z8 hz)) fun H3 sm3=>?_
    refine⟨_,SqL.of (sm3 _ _ (sm2 _ _ hu)),_,(show atI (u.2.map V.str) ((0:Nat):Int)=some (.str m)from cF (by rw[Zl,um0];rfl)),?_⟩;refine⟨rfl,?_⟩;rw[if_neg (by simp)];exact k9 _ _ ⟨⟨_,rfl⟩,sm2.trans sm3⟩
   ·rintro σ H2 ⟨⟨o8,rfl⟩,sm2⟩;exact k8 _ _ ⟨⟨_,_,rfl⟩,sm.trans sm2⟩
  ·rintro σ H' ⟨⟨o7,o8,rfl⟩,sm⟩;refine k7 _ _ (ak fun D8 k8 _=>?_);have t58:=t57.trans sm;have hfo:=sm _ _ hfo;have tss:=tss.up sm;obtain⟨g0,gs,e0⟩:=A6 dk l0;obtain⟨p0,ps,rfl⟩:∃p ps,ss=p::ps:=by
    cases ss with
    | nil=>cases e0
    | cons p ps=>exact⟨p,ps,rfl⟩
   have hp0:=tss p0 Zm;have np:fo≠p0.1:=fun e=>by
    rw[<-e,hfo]at hp0;cases h:p0.2 with
    | nil=>rw[h]at hp0;cases hp0
    | cons c cs=>rw[h]at hp0;cases hp0
   walk_at "rd";refine⟨_,SqL.of hfo,_,(show atI (V.ref p0.1::_) ((0:Nat):Int)=some (.ref p0.1)from cF rfl),.inl ⟨_,SqL.of hp0⟩,_,rfl,_,hp0,?_,k8 _ _ (ak fun D9 k9 _=>?_)⟩
   ·have:=(rS so dk (Zm (a:=p0.2))).1;rw[Z6];exact aU (by lia)
   have t59:af H5 (upd H' p0.1 (.lst (p0.2.map V.str++[.str "x"]))):=af.set t58 (fss p0 Zm);have hfo:upd H' p0.1 (.lst (p0.2.map V.str++[.str "x"])) fo=_:=(ai np).trans hfo
   generalize upd H' p0.1 (.lst (p0.2.map V.str++[.str "x"]))=H8 at t59 hfo
   walk_at "rd";refine⟨.inl ⟨_,SqL.of hfo⟩,(show 0<=sizeLine by decide),fun e0 fe0=>⟨_,af.upd fe0 _ _ hfo,?_,k9 _ _ (ak fun D10 k10 _=>?_)⟩⟩
   ·have:=sP dk;rw[Z6]at this ⊢;exact aU (by lia)
   have t5a:af H5 (upd (upd H8 e0 (.lst [])) fo (.lst (((p0::ps).map fun t=>V.ref t.1) ++[.ref e0]))):=af.set (t59.trans (af.upd fe0)) ffo
   generalize upd (upd H8 e0 (.lst [])) fo (.lst (((p0::ps).map fun t=>V.ref t.1) ++[.ref e0]))=H9 at t5a
   walk_at "rd";refine gG (gr5.up t5a) fun m1 Ha ss1 ta fm1 hm1 ts1 _ dk1=>eQ so ll hm1 ((t5a.trans ta) _ _ hdue) ts1 (tus.up (t5a.trans ta)) dk1 (dk1.one du) fun Hb tb=>⟨true,rfl,?_⟩
   rw[if_neg (by decide)];refine k10 _ _ (ak fun D11 k11 _=>?_);have t5b:=t5a.trans (ta.trans tb);walk_at "rd";refine gG (gr5.up t5b) fun kp Hc ssk tc fkp hkp tsk _ dkk=>k11 _ _ (ak fun D12 k12 _=>?_)
   have t5c:=t5b.trans tc;have t1c:=t15.trans t5c;have P1c:=P1.up t1c;have h3c:=t1c _ _ h3;have sac:=hsa.up t1c;walk_at "rd";refine⟨_,.inl (SqL.of P1c.hl),fun a2 fa2=>⟨(show 0<=sizeLine by decide),fun b2 fb2=>?_⟩⟩;have v1:=af.upd (o:= .lst (bE (dcs ds))) fa2;have ga2:upd Hc a2 (.lst (bE (dcs ds))) a2=_:=aa
   generalize upd Hc a2 (.lst (bE (dcs ds)))=Hd at v1 ga2 fb2 ⊢
   have v2:=af.upd (o:= .lst []) fb2;have gb2:upd Hd b2 (.lst []) b2=_:=aa;have ga2:=v2 _ _ ga2
   generalize upd Hd b2 (.lst [])=He at v2 gb2 ga2 ⊢
   have v12:=v1.trans v2;refine fun g2 dx2 fg2 fdx2 _=>oh (l:=a2) (m:=b2) (qs:=[]) fg2 fdx2 ga2 gb2 ⟨ga2,gb2,P1c.ca.up v12,nm,P1c.p1,P1c.p8,fun _ _ q hq=>(nomatch hq),X7 _⟩ fun Hf ls2 ts2 c42 v3 gr2 pl2=>k12 _ _ (ak fun D13 k13 _=>?_)
   have vcf:=v12.trans v3;walk_at "rd";refine gG gr2 fun al Hg ss2 v4 fal hal tal _ dk2=>?_
   refine aL fun Kont hK=>?_
   walk_at "rd";have vcg:=vcf.trans v4;refine⟨N,SqL.of (vcg _ _ h3c),by lia,fun lz ms flz pmz soz=> .inl ⟨⟨_,SqL.of aa⟩,hK _ _ fun F hF=>?_⟩⟩;obtain rfl:ms=ls2:=dP aQ (fun _ _ a b=>cp a b) soz gr2.so (pmz.nodup_iff.mpr nn) gr2.nd fun x=>by rw[pmz.mem_iff,sub ls2 pl2]
   have v5:=af.upd (o:= .lst (ms.map V.str)) flz;have glz:upd Hg lz (.lst (ms.map V.str)) lz=_:=aa
   generalize upd Hg lz (.lst (ms.map V.str))=Hh at v5 glz hF ⊢
   have ml:=gr2.ll;refine bG (J:=Itl K lz) (n:=ms.length) (D:=F) (fun j vs σ H'=>(∃o1,σ=[o1])/\af Hh H'/\H' F=some (.lst vs)/\∃sl:List (Addr×List Str),vs=sl.map (fun t=>V.ref t.1)/\sl.length=j/\bP H' sl/\(∀t∈sl,t.1≠F)/\sl.map (·.2)=(ms.take j).map fun z=>[z])
    ⟨⟨none,rfl⟩,af.upd hF,aa,[],rfl,rfl,fun q hq=>(nomatch hq),fun q hq=>(nomatch hq),rfl⟩ (fun j _ _ H' hj ⟨_,sm,_⟩=>⟨_,V.str ms[j],SqL.of (sm _ _ glz),by simp[hj]⟩) (fun _ _ H' ⟨_,sm,_⟩=>⟨_,SqL.of (sm _ _ glz),by simp⟩) ?_ ?_
   ·rintro j vs σ H3' hj ⟨⟨o1,rfl⟩,s3,hFv,sl,hv,hsl,hla,hnF,hsm⟩ x H4' ⟨e2,hx⟩;subst e2;have hxi:=hx _ (SqL.of (s3 _ _ glz));rw[Zl,Z4 hj]at hxi;obtain rfl:x=V.str ms[j]:=(Za hxi).symm;walk_at "rd";refine⟨(show 1<=sizeLine by decide),fun p hp=>?_⟩;have s5:=af.upd (o:= .lst [V.str ms[j]]) hp;have gp:upd H4' p (.lst [V.str ms[j]]) p=_:=aa;have npF:p≠F:=fun e=>by rw[e,hFv]at hp;cases hp
    generalize upd H4' p (.lst [V.str ms[j]])=H5' at s5 gp ⊢
    refine CK.mk hj (s5 _ _ hFv) (by rw[hv,Z6,hsl];exact aU (by lia)) ⟨⟨_,rfl⟩,af.set (s3.trans s5) hF,aa,sl++[(p,[ms[j]])],by rw[hv,Zd];rfl,by rw[Z9,hsl];rfl,fun q hq=>?_,fun q hq=>?_,?_⟩
    ·rcases Xg hq with h|h
     ·rw[ai (hnF q h)];exact s5 _ _ (hla q h)
     ·rw[Xh h,ai npF];exact gp
    ·rcases Xg hq with h|h
     ·exact hnF q h
     ·rw[Xh h];exact npF
    ·rw[Zd,hsm,X2,Zd,Z4 hj];rfl
   rintro vs σ Hi ⟨_,s3,hF3,sl,hv,hsl,hla,_,hsm⟩;rw[hv]at hF3;rw[Zn (Zi _),<-uN gr2.nd dk2]at hsm;have v6:=v5.trans s3;have vci:=vcg.trans v6;refine eQ gr2.so ml (v6 _ _ hal) hF3 (tal.up v6) hla dk2 hsm.symm fun Hj v7=>⟨true,rfl,?_⟩
   rw[if_neg (by decide)];refine k13 _ _ (ak fun D14 k14 r14=>?_);have vcj:=vci.trans v7;walk_at "rd";have fin:∀(H':Hp) (R:VK),af Hc H'->(∀H'',R (.bl true) H'')->n6 mg [.ref g] H' (fun x H1=>iS [x,.ref due] H1 (fun x H1=>∃i,x=V.bl i/\if i=true then iS [.ref kp,.ref due] H1 R E0 else R (.bl false) H1) E0) E0:=fun H' R y hR=>by
    have t5':=t5c.trans y;refine gG (gr5.up t5') fun _ Ha' _ ta' _ hm' ts' _ dk'=>eQ so ll hm' ((t5'.trans ta') _ _ hdue) ts' (tus.up (t5'.trans ta')) dk' (dk'.one du) fun Hb' tb'=>⟨true,rfl,?_⟩
    rw[if_pos rfl];have z:=ta'.trans tb';exact eQ so ll ((y.trans z) _ _ hkp) ((t5'.trans z) _ _ hdue) (tsk.up (y.trans z)) (tus.up (t5'.trans z)) dkk (dkk.one du) fun H'' _=>hR H''
   refine⟨_,.inl ⟨_,SqL.of (vcj _ _ h3c),rfl⟩,?_⟩;refine bZ (fun _=>fin Hj _ vcj fun H''=>r14 _ _ (kk H'')) fun h4=>?_
   have h4:4<=N.length:=by
    rw[Z6]at h4;have: ¬ (N.length:Int)<4:=fun q=>h4 (Zf q)
    lia
   refine k14 _ _ (ak fun D15 k15 _=>?_);walk_at "rd";have hsj:=pZ hs (s0.trans (s1.trans (t1c.trans vcj)));refine⟨a,ns,2,rfl,hsj,by decide,_,.inl ⟨_,SqL.of (vcj _ _ h3c),rfl⟩,_,rfl,by rw[Z6];lia,k15 _ _ (ak fun D16 k16 _=>?_)⟩;rw[Z6]
   generalize ns.getD (2:Int).toNat 0=c2
   have q1:0<=c2%((N.length:Int) -3):=Int.emod_nonneg _ (by lia);have q2:c2%((N.length:Int) -3)<(N.length:Int) -3:=Int.emod_lt_of_pos _ (by lia)
   generalize c2%((N.length:Int) -3)=at0 at q1 q2 ⊢
   obtain⟨k0,rfl⟩:=Xa q1;walk_at "rd";refine⟨_,SqL.of (vcj _ _ h3c),fun sm0 fsm=>k16 _ _ (ak fun D17 k17 _=>?_)⟩;obtain⟨x0,x1,x2,x3,ex,xsub⟩:=uM N k0 (by lia);rw[ex];have w1:=af.upd (o:= .lst [.str x0,.str x1,.str x2,.str x3]) fsm;have gsm:upd Hj sm0 (.lst [.str x0,.str x1,.str x2,.str x3]) sm0=_:=aa
   generalize upd Hj sm0 (.lst [.str x0,.str x1,.str x2,.str x3])=Hk at w1 gsm ⊢
   have xnd:=nn.sublist xsub;have xin:=xsub.subset;clear ex xsub;walk_at "rd";refine⟨a,ns,3,rfl,pZ hsj w1,by decide,_,rfl,by decide,k17 _ _ (ak fun D18 k18 _=>?_)⟩
   generalize ns.getD (3:Int).toNat 0%4=turn
   walk_at "rd";refine⟨_,SqL.of gsm,.str x0,rfl,_,SqL.of gsm,.str x1,rfl,(show 2<=sizeLine by decide),fun p1 f1=>?_⟩;have y1:=af.upd (o:= .tup [.str x0,.str x1]) f1;have gp1:upd Hk p1 (.tup [.str x0,.str x1]) p1=_:=aa;have gsm:=y1 _ _ gsm;have w2:=w1.trans y1
   generalize upd Hk p1 (.tup [.str x0,.str x1])=G1 at y1 gp1 gsm w2 ⊢
   refine⟨_,SqL.of gsm,.str x2,rfl,_,SqL.of gsm,.str x3,rfl,(show 2<=sizeLine by decide),fun p2 f2=>?_⟩;have y2:=af.upd (o:= .tup [.str x2,.str x3]) f2;have gp2:upd G1 p2 (.tup [.str x2,.str x3]) p2=_:=aa;have gsm:=y2 _ _ gsm;have gp1:=y2 _ _ gp1;have w3:=w2.trans y2
   generalize upd G1 p2 (.tup [.str x2,.str x3])=G2 at y2 gp1 gp2 gsm w3 ⊢
   refine⟨_,SqL.of gsm,.str x3,rfl,_,SqL.of gsm,.str x1,rfl,(show 2<=sizeLine by decide),fun p3 f3=>?_⟩;have y3:=af.upd (o:= .tup [.str x3,.str x1]) f3;have gp3:upd G2 p3 (.tup [.str x3,.str x1]) p3=_:=aa;have gsm:=y3 _ _ gsm;have gp1:=y3 _ _ gp1;have gp2:=y3 _ _ gp2;have w4:=w3.trans y3
   generalize upd G2 p3 (.tup [.str x3,.str x1])=G3 at y3 gp1 gp2 gp3 gsm w4 ⊢
   refine⟨_,SqL.of gsm,.str x1,rfl,_,SqL.of gsm,.str x2,rfl,(show 2<=sizeLine by decide),fun p4 f4=>?_⟩;have y4:=af.upd (o:= .tup [.str x1,.str x2]) f4;have gp4:upd G3 p4 (.tup [.str x1,.str x2]) p4=_:=aa;have gsm:=y4 _ _ gsm;have gp1:=y4 _ _ gp1;have gp2:=y4 _ _ gp2;have gp3:=y4 _ _ gp3;have w5:=w4.trans y4
   generalize upd G3 p4 (.tup [.str x1,.str x2])=G4 at y4 gp1 gp2 gp3 gp4 gsm w5 ⊢
   refine⟨(show 4<=sizeLine by decide),fun pr fpr=>k18 _ _ (ak fun D19 k19 _=>?_)⟩;have pin:∀q∈[(p1,x0,x1),(p2,x2,x3),(p3,x3,x1),(p4,x1,x2)],G4 q.1=some (.tup [.str q.2.1,.str q.2.2])/\q.2.1∈N/\q.2.2∈N/\q.2.1≠q.2.2:=by
    simp only[nodup_cons,Yq,Yy,or_false,not_or]at xnd;intro q hq;simp only[Yq,Yy,or_false]at hq;have m0:=xin (a:=x0) (by simp);have m1:=xin (a:=x1) (by simp);have m2:=xin (a:=x2) (by simp);have m3:=xin (a:=x3) (by simp);rcases hq with rfl|rfl|rfl|rfl
    ·exact⟨gp1,m0,m1,xnd.1.1⟩
    ·exact⟨gp2,m2,m3,xnd.2.2.1⟩
    ·exact⟨gp3,m3,m1,fun e=>xnd.2.1.2 e.symm⟩
    ·exact⟨gp4,m1,m2,xnd.2.1.1⟩
   have epr:[V.ref p1,.ref p2,.ref p3,.ref p4]=[(p1,x0,x1),(p2,x2,x3),(p3,x3,x1),(p4,x1,x2)].map fun q:Addr×Str×Str=>V.ref q.1:=rfl
   rw[epr];have pl4:[(p1,x0,x1),(p2,x2,x3),(p3,x3,x1),(p4,x1,x2)].length<=4:=Zi _
   generalize [(p1,x0,x1),(p2,x2,x3),(p3,x3,x1),(p4,x1,x2)]=pq at pin pl4 ⊢
   have y5:=af.upd (o:= .lst (pq.map fun q=>V.ref q.1)) fpr;have gpr:upd G4 pr (.lst (pq.map fun q=>V.ref q.1)) pr=_:=aa;have w6:=w5.trans y5;have pin:∀q∈pq,upd G4 pr (.lst (pq.map fun q=>V.ref q.1)) q.1=some (.tup [.str q.2.1,.str q.2.2])/\q.2.1∈N/\q.2.2∈N/\q.2.1≠q.2.2:=fun q hq=>⟨y5 _ _ (pin q hq).1,(pin q hq).2⟩
   generalize upd G4 pr (.lst (pq.map fun q=>V.ref q.1))=G5 at pin gpr w6 ⊢
   clear y5 fpr gp1 gp2 gp3 gp4 gsm w1 w2 w3 w4 w5 y1 y2 y3 y4 f1 f2 f3 f4;refine aL fun Kont hK=>?_
   walk_at "rd";obtain⟨qa,ea,ina,lna⟩:=ln (fun q:Addr×Str×Str=>V.ref q.1) pq (some turn) none;obtain⟨qb,eb,inb,lnb⟩:=ln (fun q:Addr×Str×Str=>V.ref q.1) pq none (some turn);refine⟨_,SqL.of gpr,fun pa fpa=>⟨_,SqL.of (af.upd fpa _ _ gpr),fun pb fpb=>?_⟩⟩;rw[ea]at fpb ⊢;rw[eb];have z1:=af.upd (o:= .lst (qa.map fun q=>V.ref q.1)) fpa;have gpa:upd G5 pa (.lst (qa.map fun q=>V.ref q.1)) pa=_:=aa
   generalize upd G5 pa (.lst (qa.map fun q=>V.ref q.1))=G6 at z1 gpa fpb ⊢
   have z2:=af.upd (o:= .lst (qb.map fun q=>V.ref q.1)) fpb;have gpb:upd G6 pb (.lst (qb.map fun q=>V.ref q.1)) pb=_:=aa;have gpa:=z2 _ _ gpa
   generalize upd G6 pb (.lst (qb.map fun q=>V.ref q.1))=G7 at z2 gpb gpa ⊢
   refine⟨_,gpa,_,gpb,bD (by rw[Z6,Z6];lia),fun pc fpc=>?_⟩;rw[<-Zd];have wl:(qa++qb).length<=8:=by rw[Z9];lia
   have win:∀q∈qa++qb,q∈pq:=fun q hq=>(Xg hq).elim (ina q) (inb q)
   generalize qa++qb=ws at wl win ⊢
   have z3:=af.upd (o:= .lst (ws.map fun q=>V.ref q.1)) fpc;have gpc:upd G7 pc (.lst (ws.map fun q=>V.ref q.1)) pc=_:=aa
   generalize upd G7 pc (.lst (ws.map fun q=>V.ref q.1))=G8 at z3 gpc ⊢
   have z13:=z1.trans (z2.trans z3);have win:∀q∈ws,G8 q.1=some (.tup [.str q.2.1,.str q.2.2])/\q.2.1∈N/\q.2.2∈N/\q.2.1≠q.2.2:=fun q hq=>⟨z13 _ _ (pin q (win q hq)).1,(pin q (win q hq)).2⟩
   have w9:=w6.trans z13;clear z1 z2 z3 z13 gpa gpb ea eb ina inb pin gpr w6;refine .inl ⟨⟨_,SqL.of gpc⟩,hK _ _ fun F hF=>?_⟩;refine bG (J:=Itl K pc) (n:=ws.length) (D:=F) (fun j vs σ H'=>(∃o1 o2,σ=[o1,o2])/\af G8 H'/\H' F=some (.lst vs)/\∃qm:List (Addr×List V),vs=qm.map (fun q=>V.ref q.1)/\qm.length=j/\∀q∈qm,H' q.1=some (.tup q.2)/\∃x y,q.2=[.str "same",.str x,.str y]/\x∈N/\y∈N/\x≠y)
    ⟨⟨none,none,rfl⟩,af.upd hF,aa,[],rfl,rfl,fun q hq=>(nomatch hq)⟩ (fun j _ _ H' hj ⟨_,sm,_⟩=>⟨_,V.ref ws[j].1,SqL.of (sm _ _ gpc),by simp[hj]⟩) (fun _ _ H' ⟨_,sm,_⟩=>⟨_,SqL.of (sm _ _ gpc),by simp⟩) ?_ ?_
   ·rintro j vs σ H3' hj ⟨⟨o1,o2,rfl⟩,s3,hFv,qm,hv,hql,hqm⟩ x H4' ⟨e2,hx⟩;subst e2;have hxi:=hx _ (SqL.of (s3 _ _ gpc));rw[Zl,Z4 hj]at hxi;obtain rfl:x=V.ref ws[j].1:=(Za hxi).symm;obtain⟨hyj,m1',m2',ne⟩:=win _ (Ya hj);refine⟨_,SqT.of (s3 _ _ hyj),rfl,_,_,rfl,_,_,rfl,rfl,?_⟩
    generalize ws[j].2.1=x at m1' ne ⊢
    generalize ws[j].2.2=y at m2' ne ⊢
    show vO [some (.str x),some (.str y)] _ _;walk_at "rd";refine⟨(show 3<=sizeLine by decide),fun p hp=>?_⟩;have s5:=af.upd (o:= .tup [V.str "same",V.str x,V.str y]) hp;have gp:upd H4' p (.tup [V.str "same",V.str x,V.str y]) p=_:=aa
    generalize upd H4' p (.tup [V.str "same",V.str x,V.str y])=H5' at s5 gp ⊢
    have keep:=j1 (ys:=vs++[V.ref p]) (s5 _ _ hFv);refine CK.mk hj (s5 _ _ hFv) (by rw[hv,Z6,hql];exact aU (by lia)) ⟨⟨_,_,rfl⟩,af.set (s3.trans s5) hF,aa,qm++[(p,[.str "same",.str x,.str y])],by rw[hv,Zd];rfl,by rw[Z9,hql];rfl,fun q hq=>?_⟩;rcases Xg hq with h|h
    ·exact⟨keep _ _ (s5 _ _ (hqm q h).1),(hqm q h).2⟩
    ·rw[Xh h];exact⟨keep _ _ gp,x,y,rfl,m1',m2',ne⟩
   rintro vs σ G9 ⟨_,s3,hF3,qm,hv,hql,hqm⟩;rw[hv]at hF3;have wj9:=w9.trans s3;have vc9:=vcj.trans wj9;have ql:qm.length<=8:=by lia
   clear hv hql s3 hF win gpc wl w9;refine k19 _ _ (ak fun D20 k20 _=>ay fun Kont hK=>?_);walk_at "rd";refine⟨by decide,by decide,by decide,by decide,hK _ _ (dz (fun i σ H'=>∃o15 o16,σ=[some (V.ref a),some (.ref l1),some (.ref l2),some (.ref l3),some (.ref g),some (.ref due),some (.ref fo),some (.ref sm0),o8,some (.ref kp),some (.ref g2),some (.int k0),some (.int turn),some (.ref pr),some (.ref F),o15,o16]/\af G9 H')
    ⟨_,_,rfl,fun _ _ e=>e⟩ ?_ ?_)⟩
   ·rintro i σ H' hi ⟨o15,o16,rfl,sm⟩;show bL _ _ _ [some (V.ref a),some (.ref l1),some (.ref l2),some (.ref l3),some (.ref g),some (.ref due),some (.ref fo),some (.ref sm0),o8,some (.ref kp),some (.ref g2),some (.int k0),some (.int turn),some (.ref pr),some (.ref F),some (.int (1+i)),o16] H';refine ak fun D21 k21 _=>?_
    have vc':=vc9.trans sm;have P1':=P1c.up vc';have sa':=sac.up vc';have h3':=vc' _ _ h3c;have hF':=sm _ _ hF3;have hqm':∀q∈qm,H' q.1=some (.tup q.2)/\∃x y,q.2=[.str "same",.str x,.str y]/\x∈N/\y∈N/\x≠y:=fun q hq=>⟨sm _ _ (hqm q hq).1,(hqm q hq).2⟩
    walk_at "rd";obtain⟨mq,em,inm,lnm⟩:=ln (fun q:Addr×List V=>V.ref q.1) qm none (some (1+(i:Int)));refine⟨_,SqL.of hF',fun mo fmo=>?_⟩;rw[em];have z1:=af.upd (o:= .lst (mq.map fun q=>V.ref q.1)) fmo;have gmo:upd H' mo (.lst (mq.map fun q=>V.ref q.1)) mo=_:=aa
    generalize upd H' mo (.lst (mq.map fun q=>V.ref q.1))=J1 at z1 gmo ⊢
    refine⟨_,z1 _ _ P1'.hm,_,gmo,bD (by rw[Z6,Z6];lia),fun sq fsq=>k21 _ _ (aD fun D22 k22 _=>?_)⟩;rw[<-Zd];have z2:=af.upd (o:= .lst ((qs++mq).map fun q=>V.ref q.1)) fsq;have gsq:upd J1 sq (.lst ((qs++mq).map fun q=>V.ref q.1)) sq=_:=aa
    generalize upd J1 sq (.lst ((qs++mq).map fun q=>V.ref q.1))=J2 at z2 gsq ⊢
    have z12:=z1.trans z2;have P2:jp J2 l1 sq (dcs ds) (qs++mq):=by
     refine⟨z12 _ _ P1'.hl,gsq,P1'.ca.up z12,nm,P1'.p1,P1'.p8,fun ls p q hq'=>?_,by rw[Z9];lia⟩;have hs:∀x∈N,x∈ls:=fun x=>(sub ls p x).mpr
     rcases Xg hq' with h|h
     ·exact⟨z12 _ _ (sa' q h).1,(sa' q h).2.mono hs⟩
     ·obtain⟨e1,x,y,e,hx',hy',ne⟩:=hqm' q (inm q h);exact⟨z12 _ _ e1,.inl ⟨_,x,y,e,.inr rfl,hs x hx',hs y hy',ne⟩⟩
    walk_at "rd";refine⟨_,.inl (SqL.of P2.hl),fun a3 fa3=>⟨_,.inl (SqL.of (af.upd fa3 _ _ gsq)),fun b3 fb3=>?_⟩⟩;have z3:=af.upd (o:= .lst (bE (dcs ds))) fa3;have ga3:upd J2 a3 (.lst (bE (dcs ds))) a3=_:=aa
    generalize upd J2 a3 (.lst (bE (dcs ds)))=J3 at z3 ga3 fb3 ⊢
    have z4:=af.upd (o:= .lst ((qs++mq).map fun q=>V.ref q.1)) fb3;have gb3:upd J3 b3 (.lst ((qs++mq).map fun q=>V.ref q.1)) b3=_:=aa;have ga3:=z4 _ _ ga3
    generalize upd J3 b3 (.lst ((qs++mq).map fun q=>V.ref q.1))=J4 at z4 gb3 ga3 ⊢
    have z34:=z3.trans z4;refine fun g3 dx3 fg3 fdx3 _=>oh fg3 fdx3 ga3 gb3 (P2.up z34) fun J5 ls3 ts3 c43 z5 gr3 pl3=>?_
    have z25:=z34.trans z5;refine gG gr3 fun d3 J6 ss3 z6 fd3 hd3 td3 _ dk3=>?_
    have z26:=z25.trans z6;refine xt (gr3.up z6) (sub ls3 pl3) nn (by lia) (z26 _ _ (z12 _ _ h3')) (z26 _ _ gsq) fun e3 J7 us3 z7 fe3 he3 te3 du3=>?_
    refine eQ gr3.so gr3.ll (z7 _ _ hd3) he3 (td3.up z7) te3 dk3 (dk3.one du3) fun J8 z8=>⟨true,rfl,?_⟩
    rw[if_neg (by decide)];exact k22 _ _ ⟨_,_,rfl,sm.trans (z12.trans (z26.trans (z7.trans z8)))⟩
   ·rintro σ H' ⟨o15,o16,rfl,sm⟩;refine k20 _ _ ?_;walk_at "rd";exact fin H' _ (vc9.trans sm) kk
end
def DI(K:PySem.W.Frag)(x:Str)(st:Stmt):Prop:=∃(f:Addr) (oc:Value) (od an:Option Addr) (sl:Array (Option Value)) (kV dc pm cd ct:Value),nsIn K mainGlobals x=some (some (.ref f))/\K.lookup f=some ⟨oc,od,.func (fnOf x x (bX st) (bw st) (ag st) .none kV dc pm an cd ct),sl⟩/\codeIn K cd x=true/\keepIn K (.ref f)=true
theorem di_mk{K:PySem.W.Frag}{x:Str}{st:Stmt}{f:Addr}{oc:Value}{od an:Option Addr}{sl:Array (Option Value)}{kV dc pm cd ct:Value}(a:nsIn K mainGlobals x=some (some (.ref f)))(l:K.lookup f=some ⟨oc,od,.func (fnOf x x (bX st) (bw st) (ag st) .none kV dc pm an cd ct),sl⟩)(c:codeIn K cd x=true)(k:keepIn K (.ref f)=true):DI K x st:=⟨f,oc,od,an,sl,kV,dc,pm,cd,ct,a,l,c,k⟩
theorem aJ{K:PySem.W.Frag}{h:Heap}{mg:Str->Option Value}{x:Str}{st:Stmt}{ps:List Str}(X:K.In h)(G:h.Ns mainGlobals mg)(d:DI K x st)(b:∀(kV doc pm:Value) (an:Option Addr) (cdv ct:Value) (us:List Value),us.length=ps.length->bindArgs (fnOf x x (bX st) (bw st) (ag st) .none kV doc pm an cdv ct) ⟨us,[]⟩=pure (ps.zip us)):aX K mg x st ps:=by
 obtain⟨f,oc,od,an,sl,kV,dc,pm,cd,ct,a,l,c,k⟩:=d;exact AB X G a l c k b
theorem all_mk{l:PySem.W.OpenLaw}{w:World}{K:PySem.W.Frag}{h:Heap}{mg:Str->Option Value}{fa f35:Addr}(X:K.In h)(G:h.Ns mainGlobals mg)(hfa:mg "law"=some (.ref fa))
 {od35 an35:Option Addr} {sl35:Array (Option Value)} {oc35 kV35 dc35 pm35 cd35 ct35:Value}
 (a1:DI K "names_by_layer" cO)
 (a2:DI K "join_deposits" c9)
 (a3:DI K "least_pointed_to" cB)
 (a4:DI K "deposits" hW)
 (a5:DI K "deposit_of" e8)
 (a6:DI K "is_name" gB)
 (a7:DI K "rows_of" jc)
 (a8:DI K "is_row" iK)
 (a9:DI K "lies_beneath" cG)
 (a10:DI K "letters_in" dt)
 (a11:DI K "letters" jd)
 (a12:DI K "meetings" h9)
 (a13:DI K "meetings_between" bM)
 (a14:DI K "check_cuts" fb)
 (a15:DI K "is_named_cut" dQ)
 (a16:DI K "is_cut" kO)
 (a17:DI K "check_sayings" db)
 (a18:DI K "is_saying" gc)
 (a19:DI K "is_text_among" df)
 (a20:DI K "is_year" jf)
 (a21:DI K "layer_name" fh)
 (a22:DI K "layers_of" ef)
 (a23:DI K "ties_of_cuts" dR)
 (a24:DI K "ties_of_sayings" cH)
 (a25:DI K "_law_cell_at" eD)
 (a26:DI K "_law_row" jg)
 (a27:DI K "_law_column" fi)
 (a28:DI K "_law_sign" ic)
 (a29:DI K "_law_cut" cR)
 (a30:DI K "_law_saying" fj)
 (a31:DI K "_law_ground" dw)
 (a32:DI K "_law_one_with" dS)
 (a33:DI K "_law_due" jh)
 (a34:DI K "_law_right" ei)
 (a35:nsIn K mainGlobals "law"=some (some (.ref f35))) (l35:K.lookup f35=some ⟨oc35,od35,.func (fnOf "law" "law" (bX gf) (bw gf) (ag gf) .none kV35 dc35 pm35 an35 cd35 ct35),sl35⟩) (c35:codeIn K cd35 "law"=true) (k35:keepIn K (.ref f35)=true)
 {u_LONGEST_NAME u_LETTERS u_MOST_ROWS u_MOST_SIGNS u_AIR u_MOST_CUTS u_MOST_SAYINGS u_FIRST_YEAR u_LAST_YEAR:Value}
 (zb_min:nsIn K mainGlobals "min"=some none)
 (zb_max:nsIn K mainGlobals "max"=some none)
 (zb_list:nsIn K mainGlobals "list"=some none)
 (zb_len:nsIn K mainGlobals "len"=some none)
 (zb_all:nsIn K mainGlobals "all"=some none)
 (zb_str:nsIn K mainGlobals "str"=some none)
 (zb_isinstance:nsIn K mainGlobals "isinstance"=some none)
 (zb_enumerate:nsIn K mainGlobals "enumerate"=some none)
 (zb_zip:nsIn K mainGlobals "zip"=some none)
 (zb_set:nsIn K mainGlobals "set"=some none)
 (zb_sorted:nsIn K mainGlobals "sorted"=some none)
 (zb_tuple:nsIn K mainGlobals "tuple"=some none)
 (zb_int:nsIn K mainGlobals "int"=some none)
 (zb_bool:nsIn K mainGlobals "bool"=some none)
 (zb_range:nsIn K mainGlobals "range"=some none)
 (zb_abs:nsIn K mainGlobals "abs"=some none)
 (zg_LONGEST_NAME:nsIn K mainGlobals "LONGEST_NAME"=some (some u_LONGEST_NAME)) (rg_LONGEST_NAME:aA (.int 8) u_LONGEST_NAME)
 (zg_LETTERS:nsIn K mainGlobals "LETTERS"=some (some u_LETTERS)) (rg_LETTERS:aA (.str "abcdefghijklmnopqrstuvwxyz") u_LETTERS)
 (zg_MOST_ROWS:nsIn K mainGlobals "MOST_ROWS"=some (some u_MOST_ROWS)) (rg_MOST_ROWS:aA (.int 40) u_MOST_ROWS)
 (zg_MOST_SIGNS:nsIn K mainGlobals "MOST_SIGNS"=some (some u_MOST_SIGNS)) (rg_MOST_SIGNS:aA (.int 40) u_MOST_SIGNS)
 (zg_AIR:nsIn K mainGlobals "AIR"=some (some u_AIR)) (rg_AIR:aA (.str ".") u_AIR)
 (zg_MOST_CUTS:nsIn K mainGlobals "MOST_CUTS"=some (some u_MOST_CUTS)) (rg_MOST_CUTS:aA (.int 8) u_MOST_CUTS)
 (zg_MOST_SAYINGS:nsIn K mainGlobals "MOST_SAYINGS"=some (some u_MOST_SAYINGS)) (rg_MOST_SAYINGS:aA (.int 60) u_MOST_SAYINGS)
 (zg_FIRST_YEAR:nsIn K mainGlobals "FIRST_YEAR"=some (some u_FIRST_YEAR)) (rg_FIRST_YEAR:aA (.int (-9999)) u_FIRST_YEAR)
 (zg_LAST_YEAR:nsIn K mainGlobals "LAST_YEAR"=some (some u_LAST_YEAR)) (rg_LAST_YEAR:aA (.int 9999) u_LAST_YEAR)
 {C_Ground:Addr}
 (zc_Ground:nsIn K mainGlobals "Ground"=some (some (.ref C_Ground)))
 (zo_Ground0:plainGet K C_Ground Str.empty=true)
 (zo_Ground1:hasDictIn K C_Ground=true)
 (zo_Ground2:plainOver K C_Ground=true)
 (zo_Ground3:findIn K (.ref C_Ground) "__setattr__"=some (some (.builtin "object.__setattr__")))
 (zn_Ground_kept_cuts:findIn K (.ref C_Ground) "kept_cuts"=some none)
 (zn_Ground_kept_sayings:findIn K (.ref C_Ground) "kept_sayings"=some none)
 (zn_Ground_kept_layers:findIn K (.ref C_Ground) "kept_layers"=some none)
 (zn_Ground_kept_ties:findIn K (.ref C_Ground) "kept_ties"=some none)
 {fi_Ground___init__:Addr} {od_Ground___init__ an_Ground___init__:Option Addr} {sl_Ground___init__:Array (Option Value)} {oc_Ground___init__ kV_Ground___init__ dc_Ground___init__ pm_Ground___init__ cd_Ground___init__ ct_Ground___init__:Value}
 (zm_Ground___init__0:findIn K (.ref C_Ground) "__init__"=some (some (.ref fi_Ground___init__)))
 (zm_Ground___init__1:K.lookup fi_Ground___init__=some ⟨oc_Ground___init__,od_Ground___init__,.func (fnOf "__init__" "Ground.__init__" (bX bC) (bw bC) (ag bC) .none kV_Ground___init__ dc_Ground___init__ pm_Ground___init__ an_Ground___init__ cd_Ground___init__ ct_Ground___init__),sl_Ground___init__⟩)
 (zm_Ground___init__2:codeIn K cd_Ground___init__ "Ground.__init__"=true)
 (zm_Ground___init__3:keepIn K (.ref fi_Ground___init__)=true)
 (zm_Ground___init__4:isFn K (.ref fi_Ground___init__)=true)
 (zm_Ground___init__5:makesIn K C_Ground=true)
 (zm_Ground___init__6:keepIn K (.ref C_Ground)=true)
 {fi_Ground_sayings:Addr} {od_Ground_sayings an_Ground_sayings:Option Addr} {sl_Ground_sayings:Array (Option Value)} {oc_Ground_sayings kV_Ground_sayings dc_Ground_sayings pm_Ground_sayings cd_Ground_sayings ct_Ground_sayings:Value}
 (zm_Ground_sayings0:findIn K (.ref C_Ground) "sayings"=some (some (.ref fi_Ground_sayings)))
 (zm_Ground_sayings1:K.lookup fi_Ground_sayings=some ⟨oc_Ground_sayings,od_Ground_sayings,.func (fnOf "sayings" "Ground.sayings" (bX bH) (bw bH) (ag bH) .none kV_Ground_sayings dc_Ground_sayings pm_Ground_sayings an_Ground_sayings cd_Ground_sayings ct_Ground_sayings),sl_Ground_sayings⟩)
 (zm_Ground_sayings2:codeIn K cd_Ground_sayings "Ground.sayings"=true)
 (zm_Ground_sayings3:keepIn K (.ref fi_Ground_sayings)=true)
 (zm_Ground_sayings4:isFn K (.ref fi_Ground_sayings)=true)
 {fi_Ground_layers:Addr} {od_Ground_layers an_Ground_layers:Option Addr} {sl_Ground_layers:Array (Option Value)} {oc_Ground_layers kV_Ground_layers dc_Ground_layers pm_Ground_layers cd_Ground_layers ct_Ground_layers:Value}
 (zm_Ground_layers0:findIn K (.ref C_Ground) "layers"=some (some (.ref fi_Ground_layers)))
 (zm_Ground_layers1:K.lookup fi_Ground_layers=some ⟨oc_Ground_layers,od_Ground_layers,.func (fnOf "layers" "Ground.layers" (bX bR) (bw bR) (ag bR) .none kV_Ground_layers dc_Ground_layers pm_Ground_layers an_Ground_layers cd_Ground_layers ct_Ground_layers),sl_Ground_layers⟩)
 (zm_Ground_layers2:codeIn K cd_Ground_layers "Ground.layers"=true)
 (zm_Ground_layers3:keepIn K (.ref fi_Ground_layers)=true)
 (zm_Ground_layers4:isFn K (.ref fi_Ground_layers)=true)
 {ta_YEAR_WORDS:Addr} {to_YEAR_WORDS:Obj} {ti_YEAR_WORDS:Array Value} {tn_YEAR_WORDS:Nat}
 (zt_YEAR_WORDS0:nsIn K mainGlobals "YEAR_WORDS"=some (some (.ref ta_YEAR_WORDS)))
 (zt_YEAR_WORDS1:K.lookup ta_YEAR_WORDS=some to_YEAR_WORDS)
 (zt_YEAR_WORDS2:to_YEAR_WORDS.cls= .type "tuple")
 (zt_YEAR_WORDS3:to_YEAR_WORDS.data= .seq ti_YEAR_WORDS tn_YEAR_WORDS)
 (zt_YEAR_WORDS4:ti_YEAR_WORDS.size<=sizeLine)
 (zt_YEAR_WORDS5:aC [.str "since",.str "by"] ti_YEAR_WORDS.toList)
 {ta_LAYER_WORDS:Addr} {to_LAYER_WORDS:Obj} {ti_LAYER_WORDS:Array Value} {tn_LAYER_WORDS:Nat}
 (zt_LAYER_WORDS0:nsIn K mainGlobals "LAYER_WORDS"=some (some (.ref ta_LAYER_WORDS)))
 (zt_LAYER_WORDS1:K.lookup ta_LAYER_WORDS=some to_LAYER_WORDS)
 (zt_LAYER_WORDS2:to_LAYER_WORDS.cls= .type "tuple")
 (zt_LAYER_WORDS3:to_LAYER_WORDS.data= .seq ti_LAYER_WORDS tn_LAYER_WORDS)
 (zt_LAYER_WORDS4:ti_LAYER_WORDS.size<=sizeLine)
 (zt_LAYER_WORDS5:aC [.str "later",.str "same"] ti_LAYER_WORDS.toList)
 :∃fd:FuncData,(∀(s:Shared) (v:Value),BindsTo s fd ⟨[v],[]⟩ [("_law_script",v)])/\∀base:Heap,K.In base->base.Ns mainGlobals mg->gR l.prog w K mg base CX0 12 fa fd ["_law_script"] (og K):=by
 have e:=hfa.symm.trans (mg_of X G a35);cases e;have e_Ground:=yy (mg_of X G zc_Ground);subst e_Ground;have T:Txt K mg:=⟨mg_none_of X G zb_min,
  mg_none_of X G zb_max,
  mg_none_of X G zb_list,
  mg_none_of X G zb_len,
  mg_none_of X G zb_all,
  mg_none_of X G zb_str,
  mg_none_of X G zb_isinstance,
  mg_none_of X G zb_enumerate,
  mg_none_of X G zb_zip,
  mg_none_of X G zb_set,
  mg_none_of X G zb_sorted,
  mg_none_of X G zb_tuple,
  mg_none_of X G zb_int,
  mg_none_of X G zb_bool,
  mg_none_of X G zb_range,
  mg_none_of X G zb_abs,
  iq X G zg_LONGEST_NAME rg_LONGEST_NAME,
  iq X G zg_LETTERS rg_LETTERS,
  iq X G zg_MOST_ROWS rg_MOST_ROWS,
  iq X G zg_MOST_SIGNS rg_MOST_SIGNS,
  iq X G zg_AIR rg_AIR,
  iq X G zg_MOST_CUTS rg_MOST_CUTS,
  iq X G zg_MOST_SAYINGS rg_MOST_SAYINGS,
  iq X G zg_FIRST_YEAR rg_FIRST_YEAR,
  iq X G zg_LAST_YEAR rg_LAST_YEAR,
  aJ X G a1 (fun _ _ _ _ _ _ us hl=>match us,hl with|[_],_=>rfl),
  aJ X G a2 (fun _ _ _ _ _ _ us hl=>match us,hl with|[_,_,_],_=>rfl),
  aJ X G a3 (fun _ _ _ _ _ _ us hl=>match us,hl with|[_,_],_=>rfl),
  aJ X G a4 (fun _ _ _ _ _ _ us hl=>match us,hl with|[_],_=>rfl),
  aJ X G a5 (fun _ _ _ _ _ _ us hl=>match us,hl with|[_,_],_=>rfl),
  aJ X G a6 (fun _ _ _ _ _ _ us hl=>match us,hl with|[_],_=>rfl),
  aJ X G a7 (fun _ _ _ _ _ _ us hl=>match us,hl with|[_],_=>rfl),
  aJ X G a8 (fun _ _ _ _ _ _ us hl=>match us,hl with|[_],_=>rfl),
  aJ X G a9 (fun _ _ _ _ _ _ us hl=>match us,hl with|[_,_],_=>rfl),
  aJ X G a10 (fun _ _ _ _ _ _ us hl=>match us,hl with|[_],_=>rfl),
  aJ X G a11 (fun _ _ _ _ _ _ us hl=>match us,hl with|[_],_=>rfl),
  aJ X G a12 (fun _ _ _ _ _ _ us hl=>match us,hl with|[_],_=>rfl),
  aJ X G a13 (fun _ _ _ _ _ _ us hl=>match us,hl with|[_,_],_=>rfl),
  aJ X G a14 (fun _ _ _ _ _ _ us hl=>match us,hl with|[_],_=>rfl),
  aJ X G a15 (fun _ _ _ _ _ _ us hl=>match us,hl with|[_],_=>rfl),
  aJ X G a16 (fun _ _ _ _ _ _ us hl=>match us,hl with|[_],_=>rfl),
  aJ X G a17 (fun _ _ _ _ _ _ us hl=>match us,hl with|[_,_],_=>rfl),
  aJ X G a18 (fun _ _ _ _ _ _ us hl=>match us,hl with|[_,_],_=>rfl),
  aJ X G a19 (fun _ _ _ _ _ _ us hl=>match us,hl with|[_,_],_=>rfl),
  aJ X G a20 (fun _ _ _ _ _ _ us hl=>match us,hl with|[_],_=>rfl),
  aJ X G a21 (fun _ _ _ _ _ _ us hl=>match us,hl with|[_,_],_=>rfl),
  aJ X G a22 (fun _ _ _ _ _ _ us hl=>match us,hl with|[_],_=>rfl),
  aJ X G a23 (fun _ _ _ _ _ _ us hl=>match us,hl with|[_],_=>rfl),
  aJ X G a24 (fun _ _ _ _ _ _ us hl=>match us,hl with|[_],_=>rfl),
  aJ X G a25 (fun _ _ _ _ _ _ us hl=>match us,hl with|[_,_],_=>rfl),
  aJ X G a26 (fun _ _ _ _ _ _ us hl=>match us,hl with|[_,_],_=>rfl),
  aJ X G a27 (fun _ _ _ _ _ _ us hl=>match us,hl with|[_,_,_],_=>rfl),
  aJ X G a28 (fun _ _ _ _ _ _ us hl=>match us,hl with|[_,_],_=>rfl),
  aJ X G a29 (fun _ _ _ _ _ _ us hl=>match us,hl with|[_,_],_=>rfl),
  aJ X G a30 (fun _ _ _ _ _ _ us hl=>match us,hl with|[_,_,_],_=>rfl),
  aJ X G a31 (fun _ _ _ _ _ _ us hl=>match us,hl with|[_],_=>rfl),
  aJ X G a32 (fun _ _ _ _ _ _ us hl=>match us,hl with|[_,_],_=>rfl),
  aJ X G a33 (fun _ _ _ _ _ _ us hl=>match us,hl with|[_,_],_=>rfl),
  aJ X G a34 (fun _ _ _ _ _ _ us hl=>match us,hl with|[_,_],_=>rfl),
  ⟨mg_of X G zc_Ground,zo_Ground0,zo_Ground1,zo_Ground2,zo_Ground3⟩,
  zn_Ground_kept_cuts,
  zn_Ground_kept_sayings,
  zn_Ground_kept_layers,
  zn_Ground_kept_ties,
  ⟨fi_Ground___init__,_,⟨zm_Ground___init__5,zm_Ground___init__0,zm_Ground___init__4,zm_Ground___init__6⟩,eS zm_Ground___init__1 zm_Ground___init__2 zm_Ground___init__3,(eS zm_Ground___init__1 zm_Ground___init__2 zm_Ground___init__3).binds (fun _ _ _ _ _ _ us hl=>match us,hl with|[_,_,_],_=>rfl)⟩,
  ⟨fi_Ground_sayings,_,⟨zm_Ground_sayings0,zm_Ground_sayings4,zm_Ground_sayings3⟩,eS zm_Ground_sayings1 zm_Ground_sayings2 zm_Ground_sayings3,(eS zm_Ground_sayings1 zm_Ground_sayings2 zm_Ground_sayings3).binds (fun _ _ _ _ _ _ us hl=>match us,hl with|[_],_=>rfl)⟩,
  ⟨fi_Ground_layers,_,⟨zm_Ground_layers0,zm_Ground_layers4,zm_Ground_layers3⟩,eS zm_Ground_layers1 zm_Ground_layers2 zm_Ground_layers3,(eS zm_Ground_layers1 zm_Ground_layers2 zm_Ground_layers3).binds (fun _ _ _ _ _ _ us hl=>match us,hl with|[_],_=>rfl)⟩,
  wF X G zt_YEAR_WORDS0 zt_YEAR_WORDS1 zt_YEAR_WORDS2 zt_YEAR_WORDS3 zt_YEAR_WORDS4 zt_YEAR_WORDS5,
  wF X G zt_LAYER_WORDS0 zt_LAYER_WORDS1 zt_LAYER_WORDS2 zt_LAYER_WORDS3 zt_LAYER_WORDS4 zt_LAYER_WORDS5⟩
 exact⟨fnOf "law" "law" (bX gf) (bw gf) (ag gf) .none kV35 dc35 pm35 an35 cd35 ct35,fun s v=> .of_eq rfl,fun base _ _=>A8 (eS (st:=gf) l35 c35 k35) T⟩
theorem walk{l:PySem.W.OpenLaw}{q:Program}{loose:List Str}{XP:(Str->Option Value)->Heap->Prop}{YP:World->Heap->Prop}{d:DefRec}{K:Params->PySem.W.Frag}(hn:l.most=some 63)(hdf:d.params.defaults=[])
 (hY:∀(w:World) (h:Heap),YP w h->(K w.params).In h)
 (F:∀(w:World) (mg:Str->Option Value) (fa:Addr) (h:Heap),(K w.params).In h->h.Ns mainGlobals mg->mg d.name=some (.ref fa)->
  ∃fd:FuncData,(∀(s:Shared) (u:Value),BindsTo s fd ⟨[u],[]⟩ [("_law_script",u)])/\∀base:Heap,(K w.params).In base->base.Ns mainGlobals mg->gR l.prog w (K w.params) mg base CX0 12 fa fd ["_law_script"] (og (K w.params))):
 PySem.W.WalkO q loose XP YP l.row.toRowW d [] (fun f vs=>PySem.call f vs):=
 L2.walk_of (n:=63) (k:=12) (x:="_law_script") (CX:=fun _=>CX0) (sp:=fun w=>og (K w.params)) hn (by decide) hdf ⟨rfl,by decide,by decide⟩ hY F (fun _ _ a ns hl hO hS=>⟨a,ns,rfl,hS,hO,hl,fun _=>rfl⟩) fun _ _ _ _ _ z=>z
end K21
open PySem PySem.W PyProof.Rows
set_option maxRecDepth 100000 in
theorem PySem.Challenge.cw_digbook_k21_deposits_holds : PySem.Challenge.rw_digbook_k21_deposits.Holds := by
 w_on;o_law;k_head;(case hw=>w_witness2)
 k_fill
 refine K21.walk (l:=PySem.Challenge.rw_digbook_k21_deposits) rfl rfl (fun w h Y=>PySem.W.kIn_of Y) ?F
 case F=>
  intro w mg fa h KX G hmg;refine' K21.all_mk KX G hmg ?_ ?_ ?_ ?_ ?_ ?_ ?_ ?_ ?_ ?_ ?_ ?_ ?_ ?_ ?_ ?_ ?_ ?_ ?_ ?_ ?_ ?_ ?_ ?_ ?_ ?_ ?_ ?_ ?_ ?_ ?_ ?_ ?_ ?_ ?a35 ?l35 ?c35 ?k35 ?zb_min ?zb_max ?zb_list ?zb_len ?zb_all ?zb_str ?zb_isinstance ?zb_enumerate ?zb_zip ?zb_set ?zb_sorted ?zb_tuple ?zb_int ?zb_bool ?zb_range ?zb_abs ?zg_LONGEST_NAME ?rg_LONGEST_NAME ?zg_LETTERS ?rg_LETTERS ?zg_MOST_ROWS ?rg_MOST_ROWS ?zg_MOST_SIGNS ?rg_MOST_SIGNS ?zg_AIR ?rg_AIR ?zg_MOST_CUTS ?rg_MOST_CUTS ?zg_MOST_SAYINGS ?rg_MOST_SAYINGS ?zg_FIRST_YEAR ?rg_FIRST_YEAR ?zg_LAST_YEAR ?rg_LAST_YEAR ?zc_Ground ?zo_Ground0 ?zo_Ground1 ?zo_Ground2 ?zo_Ground3 ?zn_Ground_kept_cuts ?zn_Ground_kept_sayings ?zn_Ground_kept_layers ?zn_Ground_kept_ties ?zm_Ground___init__0 ?zm_Ground___init__1 ?zm_Ground___init__2 ?zm_Ground___init__3 ?zm_Ground___init__4 ?zm_Ground___init__5 ?zm_Ground___init__6 ?zm_Ground_sayings0 ?zm_Ground_sayings1 ?zm_Ground_sayings2 ?zm_Ground_sayings3 ?zm_Ground_sayings4 ?zm_Ground_layers0 ?zm_Ground_layers1 ?zm_Ground_layers2 ?zm_Ground_layers3 ?zm_Ground_layers4 ?zt_YEAR_WORDS0 ?zt_YEAR_WORDS1 ?zt_YEAR_WORDS2 ?zt_YEAR_WORDS3 ?zt_YEAR_WORDS4 ?zt_YEAR_WORDS5 ?zt_LAYER_WORDS0 ?zt_LAYER_WORDS1 ?zt_LAYER_WORDS2 ?zt_LAYER_WORDS3 ?zt_LAYER_WORDS4 ?zt_LAYER_WORDS5
  any_goals (refine' K21.di_mk ?a ?l ?c ?k;(case a=>k_is);(case l=>k_is);(case c=>k_is);(case k=>k_is))
  (case a35=>k_is)
  (case l35=>k_is)
  (case c35=>k_is)
  (case k35=>k_is)
  (case zb_min=>k_is)
  (case zb_max=>k_is)
  (case zb_list=>k_is)
  (case zb_len=>k_is)
  (case zb_all=>k_is)
  (case zb_str=>k_is)
  (case zb_isinstance=>k_is)
  (case zb_enumerate=>k_is)
  (case zb_zip=>k_is)
  (case zb_set=>k_is)
  (case zb_sorted=>k_is)
  (case zb_tuple=>k_is)
  (case zb_int=>k_is)
  (case zb_bool=>k_is)
  (case zb_range=>k_is)
  (case zb_abs=>k_is)
  (case zg_LONGEST_NAME=>k_is)
  (case rg_LONGEST_NAME=>exact⟨_,rfl⟩)
  (case zg_LETTERS=>k_is)
  (case rg_LETTERS=>exact⟨_,rfl⟩)
  (case zg_MOST_ROWS=>k_is)
  (case rg_MOST_ROWS=>exact⟨_,rfl⟩)
  (case zg_MOST_SIGNS=>k_is)
  (case rg_MOST_SIGNS=>exact⟨_,rfl⟩)
  (case zg_AIR=>k_is)
  (case rg_AIR=>exact⟨_,rfl⟩)
  (case zg_MOST_CUTS=>k_is)
  (case rg_MOST_CUTS=>exact⟨_,rfl⟩)
  (case zg_MOST_SAYINGS=>k_is)
  (case rg_MOST_SAYINGS=>exact⟨_,rfl⟩)
  (case zg_FIRST_YEAR=>k_is)
  (case rg_FIRST_YEAR=>exact⟨_,rfl⟩)
  (case zg_LAST_YEAR=>k_is)
  (case rg_LAST_YEAR=>exact⟨_,rfl⟩)
  (case zc_Ground=>k_is)
  (case zo_Ground0=>k_is)
  (case zo_Ground1=>k_is)
  (case zo_Ground2=>k_is)
  (case zo_Ground3=>k_is)
  (case zn_Ground_kept_cuts=>k_is)
  (case zn_Ground_kept_sayings=>k_is)
  (case zn_Ground_kept_layers=>k_is)
  (case zn_Ground_kept_ties=>k_is)
  (case zm_Ground___init__0=>k_is)
  (case zm_Ground___init__1=>k_is)
  (case zm_Ground___init__2=>k_is)
  (case zm_Ground___init__3=>k_is)
  (case zm_Ground___init__4=>k_is)
  (case zm_Ground___init__5=>k_is)
  (case zm_Ground___init__6=>k_is)
  (case zm_Ground_sayings0=>k_is)
  (case zm_Ground_sayings1=>k_is)
  (case zm_Ground_sayings2=>k_is)
  (case zm_Ground_sayings3=>k_is)
  (case zm_Ground_sayings4=>k_is)
  (case zm_Ground_layers0=>k_is)
  (case zm_Ground_layers1=>k_is)
  (case zm_Ground_layers2=>k_is)
  (case zm_Ground_layers3=>k_is)
  (case zm_Ground_layers4=>k_is)
  (case zt_YEAR_WORDS0=>k_is)
  (case zt_YEAR_WORDS1=>k_is)
  (case zt_YEAR_WORDS2=>rfl)
  (case zt_YEAR_WORDS3=>rfl)
  (case zt_YEAR_WORDS4=>decide)
  (case zt_YEAR_WORDS5=>exact .cons ⟨_,rfl⟩ (.cons ⟨_,rfl⟩ (.nil)))
  (case zt_LAYER_WORDS0=>k_is)
  (case zt_LAYER_WORDS1=>k_is)
  (case zt_LAYER_WORDS2=>rfl)
  (case zt_LAYER_WORDS3=>rfl)
  (case zt_LAYER_WORDS4=>decide)
  (case zt_LAYER_WORDS5=>exact .cons ⟨_,rfl⟩ (.cons ⟨_,rfl⟩ (.nil)))
