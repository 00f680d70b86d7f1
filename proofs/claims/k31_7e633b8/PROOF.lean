import PyProof.Rows.All
import Wide.All
import OpenK.AllK
import Wide.FinOn
import Lean
import PyProof.EqAt
import PyProof.EqKinds
import PyProof.TupleCall
import PyProof.ExcInit
import PyProof.ExcClass2
import PyProof.InstStoreFacts
import OpenK.KOwn
import PyProof.RulesAs
import PyProof.ExcAttrAll.ValueError
import KE.KIsAll
import KE.KRevSl
import KE.KRevIter
import PyProof.Rows.SortRuns
import PySem.SetTable
import PySem.SetOps
import PyProof.TupleKey
import PyProof.SetKind
import PyProof.Rows.SetObj
import KE.KDictSum
import PyProof.WalkInts
import KE.KDictOf
import PyProof.AttrMissHeap
import PyProof.DictWalks
import KE.KDictLaws
import KE.KDictList
import PyProof.FString2
import PyProof.ReprRoads
import PyProof.ReprLen
import PyProof.Rows.CallKwBuiltin
import PySem.Challenge.RW_digbook_k31_rings_told
set_option linter.all false
set_option compiler.extract_closed false
structure PySem.W.Fast:Prop where(tw4432701418757273360 tw16124889252081526154 tw9643378678649518276 tw11625327212944184259 tw8398378015554382031 tw9014589486898766672 tw6693636567216162105 tw2200421091906338464 tw15282139775605400616 tw6810556332998542689 tw14500528630041749187 tw12913106829198897572 tw7600221973736204656 tw17139709814148154702 tw16916213317035616778 tw11604503074806651886 tw8686774730350846295 tw7004952332586912735 tw16020432903177883614 tw2462076573906697375 tw242977668557253558 tw17482876163123594867 tw4725788679116571830 tw14159823949001071082 tw10703270293105304824 tw10372692599542353141 tw6375763858560229050 tw15125533231264127951 tw3408321107099515199 tw13455751288072781846 tw9594814035972373137 tw18218611663781540436 tw10374936409646993154 tw12513756055504316337 tw7613453333902242932 tw9547914149964407799 tw7347691081671107273 tw3033701864434387882 tw10186530790827168638 tw7639416121523866666 tw15120094202588342948 tw17626395653797935450 tw6301410031249871937 tw12864188532726511952 tw11213779829299600274 tw7623970146695803404 tw4416204144813131800 tw3217036502868826335 tw14366567788800077304 tw7037041341578211379 tw6256552612623293403 tw9777779607181366993 tw4548318054497032549 tw13115605879806089135 tw6689113477333126431 tw478665363188354532 tw4436645866034045203 tw11542569104517421333 tw9446429094116037863 tw1616024890979329609 tw1100303477364012934 tw16488651944814875944 tw8202255445517549971 tw7410962928470414276 tw873217599874539782 tw14912214825929383959 tw8750573397891082738 tw9823315293757210008 tw1316889942056064944 tw7568539297202908519 tw1557052751605822292 tw6331226409113656663 tw1746477375323985580 tw6636701635401578938 tw8106472813788936855 tw7432432852860148582 tw12899009810512516302 tw7668356090390148520 tw6373237625782852536 tw989046129627362733 tw1222300420352881838 tw13391882953521772649 tw3540564879882105774 tw14102391160110772695 tw17956042351180648915 tw14525128346537378334 tw5654274252240074969 tw6972647287265326346 tw17237743458181517460 tw8342036485102810669 tw2389853712893875549 tw4961644845444352665 tw17229809018608038339 tw9922936840469576082 tw10225677366101095096 tw17206469245736175201 tw15769746378655352992 tw17015478577283671152 tw10411644287454208019 tw8902828156128953551 tw1366561057844081100 tw2541971848566898105 tw6797016259228986342 tw10603382923900651304 tw2493381060502894652 tw9400235932134681257 tw7468815928905763687 tw16271342757904141761 tw15834163578605458272 tw11063862252142340816 tw5782586335917077048 tw1684883575538181073 tw9486488497344134270 tw8331112346361788829 tw14067339183995180960 tw15843771357716160308 tw3062247277821631474 tw12850537416578276547 tw13468040931715984715 tw10056419252848551232 tw6052210796803072786 tw4930500107250473613 tw957522524014154213 tw5127877830970533996 tw13313216842794278564 tw2617150869208642379 tw15389931461456773520 tw11522293335745152095 tw7897983309971060481 tw8633037417847681960 tw5413015564012798161 tw4898447164143203627 tw890032946556141798 tw6246343395560061360 tw11819113588825668377 tw5227291485578027597 tw4340897444964503619 tw14932162993332997234 tw2405662683929892127 tw320396511101626135 tw12434955752205929012 tw7074682524302899231 tw7983074625307943891 tw18440097430398350794 tw16096116668360741683 tw4310146631582289590 tw460465648465573630 tw975942627515897382 tw14349993266492503915 tw6371302451685815941 tw10851100961103772311 tw2022487097105007795 tw4217994617307052121 tw15382139430332820871 tw14720058997438345516 tw11047992412535897046 tw7658572644763602204 tw18149636190634816533 tw15579538991456020862 tw6422929525752733940 tw18361600141482919119 tw2682582982915223658 tw3520772367036263464 tw4923538843718315243 tw7775925376091534940 tw8105752376561912926 tw6668797351300084332 tw9836667576417551999 tw4903663153555017488 tw2297229840086022885 tw17478966899853324594 tw12777437682693194708 tw11720776172511676887 tw7192741105164843022 tw14098875133708237510 tw5198514965120310470 tw1687657875996645467 tw7576413185296995393 tw4556414731339737907 tw11557909293882875900 tw6740333049014863656 tw2089605030855983705 tw5252262994260184730 tw12604269241298655416 tw7767758222473727817 tw9881962624641641464 tw14268566682961435069 tw9309438197205107656 tw8256582025681784841 tw10218995259980240396 tw9437464832285333527 tw5959431997531933752 tw6707617062127833654 tw16528451115356477894 tw9945320818727972895 tw1876864124324847821 tw10477450090897331121 tw4474956317676368680 tw4337852091270698458 tw8395163667659349689 tw17365531176798323777 tw16004247635250285803 tw9476034653042240755 tw10976304056047815746 tw8179003001891274990 tw16256853018166582170 tw7167901043825673434 tw10743788861319566552 tw980834451542008726 tw9297906702145333940 tw7361074101011074258 tw4336503057136454545 tw16081437783280611854 tw13417313370453132701 tw11579593938027526711 tw3196771282710874173 tw11274992002286672982 tw11543466966397513622 tw13907945254965399103 tw5951917933562270383 tw3771234411246782111 tw15447153340211800110 tw1961274541190249166 tw15353490624445697204 tw13361542641426200679 tw11539134886449993460 tw313341303452810869 tw2385475947274362056 tw2041466318124900935 tw4113382030552208691 tw9593966654140172305 tw7891393722962474362 tw3036970286163534367 tw3175788712346192014 tw3534449476148000170 tw12393620314239890739 tw10159917466407375248 tw1844420389161677244 tw18412821736807230346 tw9217009125496020890 tw1783502353814616608 tw12834194153253032629 tw4324158184254391926 tw9690669166021768623 tw8982457792862502647 tw8096402728664582564 tw7969678565201372510 tw5114767337878593268 tw4643832960185915274 tw4223966015291953578 tw4007577698581886771 tw3140188835759934203 tw2859900414471361088 tw2360346088243109867 tw1911322653062276301 tw17802513708345016003 tw17504138257183778473 tw17380415089991442711 tw17126832058663197258 tw17088090961601040402:0=0)
theorem Z0{c:Sort _}{b:Prop}{a:c}:a=a∨b:=Or.inl rfl
theorem Z1{c:Sort _}{b:Prop}{a:c}:b∨a=a:=Or.inr rfl
def Z2:=@PySem.wpAny_bind
def Z3:=@PySem.wpAny_pure
def Z4:=@List.getElem?_eq_getElem
def Z6:=@List.length_map
def Z7:=@PySem.Heap.get?_push_of_some
def Z8:=@List.mem_of_getElem?
def Z9:=@List.length_append
def Za:=@Option.some.inj
def Zb:=@Array.length_toList
def Zc:=@List.getD_eq_getElem?_getD
def Zd:=@List.map_append
def Ze:=@List.append_assoc
def Zf:=@decide_eq_true
def Zg:=@Nat.lt_of_lt_of_le
def Zh:=@decide_eq_false
def Zi:=@Nat.le_refl
def Zj:=@PySem.Heap.get?_push_size
def Zk:=@List.mem_cons_of_mem
def Zl:=@List.getElem?_map
def Zm:=@List.mem_cons_self
def Zn:=@List.take_of_length_le
def Zo:=@of_decide_eq_true
def Zp:=@List.size_toArray
def Zq:=@PySem.Heap.size_push
def Zr:=@List.length_cons
def Zs:=@Array.getD_eq_getD_getElem?
def Zt:=@Nat.ne_of_lt
def Zu:=@Bool.false_ne_true
def Zv:=@PySem.Heap.lt_size
def Zw:=@Nat.add_sub_cancel_left
def Zx:=@Bool.and_eq_true
def Zy:=@List.any_cons
def Zz:=@List.append_nil
def Y0:=@List.ext_getElem
def Y1:=@Bool.false_eq_true
def Y2:=@List.filterMap_append
def Y3:=@List.filterMap_cons
def Y4:=@List.filter_append
def Y6:=@List.filter_cons_of_neg
def Y7:=@List.filter_cons_of_pos
def Y8:=@List.filter_nil
def Y9:=@List.foldl_cons
def Ya:=@List.getElem?_append_left
def Yb:=@List.getElem?_append_right
def Yc:=@List.getElem?_drop
def Yd:=@List.getElem?_take
def Ye:=@List.getElem_mem
def Yf:=@List.getElem_of_mem
def Yg:=@Nat.le_of_lt
def Yh:=@Nat.le_succ
def Yi:=@Nat.le_trans
def Yj:=@List.length_drop
def Yk:=@List.length_filter_le
def Yl:=@List.length_range
def Ym:=@List.length_singleton
def Yn:=@List.length_take
def Yo:=@List.lookup_cons
def Yp:=@Nat.lt_succ_of_lt
def Yq:=@Nat.lt_succ_self
def Yr:=@List.map_congr_left
def Ys:=@List.map_cons
def Yt:=@List.map_map
def Yu:=@List.mem_append
def Yv:=@List.mem_append_left
def Yw:=@List.mem_append_right
def Yx:=@List.mem_cons
def Yy:=@List.mem_of_mem_drop
def Yz:=@List.mem_of_mem_take
def X1:=@List.mem_singleton
def X2:=@Nat.min_eq_left
def X3:=@Nat.ne_of_gt
def X4:=@List.nodup_append
def X6:=@List.nodup_iff_pairwise_ne
def X7:=@List.nodup_nil
def X8:=@Nat.not_lt_zero
def X9:=@List.not_mem_nil
def Xa:=@Bool.or_eq_false_iff
def Xb:=@List.pairwise_map
def Xc:=@List.range_succ
def Xd:=@List.take_add_one
def Xe:=@List.take_append_drop
def Xf:=@List.take_append_of_le_length
def Xg:=@Array.toList_append
def Xh:=@Nat.zero_le
def Xi:=@List.getElem?_of_mem
def Xj:=@List.Pairwise.imp_of_mem
def Xk:=@Int.eq_ofNat_of_zero_le
def Xl:=@Array.size_push
def Xm:=@Nat.lt_irrefl
def Xn:=@List.Perm.append_right
def Xo:=@List.getElem?_eq_none
theorem Xp{b:Type _}{l:List b}{i:Nat}{a:b}(h:l[i]?=some a):∃h:i<l.length,l[i]=a:=List.getElem?_eq_some_iff.mp h
theorem Xq{b:Type _}{a:b}{s t:List b}(h:a∈s++t):a∈s∨a∈t:=List.mem_append.mp h
theorem Xr{c:Type _}{a b:c}(h:a∈[b]):a=b:=List.mem_singleton.mp h
theorem Xs{c d:Type _}{f:c->d}{l:List c}{b:d}(h:b∈l.map f):∃a,a∈l/\f a=b:=List.mem_map.mp h
theorem Xt{c d:Type _}{f:c->d}{l:List c}{b:d}(h:∃a,a∈l/\f a=b):b∈l.map f:=List.mem_map.mpr h
open Array (forIn_toList getD_eq_getD_getElem? getElem?_toList length_toList mem_toList_iff size_append size_map toList_append toList_extract toList_push)
open Bool (and_eq_true false_eq_true or_eq_false_iff or_eq_true)
open List (all_eq_true all_map any_cons any_eq_true any_map append_nil cons_append countP_cons drop_drop drop_zero ext_getElem ext_getElem? filterMap_append filterMap_cons filter_append filter_cons filter_cons_of_neg filter_cons_of_pos filter_nil flatMap_append foldl_append foldl_cons forIn_cons getD_eq_getElem?_getD getElem?_append_left getElem?_append_right getElem?_drop getElem?_map getElem?_range getElem?_take getElem_mem getElem_of_mem length_append length_cons length_drop length_eq_zero_iff length_filter_le length_map length_nil length_pos_iff length_range length_singleton length_take length_zip lookup_cons map_append map_congr_left map_cons map_id map_map map_nil map_take mem_append mem_append_left mem_append_right mem_cons mem_cons_of_mem mem_cons_self mem_filterMap mem_flatMap mem_map mem_of_mem_drop mem_of_mem_take mem_range mem_singleton nil_append nodup_append nodup_cons nodup_iff_pairwise_ne nodup_nil nodup_range not_mem_nil of_mem_zip pairwise_append pairwise_map perm_append_comm range_succ size_toArray take_add_one take_append_drop take_append_of_le_length take_of_length_le take_sublist)
open Nat (add_mod add_sub_cancel add_sub_cancel_left add_zero le_add_right le_of_lt le_refl le_succ le_trans le_zero lt_of_lt_of_le lt_succ_of_lt lt_succ_self min_eq_left mod_lt ne_of_gt ne_of_lt not_lt_zero one_pos pos_of_ne_zero pow_succ sub_self succ_pos zero_add zero_le)
open Option (bind_some getD_none getD_some isSome_iff_exists isSome_map map_eq_some_iff map_some)
open PyProof.Rows (boot_all boot_any boot_dict boot_int boot_isinstance boot_list boot_max boot_min boot_set boot_sorted boot_str boot_tuple)
open PySem.F (called_set plainAttrs_dict plainAttrs_list plainAttrs_str slot_dict_get slot_str_join type_dict_get type_str_join)
open PySem.Heap (ExtBut SameBut get?_push_of_some get?_push_size get?_update_other get?_update_self lt_size)
open PySem.W (KatTups Looks any_some callWith_K cellsFrom_some check_slot clsIn codeIn emptyDict findCls findIn findObj findObj_own fnOf handedIn hasDictIn instObj isFn keepIn kia_one kitOne kitx_dict kitx_list lookIn looks_clsIn looks_find looks_findIn looks_hook looks_subIn makesIn mg_of mroIn nsIn plainGet plainGet_of plainOver readsIn set_plain specialIn subIn takerIn takesIn typeIn)
set_option maxHeartbeats 0
set_option Elab.async false
set_option compiler.extract_closed false
set_option maxRecDepth 100000
section
open PySem
local macro_rules|`(⋯)=>`(by lia)|`(∅)=>`(by simp)
local macro_rules|`(⇑$s:ident)=>`(Shared.heap $s|>.objs.size)
local macro_rules|`(%[$x,*|$y])=>`(⟨$x,*,$y⟩)
def zqp:Nat->Lean.Syntax->Lean.Syntax
 |n+1,.node i k a=>if k==`«term%[_|_]»then .node i `Lean.Parser.Tactic.rcasesPat.tuple #[.atom i "⟨",.node i `null (a[1]!.getArgs.push (.atom i ",")|>.push a[3]!|>.map λx=>if x.isAtom then x else .node i `Lean.Parser.Tactic.rcasesPatLo #[.node i `Lean.Parser.Tactic.rcasesPatMed #[.node i `null #[zqp n x]],.node i `null #[]]),.atom i "⟩"]else .node i `Lean.Parser.Tactic.rcasesPat.ignore #[.atom i "_"]
 |_,x=>.node .none `Lean.Parser.Tactic.rcasesPat.one #[x]
local macro_rules|`(tactic|have $p:term:=$h)=>if p.raw.isOfKind `«term%[_|_]»then`(tactic|obtain $(⟨zqp 99 p⟩):rcasesPat:=$h)else Lean.Macro.throwUnsupported
local macro_rules|`(tactic|intro $p*)=>if p.any (·.raw.isOfKind `«term%[_|_]»)then do
  let q:=p.map λx=>(⟨.node .none `Lean.Parser.Tactic.rintroPat.one #[zqp 99 x]⟩:Lean.TSyntax `rintroPat)
  `(tactic|rintro $q*)else Lean.Macro.throwUnsupported
set_option hygiene false in
local macro_rules|`(↥$a:ident)=>`(wpAny (model prog w) $a)
set_option hygiene false in
local macro_rules|`(command|#where)=>`(variable{prog:Program}{w:World}{A:Around}{E:ZD}{s:Shared})
abbrev ZA:=PySem.W.Frag
abbrev ZB:=List PySem.Str
abbrev ZC:=PySem.Str->Option PySem.Value
abbrev ZD:=PySem.Value->PySem.Shared->Prop
abbrev ZE:=List (PySem.Addr×PySem.Obj)
abbrev ZF:=List PySem.Value
abbrev ZG:=List (PySem.Addr×List PySem.Str)
abbrev ZH:=List (PySem.Addr×PySem.Str×List PySem.Str)
abbrev ZI:=Option PySem.Addr
abbrev ZJ:=Array PySem.Value
abbrev ZK:=Array (Option PySem.Value)
abbrev ZL:=List Int
set_option genSizeOf false
set_option genInjectivity false
set_option bootstrap.genMatcherCode false
namespace L2
open PySem PySem.Spec PyProof.Rows
noncomputable abbrev Key:=Sum Int Str
noncomputable def jw:Key->Value->Bool
 | .inl k,v=>Value.isInt k v
 | .inr x,v=>Value.isStrOf x v
noncomputable def keyH(w:World):Key->Int
 | .inl k=>hashInt k
 | .inr x=>hashStr w x
theorem bj:∀{k:Key} {v:Value},jw k v=true->(∃i t,k=Sum.inl i/\v=Value.int i t)\/(∃x t,k=Sum.inr x/\v=Value.str x t)
 | .inl i,v,h=>by
   have%[t|e]:=Value.isInt_shape h;exact .inl %[i,t,rfl|e]
 | .inr x,v,h=>by
   have%[t|e]:=Value.isStrOf_shape h;exact .inr %[x,t,rfl|e]
theorem xw(i:Int)(t:Tok):jw (.inl i) (.int i t)=true:=by simp[jw,Value.isInt]
theorem du(x:Str)(t:Tok):jw (.inr x) (.str x t)=true:=by simp[jw,Value.isStrOf]
theorem DL(a b:Int):decide ((Sum.inl a:Key)=Sum.inl b)=(a==b):=by
 by_cases e:a=b
 .subst e;simp
 simp_all
theorem DM(a b:Str):decide ((Sum.inr a:Key)=Sum.inr b)=decide (a=b):=by
 simp
noncomputable def aE(prog:Program)(w:World):PySem.KeyKind prog w Key where
 is:=jw
 hash:=keyH w
 inj:=λv a b ha hb=>by
  rcases bj ha with⟨i,t,rfl,rfl⟩|⟨x,t,rfl,rfl⟩
  .rcases bj hb with⟨j,u,rfl,e⟩|⟨y,u,rfl,e⟩
   .injection e with e1 _;rw[e1]
   .exact nomatch e
  .rcases bj hb with⟨j,u,rfl,e⟩|⟨y,u,rfl,e⟩
   .exact nomatch e
   .injection e with e1 _;rw[e1]
 byValue:=λk v h=>by
  rcases bj h with⟨i,t,rfl,rfl⟩|⟨x,t,rfl,rfl⟩<;> rfl
 pyHash:=λhv h=>by
  rcases bj hv with⟨i,t,rfl,rfl⟩|⟨x,t,rfl,rfl⟩
  .exact wpAny_pyHash_int h
  .exact wpAny_pyHash_str h
 eqBool:=λhu hv h=>by
  rcases bj hu with⟨i,t,rfl,rfl⟩|⟨x,t,rfl,rfl⟩
  .rcases bj hv with⟨j,u,rfl,rfl⟩|⟨y,u,rfl,rfl⟩
   .rw[DL]at h;exact wpAny_eqBool_int h
   .exact SeqAt.EqAt.int_str i t y u _ _ _ _ h
  .rcases bj hv with⟨j,u,rfl,rfl⟩|⟨y,u,rfl,rfl⟩
   .exact SeqAt.EqAt.str_int x t j u _ _ _ _ h
   .rw[DM]at h;exact wpAny_eqBool_str h
 «strs»:=λk x t v h=>by
  rcases bj h with⟨i,u,rfl,e⟩|⟨y,u,rfl,e⟩
  .exact nomatch e
  .injection e with e1 _
   subst e1;cases v<;> rfl
theorem sI(prog:Program)(w:World)(i:Int)(t:Tok):(aE prog w).is (.inl i) (.int i t)=true:=xw i t
theorem lu(prog:Program)(w:World)(x:Str)(t:Tok):(aE prog w).is (.inr x) (.str x t)=true:=du x t
set_option genInjectivity true in
inductive V where
 | non|bl (b:Bool)|int (i:Int)|str (x:Str)|byt (b:Array UInt8)|flt (b:UInt64)|ref (a:Addr)|ty (n:String)
 deriving DecidableEq
def aO:V->Value->Prop
 | .non,u=>u=Value.none
 | .bl b,u=>u=Value.bool b
 | .int i,u=>∃t,u=Value.int i t
 | .str x,u=>∃t,u=Value.str x t
 | .byt b,u=>∃t,u=Value.bytes b t
 | .flt b,u=>∃t,u=Value.float b t
 | .ref a,u=>u=Value.ref a
 | .ty n,u=>u=Value.type n
abbrev aD:List V->ZF->Prop:=Paired aO
theorem aD.length{xs:List V}{us:ZF}(r:aD xs us):xs.length=us.length:=Paired.length r
theorem aD.get:∀{xs:List V} {us:ZF} {i:Nat} {x:V},aD xs us->xs[i]? =some x->∃u,us[i]? =some u/\aO x u
 | _,_,_,_,.nil,e=>by simp at e
 | _,_,0,_,.cons r _,e=>by simp at e;subst e;exact%[_,rfl|r]
 | _,_,i+1,x,.cons _ t,e=>by
   have%[u,a|b]:=aD.get t (e);exact%[u,a|b]
theorem aD.append:∀{xs ys:List V} {us ws:ZF},aD xs us->aD ys ws->aD (xs++ys) (us++ws)
 | _,_,_,_,.nil,s=>s
 | _,_,_,_,.cons r t,s=> .cons r (aD.append t s)
theorem aD.take:∀{xs:List V} {us:ZF} n,aD xs us->aD (xs.take n) (us.take n)
 | _,_,0,_=> .nil
 | _,_,_+1,.nil=> .nil
 | _,_,n+1,.cons r t=> .cons r (aD.take n t)
theorem aD.drop:∀{xs:List V} {us:ZF} n,aD xs us->aD (xs.drop n) (us.drop n)
 | _,_,0,r=>r
 | _,_,_+1,.nil=> .nil
 | _,_,n+1,.cons _ t=>aD.drop n t
def fk:Option V->Option Value->Prop
 | some v,some u=>aO v u
 | none,none=>True
 | _,_=>False
noncomputable def KV{a:Type}:List (a×V)->List (a×Value)->Prop:=Paired λp q=>p.1=q.1/\aO p.2 q.2
noncomputable def kV:Key->V
 | .inl i=> .int i
 | .inr x=> .str x
set_option genInjectivity true in
inductive HO where
 | lst (xs:List V)
 | tup (xs:List V)
 | dK (kvs:List (Key×V))|dT (kvs:List (List Key×V))
 | set (S:Int->Bool) (n:Nat)
 | ins (C dx:Addr) (fs:List (Str×V))
 | own (x:Addr)
 | xd (fs:List (Str×V))
 | met (f x:Addr)
 | rng (lo hi:Int)
 | frz (o:Obj) (u:HO)
 | tbl (ps:ZJ)
 | ext (φ:Heap->Prop)
noncomputable abbrev Hp:=Addr->Option HO
noncomputable def upd(H:Hp)(a:Addr)(o:HO):Hp:=λb=>if b=a then some o else H b
theorem aa:upd H a o a=some o:=by unfold upd;rw[if_pos rfl]
theorem ak{H:Hp}{a b:Addr}{o:HO}(h:b≠a):upd H a o b=H b:=by unfold upd;rw[if_neg h]
theorem ww:upd (upd H a o) a u=upd H a u:=by
 funext b;unfold upd;split<;> rfl
theorem F4{H:Hp}(h:H a=some o)(h':H b=some u)(d:o≠u):a≠b:=by
 intro e;subst e;rw[h]at h';exact d (Za h')
theorem av{H:Hp}{a b:Addr}{o:HO}(h:H a=some o)(h':H b=none):a≠b:=by
 lia
section
variable(P:Program)(w:World)
def cD(H:Hp)(h:Heap)(a:Addr):HO->Prop
 | .lst xs=>xs.length<=sizeLine/\∃(its:ZF) (n:Nat),aD xs its/\h.get? a=some {cls:= .type "list",data:= .seq its.toArray n}
 | .tup xs=>xs.length<=sizeLine/\∃its:ZF,aD xs its/\IsTup h a its.toArray
 | .dK b=>b.length<=sizeLine/\(a==sysModules)=false/\∃vs,KV b vs/\h.DictOf (aE P w) a vs
 | .dT b=>b.length<=sizeLine/\(a==sysModules)=false/\∃xs:List (List Key×Addr×Value),
  Paired (λ(p:List Key×V) (q:List Key×Addr×Value)=>p.1=q.1/\H q.2.1=some (.tup (p.1.map kV))/\aO p.2 q.2.2) b xs/\
  ∃o g l,h.get? a=some o/\o.ExactDict/\o.data= .dict g l/\g.toList=xs.map (entryOfKey (tupleKind (aE P w)))/\(xs.map (·.1)).Nodup
 | .set S n=>h.SetOf (intKind P w) a S n
 | .ins C d fs=>H d=some (.own a)/\fs.length<=1000/\d≠a/\h.get? a=some (instObj C d)/\
  ∃c,h.Ns1 d c/\(∀f,fk (fs.lookup f) (c f))/\PySem.Within c (fs.map (·.1))
 | .own _=>∃o,h.get? a=some o
 | .xd fs=>∃c,h.Ns1 a c/\∀f,fk (fs.lookup f) (c f)
 | .rng lo hi=>∃t u v,h.get? a=some {cls:= .type "range",data:= .fields #[.int lo t,.int hi u,.int 1 v]}
 | .frz o u=>h.get? a=some o/\cD H h a u
 | .tbl ps=>h.get? a=some {cls:= .none,data:= .fields ps}
 | .met f x=>h.get? a=some (PySem.W.methodObj (.ref f) (.ref x))
 | .ext e=>e h/\(∃o,h.get? a=some o)/\∀i j,e i->(∀o,i.get? a=some o->j.get? a=some o)->e j
def HOk(H:Hp)(h:Heap):Prop:=∀a o,H a=some o->cD P w H h a o
end
section
variable{P:Program}{w:World}{H H':Hp}{h h':Heap}{a:Addr}{o:HO}
theorem cD.lt(x:cD P w H h a o):a<h.objs.size:=by
 cases o with
 | lst xs=>have%[_,_,_,_|e]:=x;exact Zv e
 | tup xs=>have%[_,_,_|p]:=x;exact p.lt
 | dK b=>have%[_,_,_,_,o,_,_,e|_]:=x;exact Zv e
 | dT b=>have%[_,_,_,_,o,_,_,e|_]:=x;exact Zv e
 | set S n=>have%[o,_,_,_,e|_]:=x;exact Zv e
 | ins C c fs=>have%[_,_,_,e|_]:=x;exact Zv e
 | own y=>have%[_|e]:=x;exact Zv e
 | xd fs=>have%[_,%[_,_,_,e|_]|_]:=x;exact Zv e
 | rng lo hi=>have%[_,_,_|e]:=x;exact Zv e
 | frz d u=>have%[e|_]:=x;exact Zv e
 | tbl ps=>exact Zv (x)
 | met f y=>exact Zv (x)
 | ext g=>have%[_,%[_|e]|_]:=x;exact Zv e
theorem Paired.mapP{F G:c->d->Prop}:∀{l₁:List c} {l₂:List d},Paired F l₁ l₂->(∀a b,F a b->G a b)->Paired G l₁ l₂
 | _,_,.nil,_=> .nil
 | _,_,.cons r t,f=> .cons (f _ _ r) (Paired.mapP t f)
theorem cD.stay(x:cD P w H h a o)(k:∀b u,(b=a\/H b=some (.own a))->h.get? b=some u->h'.get? b=some u)
 (s:∀b,H b=some (.own a)->H' b=some (.own a)) (A:∀b xs,H b=some (.tup xs)->H' b=some (.tup xs)):cD P w H' h' a o:=by
 induction o with
 | lst xs=>have%[z,its,n,r|e]:=x;exact%[z,its,n,r|k _ _ (.inl rfl) e]
 | tup xs=>have%[z,its,r,g,e|c]:=x;exact%[z,its,r,g,k _ _ (.inl rfl) e|c]
 | dK l=>have%[z,y,vs,r,g,i,j,e|c]:=x;exact%[z,y,vs,r,g,i,j,k _ _ (.inl rfl) e|c]
 | dT l=>
   have%[z,y,xs,r,g,i,j,e|c]:=x;exact%[z,y,xs,Paired.mapP r λp q z=>%[z.1,A _ _ z.2.1|z.2.2],g,i,j,k _ _ (.inl rfl) e|c]
 | set S n=>have%[g,i,j,t,e|c]:=x;exact%[g,i,j,t,k _ _ (.inl rfl) e|c]
 | ins C G fs=>
   have%[d,z,ne,e,m,%[od,i,j,B|c]|r]:=x;exact%[s _ d,z,ne,k _ _ (.inl rfl) e,m,%[od,i,j,k _ _ (.inr d) B|c]|r]
 | own y=>have%[g|e]:=x;exact%[g|k _ _ (.inl rfl) e]
 | xd fs=>have%[m,%[od,i,j,e|c]|r]:=x;exact%[m,%[od,i,j,k _ _ (.inl rfl) e|c]|r]
 | rng lo hi=>have%[t,u,v|e]:=x;exact%[t,u,v|k _ _ (.inl rfl) e]
 | frz g u E=>have%[e|q]:=x;exact%[k _ _ (.inl rfl) e|E q]
 | tbl ps=>
   exact k a _ (.inl rfl) x
 | met f y=>
   exact k a _ (.inl rfl) x
 | ext I=>have%[p,%[o|e]|st]:=x;exact%[st _ _ p λo q=>k _ _ (.inl rfl) q,%[o|k _ _ (.inl rfl) e]|st]
theorem HOk.lt(x:HOk P w H h)(e:H a=some o):a<h.objs.size:=(x a o e).lt
theorem HOk.fresh(x:HOk P w H h)(e:h.objs.size<=a):H a=none:=by
 cases q:H a with
 | none=>rfl
 | some u=>exact absurd (Zg (x.lt q) e) (Xm _)
theorem HOk.kept(x:HOk P w H h)(k:∀b u,h.get? b=some u->h'.get? b=some u):HOk P w H h':=λa o e=>
 (x a o e).stay (λb u _ q=>k b u q) (λ_ q=>q) λ_ _ q=>q
theorem HOk.laid(x:HOk P w H h)(k:∀b u,h.get? b=some u->h'.get? b=some u)(g:h.objs.size<=a)(new:cD P w (upd H a o) h' a o):HOk P w (upd H a o) h':=λb u e=>by
 have d:=x.fresh g;by_cases f:b=a
 .subst f;rw[aa]at e;grind
 .rw[ak f]at e;exact(x b u e).stay (λc v _ q=>k c v q) (λc q=>(ak (av q d))▸q) λc xs q=>(ak (av q d))▸q
end
def Rd(H:Hp)(a:Addr)(u:HO):Prop:=H a=some u\/∃o,H a=some (.frz o u)
theorem Rd.ok{P:Program}{w:World}{H:Hp}{h:Heap}{a:Addr}{u:HO}(r:Rd H a u)(x:HOk P w H h):cD P w H h a u:=by
 rcases r with r|⟨o,r⟩
 .exact x a u r
 .have%[_|q]:=x a _ r;exact q
def Mut:Option HO->Prop
 | some (.lst _)=>True
 | some (.dK _)=>True
 | some (.dT _)=>True
 | some (.set _ _)=>True
 | some (.ins _ _ _)=>True
 | some (.ext _)=>True
 | _=>False
section
variable{P:Program}{w:World}{H:Hp}{h h':Heap}{x e:Addr}{o':HO}
theorem HOk.write(ok:HOk P w H h)(g:Mut (H x))(m:e=x\/H e=some (.own x))(k:∀b u,b≠e->h.get? b=some u->h'.get? b=some u)(i:∃u,h'.get? e=some u)
 (new:cD P w (upd H x o') h' x o'):HOk P w (upd H x o') h':=λb u q=>by
 have d:∀c y,H c=some (.own y)->c≠x:=λc y r z=>by subst z;rw[r]at g;exact g
 have f:∀c xs,H c=some (.tup xs)->c≠x:=λc xs r z=>by subst z;rw[r]at g;exact g
 by_cases j:b=x
 .subst j;rw[aa]at q;grind
 .rw[ak j]at q;by_cases a:b=e
  .have l:H b=some (.own x):=by
    rcases m with z|z
    .exact absurd (a.trans z) j
    .exact a▸z
   rw[q]at l;cases l;have%[v|n]:=i;exact%[v|a▸n]
  .refine(ok b u q).stay (λc v o r=>k c v ?_ r) (λc r=>(ak (d c b r))▸r) λc xs r=>(ak (f c xs r))▸r
   grind
end
structure Un (fs ex:List Addr) (H H':Hp) (h h':Heap):Prop where
 keep:∀b o,h.get? b=some o->H b=none->b∉fs->b∉ex->h'.get? b=some o
 slot:∀b o,h.get? b=some o->H b=none->b∈fs->b∉ex->∃sl,h'.get? b=some {o with slots:=sl}
 free:∀b o,h.get? b=some o->H b=none->b∉ex->H' b=none
 there:∀b o,h.get? b=some o->b∉ex->∃o',h'.get? b=some o'
 tups:∀b xs,H b=some (.tup xs)->H' b=some (.tup xs)
 frzs:∀b o u,H b=some (.frz o u)->H' b=some (.frz o u)
 tbls:∀b ps,H b=some (.tbl ps)->∃more,H' b=some (.tbl (ps++more))
section
variable{fs fs' ex ex':List Addr}{H H1 H2:Hp}{h h1 h2 h':Heap}{a x e:Addr}{o:HO}
theorem Un.any(u:Un fs ex H H1 h h1)(q:h.get? b=some c)(n:H b=none)(d:b∉ex):∃g,h1.get? b=some {c with slots:=g}:=by
 by_cases f:b∈fs
 .exact u.slot b c q n f d
 .exact%[c.slots|u.keep b c q n f d]
theorem Un.trans(a:Un fs ex H H1 h h1)(b:Un fs ex H1 H2 h1 h2):Un fs ex H H2 h h2 where
 keep:=λc ob q n hc hx=>b.keep c ob (a.keep c ob q n hc hx) (a.free c ob q n hx) hc hx
 slot:=λc ob q n hc hx=>by
  have%[sl|e1]:=a.slot c ob q n hc hx;have%[sl'|e2]:=b.slot c _ e1 (a.free c ob q n hx) hc hx;exact%[sl'|e2]
 free:=λc ob q n hx=>by
  have%[o'|e1]:=a.there c ob q hx;exact b.free c o' e1 (a.free c ob q n hx) hx
 there:=λc ob q hx=>by
  have%[o'|e1]:=a.there c ob q hx;exact b.there c o' e1 hx
 tups:=λc xs q=>b.tups c xs (a.tups c xs q)
 frzs:=λc ob xs q=>b.frzs c ob xs (a.frzs c ob xs q)
 tbls:=λc ps q=>by
  have%[m1|e1]:=a.tbls c ps q;have%[m2|e2]:=b.tbls c _ e1;exact%[m1++m2|by rw[e2,Array.append_assoc]]
theorem Un.kept(k:∀b u,h.get? b=some u->h'.get? b=some u):Un fs ex H H h h':=
 %[λb c q _ _ _=>k b c q,λb c q _ _ _=>%[c.slots|k b c q],λ_ _ _ n _=>n,λb c q _=>%[c|k b c q],λ_ _ q=>q,λ_ _ _ q=>q|λ_ ps q=>%[#[]|by rw[q];simp]]
theorem Un.refl:Un fs ex H H h h:=Un.kept λ_ _ q=>q
theorem Un.laid(k:∀b u,h.get? b=some u->h'.get? b=some u)(hp:h.objs.size<=a)(hn:H a=none):Un fs ex H (upd H a o) h h' where
 keep:=λb u q _ _ _=>k b u q
 slot:=λb u q _ _ _=>%[u.slots|k b u q]
 free:=λb u q n _=>(ak (Zt (Zg (Zv q) hp)))▸n
 there:=λb u q _=>%[u|k b u q]
 tups:=λb xs q=>(ak (av q hn))▸q
 frzs:=λb u xs q=>(ak (av q hn))▸q
 tbls:=λb ps q=>%[#[]|by rw[ak (av q hn),q];simp]
theorem Un.write(f:Mut (H x))(l:e=x\/H e=some (.own x))(k:∀b u,b≠e->h.get? b=some u->h'.get? b=some u)(i:∃u,h'.get? e=some u):Un fs ex H (upd H x o) h h':=by
 have j:∀b,H b=none->b≠x:=λb n z=>by subst z;rw[n]at f;exact f
 have g:∀b,H b=none->b≠e:=λb n z=>by
  simp_all
 have c:∀b u,H b=some u-> ¬ Mut (some u)->b≠x:=λb u q m z=>by simp_all
 refine%[λb u q n _ _=>k b u (g b n) q,λb u q n _ _=>%[u.slots|k b u (g b n) q],λb u q n _=>(ak (j b n))▸n,λb u q _=>?_,
  λb xs q=>(ak (c b _ q λz=>z))▸q,λb u xs q=>(ak (c b _ q λz=>z))▸q|λb ps q=>%[#[]|by rw[ak (c b _ q λz=>z),q];simp]]
 by_cases d:b=e
 .simp_all
 .exact%[u|k b u d q]
end
noncomputable def trk(h:Heap)(H:Hp):List Addr:=(List.range h.objs.size).filter λa=>(H a).isSome
noncomputable def xx(h:Heap)(H:Hp):Heap:=PySem.W.hideAll h (trk h H)
theorem xy(h:Heap)(H:Hp):(xx h H).objs.size=h.objs.size:=PySem.W.hideAll_size _ _
theorem za(e:h.get? b=some o)(n:H b=none):(xx h H).get? b=some o:=
 PySem.W.hideAll_get _ e λa=>by
  have q:=(List.mem_filter.mp a).2;rw[n]at q;simp at q
theorem BS(e:(xx h H).get? b=some o):h.get? b=some o/\H b=none:=by
 have a:=PySem.W.of_hideAll _ e;refine%[a|?_];cases q:H b with
 | none=>rfl
 | some x=>
   have z:(xx h H).get? b=none:=PySem.W.hideAll_none _ (List.mem_filter.mpr %[mem_range.mpr (Zv a)|by simp[q]])
   grind
noncomputable def BT(g h:Heap)(L:Addr):ZE:=(List.range h.objs.size).filterMap λa=>if a=L\/(g.get? a).isSome=true then none else(h.get? a).map λo=>(a,o)
noncomputable def rest(g h:Heap)(L d:Addr):ZE:=(BT g h L).filter λp=>decide (p.1≠d)
structure Mod (K:ZA) (mg:ZC) (base:Heap):Prop where
 kin:K.In base
 glob:base.Ns mainGlobals mg
 blt:∃mb,base.Ns builtinsNs mb/\∀x:Str,x≠"__name__"->mb x=bootBuiltins x
 nolimit:base.NoLimit
structure Cx where
 prog:Program
 w:World
 K:ZA
 mg:Str->Option Value
 base:Heap
 A:Around
 N:ZB
 s₀:Shared
 H₀:Hp
 env:Env
 outer:List Env
 stack:List Env
 ex:List Addr
 fn:Str->Bool
 calm:Bool
 pn:ZE
 xe:Value->Shared->Prop
noncomputable def frs(l:List Env):List Addr:=l.filterMap (·.frame)
noncomputable abbrev Cx.fs(X:Cx):List Addr:=frs X.outer
def Vis(a:Scope)(x:Str):Prop:=a.names.lookup x=some .local\/a.names.lookup x=some .cell\/a.names.lookup x=some .free
def Loc(a:Scope)(x:Str):Prop:=a.names.lookup x=some .local\/a.names.lookup x=some .cell
def Look(env:Env)(h:Heap)(m:ZC)(x:Str)(u:Value):Prop:=
 (env.kindOf x=some .local/\m x=some u)\/((env.kindOf x=some .cell\/env.kindOf x=some .free)/\∃c,env.cells.lookup x=some c/\h.IsCell c (some u))
structure Cx.Ok (X:Cx):Prop where
 mod:Mod X.K X.mg X.base
 kind:X.env.scope.kind= .function
 glob:X.env.globals=mainGlobals
 blt:X.env.builtins=builtinsNs
 above:X.s₀.heap.objs.size<=X.env.locals
 inj:∀x y c,X.env.cells.lookup x=some c->X.env.cells.lookup y=some c->x=y
 has:∀x,(X.env.kindOf x=some .cell\/X.env.kindOf x=some .free)->∃c,X.env.cells.lookup x=some c
 cab:∀x c,X.fn x=true->X.env.cells.lookup x=some c->X.s₀.heap.objs.size<=c
 hd:X.calm=true->X.A.handled=none
 frames:X.A.frames=some X.stack
 stk:X.stack=X.outer\/(X.stack=X.env::X.outer/\X.env.frame=some X.env.locals)
 exf:∀b∈X.ex,b≠X.env.locals/\∀x c,X.env.cells.lookup x=some c->c≠b
 bs:∀b o,X.base.get? b=some o->X.s₀.heap.get? b=some o/\X.H₀ b=none
 bsz:X.base.objs.size<=X.s₀.heap.objs.size
 noex:∀b o,X.base.get? b=some o->b∉X.ex
 exfs:∀b∈X.ex,b∉X.fs
 funs:X.s₀.heap.FunFrames X.base X.outer
 frf:∀b∈X.fs,X.H₀ b=none
structure Inv (X:Cx) (pins:List _) (σ:List _) (H:Hp) (s:Shared):Prop where
 ok:X.Ok
 os:s.os=X.s₀.os
 bare:AllBare s.gens
 base:Un X.fs X.ex X.H₀ H X.s₀.heap s.heap
 loc:∃m,s.heap.Ns X.env.locals m/\∀(i:Nat) x v,X.N[i]? =some x->σ[i]? =some (some v)->Vis X.env.scope x->∃u,aO v u/\Look X.env s.heap m x u
 cell:∀x c,X.env.cells.lookup x=some c->∃v,s.heap.IsCell c v
 free:H X.env.locals=none
 freeC:∀x c,X.env.cells.lookup x=some c->H c=none
 pin:∀p∈X.pn++pins,s.heap.get? p.1=some p.2/\H p.1=none/\p.1≠X.env.locals/\p.1∉X.fs/\∀v,p.2.data≠ .cell v
 hok:HOk X.prog X.w H s.heap
 len:σ.length=X.N.length
section
variable{X:Cx}{pins:ZE}{σ:List (Option V)}{H H':Hp}{s:Shared}{h':Heap}
theorem Cx.Ok.nofr(ok:X.Ok)(e:X.base.get? b=some o):b∉X.fs:=λa=>by
 have:=(ok.funs.mem a).1
 grind
theorem Inv.bs(I:Inv X pins σ H s):∀b o,X.base.get? b=some o->s.heap.get? b=some o/\H b=none:=λb o e=>
 %[I.base.keep b o (I.ok.bs b o e).1 (I.ok.bs b o e).2 (I.ok.nofr e) (I.ok.noex b o e)|I.base.free b o (I.ok.bs b o e).1 (I.ok.bs b o e).2 (I.ok.noex b o e)]
theorem Inv.bk(I:Inv X pins σ H s):∀b o,X.base.get? b=some o->s.heap.get? b=some o:=λb o e=>(I.bs b o e).1
theorem Inv.mod(I:Inv X pins σ H s):Mod X.K X.mg X.base:=I.ok.mod
theorem Inv.kIn(I:Inv X pins σ H s):X.K.In s.heap:=I.ok.mod.kin.keeps I.bk
theorem Inv.lt(I:Inv X pins σ H s):X.env.locals<⇑s:=let⟨_,a,_⟩:=I.loc;a.lt
theorem Inv.sz(I:Inv X pins σ H s):X.s₀.heap.objs.size<=⇑s:=Yi I.ok.above (Yg I.lt)
theorem Inv.nofs(I:Inv X pins σ H s)(h:⇑s<=a):a∉X.fs:=λb=>by
 have%[_,o,c|_]:=I.ok.funs.mem b;exact absurd (Zg (Zv c) (Yi I.sz h)) (Xm _)
theorem Inv.cne(I:Inv X pins σ H s):∀x c,X.env.cells.lookup x=some c->c≠X.env.locals:=λx c e z=>by
 have%[v,o,d|f]:=I.cell x c e;have%[m,%[g,h,i,a,b|_]|_]:=I.loc
 grind
theorem Inv.funs(I:Inv X pins σ H s):s.heap.FunFrames X.base X.outer:=by
 have all:∀l,(∀b∈frs l,b∈X.fs)->X.s₀.heap.FunFrames X.base l->s.heap.FunFrames X.base l:=by
  intro l
  induction l with
  | nil=>intro _ _;trivial
  | cons env r g=>
    intro f h;have%[i,%[L,o,a,j,m|n]|p]:=h;have c:=f L (by unfold frs;rw[Y3,a];exact Zm);have%[q|e]:=I.base.slot L o m (I.ok.frf L c) c λz=>I.ok.exfs L z c
    exact%[i,%[L,_,a,j,e|n]|g (λb d=>f b (by unfold frs;rw[Y3,a];exact Zk _ d)) p]
 exact all X.outer (λ_ d=>d) I.ok.funs
theorem Inv.stack(I:Inv X pins σ H s):s.heap.FunFrames X.base X.stack:=by
 rcases I.ok.stk with e|⟨e,a⟩
 .exact e▸I.funs
 .rw[e];have%[m,b|_]:=I.loc;exact .cons (by rw[I.ok.kind];decide) a b (Heap.get?_none_of_le (Yi I.ok.bsz I.ok.above)) I.funs
theorem Inv.stkSub(I:Inv X pins σ H s):∀b∈frs X.stack,b∈X.env.locals::X.fs:=λb a=>by
 rcases I.ok.stk with e|⟨e,c⟩
 .rw[e]at a;exact Zk _ a
 .rw[e]at a;unfold frs at a;rw[Y3,c]at a;exact a
theorem Inv.stkFree(I:Inv X pins σ H s):∀b∈frs X.stack,H b=none:=λb a=>by
 rcases mem_cons.mp (I.stkSub b a)with e|a
 .exact e▸I.free
 .have%[_,o,c|_]:=I.ok.funs.mem a;exact I.base.free b o c (I.ok.frf b a) λz=>I.ok.exfs b z a
theorem Inv.step{d':Drawn}{ch:List Addr}(I:Inv X pins σ H s)
 (f:∀b∈ch,(b∈X.ex\/X.s₀.heap.objs.size<=b)/\b≠X.env.locals/\(∀x c,X.env.cells.lookup x=some c->c≠b)/\∀p∈X.pn++pins,p.1≠b)
 (keep:∀b o,b≠X.env.locals->b∉X.fs->b∉ch->s.heap.get? b=some o->H b=none->h'.get? b=some o)
 (slot:∀b o,b≠X.env.locals->b∈X.fs->b∉ch->s.heap.get? b=some o->H b=none->∃G,h'.get? b=some {o with slots:=G}) (free:∀b o,b∉ch->s.heap.get? b=some o->H b=none->H' b=none)
 (there:∀b o,b∉ch->s.heap.get? b=some o->∃B,h'.get? b=some B)
 (tups:∀b xs,H b=some (.tup xs)->H' b=some (.tup xs)) (frzs:∀b o u,H b=some (.frz o u)->H' b=some (.frz o u)) (tbls:∀b ps,H b=some (.tbl ps)->∃more,H' b=some (.tbl (ps++more)))
 (T:∀m,s.heap.Ns X.env.locals m->h'.Ns X.env.locals m) (J:HOk X.prog X.w H' h') (U:AllBare g'):
 Inv X pins σ H' {s with heap:=h',gens:=g',drawn:=d',toks:=t'}:=by
 have C:∀b o,X.s₀.heap.get? b=some o->b≠X.env.locals:=λb o e=>Zt (Zg (Zv e) I.ok.above)
 have j:∀b o,X.s₀.heap.get? b=some o->b∉X.ex->b∉ch:=λb o e a y=>by
  rcases(f b y).1 with z|z
  .exact a z
  .exact absurd (Zg (Zv e) z) (Xm _)
 have g:∀x c,X.env.cells.lookup x=some c->∀v,s.heap.IsCell c v->h'.IsCell c v:=λx c e v ⟨o,A,L⟩=>by
  have h:=λz=>(f c z).2.2.1 x c e rfl
  by_cases N:c∈X.fs
  .have%[G|q]:=slot c o (I.cne x c e) N h A (I.freeC x c e);exact%[_,q|L]
  .exact%[o,keep c o (I.cne x c e) N h A (I.freeC x c e)|L]
 refine%[I.ok,I.os,U,%[λb o e n y a=>?_,λb o e n y a=>?_,λb o e n a=>?_,λb o e a=>?_,λb xs e=>tups b xs (I.base.tups b xs e),λb o xs e=>frzs b o xs (I.base.frzs b o xs e)|λb ps e=>?_],?_,λx c e=>?_,?_,λx c e=>?_,λp O=>?_,J|I.len]
 .exact keep b o (C b o e) y (j b o e a) (I.base.keep b o e n y a) (I.base.free b o e n a)
 .have%[G|w]:=I.base.slot b o e n y a;have%[M|E]:=slot b _ (C b o e) y (j b o e a) w (I.base.free b o e n a);exact%[M|E]
 .have%[B|w]:=I.base.there b o e a;exact free b B (j b o e a) w (I.base.free b o e n a)
 .have%[B|w]:=I.base.there b o e a;exact there b B (j b o e a) w
 .have%[Y|w]:=I.base.tbls b ps e;have%[m2|E]:=tbls b _ w;exact%[Y++m2|by rw[E,Array.append_assoc]]
 .have%[m,hn|hl]:=I.loc;refine%[m,T m hn|λi x v w E e3=>?_];have%[u,r|l]:=hl i x v w E e3;refine%[u,r|?_];rcases l with l|⟨k,c,e,z⟩
  .exact .inl l
  .exact .inr %[k,c,e|g x c e _ z]
 .have%[v|z]:=I.cell x c e;exact%[v|g x c e v z]
 .have%[m,%[o,_,_,A|_]|_]:=I.loc;exact free _ o (λz=>(f _ z).2.1 rfl) A I.free
 .have%[v,o,A|L]:=I.cell x c e;exact free c o (λz=>(f c z).2.2.1 x c e rfl) A (I.freeC x c e)
 .have%[e,n,ne,Q|d]:=I.pin p O;have h:=λz=>(f p.1 z).2.2.2 p O rfl
  exact%[keep p.1 p.2 ne Q h e n,free p.1 p.2 h e n,ne,Q|d]
theorem Inv.un{t':Nat}(I:Inv X pins σ H s)(u:Un X.fs [] H H' s.heap h')(c:HOk X.prog X.w H' h'):Inv X pins σ H' {s with heap:=h',toks:=t'}:=by
 have%[m,%[o,p,q,h|r]|_]:=id I.loc;have%[v|i]:=u.any h I.free ∅;exact I.step (ch:=[]) (λ_ z=>nomatch z) (λb o _ d _ e n=>u.keep b o e n d ∅) (λb o _ d _ e n=>u.slot b o e n d ∅) (λb o _ e n=>u.free b o e n ∅) (λb o _ e=>u.there b o e ∅) u.tups u.frzs u.tbls (λw j=>by
  have%[y,f,g,a|l]:=j;rw[h]at a;cases a;exact%[_,f,g,i|l]) c I.bare
theorem Inv.call{d':Drawn}{ch:List Addr}(I:Inv X pins σ H s)(u:Un (frs X.stack) ch H H' s.heap h')(g:HOk X.prog X.w H' h')(q:AllBare g')
 (d:∀b∈ch,(b∈X.ex\/X.s₀.heap.objs.size<=b)/\b≠X.env.locals/\(∀x c,X.env.cells.lookup x=some c->c≠b)/\∀p∈X.pn++pins,p.1≠b):
 Inv X pins σ H' {s with heap:=h',gens:=g',drawn:=d',toks:=t'}:=by
 have%[m,%[o,A,B,l|r]|_]:=id I.loc;have%[C|h]:=u.any l I.free λz=>(d _ z).2.1 rfl
 exact I.step d (λb o h v a e n=>u.keep b o e n (λz=>(mem_cons.mp (I.stkSub b z)).elim h v) a) (λb o _ _ a e n=>u.any e n a) (λb o a e n=>u.free b o e n a) (λb o a e=>u.there b o e a) u.tups u.frzs u.tbls (λE w=>by
  have%[G,i,j,f|y]:=w;rw[l]at f;cases f;exact%[_,i,j,h|y]) g q
theorem Inv.turned{it:Addr}(I:Inv X pins σ H s)(k:∀b o,b≠it->s.heap.get? b=some o->h'.get? b=some o)(B:H it=none)(f:it≠X.env.locals)
 (g:it∈X.ex\/X.s₀.heap.objs.size<=it) (h:∀x c,X.env.cells.lookup x=some c->c≠it) (i:∀p∈X.pn++pins,p.1≠it):Inv X pins σ H {s with heap:=h',toks:=t'}:=by
 have d:∀b u,H b=some u->b≠it:=λb u e z=>by lia
 refine I.step (ch:=[it]) (λb j=>?_) (λb o _ _ a e _=>k b o (λz=>a (by simp[z])) e) (λb o _ _ a e _=>%[o.slots|k b o (λz=>a (by simp[z])) e]) (λ_ _ _ _ n=>n)
  (λb o a e=>%[o|k b o (λz=>a (by simp[z])) e]) (λ_ _ e=>e) (λ_ _ _ e=>e) (λb ps e=>%[#[]|by rw[e];simp]) (λm l=>?_) (λb u e=>?_) I.bare
 .have e:=by simpa using j
  subst e;exact%[g,f,h|i]
 .have%[o,w,y,A|r]:=l;exact%[o,w,y,k _ o (Ne.symm f) A|r]
 .refine(I.hok b u e).stay (λc v a q=>k c v ?_ q) (λ_ q=>q) λ_ _ q=>q
  rcases a with z|z
  .exact z▸d b u e
  .exact d c _ z
theorem Inv.tok(I:Inv X pins σ H s)(t:Nat):Inv X pins σ H {s with toks:=t}:=I.un Un.refl I.hok
theorem Inv.kept(I:Inv X pins σ H s)(k:∀b u,s.heap.get? b=some u->h'.get? b=some u):Inv X pins σ H {s with heap:=h',toks:=t'}:=I.un (Un.kept k) (I.hok.kept k)
theorem Inv.laid{a:Addr}{o:HO}{t':Nat}(I:Inv X pins σ H s)(k:∀b u,s.heap.get? b=some u->h'.get? b=some u)(c:⇑s<=a)(new:cD X.prog X.w (upd H a o) h' a o):
 Inv X pins σ (upd H a o) {s with heap:=h',toks:=t'}:=I.un (Un.laid k c (I.hok.fresh c)) (I.hok.laid k c new)
theorem Inv.write(I:Inv X pins σ H s)(c:Mut (H x))(d:e=x\/H e=some (.own x))(k:∀b u,b≠e->s.heap.get? b=some u->h'.get? b=some u)(a:∃u,h'.get? e=some u)
 (new:cD X.prog X.w (upd H x o) h' x o):Inv X pins σ (upd H x o) {s with heap:=h',toks:=t'}:=I.un (Un.write c d k a) (I.hok.write c d k a new)
theorem Inv.pins_of(I:Inv X pins σ H s)(h:∀p∈a,s.heap.get? p.1=some p.2/\H p.1=none/\p.1≠X.env.locals/\p.1∉X.fs/\∀v,p.2.data≠ .cell v):Inv X a σ H s:=
 %[I.ok,I.os,I.bare,I.base,I.loc,I.cell,I.free,I.freeC,λp b=>(Xq b).elim (λz=>I.pin p (Yv _ z)) (h p),I.hok|I.len]
theorem mJ{N:ZB}(c:N.Nodup){i j:Nat}{x:Str}(a:N[i]? =some x)(b:N[j]? =some x):i=j:=by
 have%[f|d]:=Xp a;have%[g|e]:=Xp b;exact(List.getElem_inj c).mp (d.trans e.symm)
theorem xz{A:Around}{E:ZD}{i:Nat}{x:Str}{v:V}{u:Value}{Q:Unit->Shared->Prop}(I:Inv X pins σ H s)(hN:X.N.Nodup)(hi:X.N[i]? =some x)(B:Loc X.env.scope x)(r:aO v u)
 (h:∀s',Inv X pins (σ.set i (some v)) H s'->(∃a,SameBut a s.heap s'.heap/\(a=X.env.locals\/X.env.cells.lookup x=some a))->Q () s') (hf:X.fn x=true\/X.env.scope.names.lookup x=some .local):wpAny M A (storeName X.env x u) Q E s:=by
 have%[m,hn|hl]:=id I.loc;have J:i<σ.length:=I.len▸(Xp hi).1;have cne:=I.cne;have g:∀{a:Addr} {h':Heap},(∃o,s.heap.get? a=some o/\H a=none)->SameBut a s.heap h'->HOk X.prog X.w H h':=λ{a h'} ha f b ob e=>by
  have%[_,_|C]:=ha;refine(I.hok b ob e).stay (λc w' w q=>(f.2 c ?_).trans q) (λ_ q=>q) λ_ _ q=>q
  rintro rfl;rcases w with rfl|w
  .rw[C]at e;cases e
  .rw[C]at w;cases w
 rcases B with L|L
 .refine wpAny_storeName_local L hn (λh' ag f=>?_) (by rw[I.ok.kind];rfl);have%[oL,_,_,ai|_]:=id hn;refine h _ %[I.ok,I.os,I.bare,%[λb o e n N B=>?_,λb o e n N B=>?_,I.base.free,λb o e B=>?_,I.base.tups,I.base.frzs|I.base.tbls],%[_,ag|λj y v' l G e3=>?_],λy c e=>?_,I.free,I.freeC,λp hp=>?_,g %[oL,ai|I.free] f|by simpa using I.len] %[_,f|.inl rfl]
  .exact(f.2 b (Zt (Zg (Zv e) I.ok.above))).trans (I.base.keep b o e n N B)
  .have%[sl|l]:=I.base.slot b o e n N B;exact%[sl|(f.2 b (Zt (Zg (Zv e) I.ok.above))).trans l]
  .have%[o'|l]:=I.base.there b o e B;exact%[o'|(f.2 b (Zt (Zg (Zv e) I.ok.above))).trans l]
  .by_cases O:j=i
   .subst O;rw[hi]at l;cases l;rw[List.getElem?_set_self J]at G;cases G;exact%[u,r|.inl %[L|by simp]]
   .rw[List.getElem?_set_ne (Ne.symm O)]at G;have%[u',r'|q]:=hl j y v' l G e3;refine%[u',r'|?_];rcases q with⟨k,e⟩|⟨k,c,e,z⟩
    .refine .inl %[k|?_];have:y≠x:=λe=>O (mJ hN l (e▸hi))
     simp[this,e]
    .exact .inr %[k,c,e|z.sameBut f (cne y c e)]
  .have%[w'|z]:=I.cell y c e;exact%[w'|z.sameBut f (cne y c e)]
  .have%[e,n,ne,nf|d]:=I.pin p hp;exact%[(f.2 p.1 ne).trans e,n,ne,nf|d]
 .have T:X.fn x=true:=by
   rcases hf with z|z
   .exact z
   .rw[z]at L;cases L
  have%[c|w]:=I.ok.has x (.inl L);have%[w'|z]:=I.cell x c w;refine wpAny_storeName_cell I.ok.kind L w z (λh' U f=>?_);have%[oc,Y|ab]:=id z;refine h _ %[I.ok,I.os,I.bare,%[λb o e n N B=>?_,λb o e n N B=>?_,I.base.free,λb o e B=>?_,I.base.tups,I.base.frzs|I.base.tbls],%[m,hn.sameBut f (Ne.symm (cne x c w))|λj y v' l G e3=>?_],λy c' e=>?_,I.free,I.freeC,λp hp=>?_,g %[oc,Y|I.freeC x c w] f|by simpa using I.len] %[c,f|.inr w]
  .exact(f.2 b (Zt (Zg (Zv e) (I.ok.cab x c T w)))).trans (I.base.keep b o e n N B)
  .have%[sl|l]:=I.base.slot b o e n N B;exact%[sl|(f.2 b (Zt (Zg (Zv e) (I.ok.cab x c T w)))).trans l]
  .have%[o'|l]:=I.base.there b o e B;exact%[o'|(f.2 b (Zt (Zg (Zv e) (I.ok.cab x c T w)))).trans l]
  .by_cases O:j=i
   .subst O;rw[hi]at l;cases l;rw[List.getElem?_set_self J]at G;cases G;exact%[u,r|.inr %[.inl L,c,w|U]]
   .rw[List.getElem?_set_ne (Ne.symm O)]at G;have%[u',r'|q]:=hl j y v' l G e3;refine%[u',r'|?_];rcases q with q|⟨k,c',e,z'⟩
    .exact .inl q
    .refine .inr %[k,c',e|z'.sameBut f ?_];rintro rfl;exact O (mJ hN l (I.ok.inj _ _ _ e w▸hi))
  .by_cases ac:c'=c
   .subst ac;exact%[_|U]
   .have%[w2|z2]:=I.cell y c' e;exact%[w2|z2.sameBut f ac]
  .have%[e,n,ne,nf|d]:=I.pin p hp;refine%[(f.2 p.1 ?_).trans e,n,ne,nf|d];intro q;rw[q,Y]at e;exact d w' ((Za e)▸ab)
theorem mK(I:Inv X pins σ H s)(a:X.N.Nodup)(hi:X.N[i]? =some x)(b:Loc X.env.scope x)(r:aO v u)
 (h:∀s',Inv X pins (σ.set i (some v)) H s'->Q () s') (c:X.fn x=true\/X.env.scope.names.lookup x=some .local):wpAny M A (storeName X.env x u) Q E s:=
 xz I a hi b r (λs' d _=>h s' d) c
theorem Inv.call'(I:Inv X pins σ H s)(e:s'.os=s.os)(u:Un (frs X.stack) ch H H' s.heap s'.heap)(a:HOk X.prog X.w H' s'.heap)(f:AllBare s'.gens)
 (d:∀b∈ch,(b∈X.ex\/X.s₀.heap.objs.size<=b)/\b≠X.env.locals/\(∀x c,X.env.cells.lookup x=some c->c≠b)/\∀p∈X.pn++pins,p.1≠b):Inv X pins σ H' s':=by
 have%[h',g',d',t'|g]:=s';subst e;exact I.call u a f d
end
noncomputable abbrev XK:=Value->ZI->Hp->Prop
noncomputable abbrev St:=List (Option V)
noncomputable abbrev VK:=V->Hp->Prop
noncomputable abbrev TE:=St->Hp->VK->Prop
noncomputable abbrev TT:=St->Hp->(Bool->Hp->Prop)->Prop
noncomputable abbrev TA:=St->Hp->(List V->Hp->Prop)->Prop
structure lU where
 nx:St->Hp->Prop
 rt:VK
 bk:St->Hp->Prop:=λ_ _=>False
 ct:St->Hp->Prop:=λ_ _=>False
noncomputable abbrev TS:=lU->St->Hp->Prop
def EP(X:Cx)(pins:ZE)(b:St)(Q:VK)(u:Value)(s':Shared):Prop:=∃v a,Inv X pins b a s'/\aO v u/\Q v a
def TP(X:Cx)(pins:ZE)(c:St)(Q:Bool->Hp->Prop)(b:Bool)(s':Shared):Prop:=∃a,Inv X pins c a s'/\Q b a
def AP(X:Cx)(pins:ZE)(b:St)(Q:List V->Hp->Prop)(us:ZF)(s':Shared):Prop:=∃vs a,Inv X pins b a s'/\aD vs us/\Q vs a
def SP(X:Cx)(pins:ZE)(D:lU)(f:Flow)(s':Shared):Prop:=
 match f with
 | .next=>∃a b,Inv X pins a b s'/\D.nx a b
 | .brk=>∃a b,Inv X pins a b s'/\D.bk a b
 | .cont=>∃a b,Inv X pins a b s'/\D.ct a b
 | .ret u=>∃v a b,Inv X pins a b s'/\aO v u/\D.rt v b
def PE(X:Cx)(e:Expr)(t:TE):Prop:=
 ∀pins s (a:St) H Q,Inv X pins a H s->t a H Q->wpAny (model X.prog X.w) X.A (eval e X.env) (EP X pins a Q) X.xe s
def PT(X:Cx)(e:Expr)(t:TT):Prop:=
 ∀pins s (a:St) H Q,Inv X pins a H s->t a H Q->wpAny (model X.prog X.w) X.A (isTrue e X.env (eval e X.env)) (TP X pins a Q) X.xe s
def PW(X:Cx)(e:Expr)(t:TT):Prop:=
 ∀a pins s (b:St) H Q,Inv X pins b H s->t b H Q->wpAny (model X.prog X.w) X.A (isTrue e X.env a) (TP X pins b Q) X.xe s
theorem PW.pt{X:Cx}(h:PW X e t):PT X e t:=h _
def PA(X:Cx)(b:List Expr)(t:TA):Prop:=
 ∀pos pins s (a:St) H Q,Inv X pins a H s->t a H Q->wpAny (model X.prog X.w) X.A (spliced (backTo pos (starEach b X.env))) (AP X pins a Q) X.xe s
def PS(X:Cx)(st:Stmt)(t:TS):Prop:=
 ∀pins s (a:St) H D,Inv X pins a H s->t D a H->wpAny (model X.prog X.w) X.A (exec st X.env) (SP X pins D) X.xe s
def PSs(X:Cx)(st:List Stmt)(t:TS):Prop:=
 ∀pins s (a:St) H D,Inv X pins a H s->t D a H->wpAny (model X.prog X.w) X.A (execs st X.env) (SP X pins D) X.xe s
theorem thn{b:Type}{t:Sem b}{Q c:b->Shared->Prop}{M:Model}{A:Around}{E:ZD}{s:Shared}(h:wpAny M A t Q E s)(d:∀a s,Q a s->c a s):wpAny M A t c E s:=wpAny_mono h d λ_ _ x=>x
theorem thP{c d:Type}{t:Sem c}{X:Cx}{pins:ZE}{e:St}{R:d->c->Prop}{Q:d->Hp->Prop}{f:c->Shared->Prop}{M:Model}{A:Around}{E:ZD}{s:Shared}(h:wpAny M A t (λa s=>∃v b,Inv X pins e b s/\R v a/\Q v b) E s)(g:∀a s v b,Inv X pins e b s->R v a->Q v b->f a s):wpAny M A t f E s:=wpAny_mono h (λa s ⟨v,b,i,r,q⟩=>g a s v b i r q) λ_ _ x=>x
theorem thT{c:Type}{t:Sem c}{X:Cx}{pins:ZE}{d:St}{Q:c->Hp->Prop}{e:c->Shared->Prop}{M:Model}{A:Around}{E:ZD}{s:Shared}(h:wpAny M A t (λa s=>∃b,Inv X pins d b s/\Q a b) E s)(f:∀a s b,Inv X pins d b s->Q a b->e a s):wpAny M A t e E s:=wpAny_mono h (λa s ⟨b,i,q⟩=>f a s b i q) λ_ _ x=>x
section
variable{X:Cx}
def asI(x:V)(f:Int->Prop):Prop:=match x with| .int i=>f i|_=>False
def asB(x:V)(f:Bool->Prop):Prop:=match x with| .bl i=>f i|_=>False
def asR(x:V)(f:Addr->Prop):Prop:=match x with| .ref i=>f i|_=>False
theorem F5:asI (.int i) f=f i:=rfl
theorem F6:asB (.bl i) f=f i:=rfl
theorem F7:asR (.ref i) f=f i:=rfl
theorem hV{x:V}{f:Int->Prop}(h:asI x f):∃i,x= .int i/\f i:=by
 cases x<;> first|exact⟨_,rfl,h⟩|exact h.elim
theorem mL{x:V}{f:Bool->Prop}(h:asB x f):∃i,x= .bl i/\f i:=by
 cases x<;> first|exact⟨_,rfl,h⟩|exact h.elim
theorem eZ{x:V}{f:Addr->Prop}(h:asR x f):∃i,x= .ref i/\f i:=by
 cases x<;> first|exact⟨_,rfl,h⟩|exact h.elim
theorem F8:asI x f=∃i,x= .int i/\f i:=propext %[hV|λ⟨_,e,q⟩=>by subst e;exact q]
theorem F9:asB x f=∃i,x= .bl i/\f i:=propext %[mL|λ⟨_,e,q⟩=>by subst e;exact q]
theorem Ga:asR x f=∃i,x= .ref i/\f i:=propext %[eZ|λ⟨_,e,q⟩=>by subst e;exact q]
def lV:Nat->TE
 | 0,some v::_,H,Q=>Q v H
 | i+1,_::a,H,Q=>lV i a H Q
 | _,_,_,_=>False
theorem DN:lV 0 (some v::a) H Q=Q v H:=rfl
theorem DO:lV (i+1) (o::a) H Q=lV i a H Q:=rfl
theorem zb:∀{i:Nat} {a:St},lV i a H Q->∃v,a[i]? =some (some v)/\Q v H
 | 0,some v::_,h=>%[v,rfl|h]
 | 0,none::_,h=>h.elim
 | 0,[],h=>h.elim
 | _+1,[],h=>h.elim
 | i+1,_::a,h=>zb (i:=i) h
def tC(v:V):TE:=λ_ H Q=>Q v H
theorem zc(n:X.N[i]? =some x)(o:Vis X.env.scope x)(f:(x==("__debug__":Str))=false)(g:(x==("__classdict__":Str))=false):PE X (.Name x pos) (lV i):=by
 intro pins s p H Q I h;have%[v,e|h]:=zb h;have%[m,q|w]:=I.loc;have%[u,r|l]:=w i x v n e o;have b:EP X pins p Q u s:=%[v,H,I,r|h]
 rcases l with⟨d,y⟩|⟨d,c,j,a⟩
 .exact wpAny_Name (wpAny_loadName_local I.ok.kind d q y b) f
 .rcases d with d|d
  .exact wpAny_Name (wpAny_loadName_cell I.ok.kind d j a b) f
  .exact wpAny_Name (wpAny_loadName_free I.ok.kind d j a b g) f
theorem DP{i j pos}:PE X (.Constant (.int i) j pos) (tC (.int i)):=λ_ _ _ H _ I h=>wpAny_Constant_int %[.int i,H,I.tok _,%[_|rfl]|h]
theorem Gb{b j pos}:PE X (.Constant (.bool b) j pos) (tC (.bl b)):=λ_ _ _ H _ I h=>Constant_bool %[.bl b,H,I,rfl|h]
theorem DQ{j pos}:PE X (.Constant .none j pos) (tC .non):=λ_ _ _ H _ I h=>Constant_none %[.non,H,I,rfl|h]
theorem DR{x j pos}:PE X (.Constant (.str x) j pos) (tC (.str x)):=λ_ _ _ H _ I h=>Calls.Constant_str %[.str x,H,I.tok _,%[_|rfl]|h]
def Gl(X:Cx)(x:Str):Prop:=X.env.kindOf x=some .globalImplicit
theorem iK(I:Inv X pins d H s)(a:Gl X x)(b:X.mg x=some u)(h:Q u s)
 (c:(x==("__debug__":Str))=false):wpAny (model X.prog X.w) X.A (eval (.Name x pos) X.env) Q E s:=
 Calls.Name_function_global I.ok.kind a (Calls.loadGlobal_global (I.ok.glob▸I.mod.glob.keeps I.bk) b h) c
theorem jd(I:Inv X pins i H s)(a:Gl X x)(b:X.mg x=none)(c:bootBuiltins x=some u)(h:Q u s)
 (d:x≠"__name__":=by decide) (e:(x==("__debug__":Str))=false:=by decide):wpAny (model X.prog X.w) X.A (eval (.Name x pos) X.env) Q E s:=by
 have%[j,f|g]:=I.mod.blt;exact Calls.Name_function_global I.ok.kind a (Calls.loadGlobal_builtin (I.ok.glob▸I.mod.glob.keeps I.bk) b (I.ok.blt▸f.keeps I.bk) ((g x d).trans c) h) e
theorem BU(a:Gl X x)(b:X.mg x=some u)(r:aO v u)(c:(x==("__debug__":Str))=false):PE X (.Name x pos) (tC v):=
 λ_ _ _ H _ I h=>iK I a b %[v,H,I,r|h] c
theorem BV(a:Gl X x)(b:X.mg x=none)(c:bootBuiltins x=some u)(r:aO v u)(d:x≠"__name__")(e:(x==("__debug__":Str))=false):PE X (.Name x pos) (tC v):=
 λ_ _ _ H _ I h=>jd I a b c %[v,H,I,r|h] d e
variable{a b:Expr}{ta tb:TE}{pos:Pos}
def PC(X:Cx)(op:CmpOp)(a b:Expr)(t:TE):Prop:=
 ∀pins s (e:St) H Q,Inv X pins e H s->t e H Q->
  (wpAny (model X.prog X.w) X.A) (eval a X.env) (λv c=>wpAny (model X.prog X.w) X.A (eval b X.env) (λu d=>wpAny (model X.prog X.w) X.A (compareOp op v u) (EP X pins e Q) X.xe d) X.xe c) X.xe s
theorem Gc(b:Expr)(h:op≠ .In)(e:op≠ .NotIn):behindInMarks op b=false:=by
 have c:(op==CmpOp.In)=false:=by lia
 have d:(op==CmpOp.NotIn)=false:=by lia
 cases b<;> simp[behindInMarks,c,d]
def tB(t:TE):TT:=λd H Q=>t d H λx e=>asB x λc=>Q c e
theorem zd{op:CmpOp}(h:PC X op a b t)(e:behindInMarks op b=false):PT X (.Compare a [op] [b] pos) (tB t):=by
 intro pins s f H Q I hw;refine wpAny_isTrue_Compare1 (thn (h pins s f H _ I hw) λv n e=>thn e λu o g=>thn g λc p ⟨x,i,j,l,m⟩=>?_) e;have%[d,rfl|q]:=mL m;cases l;exact wpAny_truthy_bool %[i,j|q]
theorem DS{e:Expr}(h:PE X e t)(f:∀c,isTrue e X.env c=(do let v<-c;standAt e.pos;holding [v] (truthy v))):PT X e (tB t):=by
 intro pins s g H Q I hw;refine isTrue_plain (thP (h pins s g H _ I hw) λv n x i j l m=>?_) (f _);have%[d,rfl|q]:=mL m;cases l;exact wpAny_truthy_bool %[i,j|q]
variable{tA tB':TT}{rest:List Expr}
def BW(t u:TT):TT:=λd H Q=>t d H λc e=>if c=true then u d e Q else Q false e
def tOr(t u:TT):TT:=λd H Q=>t d H λc e=>if c=true then Q true e else u d e Q
def DT(t:TT):TT:=λd H Q=>t d H λc e=>Q (!c) e
theorem BX(d:PT X a tA):PW X (.BoolOp .And [a] pos) tA:=by
 intro g pins s f H Q I h;refine isTrue_and (thn (d pins s f H Q I h) λc i e=>?_);cases c with
 | true=>exact isTrue_and_nil e
 | false=>exact e
theorem DU(d:PT X a tA):PW X (.BoolOp .Or [a] pos) tA:=by
 intro g pins s f H Q I h;refine isTrue_or (thn (d pins s f H Q I h) λc i e=>?_);cases c with
 | false=>exact isTrue_or_nil e
 | true=>exact e
theorem DV(i:PT X a tA)(j:PW X (.BoolOp .And (b::rest) pos) tB'):PW X (.BoolOp .And (a::b::rest) pos) (BW tA tB'):=by
 intro l pins s d H Q I h;refine isTrue_and (thT (i pins s d H _ I h) λc m e f g=>?_);cases c with
 | true=>exact j l pins m d e Q f g
 | false=>exact%[e,f|g]
theorem Gd(i:PT X a tA)(j:PW X (.BoolOp .Or (b::rest) pos) tB'):PW X (.BoolOp .Or (a::b::rest) pos) (tOr tA tB'):=by
 intro l pins s d H Q I h;refine isTrue_or (thT (i pins s d H _ I h) λc m e f g=>?_);cases c with
 | true=>exact%[e,f|g]
 | false=>exact j l pins m d e Q f g
theorem DW(c:PT X a tA):PT X (.UnaryOp .Not a pos) (DT tA):=by
 intro pins s d H Q I h;exact isTrue_not (c pins s d H _ I h)
def ze(ta tb:TE):TE:=λd H Q=>ta d H λx e=>asB x λc=>if c=true then tb d e Q else Q (.bl false) e
def DZ(ta tb:TE):TE:=λd H Q=>ta d H λx e=>asB x λc=>if c=true then Q (.bl true) e else tb d e Q
theorem Ea{op}(h:PE X a t):PE X (.BoolOp op [a] pos) t:=λpins s c H Q I hw=>BoolOp_one (h pins s c H Q I hw)
theorem Eb(i:PE X a ta)(j:PE X (.BoolOp .And (b::rest) pos) tb):PE X (.BoolOp .And (a::b::rest) pos) (ze ta tb):=by
 intro pins s e H Q I h;refine BoolOp_and (thP (i pins s e H _ I h) λv l x f g m d=>?_);have%[c,rfl|d]:=mL d;cases m;refine wpAny_truthy_bool ?_;cases c with
 | true=>exact j pins l e f Q g d
 | false=>exact%[.bl false,f,g,rfl|d]
theorem Ge(i:PE X a ta)(j:PE X (.BoolOp .Or (b::rest) pos) tb):PE X (.BoolOp .Or (a::b::rest) pos) (DZ ta tb):=by
 intro pins s e H Q I h;refine BoolOp_or (thP (i pins s e H _ I h) λv l x f g m d=>?_);have%[c,rfl|d]:=mL d;cases m;refine wpAny_truthy_bool ?_;cases c with
 | false=>exact j pins l e f Q g d
 | true=>exact%[.bl true,f,g,rfl|d]
end
def SqL(K:ZA)(H:Hp)(a:Addr)(xs:List V):Prop:=
 Rd H a (.lst xs)\/
  ∃o its n,K.lookup a=some o/\o.cls= .type "list"/\o.dict=none/\o.data= .seq its n/\its.size<=sizeLine/\aD xs its.toList
def SqT(K:ZA)(H:Hp)(a:Addr)(xs:List V):Prop:=
 Rd H a (.tup xs)\/
  ∃o its n,K.lookup a=some o/\o.cls= .type "tuple"/\o.data= .seq its n/\its.size<=sizeLine/\aD xs its.toList
noncomputable def absV:Value->Option V
 | .none=>some .non
 | .bool b=>some (.bl b)
 | .int i _=>some (.int i)
 | .str x _=>some (.str x)
 | .bytes b _=>some (.byt b)
 | .float b _=>some (.flt b)
 | .ref a=>some (.ref a)
 | .type n=>some (.ty n)
 | _=>none
theorem aO.abs(r:aO x u):absV u=some x:=by
 cases x with
 | non=>cases r;rfl
 | bl _=>cases r;rfl
 | int _=>have%[t|rfl]:=r;rfl
 | str _=>have%[t|rfl]:=r;rfl
 | byt _=>have%[t|rfl]:=r;rfl
 | flt _=>have%[t|rfl]:=r;rfl
 | ref _=>cases r;rfl
 | ty _=>cases r;rfl
theorem aO.inj(r:aO x u)(q:aO y u):x=y:=Za (r.abs.symm.trans q.abs)
theorem aD.inj:∀{xs ys:List V} {us:ZF},aD xs us->aD ys us->xs=ys
 | _,_,_,.nil,.nil=>rfl
 | _,_,_,.cons r t,.cons a t'=>by rw[r.inj a,aD.inj t t']
section
variable{X:Cx}{pins:ZE}{σ:St}{H:Hp}{s:Shared}
variable{a:Addr}{xs ys:List V}
theorem SqL.of{K:ZA}(h:H a=some (.lst xs)):SqL K H a xs:= .inl (.inl h)
theorem SqT.of{K:ZA}(h:H a=some (.tup xs)):SqT K H a xs:= .inl (.inl h)
theorem Inv.list(I:Inv X pins σ H s)(h:SqL X.K H a xs):∃its:ZF,aD xs its/\PlainL s.heap a its.toArray/\xs.length<=sizeLine:=by
 rcases h with h|⟨o,its,n,b,c,d,f,g,r⟩
 .have%[z,its,n,r|e]:=h.ok I.hok;exact%[its,r,%[_,n,e,rfl,rfl|rfl]|z]
 .refine%[its.toList,r,%[o,n,I.kIn a o b,c,d|f]|?_];have e:=r.length
  simp_all
theorem Inv.tuple(I:Inv X pins σ H s)(h:SqT X.K H a xs):∃its:ZF,aD xs its/\IsTup s.heap a its.toArray/\xs.length<=sizeLine:=by
 rcases h with h|⟨o,its,n,b,c,d,f,r⟩
 .have%[z,its,r|p]:=h.ok I.hok;exact%[its,r,p|z]
 .refine%[its.toList,r,%[o,I.kIn a o b,c,n|d]|?_];have e:=r.length;simp only[Zb]at e
  lia
theorem Inv.list_inj(I:Inv X pins σ H s)(h:SqL X.K H a xs)(h':SqL X.K H a ys):xs=ys:=by
 have%[its,r,%[o,n,e,_,_|d]|_]:=I.list h;have%[its',c,%[g,i,b,_,_|d']|_]:=I.list h';rw[e]at b;cases b;rw[d]at d';injection d' with f _
 have:=congrArg Array.toList f;subst this;exact r.inj c
theorem Inv.tuple_inj(I:Inv X pins σ H s)(h:SqT X.K H a xs)(h':SqT X.K H a ys):xs=ys:=by
 have%[its,r,%[o,e,_,n|d]|_]:=I.tuple h;have%[its',c,%[g,b,_,i|d']|_]:=I.tuple h';rw[e]at b;cases b;rw[d]at d';injection d' with f _
 have:=congrArg Array.toList f;subst this;exact r.inj c
end
noncomputable abbrev Cx.wish(X:Cx)(E:ZD):Cx:={X with xe:=E}
noncomputable abbrev Cx.nox(X:Cx):Cx:=X.wish λ_ _=>False
theorem Cx.Ok.wish{X:Cx}(ok:X.Ok)(E:ZD):(X.wish E).Ok:=
 %[ok.mod,ok.kind,ok.glob,ok.blt,ok.above,ok.inj,ok.has,ok.cab,ok.hd,ok.frames,ok.stk,ok.exf,ok.bs,ok.bsz,ok.noex,ok.exfs,ok.funs|ok.frf]
theorem Cx.Ok.unwish{X:Cx}{E:ZD}(ok:(X.wish E).Ok):X.Ok:=
 %[ok.mod,ok.kind,ok.glob,ok.blt,ok.above,ok.inj,ok.has,ok.cab,ok.hd,ok.frames,ok.stk,ok.exf,ok.bs,ok.bsz,ok.noex,ok.exfs,ok.funs|ok.frf]
section
variable{X:Cx}{pins:ZE}{σ:St}{H:Hp}{s:Shared}
variable{E:ZD}
theorem Inv.wish(I:Inv X pins σ H s)(E:ZD):Inv (X.wish E) pins σ H s:=%[I.ok.wish E,I.os,I.bare,I.base,I.loc,I.cell,I.free,I.freeC,I.pin,I.hok|I.len]
theorem Inv.unwish(I:Inv (X.wish E) pins σ H s):Inv X pins σ H s:=%[I.ok.unwish,I.os,I.bare,I.base,I.loc,I.cell,I.free,I.freeC,I.pin,I.hok|I.len]
theorem SP.unwish{D:lU}{f:Flow}{s':Shared}(h:SP (X.wish E) pins D f s'):SP X pins D f s':=by
 cases f with
 | next=>have%[a,b,I|q]:=h;exact%[a,b,I.unwish|q]
 | brk=>have%[a,b,I|q]:=h;exact%[a,b,I.unwish|q]
 | cont=>have%[a,b,I|q]:=h;exact%[a,b,I.unwish|q]
 | ret u=>have%[v,a,b,I,r|q]:=h;exact%[v,a,b,I.unwish,r|q]
theorem PSs.nox{st:List Stmt}(h:PSs X.nox st t):PSs X st t:=λpins s σ H D I hw=>
 wpAny_mono (h pins s σ H D (I.wish _) hw) (λ_ _ q=>q.unwish) λ_ _ z=>False.elim z
end
section
variable{X:Cx}{st:Stmt}{rest:List Stmt}{t u:TS}{e:Expr}{te:TE}{pos:Pos}
def zf:TS:=λD a H=>D.nx a H
def bw(t u:TS):TS:=λD a H=>t {D with nx:=u D} a H
theorem BY:PSs X [] zf:=λ_ _ a H _ I h=>wpAny_execs_nil %[a,H,I|h]
theorem zg(b:PS X st t)(c:PSs X rest u):PSs X (st::rest) (bw t u):=by
 intro pins s d H D I h;refine wpAny_execs_cons (thn (b pins s d H _ I h) λf g q=>?_);cases f with
 | next=>
   have%[a,i,j|q]:=q;exact c pins g a i D j q
 | ret v=>exact q
 | brk=>exact q
 | cont=>exact q
theorem BZ(a:PS X st t):PSs X [st] t:=by
 intro pins s b H D I h;refine wpAny_execs_cons (thn (a pins s b H D I h) λf c q=>?_);cases f with
 | next=>exact wpAny_execs_nil q
 | ret v=>exact q
 | brk=>exact q
 | cont=>exact q
theorem Inv.quiet{pins:List _}{a:St}{H:Hp}{s:Shared}(I:Inv X pins a H s):interactive X.env=false:=by simp[interactive,I.ok.kind]
def jx(te:TE):TS:=λD a H=>te a H λ_ b=>D.nx a b
theorem B0(b:PE X e te)(c:swapsWith e none pos.line X.env=pure false):PS X (.Expr e pos) (jx te):=by
 intro pins s a H D I h;exact wpAny_Expr_any (thP (b pins s a H _ I h) λv i x d f j g=>%[a,d,f|g]) I.quiet c
def jy(te:TE):TS:=λD a H=>te a H D.rt
theorem Ec(b:PE X e te):PS X (.Return (some e) pos) (jy te):=by
 intro pins s a H D I h;exact wpAny_Return_some (thP (b pins s a H _ I h) λv i x c d f g=>%[x,a,c,d,f|g])
def ko(c:TT)(t u:TS):TS:=λD a H=>c a H λb d=>if b=true then t D a d else u D a d
theorem Gf{c:Expr}{a b:List Stmt}(m:PT X c n)(o:PSs X a t)(p:PSs X b u):PS X (.If c a b pos) (ko n t u):=by
 intro pins s f H D I h;refine wpAny_If (thT (m pins s f H _ I h) λd g i j l=>?_);cases d with
 | true=>exact o pins g f i D j l
 | false=>exact p pins g f i D j l
def zh:TS:=λ_ _ _=>False
theorem zi:PS X st zh:=λ_ _ _ _ _ _ h=>h.elim
end
noncomputable abbrev TG:=V->St->Hp->(St->Hp->Prop)->Prop
noncomputable abbrev TGs:=List V->St->Hp->(St->Hp->Prop)->Prop
def PG(X:Cx)(a:Expr)(t:TG):Prop:=
 ∀pins s (c:St) H v u Q,Inv X pins c H s->aO v u->t v c H Q->
  (wpAny (model X.prog X.w) X.A) (assign a X.env u) (λ_ s'=>∃b d,Inv X pins b d s'/\Q b d) X.xe s
def PGs(X:Cx)(ts:List Expr)(t:TGs):Prop:=
 ∀pins s (b:St) H vs us Q,Inv X pins b H s->aD vs us->t vs b H Q->
  (wpAny (model X.prog X.w) X.A) (assignInOrder ((assignEach ts X.env).map (·.2)) us) (λ_ s'=>∃a c,Inv X pins a c s'/\Q a c) X.xe s
section
variable{X:Cx}{pos:Pos}
def iZ(i:Nat):TG:=λv a H Q=>Q (a.set i (some v)) H
theorem B1(a:X.N.Nodup)(hi:X.N[i]? =some x)(b:Loc X.env.scope x)(c:X.fn x=true\/X.env.scope.names.lookup x=some .local):PG X (.Name x pos) (iZ i):=by
 intro pins s e H v u Q I r h;exact wpAny_assign_Name (mK I a hi b r (λs' d=>%[_,H,d|h]) c)
def Ee:TGs:=λvs a H Q=>vs=[]/\Q a H
def zj(t:TG)(u:TGs):TGs:=λvs b H Q=>∃v r,vs=v::r/\t v b H λa c=>u r a c Q
theorem B2:PGs X [] Ee:=by
 intro pins s a H vs us Q I r h;have%[e|h]:=h;exact assignInOrder_nil %[a,H,I|h]
theorem zk{e:Expr}{u:TGs}(c:PG X e t)(d:PGs X a u)
 (f:(assignEach (e::a) X.env).map (·.2)=assign e X.env::(assignEach a X.env).map (·.2)):PGs X (e::a) (zj t u):=by
 intro pins s g H vs us Q I r h;have%[v,o,i|h]:=h;subst i;cases r with
 | cons r rr=>
   rw[f];exact assignInOrder_cons (thn (c pins s g H _ _ _ I r h) λ_ j ⟨b,l,m,n⟩=>d pins j b l _ _ Q m rr n)
def B3(K:ZA)(n:Nat)(t:TGs):TG:=λv b H Q=>asR v λa=>∃xs,SqT K H a xs/\xs.length=n/\t xs b H Q
theorem Ef(g:X.calm=true)(h:PGs X c t)
 (i:(assignEach c X.env).length=n) (d:(assignEach c X.env).findIdx? (·.1)=none):PG X (.Tuple c k pos) (B3 X.K n t):=by
 intro pins s j H v u Q I r hw;have%[a,l,xs,m,p|hw]:=eZ hw;clear ‹B3 _ _ _ _ _ _ _›;subst l;cases r;have%[its,f,q|y]:=I.tuple m;exact assign_Tuple_tuple (I.ok.hd g) q (by simp[i,<-p,f.length]) d λh' w=>h pins _ j H xs _ Q (I.kept λb o e=>w b o (Zt (Zv e)) e) (f) hw
def qQ(b:TE)(g:TG):TS:=λD a H=>b a H λx c=>g x a c D.nx
theorem Eg{a e:Expr}{g:TG}(c:PE X e d)(f:PG X a g)(i:swapsWithSole [a] e pos.line X.env=pure false)(hw:swappedStores [a] e X.env=pure none)
 (j:(assignEach [a] X.env).map (·.2)=[assign a X.env]):PS X (.Assign [a] e pos) (qQ d g):=by
 intro pins s b H D I h;refine wpAny_Assign_stores (thP (c pins s b H _ I h) λv l x m n o p=>?_) i hw;rw[j];exact thn (f pins l b m x v _ n o p) λ_ r q=>q
theorem zo{i:Nat}{x:Str}{e:Expr}(b:X.N.Nodup)(hi:X.N[i]? =some x)(c:Loc X.env.scope x)(d:PE X e f)(g:swapsWith e (some (.Name x a)) pos.line X.env=pure false)(j:X.fn x=true\/X.env.scope.names.lookup x=some .local):
 PS X (.Assign [.Name x a] e pos) (qQ f (iZ i)):=by
 intro pins s l H D I h;exact wpAny_Assign_Name (thP (d pins s l H _ I h) λv r y m n o p=>mK n b hi c o (λu q=>%[_,m,q|p]) j) g
end
section
variable{X:Cx}{pos:Pos}
def zq(c:TT)(h:TS):TS:=λD a H=>∃W:Nat->St->Hp->Prop,(∃m,W m a H)/\∀m a H,W m a H->
 c a H λb e=>if b=true then∃N:St->Hp->Prop,(∀d f,N d f->∃g,g<m/\W g d f)/\h {D with nx:=N,ct:=N,bk:=D.nx} a e else D.nx a e
theorem zt(w:PassesOwn (model X.prog X.w) X.A X.env X.xe)(E:PT X c G)(J:PSs X e L):PS X (.While c e [] pos) (zq G L):=by
 intro pins s M H D I h;have%[W,%[O|Q]|g]:=h;refine wpAny_While (codeAny_whileLoop (λn s'=>∃i y,Inv X pins i y s'/\W n i y) ?_ O %[M,H,I|Q]);intro n T %[d,z,U|Y];refine wpAny_passesOwn w (thT (E pins T d z _ U (g n d z Y)) λb s2 A B l=>?_);cases b with
 | true=>
   have%[N,C|l]:=l;refine wpAny_passesOwn w (thn (J pins s2 d A _ B l) λf s3 m=>?_);cases f with
   | next=>
     have%[a,j,o|p]:=m;have%[q,r|u]:=C a j p;exact%[q,r,a,j,o|u]
   | cont=>
     have%[a,j,o|p]:=m;have%[q,r|u]:=C a j p;exact%[q,r,a,j,o|u]
   | brk=>exact m
   | ret v=>exact m
 | false=>
   exact wpAny_execs_nil %[d,A,B|l]
end
structure It where
 go:Nat->Hp->Prop
 yld:Nat->Hp->V->Hp->Prop
 stop:Nat->Hp->Prop
def lW(X:Cx)(pins:ZE)(H:Hp)(b:Addr):Prop:=
 H b=none/\b≠X.env.locals/\b∉X.fs/\(b∈X.ex\/X.s₀.heap.objs.size<=b)/\(∀x c,X.env.cells.lookup x=some c->c≠b)/\∀p∈X.pn++pins,p.1≠b
theorem Inv.fpOk{X:Cx}(I:Inv X pins h H s)(a:⇑s<=b)(d:f b=none):lW X pins f b:=by
 refine%[d,X3 (Zg I.lt a),I.nofs a,.inr (Yi I.sz a),λx c e z=>?_|λp g z=>?_]
 .have%[v|q]:=I.cell x c e;exact absurd (Zg q.lt (z▸a)) (Xm _)
 .exact absurd (Zg (Zv (I.pin p g).1) (z▸a)) (Xm _)
structure qR (P:Program) (w:World) (K:ZA) (tg:Expr) (J:It) (fp:List Addr) (it:Addr) (tn:Nat->Heap->Prop):Prop where
 mem:it∈fp
 obj:∀i h,tn i h->∀b∈fp,∃o,h.get? b=some o/\∀v,o.data≠ .cell v
 keep:∀i h h',tn i h->(∀b∈fp,∀o,h.get? b=some o->h'.get? b=some o)->tn i h'
 item:∀(X:Cx),X.prog=P->X.w=w->X.K=K->X.calm=true->∀i (pins:ZE) s (σ:St) H (E:ZD),Inv X pins σ H s->(∀b∈fp,lW X pins H b)->tn i s.heap->J.go i H->
  wpAny (model P w) X.A (pyNext (.ref it)) (λr s1=>∃u,r=some u/\
   wpAny (model P w) X.A (letOwnedTupleGo tg (.ref it) u) (λ_ s2=>∃x H',Inv X pins σ H' s2/\aO x u/\J.yld i H x H'/\tn (i+1) s2.heap/\∀b∈fp,H' b=none) E s1) E s
 done:∀X,X.prog=P->X.w=w->X.K=K->X.calm=true->∀i pins s (σ:St) H E,Inv X pins σ H s->(∀b∈fp,lW X pins H b)->tn i s.heap->J.stop i H->
  wpAny (model P w) X.A (pyNext (.ref it)) (λr s1=>r=none/\Inv X pins σ H s1) E s
 self:∀A i s Q E,tn i s.heap->Q (.ref it) s->wpAny (model P w) A (pyIter (.ref it)) Q E s
noncomputable abbrev TI:=St->Hp->(It->Hp->Prop)->Prop
def PIE(X:Cx)(pins:ZE)(g:St)(h:Expr)(R:It->Hp->Prop)(a:Value)(d:Shared):Prop:=
 ∃it e f J c,a= .ref it/\Inv X pins g c d/\qR X.prog X.w X.K h J e it f/\f 0 d.heap/\(∀b∈e,lW X pins c b)/\R J c
def PI(X:Cx)(b iter:Expr)(c:TI):Prop:=
 ∀pins s (a:St) H R,Inv X pins a H s->c a H R->
  (wpAny (model X.prog X.w) X.A) (eval iter X.env) (λv d=>wpAny (model X.prog X.w) X.A (pyIter v) (PIE X pins a b R) X.xe d) X.xe s
theorem sJ(b:s.heap.get? it=some o)(c:o.cls= .type n)(d:o.data= .fields vs)
 (e:["enumerate","zip","dict_itemiterator","dict_reverseitemiterator","odict_iterator","itertools.zip_longest","itertools.pairwise"].contains n=false) (a:Q () s):wpAny M A (letOwnedTupleGo f (.ref it) u) Q E s:=by
 cases f<;> first
  | exact Z3 a
  |(cases u<;> first
   | exact Z3 a
   |(refine Z2 (wpAny_load b ?_)
     rw[c,d];show wpAny M A (if(["enumerate","zip","dict_itemiterator","dict_reverseitemiterator","odict_iterator","itertools.zip_longest","itertools.pairwise"].contains n&&vs[0]? ==some _)=true then _ else _) Q E s;rw[if_neg (by intro h;rw[e,Bool.false_and]at h;cases h)];exact Z3 a))
noncomputable def Itl(K:ZA)(a:Addr):It:=
 ⟨λi H=>∃xs x,SqL K H a xs/\xs[i]? =some x,λi H x b=>b=H/\∀xs,SqL K H a xs->xs[i]? =some x,λi H=>∃xs,SqL K H a xs/\xs.length<=i⟩
noncomputable def Itt(K:ZA)(a:Addr):It:=
 ⟨λi H=>∃xs x,SqT K H a xs/\xs[i]? =some x,λi H x b=>b=H/\∀xs,SqT K H a xs->xs[i]? =some x,λi H=>∃xs,SqT K H a xs/\xs.length<=i⟩
noncomputable def Itr(lo:Int)(n:Nat):It:=%[λi _=>i<n,λi H x a=>a=H/\x= .int (lo+i)|λi _=>n<=i]
theorem xA{P:Program}{K:ZA}(a it:Addr):qR P w K tg (Itl K a) [it] it (λi h=>h.IsListIter it a i) where
 mem:=by simp
 obj:=λi h st b hb=>by
  have e:=by simpa using hb
  subst e;have%[o,e,c|d]:=st;exact%[o,e|λv z=>by rw[d]at z;cases z]
 keep:=λi h h' st k=>st.at λo e=>k it ∅ o e
 item:=by
  intro X hP hw hK hc i pins s σ H E I hf st hg;subst hP hw hK;have%[xs,x,hq|hx]:=hg;have%[its,rv,p|hz]:=I.list hq;have%[u,hu|ru]:=rv.get hx;have%[f0,f1,f2,f3,f4|f5]:=hf it ∅;refine wpAny_pyNext_list_item st p.isList (by simpa using hu) λh' st' sb=>?_
  have%[o,e,c|d]:=id st';exact%[u,rfl|sJ e c d (by decide) %[x,H,(I.turned (λb o hb e=>(sb.2 b hb).trans e) f0 f1 f3 f4 f5),ru,%[rfl|λys hy=>(I.list_inj hy hq)▸hx],st'|λb hb=>(hf b hb).1]]
 done:=by
  intro X hP hw hK hc i pins s σ H E I hf st hg;subst hP hw hK;have%[xs,hq|hx]:=hg;have%[its,rv,p|hz]:=I.list hq;have%[f0,f1,f2,f3,f4|f5]:=hf it ∅;have hl:=rv.length;exact wpAny_pyNext_list_end (I.ok.hd hc) st p.isList (by simp;lia) λh' eb=>%[rfl|I.turned (λb o hb e=>eb b o hb e) f0 f1 f3 f4 f5]
 self:=λ_ _ _ _ _ st h=>wpAny_pyIter_listiter st h
theorem uW{P:Program}{K:ZA}(a it:Addr):qR P w K tg (Itt K a) [it] it (λi h=>h.IsTupleIter it a i) where
 mem:=by simp
 obj:=λi h st b hb=>by
  have e:=by simpa using hb
  subst e;have%[o,e,c|d]:=st;exact%[o,e|λv z=>by rw[d]at z;cases z]
 keep:=λi h h' st k=>st.at λo e=>k it ∅ o e
 item:=by
  intro X hP hw hK hc i pins s σ H E I hf st hg;subst hP hw hK;have%[xs,x,hq|hx]:=hg;have%[its,rv,p|hz]:=I.tuple hq;have%[u,hu|ru]:=rv.get hx;have%[f0,f1,f2,f3,f4|f5]:=hf it ∅;refine wpAny_pyNext_tuple_item st (p) (by simpa using hu) λh' st' sb=>?_
  have%[o,e,c|d]:=id st';exact%[u,rfl|sJ e c d (by decide) %[x,H,(I.turned (λb o hb e=>(sb.2 b hb).trans e) f0 f1 f3 f4 f5),ru,%[rfl|λys hy=>(I.tuple_inj hy hq)▸hx],st'|λb hb=>(hf b hb).1]]
 done:=by
  intro X hP hw hK hc i pins s σ H E I hf st hg;subst hP hw hK;have%[xs,hq|hx]:=hg;have%[its,rv,p|hz]:=I.tuple hq;have%[f0,f1,f2,f3,f4|f5]:=hf it ∅;have hl:=rv.length;exact wpAny_pyNext_tuple_end (I.ok.hd hc) st (p) (by simp;lia) λh' eb=>%[rfl|I.turned (λb o hb e=>eb b o hb e) f0 f1 f3 f4 f5]
 self:=λ_ _ _ _ _ st h=>wpAny_pyIter_tupleiter st h
theorem uX{P:Program}{K:ZA}(it:Addr)(lo:Int)(n:Nat):qR P w K tg (Itr lo n) [it] it (λi h=>IsRangeIter h it (lo+(i:Nat)*1) ((n:Int) -(i:Nat)) 1) where
 mem:=by simp
 obj:=λi h st b hb=>by
  simp_all
 keep:=λi h h' st k=>k it ∅ _ st
 item:=by
  intro X hP hw hK hc i pins s σ H E I hf st hg;subst hP hw hK;have%[f0,f1,f2,f3,f4|f5]:=hf it ∅;refine(Walks.range (prog:=X.prog) (w:=X.w) (I.ok.hd hc) it lo 1 n).item i s _ _ hg st λv h' tk hv st' kk=>?_
  have%[t|rfl]:=hv;refine%[_,rfl|sJ st' rfl rfl (by decide) %[.int _,H,(I.turned (λb o hb e=>kk b o (by simpa using hb) e) f0 f1 f3 f4 f5),%[t|?_],%[rfl|rfl],st'|λb hb=>(hf b hb).1]];rw[Int.mul_one]
 done:=by
  intro X hP hw hK hc i pins s σ H E I hf st hg;have%[f0,f1,f2,f3,f4|f5]:=hf it ∅;exact wpAny_pyNext_range_end (I.ok.hd hc) st (by have:n<=i:=hg;lia) λh' eb=>%[rfl|I.turned (λb o hb e=>eb b o hb e) f0 f1 f3 f4 f5]
 self:=λ_ _ _ _ _ st h=>wpAny_pyIter_rangeiter st h
section
variable{X:Cx}{tg:Expr}
theorem zu{R:It->Hp->Prop}{lo hi:Int}(I:Inv X pins c H s)(d: -(2^62)<=lo)(f:lo<2^62)(g: -(2^62)<=hi)(h:hi<2^62)
 (q:R (Itr lo (hi-lo).toNat) H):wpAny (model X.prog X.w) X.A (pyIter (.ref ⇑s)) (PIE X pins c tg R) E {s with heap:=s.heap.push {cls:= .type "range",data:= .fields #[.int lo t,.int hi u,.int 1 v]},toks:=tk}:=by
 refine wpAny_pyIter_range (IsRange.new ..) (small_one d f g h) ?_;have a:Inv X pins c H {s with heap:=s.heap.push {cls:= .type "range",data:= .fields #[.int lo t,.int hi u,.int 1 v]},toks:=tk}:=I.kept λb o e=>Z7 _ e
 refine%[(s.heap.push _).objs.size,[(s.heap.push _).objs.size],_,_,H,rfl,
  a.kept λb o e=>Z7 _ e,uX _ lo _,?_,λb i=>?_|q]
 .have j:lo+((0:Nat))*1=lo:=by simp
  have l:(((hi-lo).toNat)) -((0:Nat))=Builtin.Range.rangeSize lo hi 1:=by rw[rangeSize_one];split<;> lia
  rw[j,l];exact Zj _ rfl
 .have e:b=(s.heap.push {cls:= .type "range",data:= .fields #[.int lo t,.int hi u,.int 1 v]}).objs.size:=by simpa using i
  subst e;exact a.fpOk (Zi _) (a.hok.fresh (Zi _))
def zv(a:TA):TI:=λb H R=>a b H λvs c=>∃j:Int,vs=[.int j]/\ -(2^62)<=j/\j<2^62/\R (Itr 0 j.toNat) c
theorem xB{a:Expr}(c:Gl X "range")(d:X.mg "range"=none)(f:PA X [a] g)(i:starEach [a] X.env=[(false,eval a X.env)]):PI X tg (.Call (.Name "range" p) [a] [] pos) (zv g):=by
 intro pins s l H R I h;refine Call_ (jd I c d boot_range (PyProof.Rows.callWith_type1 (thP (f pos pins s l H _ I h) λus u vs v m n b=>?_) i rfl));have%[j,e,b,o|q]:=b;subst e;cases n with
 | cons r rr=>
   cases rr;have%[t|rfl]:=r;exact call_range_1 (zu m ⋯ ⋯ b o (by simpa using q))
def uY(f:TI)(g:TG)(h:TS):TS:=λD a H=>f a H λJ j=>∃W:Nat->Nat->St->Hp->Prop,(∃m,W 0 m a j)/\∀i m a H,W i m a H->
 (J.stop i H/\D.nx a H)\/(J.go i H/\∃N:St->Hp->Prop,(∀b c,N b c->∃e,e<m/\W (i+1) e b c)/\∀x c,J.yld i H x c->g x a c λd l=>h {D with nx:=N,ct:=N,bk:=D.nx} d l)
noncomputable def qS(a:List Addr)(h:Heap):ZE:=a.filterMap λb=>(h.get? b).map λo=>(b,o)
theorem eN(a:b∈c)(e:h.get? b=some o):(b,o)∈qS c h:=mem_filterMap.mpr %[b,a|by rw[e];rfl]
theorem xC(a:p∈qS c h):p.1∈c/\h.get? p.1=some p.2:=by
 have%[b,d|e]:=mem_filterMap.mp a;cases q:h.get? b with
 | none=>simp_all
 | some o=>
   rw[q]at e;have f:=Za e;subst f;exact%[d|q]
theorem Inv.pinned(I:Inv X pins g H s)(h:∀b∈a,lW X pins H b)(i:∀b∈a,∃o,s.heap.get? b=some o/\∀v,o.data≠ .cell v):Inv X (pins++qS a s.heap) g H s:=
 I.pins_of λp j=>(Xq j).elim (λz=>I.pin p (Yw _ z)) λz=>by
  have%[c|e]:=xC z;have%[l,m,n|_]:=h p.1 c;have%[o,f|d]:=i p.1 c;rw[e]at f;cases f;exact%[e,l,m,n|d]
theorem Inv.unpinned(I:Inv X (pins++pl) a H s):Inv X pins a H s:=I.pins_of λp b=>I.pin p (Yw _ (Yv _ b))
theorem Eh(B:PassesOwn (model X.prog X.w) X.A X.env X.xe)(hc:X.calm=true)(hi:PI X tg iter wi)(hg:PG X tg g)(c:PSs X C tb)
 (hs:∀x,foldedSetIterable iter X.env x=pure x):PS X (.For tg iter C [] pos) (uY wi g tb):=by
 intro pins s σ H D I h;refine wpAny_For (thn (hi pins s σ H _ I h) λv s1 h1=>thn h1 λag s2 h2=>?_) hs;have%[it,O,tn,J,H2,e,I2,T,U,f2,W,%[m0|w0]|E]:=h2;subst e;have j:∀{y:Hp},(∀b∈O,y b=none)->∀b∈O,lW X pins y b:=λhn b c=>%[hn b c|(f2 b c).2]
 refine codeAny_forLoop_any (λn s'=>∃i l y,Inv X pins l y s'/\tn i s'.heap/\(∀b∈O,y b=none)/\W i n l y) ?_ m0 %[0,σ,H2,I2,U,λb c=>(f2 b c).1|w0];intro n s3 %[i,p,Q,I3,G,L|w3];rcases E i n p Q w3 with⟨stop,qn⟩|⟨go,N,hN,step⟩
 .refine wpAny_passesOwn B (thn (T.done X rfl rfl rfl hc i pins s3 p Q X.xe I3 (j L) G stop) λr s4 ⟨Y,I4⟩=>?_);subst Y;exact wpAny_execs_nil %[p,Q,I4|qn]
 .refine wpAny_passesOwn B (thn (T.item X rfl rfl rfl hc i pins s3 p Q X.xe I3 (j L) G go) λr s4 ⟨u,Y,h4⟩=>?_);subst Y;refine wpAny_passesOwn B (thn h4 λ_ s5 ⟨x,H5,I5,r5,y5,A,ab⟩=>wpAny_passesOwn B (thn (hg _ s5 p H5 x u _ (I5.pinned (j ab) (T.obj _ _ A)) r5 (step x H5 y5)) λ_ s6 ⟨ac,H6,I6,q6⟩=>wpAny_passesOwn B (thn (c _ s6 ac H6 _ I6 q6) λf s7 z=>?_)));have again:∀{a:St} {q:Hp},Inv X _ a q s7->N a q->∃m,m<n/\∃i l y,Inv X pins l y s7/\tn i s7.heap/\(∀b∈O,y b=none)/\W i m l y:=λ{a q} w M=>by
   have%[m',hm|w7]:=hN a q M;refine%[m',hm,i+1,a,q,w.unpinned,T.keep _ _ _ A λb c o e=>(w.pin _ (Yw _ (Yw _ (eN c e)))).1,λb c=>?_|w7];have%[o,e|d]:=T.obj _ _ A b c;exact(w.pin _ (Yw _ (Yw _ (eN c e)))).2.1
  cases f with
  | next=>have%[a,q,w|M]:=z;exact again w M
  | cont=>have%[a,q,w|M]:=z;exact again w M
  | brk=>have%[a,q,w|z]:=z;exact%[a,q,w.unpinned|z]
  | ret v=>have%[x7,a,q,w,r7|z]:=z;exact%[x7,a,q,w.unpinned,r7|z]
end
theorem bx{K:ZA}{g:TG}{l:TS}{D:lU}(Pv:Nat->St->Hp->Prop)(o:Pv 0 b H)(r:∀i b H,i<=xs.length->Pv i b H->SqL K H a xs)
 (s:∀i x b H,xs[i]? =some x->Pv i b H->g x b H λc h=>l {D with nx:=Pv (i+1),ct:=Pv (i+1),bk:=D.nx} c h) (u:∀b H,Pv xs.length b H->D.nx b H):
 ∃W:Nat->Nat->St->Hp->Prop,(∃m,W 0 m b H)/\∀i m b H,W i m b H->
  ((Itl K a).stop i H/\D.nx b H)\/((Itl K a).go i H/\∃N:St->Hp->Prop,(∀d f,N d f->∃n,n<m/\W (i+1) n d f)/\∀x f,(Itl K a).yld i H x f->g x b f λc h=>l {D with nx:=N,ct:=N,bk:=D.nx} c h):=by
 refine%[λi m b H=>m=xs.length-i/\i<=xs.length/\Pv i b H,%[xs.length,by simp,Xh _|o]|?_];intro i m b H %[rfl,hi|p];have q:=r i b H hi p;by_cases j:i<xs.length
 .refine .inr %[%[xs,xs[i],q|by simp],Pv _,λd f v=>%[xs.length-(i+1),⋯,rfl,j|v]|λx f y=>?_];have%[e|y]:=y;subst e;exact s i x b _ (y xs q) p
 .have e:i=xs.length:=by lia
  subst e;exact .inl %[%[xs,q|Zi _]|u b H p]
theorem cy{lo:Int}{g:TG}{j:TS}{D:lU}(Pv:Nat->St->Hp->Prop)(o:Pv 0 a H)
 (q:∀i a H,i<n->Pv i a H->g (.int (lo+i)) a H λb h=>j {D with nx:=Pv (i+1),ct:=Pv (i+1),bk:=D.nx} b h) (r:∀a H,Pv n a H->D.nx a H):
 ∃W:Nat->Nat->St->Hp->Prop,(∃m,W 0 m a H)/\∀i m a H,W i m a H->
  ((Itr lo n).stop i H/\D.nx a H)\/((Itr lo n).go i H/\∃N:St->Hp->Prop,(∀c d,N c d->∃l,l<m/\W (i+1) l c d)/\∀x d,(Itr lo n).yld i H x d->g x a d λb h=>j {D with nx:=N,ct:=N,bk:=D.nx} b h):=by
 refine%[λi m a H=>m=n-i/\i<=n/\Pv i a H,%[n,by simp,Xh _|o]|?_];intro i m a H %[rfl,hi|p];by_cases f:i<n
 .refine .inr %[f,Pv _,λc d s=>%[n-(i+1),⋯,rfl,f|s]|λx d y=>?_];have%[e|y]:=y;subst e y;exact q i a _ f p
 .have e:i=n:=by lia
  subst e;exact .inl %[Zi _|r a H p]
noncomputable abbrev R2:=V->V->Hp->VK->Prop
def OpR(X:Cx)(f:Value->Value->Sem Value)(r:R2):Prop:=
 ∀pins s (a:St) H x y v u Q,Inv X pins a H s->aO x v->aO y u->r x y H Q->
  (wpAny (model X.prog X.w) X.A) (f v u) (EP X pins a Q) X.xe s
def UnR(X:Cx)(f:Value->Sem Value)(r:V->Hp->VK->Prop):Prop:=
 ∀pins s (a:St) H x v Q,Inv X pins a H s->aO x v->r x H Q->
  (wpAny (model X.prog X.w) X.A) (f v) (EP X pins a Q) X.xe s
def bR(X:Cx)(f:Value)(r:List V->Hp->VK->Prop):Prop:=
 ∀pins s (a:St) H xs us Q,Inv X pins a H s->aD xs us->r xs H Q->
  (wpAny (model X.prog X.w) X.A) (call f us) (EP X pins a Q) X.xe s
def TruR(X:Cx)(r:V->Hp->(Bool->Hp->Prop)->Prop):Prop:=
 ∀pins s (a:St) H x v Q,Inv X pins a H s->aO x v->r x H Q->
  (wpAny (model X.prog X.w) X.A) (truthy v) (TP X pins a Q) X.xe s
def tOp(r:R2)(b c:TE):TE:=λa H Q=>b a H λx d=>c a d λy e=>r x y e Q
def tUn(r:V->Hp->VK->Prop)(a:TE):TE:=λb H Q=>a b H λx c=>r x c Q
def rI(C:Int->Int->Prop)(g:Int->Int->V):R2:=λx y H Q=>asI x λi=>asI y λj=>C i j/\Q (g i j) H
def rI0(g:Int->Int->V):R2:=λx y H Q=>asI x λi=>asI y λj=>Q (g i j) H
def rU(g:Int->V):V->Hp->VK->Prop:=λx H Q=>asI x λi=>Q (g i) H
section
variable{X:Cx}{a b c:Expr}{ta tb tc:TE}{pos:Pos}
theorem Ei(m:PE X a ta)(n:PE X b tb){pins:List _}{s:Shared}{d:St}{H:Hp}{R:V->V->Hp->Prop}(I:Inv X pins d H s)
 (h:ta d H λx l=>tb d l λy e=>R x y e) {Q:ZD} {f:Value->Value->Sem Value}
 (o:∀v u j x y e,Inv X pins d e j->aO x v->aO y u->R x y e->wpAny (model X.prog X.w) X.A (f v u) Q X.xe j):
 (wpAny (model X.prog X.w) X.A) (eval a X.env) (λv g=>wpAny (model X.prog X.w) X.A (eval b X.env) (λu i=>wpAny (model X.prog X.w) X.A (f v u) Q X.xe i) X.xe g) X.xe s:=by
 exact thP (m pins s d H _ I h) λv p x l q r w=>thP (n pins p d l _ q w) λu j y e z A B=>o v u j x y e z r A B
theorem Gg{r:R2}(d:OpR X (binaryOp op) r)(e:PE X a ta)(f:PE X b tb):PE X (.BinOp a op b pos) (tOp r ta tb):=by
 intro pins s g H Q I h;exact wpAny_BinOp (Ei e f I h λv u i x y j l m n q=>d pins i g j x y v u Q l m n q)
theorem Gh(e:UnR X (unaryOp op) r)(f:PE X a ta):PE X (.UnaryOp op a pos) (tUn r ta):=by
 intro pins s d H Q I h;exact UnaryOp_ (thP (f pins s d H _ I h) λv g x i j l m=>e pins g d i x v Q j l m)
theorem opI{f:Value->Value->Sem Value}{C:Int->Int->Prop}{g:Int->Int->Int}
 (rule:∀i j t u s Q E,C i j->Q (.int (g i j) s.toks) {s with toks:=s.toks+1}->wpAny (model X.prog X.w) X.A (f (.int i t) (.int j u)) Q E s):
 OpR X f (rI C λi j=> .int (g i j)):=by
 intro pins s n H x y v u Q I d e h;have%[i,rfl|l]:=hV h;have%[j,rfl,m|q]:=hV l;have%[t|rfl]:=d;have%[t'|rfl]:=e;exact rule i j t t' s _ _ m %[.int _,H,I.tok _,%[_|rfl]|q]
theorem Gi{g:Int->Int->Int}
 (rule:∀(i j:Int) (t u:Tok) (s:Shared) (Q:ZD) (E:ZD),Q (.int (g i j) s.toks) {s with toks:=s.toks+1}->wpAny (model X.prog X.w) X.A (f (.int i t) (.int j u)) Q E s):
 OpR X f (rI0 λi j=> .int (g i j)):=by
 intro pins s m H x y v u Q I d e h;have%[i,rfl|l]:=hV h;have%[j,rfl|q]:=hV l;have%[t|rfl]:=d;have%[t'|rfl]:=e;exact rule i j t t' s _ _ %[.int _,H,I.tok _,%[_|rfl]|q]
theorem Ej{g:Int->Int->Bool}
 (rule:∀(i j:Int) (t u:Tok) (s:Shared) (Q:ZD) (E:ZD),Q (.bool (g i j)) s->wpAny (model X.prog X.w) X.A (f (.int i t) (.int j u)) Q E s):
 OpR X f (rI0 λi j=> .bl (g i j)):=by
 intro pins s m H x y v u Q I d e h;have%[i,rfl|l]:=hV h;have%[j,rfl|q]:=hV l;have%[t|rfl]:=d;have%[t'|rfl]:=e;exact rule i j t t' s _ _ %[.bl _,H,I,rfl|q]
def Gj(i j:Int):Prop:=0<j/\j<1073741824
def zw(i j:Int):Prop:=(-(2^64)<i/\i<2^64)\/(-(2^64)<j/\j<2^64)
theorem zw.ok{i j:Int}(h:zw i j):IntMulOk i j:=by
 rcases h with⟨d,e⟩|⟨d,e⟩
 .exact .of_left (intBits_le_64 d e)
 .exact .of_right (intBits_le_64 d e)
theorem zx:OpR X (binaryOp .Add) (rI0 λi j=> .int (i+j)):=Gi λ_ _ _ _ _ _ _ q=>add_int q
theorem Ek:OpR X (binaryOp .Sub) (rI0 λi j=> .int (i-j)):=Gi λ_ _ _ _ _ _ _ q=>sub_int q
theorem zy:OpR X (binaryOp .Mult) (rI zw λi j=> .int (i*j)):=opI λ_ _ _ _ _ _ _ d q=>mul_int q d.ok
theorem B4:OpR X (binaryOp .FloorDiv) (rI Gj λi j=> .int (i/j)):=opI λi j _ _ _ _ _ d q=>by
 have e:(0:Int)<j:=d.1;have f:j<1073741824:=d.2;exact floordiv_int ⋯ (by rw[Int.fdiv_eq_ediv_of_nonneg i ⋯];exact q) (.inl (PyProof.noPylong_small ⋯))
theorem El:OpR X (binaryOp .Mod) (rI (λ_ j=>0<j) λi j=> .int (i%j)):=opI λi j _ _ _ _ _ d q=>by
 have e:(0:Int)<j:=d;exact mod_int' ⋯ (by rw[Int.fmod_eq_emod_of_nonneg i ⋯];exact q)
theorem unI{g:Int->Int}
 (rule:∀(i:Int) (t:Tok) (s:Shared) (Q:ZD) (E:ZD),Q (.int (g i) s.toks) {s with toks:=s.toks+1}->wpAny (model X.prog X.w) X.A (f (.int i t)) Q E s):
 UnR X f (rU λi=> .int (g i)):=by
 intro pins s e H x v Q I d h;have%[i,rfl|q]:=hV h;have%[t|rfl]:=d;exact rule i t s _ _ %[.int _,H,I.tok _,%[_|rfl]|q]
theorem Em:UnR X (unaryOp .USub) (rU λi=> .int (-i)):=unI λ_ _ _ _ _ q=>neg_int q
end
noncomputable def En:V->V->Bool
 | .non,.non=>true| .non,.int _=>true| .int _,.non=>true| .non,.bl _=>true| .bl _,.non=>true| .non,.str _=>true| .str _,.non=>true
 | .int _,.int _=>true| .bl _,.bl _=>true| .str _,.str _=>true| .byt _,.byt _=>true
 | .int _,.str _=>true| .str _,.int _=>true| .bl _,.str _=>true| .str _,.bl _=>true
 | _,_=>false
theorem zqD:(En .non .non=true)/\(∀j,En .non (.int j)=true)/\(∀i,En (.int i) .non=true)/\(∀j,En .non (.bl j)=true)/\(∀i,En (.bl i) .non=true)/\(∀j,En .non (.str j)=true)/\(∀i,En (.str i) .non=true)/\(∀i j,En (.int i) (.int j)=true)/\(∀i j,En (.bl i) (.bl j)=true)/\(∀i j,En (.str i) (.str j)=true)/\(∀i j,En (.byt i) (.byt j)=true)/\(∀i j,En (.int i) (.str j)=true)/\(∀i j,En (.str i) (.int j)=true)/\(∀i j,En (.bl i) (.str j)=true)/\(∀i j,En (.str i) (.bl j)=true):=by and_intros<;> intros<;> rfl
def rEq:R2:=λx y H Q=>En x y=true/\Q (.bl (decide (x=y))) H
def rNe:R2:=λx y H Q=>En x y=true/\Q (.bl (!decide (x=y))) H
theorem wx:decide (V.int i=V.int j)=(i==j):=by
 rw[Bool.eq_iff_iff];simp
theorem zA:decide (V.bl i=V.bl j)=(i==j):=by
 rw[Bool.eq_iff_iff];simp
theorem wz:decide (V.str i=V.str j)=(i==j):=by
 rw[Bool.eq_iff_iff];simp
theorem wA:decide (V.byt i=V.byt j)=(i.toList==j.toList):=by
 rw[Bool.eq_iff_iff]
 simp_all
section
variable{X:Cx}{a b c:Expr}{ta tb tc:TE}{pos:Pos}
theorem aY(I:Inv X pins d H s)(q:Q (.bl k) H)(e:k=f):EP X pins d Q (.bool f) s:=by
 subst e;exact%[.bl k,H,I,rfl|q]
theorem Gk:OpR X (compareOp .Eq) rEq:=by
 intro pins s g H x y v u Q I f d h;have%[e|q]:=h;cases x with
 | non=>
   cases f;cases y with
   | non=>cases d;exact PySem.EqNone.eq_none_none (aY I q ∅)
   | bl j=>cases d;exact PySem.EqNone.eq_none_bool (aY I q ∅)
   | int j=>have%[t'|rfl]:=d;exact PySem.EqNone.eq_none_int (aY I q ∅)
   | str j=>have%[t'|rfl]:=d;exact PySem.EqNone.eq_none_str (aY I q ∅)
   | _=>exact absurd (show false=true from e) Zu
 | bl i=>
   cases f;cases y with
   | non=>cases d;exact PySem.EqNone.eq_bool_none (aY I q ∅)
   | bl j=>cases d;exact eq_bool (aY I q zA)
   | str j=>have%[t'|rfl]:=d;exact PySem.EqMixed.eq_bool_str (aY I q ∅)
   | _=>exact absurd (show false=true from e) Zu
 | int i=>
   have%[t|rfl]:=f;cases y with
   | non=>cases d;exact PySem.EqNone.eq_int_none (aY I q ∅)
   | int j=>have%[t'|rfl]:=d;exact eq_int (aY I q wx)
   | str j=>have%[t'|rfl]:=d;exact PySem.EqMixed.eq_int_str (aY I q ∅)
   | _=>exact absurd (show false=true from e) Zu
 | str i=>
   have%[t|rfl]:=f;cases y with
   | non=>cases d;exact PySem.EqNone.eq_str_none (aY I q ∅)
   | bl j=>cases d;exact PySem.EqMixed.eq_str_bool (aY I q ∅)
   | int j=>have%[t'|rfl]:=d;exact PySem.EqMixed.eq_str_int (aY I q ∅)
   | str j=>have%[t'|rfl]:=d;exact eq_str (aY I q wz)
   | _=>exact absurd (show false=true from e) Zu
 | byt i=>
   have%[t|rfl]:=f;cases y with
   | byt j=>have%[t'|rfl]:=d;exact PySem.W.eq_bytes (aY I q wA)
   | _=>exact absurd (show false=true from e) Zu
 | _=>cases y<;> exact absurd (show false=true from e) Zu
theorem Gm:OpR X (compareOp .NotEq) rNe:=by
 intro pins s g H x y v u Q I f d h;have%[e|q]:=h;cases x with
 | non=>
   cases f;cases y with
   | non=>cases d;exact PySem.EqNone.ne_none_none (aY I q ∅)
   | bl j=>cases d;exact PySem.EqNone.ne_none_bool (aY I q ∅)
   | int j=>have%[t'|rfl]:=d;exact PySem.EqNone.ne_none_int (aY I q ∅)
   | str j=>have%[t'|rfl]:=d;exact PySem.EqNone.ne_none_str (aY I q ∅)
   | _=>exact absurd (show false=true from e) Zu
 | bl i=>
   cases f;cases y with
   | non=>cases d;exact PySem.EqNone.ne_bool_none (aY I q ∅)
   | bl j=>cases d;exact ne_bool (aY I q (congrArg not zA))
   | str j=>have%[t'|rfl]:=d;exact PySem.EqMixed.ne_bool_str (aY I q ∅)
   | _=>exact absurd (show false=true from e) Zu
 | int i=>
   have%[t|rfl]:=f;cases y with
   | non=>cases d;exact PySem.EqNone.ne_int_none (aY I q ∅)
   | int j=>have%[t'|rfl]:=d;exact ne_int (aY I q (congrArg not wx))
   | str j=>have%[t'|rfl]:=d;exact PySem.EqMixed.ne_int_str (aY I q ∅)
   | _=>exact absurd (show false=true from e) Zu
 | str i=>
   have%[t|rfl]:=f;cases y with
   | non=>cases d;exact PySem.EqNone.ne_str_none (aY I q ∅)
   | bl j=>cases d;exact PySem.EqMixed.ne_str_bool (aY I q ∅)
   | int j=>have%[t'|rfl]:=d;exact PySem.EqMixed.ne_str_int (aY I q ∅)
   | str j=>have%[t'|rfl]:=d;exact ne_str (aY I q (congrArg not wz))
   | _=>exact absurd (show false=true from e) Zu
 | byt i=>
   have%[t|rfl]:=f;cases y with
   | byt j=>have%[t'|rfl]:=d;exact PySem.W.ne_bytes (aY I q (congrArg not wA))
   | _=>exact absurd (show false=true from e) Zu
 | _=>cases y<;> exact absurd (show false=true from e) Zu
theorem Gn:OpR X (compareOp .Lt) (rI0 λi j=> .bl (decide (i<j))):=Ej λ_ _ _ _ _ _ _ q=>lt_int q
theorem Go:OpR X (compareOp .LtE) (rI0 λi j=> .bl (decide (i<=j))):=Ej λ_ _ _ _ _ _ _ q=>le_int q
theorem Gp:OpR X (compareOp .Gt) (rI0 λi j=> .bl (decide (j<i))):=Ej λ_ _ _ _ _ _ _ q=>gt_int q
theorem xD:OpR X (compareOp .In) (λx y H Q=>∃i j,x= .str i/\y= .str j/\Q (.bl (!(Builtin.Str.occurrences j i 0 j.length 1).isEmpty)) H):=by
 intro pins s f H x y v u Q I d e h;have%[i,j,rfl,rfl|q]:=h;have%[t|rfl]:=d;have%[t'|rfl]:=e;exact in_str (aY I q rfl)
theorem Eo:OpR X (compareOp .Is) (λx y H Q=>y= .non/\Q (.bl (decide (x= .non))) H):=by
 intro pins s f H x y v u Q I d e h;have%[rfl|q]:=h;cases e;refine is_none_gen (aY I q ?_);cases x<;> first
  | lia
  |(have%[t|rfl]:=d;rfl)
theorem B5:OpR X (compareOp .IsNot) (λx y H Q=>y= .non/\Q (.bl (!decide (x= .non))) H):=by
 intro pins s f H x y v u Q I d e h;have%[rfl|q]:=h;cases e;refine isnot_none_gen (aY I q ?_);cases x<;> first
  | lia
  |(have%[t|rfl]:=d;rfl)
theorem OpR.or(h:OpR X f r)(h':OpR X f i):OpR X f (λx y H Q=>r x y H Q\/i x y H Q):=by
 intro pins s d H x y v u Q I e g q;rcases q with q|q
 .exact h pins s d H x y v u Q I e g q
 .exact h' pins s d H x y v u Q I e g q
theorem nomark(b:Expr)(h:op≠ .In)(f:op≠ .NotIn):behindInMarks op b=false:=by
 have d:(op==CmpOp.In)=false:=by lia
 have e:(op==CmpOp.NotIn)=false:=by lia
 cases b<;> simp[behindInMarks,d,e]
theorem B6{r:R2}(d:OpR X (compareOp op) r)(e:PE X a ta)(f:PE X b tb)(g:behindInMarks op b=false):PE X (.Compare a [op] [b] pos) (tOp r ta tb):=by
 intro pins s i H Q I h;exact wpAny_Compare1 (Ei e f I h λv u j x y l m n o q=>d pins j i l x y v u Q m n o q) g
def wB(t:TE):TT:=λd H Q=>t d H λx e=>asB x λk=>Q k e
theorem B7(f:OpR X (compareOp op) r)(g:PE X a ta)(i:PE X b tb)(j:behindInMarks op b=false):PT X (.Compare a [op] [b] pos) (wB (tOp r ta tb)):=by
 intro pins s d H Q I h;refine wpAny_isTrue_Compare1 (thP (g pins s d H _ I h) λv l x m n o p=>thP (i pins l d m _ n p) λu q y w A B C=>
  thP (f pins q d w x y v u _ A o B C) λc L z E G J e=>?_) j
 have%[k,rfl|e]:=mL e;cases J;exact wpAny_truthy_bool %[E,G|e]
def uZ(r f:R2)(ta tb tc:TE):TE:=λd H Q=>ta d H λx g=>tb d g λy h=>r x y h λz e=>asB z λk=>
 (if k=true then tc d e λi j=>f y i j Q else Q (.bl false) e)
theorem zB(n:OpR X (compareOp op) r)(i:OpR X (compareOp e) o)(p:PE X a ta)(q:PE X b tb)(w:PE X c tc)
 (A:lastMarks [op,e] [b,c]=false):PE X (.Compare a [op,e] [b,c] pos) (uZ r o ta tb tc):=by
 intro pins s f H Q I h;refine Compare_chain (thP (p pins s f H _ I h) λv B x C E G J=>chain_link (thP (q pins B f C _ E J) λu L y M N j O=>
  thP (n pins L f M x y v u _ N G j O) λd T z l m U g=>?_)) A
 have%[k,rfl|g]:=mL g;cases U;refine wpAny_truthy_bool ?_;cases k with
 | false=>exact ite_ff %[.bl false,l,m,rfl|g]
 | true=>exact ite_tt (chain_last (thP (w pins T f l _ m g) λY s4 z' H4 I4 r4 q4=>i pins s4 f H4 y z' u Y Q I4 j r4 q4))
def zC(K:ZA)(x:V)(H:Hp)(k:Bool):Prop:=
 match x with
 | .non=>k=false
 | .bl b=>k=b
 | .int i=>k=(i != 0)
 | .str y=>y.length<=sizeLine/\k=((y.length:Int) != 0)
 | .byt y=>y.size<=sizeLine/\k=((y.size:Int) != 0)
 | .ref p=>(∃xs,SqL K H p xs/\k=!xs.isEmpty)\/(∃xs,SqT K H p xs/\k=!xs.isEmpty)\/∃d,H p=some (.dK d)/\k=!d.isEmpty
 | _=>False
theorem u5{e:Type}{d:List (e×V)}{vs:List _}(r:KV d vs):(!vs.isEmpty)=!d.isEmpty:=by
 cases r<;> rfl
theorem mM(r:aD xs its):(!its.toArray.isEmpty)=!xs.isEmpty:=by
 cases r<;> simp
theorem qT:sizeLine<2^63:=by decide
theorem Ep:TruR X (λx H Q=>∃k,zC X.K x H k/\Q k H):=by
 intro pins s w H x v Q I j h;have%[k,e|q]:=h;have z:=qT;have A:sizeLine=16777216:=sizeLine_eq;cases x with
 | non=>
   cases j;have d:k=false:=e;subst d;exact truthy_none %[H,I|q]
 | bl b=>
   cases j;have d:k=b:=e;subst d;exact wpAny_truthy_bool %[H,I|q]
 | int i=>
   have%[t|rfl]:=j;have d:k=(i != 0):=e;subst d;exact PySem.P.truthy_int %[H,I|q]
 | str y=>
   have%[t|rfl]:=j;obtain⟨o,d⟩:y.length<=sizeLine/\k=((y.length:Int) != 0):=e;subst d;exact PySem.P.truthy_str ⋯ %[H,I.tok _|q]
 | byt y=>
   have%[t|rfl]:=j;obtain⟨o,d⟩:y.size<=sizeLine/\k=((y.size:Int) != 0):=e;subst d;exact PySem.W.truthy_bytes ⋯ %[H,I.tok _|q]
 | ref p=>
   cases j;have d:(∃xs,SqL X.K H p xs/\k=!xs.isEmpty)\/(∃xs,SqT X.K H p xs/\k=!xs.isEmpty)\/∃f,H p=some (.dK f)/\k=!f.isEmpty:=e;rcases d with⟨xs,l,d⟩|⟨xs,l,d⟩|⟨f,l,d⟩
   .subst d;have%[its,r,pl|n]:=I.list l;have g:=r.length;exact wpAny_truthy_list pl.isList (by simp only[Zp];lia) %[H,I.tok _|(mM r)▸q]
   .subst d;have%[its,r,pl|n]:=I.tuple l;have g:=r.length;exact truthy_tuple pl (by simp only[Zp];lia) %[H,I.tok _|(mM r)▸q]
   .subst d;obtain⟨n,u,vs,r,m⟩:f.length<=sizeLine/\(p==sysModules)=false/\∃vs,KV f vs/\s.heap.DictOf (aE X.prog X.w) p vs:=I.hok p _ l;have g:f.length=vs.length:=Paired.length r;exact wpAny_truthy_dict u m ⋯ %[H,I.tok _|(u5 r)▸q]
 | _=>exact(show False from e).elim
theorem zD(g:PE X a ta)(i:∀d,isTrue a X.env d=(do let v<-d;standAt a.pos;holding [v] (truthy v))):
 PT X a (λe H Q=>ta e H λx f=>∃k,zC X.K x f k/\Q k f):=by
 intro pins s e H Q I h;exact isTrue_plain (thP (g pins s e H _ I h) λv j x l m n o=>Ep pins j e l x v Q m n o) (i _)
theorem u8:OpR X (binaryOp .Add) (λx y H Q=>∃i j,x= .str i/\y= .str j/\i.length+j.length<=sizeLine/\Q (.str (i++j)) H):=by
 intro pins s g H x y v u Q I d e h;have%[i,j,rfl,rfl,f|q]:=h;have%[t|rfl]:=d;have%[t'|rfl]:=e;exact add_str (λt' tk=>%[.str _,H,I.tok _,%[_|rfl]|q]) f
theorem cP(r:aD [x] us):∃u,us=[u]/\aO x u:=by
 cases r with
 | cons d e=>cases e;exact%[_,rfl|d]
theorem hW(r:aD [x,y] us):∃u d,us=[u,d]/\aO x u/\aO y d:=by
 cases r with
 | cons e f=>
   cases f with
   | cons g h=>cases h;exact%[_,_,rfl,e|g]
theorem xE(e:X.calm=true):bR X (.builtin "max") (λxs H Q=>∃i j,xs=[.int i,.int j]/\Q (.int (if j>i then j else i)) H):=by
 intro pins s f H xs us Q I r h;have%[i,j,rfl|q]:=h;have%[u,g,rfl,%[t|rfl],t'|rfl]:=hW r;refine max_two_ints (I.ok.hd e) λh' tk k=>%[_,H,I.kept k,?_|q]
 by_cases d:j>i
 .rw[if_pos d,if_pos d];exact%[_|rfl]
 .rw[if_neg d,if_neg d];exact%[_|rfl]
theorem xF(e:X.calm=true):bR X (.builtin "min") (λxs H Q=>∃i j,xs=[.int i,.int j]/\Q (.int (if j<i then j else i)) H):=by
 intro pins s f H xs us Q I r h;have%[i,j,rfl|q]:=h;have%[u,g,rfl,%[t|rfl],t'|rfl]:=hW r;refine min_two_ints (I.ok.hd e) λh' tk k=>%[_,H,I.kept k,?_|q]
 by_cases d:j<i
 .rw[if_pos d,if_pos d];exact%[_|rfl]
 .rw[if_neg d,if_neg d];exact%[_|rfl]
theorem xG:bR X (.type "int") (λxs H Q=>(∃i,xs=[.int i]/\Q (.int i) H)\/∃k,xs=[.bl k]/\Q (.int (if k then 1 else 0)) H):=by
 intro pins s e H xs us Q I r h;rcases h with⟨i,rfl,q⟩|⟨k,rfl,q⟩
 .have%[u,rfl,t|rfl]:=cP r;exact call_int_int %[.int i,H,I,%[_|rfl]|q]
 .have%[u,rfl|d]:=cP r;cases d;exact call_int_bool %[.int _,H,I.tok _,%[_|rfl]|q]
theorem qU:bR X (.type "str") (λxs H Q=>∃i,xs=[.int i]/\i.natAbs.log2<1920/\Q (.str (toString i)) H):=by
 intro pins s e H xs us Q I r h;have%[i,rfl,d|q]:=h;have%[u,rfl,t|rfl]:=cP r;exact PySem.P.str_of_int d %[.str _,H,I.tok _,%[_|rfl]|q]
def B8(K:ZA)(x:V)(H:Hp)(n:Nat):Prop:=
 match x with
 | .str y=>y.length<=sizeLine/\n=y.length
 | .byt y=>y.size<=sizeLine/\n=y.size
 | .ref p=>(∃xs,SqL K H p xs/\n=xs.length)\/∃xs,SqT K H p xs/\n=xs.length
 | _=>False
theorem zE:bR X (.builtin "len") (λxs H Q=>∃x n,xs=[x]/\B8 X.K x H n/\Q (.int n) H):=by
 intro pins s o H xs us Q I r h;have%[x,n,rfl,e|q]:=h;have%[u,rfl|g]:=cP r;have v:=sizeLine_eq;cases x with
 | str y=>
   have%[t|rfl]:=g;obtain⟨l,f⟩:y.length<=sizeLine/\n=y.length:=e;subst f;exact len_str ⋯ %[.int _,H,I.tok _,%[_|rfl]|q]
 | byt y=>
   have%[t|rfl]:=g;obtain⟨l,f⟩:y.size<=sizeLine/\n=y.size:=e;subst f;exact PySem.W.len_bytes ⋯ %[.int _,H,I.tok _,%[_|rfl]|q]
 | ref p=>
   cases g;have f:=e;rcases f with⟨xs,i,f⟩|⟨xs,i,f⟩
   .subst f;have%[its,j,pl|m]:=I.list i;have d:=j.length;exact Calls.call_len_list pl.isList (by simp only[Zp];lia) %[.int xs.length,H,I.tok _,%[_|by simp only[Zp];rw[d]]|q]
   .subst f;have%[its,j,pl|m]:=I.tuple i;have d:=j.length;exact len_tuple pl (by simp only[Zp];lia) %[.int xs.length,H,I.tok _,%[_|by simp only[Zp];rw[d]]|q]
 | _=>exact(e).elim
end
structure u9 (h:Heap) (x dx C:Addr) (mA:ZC):Prop where
 obj:h.get? x=some (instObj C dx)
 ns:h.Ns1 dx mA
 ne:dx≠x
theorem pI{h:Heap}{c:ZC}(n:h.Ns1 d c):∃od,h.get? d=some od/\∀name,lookIn name od=some (c name):=by
 have%[o,f,p,g,i,j,_|l]:=n;refine%[o,g|λname=>?_];have e:=l name;unfold nsFind findBy at e;rw[<-Array.find?_toList]at e;unfold lookIn;rw[i];dsimp only
 split
 .rename_i y q
  rw[q]at e;exact congrArg some e
 .rename_i q
  rw[q]at e;have a:f.toList.any (·.refKey)=false:=by
   rw[List.any_eq_false];intro y m;have%[z,t|b]:=j y (mem_toList_iff.mp m);simp[DictEntry.refKey,b]
  rw[if_neg (a▸Zu)];exact congrArg some e
theorem u9.look(I:u9 h x a C b):∃od,PySem.W.InstAt h x (instObj C a) C (some od)/\∀name,lookIn name od=some (b name):=
 let⟨od,c,d⟩:=pI I.ns
 %[od,%[I.obj,rfl,rfl|c]|d]
section
#where
variable{K:ZA}{x dx C f:Addr}{mA:ZC}{name:Str}{v:Value}
theorem B9(X:K.In s.heap)(I:u9 s.heap x dx C mA)(c:plainGet K C name=true)(d:hasDictIn K C=true)
 (e:findIn K (.ref C) name=some none) (g:mA name=some v) (a:handedIn v=true) (h:Q v {s with toks:=s.toks+1}):
 ↥A (getAttr (.ref x) name b) Q E s:=by
 have%[od,J|i]:=I.look;exact PySem.W.get_value X J (plainGet_of c).1 (findObj_own d e rfl (by rw[i,g])) a h
theorem zF(X:K.In s.heap)(I:u9 s.heap x dx C mA)(a:plainGet K C name=true)
 (b:findIn K (.ref C) name=some (some (.ref f))) (c:isFn K (.ref f)=true) (d:mA name=none) (h:Q (.ref f,[.ref x]) s):
 ↥A (getMethod (.ref x) name pl) Q E s:=by
 have%[od,J|e]:=I.look;exact PySem.W.method_fn X J (plainGet_of a).1 (plainGet_of a).2 b (beq_iff_eq.mp c) (by show(lookIn name od).map _=some false;rw[e,d];rfl) h
theorem Ca(X:K.In s.heap)(I:u9 s.heap x dx C mA)
 (j:findIn K (.ref C) "__setattr__"=some (some (.builtin "object.__setattr__"))) (l:plainOver K C=true) (m:takerIn K C name=some none) (n:hasDictIn K C=true)
 (hw:PySem.Within mA o) (p:o.length<=sizeLine)
 (h:∀h',u9 h' x dx C (λy=>if y=name then some v else mA y)->SameBut dx s.heap h'->Q () {s with heap:=h',toks:=s.toks+2}):
 ↥A (setAttr (.ref x) name v) Q E s:=by
 have%[od,J|z]:=I.look;refine set_plain X J j (PySem.W.osa_open X J l m λb=>?_);have%[B,q|d]:=any_some n;refine Z2 (Z3 (Z2 (Z2 (wpAny_loadPart I.obj (Z2 (Looks.here (looks_clsIn X q) ?_))))));rw[d];refine Z3 (Z2 (Z3 (Z2 (wpAny_nsSet1 I.ns λh' a c=>?_))));have%[G,r,u,e,g|i]:=a.count (PySem.Within.cons name v hw);exact Z2 (wpAny_lookBehind e (g▸pastItsLine_dict (Yi i (by simp_all))) (Z3 (h _ %[(c.2 _ (Ne.symm I.ne)).trans I.obj,a|I.ne] c)))
theorem zG{R:Result->Shared->Prop}(X:K.In s.heap)(b:makesIn K C=true)
 (hi:findIn K (.ref C) "__init__"=some (some (.ref f))) (c:typeIn K (.ref f)=some (.type "function"))
 (h:codeAny (model prog w) (A.under (.builtin "type.__call__" %[.ref C::vs|a])) (.call (.ref f) %[.ref (⇑s+1)::vs|a]) (PySem.W.InitBack (⇑s+1) R)
  {s with heap:=(s.heap.push emptyDict).push (instObj C ⇑s)}):
 codeAny (model prog w) A (.call (.ref C) %[vs|a]) R s:=by
 exact PySem.W.make_core (PySem.W.makes_of X b) (looks_findIn X hi) (λself=>PySem.W.bind_fn X self c) (.inl rfl) h
end
noncomputable def dv(f:Str)(v:V):List (Str×V)->List (Str×V)
 |[]=>[(f,v)]
 |(g,x)::r=>if g=f then(g,v)::r else(g,x)::dv f v r
theorem lw(f g:Str)(v:V):∀fs,(dv f v fs).lookup g=if g=f then some v else fs.lookup g
 |[]=>by
  show List.lookup g [(f,v)]=_;by_cases h:g=f
  .have a:=beq_iff_eq.mpr h;simp only[List.lookup,a,if_pos h]
  .have a:=beq_eq_false_iff_ne.mpr h;simp only[List.lookup,a,if_neg h]
 |(k,x)::r=>by
  rw[show dv f v _=(if k=f then(k,v)::r else(k,x)::dv f v r)from rfl];by_cases b:k=f
  .rw[if_pos b];by_cases h:g=k
   .have a:=beq_iff_eq.mpr h;simp only[List.lookup,a,if_pos (h.trans b)]
   .have a:=beq_eq_false_iff_ne.mpr h;simp only[List.lookup,a,if_neg (λe:g=f=>h (e.trans b.symm))]
  .rw[if_neg b];by_cases h:g=k
   .have a:=beq_iff_eq.mpr h;simp only[List.lookup,a,if_neg (λe=>b (h.symm.trans e))]
   .have a:=beq_eq_false_iff_ne.mpr h;simp only[List.lookup,a];exact(lw f g v r)
theorem kq(f:Str)(v:V):∀fs:List (Str×V),f∈(dv f v fs).map (·.1)/\∀g,g∈fs.map (·.1)->g∈(dv f v fs).map (·.1)
 |[]=>%[by simp[dv]|λg h=>by simp at h]
 |(k,x)::r=>by
  have%[a|b]:=kq f v r;rw[show dv f v _=(if k=f then(k,v)::r else(k,x)::dv f v r)from rfl]
  grind
theorem lz(f:Str)(v:V):∀fs,(dv f v fs).length<=fs.length+1
 |[]=>by simp[dv]
 |(k,x)::r=>by
  have a:=lz f v r;rw[show dv f v _=(if k=f then(k,v)::r else(k,x)::dv f v r)from rfl];by_cases b:k=f
  .simp_all
  simp_all
theorem fk.some_of(r:fk (some v) o):∃u,o=some u/\aO v u:=by
 cases o with
 | none=>exact(r).elim
 | some u=>exact%[u,rfl|r]
theorem fk.none_of(r:fk none o):o=none:=by
 cases o with
 | none=>rfl
 | some u=>exact(r).elim
theorem pJ(r:aO v u):handedIn u=true:=by
 cases v with
 | non=>cases(r);rfl
 | bl b=>cases(r);rfl
 | int i=>have%[t|e]:=(r);cases e;rfl
 | str x=>have%[t|e]:=(r);cases e;rfl
 | byt b=>have%[t|e]:=(r);cases e;rfl
 | flt b=>have%[t|e]:=(r);cases e;rfl
 | ref a=>cases(r);rfl
 | ty n=>cases(r);rfl
section
variable{P:Program}{w:World}{H H':Hp}{h h':Heap}{a C dx:Addr}{fs fs':List (Str×V)}
theorem mv(c:HOk P w H h)(e:H a=some (.ins C dx fs)):∃b,u9 h a dx C b/\(∀f,fk (fs.lookup f) (b f))/\PySem.Within b (fs.map (·.1))/\fs.length<=1000/\H dx=some (.own a):=by
 have%[d,z,ne,g,b,n,r|q]:=(c a _ e)
 exact%[b,%[g,n|ne],r,q,z|d]
end
structure Cls (K:ZA) (C:Addr):Prop where
 pg:plainGet K C Str.empty=true
 hd:hasDictIn K C=true
 po:plainOver K C=true
 sa:findIn K (.ref C) "__setattr__"=some (some (.builtin "object.__setattr__"))
theorem Cls.get{K:ZA}{C:Addr}(c:Cls K C)(f:Str):plainGet K C f=true:=c.pg
def fo(K:ZA)(C:Addr)(f:Str):Prop:=findIn K (.ref C) f=some none
theorem fo.taker{K:ZA}{C:Addr}{f:Str}(n:fo K C f):takerIn K C f=some none:=by
 unfold takerIn;rw[n];rfl
structure Cb (K:ZA) (C:Addr) (m:Str) (f:Addr):Prop where
 at_:findIn K (.ref C) m=some (some (.ref f))
 fn:isFn K (.ref f)=true
 kp:keepIn K (.ref f)=true
section
variable{X:Cx}{pins:ZE}{σ:St}{H:Hp}{s:Shared}
variable{a C dx:Addr}{fs:List (Str×V)}{f:Str}{v:V}{A:Around}{E:ZD}
theorem va(I:Inv X pins σ H s)(e:H a=some (.ins C dx fs))(c:Cls X.K C)(n:fo X.K C f)(l:fs.lookup f=some v)
 (h:∀u s',Inv X pins σ H s'->aO v u->Q u s'):wpAny (model X.prog X.w) A (getAttr (.ref a) f b) Q E s:=by
 have%[i,O,r,_,_|_]:=mv I.hok e;have%[u,g|d]:=fk.some_of (l▸r f);exact B9 I.kIn O (c.get f) c.hd n g (pJ d) (h u _ (I.tok _) d)
theorem vb(I:Inv X pins σ H s)(e:H a=some (.ins C dx fs))(c:Cls X.K C)(k:Cb X.K C m g)(l:fs.lookup m=none)
 (h:Q (.ref g,[.ref a]) s):wpAny (model X.prog X.w) A (getMethod (.ref a) m pl) Q E s:=by
 have%[b,O,r,_,_|_]:=mv I.hok e;exact zF I.kIn O (c.get m) k.at_ k.fn (fk.none_of (l▸r m)) h
theorem vc(I:Inv X pins σ H s)(e:H a=some (.ins C dx fs))(c:Cls X.K C)(n:fo X.K C f)(J:fs.length<1000)(l:aO y u)
 (h:∀s',Inv X pins σ (upd H a (.ins C dx (dv f y fs))) s'->Q () s'):wpAny (model X.prog X.w) A (setAttr (.ref a) f u) Q E s:=by
 have%[m,O,r,i,_|j]:=mv I.hok e;refine Ca I.kIn O c.sa c.po n.taker c.hd i (by rw[Z6,sizeLine_eq];lia) λh' d p=>h _ (I.write (e▸True.intro) (.inr j) (λb q w z=>(p.2 b w).trans z) (let⟨o,_,_,B,_⟩:=d.ns;%[o|B]) %[(ak O.ne)▸j,?_,O.ne,d.obj,_,d.ns,λg=>?_|λg G=>?_])
 .have:=lz f y fs;lia
 .rw[lw];by_cases q:g=f
  .rw[if_pos q,if_pos q];exact l
  .rw[if_neg q,if_neg q];exact r g
 .by_cases q:g=f
  .exact q▸(kq f y fs).1
  .refine(kq f y fs).2 g (i g λz=>G ?_);show(if g=f then some u else m g)=none;rw[if_neg q];exact z
theorem Inv.made(I:Inv X pins σ H s):Inv X pins σ (upd (upd H ⇑s (.own (⇑s+1))) (⇑s+1) (.ins C ⇑s []))
 {s with heap:=(s.heap.push emptyDict).push (instObj C ⇑s)}:=by
 have c:(s.heap.push emptyDict).get? ⇑s=some emptyDict:=Zj s.heap rfl;have d:=by
  have:=Zj (s.heap.push emptyDict) (o:=instObj C ⇑s) rfl;rwa[Zq]at this
 refine(I.laid (o:= .own (⇑s+1)) (t':=s.toks) (λb u q=>Z7 _ q) (Zi _) %[_|c]).laid (λb u q=>Z7 _ q) (Nat.le_of_eq (Zq _ _)) ?_;have ne:⇑s≠⇑s+1:=Zt (Yq _);refine%[by rw[ak ne,aa],Xh _,ne,d,λ_=>none,(Heap.Ns1.of_empty %[emptyDict,#[],_,c,rfl,(λe g=>absurd g ∅)|λ_=>rfl]).at λo q=>Z7 _ q,λ_=>True.intro|λy h=>absurd rfl h]
theorem wC(c:attributeBase e f env (eval e env)=eval e env)
 (h:↥A (eval e env) (λo b=>↥A (getAttr o f true) Q E b) E s):↥A (eval (.Attribute e f pos) env) Q E s:=
 Attribute_any_ h (by rw[arm_eval_Attribute,c])
end
def Er(K:ZA)(c:TE)(f:Str):TE:=λd H Q=>c d H λx b=>∃a C e fs v,x= .ref a/\b a=some (.ins C e fs)/\Cls K C/\fo K C f/\fs.lookup f=some v/\Q v b
def Es(K:ZA)(e g:TE)(f:Str):TS:=λD b H=>g b H λy h=>e b h λx c=>∃a C d fs,x= .ref a/\c a=some (.ins C d fs)/\Cls K C/\fo K C f/\fs.length<1000/\
 D.nx b (upd c a (.ins C d (dv f y fs)))
section
variable{X:Cx}{o e value:Expr}{f:Str}{pos pos' tpos:Pos}{ta tv:TE}
theorem Et(b:PE X e ta)(d:attributeBase e f X.env (eval e X.env)=eval e X.env):PE X (.Attribute e f pos) (Er X.K ta f):=by
 intro pins s g H Q I h;refine wC d (thP (b pins s g H _ I h) λu y x i j m ⟨a,C,z,fs,v,ex,p,c,n,l,q⟩=>?_);subst ex;obtain rfl:u=Value.ref a:=m;exact va j p c n l λA B r w=>%[v,i,r,w|q]
theorem Eu(d:PE X o ta)(g:PE X value tv)(i:swapsWith value (some (.Attribute o f pos')) pos.line X.env=pure false):PS X (.Assign [.Attribute o f pos'] value pos) (Es X.K ta tv f):=by
 intro pins s b H D I h;refine plainObj_wpAny_Assign_Attribute (thP (g pins s b H _ I h) λu j y m p r q=>thP (d pins j b m _ p q) λv G x J w z ⟨a,C,L,fs,ex,A,c,n,l,B⟩=>?_) i;subst ex;obtain rfl:v=Value.ref a:=z;exact vc w A c n l r λM E=>%[b,_,E|B]
end
section
variable{X:Cx}{pins:ZE}{σ:St}{H:Hp}{s:Shared}
variable{A:Around}{E:ZD}{Q:ZD}{c:Value}{b:Bool}
inductive je (K:ZA) (H:Hp):V->Value->Prop where
 | non:je K H .non (.type "NoneType")
 | bl (x:Bool):je K H (.bl x) (.type "bool")
 | int (i:Int):je K H (.int i) (.type "int")
 | str (x:Str):je K H (.str x) (.type "str")
 | flt (x:UInt64):je K H (.flt x) (.type "float")
 | lst {a:Addr} {xs:List V} (e:H a=some (.lst xs)):je K H (.ref a) (.type "list")
 | frz {a:Addr} {o:Obj} {xs:List V} (e:H a=some (.frz o (.lst xs))):je K H (.ref a) (.type "list")
 | tup {a:Addr} {xs:List V} (e:H a=some (.tup xs)):je K H (.ref a) (.type "tuple")
 | dK {a:Addr} {kvs:List _} (e:H a=some (.dK kvs)):je K H (.ref a) (.type "dict")
 | dT {a:Addr} {kvs:List _} (e:H a=some (.dT kvs)):je K H (.ref a) (.type "dict")
 | ins {a C dx:Addr} {fs:List _} (e:H a=some (.ins C dx fs)) (cl:Cls K C) (ha:findIn K (.ref C) "__class__"=some (some (.builtin "object.__class__")))
  (hn:specialIn K (.builtin "object.__class__") "__get__"=some (some (.builtin "getset_descriptor.__get__"))) (htk:takesIn K (.builtin "object.__class__")=some true)
  (hm:mroIn K C (.type "object")=some true):je K H (.ref a) (.ref C)
theorem xH(I:Inv X pins σ H s)(d:aO x u)(ty:je X.K H x t)(e:kitOne X.K t c=some b)(h:∀tk,Q (.bool b) {s with toks:=tk}):
 wpAny (model X.prog X.w) A (call (.builtin "isinstance") [u,c]) Q E s:=by
 cases ty with
 | non=>cases(d);exact kia_one PySem.W.kitx_none I.kIn True.intro e (λz=>nomatch z) h
 | bl y=>cases(d);exact kia_one PySem.W.kitx_bool I.kIn True.intro e (λz=>nomatch z) h
 | int i=>have%[t|q]:=(d);cases q;exact kia_one PySem.W.kitx_int I.kIn True.intro e (λz=>nomatch z) h
 | str y=>have%[t|q]:=(d);cases q;exact kia_one PySem.W.kitx_str I.kIn True.intro e (λz=>nomatch z) h
 | flt y=>have%[t|q]:=(d);cases q;exact kia_one PySem.W.kitx_float I.kIn True.intro e (λz=>nomatch z) h
 | @lst a xs f=>
   cases(d);have%[_,_,n,_|g]:=(I.hok a _ f)
   exact kia_one kitx_list I.kIn %[_,g|rfl] e (λz=>nomatch z) h
 | @frz a M xs f=>
   cases(d);have%[_,_,_,n,_|g]:=(I.hok a _ f)
   exact kia_one kitx_list I.kIn %[_,g|rfl] e (λz=>nomatch z) h
 | @tup a xs f=>
   cases(d);have%[_,_,_|p]:=(I.hok a _ f)
   have%[o,g,j|_]:=p;exact kia_one PySem.W.kitx_tuple I.kIn %[o,g|j] e (λz=>nomatch z) h
 | @dK a l f=>
   cases(show u=Value.ref a from d);have%[_,_,vs,_|p]:=(I.hok a _ f)
   have%[o,v,w,g,j|_]:=p;exact kia_one kitx_dict I.kIn %[o,g|j.1] e (λz=>nomatch z) h
 | @dT a l f=>
   cases(show u=Value.ref a from d);have%[_,_,xs,_,o,v,w,g,j|_]:=(I.hok a _ f)
   exact kia_one kitx_dict I.kIn %[o,g|j.1] e (λz=>nomatch z) h
 | @ins a C N fs f r B G m L=>
   cases(d);have%[T,O|_]:=mv I.hok f;have%[od,J|_]:=O.look;exact kia_one (PySem.W.kitx_own (r.get _) r.hd B G m L) I.kIn J e (λz=>nomatch z) h
end
structure bQ (k:Nat) (A:Around):Prop where
 hd:A.handled=none
 dp:A.depth+3*k+5<recursionLimit
 un:A.units+16*k+200<cLine
 gd:A.guards=some []
theorem bQ.mono(r:bQ k A)(h:j<=k):bQ j A:=%[r.hd,by have:=r.dp;lia,by have:=r.un;lia|r.gd]
theorem bQ.deeper(r:bQ (k+1) A)(env:Env):bQ k (A.deeper env):=
 %[r.hd,by have:=r.dp;show A.depth+1+3*k+5<_;lia,by have:=r.un;show A.units+3+16*k+200<_;lia|r.gd]
theorem vd{A:Around}:(A.under (.builtin "type.__call__" %[.ref C::us|a])).depth=A.depth+1:=by
 first|rfl|lia
theorem ve{A:Around}:(A.under (.builtin "type.__call__" %[.ref C::us|a])).units=A.units+1:=by
 first|rfl|lia
theorem bQ.make(r:bQ (k+1) A)(C:Addr)(us:ZF)(a:List (Str×Value)):bQ k (A.under (.builtin "type.__call__" %[.ref C::us|a])):=
 %[r.hd,by have:=r.dp;rw[vd];lia,by have:=r.un;rw[ve];lia|r.gd]
theorem bQ.depth(r:bQ k A):A.depth<recursionLimit:=by have:=r.dp;lia
theorem bQ.units(r:bQ k A):A.units+64<cLine:=by have:=r.un;lia
def xI:TA:=λ_ H Q=>Q [] H
def zH(b:TE)(c:TA):TA:=λa H Q=>b a H λx d=>c a d λxs e=>Q (x::xs) e
section
variable{X:Cx}{e:Expr}{es:List Expr}{te:TE}{t:TA}{pos:Pos}
theorem Ev:PA X [] xI:=λ_ _ _ _ H Q I h=>Calls.spliced_nil %[[],H,I,.nil|h]
theorem Cc(b:PE X e te)(c:PA X es t)(d:starEach (e::es) X.env=(false,eval e X.env)::starEach es X.env):PA X (e::es) (zH te t):=by
 intro pos pins s a H Q I h;rw[d];show wpAny _ _ (spliced ((false,eval e X.env)::backTo pos _)) _ _ s;exact Calls.spliced_cons (thP (b pins s a H _ I h) λu f x g i j l=>thP (c pos pins f a g _ i l) λus q xs m n o p=>%[x::xs,m,n,.cons j o|p])
def Ew(t:TA):TE:=λb H Q=>t b H λxs a=>xs.length<=sizeLine/\∀p,a p=none->Q (.ref p) (upd a p (.tup xs))
def Ex(t:TA):TE:=λb H Q=>t b H λxs a=>xs.length<=sizeLine/\∀p,a p=none->Q (.ref p) (upd a p (.lst xs))
theorem Ey{d}(h:PA X es t):PE X (.Tuple es d pos) (Ew t):=by
 intro pins s f H Q I g;refine wpAny_Tuple_spliced (thP (h pos pins s f H _ I g) λus a xs i c r ⟨z,q⟩=>%[r.length▸z|?_]);have j:=c.hok.fresh (Zi _);refine%[.ref ⇑a,upd i ⇑a _,c.laid (λb u e=>Z7 _ e) (Zi _) ?_,rfl|q _ j];exact%[z,us,r,_,Zj _ rfl,rfl,_|rfl]
theorem Ez(h:PA X es t):PE X (.List es pos) (Ex t):=by
 intro pins s d H Q I f;refine wpAny_List_spliced (thP (h pos pins s d H _ I f) λus a xs g c r ⟨z,q⟩=>%[r.length▸z|?_]);have i:=c.hok.fresh (Zi _);refine%[.ref ⇑a,upd g ⇑a _,c.laid (λb u e=>Z7 _ e) (Zi _) ?_,rfl|q _ i];exact%[z,us,0,r|Zj _ rfl]
end
noncomputable abbrev Sp:=List V->Hp->VK->XK->Prop
noncomputable abbrev CXT:=List Env->Hp->Shared->XK->Value->Shared->Prop
structure xJ (P:Program) (w:World) (K:ZA) (mg:ZC) (base:Heap) (A:Around) (outer:List Env) (s:Shared) (H:Hp):Prop where
 frames:A.frames=some outer
 mod:Mod K mg base
 bs:∀b o,base.get? b=some o->s.heap.get? b=some o/\H b=none
 bsz:base.objs.size<=⇑s
 funs:s.heap.FunFrames base outer
 frf:∀b∈frs outer,H b=none
 hok:HOk P w H s.heap
 bare:AllBare s.gens
def CE(outer:List Env)(P:Program)(w:World)(H:Hp)(s:Shared)(Q:VK)(u:Value)(s':Shared):Prop:=
 ∃v a,s'.os=s.os/\AllBare s'.gens/\Un (frs outer) [] H a s.heap s'.heap/\HOk P w a s'.heap/\aO v u/\Q v a
def CR(CX:CXT)(outer:List Env)(P:Program)(w:World)(H:Hp)(s:Shared)(Q:VK)(E:XK)(r:Result)(s':Shared):Prop:=
 match r with
 | .ok (.ret u)=>CE outer P w H s Q u s'
 | .ok _=>False
 | .error e=>CX outer H s E e s'
structure hJ (P:Program) (w:World) (K:ZA) (mg:ZC) (base:Heap) (CX:CXT) (k:Nat) (f:Addr) (fd:FuncData) (ps:ZB) (sp:Sp):Prop where
 len:∀vs H Q E,sp vs H Q E->vs.length=ps.length
 run:∀A outer s H args us vs Q E,bQ k A->xJ P w K mg base A outer s H->BindsTo s fd args (ps.zip us)->aD vs us->sp vs H Q E->
  codeAny (model P w) A (.call (.ref f) args) (CR CX outer P w H s Q E) s
theorem xJ.make{P:Program}{K:ZA}(e:xJ P w K mg base A outer s H)(C:Addr)(us:ZF)(a:List (Str×Value)):
 xJ P w K mg base (A.under (.builtin "type.__call__" %[.ref C::us|a])) outer s H:=⟨by first|exact e.frames|lia,e.mod,e.bs,e.bsz,e.funs,e.frf,e.hok,e.bare⟩
section
variable{X:Cx}{pins:ZE}{σ:St}{H:Hp}{s s':Shared}
theorem Inv.env0(I:Inv X pins σ H s):xJ X.prog X.w X.K X.mg X.base X.A X.stack s H:=
 %[I.ok.frames,I.ok.mod,I.bs,Yi I.ok.bsz I.sz,I.stack,I.stkFree,I.hok|I.bare]
theorem Inv.after(I:Inv X pins σ H s)(h:CE X.stack X.prog X.w H s Q u s'):EP X pins σ Q u s':=by
 have%[v,f,os,a,un,c,r|q]:=h;have%[i,g,d,t|e]:=s';obtain rfl:e=s.os:=os;exact%[v,f,I.call un c a (λb z=>absurd z ∅),r|q]
end
def sK(sp:Sp)(dvs:List V)(E:XK)(t:TA):TE:=λa H Q=>t a H λvs b=>sp (vs++dvs) b Q E
def wD(C:Addr)(m:Str)(sp:Sp)(dvs:List V)(E:XK)(d:TE)(t:TA):TE:=λb H Q=>d b H λx c=>∃a e fs,x= .ref a/\c a=some (.ins C e fs)/\fs.lookup m=none/\
 t b c λvs f=>sp (x::(vs++dvs)) f Q E
def wE(C:Addr)(sp:Sp)(dvs:List V)(E:XK)(t:TA):TE:=λc H Q=>t c H λvs b=>∀x a,b x=none->b a=none->a≠x->
 sp (.ref x::(vs++dvs)) (upd (upd b a (.own x)) x (.ins C a [])) (λv d=>v= .non/\Q (.ref x) d) E
def di(K:ZA)(a:FuncData)(ps:ZB)(ds:ZF):Prop:=
 ∀s us,K.In s.heap->(us++ds).length=ps.length->BindsTo s a %[us|[]] (ps.zip (us++ds))
theorem di.all{K:ZA}(h:∀us:ZF,us.length=ps.length->bindArgs b %[us|[]]=pure (ps.zip us)):di K b ps []:=λs us _ a=>by
 rw[Zz]at a ⊢;exact .of_eq (h us a)
def jf(CX:CXT)(X:Cx)(E:XK):Prop:=∀pins (a:St) H s e s',Inv X pins a H s->CX X.stack H s E e s'->X.xe e s'
section
variable{X:Cx}{CX:CXT}{k:Nat}{f C:Addr}{fd:FuncData}{ps:ZB}{sp:Sp}{dvs:List V}{ds:ZF}{E:XK}{x m:Str}{p pos apos:Pos}{e o:Expr}{es:List Expr}{ta:TE}{t:TA}
theorem zI(F:hJ X.prog X.w X.K X.mg X.base CX k f fd ps sp)(d:bQ k X.A)(g:di X.K fd ps ds)(i:aD dvs ds)(j:jf CX X E)
 (I:Inv X pins b H s) (r:aD vs us) (h:sp (vs++dvs) H Q E):wpAny (model X.prog X.w) X.A (call (.ref f) us) (EP X pins b Q) X.xe s:=by
 have c:=r.append i;refine wpAny_call (codeAny_mono (F.run X.A X.stack s H _ _ _ Q E d I.env0 (g s us I.kIn (c.length▸F.len _ _ _ _ h)) c h) λr s' a=>?_);cases r with
 | error e=>exact j pins b H s e s' I a
 | ok l=>
   cases l with
   | ret u=>exact I.after a
   | next=>exact False.elim a
   | brk=>exact False.elim a
   | cont=>exact False.elim a
theorem Cd(F:hJ X.prog X.w X.K X.mg X.base CX k f fd ps sp)(d:bQ k X.A)(g:Gl X x)(i:X.mg x=some (.ref f))(j:keepIn X.K (.ref f)=true)(l:di X.K fd ps ds)(n:aD dvs ds)(u:jf CX X E)
 (v:PA X (e::es) t) (a:(x==("__debug__":Str))=false) (w:starEach (e::es) X.env=(false,eval e X.env)::starEach es X.env) (b:(backTo pos (starEach es X.env)).any (·.1)=false):
 PE X (.Call (.Name x p) (e::es) [] pos) (sK sp dvs E t):=by
 intro pins s y H Q I h;exact wpAny_Call_Name_kw (iK I g i (callWith_K I.ok.mod.kin j (thP (v pos pins s y H _ I h) λus z vs A c r q=>%[c.kIn|zI F d l n u c r q]) w b) a)
theorem zJ(i:PE X o ta)(c:Cls X.K C)(d:Cb X.K C m f)(F:hJ X.prog X.w X.K X.mg X.base CX k f fd ps sp)(j:bQ k X.A)(n:di X.K fd ps ds)(r:aD dvs ds)(v:jf CX X E)
 (w:eval (.Call (.Attribute o m apos) [] [] pos) X.env=(do
  let g<-eval o X.env
  standAt apos.atName
  let(f,first)<-holding [g] (getMethod g m pl)
  callWith pos f first (backTo pos (starEach [] X.env)) (backToKw pos (keywordEach [] X.env)))):
 PE X (.Call (.Attribute o m apos) [] [] pos) (wD C m sp dvs E ta xI):=by
 intro pins s y H Q I h;refine PySem.W.methodCall_KW (thP (i pins s y H _ I h) λu B x G b z ⟨a,J,fs,ex,A,l,q⟩=>?_) w;subst ex;obtain rfl:u=Value.ref a:=z;exact vb b A c d l (PySem.W.callWith_K0 b.kIn d.kp (zI (us:=[.ref a]) (vs:=[.ref a]) F j n r v b (.cons rfl .nil) q))
structure Mk (K:ZA) (C f:Addr):Prop where
 makes:makesIn K C=true
 init:findIn K (.ref C) "__init__"=some (some (.ref f))
 fn:isFn K (.ref f)=true
 kp:keepIn K (.ref C)=true
theorem zK(M:Mk X.K C f)(F:hJ X.prog X.w X.K X.mg X.base CX k f fd ps sp)(j:bQ (k+1) X.A)(l:di X.K fd ps ds)(n:aD dvs ds)
 (q:jf CX X E) (I:Inv X pins d H s) (r:aD vs us)
 (h:∀x b,H x=none->H b=none->b≠x->sp (.ref x::(vs++dvs)) (upd (upd H b (.own x)) x (.ins C b [])) (λv w=>v= .non/\Q (.ref x) w) E):
 (wpAny (model X.prog X.w) X.A) (call (.ref C) us) (EP X pins d Q) X.xe s:=by
 have g:=h (⇑s+1) ⇑s (I.hok.fresh (Yh _)) (I.hok.fresh (Zi _)) (Zt (Yq _));have c:=Inv.made (C:=C) I;have i:aD (V.ref (⇑s+1)::(vs++dvs)) _:= .cons rfl (r.append n);have y:=by
  have e:=i.length;rw[F.len _ _ _ _ g]at e;exact e.symm
 refine wpAny_call (zG I.kIn M.makes M.init (beq_iff_eq.mp M.fn) (codeAny_mono (F.run _ X.stack _ _ _ _ _ _ E (j.make C us [])
  (c.env0.make C us []) (l _ _ c.kIn y) i g) λr s' a=>?_))
 cases r with
 | error e=>exact q pins d _ _ e s' c a
 | ok z=>
   cases z with
   | ret u=>
     have%[v,A,B,G,J|L]:=c.after a;subst J;exact%[G,V.ref _,A,B,rfl|L]
   | next=>exact False.elim a
   | brk=>exact False.elim a
   | cont=>exact False.elim a
theorem Ce(M:Mk X.K C f)(F:hJ X.prog X.w X.K X.mg X.base CX k f fd ps sp)(d:bQ (k+1) X.A)(g:Gl X x)(i:X.mg x=some (.ref C))(j:di X.K fd ps ds)(l:aD dvs ds)(n:jf CX X E)
 (u:PA X (e::es) t) (a:(x==("__debug__":Str))=false) (v:starEach (e::es) X.env=(false,eval e X.env)::starEach es X.env) (b:(backTo pos (starEach es X.env)).any (·.1)=false):
 PE X (.Call (.Name x p) (e::es) [] pos) (wE C sp dvs E t):=by
 intro pins s w H Q I h;exact wpAny_Call_Name_kw (iK I g i (callWith_K I.ok.mod.kin M.kp (thP (u pos pins s w H _ I h) λus y vs z c r q=>%[c.kIn|zK M F d j l n c r q]) v b) a)
end
section
variable{X:Cx}{CX:CXT}{k:Nat}{f C:Addr}{fd:FuncData}{ps ks:ZB}{sp:Sp}{E:XK}{x m:Str}{p pos apos kpos:Pos}{e o:Expr}{es:List Expr}{kws:List Keyword}{te ta:TE}{t tk:TA}{nm:Option Str}
variable{g:ZF->ZF->ZF}{gV:List V->List V->List V}
end
structure ax (N P:ZB) (sc:Scope):Prop where
 kind:sc.kind= .function
 co:sc.isCoroutine=false
 gen:sc.isGenerator=false
 nd:N.Nodup
 pre:N.take P.length=P
 par:∀x∈P,sc.names.lookup x=some .local\/sc.names.lookup x=some .cell
 nofree:∀y∈sc.names,y.2≠ .free
theorem pK{kindOf:Str->Option NameKind}:∀{binds:List (Str×Value)} {m:ZC},(∀v,(x,v)∉binds)->bindL kindOf binds m x=m x
 |[],_,_=>rfl
 |(n,v)::r,m,h=>by
  unfold bindL;rw[pK λw hw=>h w (Zk _ hw)]
  split
  .have:x≠n:=by rintro rfl;exact h v Zm
   simp[this]
  .rfl
theorem pL{kindOf:Str->Option NameKind}:∀{binds:List (Str×Value)} {m:ZC},(∀v,(x,v)∉binds)->bindC kindOf binds m x=m x
 |[],_,_=>rfl
 |(n,v)::r,m,h=>by
  unfold bindC;rw[pL λw hw=>h w (Zk _ hw)]
  split
  .rfl
  .have:x≠n:=by rintro rfl;exact h v Zm
   simp[this]
theorem pM{kindOf:Str->Option NameKind}{x:Str}:∀{P:ZB} {vs:ZF} {i:Nat} {m:ZC},P.Nodup->P[i]? =some x->vs[i]? =some v->kindOf x=some .local->
 bindL kindOf (P.zip vs) m x=some v
 |[],_,_,_,_,h,_,_=>by simp at h
 | _::_,[],_,_,_,_,h,_=>by simp at h
 | p::P,w::vs,0,m,nd,a,b,c=>by
   simp at a b;subst a;subst b;show bindL kindOf ((p,w)::P.zip vs) m p=_;unfold bindL;rw[pK λv d=>(nodup_cons.mp nd).1 (of_mem_zip d).1,if_pos c];simp
 | p::P,w::vs,i+1,m,nd,a,b,c=>by
   show bindL kindOf ((p,w)::P.zip vs) m x=_;exact pM (nodup_cons.mp nd).2 (a) (b) c
theorem pN{kindOf:Str->Option NameKind}{x:Str}:∀{P:ZB} {vs:ZF} {i:Nat} {m:ZC},P.Nodup->P[i]? =some x->vs[i]? =some v->kindOf x≠some .local->
 bindC kindOf (P.zip vs) m x=some v
 |[],_,_,_,_,h,_,_=>by simp at h
 | _::_,[],_,_,_,_,h,_=>by simp at h
 | p::P,w::vs,0,m,nd,a,b,c=>by
   simp at a b;subst a;subst b;show bindC kindOf ((p,w)::P.zip vs) m p=_;unfold bindC;rw[pL λv d=>(nodup_cons.mp nd).1 (of_mem_zip d).1,if_neg c];simp
 | p::P,w::vs,i+1,m,nd,a,b,c=>by
   show bindC kindOf ((p,w)::P.zip vs) m x=_;exact pN (nodup_cons.mp nd).2 (a) (b) c
noncomputable def start(N:ZB)(vs:List V):St:=vs.map some++List.replicate (N.length-vs.length) none
noncomputable def oV(CX:CXT)(P:Program)(w:World)(K:ZA)(mg:ZC)(base:Heap)(N:ZB)(qual:Str)(scope:Scope)(f:Addr)(cd:Value)(A:Around)(outer:List Env)(s:Shared)(H:Hp)(E:XK):Cx where
 prog:=P
 w:=w
 K:=K
 mg:=mg
 base:=base
 A:=A.deeper (envOfC qual scope ⇑s f cd)
 N:=N
 s₀:=s
 H₀:=H
 env:=envOfC qual scope ⇑s f cd
 outer:=outer
 stack:=envOfC qual scope ⇑s f cd::outer
 ex:=[]
 calm:=true
 fn:=λ_=>true
 pn:=[]
 xe:=λe s'=>wpAny (model P w) (A.deeper (envOfC qual scope ⇑s f cd)) (leaving (envOfC qual scope ⇑s f cd) e) (λ_ s''=>CX outer H s E e s'') (λe' s''=>CX outer H s E e' s'') s'
theorem sL{a:Scope}{n:Nat}{x:Str}(h:a.names.lookup x=some .cell):∃c,(cellsFrom n a.names []).lookup x=some c:=by
 exact isSome_iff_exists.mp (cellsFrom_some a.names n [] (.inl h))
theorem xK{P:Program}{K:ZA}
 (S:ax N ps a) (J:A.handled=none) (g:xJ P w K mg base A outer s H) (T:vs.length=ps.length) (r:aD vs us)
 (x:InCallC s ⇑s (bindL (envOfC d a ⇑s f C).kindOf (ps.zip us) λ_=>none) (cellsFrom (⇑s+1) a.names []) (bindC (envOfC d a ⇑s f C).kindOf (ps.zip us) λ_=>none) L):
 Inv (oV CX P w K mg base N d a f C A outer s H E) [] (start N vs) H L:=by
 have M:ps.length<=N.length:=by have:=congrArg List.length S.pre;rw[Yn]at this;lia
 have%[B,tk,rfl|G]:=x.done;have l:∀b,b∉(oV CX P w K mg base N d a f C A outer s H E).ex:=λb z=>absurd (show b∈([])from z) ∅
 refine%[%[g.mod,S.kind,rfl,rfl,Zi _,λy z c B j=>?_,λy m=>?_,λy c _ h=>?_,λ_=>J,Around.frames_deeper g.frames,.inr %[rfl|rfl],λb z=>absurd z (l b),g.bs,g.bsz,λb _ _=>l b,λb z=>absurd z (l b),g.funs|g.frf],
  rfl,g.bare,Un.kept G,%[_,x.toInCall.ns|λi y v B j U=>?_],λy c h=>%[_|x.cell y c h],g.hok.fresh (Zi _),λy c h=>?_,λp n=>absurd (show p∈([])from n) ∅,g.hok.kept G|?_]
 .exact name_of_addr x.apart (PySem.mem_of_lookup B) (PySem.mem_of_lookup j)
 .rcases m with m|m
  .exact sL m
  .exact absurd rfl (S.nofree _ (PySem.mem_of_lookup m))
 .exact Yg (x.above y c (PySem.mem_of_lookup h))
 .have hi:i<vs.length:=by
   unfold start at j;by_cases hi:i<vs.length
   .exact hi
   .rw[Yb (by simpa using hi)]at j;rw[List.getElem?_replicate]at j
    split at j<;> cases j
  have O:vs[i]? =some v:=by
   unfold start at j;rw[Ya (by simpa using hi),Zl]at j
   simp_all
  have%[u,I|Q]:=r.get O;have n:ps[i]? =some y:=by
   rw[<-S.pre,List.getElem?_take_of_lt ⋯];exact B
  have o:ps.Nodup:=S.pre▸S.nd.sublist (take_sublist _ _);refine%[u,Q|?_];rcases S.par y (Z8 n)with k|k
  .exact .inl %[k|pM o n I k]
  .have%[c|e]:=sL k;refine .inr %[.inl k,c,e|?_];have q:=x.cell y c e;rw[pN o n I (by show a.names.lookup y≠_;rw[k];decide)]at q;exact q
 .exact g.hok.fresh (Yg (x.above y c (PySem.mem_of_lookup h)))
 .unfold start;show _=N.length;rw[Z9,Z6,List.length_replicate]
  lia
theorem Gq{P:Program}{K:ZA}{U kV z Y d ct oc:Value}
 (lk:K.lookup f=some %[oc,od,.func (fnOf name c g i a U kV z Y an d ct)|ab]) (L:codeIn K d c=true) (S:ax N ps a)
 (len:∀vs H Q E,sp vs H Q E->vs.length=ps.length)
 (l:∀(A:Around) (outer:List Env) (s:Shared) (H:Hp) (vs:List V) (Q:VK) (E:XK),bQ k (A.deeper (envOfC c a ⇑s f d))->sp vs H Q E->
  ∃t,PSs (oV CX P w K mg base N c a f d A outer s H E) i t/\t {nx:=λ_ j=>Q .non j,rt:=Q} (start N vs) H):
 hJ P w K mg base CX (k+1) f (fnOf name c g i a U kV z Y an d ct) ps sp:=by
 refine%[len|λA outer s H args us vs Q E M B hb r C=>?_];have KX:=B.mod.kin.keeps λb o e=>(B.bs b o e).1
 have O:=B.mod.nolimit.keeps λb o e=>(B.bs b o e).1
 have m:∀y∈ps.zip us,a.names.lookup y.1=some _\/(a.names.lookup y.1=some _/\((cellsFrom (⇑s+1) a.names []).lookup y.1).isSome=true):=λ⟨n,v⟩ hy=>by
  rcases S.par n (of_mem_zip hy).1 with q|q
  .exact .inl q
  .exact .inr %[q|cellsFrom_some _ _ _ (.inl q)]
 refine codeAny_call_function M.depth (KX _ _ lk) rfl S.co S.gen rfl (PySem.W.codeRec_of KX L) (hb _ _ _ _ (wpAny_newFunctionEnv_cells S.kind m λenv he s1 x=>?_));subst he;refine%[O.keeps x.toInCall.keep|codeAny_func ?_];have%[t,ht|hq]:=l A outer s H vs Q E (M.deeper _) C;have I:Inv (oV CX P w K mg base N c a f d A outer s H E) [] _ H s1:=xK S M.hd B (len _ _ _ _ C) r x;refine wpAny_mono (ht [] s1 _ H _ I hq) (λfl s' p=>?_) λe s' p=>p
 have G:∀{h:St} {j:Hp} {v:V} {u:Value},Inv (oV CX P w K mg base N c a f d A outer s H E) [] h j s'->aO v u->Q v j->CE outer P w H s Q u s':=
  λ{h j v u} J T q=>%[v,j,J.os,J.bare,J.base,J.hok,T|q]
 cases fl with
 | ret u=>
   have%[v,h,j,J,T|q]:=p;exact G J T q
 | next=>
   have%[h,j,J|q]:=p;exact G (v:=V.non) J rfl q
 | brk=>
   have%[_,_,_|q]:=p
   simp_all
 | cont=>
   have%[_,_,_|q]:=p;exact False.elim q
section
variable{X:Cx}{x:Str}{p pos:Pos}{e:Expr}{es:List Expr}{t:TA}{id T:String}{r:List V->Hp->VK->Prop}
def tCB(r:List V->Hp->VK->Prop)(t:TA):TE:=λa H Q=>t a H λvs b=>r vs b Q
theorem zL(d:bR X (.builtin id) r)(f:Gl X x)(g:X.mg x=none)(i:bootBuiltins x=some (.builtin id))(j:PA X (e::es) t)(l:x≠"__name__")(a:(x==("__debug__":Str))=false)
 (m:starEach (e::es) X.env=(false,eval e X.env)::starEach es X.env) (b:(backTo pos (starEach es X.env)).any (·.1)=false):PE X (.Call (.Name x p) (e::es) [] pos) (tCB r t):=by
 intro pins s c H Q I h;exact wpAny_Call_Name_kw (jd I f g i (PyProof.Rows.callWith_builtin1 (thP (j pos pins s c H _ I h) λus n vs o q u v=>d pins n c o vs us Q q u v) m b) l a)
theorem xM(d:bR X (.type T) r)(f:Gl X x)(g:X.mg x=none)(i:bootBuiltins x=some (.type T))(j:PA X (e::es) t)(l:x≠"__name__")(a:(x==("__debug__":Str))=false)
 (m:starEach (e::es) X.env=(false,eval e X.env)::starEach es X.env) (b:(backTo pos (starEach es X.env)).any (·.1)=false):PE X (.Call (.Name x p) (e::es) [] pos) (tCB r t):=by
 intro pins s c H Q I h;exact wpAny_Call_Name_kw (jd I f g i (PyProof.Rows.callWith_type1 (thP (j pos pins s c H _ I h) λus n vs o q u v=>d pins n c o vs us Q q u v) m b) l a)
end
end L2
namespace HT
open PySem PyProof.Rows
section
open PySem.SeqAt
open PySem.AutoSeq1 (wpAny_loadPart')
open PySem.MeetsSeq PySem.MeetsSeq2 PySem.MeetsSeq3
end
section
#where
noncomputable def sIx(n d:Nat):Option Int->Nat
 | none=>d
 | some v=>if v<0 then(v+n).toNat else min v.toNat n
theorem sIx_none(n d:Nat):sIx n d none=d:=rfl
theorem sIx_nat(n d k:Nat):sIx n d (some k)=min k n:=by
 show(if k<0 then((k:Int) +n).toNat else min _ n)=min k n;rw[if_neg ⋯,Int.toNat_natCast]
theorem wF(v:Int)(n d:Nat):(if v<0 then max (v+n) 0 else min v n)=((sIx n d (some v))):=by
 show(if v<0 then max _ 0 else min v n)=(((if v<0 then(v+n).toNat else min v.toNat n):Nat))
 grind
theorem vf(lo hi:Option Int)(n:Nat):Builtin.Slice.sliceAdjust lo hi 1 n=(((sIx n 0 lo):Int),((sIx n n hi):Int)):=by
 refine Prod.ext ?_ ?_
 .cases lo with
  | none=>rfl
  | some v=>exact wF v n 0
 .cases hi with
  | none=>rfl
  | some v=>exact wF v n n
theorem vg(i j:Nat):Builtin.Slice.slicePlaces i j 1=j-i:=by
 unfold Builtin.Slice.slicePlaces;have a:(1:Int)>0:=by lia
 simp only[a,if_true,Int.ediv_one]
 split<;> lia
theorem mO(p:IsPart v o)(h:Q o s):↥A (Builtin.Slice.slicePartIndex v) Q E s:=by
 cases p with
 | none=>exact slicePart_none h
 | int i t=>exact slicePart_int h
theorem kr{lo hi:Option Int}{n:Nat}(c:s.heap.IsSliceOf d e f .none)(pl:IsPart e lo)(g:IsPart f hi)
 (h:Q (((sIx n 0 lo:Nat):Int),1,sIx n n hi-sIx n 0 lo) s):↥A (Builtin.Slice.sliceApplied (.ref d) (pure (n:Int))) Q E s:=by
 have%[os,a,i|b]:=id c;refine Z2 (Z2 (wpAny_field a b rfl (Z2 (wpAny_field a b rfl (Z2 (wpAny_field a b rfl (Z3 (Z2 (slicePart_none (Z2 (mO pl (Z2 (mO g (Z2 (Z3 ?_)))))))))))))));show wpAny _ _ (match Builtin.Slice.sliceAdjust lo hi 1 n with|(lo,hi)=>pure (lo,(1:Int),Builtin.Slice.slicePlaces lo hi 1)) _ _ s;rw[vf lo hi n];show wpAny _ _ (pure _) _ _ s;rw[vg];exact Z3 h
theorem zM(xs:ZJ)(i k:Nat):((List.range k).filterMap λ(m:Nat)=>xs[((i:Int) +m*1).toNat]?).toArray=((xs.toList.drop i).take k).toArray:=by
 have e:(λ(m:Nat)=>xs[((i:Int) +m*1).toNat]?)=λm=>xs[i+m]? :=by
  funext m;have:((i:Int) +m*1).toNat=i+m:=by lia
  rw[this]
 rw[e];have:=pick_run xs i k;rw[List.filterMap_map]at this;have a:((λx=>xs[x]?) ∘ λx=>i+x)=λm=>xs[i+m]? :=rfl
 rw[a]at this;rw[this]
theorem getItem_tuple_cut{lo hi:Option Int}(c:IsTup s.heap t a)(g:s.heap.IsSliceOf i j l .none)(pl:IsPart j lo)(m:IsPart l hi)
 (hw: ¬ (sIx a.size 0 lo=0/\sIx a.size a.size hi=a.size))
 (h:Q (.ref ⇑s) {s with heap:=s.heap.push {cls:= .type "tuple",data:= .seq ((a.toList.drop (sIx a.size 0 lo)).take (sIx a.size a.size hi-sIx a.size 0 lo)).toArray}})
 (n:a.size<=sizeLine):↥A (getItem (.ref t) (.ref i)) Q E s:=by
 have b:sizeOk (.seq ((a.toList.drop (sIx a.size 0 lo)).take (sIx a.size a.size hi-sIx a.size 0 lo)).toArray):=by
  show((a.toList.drop _).take _).toArray.size<=sizeLine;rw[Zp,Yn,Yj,Zb]
  lia
 have%[os,d,e|o]:=id g;unfold getItem
 try with_reducible refine wpAny_holding ?_
 refine Z2 (wpAny_sequenceKey c.typeIs (by decide) ?_);refine Z2 (wpAny_callSpecial?_slot c.typeIs PyProof.Rows.slot_tuple_getitem
  (wpAny_call_entry PyProof.Rows.slot_tuple_getitem c.typeIs entry_tuple_getitem ?_ (args_tuple_getitem _ _)))
 show wpAny _ _ (Builtin.Tuple.tupleItemsOf _>>= _) _ _ s;refine Z2 (tupleItemsOf_ c (Z2 (wpAny_typeOf %[os,d|e] (Z2 (kr g pl m ?_)))));have f: ¬ ((((sIx a.size 0 lo):Int)==0&&(1:Int)==1&&(sIx a.size a.size hi-sIx a.size 0 lo)==a.size)=true):=by
  lia
 show wpAny _ _ (if(((sIx a.size 0 lo):Int)==0&&(1)==1&&(sIx a.size a.size hi-sIx a.size 0 lo)==a.size)=true then _ else _) _ _ s;rw[if_neg f,zM]
 first
  | exact Z2 (wpAny_newObj_type (Z3 ⟨_,rfl,Z3 h⟩) b)
  | lia
  | lia
  | lia
end
end HT
namespace L2
open PySem PySem.Spec PyProof.Rows
noncomputable abbrev TO:=St->Hp->(Option Int->Hp->Prop)->Prop
def PO(X:Cx)(e:Option Expr)(t:TO):Prop:=
 ∀pins s (a:St) H Q,Inv X pins a H s->t a H Q->
  (wpAny (model X.prog X.w) X.A) (evalPart e X.env) (λu s'=>∃o b,Inv X pins a b s'/\IsPart u o/\Q o b) X.xe s
def qV:TO:=λ_ H Q=>Q none H
def zN(t:TE):TO:=λa H Q=>t a H λx b=>asI x λi=>Q (some i) b
section
variable{X:Cx}{e:Expr}{te:TE}{lo hi:Option Expr}{tl th:TO}{pos p2:Pos}
theorem Cf:PO X none qV:=by
 intro pins s a H Q I h;exact Z3 %[none,H,I,.none|h]
theorem Cg(h:PE X e te):PO X (some e) (zN te):=by
 intro pins s a H Q I hw;refine thP (h pins s a H _ I hw) λu g x b c d f=>?_
 have%[i,rfl|q]:=hV f;have%[t|rfl]:=d;exact%[some i,b,c,.int i t|q]
def SlR(X:Cx)(r:V->Option Int->Option Int->Hp->VK->Prop):Prop:=
 ∀pins s (a:St) H x v b c lo hi d Q,Inv X pins a H s->aO x v->s.heap.IsSliceOf d b c .none->IsPart b lo->IsPart c hi->r x lo hi H Q->
  ∃T id,typeLookup (.type T) "__getitem__"=pure (some (.builtin id))/\s.TypeIs v T/\(wpAny (model X.prog X.w) X.A) (getItem v (.ref d)) (EP X pins a Q) X.xe s
theorem SlR.or(h:SlR X r)(h':SlR X j):SlR X (λx lo hi H Q=>r x lo hi H Q\/j x lo hi H Q):=by
 intro pins s a H x v b c lo hi d Q I f g pl i q;rcases q with q|q
 .exact h pins s a H x v b c lo hi d Q I f g pl i q
 .exact h' pins s a H x v b c lo hi d Q I f g pl i q
def tSl(r:V->Option Int->Option Int->Hp->VK->Prop)(te:TE)(tl th:TO):TE:=λa H Q=>te a H λx b=>tl a b λl c=>th a c λu d=>r x l u d Q
theorem sM(c:SlR X r)(d:PE X e te)(f:PO X lo tl)(g:PO X hi th):PE X (.Subscript e (.Slice lo hi none p2) pos) (tSl r te tl th):=by
 intro pins s a H Q I h;refine Subscript_ (thP (d pins s a H _ I h) λv i x j m n o=>wpAny_Slice (thP (f pins i a j _ m o) λp w l y z pl A=>thP (g pins w a y _ z A) λB C u E G J L=>Z3 ?_));have%[T,id,M,N|O]:=c pins _ a E x v p B l u ⇑C Q (G.kept λb U q=>Z7 _ q) n (Heap.IsSliceOf.new ..) pl J L;exact tail_any N M O (by with_unfolding_all rfl)
noncomputable def oW(xs:List V)(lo hi:Option Int):List V:=(xs.drop (HT.sIx xs.length 0 lo)).take (HT.sIx xs.length xs.length hi-HT.sIx xs.length 0 lo)
theorem lA(xs:List V)(lo hi:Option Int):(oW xs lo hi).length<=xs.length:=by
 unfold oW;rw[Yn,Yj]
 lia
def EA(K:ZA):V->Option Int->Option Int->Hp->VK->Prop:=λx lo hi H Q=>∃a xs,x= .ref a/\SqT K H a xs/\
 ¬ (HT.sIx xs.length 0 lo=0/\HT.sIx xs.length xs.length hi=xs.length)/\∀p,H p=none->Q (.ref p) (upd H p (.tup (oW xs lo hi)))
theorem EB:SlR X (EA X.K):=by
 intro pins s m H x v n o lo hi p Q I g i pl j h;have%[a,xs,rfl,l,hw|q]:=h;cases g;have%[its,r,d|f]:=I.tuple l;have c:its.toArray.size=xs.length:=r.length.symm;refine%["tuple",_,PyProof.Rows.slot_tuple_getitem.lookup,d.typeIs|HT.getItem_tuple_cut d i pl j (c▸hw) ?_ (c▸f)];rw[c];refine%[.ref ⇑s,_,I.laid (λb u q=>Z7 _ q) (Zi _) ?_,rfl|q _ (I.hok.fresh (Zi _))];exact%[Yi (lA xs lo hi) f,_,(r.drop _).take _|IsTup.new _ _]
end
noncomputable def ixN(n:Nat)(i:Int):Option Nat:=if 0<=i then(if i<n then some i.toNat else none)else if -n<=i then some (i+n).toNat else none
noncomputable def atI{a:Type}(xs:List a)(i:Int):Option a:=(ixN xs.length i).bind λj=>xs[j]?
theorem Ch(h:ixN n i=some j):seqIndex? i n=some j/\j<n/\ -(n:Int)<=i/\i<n:=by
 unfold ixN at h;by_cases b:0<=i
 .rw[if_pos b]at h;by_cases a:i<n
  .rw[if_pos a]at h;exact%[by rw[seqIndex_of b a,(Za h)],⋯,⋯|a]
  simp_all
 .rw[if_neg b]at h;by_cases a: -n<=i
  .rw[if_pos a]at h;exact%[by rw[seqIndex_neg ⋯ a,(Za h)],⋯,a|⋯]
  .rw[if_neg a]at h;cases h
theorem qW{a:Type}{xs:List a}{i:Int}{v:a}(h:atI xs i=some v):∃j,seqIndex? i xs.length=some j/\xs[j]? =some v/\j<xs.length/\ -xs.length<=i/\i<xs.length:=by
 unfold atI at h;cases e:ixN xs.length i with
 | none=>simp_all
 | some j=>
   rw[e]at h;have%[b,c,d|f]:=Ch e;exact%[j,b,h,c,d|f]
theorem cm{a:Type}{xs:List a}{j:Nat}{v:a}(h:xs[j]? =some v):atI xs j=some v:=by
 have b:=(Xp h).1;have e:ixN xs.length j=some j:=by
  unfold ixN
  simp_all
 unfold atI;exact e▸h
theorem mP(xs:List a)(v:a):atI (xs++[v]) (-1)=some v:=by
 have b:(xs++[v]).length=xs.length+1:=by simp
 have e:ixN (xs++[v]).length (-1)=some xs.length:=by
  unfold ixN;rw[b,if_neg (by decide),if_pos ⋯]
  congr 1
  lia
 unfold atI
 simp_all
def my(b:Expr):Prop:=∀o i,subscripted b false o i=operate [o,i] (getItem o i)
def IxR(X:Cx)(r:R2):Prop:=
 ∀b a pins s (c:St) H x y v u Q,Inv X pins c H s->aO x v->aO y u->r x y H Q->
  subscripted a false v u=operate [v,u] (getItem v u)->wpAny (model X.prog X.w) X.A (subscriptTail b a v u) (EP X pins c Q) X.xe s
def MtR(X:Cx)(id:String)(r:V->List V->Hp->VK->Prop):Prop:=
 ∀pins s (a:St) H x xs v us Q,Inv X pins a H s->aO x v->aD xs us->r x xs H Q->
  (wpAny (model X.prog X.w) X.A) (call (.builtin id) (v::us)) (EP X pins a Q) X.xe s
section
variable{X:Cx}{a b:Expr}{ta tb:TE}{pos:Pos}
theorem zO(c:IxR X r)(d:PE X a ta)(e:PE X b tb)(f:my b):PE X (.Subscript a b pos) (tOp r ta tb):=by
 intro pins s g H Q I h;exact Subscript_ (Ei d e I h λv u i x y j l m n q=>c a b pins i g j x y v u Q l m n q (f _ _))
def EC(K:ZA):R2:=λx y H Q=>asR x λp=>asI y λi=>∃xs,SqL K H p xs/\∃v,atI xs i=some v/\Q v H
def ED(K:ZA):R2:=λx y H Q=>asR x λp=>asI y λi=>∃xs,SqT K H p xs/\∃v,atI xs i=some v/\Q v H
def EE:R2:=λx y H Q=>∃z i c,x= .str z/\y= .int i/\z.length<=sizeLine/\atI z.cps.toList i=some c/\Q (.str ⟨#[c]⟩) H
theorem Ci:IxR X (EC X.K):=by
 intro e f pins s B H x y v u Q I C E h n;have%[p,rfl|g]:=eZ h;have%[i,rfl,xs,G,z,J|q]:=hV g;cases C;have%[t|rfl]:=E;have%[its,r,pl|O]:=I.list G;have%[j,d,g,T,L|M]:=qW J;have%[w,o|l]:=r.get g;have N:=r.length;have U:=qT;have c:EP X pins B Q w s:=%[z,H,I,l|q]
 by_cases A:0<=i
 .have m:=by
   rw[seqIndex_of A M]at d;exact Za d
  exact item_listR pl.isList A ⋯ (by rw[m];simpa using o) c n
 .have m:(i+its.toArray.size).toNat=j:=by
   rw[seqIndex_neg ⋯ L]at d;rw[Zp,<-N];exact Za d
  exact subscriptTail_builtinR pl.isList.typeIs slot_list_getitem.lookup
   (wpAny_getItem_list_neg pl.isList ⋯ (by simp_all) ⋯ (by rw[m];simpa using o) %[rfl|c]) n
theorem EF:IxR X (ED X.K):=by
 intro c d pins s l H x y v u Q I m n h o;have%[p,rfl|e]:=eZ h;have%[i,rfl,xs,A,z,B|q]:=hV e;cases m;have%[t|rfl]:=n;have%[its,r,pl|G]:=I.tuple A;have%[j,C,e,J,L|M]:=qW B;have%[w,E|f]:=r.get e;have N:=qT;have g:EP X pins l Q w s:=%[z,H,I,f|q]
 exact subscriptTail_builtinR pl.typeIs slot_tuple_getitem.lookup
  (getItem_tuple pl ⋯ ⋯ (by rw[Zp,<-r.length];exact C) (by simpa using E) %[rfl|g]) o
theorem EG:IxR X EE:=by
 intro d e pins s A H x y v u Q I g l h m;have%[z,i,c,rfl,rfl,B,n|q]:=h;have%[t|rfl]:=g;have%[t'|rfl]:=l;have%[j,f,o,C,p|r]:=qW n;have w:z.cps.toList.length=z.length:=by simp[Str.length]
 rw[w]at f p r;have E:=qT;exact tail_any (typeIs_str s z t) slot_str_getitem.lookup (getItem_str (by
  lia) (by rw[f];simpa using o) %[.str _,H,I.tok _,%[_|rfl]|q]) m
theorem qX(lo hi:Option Int)(n:Nat):(sliceBounds lo hi none n).1=((HT.sIx n 0 lo:Nat):Int)/\(sliceBounds lo hi none n).2.1=((HT.sIx n n hi:Nat):Int)/\(sliceBounds lo hi none n).2.2=1:=by
 refine%[?_,?_|rfl]
 .cases lo with
  | none=>simp[sliceBounds,HT.sIx]
  | some i=>
    simp only[sliceBounds,HT.sIx,getD_none,show(1:Int)>0 by decide,if_true];by_cases h:i<0
    .simp only[h,if_true]<;> lia
    .simp only[h,if_false]<;> lia
 .cases hi with
  | none=>simp[sliceBounds,HT.sIx]
  | some i=>
    simp only[sliceBounds,HT.sIx,getD_none,show(1:Int)>0 by decide,if_true];by_cases h:i<0
    .simp only[h,if_true]<;> lia
    .simp only[h,if_false]<;> lia
theorem oX(its:ZF)(lo hi:Option Int):slicePick its.toArray lo hi none=((its.drop (HT.sIx its.length 0 lo)).take (HT.sIx its.length its.length hi-HT.sIx its.length 0 lo)).toArray:=by
 have%[c,d|e]:=qX lo hi its.toArray.size;unfold slicePick;rw[c,d,e];simp only[sliceRange_one,pick_run]<;> rfl
def EH(K:ZA):V->Option Int->Option Int->Hp->VK->Prop:=λx lo hi H Q=>∃a xs,x= .ref a/\SqL K H a xs/\∀p,H p=none->Q (.ref p) (upd H p (.lst (oW xs lo hi)))
theorem Cj:SlR X (EH X.K):=by
 intro pins s l H x v m n lo hi o Q I e f pl g h;have%[a,xs,rfl,i|q]:=h;cases e;have%[its,r,d|j]:=I.list i;have c:=r.length;refine%["list",_,slot_list_getitem.lookup,d.isList.typeIs|wpAny_getItem_list_slice d.isList f pl g .none ∅ ?_ (by simp_all)];rw[oX,<-c];refine%[.ref ⇑s,_,I.laid (λb p q=>Z7 _ q) (Zi _) ?_,rfl|q _ (I.hok.fresh (Zi _))];exact%[Yi (lA xs lo hi) j,_,0,(r.drop _).take _|Zj _ rfl]
noncomputable def e7:V->Bool
 | .non=>true
 | .bl _=>true
 | .int _=>true
 | .str _=>true
 | _=>false
noncomputable def eqV:V->V->Bool
 | .non,.non=>true
 | .bl a,.bl b=>a==b
 | .bl a,.int b=>(if a then 1 else 0)==b
 | .int a,.bl b=>a==(if b then 1 else 0)
 | .int a,.int b=>a==b
 | .str a,.str b=>a==b
 | _,_=>false
theorem zP(d:aO y u)(c:aO x v)(f:e7 y=true)(e:e7 x=true):SeqAt.EqAt A s u v (eqV y x):=by
 cases y with
 | non=>
   cases d;cases x with
   | non=>cases c;exact SeqAt.EqAt.same _
   | bl b=>cases c;exact SeqAt.EqAt.none_bool b
   | int b=>have%[t|rfl]:=c;exact SeqAt.EqAt.none_int b t
   | str b=>have%[t|rfl]:=c;exact SeqAt.EqAt.none_str b t
   | _=>exact absurd (show false=true from e) Zu
 | bl a=>
   cases d;cases x with
   | non=>cases c;exact SeqAt.EqAt.bool_none a
   | bl b=>cases c;exact SeqAt.EqAt.bool_bool a b
   | int b=>have%[t|rfl]:=c;exact SeqAt.EqAt.bool_int a b t
   | str b=>have%[t|rfl]:=c;exact SeqAt.EqAt.bool_str a b t
   | _=>exact absurd (show false=true from e) Zu
 | int a=>
   have%[t'|rfl]:=d;cases x with
   | non=>cases c;exact SeqAt.EqAt.int_none a t'
   | bl b=>cases c;exact SeqAt.EqAt.int_bool a t' b
   | int b=>have%[t|rfl]:=c;exact SeqAt.EqAt.int_int a t' b t
   | str b=>have%[t|rfl]:=c;exact SeqAt.EqAt.int_str a t' b t
   | _=>exact absurd (show false=true from e) Zu
 | str a=>
   have%[t'|rfl]:=d;cases x with
   | non=>cases c;exact SeqAt.EqAt.str_none a t'
   | bl b=>cases c;exact SeqAt.EqAt.str_bool a t' b
   | int b=>have%[t|rfl]:=c;exact SeqAt.EqAt.str_int a t' b t
   | str b=>have%[t|rfl]:=c;exact SeqAt.EqAt.str_str a t' b t
   | _=>exact absurd (show false=true from e) Zu
 | _=>exact absurd (show false=true from f) Zu
noncomputable def eqU(x:V)(u:Value):Bool:=match u with
 | .none=>eqV .non x
 | .bool b=>eqV (.bl b) x
 | .int i _=>eqV (.int i) x
 | .str z _=>eqV (.str z) x
 | _=>false
theorem zQ(r:aO y u)(f:e7 y=true):eqU x u=eqV y x:=by
 cases y with
 | non=>cases r;rfl
 | bl b=>cases r;rfl
 | int i=>have%[t|rfl]:=r;rfl
 | str z=>have%[t|rfl]:=r;rfl
 | _=>exact absurd (show false=true from f) Zu
theorem qY:∀{xs:List V} {us:ZF},aD xs us->xs.all e7=true->us.any (eqU x)=xs.any λy=>eqV y x
 | _,_,.nil,_=>rfl
 | y::xs,u::us,.cons r t,f=>by
   rw[List.all_cons,Zx]at f;rw[Zy,Zy,zQ r f.1,qY t f.2]
theorem mQ(d:aO x v)(e:e7 x=true):∀{xs:List V} {us:ZF},aD xs us->xs.all e7=true->∀u∈us,SeqAt.EqAt A s u v (eqU x u)
 | _,_,.nil,_=>λu c=>by cases c
 | y::xs,u::us,.cons r t,f=>λg c=>by
   rw[List.all_cons,Zx]at f;rcases mem_cons.mp c with rfl|c
   .rw[zQ r f.1];exact zP r d f.1 e
   .exact mQ d e t f.2 g c
noncomputable def inV(x:V)(xs:List V):Bool:=xs.any λy=>eqV y x
def rIn(K:ZA)(c:Bool):R2:=λx y H Q=>∃p xs,y= .ref p/\(SqL K H p xs\/SqT K H p xs)/\e7 x=true/\xs.all e7=true/\Q (.bl (if c then !inV x xs else inV x xs)) H
theorem xN:OpR X (compareOp .In) (rIn X.K false):=by
 intro pins s i H x y v u Q I d f h;have%[p,xs,rfl,c,e,fs|q]:=h;cases f;rcases c with c|c
 .have%[its,r,pl|g]:=I.list c;refine SeqAt.in_listAt _ pl.isList (λw hw=>mQ d e r fs w (by simpa using hw)) %[.bl _,H,I,rfl|?_];rw[show its.toArray.any _=its.any (eqU x) by simp,qY r fs];exact q
 .have%[its,r,pl|g]:=I.tuple c;refine SeqAt.in_tupleAt _ pl (λw hw=>mQ d e r fs w (by simpa using hw)) %[.bl _,H,I,rfl|?_];rw[show its.toArray.any _=its.any (eqU x) by simp,qY r fs];exact q
theorem qZ:bR X (.type "list") (λxs H Q=>∃p ys,xs=[.ref p]/\(SqL X.K H p ys\/SqT X.K H p ys)/\∀l,H l=none->Q (.ref l) (upd H l (.lst ys))):=by
 intro pins s A H xs us Q I r h;have%[p,ys,rfl,f|q]:=h;have%[u,rfl|B]:=cP r;cases B;have g:∀its,aD ys its->ys.length<=sizeLine->∀h' d,(∀b z,s.heap.get? b=some z->h'.get? b=some z)->
  h'.get? ⇑s=some _->EP X pins A Q _ {s with heap:=h'}:=λits c i h' d j e=>
  %[.ref ⇑s,_,I.laid j (Zi _) (show cD X.prog X.w _ h' _ (.lst ys)from%[i,its,d,c|e]),rfl|q _ (I.hok.fresh (Zi _))]
 rcases f with f|f
 .have%[its,c,pl|i]:=I.list f;have m:=c.length;have%[o,v,w,n|y]:=pl.isList;exact call_list_seq p (.inl rfl) v w y (λh' d j e=>g its c i h' d j e) (by simp only[Zp]<;> lia)
 .have%[its,c,pl|i]:=I.tuple f;have m:=c.length;have%[o,v,w,n|y]:=pl;exact call_list_seq p (.inr rfl) v w y (λh' d j e=>g its c i h' d j e) (by simp only[Zp]<;> lia)
def tyV(K:ZA)(T:String)(x:V)(H:Hp):Prop:=match x with
 | .str _=>T="str"
 | .int _=>T="int"
 | .ref p=>(T="list"/\∃xs,SqL K H p xs)\/(T="tuple"/\∃o,K.lookup p=some o/\o.cls= .type "tuple"/\o.dict=none)\/
  (T="dict"/\((∃c,H p=some (.dK c))\/∃c,H p=some (.dT c)))\/(T="set"/\∃S n,H p=some (.set S n))
 | _=>False
theorem zR(I:Inv X pins q H s)(r:aO x v)(ty:tyV X.K T x H):
 s.TypeIs v T/\∀a,v= .ref a->∃j,s.heap.get? a=some j/\j.dict=none:=by
 cases x with
 | str z=>
   have%[t|rfl]:=r;cases(show T="str" from ty);exact%[typeIs_str s z t|λ_ e=>nomatch e]
 | int i=>
   have%[t|rfl]:=r;cases(show T="int" from ty);exact%[typeIs_int s i t|λ_ e=>nomatch e]
 | ref p=>
   cases r;rcases ty with⟨rfl,xs,l⟩|⟨rfl,o,d,m,f⟩|⟨rfl,d⟩|⟨rfl,S,n,d⟩
   .have%[its,_,pl|_]:=I.list l;refine%[pl.isList.typeIs|λa e=>?_];cases e;have%[o,n,e,c,f|_]:=pl;exact%[o,e|f]
   .refine%[%[o,I.kIn p o d|m]|λa e=>?_];cases e;exact%[o,I.kIn _ o d|f]
   .have z:∃o,s.heap.get? p=some o/\o.ExactDict:=by
     rcases d with⟨g,d⟩|⟨g,d⟩
     .have%[_,_,_,_,o,_,_,e,ex|_]:=I.hok p _ d;exact%[o,e|ex]
     .have%[_,_,_,_,o,_,_,e,ex|_]:=I.hok p _ d;exact%[o,e|ex]
    have%[o,e|ex]:=z;refine%[%[o,e|ex.1]|λa h=>?_];cases h;exact%[o,e|ex.2.1]
   .have%[o,_,_,_,e,ex|_]:=I.hok p _ d;refine%[%[o,e|ex.1]|λa h=>?_];cases h;exact%[o,e|ex.2.1]
 | _=>exact False.elim ty
def Ck(K:ZA)(T:String)(r:V->List V->Hp->VK->Prop)(d:TE):TE:=λe H Q=>d e H λx c=>tyV K T x c/\r x [] c Q
def tBM(K:ZA)(T:String)(r:V->List V->Hp->VK->Prop)(e:TE)(t:TA):TE:=λc H Q=>e c H λx d=>tyV K T x d/\t c d λxs f=>r x xs f Q
variable{o e:Expr}{es:List Expr}{to:TE}{t:TA}{name:Str}{apos cpos:Pos}{T id:String}{r:V->List V->Hp->VK->Prop}
theorem EI(l:PlainAttrs T)(slot:Slot T name id)(f:typeOf (.builtin id)=pure (.type "method_descriptor"))(m:MtR X id r)(n:PE X o to)
 (c:attributeBase o name X.env (eval o X.env)=eval o X.env) (d:(apos.endLine==cpos.line)=true):PE X (.Call (.Attribute o name apos) [] [] cpos) (Ck X.K T r to):=by
 intro pins s g H Q I h;refine wpAny_Call_method0_late c d (thP (n pins s g H _ I h) λv p x q i j ⟨ty,u⟩=>?_);have%[w|y]:=zR i j ty;exact%[T,id,l,slot,f,w,y|Calls.callWith_builtin rfl (PySem.evalArgs_none (m pins p g q x [] v [] Q i j .nil u))]
theorem Gr(p:PlainAttrs T)(slot:Slot T name id)(i:typeOf (.builtin id)=pure (.type "method_descriptor"))(q:MtR X id r)(u:PE X o to)(w:PA X (e::es) t)
 (d:attributeBase o name X.env (eval o X.env)=eval o X.env)
 (g:((backTo cpos (starEach (e::es) X.env)).all (λx=>!x.1)&&(backToKw cpos (keywordEach [] X.env)).all (λx=>x.1.isSome)
  && decide ((e::es).length+([]:List Keyword).length+(if([]:List Keyword).isEmpty then 0 else 1)<30))=true)
 (f:(apos.endLine==cpos.line)=true) (y:starEach (e::es) X.env=(false,eval e X.env)::starEach es X.env) (c:(backTo cpos (starEach es X.env)).any (·.1)=false):
 PE X (.Call (.Attribute o name apos) (e::es) [] cpos) (tBM X.K T r to t):=by
 intro pins s j H Q I h;refine wpAny_Call_method_late d g f rfl (thP (u pins s j H _ I h) λv z x A l m ⟨ty,B⟩=>?_);have%[C|E]:=zR l m ty;refine%[T,id,p,slot,i,C,E|?_];have n:=w cpos pins z j A _ l B;rw[y]at n ⊢;exact Calls.callWith_builtin (by show(false||(backTo cpos _).any _)=false;rw[c]<;> rfl) (Calls.evalArgs_plain (thn n λus G ⟨vs,J,L,M,N⟩=>q pins G j J x vs v us Q L m M N))
end
def MtM(X:Cx)(id:String)(r:V->List V->Hp->VK->Prop):Prop:=
 ∀pins s (a:St) H x xs v us Q,Inv X pins a H s->aO x v->aD xs us->r x xs H Q->
  (wpAny (model X.prog X.w) X.A) (call (.builtin id) (v::us)) (EP X pins a Q) X.xe s
theorem aD.one:∀{x:V} {us:ZF},aD [x] us->∃u,us=[u]/\aO x u
 | _,_,.cons r .nil=>%[_,rfl|r]
theorem aD.zero:∀{us:ZF},aD [] us->us=[]
 | _,.nil=>rfl
theorem aD.eraseIdx:∀{xs:List V} {us:ZF} i,aD xs us->aD (xs.eraseIdx i) (us.eraseIdx i)
 | _,_,_,.nil=> .nil
 | _,_,0,.cons _ t=>t
 | _,_,i+1,.cons r t=> .cons r (aD.eraseIdx i t)
theorem aD.reverse(h:aD xs us):aD xs.reverse us.reverse:=by
 induction h with
 | nil=>exact .nil
 | cons r t a=>rw[List.reverse_cons,List.reverse_cons];exact aD.append a (.cons r .nil)
theorem aD.rep(h:aD xs us):∀k:Nat,aD (List.replicate k xs).flatten (List.replicate k us).flatten
 | 0=> .nil
 | k+1=>by
   exact aD.append h (aD.rep h k)
theorem pO:∀(l:List a) (i:Nat),(l.eraseIdx i).length<=l.length
 |[],_=>Zi _
 | _::_,0=>Yh _
 | _::r,i+1=>Nat.succ_le_succ (pO r i)
theorem pP(its:ZF):∀k acc,
 List.foldl (λa x2=>a++x2) acc.toArray (List.replicate k its.toArray)=(acc++(List.replicate k its).flatten).toArray
 | 0,acc=>by simp
 | k+1,acc=>by
   have e:acc.toArray++its.toArray=(acc++its).toArray:=by simp
   have b:(acc++its) ++(List.replicate k its).flatten=acc++(List.replicate (k+1) its).flatten:=by
    rw[List.replicate_succ,List.flatten_cons,Ze]
   rw[<-b,<-pP its k _,<-e,List.replicate_succ,Y9]
section
variable{X:Cx}{pins:ZE}{σ:St}{H:Hp}{s:Shared}
variable{l b:Addr}{xs ys zs:List V}
theorem Inv.lset{its its':ZF}{n:Nat}{f:ZJ->ZJ}{t':Nat}(I:Inv X pins σ H s)(a:H l=some (.lst xs))
 (e:s.heap.get? l=some {cls:= .type "list",data:= .seq its.toArray n}) (c:f its.toArray=its'.toArray) (d:aD ys its') (g:ys.length<=sizeLine):
 Inv X pins σ (upd H l (.lst ys)) {s with heap:=s.heap.update l (Obj.mapSeq f),toks:=t'}:=by
 have q:=PySem.IsL.update e f;rw[c]at q;refine I.write (a▸trivial) (.inl rfl) (λj u h i=>(get?_update_other s.heap _ (Ne.symm h)).trans i) %[_|q] ?_;exact%[g,its',_,d|q]
theorem Inv.lnew(I:Inv X pins σ H s)(a:aD ys its)(c:ys.length<=sizeLine):
 Inv X pins σ (upd H ⇑s (.lst ys)) {s with heap:=s.heap.push {cls:= .type "list",data:= .seq its.toArray},toks:=t'}:=
 I.laid (λ_ _ q=>Z7 _ q) (Zi _) %[c,its,0,a|Zj _ rfl]
theorem Inv.fresh(I:Inv X pins σ H s):H ⇑s=none:=I.hok.fresh (Zi _)
theorem Inv.lstM(I:Inv X pins σ H s)(a:H l=some (.lst xs)):xs.length<=sizeLine/\∃its n,aD xs its/\xs.length=its.length/\s.heap.get? l=some {cls:= .type "list",data:= .seq its.toArray n}:=by
 have%[z,its,n,r|e]:=I.hok l _ a;exact%[z,its,n,r,r.length|e]
theorem sN{n:Nat}(h:n<=sizeLine):Builtin.List.listTooLong n=false:=by
 unfold Builtin.List.listTooLong
 simp_all
end
section
variable{X:Cx}
def q0:V->List V->Hp->VK->Prop:=λx vs H Q=>asR x λl=>∃y,vs=[y]/\∃xs,H l=some (.lst xs)/\xs.length<sizeLine/\Q .non (upd H l (.lst (xs++[y])))
theorem pQ:MtM X "list.append" q0:=by
 intro pins s f H x vs v us Q I b c h;have%[l,rfl,y,rfl,xs,a,g|q]:=eZ h;cases b;have%[u,rfl|d]:=c.one;have%[z,its,n,r,i|e]:=I.lstM a;refine call_meets F.slot_list_append %[_,e|rfl] F.entry_list_append (F.args_list_append_2 _ _) (PySem.list_append l its.toArray n u (by simp_all)) %[e,.non,_,I.lset a e ∅ (r.append (.cons d .nil)) ?_,rfl|q];rw[Z9,Ym]
 lia
def rc:V->List V->Hp->VK->Prop:=λx vs H Q=>∃l b xs zs,x= .ref l/\vs=[.ref b]/\H l=some (.lst xs)/\H b=some (.lst zs)/\xs.length+zs.length<=sizeLine/\Q .non (upd H l (.lst (xs++zs)))
theorem xO:MtM X "list.extend" rc:=by
 intro pins s y H x vs v us Q I f g h;have%[l,b,xs,zs,rfl,rfl,d,i,A|q]:=h;cases f;have%[u,rfl|j]:=g.one;cases j;have%[z,its,n,r,B|e]:=I.lstM d;have%[C,its2,m,o,p|w]:=I.lstM i;have c:its.toArray.size+its2.toArray.size<=sizeLine:=by simp_all
 have a: ¬ (!its.toArray.isEmpty&&Builtin.List.listTooLong (its.toArray.size+its2.toArray.size))=true:=by
  rw[sN c,Bool.and_false];exact Zu
 refine call_meets F.slot_list_extend %[_,e|rfl] F.entry_list_extend (F.args_list_extend_2 _ _)
  (AutoSeq1.list_extend_list_list_0 l its.toArray n b its2.toArray m a ⋯ ⋯) %[e,w,.non,_,I.lset d e ∅ (r.append o) ?_,rfl|q]
 simp_all
def vh:V->List V->Hp->VK->Prop:=λx vs H Q=>∃l xs,x= .ref l/\vs=[]/\H l=some (.lst xs)/\Q .non (upd H l (.lst []))
theorem zS:MtM X "list.clear" vh:=by
 intro pins s f H x vs v us Q I c d h;have%[l,xs,rfl,rfl,b|q]:=h;cases c;have a:=d.zero;subst a;have%[z,its,n,r,g|e]:=I.lstM b;exact call_meets F.slot_list_clear %[_,e|rfl] F.entry_list_clear (F.args_list_clear_1 _) (AutoSeq1.list_clear_list_0 l its.toArray n (by rw[Zp];lia)) %[e,.non,_,I.lset b e rfl .nil (Xh _),rfl|q]
def EJ:R2:=λx y H Q=>∃l b xs zs,x= .ref l/\y= .ref b/\H l=some (.lst xs)/\H b=some (.lst zs)/\xs.length+zs.length<=sizeLine/\∀p,H p=none->Q (.ref p) (upd H p (.lst (xs++zs)))
theorem EK:OpR X (binaryOp .Add) EJ:=by
 intro pins s o H x y v u Q I a c h;have%[l,b,xs,zs,rfl,rfl,d,f,p|q]:=h;cases a;cases c;have%[z,its,n,r,w|e]:=I.lstM d;have%[A,its2,B,g,i|j]:=I.lstM f;refine PySem.P.add_list e j ?_ (by rw[Zp,Zp];lia);have m:its.toArray++its2.toArray=(its++its2).toArray:=by simp
 rw[m];exact%[.ref _,_,I.lnew (r.append g) (by rw[Z9];lia),rfl|q _ I.fresh]
def EM:R2:=λx y H Q=>∃l k xs,x= .ref l/\y= .int k/\H l=some (.lst xs)/\ -(2^63)<=k/\k<2^63/\xs.length*k.toNat<=sizeLine/\
 ∀p,H p=none->Q (.ref p) (upd H p (.lst (List.replicate k.toNat xs).flatten))
theorem Cl(xs:List a)(k:Nat):(List.replicate k xs).flatten.length=k*xs.length:=by
 simp
theorem EN:OpR X (binaryOp .Mult) EM:=by
 intro pins s E H x y v u Q I o p h;have%[l,k,xs,rfl,rfl,w,A,B,j|q]:=h;cases o;have%[t|rfl]:=p;have%[z,its,n,r,C|e]:=I.lstM w;have c:its.toArray.size*k.toNat<=sizeLine:=by rw[Zp,<-C];exact j
 have d: ¬ its.toArray.size*k.toNat>(2^63-1)/8:=by
  have:sizeLine<=(2^63-1)/8:=by decide
  lia
 have f: ¬ (!Builtin.List.listFitsIndex k)=true:=by
  rw[fitsIndex_both A B];exact Zu
 have b: ¬ Builtin.List.listTooLong (its.toArray.size*k.toNat)=true:=by
  rw[sN c];exact Zu
 have g:List.foldl (λi x2=>i++x2) #[] (List.replicate (if its.toArray.isEmpty=true then 0 else k.toNat) its.toArray)=(List.replicate k.toNat its).flatten.toArray:=by
  have G:∀m,List.foldl (λi x2=>i++x2) #[] (List.replicate m its.toArray)=(List.replicate m its).flatten.toArray:=λm=>by
   have:=pP its m []
   simp_all
  cases its with
  | nil=>simp
  | cons a J=>simp_all
 refine wpAny_binaryOp_repeat_ref (by decide) %[_,e|rfl] (λs'=>typeIs_int s' k t) noFill_list_mul F.fills_int_mul F.slot_int_rmul repeat_list F.slot_int_index.lookup
  (call_meets F.slot_int_rmul (typeIs_int s k t) F.entry_int_rmul (F.args_int_rmul_2 _ _) (int___rmul___int_list k t l its.toArray n)
   %[e,rfl,%[_,e|rfl]|call_meets F.slot_list_mul %[_,e|rfl] F.entry_list_mul (F.args_list_mul_2 _ _) (AutoListH.list___mul___list_int_3 l its.toArray n k t f d b) %[e|?_]])
 rw[g];exact%[.ref _,_,I.lnew (r.rep k.toNat) (by rw[Cl,Nat.mul_comm];exact j),rfl|q _ I.fresh]
end
section
#where
end
section
variable{X:Cx}
end
section
variable{κ:Type}[DecidableEq κ]
noncomputable def cA(a:List (κ×V))(k:κ):Option V:=(a.find? λb=>decide (b.1=k)).map (·.2)
noncomputable def cB(a:List (κ×V))(k:κ)(v:V):List (κ×V):=
 if(a.any λb=>decide (b.1=k))=true then a.map (λb=>if b.1=k then(b.1,v)else b)else a++[(k,v)]
theorem dN{p:κ×V}{r:List _}{k:κ}(e:p.1=k):cA (p::r) k=some p.2:=by simp[cA,e]
theorem cQ{p:κ×V}{r:List _}{k:κ}(e: ¬ p.1=k):cA (p::r) k=cA r k:=by simp[cA,e]
theorem h9(k:κ):∀a,(a.any λb=>decide (b.1=k))=(cA a k).isSome
 |[]=>rfl
 | p::r=>by
   rw[Zy];by_cases e:p.1=k
   .simp only[dN e,Zf e,Bool.true_or,Option.isSome_some]
   .rw[cQ e,Zh e,Bool.false_or];exact h9 k r
theorem dO(a:List _)(k:κ)(v:V):(cB a k v).length<=a.length+1:=by
 unfold cB
 split
 .simp
 simp_all
theorem mR{k:κ}(v:V)(h:cA a k=none):cB a k v=a++[(k,v)]:=by
 unfold cB;rw[h9,h];exact if_neg (by decide)
theorem fk.isSome_eq(r:fk o u):o.isSome=u.isSome:=by
 cases o with
 | none=>cases u with
   | none=>rfl
   | some _=>exact(r).elim
 | some _=>cases u with
   | none=>exact(r).elim
   | some _=>rfl
theorem fk.getD{o:Option V}{u:Option Value}{d:V}{d':Value}(r:fk o u)(a:aO d d'):aO (o.getD d) (u.getD d'):=by
 cases o with
 | none=>cases u with
   | none=>exact a
   | some _=>exact(r).elim
 | some _=>cases u with
   | none=>exact(r).elim
   | some _=>exact r
theorem KV.val{vs:List (κ×Value)}(r:KV a vs)(k:κ):fk (cA a k) (valueAt vs k):=by
 induction r with
 | nil=>exact True.intro
 | @cons p q ps qs h t f=>
   have%[d|g]:=h;by_cases e:p.1=k
   .have c:=d.symm.trans e;have b:valueAt (q::qs) k=some q.2:=by simp[valueAt,c]
    rw[dN e,b];exact g
   .have c: ¬ q.1=k:=λz=>e (d.trans z)
    have b:valueAt (q::qs) k=valueAt qs k:=by simp[valueAt,c]
    rw[cQ e,b];exact f
theorem KV.any(r:KV a vs)(k:κ):(a.any λb=>decide (b.1=k))=vs.any λb=>decide (b.1=k):=by
 induction r with
 | nil=>rfl
 | cons h t c=>simp_all
theorem KV.repl(r:KV c vs)(k:κ)(d:aO y u):
 KV (c.map λa=>if a.1=k then(a.1,y)else a) (vs.map λa=>if a.1=k then(a.1,u)else a):=by
 induction r with
 | nil=>exact .nil
 | @cons p q ps qs h t f=>
   rw[Ys,Ys];refine .cons ?_ f;have%[b|g]:=h;by_cases e:p.1=k
   .rw[if_pos e,if_pos (b.symm.trans e)];exact%[b|d]
   .rw[if_neg e,if_neg (λz=>e (b.trans z))];exact%[b|g]
theorem KV.put(r:KV a vs)(k:κ)(b:aO y u):KV (cB a k y) (stored vs k u):=by
 unfold cB stored;rw[r.any k];by_cases e:(vs.any λc=>decide (c.1=k))=true
 .rw[if_pos e,if_pos e];exact r.repl k b
 .rw[if_neg e,if_neg e];exact Paired.snoc r %[rfl|b]
theorem KV.length{a:List (κ×V)}{vs:List _}(r:KV a vs):a.length=vs.length:=Paired.length r
end
theorem lB{P:Program}(r:aO (kV k) u):(aE P w).is k u=true:=by
 cases k with
 | inl i=>have%[t|e]:=(r);subst e;exact sI P w i t
 | inr x=>have%[t|e]:=(r);subst e;exact lu P w x t
theorem pR{P:Program}:∀{ks:List Key} {us:ZF},aD (ks.map kV) us->ItemsAre (aE P w) ks us
 |[],_,r=>by cases r;exact .nil
 | k::ks,_,r=>by
   cases r with
   | cons h t=>exact .cons (lB h) (pR t)
noncomputable abbrev KT(H:Hp):List (List Key×V)->List (List Key×Addr×Value)->Prop:=Paired λp q=>p.1=q.1/\H q.2.1=some (.tup (p.1.map kV))/\aO p.2 q.2.2
theorem KT.val{a:List (List Key×V)}{xs:List (List Key×Addr×Value)}(r:KT H a xs)(k:List Key):fk (cA a k) ((atKey xs k).map (·.2)):=by
 induction r with
 | nil=>exact True.intro
 | @cons p q ps qs h t f=>
   have%[d,_|g]:=h;by_cases e:p.1=k
   .have c:=d.symm.trans e;have b:atKey (q::qs) k=some q.2:=by simp[atKey,c]
    rw[dN e,b];exact g
   .have c: ¬ q.1=k:=λz=>e (d.trans z)
    have b:atKey (q::qs) k=atKey qs k:=by simp[atKey,c]
    rw[cQ e,b];exact f
theorem KT.repl(r:KT H b xs)(k:List Key)(f:aO y u):
 KT H (b.map λc=>if c.1=k then(c.1,y)else c) (xs.map (putAt k u)):=by
 induction r with
 | nil=>exact .nil
 | @cons p q ps qs h t g=>
   rw[Ys,Ys];refine .cons ?_ g;have%[a,d|i]:=h;unfold putAt;by_cases e:p.1=k
   .rw[if_pos e,if_pos (a.symm.trans e)];exact%[a,d|f]
   .rw[if_neg e,if_neg (λz=>e (a.trans z))];exact%[a,d|i]
theorem KT.put(r:KT H a xs)(k:List Key)(d:H b=some (.tup (k.map kV)))(c:aO y u):
 KT H (cB a k y) (storedH xs k b u):=by
 have e:(a.any λf=>decide (f.1=k))=(atKey xs k).isSome:=by
  rw[h9,(r.val k).isSome_eq,isSome_map]
 unfold cB storedH;rw[e];by_cases q:(atKey xs k).isSome=true
 .rw[if_pos q,if_pos q];exact r.repl k c
 .rw[if_neg q,if_neg q];exact Paired.snoc r %[rfl,d|c]
theorem KT.keeps(r:KT H a xs)(c:∀b ys,H b=some (.tup ys)->d b=some (.tup ys)):KT d a xs:=
 Paired.mapP r λ_ _ z=>%[z.1,c _ _ z.2.1|z.2.2]
section
variable{P:Program}{w:World}{H:Hp}{h:Heap}{a:Addr}
theorem Ds(ok:HOk P w H h)(e:Rd H a u):cD P w H h a u:=e.ok ok
theorem sO(ok:HOk P w H h)(e:Rd H a (.dK b)):b.length<=sizeLine/\(a==sysModules)=false/\∃vs,KV b vs/\h.DictOf (aE P w) a vs:=
 Ds ok e
theorem lC(ok:HOk P w H h)(e:H a=some (.dK b)):b.length<=sizeLine/\(a==sysModules)=false/\∃vs,KV b vs/\h.DictOf (aE P w) a vs:=sO ok (.inl e)
theorem mS(ok:HOk P w H h)(e:H a=some (.tup (ks.map kV))):(tupleKind (aE P w)).is h ks a:=by
 have%[_,its,r,o,b,c,n|d]:=(ok a _ e)
 exact%[o,its.toArray,n,b,c,d|pR r]
theorem sP(ok:HOk P w H h)(e:Rd H a (.dT b)):b.length<=sizeLine/\(a==sysModules)=false/\
 ∃xs,KT H b xs/\h.DictOfH (tupleKind (aE P w)) a xs:=by
 have%[z,y,xs,r,o,d,f,g,i,j,n|s]:=(Ds ok e)
 refine%[z,y,xs,r,o,d,f,g,i,j,n,λx c=>?_|s];have all:∀{l:List _} {m:List _},KT H l m->∀x∈m,(tupleKind (aE P w)).is h x.1 x.2.1:=by
  intro l m q
  induction q with
  | nil=>simp
  | @cons p q ps qs v t u=>
    intro x c;rcases mem_cons.mp c with e|c
    .exact mS ok (by simp_all)
    .exact u x c
 exact all r x c
theorem Dt(ok:HOk P w H h)(e:H a=some (.dT b)):b.length<=sizeLine/\(a==sysModules)=false/\
 ∃xs,KT H b xs/\h.DictOfH (tupleKind (aE P w)) a xs:=sP ok (.inl e)
end
def dw(H:Hp)(a:Addr)(y:V)(r:Option V):Prop:=
 (∃c k,Rd H a (.dK c)/\y=kV k/\r=cA c k)\/∃c k b,Rd H a (.dT c)/\y= .ref b/\H b=some (.tup (k.map kV))/\r=cA c k
def ic(H:Hp)(a:Addr)(y v:V)(d:Hp):Prop:=
 (∃c k,H a=some (.dK c)/\y=kV k/\c.length<sizeLine/\d=upd H a (.dK (cB c k v)))\/
 ∃c k b,H a=some (.dT c)/\y= .ref b/\H b=some (.tup (k.map kV))/\c.length<sizeLine/\d=upd H a (.dT (cB c k v))
theorem dw.k{k:Key}(e:H a=some (.dK b)):dw H a (kV k) (cA b k):= .inl %[b,k,.inl e,rfl|rfl]
theorem ic.k{k:Key}(e:H a=some (.dK b))(c:b.length<sizeLine):ic H a (kV k) v (upd H a (.dK (cB b k v))):= .inl %[b,k,e,rfl,c|rfl]
theorem ic.t{c:List (List Key×V)}{k:List Key}(e:H a=some (.dT c))(d:H b=some (.tup (k.map kV)))(f:c.length<sizeLine):
 ic H a (.ref b) v (upd H a (.dT (cB c k v))):= .inr %[c,k,b,e,rfl,d,f|rfl]
section
variable{X:Cx}{pins:ZE}{σ:St}{H:Hp}{s:Shared}
variable{a:Addr}{y v:V}{u r:Value}{o:Option V}{A:Around}{E:ZD}
theorem Inv.big(I:Inv X pins σ H s):sysModules<⇑s:=by
 exact Nat.lt_trans (by decide) ((I.mod.glob.keeps I.bk).lt)
theorem xP(w:A.units+1<cLine)(I:Inv X pins σ H s)(g:dw H a y (some v))(q:aO y u)(h:∀f s',Inv X pins σ H s'->aO v f->Q f s'):
 wpAny (model X.prog X.w) A (getItem (.ref a) u) Q E s:=by
 rcases g with⟨i,k,e,j,l⟩|⟨i,k,b,e,j,B,l⟩
 .subst j;have%[z,C,vs,c|m]:=sO I.hok e;have%[f,hw|d]:=fk.some_of (l▸c.val k);exact wpAny_getItem_of (lB q) m.mapOf hw (h f _ (I.tok _) d)
 .subst j;cases(q);have%[z,C,xs,c|m]:=sP I.hok e;have%[f,hw|d]:=fk.some_of (l▸c.val k);have%[p,G|n]:=map_eq_some_iff.mp hw;refine wpAny_getItem_heap (tupleKind_room_in1 w) (mS I.hok B) m G ?_;rw[n];exact h f _ (I.tok _) d
theorem d_in(n:A.units+1<cLine)(I:Inv X pins σ H s)(g:dw H a y o)(m:aO y u)(h:∀s',Inv X pins σ H s'->Q (.bool o.isSome) s'):
 wpAny (model X.prog X.w) A (compareOp .In u (.ref a)) Q E s:=by
 rcases g with⟨d,k,e,f,l⟩|⟨d,k,b,e,f,p,l⟩
 .subst f;have%[z,i,vs,c|j]:=sO I.hok e;refine wpAny_in_of (lB m) i j.mapOf ?_;rw[<-(c.val k).isSome_eq,<-l];exact h _ (I.tok _)
 .subst f;cases(m);have%[z,i,xs,c|j]:=sP I.hok e;refine wpAny_in_heap (tupleKind_room_in1 n) (mS I.hok p) i j ?_;have q:=(c.val k).isSome_eq;rw[isSome_map]at q;rw[<-q,<-l];exact h _ (I.tok _)
theorem Cm(n:A.units+1<cLine)(I:Inv X pins σ H s)(g:dw H a y o)(m:aO y u)(h:∀s',Inv X pins σ H s'->Q (.bool (!o.isSome)) s'):
 wpAny (model X.prog X.w) A (compareOp .NotIn u (.ref a)) Q E s:=by
 rcases g with⟨d,k,e,f,l⟩|⟨d,k,b,e,f,p,l⟩
 .subst f;have%[z,i,vs,c|j]:=sO I.hok e;refine wpAny_notIn_of (lB m) i j.mapOf ?_;rw[<-(c.val k).isSome_eq,<-l];exact h _ (I.tok _)
 .subst f;cases(m);have%[z,i,xs,c|j]:=sP I.hok e;refine wpAny_notIn_heap (tupleKind_room_in1 n) (mS I.hok p) i j ?_;have q:=(c.val k).isSome_eq;rw[isSome_map]at q;rw[<-q,<-l];exact h _ (I.tok _)
theorem jz(I:Inv X pins σ H s)(d:Mut (H a))(e:SameBut a s.heap h')(f:∃q,h'.get? a=some q)(new:cD X.prog X.w (upd H a c) h' a c):
 Inv X pins σ (upd H a c) {s with heap:=h',toks:=t'}:=
 I.write d (.inl rfl) (λb q g z=>(e.2 b g).trans z) f new
theorem mT{P:Program}(z:b.length<=sizeLine)(d:(a==sysModules)=false)(c:KV b vs)(e:h'.DictOf (aE P w) a vs):
 cD P w f h' a (.dK b):=%[z,d,vs,c|e]
theorem xQ(N:A.units+1<cLine)(I:Inv X pins σ H s)(g:ic H a y v O)(G:aO y u)(J:aO v r)(h:∀s',Inv X pins σ O s'->Q () s'):
 wpAny (model X.prog X.w) A (setItem (.ref a) u r) Q E s:=by
 rcases g with⟨d,k,e,m,l,n⟩|⟨d,k,b,e,m,L,l,n⟩
 .subst m n;have%[z,p,vs,f|w]:=lC I.hok e;have T:vs.length<=sizeLine:=f.length▸z;have B:(cB d k v).length<=sizeLine:=by have:=dO d k v;lia
  exact wpAny_setItem_pairs (lB G) w λh' i C=>h _ (jz I (e▸True.intro) C (let⟨q,_,_,j,_⟩:=i;%[q|j]) (mT B p (f.put k J) i))
 .subst m n;cases(G);have%[z,p,xs,f|w]:=Dt I.hok e;have T:xs.length<=sizeLine:=(Paired.length f)▸z;have B:(cB d k v).length<=sizeLine:=by have:=dO d k v;lia
  refine wpAny_setItem_heap (tupleKind_room_in1 N) (mS I.hok L) w λh' i C=>h _ ?_
  have%[q,U,Y,j,h2,h3,h4,_|h5]:=i;refine jz I (e▸True.intro) C %[q|j] %[B,p,_,(f.put k L J).keeps λc ys M=>?_,q,U,Y,j,h2,h3,h4|h5];rw[ak (F4 M e (λz=>nomatch z))];exact M
end
section
variable{X:Cx}{pins:ZE}{σ:St}{H:Hp}{s:Shared}
variable{a:Addr}{kvs:List (Key×V)}{k:Key}{u:Value}{A:Around}{E:ZD}
end
def EO(i:Expr):Prop:=∀a b,subscripted i false a b=operate [a,b] (getItem a b)
theorem Cn{T id:String}
 (m:typeLookup (.type T) "__getitem__"=pure (some (.builtin id))) (n:EO a)
 (h:↥A (eval c env) (λo e=>↥A (eval a env) (λi b=>b.TypeIs o T/\↥A (getItem o i) Q E b) E e) E s):
 ↥A (eval (.Subscript c a pos) env) Q E s:=by
 refine Subscript_ (wpAny_mono h (λo e g=>wpAny_mono g (λi b d=>?_) λ_ _ x=>x) λ_ _ x=>x);have%[p|d]:=d;refine Z2 (Z2 (wpAny_specialOf p m ?_));have l:↥A (subscripted a false o i) (λr f=>↥A (letTemporaryGo c o r>>= λ_=>pure r) Q E f) E b:=by
  rw[n o i];exact wpAny_operating (wpAny_mono d (λr f j=>Z2 (wpAny_letTemporaryGo (Z3 j))) λ_ _ x=>x)
 first
  | exact Z3 (Z2 l)
  | lia
  | lia
theorem sQ{X:Cx}(I:Inv X pins f H s)(g:dw H a y o):s.TypeIs (.ref a) "dict":=by
 rcases g with⟨c,k,e,_,_⟩|⟨c,k,b,e,_,_,_⟩
 .have%[_,_,vs,_|d]:=sO I.hok e;exact d.typeIs
 .have%[_,_,xs,_|d]:=sP I.hok e;exact d.typeIs
def zT(d ty:TE):TE:=λb H Q=>d b H λx e=>ty b e λy c=>∃a v,x= .ref a/\dw c a y (some v)/\Q v c
def EQ(ty d:TE):TE:=λb H Q=>ty b H λy e=>d b e λx c=>∃a o,x= .ref a/\dw c a y o/\Q (.bl o.isSome) c
def re(ty d:TE):TE:=λb H Q=>ty b H λy e=>d b e λx c=>∃a o,x= .ref a/\dw c a y o/\Q (.bl (!o.isSome)) c
def pS(d ty e:TE):TS:=λD b H=>e b H λv f=>d b f λx g=>ty b g λy h=>∃a c,x= .ref a/\ic h a y v c/\D.nx b c
section
variable{X:Cx}{o i e value:Expr}{pos pos' tpos:Pos}{td ty tv:TE}
theorem Co(f:X.A.units+1<cLine)(j:PE X o td)(hi:PE X i ty)(l:EO i):PE X (.Subscript o i pos) (zT td ty):=by
 intro pins s c H Q I h;refine Cn PySem.F.slot_dict_getitem.lookup l (thP (j pins s c H _ I h) λu m x n p q r=>thP (hi pins m c n _ p r) λC E y w d z ⟨a,v,ex,g,A⟩=>?_);subst ex;obtain rfl:u=Value.ref a:=q;exact%[sQ d g|xP f d g z λG J B b=>%[v,w,B,b|A]]
theorem ER(c:X.A.units+1<cLine)(hi:PE X i ty)(d:PE X o td):PC X .In i o (EQ ty td):=by
 intro pins s b H Q I h;refine thP (hi pins s b H _ I h) λA f y j l m n=>thP (d pins f b j _ l n) λu B x p q r ⟨a,v,ex,g,w⟩=>?_
 subst ex;obtain rfl:u=Value.ref a:=r;exact d_in c q g m λC z=>%[.bl v.isSome,p,z,rfl|w]
theorem xR(c:X.A.units+1<cLine)(hi:PE X i ty)(d:PE X o td):PC X .NotIn i o (re ty td):=by
 intro pins s b H Q I h;refine thP (hi pins s b H _ I h) λz f y j l m n=>thP (d pins f b j _ l n) λu A x p q r ⟨a,B,ex,g,v⟩=>?_
 subst ex;obtain rfl:u=Value.ref a:=r;exact Cm c q g m λC w=>%[.bl _,p,w,rfl|v]
theorem Cp(c:X.A.units+1<cLine)(d:PE X o td)(hi:PE X i ty)(f:PE X value tv)(j:swapsWith value (some (.Subscript o i pos')) pos.line X.env=pure false):
 PS X (.Assign [.Subscript o i pos'] value pos) (pS td ty tv):=by
 intro pins s b H D I h;refine wpAny_Assign_Subscript (thP (f pins s b H _ I h) λr l v m n p q=>thP (d pins l b m _ n q) λu w x z A B C=>thP (hi pins w b z _ A C) λN O y Q E G ⟨a,J,ex,g,L⟩=>?_) j;subst ex;obtain rfl:u=Value.ref a:=B;exact xQ c E g G p λT M=>%[b,J,M|L]
end
theorem sS{P:Program}(h:Heap)(a:sysModules<h.objs.size):cD P w H (h.push {cls:= .type "dict",data:= .dict #[]}) h.objs.size (.dK []):=
 %[Xh _,beq_eq_false_iff_ne.mpr (Ne.symm (Zt a)),[],.nil|Heap.DictOf.new h]
theorem zU{P:Program}(h:Heap)(a:sysModules<h.objs.size):cD P w H (h.push {cls:= .type "dict",data:= .dict #[]}) h.objs.size (.dT []):=
 %[Xh _,beq_eq_false_iff_ne.mpr (Ne.symm (Zt a)),[],.nil,_,#[],0,Zj _ rfl,%[rfl,rfl|rfl],rfl,rfl|X7]
def vk:TE:=λ_ H Q=>∀p,H p=none->Q (.ref p) (upd H p (.dK []))
def vm:TE:=λ_ H Q=>∀p,H p=none->Q (.ref p) (upd H p (.dT []))
section
variable{X:Cx}{pos:Pos}
theorem zV:PE X (.Dict [] [] pos) vk:=λpins s a H Q I h=>
 wpAny_Dict_empty %[.ref ⇑s,_,I.laid (λ_ _ q=>Z7 _ q) (Zi _) (sS s.heap I.big),rfl|h _ (I.hok.fresh (Zi _))]
theorem zW:PE X (.Dict [] [] pos) vm:=λpins s b H Q I h=>
 wpAny_Dict_empty %[.ref ⇑s,_,I.laid (a:=⇑s) (o:= .dT []) (t':=s.toks) (λ_ _ q=>Z7 _ q) (Zi _) (zU s.heap I.big),rfl|h _ (I.hok.fresh (Zi _))]
end
noncomputable def vo:List (TE×TE)->St->Hp->(List (V×V)->Hp->Prop)->Prop
 |[],_,H,Q=>Q [] H
 |(tk,b)::r,a,H,Q=>tk a H λx c=>b a c λy d=>vo r a d λps e=>Q ((x,y)::ps) e
noncomputable abbrev VV:List (V×V)->List (Value×Value)->Prop:=Paired λp q=>aO p.1 q.1/\aO p.2 q.2
def PPs(X:Cx)(pos:Pos)(b:List (Option Expr))(a:List Expr)(c:List (TE×TE)):Prop:=
 ∀pins s (d:St) H Q,Inv X pins d H s->vo c d H Q->
  (wpAny (model X.prog X.w) X.A) (evalPairs (pairTrees b a X.env pos)) (λvs s'=>∃ps e,Inv X pins d e s'/\VV ps vs/\Q ps e) X.xe s
theorem Cq{X:Cx}:PPs X pos [] [] []:=λpins s a H Q I h=>pairTrees_nil_walk %[[],H,I,.nil|h]
theorem zX{X:Cx}(d:PE X k tk)(e:PE X v f)(g:PPs X pos ks vs a):
 PPs X pos (some k::ks) (v::vs) ((tk,f)::a):=λpins s b H Q I h=>
 pairTrees_cons_walk (thP (d pins s b H _ I h) λu i x j l m n=>thP (e pins i b j _ l n) λC o y p q r w=>
  thP (g pins o b p _ q w) λws E ps z A c B=>%[(x,y)::ps,z,A,.cons %[m|r] c|B])
noncomputable def ig(a more:List (Key×V)):List (Key×V):=more.foldl (λacc b=>cB acc b.1 b.2) a
theorem KV.merge:∀{more:List _} {b:List _} {a:List _} {vs:List _},KV more b->KV a vs->KV (ig a more) (merged vs b):=by
 intro more b a vs r
 induction r generalizing a vs with
 | nil=>intro q;exact q
 | @cons p q ps qs h t c=>
   intro d;have e:KV (cB a p.1 p.2) (stored vs q.1 q.2):=by
    have:=d.put p.1 h.2;exact h.1▸this
   exact c e
theorem fz:∀more a,(ig a more).length<=a.length+more.length
 |[],a=>by show a.length<=a.length+0;lia
 | p::r,a=>by
   have b:=fz r (cB a p.1 p.2);have c:=dO a p.1 p.2;show(ig _ r).length<=_
   grind
theorem mU{P:Program}:∀{d:List (Key×V)} {ws:List (Value×Value)},VV (d.map λf=>(kV f.1,f.2)) ws->∃e,Carries (aE P w) ws e/\KV d e
 |[],_,r=>by rw[map_nil]at r;cases r;exact%[[],True.intro|.nil]
 | p::d,_,r=>by
   rw[Ys]at r;cases r with
   | @cons a b i bs h t=>
     have%[e,c|q]:=mU (P:=P) (w:=w) t;have%[j|g]:=b;exact%[(p.1,g)::e,%[lB h.1,rfl|c]|.cons %[rfl|h.2] q]
def Du(b:List (TE×TE)):TE:=λe H Q=>∀p,H p=none->vo b e (upd H p (.dK [])) λps c=>c p=some (.dK [])/\∃a:List _,ps=a.map (λd=>(kV d.1,d.2))/\a.length<=15/\Q (.ref p) (upd c p (.dK (ig [] a)))
theorem Cr{X:Cx}(h:PPs X pos b d j)(f:b.all (·.isSome)=true)(p:b.length=d.length)(r:b≠[])
 (l:b.length<=15):PE X (.Dict b d pos) (Du j):=by
 intro pins s u H Q I q;have v:=I.hok.fresh (Zi ⇑s);have y:=I.laid (a:=⇑s) (o:= .dK []) (h':=s.heap.push {cls:= .type "dict",data:= .dict #[]}) (t':=s.toks) (λ_ _ q=>Z7 _ q) (Zi _) (sS s.heap I.big);refine wpAny_Dict_walk (knd:=aE X.prog X.w) f p r l (thP (h pins _ u _ _ y (q _ v)) λws s2 ps H2 n m ⟨e,g,A,lk,B⟩=>?_);subst A;have%[C,c|E]:=mU (P:=X.prog) (w:=X.w) m;have%[z,G,J,L|M]:=lC n.hok e;cases L;refine%[C,c,M|λh' i N=>%[.ref ⇑s,_,?_,rfl|B]];have O:(ig [] g).length<=sizeLine:=by
  have T:=fz g [];rw[length_nil]at T;rw[sizeLine_eq];lia
 have U:∃q,h'.get? ⇑s=some q:=let⟨q,_,_,Y,_⟩:=i;%[q|Y];exact jz n (by rw[e];exact True.intro) N U (mT O G (E.merge .nil) i)
structure M2 (X:Cx) (o:Expr) (m:Str) (apos:Pos) (e f:Expr) (cpos:Pos):Prop where
 base:attributeBase o m X.env (eval o X.env)=eval o X.env
 few:((backTo cpos (starEach [e,f] X.env)).all (λx=>!x.1)&&(backToKw cpos (keywordEach [] X.env)).all (λx=>x.1.isSome)
  && decide (([e,f]).length+([]:List Keyword).length+(if([]:List Keyword).isEmpty then 0 else 1)<30))=true
 line:(apos.endLine==cpos.line)=true
 trees:backTo cpos (starEach [e,f] X.env)=[(false,eval e X.env),(false,eval f X.env)]
section
variable{X:Cx}{pins:ZE}{σ:St}{H:Hp}{s:Shared}
variable{a:Addr}{y d:V}{u r:Value}{o:Option V}{A:Around}{E:ZD}
end
section
variable{X:Cx}{o e f:Expr}{apos cpos:Pos}{td ty tx:TE}
end
section
variable{X:Cx}{pins:ZE}{σ:St}{H:Hp}{s:Shared}
variable{a:Addr}{kvs:List (Key×V)}{A:Around}{E:ZD}
end
section
variable{X:Cx}{pins:ZE}{σ:St}{H:Hp}{s:Shared}
variable{a:Addr}{y:V}{u:Value}{A:Around}{E:ZD}
end
end L2
namespace Att
open PySem PySem.W PySem.Calls PyProof.Rows
theorem lZ{P:Params}:∀(c:ZL) (vs:ZF),WellAll P h vs (c.map WData.int)->IntsAre vs c:=by
 intro c
 induction c with
 | nil=>
   intro vs w;cases w;exact .nil
 | cons n c d=>
   intro vs w;cases w with
   | cons a b=>
     cases a;exact .cons _ _ (d _ b)
theorem xS{l:OpenLaw}(o:l.most=some n){P:Params}
 (b:l.row.toRowW.claim.pre args=true) (j:WellAll P h e args):
 ∃a vs c,e=[Value.ref a]/\args=[WData.list (c.map WData.int)]/\h.get? a=some {cls:= .type "list",data:= .seq vs.toArray}/\IntsAre vs c/\c.length<=n:=by
 have m:l.pre.holds [] _=true:=(pre_splitW b).2;have%[d,r,rfl,p|q]:=hasAllW_cons ((pre_splitW b).1);obtain rfl:=hasAllW_nil q;have%[xs,rfl|s]:=hasW_list p;have%[c|rfl]:=items_int s;have f:c.length<=n:=by
  unfold OpenLaw.pre at m;have i:=by
   have i:=(holds_andW m).1;rw[o]at i;exact i
  have y:=condW_of i (w_not (w_lt w_lit (w_len_list (w_arg rfl))))
  grind
 cases j with
 | cons u v=>
   cases v;cases u with
   | list w g=>exact%[_,_,c,rfl,rfl,w,lZ c _ g|f]
theorem xT(l:OpenLaw)(args:List WData):l.row.toRowW.claim.post args (.bool true) args=true:=
 postW_of
  (by first|rfl|simp|lia)
  (w_eq_bool (w_res rfl) w_lit) rfl
theorem attach_call{l:OpenLaw}{n:Nat}{q:Program}
 (I:l.most=some n) (u:d.params.defaults=[])
 (call:∀(w:World) (s₀ b:Shared) (mg v:ZC) (h:Addr) (o:Obj) (y p c:Value) (a:Addr) (vs:ZF) (s:ZL),
  Ground q e [] J w s₀ mg v b.heap->L w b.heap->
  b.heap.get? h=some o->o.data= .func (docDef d.name d.params d.body d.scope y p c)->b.heap.CodeRec p d.name->mg d.name=some (.ref h)->
  b.heap.get? a=some {cls:= .type "list",data:= .seq vs.toArray}->IntsAre vs s->s.length<=n->b.gens= #[]->
  codeAny (model l.prog w) callerA (.call (.ref h) %[[.ref a]|[]]) (λr s'=>r= .ok (.ret (.bool true))/\OldK b.heap s'.heap/\s'.os=b.os/\AllBare s'.gens) b):
 WalkO q e J L l.row.toRowW d [] (λf vs=>PySem.call f vs):=by
 intro w s₀ b mg v G Y h o y p c M kV N O z C A Q args E as i H T B U;obtain rfl:M= .none:=Dflts.none C u;obtain rfl:kV= .none:=Dflts.noKw C;have%[a,vs,s,rfl,rfl,j,g|m]:=xS I i B;refine enter_call (codeAny_mono (call w s₀ b mg v h o y p c a vs s G Y N (fd_plain O) z A j g m Q) λr s' hq=>?_);have%[rfl,h2,h3|h4]:=hq;exact%[.inl %[.bool true,.bool true,[],rfl,λ_=>rfl,.bool true,xT l _|λ_=>%[List.Pairwise.nil|λ_ hm=>(nomatch hm)]],h2,h3|h4]
section
#where
variable{K:Frag}
end
end Att
namespace L2
open PySem PySem.Spec PyProof.Rows
theorem pT:∀{vs:ZF} {a:ZL},IntsAre vs a->aD (a.map V.int) vs
 | _,_,.nil=> .nil
 | _,_,.cons n t h=> .cons %[t|rfl] (pT h)
def Cs(H:Hp):Prop:=∀b,H b=none\/∃o xs,H b=some (.frz o (.lst xs))
theorem law_call{P:Program}{K:ZA}{mg J:ZC}{vs:ZF}
 (Y:K.In c.heap) (p:c.heap.Ns mainGlobals mg) (g:c.heap.Ns builtinsNs J) (L:∀x:Str,x≠"__name__"->J x=bootBuiltins x) (y:c.heap.NoLimit) (hg:c.gens= #[])
 (M:c.heap.get? a=some {cls:= .type "list",data:= .seq vs.toArray}) (hi:IntsAre vs N) (hl:N.length<=sizeLine) (hr:bQ k callerA)
 (F:∀base:Heap,K.In base->base.Ns mainGlobals mg->hJ P w K mg base CX k fa fd [x] sp) (l:∀(s:Shared) (u:Value),BindsTo s fd %[[u]|[]] [(x,u)])
 (O:∀H:Hp,Cs H->SqL K H a (N.map V.int)->sp [.ref a] H (λv _=>v= .bl true) λ_ _ _=>False)
 (Q:∀H e s',CX [] H c (λ_ _ _=>False) e s'->False):
 codeAny (model P w) callerA (.call (.ref fa) %[[.ref a]|[]]) (λr s'=>r= .ok (.ret (.bool true))/\OldK c.heap s'.heap/\s'.os=c.os/\AllBare s'.gens) c:=by
 have rv:=pT hi;have j:∀H,Cs H->SqL K H a (N.map V.int)->HOk P w H c.heap->(∀b,H b≠none->b=a)->(H a≠none->K.lookup a=none)->
  codeAny (model P w) callerA (.call (.ref fa) %[[.ref a]|[]]) (λr s'=>r= .ok (.ret (.bool true))/\OldK c.heap s'.heap/\s'.os=c.os/\AllBare s'.gens) c:=by
  intro H hO hS A hA hK;have f:∀{b:Addr} {o:Obj},c.heap.get? b=some o->H b=none->(xx c.heap H).get? b=some o:=λe n=>za e n
  have T:∀{b:Addr} {o:Obj} {G:Array DictEntry} {I:Nat},c.heap.get? b=some o->o.data= .dict G I->H b=none:=λ{b o G I} e d=>by
   grind
  have i:∀{b:Addr} {m:ZC},c.heap.Ns b m->(xx c.heap H).Ns b m:=λ{b m} ⟨o,G,I,e,d,r⟩=>%[o,G,I,f e (T e d),d|r]
  have B:=λb o e=>f (Y b o e) (by
   grind)
  refine codeAny_mono ((F _ B (i p)).run callerA [] c H _ _ [.ref a] _ _ hr %[rfl,%[B,i p,%[J,i g|L]|let⟨mc,h1,h2⟩:=y;%[mc,i h1|h2]],λb o e=>BS e,Nat.le_of_eq (xy _ _),trivial,λb g=>absurd (show b∈([])from g) ∅,A|.of_eq hg] (l c _) (.cons rfl .nil) (O H hO hS)) λr s' h=>?_
  cases r with
  | error e=>exact(Q H e s' h).elim
  | ok fl=>
    cases fl with
    | next=>exact False.elim h
    | brk=>exact False.elim h
    | cont=>exact False.elim h
    | ret u=>
      have%[v,H',os,C,un,E,r'|q]:=h;subst q;obtain rfl:u=Value.bool true:=r';refine%[rfl,OldK.of_keep λb o e=>?_,os|C];cases q:H b with
      | none=>exact un.keep b o e q (by intro z;exact absurd (show b∈([])from z) ∅) ∅
      | some u=>
        rcases hO b with z|⟨ob,xs,z⟩
        .rw[q]at z;cases z
        .have%[e1|_]:=A b _ z;have%[e2|_]:=E b _ (un.frzs b ob _ z);rw[e]at e1;cases e1;exact e2
 cases U:K.lookup a with
 | some o=>
   have e:=Y a o U;rw[M]at e;cases e;refine j _ (λ_=> .inl rfl) (.inr %[_,vs.toArray,_,U,rfl,rfl,rfl,by rw[Zp,hi.length];exact hl|rv]) (λb u z=>by simp_all) (λb z=>absurd rfl z) λz=>absurd rfl z
 | none=>
   refine j (λb=>if b=a then some (.frz {cls:= .type "list",data:= .seq vs.toArray} _)else none) (λb=>?_) (.inl (.inr %[{cls:= .type _,data:= .seq vs.toArray}|if_pos rfl])) (λb u z=>?_) (λb z=>?_) λ_=>U
   .by_cases g:b=a
    .exact .inr %[_,_|if_pos g]
    .exact .inl (if_neg g)
   .by_cases g:b=a
    .have z':=(if_pos g).symm.trans z;cases z';subst g;exact%[M,by rw[Z6];exact hl,vs,_,rv|M]
    simp_all
   .by_cases g:b=a
    .exact g
    .exact absurd (if_neg g) z
theorem walk_of{l:PySem.W.OpenLaw}{J:(Str->Option Value)->Heap->Prop}{E:World->Heap->Prop}{d:DefRec}{K:Params->ZA}{CX:World->CXT}{sp:World->Sp}{x:Str}
 (L:l.most=some n) (p:n<=sizeLine) (r:d.params.defaults=[]) (M:bQ k callerA)
 (N:∀(w:World) (h:Heap),E w h->(K w.params).In h)
 (F:∀(w:World) (mg:ZC) (j:Addr) (h:Heap),(K w.params).In h->h.Ns mainGlobals mg->mg d.name=some (.ref j)->
  ∃y:FuncData,(∀(s:Shared) (u:Value),BindsTo s y %[[u]|[]] [(x,u)])/\
   ∀base:Heap,(K w.params).In base->base.Ns mainGlobals mg->hJ l.prog w (K w.params) mg base (CX w) k j y [x] (sp w))
 (z:∀(w:World) (H:Hp) (a:Addr) (m:ZL),m.length<=n->Cs H->SqL (K w.params) H a (m.map V.int)->sp w [.ref a] H (λv _=>v= .bl true) λ_ _ _=>False)
 (A:∀(w:World) (H:Hp) (s:Shared) (e:Value) (s':Shared),CX w [] H s (λ_ _ _=>False) e s'->False):
 PySem.W.WalkO q B J E l.row.toRowW d [] (λf vs=>PySem.call f vs):=by
 refine Att.attach_call L r λw s₀ g mg mb j o pm cd O a vs m G Y ho hd Q C i c b T=>?_
 have I:=N w _ Y;have%[y,U|hF]:=F w mg j _ I G.T.g C;exact law_call I G.T.g G.T.b G.T.builtins G.T.nolimit T i c (Yi b p) M hF U (λH hO hS=>z w H a m b hO hS) λH e s'=>A w H g e s'
noncomputable def iL(s:Stmt)(j:Nat):Stmt:=match s with
 | .ClassDef _ _ _ a _ _ _ _ _ _ _=>a.getD j (.Pass %[0,0,0|0])
 | _=> .Pass %[0,0,0|0]
noncomputable def cK(s:Stmt):Arguments:=match s with
 | .FunctionDef _ a _ _ _ _ _ _ _ _=>a
 | _=>{posonlyargs:=[],args:=[],vararg:=none,kwonlyargs:=[],kw_defaults:=[],kwarg:=none,defaults:=[]}
noncomputable def bO(s:Stmt):List Stmt:=match s with
 | .FunctionDef _ _ b _ _ _ _ _ _ _=>b
 | _=>[]
noncomputable def ah(s:Stmt):Scope:=match s with
 | .FunctionDef _ _ _ _ _ _ a _ _ _=>a
 | _=>{kind:= .function,names:=[],isGenerator:=false,isCoroutine:=false}
noncomputable abbrev CX0:CXT:=λ_ _ _ _ _ _=>False
noncomputable abbrev E0:XK:=λ_ _ _=>False
theorem zY{X:Cx}:jf CX0 X E0:=λ_ _ _ _ _ _ _ h=>h.elim
structure Fun (K:ZA) (x qual:Str) (st:Stmt) (f:Addr) (fd:FuncData):Prop where
 ex:∃oc od kV doc pm an cdv ct osl,
  fd=fnOf x qual (cK st) (bO st) (ah st) .none kV doc pm an cdv ct/\K.lookup f=some %[oc,od,.func fd|osl]/\codeIn K cdv qual=true
 kp:keepIn K (.ref f)=true
section
variable{P:Program}{w:World}{K:ZA}{mg:ZC}{base:Heap}
theorem Fun.ok{x a:Str}{st:Stmt}{f:Addr}{g:FuncData}{N ps:ZB}{k:Nat}{sp:Sp}(F:Fun K x a st f g)(S:ax N ps (ah st))(len:∀vs H Q E,sp vs H Q E->vs.length=ps.length)
 (c:∀b (A:Around) (outer:List Env) s H (vs:List V) Q E,bQ k (A.deeper (envOfC a (ah st) ⇑s f b))->sp vs H Q E->
  ∃t,PSs (oV CX0 P w K mg base N a (ah st) f b A outer s H E).nox (bO st) t/\t {nx:=λ_ i=>Q .non i,rt:=Q} (start N vs) H):hJ P w K mg base CX0 (k+1) f g ps sp:=by
 have%[n,od,kV,j,o,p,b,ct,l,rfl,lk|d]:=F.ex;refine Gq lk d S len λA outer s H vs Q E m e=>?_
 have%[t,h|q]:=c b A outer s H vs Q E m e;exact%[t,h.nox|q]
theorem Fun.binds{st:Stmt}(F:Fun K x c st f g)
 (h:∀(kV a d:Value) (e:ZI) (b ct:Value) (us:ZF),us.length=ps.length->bindArgs (fnOf x c (cK st) (bO st) (ah st) .none kV a d e b ct) %[us|[]]=pure (ps.zip us)):di K g ps []:=by
 have%[l,od,kV,a,d,e,b,ct,i,rfl,lk|j]:=F.ex;exact .all (h kV a d e b ct)
theorem dz{st:Stmt}{kV d e b ct:Value}(l:K.lookup f=some %[i,od,.func (fnOf x a (cK st) (bO st) (ah st) .none kV d e h b ct)|g])
 (c:codeIn K b a=true) (k:keepIn K (.ref f)=true):Fun K x a st f (fnOf x a (cK st) (bO st) (ah st) .none kV d e h b ct):=%[%[i,od,kV,d,e,h,b,ct,g,rfl,l|c]|k]
end
section
variable{X:Cx}
theorem pv(i:Nat)(b:X.N[i]? =some x)(c:Vis X.env.scope x)(d:(x==("__debug__":Str))=false)
 (a:(x==("__classdict__":Str))=false):PE X (.Name x pos) (lV i):=zc b c d a
end
theorem sU{A B:Prop}(h:B):if false=true then A else B:=by
 simp_all
theorem bH{c A B:Prop}[Decidable c](a:c->A)(b: ¬ c->B):if c then A else B:=by
 simp_all
def af(H a:Hp):Prop:=∀b o,H b=some o->a b=some o
theorem af.refl(H:Hp):af H H:=λ_ _ h=>h
theorem af.trans{H d e:Hp}(a:af H d)(b:af d e):af H e:=λc o h=>b c o (a c o h)
theorem af.free{H a:Hp}(e:af H a){l:Addr}(h:a l=Option.none):H l=Option.none:=by
 cases q:H l with
 | none=>rfl
 | some o=>
   rw[e l o q]at h;cases h
theorem af.seq{K:ZA}(e:af H b)(h:SqL K H a xs):SqL K b a xs:=by
 rcases h with(h|⟨o,h⟩)|h
 .exact .inl (.inl (e _ _ h))
 .exact .inl (.inr %[o|e _ _ h])
 .exact .inr h
section
variable{X:Cx}
end
section
variable{κ:Type}[DecidableEq κ]
theorem Ct{a:List (κ×V)}(h:cA a k=some v):k∈a.map (·.1):=by
 have q:(a.any λb=>decide (b.1=k))=true:=by
  rw[h9,h]
  all_goals rfl
 simp_all
theorem mz:∀{l:List κ} {k:κ},l.Nodup-> ¬ k∈l->(l++[k]).Nodup
 |[],k,_,_=>by simp
 | a::r,k,h,b=>by
   have%[c|d]:=nodup_cons.mp h;refine nodup_cons.mpr %[λm=>?_|mz d λm=>b (mem_cons.mpr (Or.inr m))];rcases Xq m with q|q
   .exact c q
   .exact b (mem_cons.mpr (Or.inl (Xr q).symm))
end
noncomputable def mV(env:Env):List (Str×NameKind)->List (Str×Addr)->List (Str×Addr)
 |[],acc=>acc
 |(n,k)::r,acc=>mV env r (if k= .free then(n,(env.cells.lookup n).getD 0)::acc else acc)
theorem mW:∀(names:List (Str×NameKind)) (acc:List (Str×Addr)),(∀y∈names,y.2= .free->∃c,env.cells.lookup y.1=some c)->
 (forIn names acc λx r=>match x with
  |(name,kind)=>if(kind==NameKind.free)=true then do let a<-cellOf env name;pure (ForInStep.yield ((name,a)::r))else pure (ForInStep.yield r):Sem (List (Str×Addr)))=pure (mV env names acc)
 |[],acc,_=>rfl
 |(n,k)::r,acc,h=>by
  have d:=λacc=>mW r acc λy f=>h y (Zk _ f)
  rw[forIn_cons];by_cases b:k= .free
  .subst b;have%[c|e]:=h _ Zm rfl;have g:cellOf env n=pure c:=by unfold cellOf;rw[e]
   simp only[beq_self_eq_true,if_true,g,pure_bind];rw[d];show _=pure (mV env r _);rw[if_pos rfl,e]
   all_goals rfl
  .have i:(k==NameKind.free)=false:=by simpa using b
   simp only[i,Y1,if_false,pure_bind];rw[d];show _=pure (mV env r _);rw[if_neg b]
theorem Cu(h:∀y∈a.names,y.2= .free->∃c,env.cells.lookup y.1=some c):closureFor a env=pure (mV env a.names []):=by
 unfold closureFor;simp only[bind_pure];exact(mW a.names [] h)
theorem sV:∀(names:List (Str×NameKind)) (acc:List (Str×Addr)),(∀y∈names,y.2= .free->∃c,env.cells.lookup y.1=some c)->
 (∀y d,acc.lookup y=some d->env.cells.lookup y=some d)->(mV env names acc).lookup x=some c->env.cells.lookup x=some c
 |[],acc,_,a,e=>a x c e
 |(n,k)::r,acc,h,a,e=>by
  refine sV r _ (λy b=>h y (Zk _ b)) (λy d q=>?_) e;by_cases f:k= .free
  .rw[if_pos f,Yo]at q;have%[g|i]:=h _ Zm f;cases b:y==n with
   | true=>
     simp_all
   | false=>rw[b]at q;exact a y d q
  .rw[if_neg f]at q;exact a y d q
theorem mX:∀(names:List (Str×NameKind)) (acc:List (Str×Addr)),(∃c,acc.lookup x=some c)->∃c,(mV env names acc).lookup x=some c
 |[],_,h=>h
 |(n,k)::r,acc,h=>by
  refine mX r _ ?_;by_cases a:k= .free
  .rw[if_pos a,Yo];cases b:x==n with
   | true=>exact%[_|rfl]
   | false=>exact h
  .rw[if_neg a];exact h
theorem mY:∀(names:List (Str×NameKind)) (acc:List (Str×Addr)),(x,NameKind.free)∈names->∃c,(mV env names acc).lookup x=some c
 |[],_,h=>by simp at h
 |(n,k)::r,acc,h=>by
  rcases mem_cons.mp h with e|h
  .refine mX r _ ?_
   simp_all
  .exact mY r _ h
noncomputable def bS(X:Cx)(a:Scope)(d:ZB)(b:Shared)(c:Hp)(e:List Addr):Cx:=
 {X with
  N:=d
  s₀:=b
  H₀:=c
  env:=compEnvC a (cellsFrom (⇑b+1) a.names (mV X.env a.names [])) ⇑b X.env
  outer:=X.stack
  stack:=X.stack
  ex:=e
  fn:=λx=>decide (a.names.lookup x=some .cell)
  pn:=[]
  xe:=λ_ _=>False}
structure aC (X:Cx) (scope:Scope) (N':ZB) (cap:List (Nat×Nat)):Prop where
 kind:scope.kind= .function
 cell:∀y∈scope.names,y.2= .cell->scope.names.lookup y.1=some .cell
 loc:∀y∈scope.names,y.2= .local->scope.names.lookup y.1=some .local
 free:∀y∈scope.names,y.2= .free->X.env.kindOf y.1=some .cell\/X.env.kindOf y.1=some .free
 capt:∀p∈cap,∃x,N'[p.1]? =some x/\X.N[p.2]? =some x/\scope.names.lookup x=some .free
noncomputable def pU(n:Nat)(a:List (Nat×Nat))(b:St):St:=(List.range n).map λj=>(a.lookup j).bind λi=>(b[i]?).join
theorem lD:∀{l:List _} {j i:Nat},l.lookup j=some i->(j,i)∈l
 |[],_,_,h=>by simp at h
 |(a,b)::r,j,i,h=>by
  rw[Yo]at h;cases c:j==a with
  | true=>
    simp_all
  | false=>rw[c]at h;exact Zk _ (lD h)
theorem lE{env:Env}{names:List (Str×NameKind)}{x:Str}{k:NameKind}(h:(names.map λ(n,k)=>if(k==NameKind.free&&env.scope.kind== .function&&env.kindOf n==some .cell)then(n,NameKind.cell)else(n,k)).lookup x=some k)
 (a:k= .cell\/k= .free):(x,NameKind.free)∈names\/(x,NameKind.cell)∈names:=by
 have m:=PySem.mem_of_lookup h
 grind
theorem eG:∀names n acc,cellsFrom n names acc=cellsFrom n names [] ++acc
 |[],_,_=>rfl
 |(x,k)::r,n,acc=>by
  unfold cellsFrom
  split
  .rw[eG r _ _,eG r _ [(x,n)],Ze];rfl
  .exact eG r n acc
theorem kx:∀{names:List (Str×NameKind)} {n:Nat},(x,c)∈cellsFrom n names []->(x,NameKind.cell)∈names
 |[],_,h=>nomatch h
 |(y,k)::r,n,h=>by
  unfold cellsFrom at h
  split at h
  .rw[eG]at h;rcases Xq h with q|q
   .exact Zk _ (kx q)
   grind
  .exact Zk _ (kx h)
theorem lF(h:(cellsFrom n names acc).lookup x=some c):(x,c)∈cellsFrom n names []\/((cellsFrom n names []).lookup x=none/\acc.lookup x=some c):=by
 rw[eG,List.lookup_append]at h;cases e:(cellsFrom n names []).lookup x with
 | none=>rw[e]at h;exact .inr %[rfl|h]
 | some d=>
   rw[e]at h;have:=by simpa using h
   exact this▸ .inl (PySem.mem_of_lookup e)
theorem jA{env:Env}:∀{names:List (Str×NameKind)} {x:Str},names.lookup x=some .free->
 (names.map λ(n,k)=>if(k==NameKind.free&&env.scope.kind== .function&&env.kindOf n==some .cell)then(n,NameKind.cell)else(n,k)).lookup x=some .cell\/
 (names.map λ(n,k)=>if(k==NameKind.free&&env.scope.kind== .function&&env.kindOf n==some .cell)then(n,NameKind.cell)else(n,k)).lookup x=some .free
 |[],_,h=>by simp at h
 |(n,k)::r,x,h=>by
  have c:= @jA env r x;simp only[Ys];cases a:x==n with
  | true=>
    rw[Yo,a]at h;have d:=Za h;subst d;by_cases b:((NameKind.free==NameKind.free)&&env.scope.kind== .function&&env.kindOf n==some .cell)=true
    .rw[if_pos b,Yo,a];exact .inl rfl
    .rw[if_neg b,Yo,a];exact .inr rfl
  | false=>
    rw[Yo,a]at h;by_cases b:(k==NameKind.free&&env.scope.kind== .function&&env.kindOf n==some .cell)=true
    .rw[if_pos b,Yo,a];exact(c h)
    .rw[if_neg b,Yo,a];exact(c h)
section
variable{X:Cx}{pins:ZE}{σ:St}{H:Hp}{s:Shared}
theorem Inv.kindL(I:Inv X pins σ H s)(h:X.env.kindOf x=some .cell\/X.env.kindOf x=some .free):∃c,X.env.cells.lookup x=some c:=I.ok.has x h
theorem Inv.block{a:Scope}{E:ZB}{fp:List Addr}{f:Heap}{tk:Nat}(S:aC X a E n)(I:Inv X pins σ H s)(Q:∀b∈fp,lW X pins H b)(L:∀b∈fp,b<⇑s)
 (hn:f.Ns ⇑s (λ_=>none)) (B:∀b u,s.heap.get? b=some u->f.get? b=some u) (nc:CellsOk f (⇑s+1) (cellsFrom (⇑s+1) a.names [])):
 Inv (bS X a E s H fp) [] (pU E.length n σ) H {s with heap:=f,toks:=tk}:=by
 have h:∀x c,(mV X.env a.names []).lookup x=some c->X.env.cells.lookup x=some c:=λx c e=>sV a.names [] (λy hy hk=>I.kindL (S.free y hy hk)) (λ_ _ q=>by simp at q) e
 have o:∀x c,(cellsFrom (⇑s+1) a.names (mV X.env a.names [])).lookup x=some c->((x,c)∈cellsFrom (⇑s+1) a.names []/\f.IsCell c none/\⇑s+1<=c)\/(X.env.cells.lookup x=some c/\c<⇑s):=λx c e=>by
  rcases lF e with q|⟨_,q⟩
  .exact .inl %[q|nc.empty x c q]
  .have q':=h x c q;have%[v,J,M|_]:=I.cell x c q';exact .inr %[q'|Zv M]
 refine%[%[I.ok.mod,S.kind,I.ok.glob,I.ok.blt,Zi _,λx y c h1 h2=>?_,λx hx=>?_,λx c hq e=>?_,I.ok.hd,I.ok.frames,.inl rfl,λb g=>%[?_|λx c e=>?_],I.bs,
  Yi I.ok.bsz I.sz,λb u e g=>?_,λb g T=>?_,I.stack|I.stkFree],rfl,I.bare,Un.kept B,%[_,hn|λj x v e1 e2 e3=>?_],λx c e=>?_,I.hok.fresh (Zi _),λx c e=>?_,λp hp=>?_,I.hok.kept B|?_]
 .rcases o x c h1 with⟨q1,_,q2⟩|⟨q1,q2⟩<;> rcases o y c h2 with⟨r1,_,r2⟩|⟨r1,r2⟩
  .exact name_of_addr nc.apart q1 r1
  .exact absurd r2 (Nat.not_lt_of_le (Yi (Yh _) q2))
  .exact absurd q2 (Nat.not_lt_of_le (Yi (Yh _) r2))
  .exact I.ok.inj x y c q1 r1
 .have:(x,NameKind.free)∈a.names\/(x,NameKind.cell)∈a.names:=by
   rcases hx with q|q
   .exact lE q (.inl rfl)
   .exact lE q (.inr rfl)
  refine isSome_iff_exists.mp (cellsFrom_some a.names _ _ ?_);rcases this with q|q
  .exact .inr (isSome_iff_exists.mpr (mY a.names [] q))
  .exact .inl (S.cell _ q rfl)
 .rcases lF e with q|⟨q,_⟩
  .have:=(nc.empty x c q).2;show ⇑s<=c
   lia
  .have:=cellsFrom_some a.names (⇑s+1) [] (.inl (Zo hq));rw[q]at this;cases this
 .exact Zt (L b g)
 .rcases o x c e with⟨_,_,q⟩|⟨q,_⟩
  .exact λz=>absurd (L b g) (Nat.not_lt_of_le (Yi (Yh _) (z▸q)))
  .exact(Q b g).2.2.2.2.1 x c q
 .rcases(Q b g).2.2.2.1 with z|z
  .exact I.ok.noex b u e z
  .exact absurd (Zg (Zv e) (Yi I.ok.bsz z)) (Xm _)
 .rcases mem_cons.mp (I.stkSub b T)with z|z
  .exact(Q b g).2.1 z
  .exact(Q b g).2.2.1 z
 ·
  have hj:∃i,n.lookup j=some i/\σ[i]? =some (some v):=by
   have A:((List.range E.length).map _)[j]? =some _:=e2;rw[Zl]at A;cases hr:(List.range E.length)[j]? with
   | none=>rw[hr]at A;cases A
   | some j'=>
     rw[hr]at A;have ab:j'=j:=by
      have:=Xp hr;have%[h1|h2]:=this;simpa using h2.symm
     subst ab;have C:((n.lookup j').bind _)=some v:=Za A;cases U:n.lookup j' with
     | none=>rw[U]at C;cases C
     | some i=>
       rw[U]at C;refine%[i,rfl|?_];have Y:(σ[i]?).join=some v:=C;cases T:σ[i]? with
       | none=>rw[T]at Y;cases Y
       | some w=>rw[T]at Y;have:w=some v:=Y;rw[this]
  have%[i,U|hi]:=hj;have%[y,n1,n2|n3]:=S.capt _ (lD U);have ac:=Za (n1.symm.trans e1);subst ac;have N:=S.free _ (PySem.mem_of_lookup n3) rfl;have%[m,hm|hl]:=I.loc;have%[u,r|l]:=hl i y v n2 hi (by rcases N with q|q;exact .inr (.inl q);exact .inr (.inr q));refine%[u,r|.inr %[?_|?_]]
  .exact jA n3
  .rcases l with⟨k,_⟩|⟨_,c,G,hv⟩
   .rcases N with q|q
    .rw[k]at q;cases q
    .rw[k]at q;cases q
   .have%[c'|O]:=mY a.names [] (PySem.mem_of_lookup n3);have:=h y c' O;rw[G]at this;have e5:=Za this;subst e5;have%[J,M|hd]:=hv;refine%[c,?_,J,B c J M|hd];show(cellsFrom _ _ _).lookup y=some c;rw[eG,List.lookup_append];cases e6:(cellsFrom _ a.names []).lookup y with
    | none=>simpa using O
    | some d=>
      have:=S.cell _ (kx (PySem.mem_of_lookup e6)) rfl;rw[n3]at this;cases this
 .rcases o x c e with⟨_,q,_⟩|⟨q,_⟩
  .exact%[none|q]
  .have%[v,J,M|hd]:=I.cell x c q;exact%[v,J,B c J M|hd]
 .rcases o x c e with⟨_,_,q⟩|⟨q,_⟩
  .exact I.hok.fresh ⋯
  .exact I.freeC x c q
 .exact absurd (show p∈([])from hp) ∅
 .show(pU E.length n σ).length=E.length;unfold pU;rw[Z6,Yl]
end
def PTs(X:Cx)(a:List Expr)(t:TT):Prop:=
 ∀pins s (b:St) H Q,Inv X pins b H s->t b H Q->
  (wpAny (model X.prog X.w) X.A) (forIn a true λc r=>if r=true then do let ok<-isTrue c X.env (eval c X.env);pure (ForInStep.yield ok)else pure (ForInStep.yield r)) (TP X pins b Q) X.xe s
def zZ:TT:=λ_ H Q=>Q true H
theorem Cv{X:Cx}:PTs X [] zZ:=λ_ _ _ H _ I h=>wpAny_tests_nil %[H,I|h]
theorem Cw{X:Cx}(h:PT X c t):PTs X [c] t:=λpins s a H Q I q=>wpAny_tests_one (h pins s a H Q I q)
def pV(q:TI)(n:Nat)(f:List (Nat×Nat))(g:TG)(r:TT)(s:TE):TE:=λh H Q=>q h H λJ j=>∀D,j D=none->∃W:Nat->Nat->List V->St->Hp->Prop,
 (∃m,W 0 m [] (pU n f h) (upd j D (.lst [])))/\∀i m ys c d,W i m ys c d->(J.stop i d/\Q (.ref D) d)\/
  (J.go i d/\∀x l,J.yld i d x l->g x c l λa u=>r a u λb o=>if b=true then s a o λy p=>∃zs e,p D=some (.lst zs)/\zs.length<sizeLine/\e<m/\W (i+1) e (ys++[y]) a (upd p D (.lst (zs++[y])))
   else∃e,e<m/\W (i+1) e ys a o)
theorem Cy{code:Value}
 (j:∀h',h'.Ns ⇑s (λ_=>none)->(∀b u,s.heap.get? b=some u->h'.get? b=some u)->CellsOk h' (⇑s+1) (cellsFrom (⇑s+1) a.names [])->
  Q (newEnv a ⇑s d (cellsFrom (⇑s+1) a.names f) g h code (some env) c) {s with heap:=h'}):wpAny M A (newFunctionEnv a d f [] g h code (some env) c) Q E s:=by
 refine Z2 (wpAny_alloc (Z2 (wpAny_layCells _ (λname kind i=>by lia) _ _ _ _ ?_)));have ok:=cellsFrom_ok a.names (s.heap.push {cls:= .type "dict",data:= .dict #[]}) (⇑s+1) [] %[λ_ _ l=>(nomatch l)|List.Pairwise.nil] ∅;rw[Zq]at ok;rw[Zq ..];exact Z2 (Z3 (Z3 (j _ ((Heap.Ns.new s.heap _).keeps (pushCells_keeps _ _)) (λb u e=>pushCells_keeps _ _ b u (Z7 _ e)) ok)))
theorem pW{X:Cx}{a:Scope}(S:aC X a N' a1)(hc:X.calm=true)(hi:PI X tg iter wi)
 (hg:∀L M A,PG (bS X a N' L M A) tg g) (ht:∀L M A,PTs (bS X a N' L M A) a2 tc) (he:∀L M A,PE (bS X a N' L M A) a3 te)
 (hs:∀x,foldedSetIterable iter X.env x=pure x) (I:Inv X pins σ H s) (h:pV wi N'.length a1 g tc te σ H Q)
 (a4:∀(D C:Addr) (O:Hp) (s6:Shared) (fl:Flow) (m:ZC),s6.heap.Ns C m->lW X pins O C->(∀h',SameBut C s6.heap h'->Inv X pins σ O {s6 with heap:=h'})->Q (.ref D) O->compPost (model X.prog X.w) X.A X.xe use QQ (.ref D) C (.ok fl) s6):
 (wpAny (model X.prog X.w) X.A) (comprehension (.ListComp a3 [%[tg,iter,a2|0]] a pos) a X.env cb (newList []) false (eval iter X.env) use) QQ X.xe s:=by
 refine wpAny_comprehension_free (use:=use) rfl hs (Cu (λy hy hk=>I.kindL (S.free y hy hk))) S.kind S.loc (thn (hi pins s σ H _ I h) λv s1 h1=>thn h1 λcd l h2=>?_);have%[it,A,tn,J,H2,e,I2,T,a5,f2|R]:=h2;subst e;refine wpAny_newObj_type (Cy λU Y N ab=>?_);dsimp only at Y N ab ⊢;have I3:Inv X pins σ (upd H2 ⇑l (.lst [])) {l with heap:=l.heap.push {cls:= .type "list",data:= .seq ([]:ZF).toArray}}:=I2.lnew (its:=[]) (t':=l.toks) .nil (Xh _);have hD:H2 ⇑l=none:=I2.fresh;have an:∀b∈A,b<⇑l:=λb j=>by have%[o,ho|_]:=T.obj 0 _ a5 b j;exact Zv ho
 generalize aR:({l with heap:=l.heap.push {cls:= .type "list",data:= .seq ([]:ZF).toArray}}:Shared)=B at I3
 have G:B.heap=l.heap.push {cls:= .type "list",data:= .seq ([]:ZF).toArray}:=by rw[<-aR]
 have a6:⇑B=⇑l+1:=by rw[G,Zq]
 have f3:∀b∈A,lW X pins (upd H2 ⇑l (.lst [])) b:=λb j=>%[(ak (Zt (an b j)))▸(f2 b j).1|(f2 b j).2]
 have%[W,%[m0|w0]|a7]:=R _ hD;have ag:∀b u,B.heap.get? b=some u->U.get? b=some u:=G▸N;have I4:Inv (bS X a N' B (upd H2 ⇑l (.lst [])) A) [] (pU N'.length a1 σ) (upd H2 ⇑l (.lst [])) {B with heap:=U,toks:=B.toks}:=I3.block S f3 (λb j=>a6▸Yp (an b j)) (G▸Y) ag (G▸ab);have bb:tn 0 U:=T.keep _ _ _ a5 λb j o e=>ag b o (G▸Z7 _ e)
 have cl:(bS X a N' B (upd H2 ⇑l (.lst [])) A).env=compEnvC a _ ⇑B X.env:=rfl;have ai:∀{H':Hp},(∀b∈A,H' b=none)->∀b∈A,lW _ [] H' b:=λhn b j=>
  %[hn b j,(I4.ok.exf b j).1,I4.ok.exfs b j,.inl j,(I4.ok.exf b j).2|λp hp=>absurd (show p∈([]:ZE)from hp) ∅]
 have aq:codeAny (model X.prog X.w) X.A (.compLoop (.ListComp a3 [%[tg,iter,a2|0]] a pos) 0 (.ref it) (.ref ⇑l) (bS X a N' B (upd H2 ⇑l (.lst [])) A).env)
  (compPost (model X.prog X.w) X.A X.xe use QQ (.ref ⇑l) ⇑B) {B with heap:=U,toks:=B.toks}:=by
  refine codeAny_loop rfl (λn s'=>∃i ys bc H',Inv _ [] bc H' s'/\tn i s'.heap/\(∀b∈A,H' b=none)/\W i n ys bc H') ?_ m0 %[0,[],_,_,I4,bb,λb j=>(f3 b j).1|w0];intro n s5 %[i,ys,al,O,I5,bf,bl|w5];show wpAny _ X.A _ _ _ s5;refine wpAny_noted ?_;rw[compTurn_list];refine Z2 (wpAny_standAt (Z2 ?_));rcases a7 i n ys al O w5 with⟨stop,q⟩|⟨go,step⟩
  .refine thn (T.done (bS X a N' B (upd H2 ⇑l (.lst [])) A) rfl rfl rfl hc i [] s5 al O _ I5 (ai bl) bf stop) λr s6 ⟨hr,I6⟩=>?_
   subst hr;refine Z3 ?_;have%[m6,b0|_]:=I6.loc;refine a4 ⇑l ⇑B O s6 _ m6 b0 (I2.fpOk (a6▸Yh _) I6.free) (λh' sb=>?_) q;have u6:Un (frs X.stack) A (upd H2 ⇑l (.lst [])) O B.heap s6.heap:=I6.base;have aU:∀b u,B.heap.get? b=some u->b≠⇑B:=λb u e=>Zt (Zv e)
   have u7:Un (frs X.stack) A (upd H2 ⇑l (.lst [])) O B.heap h':=%[λb u e n j hx=>(sb.2 b (aU b u e)).trans (u6.keep b u e n j hx),λb u e n j hx=>by
    have%[sl|q]:=u6.slot b u e n j hx;exact%[sl|(sb.2 b (aU b u e)).trans q],u6.free,λb u e hx=>by
    have%[o'|q]:=u6.there b u e hx;exact%[o'|(sb.2 b (aU b u e)).trans q],u6.tups,u6.frzs|u6.tbls]
   have b1:HOk X.prog X.w O h':=λb u e=>by
    have bm:∀c w,O c=some w->c≠⇑B:=λc w q z=>by
     have:O ⇑B=none:=I6.free;rw[z,this]at q;cases q
    refine(I6.hok b u e).stay (λc w b2 q=>(sb.2 c ?_).trans q) (λ_ q=>q) λ_ _ q=>q
    rcases b2 with z|z
    .exact z▸bm b u e
    .exact bm c _ z
   exact I2.call' (s':={s6 with heap:=h'}) (ch:=A) (by show s6.os=l.os;rw[I6.os,<-aR];rfl) ((Un.laid (λb u e=>G▸Z7 _ e) (Zi _) hD).trans u7) b1 I6.bare λb j=>%[(f2 b j).2.2.2.1,(f2 b j).2.1,(f2 b j).2.2.2.2.1|(f2 b j).2.2.2.2.2]
  .refine thn (T.item (bS X a N' B (upd H2 ⇑l (.lst [])) A) rfl rfl rfl hc i [] s5 al O _ I5 (ai bl) bf go) λr s6 ⟨u,hr,h6⟩=>?_
   subst hr;refine Z2 (thn h6 λ_ s7 ⟨x,H7,I7,r7,y7,a0,b3⟩=>?_);have ac:∀{α:Type} {t:Sem α} {Q1:α->Shared->Prop} {E2:ZD} {s':Shared},(wpAny (model X.prog X.w) X.A) t Q1 (λ_ _=>False) s'->(wpAny (model X.prog X.w) X.A) t Q1 E2 s':=λh=>wpAny_mono h (λ_ _ q=>q) λ_ _ f=>f.elim
   have as:∀{E:St} {H8:Hp} {s8:Shared},Inv (bS X a N' B (upd H2 ⇑l (.lst [])) A) ([] ++qS A s7.heap) E H8 s8->
    Inv _ [] E H8 s8/\tn (i+1) s8.heap/\∀b∈A,H8 b=none:=λ{E H8 s8} I8=>by
    refine%[I8.unpinned,T.keep _ _ _ a0 λb j o e=>(I8.pin (b,o) (Yw _ (Yw _ (eN j e)))).1|λb j=>?_];have%[o,e|d]:=T.obj _ _ a0 b j;exact(I8.pin (b,o) (Yw _ (Yw _ (eN j e)))).2.1
   refine Z2 (ac (thn (hg B _ A _ s7 al H7 x u _ (I7.pinned (ai b3) (T.obj _ _ a0)) r7 (step x H7 y7)) λ_ s8 ⟨E,H8,I8,q8⟩=>Z2 (ac (thT (ht B _ A _ s8 E H8 _ I8 q8) λb s9 H9 I9 q9=>?_))));cases b with
   | false=>
     have%[m',hm|w9]:=(q9)
     have%[J1,J2|J3]:=as I9;exact Z3 %[rfl,m',hm,i+1,ys,E,H9,J1,J2,J3|w9]
   | true=>
     have q9:=(q9:te E H9 λy O=>∃zs m',O ⇑l=some (.lst zs)/\zs.length<sizeLine/\m'<n/\W (i+1) m' (ys++[y]) E _)
     refine Z2 (Z2 (ac (thP (he B _ A _ s9 E H9 _ I9 q9) λu2 b4 y bt b5 b6 ⟨zs,m',hz,hl,hm,b7⟩=>Z2 (ac (thP (pQ _ b4 E bt (.ref ⇑l) [y] (.ref ⇑l) [u2] (λv H'=>v= .non/\H'=upd bt ⇑l (.lst (zs++[y]))) b5 rfl (.cons b6 .nil) %[_,rfl,_,hz,hl,rfl|rfl]) λu3 co v3 cs b9 ct ⟨cv,ca⟩=>?_)))));subst ca;have%[J1,J2|J3]:=as b9;exact Z3 (Z3 %[rfl,m',hm,i+1,ys++[y],E,_,J1,J2,J3|b7])
 subst aR;exact(codeAny_compStart_list aq (T.self _ 0 _ _ _ bb aq))
theorem Cz{X:Cx}(S:aC X a e f)(n:X.calm=true)(hi:PI X l iter o)
 (p:∀b c d,PG (bS X a e b c d) l g) (r:∀b c d,PTs (bS X a e b c d) i u) (v:∀b c d,PE (bS X a e b c d) j w)
 (y:∀x,foldedSetIterable iter X.env x=pure x):
 PE X (.ListComp j [%[l,iter,i|0]] a pos) (pV o e.length f g u w):=by
 intro pins s E H Q I h;exact pW S n hi p r v y I h λD C z G J m A _ k q=>%[m,A|λh' B=>%[.ref D,z,k h' B,rfl|q]]
noncomputable def Its(z:Str):It:=⟨λi _=>i<z.cps.size,λi H x a=>a=H/\∃c,z.cps[i]? =some c/\x= .str ⟨#[c]⟩,λi _=>z.cps.size<=i⟩
theorem vp{P:Program}{K:ZA}(it:Addr)(z:Str)(t:Tok):qR P w K tg (Its z) [it] it (λi h=>h.IsStrIter it "str_ascii_iterator" z t i) where
 mem:=by simp
 obj:=λi h st b hb=>by
  have e:=by simpa using hb
  subst e;have%[o,e,c|d]:=st;exact%[o,e|λv z=>by lia]
 keep:=λi h h' st k=>by
  have%[o,e|r]:=st;exact%[o,k it ∅ o e|r]
 item:=by
  intro X hP hw hK hc i pins s σ H E I hf st hg;have hlt:i<z.cps.size:=hg;have%[f0,f1,f2,f3,f4|f5]:=hf it ∅;refine wpAny_pyNext_ascii_item st (c:=z.cps[i]) ∅ λh' st' sb=>?_
  have%[o,e,c|d]:=id st';exact%[_,rfl|sJ e c d (by decide) %[.str _,H,(I.turned (λb o hb e=>(sb.2 b hb).trans e) f0 f1 f3 f4 f5),%[_|rfl],%[rfl,_,by simp|rfl],st'|λb hb=>(hf b hb).1]]
 done:=by
  intro X hP hw hK hc i pins s σ H E I hf st hg;have hle:z.cps.size<=i:=hg;have%[f0,f1,f2,f3,f4|f5]:=hf it ∅;exact wpAny_pyNext_ascii_end (I.ok.hd hc) st (by simp[hle]) λh' eb=>%[rfl|I.turned (λb o hb e=>eb b o hb e) f0 f1 f3 f4 f5]
 self:=λ_ _ _ _ _ st h=>wpAny_pyIter_striter_ascii st h
theorem xU{P:Program}{K:ZA}(it:Addr)(z:Str)(t:Tok):qR P w K tg (Its z) [it] it (λi h=>h.IsStrIter it "str_iterator" z t i) where
 mem:=by simp
 obj:=λi h st b hb=>by
  have e:=by simpa using hb
  subst e;have%[o,e,c|d]:=st;exact%[o,e|λv z=>by rw[d]at z;cases z]
 keep:=λi h h' st k=>by
  have%[o,e|r]:=st;exact%[o,k it ∅ o e|r]
 item:=by
  intro X hP hw hK hc i pins s σ H E I hf st hg;have hlt:i<z.cps.size:=hg;have%[f0,f1,f2,f3,f4|f5]:=hf it ∅;refine wpAny_pyNext_wide_item st (c:=z.cps[i]) ∅ λh' st' sb=>?_
  have%[o,e,c|d]:=id st';exact%[_,rfl|sJ e c d (by decide) %[.str _,H,(I.turned (λb o hb e=>(sb.2 b hb).trans e) f0 f1 f3 f4 f5),%[_|rfl],%[rfl,_,by simp|rfl],st'|λb hb=>(hf b hb).1]]
 done:=by
  intro X hP hw hK hc i pins s σ H E I hf st hg;have hle:z.cps.size<=i:=hg;have%[f0,f1,f2,f3,f4|f5]:=hf it ∅;exact wpAny_pyNext_wide_end (I.ok.hd hc) st (by simp[hle]) λh' eb=>%[rfl|I.turned (λb o hb e=>eb b o hb e) f0 f1 f3 f4 f5]
 self:=λ_ _ _ _ _ st h=>wpAny_pyIter_striter_wide st h
def CK(D:Addr)(n i:Nat)(Pv:Nat->List V->St->Hp->Prop)(ys:List V)(b:St)(y:V)(H:Hp):Prop:=
 ∃zs a,H D=some (.lst zs)/\zs.length<sizeLine/\a<n-i/\(a=n-(i+1)/\i+1<=n/\Pv (i+1) (ys++[y]) b (upd H D (.lst (zs++[y]))))
def CN(n i:Nat)(Pv:Nat->List V->St->Hp->Prop)(ys:List V)(b:St)(H:Hp):Prop:=∃a,a<n-i/\(a=n-(i+1)/\i+1<=n/\Pv (i+1) ys b H)
theorem CK.mk{Pv:Nat->List V->St->Hp->Prop}(hi:i<n)(a:H D=some (.lst zs))(b:zs.length<sizeLine)(p:Pv (i+1) (ys++[y]) c (upd H D (.lst (zs++[y])))):CK D n i Pv ys c y H:=
 %[zs,n-(i+1),a,b,⋯,rfl,hi|p]
theorem CN.mk{Pv:Nat->List V->St->Hp->Prop}(hi:i<n)(p:Pv (i+1) ys a H):CN n i Pv ys a H:=%[n-(i+1),⋯,rfl,hi|p]
theorem bF{J:It}{g:TG}{v:TT}{w:TE}{z:Hp->Prop}(Pv:Nat->List V->St->Hp->Prop)(A:Pv 0 [] c H)(s:∀i ys c H,i<n->Pv i ys c H->J.go i H)(d:∀ys c H,Pv n ys c H->J.stop n H)
 (B:∀i ys c H,i<n->Pv i ys c H->∀x f,J.yld i H x f->g x c f λa u=>v a u λb h=>if b=true then w a h λy r=>CK D n i Pv ys a y r else CN n i Pv ys a h) (C:∀ys c H,Pv n ys c H->z H):
 ∃W:Nat->Nat->List V->St->Hp->Prop,(∃m,W 0 m [] c H)/\∀i m ys j l,W i m ys j l->(J.stop i l/\z l)\/
  (J.go i l/\∀x f,J.yld i l x f->g x j f λa u=>v a u λb h=>if b=true then w a h λy r=>∃zs o,r D=some (.lst zs)/\zs.length<sizeLine/\o<m/\W (i+1) o (ys++[y]) a (upd r D (.lst (zs++[y])))
   else∃o,o<m/\W (i+1) o ys a h):=by
 refine%[λi m ys c H=>m=n-i/\i<=n/\Pv i ys c H,%[n,by simp,Xh _|A]|?_];intro i m ys c H %[rfl,hi|p];by_cases q:i<n
 .exact .inr %[s i ys c H q p|λx f y=>B i ys c H q p x f y]
 .have e:i=n:=by lia
  subst e;exact .inl %[d ys c H p|C ys c H p]
theorem rg:∀{bs:List Bool} {us:ZF} {i:Nat} {v:Value},aD (bs.map V.bl) us->us[i]? =some v->∃b,bs[i]? =some b/\v= .bool b
 |[],_,_,_,r,e=>by cases r;simp at e
 | b::bs,_,i,v,r,e=>by
   cases r with
   | cons a c=>
     cases(a);cases i with
     | zero=>simp at e;exact%[b,rfl|e.symm]
     | succ i=>
       have%[d,f|g]:=rg c (e);exact%[d,f|g]
theorem mZ(bs:List Bool):(List.range bs.length).all (λi=>bs.getD i false)=bs.all id:=by
 have e:(List.range bs.length).map (λi=>bs.getD i false)=bs:=by
  apply Y0
  .simp
  .intro i a b
   simp_all
 have:(List.range bs.length).all (λi=>bs.getD i false)=((List.range bs.length).map λi=>bs.getD i false).all id:=by rw[all_map];rfl
 rw[this,e]
theorem Aa{X:Cx}(g:X.calm=true):bR X (.builtin "all") (λxs H Q=>∃(p:Addr) (bs:List Bool),xs=[.ref p]/\SqL X.K H p (bs.map V.bl)/\Q (.bl (bs.all id)) H):=by
 intro pins s A H xs us Q I r h;have%[p,bs,rfl,j|q]:=h;have%[u,rfl|l]:=cP r;cases l;have%[its,d,pl|B]:=I.list j;have m:X.A.in1.handled=none:=I.ok.hd g;have a:bs.length=its.toArray.size:=by rw[Zp,<-d.length,Z6]
 refine call_all_walk (wpAny_pyIter_list pl.isList %[⇑s,[⇑s,p],[⇑s],its.toArray.size,_,_,λi=>bs.getD i false,rfl,Walks.list m _ p (Zt (by have%[o,n|_]:=pl.isList;exact Zv n)) its.toArray,%[%[_,Zj _ rfl,rfl|rfl]|pl.isList.push _],?_|?_])
 .intro i v s' w C y c;have%[b,f|rfl]:=rg d (by simpa using y);have e:bs.getD i false=b:=by simp_all
  have c:w (bs.getD i false) s':=c;rw[e]at c;exact wpAny_truthy_bool c
 .intro h' tk z;rw[<-a,mZ];refine%[.bl _,H,I.kept λb o e=>z b o ?_ (Z7 _ e),rfl|q];have:=Zv e;intro f;exact absurd (Xr f) (Zt this)
def CA:V->Option Int->Option Int->Hp->VK->Prop:=λx lo hi H Q=>∃z,x= .str z/\z.length<=sizeLine/\Q (.str (Txt.slice z lo hi)) H
theorem Ab{X:Cx}:SlR X CA:=by
 intro pins s m H x v n o lo hi p Q I f b pl d h;have%[z,rfl,g|q]:=h;have%[t|rfl]:=f;refine%["str",_,F.slot_str_getitem.lookup,typeIs_str _ _ _|?_];have a:∀l u,(Txt.slice z l u).length<=sizeLine:=λl u=>Yi (Txt.slice_le z _ _) g
 cases pl with
 | none=>
   cases d with
   | none=>exact wpAny_getItem_str_slice (l:=none) (u:=none) (st:=none) b rfl (post_val_or_str %[a _ _|λt' k=>%[.str (Txt.slice z _ _),H,I.tok k,%[_|rfl]|q]])
   | int j c=>exact wpAny_getItem_str_slice (l:=none) (u:=some (j,c)) (st:=none) b rfl (post_val_or_str %[a _ _|λt' k=>%[.str (Txt.slice z _ _),H,I.tok k,%[_|rfl]|q]])
 | int i e=>
   cases d with
   | none=>exact wpAny_getItem_str_slice (l:=some (i,e)) (u:=none) (st:=none) b rfl (post_val_or_str %[a _ _|λt' k=>%[.str (Txt.slice z _ _),H,I.tok k,%[_|rfl]|q]])
   | int j c=>exact wpAny_getItem_str_slice (l:=some (i,e)) (u:=some (j,c)) (st:=none) b rfl (post_val_or_str %[a _ _|λt' k=>%[.str (Txt.slice z _ _),H,I.tok k,%[_|rfl]|q]])
theorem fY:∀{ss:ZB} {us:ZF},aD (ss.map V.str) us->StrsAre us ss
 |[],_,r=>by cases r;exact .nil
 | x::ss,_,r=>by
   cases r with
   | cons a b=>
     have%[t|e]:=a;subst e;exact .cons x t (fY b)
theorem pX:∀{ss:ZB} {us:ZF},StrsAre us ss->aD (ss.map V.str) us
 | _,_,.nil=> .nil
 | _,_,.cons x t h=> .cons %[t|rfl] (pX h)
def wG(K:ZA):V->List V->Hp->VK->Prop:=λx vs H Q=>∃z l ss,x= .str z/\vs=[.ref l]/\SqL K H l (ss.map V.str)/\(ss.map (·.length)).sum+ss.length*z.length<=16777216/\Q (.str (Txt.join z ss)) H
theorem CB{X:Cx}:MtM X "str.join" (wG X.K):=by
 intro pins s e H x vs v us Q I a b h;have%[z,l,ss,rfl,rfl,c,hw|q]:=h;have%[t|rfl]:=a;have%[u,rfl|d]:=b.one;cases d;have%[its,r,pl|f]:=I.list c;exact PyProof.Rows.join_list pl.isList (fY r) hw λt' k=>%[.str _,H,I.tok k,%[_|rfl]|q]
theorem Ac{X:Cx}:bR X (.builtin "isinstance") (λxs H Q=>∃x n t b,xs=[x,.ty n]/\je X.K H x t/\kitOne X.K t (.type n)=some b/\Q (.bl b) H):=by
 intro pins s d H xs us Q I r h;have%[x,n,t,b,rfl,ty,e|q]:=h;have%[u,f,rfl,c|a]:=hW r;cases(a);exact xH I c ty e λtk=>%[.bl b,H,I.tok tk,rfl|q]
theorem pY(z:Str)(c i:Nat):Builtin.Str.subAt z ⟨#[c]⟩ i=decide (z.cps[i]? =some c):=by
 unfold Builtin.Str.subAt;have b:(⟨#[c]⟩:Str).length=1:=rfl;rw[b];by_cases hi:i<z.cps.size
 .have e:z.cps.extract i (i+1)= #[z.cps[i]]:=by
   apply Array.ext
   .simp;lia
   .intro j d a;simp at a;subst a;simp
  rw[e,Array.getElem?_eq_getElem hi];by_cases f:z.cps[i]=c
  .subst f;simp
  simp_all
 .have e:z.cps.extract i (i+1)= #[]:=by
   apply Array.ext
   .simp;lia
   .intro j d a;simp at a
  rw[e,Array.getElem?_eq_none ⋯];simp
theorem Ad(z:Str)(c:Nat):(!(Builtin.Str.occurrences z ⟨#[c]⟩ 0 z.length 1).isEmpty)=decide (c∈z.cps.toList):=by
 rcases StrLaws.occ_head z _ 1 (Zi _)with⟨e,d⟩|⟨i,r,e,f,_⟩
 .rw[e];refine(Zh λg=>?_).symm;have%[j,h|l]:=List.mem_iff_getElem.mp g;have a:=by simpa using h
  refine d j %[?_|?_]
  .show j+1<=z.cps.size;lia
  .rw[pY];exact Zf (by rw[Array.getElem?_eq_getElem a];simpa using l)
 .rw[e];refine(Zf ?_).symm;have b:=f.2;rw[pY]at b;have:=Array.mem_of_getElem? (Zo b);simpa using this
section
variable{X:Cx}
abbrev Dv:R2:=λx y H Q=>∃i j,x= .str i/\y= .str j/\i.length+j.length<=sizeLine/\Q (.str (i++j)) H
abbrev Ae:R2:=λx y H Q=>rI0 (λi j=> .int (i+j)) x y H Q\/(Dv x y H Q\/EJ x y H Q)
theorem CC:OpR X (binaryOp .Add) Ae:=zx.or (u8.or EK)
abbrev Af:R2:=λx y H Q=>rI zw (λi j=> .int (i*j)) x y H Q\/EM x y H Q
theorem CD:OpR X (binaryOp .Mult) Af:=zy.or EN
abbrev ES:R2:=rEq
theorem ET:OpR X (compareOp .Eq) ES:=Gk
abbrev EU:R2:=rNe
theorem EV:OpR X (compareOp .NotEq) EU:=Gm
abbrev Gu:R2:=λx y H Q=>∃i j,x= .str i/\y= .str j/\Q (.bl (!(Builtin.Str.occurrences j i 0 j.length 1).isEmpty)) H
abbrev Ag(K:ZA):R2:=λx y H Q=>Gu x y H Q\/rIn K false x y H Q
theorem EW:OpR X (compareOp .In) (Ag X.K):=xD.or xN
abbrev CF(K:ZA):V->Option Int->Option Int->Hp->VK->Prop:=λx lo hi H Q=>EH K x lo hi H Q\/(EA K x lo hi H Q\/CA x lo hi H Q)
theorem EX:SlR X (CF X.K):=Cj.or (EB.or Ab)
def CG(K:ZA)(c:TE):TI:=λd H R=>c d H λx b=>(∃a,x= .ref a/\(∃xs,SqL K b a xs)/\R (Itl K a) b)\/(∃a,x= .ref a/\(∃xs,SqT K b a xs)/\R (Itt K a) b)\/∃z,x= .str z/\R (Its z) b
theorem EY(n:PE X l r):PI X C l (CG X.K r):=by
 intro pins s u H R I h;refine thP (n pins s u H _ I h) λv d x g f i w=>?_
 have c:∀b∈[⇑d],lW X pins g b:=λb y=>by
  have e:b=⇑d:=by simpa using y
  subst e;exact f.fpOk (Zi _) (f.hok.fresh (Zi _))
 rcases w with⟨a,e,⟨xs,j⟩,q⟩|⟨a,e,⟨xs,j⟩,q⟩|⟨z,e,q⟩
 .subst e;cases i;have%[its,A,p|B]:=f.list j;exact wpAny_pyIter_list p.isList %[⇑d,[⇑d],_,_,g,rfl,f.kept (t':=d.toks) λb o e=>Z7 _ e,xA a _,%[_,Zj _ rfl,rfl|rfl],c|q]
 .subst e;cases i;have%[its,A,p|B]:=f.tuple j;exact wpAny_pyIter_tuple (p) %[⇑d,[⇑d],_,_,g,rfl,f.kept λb o e=>Z7 _ e,uW a _,%[_,Zj _ rfl,rfl|rfl],c|q]
 .subst e;have%[t|rfl]:=i;cases m:z.cps.all _ with
  | true=>
    exact wpAny_pyIter_ascii m %[⇑d,[⇑d],_,_,g,rfl,f.kept λb o e=>Z7 _ e,vp _ z t,%[_,Zj _ rfl,rfl|rfl],c|q]
  | false=>
    exact wpAny_pyIter_wide m %[⇑d,[⇑d],_,_,g,rfl,f.kept λb o e=>Z7 _ e,xU _ z t,%[_,Zj _ rfl,rfl|rfl],c|q]
end
noncomputable def bT(c:Scope)(N:ZB)(a:Scope)(d:ZB)(b:List (Nat×Nat)):Bool:=
 decide (a.kind= .function)&&a.names.all (λy=>(decide (y.2≠ .cell)||decide (a.names.lookup y.1=some .cell))&&(decide (y.2≠ .local)||decide (a.names.lookup y.1=some .local))&&(decide (y.2≠ .free)||decide (c.names.lookup y.1=some .cell)||decide (c.names.lookup y.1=some .free)))&&
  b.all λp=>match d[p.1]? with
   | some x=>decide (N[p.2]? =some x)&&decide (a.names.lookup x=some .free)
   | none=>false
theorem aC.of{X:Cx}(h:bT X.env.scope X.N a g c=true):aC X a g c:=by
 unfold bT at h;rw[Zx,Zx,all_eq_true,all_eq_true]at h;have%[%[i|d]|j]:=h;refine%[Zo i,λy b f=>?_,λy b f=>?_,λy b l=>?_|λp m=>?_]
 .have:=d y b;simp only[Zx,or_eq_true,decide_eq_true_eq]at this;exact this.1.1.resolve_left λq=>q f
 .have:=d y b;simp only[Zx,or_eq_true,decide_eq_true_eq]at this;exact this.1.2.resolve_left λq=>q f
 .have:=d y b;simp only[Zx,or_eq_true,decide_eq_true_eq]at this;rcases this.2 with(q|q)|q
  .exact absurd l q
  .exact .inl q
  .exact .inr q
 .have:=j p m;cases e:g[p.1]? with
  | none=>simp_all
  | some x=>
    rw[e]at this;simp only[Zx,decide_eq_true_eq]at this;exact%[x,rfl,this.1|this.2]
structure Gv (mg:ZC) (x:Str) (v:V):Prop where
 ex:∃u,mg x=some u/\aO v u
theorem Dw{X:Cx}(g:Gv X.mg x v)(a:Gl X x)(b:(x==("__debug__":Str))=false):PE X (.Name x pos) (tC v):=by
 have%[u,h|r]:=g.ex;exact BU a h r b
structure Cal (P:Program) (w:World) (K:ZA) (mg:ZC) (base:Heap) (k:Nat) (x:Str) (ps:ZB) (sp:Sp):Prop where
 ex:∃f fd,hJ P w K mg base CX0 k f fd ps sp/\mg x=some (.ref f)/\keepIn K (.ref f)=true/\di K fd ps []
structure aL (K:ZA) (mg:ZC) (x:Str) (st:Stmt) (ps:ZB):Prop where
 ex:∃f fd,Fun K x x st f fd/\mg x=some (.ref f)/\di K fd ps []
theorem aL.cal{P:Program}{K:ZA}{st:Stmt}(D:aL K mg x st ps)(S:ax N ps (ah st))
 (a:∀(H:Hp) (vs:List V) (Q:VK) (E:XK),sp vs H Q E->vs.length=ps.length/\∀(f:Addr) (b:Value) (A:Around) (outer:List Env) (s:Shared),bQ k (A.deeper (envOfC x (ah st) ⇑s f b))->
  ∃t,PSs (oV CX0 P w K mg base N x (ah st) f b A outer s H E).nox (bO st) t/\t {nx:=λ_ c=>Q .non c,rt:=Q} (start N vs) H):Cal P w K mg base (k+1) x ps sp:=by
 have%[f,d,F,e|g]:=D.ex;exact%[f,d,F.ok S (λv H Q E h=>(a H v Q E h).1) (λb A o s H v Q E r h=>(a H v Q E h).2 f b A o s r),e,F.kp|g]
theorem EZ{X:Cx}(C:Cal X.prog X.w X.K X.mg X.base j x ps sp)(g:bQ k X.A)(h:Gl X x)(i:jf CX0 X E0)(l:PA X (e::a) t)(b:j<=k)
 (c:(x==("__debug__":Str))=false) (m:starEach (e::a) X.env=(false,eval e X.env)::starEach a X.env) (d:(backTo pos (starEach a X.env)).any (·.1)=false):
 PE X (.Call (.Name x p) (e::a) [] pos) (sK sp [] E0 t):=by
 have%[f,r,F,n,o|q]:=C.ex;exact Cd F (g.mono b) h n o q .nil i l c m d
theorem E3{K:ZA}{h:Heap}{st:Stmt}{kV e g d ct:Value}(X:K.In h)(G:h.Ns mainGlobals mg)
 (a:nsIn K mainGlobals x=some (some (.ref f))) (l:K.lookup f=some %[m,od,.func (fnOf x x (cK st) (bO st) (ah st) .none kV e g i d ct)|j]) (c:codeIn K d x=true) (k:keepIn K (.ref f)=true)
 (b:∀(kV e g:Value) (i:ZI) (d ct:Value) (us:ZF),us.length=ps.length->bindArgs (fnOf x x (cK st) (bO st) (ah st) .none kV e g i d ct) %[us|[]]=pure (ps.zip us)):aL K mg x st ps:=
 %[f,_,dz l c k,mg_of X G a|(dz l c k).binds b]
theorem Gw{K:ZA}{h:Heap}(X:K.In h)(G:h.Ns mainGlobals mg)(a:nsIn K mainGlobals x=some (some u))(r:aO v u):Gv mg x v:=%[u,mg_of X G a|r]
theorem ay(h:∀a:It->Hp->Prop,(∀J f,(∃W:Nat->Nat->St->Hp->Prop,(∃m,W 0 m b f)/\∀i m b H,W i m b H->
 (J.stop i H/\D.nx b H)\/(J.go i H/\∃N:St->Hp->Prop,(∀c d,N c d->∃j,j<m/\W (i+1) j c d)/\∀x d,J.yld i H x d->g x b d λe l=>n {D with nx:=N,ct:=N,bk:=D.nx} e l))->a J f)->o b H a):uY o g n D b H:=h _ λ_ _ x=>x
theorem aJ(h:∀c:It->Hp->Prop,(∀J j,(∀D,j D=none->∃W:Nat->Nat->List V->St->Hp->Prop,
 (∃m,W 0 m [] (pU n l o) (upd j D (.lst [])))/\∀i m ys d e,W i m ys d e->(J.stop i e/\Q (.ref D) e)\/
  (J.go i e/\∀x p,J.yld i e x p->g x d p λa s=>u a s λb q=>if b=true then v a q λy r=>∃zs f,r D=some (.lst zs)/\zs.length<sizeLine/\f<m/\W (i+1) f (ys++[y]) a (upd r D (.lst (zs++[y])))
   else∃f,f<m/\W (i+1) f ys a q))->c J j)->w o H c):pV w n l g u v o H Q:=h _ λ_ _ x=>x
section
variable{X:Cx}{K:ZA}
theorem E4(h:X.K=K):OpR X (compareOp .In) (Ag K):=by subst h;exact EW
theorem slK(h:X.K=K):SlR X (CF K):=by subst h;exact EX
theorem xV(h:X.K=K):bR X (.builtin "len") (λxs H Q=>∃x n,xs=[x]/\B8 K x H n/\Q (.int n) H):=by subst h;exact zE
theorem xW(h:X.K=K)(a:X.calm=true):bR X (.builtin "all") (λxs H Q=>∃(p:Addr) (bs:List Bool),xs=[.ref p]/\SqL K H p (bs.map V.bl)/\Q (.bl (bs.all id)) H):=by subst h;exact Aa a
theorem xX(h:X.K=K):bR X (.builtin "isinstance") (λxs H Q=>∃x n t b,xs=[x,.ty n]/\je K H x t/\kitOne K t (.type n)=some b/\Q (.bl b) H):=by subst h;exact Ac
theorem vq(h:X.K=K):bR X (.type "list") (λxs H Q=>∃p ys,xs=[.ref p]/\(SqL K H p ys\/SqT K H p ys)/\∀l,H l=none->Q (.ref l) (upd H l (.lst ys))):=by subst h;exact qZ
theorem Ah(h:X.K=K):MtR X "str.join" (wG K):=by subst h;exact CB
theorem xY(h:X.K=K)(d:PE X a e)(f:∀b,isTrue a X.env b=(do let v<-b;standAt a.pos;holding [v] (truthy v))):PT X a (λg H Q=>e g H λx c=>∃k,zC K x c k/\Q k c):=by subst h;exact zD d f
theorem CH(h:X.K=K)(a:PE X l b):PI X c l (CG K b):=by subst h;exact EY a
variable{o e:Expr}{es:List Expr}{to:TE}{t:TA}{name:Str}{apos cpos:Pos}{T id:String}{r:V->List V->Hp->VK->Prop}
theorem CI(h:X.K=K)(d:PlainAttrs T)(slot:Slot T name id)(c:typeOf (.builtin id)=pure (.type "method_descriptor"))(f:MtR X id r)(g:PE X o to)
 (a:attributeBase o name X.env (eval o X.env)=eval o X.env) (b:(apos.endLine==cpos.line)=true):PE X (.Call (.Attribute o name apos) [] [] cpos) (Ck K T r to):=by
 subst h;exact EI d slot c f g a b
theorem Ai(h:X.K=K)(g:PlainAttrs T)(slot:Slot T name id)(f:typeOf (.builtin id)=pure (.type "method_descriptor"))(i:MtR X id r)(j:PE X o to)(l:PA X (e::es) t)
 (b:attributeBase o name X.env (eval o X.env)=eval o X.env)
 (d:((backTo cpos (starEach (e::es) X.env)).all (λx=>!x.1)&&(backToKw cpos (keywordEach [] X.env)).all (λx=>x.1.isSome)
  && decide ((e::es).length+([]:List Keyword).length+(if([]:List Keyword).isEmpty then 0 else 1)<30))=true)
 (c:(apos.endLine==cpos.line)=true) (m:starEach (e::es) X.env=(false,eval e X.env)::starEach es X.env) (a:(backTo cpos (starEach es X.env)).any (·.1)=false):
 PE X (.Call (.Attribute o name apos) (e::es) [] cpos) (tBM K T r to t):=by
 subst h;exact Gr g slot f i j l b d c m a
end
structure vt (z TI TO i1 i2:Addr):Prop where
 TIz:TI≠z
 TOz:TO≠z
 i1z:i1≠z
 i2z:i2≠z
 TITO:TI≠TO
 TIi1:TI≠i1
 TIi2:TI≠i2
 TOi1:TO≠i1
 TOi2:TO≠i2
 i12:i1≠i2
section
#where
variable{z TI TO i1 i2:Addr}{fp1 fp2:List Addr}{n1 n2 i:Nat}{P1 P2:Nat->Value->Prop}{St1 St2:Nat->Heap->Prop}
theorem Aj{Q:ZD}(D1:Draws prog w A i1 fp1 n1 P1 St1)(D2:Draws prog w A i2 fp2 n2 P2 St2)(D:vt z TI TO i1 i2)(T:∀b∈fp1,b≠z/\b≠TO/\b≠i2)(m2:∀b∈fp2,b≠z/\b≠TO/\b≠i1)
 (U:IsZip s.heap z TI TO .none) (ag:IsPair s.heap TI (.ref i1) (.ref i2)) (ai:IsPair s.heap TO a b) (h1:St1 i s.heap) (h2:St2 i s.heap) (l1:i<n1) (l2:i<n2)
 (hQ:∀x y h' tk,P1 i x->P2 i y->IsZip h' z TI TO (rawInt ⇑s)->IsPair h' TO x y->St1 (i+1) h'->St2 (i+1) h'->IsPair h' ⇑s x y->
  (∀c o,c≠z->c≠TO->c≠i1->c≠i2->s.heap.get? c=some o->h'.get? c=some o)->Q (.ref ⇑s) {s with heap:=h',toks:=tk}):
 ↥A (Builtin.«zip.__next__» %[[.ref z]|[]]) (λal s'=>∃v,al= .done (.ret v)/\Q v s') E s:=by
 have r:∀{k h h' c},(∀b∈fp1,b≠c)->SameBut c h h'->St1 k h->St1 k h':=λhc sb st=>D1.frame _ _ _ st λb d o e=>(sb.2 b (hc b d)).trans e
 have u:∀{k h h' c},(∀b∈fp2,b≠c)->SameBut c h h'->St2 k h->St2 k h':=λhc sb st=>D2.frame _ _ _ st λb d o e=>(sb.2 b (hc b d)).trans e
 show wpAny _ _ (field (.ref z) 2>>= _) _ _ _;refine Z2 (wpAny_field U rfl (x:= .bool false) rfl ?_);show wpAny _ _ (field (.ref z) 3>>= _) _ _ _;refine Z2 (wpAny_field U rfl (x:= .ref TI) rfl (Z2 (wpAny_seqItems ag rfl ?_)));show wpAny _ _ (Builtin.SmallTypes.ownedTupleIsFree (.ref z)>>= _) _ _ _;refine Z2 ?_;unfold Builtin.SmallTypes.ownedTupleIsFree;refine Z2 (wpAny_field U rfl (x:= .none) rfl (Z3 ?_));simp only[if_true];refine Z2 (wpAny_rule (Z2 (wpAny_field U rfl (x:= .ref TO) rfl (Z2 (wpAny_setField_rec U ∅ λg1 M n=>?_)))));replace M:IsZip g1 z TI TO .ellipsis:=M;refine Z2 ?_;simp only[List.zipIdx_cons,List.zipIdx_nil,forIn_cons,List.forIn_nil];refine Z2 (Z2 (wpAny_onRaise ?_));show wpAny _ _ (Builtin.SmallTypes.nextOf (.ref i1)>>= _) _ _ _;refine Z2 (D1.item i _ _ _ l1 (r (λb d=>(T b d).1) n h1) λx g2 an px aq f=>Z3 ?_);replace f:SameBut i1 g1 g2:=f;have I:IsPair g2 TO a b:=(f.2 _ D.TOi1).trans ((n.2 _ D.TOz).trans ai);refine Z2 (wpAny_seqItems I rfl (Z2 (wpAny_updateSeq_pair (s:={s with heap:=g2,toks:=an}) I λg3 p g=>?_)));replace p:IsPair g3 TO x b:=p;replace g:SameBut TO g2 g3:=g;refine Z2 (wpAny_letGo (Z3 (Z2 (Z2 (wpAny_onRaise ?_)))));show wpAny _ _ (Builtin.SmallTypes.nextOf (.ref i2)>>= _) _ _ _;refine Z2 (D2.item i _ _ _ l2 (u (λb d=>(m2 b d).2.1) g (u (λb d=>(m2 b d).2.2) f (u (λb d=>(m2 b d).1) n h2))) λy g4 B py as j=>Z3 ?_);replace j:SameBut i2 g3 g4:=j;have J:IsPair g4 TO x b:=(j.2 _ D.TOi2).trans p;refine Z2 (wpAny_seqItems J rfl (Z2 (wpAny_updateSeq_pair (s:={s with heap:=g4,toks:=B}) J λq m l=>?_)));replace m:IsPair q TO x y:=m;replace l:SameBut TO g4 q:=l;refine Z2 (wpAny_letGo (Z3 (Z3 (Z2 (wpAny_seqItems m rfl (Z2 (wpAny_newTuple ?_)))))));have Y:q.objs.size=⇑s:=by rw[l.1,j.1,g.1,f.1,n.1]
 have ab:IsZip q z TI TO .ellipsis:=(l.2 _ D.TOz.symm).trans ((j.2 _ D.i2z.symm).trans ((g.2 _ D.TOz.symm).trans ((f.2 _ D.i1z.symm).trans M)));have aR:∀c o,c≠z->c≠TO->c≠i1->c≠i2->s.heap.get? c=some o->q.get? c=some o:=λc o N c2 c3 c4 e=>
  (l.2 c c2).trans ((j.2 c c4).trans ((g.2 c c2).trans ((f.2 c c3).trans ((n.2 c N).trans e))))
 have L:z<q.objs.size:=Zv ab;refine Z2 (Z2 (wpAny_setField_rec (s:={s with heap:=q.push {cls:= .type "tuple",data:= .seq #[x,y]},toks:=B}) (Z7 _ ab) ∅ λg7 O C=>?_));replace O:IsZip g7 z TI TO (rawInt q.objs.size):=O;replace C:SameBut z (q.push _) g7:=C;refine wpAny_setField_rec (s:={s with heap:=g7,toks:=B}) O ∅ λg8 G H=>?_
 replace G:IsZip g8 z TI TO (rawInt q.objs.size):=G;replace H:SameBut z g7 g8:=H;have up:∀c o,c≠z->q.get? c=some o->g8.get? c=some o:=λc o N e=>(H.2 c N).trans ((C.2 c N).trans (Z7 _ e))
 have ac:=(H.2 _ (X3 L)).trans ((C.2 _ (X3 L)).trans (Zj _ rfl));rw[Y]at G ac;refine Z3 %[_,rfl|?_];rw[Y];exact hQ x y g8 B px py G (up _ _ D.TOz m) (D1.frame _ _ _ (r (λb d=>(T b d).2.1) l (r (λb d=>(T b d).2.2) j (r (λb d=>(T b d).2.1) g aq))) λb d o e=>up b o (T b d).1 e) (D2.frame _ _ _ (u (λb d=>(m2 b d).2.1) l as) λb d o e=>up b o (m2 b d).1 e) ac λc o N c2 c3 c4 e=>up c o N (aR c o N c2 c3 c4 e)
theorem Ak(L:Draws prog w A i1 fp1 n1 P1 St1)(D2:Draws prog w A i2 fp2 n2 P2 St2)(D:vt z TI TO i1 i2)(m1:∀b∈fp1,b≠z/\b≠TO/\b≠i2)(m2:∀b∈fp2,b≠z/\b≠TO/\b≠i1)
 (B:IsZip s.heap z TI TO .none) (M:IsPair s.heap TI (.ref i1) (.ref i2)) (N:IsPair s.heap TO a b) (h1:St1 i s.heap) (h2:St2 i s.heap) (l1:i<=n1) (l2:i<=n2) (ab:i=n1\/i=n2)
 (hE:∀h' e tk,(∀c o,c≠z->c≠TO->c≠i1->c≠i2->s.heap.get? c=some o->h'.get? c=some o)->(∃o,h'.get? e=some o/\o.cls= .type "StopIteration")->E (.ref e) {s with heap:=h',toks:=tk}):
 ↥A (Builtin.«zip.__next__» %[[.ref z]|[]]) Q E s:=by
 have O:∀{k h h' c},(∀b∈fp1,b≠c)->SameBut c h h'->St1 k h->St1 k h':=λT U st=>L.frame _ _ _ st λb j o e=>(U.2 b (T b j)).trans e
 have u:∀{k h h' c},(∀b∈fp2,b≠c)->SameBut c h h'->St2 k h->St2 k h':=λT U st=>D2.frame _ _ _ st λb j o e=>(U.2 b (T b j)).trans e
 show wpAny _ _ (field (.ref z) 2>>= _) _ _ _;refine Z2 (wpAny_field B rfl (x:= .bool false) rfl ?_);show wpAny _ _ (field (.ref z) 3>>= _) _ _ _;refine Z2 (wpAny_field B rfl (x:= .ref TI) rfl (Z2 (wpAny_seqItems M rfl ?_)));show wpAny _ _ (Builtin.SmallTypes.ownedTupleIsFree (.ref z)>>= _) _ _ _;refine Z2 ?_;unfold Builtin.SmallTypes.ownedTupleIsFree;refine Z2 (wpAny_field B rfl (x:= .none) rfl (Z3 ?_));simp only[if_true];refine Z2 (wpAny_rule (Z2 (wpAny_field B rfl (x:= .ref TO) rfl (Z2 (wpAny_setField_rec B ∅ λg1 n l=>?_)))));replace n:IsZip g1 z TI TO .ellipsis:=n;refine Z2 ?_;simp only[List.zipIdx_cons,List.zipIdx_nil,forIn_cons,List.forIn_nil];refine Z2 (Z2 (wpAny_onRaise ?_));show wpAny _ _ (Builtin.SmallTypes.nextOf (.ref i1)>>= _) _ _ _;have C:St1 i g1:=O (λb j=>(m1 b j).1) l h1;by_cases c1:i<n1
 .have e2:i=n2:=by lia
  refine Z2 (L.item i _ _ _ c1 C λx g2 v px ag d=>Z3 ?_);replace d:SameBut i1 g1 g2:=d;have r:IsPair g2 TO a b:=(d.2 _ D.TOi1).trans ((l.2 _ D.TOz).trans N);refine Z2 (wpAny_seqItems r rfl (Z2 (wpAny_updateSeq_pair (s:={s with heap:=g2,toks:=v}) r λg3 ac f=>?_)));replace f:SameBut TO g2 g3:=f;refine Z2 (wpAny_letGo (Z3 (Z2 (Z2 (wpAny_onRaise ?_)))));show wpAny _ _ (Builtin.SmallTypes.nextOf (.ref i2)>>= _) _ _ _;refine Z2 (D2.done _ _ _ (e2▸u (λb j=>(m2 b j).2.1) f (u (λb j=>(m2 b j).2.2) d (u (λb j=>(m2 b j).1) l h2))) λJ e p Y=>?_);replace p:ExtBut i2 g3 J:=p;have%[oe,g|m]:=Y;have G:IsZip J z TI TO .ellipsis:=p _ _ D.i2z.symm ((f.2 _ D.TOz.symm).trans ((d.2 _ D.i1z.symm).trans n));have y:e≠z:=λx=>by subst x;rw[G]at g;cases g;simp at m
  refine wpAny_setField_rec (s:={s with heap:=J,toks:=v}) G ∅ λg5 _ q=>?_
  replace q:SameBut z J g5:=q;exact hE g5 e v (λc o H d2 d3 d4 x=>(q.2 c H).trans (p c o d4 ((f.2 c d2).trans ((d.2 c d3).trans ((l.2 c H).trans x))))) %[oe,(q.2 e y).trans g|m]
 .have e1:i=n1:=by lia
  refine Z2 (L.done _ _ _ (e1▸C) λg2 e d Y=>?_);replace d:ExtBut i1 g1 g2:=d;have%[oe,g|m]:=Y;have I:=d _ _ D.i1z.symm n;have y:e≠z:=λx=>by subst x;rw[I]at g;cases g;simp at m
  refine wpAny_setField_rec (s:={s with heap:=g2}) I ∅ λg3 _ f=>?_
  replace f:SameBut z g2 g3:=f;exact hE g3 e s.toks (λc o H _ d3 _ x=>(f.2 c H).trans (d c o d3 ((l.2 c H).trans x))) %[oe,(f.2 e y).trans g|m]
end
noncomputable def Itz(x y:Str):It:=⟨λi _=>i<x.cps.size/\i<y.cps.size,λi H v a=>∃c d T,x.cps[i]? =some c/\y.cps[i]? =some d/\H T=none/\v= .ref T/\a=upd H T (.tup [.str ⟨#[c]⟩,.str ⟨#[d]⟩]),
 λi _=>i<=x.cps.size/\i<=y.cps.size/\(i=x.cps.size\/i=y.cps.size)⟩
def ZSt(z TI TO c d:Addr)(e f:Nat->Heap->Prop)(i:Nat)(h:Heap):Prop:=IsZip h z TI TO .none/\IsPair h TI (.ref c) (.ref d)/\(∃a b,IsPair h TO a b)/\e i h/\f i h
theorem iM(prog:Program)(w:World)(x:Str)(t:Tok)(it:Addr):∀A,A.handled=none->
 Draws prog w A it [it] x.cps.size (λi v=>∃c u,x.cps[i]? =some c/\v= .str ⟨#[c]⟩ u) (λi h=>h.IsStrIter it (strIterType x) x t i):=by
 intro A a;unfold strIterType;cases b:x.cps.all _ with
 | true=>exact Draws.strAscii a it x t
 | false=>exact Draws.strWide a it x t
theorem Al{P:Program}{K:ZA}(z TI TO i1 i2:Addr)(x y:Str)(t u:Tok)(D:vt z TI TO i1 i2):
 qR P w K (.Tuple elts kt tp) (Itz x y) [z,TI,TO,i1,i2] z (ZSt z TI TO i1 i2 (λi h=>h.IsStrIter i1 (strIterType x) x t i) (λi h=>h.IsStrIter i2 (strIterType y) y u i)) where
 mem:=by simp
 obj:=λi h st b hb=>by
  have%[hz,hTI,%[a,c|hTO],%[o1,e1,_|d1],o2,e2,_|d2]:=st
  grind
 keep:=λi h h' st k=>by
  have%[hz,hTI,%[a,c|hTO],%[o1,e1|r1],o2,e2|r2]:=st;exact%[k z ∅ _ hz,k TI ∅ _ hTI,%[a,c|k TO ∅ _ hTO],%[o1,k i1 ∅ _ e1|r1],o2,k i2 ∅ _ e2|r2]
 item:=by
  intro X hP hw hK hc i pins s σ H E I hf st hg;subst hP hw hK;have%[hz,hTI,%[a,c|hTO],h1|h2]:=st;obtain⟨g1,g2⟩:i<x.cps.size/\i<y.cps.size:=hg;have hT:s.TypeIs (.ref z) "zip":=%[_,hz|rfl]
  have hh:X.A.in1.handled=none:=I.ok.hd hc;unfold pyNext;refine Z2 (wpAny_attempt (wpAny_callSpecial?_slot (name:=Str.ofString "__next__") hT F.slot_zip_next (wpAny_call_entry F.slot_zip_next hT F.entry_zip_next
   (Aj (iM _ _ x t i1 _ hh) (iM _ _ y u i2 _ hh) D (λb hb=>(show b=i1 by simpa using hb)▸%[D.i1z,Ne.symm D.TOi1|D.i12]) (λb hb=>(show b=i2 by simpa using hb)▸%[D.i2z,Ne.symm D.TOi2|Ne.symm D.i12]) hz hTI hTO h1 h2 g1 g2 λv1 v2 h' tk p1 p2 a1 a2 a3 a4 a5 hk=>Z3 ?_) (F.args_zip_next_1 _))))
  have%[c1,u1,e1|rfl]:=p1;have%[c2,u2,e2|rfl]:=p2;refine%[_,rfl|wpAny_letOwnedTupleGo_zip (s:={s with heap:=h',toks:=tk}) a1 λh'' hz'' sb=>?_];replace sb:SameBut z h' h'':=sb;have turn1:Inv X pins σ H {s with heap:=h'',toks:=tk}:=by
   have nit:∀b v,H b=some v->b∉[z,TI,TO,i1,i2]:=λb v e hb=>by rw[(hf b hb).1]at e;cases e
   have kk:∀b o,b∉[z,TI,TO,i1,i2]->s.heap.get? b=some o->h''.get? b=some o:=λb o hb e=>by
    simp only[Yx,X9,or_false,not_or]at hb;exact(sb.2 b hb.1).trans (hk b o hb.1 hb.2.2.1 hb.2.2.2.1 hb.2.2.2.2 e)
   refine I.step (g':=s.gens) (d':=s.drawn) (ch:=[z,TI,TO,i1,i2]) (λb hb=>%[(hf b hb).2.2.2.1,(hf b hb).2.1,(hf b hb).2.2.2.2.1|(hf b hb).2.2.2.2.2]) (λb o _ _ hc e _=>kk b o hc e) (λb o _ _ hc e _=>%[o.slots|kk b o hc e]) (λ_ _ _ _ n=>n)
    (λb o hc e=>%[o|kk b o hc e]) (λ_ _ e=>e) (λ_ _ _ e=>e) (λb ps e=>%[#[]|by rw[e];simp]) (λm hm=>?_) (λb v e=>?_) I.bare
   .have%[o,es,ep,ho|r]:=hm;exact%[o,es,ep,kk _ o (λhb=>(hf _ hb).2.1 rfl) ho|r]
   .refine(I.hok b v e).stay (λc' v' hc' q=>kk c' v' ?_ q) (λ_ q=>q) λ_ _ q=>q
    rcases hc' with q'|q'
    .exact q'▸nit b v e
    .exact nit c' _ q'
  have Hn:H ⇑s=none:=I.fresh;have I2:Inv X pins σ (upd H ⇑s (.tup [.str ⟨#[c1]⟩,.str ⟨#[c2]⟩])) {s with heap:=h'',toks:=tk}:=by
   have nf:⇑s∉X.fs:=I.nofs (Zi _);refine%[turn1.ok,turn1.os,turn1.bare,?_,turn1.loc,turn1.cell,?_,?_,?_,?_|turn1.len]
   .refine%[turn1.base.keep,turn1.base.slot,λb o e n hx=>?_,turn1.base.there,λb xs e=>?_,λb o v e=>?_|λb ps e=>?_]
    .rw[ak ((λb o e=>Zt (Zg (Zv e) I.sz)) b o e)];exact turn1.base.free b o e n hx
    .rw[ak (av (turn1.base.tups b xs e) Hn)];exact turn1.base.tups b xs e
    .rw[ak (av (turn1.base.frzs b o v e) Hn)];exact turn1.base.frzs b o v e
    .have%[m|q]:=turn1.base.tbls b ps e;exact%[m|(ak (av q Hn))▸q]
   .rw[ak (Zt I.lt)];exact turn1.free
   .intro x' c' e;have%[v'|q]:=I.cell x' c' e;rw[ak (Zt q.lt)];exact turn1.freeC x' c' e
   .intro p hp;have%[e,n|r]:=turn1.pin p hp;refine%[e,?_|r];rw[ak (Zt (Zv (I.pin p hp).1))];exact n
   .intro b v e;by_cases hb:b=⇑s
    .subst hb;rw[aa]at e;cases e;exact%[by show 2<=sizeLine;decide,[.str _ u1,.str _ u2],.cons %[_|rfl] (.cons %[_|rfl] .nil),_,((sb.2 _ (X3 (Zv hz))).trans a5),rfl,_|rfl]
    .rw[ak hb]at e;refine(turn1.hok b v e).stay (λ_ _ _ q=>q) (λc' q=>?_) λc' xs q=>?_
     .rw[ak (av q Hn)];exact q
     .rw[ak (av q Hn)];exact q
  refine%[.ref ⇑s,_,I2,rfl,%[c1,c2,_,e1,e2,Hn,rfl|rfl],%[hz'',(sb.2 _ D.TIz).trans (hk _ _ D.TIz D.TITO D.TIi1 D.TIi2 hTI),%[_,_|(sb.2 _ D.TOz).trans a2],?_|?_]|λb hb=>?_]
  .have%[o,e|r]:=a3;exact%[o,(sb.2 _ D.i1z).trans e|r]
  .have%[o,e|r]:=a4;exact%[o,(sb.2 _ D.i2z).trans e|r]
  .have:b<⇑s:=by
    simp only[Yx,X9,or_false]at hb;have%[o1,q1|_]:=h1;have%[o2,q2|_]:=h2;rcases hb with rfl|rfl|rfl|rfl|rfl
    .exact Zv hz
    .exact Zv hTI
    .exact Zv hTO
    .exact Zv q1
    .exact Zv q2
   rw[ak (Zt this)];exact(hf b hb).1
 done:=by
  intro X hP hw hK hc i pins s σ H E I hf st hg;have%[hz,hTI,%[a,c|hTO],h1|h2]:=st;obtain⟨g1,g2,g3⟩:i<=x.cps.size/\i<=y.cps.size/\(i=x.cps.size\/i=y.cps.size):=hg;have hT:s.TypeIs (.ref z) "zip":=%[_,hz|rfl]
  have hh:=I.ok.hd hc;refine Z2 (wpAny_attempt (wpAny_callSpecial?_slot hT F.slot_zip_next (wpAny_call_entry F.slot_zip_next hT F.entry_zip_next
   (Ak (iM _ _ x t i1 _ hh) (iM _ _ y u i2 _ hh) D (λb hb=>(show b=i1 by simpa using hb)▸%[D.i1z,Ne.symm D.TOi1|D.i12]) (λb hb=>(show b=i2 by simpa using hb)▸%[D.i2z,Ne.symm D.TOi2|Ne.symm D.i12]) hz hTI hTO h1 h2 g1 g2 g3 λh' e tk hk he=>?_) (F.args_zip_next_1 _))))
  have%[o,ho|hco]:=he;refine Z2 (wpAny_isInstance %[o,ho|hco] isSubtype_stop (Z3 %[rfl|?_]));have nit:∀b v,H b=some v->b∉[z,TI,TO,i1,i2]:=λb v e hb=>by rw[(hf b hb).1]at e;cases e
  have kk:∀b o,b∉[z,TI,TO,i1,i2]->s.heap.get? b=some o->h'.get? b=some o:=λb o hb e=>by
   simp only[Yx,X9,or_false,not_or]at hb;exact hk b o hb.1 hb.2.2.1 hb.2.2.2.1 hb.2.2.2.2 e
  refine I.step (λb hb=>%[(hf b hb).2.2.2.1,(hf b hb).2.1,(hf b hb).2.2.2.2.1|(hf b hb).2.2.2.2.2]) (λb o _ _ hc e _=>kk b o hc e) (λb o _ _ hc e _=>%[o.slots|kk b o hc e]) (λ_ _ _ _ n=>n)
   (λb o hc e=>%[o|kk b o hc e]) (λ_ _ e=>e) (λ_ _ _ e=>e) (λb ps e=>%[#[]|by rw[e];simp]) (λm hm=>?_) (λb v e=>?_) I.bare
  .have%[o',es,ep,ho'|r]:=hm;exact%[o',es,ep,kk _ o' (λhb=>(hf _ hb).2.1 rfl) ho'|r]
  .refine(I.hok b v e).stay (λc' v' hc' q=>kk c' v' ?_ q) (λ_ q=>q) λ_ _ q=>q
   rcases hc' with q'|q'
   .exact q'▸nit b v e
   .exact nit c' _ q'
 self:=λ_ _ _ _ _ st h=>wpAny_pyIter_zip st.1 h
noncomputable def ba:Expr->Bool
 | .Starred _ _=>true
 | _=>false
theorem az(h:ba e=false):starEach (e::a) env=(false,eval e env)::starEach a env:=by
 cases e<;> first|rfl|cases(show true=false from h)
theorem dC(h:ba e=false):assignEach (e::a) env=(false,assign e env)::assignEach a env:=by
 cases e<;> first|rfl|cases(show true=false from h)
theorem eB:∀{a:List Expr},a.any ba=false->(backTo pos (starEach a env)).any (·.1)=false
 |[],_=>rfl
 | e::a,h=>by
   rw[Zy,Xa]at h;rw[az h.1];have:=eB (pos:=pos) (env:=env) h.2;cases a with
   | nil=>rfl
   | cons c b=>
     simp only[backTo]at this ⊢;simpa using this
theorem rh:∀{a:List Expr},a.any ba=false->(backTo pos (starEach a env)).all (λx=>!x.1)=true
 |[],_=>rfl
 | e::a,h=>by
   rw[Zy,Xa]at h;rw[az h.1];have:=rh (pos:=pos) (env:=env) h.2;cases a with
   | nil=>rfl
   | cons c b=>
     simp only[backTo]at this ⊢;simpa using this
theorem jh:∀{a:List Expr},a.any ba=false->(assignEach a env).length=a.length/\(assignEach a env).findIdx? (·.1)=none
 |[],_=>%[rfl|rfl]
 | e::a,h=>by
   rw[Zy,Xa]at h;rw[dC h.1];have b:=jh (env:=env) h.2;refine%[by rw[Zr,Zr,b.1]|?_];rw[List.findIdx?_cons,b.2];rfl
noncomputable def e8:Expr->Bool
 | .ListComp _ _ _ _=>true
 | .SetComp _ _ _ _=>true
 | .DictComp _ _ _ _ _=>true
 | _=>false
theorem ii(h:e8 e=false):swapsWith e t l env=pure false:=by
 cases e<;> first|rfl|cases(show true=false from h)
noncomputable def vv:Expr->Bool
 | .Tuple _ _ _=>true
 | _=>false
theorem vw(h:vv e=false):swappedStores [t] e env=pure none:=by
 cases e with
 | Tuple _ _ _=>cases(show true=false from h)
 | _=>cases t<;> rfl
noncomputable def fZ:Expr->Bool
 | .Call _ _ _ _=>true
 | _=>false
theorem e9(h:fZ o=false):attributeBase o a env w=w:=by
 cases o<;> first|rfl|cases(show true=false from h)
noncomputable def m7:Expr->Bool
 | .Set _ _ _=>true
 | _=>false
theorem kz(h:m7 e=false)(x:Value):foldedSetIterable e env x=pure x:=by
 cases e<;> first|rfl|cases(show true=false from h)
structure QE (X:Cx) (e:Expr) (t:TE):Prop where
 h:PE X e t
structure QT (X:Cx) (e:Expr) (t:TT):Prop where
 h:PT X e t
structure QW (X:Cx) (e:Expr) (t:TT):Prop where
 h:PW X e t
structure QA (X:Cx) (es:List Expr) (t:TA):Prop where
 h:PA X es t
structure QS (X:Cx) (st:Stmt) (t:TS):Prop where
 h:PS X st t
structure QSs (X:Cx) (st:List Stmt) (t:TS):Prop where
 h:PSs X st t
structure QG (X:Cx) (e:Expr) (t:TG):Prop where
 h:PG X e t
structure QGs (X:Cx) (es:List Expr) (t:TGs):Prop where
 h:PGs X es t
structure QI (X:Cx) (tg iter:Expr) (wi:TI):Prop where
 h:PI X tg iter wi
structure QO (X:Cx) (e:Option Expr) (t:TO):Prop where
 h:PO X e t
structure QTs (X:Cx) (ifs:List Expr) (t:TT):Prop where
 h:PTs X ifs t
structure QPs (X:Cx) (pos:Pos) (keys:List _) (values:List Expr) (trs:List _):Prop where
 h:PPs X pos keys values trs
structure OpQ (X:Cx) (f:Value->Value->Sem Value) (r:R2):Prop where
 h:OpR X f r
structure cj (X:Cx) (f:Value) (r:List V->Hp->VK->Prop):Prop where
 h:bR X f r
structure MtQ (X:Cx) (id:String) (r:V->List V->Hp->VK->Prop):Prop where
 h:MtR X id r
section
variable{X:Cx}{K:ZA}{pos:Pos}
theorem aw{i j}:QE X (.Constant (.int i) j pos) (tC (.int i)):=⟨DP⟩
theorem eBl{b j}:QE X (.Constant (.bool b) j pos) (tC (.bl b)):=⟨Gb⟩
theorem sW{j}:QE X (.Constant .none j pos) (tC .non):=⟨DQ⟩
theorem dP{x j}:QE X (.Constant (.str x) j pos) (tC (.str x)):=⟨DR⟩
theorem vn(i:Nat)(b:X.N[i]? =some x)(c:Vis X.env.scope x)(d:(x==("__debug__":Str))=false)(a:(x==("__classdict__":Str))=false):QE X (.Name x pos) (lV i):=⟨zc b c d a⟩
theorem gvE(g:Gv X.mg x v)(a:Gl X x)(b:(x==("__debug__":Str))=false):QE X (.Name x pos) (tC v):=⟨Dw g a b⟩
theorem blE(a:Gl X x)(b:X.mg x=none)(c:bootBuiltins x=some u)(r:aO v u)(f:(x==("__name__":Str))=false)(d:(x==("__debug__":Str))=false):QE X (.Name x pos) (tC v):=
 ⟨BV a b c r (λe=>by lia) d⟩
theorem ao:QA X [] xI:=⟨Ev⟩
theorem paE(a:ba e=false)(b:QE X e c)(d:QA X f t):QA X (e::f) (zH c t):=⟨Cc b.h d.h (az a)⟩
theorem calE(C:Cal X.prog X.w X.K X.mg X.base j x ps sp)(f:bQ k X.A)(g:Gl X x)(a:Nat.ble j k=true)
 (b:(x==("__debug__":Str))=false) (c:(e::d).any ba=false) (h:QA X (e::d) t):
 QE X (.Call (.Name x p) (e::d) [] pos) (sK sp [] E0 t):=by
 rw[Zy,Xa]at c;exact⟨EZ C f g zY h.h (Nat.le_of_ble_eq_true a) b (az c.1) (eB c.2)⟩
theorem cbE{id:String}(d:cj X (.builtin id) r)(f:Gl X x)(g:X.mg x=none)(h:bootBuiltins x=some (.builtin id))(j:(x==("__name__":Str))=false)(a:(x==("__debug__":Str))=false)
 (b:(e::c).any ba=false) (i:QA X (e::c) t):QE X (.Call (.Name x p) (e::c) [] pos) (tCB r t):=by
 rw[Zy,Xa]at b;exact⟨zL d.h f g h i.h (λe=>by lia) a (az b.1) (eB b.2)⟩
theorem ctE(d:cj X (.type T) r)(f:Gl X x)(g:X.mg x=none)(h:bootBuiltins x=some (.type T))(j:(x==("__name__":Str))=false)(a:(x==("__debug__":Str))=false)
 (b:(e::c).any ba=false) (i:QA X (e::c) t):QE X (.Call (.Name x p) (e::c) [] pos) (tCB r t):=by
 rw[Zy,Xa]at b;exact⟨xM d.h f g h i.h (λe=>by lia) a (az b.1) (eB b.2)⟩
theorem bmE{T id:String}(h:X.K=K)(m:PlainAttrs T)(slot:Slot T name id)(i:typeOf (.builtin id)=pure (.type "method_descriptor"))(n:MtQ X id r)
 (b:fZ o=false) (a:(e::g).any ba=false) (j:Nat.blt (e::g).length 30=true) (c:(d.endLine==f.line)=true) (p:QE X o q) (s:QA X (e::g) t):
 QE X (.Call (.Attribute o name d) (e::g) [] f) (tBM K T r q t):=by
 have l:=a;rw[Zy,Xa]at l;refine⟨Ai h m slot i n.h p.h s.h (e9 b) ?_ c (az l.1) (eB l.2)⟩;rw[rh a];have:decide ((e::g).length+([]:List Keyword).length+(if([]:List Keyword).isEmpty then 0 else 1)<30)=true:=Zf ((Nat.blt_eq.mp j));rw[this];rfl
theorem Gx{T id:String}(h:X.K=K)(f:PlainAttrs T)(slot:Slot T name id)(e:typeOf (.builtin id)=pure (.type "method_descriptor"))(g:MtQ X id r)
 (a:fZ o=false) (b:(c.endLine==d.line)=true) (i:QE X o j):QE X (.Call (.Attribute o name c) [] [] d) (Ck K T r j):=⟨CI h f slot e g.h i.h (e9 a) b⟩
theorem gO(b:Gl X "range")(c:X.mg "range"=none)(d:ba a=false)(e:QA X [a] f):QI X g (.Call (.Name "range" p) [a] [] pos) (zv f):=⟨xB b c e.h (az d)⟩
theorem cN(h:X.K=K)(a:QE X l b):QI X c l (CG K b):=⟨CH h a.h⟩
section
variable{a b c:Expr}{ta tb tc:TE}{op op':CmpOp}{r r':R2}
theorem vx(e:OpQ X (compareOp op) r)(d:OpQ X (compareOp op') r')(f:lastMarks [op,op'] [b,c]=false)(g:QE X a ta)(h:QE X b tb)(i:QE X c tc):QE X (.Compare a [op,op'] [b,c] pos) (uZ r r' ta tb tc):=⟨zB e.h d.h g.h h.h i.h f⟩
theorem jB(d:OpQ X (compareOp op) r)(e:behindInMarks op b=false)(f:QE X a ta)(g:QE X b tb):QE X (.Compare a [op] [b] pos) (tOp r ta tb):=⟨B6 d.h f.h g.h e⟩
theorem bz(d:OpQ X (compareOp op) r)(e:behindInMarks op b=false)(f:QE X a ta)(g:QE X b tb):QT X (.Compare a [op] [b] pos) (wB (tOp r ta tb)):=⟨B7 d.h f.h g.h e⟩
theorem opE{op:Operator}(d:OpQ X (binaryOp op) r)(e:QE X a ta)(f:QE X b tb):QE X (.BinOp a op b pos) (tOp r ta tb):=⟨Gg d.h e.h f.h⟩
theorem sX(d:QE X a ta):QE X (.UnaryOp .USub a pos) (tUn (rU λi=> .int (-i)) ta):=⟨Gh Em d.h⟩
theorem slE{lo hi:Option Expr}(h:X.K=K)(d:QE X a ta)(e:QO X lo f)(g:QO X hi i):QE X (.Subscript a (.Slice lo hi none j) pos) (tSl (CF K) ta f i):=⟨sM (slK h) d.h e.h g.h⟩
theorem noO:QO X none qV:=⟨Cf⟩
theorem jC(h:QE X a ta):QO X (some a) (zN ta):=⟨Cg h.h⟩
theorem oY{op}(h:QE X a ta):QE X (.BoolOp op [a] pos) ta:=⟨Ea h.h⟩
theorem m8{rest:List Expr}(d:QE X a ta)(e:QE X (.BoolOp .And (b::rest) pos) tb):QE X (.BoolOp .And (a::b::rest) pos) (ze ta tb):=⟨Eb d.h e.h⟩
theorem orV{rest:List Expr}(d:QE X a ta)(e:QE X (.BoolOp .Or (b::rest) pos) tb):QE X (.BoolOp .Or (a::b::rest) pos) (DZ ta tb):=⟨Ge d.h e.h⟩
theorem cX(h:QA X d t):QE X (.List d pos) (Ex t):=⟨Ez h.h⟩
theorem iW{d}(h:QA X e t):QE X (.Tuple e d pos) (Ew t):=⟨Ey h.h⟩
theorem pZ:QE X (.Dict [] [] pos) vk:=⟨zV⟩
variable{tA tB':TT}{rest:List Expr}
theorem ik(d:QT X a tA):QT X (.UnaryOp .Not a pos) (DT tA):=⟨DW d.h⟩
theorem im(d:QT X a tA):QW X (.BoolOp .And [a] pos) tA:=⟨BX d.h⟩
theorem kA(d:QT X a tA):QW X (.BoolOp .Or [a] pos) tA:=⟨DU d.h⟩
theorem kB(d:QT X a tA)(e:QW X (.BoolOp .And (b::rest) pos) tB'):QW X (.BoolOp .And (a::b::rest) pos) (BW tA tB'):=⟨DV d.h e.h⟩
theorem orW(d:QT X a tA)(e:QW X (.BoolOp .Or (b::rest) pos) tB'):QW X (.BoolOp .Or (a::b::rest) pos) (tOr tA tB'):=⟨Gd d.h e.h⟩
theorem wT(h:QW X a tA):QT X a tA:=⟨PW.pt h.h⟩
theorem eY(h:X.K=K)(f:∀d,isTrue a X.env d=(do let v<-d;standAt a.pos;holding [v] (truthy v)))(g:QE X a ta):QT X a (λi H Q=>ta i H λx e=>∃k,zC K x e k/\Q k e):=⟨xY h g.h f⟩
theorem jD:QTs X [] zZ:=⟨Cv⟩
theorem p7(h:QT X c tA):QTs X [c] tA:=⟨Cw h.h⟩
end
theorem d8(S:aC X c e f)(l:X.calm=true)(m:m7 iter=false)(hi:QI X j iter n)
 (o:∀a b d,QG (bS X c e a b d) j g) (p:∀a b d,QTs (bS X c e a b d) h q) (r:∀a b d,QE (bS X c e a b d) i s):
 QE X (.ListComp i [%[j,iter,h|0]] c pos) (pV n e.length f g q s):=⟨Cz S l hi.h (λa b d=>(o a b d).h) (λa b d=>(p a b d).h) (λa b d=>(r a b d).h) (kz m)⟩
theorem bn:QSs X [] zf:=⟨BY⟩
theorem aj{st:Stmt}{rest:List Stmt}(a:QS X st t)(b:QSs X rest u):QSs X (st::rest) (bw t u):=⟨zg a.h b.h⟩
theorem ar{st:Stmt}(a:QS X st t):QSs X [st] t:=⟨BZ a.h⟩
theorem ifS(d:QT X c e)(f:QSs X a t)(g:QSs X b u):QS X (.If c a b pos) (ko e t u):=⟨Gf d.h f.h g.h⟩
theorem aT(a:QE X e b):QS X (.Return (some e) pos) (jy b):=⟨Ec a.h⟩
theorem io{st:Stmt}:QS X st zh:=⟨zi⟩
theorem cO(c:PassesOwn (model X.prog X.w) X.A X.env X.xe)(d:X.calm=true)(e:m7 iter=false)(hi:QI X b iter f)(h:QG X b g)(i:QSs X a j):
 QS X (.For b iter a [] pos) (uY f g j):=⟨Eh c d hi.h h.h i.h (kz e)⟩
theorem oZ(i:Nat)(b:X.N.Nodup)(hi:X.N[i]? =some x)(c:Loc X.env.scope x)(d:X.fn x=true\/X.env.scope.names.lookup x=some .local)(f:e8 e=false)(g:QE X e h):
 QS X (.Assign [.Name x a] e pos) (qQ h (iZ i)):=⟨zo b hi c g.h (ii f) d⟩
theorem cc(a:e8 e=false)(b:QE X e c):QS X (.Expr e pos) (jx c):=⟨B0 b.h (ii a)⟩
theorem CJ(c:e8 e=false)(hw:vv e=false)(a:ba b=false)(d:QE X e f)(h:QG X b g):QS X (.Assign [b] e pos) (qQ f g):=
 ⟨Eg d.h h.h (ii c) (vw hw) (by rw[dC a];rfl)⟩
theorem wH(i:Nat)(a:X.N.Nodup)(hi:X.N[i]? =some x)(b:Loc X.env.scope x)(c:X.fn x=true\/X.env.scope.names.lookup x=some .local):QG X (.Name x pos) (iZ i):=⟨B1 a hi b c⟩
theorem db:QGs X [] Ee:=⟨B2⟩
theorem gsE(a:ba e=false)(b:QG X e t)(c:QGs X d u):QGs X (e::d) (zj t u):=⟨zk b.h c.h (by rw[dC a];rfl)⟩
theorem f6(c:X.K=K)(d:X.calm=true)(b:a.any ba=false)(h:QGs X a t):QG X (.Tuple a k pos) (B3 K a.length t):=by
 subst c;exact⟨Ef d h.h (jh b).1 (jh b).2⟩
theorem Gy:QPs X pos [] [] []:=⟨Cq⟩
theorem E5(b:QE X k tk)(c:QE X v d)(e:QPs X pos ks vs a):QPs X pos (some k::ks) (v::vs) ((tk,d)::a):=⟨zX b.h c.h e.h⟩
theorem Gz(c:a.all (·.isSome)=true)(g:a.length=b.length)(i:a.isEmpty=false)(d:Nat.ble a.length 15=true)(h:QPs X pos a b f):QE X (.Dict a b pos) (Du f):=
 ⟨Cr h.h c g (λe=>by subst e;cases i) (Nat.le_of_ble_eq_true d)⟩
theorem fA:OpQ X (binaryOp .Add) Ae:=⟨CC⟩
theorem m9:OpQ X (binaryOp .Sub) (rI0 λi j=> .int (i-j)):=⟨Ek⟩
theorem rj:OpQ X (binaryOp .Mult) Af:=⟨CD⟩
theorem bK:OpQ X (binaryOp .Mod) (rI (λ_ j=>0<j) λi j=> .int (i%j)):=⟨El⟩
theorem cJ:OpQ X (binaryOp .FloorDiv) (rI Gj λi j=> .int (i/j)):=⟨B4⟩
theorem cE:OpQ X (compareOp .Eq) ES:=⟨ET⟩
theorem d9:OpQ X (compareOp .NotEq) EU:=⟨EV⟩
theorem vy:OpQ X (compareOp .Lt) (rI0 λi j=> .bl (decide (i<j))):=⟨Gn⟩
theorem xZ:OpQ X (compareOp .LtE) (rI0 λi j=> .bl (decide (i<=j))):=⟨Go⟩
theorem Am:OpQ X (compareOp .Gt) (rI0 λi j=> .bl (decide (j<i))):=⟨Gp⟩
theorem wI:OpQ X (compareOp .Is) (λx y H Q=>y= .non/\Q (.bl (decide (x= .non))) H):=⟨Eo⟩
theorem E6:OpQ X (compareOp .IsNot) (λx y H Q=>y= .non/\Q (.bl (!decide (x= .non))) H):=⟨B5⟩
theorem x4(h:X.K=K):OpQ X (compareOp .In) (Ag K):=⟨E4 h⟩
theorem cL(h:X.K=K):cj X (.builtin "len") (λxs H Q=>∃x n,xs=[x]/\B8 K x H n/\Q (.int n) H):=⟨xV h⟩
theorem An(h:X.K=K)(a:X.calm=true):cj X (.builtin "all") (λxs H Q=>∃(p:Addr) (bs:List Bool),xs=[.ref p]/\SqL K H p (bs.map V.bl)/\Q (.bl (bs.all id)) H):=⟨xW h a⟩
theorem Dx(a:X.calm=true):cj X (.builtin "max") (λxs H Q=>∃i j,xs=[.int i,.int j]/\Q (.int (if j>i then j else i)) H):=⟨xE a⟩
theorem GA(a:X.calm=true):cj X (.builtin "min") (λxs H Q=>∃i j,xs=[.int i,.int j]/\Q (.int (if j<i then j else i)) H):=⟨xF a⟩
theorem ip(h:X.K=K):cj X (.builtin "isinstance") (λxs H Q=>∃x n t b,xs=[x,.ty n]/\je K H x t/\kitOne K t (.type n)=some b/\Q (.bl b) H):=⟨xX h⟩
theorem Dy:cj X (.type "int") (λxs H Q=>(∃i,xs=[.int i]/\Q (.int i) H)\/∃k,xs=[.bl k]/\Q (.int (if k then 1 else 0)) H):=⟨xG⟩
theorem kC(h:X.K=K):cj X (.type "list") (λxs H Q=>∃p ys,xs=[.ref p]/\(SqL K H p ys\/SqT K H p ys)/\∀l,H l=none->Q (.ref l) (upd H l (.lst ys))):=⟨vq h⟩
theorem bA:MtQ X "list.append" q0:=⟨pQ⟩
theorem sY:MtQ X "list.extend" rc:=⟨xO⟩
theorem CL:MtQ X "list.clear" vh:=⟨zS⟩
theorem ro(h:X.K=K):MtQ X "str.join" (wG K):=⟨Ah h⟩
end
open PySem PySem.Spec PyProof.Rows PySem.SeqAt
section
variable{X:Cx}{pins:ZE}{σ:St}{H:Hp}{s:Shared}
variable{h':Heap}{tk:Nat}{fp:List Addr}
theorem Inv.moved(I:Inv X pins σ H s)(c:∀b∈fp,lW X pins H b)(d:∀b o,b∉fp->s.heap.get? b=some o->h'.get? b=some o):Inv X pins σ H {s with heap:=h',toks:=tk}:=by
 have f:∀b v,H b=some v->b∉fp:=λb v e a=>by rw[(c b a).1]at e;cases e
 refine I.step (λb a=>%[(c b a).2.2.2.1,(c b a).2.1,(c b a).2.2.2.2.1|(c b a).2.2.2.2.2]) (λb o _ _ g e _=>d b o g e) (λb o _ _ g e _=>%[o.slots|d b o g e]) (λ_ _ _ _ n=>n)
  (λb o g e=>%[o|d b o g e]) (λ_ _ e=>e) (λ_ _ _ e=>e) (λb ps e=>%[#[]|by rw[e];simp]) (λm l=>?_) (λb v e=>?_) I.bare
 .have%[o,p,u,w|r]:=l;exact%[o,p,u,d _ o (λa=>(c _ a).2.1 rfl) w|r]
 .refine(I.hok b v e).stay (λj y h q=>d j y ?_ q) (λ_ q=>q) λ_ _ q=>q
  rcases h with i|i
  .exact i▸f b v e
  .exact f j _ i
theorem Inv.stood(I:Inv X pins σ H s)(J:Inv X pins σ H {s with heap:=h',toks:=tk})(c:⇑s<=a)(new:cD X.prog X.w (upd H a o) h' a o):Inv X pins σ (upd H a o) {s with heap:=h',toks:=tk}:=by
 have d:=I.hok.fresh c;refine%[J.ok,J.os,J.bare,?_,J.loc,J.cell,?_,?_,?_,?_|J.len]
 .refine%[J.base.keep,J.base.slot,λb o e n j=>?_,J.base.there,λb xs e=>?_,λb o v e=>?_|λb ps e=>?_]
  .rw[ak ((λb o e=>Zt (Zg (Zg (Zv e) I.sz) c)) b o e)];exact J.base.free b o e n j
  .rw[ak (av (J.base.tups b xs e) d)];exact J.base.tups b xs e
  .rw[ak (av (J.base.frzs b o v e) d)];exact J.base.frzs b o v e
  .have%[m|q]:=J.base.tbls b ps e;exact%[m|(ak (av q d))▸q]
 .rw[ak (Zt (Zg I.lt c))];exact J.free
 .intro g f e;have%[l|q]:=I.cell g f e;rw[ak (Zt (Zg q.lt c))];exact J.freeC g f e
 .intro p h;have%[e,n|r]:=J.pin p h;refine%[e,?_|r];rw[ak (Zt (Zg (Zv (I.pin p h).1) c))];exact n
 .intro b v e;by_cases i:b=a
  .subst i;rw[aa]at e;cases e;exact new
  .rw[ak i]at e;refine(J.hok b v e).stay (λ_ _ _ q=>q) (λf q=>?_) λf xs q=>?_
   .rw[ak (av q d)];exact q
   .rw[ak (av q d)];exact q
end
def vz:V->List V->Hp->VK->Prop:=λx vs H Q=>∃z y,x= .str z/\vs=[.str y]/\1<=y.length/\z.length+2<=sizeLine/\∀l,H l=none->Q (.ref l) (upd H l (.lst ((Txt.split z y).map V.str)))
theorem p8:∀ss k,aD (ss.map V.str) (strsFrom k ss)
 |[],_=> .nil
 | _::r,k=> .cons %[_|rfl] (p8 r _)
theorem Ao{X:Cx}:MtM X "str.split" vz:=by
 intro pins s m H x vs v us Q I g i h;have%[z,y,rfl,rfl,n,o|q]:=h;have%[t|rfl]:=g;have%[p,rfl|j]:=i.one;have%[u|rfl]:=j;have b:(y.length==0)=false:=by simp;lia
 have l:=split_le z y;by_cases c:(decide (z.length<y.length)||decide (Builtin.Str.strKind z<Builtin.Str.strKind y))=true
 .have e:Txt.split z y=[z]:=if_pos c;rw[e]at q;exact call_meets F.slot_str_split (typeIs_str _ _ _) F.entry_str_split (F.args_str_split_2 _ _) (meets_str_split_cannot_occur z y t u c) %[.ref _,_,I.lnew (ys:=[.str z]) (.cons %[_|rfl] .nil) (by show 1<=sizeLine;decide),rfl|q _ I.fresh]
 .have d:=Bool.eq_false_iff.mpr c;by_cases f:(Builtin.Str.occurrences z y 0 z.length (z.length+1)).isEmpty=true
  .have e:Txt.split z y=[z]:=(if_neg c).trans (if_pos f);rw[e]at q;exact call_meets F.slot_str_split (typeIs_str _ _ _) F.entry_str_split (F.args_str_split_2 _ _) (meets_str_split_not_found z y t u d b f) %[.ref _,_,I.lnew (ys:=[.str z]) (.cons %[_|rfl] .nil) (by show 1<=sizeLine;decide),rfl|q _ I.fresh]
  .have e:Txt.split z y=Builtin.Str.partsBetween z _ y.length:=(if_neg c).trans (if_neg f);have a:(Builtin.Str.partsBetween z (Builtin.Str.occurrences z y 0 z.length (z.length+1)) y.length).length<=sizeLine:=by rw[<-e];lia
   refine call_meets F.slot_str_split (typeIs_str _ _ _) F.entry_str_split (F.args_str_split_2 _ _) (meets_str_split_sep z y t u d b (Bool.eq_false_iff.mpr f) ⋯ a) ?_;rw[<-e]at a ⊢;exact%[.ref _,_,I.lnew (p8 _ _) (by rw[Z6];exact a),rfl|q _ I.fresh]
theorem wJ{X:Cx}:MtQ X "str.split" vz:=⟨Ao⟩
noncomputable def Ite(K:ZA)(a:Addr)(xs:List V):It:=⟨λi H=>SqL K H a xs/\i<xs.length,λi H v b=>∃x T,xs[i]? =some x/\H T=none/\v= .ref T/\b=upd H T (.tup [.int i,x]),λi H=>SqL K H a xs/\xs.length<=i⟩
def ESt(e it a:Addr)(i:Nat)(h:Heap):Prop:=(∃b,IsEnum h e it i b)/\h.IsListIter it a i
theorem x5{P:Program}{K:ZA}(e it a:Addr)(xs:List V)(hne:e≠it):qR P w K (.Tuple elts kt tp) (Ite K a xs) [e,it] e (ESt e it a) where
 mem:=by simp
 obj:=λi h st b hb=>by
  have%[%[old|he],o1,e1,_|d1]:=st;simp only[Yx,X9,or_false]at hb;rcases hb with rfl|rfl
  .exact%[_,he|λv q=>nomatch q]
  .exact%[o1,e1|λv q=>by rw[d1]at q;cases q]
 keep:=λi h h' st k=>by
  have%[%[old|he],o1,e1|r1]:=st;exact%[%[old|k e ∅ _ he],o1,k it ∅ _ e1|r1]
 item:=by
  intro X hP hw hK hc i pins s σ H E I hf st hg;subst hP hw hK;have%[%[old|he]|hit]:=st;obtain⟨hq,hi⟩:SqL X.K H a xs/\i<xs.length:=hg;have%[its,rv,p|hz]:=I.list hq;have%[u,hu|ru]:=rv.get (i:=i) (x:=xs[i]) ∅;refine wpAny_pyNext_enum_item he hit p.isList (by simpa using hu) hne λh1 he1 hit1 ht1 hz1 hk1=>%[_,rfl|wpAny_letOwnedTupleGo_enum he1 λh2 he2 sb2=>?_]
  replace sb2:SameBut e h1 h2:=sb2;have elt:=Zv he;have kk:∀b o,b∉[e,it]->s.heap.get? b=some o->h2.get? b=some o:=λb o hb q=>by
   simp only[Yx,X9,or_false,not_or]at hb;exact(sb2.2 b hb.1).trans (hk1 b o hb.1 hb.2 q)
  have J:Inv X pins σ H {s with heap:=h2,toks:=s.toks+1}:=I.moved hf kk;have I2:Inv X pins σ (upd H ⇑s (.tup [.int i,xs[i]])) _:=
   I.stood J (Zi _) %[by show 2<=sizeLine;decide,[.int i s.toks,u],.cons %[_|rfl] (.cons ru .nil),_,((sb2.2 _ (X3 elt)).trans ht1),rfl,_|rfl]
  refine%[.ref ⇑s,_,I2,rfl,%[xs[i],_,by simp,I.fresh,rfl|rfl],%[%[u|he2]|?_]|λb hb=>?_]
  .have%[o,q|r]:=hit1;exact%[o,(sb2.2 _ (Ne.symm hne)).trans q|r]
  .have:b<⇑s:=by
    simp only[Yx,X9,or_false]at hb;rcases hb with rfl|rfl
    .exact elt
    .exact(by have%[o,q|_]:=hit;exact Zv q)
   rw[ak (Zt this)];exact(hf b hb).1
 done:=by
  intro X hP hw hK hc i pins s σ H E I hf st hg;subst hP hw hK;have%[%[old|he]|hit]:=st;obtain⟨hq,hi⟩:SqL X.K H a xs/\xs.length<=i:=hg;have%[its,rv,p|hz]:=I.list hq;have hl:=rv.length;refine wpAny_pyNext_enum_end (I.ok.hd hc) he hit p.isList (by simp;lia) λh1 xb=>%[rfl|I.moved hf λb o hb q=>?_]
  simp only[Yx,X9,or_false,not_or]at hb;exact xb b o hb.2 q
 self:=λA i s Q E st h=>by
  have%[%[old|he]|hit]:=st;exact wpAny_pyIter_enum he h
def Dz(K:ZA)(c:TA):TI:=λd H R=>c d H λvs b=>∃a xs,vs=[.ref a]/\SqL K b a xs/\R (Ite K a xs) b
section
variable{X:Cx}{K:ZA}{pos:Pos}
theorem wK(m:X.K=K)(n:Gl X "enumerate")(o:X.mg "enumerate"=none)(r:ba a=false)(v:QA X [a] w):
 QI X (.Tuple g L M) (.Call (.Name "enumerate" p) [a] [] pos) (Dz K w):=by
 subst m
 constructor
 intro pins s y H R I h;refine Call_ (jd I n o boot_enumerate (PyProof.Rows.callWith_type1 (thP (v.h pos pins s y H _ I h) λus d vs z c A B=>?_) (az r) rfl));have%[l,xs,e,C|q]:=B;subst e;have%[u,rfl|E]:=cP A;cases E;have%[its,N,p|O]:=c.list C;refine call_enumerate_list p.isList λQ i f G J=>wpAny_pyIter_enum i %[⇑d+1,[⇑d+1,⇑d],ESt _ ⇑d l,Ite X.K l xs,z,rfl,(c.kept J),x5 _ _ _ _ (Nat.succ_ne_self _),%[%[_|i]|f],λb j=>?_|q]
 simp only[Yx,X9,or_false]at j;rcases j with rfl|rfl
 .exact c.fpOk (Yh _) (c.hok.fresh (Yh _))
 .exact c.fpOk (Zi _) (c.hok.fresh (Zi _))
end
section
variable(h:Heap)(x y:Str)(t u:Tok)
noncomputable abbrev zs1:Heap:=h.push {cls:= .type (strIterType x),data:= .fields #[.str x t,.int 0 0]}
noncomputable abbrev zs2:Heap:=(zs1 h x t).push {cls:= .type (strIterType y),data:= .fields #[.str y u,.int 0 0]}
noncomputable abbrev zs3:Heap:=(zs2 h x y t u).push {cls:= .type "tuple",data:= .seq #[.ref h.objs.size,.ref (zs1 h x t).objs.size]}
noncomputable abbrev zs4:Heap:=(zs3 h x y t u).push {cls:= .type "tuple",data:= .seq #[.none,.none]}
noncomputable abbrev zs5:Heap:=(zs4 h x y t u).push {cls:= .type "zip",data:= .fields #[.none,.bool false,.bool false,.ref (zs2 h x y t u).objs.size,.ref (zs3 h x y t u).objs.size]}
end
theorem l7(x y:Str)(t u:Tok):
 Meets (Builtin.«zip.__new__» %[[.type "zip",.str x t,.str y u]|[]]) (λ_ R s=>R (.ok (.ret (.ref (zs4 s.heap x y t u).objs.size))) {s with heap:=zs5 s.heap x y t u}):=
 .of_wp λprog w A R s b=>by
  have%[c,g,d,tk|os]:=s;have a:=PySem.sub_zip
  wp_walk using wpAny_pyIter_strU (x:=x) (t:=t),wpAny_pyIter_strU (x:=y) (t:=u)
  exact%[_,rfl|b]
section
#where
theorem ng
 (h:∀h',IsZip h' (⇑s+4) (⇑s+2) (⇑s+3) .none->IsPair h' (⇑s+2) (.ref ⇑s) (.ref (⇑s+1))->IsPair h' (⇑s+3) .none .none->
  h'.IsStrIter ⇑s (strIterType x) x t 0->h'.IsStrIter (⇑s+1) (strIterType y) y u 0->(∀c o,s.heap.get? c=some o->h'.get? c=some o)->Q (.ref (⇑s+4)) {s with heap:=h'}):
 ↥A (call (.type "zip") [.str x t,.str y u]) Q E s:=by
 refine callType_new F.called_zip (by decide) (F.typeCall_zip_2 _ _) (F.newCall_zip_2 _ _) (λobj=>F.args_object_init_3 obj _ _) F.entry_zip_new (l7 x y t u) ?_;have n1:(zs1 s.heap x t).objs.size=⇑s+1:=Zq ..;have a:(zs2 s.heap x y t u).objs.size=⇑s+2:=by rw[Zq,n1]
 have b:(zs3 s.heap x y t u).objs.size=⇑s+3:=by rw[Zq,a]
 have e:(zs4 s.heap x y t u).objs.size=⇑s+4:=by rw[Zq,b]
 have f:∀c o,(zs4 s.heap x y t u).get? c=some o->(zs5 s.heap x y t u).get? c=some o:=λ_ _ q=>Z7 _ q
 have g:∀c o,(zs3 s.heap x y t u).get? c=some o->(zs5 s.heap x y t u).get? c=some o:=λc o q=>f c o (Z7 _ q)
 have i:∀c o,(zs2 s.heap x y t u).get? c=some o->(zs5 s.heap x y t u).get? c=some o:=λc o q=>g c o (Z7 _ q)
 have k2:∀c o,(zs1 s.heap x t).get? c=some o->(zs5 s.heap x y t u).get? c=some o:=λc o q=>i c o (Z7 _ q)
 have k1:∀c o,s.heap.get? c=some o->(zs5 s.heap x y t u).get? c=some o:=λc o q=>k2 c o (Z7 _ q)
 have d:(zs5 s.heap x y t u).get? (zs4 s.heap x y t u).objs.size=some _:=Zj _ rfl;have j:(zs5 s.heap x y t u).get? (zs3 s.heap x y t u).objs.size=some _:=f _ _ (Zj _ rfl);have l:(zs5 s.heap x y t u).get? (zs2 s.heap x y t u).objs.size=some _:=g _ _ (Zj _ rfl);have m:=i _ _ (Zj _ rfl);show _/\_;rw[a,b,e]at d;rw[n1,a]at l;rw[b]at j;rw[n1]at m;rw[e];exact%[%[_,d|rfl]|h _ d l j %[_,(k2 _ _ (Zj _ rfl)),rfl|rfl] %[_,m,rfl|rfl] k1]
end
def DC(a:TA):TI:=λb H R=>a b H λvs c=>∃x y,vs=[.str x,.str y]/\R (Itz x y) c
section
variable{X:Cx}{K:ZA}{pos:Pos}
theorem Ap(v:Gl X "zip")(w:X.mg "zip"=none)(z:ba a=false)(f:ba b=false)(A:QA X [a,b] B):
 QI X (.Tuple n M N) (.Call (.Name "zip" p) [a,b] [] pos) (DC B):=by
 constructor
 intro pins s C H R I h;refine Call_ (jd I v w boot_zip (PyProof.Rows.callWith_type1 (thP (A.h pos pins s C H _ I h) λus c vs E g G J=>?_) (az z) (by rw[az f];rfl)));have%[x,y,e|q]:=J;subst e;have%[O,Q,rfl,%[t|rfl],u|rfl]:=hW G;refine ng λT o l m hi1 hi2 L=>wpAny_pyIter_zip o ?_
 have ne:∀i j,i≠j->⇑c+i≠⇑c+j:=λi j h e=>h (Nat.add_left_cancel e)
 refine%[⇑c+4,[⇑c+4,⇑c+2,⇑c+3,⇑c+0,⇑c+1],_,Itz x y,E,rfl,(g.kept L),
  Al _ _ _ _ _ x y t u %[ne 2 4 (by decide),ne 3 4 (by decide),ne 0 4 (by decide),ne 1 4 (by decide),ne 2 3 (by decide),ne 2 0 (by decide),ne 2 1 (by decide),ne 3 0 (by decide),ne 3 1 (by decide)|ne 0 1 (by decide)],
  %[o,l,%[_,_|m],hi1|hi2],λb r=>?_|q]
 have d:⇑c<=b:=by
  simp only[Yx,X9,or_false]at r;rcases r with rfl|rfl|rfl|rfl|rfl<;> exact le_add_right _ _
 exact g.fpOk d (g.hok.fresh d)
end
inductive D where
 | non|bl (b:Bool)|int (i:Int)|str (x:Str)|lst (ds:List D)|tup (ds:List D)
section
variable{K:ZA}{H H':Hp}
theorem af.seqT(e:af H H')(h:SqT K H a xs):SqT K H' a xs:=by
 rcases h with(h|⟨o,h⟩)|h
 .exact .inl (.inl (e _ _ h))
 .exact .inl (.inr %[o|e _ _ h])
 .exact .inr h
end
section
variable{X:Cx}{pins:ZE}{σ:St}{H:Hp}{s:Shared}
end
theorem vA{X:Cx}(J:X.N.Nodup)(u:X.N[i]? =some x)(L:Loc X.env.scope x)(M:X.fn x=true\/X.env.scope.names.lookup x=some .local)
 (w:swapsWith (.ListComp l [%[y,iter,p|0]] a pos) (some (.Name x B)) f.line X.env=pure true) (S:aC X a r A) (N:X.calm=true) (O:∀x,foldedSetIterable iter X.env x=pure x) (hi:PI X y iter Q)
 (T:∀c d j,PG (bS X a r c d j) y g) (U:∀c d j,PTs (bS X a r c d j) p Y) (he:∀c d j,PE (bS X a r c d j) l te):
 PS X (.Assign [.Name x B] (.ListComp l [%[y,iter,p|0]] a pos) f) (qQ (pV Q r.length A g Y te) (iZ i)):=by
 intro pins s σ H D I h;refine Z2 (wpAny_standAt ?_);show wpAny _ _ (swapsWith (.ListComp l _ a pos) (some (.Name x B)) f.line X.env>>= _) _ _ _;rw[w];refine Z2 (Z3 (Z2 (Z2 (pW S N hi T U he O I h λD' C H5 s6 fl m hn j k q=>?_))));have%[o,es,ep,E,hd|hr]:=id hn;have I7:=(k s6.heap (SameBut.refl _ _)).pinned (λb n=>(Xr n)▸j) λb n=>by
  rw[Xr n];exact%[o,E|λv z=>by lia]
 refine wpAny_assign_Name (mK I7 J u L (v:= .ref D') rfl (λs8 G=>%[m,%[o,es,ep,((G.pin _ (Yw _ (Yw _ (eN (mem_singleton.mpr rfl) E)))).1),hd|hr]|λh' sb=>Z3 (Z3 %[_,H5,(G.unpinned).moved (λb n=>(Xr n)▸j) λb o' n e=>(sb.2 b (λz=>n (mem_singleton.mpr z))).trans e|q])]) M)
theorem x6(h:(env.blockKind== .function&&env.kindOf x==some .local&&b.line==pos.line&&!(a.names.any λ(n,k)=>n==x&&(k== .local||k== .cell)))=true):
 swapsWith (.ListComp c gens a pos) (some (.Name x b)) l env=pure true:=by
 show(pure (env.blockKind== .function&&env.kindOf x==some _&&b.line==pos.line&&!(a.names.any _)))=pure true;rw[h]
theorem jE{X:Cx}(i:Nat)(q:X.N.Nodup)(f:X.N[i]? =some x)(r:Loc X.env.scope x)(s:X.fn x=true\/X.env.scope.names.lookup x=some .local)
 (h:(X.env.blockKind== .function&&X.env.kindOf x==some .local&&u.line==pos.line&&!(c.names.any λ(n,k)=>n==x&&(k== .local||k== .cell)))=true) (S:aC X c e j) (v:X.calm=true) (w:m7 iter=false) (hi:QI X o iter y)
 (z:∀a b d,QG (bS X c e a b d) o g) (A:∀a b d,QTs (bS X c e a b d) l B) (C:∀a b d,QE (bS X c e a b d) m E):
 QS X (.Assign [.Name x u] (.ListComp m [%[o,iter,l|0]] c pos) p) (qQ (pV y e.length j g B E) (iZ i)):=
 ⟨vA q f r s (x6 h) S v (kz w) hi.h (λa b d=>(z a b d).h) (λa b d=>(A a b d).h) (λa b d=>(C a b d).h)⟩
section
variable{X:Cx}{pins:ZE}{σ:St}{H:Hp}{s:Shared}
end
section
variable{X:Cx}{K:ZA}
end
theorem bV:Slot "set_iterator" "__next__" "set_iterator.__next__":=
 .of (owner:="set_iterator") (n:="__next__") (by rw[typeLookup_type,builtinLookup_eq_fast];kernel_rfl) (by decide +kernel) (by decide +kernel) (by decide +kernel) (by first|exact .inl (by decide +kernel)|exact .inr ∅) (by kernel_rfl)
theorem fF:entryFor table "set_iterator.__next__"=some Builtin.«set_iterator.__next__»:=entryFor_of_tree (by kernel_rfl)
theorem gP(a:Value):argsOk "set_iterator.__next__" %[[a]|[]]:=by kernel_rfl
theorem pc:entryFor table "set.__iter__"=some Builtin.«frozenset.__iter__»:=entryFor_alias (id':="frozenset.__iter__") (by kernel_rfl) rfl (by decide +kernel) (by kernel_rfl)
theorem pd(t:SetTable)(n:Nat):(t.orStandIn n).led=t.led:=by unfold SetTable.orStandIn;split<;> rfl
theorem vB(t:SetTable)(a:Array _)(h:Int)(x:Value):(layNew t a h x).2.1.led=t.led:=by
 unfold layNew;cases t.freeSlot h with
 | none=>rfl
 | some p=>
   exact pd _ _
theorem rq(t:SetTable)(c:Array _)(n:Nat):(relayAll t c n).2.1.led=t.led:=by
 unfold relayAll;cases a:t.relaid _ n with
 | none=>rfl
 | some p=>
   have%[t'|d]:=p;simp only
   split
   .simp only[SetTable.relaid,SetTable.laid]at a;cases b:SetTable.layClean _ _ with
    | none=>rw[b]at a;cases a
    | some f=>rw[b]at a;injection a with a;injection a with e g;rw[<-e]
   .rfl
theorem nh(t:SetTable)(c:Array _)(n:Nat)(d:t.plain=false):(relayAll t c n).2.1.plain=false:=by
 unfold relayAll;cases a:t.relaid _ n with
 | none=>rfl
 | some p=>
   have%[t'|e]:=p;simp only
   split
   .simp only[SetTable.relaid,SetTable.laid]at a;cases b:SetTable.layClean _ _ with
    | none=>rw[b]at a;cases a
    | some g=>rw[b]at a;injection a with a;injection a with f h;exact f▸d
   .rfl
noncomputable def aV(w:World):Bool:=w.params.followText "set-order"
def bi(w:World)(a:Addr)(ks:ZB)(h:Heap):Prop:=
 ∃o b c t ss,h.get? a=some o/\o.ExactSet/\o.data= .set b c t/\StrsAre (b.toList.map (·.2)) ss/\ss.Perm ks/\ks.Nodup/\(∀e∈b.toList,∃z u,e=(hashStr w z,.str z u))/\b.size<scanBound/\t.fits b.size=true/\(b.size≠0->t.plain=false)/\t.led=!aV w
theorem p9(h:∀e∈l,∃z u,e=(hashStr w z,.str z u)):ElemsOf (aE prog w) l:=λe a=>by
 have%[z,u|rfl]:=h e a;exact%[%[Sum.inr z,du z u|rfl]|rfl]
theorem dQ:∀{vs:ZF} {ss:ZB} {z:Str},StrsAre vs ss->((∃u,Value.str z u∈vs)↔z∈ss)
 | _,_,z,.nil=>by simp
 | _,_,z,.cons x t h=>by
   have b:=dQ (z:=z) h
   constructor
   .rintro⟨u,a⟩;rcases mem_cons.mp a with e|e
    .injection e with c _;exact c▸Zm
    .exact Zk _ (b.mp %[u|e])
   .intro d;rcases mem_cons.mp d with e|e
    .exact e▸%[t|Zm]
    .have%[u|a]:=b.mpr e;exact%[u|Zk _ a]
theorem iq:∀{vs ws:ZF} {ss ts:ZB},StrsAre vs ss->StrsAre ws ts->StrsAre (vs++ws) (ss++ts)
 | _,_,_,_,.nil,h=>h
 | _,_,_,_,.cons x t h,h'=> .cons x t (iq h h')
theorem bB:∀{vs:ZF} {ss:ZB},StrsAre vs ss->vs.length=ss.length
 | _,_,.nil=>rfl
 | _,_,.cons x t h=>by rw[Zr,Zr,bB h]
theorem cn(h:StrsAre vs ss)(p:ws.Perm vs):∃ts,StrsAre ws ts/\ts.Perm ss:=by
 refine%[ws.map strOf,strsAre_map ws λv a=>h.all v (p.mem_iff.mp a)|?_];have:=p.map strOf;rwa[h.strs]at this
section
#where
variable{a:Addr}
theorem bi.stored{h:Heap}{o:Obj}{i b:Array (Int×Value)}{t t':SetTable}(j:h.get? a=some o)(c:o.ExactSet)(d:o.data= .set i f t)(l:StrsAre (b.toList.map (·.2)) ss)(m:ss.Perm ks)(n:ks.Nodup)
 (p:∀e∈b.toList,∃z u,e=(hashStr w z,.str z u)) (r:b.size<scanBound) (v:t'.fits b.size=true) (y:t'.plain=false) (B:t'.led=!aV w):
 (h.update a (Obj.putSet b t')).get? a=some {o with data:= .set b (f+1) t'}/\bi w a ks (h.update a (Obj.putSet b t')):=by
 have g:=by
  have q:=get?_update_self (Obj.putSet b t') j (by rw[putSet_of b t' d];rfl);rwa[putSet_of b t' d]at q
 exact%[g,_,b,f+1,t',ss,g,c,rfl,l,m,n,p,r,v,λ_=>y|B]
theorem sZ{g:Bool->Sem Unit}(N:∀(b:Bool) (h:Shared) (q:Unit->Shared->Prop),q () h->↥A (g b) q E h){m:Bool}{R:Option Bool->Shared->Prop}(r:s.heap.get? a=some o)(i:o.ExactSet)(v:o.data= .set es ep t)
 (y:StrsAre (c.toList.map (·.2)) ss) (B:ss.Perm ks) (C:ks.Nodup) (G:∀e∈c.toList,∃z u,e=(hashStr w z,.str z u)) (j:c.size<scanBound) (O:d.fits c.size=true) (H:d.plain=false) (I:d.led=!aV w)
 (J:∀h',SameBut a s.heap h'->bi w a ks h'->R (some true) {s with heap:=h'}):
 ↥A (do
  storeSet a c d
  if(!m&&d.tooFull)=true then do
   g (relayAll d c (SetTable.grown c.size)).2.2
   storeSet a (relayAll d c (SetTable.grown c.size)).1 (relayAll d c (SetTable.grown c.size)).2.1
   pure (some true)
  else pure (some true)) R E s:=by
 have%[g1|Q]:=bi.stored r i v y B C G j O H I;have M:=SameBut.update s.heap a (Obj.putSet c d);refine Z2 (wpAny_storeSet_of r v ?_ (fits_of_scanBound j))
 split
 .have p:=relayAll_perm d c (SetTable.grown c.size);have f:=relayAll_fits d c (SetTable.grown c.size);have l:=rq d c (SetTable.grown c.size);have pl:=nh d c (SetTable.grown c.size) H
  generalize relayAll d c _=L at p f l pl ⊢
  have%[n,t3|gv]:=L;have z:n.size=c.size:=by rw[<-Zb,p.length_eq,Zb]
  have%[ts,T|U]:=cn y (p.map _);exact Z2 (N _ _ _ (Z2 (wpAny_storeSet_of g1 rfl (Z3 (J _ (M.trans (SameBut.update _ a _)) (bi.stored g1 i rfl T (U.trans B) C (λe Y=>G e (p.mem_iff.mp Y)) (by rw[z];exact j) f pl (l.trans I)).2)) (fits_of_scanBound (by rw[z];exact j)))))
 .exact Z3 (J _ M Q)
theorem jF{ks:ZB}(hS:bi w a ks s.heap)(v:ks.length+1<scanBound)
 (hQ:∀h' b,SameBut a s.heap h'->bi w a (if z∈ks then ks else ks++[z]) h'->Q b {s with heap:=h'}):↥A (setAddHashed a (.str z tk) (hashStr w z)) Q E s:=by
 have%[o,c,ep,t,ss,G,B,H,h,hp,I,l,hb,hf,ac|d]:=hS;have hn:c.size=ks.length:=by
  have q:=bB h;rw[Z6,Zb,hp.length_eq]at q;exact q
 have hE:ElemsOf (aE prog w) c.toList:=p9 l;have J:(aE prog w).is (Sum.inr z) (.str z tk)=true:=du z tk;unfold setAddHashed setAddHashedIn;refine wpAny_holding (Z2 (wpAny_setState_of G H hf ?_));dsimp only;rw[byScan_of (knd:=aE prog w) rfl hb hE];simp only[↓reduceIte];unfold setAddByScan;refine Z2 (Z2 (wpAny_rule (Z2 (wpAny_setScan_of J G H hf hE ?_))));have M:(∃e∈c.toList,(aE prog w).is (Sum.inr z) e.2=true)↔z∈ks:=by
  rw[<-hp.mem_iff,<-dQ h]
  constructor
  .rintro⟨e,m,q⟩;have%[y,u|rfl]:=l e m;have q:jw (Sum.inr z) (Value.str y u)=true:=q;rcases bj q with⟨i,t',q1,n⟩|⟨y',t',q1,n⟩
   .cases n
   .cases q1;exact%[u|Xt ⟨_,m,by injection n with e1 _;rw[e1]⟩]
  .rintro⟨u,hu⟩;have%[e,m|q]:=Xs hu;exact%[e,m|q▸du z u]
 cases hr:List.findIdx? _ c.toList with
 | some j=>
   have%[hj,ag|_]:=List.findIdx?_eq_some_iff_getElem.mp hr;have hz:=M.mp %[c.toList[j],Ye hj|ag];have q:=hQ s.heap false (SameBut.refl a s.heap) ((if_pos hz)▸%[o,c,ep,t,ss,G,B,H,h,hp,I,l,hb,hf,ac|d]);exact Z3 (Z3 q)
 | none=>
   have hz:z∉ks:=λq=>by
    have%[e,m|n]:=M.mpr q;have:=List.findIdx?_eq_none_iff.mp hr e m;rw[n]at this;cases this
   rw[if_neg hz]at hQ;have N:=layNew_perm t c (hashStr w z) (.str z tk);have lf:=layNew_fits t c (hashStr w z) (.str z tk);have ll:=vB t c (hashStr w z) (.str z tk)
   generalize hL:layNew t c _ _=L at N lf ll
   have%[C,t1,an|al]:=L;rw[toList_push]at N;have f:∀b g Q',Q' () g->↥A (match b with|true=>rule "set.scan.the-table-gave-way"|false=>pure ()) Q' E g:=λb g Q' q=>by
    cases b
    .exact Z3 q
    .exact wpAny_rule q
   have p:∀e∈C.toList,∃z u,e=(hashStr w z,.str z u):=λe m=>by
    rcases Xq (N.mem_iff.mp m)with q|q
    .exact l e q
    .rw[Xr q];exact%[z,tk|rfl]
   have q1:StrsAre ((c.toList++[(hashStr w z,Value.str z tk)]).map (·.2)) (ss++[z]):=by
    rw[Zd];exact iq h (.cons z tk .nil)
   have%[ts,n|q3]:=cn q1 (N.map _);have O:=q3.trans (hp.append_right _);have r:=mz I hz;have ai:C.size=c.size+1:=by rw[<-Zb,N.length_eq,Z9,Zb];rfl
   have T:C.size<scanBound:=by rw[ai,hn];exact v
   have U:∀h',SameBut a s.heap h'->bi w a _ h'->↥A _ Q E _:=λh' Y S'=>Z3 (hQ h' true Y S')
   refine Z2 (f _ _ _ ?_);cases ab:t1.plain with
   | true=>
     exact Z2 (Z3 (sZ f G B H n O r p T (SetTable.fits_plain_off lf) rfl (ll.trans d) λh' Y S'=>U h' Y S'))
   | false=>
     exact sZ f G B H n O r p T lf ab (ll.trans d) λh' Y S'=>U h' Y S'
theorem tf(d:bi w a ks s.heap)(c:ks.length+1<scanBound)
 (e:∀h' b,SameBut a s.heap h'->bi w a (if z∈ks then ks else ks++[z]) h'->Q b {s with heap:=h',toks:=s.toks+1}):↥A (setAdd a (.str z tk)) Q E s:=by
 exact wpAny_holding (Z2 (wpAny_pyHash_str (jF d c e)))
end
noncomputable def l8(ks:ZB)(z:Str):ZB:=if z∈ks then ks else ks++[z]
noncomputable def aA(ss:ZB):ZB:=ss.foldl l8 []
theorem Aq(ks:ZB)(z:Str):(l8 ks z).length<=ks.length+1:=by
 unfold l8;split
 .lia
 .exact Z9▸Zi _
theorem Ar:y∈l8 ks z↔y∈ks\/y=z:=by
 unfold l8;by_cases h:z∈ks
 .rw[if_pos h]
  simp_all
 .rw[if_neg h,Yu,X1]
theorem vC(h:ks.Nodup):(l8 ks z).Nodup:=by
 unfold l8;by_cases a:z∈ks
 .rw[if_pos a];exact h
 .rw[if_neg a];exact mz h a
theorem ti:∀{ss ks:ZB} {y:Str},y∈ss.foldl l8 ks↔y∈ks\/y∈ss
 |[],ks,y=>by simp
 | z::r,ks,y=>by
   rw[Y9,ti,Ar,Yx]
   grind
theorem ni:∀{ss ks:ZB},ks.Nodup->(ss.foldl l8 ks).Nodup
 |[],_,h=>h
 | z::r,ks,h=>by
   rw[Y9];exact ni (vC h)
theorem aW:y∈aA ss↔y∈ss:=by unfold aA;rw[ti];simp
theorem ce(ss:ZB):(aA ss).Nodup:=ni X7
theorem tq:∀(ss ks:ZB),(ss.foldl l8 ks).length<=ks.length+ss.length
 |[],ks=>by simp
 | z::r,ks=>by
   have a:=tq r (l8 ks z);have b:=Aq ks z;rw[Y9,Zr]
   lia
theorem bi.keep(S:bi w a ks h)(k:∀o,h.get? a=some o->h'.get? a=some o):bi w a ks h':=by
 have%[o,b,c,t,ss,d|r]:=S;exact%[o,b,c,t,ss,k o d|r]
theorem tt(val:Nat->Str)(i:Nat):aA ((List.range (i+1)).map val)=l8 (aA ((List.range i).map val)) (val i):=by
 unfold aA;rw[Xc,Zd,foldl_append];rfl
section
variable{prog:Program}{w:World}{A:Around}{R:Result->Shared->Prop}{I:Addr}{fp wr:List Addr}{G:Array GenState->Array GenState->Prop}{n:Nat}{P:Nat->Value->Prop}{St:Nat->Shared->Prop}
theorem pf(W:WalksS prog w A.in1 I fp wr G n P St)(S:Addr)(d:S∉fp)(val:Nat->Str)(f:∀i v,P i v->∃t,v= .str (val i) t)(c:n+1<scanBound):
 ∀(k i:Nat) (s:Shared),n-i=k->i<=n->St i s->bi w S (aA ((List.range i).map val)) s.heap->
  (∀s',Moved (S::wr) G s s'->bi w S (aA ((List.range n).map val)) s'.heap->R (.ok (.ret .none)) s')->codeAny (model prog w) A (.builtin "set.update.loop" %[[.ref S,.ref I]|[]]) R s:=by
 have out:S∉wr:=λh=>d (W.sub _ h)
 have more:∀b∈wr,b∈S::wr:=λb c=>Zk _ c
 intro k
 induction k with
 | zero=>
   intro i s y hi st l a;have e:i=n:=by lia
   subst e;refine codeAny_builtin F.entry_set_update_loop ?_;rw[Around.under_plainId F.plain_set_update_loop _];show wpAny _ A.in1 (pyNext (.ref I)>>= _) _ _ s;refine Z2 (W.done s _ _ st λg j=>?_);show wpAny _ A.in1 (ret Value.none) _ _ g;exact Z3 (a g (j.mono more) (l.keep λo e=>j.heap S o out e))
 | succ k z=>
   intro i s y hi st l a;have lt:i<n:=by lia
   refine codeAny_builtin F.entry_set_update_loop ?_;rw[Around.under_plainId F.plain_set_update_loop _];show wpAny _ A.in1 (pyNext (.ref I)>>= _) _ _ s;refine Z2 (W.item i s _ _ lt st λv g pv m j=>?_);have%[t|rfl]:=f i v pv;have room:(aA ((List.range i).map val)).length+1<scanBound:=by
    have q:=tq ((List.range i).map val) [];rw[Z6,Yl]at q;unfold aA;simp only[length_nil,zero_add]at q
    lia
   refine Z2 (wpAny_holding (tf (l.keep (h':=g.heap) λo e=>j.heap S o out e) room λE b u p=>Z3 %[plainId_quiet F.plain_set_update_loop _|z (i+1) _ ⋯ lt (W.frame _ g _ _ m (Yh _) λb c o e=>?_) (by rw[tt];exact p) λB C r=>?_]))
   .rw[u.2 b (λq:b=S=>d (q▸c))];exact e
   .refine a B (Moved.trans W.gtrans ((j.mono more).then_heap (Yh _) λb o c e=>?_) C) r;rw[u.2 b (λq:b=S=>c (q▸Zm))];exact e
end
section
#where
noncomputable abbrev aX(w:World):Obj:={cls:= .type "set",dict:=none,data:= .set #[] 0 (.fresh 0 0 (!aV w))}
theorem tz(a:Value)(h:Q₁ (.ref ⇑s) {s with heap:=s.heap.push (aX w)}):
 codeAny (model prog w) A (.call (.builtin "set.__new__") %[[.type "set",a]|[]]) (wants Q₁ E) s:=by
 refine codeAny_of_tree ?_;show wpAny _ A.in1 _ _ _ s;refine Z2 (wpAny_of_eq (PySem.F.newCall_set_1 a) (Z3 %[plainId_quiet PySem.F.plain_set_new _|codeAny_builtin PySem.F.entry_set_new ?_]));unfold Builtin.«set.__new__» Builtin.Frozenset.newClass;have b:=sub_set_self;have%[c,g,d,tk|os]:=s;dsimp only
 wp_walk
 refine wpAny_askSetting (Z3 ?_);dsimp only;simp only[newObj];exact Z2 (wpAny_alloc (Z3 (Z3 h)))
theorem bi.empty(e:h.get? a=some (aX w)):bi w a [] h:=
 %[_,#[],0,_,[],e,%[rfl,rfl|rfl],rfl,.nil,.nil,X7,λe b=>by simp at b,by decide,rfl,λq=>absurd rfl q|rfl]
theorem tD:∀{vs:ZF} {ss:ZB},StrsAre vs ss->∀(i:Nat) v,vs[i]? =some v->∃t,v= .str (ss.getD i (Str.ofString "")) t
 | _,_,.nil,i,v,h=>by simp at h
 | _,_,.cons x t a,0,v,h=>by simp at h;exact%[t|by rw[<-h];rfl]
 | _,_,.cons x t a,i+1,v,h=>by
   have%[u|e]:=tD a i v (h);exact%[u|by rw[e];rfl]
theorem vD(ss:ZB):(List.range ss.length).map (λi=>ss.getD i (Str.ofString ""))=ss:=by
 apply Y0
 .simp
 .intro i a b
  simp_all
theorem ph(hh:A.handled=none)(hl:s.heap.IsList l a)(hi:StrsAre a.toList ss)(hb:a.size+1<scanBound)
 (hQ:∀(h':Heap) (tk:Nat),bi w ⇑s (aA ss) h'->(∀b o,s.heap.get? b=some o->h'.get? b=some o)->Q (.ref ⇑s) {s with heap:=h',toks:=tk}):
 ↥A (call (.type "set") [.ref l]) Q E s:=by
 have%[c,tl|U]:=called_set.mro;have C:=called_set.made;have Y:=called_set.sub;refine wpAny_call (codeAny_of_tree ?_);show wpAny _ _ (callAny (.type "set") _) _ _ _;refine Z3 %[Code.quiet_builtin _ (by decide +kernel)|codeAny_builtin F.entry_type_call ?_];rw[Around.under_plain (weight_type_call_type "set" [.ref l] []) rfl];have ac:=called_set.notType;have ag:=called_set.canCreate;have ai:=PySem.F.typeCall_set_1 (.ref l)
 repeat any_goals first|assumption|wp_step
 refine codeAny_mono (tz (.ref l) (E:=E) (Q₁:=λobj g=>obj= .ref ⇑s/\g={s with heap:=s.heap.push (aX w)}) %[rfl|rfl]) λr g G=>?_
 cases r with
 | error e=>exact G
 | ok fl=>
   cases fl with
   | ret obj=>
     have%[rfl|rfl]:=G;have gS:(s.heap.push (aX w)).get? ⇑s=some (aX w):=Zj _ rfl;have tS:Shared.TypeIs {s with heap:=s.heap.push (aX w)} (.ref ⇑s) "set":=%[_,gS|rfl]
     have al:=called_set.init.lookup;have an:=called_set.init.bind (.ref ⇑s)
     repeat any_goals first|assumption|wp_step
     refine codeAny_mono (codeAny_call_builtin (R:=wants (λr h=>r= .none/\∃h' tk,h={s with heap:=h',toks:=tk}/\bi w ⇑s (aA ss) h'/\(∀b o,s.heap.get? b=some o->h'.get? b=some o)) E) called_set.init.plain F.entry_set_init (check_set_init_1 tS ?_)) λn h d=>?_
     .have%[ol,gl,cl,nl|dl]:=hl;have%[ab,j,H|f]:=ol;simp only at cl dl;subst cl;subst dl;have I:(s.heap.push (aX w)).get? l=some {cls:= .type "list",dict:=j,data:= .seq a nl,slots:=f}:=Z7 _ gl;have aq:=PySem.F.sub_list_set;have as:=PySem.F.sub_list_frozenset;have aR:(Value.type "list"==Value.type "dict")=false:=by decide
      have p:(s.heap.push (aX w)).IsList l a:=%[_,I,rfl,nl|rfl]
      unfold Builtin.«set.__init__»;unfold noKeywords;unfold Builtin.Frozenset.updateFrom
      generalize J:pyIter=PI
      wp_walk
      subst J;refine wpAny_pyIter_list p (Z2 (wpAny_runValue ?_));have q:l<⇑s:=Zv gl;have h3:A.in1.in1.in1.handled=none:=by simp[hh]
      have L:(s.heap.push (aX w)).objs.size=⇑s+1:=Zq ..;have M:l≠(s.heap.push (aX w)).objs.size:=by rw[L];exact Zt (Yp q)
      have N:⇑s∉[(s.heap.push (aX w)).objs.size,l]:=by
       rw[L];simp only[Yx,X9,or_false,not_or];exact%[Zt (Yq _)|X3 q]
      have u:a.size=ss.length:=by rw[<-Zb];exact bB hi
      refine pf ((Walks.list h3 _ l M a).toS) ⇑s N (λi=>ss.getD i (Str.ofString "")) (λi v hv=>tD hi i v (by rw[getElem?_toList];exact hv)) hb (a.size-0) 0 _ ⋯ (Xh _)
       %[%[_,Zj _ rfl,rfl|rfl]|p.push _] (bi.empty (Z7 _ gS)) ?_
      intro s3 z B;rw[u,vD]at B;have%[h',g',d',O|T]:=s3;have eg:g'=s.gens:=z.gens;have ed:d'=s.drawn:=z.drawn;have eo:T=s.os:=z.os;subst eg;subst ed;subst eo;refine Z3 ?_;show wpAny _ _ (ret Value.none) _ _ _;refine Z3 %[rfl,h',O,rfl,B|λb o e=>?_];have y:=Zv e;refine z.heap b o ?_ (Z7 _ (Z7 _ e));simp only[Yx,X9,or_false,not_or,L];exact%[Zt y|Zt (Yp y)]
     .cases n with
      | error e=>exact d
      | ok m=>
        cases m with
        | ret r=>
          have%[rfl,h',tk,rfl,B|k3]:=d
          repeat any_goals first|assumption|wp_step
          exact hQ _ _ B k3
        | _=>exact d.elim
   | _=>exact G.elim
end
section
variable{X:Cx}{K:ZA}
noncomputable def fB(w:World)(a:Addr)(ks:ZB):HO:= .ext (bi w a ks)
theorem As(b:X.calm=true):bR X (.type "set") (λxs H Q=>∃p ss,xs=[.ref p]/\SqL X.K H p (ss.map V.str)/\ss.length<=4000/\∀l,H l=none->Q (.ref l) (upd H l (fB X.w l (aA ss)))):=by
 intro pins s j H xs us Q I r h;have%[p,ss,rfl,c,m|q]:=h;have%[u,rfl|d]:=cP r;cases d;have%[its,e,pl|n]:=I.list c;have a:=fY e;have f:its.toArray.size=ss.length:=bB a;refine ph (I.ok.hd b) pl.isList (a) (by rw[f];show ss.length+1<4096;lia) λh' tk S k=>%[.ref ⇑s,_,I.laid (o:=fB X.w ⇑s _) k (Zi _) %[S,?_|λv w g k1=>g.keep k1],rfl|q _ I.fresh]
 have%[o,_,_,_,_,i|_]:=S;exact%[o|i]
theorem tE(h:X.K=K)(hw:X.w=w)(a:X.calm=true):cj X (.type "set") (λxs H Q=>∃p ss,xs=[.ref p]/\SqL K H p (ss.map V.str)/\ss.length<=4000/\∀l,H l=none->Q (.ref l) (upd H l (fB w l (aA ss)))):=by subst h;subst hw;exact⟨As a⟩
end
theorem gc:∀{xs:List a} {i:Nat} (h:i<xs.length),(xs[i]::xs.eraseIdx i).Perm xs
 | x::r,0,_=>by simp
 | x::r,i+1,h=>by
   exact(List.Perm.swap _ _ _).trans (.cons _ (gc (by simpa using h)))
section
#where
theorem x8(a:n≠0)(h:∀i d,i<n->Q i {s with drawn:=d}):↥A (choose b n) Q E s:=by
 intro c p _;exact%[a|h _ _ (mod_lt _ (pos_of_ne_zero a))]
theorem rA:∀(n:Nat) (xs:List b) (s:Shared) (Q:List b->Shared->Prop),xs.length<=n->(∀ys d,ys.Perm xs->Q ys {s with drawn:=d})->↥A (drawOrder n xs) Q E s
 | 0,xs,s,Q,a,h=>by
   have e:=length_eq_zero_iff.mp (le_zero.mp a);subst e;exact Z3 (h [] s.drawn .nil)
 | n+1,[],s,Q,a,h=>Z3 (h [] s.drawn .nil)
 | n+1,x::r,s,Q,a,h=>by
   unfold drawOrder;refine Z2 (x8 ∅ λi d hi=>?_);rw[(Z4 hi)];exact Z2 (rA n _ _ _ (by rw[List.length_eraseIdx];simp only[hi];simp_all) λys c p=>Z3 (h _ c ((List.Perm.cons _ p).trans (gc hi))))
end
theorem wL(next:Nat->Nat):∀(fuel k:Nat) (left:List a) (out:Array a),left.length<=fuel->(pickOrder.go next fuel k left out).toList.Perm (out.toList++left)
 | 0,k,left,out,h=>by
   have e:=length_eq_zero_iff.mp (le_zero.mp h);subst e;rw[Zz];exact .refl _
 | fuel+1,k,[],out,h=>by
   unfold pickOrder.go;simp
 | fuel+1,k,x::r,out,h=>by
   unfold pickOrder.go;have hi:next k%(x::r).length<(x::r).length:=mod_lt _ ∅;rw[Z4 hi];refine(wL next fuel _ _ _ (by rw[List.length_eraseIdx];simp_all)).trans ?_;rw[toList_push,Ze];exact(List.Perm.refl _).append (gc hi)
theorem qb(next:Nat->Nat)(xs:Array a):(pickOrder next xs).toList.Perm xs.toList:=by
 have:=wL next xs.size 0 xs.toList #[] ∅;simpa [pickOrder]using this
theorem qc(p j:Nat):SetTable.below #[p] j=if p<j then 1 else 0:=by
 unfold SetTable.below;simp only[Zp,Zr];unfold SetTable.below.go;simp
 split<;>(rfl)
theorem vE(j:Nat):SetTable.below #[] j=0:=rfl
theorem qd{a:Type}{xs:Array a}(h:xs.size=1):∃p,xs= #[p]:=by
 obtain⟨l⟩:=xs
 match l,h with
 |[p],_=>exact%[p|rfl]
def SIt(w:World)(I S T:Addr)(o:Obj)(b:Array (Int×Value))(c:Nat)(t:SetTable)(a:ZF)(i:Nat)(h:Heap):Prop:=
 h.get? S=some o/\∃first,h.get? I=some {cls:= .type "set_iterator",dict:=none,data:= .fields #[first,rawInt i,.ref S,rawInt b.size,rawInt c],slots:= #[]}/\
  ((aV w=true/\first=rawInt 0/\a=(pickOrder (w.params.setOrder S c) b).toList.map (·.2))\/
   (aV w=false/\first= .ref T/\T≠I/\∃ps:List Nat,h.get? T=some {cls:= .type "tuple",data:= .seq (ps.map λ(i:Nat)=>rawInt i).toArray}/\ps.length=a.length/\∀(j p:Nat),ps[j]? =some p->∃e,b[p]? =some e/\a[j]? =some e.2)\/
   (aV w=false/\b.size<=1/\a=b.toList.map (·.2)/\(i=0->first=rawInt 0)/\(i=1->∃p:Nat,t.place[0]? =some p/\first=rawInt (p+1))))
theorem SIt.is{w:World}{I S T:Addr}{o:Obj}{b:Array _}{c:Nat}{t:SetTable}{a:ZF}{i:Nat}{s:Shared}(h:SIt w I S T o b c t a i s.heap):s.TypeIs (.ref I) "set_iterator":=by
 have%[_,f,d|_]:=h;exact%[_,d|rfl]
section
#where
variable{I S T:Addr}{o:Obj}{es:Array (Int×Value)}{ep:Nat}{t:SetTable}{ord:ZF}
theorem vF{i:Nat}{v:Value}{Q:Option Value->Shared->Prop}(y:o.data= .set es ep t)(h:t.fits es.size=true)(z:t.led=!aV w)(j:S≠I)(st:SIt w I S T o es ep t ord i s.heap)(f:ord[i]? =some v)(hn:ord.length=es.size)
 (U:∀h',SIt w I S T o es ep t ord (i+1) h'->SameBut I s.heap h'->Q (some v) {s with heap:=h'}):↥A (pyNext (.ref I)) Q E s:=by
 have hT:=st.is;have%[g,first,N|m]:=st;unfold pyNext;refine Z2 (wpAny_attempt (wpAny_callSpecial?_slot (name:=Str.ofString "__next__") hT bV (wpAny_call_entry bV hT fF ?_ (gP _))));unfold Builtin.«set_iterator.__next__»;refine Z2 (m:=slotArgs _ _ _) (Z3 ?_);refine Z2 (wpAny_fieldsOf N rfl ?_);show wpAny _ _ (setEntries S>>= _) _ _ _;refine Z2 (wpAny_setEntries_of g y h ?_);rw[if_neg ∅];rcases m with⟨c,rfl,B⟩|⟨c,rfl,C,ps,G,Y,H⟩|⟨c,h1,B,f0,f1⟩
 .show wpAny _ _ (setNext S 0 i ep>>= _) _ _ _;refine Z2 ?_;unfold setNext;refine Z2 (wpAny_setState_of g y h ?_);refine Z2 (Z2 (wpAny_askSetting (Z3 ?_)));show wpAny _ _ (if aV w=true then _ else _) _ _ _;rw[if_pos c];dsimp only;rw[if_neg (show ¬ ((ep != ep)=true) by simp)];refine Z2 ?_;unfold setWalk;refine Z2 (wpAny_setState_of g y h ?_);refine Z2 (Z2 (wpAny_askSetting (Z3 ?_)));show wpAny _ _ (if aV w=true then _ else _) _ _ _;rw[if_pos c];refine Z2 (wpAny_askSetting (Z3 (Z3 ?_)));have d:(pickOrder (w.params.setOrder S ep) es)[i]?.map (·.2)=some v:=by
   rw[B]at f;simpa using f
  cases u:(pickOrder (w.params.setOrder S ep) es)[i]? with
  | none=>rw[u]at d;cases d
  | some e=>
    rw[u]at d;have J:e.2=v:=by simpa using d
    show wpAny _ _ (match((pickOrder (w.params.setOrder S ep) es)[i]?).map λe=>(e.2,0)with|some (x,next)=>_|none=>_) _ _ _;rw[u];refine Z2 (wpAny_setField_rec N ∅ λg1 b a=>?_);refine Z2 (wpAny_setField_rec (s:={s with heap:=g1}) b ∅ λg2 l n=>?_);rw[J];have L:SameBut I s.heap g2:=a.trans n;refine Z3 %[v,rfl|Z3 (U g2 %[(L.2 S j).trans g,_,l|.inl %[c,rfl|B]] L)]
 .refine Z2 (wpAny_seqItems G rfl ?_);have hi:i<ord.length:=(Xp f).1;have ab:i<ps.length:=by lia
  have%[e,O|ac]:=H i ps[i] ∅;have J:e.2=v:=by rw[ac]at f;exact Za f
  have M:(ps.map λ(i:Nat)=>rawInt i).toArray[(i:Int).toNat]? =some (rawInt ps[i]):=by simp[ab]
  dsimp only;rw[M];show wpAny _ _ (setNextDrawn S ps[i] ep>>= _) _ _ _;refine Z2 ?_;unfold setNextDrawn;refine Z2 (wpAny_setState_of g y h ?_);dsimp only;rw[if_neg (show ¬ ((ep != ep)=true) by simp),O];refine Z3 ?_;refine Z2 (wpAny_setField_rec N ∅ λg1 b a=>?_);rw[J];exact Z3 %[v,rfl|Z3 (U g1 %[(a.2 S j).trans g,_,b|.inr (.inl %[c,rfl,C,ps,(a.2 T C).trans G,Y|H])] a)]
 .have hi:i<ord.length:=(Xp f).1;have i0:i=0:=by lia
  subst i0;have f0:=f0 rfl;subst f0;have e1:es.size=1:=by lia
  have pz:t.place.size=1:=by
   simp only[SetTable.fits,Zx,beq_iff_eq,decide_eq_true_eq]at h;rw[h.1,e1]
  have%[p|u]:=qd pz;obtain⟨e,O⟩:∃e,es[0]? =some e:=%[es[0]|by simp]
  have J:e.2=v:=by
   rw[B]at f;have:(es[0]?).map (·.2)=some v:=by simpa using f
   rw[O]at this;simpa using this
  show wpAny _ _ (setNext S 0 0 ep>>= _) _ _ _;refine Z2 ?_;unfold setNext;refine Z2 (wpAny_setState_of g y h ?_);show wpAny _ _ (if aV w=true then _ else _) _ _ _;rw[if_neg (by rw[c];decide)];dsimp only
  split
  .rename_i r
   change (!t.plain&&decide (es.size>1))=true at r;rw[e1]at r;simp at r
  .refine Z2 (m:=(if(!t.led&&!es.isEmpty)=true then unsupported "set:maker-not-led" else pure ())) ?_;rw[z,c];refine Z3 ?_;rw[u,qc];simp only[X8,↓reduceIte,O];refine Z3 ?_;show wpAny _ _ (setField (.ref I) 0 (rawInt ((p+1:Nat):Int))>>= _) _ _ _;refine Z2 (wpAny_setField_rec N ∅ λg1 b a=>Z2 (wpAny_setField_rec (s:={s with heap:=g1}) b ∅ λg2 l n=>?_));rw[J];have L:SameBut I s.heap g2:=a.trans n;exact Z3 %[v,rfl|Z3 (U g2 %[(L.2 S j).trans g,_,l|.inr (.inr %[c,⋯,B,λq=>by lia|λ_=>%[p,by rw[u];rfl|rfl]])] L)]
theorem tF{c:Type}{Q:c->Shared->Prop}(d:A.handled=none)(f:∀h' e,(∀b o,s.heap.get? b=some o->h'.get? b=some o)->(∃o,h'.get? e=some o/\o.cls= .type "StopIteration")->E (.ref e) {s with heap:=h'}):
 ↥A (newExc (.type "StopIteration") []>>= λe=>(raiseNew e)) Q E s:=by
 refine Z2 ?_;refine Z2 (wpAny_newObj_type ?_ (by size_fits));refine Z2 (wpAny_of_eq (a:=Value.none) (by first|rfl|lia) (wpAny_newObj_type (wpAny_raiseNew_none d (f _ _ (λb o e=>Z7 _ (Z7 _ e)) %[_,Zj _ rfl|rfl])) (by size_fits)))
theorem x9{i:Nat}{Q:Option Value->Shared->Prop}(hh:A.handled=none)(y:o.data= .set es ep t)(j:t.fits es.size=true)(n:t.led=!aV w)(st:SIt w I S T o es ep t ord i s.heap)(hi:i=ord.length)(hn:ord.length=es.size)
 (hQ:∀h',(∀b o,b≠I->s.heap.get? b=some o->h'.get? b=some o)->Q none {s with heap:=h'}):↥A (pyNext (.ref I)) Q E s:=by
 have Y:=st.is;have%[z,first,B|m]:=st;have H:A.in1.handled=none:=hh;have c:∀(g:Heap) (Q':Fin->Shared->Prop),SameBut I s.heap g->↥A.in1 (newExc (.type "StopIteration") []>>= λe=>(raiseNew e:Sem Fin)) Q' (λe s'=>↥A (do
  if(<-isInstance e (.type "StopIteration"))then pure none else throw e) Q E s') {s with heap:=g}:=λg Q' sb=>by
  refine tF H λh' e k ⟨oe,he,hc⟩=>?_
  refine Z2 (wpAny_isInstance (T:="StopIteration") (b:=true) %[oe,he|hc] isSubtype_stop (Z3 (hQ h' λb o r q=>k b o ((sb.2 b r).trans q))))
 unfold pyNext;refine Z2 (wpAny_attempt (wpAny_callSpecial?_slot (name:=Str.ofString "__next__") Y bV (wpAny_call_entry bV Y fF ?_ (gP _))));unfold Builtin.«set_iterator.__next__»;refine Z2 (m:=slotArgs _ _ _) (Z3 ?_);refine Z2 (wpAny_fieldsOf B rfl ?_);show wpAny _ _ (setEntries S>>= _) _ _ _;refine Z2 (wpAny_setEntries_of z y j ?_);rw[if_neg ∅];rcases m with⟨l,rfl,eo⟩|⟨l,rfl,ab,ps,J,ac,ag⟩|⟨l,h1,eo,L,M⟩
 .show wpAny _ _ (setNext S 0 i ep>>= _) _ _ _;refine Z2 ?_;unfold setNext;refine Z2 (wpAny_setState_of z y j ?_);refine Z2 (Z2 (wpAny_askSetting (Z3 ?_)));show wpAny _ _ (if aV w=true then _ else _) _ _ _;rw[if_pos l];dsimp only;rw[if_neg (show ¬ ((ep != ep)=true) by simp)];refine Z2 ?_;unfold setWalk;refine Z2 (wpAny_setState_of z y j (Z2 (Z2 (wpAny_askSetting (Z3 ?_)))));show wpAny _ _ (if aV w=true then _ else _) _ _ _;rw[if_pos l];refine Z2 (wpAny_askSetting (Z3 (Z3 ?_)));have C:(pickOrder (w.params.setOrder S ep) es)[i]? =none:=by
   rw[Array.getElem?_eq_none_iff,hi,eo,Z6,Zb];exact Zi _
  show wpAny _ _ (match((pickOrder (w.params.setOrder S ep) es)[i]?).map λe=>(e.2,0)with|some (x,next)=>_|none=>_) _ _ _;rw[C];show wpAny _ _ (setField (.ref I) 2 .none>>= _) _ _ _;exact Z2 (wpAny_setField_rec B ∅ λg1 _ d=>c g1 _ d)
 .show wpAny _ _ (seqItems? (.ref T)>>= _) _ _ _;refine Z2 (wpAny_seqItems J rfl ?_);have u:(ps.map λ(i:Nat)=>rawInt i).toArray[(i:Int).toNat]? =none:=by simp;lia
  dsimp only;rw[u];exact Z2 (wpAny_setField_rec B ∅ λg1 N d=>Z2 (wpAny_setField_rec N ∅ λg2 _ O=>c g2 _ (d.trans O)))
 .have done:∀slot:Nat,first=rawInt slot->SetTable.below t.place slot=es.size->↥A.in1 (setNext S slot i ep) (λa s'=>a=none/\s'=s) (λ_ _=>False) s:=by
   intro slot _ r;unfold setNext;refine Z2 (wpAny_setState_of z y j ?_);show wpAny _ _ (if aV w=true then _ else _) _ _ _;rw[if_neg (by rw[l];decide)];dsimp only
   split
   .rename_i h
    change (!t.plain&&decide (es.size>1))=true at h;have:decide (es.size>1)=false:=Zh ⋯;rw[this,Bool.and_false]at h;cases h
   .refine Z2 (m:=(if(!t.led&&!es.isEmpty)=true then unsupported "set:maker-not-led" else pure ())) ?_;rw[n,l];refine Z3 ?_;rw[r,show es[es.size]? =none by simp];exact Z3 %[rfl|rfl]
  have go:∀slot:Nat,first=rawInt slot->SetTable.below t.place slot=es.size->↥A.in1 (setNext S slot i ep>>= λa=>match a with
   | some (x,next)=>(do
     setField (.ref I) 0 (rawInt ↑next)
     setField (.ref I) 1 (rawInt (↑i+1))
     ret x)
   | none=>(do
     setField (.ref I) 2 .none
     let e<-newExc (.type "StopIteration") []
     raiseNew e)) (λc s'=>∃v,c=Fin.done (Flow.ret v)/\↥A (pure (some v)) Q E s') (λe s'=>↥A (do
   if(<-isInstance e (.type "StopIteration"))then pure none else throw e) Q E s') s:=by
   intro slot e r;refine Z2 (wpAny_mono (done slot e r) (λa s' ⟨G,e2⟩=>?_) λ_ _ f=>f.elim);subst G;subst e2;exact Z2 (wpAny_setField_rec B ∅ λg1 _ d=>c g1 _ d)
  have pz:=by
   simp only[SetTable.fits,Zx,beq_iff_eq,decide_eq_true_eq]at j;exact j.1
  by_cases e0:es.size=0
  .have i0:i=0:=by lia
   subst i0;have L:=L rfl;subst L;refine go 0 rfl ?_;have:t.place= #[]:=Array.eq_empty_of_size_eq_zero ⋯;rw[this,vE,e0]
  .have G:es.size=1:=by lia
   have i1:i=1:=by lia
   subst i1;have%[p,C|M]:=M rfl;subst M;refine go (p+1) rfl ?_;have%[p'|U]:=qd (by rw[pz,G]:t.place.size=1);rw[U]at C ⊢;have:p'=p:=by simpa using C
   subst this;rw[qc,if_pos (Yq _),G]
end
theorem gQ:Slot "set_iterator" "__iter__" "set_iterator.__iter__":=
 .of (owner:="set_iterator") (n:="__iter__") (by rw[typeLookup_type,builtinLookup_eq_fast];kernel_rfl) (by decide +kernel) (by decide +kernel) (by decide +kernel) (by first|exact .inl (by decide +kernel)|exact .inr ∅) (by kernel_rfl)
theorem kD:entryFor table "set_iterator.__iter__"=some Builtin.«dict_keyiterator.__iter__»:=entryFor_alias (id':="dict_keyiterator.__iter__") (by kernel_rfl) rfl (by decide +kernel) (by kernel_rfl)
theorem l9(a:Value):argsOk "set_iterator.__iter__" %[[a]|[]]:=by kernel_rfl
theorem rB:typeLookup (.type "set") "__len__"=pure (some (.builtin "set.__len__")):=by kernel_rfl
section
#where
variable{I S T:Addr}{o:Obj}{es:Array (Int×Value)}{ep:Nat}{t:SetTable}{ord:ZF}
theorem ya(hh:A.handled=none)(hd:o.data= .set es ep t)(hf:t.fits es.size=true)(hled:t.led=!aV w)(hSI:S≠I)(hn:ord.length=es.size):
 Walks prog w A I [I,S,T] [I] ord.length (λi v=>ord[i]? =some v) (λi h=>SIt w I S T o es ep t ord i h) where
 sub:=by simp
 frame:=λi h h' st k=>by
  have%[hS,first,hI|m]:=st;refine⟨k S ∅ _ hS,first,k I ∅ _ hI,?_⟩;rcases m with m|⟨bt,e,hTI,ps,hTt,r⟩|m
  .exact .inl m
  .exact .inr (.inl %[bt,e,hTI,ps,k T ∅ _ hTt|r])
  .exact .inr (.inr m)
 item:=λi s Q E hi st hQ=>vF (v:=ord[i]) hd hf hled hSI st ∅ hn λh' st' sb=>hQ _ h' s.toks ∅ st' λb o' hb e=>(sb.2 b (λq=>hb (by simp[q]))).trans e
 done:=λs Q E st hQ=>x9 hh hd hf hled st rfl hn λh' k=>hQ h' s.toks λb o' hb e=>k b o' (λq=>hb (by simp[q])) e
 self:=λi s Q E st hQ=>by
  have hT:=st.is;exact wpAny_pyIter_slot hT gQ (wpAny_call_entry gQ hT kD (Z3 %[_,rfl,"set_iterator",_,hT,bV.lookup|hQ]) (l9 _))
theorem yb(g:s.heap.get? S=some o)(B:o.ExactSet)(C:o.data= .set es ep t)(hb:es.size<scanBound)(G:t.fits es.size=true)(H:es.size≠0->t.plain=false)(O:t.led=!aV w)
 (hQ:∀(I T:Addr) (ord:ZF) (h':Heap) d,(∀b o,s.heap.get? b=some o->h'.get? b=some o)->⇑s<=I->S≠I->(T=S\/⇑s<=T)->T<h'.objs.size->I<h'.objs.size->ord.length=es.size->
  SIt w I S T o es ep t ord 0 h'->ord.Perm (es.toList.map (·.2))->Q (.ref I) {s with heap:=h',drawn:=d}):↥A (pyIter (.ref S)) Q E s:=by
 have U:s.TypeIs (.ref S) "set":=%[o,g|B.1]
 have n:S<⇑s:=Zv g;refine wpAny_pyIter_slot U F.slot_set_iter (wpAny_call_entry F.slot_set_iter U pc ?_ (F.args_set_iter_1 _));unfold Builtin.«frozenset.__iter__»;refine Z2 (m:=Builtin.Frozenset.slot0 _ _) (Z2 (m:=slotArgs _ _ _) (Z3 (Z3 ?_)));refine Z2 (m:=Builtin.Frozenset.sizeOf S) (Z2 (wpAny_setEntries_of g C G (Z3 ?_)));refine Z2 (m:=setDrawn S) ?_;unfold setDrawn;refine Z2 (wpAny_setState_of g C G (Z2 (Z2 (wpAny_askSetting (Z3 (Z3 ?_))))));have a:∀(first:Value) (c:Shared) (T:Addr) (ord:ZF),c.heap.get? S=some o->(∃d f,c={s with heap:=f,drawn:=d})->(∀b o,s.heap.get? b=some o->c.heap.get? b=some o)->T<⇑c->⇑s<=⇑c->(T=S\/⇑s<=T)->ord.Perm (es.toList.map (·.2))->
  ((aV w=true/\first=rawInt 0/\ord=(pickOrder (w.params.setOrder S ep) es).toList.map (·.2))\/(aV w=false/\first= .ref T/\∃ps:List Nat,c.heap.get? T=some {cls:= .type "tuple",data:= .seq (ps.map λ(i:Nat)=>rawInt i).toArray}/\ps.length=ord.length/\∀(j p:Nat),ps[j]? =some p->∃e,es[p]? =some e/\ord[j]? =some e.2)\/(aV w=false/\es.size<=1/\ord=es.toList.map (·.2)/\first=rawInt 0))->ord.length=es.size->
  ↥A.in1 (do ret (<-newFields "set_iterator" [first,rawInt 0,.ref S,rawInt es.size,rawInt (<-setEpoch S)])) (λa s'=>∃v,a=Fin.done (Flow.ret v)/\∃Y r,s'.TypeIs v Y/\typeLookup (.type Y) "__next__"=pure (some r)/\Q v s') (λe s'=>E e s') c:=by
  intro first c T ord f %[d,g1|e1] k1 tl sl J y m hn
  subst e1;refine Z2 (wpAny_setEpoch_of f C G (Z2 (wpAny_newObj_type ?_)));have gI:(g1.push {cls:= .type "set_iterator",data:= .fields #[first,rawInt 0,.ref S,rawInt es.size,rawInt ep]}).get? g1.objs.size=some _:=Zj _ rfl;refine Z3 %[_,rfl,"set_iterator",_,%[_,gI|rfl],bV.lookup|hQ g1.objs.size T ord _ d (λb o' e=>Z7 _ (k1 b o' e)) sl (Zt (Zv f)) J (by rw[Zq];exact Yp tl) (by rw[Zq];exact Yq _) hn ?_ y];refine⟨Z7 _ f,first,gI,?_⟩;rcases m with m|⟨h,e,ps,L,r⟩|⟨h,M,eo,e⟩
  .exact .inl m
  .exact .inr (.inl %[h,e,Zt tl,ps,Z7 _ L|r])
  .exact .inr (.inr %[h,M,eo,λ_=>e|λq=>absurd q ∅])
 have lst:(es.toList.map (·.2)).length=es.size:=by rw[Z6,Zb]
 by_cases h:aV w=true
 .show wpAny _ _ (if(!aV w&&_)=true then _ else _) _ _ _;rw[h,Bool.not_true,Bool.false_and,if_neg ∅];refine Z2 (Z3 ?_);have u:=(qb (w.params.setOrder S ep) es).map (·.2);exact a (rawInt 0) s S _ g %[s.drawn,s.heap|rfl] (λ_ _ e=>e) n (Zi _) (.inl rfl) u (.inl %[h,rfl|rfl]) (by rw[u.length_eq,lst])
 .have z:aV w=false:=by simpa using h
  show wpAny _ _ (if(!aV w&&(!t.plain&&decide (es.size>1)))=true then _ else _) _ _ _;by_cases f:es.size>1
  .rw[z,H ⋯,Zf f];refine Z2 (rA es.size _ _ _ ∅ λps d l=>Z2 (wpAny_newTuple ?_ (by rw[Z6,l.length_eq,Yl];exact fits_of_scanBound hb)));have lt:∀p∈ps,p<es.size:=λp q=>mem_range.mp (l.mem_iff.mp q)
   have er:(List.range es.size).map (λp=>((es[p]?).map (·.2)).getD .none)=es.toList.map (·.2):=by
    apply Y0
    .simp
    .intro i y q2;simp at y;simp[y]
   have u:(ps.map (λp=>((es[p]?).map (·.2)).getD .none)).Perm (es.toList.map (·.2)):=er▸l.map _;refine a _ _ ⇑s _ (Z7 _ g) %[d,_|rfl] (λb o' e=>Z7 _ e) (by rw[Zq];exact Yq _) (by rw[Zq];exact Yh _) (.inr (Zi _)) u
    (.inr (.inl %[z,rfl,ps,Zj _ rfl,by rw[Z6]|λj p q=>?_])) (by rw[u.length_eq,lst])
   have N:=lt p (Z8 q);exact%[es[p],by simp|by simp[q,N]]
  .rw[z,Zh f];simp only[Bool.and_false,Y1];exact a (rawInt 0) s S _ g %[s.drawn,s.heap|rfl] (λ_ _ e=>e) n (Zi _) (.inl rfl) (List.Perm.refl _) (.inr (.inr %[z,⋯,rfl|rfl])) lst
theorem jG(hh:A.handled=none)(u:s.heap.get? S=some r)(a:r.ExactSet)(v:r.data= .set g aR t0)(y:g.size<scanBound)(z:t0.fits g.size=true)(B:g.size≠0->t0.plain=false)(c:t0.led=!aV w)
 (hQ:∀s' vs,vs.Perm (g.toList.map (·.2))->(∀b o,s.heap.get? b=some o->s'.heap.get? b=some o)->s'.gens=s.gens->s'.os=s.os->⇑s<=⇑s'->Q vs s'):↥A (collect (.ref S)) Q E s:=by
 unfold collect;refine Z2 (wpAny_runValue (codeAny_builtin F.entry_proto_collect ?_));rw[Around.under_plainId F.plain_proto_collect _];show wpAny _ A.in1 (newList []>>= λl=>again (.builtin "list.__iadd__" %[[l,.ref S]|[]])) _ _ s;refine Z2 (wpAny_newObj_type (Z3 %[plainId_quiet F.plain_list_iadd _|codeAny_builtin F.entry_list_iadd ?_]));rw[Around.under_plainId F.plain_list_iadd _];have i:S<⇑s:=Zv u;show wpAny _ A.in1 (Builtin.List.listExtendWith (.ref ⇑s) (.ref S) (.ref ⇑s)) _ _ _;unfold Builtin.List.listExtendWith
 generalize O:s.heap.push {cls:= .type "list",data:= .seq ([]:ZF).toArray}=G
 have gS:G.get? S=some r:=by rw[<-O];exact Z7 _ u
 have gz:G.objs.size=⇑s+1:=by rw[<-O,Zq]
 have gL:G.get? ⇑s=some {cls:= .type "list",data:= .seq ([]:ZF).toArray}:=O▸Zj _ rfl;have tS:Shared.TypeIs {s with heap:=G} (.ref S) "set":=%[r,gS|a.1]
 refine Z2 (wpAny_typeOf (T:="set") tS ?_);have n1:Builtin.List.listSameRef (.ref ⇑s) (.ref S)=false:=by
  show(⇑s==S)=false;exact beq_eq_false_iff_ne.mpr (X3 i)
 have n2:(Value.type "set"==Value.type "list")=false:=by decide
 have n3:(Value.type "set"==Value.type "tuple")=false:=by decide
 simp only[n1,n2,n3,Bool.or_false,Y1,if_false];refine Z2 (yb (s:={s with heap:=G}) gS a v y z B c λI T ord h d k1 U ab ac aU a0 hn st q1=>?_);replace k1:∀b o,G.get? b=some o->h.get? b=some o:=k1;replace U:G.objs.size<=I:=U;have ag:h.get? S=some r:=k1 _ _ gS;refine Z2 (wpAny_holding ?_);unfold Builtin.List.listLengthHint;have m:Shared.TypeIs {s with heap:=h,drawn:=d} (.ref S) "set":=%[r,ag|a.1]
 refine Z2 (wpAny_specialOf (T:="set") m rB ?_)
 wp_delta
 refine Z2 (wpAny_isInstance (T:="set") (b:=true) m (by rw[isSubtype_type];kernel_rfl) ?_);show wpAny _ A.in1 (typeOf (.ref S)>>= _) _ _ _;refine Z2 (wpAny_typeOf (T:="set") m (Z3 ?_));rw[if_pos (by decide)];refine Z2 (wpAny_rule ?_);have C:h.get? ⇑s=some {cls:= .type "list",data:= .seq ([]:ZF).toArray}:=k1 _ _ gL;refine Z2 ?_;unfold Builtin.List.listTouch;refine Z2 (listUpdate_at (s:={s with heap:=h,drawn:=d}) C rfl ?_ (Xh _) (by show 1<=sizeLine+1;lia));have H:=get?_update_self (Obj.mapSeq (·.push Value.none)) C rfl;refine listUpdate_at (xs:= #[Value.none]) (n:=1) (s:={s with heap:=h.update ⇑s (Obj.mapSeq _),drawn:=d}) H rfl ?_ (by decide) (by show 0<=sizeLine+1;lia);have ai:=get?_update_self (Obj.mapSeq (·.pop)) H rfl;have J:∀b o,b≠⇑s->h.get? b=some o->((h.update ⇑s (Obj.mapSeq (·.push Value.none))).update ⇑s (Obj.mapSeq (·.pop))).get? b=some o:=λb o Y e=>(get?_update_other _ _ (Ne.symm Y)).trans ((get?_update_other _ _ (Ne.symm Y)).trans e)
 have al:=Zt (Zg (by rw[gz];exact Yq _) U);have neT:⇑s≠T:=by
  rcases ac with e|e
  .exact e▸X3 i
  .exact Zt (Zg (gz▸Yq _) e)
 have L:⇑s∉[I,S,T]:=by
  simp only[Yx,X9,or_false,not_or];exact%[al,X3 i|neT]
 have an:ord.length<=sizeLine:=hn▸fits_of_scanBound y;have W:=ya (prog:=prog) (A:=A.in1) (T:=T) (hh) v z c ab hn;have aq:=W.frame 0 h _ st λb Y M e=>J b M (λq=>L (q▸Y)) e
 refine Z3 %[plainId_quiet F.plain_extend_loop _|codeAny_extend_loopS W.toS an _ L _ ord.length 0 _ _ _ rfl (Xh _) aq ai (ItemsOf.nil _) λs5 acc c5 m5 N f=>?_];refine Z2 (wpAny_load N (Z3 ?_));have ea:acc.toList=ord:=by
  apply ext_getElem?;intro j;by_cases hj:j<ord.length
  .have as:j<acc.size:=f.1▸hj;have:=f.2 j acc[j] ∅;rw[this];simp[as]
  .have l1:acc.toList.length=ord.length:=f.1;rw[Xo ⋯,Xo (l:=ord) ⋯]
 rw[ea];refine hQ s5 ord q1 (λb M e=>?_) m5.gens m5.os (Yg (Zv N));have p:=Zv e;refine m5.heap b M ?_ (J b M (Zt p) (k1 b M (O▸Z7 _ e)));simp only[Yx,X9,or_false,not_or];exact%[Zt p|Zt (Zg p (Yi (gz▸Yh _) U))]
theorem lG(f:A.handled=none)(h:bi w S ks s.heap)
 (i:∀s' vs ss,StrsAre vs ss->ss.Perm ks->(∀b o,s.heap.get? b=some o->s'.heap.get? b=some o)->s'.gens=s.gens->s'.os=s.os->⇑s<=⇑s'->Q vs s'):↥A (collect (.ref S)) Q E s:=by
 have%[o,es,ep,t,ss,j,c,l,d,m,n,p,q,r,e|a]:=h;refine jG f j c l q r e a λs' vs pv k g os sz=>?_
 have%[ts,u|v]:=cn d pv;exact i s' vs ts u (v.trans m) k g os sz
end
section
variable{X:Cx}{pins:ZE}{σ:St}{H:Hp}{s s':Shared}
theorem Inv.keptS(I:Inv X pins σ H s)(k:∀b o,s.heap.get? b=some o->s'.heap.get? b=some o)(c:s'.gens=s.gens)(a:s'.os=s.os):Inv X pins σ H s':=by
 have%[h',g',d',t'|d]:=s';replace a:d=s.os:=a;subst c;subst a;refine I.step (ch:=[]) (λb f=>absurd f ∅) (λb o _ _ _ e _=>k b o e) (λb o _ _ _ e _=>%[o.slots|k b o e]) (λ_ _ _ _ n=>n) (λb o _ e=>%[o|k b o e]) (λ_ _ e=>e) (λ_ _ _ e=>e) (λb ps e=>%[#[]|by rw[e];simp]) (λm g=>?_) (λb v e=>?_) I.bare
 .have%[o,h,i,a|r]:=g;exact%[o,h,i,k _ o a|r]
 .exact(I.hok b v e).stay (λj l _ q=>k j l q) (λ_ q=>q) λ_ _ q=>q
theorem Inv.stoodS(I:Inv X pins σ H s)(J:Inv X pins σ H s')(c:⇑s<=a)(new:cD X.prog X.w (upd H a o) s'.heap a o):Inv X pins σ (upd H a o) s':=by
 have d:=I.hok.fresh c;refine%[J.ok,J.os,J.bare,?_,J.loc,J.cell,?_,?_,?_,?_|J.len]
 .refine%[J.base.keep,J.base.slot,λb o e n j=>?_,J.base.there,λb xs e=>?_,λb o v e=>?_|λb ps e=>?_]
  .rw[ak ((λb o e=>Zt (Zg (Zg (Zv e) I.sz) c)) b o e)];exact J.base.free b o e n j
  .rw[ak (av (J.base.tups b xs e) d)];exact J.base.tups b xs e
  .rw[ak (av (J.base.frzs b o v e) d)];exact J.base.frzs b o v e
  .have%[m|q]:=J.base.tbls b ps e;exact%[m|(ak (av q d))▸q]
 .rw[ak (Zt (Zg I.lt c))];exact J.free
 .intro g f e;have%[l|q]:=I.cell g f e;rw[ak (Zt (Zg q.lt c))];exact J.freeC g f e
 .intro p h;have%[e,n|r]:=J.pin p h;refine%[e,?_|r];rw[ak (Zt (Zg (Zv (I.pin p h).1) c))];exact n
 .intro b v e;by_cases i:b=a
  .subst i;rw[aa]at e;cases e;exact new
  .rw[ak i]at e;refine(J.hok b v e).stay (λ_ _ _ q=>q) (λf q=>?_) λf xs q=>?_
   .rw[ak (av q d)];exact q
   .rw[ak (av q d)];exact q
end
section
#where
variable{S:Addr}
theorem vG(u:A.handled=none)(v:bi w S ks s.heap)(g:ks.length<64)
 (y:∀(s':Shared) (l:Addr) (vs:ZF) (ss:ZB) (n:Nat),StrsAre vs ss->ss.Perm ks->sortedS ss=true->(∀b o,s.heap.get? b=some o->s'.heap.get? b=some o)->s'.gens=s.gens->s'.os=s.os->⇑s<=l->s'.heap.get? l=some {cls:= .type "list",data:= .seq vs.toArray n}->Q (.ref l) s'):
 ↥A (call (.builtin "sorted") [.ref S]) Q E s:=by
 refine Calls.call_function_entry kind_sorted plain_sorted entry_sorted (args_sorted1 _) ?_;unfold Builtin.«sorted»;refine Z2 (m:=checkCount "sorted" 1 1 _) (Z3 ?_);refine Z2 (lG (show A.in1.handled=none from u) v λc vs ss f j k1 g1 z h=>?_);have B:vs.length<64:=by rw[bB f,j.length_eq];exact g
 refine Z2 (wpAny_newList ?_ (by rw[sizeLine_eq];lia));have i:(c.heap.push (seqObj "list" vs.toArray 0)).get? ⇑c=some (seqObj "list" vs.toArray 0):=Zj _ rfl;refine Z2 (wpAny_holding (wpAny_call_entry slot_list_sort %[_,i|rfl] entry_list_sort (list_sort_treeK (s:={c with heap:=c.heap.push (seqObj "list" vs.toArray 0)}) strKind_oneLt i f.keysOf (λp q rest e=>keyKind_strs (by rw[<-e];exact f)) B λa C G=>%[_,rfl|?_]) (args_list_sort _)));have%[ts,H,I|J]:=sorted_out_str f C G;obtain⟨n,L⟩:∃n,(sortedHeap (c.heap.push (seqObj "list" vs.toArray 0)) ⇑c vs ((arrOf a).map (·.2))).get? ⇑c=some (seqObj "list" ((arrOf a).map (·.2)) n):=sortedHeap_at i;refine Z3 %[_,rfl|y _ ⇑c ((arrOf a).map (·.2)).toList ts n H (I.trans j) J (λb M e=>?_) g1 z h ?_]
 rotate_left
 .show _=some (seqObj "list" ((arrOf a).map (·.2)).toList.toArray n);rw[Array.toArray_toList];exact L
 have r:=k1 b M e;have d:=Zv r;show(sortedHeap _ _ _ _).get? b=_;rw[sortedHeap_old (Zt d) (by rw[Zq];exact Yp d)];exact Z7 _ r
end
section
variable{X:Cx}{K:ZA}
theorem rC(d:X.calm=true):bR X (.builtin "sorted") (λxs H Q=>∃a ks,xs=[.ref a]/\H a=some (fB X.w a ks)/\ks.length<64/\∀l ss,H l=none->ss.Perm ks->sortedS ss=true->Q (.ref l) (upd H l (.lst (ss.map V.str)))):=by
 intro pins s v H xs us Q I r h;have%[a,ks,rfl,e,f|q]:=h;have%[u,rfl|i]:=cP r;cases i;have%[S,_|_]:=(I.hok a _ e)
 refine vG (I.ok.hd d) S f λs' l vs ss n j c m k g o b p=>%[.ref l,_,I.stoodS (o:= .lst _) (I.keptS k g o) b %[?_,vs,n,pX j|p],rfl|q l ss (I.hok.fresh b) c m]
 rw[Z6,c.length_eq,sizeLine_eq]
 lia
theorem kE(h:X.w=w)(b:X.calm=true):cj X (.builtin "sorted") (λxs H Q=>∃a ks,xs=[.ref a]/\H a=some (fB w a ks)/\ks.length<64/\∀l ss,H l=none->ss.Perm ks->sortedS ss=true->Q (.ref l) (upd H l (.lst (ss.map V.str)))):=by subst h;exact⟨rC b⟩
end
theorem am{D:lU}(h:∀c:lU,(∀a b,u D a b->c.nx a b)->(∀v b,D.rt v b->c.rt v b)->t c d H):bw t u D d H:=h _ (λ_ _ x=>x) λ_ _ x=>x
theorem aB{t:TS}{D:lU}(h:∀c:lU,(∀a b,D.nx a b->c.nx a b)->(∀v b,D.rt v b->c.rt v b)->t c d H):t D d H:=h _ (λ_ _ x=>x) λ_ _ x=>x
theorem jH{K:ZA}{xs:List V}{g:TG}{j:TS}{D:lU}(Pv:Nat->St->Hp->Prop)(n:Pv 0 b H)(o:∀i b H,i<=xs.length->Pv i b H->SqL K H a xs)
 (r:∀i x T b H,xs[i]? =some x->Pv i b H->H T=none->g (.ref T) b (upd H T (.tup [.int i,x])) λc h=>j {D with nx:=Pv (i+1),ct:=Pv (i+1),bk:=D.nx} c h) (s:∀b H,Pv xs.length b H->D.nx b H):
 ∃W:Nat->Nat->St->Hp->Prop,(∃m,W 0 m b H)/\∀i m b H,W i m b H->
  ((Ite K a xs).stop i H/\D.nx b H)\/((Ite K a xs).go i H/\∃N:St->Hp->Prop,(∀d f,N d f->∃l,l<m/\W (i+1) l d f)/\∀x f,(Ite K a xs).yld i H x f->g x b f λc h=>j {D with nx:=N,ct:=N,bk:=D.nx} c h):=by
 refine%[λi m b H=>m=xs.length-i/\i<=xs.length/\Pv i b H,%[xs.length,by simp,Xh _|n]|?_];intro i m b H %[rfl,hi|p];have q:=o i b H hi p;by_cases lt:i<xs.length
 .refine .inr %[%[q|lt],Pv _,λd f u=>%[xs.length-(i+1),⋯,rfl,lt|u]|λv f y=>?_];have%[x,T,e,w,rfl|rfl]:=y;exact r i x T b _ e p w
 .have e:i=xs.length:=by lia
  subst e;exact .inl %[%[q|Zi _]|s b H p]
section
variable{X:Cx}{K:ZA}{pos:Pos}{a b:Expr}{ta tb:TE}
theorem bU:OpQ X (binaryOp .Add) (rI0 λi j=> .int (i+j)):=⟨zx⟩
theorem dZ:OpQ X (binaryOp .Mult) (rI zw λi j=> .int (i*j)):=⟨zy⟩
theorem cq(h:X.K=K)(c:my b)(d:QE X a ta)(e:QE X b tb):QE X (.Subscript a b pos) (tOp (EC K) ta tb):=by subst h;exact⟨zO Ci d.h e.h c⟩
theorem GB(c:my b)(d:QE X a ta)(e:QE X b tb):QE X (.Subscript a b pos) (tOp EE ta tb):=⟨zO EG d.h e.h c⟩
end
end L2
namespace Cut
open PySem L2 PyProof.Rows
noncomputable def gh:Str:="abcdefghijklmnopqrstuvwxyz"
noncomputable def gT(c:Nat):Bool:=decide (c∈gh.cps.toList)
noncomputable def okc(c:Nat):Bool:=decide (c=46)||gT c
noncomputable def nl:Str:="\n"
theorem GC:nl=⟨#[10]⟩:=rfl
theorem kH:gT c=true↔97<=c/\c<=122:=by
 have e:gh.cps.toList=(List.range 26).map (·+97):=by decide +kernel
 unfold gT;rw[decide_eq_true_iff,e,mem_map]
 constructor
 .rintro⟨i,h,rfl⟩;have:=mem_range.mp h
  lia
 .rintro⟨a,b⟩;exact%[c-97,mem_range.mpr ⋯|⋯]
theorem E7(h:okc c=true):c≠10:=by
 intro e;subst e
 revert h
 decide +kernel
structure cf (rows:ZB):Prop where
 pos:1<=rows.length
 high:rows.length<=40
 wide:∃wd,1<=wd/\wd<=40/\∀r∈rows,r.cps.size=wd
 sign:∀r∈rows,r.cps.toList.all okc=true
 fall:∀i r r',rows[i]? =some r->rows[i+1]? =some r'->∀(j c c':Nat),r.cps[j]? =some c->r'.cps[j]? =some c'->c'=46->c=46
 some':∃r∈rows,∃c∈r.cps.toList,c≠46
theorem fc{x y:Str}(h:x.cps.toList=y.cps.toList):x=y:=by
 obtain⟨⟨l⟩⟩:=x
 simp_all
theorem fG(sep x y:Str)(r:ZB):(Str.join sep (x::y::r)).cps.toList=x.cps.toList++sep.cps.toList++(Str.join sep (y::r)).cps.toList:=by
 show((x.cps++sep.cps) ++(Str.join sep _).cps).toList=_;rw[Xg,Xg]
theorem At [DecidableEq f]:∀{a b x y:List f},c∉a->c∉b->a++c::x=b++c::y->a=b/\x=y
 |[],[],_,_,_,_,h=>%[rfl|(List.cons.inj h).2]
 |[],b::bs,_,_,_,d,h=>absurd (((List.cons.inj h).1)▸Zm) d
 | a::g,[],_,_,e,_,h=>absurd (((List.cons.inj h).1)▸Zm) e
 | a::g,b::bs,x,y,e,d,h=>by
   have%[i|j]:=List.cons.inj h;have%[l|m]:=At (λq=>e (Zk _ q)) (λq=>d (Zk _ q)) j;exact%[by rw[i,l]|m]
theorem tG{c:Nat}:∀{ps qs:ZB},ps≠[]->qs≠[]->(∀p∈ps,c∉p.cps.toList)->(∀q∈qs,c∉q.cps.toList)->(Str.join ⟨#[c]⟩ ps).cps.toList=(Str.join ⟨#[c]⟩ qs).cps.toList->ps=qs
 |[],_,h,_,_,_,_=>absurd rfl h
 | _,[],_,h,_,_,_=>absurd rfl h
 |[p],[q],_,_,_,_,e=>by rw[fc (show p.cps.toList=q.cps.toList from e)]
 |[p],q::f::qs,_,_,a,_,e=>by
  rw[fG]at e;refine absurd ?_ (a p Zm);rw[show p.cps.toList=(Str.join _ [p]).cps.toList from rfl,e];simp
 | p::g::ps,[q],_,_,_,b,e=>by
   rw[fG]at e;refine absurd ?_ (b q Zm);rw[show q.cps.toList=(Str.join _ [q]).cps.toList from rfl,<-e];simp
 | p::g::ps,q::f::qs,_,_,a,b,e=>by
   rw[fG,fG,Ze,Ze]at e;have%[i|j]:=At (a p Zm) (b q Zm) e;rw[fc i,tG ∅ ∅ (λx d=>a x (Zk _ d)) (λx d=>b x (Zk _ d)) j]
theorem vH(a:rows≠[])(h:∀r∈rows,10∉r.cps.toList):Txt.split (Str.join nl rows) nl=rows:=by
 have e:=StrLaws.join_split (Str.join nl rows) nl;rw[GC]at e ⊢;refine tG ?_ a (StrLaws.split_free _ 10) h (by rw[e]);intro q;have:=split_pos (Str.join ⟨#[10]⟩ rows) ⟨#[10]⟩
 simp_all
theorem cf.nonl(h:cf rows):∀r∈rows,10∉r.cps.toList:=λr a b=>by
 have:=all_eq_true.mp (h.sign r a) 10 b;exact E7 this rfl
theorem cf.split(h:cf rows):Txt.split (Str.join nl rows) nl=rows:=
 vH (λe=>by have:=h.pos;simp_all) h.nonl
theorem rD:∀{xs:List b},(∀x∈xs,f x<=B)->(xs.map f).sum<=xs.length*B
 |[],_=>by simp
 | x::r,h=>by
   have c:=rD λy a=>h y (Zk _ a)
   have d:=h x Zm;rw[Ys,List.sum_cons,Zr,Nat.succ_mul]
   lia
theorem cf.sum(h:cf rows):(rows.map (·.length)).sum<=1600:=by
 have%[wd,_,c|a]:=h.wide;have:=rD (f:=λr:Str=>r.length) λr b=>by have:=a r b;show r.cps.size<=40;lia
 have:=h.high
 grind
theorem cf.text(h:cf rows):(Str.join nl rows).length<=2000:=by
 have a:=StrLaws.join_length_le nl rows;have b:=h.sum;have c:=h.high;have d:nl.length=1:=rfl
 lia
noncomputable def sgn(c:Nat):Str:=⟨#[c]⟩
theorem np{a:List Nat}(h:∀c∈a,gT c=true):(aA (a.map sgn)).length<=26:=by
 have b:∀x∈aA _,x∈gh.cps.toList.map sgn:=λx d=>by
  have%[c,f|e]:=Xs (aW.mp d);exact Xt %[c,Zo (h c f)|e]
 have:=List.Nodup.length_le_of_subset (ce _) b;rw[Z6]at this;have e:gh.cps.toList.length=26:=by decide +kernel
 lia
noncomputable def cV(rows:ZB):List Nat:=(Str.join (Str.ofString "") rows).cps.toList.filter (λc=>decide (c≠46))
theorem tH:∀(rows:ZB),(Str.join (Str.ofString "") rows).cps.toList=(rows.map (·.cps.toList)).flatten
 |[]=>rfl
 |[x]=>by simp[Str.join]
 | x::y::r=>by
   have e:(Str.ofString "").cps.toList=[]:=rfl;rw[fG,tH _,e,Zz];simp
theorem kI(h:∀r∈rows,r.cps.toList.all okc=true):∀c∈cV rows,gT c=true:=λc a=>by
 unfold cV at a;rw[List.mem_filter,tH]at a;have%[b|d]:=a;have%[l,e|f]:=List.mem_flatten.mp b;have%[r,g|rfl]:=Xs e;have:=all_eq_true.mp (h r g) c f;unfold okc at this;rw[or_eq_true]at this;rcases this with q|q
 .exact absurd (Zo q) (Zo d)
 .exact q
theorem cf.signs_ne(h:cf rows):cV rows≠[]:=by
 have%[r,b,c,d|a]:=h.some';have:c∈cV rows:=by
  unfold cV;rw[List.mem_filter,tH];exact%[List.mem_flatten.mpr %[_,Xt %[r,b|rfl]|d]|Zf a]
 grind
noncomputable def rE(z:Str):Bool:=(decide (1<=(z.length:Int))&&decide ((z.length:Int)<=40))&&z.cps.toList.all okc
noncomputable def eO(row a:Str):Bool:=decide (row.length=a.length)&&(List.zip a.cps.toList row.cps.toList).all λp=>!decide (p.2=46)||decide (p.1=46)
theorem cf.row(h:cf rows)(a:r∈rows):rE r=true:=by
 have%[wd,c,d|b]:=h.wide;have e:r.length=wd:=b r a;unfold rE;rw[h.sign r a,e,Zf ⋯,Zf ⋯];rfl
theorem cf.beneath(h:cf rows)(c:rows[i]? =some r)(d:rows[i+1]? =some a):eO a r=true:=by
 have%[wd,m,n|e]:=h.wide;have f:r.length=wd:=e r (Z8 c);have g:a.length=wd:=e a (Z8 d);unfold eO;rw[Zf (g.trans f.symm),Bool.true_and,all_eq_true];intro p l;have%[j|b]:=Xi l;rw[List.getElem?_zip_eq_some]at b;have:=h.fall i r a c d j p.1 p.2 (by simpa using b.1) (by simpa using b.2)
 grind
theorem nq(a:List Nat):(Str.join (Str.ofString "") (a.map sgn))=⟨a.toArray⟩:=by
 refine fc ?_;rw[tH,Yt];show((a.map (λc=>[c])).flatten)=a
 induction a with
 | nil=>rfl
 | cons c r b=>simp_all
theorem rF:∀a:List Nat,((a.map sgn).map (λx=>x.length)).sum=a.length
 |[]=>rfl
 | c::r=>by
   rw[Ys,Ys,List.sum_cons,rF r,Zr];show 1+r.length=r.length+1
   lia
end Cut
namespace Cut
open PySem L2
end Cut
namespace L2
open PySem PySem.Spec PyProof.Rows
def Up(B:Heap)(l:List Env)(e:Addr)(cls:Value)(b:ZI)(d:Option Value)(h:Heap):Prop:=
 B.StaysIn h/\B.get? e=none/\h.FunFrames B l/\∃a vs,h.get? e=some a/\a.cls=cls/\a.dict=b/\a.data= .fields vs/\1<vs.size/\
  match d with
  | none=>vs[1]? =some .none
  | some f=>∃T c ts,vs[1]? =some (.ref T)/\B.get? T=none/\T≠e/\h.get? T=some c/\c.data= .fields ts/\ts[3]? =some f
theorem yc(o:Obj)(f:ZJ->ZJ):(o.mapFields f).dict=o.dict:=by
 have%[c,d,a|b]:=o;cases a<;> rfl
section
variable{M:Model}{A:Around}{E:ZD}{s:Shared}{B:Heap}{env:Env}{outer:List Env}{L e:Addr}{cls:Value}{dct:ZI}{Q:Unit->Shared->Prop}
end
section
variable{P:Program}{w:World}{H:Hp}{h:Heap}{a:Addr}{o:HO}
theorem cD.there(x:cD P w H h a o):∃b,h.get? a=some b:=by
 cases o with
 | lst xs=>have%[_,_,_,_|e]:=x;exact%[_|e]
 | tup xs=>have%[_,_,_,b,e|_]:=x;exact%[_|e]
 | dK c=>have%[_,_,_,_,o,_,_,e|_]:=x;exact%[_|e]
 | dT c=>have%[_,_,_,_,o,_,_,e|_]:=x;exact%[_|e]
 | set S n=>have%[o,_,_,_,e|_]:=x;exact%[_|e]
 | ins C d fs=>have%[_,_,_,e|_]:=x;exact%[_|e]
 | own y=>have%[_|e]:=x;exact%[_|e]
 | xd fs=>have%[_,%[_,_,_,e|_]|_]:=x;exact%[_|e]
 | rng lo hi=>have%[_,_,_|e]:=x;exact%[_|e]
 | frz b u=>have%[e|_]:=x;exact%[_|e]
 | tbl ps=>exact%[_|(x)]
 | met f y=>exact%[_|(x)]
 | ext g=>have%[_,%[_|e]|_]:=x;exact%[_|e]
end
structure Fl (P:Program) (w:World) (l:List Env) (H:Hp) (s:Shared) (ea:Addr) (B:Heap) (cls:Value) (dx:ZI) (fl:Option Value) (H':Hp) (s':Shared):Prop where
 os:s'.os=s.os
 bare:AllBare s'.gens
 un:Un (frs l) [] H H' s.heap s'.heap
 hok:HOk P w H' s'.heap
 up:Up B l ea cls dx fl s'.heap
 free:H' ea=none
 new:s.heap.get? ea=none
 inB:∀b ob,s'.heap.get? b=some ob->((∃o,s.heap.get? b=some o)\/∃o,H' b=some o)->b∉frs l->B.get? b=some ob
 frf:∀b∈frs l,H' b=none
section
variable{P:Program}{w:World}{l:List Env}{H H':Hp}{s s':Shared}{ea:Addr}{B h':Heap}{cls:Value}{dx:ZI}{fl fl':Option Value}
end
section
variable{P:Program}{w:World}{K:ZA}{mg:ZC}{base:Heap}{N:ZB}{qual:Str}{scope:Scope}{f:Addr}{cd:Value}{A:Around}{outer:List Env}{s₀:Shared}{H₀:Hp}{E:XK}
end
noncomputable abbrev E8(vs:ZF):Obj:={cls:= .type "tuple",data:= .seq vs.toArray}
noncomputable abbrev GD(C t:Addr):Obj:={cls:= .ref C,data:= .fields #[.ref t,.none,.none,.none,.bool false,.none]}
noncomputable abbrev vI(h:Heap)(C:Addr)(vs:ZF):Heap:=(h.push (E8 vs)).push (GD C h.objs.size)
theorem tJ(h:Heap)(C:Addr)(vs:ZF):(vI h C vs).get? (h.objs.size+1)=some (GD C h.objs.size):=by
 heap_get
theorem fH(b:Addr)(o:Obj)(e:h.get? b=some o):(vI h C vs).get? b=some o:=
 Z7 _ (Z7 _ e)
section
variable{prog:Program}{w:World}{A:Around}{E:ZD}{h:Heap}{g:Array GenState}{d:Drawn}{t:Nat}{os:OsState}
variable{nm q:Str}{C N:Addr}{bs bm bmB:ZF}{hdct:Bool}{sn:ZB}{sub:ZF}{ab:Bool}{col:Option Bool}{dd:ZI}{k0 k1 k2 k3 k5:Option Value}{B newId initId:String}
theorem yd(F:ExcBaseFacts B newId initId bmB)(T:OwnTail h bmB bm){rest:ZF}
 (b:h.get? C=some (excClassObj nm q C N bs bm hdct sn sub ab col dd k0 k1 k2 k3 k5 newId)) (m:h.Ns N i) (hi:i "__init__"=some (.ref j)) (c:h.get? j=some n) (e:n.cls= .type "function") (a:rest.length<=sizeLine)
 (o:↥A (call (.ref j) (.ref (h.objs.size+1)::rest)) (λr s'=>r= .none/\Q (.done (.ret (.ref (h.objs.size+1)))) s') E %[vI h C rest,g,d,t|os]):
 ↥A (Builtin.«type.__call__» %[.ref C::rest|[]]) Q E %[h,g,d,t|os]:=by
 repeat (first|with_reducible refine wpAny_loadPart_at b ?_|with_reducible refine wpAny_madeBy_exc b ?_|wp_step)
 refine codeAny_call_builtin_code (Code.quiet_builtin _ F.quiet) (wpAny_check_new_subT F T b ?_);refine codeAny_exc_new_subT F T b ?_ a;have l:=fH (C:=C) (vs:=rest) _ _ b;have p:=fH (C:=C) (vs:=rest) _ _ c;have n1:(vI h C rest).Ns N i:=m.keeps fH;have s:=tJ h C rest;have f:(Value.ref C::bm).contains (.ref C)=true:=by simp
 unfold isInstance
 repeat (first|with_reducible refine wpAny_loadPart_at s ?_|(with_reducible refine wpAny_isSubtype_exc l ?_;rw[f])|wp_step)
 show wpAny _ _ (typeLookup (.ref C) _) _ _ _;refine wpAny_typeLookup_tail l n1 (T.keeps (h':=vI h C rest) fH) F.mroIs F.init.lookup ?_;rw[hi];refine wpAny_holding (Z2 ?_);unfold bindSpecial;refine Z2 (wpAny_typeOf (T:="function") %[_,p|e] ?_);rw[if_pos (by decide)];refine Z3 (Z2 (wpAny_mono o (λr s' u=>?_) λ_ _ x=>x));have%[rfl|v]:=u
 wp_walk
 exact v
theorem ye(F:ExcBaseFacts B newId initId bmB)(T:OwnTail h bmB bm){rest:ZF}
 (b:h.get? C=some (excClassObj nm q C N bs bm hdct sn sub ab col dd k0 k1 k2 k3 k5 newId)) (i:h.Ns N j) (hi:j "__init__"=some (.ref f)) (c:h.get? f=some l) (e:l.cls= .type "function") (a:rest.length<=sizeLine)
 (m:wpAny (model prog w) (A.under (.builtin "type.__call__" %[.ref C::rest|[]])) (call (.ref f) (.ref (h.objs.size+1)::rest)) (λr s'=>r= .none/\Q (.ref (h.objs.size+1)) s') E %[vI h C rest,g,d,t|os]):
 ↥A (call (.ref C) rest) Q E %[h,g,d,t|os]:=by
 have n:=tc_lookup;have o:=tc_bind (.ref C);have p:(%[h,g,d,t|os]:Shared).TypeIs (.ref C) "type":=%[_,b|rfl]
 refine wpAny_call (codeAny_of_tree ?_);show wpAny _ _ (callAny (.ref C) _) _ _ _
 repeat (any_goals (first|assumption|with_reducible refine wpAny_loadPart_at b ?_|wp_step))
 refine%[rfl|?_];exact codeAny_call_builtin_at (Code.quiet_builtin _ (by decide +kernel)) entry_typeCall (wpAny_check_type_call_sub b (yd F T b i hi c e a m))
end
noncomputable abbrev veB:ZF:=[.type "ValueError",.type "Exception",.type "BaseException",.type "object"]
noncomputable def bp:ZF->Bool
 | .ref c::r=>bp r
 | l=>l==veB
theorem i4(self:Value):∀{l:ZF},bp l=true->refuseLoop self "__setattr__" l=pure ()
 | .ref c::r,e=>by rw[refuseLoop_ref];exact i4 self e
 | .type n::r,e=>by
   have a:(Value.type n::r)=veB:=by simpa [bp]using e
   exact a▸PySem.F.store_ValueError.passes self
 |[],e=>by simp[bp]at e
 | .none::r,e=>by simp[bp]at e
 | .bool _::r,e=>by simp[bp]at e
 | .int _ _::r,e=>by simp[bp]at e
 | .str _ _::r,e=>by simp[bp]at e
 | .builtin _::r,e=>by simp[bp]at e
 | .float _ _::r,e=>by simp[bp]at e
 | .bytes _ _::r,e=>by simp[bp]at e
 | .ellipsis::r,e=>by simp[bp]at e
 | .notImplemented::r,e=>by simp[bp]at e
theorem nt(n:String)(a:veB.contains (.type n)=true):∀{l:ZF},bp l=true->l.contains (.type n)=true
 | .ref c::r,e=>by rw[List.contains_cons,nt n a (l:=r) e,Bool.or_true]
 | .type m::r,e=>by
   have b:(Value.type m::r)=veB:=by simpa [bp]using e
   exact b▸a
 |[],e=>by simp[bp]at e
 | .none::r,e=>by simp[bp]at e
 | .bool _::r,e=>by simp[bp]at e
 | .int _ _::r,e=>by simp[bp]at e
 | .str _ _::r,e=>by simp[bp]at e
 | .builtin _::r,e=>by simp[bp]at e
 | .float _ _::r,e=>by simp[bp]at e
 | .bytes _ _::r,e=>by simp[bp]at e
 | .ellipsis::r,e=>by simp[bp]at e
 | .notImplemented::r,e=>by simp[bp]at e
noncomputable def rG(K:ZA)(C:Addr):Bool:=(clsIn K C).any λa=>bp a.mro
section
#where
variable{K:ZA}{x C:Addr}{name:Str}{v:Value}{ox:Obj}{od:Option Obj}
theorem E9{R:Result->Shared->Prop}(X:K.In s.heap)(I:PySem.W.InstAt s.heap x ox C od)(j:rG K C=true)(l:findIn K (.ref C) name=some none)
 (h:↥A.in1 (Builtin.ObjectAttr.storeInOwnDict (.ref x) (.ref C) (.str name tk) name v false)
  (λc s'=>match c with| .done f=>R (.ok f) s'| .again g=>g.quiet=true/\codeAny (model prog w) A g R s') (λe s'=>R (.error e) s') s):
 codeAny (model prog w) A (.call (.builtin "object.__setattr__") %[[.ref x,.str name tk,v]|[]]) R s:=by
 have a:=PySem.F.store_object;have%[d,i|b]:=any_some j;have ne:d.mro.isEmpty=false:=by cases q:d.mro with|nil=>rw[q]at b;simp[bp]at b|cons _ _=>rfl
 refine codeAny_call_builtin a.slot.plain a.entry (@check_slot _ _ _ s _ _ _ _ _ [] _ a.kind a.split (I.type.andThen (PySem.W.looks_mroIn X (by unfold mroIn;rw[i,bind_some,if_neg (by rw[ne];decide),(nt _ (by decide) b)]))) (a.args _ _ v) ?_);have m:Looks (model prog w) s.heap (mroOf (.ref C)) d.mro:=(looks_clsIn X i).andThen .now;rw[PySem.W.osa_eq,refuse_eq];refine Z2 (Z2 (I.type.here (Z2 (m.here ?_))));rw[i4 _ b];exact Z3 (Z2 (I.type.here (Z2 ((looks_findIn X l).here (Z2 (Z3 h))))))
theorem CM(X:K.In s.heap)(g:s.heap.get? x=some ox)(i:ox.cls= .ref C)(j:ox.data= .fields vs)(l:ox.dict=none)
 (z:findIn K (.ref C) "__setattr__"=some (some (.builtin "object.__setattr__"))) (B:rG K C=true) (G:findIn K (.ref C) name=some none) (H:hasDictIn K C=true)
 (h:∀h',h'.get? x=some {ox with dict:=some ⇑s}->h'.Ns1 ⇑s (λy=>if y=name then some v else none)->(∀b o,b≠x->s.heap.get? b=some o->h'.get? b=some o)->Q () {s with heap:=h',toks:=s.toks+2}):
 ↥A (setAttr (.ref x) name v) Q E s:=by
 have%[oc,I,L|M]:=ox;subst i j l;have J:PySem.W.InstAt s.heap x _ C none:=%[g,rfl,rfl|trivial]
 refine set_plain X J z (E9 X J B G ?_);have%[cd,N|m]:=any_some H;refine Z2 (Z3 (Z2 (Z2 (wpAny_loadPart g (Z2 (Looks.here (looks_clsIn X N) ?_))))));rw[m];have a:(s.heap.push {cls:= .type "dict",data:= .dict #[]}).get? x=some _:=Z7 _ g;have c:=Zt (Zv g);refine Z2 (wpAny_alloc' (Z2 (wpAny_update' a (Z3 ?_))));have n:((s.heap.push {cls:= .type "dict",data:= .dict #[]}).update x λo=>{o with dict:=some ⇑s}).get? ⇑s=some _:=
  (get?_update_other _ _ c).trans (Heap.get?_push_at rfl rfl)
 have p:((s.heap.push _).update x _).Ns ⇑s _:=
  %[_,#[],_,n,rfl,λe O=>absurd O ∅|λ_=>rfl]
 refine Z2 (Z3 (Z2 (wpAny_nsSet1 (Heap.Ns1.of_empty p) λh' d f=>?_)));have%[oD,T,U,q,r|u]:=d.count (PySem.Within.cons name v PySem.Within.nil);refine Z2 (wpAny_lookBehind q (r▸pastItsLine_dict (Yi u ∅)) (Z3 (h h' ?_ d λb o Y e=>?_)))
 .exact(f.2 x c).trans (get?_update_self _ a rfl)
 .exact(f.2 b (Zt (Zv e))).trans ((get?_update_other _ _ (Ne.symm Y)).trans (Z7 _ e))
end
noncomputable def ExO(a C:Addr)(d:ZI):HO:= .ext λh=>∃o vs,h.get? a=some o/\o.cls= .ref C/\o.dict=d/\o.data= .fields vs/\1<vs.size/\vs[1]? =some .none
theorem ExO.ok{P:Program}(e:h.get? a=some o)(c:o.cls= .ref C)(f:o.dict=d)(g:o.data= .fields vs)(i:1<vs.size)(b:vs[1]? =some .none):
 cD P w H h a (ExO a C d):=
 %[%[o,vs,e,c,f,g,i|b],%[o|e]|λb j ⟨o,vs,e,r⟩ k=>%[o,vs,k o e|r]]
theorem Au(h:H a=some o):upd H a o=H:=by
 funext b;unfold upd;simp_all
noncomputable def exK(K:ZA)(C f:Addr):Bool:=match K.lookup C with
 | some ⟨.type "type",_,.cls a,b⟩=>(match a.mro,b.toList with
   | .ref c::d,[_,_,_,_,some (.builtin n),_]=>c==C&&n=="ValueError.__new__"&&!a.hasDel&&PySem.W.tailIn K veB d&&PySem.W.nsOkIn K a.ns&&nsIn K a.ns "__init__"==some (some (.ref f))
   | _,_=>false)
 | _=>false
theorem vJ{K:ZA}{h:Heap}{mg:ZC}(X:K.In h)(G:h.Ns N mg)(e:nsIn K N n=some (some v)):mg n=some v:=by
 have%[o,j,l,a,b,_|f]:=G;unfold nsIn at e
 split at e
 .rename_i c d g m p q
  have:=X _ _ q;rw[a]at this;cases this;cases b
  split at e
  .rename_i r i
   cases e;rw[<-f];unfold nsFind findBy;rw[<-Array.find?_toList,i];rfl
  simp_all
 .cases e
theorem Av{K:ZA}(X:K.In h)(q:exK K C f=true):∃o p N bs g b r sub s c u i k1 k2 j l v,
 h.get? C=some (excClassObj o p C N bs g b r sub s c u i k1 k2 j l "ValueError.__new__")/\h.Ns N v/\v "__init__"=some (.ref f)/\OwnTail h veB g:=by
 unfold exK at q
 split at q
 .rename_i u y z A
  split at q
  .rename_i J g i k1 k2 j n l w B
   simp only[Zx,beq_iff_eq,Bool.not_eq_true']at q;have%[%[%[%[%[rfl|rfl]|a]|E]|d]|e]:=q;have%[o,bs,H,L,p,M,r,sub,s,c|I]:=y;dsimp only at w a d e;subst w a;have m:z= #[i,k1,k2,j,some (.builtin "ValueError.__new__"),l]:=by
    rw[<-B]
   subst m;have G:=PySem.Heap.Ns.of_isNs (PySem.W.isNs_of_in X d);exact%[_,_,_,_,_,_,_,_,_,_,_,_,_,_,_,_,_,X _ _ A,G,vJ X G e|PySem.W.tail_of_in X E]
  .lia
 .lia
section
variable{X:Cx}{C f:Addr}
theorem vK(A:exK X.K C f=true):bR X (.builtin "ValueError.__init__") (λxs H Q=>∃a d ys,xs=V.ref a::ys/\ys.length<=9/\H a=some (ExO a C d)/\Q .non H):=by
 intro pins s B H xs us Q I r h;have%[a,d,ys,rfl,hy,g|q]:=h;cases r with
 | cons E G=>
   rename_i u ws
   obtain rfl:u=Value.ref a:=E;have%[%[o,vs,e,v,L,i,M|O]|_]:=I.hok a _ g;have%[nm,qn,N,bs,bm,w,sn,sub,ab,U,dd,k0,k1,k2,k3,k5,mN,Y,hN,hi|T]:=Av I.kIn A;have F:=PySem.F.excBase_ValueError;have j:ws.length<=sizeLine:=by rw[<-G.length,sizeLine_eq];lia
   refine wpAny_call (codeAny_call_builtin F.init.plain F.initEntry (wpAny_check_init_subT F T Y e v ?_));have l:∃m,vs[0]? =some m:=%[vs[0]'⋯|Array.getElem?_eq_getElem ⋯]
   have%[m|l]:=l;have p:(s.heap.push (E8 ws)).get? a=some o:=Z7 _ e;have c:=Obj.data_mapFields i (·.setIfInBounds 0 (Value.ref ⇑s));have y:=get?_update_self (Obj.mapFields (·.setIfInBounds 0 (Value.ref ⇑s))) p (Obj.isFreed_of_fields c);have J:Inv X pins B H {s with heap:=((s.heap.push (E8 ws)).update a (Obj.mapFields (·.setIfInBounds 0 (Value.ref ⇑s))))}:=by
    have:=I.write (x:=a) (e:=a) (o:=ExO a C d) (t':=s.toks) (g▸True.intro) (.inl rfl)
     (λb u n z=>by rw[get?_update_other _ _ (Ne.symm n)];exact Z7 _ z) %[_|y]
     (ExO.ok y ((Obj.cls_mapFields _ _).trans v) ((yc _ _).trans L) c (by simpa using M) (by rw[Array.getElem?_setIfInBounds_ne ∅];exact O))
    rw[Au g]at this;exact this
   refine Z2 (wpAny_newTuple (Z2 (Z2 (wpAny_field p i l (Z2 (wpAny_setField p i ⋯ ?_))))) j);cases m with
   | ref b=>exact wpAny_letGo (Z3 %[.non,H,J,rfl|q])
   | _=>exact Z3 (Z3 %[.non,H,J,rfl|q])
end
section
variable{X:Cx}{pins:ZE}{σ:St}{H:Hp}{s s':Shared}
theorem Inv.stood2(I:Inv X pins σ l s)(J:Inv X pins σ H s')(c:H a=none)(d:⇑s<=a)(new:cD X.prog X.w (upd H a o) s'.heap a o):Inv X pins σ (upd H a o) s':=by
 refine%[J.ok,J.os,J.bare,?_,J.loc,J.cell,?_,?_,?_,?_|J.len]
 .refine%[J.base.keep,J.base.slot,λb o e n j=>?_,J.base.there,λb xs e=>?_,λb o v e=>?_|λb ps e=>?_]
  .rw[ak ((λb o e=>Zt (Zg (Zg (Zv e) I.sz) d)) b o e)];exact J.base.free b o e n j
  .rw[ak (av (J.base.tups b xs e) c)];exact J.base.tups b xs e
  .rw[ak (av (J.base.frzs b o v e) c)];exact J.base.frzs b o v e
  .have%[m|q]:=J.base.tbls b ps e;exact%[m|(ak (av q c))▸q]
 .rw[ak (Zt (Zg I.lt d))];exact J.free
 .intro g f e;have%[u|q]:=I.cell g f e;rw[ak (Zt (Zg q.lt d))];exact J.freeC g f e
 .intro p h;have%[e,n|r]:=J.pin p h;refine%[e,?_|r];rw[ak (Zt (Zg (Zv (I.pin p h).1) d))];exact n
 .intro b v e;by_cases i:b=a
  .subst i;rw[aa]at e;cases e;exact new
  .rw[ak i]at e;refine(J.hok b v e).stay (λ_ _ _ q=>q) (λf q=>?_) λf xs q=>?_
   .rw[ak (av q c)];exact q
   .rw[ak (av q c)];exact q
end
structure Aw (K:ZA) (D:Addr):Prop where
 ga:specialIn K (.ref D) "__getattribute__"=some (some (.builtin "type.__getattribute__"))
 rd:readsIn K D (.type "type")=true
 at_:findCls K (.ref D) (.type "type") "__init__"=some (.val (.builtin "ValueError.__init__"))
structure Fa (K:ZA) (C:Addr) (f:Str):Prop where
 sa:findIn K (.ref C) "__setattr__"=some (some (.builtin "object.__setattr__"))
 ov:rG K C=true
 no:findIn K (.ref C) f=some none
 hd:hasDictIn K C=true
section
variable{X:Cx}{C D f:Addr}{x nm:Str}{p pos pos' apos:Pos}{e o value:Expr}{es:List Expr}{t:TA}{ta tv:TE}{r:List V->Hp->VK->Prop}
theorem Ax(g:Gl X x)(i:X.mg x=some (.ref D))(B:Aw X.K D)(j:bR X (.builtin "ValueError.__init__") r)(l:PA X (e::es) t)(a:(x==("__debug__":Str))=false)
 (m:starEach (e::es) X.env=(false,eval e X.env)::starEach es X.env) (b:(backTo pos (starEach es X.env)).any (·.1)=false)
 (n:eval (.Call (.Attribute (.Name x p) "__init__" apos) (e::es) [] pos) X.env=(do
  let c<-eval (.Name x p) X.env
  standAt apos.atName
  let(f,first)<-holding [c] (getMethod c "__init__" pl)
  callWith pos f first (backTo pos (starEach (e::es) X.env)) (backToKw pos (keywordEach [] X.env)))):
 PE X (.Call (.Attribute (.Name x p) "__init__" apos) (e::es) [] pos) (tCB r t):=by
 intro pins s d H Q I h;exact PySem.W.methodCall_KW (iK I g i (PySem.W.method_cls I.kIn B.ga (PySem.W.cls_value I.kIn B.rd B.at_ (by decide) (PyProof.Rows.callWith_builtin1 (thP (l pos pins _ d H _ (I.tok _) h) λus q vs u v w y=>j pins q d u vs us Q v w y) m b))) a) n
def DD(K:ZA)(C:Addr)(ta tv:TE)(f:Str):TS:=λD b H=>tv b H λy g=>ta b g λx c=>∃a,x= .ref a/\c a=some (ExO a C none)/\
 ∀d,c d=none->d≠a->D.nx b (upd (upd c a (ExO a C (some d))) d (.xd [(f,y)]))
theorem CO(c:Fa X.K C nm)(E:PE X o ta)(G:PE X value tv)(J:swapsWith value (some (.Attribute o nm pos')) pos.line X.env=pure false):PS X (.Assign [.Attribute o nm pos'] value pos) (DD X.K C ta tv nm):=by
 intro pins s j H D I h;refine plainObj_wpAny_Assign_Attribute (thP (G pins s j H _ I h) λu L y M N O q=>thP (E pins L j M _ N q) λQ l x H2 d T ⟨a,ex,m,U⟩=>?_) J;subst ex;obtain rfl:Q=Value.ref a:=T;have%[%[ob,vs,e,v,Y,w,hz|h1]|_]:=d.hok a _ m;have i:=X3 (Zv e);have A:=d.hok.fresh (Zi _);refine CM d.kIn e v w Y c.sa c.ov c.no c.hd λh' B n' k=>%[j,_,?_|U ⇑l A i]
 refine Inv.stood2 d (d.write (t':=l.toks+2) (m▸True.intro) (.inl rfl) (λb u n z=>k b u n z) %[_|B] (ExO.ok B v rfl w hz h1)) ((ak i)▸A) (Zi _) %[_,n'|λg=>?_];by_cases z:g=nm
 .rw[if_pos z,z];simp only[List.lookup,beq_self_eq_true];exact O
 .rw[if_neg z];have z':(g==nm)=false:=by simpa using z
  simp only[List.lookup,z'];exact True.intro
end
def Fb(b:TE):TE:=λc H Q=>b c H λv a=>(∃i:Int,v= .int i/\i.natAbs<2^64/\Q (.str (toString i)) a)\/∃y:Str,v= .str y/\y.length<=sizeLine/\Q (.str y) a
def nu:List TE->Str->TE
 |[],out=>λa H Q=>out.length<=sizeLine/\Q (.str out) H
 | t::ts,out=>λa H Q=>t a H λv b=>∃y:Str,v= .str y/\(out++y).length<=sizeLine/\nu ts (out++y) a b Q
inductive PJ (X:Cx):List Expr->List TE->Prop
 | nil:PJ X [] []
 | cons {e:Expr} {es:List Expr} {t:TE} {ts:List TE}:PE X e t->PJ X es ts->PJ X (e::es) (t::ts)
section
variable{X:Cx}{e v1 v2:Expr}{rest:List Expr}{te t1 t2:TE}{ts:List TE}{pos:Pos}
theorem Fc(c:PE X e te):PE X (.FormattedValue e (-1) none pos) (Fb te):=by
 intro pins s d H Q I h;refine FormattedValue_plain (thP (c pins s d H _ I h) λu j v a b r q=>?_);rcases q with⟨i,rfl,hi,q⟩|⟨y,rfl,f,q⟩
 .have%[t|rfl]:=(show∃t,u=Value.int i t from r)
  have g:i.natAbs.log2<1920:=by
   by_cases z:i.natAbs=0
   .rw[z];decide
   .exact(Nat.log2_lt z).mpr (Zg hi (Nat.pow_le_pow_right (by decide) ∅))
  exact formatField_int_small g %[V.str (toString i),a,b.tok _,%[_|rfl]|q]
 .have%[t|rfl]:=(r)
  exact formatField_str (λt' tk=>%[.str y,a,b.tok _,%[_|rfl]|q]) f
theorem Ay(h:PJ X c ts):∀(out:Str) (pins:ZE) (s:Shared) (a:St) (H:Hp) (Q:VK),Inv X pins a H s->nu ts out a H Q->
 (wpAny (model X.prog X.w) X.A) (joinParts out (evalEach c X.env)) (EP X pins a Q) X.xe s:=by
 induction h with
 | nil=>exact λout pins s a H Q I ⟨b,q⟩=>joinParts_nil %[.str out,H,I.tok _,%[_|rfl]|q] b
 | cons d _ f=>
   intro out pins s a H Q I q;refine joinParts_cons (thP (d pins s a H _ I q) λu g v i j r ⟨y,l,b,m⟩=>?_);subst l;have%[t|rfl]:=(r)
   exact%[b|f _ pins g a i Q j m]
theorem CP(h:PJ X (v1::v2::rest) ts):PE X (.JoinedStr (v1::v2::rest) pos) (nu ts Str.empty):=λpins s a H Q I q=>
 JoinedStr_many (Ay h _ pins s a H Q I q)
end
def rH(C:Addr)(sp:Sp)(t:TA):TE:=λb H Q=>t b H λvs a=>vs.length<=9/\∀x,a x=none->sp (.ref x::vs) (upd a x (ExO x C none)) (λv c=>v= .non/\Q (.ref x) c) E0
structure MkX (K:ZA) (C f:Addr):Prop where
 ex:exK K C f=true
 fn:(K.lookup f).map (·.cls)=some (.type "function")
 kp:keepIn K (.ref C)=true
section
variable{X:Cx}{k:Nat}{f C:Addr}{fd:FuncData}{ps:ZB}{sp:Sp}{x:Str}{p pos cpos:Pos}{e:Expr}{es:List Expr}{te:TE}{t:TA}
theorem yf(M:MkX X.K C f)(F:hJ X.prog X.w X.K X.mg X.base CX0 k f fd ps sp)(w:bQ (k+1) X.A)(y:di X.K fd ps [])
 (I:Inv X pins j H s) (r:aD vs us) (hv:vs.length<=9)
 (h:∀x,H x=none->sp (.ref x::vs) (upd H x (ExO x C none)) (λv z=>v= .non/\Q (.ref x) z) E0):
 (wpAny (model X.prog X.w) X.A) (call (.ref C) us) (EP X pins j Q) X.xe s:=by
 have%[i,g,d,tk|os]:=s;have%[nm,qn,N,bs,bm,n,sn,sub,ab,A,dd,k0,k1,k2,k3,k5,mN,B,E,hi|T]:=Av I.kIn M.ex;have%[oI,G|l]:=map_eq_some_iff.mp M.fn;refine ye PySem.F.excBase_ValueError T B E hi (I.kIn _ _ G) l (by rw[<-r.length,sizeLine_eq];lia) ?_;have J:Inv X pins j H %[vI i C us,g,d,tk|os]:=I.keptS fH rfl rfl;have m:Inv X pins j (upd H _ (ExO _ C none)) _:=
  I.stoodS J (Yh _) (ExO.ok (tJ i C us) rfl rfl rfl ∅ rfl)
 have o:=h _ (I.hok.fresh (Yh _));have q:aD (V.ref (i.objs.size+1)::vs) _:= .cons rfl r;have b:(Value.ref (i.objs.size+1)::us++[]).length=ps.length:=by
  rw[Zz,<-q.length];exact F.len _ _ _ _ o
 have c:=y _ _ m.kIn b;rw[Zz]at c;refine wpAny_call (codeAny_mono (F.run _ X.stack _ _ _ _ _ _ E0 (w.make C us []) (m.env0.make C us []) c q o) λr s' a=>?_);cases r with
 | error e=>exact False.elim a
 | ok L=>
   cases L with
   | ret u=>
     have%[v,O,U,Y,ev|q3]:=m.after a;subst ev;exact%[Y,V.ref _,O,U,rfl|q3]
   | next=>exact False.elim a
   | brk=>exact False.elim a
   | cont=>exact False.elim a
theorem Az(M:MkX X.K C f)(F:hJ X.prog X.w X.K X.mg X.base CX0 k f fd ps sp)(d:bQ (k+1) X.A)(g:Gl X x)(i:X.mg x=some (.ref C))(j:di X.K fd ps [])
 (l:PA X (e::es) t) (a:(x==("__debug__":Str))=false) (m:starEach (e::es) X.env=(false,eval e X.env)::starEach es X.env) (b:(backTo pos (starEach es X.env)).any (·.1)=false):
 PE X (.Call (.Name x p) (e::es) [] pos) (rH C sp t):=by
 intro pins s n H Q I h;exact wpAny_Call_Name_kw (iK I g i (callWith_K I.ok.mod.kin M.kp (thP (l pos pins s n H _ I h) λus u vs v c r ⟨o,q⟩=>%[c.kIn|yf M F d j c r o q]) m b) a)
end
noncomputable def drop(H:Hp)(a:Addr):Hp:=λb=>if b=a then none else H b
theorem yg:drop H a a=none:=by unfold drop;rw[if_pos rfl]
theorem iN(h:b≠a):drop H a b=H b:=by unfold drop;rw[if_neg h]
section
variable{X:Cx}{pins:ZE}{σ:St}{H:Hp}{s s':Shared}
end
section
variable{M:Model}{A:Around}{E:ZD}{s:Shared}{K:ZA}{D C e:Addr}{oe:Obj}{b:Bool}{Q:Bool->Shared->Prop}
end
section
variable{X:Cx}{pins pins' pn:ZE}{σ:St}{H:Hp}{s:Shared}{E:ZD}
end
structure Cat (K:ZA) (D:Addr):Prop where
 ty:typeIn K (.ref D)=some (.type "type")
 ex:subIn K (.ref D) (.type "BaseException")=some true
 cd:(K.lookup D).any (λo=>match o.data with| .cls _=>true|_=>false)=true
structure AA (K:ZA) (C:Addr) (f:Str):Prop where
 ga:findIn K (.ref C) "__getattribute__"=some (some (.builtin "BaseException.__getattribute__"))
 hk:findIn K (.ref C) "__getattr__"=some none
 sub:subIn K (.ref C) (.type "BaseException")=some true
 no:findIn K (.ref C) f=some none
 hd:hasDictIn K C=true
section
#where
variable{K:ZA}{x C:Addr}{name:Str}{v:Value}{ox:Obj}{od:Option Obj}
theorem Fe(X:K.In s.heap)(I:PySem.W.InstAt s.heap x ox C od)(c:AA K C name)(d:findObj K C od name=some (.value v))(f:handedIn v=true)
 (h:Q v {s with toks:=s.toks+1}):↥A (getAttr (.ref x) name a) Q E s:=by
 have b:Looks (model prog w) s.heap (typeOf (.ref x)) (.ref C):=I.type;have sub:Looks (model prog w) s.heap (isInstance (.ref x) (.type "BaseException")) true:=b.andThen (looks_subIn X c.sub);have g:=looks_find (M:=model prog w) X I d;have S:=PySem.F.excAttr_ValueError.ga;refine Z2 (wpAny_mkText (wpAny_holding (Z2 (b _ _ _ _ (λ_ _ e=>e) (Z2 (looks_findIn X c.ga _ _ _ _ (λ_ _ e=>e) ?_))))));dsimp only;rw[show(onTheHeap (Value.ref C)&&Value.builtin "BaseException.__getattribute__"==Value.builtin "object.__getattribute__")=false from by rw[show(Value.builtin "BaseException.__getattribute__"==Value.builtin "object.__getattribute__")=false from by decide +kernel,Bool.and_false],if_neg (by decide)];refine Z2 (looks_hook X (mc:= .ref C) (r:=none) (c.hk) _ _ _ _ (λ_ _ e=>e) (Z2 (wpAny_attempt (wpAny_holding ?_))));unfold callGetattribute;rw[show(a&&onTheHeap (Value.builtin _))=false from Bool.and_false _,if_neg (by decide)];unfold boundAndCalled;rw[S.bind];refine wpAny_call ?_;refine codeAny_call_builtin S.plain PySem.F.entry_bexc_ga ?_;refine @check_slot _ _ _ _ _ _ "__getattribute__" _ _ [] _ (by decide +kernel) (by decide +kernel) sub (PySem.F.args_bexc_ga _ _) ?_;refine Z2 (Z3 (Z2 (Z3 (Z2 (Looks.here b (Z2 (Looks.here g (Z3 ?_))))))));show wpAny _ _ (handedOut v) _ _ _;rw[PySem.W.handedOut_of f];exact Z3 h
end
structure XIs (K:ZA) (C:Addr):Prop where
 ga:findIn K (.ref C) "__getattribute__"=some (some (.builtin "BaseException.__getattribute__"))
 hk:findIn K (.ref C) "__getattr__"=some none
 sub:subIn K (.ref C) (.type "BaseException")=some true
 hd:hasDictIn K C=true
 cl:findIn K (.ref C) "__class__"=some (some (.builtin "object.__class__"))
 gt:specialIn K (.builtin "object.__class__") "__get__"=some (some (.builtin "getset_descriptor.__get__"))
 tk:takesIn K (.builtin "object.__class__")=some true
 ob:mroIn K C (.type "object")=some true
section
#where
variable{K:ZA}{x C:Addr}{ox:Obj}{od:Option Obj}
theorem Ff(X:K.In s.heap)(I:PySem.W.InstAt s.heap x ox C od)(c:XIs K C)(h:Q (some (.ref C)) {s with toks:=s.toks+1}):↥A (getAttr? (.ref x) "__class__") Q E s:=by
 have a:Looks (model prog w) s.heap (typeOf (.ref x)) (.ref C):=I.type;have sub:Looks (model prog w) s.heap (isInstance (.ref x) (.type "BaseException")) true:=a.andThen (looks_subIn X c.sub);have b:findObj K C od "__class__"=some (.bind (.builtin "getset_descriptor.__get__") (.builtin "object.__class__")):=by
  have%[g,d|_]:=any_some c.hd;unfold findObj;rw[d,bind_some,c.cl,bind_some];dsimp only;rw[c.gt,bind_some];dsimp only;rw[c.tk,bind_some]
 have f:=looks_find (M:=model prog w) X I b;have S:=PySem.F.excAttr_ValueError.ga;unfold getAttr? getAttrBy? getAttrBy;refine Z2 (wpAny_mkText (Z2 (wpAny_attempt (wpAny_holding (Z2 (a _ _ _ _ (λ_ _ e=>e) (Z2 (looks_findIn X c.ga _ _ _ _ (λ_ _ e=>e) ?_))))))));dsimp only;rw[show(onTheHeap (Value.ref C)&&Value.builtin "BaseException.__getattribute__"==Value.builtin "object.__getattribute__")=false from by rw[show(Value.builtin "BaseException.__getattribute__"==Value.builtin "object.__getattribute__")=false from by decide +kernel,Bool.and_false],if_neg (by decide)];refine Z2 (looks_hook X (mc:= .ref C) (r:=none) (c.hk) _ _ _ _ (λ_ _ e=>e) (Z2 (wpAny_attempt (wpAny_holding ?_))));unfold callGetattribute;rw[show(false&&onTheHeap (Value.builtin "BaseException.__getattribute__"))=false from rfl,if_neg (by decide)];unfold boundAndCalled;rw[S.bind];refine Z2 (Z3 ?_);show wpAny _ _ (call (.builtin "BaseException.__getattribute__") _) _ _ _;refine wpAny_call ?_;refine codeAny_call_builtin S.plain PySem.F.entry_bexc_ga ?_;refine @check_slot (model prog w) _ _ {s with toks:=s.toks+1} _ "BaseException" "__getattribute__" (.ref x) [.str "__class__" s.toks] [] _ (by decide +kernel) (by decide +kernel) sub (PySem.F.args_bexc_ga (.ref x) (.str "__class__" s.toks)) ?_;exact Z2 (Z3 (Z2 (Z3 (Z2 (Looks.here a (Z2 (Looks.here f (Z2 (wpAny_holding (wpAny_call (PySem.W.class_get (ox:=ox) (od:=od) X I c.ob (Z3 (Z3 (Z3 h))))))))))))))
theorem CQ(c:XIs K C):PySem.W.KitX K (.ref x) (.ref C) (λh=>∃ox od,PySem.W.InstAt h x ox C od) where
 ty:=λ_ _ _ ⟨_,_,I⟩=>I.type
 it:=λ_ _ X _=>by
  have%[cdD,hcD|_]:=any_some c.hd;unfold clsIn at hcD
  split at hcD
  .rename_i c' d' cd' sl' ho
   intro A' Q' E' s' k q;exact Z2 (wpAny_loadPart (k _ _ (X _ _ ho)) (Z3 q))
  .cases hcD
 ne:=λh tp dd its n sl X htp=>by
  have%[cdD,hcD|_]:=any_some c.hd;refine Bool.eq_false_iff.mpr λq=>?_
  have e:=Value.ref.inj (beq_iff_eq.mp q);subst e;unfold clsIn at hcD
  split at hcD
  .rename_i c' d' cd' sl' ho
   have z:=(X _ _ ho).symm.trans htp;cases z
  .cases hcD
 ca:=λX ⟨_,_,I⟩ k=>Ff X I c k
end
section
variable{X:Cx}{pins:ZE}{σ:St}{H:Hp}{s:Shared}
end
theorem Fg{X:Cx}{D:Addr}(b:Gl X x)(c:X.mg x=some (.ref D))(a:(x==("__debug__":Str))=false):PE X (.Name x p) (λd H Q=>Q (.ref D) H):=λpins s d H Q I h=>
 iK I b c %[.ref D,H,I,rfl|h] a
noncomputable def be(mg:ZC)(x:Str):Addr:=match mg x with
 | some (.ref C)=>C
 | _=>0
theorem mB(h:mg x=some (.ref C)):be mg x=C:=by unfold be;rw[h]
structure AB (K:ZA) (mg:ZC) (x qual:Str) (st:Stmt) (ps:ZB):Prop where
 at_:mg x=some (.ref (be mg x))
 is:XIs K (be mg x)
 ini:∃f fd,MkX K (be mg x) f/\Fun K "__init__" qual st f fd/\di K fd ps []
structure Fh (P:Program) (w:World) (K:ZA) (mg:ZC) (base:Heap) (k:Nat) (x:Str) (ps:ZB) (sp:Sp):Prop where
 ex:∃f fd,hJ P w K mg base CX0 k f fd ps sp/\MkX K (be mg x) f/\mg x=some (.ref (be mg x))/\di K fd ps []
section
variable{P:Program}{w:World}{K:ZA}{mg:ZC}{base:Heap}{x qual:Str}{st:Stmt}{N ps:ZB}{k:Nat}{sp:Sp}
theorem AB.cal(D:AB K mg x qual st ps)(S:ax N ps (ah st))(len:∀vs H Q E,sp vs H Q E->vs.length=ps.length)
 (b:∀(f:Addr) (a:Value) (A:Around) (outer:List Env) (s:Shared) (H:Hp) (vs:List V) (Q:VK) (E:XK),exK K (be mg x) f=true->bQ k (A.deeper (envOfC qual (ah st) ⇑s f a))->sp vs H Q E->
  ∃t,PSs (oV CX0 P w K mg base N qual (ah st) f a A outer s H E).nox (bO st) t/\t {nx:=λ_ c=>Q .non c,rt:=Q} (start N vs) H):Fh P w K mg base (k+1) x ps sp:=by
 have%[f,d,M,F|e]:=D.ini;exact%[f,d,F.ok S len λa A outer s H vs Q E=>b f a A outer s H vs Q E M.ex,M,D.at_|e]
end
section
variable{X:Cx}{K:ZA}{pos:Pos}
theorem AC(C:Fh X.prog X.w X.K X.mg X.base j x ps sp)(g:bQ k X.A)(h:Gl X x)(a:Nat.ble (j+1) k=true)
 (b:(x==("__debug__":Str))=false) (c:(e::d).any ba=false) (i:QA X (e::d) t):QE X (.Call (.Name x p) (e::d) [] pos) (rH (be X.mg x) sp t):=by
 rw[Zy,Xa]at c;have%[f,n,F,M,l|m]:=C.ex;exact⟨Az M F (g.mono (Nat.le_of_ble_eq_true a)) h l m i.h b (az c.1) (eB c.2)⟩
theorem clsE(b:Gl X x)(c:X.mg x=some (.ref (be X.mg x)))(a:(x==("__debug__":Str))=false):QE X (.Name x p) (tC (.ref (be X.mg x))):=⟨Fg b c a⟩
theorem Fi(a:QE X e b):QE X (.FormattedValue e (-1) none pos) (Fb b):=⟨Fc a.h⟩
theorem AD:PJ X [] []:= .nil
theorem pjE(a:QE X e t)(h:PJ X b ts):PJ X (e::b) (t::ts):= .cons a.h h
theorem AE{rest:List Expr}(h:PJ X (v1::a::rest) ts):QE X (.JoinedStr (v1::a::rest) pos) (nu ts Str.empty):=⟨CP h⟩
theorem GE(c:Fa X.K C f)(b:e8 e=false)(d:QE X o g)(h:QE X e i):QS X (.Assign [.Attribute o f a] e pos) (DD X.K C g i f):=⟨CO c d.h h.h (ii b)⟩
end
theorem Fj{X:Cx}{C D f:Addr}(l:exK X.K C f=true)(m:Gl X x)(n:X.mg x=some (.ref D))(B:Aw X.K D)(g:(x==("__debug__":Str))=false)(h:(e::c).any ba=false)
 (i:∃pl:Sem Bool,eval (.Call (.Attribute (.Name x p) "__init__" b) (e::c) [] pos) X.env=(do
  let j<-eval (.Name x p) X.env
  standAt b.atName
  let(f,first)<-holding [j] (getMethod j "__init__" pl)
  callWith pos f first (backTo pos (starEach (e::c) X.env)) (backToKw pos (keywordEach [] X.env)))) (o:QA X (e::c) t):
 QE X (.Call (.Attribute (.Name x p) "__init__" b) (e::c) [] pos) (tCB (λxs H Q=>∃a d ys,xs=V.ref a::ys/\ys.length<=9/\H a=some (ExO a C d)/\Q .non H) t):=by
 rw[Zy,Xa]at h;have%[pl|i]:=i;exact⟨Ax m n B (vK l) o.h g (az h.1) (eB h.2) i⟩
section
#where
end
section
#where
end
section
#where
end
section
#where
end
def clo(c:TE):TE:=λd H Q=>∃a:VK,c d H a/\∀v b,a v b->Q v b
theorem Fk{X:Cx}(h:PE X e b):PE X e (clo b):=λpins s c H Q I ⟨d,q,k⟩=>
 thP (h pins s c H d I q) λ_ _ v a f r z=>%[v,a,f,r|k v a z]
theorem Fo{X:Cx}(h:PE X e t)(k:∀a H Q,t' a H Q->t a H Q):PE X e t':=λpins s a H Q I q=>h pins s a H Q I (k a H Q q)
theorem AF(h:H r=none):drop (upd H r o) r=H:=by
 funext b;unfold drop upd
 simp_all
def wM(C:Addr)(c:TE)(f:Str):TE:=λe H Q=>c e H λx b=>∃a d fs v,x= .ref a/\b a=some (ExO a C (some d))/\b d=some (.xd fs)/\fs.lookup f=some v/\Q v b
theorem wN{X:Cx}(c:AA X.K C f)(p:PE X e w)(y:attributeBase e f X.env (eval e X.env)=eval e X.env):PE X (.Attribute e f pos) (wM C w f):=by
 intro pins s z H Q I h;refine wC y (thP (p pins s z H _ I h) λu A x B b E ⟨a,d,fs,v,ex,G,L,l,q⟩=>?_);subst ex;obtain rfl:u=Value.ref a:=E;have%[%[o,vs,M,i,j,m,_|_]|_]:=b.hok a _ G;have%[N,n1|r]:=b.hok d _ L;have%[uv,O|n]:=fk.some_of (v:=v) (o:=N f) (by rw[<-l];exact r f);have%[od,T|U]:=pI n1;have%[oc,Y,ab|g]:=o;dsimp only at i j m;subst i j m;have J:PySem.W.InstAt A.heap a %[.ref C,some d,.fields vs|g] C (some od):=%[M,rfl,rfl|T]
 exact Fe b.kIn J c (findObj_own c.hd c.no rfl (by rw[U,O])) (pJ n) %[v,B,b.tok _,n|q]
theorem AG{X:Cx}:bR X (.builtin "isinstance") (λxs H Q=>∃a C d D b,xs=[.ref a,.ref D]/\H a=some (ExO a C (some d))/\(∃fs,H d=some (.xd fs))/\XIs X.K C/\kitOne X.K (.ref C) (.ref D)=some b/\Q (.bl b) H):=by
 intro pins s E H xs us Q I r h;have%[a,C,d,D,b,rfl,m,%[fs|n],c,e|q]:=h;have%[u,p,rfl,v|g]:=hW r;cases(show u=Value.ref a from v);cases(show p=Value.ref D from g);have%[%[o,vs,w,j,f,l,_|_]|_]:=I.hok a _ m;have%[G,y,A|B]:=o;dsimp only at j f l;subst j f l;have%[od|i]:=(I.hok d _ n).there;exact kia_one (CQ c) I.kIn %[_,some od,w,rfl,rfl|i] e (λz=>nomatch z) λtk=>%[.bl b,H,I.tok tk,rfl|q]
section
variable{X:Cx}{K:ZA}{pos:Pos}
theorem GF(c:AA X.K C f)(a:fZ e=false)(b:QE X e d):QE X (.Attribute e f pos) (wM C d f):=⟨wN c b.h (e9 a)⟩
theorem GG(h:X.K=K):cj X (.builtin "isinstance") (λxs H Q=>∃a C d D b,xs=[.ref a,.ref D]/\H a=some (ExO a C (some d))/\(∃fs,H d=some (.xd fs))/\XIs K C/\kitOne K (.ref C) (.ref D)=some b/\Q (.bl b) H):=by
 subst h;exact⟨AG⟩
end
end L2
namespace SBig
open PySem PyProof.Rows
section
variable(prog:Program)(w:World)(A:Around)(SI:Shared->Prop)
def SC{a:Type}(m:StateT SortSt Sem a)(Q:a->SortSt->Prop)(st:SortSt):Prop:=
 ∀s,SI s->↥A (m.run st) (λr s'=>SI s'/\Q r.1 r.2) (λ_ _=>False) s
def Cmp(a:SortKind)(D:Keyed->Prop)(N:Keyed->Nat):Prop:=
 ∀x y s,D x->D y->SI s->↥A (keyLt' a x.1 y.1) (λb s'=>b=decide (N x<N y)/\SI s') (λ_ _=>False) s
end
section
variable{prog:Program}{w:World}{A:Around}{SI:Shared->Prop}{α β:Type}
theorem au{st:SortSt}(h:Q a st):(SC prog w A SI) (pure a) Q st:=λs b=>by
 exact Z3 %[b|h]
theorem ap{st:SortSt}(h:(SC prog w A SI) m (λa b=>(SC prog w A SI) (f a) Q b) st):(SC prog w A SI) (m>>= f) Q st:=λs c=>by
 exact Z2 (wpAny_mono (h s c) (λr s' h'=>h'.2 s' h'.1) λ_ _ e=>e)
theorem bP{st:SortSt}(h:(SC prog w A SI) m Q st)(c:∀a b,Q a b->d a b):(SC prog w A SI) m d st:=λs f=>
 wpAny_mono (h s f) (λr s' h'=>%[h'.1|c _ _ h'.2]) λ_ _ e=>e
theorem fC{st:SortSt}(h:Q st st):(SC prog w A SI) get Q st:=λs a=>by
 exact Z3 %[a|h]
theorem cz{st:SortSt}(h:Q ⟨⟩ (f st)):(SC prog w A SI) (modify f) Q st:=λs a=>by
 exact Z3 %[a|h]
theorem Fp{st:SortSt}(h:Q ⟨⟩ x):(SC prog w A SI) (set x) Q st:=λs a=>by
 exact Z3 %[a|h]
theorem wO{st:SortSt}(h:∀s,SI s->↥A m (λa s'=>SI s'/\Q a st) (λ_ _=>False) s):(SC prog w A SI) (liftM m:StateT SortSt Sem α) Q st:=λs b=>by
 exact Z2 (wpAny_mono (h s b) (λa s' h'=>Z3 h') λ_ _ e=>e)
theorem iO{st:SortSt}(h:Q () st):(SC prog w A SI) (liftM (rule t):StateT SortSt Sem Unit) Q st:=wO λs a=>wpAny_rule %[a|h]
theorem bC{st:SortSt}(I:Nat->β->SortSt->Prop)(j:a<=b)(p:I a c st)
 (l:∀i x st,a<=i->i<b->I i x st->(SC prog w A SI) (f i x) (λr g=>match r with| .done y=>Q y g| .yield y=>I (i+1) y g) st) (m:∀x st,I b x st->Q x st):(SC prog w A SI) (forIn [a:b] c f) Q st:=by
 have q:∀d i x st,i+d=b->a<=i->I i x st->(SC prog w A SI) (forIn (List.range' i d 1) x f) Q st:=by
  intro d
  induction d with
  | zero=>
    intro i x st e _ h;subst e;exact au (m x st h)
  | succ d n=>
    intro i x st e o h;rw[List.range'_succ,forIn_cons];refine ap (bP (l i x st o ⋯ h) λr g h'=>?_);cases r with
    | done y=>exact au h'
    | yield y=>exact n _ y g ⋯ ⋯ h'
 simp_all
theorem bg{st:SortSt}(a:xs[i]? =some x)(h:Q x st):(SC prog w A SI) (elem' xs i) Q st:=by
 rw[elem'_eq,a];exact au h
theorem tK{st:SortSt}(c:Cmp prog w A SI (kindOf st) D N)(d:D x)(f:D y)(h:Q (some (decide (N x<N y))) st):(SC prog w A SI) (lt' x y) Q st:=by
 refine ap (fC (ap (wO (λs g=>wpAny_attempt (wpAny_mono (c x y s d f g) (λb s' ⟨i,a⟩=>?_) λ_ _ e=>e.elim)))));subst i;exact%[a|au h]
theorem CS{st:SortSt}(c:Cmp prog w A SI (kindOf st) D N)(hi:(arrOf st)[i]? =some x)(a:(arrOf st)[j]? =some y)(b:D x)(d:D y)
 (h:Q (some (decide (N x<N y))) st):(SC prog w A SI) (ltAt' i j) Q st:=by
 exact ap (fC (ap (bg hi (ap (bg a (tK c b d h))))))
end
noncomputable def fh:Bool->Keyed->Array Keyed->Nat->Nat->Nat->StateT SortSt Sem (Option Nat):=sortPriv% PySem.Builtin.gallop
end SBig
namespace SBig
open PySem PyProof.Rows
section
variable{prog:Program}{w:World}{A:Around}{SI:Shared->Prop}{α β:Type}
noncomputable def b8(N:Keyed->Nat)(left:Bool)(key x:Keyed):Bool:=if left then decide (N x<N key)else !decide (N key<N x)
theorem yh{D:Keyed->Prop}{N:Keyed->Nat}{left:Bool}{key x:Keyed}{a:Array Keyed}{i:Nat}{Q:Option Bool->SortSt->Prop}{st:SortSt}(c:Cmp prog w A SI (kindOf st) D N)(b:D key)(e:a[i]? =some x)(d:D x)
 (h:Q (some (b8 N left key x)) st):(SC prog w A SI) (do let x<-elem' a i;if left=true then lt' x key else do let y<-lt' key x;pure (y.map (!·))) Q st:=by
 refine ap (bg e ?_);cases left with
 | true=>
   exact tK c d b h
 | false=>
   exact ap (tK c b d (au h))
noncomputable def ga0(left:Bool)(key:Keyed)(a:Array Keyed)(base i:Nat):StateT SortSt Sem (Option Bool):=do
 let x<-elem' a (base+i)
 if left=true then lt' x key else do
  let y<-lt' key x
  pure (y.map (!·))
noncomputable def gaM(f:Nat->StateT SortSt Sem (Option Bool))(x:Option (Option Nat)×Nat×Nat):StateT SortSt Sem (ForInStep (Option (Option Nat)×Nat×Nat)):=
 if x.2.1>=x.2.2 then pure (.done (none,x.2.1,x.2.2))else do
  match<-f (x.2.1+(x.2.2-x.2.1)/2)with
  | some w=>if w=true then pure (.yield (none,x.2.1+(x.2.2-x.2.1)/2+1,x.2.2))else pure (.yield (none,x.2.1,x.2.1+(x.2.2-x.2.1)/2))
  | _=>pure (.done (some none,x.2.1,x.2.2))
noncomputable def ga3(f:Nat->StateT SortSt Sem (Option Bool))(n lo hi:Nat):StateT SortSt Sem (Option Nat):=do
 let x<-forIn [0:n] (none,lo,hi) λ_ x=>gaM f x
 match x.1 with
 | some r=>pure r
 | none=>pure (some x.2.2)
noncomputable def ga1(f:Nat->StateT SortSt Sem (Option Bool))(n hint:Nat)(x:Option (Option Nat)×Nat×Nat):StateT SortSt Sem (ForInStep (Option (Option Nat)×Nat×Nat)):=
 if x.2.2>=n-hint then pure (.done (none,x.2.1,x.2.2))else do
  match<-f (hint+x.2.2)with
  | some w=>if(!w)=true then pure (.done (none,x.2.1,x.2.2))else pure (.yield (none,x.2.2,2*x.2.2+1))
  | _=>pure (.done (some none,x.2.1,x.2.2))
noncomputable def ga2(f:Nat->StateT SortSt Sem (Option Bool))(hint:Nat)(x:Option (Option Nat)×Nat×Nat):StateT SortSt Sem (ForInStep (Option (Option Nat)×Nat×Nat)):=
 if x.2.2>=hint+1 then pure (.done (none,x.2.1,x.2.2))else do
  match<-f (hint-x.2.2)with
  | some w=>if w=true then pure (.done (none,x.2.1,x.2.2))else pure (.yield (none,x.2.2,2*x.2.2+1))
  | _=>pure (.done (some none,x.2.1,x.2.2))
set_option smartUnfolding false in
theorem GH(left:Bool)(key:Keyed)(a:Array Keyed)(base n hint:Nat):fh left key a base n hint=(do
 match<-ga0 left key a base hint with
 | some w=>
   if w=true then(do
    let x<-forIn [0:n] (none,0,1) λ_ x=>ga1 (ga0 left key a base) n hint x
    match x.1 with
    | some r=>pure r
    | none=>ga3 (ga0 left key a base) n (hint+x.2.1+1) (hint+min x.2.2 (n-hint)))
   else(do
    let x<-forIn [0:n] (none,0,1) λ_ x=>ga2 (ga0 left key a base) hint x
    match x.1 with
    | some r=>pure r
    | none=>ga3 (ga0 left key a base) n (hint+1-min x.2.2 (hint+1)) (hint-x.2.1))
 | _=>pure none):=rfl
theorem AH{f:Nat->StateT SortSt Sem (Option Bool)}{n lo hi:Nat}{Q:Option Nat->SortSt->Prop}{a:SortSt}{P:Nat->Bool}(ask:∀(i:Nat) (R:Option Bool->SortSt->Prop),i<n->R (some (P i)) a->(SC prog w A SI) (f i) R a)(c:∀i j,i<=j->j<n->P j=true->P i=true)
 (s:lo<=hi) (u:hi<=n) (v:∀i,i<lo->P i=true) (y:∀i,hi<=i->i<n->P i=false)
 (h:∀k,k<=n->(∀i,i<k->P i=true)->(∀i,k<=i->i<n->P i=false)->Q (some k) a):(SC prog w A SI) (ga3 f n lo hi) Q a:=by
 refine ap (bP (bC (Q:=λx b=>b=a/\∃k,x=(none,k,k)/\k<=n/\(∀i,i<k->P i=true)/\(∀i,k<=i->i<n->P i=false))
  (λj x b=>b=a/\∃l k,x=(none,l,k)/\l<=k/\k-l<=n-j/\k<=n/\(∀i,i<l->P i=true)/\(∀i,k<=i->i<n->P i=false)) (Xh _) %[rfl,_,_,rfl,s,⋯,u,v|y] ?_ ?_) ?_)
 .intro j x b _ C %[rfl,l,k,rfl,p,z,d,e|g];unfold gaM;dsimp only;by_cases m:l>=k
  .rw[if_pos m];obtain rfl:l=k:=by lia
   exact au %[rfl,l,rfl,d,e|g]
  .rw[if_neg m];have o:l+(k-l)/2<k:=by lia
   refine ap (ask _ _ ⋯ ?_);dsimp only;cases q:P _ with
   | true=>
     exact au %[rfl,_,_,rfl,o,⋯,d,λi hi=>c i _ ⋯ ⋯ q|g]
   | false=>
     refine au %[rfl,_,_,rfl,⋯,⋯,⋯,e|λi hi r=>?_];cases B:P i with
     | false=>rfl
     | true=>rw[c _ i hi r B]at q;cases q
 .intro x b %[rfl,l,k,rfl,p,z,d,e|g];obtain rfl:l=k:=by lia
  exact%[rfl,l,rfl,d,e|g]
 .intro x b %[rfl,k,rfl,d,e|g];exact au (h k d e g)
theorem eI{D:Keyed->Prop}{N:Keyed->Nat}{left:Bool}{key:Keyed}{q:Array Keyed}{base n hint:Nat}{Q:Option Nat->SortSt->Prop}{st:SortSt}(c:Cmp prog w A SI (kindOf st) D N)(C:D key)
 (E:∀i,i<n->∃x,q[base+i]? =some x/\D x) (P:Nat->Bool) (G:∀i x,i<n->q[base+i]? =some x->P i=b8 N left key x) (a:∀i j,i<=j->j<n->P j=true->P i=true) (y:hint<n)
 (h:∀k,k<=n->(∀i,i<k->P i=true)->(∀i,k<=i->i<n->P i=false)->Q (some k) st):(SC prog w A SI) (fh left key q base n hint) Q st:=by
 have ask:∀(i:Nat) (R:Option Bool->SortSt->Prop),i<n->R (some (P i)) st->(SC prog w A SI) (ga0 left key q base i) R st:=λi R hi H=>by
  have%[x,z|I]:=E i hi;exact yh c C z I ((G i x hi z)▸H)
 rw[GH];refine ap (ask hint _ y ?_);dsimp only;cases B:P hint with
 | true=>
   rw[if_pos rfl];refine ap (bP (bC (Q:=λx d=>d=st/\∃l o,x=(none,l,o)/\l<o/\hint+l<n/\P (hint+l)=true/\(n-hint<=o\/(hint+o<n/\P (hint+o)=false)))
    (λj x d=>d=st/\∃l o,x=(none,l,o)/\l<o/\hint+l<n/\P (hint+l)=true/\j<o) (Xh _) %[rfl,0,1,rfl,one_pos,y,B|one_pos] ?_ ?_) ?_)
   .intro j x d _ J %[rfl,l,o,rfl,e,b,g|r];unfold ga1;dsimp only;by_cases f:o>=n-hint
    .rw[if_pos f];exact au %[rfl,l,o,rfl,e,b,g|.inl f]
    .rw[if_neg f];have m:hint+o<n:=by lia
     refine ap (ask _ _ m ?_);dsimp only;cases p:P (hint+o)with
     | true=>
       rw[if_neg ∅];exact au %[rfl,o,_,rfl,⋯,m,p|⋯]
     | false=>
       rw[if_pos ∅];exact au %[rfl,l,o,rfl,e,b,g|.inr %[m|p]]
   .intro x d %[rfl,l,o,rfl,e,b,g|r];exact%[rfl,l,o,rfl,e,b,g|.inl ⋯]
   .intro x u %[rfl,l,o,rfl,e,b,g|m];refine AH ask a ⋯ ⋯ (λi hi=>a i _ ⋯ b g) (λi hi s=>?_) h;rcases m with m|⟨m,p⟩
    .lia
    .cases v:P i with
     | false=>rfl
     | true=>rw[a _ i ⋯ s v]at p;cases p
 | false=>
   rw[if_neg ∅];refine ap (bP (bC (Q:=λx d=>d=st/\∃l o,x=(none,l,o)/\l<o/\l<=hint/\P (hint-l)=false/\(hint+1<=o\/(o<=hint/\P (hint-o)=true)))
    (λj x d=>d=st/\∃l o,x=(none,l,o)/\l<o/\l<=hint/\P (hint-l)=false/\j<o) (Xh _) %[rfl,0,1,rfl,one_pos,Xh _,B|one_pos] ?_ ?_) ?_)
   .intro j x d _ J %[rfl,l,o,rfl,e,b,g|r];unfold ga2;dsimp only;by_cases f:o>=hint+1
    .rw[if_pos f];exact au %[rfl,l,o,rfl,e,b,g|.inl f]
    .rw[if_neg f];have m:o<=hint:=by lia
     refine ap (ask _ _ ⋯ ?_);dsimp only;cases p:P (hint-o)with
     | false=>
       rw[if_neg ∅];exact au %[rfl,o,_,rfl,⋯,m,p|⋯]
     | true=>
       rw[if_pos rfl];exact au %[rfl,l,o,rfl,e,b,g|.inr %[m|p]]
   .intro x d %[rfl,l,o,rfl,e,b,g|r];exact%[rfl,l,o,rfl,e,b,g|.inl ⋯]
   .intro x u %[rfl,l,o,rfl,e,b,g|m];refine AH ask a ⋯ ⋯ (λi hi=>?_) (λi hi s=>?_) h
    .rcases m with m|⟨m,p⟩
     .lia
     .exact a i _ ⋯ ⋯ p
    .cases v:P i with
     | false=>rfl
     | true=>rw[a _ i ⋯ s v]at g;cases g
end
end SBig
namespace SBig
open PySem PyProof.Rows
noncomputable def nv:Array Keyed->Array Keyed->StateT SortSt Sem (Array Keyed):=sortPriv% PySem.Builtin.mergeLo
noncomputable def nA:Array Keyed->Array Keyed->StateT SortSt Sem (Array Keyed):=sortPriv% PySem.Builtin.mergeHi
noncomputable def cR:Nat->StateT SortSt Sem Unit:=sortPriv% PySem.Builtin.setMinGallop
theorem fJ(g:Nat):cR g=modify (λs=>SortSt.mk' (kindOf s) (arrOf s) (pendingOf s) g (failedOf s)):=rfl
def Srt(N:Keyed->Nat)(l:List Keyed):Prop:=l.Pairwise λx y=>N x<=N y
theorem Srt.drop{N:Keyed->Nat}{l:List Keyed}(h:Srt N l)(k:Nat):Srt N (l.drop k):=List.Pairwise.sublist (List.drop_sublist _ _) h
theorem Srt.le{N:Keyed->Nat}{l:List Keyed}(h:Srt N l){i j:Nat}{x y:Keyed}(a:i<=j)(b:l[i]? =some x)(c:l[j]? =some y):N x<=N y:=by
 rcases Nat.eq_or_lt_of_le a with e|e
 .simp_all
 .have%[d|g]:=Xp b;have%[f|m]:=Xp c;have:=List.pairwise_iff_getElem.mp h i j d f e
  simp_all
theorem bX{l:List Keyed}{k:Nat}{y:Keyed}(h:y∈l.drop k):∃j,k<=j/\j<l.length/\l[j]? =some y:=by
 have%[i|hi]:=Xi h;rw[Yc]at hi;exact%[k+i,⋯,(Xp hi).1|hi]
theorem lH{l:List Keyed}{i k:Nat}{x:Keyed}(h:x∈(l.drop i).take k):∃j,j<k/\l[i+j]? =some x:=by
 have%[j|a]:=Xi h;rw[Yd]at a
 split at a
 .rw[Yc]at a;exact%[j,by assumption|a]
 .lia
theorem Srt.drop_le{N:Keyed->Nat}{l:List Keyed}(h:Srt N l){i:Nat}{x y:Keyed}(a:l[i]? =some x)(b:y∈l.drop i):N x<=N y:=by
 have%[j,c,_|e]:=bX b;exact h.le c a e
structure MI (N:Keyed->Nat) (A B out:List Keyed) (ia ib:Nat):Prop where
 perm:(out++A.drop ia++B.drop ib).Perm (A++B)
 srt:Srt N out
 ca:∀x∈out,∀y∈A.drop ia,N x<=N y
 cb:∀x∈out,∀y∈B.drop ib,N x<=N y
theorem MI.zero(N:Keyed->Nat)(A B:List Keyed):MI N A B [] 0 0:=%[by simp,List.Pairwise.nil,λ_ h=>(nomatch h)|λ_ h=>(nomatch h)]
theorem MI.takeA{N:Keyed->Nat}{A B out:List Keyed}{b d:Nat}(h:MI N A B out b d)(g:Srt N A)(k:Nat)(f:∀x∈(A.drop b).take k,∀y∈B.drop d,N x<=N y):MI N A B (out++(A.drop b).take k) (b+k) d:=by
 have e:A.drop b=(A.drop b).take k++A.drop (b+k):=drop_drop▸(Xe k _).symm;have%[i,_|j]:=pairwise_append.mp (e▸g.drop b);refine%[?_,pairwise_append.mpr %[h.srt,i|λx a y c=>h.ca x a y (Yz c)],λx a y c=>?_|λx a y c=>?_]
 .have p:=h.perm;rw[e]at p;rwa[<-Ze]at p
 .rcases Xq a with a|a
  .exact h.ca x a y (e▸Yw _ c)
  .exact j x a y c
 .rcases Xq a with a|a
  .exact h.cb x a y c
  .exact f x a y c
theorem MI.takeB{N:Keyed->Nat}{A B out:List Keyed}{d b:Nat}(h:MI N A B out d b)(g:Srt N B)(k:Nat)(f:∀x∈(B.drop b).take k,∀y∈A.drop d,N x<=N y):MI N A B (out++(B.drop b).take k) d (b+k):=by
 have e:B.drop b=(B.drop b).take k++B.drop (b+k):=drop_drop▸(Xe k _).symm;have%[i,_|j]:=pairwise_append.mp (e▸g.drop b);refine%[?_,pairwise_append.mpr %[h.srt,i|λx a y c=>h.cb x a y (Yz c)],λx a y c=>?_|λx a y c=>?_]
 .have p:=h.perm;rw[e]at p;refine List.Perm.trans ?_ p;rw[Ze,Ze,Ze];refine List.Perm.append_left _ ?_;rw[<-Ze,<-Ze];exact Xn _ perm_append_comm
 .rcases Xq a with a|a
  .exact h.ca x a y c
  .exact f x a y c
 .rcases Xq a with a|a
  .exact h.cb x a y (e▸Yw _ c)
  .exact j x a y c
def cS(N:Keyed->Nat)(A B r:List Keyed):Prop:=Srt N r/\r.Perm (A++B)
theorem MI.done{N:Keyed->Nat}{A B out:List Keyed}{a b:Nat}(h:MI N A B out a b)(e:Srt N A)(f:Srt N B)(g:∀x∈A.drop a,∀y∈B.drop b,N x<=N y):cS N A B (out++A.drop a++B.drop b):=
 %[pairwise_append.mpr %[pairwise_append.mpr %[h.srt,e.drop a|h.ca],f.drop b|λx c y d=>(Xq c).elim (λq=>h.cb x q y d) λq=>g x q y d]|h.perm]
theorem MI.last{N:Keyed->Nat}{A B out:List Keyed}{a b:Nat}(h:MI N A B out a b)(e:Srt N A)(f:Srt N B)(g:∀y∈B.drop b,∀x∈A.drop a,N y<=N x):cS N A B (out++B.drop b++A.drop a):=by
 refine%[pairwise_append.mpr %[pairwise_append.mpr %[h.srt,f.drop b|h.cb],e.drop a|λx c y d=>(Xq c).elim (λq=>h.ca x q y d) λq=>g x q y d]|List.Perm.trans ?_ h.perm];rw[Ze,Ze];exact List.Perm.append_left _ perm_append_comm
theorem jI{l:List Keyed}{i:Nat}{x:Keyed}(h:l[i]? =some x):(l.drop i).take 1=[x]:=by
 have%[a|e]:=Xp h;rw[List.drop_eq_getElem_cons a,e];rfl
theorem MI.oneA{N:Keyed->Nat}{A B out:List Keyed}{a b:Nat}{x:Keyed}(h:MI N A B out a b)(e:Srt N A)(d:A[a]? =some x)(c:∀y∈B.drop b,N x<=N y):MI N A B (out++[x]) (a+1) b:=by
 have:=h.takeA e 1 (by rw[jI d];intro z f;rw[Xr f];exact c);rwa[jI d]at this
theorem MI.oneB{N:Keyed->Nat}{A B out:List Keyed}{a b:Nat}{x:Keyed}(h:MI N A B out a b)(e:Srt N B)(d:B[b]? =some x)(c:∀y∈A.drop a,N x<=N y):MI N A B (out++[x]) a (b+1):=by
 have:=h.takeB e 1 (by rw[jI d];intro z f;rw[Xr f];exact c);rwa[jI d]at this
theorem nB(a:Array Keyed)(i j:Nat):(a.extract i j).toList=(a.toList.drop i).take (j-i):=by
 simp
theorem mC(a:Array Keyed)(i:Nat):(a.extract i a.size).toList=a.toList.drop i:=by
 rw[nB,Zn]
 simp_all
def SG(st a:SortSt):Prop:=kindOf a=kindOf st/\arrOf a=arrOf st/\pendingOf a=pendingOf st/\failedOf a=failedOf st
theorem SG.refl(st:SortSt):SG st st:=%[rfl,rfl,rfl|rfl]
theorem SG.set{st a:SortSt}(h:SG st a)(g:Nat):SG st (SortSt.mk' (kindOf a) (arrOf a) (pendingOf a) g (failedOf a)):=h
end SBig
namespace SBig
open PySem PyProof.Rows
section
variable{prog:Program}{w:World}{A:Around}{SI:Shared->Prop}{α β:Type}
theorem a8{a:Array Keyed}{i:Nat}(h:i<a.size):a[i]? =some a[i]/\a.toList[i]? =some a[i]:=%[by simp|by simp]
theorem rJ(a:Array Keyed)(i k:Nat):(a.extract i (i+k)).toList=(a.toList.drop i).take k:=by
 simp
theorem qe{N:Keyed->Nat}{a:Array Keyed}{b:Nat}{key d:Keyed}(f:Srt N a.toList){i j:Nat}(g:i<=j)(c:b+j<a.size)(h:b8 N false key (a.getD (b+j) d)=true):b8 N false key (a.getD (b+i) d)=true:=by
 have e:∀i hi,a.getD (b+i) d=a[b+i]:=λi hi=>by simp[hi]
 rw[e j c]at h;rw[e i ⋯];have l:=f.le (i:=b+i) ⋯ (a8 ⋯).2 (a8 c).2;unfold b8 at h ⊢
 grind
theorem qf{N:Keyed->Nat}{a:Array Keyed}{b:Nat}{key d:Keyed}(f:Srt N a.toList){i j:Nat}(g:i<=j)(c:b+j<a.size)(h:b8 N true key (a.getD (b+j) d)=true):b8 N true key (a.getD (b+i) d)=true:=by
 have e:∀i hi,a.getD (b+i) d=a[b+i]:=λi hi=>by simp[hi]
 rw[e j c]at h;rw[e i ⋯];have l:=f.le (i:=b+i) ⋯ (a8 ⋯).2 (a8 c).2;unfold b8 at h ⊢
 grind
theorem GI{N:Keyed->Nat}{a:Array Keyed}{b n k:Nat}{key d:Keyed}(c:∀i,i<k->b8 N false key (a.getD (b+i) d)=true)(f:∀i,k<=i->i<n->b8 N false key (a.getD (b+i) d)=false):
 (∀i x,i<k->a[b+i]? =some x->N x<=N key)/\∀i x,k<=i->i<n->a[b+i]? =some x->N key<N x:=by
 refine%[λi x hi e=>?_|λi x hi g e=>?_]
 .have:=c i hi;rw[Zs,e]at this;unfold b8 at this;simpa using this
 .have:=f i hi g;rw[Zs,e]at this;unfold b8 at this;simpa using this
theorem GJ{N:Keyed->Nat}{a:Array Keyed}{b n k:Nat}{key d:Keyed}(c:∀i,i<k->b8 N true key (a.getD (b+i) d)=true)(f:∀i,k<=i->i<n->b8 N true key (a.getD (b+i) d)=false):
 (∀i x,i<k->a[b+i]? =some x->N x<N key)/\∀i x,k<=i->i<n->a[b+i]? =some x->N key<=N x:=by
 refine%[λi x hi e=>?_|λi x hi g e=>?_]
 .have:=c i hi;rw[Zs,e]at this;unfold b8 at this;simpa using this
 .have:=f i hi g;rw[Zs,e]at this;unfold b8 at this;simpa using this
structure ML (N:Keyed->Nat) (a b out:Array Keyed) (ia ib:Nat):Prop where
 mi:MI N a.toList b.toList out.toList ia ib
 na:ia+1<a.size
 nb:ib<b.size
noncomputable def lo3(a b out:Array Keyed)(c d g k k1:Nat):StateT SortSt Sem (ForInStep (Option (Array Keyed)×Array Keyed×Nat×Nat×Nat×Nat×Nat)):=elem' a c>>= λe=>if(c+1+1==a.size)=true then pure (.done (some (out.push e++b.extract d b.size++a.extract (c+1) a.size),out.push e,c+1,d,g,k,k1))else if(decide (k<7)&&decide (k1<7))=true then pure (.done (none,out.push e,c+1,d,g,k,k1))else pure (.yield (none,out.push e,c+1,d,g,k,k1))
noncomputable def lo2(a b out:Array Keyed)(d c g k f:Nat):StateT SortSt Sem (ForInStep (Option (Array Keyed)×Array Keyed×Nat×Nat×Nat×Nat×Nat)):=elem' b c>>= λe=>if(c+1==b.size)=true then pure (.done (some (out.push e++a.extract d a.size++b.extract (c+1) b.size),out.push e,d,c+1,g,k,f))else elem' a d>>= λh=>fh true h b (c+1) (b.size-(c+1)) 0>>= fun|some k1=>if k1>0 then if(c+1+k1==b.size)=true then pure (.done (some (out.push e++b.extract (c+1) (c+1+k1) ++a.extract d a.size++b.extract (c+1+k1) b.size),out.push e++b.extract (c+1) (c+1+k1),d,c+1+k1,g,k,k1))else lo3 a b (out.push e++b.extract (c+1) (c+1+k1)) d (c+1+k1) g k k1 else lo3 a b (out.push e) d (c+1) g k k1|_=>pure (.done (some (out.push e++a.extract d a.size++b.extract (c+1) b.size),out.push e,d,c+1,g,k,f))
noncomputable def lo1(a b out:Array Keyed)(c d h f g:Nat):StateT SortSt Sem (ForInStep (Option (Array Keyed)×Array Keyed×Nat×Nat×Nat×Nat×Nat)):=cR g>>= λ_=>elem' b d>>= λe=>fh false e a c (a.size-c) 0>>= fun|some k=>if k>0 then if(c+k+1==a.size)=true then pure (.done (some (out++a.extract c (c+k) ++b.extract d b.size++a.extract (c+k) a.size),out++a.extract c (c+k),c+k,d,g,k,f))else if(c+k==a.size)=true then pure (.done (some (out++a.extract c (c+k) ++a.extract (c+k) a.size++b.extract d b.size),out++a.extract c (c+k),c+k,d,g,k,f))else lo2 a b (out++a.extract c (c+k)) (c+k) d g k f else lo2 a b out c d g k f|_=>pure (.done (some (out++a.extract c a.size++b.extract d b.size),out,c,d,g,h,f))
noncomputable def loI(a b out:Array Keyed)(c d g f h:Nat):StateT SortSt Sem (ForInStep (Option (Array Keyed)×Array Keyed×Nat×Nat×Nat×Nat)):=elem' b d>>= λi=>elem' a c>>= λj=>lt' i j>>= fun|some w=>if w=true then(elem' b d>>= λe=>if(d+1==b.size)=true then pure (.done (some (out.push e++a.extract c a.size++b.extract (d+1) b.size),out.push e,c,d+1,0,h+1))else if h+1>=g then pure (.done (none,out.push e,c,d+1,0,h+1))else pure (.yield (none,out.push e,c,d+1,0,h+1)))else(elem' a c>>= λe=>if(c+1+1==a.size)=true then pure (.done (some (out.push e++b.extract d b.size++a.extract (c+1) a.size),out.push e,c+1,d,f+1,0))else if f+1>=g then pure (.done (none,out.push e,c+1,d,f+1,0))else pure (.yield (none,out.push e,c+1,d,f+1,0)))|_=>pure (.done (some (out++a.extract c a.size++b.extract d b.size),out,c,d,f,h))
noncomputable def loG(a b:Array Keyed):Option (Array Keyed)×Array Keyed×Nat×Nat×Nat×Nat×Nat->StateT SortSt Sem (ForInStep (Option (Array Keyed)×Array Keyed×Nat×Nat×Nat×Nat×Nat)):=λx=>
 if x.2.2.2.2.1>1 then lo1 a b x.2.1 x.2.2.1 x.2.2.2.1 x.2.2.2.2.2.1 x.2.2.2.2.2.2 (x.2.2.2.2.1-1)else lo1 a b x.2.1 x.2.2.1 x.2.2.2.1 x.2.2.2.2.2.1 x.2.2.2.2.2.2 x.2.2.2.2.1
noncomputable def loE(x:Option (Array Keyed)×Array Keyed×Nat×Nat×Nat×Nat×Nat):StateT SortSt Sem (ForInStep (Option (Array Keyed)×Array Keyed×Nat×Nat×Nat)):=
 match x.1 with
 | some r=>pure (.done (some r,x.2.1,x.2.2.1,x.2.2.2.1,x.2.2.2.2.1))
 | none=>do
   cR (x.2.2.2.2.1+1)
   pure (.yield (none,x.2.1,x.2.2.1,x.2.2.2.1,x.2.2.2.2.1+1))
noncomputable def loF(a b:Array Keyed)(g:Nat)(x:Option (Array Keyed)×Array Keyed×Nat×Nat×Nat×Nat):StateT SortSt Sem (ForInStep (Option (Array Keyed)×Array Keyed×Nat×Nat×Nat)):=
 match x.1 with
 | some r=>pure (.done (some r,x.2.1,x.2.2.1,x.2.2.2.1,g))
 | none=>do
   rule "list.sort.gallop"
   let x<-forIn [0:a.size+b.size] (none,x.2.1,x.2.2.1,x.2.2.2.1,g+1,x.2.2.2.2.1,x.2.2.2.2.2) λ_ x=>loG a b x
   loE x
noncomputable def loO(a b:Array Keyed):Option (Array Keyed)×Array Keyed×Nat×Nat×Nat->StateT SortSt Sem (ForInStep (Option (Array Keyed)×Array Keyed×Nat×Nat×Nat)):=λx=>do
 let y<-forIn [0:a.size+b.size] (none,x.2.1,x.2.2.1,x.2.2.2.1,0,0) λ_ y=>loI a b y.2.1 y.2.2.1 y.2.2.2.1 x.2.2.2.2 y.2.2.2.2.1 y.2.2.2.2.2
 loF a b x.2.2.2.2 y
noncomputable def loR(x:Option (Array Keyed)×Array Keyed×Nat×Nat×Nat):StateT SortSt Sem (Array Keyed):=
 match x.1 with
 | some r=>pure r
 | none=>unsupported "internal:list.sort.merge-bound"
set_option smartUnfolding false in
theorem GK(a b:Array Keyed):nv a b=(do
 rule "list.sort.merge-lo"
 let e<-elem' b 0
 if(1==b.size)=true then pure (#[e] ++a.extract 0 a.size++b.extract 1 b.size)
 else if(0+1==a.size)=true then pure (#[e] ++b.extract 1 b.size++a.extract 0 a.size)
 else do
  let s<-get
  let x<-forIn [0:a.size+b.size] (none,#[e],0,1,gallopOf s) λ_ x=>loO a b x
  loR x):=by
 rfl
theorem SG.trans{s t u:SortSt}(h:SG s t)(k:SG t u):SG s u:=%[k.1.trans h.1,k.2.1.trans h.2.1,k.2.2.1.trans h.2.2.1|k.2.2.2.trans h.2.2.2]
structure LC (prog:Program) (w:World) (A:Around) (SI:Shared->Prop) (D:Keyed->Prop) (N:Keyed->Nat) (a b:Array Keyed) (st:SortSt):Prop where
 c:Cmp prog w A SI (kindOf st) D N
 hA:Srt N a.toList
 hB:Srt N b.toList
 DA:∀{i:Nat} (hi:i<a.size),D a[i]
 DB:∀{i:Nat} (hi:i<b.size),D b[i]
 fd:∀(out:Array Keyed) (ia ib:Nat),MI N a.toList b.toList out.toList ia ib->(a.size<=ia\/b.size<=ib)->cS N a.toList b.toList (out++a.extract ia a.size++b.extract ib b.size).toList
 fl:∀(out:Array Keyed) (ia ib:Nat),MI N a.toList b.toList out.toList ia ib->ia+1=a.size->cS N a.toList b.toList (out++b.extract ib b.size++a.extract ia a.size).toList
theorem LC.of{D:Keyed->Prop}{N:Keyed->Nat}{a b:Array Keyed}{s t:SortSt}(C:LC prog w A SI D N a b s)(h:SG s t):LC prog w A SI D N a b t:={C with c:=h.1▸C.c}
variable{D:Keyed->Prop}{N:Keyed->Nat}{a b out:Array Keyed}{ia ib g k bc z:Nat}{st:SortSt}
theorem AI{k1:Nat}{R:ForInStep _->SortSt->Prop}(C:LC prog w A SI D N a b st)(m:MI N a.toList b.toList out.toList ia ib)(na:ia+1<a.size)(nb:ib<b.size)(c:∀y∈b.toList.drop ib,N (a[ia]'⋯)<=N y)(p:z<=out.size+1)
 (j:∀r o,cS N a.toList b.toList r.toList->R (.done (some r,o)) st) (l:∀out ia ib g k k1,ML N a b out ia ib->z<=out.size->R (.done (none,out,ia,ib,g,k,k1)) st/\R (.yield (none,out,ia,ib,g,k,k1)) st):(SC prog w A SI) (lo3 a b out ia ib g k k1) R st:=by
 have%[n|d]:=a8 (a:=a) (i:=ia) ⋯;refine ap (bg n ?_);have e:=MI.oneA m C.hA d c;rw[<-toList_push]at e;by_cases f:ia+1+1=a.size
 .rw[if_pos (by simp[f])];exact au (j _ _ (C.fl _ _ _ e f))
 rw[if_neg (by simp[f])];have h:=l _ _ _ g k k1 (ML.mk e ⋯ nb) (by simp_all)
 split
 .exact au h.1
 .exact au h.2
theorem AJ{R:ForInStep (Option (Array Keyed)×Array Keyed×Nat×Nat×Nat×Nat×Nat)->SortSt->Prop}(C:LC prog w A SI D N a b st)(m:MI N a.toList b.toList out.toList ia ib)(na:ia+1<a.size)(nb:ib<b.size)(h:∀y∈a.toList.drop ia,N b[ib]<=N y)(U:z<=out.size+2)
 (d:∀r o,cS N a.toList b.toList r.toList->R (.done (some r,o)) st) (v:∀out ia ib g k k1,ML N a b out ia ib->z<=out.size->R (.done (none,out,ia,ib,g,k,k1)) st/\R (.yield (none,out,ia,ib,g,k,k1)) st):(SC prog w A SI) (lo2 a b out ia ib g k bc) R st:=by
 have%[I|l]:=a8 (a:=b) (i:=ib) nb;have%[J|n]:=a8 (a:=a) (i:=ia) ⋯;unfold lo2;refine ap (bg I ?_);have f:=MI.oneB m C.hB l h;rw[<-toList_push]at f;by_cases B:ib+1=b.size
 .rw[if_pos (by simp[B])];exact au (d _ _ (C.fd _ _ _ f (.inr ⋯)))
 rw[if_neg (by simp[B])];refine ap (bg J ?_);refine ap (eI C.c (C.DA ⋯) (λi hi=>%[b[ib+1+i]'⋯,(a8 ⋯).1|C.DB ⋯]) (λi=>b8 N true (a[ia]'⋯) (b.getD (ib+1+i) b[ib]))
  (λi x hi p=>by rw[Zs,p];rfl) (λi Y q hi L=>qf C.hB q ⋯ L) ⋯ λk2 M O Q=>?_)
 dsimp only;have E:=GJ O Q;have c:∀y∈b.toList.drop (ib+1+k2),N (a[ia]'⋯)<=N y:=λy s=>by
  have%[j,h1,T|e]:=bX s;rw[Zb]at T;exact E.2 (j-(ib+1)) y ⋯ ⋯ (by rw[show ib+1+(j-(ib+1))=j by lia];simpa using e)
 have u:=f.takeB C.hB k2 (λx p y s=>by
  have%[i,hi|e]:=lH p;exact Yi (Yg (E.1 i x hi (by simpa using e))) (C.hA.drop_le n s))
 by_cases G:k2>0
 .rw[if_pos G];rw[<-rJ,<-Xg]at u;by_cases H:ib+1+k2=b.size
  .rw[if_pos (by simp[H])];exact au (d _ _ (C.fd _ _ _ u (.inr ⋯)))
  rw[if_neg (by simp[H])];exact AI C u na ⋯ c (by simp;lia) d v
 .rw[if_neg G];obtain rfl:k2=0:=by lia
  exact AI C f na ⋯ c (by rw[Xl];lia) d v
theorem Fq{H:Nat}{R:ForInStep (Option (Array Keyed)×Array Keyed×Nat×Nat×Nat×Nat×Nat)->SortSt->Prop}(C:LC prog w A SI D N a b st)(m:ML N a b out ia ib)(I:z<=out.size+2)
 (l:∀c r o,SG st c->cS N a.toList b.toList r.toList->R (.done (some r,o)) c) (B:∀c out ia ib g k k1,SG st c->ML N a b out ia ib->z<=out.size->R (.done (none,out,ia,ib,g,k,k1)) c/\R (.yield (none,out,ia,ib,g,k,k1)) c):(SC prog w A SI) (lo1 a b out ia ib H bc g) R st:=by
 have d:=m.nb;have n:=m.na;have%[J|p]:=a8 (a:=b) (i:=ib) d;unfold lo1;rw[fJ];refine ap (cz ?_);have sg:=(SG.refl st).set g;refine ap (bg J ?_);refine ap (eI (C.of sg).c (C.DB d) (λi hi=>%[a[ia+i]'⋯,(a8 ⋯).1|C.DA ⋯]) (λi=>b8 N false b[ib] (a.getD (ia+i) b[ib]))
  (λi x hi q=>by rw[Zs,q];rfl) (λi T s hi L=>qe C.hA s ⋯ L) ⋯ λk U M O=>?_)
 dsimp only;have E:=GI M O;have mk:=m.mi.takeA C.hA k (λx q y u=>by
  have%[i,hi|e]:=lH q;exact Yi (E.1 i x hi (by simpa using e)) (C.hB.drop_le p u))
 have f:∀y∈a.toList.drop (ia+k),N b[ib]<=N y:=λy u=>by
  have%[j,Y,Q|e]:=bX u;rw[Zb]at Q;exact Yg (E.2 (j-ia) y ⋯ ⋯ (by rw[show ia+(j-ia)=j by lia];simpa using e))
 by_cases h:k>0
 .rw[if_pos h];rw[<-rJ,<-Xg]at mk;by_cases v:ia+k+1=a.size
  .rw[if_pos (by simp[v])];exact au (l _ _ _ sg (C.fl _ _ _ mk v))
  rw[if_neg (by simp[v])];by_cases G:ia+k=a.size
  .rw[if_pos (by simp[G])];exact au (l _ _ _ sg (C.fd _ _ _ mk (.inl ⋯)))
  rw[if_neg (by simp[G])];exact AJ (C.of sg) mk ⋯ d f (by simp;lia) (λr o=>l _ r o sg) λout ia ib g k k1=>B _ out ia ib g k k1 sg
 .rw[if_neg h];obtain rfl:k=0:=by lia
  exact AJ (C.of sg) m.mi n d f I (λr o=>l _ r o sg) λout ia ib g k k1=>B _ out ia ib g k k1 sg
theorem Fr{e:Nat}{R:ForInStep (Option (Array Keyed)×Array Keyed×Nat×Nat×Nat×Nat)->SortSt->Prop}(C:LC prog w A SI D N a b st)(m:ML N a b out ia ib)(p:z<=out.size+1)
 (s:∀r o,cS N a.toList b.toList r.toList->R (.done (some r,o)) st) (u:∀out ia ib e bc,ML N a b out ia ib->z<=out.size->R (.done (none,out,ia,ib,e,bc)) st/\R (.yield (none,out,ia,ib,e,bc)) st):(SC prog w A SI) (loI a b out ia ib g e bc) R st:=by
 have l:=m.na;have d:=m.nb;have f:ia<a.size:=by lia
 have%[v|i]:=a8 f;have%[B|j]:=a8 d;refine ap (bg B (ap (bg v (ap (tK C.c (C.DB d) (C.DA f) ?_)))));dsimp only;by_cases c:N b[ib]<N a[ia]
 .rw[Zf c,if_pos rfl];refine ap (bg B ?_);have m2:=m.mi.oneB C.hB j λy n=>Yi (Yg c) (C.hA.drop_le i n)
  rw[<-toList_push]at m2;by_cases q:ib+1=b.size
  .rw[if_pos (by simp[q])];exact au (s _ _ (C.fd _ _ _ m2 (.inr ⋯)))
  rw[if_neg (by simp[q])];have h:=u _ _ _ 0 (bc+1) %[m2,l|⋯] (by rw[Xl];exact p)
  split
  .exact au h.1
  .exact au h.2
 .rw[Zh c,if_neg ∅];refine ap (bg v ?_);have m2:=m.mi.oneA C.hA i λy n=>Yi (Nat.le_of_not_lt c) (C.hB.drop_le j n)
  rw[<-toList_push]at m2;by_cases q:ia+1+1=a.size
  .rw[if_pos (by simp[q])];exact au (s _ _ (C.fl _ _ _ m2 q))
  rw[if_neg (by simp[q])];have h:=u _ _ _ (e+1) 0 %[m2,⋯|d] (by rw[Xl];exact p)
  split
  .exact au h.1
  .exact au h.2
theorem Fs{j:Nat}{q:Option (Array Keyed)}{R:ForInStep (Option (Array Keyed)×Array Keyed×Nat×Nat×Nat)->SortSt->Prop}(C:LC prog w A SI D N a b st)(m:ML N a b out ia ib)(e:j+1<=out.size)
 (p:∀d r o,SG st d->cS N a.toList b.toList r.toList->R (.done (some r,o)) d) (s:∀d out ia ib g,SG st d->ML N a b out ia ib->j+2<=out.size->R (.yield (none,out,ia,ib,g)) d):(SC prog w A SI) (loO a b (q,out,ia,ib,g)) R st:=by
 have u:=m.na;refine ap (bP (bC (Q:=λx d=>SG st d/\((∃r o,x=(some r,o)/\cS N a.toList b.toList r.toList)\/∃out ia ib f bc,x=(none,out,ia,ib,f,bc)/\ML N a b out ia ib/\j+2<=out.size))
  (λj2 x d=>SG st d/\∃out ia ib f bc,x=(none,out,ia,ib,f,bc)/\ML N a b out ia ib/\j+1+j2<=out.size) (Xh _) %[SG.refl _,_,_,_,_,_,rfl,m|e] ?_ ?_) ?_)
 .intro j2 x i _ l %[c,out,ia,ib,f,bc,rfl,m|e];exact Fr (C.of c) m ⋯ (λr o h=>%[c|.inl %[r,o,rfl|h]]) λout ia ib f bc h z=>%[%[c|.inr %[_,_,_,_,_,rfl,h|⋯]],c,_,_,_,_,_,rfl,h|z]
 .intro x i %[c,out,ia,ib,f,bc,rfl,m|e];exact%[c|.inr %[_,_,_,_,_,rfl,m|⋯]]
 .rintro x i ⟨c,⟨r,o,rfl,n⟩|⟨out,ia,ib,f,bc,rfl,m,e⟩⟩
  .exact au (p _ r _ c n)
  .refine ap (iO ?_);refine ap (bP (bC (Q:=λx d=>SG st d/\((∃r o,x=(some r,o)/\cS N a.toList b.toList r.toList)\/∃out ia ib g f bc,x=(none,out,ia,ib,g,f,bc)/\ML N a b out ia ib/\j+2<=out.size))
    (λj2 x d=>SG st d/\∃out ia ib g f bc,x=(none,out,ia,ib,g,f,bc)/\ML N a b out ia ib/\j+2<=out.size) (Xh _) %[c,_,_,_,_,_,_,rfl,m|e] ?_ ?_) ?_)
   .intro j2 x i _ l %[c,out,ia,ib,g,f,bc,rfl,m|e];unfold loG;rw[<-apply_ite _];exact Fq (C.of c) m ⋯ (λd r o sg h=>%[SG.trans c sg|.inl %[r,o,rfl|h]]) λd out ia ib g k k1 sg h z=>%[%[SG.trans c sg|.inr %[_,_,_,_,_,_,rfl,h|z]],SG.trans c sg,_,_,_,_,_,_,rfl,h|z]
   .simp_all
   .rintro x i ⟨c,⟨r,o,rfl,n⟩|⟨out,ia,ib,g,f,bc,rfl,m,e⟩⟩
    .exact au (p _ r _ c n)
    .exact ap (cz (au (s _ _ _ _ _ (c.set _) m e)))
theorem vL{D:Keyed->Prop}{N:Keyed->Nat}{a b:Array Keyed}{Q:Array Keyed->SortSt->Prop}{st:SortSt}(c:Cmp prog w A SI (kindOf st) D N)(u:Srt N a.toList)(v:Srt N b.toList)(J:∀x∈a.toList,D x)(L:∀x∈b.toList,D x)
 (ha:1<=a.size) (hb:1<=b.size) (M:∀x y,b.toList[0]? =some x->a.toList[0]? =some y->N x<=N y) (O:∀y∈b.toList,∀x∈a.toList.drop (a.size-1),N y<=N x)
 (h:∀r d,SG st d->cS N a.toList b.toList r.toList->Q r d):(SC prog w A SI) (nv a b) Q st:=by
 have T:∀{i:Nat} (hi:i<a.size),D a[i]:=λhi=>J _ ∅
 have U:∀{i:Nat} (hi:i<b.size),D b[i]:=λhi=>L _ ∅
 have H:∀(out:Array Keyed) (ia ib:Nat),MI N a.toList b.toList out.toList ia ib->(a.size<=ia\/b.size<=ib)->cS N a.toList b.toList (out++a.extract ia a.size++b.extract ib b.size).toList:=λout ia ib m q=>by
  rw[Xg,Xg,mC,mC];refine m.done u v λx B y l=>?_
  rcases q with q|q
  .have%[j,Y,C|_]:=bX B;rw[Zb]at C
   lia
  .have%[j,Y,C|_]:=bX l;rw[Zb]at C
   lia
 have I:∀(out:Array Keyed) (ia ib:Nat),MI N a.toList b.toList out.toList ia ib->ia+1=a.size->cS N a.toList b.toList (out++b.extract ib b.size++a.extract ia a.size).toList:=λout ia ib m q=>by
  rw[Xg,Xg,mC,mC];exact m.last u v λy l x B=>O y (Yy l) x ((show a.size-1=ia by lia)▸B)
 rw[GK];refine ap (iO ?_);have%[eb|n]:=a8 (a:=b) (i:=0) ⋯;refine ap (bg eb ?_);have E:MI N a.toList b.toList #[b[0]].toList 0 1:=(MI.zero N a.toList b.toList).oneB v n λy l=>by
  have%[ea|p]:=a8 (a:=a) (i:=0) ⋯;exact Yi (M _ _ n p) (u.drop_le p l)
 by_cases q1:1=b.size
 .rw[if_pos (by simp[<-q1])];exact au (h _ st (SG.refl _) (H _ _ _ E (.inr ⋯)))
 rw[if_neg (by simp;lia)];by_cases G:0+1=a.size
 .rw[if_pos (by simp[<-G])];exact au (h _ st (SG.refl _) (I _ _ _ E G))
 rw[if_neg (by simp at G ⊢;lia)];refine ap (fC ?_);refine ap (bP (bC (Q:=λx d=>SG st d/\∃r,x.1=some r/\cS N a.toList b.toList r.toList)
  (λj x d=>SG st d/\∃out ia ib g,x=(none,out,ia,ib,g)/\ML N a b out ia ib/\j+1<=out.size) (Xh _) %[SG.refl _,_,_,_,_,rfl,%[E,⋯|⋯]|Zi _] ?_ ?_) ?_)
 .intro j x e _ hj %[sg,out,ia,ib,g,rfl,m|s];exact Fs (LC.of %[c,u,v,T,U,H|I] sg) m s (λd r o f h=>%[SG.trans sg f,r,rfl|h]) λd out ia ib g f h z=>%[SG.trans sg f,_,_,_,_,rfl,h|z]
 .intro x e %[sg,out,ia,ib,g,rfl,m|s];have:=m.na;have:=m.nb;have q:=m.mi.perm.length_eq;simp only[Z9,Zb]at q
  lia
 .intro x e %[sg,r,hr|gd];have%[x1|x2]:=x;subst hr;exact au (h r e sg gd)
end
end SBig
namespace SBig
open PySem PyProof.Rows
theorem Srt.take{N:Keyed->Nat}{l:List Keyed}(h:Srt N l)(k:Nat):Srt N (l.take k):=List.Pairwise.sublist (take_sublist _ _) h
theorem bD{l:List Keyed}{k:Nat}{x:Keyed}(h:x∈l.take k):∃j,j<k/\j<l.length/\l[j]? =some x:=by
 have%[j|a]:=Xi h;rw[Yd]at a
 split at a
 .exact%[j,by assumption,(Xp a).1|a]
 .lia
theorem wP{l:List Keyed}{i k:Nat}{x:Keyed}(h:x∈(l.take k).drop i):∃j,i<=j/\j<k/\j<l.length/\l[j]? =some x:=by
 have%[j,a,b|e]:=bX h;rw[Yd]at e
 split at e
 .exact%[j,a,by assumption,(Xp e).1|e]
 .lia
structure MH (N:Keyed->Nat) (A B O:List Keyed) (na nb:Nat):Prop where
 perm:(A.take na++B.take nb++O).Perm (A++B)
 srt:Srt N O
 ca:∀x∈A.take na,∀y∈O,N x<=N y
 cb:∀x∈B.take nb,∀y∈O,N x<=N y
theorem MH.zero(N:Keyed->Nat)(A B:List Keyed):MH N A B [] A.length B.length:=%[by simp,List.Pairwise.nil,λ_ _ _ h=>(nomatch h)|λ_ _ _ h=>(nomatch h)]
theorem MH.takeA{N:Keyed->Nat}{A B O:List Keyed}{na nb:Nat}(h:MH N A B O na nb)(d:Srt N A)(k:Nat)(f:k<=na)(c:∀y∈(A.take na).drop k,∀x∈B.take nb,N x<=N y):MH N A B ((A.take na).drop k++O) k nb:=by
 have e:=by
  have:=(Xe k (A.take na)).symm;rw[List.take_take,X2 f]at this;exact this
 have%[_,g|i]:=pairwise_append.mp (e▸d.take na);refine%[?_,pairwise_append.mpr %[g,h.srt|λx b y a=>h.ca x (Yy b) y a],λx b y a=>?_|λx b y a=>?_]
 .refine List.Perm.trans ?_ h.perm;rw[<-Ze];refine Xn _ ?_;rw (occs:= .pos [2]) [e];rw[Ze,Ze];exact List.Perm.append_left _ perm_append_comm
 .rcases Xq a with a|a
  .exact i x b y a
  .exact h.ca x (e▸Yv _ b) y a
 .rcases Xq a with a|a
  .exact c y a x b
  .exact h.cb x b y a
theorem MH.takeB{N:Keyed->Nat}{A B O:List Keyed}{na nb:Nat}(h:MH N A B O na nb)(d:Srt N B)(k:Nat)(f:k<=nb)(c:∀y∈(B.take nb).drop k,∀x∈A.take na,N x<=N y):MH N A B ((B.take nb).drop k++O) na k:=by
 have e:=by
  have:=(Xe k (B.take nb)).symm;rw[List.take_take,X2 f]at this;exact this
 have%[_,g|i]:=pairwise_append.mp (e▸d.take nb);refine%[?_,pairwise_append.mpr %[g,h.srt|λx b y a=>h.cb x (Yy b) y a],λx b y a=>?_|λx b y a=>?_]
 .refine List.Perm.trans ?_ h.perm;rw[<-Ze];refine Xn _ ?_;rw (occs:= .pos [2]) [e];rw[Ze]
 .rcases Xq a with a|a
  .exact c y a x b
  .exact h.ca x b y a
 .rcases Xq a with a|a
  .exact i x b y a
  .exact h.cb x (e▸Yv _ b) y a
theorem jJ{l:List Keyed}{k:Nat}{x:Keyed}(h:l[k]? =some x):(l.take (k+1)).drop k=[x]:=by
 have%[a|e]:=Xp h;rw[List.take_succ_eq_append_getElem a,e,List.drop_append_of_le_length (by rw[Yn];lia),List.drop_of_length_le (by rw[Yn];lia)];rfl
theorem MH.oneA{N:Keyed->Nat}{A B O:List Keyed}{na nb:Nat}{x:Keyed}(h:MH N A B O (na+1) nb)(c:Srt N A)(b:A[na]? =some x)(a:∀y∈B.take nb,N y<=N x):MH N A B (x::O) na nb:=by
 have:=h.takeA c na (by omega) (by rw[jJ b];intro z d;rw[Xr d];exact a);rwa[jJ b]at this
theorem MH.oneB{N:Keyed->Nat}{A B O:List Keyed}{na nb:Nat}{x:Keyed}(h:MH N A B O na (nb+1))(c:Srt N B)(b:B[nb]? =some x)(a:∀y∈A.take na,N y<=N x):MH N A B (x::O) na nb:=by
 have:=h.takeB c nb (by omega) (by rw[jJ b];intro z d;rw[Xr d];exact a);rwa[jJ b]at this
theorem MH.done{N:Keyed->Nat}{A B O:List Keyed}{na nb:Nat}(h:MH N A B O na nb)(c:Srt N A)(d:Srt N B)(e:∀x∈A.take na,∀y∈B.take nb,N x<=N y):cS N A B (A.take na++B.take nb++O):=
 %[pairwise_append.mpr %[pairwise_append.mpr %[c.take na,d.take nb|e],h.srt|λx a y b=>(Xq a).elim (λq=>h.ca x q y b) λq=>h.cb x q y b]|h.perm]
theorem MH.first{N:Keyed->Nat}{A B O:List Keyed}{na nb:Nat}(h:MH N A B O na nb)(c:Srt N A)(d:Srt N B)(e:∀y∈B.take nb,∀x∈A.take na,N y<=N x):cS N A B (B.take nb++A.take na++O):=
 %[pairwise_append.mpr %[pairwise_append.mpr %[d.take nb,c.take na|e],h.srt|λx a y b=>(Xq a).elim (λq=>h.cb x q y b) λq=>h.ca x q y b]|List.Perm.trans (Xn _ perm_append_comm) h.perm]
theorem CT(a:Array Keyed)(k:Nat):(a.extract 0 k).toList=a.toList.take k:=by simp
theorem wQ(a:Array Keyed)(i k:Nat):(a.extract i k).toList=(a.toList.take k).drop i:=by
 rw[nB,List.drop_take]
theorem Srt.take_le{N:Keyed->Nat}{l:List Keyed}(h:Srt N l){i:Nat}{x y:Keyed}(a:l[i]? =some x)(b:y∈l.take (i+1)):N y<=N x:=by
 have%[j,c,_|e]:=bD b;exact h.le (by omega) e a
theorem jK(out:Array Keyed)(x:Keyed):(out.push x).reverse.toList=x::out.reverse.toList:=by simp
theorem wR(out p:Array Keyed):(out++p.reverse).reverse.toList=p.toList++out.reverse.toList:=by simp
section
variable{prog:Program}{w:World}{A:Around}{SI:Shared->Prop}{α β:Type}
structure MHS (N:Keyed->Nat) (a b out:Array Keyed) (na nb:Nat):Prop where
 mh:MH N a.toList b.toList out.reverse.toList na nb
 pa:1<=na
 pb:2<=nb
 ma:na<=a.size
 mb:nb<=b.size
noncomputable def hi3(a b:Array Keyed)(na nb:Nat)(out:Array Keyed)(g k k1:Nat):StateT SortSt Sem (ForInStep (Option (Array Keyed)×Nat×Nat×Array Keyed×Nat×Nat×Nat)):=elem' a (na-1)>>= λe=>if(na-1==0)=true then pure (.done (some (a.extract 0 (na-1) ++b.extract 0 nb++(out.push e).reverse),na-1,nb,out.push e,g,k,k1))else if(decide (k<7)&&decide (k1<7))=true then pure (.done (none,na-1,nb,out.push e,g,k,k1))else pure (.yield (none,na-1,nb,out.push e,g,k,k1))
noncomputable def hi2(a b:Array Keyed)(na nb:Nat)(out:Array Keyed)(g k c:Nat):StateT SortSt Sem (ForInStep (Option (Array Keyed)×Nat×Nat×Array Keyed×Nat×Nat×Nat)):=elem' b (nb-1)>>= λe=>if(nb-1==1)=true then pure (.done (some (b.extract 0 (nb-1) ++a.extract 0 na++(out.push e).reverse),na,nb-1,out.push e,g,k,c))else elem' a (na-1)>>= λd=>fh true d b 0 (nb-1) (nb-1-1)>>= fun|some k1=>if nb-1-k1>0 then if(k1==1)=true then pure (.done (some (b.extract 0 k1++a.extract 0 na++(out.push e++(b.extract k1 (nb-1)).reverse).reverse),na,k1,out.push e++(b.extract k1 (nb-1)).reverse,g,k,nb-1-k1))else if(k1==0)=true then pure (.done (some (a.extract 0 na++b.extract 0 k1++(out.push e++(b.extract k1 (nb-1)).reverse).reverse),na,k1,out.push e++(b.extract k1 (nb-1)).reverse,g,k,nb-1-k1))else hi3 a b na k1 (out.push e++(b.extract k1 (nb-1)).reverse) g k (nb-1-k1)else hi3 a b na (nb-1) (out.push e) g k (nb-1-k1)|_=>pure (.done (some (a.extract 0 na++b.extract 0 (nb-1) ++(out.push e).reverse),na,nb-1,out.push e,g,k,c))
noncomputable def hi1(a b:Array Keyed)(na nb:Nat)(out:Array Keyed)(d c g:Nat):StateT SortSt Sem (ForInStep (Option (Array Keyed)×Nat×Nat×Array Keyed×Nat×Nat×Nat)):=cR g>>= λ_=>elem' b (nb-1)>>= λe=>fh false e a 0 na (na-1)>>= fun|some k=>if na-k>0 then if(k==0)=true then pure (.done (some (a.extract 0 k++b.extract 0 nb++(out++(a.extract k na).reverse).reverse),k,nb,out++(a.extract k na).reverse,g,na-k,c))else hi2 a b k nb (out++(a.extract k na).reverse) g (na-k) c else hi2 a b na nb out g (na-k) c|_=>pure (.done (some (a.extract 0 na++b.extract 0 nb++out.reverse),na,nb,out,g,d,c))
noncomputable def hiI(a b:Array Keyed)(na nb:Nat)(out:Array Keyed)(g c d:Nat):StateT SortSt Sem (ForInStep (Option (Array Keyed)×Nat×Nat×Array Keyed×Nat×Nat)):=elem' b (nb-1)>>= λf=>elem' a (na-1)>>= λh=>lt' f h>>= fun|some w=>if w=true then(elem' a (na-1)>>= λe=>if(na-1==0)=true then pure (.done (some (a.extract 0 (na-1) ++b.extract 0 nb++(out.push e).reverse),na-1,nb,out.push e,c+1,0))else if c+1>=g then pure (.done (none,na-1,nb,out.push e,c+1,0))else pure (.yield (none,na-1,nb,out.push e,c+1,0)))else(elem' b (nb-1)>>= λe=>if(nb-1==1)=true then pure (.done (some (b.extract 0 (nb-1) ++a.extract 0 na++(out.push e).reverse),na,nb-1,out.push e,0,d+1))else if d+1>=g then pure (.done (none,na,nb-1,out.push e,0,d+1))else pure (.yield (none,na,nb-1,out.push e,0,d+1)))|_=>pure (.done (some (a.extract 0 na++b.extract 0 nb++out.reverse),na,nb,out,c,d))
noncomputable def hiG(a b:Array Keyed)(x:Option (Array Keyed)×Nat×Nat×Array Keyed×Nat×Nat×Nat):StateT SortSt Sem (ForInStep (Option (Array Keyed)×Nat×Nat×Array Keyed×Nat×Nat×Nat)):=
 if x.2.2.2.2.1>1 then hi1 a b x.2.1 x.2.2.1 x.2.2.2.1 x.2.2.2.2.2.1 x.2.2.2.2.2.2 (x.2.2.2.2.1-1)else hi1 a b x.2.1 x.2.2.1 x.2.2.2.1 x.2.2.2.2.2.1 x.2.2.2.2.2.2 x.2.2.2.2.1
noncomputable def hiE(x:Option (Array Keyed)×Nat×Nat×Array Keyed×Nat×Nat×Nat):StateT SortSt Sem (ForInStep (Option (Array Keyed)×Nat×Nat×Array Keyed×Nat)):=
 match x.1 with
 | some r=>pure (.done (some r,x.2.1,x.2.2.1,x.2.2.2.1,x.2.2.2.2.1))
 | none=>do
   cR (x.2.2.2.2.1+1)
   pure (.yield (none,x.2.1,x.2.2.1,x.2.2.2.1,x.2.2.2.2.1+1))
noncomputable def hiF(a b:Array Keyed)(g:Nat)(x:Option (Array Keyed)×Nat×Nat×Array Keyed×Nat×Nat):StateT SortSt Sem (ForInStep (Option (Array Keyed)×Nat×Nat×Array Keyed×Nat)):=
 match x.1 with
 | some r=>pure (.done (some r,x.2.1,x.2.2.1,x.2.2.2.1,g))
 | none=>do
   rule "list.sort.gallop"
   let x<-forIn [0:a.size+b.size] (none,x.2.1,x.2.2.1,x.2.2.2.1,g+1,x.2.2.2.2.1,x.2.2.2.2.2) λ_ x=>hiG a b x
   hiE x
noncomputable def hiO(a b:Array Keyed)(x:Option (Array Keyed)×Nat×Nat×Array Keyed×Nat):StateT SortSt Sem (ForInStep (Option (Array Keyed)×Nat×Nat×Array Keyed×Nat)):=do
 let y<-forIn [0:a.size+b.size] (none,x.2.1,x.2.2.1,x.2.2.2.1,0,0) λ_ y=>hiI a b y.2.1 y.2.2.1 y.2.2.2.1 x.2.2.2.2 y.2.2.2.2.1 y.2.2.2.2.2
 hiF a b x.2.2.2.2 y
noncomputable def hiR(x:Option (Array Keyed)×Nat×Nat×Array Keyed×Nat):StateT SortSt Sem (Array Keyed):=
 match x.1 with
 | some r=>pure r
 | none=>unsupported "internal:list.sort.merge-bound"
set_option smartUnfolding false in
theorem GL(a b:Array Keyed):nA a b=(do
 rule "list.sort.merge-hi"
 let e<-elem' a (a.size-1)
 if(a.size-1==0)=true then pure (a.extract 0 (a.size-1) ++b.extract 0 b.size++ #[e].reverse)
 else if(b.size==1)=true then pure (b.extract 0 b.size++a.extract 0 (a.size-1) ++ #[e].reverse)
 else do
  let s<-get
  let x<-forIn [0:a.size+b.size] (none,a.size-1,b.size,#[e],gallopOf s) λ_ x=>hiO a b x
  hiR x):=by
 rfl
structure HC (prog:Program) (w:World) (A:Around) (SI:Shared->Prop) (D:Keyed->Prop) (N:Keyed->Nat) (a b:Array Keyed) (st:SortSt):Prop where
 c:Cmp prog w A SI (kindOf st) D N
 hA:Srt N a.toList
 hB:Srt N b.toList
 DA:∀{i:Nat} (hi:i<a.size),D a[i]
 DB:∀{i:Nat} (hi:i<b.size),D b[i]
 fd:∀(out:Array Keyed) (na nb:Nat),MH N a.toList b.toList out.reverse.toList na nb->(na=0\/nb=0)->cS N a.toList b.toList (a.extract 0 na++b.extract 0 nb++out.reverse).toList
 ff:∀(out:Array Keyed) (na nb:Nat),MH N a.toList b.toList out.reverse.toList na nb->nb=1->cS N a.toList b.toList (b.extract 0 nb++a.extract 0 na++out.reverse).toList
theorem HC.of{D:Keyed->Prop}{N:Keyed->Nat}{a b:Array Keyed}{s t:SortSt}(C:HC prog w A SI D N a b s)(h:SG s t):HC prog w A SI D N a b t:={C with c:=h.1▸C.c}
variable{D:Keyed->Prop}{N:Keyed->Nat}{a b out:Array Keyed}{na nb g k bc z:Nat}{st:SortSt}
theorem AK{k1:Nat}{R:ForInStep _->SortSt->Prop}(C:HC prog w A SI D N a b st)(m:MH N a.toList b.toList out.reverse.toList (na+1) nb)(u:na+1<=a.size)(j:2<=nb)(l:nb<=b.size)(c:∀y∈b.toList.take nb,N y<=N (a[na]'⋯))(n:z<=out.size+1)
 (p:∀r o,cS N a.toList b.toList r.toList->R (.done (some r,o)) st) (q:∀na nb out g k k1,MHS N a b out na nb->z<=out.size->R (.done (none,na,nb,out,g,k,k1)) st/\R (.yield (none,na,nb,out,g,k,k1)) st):(SC prog w A SI) (hi3 a b (na+1) nb out g k k1) R st:=by
 have%[s|d]:=a8 (a:=a) (i:=na) ⋯;refine ap (bg s ?_);have e:=MH.oneA m C.hA d c;rw[<-jK]at e;by_cases f:na=0
 .rw[if_pos (by simp[f])];exact au (p _ _ (C.fd _ _ _ e (.inl f)))
 rw[if_neg (by simp[f])];have h:=q _ _ _ g k k1 (MHS.mk e ⋯ j ⋯ l) (by rw[Xl];exact n)
 split
 .exact au h.1
 .exact au h.2
theorem AL{R:ForInStep (Option (Array Keyed)×Nat×Nat×Array Keyed×Nat×Nat×Nat)->SortSt->Prop}(C:HC prog w A SI D N a b st)(m:MH N a.toList b.toList out.reverse.toList (na+1) (nb+1))(I:na+1<=a.size)(pb:1<=nb)(mb:nb+1<=b.size)(l:∀y∈a.toList.take (na+1),N y<=N b[nb])(hz:z<=out.size+2)
 (d:∀r o,cS N a.toList b.toList r.toList->R (.done (some r,o)) st) (J:∀na nb out g k k1,MHS N a b out na nb->z<=out.size->R (.done (none,na,nb,out,g,k,k1)) st/\R (.yield (none,na,nb,out,g,k,k1)) st):(SC prog w A SI) (hi2 a b (na+1) (nb+1) out g k bc) R st:=by
 have%[Q|n]:=a8 (a:=b) (i:=nb) ⋯;have%[T|p]:=a8 (a:=a) (i:=na) ⋯;unfold hi2;rw[add_sub_cancel,add_sub_cancel];refine ap (bg Q ?_);have f:=MH.oneB m C.hB n l;rw[<-jK]at f;by_cases q:nb=1
 .rw[if_pos (by simp[q])];exact au (d _ _ (C.ff _ _ _ f q))
 rw[if_neg (by simp[q])];refine ap (bg T ?_);refine ap (eI C.c (C.DA ⋯) (λi hi=>%[b[0+i]'⋯,(a8 ⋯).1|C.DB ⋯]) (λi=>b8 N true (a[na]'⋯) (b.getD (0+i) b[nb]))
  (λi x hi s=>by rw[Zs,s];rfl) (λi i' u hi U=>qf C.hB u ⋯ U) ⋯ λk2 v Y p4=>?_)
 dsimp only;have L:=GJ Y p4;have c:∀y∈b.toList.take k2,N y<=N (a[na]'⋯):=λy B=>by
  have%[j,E,M|e]:=bD B;exact Yg (L.1 j y E (by simpa using e))
 have h:=f.takeB C.hB k2 v (λy B x s=>by
  have%[i,E,M,h3|e]:=wP B;exact Yi (C.hA.take_le p s) (L.2 i y E M (by simpa using e)))
 by_cases O:nb-k2>0
 .rw[if_pos O];rw[<-wQ,<-wR]at h;by_cases G:k2=1
  .rw[if_pos (by simp[G])];exact au (d _ _ (C.ff _ _ _ h G))
  rw[if_neg (by simp[G])];by_cases H:k2=0
  .rw[if_pos (by simp[H])];exact au (d _ _ (C.fd _ _ _ h (.inr H)))
  rw[if_neg (by simp[H])];exact AK C h I ⋯ ⋯ c (by simp;lia) d J
 .rw[if_neg O];obtain rfl:k2=nb:=by lia
  exact AK C f I ⋯ ⋯ c (by rw[Xl];lia) d J
theorem Ft{J:Nat}{R:ForInStep (Option (Array Keyed)×Nat×Nat×Array Keyed×Nat×Nat×Nat)->SortSt->Prop}(C:HC prog w A SI D N a b st)(m:MHS N a b out na nb)(L:z<=out.size+2)
 (h:∀c r o,SG st c->cS N a.toList b.toList r.toList->R (.done (some r,o)) c) (E:∀c na nb out g k k1,SG st c->MHS N a b out na nb->z<=out.size->R (.done (none,na,nb,out,g,k,k1)) c/\R (.yield (none,na,nb,out,g,k,k1)) c):(SC prog w A SI) (hi1 a b na nb out J bc g) R st:=by
 have%[G,pa,pb,M|H]:=m;obtain⟨nb,rfl⟩:∃n,nb=n+1:=%[nb-1|⋯]
 have%[O|l]:=a8 (a:=b) (i:=nb) ⋯;unfold hi1;rw[add_sub_cancel,fJ];refine ap (cz ?_);have sg:=(SG.refl st).set g;refine ap (bg O ?_);refine ap (eI (C.of sg).c (C.DB ⋯) (λi hi=>%[a[0+i]'⋯,(a8 ⋯).1|C.DA ⋯]) (λi=>b8 N false b[nb] (a.getD (0+i) b[nb]))
  (λi x hi p=>by rw[Zs,p];rfl) (λi i' q hi Q=>qe C.hA q ⋯ Q) ⋯ λk T U Y=>?_)
 dsimp only;have s:=GI U Y;simp only[zero_add]at s;have mk:=G.takeA C.hA k T (λy u x p=>by
  have%[i,v,I,h3|e]:=wP u;exact Yi (C.hB.take_le l p) (Yg (s.2 i y v I (by simpa using e))))
 have d:∀y∈a.toList.take k,N y<=N b[nb]:=λy u=>by
  have%[j,v,I|e]:=bD u;exact s.1 j y v (by simpa using e)
 by_cases f:na-k>0
 .rw[if_pos f];rw[<-wQ,<-wR]at mk;by_cases B:k=0
  .rw[if_pos (by simp[B])];exact au (h _ _ _ sg (C.fd _ _ _ mk (.inl B)))
  rw[if_neg (by simp[B])];obtain⟨k,rfl⟩:∃n,k=n+1:=%[k-1|⋯]
  exact AL (C.of sg) mk ⋯ ⋯ H d (by simp;lia) (λr o=>h _ r o sg) λna nb out g k k1=>E _ na nb out g k k1 sg
 .rw[if_neg f];obtain rfl:k=na:=by lia
  obtain⟨k,rfl⟩:∃n,k=n+1:=%[k-1|⋯]
  exact AL (C.of sg) G M ⋯ H d L (λr o=>h _ r o sg) λna nb out g k k1=>E _ na nb out g k k1 sg
theorem Fu{d:Nat}{R:ForInStep (Option (Array Keyed)×Nat×Nat×Array Keyed×Nat×Nat)->SortSt->Prop}(C:HC prog w A SI D N a b st)(m:MHS N a b out na nb)(l:z<=out.size+1)
 (p:∀r o,cS N a.toList b.toList r.toList->R (.done (some r,o)) st) (s:∀na nb out d bc,MHS N a b out na nb->z<=out.size->R (.done (none,na,nb,out,d,bc)) st/\R (.yield (none,na,nb,out,d,bc)) st):(SC prog w A SI) (hiI a b na nb out g d bc) R st:=by
 have%[u,E,G,H|I]:=m;obtain⟨na,rfl⟩:∃n,na=n+1:=%[na-1|⋯]
 obtain⟨nb,rfl⟩:∃n,nb=n+1:=%[nb-1|⋯]
 have%[v|e]:=a8 (a:=a) (i:=na) ⋯;have%[B|f]:=a8 (a:=b) (i:=nb) ⋯;unfold hiI;rw[add_sub_cancel,add_sub_cancel];refine ap (bg B (ap (bg v (ap (tK C.c (C.DB ⋯) (C.DA ⋯) ?_)))));dsimp only;by_cases c:N b[nb]<N a[na]
 .rw[Zf c,if_pos rfl];refine ap (bg v ?_);have m2:=u.oneA C.hA e λy j=>Yi (C.hB.take_le f j) (Yg c)
  rw[<-jK]at m2;by_cases q:na=0
  .rw[if_pos (by simp[q])];exact au (p _ _ (C.fd _ _ _ m2 (.inl q)))
  rw[if_neg (by simp[q])];have h:=s _ _ _ (d+1) 0 %[m2,⋯,G,⋯|I] (by rw[Xl];exact l)
  split
  .exact au h.1
  .exact au h.2
 .rw[Zh c,if_neg ∅];refine ap (bg B ?_);have m2:=u.oneB C.hB f λy j=>Yi (C.hA.take_le e j) (Nat.le_of_not_lt c)
  rw[<-jK]at m2;by_cases q:nb=1
  .rw[if_pos (by simp[q])];exact au (p _ _ (C.ff _ _ _ m2 q))
  rw[if_neg (by simp[q])];have h:=s _ _ _ 0 (bc+1) %[m2,E,⋯,H|⋯] (by rw[Xl];exact l)
  split
  .exact au h.1
  .exact au h.2
theorem Fv{j:Nat}{q:Option (Array Keyed)}{R:ForInStep (Option (Array Keyed)×Nat×Nat×Array Keyed×Nat)->SortSt->Prop}(C:HC prog w A SI D N a b st)(m:MHS N a b out na nb)(e:j+1<=out.size)
 (p:∀d r o,SG st d->cS N a.toList b.toList r.toList->R (.done (some r,o)) d) (s:∀d na nb out g,SG st d->MHS N a b out na nb->j+2<=out.size->R (.yield (none,na,nb,out,g)) d):(SC prog w A SI) (hiO a b (q,na,nb,out,g)) R st:=by
 have u:=m.pa;have v:=m.ma;refine ap (bP (bC (Q:=λx d=>SG st d/\((∃r o,x=(some r,o)/\cS N a.toList b.toList r.toList)\/∃na nb out f bc,x=(none,na,nb,out,f,bc)/\MHS N a b out na nb/\j+2<=out.size))
  (λj2 x d=>SG st d/\∃na nb out f bc,x=(none,na,nb,out,f,bc)/\MHS N a b out na nb/\j+1+j2<=out.size) (Xh _) %[SG.refl _,_,_,_,_,_,rfl,m|e] ?_ ?_) ?_)
 .intro j2 x i _ l %[c,na,nb,out,f,bc,rfl,m|e];exact Fu (C.of c) m ⋯ (λr o h=>%[c|.inl %[r,o,rfl|h]]) λna nb out f bc h z=>%[%[c|.inr %[_,_,_,_,_,rfl,h|⋯]],c,_,_,_,_,_,rfl,h|z]
 .intro x i %[c,na,nb,out,f,bc,rfl,m|e];exact%[c|.inr %[_,_,_,_,_,rfl,m|⋯]]
 .rintro x i ⟨c,⟨r,o,rfl,n⟩|⟨na,nb,out,f,bc,rfl,m,e⟩⟩
  .exact au (p _ r _ c n)
  .refine ap (iO ?_);refine ap (bP (bC (Q:=λx d=>SG st d/\((∃r o,x=(some r,o)/\cS N a.toList b.toList r.toList)\/∃na nb out g f bc,x=(none,na,nb,out,g,f,bc)/\MHS N a b out na nb/\j+2<=out.size))
    (λj2 x d=>SG st d/\∃na nb out g f bc,x=(none,na,nb,out,g,f,bc)/\MHS N a b out na nb/\j+2<=out.size) (Xh _) %[c,_,_,_,_,_,_,rfl,m|e] ?_ ?_) ?_)
   .intro j2 x i _ l %[c,na,nb,out,g,f,bc,rfl,m|e];unfold hiG;rw[<-apply_ite _];exact Ft (C.of c) m ⋯ (λd r o sg h=>%[SG.trans c sg|.inl %[r,o,rfl|h]]) λd na nb out g k k1 sg h z=>%[%[SG.trans c sg|.inr %[_,_,_,_,_,_,rfl,h|z]],SG.trans c sg,_,_,_,_,_,_,rfl,h|z]
   .simp_all
   .rintro x i ⟨c,⟨r,o,rfl,n⟩|⟨na,nb,out,g,f,bc,rfl,m,e⟩⟩
    .exact au (p _ r _ c n)
    .exact ap (cz (au (s _ _ _ _ _ (c.set _) m e)))
theorem vM{D:Keyed->Prop}{N:Keyed->Nat}{a b:Array Keyed}{Q:Array Keyed->SortSt->Prop}{st:SortSt}(c:Cmp prog w A SI (kindOf st) D N)(s:Srt N a.toList)(B:Srt N b.toList)(U:∀x∈a.toList,D x)(Y:∀x∈b.toList,D x)
 (ha:1<=a.size) (hb:1<=b.size) (h0:∀x y,b.toList[0]? =some x->a.toList[0]? =some y->N x<=N y) (hl:∀y∈b.toList,∀x∈a.toList.drop (a.size-1),N y<=N x)
 (h:∀r d,SG st d->cS N a.toList b.toList r.toList->Q r d):(SC prog w A SI) (nA a b) Q st:=by
 have DA:∀{i:Nat} (hi:i<a.size),D a[i]:=λhi=>U _ ∅
 have DB:∀{i:Nat} (hi:i<b.size),D b[i]:=λhi=>Y _ ∅
 have J:∀(out:Array Keyed) (na nb:Nat),MH N a.toList b.toList out.reverse.toList na nb->(na=0\/nb=0)->cS N a.toList b.toList (a.extract 0 na++b.extract 0 nb++out.reverse).toList:=λout na nb m q=>by
  rw[Xg,Xg,CT,CT];refine m.done s B λx C y u=>?_
  rcases q with q|q
  .have%[j,L|_]:=bD C
   lia
  .have%[j,L|_]:=bD u
   lia
 have M:∀(out:Array Keyed) (na nb:Nat),MH N a.toList b.toList out.reverse.toList na nb->nb=1->cS N a.toList b.toList (b.extract 0 nb++a.extract 0 na++out.reverse).toList:=λout na nb m q=>by
  rw[Xg,Xg,CT,CT];refine m.first s B λy u x C=>?_
  have%[j,L,h2|e]:=bD u;have%[i,_,h4|e']:=bD C;have j0:j=0:=by lia
  subst j0;have%[O|f]:=a8 (a:=a) (i:=0) ⋯;exact Yi (h0 _ _ e f) (s.le (Xh _) f e')
 rw[GL];refine ap (iO ?_);obtain⟨l,E⟩:∃l,a.size=l+1:=%[a.size-1|⋯]
 have%[O|f]:=a8 (a:=a) (i:=l) ⋯;rw[show a.size-1=l by lia];refine ap (bg O ?_);have G:MH N a.toList b.toList #[a[l]].reverse.toList l b.size:=by
  have z:=MH.zero N a.toList b.toList;rw[Zb,Zb,E]at z;exact z.oneA s f λy u=>hl y (Yz u) _ (by
   rw[show a.size-1=l by lia];exact Z8 (i:=0) (by rw[Yc];exact f))
 by_cases H:l=0
 .rw[if_pos (by simp[H])];exact au (h _ st (SG.refl _) (J _ _ _ G (.inl H)))
 rw[if_neg (by simp[H])];by_cases I:b.size=1
 .rw[if_pos (by simp[I])];exact au (h _ st (SG.refl _) (M _ _ _ G I))
 rw[if_neg (by simp[I])];refine ap (fC ?_);refine ap (bP (bC (Q:=λx d=>SG st d/\∃r,x.1=some r/\cS N a.toList b.toList r.toList)
  (λj x d=>SG st d/\∃na nb out g,x=(none,na,nb,out,g)/\MHS N a b out na nb/\j+1<=out.size) (Xh _) %[SG.refl _,_,_,_,_,rfl,%[G,⋯,⋯,⋯|⋯]|Zi _] ?_ ?_) ?_)
 .intro j x n _ hj %[sg,na,nb,out,g,rfl,m|v];exact Fv (HC.of %[c,s,B,DA,DB,J|M] sg) m v (λd r o p h=>%[SG.trans sg p,r,rfl|h]) λd na nb out g p h z=>%[SG.trans sg p,_,_,_,_,rfl,h|z]
 .intro x n %[sg,na,nb,out,g,rfl,m|v];have:=m.pa;have:=m.pb;have:=m.ma;have:=m.mb;have q:=m.mh.perm.length_eq;simp only[Z9,Yn,Zb,Array.size_reverse]at q
  lia
 .intro x n %[sg,r,T|gd];have%[x1|x2]:=x;dsimp only at T;subst T;exact au (h r n sg gd)
end
end SBig
namespace SBig
open PySem PyProof.Rows
theorem tL(i:Nat):mergeAt' i=(do
 let s<-get
 let(some (b,na,c),some (d,nb,_)):=((pendingOf s)[i]?,(pendingOf s)[i+1]?)|unsupported "internal:list.sort.pending"
 set (setPending s (((pendingOf s).setIfInBounds i (b,na+nb,c)).eraseIdxIfInBounds (i+1)))
 let some k<-fh false (<-elem' (arrOf s) d) (arrOf s) b na 0|return false
 let(b,na):=(b+k,na-k)
 if na==0 then return true
 let some nb<-fh true (<-elem' (arrOf s) (b+na-1)) (arrOf s) d nb (nb-1)|return false
 if nb==0 then return true
 let x:=(arrOf s).extract b d
 let y:=(arrOf s).extract d (d+nb)
 let merged<-if na<=nb then nv x y else nA x y
 modify λs=>setArr s (merged.toList.zipIdx.foldl (λa (p,j)=>a.setIfInBounds (b+j) p) (arrOf s))
 return (failedOf (<-get)).isNone):=rfl
theorem tM:∀m c o (a:Array Keyed),o+c+m.length<=a.size->
 ((m.zipIdx c).foldl (λa p=>a.setIfInBounds (o+p.2) p.1) a).toList=a.toList.take (o+c) ++m++a.toList.drop (o+c+m.length)
 |[],c,o,a,_=>by simp
 | x::m,c,o,a,h=>by
   rw[List.zipIdx_cons,Y9];rw[Zr]at h;rw[tM m _ o _ (by rw[Array.size_setIfInBounds];lia),Array.toList_setIfInBounds];have b:o+c<a.toList.length:=by rw[Zb];lia
   rw[Zr,List.take_set,List.drop_set];rw[show o+(c+1)=o+c+1 by lia,show o+c+1+m.length=o+c+(m.length+1) by lia];have e:(a.toList.take (o+c+1)).set (o+c) x=a.toList.take (o+c) ++[x]:=by
    rw[List.take_succ_eq_append_getElem b];rw[List.set_append_right _ _ (by rw[Yn];lia)];rw[Yn,X2 ⋯,sub_self];rfl
   rw[e];simp
section
variable{prog:Program}{w:World}{A:Around}{SI:Shared->Prop}{α β:Type}
theorem vN{D:Keyed->Prop}{N:Keyed->Nat}{i p p2:Nat}{b X Y L2:List Keyed}{Q:Bool->SortSt->Prop}{st:SortSt}(c:Cmp prog w A SI (kindOf st) D N)(e:(arrOf st).toList=b++X++Y++L2)(O:Srt N X)(T:Srt N Y)(nX:X≠[])(nY:Y≠[])
 (dX:∀x∈X,D x) (dY:∀x∈Y,D x) (hp:(pendingOf st)[i]? =some (b.length,X.length,p)) (aq:(pendingOf st)[i+1]? =some (b.length+X.length,Y.length,p2)) (hf:failedOf st=none)
 (h:∀Z u,Srt N Z->Z.Perm (X++Y)->(arrOf u).toList=b++Z++L2->kindOf u=kindOf st->failedOf u=none->pendingOf u=((pendingOf st).setIfInBounds i (b.length,X.length+Y.length,p)).eraseIdxIfInBounds (i+1)->Q true u):(SC prog w A SI) (mergeAt' i) Q st:=by
 have lX:0<X.length:=length_pos_iff.mpr nX;have lY:0<Y.length:=length_pos_iff.mpr nY;have sz:(arrOf st).size=b.length+X.length+Y.length+L2.length:=by
  rw[<-Zb,e];simp only[Z9]
 have G:∀(j:Nat) (d:j<X.length),(arrOf st)[b.length+j]? =some X[j]:=λj d=>by
  have:(arrOf st).toList[b.length+j]? =some X[j]:=by
   rw[e,Ze,Ze,Yb ⋯,Zw,Ya d];simp[d]
  simpa using this
 have H:∀(j:Nat) (d:j<Y.length),(arrOf st)[b.length+X.length+j]? =some Y[j]:=λj d=>by
  have:(arrOf st).toList[b.length+X.length+j]? =some Y[j]:=by
   rw[e,Ze,Yb (by rw[Z9];lia),Z9,Zw,Ya d];simp[d]
  simpa using this
 have DX:∀(j:Nat) (d:j<X.length),D X[j]:=λj d=>dX _ (Ye d)
 have DY:∀(j:Nat) (d:j<Y.length),D Y[j]:=λj d=>dY _ (Ye d)
 have v:∀(i j:Nat) (hi:i<=j) (d:j<X.length),N (X[i]'⋯)<=N X[j]:=λi j hi d=>O.le hi ∅ ∅
 have B:∀(i j:Nat) (hi:i<=j) (d:j<Y.length),N (Y[i]'⋯)<=N Y[j]:=λi j hi d=>T.le hi ∅ ∅
 rw[tL];refine ap (fC ?_);rw[hp,aq];dsimp only;refine ap (Fp ?_);have eb:=H 0 lY;rw[add_zero]at eb;refine ap (bg eb ?_);refine ap (eI c (DY 0 lY) (λi hi=>%[_,G i hi|DX i hi]) (λi=>b8 N false Y[0] (X.getD i Y[0])) (λi x hi f=>by
  rw[G i hi]at f;cases f;rw[Zc,Z4 hi];rfl) (λi j I d J=>?_) lX λk hk p1 p2=>?_)
 .rw[Zc,Z4 d]at J;rw[Zc,Z4 ⋯];have:=v i j I d;unfold b8 at J ⊢;simp only[Y1,if_false,Bool.not_eq_true',decide_eq_false_iff_not,getD_some]at J ⊢
  lia
 have g1:∀(j:Nat) (d:j<X.length),j<k->N X[j]<=N Y[0]:=λj d m=>by
  have:=p1 j m;rw[Zc,Z4 d]at this;unfold b8 at this;simpa using this
 have g2:∀(j:Nat) (d:j<X.length),k<=j->N Y[0]<N X[j]:=λj d m=>by
  have:=p2 j m d;rw[Zc,Z4 d]at this;unfold b8 at this;simpa using this
 dsimp only;by_cases q1:X.length-k=0
 .rw[if_pos (by simp[q1])];refine au (h (X++Y) _ (pairwise_append.mpr %[O,T|λx f y n=>?_]) (List.Perm.refl _) (by show(arrOf st).toList=_;rw[e];simp) rfl hf rfl);have%[j,d|rfl]:=Yf f;have%[o,l|rfl]:=Yf n;exact Yi (g1 j d ⋯) (B 0 o (Xh _) l)
 rw[if_neg (by simpa using q1)];have el:=G (X.length-1) ⋯;rw[show b.length+k+(X.length-k) -1=b.length+(X.length-1) by lia];refine ap (bg el ?_);refine ap (eI c (DX _ ⋯) (λi hi=>%[_,H i hi|DY i hi]) (λi=>b8 N true (X[X.length-1]'⋯) (Y.getD i Y[0])) (λi x hi f=>by
  rw[H i hi]at f;cases f;rw[Zc,Z4 hi];rfl) (λi j I d J=>?_) ⋯ λk2 U p3 p4=>?_)
 .rw[Zc,Z4 d]at J;rw[Zc,Z4 ⋯];have:=B i j I d;unfold b8 at J ⊢;simp only[if_true,decide_eq_true_eq,getD_some]at J ⊢
  lia
 have g3:∀(j:Nat) (d:j<Y.length),j<k2->N Y[j]<N (X[X.length-1]'⋯):=λj d m=>by
  have:=p3 j m;rw[Zc,Z4 d]at this;unfold b8 at this;simpa using this
 have g4:∀(j:Nat) (d:j<Y.length),k2<=j->N (X[X.length-1]'⋯)<=N Y[j]:=λj d m=>by
  have:=p4 j m d;rw[Zc,Z4 d]at this;unfold b8 at this;simpa using this
 dsimp only;by_cases q2:k2=0
 .rw[if_pos (by simp[q2])];refine au (h (X++Y) _ (pairwise_append.mpr %[O,T|λx f y n=>?_]) (List.Perm.refl _) (by show(arrOf st).toList=_;rw[e];simp) rfl hf rfl);have%[j,d|rfl]:=Yf f;have%[o,l|rfl]:=Yf n;exact Yi (v j (X.length-1) ⋯ ⋯) (g4 o l ⋯)
 rw[if_neg (by simpa using q2)];have ex:((arrOf st).extract (b.length+k) (b.length+X.length)).toList=X.drop k:=by
  rw[nB,e,Ze,Ze,List.drop_append,List.drop_of_length_le ⋯,nil_append,Zw,List.drop_append_of_le_length ⋯,Xf (by rw[Yj];lia),Zn (by rw[Yj];lia)]
 have M:((arrOf st).extract (b.length+X.length) (b.length+X.length+k2)).toList=Y.take k2:=by
  rw[rJ,e,Ze,List.drop_append,List.drop_of_length_le (by rw[Z9];lia),nil_append,Z9,sub_self,drop_zero,Xf ⋯]
 have sx:((arrOf st).extract (b.length+k) (b.length+X.length)).size=X.length-k:=by rw[<-Zb,ex,Yj]
 have sy:((arrOf st).extract (b.length+X.length) (b.length+X.length+k2)).size=k2:=by rw[<-Zb,M,Yn,X2 U]
 have as:∀(r:Array Keyed) (g:SortSt),SG (setPending st (((pendingOf st).setIfInBounds i (b.length,X.length+Y.length,p)).eraseIdxIfInBounds (i+1))) g->cS N (X.drop k) (Y.take k2) r.toList->
  (SC prog w A SI) (do modify (λs=>setArr s (r.toList.zipIdx.foldl (λa (p,j)=>a.setIfInBounds (b.length+k+j) p) (arrOf s)));let x<-get;pure (failedOf x).isNone) Q g:=λr g sg L=>by
  refine ap (cz (ap (fC (au ?_))));have ab:failedOf g=none:=by rw[sg.2.2.2];exact hf
  show Q (failedOf g).isNone _;rw[ab];have lr:r.toList.length=(X.length-k) +k2:=by
   rw[L.2.length_eq,Z9,Yj,Yn,X2 U]
  refine h (X.take k++r.toList++Y.drop k2) _ ?_ ?_ ?_ sg.1 ab sg.2.2.1
  .have mem:∀y∈r.toList,(∃(j:Nat) (d:j<X.length),k<=j/\y=X[j])\/∃(j:Nat) (d:j<Y.length),j<k2/\y=Y[j]:=λy n=>by
    rcases Xq (L.2.mem_iff.mp n)with q|q
    .have%[j,z,h2|e]:=bX q;have%[d|e]:=Xp e;exact .inl %[j,d,z|e.symm]
    .have%[j,z,h2|e]:=bD q;have%[d|e]:=Xp e;exact .inr %[j,d,z|e.symm]
   refine pairwise_append.mpr %[pairwise_append.mpr %[O.take k,L.1|λx f y n=>?_],T.drop k2|λx f y n=>?_]
   .have%[j,z,h2|e]:=bD f;have%[d|rfl]:=Xp e;rcases mem y n with⟨o,l,h3,rfl⟩|⟨o,l,h3,rfl⟩
    .exact v j o ⋯ l
    .exact Yi (g1 j d z) (B 0 o (Xh _) l)
   .have%[j,z,h2|e]:=bX n;have%[d|rfl]:=Xp e;rcases Xq f with f|f
    .have%[o,h3,h4|e']:=bD f;have%[l|rfl]:=Xp e';exact Yi (v o (X.length-1) ⋯ ⋯) (g4 j d z)
    .rcases mem x f with⟨o,l,h3,rfl⟩|⟨o,l,h3,rfl⟩
     .exact Yi (v o (X.length-1) ⋯ ⋯) (g4 j d z)
     .exact B o j ⋯ d
  .have p1:(X.take k++r.toList++Y.drop k2).Perm (X.take k++(X.drop k++Y.take k2) ++Y.drop k2):=Xn _ (List.Perm.append_left _ L.2);refine p1.trans ?_;rw[<-Ze,Xe,Ze,Xe]
  .show(setArr g _|>arrOf).toList=_;have ac:arrOf g=arrOf st:=sg.2.1;show((r.toList.zipIdx).foldl (λ(a:Array Keyed) (p:Keyed×Nat)=>a.setIfInBounds (b.length+k+p.2) p.1) (arrOf g)).toList=_;rw[tM _ 0 _ _ (by rw[lr,ac,sz];lia),ac,e,lr];have t1:(b++X++Y++L2).take (b.length+k+0)=b++X.take k:=by
    rw[add_zero,Ze,Ze,List.take_append,Zn ⋯,Zw,Xf ⋯]
   have t2:(b++X++Y++L2).drop (b.length+k+0+(X.length-k+k2))=Y.drop k2++L2:=by
    rw[show b.length+k+0+(X.length-k+k2)=(b++X).length+k2 by rw[Z9];lia,Ze,List.drop_append,List.drop_of_length_le ⋯,nil_append,Zw,List.drop_append_of_le_length ⋯]
   rw[t1,t2];simp
 have C:∀x y,((arrOf st).extract (b.length+X.length) (b.length+X.length+k2)).toList[0]? =some x->((arrOf st).extract (b.length+k) (b.length+X.length)).toList[0]? =some y->N x<=N y:=λx y f n=>by
  rw[M,Yd,if_pos ⋯,Z4 lY]at f;rw[ex,Yc,Z4 (by omega)]at n;cases f;cases n;exact Yg (g2 _ ⋯ ⋯)
 have E:∀y∈((arrOf st).extract (b.length+X.length) (b.length+X.length+k2)).toList,∀x∈((arrOf st).extract (b.length+k) (b.length+X.length)).toList.drop (((arrOf st).extract (b.length+k) (b.length+X.length)).size-1),N y<=N x:=λy n x f=>by
  rw[M]at n;rw[sx,ex,drop_drop]at f;have%[j,z,h2|e1]:=bD n;have%[d|rfl]:=Xp e1;have%[o,h3,h4|e2]:=bX f;have%[l|rfl]:=Xp e2;have:o=X.length-1:=by lia
  subst this;exact Yg (g3 j d z)
 have ag:Srt N ((arrOf st).extract (b.length+k) (b.length+X.length)).toList:=by exact ex▸O.drop k
 have ai:Srt N ((arrOf st).extract (b.length+X.length) (b.length+X.length+k2)).toList:=M▸T.take k2;have al:∀x∈((arrOf st).extract (b.length+k) (b.length+X.length)).toList,D x:=λx f=>dX x (by rw[ex]at f;exact Yy f)
 have an:∀x∈((arrOf st).extract (b.length+X.length) (b.length+X.length+k2)).toList,D x:=λx f=>dY x (by rw[M]at f;exact Yz f)
 have gg:∀(r:Array Keyed) (g:SortSt),SG (setPending st (((pendingOf st).setIfInBounds i (b.length,X.length+Y.length,p)).eraseIdxIfInBounds (i+1))) g->cS N ((arrOf st).extract (b.length+k) (b.length+X.length)).toList ((arrOf st).extract (b.length+X.length) (b.length+X.length+k2)).toList r.toList->
  (SC prog w A SI) (do modify (λs=>setArr s (r.toList.zipIdx.foldl (λa (p,j)=>a.setIfInBounds (b.length+k+j) p) (arrOf s)));let x<-get;pure (failedOf x).isNone) Q g:=λr g sg L=>as r g sg (by rw[ex,M]at L;exact L)
 by_cases q3:X.length-k<=k2
 .rw[if_pos q3];exact ap (vL c ag ai al an (by rw[sx];lia) (by rw[sy];lia) C E gg)
 .rw[if_neg q3];exact ap (vM c ag ai al an (by rw[sx];lia) (by rw[sy];lia) C E gg)
end
end SBig
namespace SBig
open PySem PyProof.Rows
noncomputable def ky(N:Keyed->Nat)(a:Array Keyed)(i:Nat):Nat:=N (a.getD i (Value.none,Value.none))
theorem AM(h:a[i]? =some x):ky N a i=N x:=by
 unfold ky
 simp_all
theorem tN(h:a[i]? =b[j]?):ky N a i=ky N b j:=by
 unfold ky
 simp_all
structure CR (st0 st:SortSt) (lo:Nat):Prop where
 kind:kindOf st=kindOf st0
 pend:pendingOf st=pendingOf st0
 fail:failedOf st=failedOf st0
 perm:(arrOf st).Perm (arrOf st0)
 same:∀i,i<lo->(arrOf st)[i]? =(arrOf st0)[i]?
theorem CR.refl(st:SortSt)(lo:Nat):CR st st lo:=%[rfl,rfl,rfl,Array.Perm.refl _|λ_ _=>rfl]
theorem CR.size{a st:SortSt}{lo:Nat}(h:CR a st lo):(arrOf st).size=(arrOf a).size:=h.perm.size_eq
theorem CR.rev{a st:SortSt}{lo i j:Nat}(h:CR a st lo)(hi:lo<=i)(b:j<=(arrOf st).size):CR a (setArr st (mirror (arrOf st) i j ((j-i)/2))) lo:=
 %[h.kind,h.pend,h.fail,(mirror_perm _ _ _ _).trans h.perm|λk c=>by
  rw[getElem?_mirror_all b,if_neg ⋯];exact h.same k c]
theorem vO(b:j<=a.size)(k:Nat):ky N (mirror a i j ((j-i)/2)) k=if i<=k/\k<j then ky N a (i+j-1-k)else ky N a k:=by
 split
 .rename_i h
  exact tN (by rw[getElem?_mirror_all b,if_pos h])
 .rename_i h
  exact tN (by rw[getElem?_mirror_all b,if_neg h])
def Up(N:Keyed->Nat)(a:Array Keyed)(lo n:Nat):Prop:=∀i j,i<=j->j<n->ky N a (lo+i)<=ky N a (lo+j)
def Dn(N:Keyed->Nat)(a:Array Keyed)(lo n:Nat):Prop:=∀i j,i<=j->j<n->ky N a (lo+j)<=ky N a (lo+i)
theorem Up.one(N:Keyed->Nat)(a:Array Keyed)(lo:Nat):Up N a lo 1:=λi j b c=>by
 simp_all
theorem Up.step{lo n:Nat}(h:Up N a lo n)(d:1<=n)(f: ¬ ky N a (lo+n)<ky N a (lo+n-1)):Up N a lo (n+1):=λi j b g=>by
 by_cases e:j=n
 .subst e;by_cases c:i=j
  .exact c▸Zi _
  .have:=h i (j-1) ⋯ ⋯;rw[show lo+(j-1)=lo+j-1 by lia]at this
   lia
 .exact h i j b ⋯
theorem Dn.step{lo n:Nat}(h:Dn N a lo n)(d:1<=n)(f:ky N a (lo+n)<=ky N a (lo+n-1)):Dn N a lo (n+1):=λi j b g=>by
 by_cases e:j=n
 .subst e;by_cases c:i=j
  .exact c▸Zi _
  .have:=h i (j-1) ⋯ ⋯;rw[show lo+(j-1)=lo+j-1 by lia]at this
   lia
 .exact h i j b ⋯
theorem Dn.rev{lo n:Nat}(h:Dn N a lo n)(b:lo+n<=a.size):Up N (mirror a lo (lo+n) ((lo+n-lo)/2)) lo n:=λi j c d=>by
 rw[vO b,vO b,if_pos ⋯,if_pos ⋯];have:=h (n-1-j) (n-1-i) ⋯ ⋯
 grind
theorem Dn.same{lo n i j:Nat}(h:Dn N a lo n)(d:j<=a.size)(g:∀k b,i<=k->k<j->i<=b->b<j->ky N a k=ky N a b):Dn N (mirror a i j ((j-i)/2)) lo n:=by
 have e:∀k,ky N (mirror a i j _) k=ky N a k:=λk=>by
  rw[vO d]
  grind
 intro p q c f;rw[e,e];exact h p q c f
section
variable{prog:Program}{w:World}{A:Around}{SI:Shared->Prop}{α β:Type}
theorem nC{i j lo:Nat}{a st:SortSt}(c:Cmp prog w A SI (kindOf a) D N)(d:∀x∈(arrOf a).toList,D x)(r:CR a st lo)(hi:i<(arrOf a).size)(m:j<(arrOf a).size)
 (h:Q (some (decide (ky N (arrOf st) i<ky N (arrOf st) j))) st):(SC prog w A SI) (ltAt' i j) Q st:=by
 have f:=λx n=>d x ((Array.perm_iff_toList_perm.mp r.perm).mem_iff.mp n)
 have b:=r.size▸hi;have e:=r.size▸m;have%[g|o]:=a8 b;have%[l|p]:=a8 e;refine CS (r.kind▸c) g l (f _ ∅) (f _ ∅) ?_;rw[AM g,AM l]at h;exact h
theorem rK{st:SortSt}(h:Q () (setArr st (mirror (arrOf st) i j ((j-i)/2)))):(SC prog w A SI) (reverseSlice' i j) Q st:=by
 exact cz h
noncomputable def cuL(lo:Nat)(x:Option (Option Nat)×Nat):StateT SortSt Sem (ForInStep (Option (Option Nat)×Nat)):=do
 match<-ltAt' (lo+x.2) (lo+x.2-1)with
 | some w=>if w=true then pure (.done (none,x.2))else pure (.yield (none,x.2+1))
 | _=>pure (.done (some none,x.2))
noncomputable def cu3(lo nrem n:Nat):StateT SortSt Sem (Option Nat):=do
 reverseSlice' lo (lo+n)
 let x<-forIn [n:nrem] (none,n) λ_ x=>cuL lo x
 match x.1 with
 | some r=>pure r
 | none=>pure (some x.2)
noncomputable def cuM(lo:Nat)(x:Option (Option Nat)×Nat×Nat):StateT SortSt Sem (ForInStep (Option (Option Nat)×Nat×Nat)):=do
 match<-ltAt' (lo+x.2.1) (lo+x.2.1-1)with
 | some w=>
   if w=true then(if x.2.2>0 then(do
    reverseSlice' (lo+x.2.1-(x.2.2+1)) (lo+x.2.1)
    pure (.yield (none,x.2.1+1,0)))else pure (.yield (none,x.2.1+1,0)))
   else(do
    match<-ltAt' (lo+x.2.1-1) (lo+x.2.1)with
    | some w=>if w=true then pure (.done (none,x.2.1,x.2.2))else pure (.yield (none,x.2.1+1,x.2.2+1))
    | _=>pure (.done (some none,x.2.1,x.2.2)))
 | _=>pure (.done (some none,x.2.1,x.2.2))
noncomputable def cu2(lo nrem n:Nat):StateT SortSt Sem (Option Nat):=do
 rule "list.sort.descending-run"
 let x<-forIn [n+1:nrem] (none,n+1,0) λ_ x=>cuM lo x
 match x.1 with
 | some r=>pure r
 | none=>
   if x.2.2>0 then(do
    reverseSlice' (lo+x.2.1-(x.2.2+1)) (lo+x.2.1)
    cu3 lo nrem x.2.1)else cu3 lo nrem x.2.1
set_option smartUnfolding false in
theorem GM(lo nrem:Nat):countRun' lo nrem=(do
 let x<-forIn [1:nrem] (none,1) λ_ x=>cuL lo x
 match x.1 with
 | some r=>pure r
 | none=>
   if(x.2==nrem)=true then pure (some x.2)
   else if x.2>1 then(do
    match<-ltAt' lo (lo+x.2-1)with
    | some w=>if w=true then pure (some x.2)else(do
      reverseSlice' lo (lo+x.2)
      cu2 lo nrem x.2)
    | _=>pure none)else cu2 lo nrem x.2):=by
 rw[countRun'_eq];rfl
variable{D:Keyed->Prop}{N:Keyed->Nat}{lo nrem n j:Nat}{Q:Option Nat->SortSt->Prop}{st st2:SortSt}
theorem AN{q:Option _}{R:ForInStep _->SortSt->Prop}(c:Cmp prog w A SI (kindOf st) D N)(d:∀x∈(arrOf st).toList,D x)(r:CR st st2 lo)(e:lo+nrem<=(arrOf st).size)(f:1<=j)(g:j<nrem)
 (a:ky N (arrOf st2) (lo+j)<ky N (arrOf st2) (lo+j-1)->R (.done (none,j)) st2) (b: ¬ ky N (arrOf st2) (lo+j)<ky N (arrOf st2) (lo+j-1)->R (.yield (none,j+1)) st2):(SC prog w A SI) (cuL lo (q,j)) R st2:=by
 refine ap (nC c d r ⋯ ⋯ ?_);dsimp only;by_cases q:ky N (arrOf st2) (lo+j)<ky N (arrOf st2) (lo+j-1)
 .rw[Zf q,if_pos rfl];exact au (a q)
 .rw[Zh q,if_neg ∅];exact au (b q)
theorem AO(c:Cmp prog w A SI (kindOf st) D N)(d:∀x∈(arrOf st).toList,D x)(s:lo+nrem<=(arrOf st).size)(h:∀n a,CR st a lo->1<=n->n<=nrem->Up N (arrOf a) lo n->Q (some n) a)
 (r:CR st st2 lo) (n1:1<=n) (o:n<=nrem) (u:Dn N (arrOf st2) lo n):(SC prog w A SI) (cu3 lo nrem n) Q st2:=by
 refine ap (rK ?_);have v:=r.rev (j:=lo+n) (Zi _) (by rw[r.size];lia);have g:=u.rev (by rw[r.size];lia);refine ap (bP (bC (Q:=λx a=>CR st a lo/\∃n,x=(none,n)/\1<=n/\n<=nrem/\Up N (arrOf a) lo n)
  (λj x a=>CR st a lo/\x=(none,j)/\Up N (arrOf a) lo j) o %[v,rfl|g] ?_ ?_) ?_)
 .intro j x e i p %[f,rfl|b];have l:=Yi n1 i;exact AN c d f s l p (λ_=>%[f,j,rfl,l,Yg p|b]) λq=>%[f,rfl|b.step l q]
 .intro x e %[f,rfl|b];exact%[f,nrem,rfl,Yi n1 o,Zi _|b]
 .intro x e %[f,m,rfl,y,m2|b];exact au (h m e f y m2 b)
theorem Fw{q:Option (Option Nat)}{k:Nat}{R:ForInStep (Option (Option Nat)×Nat×Nat)->SortSt->Prop}(c:Cmp prog w A SI (kindOf st) D N)(d:∀x∈(arrOf st).toList,D x)(r:CR st st2 lo)(B:lo+nrem<=(arrOf st).size)(v:k+1<=j)(C:j<nrem)
 (o:Dn N (arrOf st2) lo j) (p:∀i a,lo+j-(k+1)<=i->i<lo+j->lo+j-(k+1)<=a->a<lo+j->ky N (arrOf st2) i=ky N (arrOf st2) a)
 (y:R (.done (none,j,k)) st2) (g:∀k st2,CR st st2 lo->k<=j->Dn N (arrOf st2) lo (j+1)->(∀i a,lo+(j+1) -(k+1)<=i->i<lo+(j+1)->lo+(j+1) -(k+1)<=a->a<lo+(j+1)->ky N (arrOf st2) i=ky N (arrOf st2) a)->R (.yield (none,j+1,k)) st2):(SC prog w A SI) (cuM lo (q,j,k)) R st2:=by
 have one:∀st,∀i a,lo+(j+1) -(0+1)<=i->i<lo+(j+1)->lo+(j+1) -(0+1)<=a->a<lo+(j+1)->ky N (arrOf st) i=ky N (arrOf st) a:=λst i a h l z s=>by rw[show i=a by lia]
 refine ap (nC c d r ⋯ ⋯ ?_);dsimp only;by_cases m:ky N (arrOf st2) (lo+j)<ky N (arrOf st2) (lo+j-1)
 .rw[Zf m,if_pos rfl];have b:=o.step ⋯ (Yg m);by_cases f:k>0
  .rw[if_pos f];exact ap (rK (au (g 0 _ (r.rev ⋯ (by rw[r.size];lia)) (Xh _) (b.same (by rw[r.size];lia) p) (one _))))
  .rw[if_neg f];exact au (g 0 _ r (Xh _) b (one _))
 .rw[Zh m,if_neg ∅];refine ap (nC c d r ⋯ ⋯ ?_);dsimp only;by_cases u:ky N (arrOf st2) (lo+j-1)<ky N (arrOf st2) (lo+j)
  .rw[Zf u,if_pos rfl];exact au y
  .rw[Zh u,if_neg ∅];have all:∀i,lo+j-(k+1)<=i->i<lo+(j+1)->ky N (arrOf st2) i=ky N (arrOf st2) (lo+j-1):=λi h l=>by
    by_cases e:i=lo+j
    .lia
    .exact p _ _ h ⋯ ⋯ ⋯
   exact au (g (k+1) _ r v (o.step ⋯ ⋯) λi a h l z s=>(all i ⋯ l).trans (all a ⋯ s).symm)
theorem AQ(c:Cmp prog w A SI (kindOf st) D N)(d:∀x∈(arrOf st).toList,D x)(p:lo+nrem<=(arrOf st).size)(h:∀n a,CR st a lo->1<=n->n<=nrem->Up N (arrOf a) lo n->Q (some n) a)
 (r:CR st st2 lo) (B:n<nrem) (s:Dn N (arrOf st2) lo (n+1)):(SC prog w A SI) (cu2 lo nrem n) Q st2:=by
 refine ap (iO ?_);refine ap (bP (bC (Q:=λx a=>CR st a lo/\∃m q,x=(none,m,q)/\q+1<=m/\m<=nrem/\Dn N (arrOf a) lo m/\(∀k f,lo+m-(q+1)<=k->k<lo+m->lo+m-(q+1)<=f->f<lo+m->ky N (arrOf a) k=ky N (arrOf a) f))
  (λj x a=>CR st a lo/\∃q,x=(none,j,q)/\q+1<=j/\Dn N (arrOf a) lo j/\(∀k f,lo+j-(q+1)<=k->k<lo+j->lo+j-(q+1)<=f->f<lo+j->ky N (arrOf a) k=ky N (arrOf a) f)) B %[r,0,rfl,Nat.le_add_left _ _,s|λk f H I J L=>by rw[show k=f by lia]] ?_ ?_) ?_)
 .intro j x l C v %[g,q,rfl,i,b|e];exact Fw c d g p i v b e %[g,j,q,rfl,i,Yg v,b|e] λk st2 r E s G=>%[r,k,rfl,Nat.succ_le_succ E,s|G]
 .intro x l %[g,q,rfl,i,b|e];exact%[g,nrem,q,rfl,i,Zi _,b|e]
 .intro x l %[g,m,q,rfl,u,y,b|e];have z:=Yi (Nat.le_add_left _ _) u;dsimp only;by_cases o:q>0
  .rw[if_pos o];exact ap (rK (AO c d p h (g.rev ⋯ (by rw[g.size];lia)) z y (b.same (by rw[g.size];lia) e)))
  .rw[if_neg o];exact AO c d p h g z y b
theorem tO{lo nrem:Nat}{st:SortSt}(c:Cmp prog w A SI (kindOf st) D N)(d:∀x∈(arrOf st).toList,D x)(r:1<=nrem)(g:lo+nrem<=(arrOf st).size)
 (h:∀n a,CR st a lo->1<=n->n<=nrem->Up N (arrOf a) lo n->Q (some n) a):(SC prog w A SI) (countRun' lo nrem) Q st:=by
 rw[GM];refine ap (bP (bC (Q:=λx a=>a=st/\∃n,x=(none,n)/\1<=n/\n<=nrem/\Up N (arrOf st) lo n/\(n=nrem\/ky N (arrOf st) (lo+n)<ky N (arrOf st) (lo+n-1)))
  (λj x a=>a=st/\x=(none,j)/\Up N (arrOf st) lo j) r %[rfl,rfl|Up.one _ _ _] ?_ ?_) ?_)
 .intro j x a e f %[rfl,rfl|up];exact AN c d (CR.refl _ lo) g e f (λq=>%[rfl,j,rfl,e,Yg f,up|.inr q]) λq=>%[rfl,rfl|up.step e q]
 .intro x a %[rfl,rfl|up];exact%[rfl,nrem,rfl,r,Zi _,up|.inl rfl]
 .intro x b %[G,n,rfl,n1,s,up|H];subst G;dsimp only;by_cases l:n=nrem
  .rw[if_pos (by simp[l])];exact au (h n b (CR.refl _ _) n1 s up)
  rw[if_neg (by simp[l])];have u:n<nrem:=by lia
  by_cases v:n>1
  .rw[if_pos v];refine ap (nC c d (CR.refl _ lo) ⋯ ⋯ ?_);dsimp only;by_cases y:ky N (arrOf b) lo<ky N (arrOf b) (lo+n-1)
   .rw[Zf y,if_pos rfl];exact au (h n b (CR.refl _ _) n1 s up)
   .rw[Zh y,if_neg ∅];have all:∀i,i<n->ky N (arrOf b) (lo+i)=ky N (arrOf b) lo:=λi hi=>by
     have z:=up 0 i (Xh _) hi;have B:=up i (n-1) ⋯ ⋯;rw[show lo+(n-1)=lo+n-1 by lia]at B;rw[add_zero]at z
     lia
    have m:Dn N (arrOf b) lo n:=λi j o f=>by rw[all i ⋯,all j f];exact Zi _
    exact ap (rK (AQ c d g h ((CR.refl b lo).rev (Zi _) ⋯) u ((m.step n1 ⋯).same ⋯ (λk p z B I J=>by
     have C:=all (k-lo) ⋯;have E:=all (p-lo) ⋯;rw[show lo+(k-lo)=k by lia]at C;rw[show lo+(p-lo)=p by lia]at E;rw[C,E]))))
  .rw[if_neg v];refine AQ c d g h (CR.refl b lo) u (Dn.step (λi j o f=>?_) n1 (Yg (H.resolve_left l)));rw[show i=j by lia];exact Zi _
end
end SBig
namespace SBig
open PySem PyProof.Rows
section
variable{prog:Program}{w:World}{A:Around}{SI:Shared->Prop}{α β:Type}
theorem CR.move{a st:SortSt}{lo k l:Nat}(h:CR a st lo)(b:lo+k<(arrOf st).size)(c:l<=k):CR a (setArr st (bubble (arrOf st) (lo+k) (lo+k-(lo+l)))) lo:=
 %[h.kind,h.pend,h.fail,(bubble_perm _ _ _).trans h.perm|λi hi=>by
  rw[getElem?_bubble b _ ⋯,if_neg ⋯,if_neg ⋯];exact h.same i hi]
theorem wS(f:b<a.size)(g:d<=b)(k:Nat):ky N (bubble a b d) k=if k=b-d then ky N a b else if b-d<k/\k<=b then ky N a (k-1)else ky N a k:=by
 by_cases c:k=b-d
 .rw[if_pos c];exact tN (by rw[getElem?_bubble f d g,if_pos c])
 .rw[if_neg c];by_cases e:b-d<k/\k<=b
  .rw[if_pos e];exact tN (by rw[getElem?_bubble f d g,if_neg c,if_pos e])
  .rw[if_neg e];exact tN (by rw[getElem?_bubble f d g,if_neg c,if_neg e])
theorem yi{lo n ok:Nat}{f st:SortSt}(c:Cmp prog w A SI (kindOf f) D N)(d:∀x∈(arrOf f).toList,D x)(r:CR f st lo)(O:1<=ok)(T:ok<=n)(hs:lo+n<=(arrOf f).size)(up:Up N (arrOf st) lo ok)
 (h:∀a,CR f a lo->Up N (arrOf a) lo n->Q true a):(SC prog w A SI) (binarySort' lo n ok) Q st:=by
 rw[binarySort'_eq];rw[show max ok 1=ok by lia];refine ap (bP (bC (Q:=λx a=>x=(none,())/\CR f a lo/\Up N (arrOf a) lo n) (λk x a=>x=(none,())/\CR f a lo/\Up N (arrOf a) lo k) T %[rfl,r|up] ?_ ?_) ?_)
 .intro k x b U hk %[rfl,m|up1];dsimp only;have pv:∀i,i<k->lo+i<(arrOf f).size:=λi hi=>by lia
  refine ap (bP (bC (Q:=λx a=>a=b/\∃l,x.1=none/\x.2.1=l/\l<=k/\(∀i,i<l->ky N (arrOf b) (lo+i)<=ky N (arrOf b) (lo+k))/\(∀i,l<=i->i<k->ky N (arrOf b) (lo+k)<ky N (arrOf b) (lo+i)))
   (λj x a=>a=b/\∃l q,x=(none,l,q)/\l<=q/\q<=k/\q-l<=k-j/\(∀i,i<l->ky N (arrOf b) (lo+i)<=ky N (arrOf b) (lo+k))/\(∀i,q<=i->i<k->ky N (arrOf b) (lo+k)<ky N (arrOf b) (lo+i))) (Xh _)
   %[rfl,0,k,rfl,⋯,⋯,⋯,λi hi=>absurd hi (X8 _)|λi O h2=>by lia] ?_ ?_) ?_)
  .intro j x g _ Y %[rfl,l,q,rfl,C,o,hm,s|u];dsimp only;by_cases v:l>=q
   .rw[if_pos v];have e:l=q:=by lia
    subst e;exact au %[rfl,l,rfl,rfl,o,s|u]
   .rw[if_neg v];refine ap (nC c d m ⋯ ⋯ ?_);dsimp only;by_cases p:ky N (arrOf g) (lo+k)<ky N (arrOf g) (lo+(l+q)/2)
    .rw[Zf p,if_pos rfl];exact au %[rfl,l,_,rfl,⋯,⋯,⋯,s|λi y B=>Zg p (up1 _ _ y B)]
    .rw[Zh p,if_neg ∅];exact au %[rfl,_,q,rfl,⋯,⋯,⋯,λi y=>Yi (up1 i ((l+q)/2) ⋯ ⋯) ⋯|u]
  .intro x g %[rfl,l,q,rfl,C,o,hm,s|u];have e:l=q:=by lia
   subst e;exact%[rfl,l,rfl,rfl,o,s|u]
  .rintro⟨x1,x2,x3⟩ g ⟨e2,l,H,I,E,s,u⟩;subst e2;dsimp only at H I;subst H I;dsimp only;rw[moveDown'_eq];refine ap (cz (au %[rfl,m.move (by rw[m.size];lia) E|?_]));have z:lo+k<(arrOf g).size:=by rw[m.size];lia
   intro i j G Y;rw[wS z ⋯,wS z ⋯];have ed:lo+k-(lo+k-(lo+x2))=lo+x2:=by lia
   rw[ed];by_cases y:lo+i=lo+x2
   .rw[if_pos y];by_cases B:lo+j=lo+x2
    .rw[if_pos B];exact Zi _
    .rw[if_neg B,if_pos ⋯];have:=u (j-1) ⋯ ⋯;rw[show lo+(j-1)=lo+j-1 by lia]at this
     lia
   .rw[if_neg y];by_cases J:lo+x2<lo+i/\lo+i<=lo+k
    .rw[if_pos J,if_neg ⋯,if_pos ⋯];have:=up1 (i-1) (j-1) ⋯ ⋯;rw[show lo+(j-1)=lo+j-1 by lia,show lo+(i-1)=lo+i-1 by lia]at this;exact this
    .rw[if_neg J];by_cases L:lo+j=lo+x2
     .rw[if_pos L];exact s i ⋯
     .rw[if_neg L];by_cases M:lo+x2<lo+j/\lo+j<=lo+k
      .rw[if_pos M];have:=up1 i (j-1) ⋯ ⋯;rw[show lo+(j-1)=lo+j-1 by lia]at this;exact this
      .rw[if_neg M];exact up1 i j G ⋯
 .intro x b %[rfl,m|up1];exact%[rfl,m|up1]
 .intro x b %[rfl,m|up1];exact au (h b m up1)
end
end SBig
namespace SBig
open PySem PyProof.Rows
section
variable{prog:Program}{w:World}{A:Around}{SI:Shared->Prop}
end
end SBig
namespace SBig
open PySem PyProof.Rows
noncomputable def dc:List (List Keyed×Nat)->Nat->List (Nat×Nat×Nat)
 |[],_=>[]
 |(r,p)::t,o=>(o,r.length,p)::dc t (o+r.length)
noncomputable def bq(a:List (List Keyed×Nat)):List Keyed:=(a.map (·.1)).flatten
theorem cg(a b:List _):bq (a++b)=bq a++bq b:=by simp[bq]
theorem aZ(a:List Keyed×Nat)(b:List _):bq (a::b)=a.1++bq b:=by simp[bq]
theorem c8:∀a b o,dc (a++b) o=dc a o++dc b (o+(bq a).length)
 |[],b,o=>by simp[dc,bq]
 |(r,p)::t,b,o=>by
  rw[cons_append,dc,dc,c8 t b,aZ,Z9,cons_append,Nat.add_assoc]
theorem eJ:∀a o,(dc a o).length=a.length
 |[],_=>rfl
 |(r,p)::t,o=>by rw[dc,Zr,Zr,eJ t]
structure RI (N:Keyed->Nat) (st0 st:SortSt) (rp:List (List Keyed×Nat)) (rest:List Keyed):Prop where
 kind:kindOf st=kindOf st0
 fail:failedOf st=none
 perm:(arrOf st).toList.Perm (arrOf st0).toList
 arr:(arrOf st).toList=bq rp++rest
 pend:(pendingOf st).toList=dc rp 0
 runs:∀r∈rp,r.1≠[]/\Srt N r.1
theorem RI.size{N:Keyed->Nat}{a st:SortSt}{b:List _}{rest:List Keyed}(h:RI N a st b rest):(arrOf st).size=(arrOf a).size:=by
 rw[<-Zb,<-Zb,h.perm.length_eq]
theorem RI.psize{N:Keyed->Nat}{a st:SortSt}{b:List _}{rest:List Keyed}(h:RI N a st b rest):(pendingOf st).size=b.length:=by
 rw[<-Zb,h.pend,eJ]
section
variable{prog:Program}{w:World}{A:Around}{SI:Shared->Prop}{α β:Type}
theorem jL{D:Keyed->Prop}{N:Keyed->Nat}{f st:SortSt}{a b:List _}{X Y:List Keyed}{p o i:Nat}{rest:List Keyed}{Q:Bool->SortSt->Prop}(c:Cmp prog w A SI (kindOf f) D N)(d:∀x∈(arrOf f).toList,D x)
 (h:RI N f st (a++(X,p)::(Y,o)::b) rest) (hi:i=a.length) (k:∀Z g,RI N f g (a++(Z,p)::b) rest->Z.length=X.length+Y.length->Q true g):(SC prog w A SI) (mergeAt' i) Q st:=by
 subst hi;have e:=h.arr;rw[cg,aZ,aZ]at e;have m:(arrOf st).toList=bq a++X++Y++(bq b++rest):=by rw[e];simp
 have y:=λx j=>d x (h.perm.mem_iff.mp j)
 have n:=h.pend;rw[c8,dc,dc,zero_add]at n;have pl:=eJ a 0;have E:=by
  have:(pendingOf st).toList[a.length]? =some ((bq a).length,X.length,p):=by
   rw[n,Yb ⋯,pl,sub_self];rfl
  simpa using this
 have G:=by
  have:(pendingOf st).toList[a.length+1]? =some ((bq a).length+X.length,Y.length,o):=by
   rw[n,Yb ⋯,pl,Zw];rfl
  simpa using this
 have s:=h.runs (X,p) ∅;have z:=h.runs (Y,o) ∅;refine vN (h.kind▸c) m s.2 z.2 s.1 z.1 (λx j=>y x (by rw[m];simp[j])) (λx j=>y x (by rw[m];simp[j])) E G h.fail λZ g H B C I J u=>?_
 have v:Z.length=X.length+Y.length:=by rw[B.length_eq,Z9]
 refine k Z g %[I.trans h.kind,J,?_,?_,?_|λr l=>?_] v
 .refine List.Perm.trans ?_ h.perm;rw[C,m];rw[show bq a++X++Y++(bq b++rest)=bq a++(X++Y) ++(bq b++rest) by simp];exact Xn _ (List.Perm.append_left _ B)
 .rw[C,cg,aZ];simp
 .rw[u,Array.toList_eraseIdxIfInBounds,Array.toList_setIfInBounds,n,c8,dc,zero_add];rw[List.set_append_right _ _ ⋯,pl,sub_self,List.set_cons_zero];rw[List.eraseIdx_append_of_length_le ⋯,pl,Zw,List.eraseIdx_cons_succ,List.eraseIdx_cons_zero];rw[v,Nat.add_assoc]
 .rcases Xq l with l|l
  .exact h.runs r (Yv _ l)
  .rcases mem_cons.mp l with rfl|l
   .refine%[λq=>?_|H];have j:=length_pos_iff.mpr s.1;dsimp only at q j;rw[q,length_nil]at v
    lia
   .exact h.runs r (by simp[l])
theorem yj{N:Keyed->Nat}{a:Array Keyed}{lo n:Nat}(h:Up N a lo n)(f:lo+n<=a.size):Srt N ((a.toList.drop lo).take n):=by
 refine List.pairwise_iff_getElem.mpr λi j hi c d=>?_
 have b:j<n:=by grind
 have g:∀i hi,i<n->N ((a.toList.drop lo).take n)[i]=ky N a (lo+i):=λi hi e=>by
  refine(AM ?_).symm
  simp_all
 rw[g i hi ⋯,g j c b];exact h i j ⋯ b
theorem CR.toRI{N:Keyed->Nat}{d b a:SortSt}{f:List _}{rest:List Keyed}{lo n:Nat}(h:RI N d b f rest)(r:CR b a lo)(j:(bq f).length=lo)(up:Up N (arrOf a) lo n)(o:lo+n<=(arrOf b).size):
 ∃R c,RI N d a f (R++c)/\R.length=n/\Srt N R:=by
 have l:=r.size;refine%[((arrOf a).toList.drop lo).take n,(arrOf a).toList.drop (lo+n),%[r.kind.trans h.kind,r.fail.trans h.fail,(Array.perm_iff_toList_perm.mp r.perm).trans h.perm,?_,r.pend▸h.pend|h.runs],?_|yj up ⋯]
 .have e:(arrOf a).toList.take lo=bq f:=by
   have m:(arrOf a).toList.take lo=(arrOf b).toList.take lo:=by
    apply ext_getElem?;intro i;rw[Yd,Yd]
    split
    .rename_i hi
     have:=r.same i hi;simpa using this
    .rfl
   rw[m,h.arr,Xf ⋯,Zn ⋯]
  rw[<-e];have g:=Xe n ((arrOf a).toList.drop lo);rw[drop_drop]at g;rw[g,(Xe lo (arrOf a).toList)]
 grind
theorem lI{α:Type}(f:α->α):∀l x,(l++[x]).modify l.length f=l++[f x]
 |[],x=>rfl
 | y::l,x=>by
   rw[cons_append,Zr,List.modify_succ_cons,lI f l x,cons_append]
theorem jM{α:Type}(l:List α):l=[]\/∃a x,l=a++[x]:=by
 by_cases h:l=[]
 .exact .inl h
 .exact .inr %[l.dropLast,l.getLast h|(List.dropLast_concat_getLast h).symm]
theorem yk{α:Type}(l:List α)(h:1<l.length):∃a x y,l=a++x::y::[]:=by
 rcases jM l with rfl|⟨a,y,rfl⟩
 .simp at h
 .rcases jM a with rfl|⟨b,x,rfl⟩
  .simp at h
  .exact%[b,x,y|by simp]
theorem RI.pushed{N:Keyed->Nat}{a st:SortSt}{c:List _}{R rest:List Keyed}{lo m:Nat}(h:RI N a st c (R++rest))(d:(bq c).length=lo)(e:R.length=m)(f:1<=m)(g:Srt N R):RI N a (setPending st ((pendingOf st).push (lo,m,0))) (c++[(R,0)]) rest:=by
 refine%[h.kind,h.fail,h.perm,?_,?_|λr b=>?_]
 .rw[h.arr,cg,aZ];simp[bq]
 .rw[toList_push,h.pend,c8,dc,dc,zero_add,d,e]
 .rcases Xq b with b|b
  .exact h.runs r b
  .rw[Xr b]
   grind
theorem RI.powered{N:Keyed->Nat}{a st:SortSt}{b:List _}{rest:List Keyed}{X:List Keyed}{p:Nat}(d:Nat)(h:RI N a st (b++[(X,p)]) rest):RI N a (setPending st ((pendingOf st).modify ((pendingOf st).size-1) λx=>(x.fst,x.2.fst,d))) (b++[(X,d)]) rest:=by
 refine%[h.kind,h.fail,h.perm,?_,?_|λr c=>?_]
 .rw[h.arr,cg,cg,aZ,aZ]
 .rw[Array.toList_modify,h.psize,h.pend,c8,c8];rw[show(b++[(X,p)]).length-1=(dc b 0).length by rw[eJ];simp];show List.modify (dc b 0++[_]) _ _=_;rw[lI];rfl
 .rcases Xq c with c|c
  .exact h.runs r (Yv _ c)
  .rw[Xr c];exact h.runs (X,p) ∅
noncomputable def srP(lo n:Nat):StateT SortSt Sem (ForInStep (Option Unit×Nat)):=do
 modify λs=>setPending s ((pendingOf s).push (lo,n,0))
 pure (.yield (none,lo+n))
noncomputable def sr1(size lo n:Nat):StateT SortSt Sem (ForInStep (Option Unit×Nat)):=do
 let s<-get
 match(pendingOf s).back? with
 | some (a,n1,_)=>do
   let x<-forIn [0:size] (none,()) λ_ _=>(do
    let s<-get
    match if(pendingOf s).size>1 then(pendingOf s)[(pendingOf s).size-2]? else none with
    | some (_,_,o)=>
      if o<=power' size (2*a+n1) (2*a+n1+n1+n) size then pure (.done (none,()))
      else(do
       let b<-mergeAt' ((pendingOf s).size-2)
       if(!b)=true then pure (.done (some (),()))else pure (.yield (none,())))
    | _=>pure (.done (none,())))
   match x.1 with
   | some r=>pure (.done (some r,lo))
   | none=>do
     modify λs=>setPending s ((pendingOf s).modify ((pendingOf s).size-1) λx=>(x.1,x.2.1,power' size (2*a+n1) (2*a+n1+n1+n) size))
     srP lo n
 | _=>srP lo n
noncomputable def srO(size:Nat)(x:Option Unit×Nat):StateT SortSt Sem (ForInStep (Option Unit×Nat)):=
 if x.2>=size then pure (.done (none,x.2))
 else do
  match<-countRun' x.2 (size-x.2)with
  | some n=>
    if n<minRun' size size 0 then(do
     rule "list.sort.binary-insertion"
     let b<-binarySort' x.2 (min (size-x.2) (minRun' size size 0)) n
     if(!b)=true then pure (.done (some (),x.2))else sr1 size x.2 (min (size-x.2) (minRun' size size 0)))
    else sr1 size x.2 n
  | _=>pure (.done (some (),x.2))
noncomputable def srT(size:Nat)(x:Option Unit×Nat):StateT SortSt Sem Unit:=
 match x.1 with
 | some r=>pure r
 | none=>do
   let x<-forIn [0:size] (none,()) λ_ _=>(do
    let s<-get
    if(pendingOf s).size<=1 then pure (.done (none,()))
    else(do
     let b<-mergeAt' (if Option.any (λx=>decide (x<(pendingOf s)[(pendingOf s).size-2+1]?.elim 0 λx=>x.2.1)) (if(pendingOf s).size-2>0 then Option.map (λx=>x.2.1) (pendingOf s)[(pendingOf s).size-2-1]? else none)=true then(pendingOf s).size-2-1 else(pendingOf s).size-2)
     if(!b)=true then pure (.done (some (),()))else pure (.yield (none,()))))
   match x.1 with
   | some r=>pure r
   | none=>pure ()
set_option smartUnfolding false in
theorem GN:sortRuns'=(do
 let s<-get
 let x<-forIn [0:(arrOf s).size] (none,0) λ_ x=>srO (arrOf s).size x
 srT (arrOf s).size x):=by
 rw[sortRuns'_eq];rfl
theorem AR{D:Keyed->Prop}{N:Keyed->Nat}{st m:SortSt}{y:List (List Keyed×Nat)}{R e:List Keyed}{lo n:Nat}{T:ForInStep (Option Unit×Nat)->SortSt->Prop}(c:Cmp prog w A SI (kindOf st) D N)(d:∀x∈(arrOf st).toList,D x)(o:RI N st m y (R++e))(q:(bq y).length=lo)(p:R.length=n)(s:Srt N R)(L:1<=n)
 (M:∀a h,RI N st h a e->(bq a).length=lo+n->T (.yield (none,lo+n)) h):(SC prog w A SI) (sr1 (arrOf st).size lo n) T m:=by
 refine ap (fC ?_);rcases jM y with z|⟨U,⟨Y,p0⟩,z⟩
 .subst z;have C:(pendingOf m).back? =none:=by
   have:=o.psize;simp[Array.back?,this]
  rw[C];exact ap (cz (au (M _ _ (o.pushed q p L s) (by rw[cg,Z9,q,aZ];simp[bq,p]))))
 .have C:(pendingOf m).back? =some ((bq U).length,Y.length,p0):=by
   rw[<-Array.getLast?_toList,o.pend,z,c8,dc,dc,zero_add];simp
  rw[C];refine ap (bP (bC (Q:=λx h=>x=(none,())/\∃a,RI N st h a (R++e)/\a≠[]/\(bq a).length=lo) (λj x h=>x=(none,())/\∃a,RI N st h a _/\a≠[]/\(bq a).length=lo) (Xh _) %[rfl,y,o,by rw[z];simp|q] ?_ ?_) ?_)
  .intro j5 x f _ _ %[rfl,l,b,i|g];refine ap (fC ?_);by_cases E:(pendingOf f).size>1
   .have%[r,%[B|G],%[Y5|q5]|rfl]:=yk l (b.psize▸E);have u:(pendingOf f).size-2=r.length:=by rw[b.psize];simp
    have H:(pendingOf f)[(pendingOf f).size-2]? =some ((bq r).length,B.length,G):=by
     have:(pendingOf f).toList[r.length]? =some ((bq r).length,B.length,G):=by
      rw[b.pend,c8,Yb (by rw[eJ];lia),eJ,sub_self,zero_add];rfl
     rw[u];simpa using this
    rw[if_pos E,H];dsimp only
    split
    .exact au %[rfl,_,b,i|g]
    .refine ap (jL c d b u λZ5 ab I J=>au %[rfl,_,I,by simp|?_]);rw[<-g,cg,cg,aZ,aZ,aZ];simp[bq,J]
   .rw[if_neg E];exact au %[rfl,_,b,i|g]
  .intro x f %[rfl,l,b,i|g];exact%[rfl,l,b,i|g]
  .intro x f %[rfl,l,b,i|g];dsimp only;have%[r,%[B|G]|rfl]:=(jM l).resolve_left i;refine ap (cz (ap (cz (au ?_))));have v:∀O,(bq (r++[(B,O)])).length=lo:=λO=>by
    rw[<-g,cg,cg,aZ,aZ]
   exact M _ _ ((b.powered _).pushed (v _) p L s) (by rw[cg,Z9,v,aZ];simp[bq,p])
theorem sc_sortRuns{D:Keyed->Prop}{N:Keyed->Nat}{Q:Unit->SortSt->Prop}{st:SortSt}(c:Cmp prog w A SI (kindOf st) D N)(d:∀x∈(arrOf st).toList,D x)(h2:1<=(arrOf st).size)(hp:pendingOf st= #[])(hf:failedOf st=none)
 (h:∀f,(arrOf f).toList.Perm (arrOf st).toList->Srt N (arrOf f).toList->failedOf f=none->Q () f):(SC prog w A SI) sortRuns' Q st:=by
 rw[GN];refine ap (fC ?_);refine ap (bP (bC (Q:=λx f=>∃e lo,x=(none,lo)/\RI N st f e [])
  (λj x f=>∃e rest lo,x=(none,lo)/\RI N st f e rest/\(bq e).length=lo/\j<=lo/\lo<=(arrOf st).size) (Xh _) %[[],_,0,rfl,%[rfl,hf,List.Perm.refl _,rfl,by rw[hp];rfl|λ_ h=>(nomatch h)],rfl,Zi _|Xh _] ?_ ?_) ?_)
 .intro j x u _ hj %[e,rest,lo,rfl,g,m,L|M];unfold srO;dsimp only;have s1:=g.size;by_cases C:lo>=(arrOf st).size
  .rw[if_pos C];have O:rest=[]:=by
    have:=congrArg List.length g.arr;rw[Z9,Zb,s1,m]at this;exact length_eq_zero_iff.mp ⋯
   subst O;exact au %[e,lo,rfl|g]
  rw[if_neg C];have d1:∀x∈(arrOf u).toList,D x:=λx hx=>d x (g.perm.mem_iff.mp hx)
  have c1:Cmp prog w A SI (kindOf u) D N:=g.kind▸c;refine ap (tO c1 d1 ⋯ ⋯ λn o r2 n1 n2 E=>?_);dsimp only;by_cases v:n<minRun' (arrOf st).size (arrOf st).size 0
  .rw[if_pos v];refine ap (iO (ap (yi c1 d1 r2 n1 ⋯ ⋯ E λT r3 U=>?_)));rw[if_neg ∅];have%[R,y,s,z|B]:=CR.toRI g r3 m U ⋯;exact AR c d s m z B ⋯ λab f r l=>%[_,_,_,rfl,r,l,⋯|⋯]
  .rw[if_neg v];have%[R,y,s,z|B]:=CR.toRI g r2 m E ⋯;exact AR c d s m z B ⋯ λab f r l=>%[_,_,_,rfl,r,l,⋯|⋯]
 .intro x u %[e,rest,lo,rfl,g,m,L|M];have O:rest=[]:=by
   have:=congrArg List.length g.arr;rw[Z9,Zb,g.size,m]at this;exact length_eq_zero_iff.mp ⋯
  subst O;exact%[e,lo,rfl|g]
 .intro x u %[e,lo,rfl|g];unfold srT;dsimp only;have ac:∀(e:List (List Keyed×Nat)),(∀r∈e,r.1≠[]/\Srt N r.1)->e.length<=(bq e).length:=by
   intro e
   induction e with
   | nil=>intro _;exact Xh _
   | cons r t ih=>
     intro I;rw[aZ,Zr,Z9];have:=length_pos_iff.mpr (I r ∅).1;have:=ih λq hq=>I q (by simp[hq])
     lia
  have l1:e.length<=(arrOf st).size:=by
   have a1:=ac e g.runs;have a2:=congrArg List.length g.arr;rw[Zz,Zb,g.size]at a2
   lia
  refine ap (bP (bC (Q:=λx f=>x=(none,())/\∃e,RI N st f e []/\e.length<=1) (λj x f=>x=(none,())/\∃e,RI N st f e []/\e.length<=max 1 ((arrOf st).size-j)) (Xh _) %[rfl,e,g|⋯] ?_ ?_) ?_)
  .intro j x o _ hj %[rfl,e,g|J];refine ap (fC ?_);by_cases hz:(pendingOf o).size<=1
   .rw[if_pos hz];exact au %[rfl,e,g|g.psize▸hz]
   rw[if_neg hz];have ai:1<e.length:=by rw[<-g.psize];lia
   generalize G:(if Option.any _ _=true then(pendingOf o).size-2-1 else(pendingOf o).size-2)=i
   have hi:i+1<e.length:=by
    have H:∀(c:Prop) [Decidable c] (n:Nat),2<=n->(if c then n-2-1 else n-2) +1<n:=λc _ n hn=>by lia
    rw[<-G,<-g.psize];exact H _ _ ⋯
   clear G;obtain⟨a,X,p,Y,q,b,rfl,ag⟩:∃a X p Y q b,e=a++(X,p)::(Y,q)::b/\i=a.length:=by
    refine%[e.take i,e[i].1,e[i].2,e[i+1].1,e[i+1].2,e.drop (i+2),?_|by rw[Yn];lia];have t1:=(Xe i e).symm;rw[List.drop_eq_getElem_cons ⋯,List.drop_eq_getElem_cons ⋯]at t1;exact t1
   refine ap (jL c d g ag λZ T s zl=>?_);rw[if_neg ∅];refine au %[rfl,_,s|?_];simp only[Z9,Zr]at J hi ⊢
   lia
  .intro x o %[rfl,e,g|J];exact%[rfl,e,g|⋯]
  .intro x o %[rfl,e,g|J];refine au (h o g.perm ?_ g.fail);rw[g.arr,Zz]
   match e,J,g.runs with
   |[],_,_=>exact List.Pairwise.nil
   |[r],_,I=>
    rw[aZ];simp only[bq,map_nil,List.flatten_nil,Zz];exact(I r ∅).2
end
end SBig
namespace STab
open PySem PySem.SetTable
theorem tP:∀k,∃q,5^(2^k)=1+2^(k+2)*(2*q+1)
 | 0=>%[0|rfl]
 | k+1=>by
   have%[q|e]:=tP k;refine%[q+2^k*(2*q+1)*(2*q+1)|?_];rw[pow_succ 2 k,Nat.pow_mul,e]
   grind
noncomputable def step(M i:Nat):Nat:=(i*5+1)%M
noncomputable def iter(M:Nat):Nat->Nat->Nat
 | 0,i=>i
 | n+1,i=>step M (iter M n i)
noncomputable def geo:Nat->Nat
 | 0=>0
 | n+1=>geo n*5+1
theorem rL:∀n,4*geo n+1=5^n
 | 0=>rfl
 | n+1=>by
   have:=rL n;rw[pow_succ,<-this,geo]
   lia
theorem jN(M:Nat)(i:Nat):∀n,iter M n i%M=(5^n*i+geo n)%M
 | 0=>by simp[iter,geo]
 | n+1=>by
   rw[iter,step,Nat.mod_mod,geo,pow_succ];rw[add_mod,Nat.mul_mod,(jN M i n),<-Nat.mul_mod,<-add_mod]
   congr 1
   grind
theorem nD:∀(k i e:Nat),e<2^k->∃n,n<2^k/\iter (2^k) n i%2^k=e
 | 0,i,e,c=>%[0,by simp|by simp at c;subst c;simp[Nat.mod_one]]
 | k+1,i,e,c=>by
   have%[n,M|s]:=nD k i (e%2^k) (mod_lt _ (Nat.two_pow_pos k));have d:∀n,iter (2^(k+1)) n i%2^(k+1)%2^k=iter (2^k) n i%2^k:=λn=>by
    rw[Nat.mod_mod_of_dvd _ (Nat.pow_dvd_pow 2 (Yh k)),<-Nat.mod_mod_of_dvd _ (Nat.pow_dvd_pow 2 (Yh k)),jN,Nat.mod_mod_of_dvd _ (Nat.pow_dvd_pow 2 (Yh k)),jN]
   have%[q|b]:=tP k;have w:geo (2^k)=2^k*(2*q+1):=by
    have g:=rL (2^k);rw[b,Nat.pow_add]at g;have:2^k*2^2*(2*q+1)=4*(2^k*(2*q+1)):=by
     rw[Nat.mul_right_comm];lia
    lia
   have f:∀n,iter (2^(k+1)) (n+2^k) i%2^(k+1)=(iter (2^(k+1)) n i+2^k)%2^(k+1):=λn=>by
    rw[jN];have y:5^(n+2^k)*i+geo (n+2^k)=5^(2^k)*(5^n*i+geo n) +geo (2^k):=by
     have g1:=rL (n+2^k);have g2:=rL n
     grind
    rw[y,b,w];have z:2^(k+1)=2*2^k:=by rw[pow_succ];lia
    have j:2^(k+2)=2*2^(k+1):=by rw[pow_succ];lia
    have o:=jN (2^(k+1)) i n
    generalize 5^n*i+geo n=v at o ⊢
    have A:(1+2^(k+2)*(2*q+1))*v+2^k*(2*q+1)=v+2^k+2^(k+1)*(2*((2*q+1)*v) +q):=by
     rw[Nat.add_mul,Nat.one_mul,j];have B:2*2^(k+1)*(2*q+1)*v=2^(k+1)*(2*((2*q+1)*v)):=by
      simp only[Nat.mul_assoc,Nat.mul_left_comm]
     have C:2^k*(2*q+1)=2^k+2^(k+1)*q:=by
      rw[z,Nat.mul_add,Nat.mul_one]
      lia
     rw[B,C,Nat.mul_add]
     lia
    rw[A,Nat.add_mul_mod_self_left,add_mod,<-o,<-add_mod]
   have l:=d n;rw[s]at l;have E:iter (2^(k+1)) n i%2^(k+1)<2^(k+1):=mod_lt _ (Nat.two_pow_pos _);have m:=f n;rw[add_mod,Nat.mod_eq_of_lt (by lia:2^k<2^(k+1))]at m;obtain⟨a,p⟩:∃a,a=iter (2^(k+1)) n i%2^(k+1):=%[_|rfl]
   rw[<-p]at l E m;have key:a=e\/(a+2^k)%2^(k+1)=e:=by
    have r:=Nat.div_add_mod a (2^k);have G:=Nat.div_add_mod e (2^k);have H:a/2^k<2:=Nat.div_lt_of_lt_mul ⋯;have I:e/2^k<2:=Nat.div_lt_of_lt_mul ⋯;rw[l]at r
    generalize a/2^k=u at r H
    generalize e/2^k=v at G I
    have J:u=0\/u=1:=by lia
    have L:v=0\/v=1:=by lia
    rcases J with rfl|rfl<;> rcases L with rfl|rfl
    .left;lia
    .right
     rw[Nat.mod_eq_of_lt ⋯]
     lia
    .right
     rw[show a+2^k=e+2^(k+1) by lia,Nat.add_mod_right,Nat.mod_eq_of_lt c]
    .left;lia
   rcases key with h|h
   .exact%[n,⋯|by rw[<-p,h]]
   .exact%[n+2^k,⋯|by rw[m,h]]
end STab
namespace STab
open PySem PySem.SetTable
noncomputable def stand(t:SetTable)(h:Int):Nat->Probe
 | 0=>t.probeStart h
 | n+1=>t.advance (stand t h n)
noncomputable def way(t:SetTable)(h:Int)(n:Nat):Nat:=(stand t h n).j
noncomputable def aI(t:SetTable)(h:Int):Nat->Nat×Nat
 | 0=>(bits h%(t.mask+1),bits h)
 | r+1=>leap t.mask (aI t h r).1 (aI t h r).2
theorem lJ(t:SetTable)(h:Int):∀n,(stand t h n).dummy=none
 | 0=>rfl
 | n+1=>by
   have:=lJ t h n;show(t.advance _).dummy=none;unfold advance
   split
   .exact this
   .exact this
theorem CU(m i:Nat):runEnd m i-i<=9:=by
 unfold runEnd
 split<;> lia
theorem yl(t:SetTable)(h:Int):∀r,∃n,n<=10*r/\∀d,d<=runEnd t.mask (aI t h r).1-(aI t h r).1->
 stand t h (n+d)=%[(aI t h r).1+d,runEnd t.mask (aI t h r).1-(aI t h r).1-d,(aI t h r).1,(aI t h r).2|none]:=by
 have a:∀n i b,stand t h n=%[i,runEnd t.mask i-i,i,b|none]->∀d,d<=runEnd t.mask i-i->stand t h (n+d)=%[i+d,runEnd t.mask i-i-d,i,b|none]:=by
  intro n i b e d
  induction d with
  | zero=>intro _;rw[add_zero,e];rfl
  | succ d c=>
    intro f;show t.advance (stand t h (n+d))=_;rw[c ⋯];unfold advance;rw[if_pos ⋯]
    grind
 intro r
 induction r with
 | zero=>exact%[0,Xh _|a 0 _ _ rfl]
 | succ r c=>
   have%[n,g|e]:=c;have j:=CU t.mask (aI t h r).1;refine%[n+(runEnd t.mask (aI t h r).1-(aI t h r).1) +1,⋯|a _ _ _ ?_];show t.advance _=_;rw[e _ (Zi _)];unfold advance;rw[if_neg ⋯];rfl
theorem CV(h:Int):bits h<2^64:=by
 unfold bits
 grind
theorem nE(t:SetTable)(h:Int):∀r,(aI t h r).2=bits h/32^r
 | 0=>by simp[aI]
 | r+1=>by
   show(aI t h r).2/32=_;rw[nE t h r,Nat.div_div_eq_div_mul,pow_succ]
theorem AS(t:SetTable)(h:Int):∀r,(aI t h r).1<t.mask+1
 | 0=>mod_lt _ (succ_pos _)
 | r+1=>mod_lt _ (succ_pos _)
theorem jj(t:SetTable)(h:Int):∀m,(aI t h (12+m)).1=iter (t.mask+1) m (aI t h 12).1
 | 0=>rfl
 | m+1=>by
   show((aI t h (12+m)).1*5+1+(aI t h (12+m)).2/32)%(t.mask+1)=step _ _;rw[jj t h m,nE,Nat.div_div_eq_div_mul,<-pow_succ];have a:bits h/32^(12+m+1)=0:=by
    exact Nat.div_eq_of_lt (Zg (CV h) (Yi (by decide:2^64<=32^13) (Nat.pow_le_pow_right (by decide) ⋯)))
   rw[a,add_zero];rfl
theorem nF(a:t.mask+1=2^k)(h:Int)(e:Nat)(c:e<=t.mask):∃r,r<turns t.mask/\(aI t h r).1=e:=by
 have%[n,d|b]:=nD k _ e ⋯;refine%[12+n,by unfold turns;lia|?_];rw[jj,a];rw[<-a]at b;have:iter (t.mask+1) n (aI t h 12).1<t.mask+1:=by rw[<-jj];exact AS t h _
 rw[Nat.mod_eq_of_lt this]at b;exact a▸b
theorem vP(a:t.mask+1=2^k)(h:Int)(e:Nat)(b:e<=t.mask):∃n,n+10<=10*turns t.mask/\way t h n=e:=by
 have%[r,f|c]:=nF a h e b;have%[n,g|d]:=yl t h r;refine%[n,⋯|?_];have:=d 0 (Xh _);unfold way;rw[add_zero]at this;rw[this];exact c
theorem tQ(o:t.dummies= #[]){hashAt:Nat->Int}:∀(fuel n m:Nat),n<=m->m<n+fuel->t.slot (way t h m)= .empty->
 ∃q,n<=q/\q<=m/\(∀j,n<=j->j<q->∃i,t.slot (way t h j)= .live i/\hashAt i≠h)/\
  ((t.slot (way t h q)= .empty/\probe.go t hashAt h fuel (stand t h n)=some (.empty (way t h q) none))\/
   ∃i,t.slot (way t h q)= .live i/\hashAt i=h/\probe.go t hashAt h fuel (stand t h n)=some (.candidate (way t h q) i (stand t h (q+1))))
 | 0,n,m,g,r,_=>by lia
 | fuel+1,n,m,g,r,p=>by
   have d:probe.go t hashAt h (fuel+1) (stand t h n)=(match t.slot (stand t h n).j with
    | .empty=>some _
    | .dummy=>probe.go t hashAt h fuel (t.advance {stand t h n with dummy:=some _})
    | .live i=>if hashAt i==h then some _ else probe.go t hashAt h fuel _):=rfl
   have l:(stand t h n).j=way t h n:=rfl;cases c:t.slot _ with
   | empty=>
     refine%[n,Zi _,g,λj a b=>by lia|.inl %[c|?_]];rw[d,l,c,lJ]
   | dummy=>
     exfalso;unfold slot at c;dsimp only at c
     split at c
     .lia
     .split at c
      .rename_i q
       rw[o]at q;simp[has]at q
      .lia
   | live i=>
     by_cases f:hashAt i=h
     .refine%[n,Zi _,g,λj a b=>by lia|.inr %[i,c,f|?_]];rw[d,l,c];dsimp only;rw[if_pos (by simp[f])];rfl
     .have s:n≠m:=λq=>by rw[q,p]at c;cases c
      have%[q,z,u,v|w]:=tQ o fuel (n+1) m ⋯ ⋯ p;have y:probe.go t hashAt h (fuel+1) (stand t h n)=probe.go t hashAt h fuel (stand t h (n+1)):=by
       rw[d,l,c];dsimp only;rw[if_neg (by simp[f])];rfl
      refine%[q,⋯,u,λj a b=>?_|?_]
      .by_cases e:j=n
       .exact e▸%[i,c|f]
       .exact v j ⋯ b
      .exact y▸w
end STab
namespace STab
open PySem PySem.SetTable
theorem nG(xs:Array Nat)(j:Nat)(d:∀a b (s:a<xs.size) (u:b<xs.size),a<b->xs[a]<xs[b]):∀(fuel lo hi:Nat),hi-lo<=fuel->lo<=hi->hi<=xs.size->(∀i (h:i<xs.size),i<lo->xs[i]<j)->(∀i (h:i<xs.size),hi<=i->j<=xs[i])->
 below.go xs j fuel lo hi<=xs.size/\(∀i (h:i<xs.size),i<below.go xs j fuel lo hi->xs[i]<j)/\(∀i (h:i<xs.size),below.go xs j fuel lo hi<=i->j<=xs[i])
 | 0,lo,hi,p,q,f,g,l=>by
   have e:lo=hi:=by lia
   subst e;exact%[f,g|l]
 | fuel+1,lo,hi,p,q,f,g,l=>by
   rw[below.go];by_cases c:lo<hi
   .rw[if_pos c];dsimp only;have n:(lo+hi)/2<xs.size:=by lia
    have r:xs.getD ((lo+hi)/2) j=xs[(lo+hi)/2]:=by simp[Array.getD,n]
    rw[r];by_cases m:xs[(lo+hi)/2]<j
    .rw[if_pos m];refine nG xs j d fuel _ hi ⋯ ⋯ f (λi h o=>?_) l;by_cases e:i=(lo+hi)/2
     .subst e;exact m
     .exact Nat.lt_trans (d i _ h n ⋯) m
    .rw[if_neg m];refine nG xs j d fuel lo _ ⋯ ⋯ ⋯ g (λi h o=>?_);by_cases e:i=(lo+hi)/2
     .subst e;lia
     .have:=d _ i n h ⋯
      lia
   .rw[if_neg c];have e:lo=hi:=by lia
    subst e;exact%[f,g|l]
def AT(xs:Array Nat):Prop:=∀a b c (d:b<xs.size),a<b->xs[a]<xs[b]
theorem jk(a:AT xs)(j:Nat):below xs j<=xs.size/\(∀i (h:i<xs.size),i<below xs j->xs[i]<j)/\(∀i (h:i<xs.size),below xs j<=i->j<=xs[i]):=
 nG xs j a xs.size 0 xs.size ⋯ (Xh _) (Zi _) (λi h q=>absurd q (X8 _)) (λi h q=>by lia)
theorem AU(a:AT xs)(h:xs[i]? =some j):below xs j=i:=by
 have%[f,c|d]:=jk a j;have%[hi|e]:=Array.getElem?_eq_some_iff.mp h;rcases Nat.lt_trichotomy i _ with q|q|q
 .have:=c i hi q
  lia
 .exact q.symm
 .have b:below xs j<xs.size:=by lia
  have:=d _ b (Zi _);have:=a _ i b hi q
  lia
theorem qg{t:SetTable}(a:AT t.place)(h:t.place[i]? =some j):t.slot j= .live i:=by
 unfold slot;dsimp only;rw[AU a h,h];simp
theorem jm{t:SetTable}(a:AT t.place)(b:t.dummies= #[])(j:Nat):(∃i,t.place[i]? =some j/\t.slot j= .live i)\/(j∉t.place.toList/\t.slot j= .empty):=by
 by_cases h:j∈t.place.toList
 .have%[i|hi]:=Xi h;have hi:=by simpa using hi
  exact .inl %[i,hi|qg a hi]
 .refine .inr %[h|?_];unfold slot;rw[if_neg,if_neg]
  .rw[b];simp[has]
  .intro q;exact h (mem_toList_iff.mpr (Array.mem_of_getElem? (by simpa using q)))
theorem tR(h:t.mask=t'.mask)(x:Int):∀n,stand t x n=stand t' x n
 | 0=>by
   show t.probeStart x=t'.probeStart x;unfold probeStart;rw[h]
 | n+1=>by
   show t.advance _=t'.advance _;rw[tR h x n];unfold advance;rw[h]
theorem qh(h:t.mask=t'.mask)(x:Int)(n:Nat):way t x n=way t' x n:=by unfold way;rw[tR h]
structure WF (t:SetTable) (es:Array (Int×Value)):Prop where
 pow:∃k,t.mask+1=2^k
 big:7<=t.mask
 dum:t.dummies= #[]
 rise:AT t.place
 inb:∀j∈t.place.toList,j<=t.mask
 size:t.place.size=es.size
 chain:∀(i j:Nat) h x,t.place[i]? =some j->es[i]? =some (h,x)->∃n,way t h n=j/\∀m,m<n->way t h m∈t.place.toList
theorem nodup_sub [DecidableEq c]:∀{l m:List c},l.Nodup->(∀x∈l,x∈m)->l.length<=m.length
 |[],_,_,_=>Xh _
 | x::l,m,d,a=>by
   have%[f|g]:=nodup_cons.mp d;have b:=a x Zm;have h:=nodup_sub (m:=m.erase x) g λy i=>(List.mem_erase_of_ne (λe=>f (by simp_all))).mpr (a y (Zk _ i))
   rw[List.length_erase_of_mem b]at h;have:=List.length_pos_of_mem b;rw[Zr]
   lia
theorem vQ(W:WF t v)(R:t.place.size<=t.mask)(h:Int):∃m,m+10<=10*turns t.mask/\way t h m∉t.place.toList/\(∀q,q<m->way t h q∈t.place.toList):=by
 have%[k|l]:=W.pow;have ex:∃e,e<=t.mask/\e∉t.place.toList:=by
  refine Classical.byContradiction λb=>?_
  have:(List.range (t.mask+1)).length<=t.place.toList.length:=nodup_sub nodup_range λx o=>(λe c=>Classical.byContradiction λq=>b %[e,c|q]) x (by have:=mem_range.mp o;lia)
  rw[Yl,Zb]at this
  lia
 have%[e,c|f]:=ex;have%[n,p|hw]:=vP l h e c;have:∀d,∀n,n<=d->n+10<=10*turns t.mask->way t h n∉t.place.toList->∃m,m+10<=10*turns t.mask/\way t h m∉t.place.toList/\(∀q,q<m->way t h q∈t.place.toList):=by
  intro d
  induction d with
  | zero=>
    intro n r g i;have:n=0:=by lia
    subst this;exact%[0,g,i|λq j=>absurd j (X8 _)]
  | succ d s=>
    intro n r g i;by_cases a:∀q,q<n->way t h q∈t.place.toList
    .exact%[n,g,i|a]
    .have%[q|j]:=Classical.not_forall.mp a;have%[w|u]:=Classical.not_imp.mp j;exact s q ⋯ ⋯ u
 exact this n n (Zi _) p (hw▸f)
end STab
namespace STab
open PySem PySem.SetTable
theorem jO(xs:Array a)(p:Nat)(x:a)(b:p<=xs.size):(insertAt xs p x).toList=xs.toList.take p++x::xs.toList.drop p:=by
 unfold insertAt;rw[Xg,toList_push,toList_extract,toList_extract,List.extract_eq_take_drop,List.extract_eq_take_drop];rw[drop_zero,Nat.sub_zero,Zn (l:=xs.toList.drop p) ∅];simp
theorem vR(xs:Array c)(x:c)(f:p<=xs.size)(i:Nat):(insertAt xs p x)[i]? =if i<p then xs[i]? else if i=p then some x else xs[i-1]? :=by
 have e:(insertAt xs p x)[i]? =(insertAt xs p x).toList[i]? :=by simp
 rw[e,jO xs p x f];have g:(xs.toList.take p).length=p:=by simp_all
 by_cases a:i<p
 .rw[if_pos a,Ya ⋯,Yd,if_pos a];simp
 .rw[if_neg a,Yb ⋯,g];by_cases b:i=p
  .rw[if_pos b,b,sub_self];rfl
  .rw[if_neg b];obtain⟨d,h⟩:∃d,i-p=d+1:=%[i-p-1|⋯]
   rw[h,List.getElem?_cons_succ,Yc];rw[show p+d=i-1 by lia];simp
theorem ir(xs:Array a)(p:Nat)(x:a)(b:p<=xs.size):(insertAt xs p x).size=xs.size+1:=by
 rw[<-Zb,jO xs p x b,Z9,Zr,Yn,Yj,Zb]
 lia
theorem AV(t:SetTable)(h:Int):∀n,(stand t h n).j+(stand t h n).more<=t.mask
 | 0=>by
   show bits h%(t.mask+1) +(runEnd t.mask _-bits h%(t.mask+1))<=t.mask;have:=mod_lt (bits h) (show 0<t.mask+1 from succ_pos _);unfold runEnd
   split<;> lia
 | n+1=>by
   have a:=AV t h n;show(t.advance _).j+(t.advance _).more<=t.mask;unfold advance
   split
   .lia
   .dsimp only[leap];have:=mod_lt ((stand t h n).i*5+1+(stand t h n).perturb/32) (show 0<t.mask+1 from succ_pos _);unfold runEnd
    split<;> lia
theorem rN(t:SetTable)(h:Int)(n:Nat):way t h n<=t.mask:=by
 have:=AV t h n;unfold way
 lia
theorem WF.put(W:WF t H)(Q:way t h m∉t.place.toList)(T:∀q,q<m->way t h q∈t.place.toList)(r f:Bool):
 (t.put (way t h m)).2=below t.place (way t h m)/\(t.put (way t h m)).1.mask=t.mask/\(t.put (way t h m)).1.place.size=t.place.size+1/\(t.put (way t h m)).1.led=t.led/\(t.put (way t h m)).1.plain=t.plain/\(t.put (way t h m)).1.moves=t.moves/\
  WF {(t.put (way t h m)).1 with led:=r,plain:=f} (insertAt H (t.put (way t h m)).2 (h,x)):=by
 have U:has t.dummies (way t h m)=false:=by rw[W.dum];simp[has]
 have Y:t.put (way t h m)=({t with place:=insertAt t.place (below t.place (way t h m)) (way t h m)},below t.place (way t h m)):=by
  unfold SetTable.put;dsimp only;rw[U];rfl
 rw[Y];have%[g,I|J]:=jk W.rise (way t h m)
 generalize hp:below t.place (way t h m)=p at g I J
 have w:p<=H.size:=by rw[<-W.size];exact g
 have s3:∀i (hi:i<t.place.size),p<=i->way t h m<t.place[i]:=λi hi q=>by
  have:=J i hi q;rcases Nat.eq_or_lt_of_le this with e|e
  .exact absurd (by rw[e];simp) Q
  .exact e
 have c:∀y,y∈(insertAt t.place p (way t h m)).toList↔y=way t h m\/y∈t.place.toList:=λy=>by
  rw[jO _ _ _ g,Yu,Yx];have:=Xe p t.place.toList
  constructor
  .rintro(q|q|q)
   .exact .inr (Yz q)
   .exact .inl q
   .exact .inr (Yy q)
  .rintro(q|q)
   .exact .inr (.inl q)
   .rw[<-this]at q;rcases Xq q with q|q
    .exact .inl q
    .exact .inr (.inr q)
 refine%[rfl,rfl,ir _ _ _ g,rfl,rfl,rfl,W.pow,W.big,W.dum,?_,?_,?_|?_]
 .intro a b ha A B;have l:(insertAt t.place p (way t h m))[a]? =some (insertAt t.place p (way t h m))[a]:=by simp
  have d:(insertAt t.place p (way t h m))[b]? =some (insertAt t.place p (way t h m))[b]:=by simp
  show(insertAt t.place p (way t h m))[a]<(insertAt t.place p (way t h m))[b];rw[vR _ _ g]at l d;have ab:b<t.place.size+1:=(ir t.place p (way t h m) g)▸A;by_cases C:a<p
  .rw[if_pos C]at l;have%[u|E]:=Array.getElem?_eq_some_iff.mp l;rw[<-E];by_cases r:b<p
   .rw[if_pos r]at d;have%[f|v]:=Array.getElem?_eq_some_iff.mp d;exact v▸W.rise a b u f B
   .rw[if_neg r]at d;by_cases f:b=p
    .rw[if_pos f]at d;exact(Za d)▸I a u C
    .rw[if_neg f]at d;have%[v|G]:=Array.getElem?_eq_some_iff.mp d;exact G▸W.rise a (b-1) u v ⋯
  .rw[if_neg C]at l;have r: ¬ b<p:=by lia
   have f: ¬ b=p:=by lia
   rw[if_neg r,if_neg f]at d;have%[v|G]:=Array.getElem?_eq_some_iff.mp d;rw[<-G];by_cases u:a=p
   .rw[if_pos u]at l;exact(Za l)▸s3 (b-1) v ⋯
   .rw[if_neg u]at l;have%[E|a4]:=Array.getElem?_eq_some_iff.mp l;exact a4▸W.rise (a-1) (b-1) E v ⋯
 .intro y hy;rcases(c y).mp hy with q|q
  .rw[q];exact rN t h m
  .exact W.inb y q
 .rw[ir _ _ _ g,ir _ _ _ w,W.size]
 .intro i j h' L hi o;have M:∀n,way {t with place:=insertAt t.place p (way t h m),led:=r,plain:=f} h' n=way t h' n:=λn=>qh (t':=t) (by rfl) h' n
  have key:∃n,way t h' n=j/\∀q,q<n->way t h' q∈(insertAt t.place p (way t h m)).toList:=by
   rw[vR _ _ g]at hi;rw[vR _ _ w]at o;by_cases N:i<p
   .rw[if_pos N]at hi o;have%[n,n1|z]:=W.chain i j h' L hi o;exact%[n,n1|λq s=>(c _).mpr (.inr (z q s))]
   .rw[if_neg N]at hi o;by_cases O:i=p
    .rw[if_pos O]at hi o;cases hi;cases o;exact%[m,rfl|λq s=>(c _).mpr (.inr (T q s))]
    .rw[if_neg O]at hi o;have%[n,n1|z]:=W.chain (i-1) j h' L hi o;exact%[n,n1|λq s=>(c _).mpr (.inr (z q s))]
  have%[n,n1|z]:=key;exact%[n,by rw[M];exact n1|λq s=>by rw[M];exact z q s]
end STab
namespace STab
open PySem PySem.SetTable
noncomputable def nb(t:SetTable)(h:Int):Nat->Nat
 | 0=>0
 | r+1=>nb t h r+(runEnd t.mask (aI t h r).1-(aI t h r).1) +1
theorem AW(t:SetTable)(h:Int):∀r d,d<=runEnd t.mask (aI t h r).1-(aI t h r).1->
 stand t h (nb t h r+d)=%[(aI t h r).1+d,runEnd t.mask (aI t h r).1-(aI t h r).1-d,(aI t h r).1,(aI t h r).2|none]:=by
 have a:∀n i b,stand t h n=%[i,runEnd t.mask i-i,i,b|none]->∀d,d<=runEnd t.mask i-i->stand t h (n+d)=%[i+d,runEnd t.mask i-i-d,i,b|none]:=by
  intro n i b e d
  induction d with
  | zero=>intro _;rw[add_zero,e];rfl
  | succ d c=>
    intro f;show t.advance (stand t h (n+d))=_;rw[c ⋯];unfold advance;rw[if_pos ⋯]
    grind
 intro r
 induction r with
 | zero=>exact a 0 _ _ rfl
 | succ r c=>
   refine a _ _ _ ?_;show t.advance _=_;rw[c _ (Zi _)];unfold advance;rw[if_neg ⋯];rfl
theorem vS(t:SetTable)(h:Int)(r d:Nat)(a:d<=runEnd t.mask (aI t h r).1-(aI t h r).1):way t h (nb t h r+d)=(aI t h r).1+d:=by
 unfold way;rw[AW t h r d a]
noncomputable def eP(owner:Array (Option Nat))(j:Nat):Bool:=(owner.getD j (some 0)).isSome
theorem qj(t:SetTable)(h:Int)(owner:Array (Option Nat)):∀(fuel r:Nat),(∃a,r<=a/\a<r+fuel/\eP owner (aI t h a).1=false)->(∀m,m<nb t h r->eP owner (way t h m)=true)->
 ∃j n,layClean.free t.mask owner fuel (aI t h r).1 (aI t h r).2=some j/\way t h n=j/\eP owner j=false/\∀m,m<n->eP owner (way t h m)=true
 | 0,r,⟨a,p,s,_⟩,_=>by lia
 | fuel+1,r,⟨a,p,s,g⟩,i=>by
   rw[layClean.free];have u:runEnd t.mask (aI t h r).1>=(aI t h r).1:=by unfold runEnd;split<;> lia
   have tk:∀k,(owner.getD ((aI t h r).1+k) (some 0)).isNone=!eP owner ((aI t h r).1+k):=λk=>by
    unfold eP;cases owner.getD ((aI t h r).1+k) (some 0)<;> rfl
   cases l:(List.range (runEnd t.mask (aI t h r).1+1-(aI t h r).1)).find? λk=>(owner.getD ((aI t h r).1+k) (some 0)).isNone with
   | some k=>
     have%[o,b,bs,c|v]:=List.find?_eq_some_iff_append.mp l;have d:k∈List.range (runEnd t.mask (aI t h r).1+1-(aI t h r).1):=by rw[c];simp
     have d:=mem_range.mp d;have w:b=List.range k:=by
      have y:b.length=k:=by
       have:(List.range (runEnd t.mask (aI t h r).1+1-(aI t h r).1))[b.length]? =some k:=by rw[c];simp
       rw[getElem?_range (by have:=(Xp this).1;simpa using this)]at this;exact Za this
      have z:b=(List.range (runEnd t.mask (aI t h r).1+1-(aI t h r).1)).take k:=by
       rw[c,<-y];simp
      rw[z,List.take_range,X2 ⋯]
     dsimp only;refine%[_,nb t h r+k,rfl,vS t h r k ⋯,?_|λm f=>?_]
     .rw[tk]at o;simpa using o
     .by_cases q:m<nb t h r
      .exact i m q
      .have:=v (m-nb t h r) (w▸mem_range.mpr ⋯);rw[tk]at this;rw[show m=nb t h r+(m-nb t h r) by lia,vS t h r _ ⋯];simpa using this
   | none=>
     have all:∀k,k<=runEnd t.mask (aI t h r).1-(aI t h r).1->eP owner ((aI t h r).1+k)=true:=λk d=>by
      have:=(List.find?_eq_none.mp l) k (mem_range.mpr ⋯);rw[tk]at this;simpa using this
     have A:r≠a:=λe=>by
      have:=all 0 (Xh _);rw[add_zero,e,g]at this;cases this
     dsimp only;exact qj t h owner fuel (r+1) %[a,⋯,⋯|g] λm f=>by
      by_cases q:m<nb t h r
      .exact i m q
      .have f:m<nb t h r+(runEnd t.mask (aI t h r).1-(aI t h r).1) +1:=f;rw[show m=nb t h r+(m-nb t h r) by lia,vS t h r _ ⋯];exact all _ ⋯
structure LO (t:SetTable) (hs:ZL) (owner:Array _):Prop where
 size:owner.size=t.mask+1
 own:∀j q,owner[j]? =some (some q)->∃h,hs[q]? =some h/\∃n,way t h n=j/\∀m,m<n->eP owner (way t h m)=true
 all:∀q,q<hs.length->∃j:Nat,owner[j]? =some (some q)
 one:∀(j j' q:Nat),owner[j]? =some (some q)->owner[j']? =some (some q)->j=j'
theorem fK(b:j<owner.size):eP owner j=true↔∃q,owner[j]? =some (some q):=by
 unfold eP;have e:owner.getD j (some 0)=owner[j]:=by simp_all
 rw[e];have a:owner[j]? =some owner[j]:=by simp
 rw[a];cases owner[j]with
 | none=>simp
 | some q=>simp
theorem LO.step(L:LO t f owner)(J:t.mask+1=2^k)(room:f.length<=t.mask)(h:Int):
 ∃j,layClean.free t.mask owner (turns t.mask) (bits h%(t.mask+1)) (bits h)=some j/\LO t (f++[h]) (owner.setIfInBounds j (some f.length)):=by
 have d:∀h n,way t h n<owner.size:=λh n=>by rw[L.size];have:=rN t h n;lia
 have ex:∃e,e<=t.mask/\eP owner e=false:=by
  refine Classical.byContradiction λv=>?_
  have all:∀e,e<t.mask+1->eP owner e=true:=λe c=>by
   cases q:eP owner e with
   | true=>rfl
   | false=>exact absurd %[e,⋯|q] v
  let g:Nat->Nat:=λe=>((owner[e]?).getD none).getD 0
  have w:∀e,e<t.mask+1->owner[e]? =some (some (g e)):=λe c=>by
   have%[q|o]:=(λe c=>(fK (L.size▸c)).mp (all e c)) e c;show owner[e]? =some (some (((owner[e]?).getD none).getD 0));rw[o];rfl
  have nd:((List.range (t.mask+1)).map g).Nodup:=by
   rw[X6,Xb];refine Xj (λ{a b} M N A q=>A ?_) (nodup_iff_pairwise_ne.mp nodup_range);have E:=w b (mem_range.mp N);rw[<-q]at E;exact L.one a b _ (w a (mem_range.mp M)) E
  have:=nodup_sub nd λy O=>by
   have%[e,c|rfl]:=Xs O;have%[h',l|_]:=L.own e _ (w e (mem_range.mp c));exact mem_range.mpr (Xp l).1
  rw[Z6,Yl,Yl]at this
  lia
 have%[e,c|B]:=ex;have%[r,hr|o]:=nF J h e c;have%[j,n,Q,G,T|U]:=qj t h owner (turns t.mask) 0 %[r,Xh _,⋯|o▸B] (λm p=>absurd p (X8 _));refine%[j,Q|?_];have Y:j<owner.size:=G▸d h n;have nj:∀q,owner[j]? ≠some _:=λq e=>by
  have:=(fK Y).mpr %[q|e];rw[T]at this;cases this
 have get:∀i,(owner.setIfInBounds j (some f.length))[i]? =if j=i then some _ else owner[i]? :=λi=>by
  rw[Array.getElem?_setIfInBounds]
  split
  .first|rfl|simp
  .rfl
 have keep:∀i,eP owner i=true->i<owner.size->eP (owner.setIfInBounds j _) i=true:=λi hi H=>by
  have%[q|e]:=(fK H).mp hi;refine(fK (Array.size_setIfInBounds▸H)).mpr ?_;rw[get]
  split
  .exact%[_|rfl]
  .exact%[q|e]
 refine%[by rw[Array.size_setIfInBounds];exact L.size,λi q e=>?_,λq o=>?_|λi I q e s=>?_]
 .rw[get]at e
  split at e
  .rename_i C
   cases e;refine%[h,by simp,n,by rw[G,C]|λm p=>keep _ (U m p) (d h m)]
  .have%[h',l,n',e2|e3]:=L.own i q e;exact%[h',(Ya (Xp l).1)▸l,n',e2|λm p=>keep _ (e3 m p) (d h' m)]
 .rw[Z9,Ym]at o;by_cases e:q=f.length
  .exact%[j|by rw[get,if_pos rfl,e]]
  .have%[i|hi]:=L.all q ⋯;refine%[i|?_];rw[get,if_neg]
   .exact hi
   .intro C;rw[<-C]at hi;exact nj q hi
 .have u:∀i,owner[i]? =some (some f.length)->False:=λi e=>by
   have%[h',l|_]:=L.own i _ e;have:=(Xp l).1
   lia
  rw[get]at e s
  split at e<;> split at s
  .lia
  .cases e;exact absurd s (λz=>u I z)
  .cases s;exact absurd e (λz=>u i z)
  .exact L.one i I q e s
theorem tT(c:t.mask+1=2^k)(a:Array Int)(room:a.size<=t.mask+1):∃owner,layClean t.mask a=some owner/\LO t a.toList owner:=by
 have d:∀rest done owner,LO t done owner->(done++rest).length<=t.mask+1->
  ∃b,rest.foldl (λacc h=>do
   let(owner,k)<-acc
   let j<-layClean.free t.mask owner (turns t.mask) (bits h%(t.mask+1)) (bits h)
   pure (owner.setIfInBounds j (some k),k+1)) (some (owner,done.length))=some (b,(done++rest).length)/\LO t (done++rest) b:=by
  intro rest
  induction rest with
  | nil=>intro done owner L _;exact%[owner,by simp|by simpa using L]
  | cons h rest g=>
    intro done owner L i;simp only[Z9,Zr]at i;have%[j,f|l]:=L.step c ⋯ h;have%[b,e|L2]:=g _ _ l (by simp_all);refine%[b,?_|by simpa using L2];rw[Y9];have m:(do
     let(owner,k)<-(some (owner,done.length))
     let j<-layClean.free t.mask owner (turns t.mask) (bits h%(t.mask+1)) (bits h)
     pure (owner.setIfInBounds j (some k),k+1))=some (owner.setIfInBounds j (some done.length),(done++[h]).length):=by
     show(layClean.free t.mask owner _ _ _).bind _=_;rw[f];simp
    rw[m,e];simp
 have n:LO t [] (Array.replicate (t.mask+1) none):=%[by simp,λj q e=>by
  rw[Array.getElem?_replicate]at e
  split at e<;> simp at e,λq o=>absurd o (X8 _)|λj p q e _=>by
  rw[Array.getElem?_replicate]at e
  split at e<;> simp at e]
 have%[owner,e|L]:=d a.toList [] _ n (room);refine%[owner,?_|L];unfold layClean;rw[<-Array.foldl_toList];rw[show(0)=([]).length from rfl,e];rfl
end STab
namespace STab
open PySem PySem.SetTable
theorem tU(n:Nat):∀fuel k,3<=k->n<2^(k+fuel)->(2^k<=2*n\/k=3)->∃a,3<=a/\sizeAbove.go n fuel (2^k)=2^a/\n<2^a/\(2^a<=2*n\/a=3)
 | 0,k,b,c,d=>%[k,b,rfl,c|d]
 | fuel+1,k,b,c,d=>by
   rw[sizeAbove.go];by_cases h:2^k<=n
   .rw[if_pos h];have e:2^k*2=2^(k+1):=by rw[pow_succ]
    rw[e];exact tU n fuel _ ⋯ ((show k+1+fuel=k+(fuel+1) by lia)▸c) (.inl ⋯)
   .rw[if_neg h];exact%[k,b,rfl,⋯|d]
theorem vT(a:n<2^60):∃k,3<=k/\sizeAbove n=2^k/\n<2^k/\(2^k<=2*n\/k=3):=
 tU n 64 3 (Zi _) (Zg a (Nat.pow_le_pow_right (by decide) ∅)) (.inr rfl)
theorem nH [DecidableEq c]:∀{l m:List c},l.Nodup->m.Nodup->(∀x,x∈l↔x∈m)->l.Perm m
 |[],m,_,_,h=>by
  cases m with
  | nil=>simp
  | cons x m=>exact absurd ((h x).mpr Zm) ∅
 | x::l,m,d,b,h=>by
   have%[f|g]:=nodup_cons.mp d;refine List.Perm.trans (List.Perm.cons x (nH g (b.erase x) λy=>?_)) (List.perm_cons_erase ((h x).mp Zm)).symm
   constructor
   .intro a;exact(List.mem_erase_of_ne (λe=>f (by simp_all))).mpr ((h y).mp (Zk _ a))
   .intro a;rcases mem_cons.mp ((h y).mpr (List.mem_of_mem_erase a))with q|q
    .exact absurd q (λe=>by rw[e]at a;exact b.not_mem_erase a)
    .exact q
theorem laid_ok{t:SetTable}(hp:t.mask+1=2^k)(E:7<=t.mask)(c:Array (Int×Value))(room:c.size<=t.mask)(finger moves:Nat)(led plain:Bool):
 ∃t' d,laid t.mask finger moves led plain (c.map (·.1))=some (t',d)/\t'.mask=t.mask/\t'.led=led/\t'.plain=plain/\t'.moves=moves/\WF t' (d.filterMap (c[·]?))/\(d.filterMap (c[·]?)).toList.Perm c.toList:=by
 have%[owner,e|L]:=tT hp (c.map (·.1)) (by rw[size_map];lia);have G:(c.map (·.1)).toList.length=c.size:=by simp
 obtain⟨live,v⟩:∃live,(List.range (t.mask+1)).filterMap (λj=>(owner.getD j none).map (λq=>(j,q)))=live:=%[_|rfl]
 refine%[%[t.mask,(live.map (·.1)).toArray,#[],finger,led,moves|plain],(live.map (·.2)).toArray,by unfold laid;rw[e,<-v];rfl,rfl,rfl,rfl,rfl|?_];have gd:∀j q,owner.getD j none=some q↔owner[j]? =some (some q):=λj q=>by
  rw[Zs];cases owner[j]? with
  | none=>simp
  | some o=>simp
 have mem:∀j q,(j,q)∈live↔owner[j]? =some (some q):=λj q=>by
  rw[<-v,mem_filterMap]
  constructor
  .rintro⟨H,ac,I⟩;have%[z,s|J]:=map_eq_some_iff.mp I;cases J;exact(gd j q).mp s
  .intro ho;have:j<owner.size:=by
    have%[f|_]:=Array.getElem?_eq_some_iff.mp ho;exact f
   refine%[j,mem_range.mpr (by rw[L.size]at this;exact this)|?_];rw[(gd j q).mpr ho];rfl
 have r:(live.map (·.1)).Pairwise (·<·):=by
  rw[<-v,Xb,List.pairwise_filterMap];refine List.Pairwise.imp (λ{a b} u x hx y M=>?_) List.pairwise_lt_range;have%[_,_|rfl]:=map_eq_some_iff.mp hx;have%[_,_|rfl]:=map_eq_some_iff.mp M;exact u
 have w:∀j q,(j,q)∈live->q<c.size:=λj q h=>by
  have%[h',s|_]:=L.own j q ((mem j q).mp h);have:=(Xp s).1
  lia
 have B:(live.map (·.2)).Nodup:=by
  rw[X6,Xb];refine Xj (λ{a b} N E u g=>?_) (by rw[Xb]at r;exact r);have f:=(mem a.1 a.2).mp N;have O:=(mem b.1 b.2).mp E;rw[<-g]at O;have:=L.one _ _ _ f O
  lia
 have C:(live.map (·.2)).Perm (List.range c.size):=nH B nodup_range λq=>by
  constructor
  .intro g;have%[%[j|z],f|rfl]:=Xs g;exact mem_range.mpr (w j z f)
  .intro g;have%[j|Q]:=L.all q (G▸mem_range.mp g);exact Xt %[(j,q),(mem j q).mpr Q|rfl]
 have fm:∀(l:List Nat),(∀q∈l,q<c.size)->l.filterMap (c[·]?)=l.map (λq=>c.getD q (0,Value.none)):=by
  intro l
  induction l with
  | nil=>intro _;rfl
  | cons q l ih=>
    intro g;have f:=g q Zm;have s:c[q]? =some (c.getD q (0,Value.none)):=by simp[Array.getD,f]
    rw[Y3,s,Ys,ih λy M=>g y (Zk _ M)]
 have T:((live.map (·.2)).toArray.filterMap (c[·]?)).toList=(live.map (·.2)).map (λq=>c.getD q (0,Value.none)):=by
  rw[Array.toList_filterMap,List.toList_toArray];exact fm _ λq g=>by
   have%[%[j|z],f|rfl]:=Xs g;exact w j z f
 have er:c.toList=(List.range c.size).map (λq=>c.getD q (0,Value.none)):=by
  apply Y0
  .simp
  .intro i f O;have f:=by simpa using f
   simp[Array.getD,f]
 refine%[%[%[k|hp],E,rfl,?_,λj Q=>?_,?_|λi j h x hi A=>?_]|?_]
 .intro a b N U u;have:=List.pairwise_iff_getElem.mp r a b (N) (U) u;simpa using this
 .have%[%[H|q],f|rfl]:=Xs Q;have:=(Array.getElem?_eq_some_iff.mp ((mem H q).mp f)).1;rw[L.size]at this
  lia
 .rw[<-Zb (xs:=Array.filterMap _ _),T];simp
 .have hi:(live.map (·.1))[i]? =some j:=by simpa using hi
  have A:((live.map (·.2)).toArray.filterMap (c[·]?)).toList[i]? =some (h,x):=by simpa using A
  rw[T,Yt,Zl]at A;rw[Zl]at hi;cases Y:live[i]? with
  | none=>rw[Y]at hi;cases hi
  | some p=>
    have%[H|q]:=p;rw[Y]at hi A;cases hi;have hm:=Z8 Y;have%[h',s,n,n1|n2]:=L.own _ q ((mem _ q).mp hm);have g:=w _ q hm;have eh:h'=h:=by
     have J:(c.map (·.1)).toList[q]? =some (c[q]).1:=by simp[g]
     rw[J]at s;have e3:c.getD q (0,Value.none)=c[q]:=by simp[Array.getD,g]
     simp only[Function.comp,map_some,e3,Option.some.injEq]at A;rw[A]at s;exact(Za s).symm
    subst eh;have wm:∀n,way {mask:=t.mask,place:=(live.map (·.1)).toArray,dummies:= #[],finger:=finger,led:=led,moves:=moves,plain:=plain} h' n=way t h' n:=λn=>qh (t':=t) (by rfl) h' n
    refine%[n,by rw[wm];exact n1|λm ab=>?_];rw[wm];have%[z|I]:=(fK (by rw[L.size];have:=rN t h' m;lia)).mp (n2 m ab);exact Xt %[(way t h' m,z),(mem _ _).mpr I|rfl]
 .rw[T,er];exact C.map _
end STab
namespace STab
open PySem PySem.SetTable
section
variable{prog:Program}{w:World}{K:Type}[DecidableEq K]{knd:KeyKind prog w K}{A:Around}{E:ZD}{s:Shared}
def EL(knd:KeyKind prog w K)(h:Heap)(a:Array (Int×Value)):Prop:=∀(i:Nat) e,a[i]? =some e->∃r k,e=(tupleKeyHash knd k,Value.ref r)/\IsTupleKey knd h k r
theorem lK(g:IsTupleKey knd s.heap ks r)(h:Q false s):↥A (ofAClassStatement 8 (.ref r)) Q E s:=by
 have l:=g.typeIs;have%[o,c,n,m,_,p|hi]:=g;unfold ofAClassStatement;refine Z2 (wpAny_typeOf l (Z2 (Z3 (Z2 (wpAny_seqItems m p (Z2 ?_))))));rw[<-forIn_toList];refine wpAny_forIn_list _ (λrest r s'=>r=(none,())/\s'=s/\∃i,ItemsAre knd i rest) _ ?_ ?_ _ _ %[rfl,rfl,ks|hi]
 .intro x rest r s' %[rfl,rfl,i|d];cases d with
  | @cons k1 v f j q b=>
    have u:=knd.byValue _ _ q;have e:ofAClassStatement 7 x=pure false:=by
     cases x with
     | ref a=>simp[carriedByValue]at u
     | _=>first|rfl|lia|lia
    refine Z2 ?_;rw[e];exact Z3 (Z3 %[rfl,rfl,f|b])
 .intro r s' %[rfl,rfl|_];exact Z3 h
theorem vU(d:IsTupleKey knd s.heap ks r):∀(l:ZF),(∀y∈l,∃a c,y=Value.ref a/\IsTupleKey knd s.heap c a)->∀{Q:Bool->Shared->Prop},Q false s->↥A (searchCouldBeSeen (.ref r) l) Q E s:=by
 intro l g Q h;refine Z2 (wpAny_forIn_list _ (λrest x s'=>x=(none,())/\s'=s/\∀y∈rest,∃a c,y=Value.ref a/\IsTupleKey knd s.heap c a) _ ?_ ?_ _ _ %[rfl,rfl|g])
 .intro y rest x s' %[rfl,rfl|e];have%[a,c,rfl|b]:=e y Zm;have f:=λy i=>e y (Zk _ i)
  dsimp only
  split
  .exact Z3 %[rfl,rfl|f]
  .exact Z2 (wpAny_eqIsQuiet_tuple d (Z2 (wpAny_eqIsQuiet_tuple b (Z2 (lK d (Z2 (lK b (Z3 %[rfl,rfl|f]))))))))
 .intro x s' %[rfl,rfl|_];exact Z3 h
theorem rO(hu:A.units<cLine)(ho:s.heap.get? a=some o)(hd:o.data= .set u ep t)(W:WF t u)(room:t.place.size<=t.mask)(ag:t.mask<=9000)
 (el:EL knd s.heap u) (hk:IsTupleKey knd s.heap k r)
 (h1:(∃(i:Nat) (g:Addr),u[i]? =some (tupleKeyHash knd k,Value.ref g)/\IsTupleKey knd s.heap k g)->Q (.there none) s)
 (h2:∀m,way t (tupleKeyHash knd k) m∉t.place.toList->(∀q,q<m->way t (tupleKeyHash knd k) q∈t.place.toList)->(∀(i:Nat) g v,u[i]? =some (tupleKeyHash knd v,Value.ref g)->IsTupleKey knd s.heap v g->v≠k)->Q (.free (way t (tupleKeyHash knd k) m) false) s):
 ↥A (setSearch a (.ref r) (tupleKeyHash knd k) true) Q E s:=by
 generalize hh:tupleKeyHash knd k=h at h1 h2
 have hf:t.fits u.size=true:=by
  unfold fits fill;rw[W.dum];simp[W.size];exact W.size▸room
 have%[N,m1,m2|m3]:=vQ W room h;have me:t.slot (way t h N)= .empty:=by
  rcases jm W.rise W.dum (way t h N)with⟨i,e,_⟩|⟨_,e⟩
  .exact absurd (mem_toList_iff.mpr (Array.mem_of_getElem? e)) m2
  .exact e
 have ai:t.gaveWay=false:=by
  have%[c|hc]:=W.pow;have hb:=W.big;have c0:c≠0:=λq=>by rw[q]at hc;lia
  have%[c'|rfl]:=Nat.exists_eq_succ_of_ne_zero c0;rw[pow_succ]at hc;unfold gaveWay;have:t.mask%2=1:=by lia
  simp[this]
 have O:∀(fuel n:Nat) (st:Option Probe),st.getD (t.probeStart h)=stand t h n->n<=N->N<n+fuel->(∀j,j<n->∀(i:Nat) g v,t.slot (way t h j)= .live i->u[i]? =some (tupleKeyHash knd v,Value.ref g)->IsTupleKey knd s.heap v g->v≠k)->
  ↥A (setSearchFrom a (.ref r) h true fuel st) Q E s:=by
  intro fuel
  induction fuel with
  | zero=>intro n st _ a1 a2;lia
  | succ fuel ih=>
    intro n st al hn a4 T;unfold setSearchFrom;refine Z2 (wpAny_setState_of ho hd hf ?_);dsimp only;rw[ai];simp only[Y1,if_false];rw[al]
    generalize an:SetTable.probe t _ h (stand t h n)=pr
    have l:SetTable.probe.go t (λi=>((u[i]?).map (·.1)).getD 0) h (10*turns t.mask) (stand t h n)=pr:=an;have%[q,q1,q2,q3|q4]:=tQ (t:=t) W.dum (hashAt:=λi=>((u[i]?).map (·.1)).getD 0) (h:=h) (10*turns t.mask) n N hn ⋯ me;rcases q4 with⟨J,e2⟩|⟨i,J,e2,e3⟩
    .rw[e2]at l;subst l;have hq:q=N:=by
      rcases Nat.eq_or_lt_of_le q2 with z|z
      .exact z
      .have:=m3 q z;rcases jm W.rise W.dum (way t h q)with⟨i,_,U⟩|⟨z2,_⟩
       .rw[J]at U;cases U
       .exact absurd this z2
     subst hq;dsimp only;refine Z3 (h2 q m2 m3 λi g v p B C=>?_);subst C;rw[hh]at p;have hi:i<u.size:=(Array.getElem?_eq_some_iff.mp p).1;have hp:t.place[i]? =some (t.place[i]'(W.size▸hi)):=by simp
     have%[Y,c1|c2]:=W.chain i _ h _ hp p;have G:=qg W.rise hp;have aq:Y<q:=by
      rcases Nat.lt_trichotomy Y q with z|z|z
      .exact z
      .rw[z,]at c1;rw[<-c1,me]at G;cases G
      .exact absurd (c2 q z) m2
     rw[<-c1]at G;by_cases ab:Y<n
     .exact T Y ab i g v G (hh▸p) B rfl
     .have%[H,U|ac]:=q3 Y ⋯ aq;rw[G]at U;cases U;rw[p]at ac;exact ac rfl
    .rw[e3]at l;subst l;obtain⟨x0,p⟩:∃e,u[i]? =some e:=by
      have as:t.place[i]? =some (way t h q):=by
       rcases jm W.rise W.dum (way t h q)with⟨H,p1,I⟩|⟨_,I⟩
       .rw[J]at I;cases I;exact p1
       .rw[J]at I;cases I
      have:=(Array.getElem?_eq_some_iff.mp as).1;exact%[u[i]'(W.size▸this)|by simp[<-W.size,this]]
     have%[g,v,rfl|B]:=el i x0 p;have a5:q<N:=Nat.lt_of_le_of_ne q2 λz=>by rw[z,me]at J;cases J
     have L:↥A (do
      let f<-holding [Value.ref g] (eqBool (Value.ref g) (Value.ref r))
      let x<-setState a
      if(true&&f)=true then pure (SetFound.there none)
      else match x.2.snd.sameMemory t.moves t.mask with
       | some same=>
         match if same=true then x.2.snd.slot (way t h q)else Slot.empty with
         | Slot.live H=>
           match x.fst[H]? with
           | some (_,y')=>do
             let b<-isSame y' (Value.ref g)
             let d<-pure (if b=true then some H else none)
             match d with
              | none=>do
                rule "set.search.anew"
                setSearchFrom a (Value.ref r) h true fuel none
              | some H=>
                if f=true then pure (SetFound.there (some H))
                else setSearchFrom a (Value.ref r) h true fuel (some (stand t h (q+1)))
           | none=>do
             let d<-pure none
             match d with
              | none=>do
                rule "set.search.anew"
                setSearchFrom a (Value.ref r) h true fuel none
              | some H=>
                if f=true then pure (SetFound.there (some H))
                else setSearchFrom a (Value.ref r) h true fuel (some (stand t h (q+1)))
         | x=>do
           let d<-pure none
           match d with
            | none=>do
              rule "set.search.anew"
              setSearchFrom a (Value.ref r) h true fuel none
            | some H=>
              if f=true then pure (SetFound.there (some H))
              else setSearchFrom a (Value.ref r) h true fuel (some (stand t h (q+1)))
       | x=>unsupported "set.changed-during-lookup:is-the-new-block-at-the-old-address") Q E s:=by
      refine Z2 (wpAny_holding (wpAny_eqBool_tuple hu B hk (Z2 (wpAny_setState_of ho hd hf ?_))));dsimp only;by_cases C:v=k
      .subst C;rw[Zf rfl];exact Z3 (h1 %[i,g,(by rw[p]at e2;exact e2)▸p|B])
      .rw[Zh C];have sm:t.sameMemory t.moves t.mask=some true:=by unfold sameMemory;rw[if_pos ∅]
       rw[sm];simp only[if_true];rw[J];dsimp only;rw[p];dsimp only;have same:isSame (Value.ref g) (Value.ref g)=pure true:=by
        unfold isSame;simp
       refine Z2 ?_;rw[same];refine Z3 ?_;simp only[if_true];refine Z2 (Z3 ?_);dsimp only;refine ih (q+1) _ rfl ⋯ ⋯ λj hj i2 r2 k2 s2 g2 t2=>?_
       by_cases aR:j<n
       .exact T j aR i2 r2 k2 s2 g2 t2
       .by_cases aU:j=q
        .subst aU;rw[J]at s2;cases s2;rw[p]at g2;have:g=r2:=by
          have:=Za g2;injection this with _ z
          injection z
         subst this;exact(B.inj t2)▸C
        .have%[i3,p1|I]:=q3 j ⋯ ⋯;rw[s2]at p1;cases p1;rw[g2]at I;intro z;rw[z]at I;exact I hh
     dsimp only;rw[p];dsimp only;by_cases M:(!t.led)=true
     .rw[if_pos M];refine Z2 (vU hk _ (λy hy=>?_) ?_)
      .have%[e,a0|rfl]:=Xs hy;have%[i2|hi2]:=Array.getElem?_of_mem ((Array.mem_filter.mp (mem_toList_iff.mp a0)).1);have%[r2,k2,rfl|a3]:=el i2 e hi2;exact%[r2,k2,rfl|a3]
      .exact L
     .rw[if_neg M];exact L
 exact O 100000 0 none rfl (Xh _) (by unfold turns at m1;lia) (λj hj=>absurd hj (X8 _))
end
end STab
namespace STab
open PySem PySem.SetTable
structure IN (es:Array _) (t:SetTable) (led:Bool):Prop where
 wf:WF t es
 roomy:t.place.size*5<t.mask*3
 small:t.mask<=7\/t.mask+1<=8*es.size
 led:t.led=led
 plain:es.size≠0->t.plain=false
theorem IN.fits{a:Array _}{t:SetTable}{led:Bool}(I:IN a t led):t.fits a.size=true:=by
 unfold SetTable.fits fill;rw[I.wf.dum];have:=I.roomy;simp[I.wf.size];rw[<-I.wf.size]
 lia
theorem IN.fresh(finger moves:Nat)(led:Bool):IN #[] (SetTable.fresh finger moves led) led:=
 %[%[%[3|rfl],Zi _,rfl,λa b c=>absurd c (by simp[SetTable.fresh]),λj d=>by simp[SetTable.fresh]at d,rfl|λi j h x hi=>by simp[SetTable.fresh]at hi],show 0*5<7*3 from by decide,.inl (Zi _),rfl|λq=>absurd rfl q]
section
variable{prog:Program}{w:World}{K:Type}[DecidableEq K]{knd:KeyKind prog w K}{A:Around}{E:ZD}{s:Shared}
theorem relay_w(e:s.heap.get? a=some o)(f:o.data= .set c z t)(j:t.fits c.size=true)(B:c.size<=n)(hw:n<=4000)
 (h:∀d t',d.toList.Perm c.toList->WF t' d->t'.led=t.led->t'.plain=t.plain->n<=t'.mask->t'.mask+1<=2*n\/t'.mask<=7->Q () {s with heap:=s.heap.update a (Obj.putSet d t')}):
 ↥A (setRelay a n) Q E s:=by
 have%[k,l,g,lt|le]:=vT (n:=n) ⋯;have C:8<=2^k:=Yi (by simp:8<=2^3) (Nat.pow_le_pow_right ∅ l);have i:2^k<=2*n\/2^k=8:=by
  rcases le with q|q
  .exact .inl q
  .exact .inr (by rw[q])
 have m:2^k<=8000:=by rcases i with q|q<;> lia
 let p:SetTable:={t with mask:=2^k-1}
 have%[t',b,r,G,u,v,H,W|P]:=laid_ok (t:=p) (k:=k) (by show 2^k-1+1=2^k;lia) (by show 7<=2^k-1;lia) c (by show c.size<=2^k-1;lia) t.finger _ t.led t.plain;have y:t.relaid (c.map (·.1)) n=some (t',b):=by
  unfold relaid;rw[g];exact r
 have sz:(b.filterMap (c[·]?)).size=c.size:=by rw[<-Zb,P.length_eq,Zb]
 refine Z2 (wpAny_setState_of e f j ?_);dsimp only;rw[g,if_neg (by rw[PySem.sizeLine_eq];lia)];rw[y];refine Z2 ?_;show wpAny _ A (if((b.filterMap _).size != c.size)=true then _ else pure _) _ E s;rw[if_neg (by simp[sz])];exact Z3 (wpAny_storeSet_of e f (h _ t' P W u v ⋯ (by rcases i with q|q<;> lia)) (by rw[sz,PySem.sizeLine_eq];lia))
theorem AX(e:s.heap.get? a=some o)(f:o.data= .set c j t)(g:t.fits c.size=true)(m:c.size<=1000)(n:c.size≠0)(d:t.plain=false)
 (h:∀b t',b.toList.Perm c.toList->IN b t' t.led->t'.plain=false->Q () {s with heap:=s.heap.update a (Obj.putSet b t')}):
 ↥A (setRelay a (grown c.size)) Q E s:=by
 have i:grown c.size=c.size*4:=by unfold grown;rw[if_neg ⋯]
 rw[i];refine relay_w e f g ⋯ ⋯ λb t' P W l p q m2=>?_
 have sz:b.size=c.size:=by rw[<-Zb,P.length_eq,Zb]
 exact h b t' P %[W,by rw[W.size,sz];lia,⋯,l|λ_=>p▸d] (p▸d)
theorem ym{led:Bool}(M:A.units<cLine)(p:s.heap.get? a=some o)(n:o.data= .set d ep t)(I:IN d t led)(hn:d.size+1<=1000)
 (el:EL knd s.heap d) (C:IsTupleKey knd s.heap k r) (hv:∀(s':Shared) (N:Bool->Shared->Prop),IsTupleKey knd s'.heap k r->N false s'->↥A (hashByValue 8 (.ref r)) N E s')
 (h1:(∃(i:Nat) (u:Addr),d[i]? =some (tupleKeyHash knd k,Value.ref u)/\IsTupleKey knd s.heap k u)->Q false {s with toks:=s.toks+(k.length+1)})
 (O:(∀(i:Nat) (u:Addr) (G:List K),d[i]? =some (tupleKeyHash knd G,Value.ref u)->IsTupleKey knd s.heap G u->G≠k)->∀g t' H h',h'.get? a=some {o with data:= .set g H t'}->SameBut a s.heap h'->g.toList.Perm (d.toList++[(tupleKeyHash knd k,Value.ref r)])->IN g t' led->Q true {s with heap:=h',toks:=s.toks+(k.length+1)}):
 ↥A (setAdd a (.ref r)) Q E s:=by
 unfold setAdd;refine wpAny_holding (Z2 (wpAny_pyHash_tuple M C ?_));unfold setAddHashed;refine wpAny_holding ?_;unfold setAddHashedIn;refine Z2 (wpAny_setState_of (s:={s with toks:=s.toks+(k.length+1)}) p n I.fits ?_);dsimp only;have ns:byScan (Value.ref r) d=false:=rfl
 rw[ns];simp only[Y1,if_false];have rm:=I.roomy;refine Z2 (rO (s:={s with toks:=s.toks+(k.length+1)}) M p n I.wf ⋯ (by rcases I.small with q|q<;> lia) el C (λq=>?_) λm T m2 U=>?_)
 .exact Z3 (h1 q)
 .dsimp only;refine Z2 (wpAny_setState_of (s:={s with toks:=s.toks+(k.length+1)}) p n I.fits ?_);dsimp only;have v:=I.wf;have%[p1,Y,p3,p4,p5,p6|Wp]:=v.put (x:=Value.ref r) T m2 t.led false;have%[_,_,_,_,_,_|Wq]:=v.put (x:=Value.ref r) T m2 (t.put (way t (tupleKeyHash knd k) m)).1.led (t.put (way t (tupleKeyHash knd k) m)).1.plain;have y:(t.put (way t (tupleKeyHash knd k) m)).2<=d.size:=by
   rw[p1,<-v.size];exact(jk v.rise _).1
  have e:(insertAt d (t.put (way t (tupleKeyHash knd k) m)).2 (tupleKeyHash knd k,Value.ref r)).size=d.size+1:=ir _ _ _ y;have h:(insertAt d (t.put (way t (tupleKeyHash knd k) m)).2 (tupleKeyHash knd k,Value.ref r)).toList.Perm (d.toList++[(tupleKeyHash knd k,Value.ref r)]):=by
   rw[jO _ _ _ y];have q:=Xe (t.put (way t (tupleKeyHash knd k) m)).2 d.toList;refine List.Perm.trans List.perm_middle ?_;rw[q];exact perm_append_comm (l₁:=[_])
  generalize ab:insertAt d _ _=c at Wp Wq e h
  have f:∀b:SetTable,WF b c->b.mask=t.mask->b.place.size=t.place.size+1->b.led=led->b.plain=false->
   ↥A (do storeSet a c b;if(!false&&b.tooFull)=true then do setRelay a (grown (d.size+1));pure true else pure true) Q E {s with toks:=s.toks+(k.length+1)}:=λb z e1 e2 e3 e4=>by
   have g1:=by
    have q:=get?_update_self (Obj.putSet c b) p (by rw[putSet_of c b n];rfl);rwa[putSet_of c b n]at q
   have b1:=SameBut.update s.heap a (Obj.putSet c b);refine Z2 (wpAny_storeSet_of p n ?_ (e▸Yi hn (by decide)));have J:b.tooFull=true↔b.mask*3<=b.place.size*5:=by
    unfold tooFull fill;rw[z.dum];simp
   by_cases hf:b.tooFull=true
   .rw[if_pos (by simp[hf])];have B:b.fits c.size=true:=by
     unfold SetTable.fits fill;rw[z.dum];simp[z.size];exact z.size▸(by rw[e1,e2];have:=v.big;lia)
    rw[<-e];refine Z2 (AX g1 rfl B ⋯ ⋯ e4 λj L P3 I3 _=>Z3 ?_);have g2:=by
     have q:=get?_update_self (Obj.putSet j L) g1 (by rfl);rwa[putSet_of j L rfl]at q
    exact O U j L _ _ g2 (b1.trans (SameBut.update _ a _)) (P3.trans h) (by rw[e3]at I3;exact I3)
   .rw[if_neg (by simp[hf])];refine Z3 (O U c b _ _ g1 b1 h %[z,⋯,?_,e3|λ_=>e4]);rw[e1,e];rcases I.small with q|q
    .exact .inl q
    .exact .inr ⋯
  by_cases l:(t.put (way t (tupleKeyHash knd k) m)).1.plain=true
  .rw[if_pos l];exact Z2 (hv _ _ C (f _ Wp Y p3 I.led rfl))
  .rw[if_neg l];exact f _ Wq Y p3 (p4.trans I.led) (by simpa using l)
end
end STab
namespace L2
open PySem PySem.Spec PyProof.Rows STab
noncomputable def gi{a:Type}[DecidableEq a](ps:List (Addr×a))(p:Addr×a):List (Addr×a):=if p.2∈ps.map (·.2)then ps else ps++[p]
noncomputable def bd{a:Type}[DecidableEq a](l:List (Addr×a)):List (Addr×a):=l.foldl gi []
section
variable{κ:Type}[DecidableEq κ]
theorem AY{ps:List _}{p q:Addr×κ}(h:q∈gi ps p):q∈ps\/q=p:=by
 unfold gi at h
 split at h
 .exact .inl h
 simp_all
theorem yn{ps:List (Addr×κ)}{p:Addr×κ}{k:κ}:k∈(gi ps p).map (·.2)↔k∈ps.map (·.2)\/k=p.2:=by
 unfold gi;by_cases h:p.2∈ps.map (·.2)
 .rw[if_pos h];exact%[.inl|λq=>q.elim id λe=>e▸h]
 .rw[if_neg h,Zd,Yu];simp
theorem vV{ps:List (Addr×κ)}{p:Addr×κ}(h:(ps.map (·.2)).Nodup):((gi ps p).map (·.2)).Nodup:=by
 unfold gi
 split
 .exact h
 .rename_i a
  rw[Zd];exact mz h a
theorem wU:∀(l ps:List (Addr×κ)),(ps.map (·.2)).Nodup->((l.foldl gi ps).map (·.2)).Nodup/\(∀k,k∈(l.foldl gi ps).map (·.2)↔k∈ps.map (·.2)\/k∈l.map (·.2))/\(∀q∈l.foldl gi ps,q∈ps\/q∈l)
 |[],ps,h=>%[h,λk=>by simp|λq a=> .inl a]
 | p::l,ps,h=>by
   have%[b,c|d]:=wU l _ (vV h);rw[Y9];refine%[b,λk=>?_|λq a=>?_]
   .rw[c,yn,Ys,Yx]
    grind
   .rcases d q a with z|z
    .rcases AY z with z|z
     .exact .inl z
     .exact .inr (z▸Zm)
    .exact .inr (Zk _ z)
theorem dJ(l:List (Addr×κ)):((bd l).map (·.2)).Nodup:=(wU l [] X7).1
theorem gj(l:List (Addr×κ))(k:κ):k∈(bd l).map (·.2)↔k∈l.map (·.2):=by
 have:=(wU l [] X7).2.1 k;simpa [bd]using this
theorem bo(l:List (Addr×κ)):∀q∈bd l,q∈l:=λq a=>by
 rcases(wU l [] X7).2.2 q a with z|z
 .cases z
 .exact z
theorem rP(val:Nat->Addr×κ)(i:Nat):bd ((List.range (i+1)).map val)=gi (bd ((List.range i).map val)) (val i):=by
 unfold bd;rw[Xc,Zd,foldl_append];rfl
end
section
variable{prog:Program}{w:World}{κ:Type}[DecidableEq κ]{knd:PySem.KeyKind prog w κ}{A:Around}{E:ZD}{s:Shared}{a:Addr}
def nJ(w:World)(knd:PySem.KeyKind prog w κ)(a:Addr)(ps:List (Addr×List κ))(h:Heap):Prop:=
 ∃o b c t,h.get? a=some o/\o.ExactSet/\o.data= .set b c t/\IN b t (!aV w)/\b.toList.Perm (ps.map λp=>(tupleKeyHash knd p.2,Value.ref p.1))
theorem nJ.keep(S:nJ w knd a ps h)(k:∀o,h.get? a=some o->h'.get? a=some o):nJ w knd a ps h':=by
 have%[o,b,c,t,d|r]:=S;exact%[o,b,c,t,k o d|r]
theorem mD(x:IsTupleKey knd h k r)(q:∀o,h.get? r=some o->h'.get? r=some o):IsTupleKey knd h' k r:=by
 have%[o,b,n,c|z]:=x;exact%[o,b,n,q o c|z]
theorem AZ(v:A.units<cLine)(y:nJ w knd a ps s.heap)(tk:∀q∈ps,IsTupleKey knd s.heap q.2 q.1)(B:IsTupleKey knd s.heap p.2 p.1)(room:ps.length+1<=1000)
 (C:∀(s':Shared) (m:Bool->Shared->Prop),IsTupleKey knd s'.heap p.2 p.1->m false s'->↥A (hashByValue 8 (.ref p.1)) m E s')
 (n:∀h' b tk,SameBut a s.heap h'->nJ w knd a (gi ps p) h'->s.toks<=tk->Q b {s with heap:=h',toks:=tk}):↥A (setAdd a (.ref p.1)) Q E s:=by
 have%[o,g,G,t,r,f,u,I|P]:=y;have hn:=by
  have:=P.length_eq;rw[Z6,Zb]at this;exact this
 have mem:∀i e,g[i]? =some e->∃q∈ps,e=(tupleKeyHash knd q.2,Value.ref q.1):=λi e h=>by
  have:=mem_toList_iff.mpr (Array.mem_of_getElem? h);have%[q,c|rfl]:=Xs (P.mem_iff.mp this);exact%[q,c|rfl]
 have H:EL knd s.heap g:=λi e h=>by
  have%[q,c|rfl]:=mem i e h;exact%[q.1,q.2,rfl|tk q c]
 refine ym v r u I ⋯ H B C (λ⟨i,J,e,L⟩=>?_) λd j t' l h' g' M N O=>?_
 .have%[q,c|T]:=mem i _ e;have U:J=q.1:=by injection T with _ z;injection z
  subst U;refine n s.heap false _ (SameBut.refl a s.heap) ?_ (le_add_right _ _);unfold gi;rw[if_pos (Xt %[q,c|(L.inj (tk q c)).symm])];exact%[o,g,G,t,r,f,u,I|P]
 .refine n h' true _ M ?_ (le_add_right _ _);unfold gi;rw[if_neg]
  .refine%[_,j,l,t',g',f,rfl,O|N.trans ?_];rw[Zd];exact P.append_right _
  .intro Y;have%[q,c|e]:=Xs Y;have:=P.mem_iff.mpr (Xt %[q,c|rfl]);have%[i|hi]:=Xi this;exact d i q.1 q.2 (by simpa using hi) (tk q c) e
end
section
variable{prog:Program}{w:World}{κ:Type}[DecidableEq κ]{knd:PySem.KeyKind prog w κ}{A:Around}{R:Result->Shared->Prop}{I:Addr}{fp wr:List Addr}{G:Array GenState->Array GenState->Prop}{n:Nat}{P:Nat->Value->Prop}{St:Nat->Shared->Prop}
theorem pj(W:WalksS prog w A.in1 I fp wr G n P St)(S:Addr)(r:S∉fp)(Q:A.in1.units<cLine)(val:Nat->Addr×List κ)(u:∀i v,i<n->P i v->v= .ref (val i).1)(U:List (List κ))(hU:U.length<=999)(C:∀i,i<n->(val i).2∈U)(c:∀i,i<n->(val i).1≠S/\(val i).1∉wr)
 (T:∀i,i<n->∀(s':Shared) (B:Bool->Shared->Prop) (Y:ZD),IsTupleKey knd s'.heap (val i).2 (val i).1->B false s'->↥A.in1 (hashByValue 8 (.ref (val i).1)) B Y s'):
 ∀(k i:Nat) (s:Shared),n-i=k->i<=n->St i s->nJ w knd S (bd ((List.range i).map val)) s.heap->(∀j,j<n->IsTupleKey knd s.heap (val j).2 (val j).1)->
  (∀s',Moved (S::wr) G s s'->nJ w knd S (bd ((List.range n).map val)) s'.heap->R (.ok (.ret .none)) s')->codeAny (model prog w) A (.builtin "set.update.loop" %[[.ref S,.ref I]|[]]) R s:=by
 have out:S∉wr:=λh=>r (W.sub _ h)
 have more:∀b∈wr,b∈S::wr:=λb y=>Zk _ y
 intro k
 induction k with
 | zero=>
   intro i s E hi st H tk d;have e:i=n:=by lia
   subst e;refine codeAny_builtin F.entry_set_update_loop ?_;rw[Around.under_plainId F.plain_set_update_loop _];show wpAny _ A.in1 (pyNext (.ref I)>>= _) _ _ s;refine Z2 (W.done s _ _ st λf l=>?_);show wpAny _ A.in1 (ret Value.none) _ _ f;exact Z3 (d f (l.mono more) (H.keep λo e=>l.heap S o out e))
 | succ k ih=>
   intro i s E hi st H tk d;have lt:i<n:=by lia
   refine codeAny_builtin F.entry_set_update_loop ?_;rw[Around.under_plainId F.plain_set_update_loop _];show wpAny _ A.in1 (pyNext (.ref I)>>= _) _ _ s;refine Z2 (W.item i s _ _ lt st λv f pv J l=>?_);obtain rfl:=u i v lt pv;have g:∀j,j<n->IsTupleKey knd f.heap (val j).2 (val j).1:=λj a=>mD (tk j a) λo e=>l.heap _ o (c j a).2 e
   have L:∀q∈bd ((List.range i).map val),IsTupleKey knd f.heap q.2 q.1:=λq hq=>by
    have%[j,a|rfl]:=Xs (bo _ q hq);exact g j (by have:=mem_range.mp a;lia)
   have room:(bd ((List.range i).map val)).length+1<=1000:=by
    have q:=nodup_sub (dJ ((List.range i).map val)) (m:=U) λk E=>by
     have%[p,hp|rfl]:=Xs ((gj _ k).mp E);have%[j,a|rfl]:=Xs hp;exact C j (by have:=mem_range.mp a;lia)
    rw[Z6]at q
    lia
   refine Z2 (wpAny_holding (AZ (p:=val i) Q (H.keep (h':=f.heap) λo e=>l.heap S o out e) L (g i lt) room (λs' B=>T i lt s' B _) λh2 b ab M N z=>Z3 %[plainId_quiet F.plain_set_update_loop _|ih (i+1) _ ⋯ lt (W.frame _ f _ _ J z λb y o e=>?_) (by rw[rP];exact N) (λj a=>mD (g j a) λo e=>(M.2 _ (c j a).1)▸e) λs3 m3 O=>?_]))
   .rw[M.2 b (λq:b=S=>r (q▸y))];exact e
   .refine d s3 (Moved.trans W.gtrans ((l.mono more).then_heap z λb o y e=>?_) m3) O;rw[M.2 b (λq:b=S=>y (q▸Zm))];exact e
end
section
variable{prog:Program}{w:World}{κ:Type}[DecidableEq κ]{knd:PySem.KeyKind prog w κ}{A:Around}{E:ZD}{s:Shared}
theorem pq(hh:A.handled=none)(hu:A.units+16<cLine)(hl:s.heap.IsList l a)(hi:a.toList=ps.map λp=>Value.ref p.1)(tk:∀p∈ps,IsTupleKey knd s.heap p.2 p.1)(U:List (List κ))(hU:U.length<=999)(ab:∀p∈ps,p.2∈U)
 (hv:∀p∈ps,∀(B:Around) (s':Shared) (T:Bool->Shared->Prop) (E':ZD),IsTupleKey knd s'.heap p.2 p.1->T false s'->↥B (hashByValue 8 (.ref p.1)) T E' s')
 (hQ:∀(h':Heap) (tk:Nat),nJ w knd ⇑s (bd ps) h'->(∀b o,s.heap.get? b=some o->h'.get? b=some o)->Q (.ref ⇑s) {s with heap:=h',toks:=tk}):
 ↥A (call (.type "set") [.ref l]) Q E s:=by
 have%[c,tl|a1]:=called_set.mro;have ac:=called_set.made;have a2:=called_set.sub;refine wpAny_call (codeAny_of_tree ?_);show wpAny _ _ (callAny (.type "set") _) _ _ _;refine Z3 %[Code.quiet_builtin _ (by decide +kernel)|codeAny_builtin F.entry_type_call ?_];rw[Around.under_plain (weight_type_call_type "set" [.ref l] []) rfl];have a4:=called_set.notType;have a5:=called_set.canCreate;have a6:=PySem.F.typeCall_set_1 (.ref l)
 repeat any_goals first|assumption|wp_step
 refine codeAny_mono (tz (.ref l) (E:=E) (Q₁:=λobj q=>obj= .ref ⇑s/\q={s with heap:=s.heap.push (aX w)}) %[rfl|rfl]) λr q G=>?_
 cases r with
 | error e=>exact G
 | ok fl=>
   cases fl with
   | ret obj=>
     have%[rfl|rfl]:=G;have gS:(s.heap.push (aX w)).get? ⇑s=some (aX w):=Zj _ rfl;have tS:Shared.TypeIs {s with heap:=s.heap.push (aX w)} (.ref ⇑s) "set":=%[_,gS|rfl]
     have a7:=called_set.init.lookup;have bb:=called_set.init.bind (.ref ⇑s)
     repeat any_goals first|assumption|wp_step
     refine codeAny_mono (codeAny_call_builtin (R:=wants (λr u=>r= .none/\∃h' tk,u={s with heap:=h',toks:=tk}/\nJ w knd ⇑s (bd ps) h'/\(∀b o,s.heap.get? b=some o->h'.get? b=some o)) E) called_set.init.plain F.entry_set_init (check_set_init_1 tS ?_)) λH u f=>?_
     .have%[ol,gl,cl,nl|dl]:=hl;have%[a3,z,ag|m]:=ol;simp only at cl dl;subst cl;subst dl;have ai:(s.heap.push (aX w)).get? l=some {cls:= .type "list",dict:=z,data:= .seq a nl,slots:=m}:=Z7 _ gl;have bc:=PySem.F.sub_list_set;have bf:=PySem.F.sub_list_frozenset;have bl:(Value.type "list"==Value.type "dict")=false:=by decide
      have I:(s.heap.push (aX w)).IsList l a:=%[_,ai,rfl,nl|rfl]
      unfold Builtin.«set.__init__»;unfold noKeywords;unfold Builtin.Frozenset.updateFrom
      generalize al:pyIter=PI
      wp_walk
      subst al;refine wpAny_pyIter_list I (Z2 (wpAny_runValue ?_));have J:l<⇑s:=Zv gl;have h3:A.in1.in1.in1.handled=none:=by simp[hh]
      have Y:(s.heap.push (aX w)).objs.size=⇑s+1:=Zq ..;have an:l≠(s.heap.push (aX w)).objs.size:=by rw[Y];exact Zt (Yp J)
      have aq:⇑s∉[(s.heap.push (aX w)).objs.size,l]:=by
       rw[Y];simp only[Yx,X9,or_false,not_or];exact%[Zt (Yq _)|X3 J]
      have L:a.size=ps.length:=by rw[<-Zb,hi,Z6]
      have as:A.in1.in1.in1.units<cLine:=by simp only[Around.in1];lia
      have g:∀i,i<a.size->∃p∈ps,ps[i]? =some p/\ps.getD i (0,[])=p:=λi h=>by
       have h':i<ps.length:=by lia
       exact%[ps[i],Ye h',by simp[h']|by simp[Zc,h']]
      refine pj (knd:=knd) ((Walks.list h3 _ l an a).toS) ⇑s aq as (λi=>ps.getD i (0,[])) (λi v d aR=>?_) U hU (λi d=>?_) (λi d=>?_) (λi d=>?_) (a.size-0) 0 _ ⋯ (Xh _)
       %[%[_,Zj _ rfl,rfl|rfl]|I.push _] %[_,#[],0,_,Z7 _ gS,%[rfl,rfl|rfl],rfl,IN.fresh 0 0 _|List.Perm.refl _] (λj d=>?_) ?_
      .have%[p,y,M|n]:=g i d;have:a.toList[i]? =some v:=by rw[getElem?_toList];exact aR
       rw[hi,Zl,M]at this;show v= .ref (ps.getD i (0,[])).1;rw[n];exact(Za this).symm
      .have%[p,y,M|n]:=g i d;show(ps.getD i (0,[])).2∈U;rw[n];exact ab p y
      .have%[p,y,M|n]:=g i d;have%[po,_,_,pg|_]:=tk p y;have N:=Zv pg;show(ps.getD i (0,[])).1≠_/\(ps.getD i (0,[])).1∉_;rw[n];refine%[Zt N|?_];simp only[Yx,X9,or_false,Y];exact Zt (Yp N)
      .have%[p,y,M|n]:=g i d;intro s' T E';show IsTupleKey knd s'.heap (ps.getD i (0,[])).2 (ps.getD i (0,[])).1->_->wpAny _ _ (hashByValue 8 (.ref (ps.getD i (0,[])).1)) _ _ _;rw[n];exact hv p y _ s' T E'
      .have%[p,y,M|n]:=g j d;show IsTupleKey knd _ (ps.getD j (0,[])).2 (ps.getD j (0,[])).1;rw[n];exact mD (tk p y) λo e=>Z7 _ (Z7 _ e)
      intro s3 m3 S3;have G:(List.range a.size).map (λi=>ps.getD i (0,[]))=ps:=by
       rw[L];apply Y0
       .simp
       .intro i h1 h2;simp[Zc,h2]
      rw[G]at S3;have%[h',g',d',aU|a0]:=s3;have eg:g'=s.gens:=m3.gens;have ed:d'=s.drawn:=m3.drawn;have eo:a0=s.os:=m3.os;subst eg;subst ed;subst eo;refine Z3 ?_;show wpAny _ _ (ret Value.none) _ _ _;refine Z3 %[rfl,h',aU,rfl,S3|λb o e=>?_];have O:=Zv e;refine m3.heap b o ?_ (Z7 _ (Z7 _ e));simp only[Yx,X9,or_false,not_or,Y];exact%[Zt O|Zt (Yp O)]
     .cases H with
      | error e=>exact f
      | ok C=>
        cases C with
        | ret r=>
          have%[rfl,h',tk,rfl,S3|k3]:=f
          repeat any_goals first|assumption|wp_step
          exact hQ _ _ S3 k3
        | _=>exact f.elim
   | _=>exact G.elim
end
open PySem PySem.Spec PyProof.Rows
section
variable{prog:Program}{w:World}{A:Around}{s:Shared}
theorem i5{a:Addr}{vs:ZF}{n:Nat}{kd:SortKind}{Nv:Value->Nat}{P:Fin->Shared->Prop}{E:ZD}(C:s.heap.get? a=some (seqObj "list" vs.toArray n))(H:vs.length<=100000)
 (f:∀j:Heap,(∀b o,b≠a->s.heap.get? b=some o->j.get? b=some o)->2<=vs.length->∀Q:SortKind->Shared->Prop,Q kd {s with heap:=j}->↥A (keyKind' vs.toArray) Q E {s with heap:=j})
 (O:∀j:Heap,(∀b o,b≠a->s.heap.get? b=some o->j.get? b=some o)->SBig.Cmp prog w A (λs'=>s'={s with heap:=j}) kd (λx=>x.1∈vs) (λx=>Nv x.1))
 (h:∀out:ZF,out.Perm vs->out.Pairwise (λx y=>Nv x<=Nv y)->P (.done (.ret .none)) {s with heap:=sortedHeap s.heap a vs out.toArray}):
 ↥A (Builtin.«list.sort» %[[.ref a]|[]]) P E s:=by
 rw[list_sort_plain];have L:a<⇑s:=Zv C;have g:vs.length<=sizeLine:=Yi H (by decide);refine Z2 (listItems_at C rfl ?_);refine Z2 (listUpdate_at C rfl ?_ (g));obtain⟨I,u⟩:∃I,(s.heap.update a (Obj.mapSeq λ_=> #[])).get? a=some (seqObj "list" #[] I):=%[_|get?_update_seq C (λ_=> #[])]
 refine Z2 (seqEpoch_at u rfl ?_);refine Z2 (wpAny_newTuple ?_ (g));refine Z2 (wpAny_newList ?_);refine wpAny_holding ?_;have keep:∀b o,b≠a->s.heap.get? b=some o->(((s.heap.update a (Obj.mapSeq λ_=> #[])).push (seqObj "tuple" vs.toArray 0)).push (seqObj "list" #[] 0)).get? b=some o:=λb o T e=>
  Z7 _ (Z7 _ ((get?_update_other _ _ (Ne.symm T)).trans e))
 have d:(((s.heap.update a (Obj.mapSeq λ_=> #[])).push (seqObj "tuple" vs.toArray 0)).push (seqObj "list" #[] 0)).get? a=some (seqObj "list" #[] I):=by
  rw[Heap.get?_push_ne _ _ _ (by rw[size_push',Heap.size_update];exact Zt (Yp L)),Heap.get?_push_ne _ _ _ (by rw[Heap.size_update];exact Zt L)];exact u
 have f:=f _ keep;show ↥A _ P E {s with heap:=((s.heap.update a (Obj.mapSeq λ_=> #[])).push (seqObj "tuple" vs.toArray 0)).push (seqObj "list" #[] 0)};dsimp only;have J:vs.toArray.size=vs.length:=by simp
 have z:(vs.toArray.zip vs.toArray).toList=vs.map λv=>(v,v):=by
  rw[Array.toList_zip,List.toList_toArray];apply Y0
  .simp
  .intro i h1 l;simp
 have B:∀c:SortSt,(arrOf c).toList.Perm (vs.map λv=>(v,v))->SBig.Srt (λx=>Nv x.1) (arrOf c).toList->P (.done (.ret .none)) {s with heap:=(sortedHeap s.heap a vs ((arrOf c).map (·.2)))}:=by
  intro c m G;have M:∀x∈(arrOf c).toList,x.1=x.2:=λx p=>by
   have%[v,_|rfl]:=Xs (m.mem_iff.mp p);rfl
  have e:(arrOf c).map (·.2)=((arrOf c).toList.map (·.2)).toArray:=by
   apply Array.ext';simp
  rw[e];refine h _ ?_ ?_
  .have:=m.map (·.2);rwa[Yt,show((λx:Keyed=>x.2) ∘ λv:Value=>(v,v))=id from rfl,map_id]at this
  .rw[Xb];exact Xj (λ{x y} p U q=>by rw[<-M x p,<-M y U];exact q) G
 by_cases l:vs.toArray.size<2
 .rw[if_pos l,if_pos l];refine Z2 (Z3 ?_);rw[StateT.run_pure];refine Z2 (Z3 ?_);dsimp only;refine Z2 (seqEpoch_at d rfl (Z2 (listUpdate_at d rfl ?_ (hsz2:=by rw[size_map];show(pairsOf vs).size<=_;rw[pairsOf_size,sizeLine_eq];omega))));simp only[bne_self_eq_false,Y1,if_false];refine Z3 (B _ (by rw[z]) ?_);rw[z]
  match vs,J,l with
  |[],_,_=>exact List.Pairwise.nil
  |[v],_,_=>exact List.pairwise_singleton _ _
  | v1::v2::r,h3,Y=>simp at Y;omega
 .rw[if_neg l,if_neg l];refine Z2 (f (by omega) _ ?_);refine Z2 (wpAny_mono (SBig.sc_sortRuns (D:=λx=>x.1∈vs) (st:=SortSt.mk' kd (vs.toArray.zip vs.toArray) #[] 7 none) (O _ keep) (λx p=>?_) ?_ rfl rfl
   (Q:=λ_ c=>(arrOf c).toList.Perm (vs.map λv=>(v,v))/\failedOf c=none/\SBig.Srt (λx=>Nv x.1) (arrOf c).toList) (λc a1 a2 a3=>%[?_,a3|a2]) _ rfl) ?_ λ_ _ e=>e.elim)
  .rw[z]at p;have%[v,hv|rfl]:=Xs p;exact hv
  .rw[<-Zb,z,Z6];omega
  .rwa[z]at a1
  .rintro⟨⟨⟩,c⟩ s' ⟨rfl,m,N,G⟩;dsimp only at m N G ⊢;refine Z2 (seqEpoch_at d rfl (Z2 (listUpdate_at d rfl ?_ (hsz2:=?_))))
   .rw[N];simp only[bne_self_eq_false,Y1,if_false];exact Z3 (B c m G)
   .rw[size_map,<-Zb,m.length_eq,Z6];exact Nat.le_succ_of_le g
end
noncomputable def aK(x y:Str):Bool:=decide (x.cps.toList<y.cps.toList)
noncomputable def c9:ZB->ZB->Bool
 |[],[]=>false
 |[],_::_=>true
 | _::_,[]=>false
 | x::xs,y::ys=>if x=y then c9 xs ys else aK x y
theorem cF(x:Str):aK x x=false:=Zh (List.lt_irrefl _)
theorem Fx{x y:Str}(h:x.cps.toList=y.cps.toList):x=y:=by
 obtain⟨⟨l⟩⟩:=x
 simp_all
theorem dD{x y z:Str}(a:aK x y=true)(b:aK y z=true):aK x z=true:=Zf (List.lt_trans (Zo a) (Zo b))
theorem dE{x y:Str}(h:aK x y=false)(a:x≠y):aK y x=true:=by
 exact Zf (Classical.byContradiction λb=>a (Fx (List.le_antisymm b (of_decide_eq_false h))))
theorem wV:∀x,c9 x x=false
 |[]=>rfl
 | x::xs=>by rw[c9,if_pos rfl];exact wV xs
theorem iP:∀{x y z:ZB},c9 x y=true->c9 y z=true->c9 x z=true
 |[],[],z,b,a=>by cases b
 |[],y::ys,[],b,a=>by cases a
 |[],y::ys,z::zs,b,a=>rfl
 | x::xs,[],z,b,a=>by cases b
 | x::xs,y::ys,[],b,a=>by cases a
 | x::xs,y::ys,z::zs,b,a=>by
   rw[c9]at b a ⊢;by_cases d:x=y
   .rw[if_pos d]at b;subst d;by_cases c:x=z
    .rw[if_pos c]at a ⊢;exact iP b a
    .rw[if_neg c]at a ⊢;exact a
   .rw[if_neg d]at b;by_cases c:y=z
    .rw[if_pos c]at a;subst c;rw[if_neg d];exact b
    .rw[if_neg c]at a;have f:=dD b a;rw[if_neg (λe=>by rw[e,cF]at f;cases f)];exact f
theorem kJ:∀{x y:ZB},c9 x y=false->x≠y->c9 y x=true
 |[],[],a,c=>absurd rfl c
 |[],y::ys,a,c=>by cases a
 | x::xs,[],a,c=>rfl
 | x::xs,y::ys,a,c=>by
   rw[c9]at a ⊢;by_cases b:x=y
   .rw[if_pos b]at a;rw[if_pos b.symm];exact kJ a λe=>c (by rw[b,e])
   .rw[if_neg b]at a;rw[if_neg (Ne.symm b)];exact dE a b
noncomputable def fM(ks:List ZB)(k:ZB):Nat:=ks.countP λu=>c9 u k
theorem jP{ks:List ZB}{x y:ZB}(b:x∈ks):c9 x y=decide (fM ks x<fM ks y):=by
 have up:∀(l:List ZB) p q,(∀u∈l,p u=true->q u=true)->l.countP p<=l.countP q:=λl p q h=>List.countP_mono_left h
 cases h:c9 x y with
 | true=>
   symm
   refine Zf ?_;have c:∀l:List _,x∈l->l.countP (λu=>c9 u x)<l.countP (λu=>c9 u y):=by
    intro l
    induction l with
    | nil=>simp
    | cons u l d=>
      intro b;rw[countP_cons,countP_cons];have le:=up l (λu=>c9 u x) _ λu _ a=>iP a h
      rcases mem_cons.mp b with e|e
      .subst e;rw[if_neg (by rw[wV];simp),if_pos h];omega
      .have:=d e;by_cases a:c9 u x=true
       .rw[if_pos a,if_pos (iP a h)];omega
       .rw[if_neg a]
        split<;> omega
   exact c ks b
 | false=>
   symm
   refine Zh (Nat.not_lt.mpr (up ks _ _ λu _ a=>?_));by_cases e:x=y
   .exact e▸a
   .exact iP a (kJ h e)
section
variable{prog:Program}{w:World}{A:Around}{s:Shared}{E:ZD}
abbrev yo(prog:Program)(w:World)(h:Heap)(zs:ZB)(r:Addr):Prop:=IsTupleKey (aE prog w) h (zs.map Sum.inr) r
theorem fN:∀{zs:ZB} {vs:ZF},ItemsAre (aE prog w) (zs.map Sum.inr) vs->StrsAre vs zs
 |[],_,h=>by cases h;exact .nil
 | z::zs,_,h=>by
   cases h with
   | cons a d=>
     have a:jw (Sum.inr z) _=true:=a;rcases bj a with⟨i,t,b,c⟩|⟨y,t,b,c⟩
     .cases b
     .cases b;subst c;exact .cons z t (fN d)
theorem DE{b a:Bool}{Q:Bool->Shared->Prop}:∀(x y:ZB) (vs us:ZF) (i:Nat),StrsAre vs x->StrsAre us y->(x.length=y.length)->a=false->Q (c9 x y) s->PySem.W.KatLex prog w A b a Q (vs.zip us) i s
 |[],[],_,_,i,.nil,.nil,_,c,h=>c▸h
 | x::xs,y::ys,_,_,i,.cons _ t d,.cons _ u f,g,c,h=>by
   rw[List.zip_cons_cons];refine PySem.W.kat_cons (eqBool_str ?_);rw[c9]at h;by_cases e:x=y
   .subst e;rw[if_pos rfl]at h;rw[beq_self_eq_true];exact PySem.W.kat_yes (DE xs ys _ _ _ d f (by simpa using g) c h)
   .rw[if_neg e]at h;rw[beq_eq_false_iff_ne.mpr e];refine PySem.W.kat_no ?_;cases j:(b&&i==0)with
    | true=>exact oneLt_str h
    | false=>exact PySem.W.kat_one _ _ (lt_str h)
theorem CW{x y:ZB}{r q:Addr}{Q:Bool->Shared->Prop}{b:Bool}(d:yo prog w s.heap x r)(e:yo prog w s.heap y q)(f:x.length=y.length)(h:Q (c9 x y) s):↥A (keyLt' (tuples' b) (.ref r) (.ref q)) Q E s:=by
 have%[ox,xs,nx,g,_,i|j]:=d;have%[o,ys,p,l,_,m|n]:=e;have a:=fN j;have c:=fN n;refine PySem.W.kat_lt g i l m (DE x y _ _ 0 a c f ?_ h);have u:=bB a;have v:=bB c
 grind
end
theorem tV [DecidableEq d][DecidableEq i](g:d->i)(j:∀a b,g a=g b->a=b)(l:List (Addr×d)):bd (l.map λp=>(p.1,g p.2))=(bd l).map λp=>(p.1,g p.2):=by
 have m:∀(l ps:List _),(l.map λp=>(p.1,g p.2)).foldl gi (ps.map λp=>(p.1,g p.2))=(l.foldl gi ps).map λp=>(p.1,g p.2):=by
  intro l
  induction l with
  | nil=>intro ps;rfl
  | cons p l n=>
    intro ps;rw[Ys,Y9,Y9];have e:gi (ps.map λp=>(p.1,g p.2)) (p.1,g p.2)=(gi ps p).map λp=>(p.1,g p.2):=by
     unfold gi;have f:(g p.2∈(ps.map λp=>(p.1,g p.2)).map (·.2))↔p.2∈ps.map (·.2):=by
      rw[Yt]
      constructor
      .intro h;have%[q,c|e]:=Xs h;exact Xt %[q,c|j _ _ e]
      .intro h;have%[q,c|e]:=Xs h;exact Xt %[q,c|by show g q.2=g p.2;rw[e]]
     by_cases h:p.2∈ps.map (·.2)
     .rw[if_pos h,if_pos (f.mpr h)]
     .rw[if_neg h,if_neg (λz=>h (f.mp z)),Zd];rfl
    rw[e];exact n _
 exact m l []
noncomputable abbrev GO(p:Addr×ZB):Addr×List Key:=(p.1,p.2.map Sum.inr)
theorem mE:∀a b:ZB,a.map (Sum.inr:Str->Key)=b.map Sum.inr->a=b
 |[],[],_=>rfl
 |[],_::_,h=>by cases h
 | _::_,[],h=>by cases h
 | x::xs,y::ys,h=>by
   injection h with c d
   injection c with e
   rw[e,mE xs ys d]
section
#where
variable{S:Addr}
theorem nK:∀{vs:ZF} {zs:ZB},StrsAre vs zs->ItemsAre (aE prog w) (zs.map Sum.inr) vs
 | _,_,.nil=> .nil
 | _,_,.cons x t h=> .cons (du x t) (nK h)
theorem CY(c:zs≠[])(b:yo prog w s.heap zs r)(h:Q false s):↥A (hashByValue 8 (.ref r)) Q E s:=by
 have d:=b.typeIs;have%[o,a,n,e,_,f|hi]:=b;refine Z2 (wpAny_specialOf d F.slot_tuple_hash.lookup (Z2 (wpAny_seqItems e f (Z2 ?_))));rw[<-forIn_toList]
 match zs,a.toList,(fN hi),c with
 | z::zs,_,.cons _ t g,_=>
   exact Z2 (Z2 (Z3 (Z3 (Z3 (Z3 h)))))
noncomputable def kOf(ps:ZG):Value->ZB
 | .ref r=>((ps.find? λp=>p.1==r).map (·.2)).getD []
 | _=>[]
noncomputable def aOf:Value->Addr
 | .ref r=>r
 | _=>0
theorem jn(I:∀(E1:ZD) (R:ZF->Shared->Prop),(∀c vs,vs.Perm (ps.map λp=>Value.ref p.1)->(∀b o,s.heap.get? b=some o->c.heap.get? b=some o)->c.gens=s.gens->c.os=s.os->R vs c)->↥A.in1 (collect (.ref S)) R E1 s)(tk:∀p∈ps,yo prog w s.heap p.2 p.1)(O:∀p∈ps,p.2.length=m)(m0:m≠0)(an:ps.length<=1000)
 (hQ:∀(c s':Shared) (l:Addr) (ss:ZG) (n:Nat),ss.Perm ps->ss.Pairwise (λa b=>c9 b.2 a.2=false)->(∀b o,s.heap.get? b=some o->c.heap.get? b=some o)->c.gens=s.gens->c.os=s.os->(∀b o,c.heap.get? b=some o->s'.heap.get? b=some o)->s'.gens=c.gens->s'.os=c.os->⇑c<=l->s'.heap.get? l=some {cls:= .type "list",data:= .seq (ss.map λp=>Value.ref p.1).toArray n}->Q (.ref l) s'):
 ↥A (call (.builtin "sorted") [.ref S]) Q E s:=by
 have key:∀p∈ps,kOf ps (.ref p.1)=p.2:=λp d=>by
  show((ps.find? λq=>q.1==p.1).map (·.2)).getD []=p.2;cases j:ps.find? λq=>q.1==p.1 with
  | none=>
    have:=List.find?_eq_none.mp j p d;simp at this
  | some q=>
    have r:=List.mem_of_find?_eq_some j;have e:q.1=p.1:=by have:=List.find?_some j;simpa using this
    show q.2=p.2;have t1:=tk q r;rw[e]at t1;exact mE _ _ (t1.inj (tk p d))
 refine Calls.call_function_entry kind_sorted plain_sorted entry_sorted (args_sorted1 _) ?_;unfold Builtin.«sorted»;refine Z2 (m:=checkCount "sorted" 1 1 _) (Z3 ?_);refine Z2 (I _ _ λc vs U k1 g1 o1=>?_);have hl:vs.length=ps.length:=by rw[U.length_eq,Z6]
 have mem:∀v∈vs,∃p∈ps,v=Value.ref p.1:=λv B=>by
  have%[p,d|rfl]:=Xs (U.mem_iff.mp B);exact%[p,d|rfl]
 refine Z2 (wpAny_newList ?_ (by rw[sizeLine_eq];lia));have Y:(c.heap.push (seqObj "list" vs.toArray 0)).get? ⇑c=some (seqObj "list" vs.toArray 0):=Zj _ rfl;have C:∀p∈ps,∀i:Heap,(∀b o,b≠⇑c->(c.heap.push (seqObj "list" vs.toArray 0)).get? b=some o->i.get? b=some o)->yo prog w i p.2 p.1:=λp d i H=>by
  refine mD (tk p d) λo e=>?_
  have J:=k1 _ _ e;exact H _ _ (Zt (Zv J)) (Z7 _ J)
 refine Z2 (wpAny_holding (wpAny_call_entry slot_list_sort %[_,Y|rfl] entry_list_sort (i5 (s:={c with heap:=c.heap.push (seqObj "list" vs.toArray 0)}) (kd:=tuples' true) (Nv:=λv=>fM (ps.map (·.2)) (kOf ps v)) Y ⋯ (λi H aq Q6 ab=>?_) (λi H=>?_) λout p1 p2=>%[_,rfl|?_]) (args_list_sort _)))
 .have tups:∀l:ZF,(∀v∈l,∃p∈ps,v=Value.ref p.1)->∃fs:ZF,KatTups i l fs/\fs.length=l.length/\∀f∈fs,∃z t,f=Value.str z t:=by
   intro l
   induction l with
   | nil=>intro _;exact%[[],KatTups.nil,rfl|λf j=>by cases j]
   | cons v l ih=>
     intro B;have%[fs,f1,f2|f3]:=ih λu hu=>B u (Zk _ hu)
     have%[p,d|rfl]:=B v Zm;have%[o',g,n',g',c',d'|i']:=C p d i H;have h:=fN i';have ac:p.2≠[]:=λe=>by have:=O p d;rw[e]at this;exact m0 this.symm
     obtain⟨z,zs,ez⟩:∃z zs,p.2=z::zs:=by
      cases ag:p.2 with
      | nil=>exact absurd ag ac
      | cons z zs=>exact%[z,zs|rfl]
     rw[ez]at h;obtain⟨t',vr,ev⟩:∃t' vr,g.toList=Value.str z t'::vr:=by
      cases L:g.toList with
      | nil=>rw[L]at h;cases h
      | cons a b=>
        rw[L]at h;cases h with
        | cons _ t' _=>exact%[t',b|rfl]
     have e0:g[0]? =some (Value.str z t'):=by
      have:g.toList[0]? =some (Value.str z t'):=by rw[ev];rfl
      simpa using this
     exact⟨Value.str z t'::fs,KatTups.cons g' c' d' e0 f1,by simp[f2],λf j=>by
      rcases mem_cons.mp j with e|e
      .exact%[z,t'|e]
      .exact f3 f e⟩
  have%[fs,f1,f2|f3]:=tups vs mem;refine PySem.W.kat_kind (T:= .type "str") f1 ⋯ (λf j=>?_) (by decide) ab;have%[z,t'|rfl]:=f3 f j;exact Looks.of_pure rfl
 .intro x y s' hx hy h;subst h;have%[p,d|ai]:=mem _ hx;have%[q,r|al]:=mem _ hy;have%[x1|x2]:=x;have%[y1|y2]:=y;obtain rfl:x1=Value.ref p.1:=ai;obtain rfl:y1=Value.ref q.1:=al;show ↥A.in1.in1 (keyLt' (tuples' true) (Value.ref p.1) (Value.ref q.1)) (λb s'=>b=decide (fM (ps.map (·.2)) (kOf ps (Value.ref p.1))<fM (ps.map (·.2)) (kOf ps (Value.ref q.1)))/\s'={c with heap:=i}) (λ_ _=>False) {c with heap:=i};rw[key p d,key q r];refine CW (s:={c with heap:=i}) (C p d i H) (C q r i H) (by rw[O p d,O q r]) %[?_|rfl];exact jP (Xt %[p,d|rfl])
 .have N:out.Perm (ps.map λp=>Value.ref p.1):=p1.trans U;have oe:out=(out.map λv=>(aOf v,kOf ps v)).map λp=>Value.ref p.1:=by
   rw[Yt];refine(map_id out).symm.trans (Yr λv B=>?_);have%[p,d|rfl]:=Xs (N.mem_iff.mp B);rfl
  obtain⟨n,gl⟩:∃n,(sortedHeap (c.heap.push (seqObj "list" vs.toArray 0)) ⇑c vs out.toArray).get? ⇑c=some (seqObj "list" out.toArray n):=sortedHeap_at Y;refine Z3 %[_,rfl|hQ c _ ⇑c (out.map λv=>(aOf v,kOf ps v)) n ?_ ?_ k1 g1 o1 (λb o' J=>?_) rfl rfl (Zi _) ?_]
  .have:=N.map λv=>(aOf v,kOf ps v)
   rw[Yt]at this;refine this.trans ?_;have:(ps.map ((λv=>(aOf v,kOf ps v)) ∘ λp=>Value.ref p.1))=ps:=by
    refine(Yr λp d=>?_).trans (map_id ps);show(p.1,kOf ps (.ref p.1))=p;rw[key p d]
   rw[this]
  .rw[Xb];refine Xj (λ{u v} hu B G=>?_) p2;have%[p,d|rfl]:=Xs (N.mem_iff.mp hu);have%[q,r|rfl]:=Xs (N.mem_iff.mp B);show c9 (kOf ps (.ref q.1)) (kOf ps (.ref p.1))=false;have G:fM (ps.map (·.2)) (kOf ps (.ref p.1))<=fM (ps.map (·.2)) (kOf ps (.ref q.1)):=G;rw[key p d,key q r]at G ⊢;rw[jP (ks:=ps.map (·.2)) (Xt %[q,r|rfl])];exact Zh ⋯
  .have M:=Zv J;show(sortedHeap _ _ _ _).get? b=_;rw[sortedHeap_old (Zt M) (by rw[Zq];exact Yp M)];exact Z7 _ J
  .have e3:(seqObj "list" out.toArray n)=({cls:= .type "list",data:= .seq ((out.map λv=>(aOf v,kOf ps v)).map λp=>Value.ref p.1).toArray n}:Obj):=by
    rw[(congrArg List.toArray oe.symm)]
   exact gl.trans (congrArg some e3)
end
section
variable{X:Cx}{K:ZA}
noncomputable def nM(P:Program)(w:World)(a:Addr)(ps:ZG):HO:= .ext (nJ w (aE P w) a (ps.map GO))
def aG(H:Hp)(ps:ZG):Prop:=∀p∈ps,p.2≠[]/\H p.1=some (.tup (p.2.map V.str))
theorem mF(I:Inv X pins f H s)(h:aG H ps):∀p∈ps,yo X.prog X.w s.heap p.2 p.1:=λp a=>by
 have%[_,its,b,o,c,d,n|e]:=I.hok p.1 _ (h p a).2;exact%[o,its.toArray,n,c,d,e|nK (fY b)]
theorem rQ:∀{ps:ZG} {us:ZF},aD (ps.map λp=>V.ref p.1) us->us=ps.map λp=>Value.ref p.1
 |[],_,.nil=>rfl
 | _::_,_,.cons r t=>by
   cases r;rw[rQ t];rfl
theorem mG:∀(ps:ZG),aD (ps.map λp=>V.ref p.1) (ps.map λp=>Value.ref p.1)
 |[]=> .nil
 | _::ps=> .cons rfl (mG ps)
theorem yp(j:X.calm=true)(E:X.A.units+64<cLine):bR X (.type "set") (λxs H Q=>∃p ps,xs=[.ref p]/\SqL X.K H p (ps.map λq=>V.ref q.1)/\aG H ps/\(∃U:List _,U.length<=999/\∀q∈ps,q.2∈U)/\∀l,H l=none->Q (.ref l) (upd H l (nM X.prog X.w l (bd ps)))):=by
 intro pins s G H xs us Q I r h;have%[p,ps,rfl,m,g,%[U,J|d]|q]:=h;have%[u,rfl|n]:=cP r;cases n;have%[its,v,pl|L]:=I.list m;have w:=rQ v;refine pq (knd:=aE X.prog X.w) (I.ok.hd j) ⋯ pl.isList (ps:=ps.map GO) (by simp_all) (λi a=>?_) (U.map λz=>z.map Sum.inr) (by simp_all) (λi a=>?_) (λi a B s' M N e f=>?_) λh' y S k=>?_
 .have%[b,c|rfl]:=Xs a;exact(mF I g) b c
 .have%[b,c|rfl]:=Xs a;exact Xt %[b.2,d b c|rfl]
 .have%[b,c|rfl]:=Xs a;exact CY (g b c).1 e f
 .rw[(tV _ mE ps)]at S;refine%[.ref ⇑s,_,I.laid (o:=nM X.prog X.w ⇑s _) k (Zi _) %[S,?_|λO T A k1=>nJ.keep A k1],rfl|q _ I.fresh];have%[o,_,_,_,C|_]:=S;exact%[o|C]
theorem rR(w:X.calm=true):bR X (.builtin "sorted") (λxs H Q=>∃a ps m,xs=[.ref a]/\H a=some (nM X.prog X.w a ps)/\aG H ps/\(∀p∈ps,p.2.length=m)/\m≠0/\ps.length<=1000/\
 ∀l (ss:List _),H l=none->ss.Perm ps->ss.Pairwise (λa b=>c9 b.2 a.2=false)->Q (.ref l) (upd H l (.lst (ss.map λp=>V.ref p.1)))):=by
 intro pins s T H xs us Q I r h;have%[a,ps,m,rfl,y,z,A,B,d|q]:=h;have%[u,rfl|C]:=cP r;cases C;have%[%[o,e,U,t,E,f,G,J|P],_|_]:=(I.hok a _ y)
 have Y:e.size=ps.length:=by
  have:=P.length_eq
  simp_all
 have pv:(e.toList.map (·.2)).Perm (ps.map λp=>Value.ref p.1):=by
  have:=P.map (·.2);rw[Yt,Yt]at this;exact this
 refine jn (λE1 R L=>jG (I.ok.hd w) E f G (by show e.size<4096;lia) J.fits J.plain J.led λj vs M k1 g1 i _=>L j vs (M.trans pv) k1 g1 i) (mF I z) A B d λj s' l ss n v N k1 g1 i k g o c O=>?_
 have I:=I.keptS k1 g1 i;refine%[.ref l,_,I.stoodS (o:= .lst _) (I.keptS k g o) c %[?_,ss.map _,n,mG ss|O],rfl|q l ss (I.hok.fresh c) v N];rw[Z6,v.length_eq,sizeLine_eq]
 lia
theorem A0{P:Program}(h:X.K=K)(c:X.prog=P)(hw:X.w=w)(a:X.calm=true)(b:bQ k X.A):cj X (.type "set") (λxs H Q=>∃p ps,xs=[.ref p]/\SqL K H p (ps.map λq=>V.ref q.1)/\aG H ps/\(∃U:List ZB,U.length<=999/\∀q∈ps,q.2∈U)/\∀l,H l=none->Q (.ref l) (upd H l (nM P w l (bd ps)))):=by
 subst h;subst hw;exact⟨yp a b.units⟩
theorem qk{P:Program}(d:X.prog=P)(hw:X.w=w)(c:X.calm=true):cj X (.builtin "sorted") (λxs H Q=>∃a ps m,xs=[.ref a]/\H a=some (nM P w a ps)/\aG H ps/\(∀p∈ps,p.2.length=m)/\m≠0/\ps.length<=1000/\
 ∀(l:Addr) (ss:ZG),H l=none->ss.Perm ps->ss.Pairwise (λa b=>c9 b.2 a.2=false)->Q (.ref l) (upd H l (.lst (ss.map λp=>V.ref p.1)))):=by
 subst hw;exact⟨rR c⟩
end
noncomputable def yq(K:ZA)(a b:Addr):It:=⟨λi H=>∃xs ys x y,SqL K H a xs/\SqL K H b ys/\xs[i]? =some x/\ys[i]? =some y,
 λi H v c=>∃T x y,H T=none/\v= .ref T/\c=upd H T (.tup [x,y])/\(∀xs,SqL K H a xs->xs[i]? =some x)/\(∀ys,SqL K H b ys->ys[i]? =some y),
 λi H=>∃xs ys,SqL K H a xs/\SqL K H b ys/\i<=xs.length/\i<=ys.length/\(i=xs.length\/i=ys.length)⟩
theorem yt{P:Program}{K:ZA}(z TI TO i1 i2 l1 l2:Addr)(D:ZipApart z TI TO i1 i2 l1 l2):
 qR P w K (.Tuple elts kt tp) (yq K l1 l2) [z,TI,TO,i1,i2] z (ZSt z TI TO i1 i2 (λi h=>h.IsListIter i1 l1 i) (λi h=>h.IsListIter i2 l2 i)) where
 mem:=by simp
 obj:=λi h st b hb=>by
  have%[hz,hTI,%[a,c|hTO],%[o1,e1,_|d1],o2,e2,_|d2]:=st
  grind
 keep:=λi h h' st k=>by
  have%[hz,hTI,%[a,c|hTO],%[o1,e1|r1],o2,e2|r2]:=st;exact%[k z ∅ _ hz,k TI ∅ _ hTI,%[a,c|k TO ∅ _ hTO],%[o1,k i1 ∅ _ e1|r1],o2,k i2 ∅ _ e2|r2]
 item:=by
  intro X hP hw hK hc i pins s σ H E I hf st hg;subst hP hw hK;have%[hz,hTI,%[a,c|hTO],h1|h2]:=st;have%[xs,ys,x,y,hq1,hq2,hx|hy]:=hg;have%[its1,rv1,pl1|hz1]:=I.list hq1;have%[its2,rv2,pl2|hz2]:=I.list hq2;have%[u1,hu1|ru1]:=rv1.get hx;have%[u2,hu2|ru2]:=rv2.get hy;refine wpAny_pyNext_zip_item D hz hTI hTO h1 h2 pl1.isList pl2.isList (x:=u1) (y:=u2) (by simpa using hu1) (by simpa using hu2) λh' a1 a2 a3 a4 a5 a6 hk=>%[_,rfl|wpAny_letOwnedTupleGo_zip (s:={s with heap:=h'}) a1 λh'' hz'' sb=>?_]
  replace sb:SameBut z h' h'':=sb;have turn1:Inv X pins σ H {s with heap:=h''}:=by
   have nit:∀b v,H b=some v->b∉[z,TI,TO,i1,i2]:=λb v e hb=>by rw[(hf b hb).1]at e;cases e
   have kk:∀b o,b∉[z,TI,TO,i1,i2]->s.heap.get? b=some o->h''.get? b=some o:=λb o hb e=>by
    simp only[Yx,X9,or_false,not_or]at hb;exact(sb.2 b hb.1).trans (hk b o hb.1 hb.2.2.1 hb.2.2.2.1 hb.2.2.2.2 e)
   refine I.step (g':=s.gens) (d':=s.drawn) (ch:=[z,TI,TO,i1,i2]) (λb hb=>%[(hf b hb).2.2.2.1,(hf b hb).2.1,(hf b hb).2.2.2.2.1|(hf b hb).2.2.2.2.2]) (λb o _ _ hc e _=>kk b o hc e) (λb o _ _ hc e _=>%[o.slots|kk b o hc e]) (λ_ _ _ _ n=>n)
    (λb o hc e=>%[o|kk b o hc e]) (λ_ _ e=>e) (λ_ _ _ e=>e) (λb ps e=>%[#[]|by rw[e];simp]) (λm hm=>?_) (λb v e=>?_) I.bare
   .have%[o,es,ep,ho|r]:=hm;exact%[o,es,ep,kk _ o (λhb=>(hf _ hb).2.1 rfl) ho|r]
   .refine(I.hok b v e).stay (λc' v' hc' q=>kk c' v' ?_ q) (λ_ q=>q) λ_ _ q=>q
    rcases hc' with q'|q'
    .exact q'▸nit b v e
    .exact nit c' _ q'
  have Hn:H ⇑s=none:=I.fresh;have I2:Inv X pins σ (upd H ⇑s (.tup [x,y])) {s with heap:=h''}:=by
   have nf:⇑s∉X.fs:=I.nofs (Zi _);refine%[turn1.ok,turn1.os,turn1.bare,?_,turn1.loc,turn1.cell,?_,?_,?_,?_|turn1.len]
   .refine%[turn1.base.keep,turn1.base.slot,λb o e n hx=>?_,turn1.base.there,λb xs e=>?_,λb o v e=>?_|λb ps e=>?_]
    .rw[ak ((λb o e=>Zt (Zg (Zv e) I.sz)) b o e)];exact turn1.base.free b o e n hx
    .rw[ak (av (turn1.base.tups b xs e) Hn)];exact turn1.base.tups b xs e
    .rw[ak (av (turn1.base.frzs b o v e) Hn)];exact turn1.base.frzs b o v e
    .have%[m|q]:=turn1.base.tbls b ps e;exact%[m|(ak (av q Hn))▸q]
   .rw[ak (Zt I.lt)];exact turn1.free
   .intro x' c' e;have%[v'|q]:=I.cell x' c' e;rw[ak (Zt q.lt)];exact turn1.freeC x' c' e
   .intro p hp;have%[e,n|r]:=turn1.pin p hp;refine%[e,?_|r];rw[ak (Zt (Zv (I.pin p hp).1))];exact n
   .intro b v e;by_cases hb:b=⇑s
    .subst hb;rw[aa]at e;cases e;exact%[by show 2<=sizeLine;decide,[u1,u2],.cons ru1 (.cons ru2 .nil),_,((sb.2 _ (X3 (Zv hz))).trans a5),rfl,_|rfl]
    .rw[ak hb]at e;refine(turn1.hok b v e).stay (λ_ _ _ q=>q) (λc' q=>?_) λc' xs q=>?_
     .rw[ak (av q Hn)];exact q
     .rw[ak (av q Hn)];exact q
  refine%[.ref ⇑s,_,I2,rfl,%[_,x,y,Hn,rfl,rfl,λzs hzs=>(I.list_inj hzs hq1)▸hx|λzs hzs=>(I.list_inj hzs hq2)▸hy],%[hz'',(sb.2 _ D.TIz).trans (hk _ _ D.TIz D.TITO D.TIi1 D.TIi2 hTI),%[_,_|(sb.2 _ D.TOz).trans a2],?_|?_]|λb hb=>?_]
  .have%[o,e|r]:=a3;exact%[o,(sb.2 _ D.i1z).trans e|r]
  .have%[o,e|r]:=a4;exact%[o,(sb.2 _ D.i2z).trans e|r]
  .have:b<⇑s:=by
    simp only[Yx,X9,or_false]at hb;have%[o1,q1|_]:=h1;have%[o2,q2|_]:=h2;rcases hb with rfl|rfl|rfl|rfl|rfl
    .exact Zv hz
    .exact Zv hTI
    .exact Zv hTO
    .exact Zv q1
    .exact Zv q2
   rw[ak (Zt this)];exact(hf b hb).1
 done:=by
  intro X hP hw hK hc i pins s σ H E I hf st hg;subst hP hw hK;have%[hz,hTI,%[a,c|hTO],h1|h2]:=st;have%[xs,ys,hq1,hq2,g1,g2|g3]:=hg;have%[its1,rv1,pl1|hz1]:=I.list hq1;have%[its2,rv2,pl2|hz2]:=I.list hq2;have n1:=rv1.length;have n2:=rv2.length;refine wpAny_pyNext_zip_end (I.ok.hd hc) D hz hTI hTO h1 h2 pl1.isList pl2.isList (by
   rcases g3 with q|q
   .exact .inl (by simp;lia)
   .exact .inr (by simp;lia)) λh' hk=>%[rfl|?_]
  have nit:∀b v,H b=some v->b∉[z,TI,TO,i1,i2]:=λb v e hb=>by rw[(hf b hb).1]at e;cases e
  have kk:∀b o,b∉[z,TI,TO,i1,i2]->s.heap.get? b=some o->h'.get? b=some o:=λb o hb e=>by
   simp only[Yx,X9,or_false,not_or]at hb;exact hk b o hb.1 hb.2.2.1 hb.2.2.2.1 hb.2.2.2.2 e
  refine I.step (λb hb=>%[(hf b hb).2.2.2.1,(hf b hb).2.1,(hf b hb).2.2.2.2.1|(hf b hb).2.2.2.2.2]) (λb o _ _ hc e _=>kk b o hc e) (λb o _ _ hc e _=>%[o.slots|kk b o hc e]) (λ_ _ _ _ n=>n)
   (λb o hc e=>%[o|kk b o hc e]) (λ_ _ e=>e) (λ_ _ _ e=>e) (λb ps e=>%[#[]|by rw[e];simp]) (λm hm=>?_) (λb v e=>?_) I.bare
  .have%[o',es,ep,ho'|r]:=hm;exact%[o',es,ep,kk _ o' (λhb=>(hf _ hb).2.1 rfl) ho'|r]
  .refine(I.hok b v e).stay (λc' v' hc' q=>kk c' v' ?_ q) (λ_ q=>q) λ_ _ q=>q
   rcases hc' with q'|q'
   .exact q'▸nit b v e
   .exact nit c' _ q'
 self:=λ_ _ _ _ _ st h=>wpAny_pyIter_zip st.1 h
def DF(K:ZA)(d:TA):TI:=λe H R=>d e H λvs c=>∃a b,vs=[.ref a,.ref b]/\(∃xs,SqL K c a xs)/\(∃ys,SqL K c b ys)/\R (yq K a b) c
section
variable{X:Cx}{K:ZA}{pos:Pos}
theorem GP(J:X.K=K){L p:Pos}{a b:Expr}{A:TA}(M:Gl X "zip")(N:X.mg "zip"=none)(O:ba a=false)(m:ba b=false)(Q:QA X [a,b] A):
 QI X (.Tuple B kt L) (.Call (.Name "zip" p) [a,b] [] pos) (DF K A):=by
 subst J
 constructor
 intro pins s T H R I h;refine Call_ (jd I M N boot_zip (PyProof.Rows.callWith_type1 (thP (Q.h pos pins s T H _ I h) λus c vs U d Y q1=>?_) (az O) (by rw[az m];rfl)));have%[n,r,e,%[xs|u],%[ys|v]|q]:=q1;subst e;have%[u1,u2,rfl,e1|e2]:=hW Y;cases e1;cases e2;have%[C,ab,f|ac]:=d.list u;have%[its2,ag,g|ai]:=d.list v;refine call_zip_2 f.isList g.isList λh1 E w y hi1 hi2 _ hk=>wpAny_pyIter_zip E ?_
 have ne:∀i j,i≠j->⇑c+i≠⇑c+j:=λi j h e=>h (Nat.add_left_cancel e)
 have na:∀i,n≠⇑c+i:=λi=>Zt (Zg (by have%[o,z|_]:=f.isList;exact Zv z) (le_add_right _ _))
 have nb:∀i,r≠⇑c+i:=λi=>Zt (Zg (by have%[o,z|_]:=g.isList;exact Zv z) (le_add_right _ _))
 refine%[⇑c+4,[⇑c+4,⇑c+2,⇑c+3,⇑c+0,⇑c+1],_,yq X.K n r,U,rfl,(d.kept hk),
  yt _ _ _ _ _ n r %[ne 2 4 (by decide),ne 3 4 (by decide),ne 0 4 (by decide),ne 1 4 (by decide),ne 2 3 (by decide),ne 2 0 (by decide),ne 2 1 (by decide),ne 3 0 (by decide),ne 3 1 (by decide),ne 0 1 (by decide),na 4,na 3,na 0,na 1,nb 4,nb 3,nb 0|nb 1],
  %[E,w,%[_,_|y],hi1|hi2],λb G=>?_|q]
 have l:⇑c<=b:=by
  simp only[Yx,X9,or_false]at G;rcases G with rfl|rfl|rfl|rfl|rfl<;> exact le_add_right _ _
 exact d.fpOk l (d.hok.fresh l)
end
open PySem PySem.Spec PySem.Calls PyProof.Rows PyProof.V PySem.W
def Raw(h:Heap)(d:Addr)(a:Array DictEntry)(b:Nat):Prop:=∃o,h.get? d=some o/\o.ExactDict/\o.data= .dict a b
section
#where
variable{d it:Addr}{es:Array DictEntry}{ep i:Nat}
theorem Raw.ty(h:Raw s.heap d es ep):s.TypeIs (.ref d) "dict":=%[h.choose,h.choose_spec.1|h.choose_spec.2.1.1]
theorem Raw.lt(r:Raw h d es ep):d<h.objs.size:=Zv r.choose_spec.1
theorem Raw.up(r:Raw h d es ep)(e:∀o,h.get? d=some o->h'.get? d=some o):Raw h' d es ep:=%[r.choose,e _ r.choose_spec.1|r.choose_spec.2]
theorem A1(lo:(d==sysModules)=false)(r:Raw s.heap d es ep)
 (h:Q (.ref ⇑s) {s with heap:=s.heap.push {cls:= .type "dict_keyiterator",data:= .fields #[.ref d,.int 0 0,.int es.size 0,.int ep 0]}}):↥A (pyIter (.ref d)) Q E s:=by
 have ty:=r.ty;have%[o,g,_|a]:=r;refine wpAny_pyIter_slot ty F.slot_dict_iter (wpAny_call_entry F.slot_dict_iter ty F.entry_dict_iter (Z2 (Z2 (wpAny_notOrdered_dict ty (Z3 ?_)))) (F.args_dict_iter_1 _));show wpAny _ _ (Builtin.Dict.showsAll d>>= _) _ _ s;unfold Builtin.Dict.showsAll;rw[if_neg (lo▸Zu)];refine Z2 (Z3 (Z2 (wpAny_dictEntries g a (Z2 (wpAny_dictEpoch g a (Z2 (wpAny_newObj_type (Z3 %[_,rfl,"dict_keyiterator",_,%[_,Zj _ rfl|rfl],F.slot_dict_keyiterator_next.lookup|?_]))))))));simpa [rawInt]using h
theorem A2(k:s.heap.IsKeyIter it d i es.size ep)(r:Raw s.heap d es ep)(hi:i<es.size)
 (h:∀h',h'.IsKeyIter it d (i+1) es.size ep->SameBut it s.heap h'->Q (some es[i].key) {s with heap:=h'}):↥A (pyNext (.ref it)) Q E s:=by
 have%[o,b,f|a]:=id k;have%[od,c,_|e]:=r;unfold pyNext;refine Z2 (wpAny_attempt (wpAny_callSpecial?_slot (name:=Str.ofString "__next__") k.typeIs F.slot_dict_keyiterator_next (wpAny_call_entry F.slot_dict_keyiterator_next k.typeIs F.entry_dict_keyiterator_next ?_ (F.args_dict_keyiterator_next_1 _))));refine Z2 (Z3 (Z2 (Z2 (Z2 (wpAny_typeNameOfWhole_keyiter k.typeIs (Z3 (Z2 (wpAny_fieldsOf b a ?_))))))));rw[show Builtin.Dict_items.ownsTuple "dict_keyiterator"=false by decide];show wpAny _ _ (if(Value.ref d==Value.none)=true then _ else _) _ _ s;rw[if_neg (by exact Zu)];refine Z2 (Z3 (Z2 (wpAny_dictEntries c e ?_)));rw[if_neg ∅];refine Z2 (Z3 (Z2 (wpAny_dictEpoch c e ?_)));rw[if_neg ∅];refine Z3 ?_;simp only[if_false,Int.toNat_natCast,Array.getElem?_eq_getElem hi];refine Z2 (Z2 (wpAny_typeNameOfWhole_keyiter k.typeIs (Z3 (Z2 (wpAny_isOneOf_keyiter k.typeIs ?_)))));show wpAny _ _ (setField (.ref it) 1 (rawInt ((i:Int) +1))>>= _) _ _ s;refine Z2 (wpAny_setField b a ∅ ?_);have k2:(s.heap.update it (Obj.mapFields (·.setIfInBounds 1 (rawInt ((i:Int) +1))))).IsKeyIter it d (i+1) es.size ep:=
  %[_,get?_update_self _ b (Obj.isFreed_of_fields (Obj.data_mapFields a _)),(Obj.cls_mapFields ..).trans f|by rw[Obj.data_mapFields a];simp[rawInt]]
 exact Z2 (wpAny_holding (Z2 (wpAny_isOneOf_keyiter k2.typeIs (Z3 (Z3 %[_,rfl|Z3 (h _ k2 (SameBut.update ..))])))))
theorem CZ(j:A.handled=none)(k:s.heap.IsKeyIter it d i es.size ep)(r:Raw s.heap d es ep)(hi:es.size<=i)
 (h:∀h',ExtBut it s.heap h'->Q none {s with heap:=h'}):↥A (pyNext (.ref it)) Q E s:=by
 have%[o,c,l|e]:=id k;have%[od,f,_|g]:=r;unfold pyNext;refine Z2 (wpAny_attempt (wpAny_callSpecial?_slot (name:=Str.ofString "__next__") k.typeIs F.slot_dict_keyiterator_next (wpAny_call_entry F.slot_dict_keyiterator_next k.typeIs F.entry_dict_keyiterator_next ?_ (F.args_dict_keyiterator_next_1 _))));refine Z2 (Z3 (Z2 (Z2 ?_)));refine Z2 (wpAny_typeNameOfWhole_keyiter k.typeIs (Z3 (Z2 (wpAny_fieldsOf c e ?_))));rw[show Builtin.Dict_items.ownsTuple "dict_keyiterator"=false by decide];show wpAny _ _ (if(Value.ref d==Value.none)=true then _ else _) _ _ s;rw[if_neg (by exact Zu)];refine Z2 (Z3 (Z2 (wpAny_dictEntries f g ?_)));rw[if_neg ∅];refine Z2 (Z3 (Z2 (wpAny_dictEpoch f g ?_)));rw[if_neg ∅];refine Z3 ?_;simp only[show ¬ ((i:Int)<0)from by lia,if_false,Int.toNat_natCast,Array.getElem?_eq_none hi];refine Z2 (Z2 (wpAny_typeNameOfWhole_keyiter k.typeIs (Z3 ?_)));show wpAny _ _ (setField (.ref it) 0 .none>>= _) _ _ s;refine Z2 (wpAny_setField c e ∅ (Z2 ?_));simp only[newExc,newTuple];refine Z2 (m:=firstArgMember _ _) (wpAny_of_eq (a:=Value.none) (by first|rfl|(simp only[firstArgMember];rfl)) (wpAny_newObj_type ?_ (by size_fits)));simp only[raiseNew];refine Z2 (wpAny_handled ?_);rw[show A.in1.handled=none from j];refine Z2 (Z3 (wpAny_throw ?_));refine Z2 (wpAny_isInstance (T:="StopIteration") (b:=true) %[_,Zj _ rfl|rfl] isSubtype_stop ?_);exact Z3 (h _ (((SameBut.update ..).extBut.push _).push _))
theorem C0(lo:(d==sysModules)=false):KdlSrc prog w "dict" d d es.size (λi v=>∃h:i<es.size,v=es[i].key) (λh=>Raw h d es ep) where
 type:=λ_ r=>r.ty
 there:=λ_ r=>%[r.lt|r.lt]
 keep:=λ_ _ r hk=>r.up λo e=>hk d (.inl rfl) o e
 notList:=by decide
 notTuple:=by decide
 hint:=λ_ _ _ _ r hq=>kdl_hint_dict r.ty hq
 iter:=λA s hh r=>%[_,λi h=>h.IsKeyIter ⇑s d i es.size ep/\Raw h d es ep,(λ_ _ hq=>A1 lo r hq),{
  sub:=λb hb=>by simp_all
  frame:=λ_ _ _ st hk=>%[st.1.at λo e=>hk _ ∅ o e|st.2.up λo e=>hk d ∅ o e]
  item:=λi s' Q E hi st hQ=>A2 st.1 st.2 hi λh' k' hs'=>hQ _ h' s'.toks %[hi|rfl] %[k'|st.2.up λo e=>hs'.extBut d o (Zt r.lt) e] λb o hb e=>hs'.extBut b o (λh=>hb (by simp[h])) e
  done:=λs' Q E st hQ=>CZ hh st.1 st.2 (Zi _) λh' he'=>hQ h' s'.toks λb o hb e=>he' b o (λh=>hb (by simp[h])) e
  self:=λ_ _ _ _ st hQ=>wpAny_pyIter_keyiter st.1 hQ},%[_,Zj _ rfl,rfl|rfl]|r.up λo e=>Z7 _ e]
theorem tW{P:Nat->Value->Prop}{R:ZF->Shared->Prop}(K:KdlSrc prog w T r d n P l)(m:A.handled=none)(ok:l s.heap)(p:n<=sizeLine)
 (h:∀(h':Heap) (tk:Nat) (acc:ZJ),(∀b o,s.heap.get? b=some o->h'.get? b=some o)->⇑s<=h'.objs.size->ItemsOf P acc n->R acc.toList {s with heap:=h',toks:=tk}):↥A (collect (.ref r)) R E s:=by
 have lt:=K.there _ ok;refine Z2 (wpAny_runValue (codeAny_builtin entry_proto_collect' (Z2 (wpAny_newObj_type (Z3 %[plainId_quiet F.plain_list_iadd _|codeAny_builtin entry_list_iadd' ?_])))));rw[Around.under_plainId F.plain_list_iadd _];have a:=kdl_extend (s:={s with heap:=s.heap.push _})
  (R:=λq s'=>∃h' tk acc c,q= .ok (.ret (.ref ⇑s))/\s'={s with heap:=h',toks:=tk}/\(∀b o,s.heap.get? b=some o->h'.get? b=some o)/\h'.get? ⇑s=some {cls:= .type _,dict:=none,data:= .seq acc c,slots:= #[]}/\ItemsOf P acc n)
  K m (K.keep _ _ ok λb _ o e=>Z7 _ e) ⇑s (X3 lt.1) (X3 lt.2) _ 0 (Zj _ rfl)
  (λh' tk acc c g g' it=>%[h',tk,acc,c,rfl,rfl,λb o e=>g b o (Zt (Zv e)) (Z7 _ e),g'|it]) p
 refine wpAny_mono a (λj s' x=>?_) λe s' x=>?_
 .cases j with
  | done f=>
    have%[h',tk,acc,c,e,rfl,g,g'|it]:=x;cases e;exact Z2 (wpAny_load g' (Z3 (h h' tk acc g (Yg (Zv g')) it)))
  | again u=>
    refine%[x.1|codeAny_mono x.2 λq v y=>?_];have%[h',tk,acc,c,rfl,rfl,g,g'|it]:=y;exact Z2 (wpAny_load g' (Z3 (h h' tk acc g (Yg (Zv g')) it)))
 simp_all
theorem tX{R:ZF->Shared->Prop}(lo:(d==sysModules)=false)(f:A.handled=none)(r:Raw s.heap d es ep)(g:es.size<=sizeLine)
 (h:∀(h':Heap) (tk:Nat),(∀b o,s.heap.get? b=some o->h'.get? b=some o)->⇑s<=h'.objs.size->R (es.toList.map (·.key)) {s with heap:=h',toks:=tk}):↥A (collect (.ref d)) R E s:=by
 refine tW (C0 lo) f r g λh' tk acc l c a=>?_
 have e:acc.toList=es.toList.map (·.key):=by
  apply ext_getElem?;intro j;rw[Zl,getElem?_toList,getElem?_toList];by_cases m:j<es.size
  .have n:j<acc.size:=a.1▸m;have%[_|q]:=a.2 j acc[j] ∅
   simp_all
  .rw[Array.getElem?_eq_none (by rw[a.1];lia),Array.getElem?_eq_none ⋯];rfl
 rw[e];exact h h' tk l c
end
section
#where
variable{S:Addr}
end
section
variable{X:Cx}{K:ZA}
theorem rS(hc:X.calm=true):bR X (.builtin "sorted") (λxs H Q=>∃a c ks m,xs=[.ref a]/\H a=some (.dT c)/\c.map (·.1)=ks.map (λk:ZB=>k.map Sum.inr)/\(∀k∈ks,k.length=m)/\m≠0/\ks.length<=1000/\
 ∀(l:Addr) (ss:ZG),H l=none->aG H ss->(ss.map (·.2)).Perm ks->(ss.map (·.2)).Pairwise (λa b=>c9 b a=false)->Q (.ref l) (upd H l (.lst (ss.map λp=>V.ref p.1)))):=by
 intro pins s U H xs us Q I r h;have%[a,c,ks,m,rfl,ha,d,Y,m0,B|q]:=h;have%[u,rfl|ru]:=cP r;cases ru;have%[_,lo,xs,C,o,A,ep,g,ex,dt,he,_|_]:=Dt I.hok ha;have E:∀{c:List (List Key×V)} {xs:List (List Key×Addr×Value)},KT H c xs->∀ks:List ZB,c.map (·.1)=ks.map (λk:ZB=>k.map Sum.inr)->∃ps:ZG,ps.map (·.2)=ks/\(xs.map λx=>Value.ref x.2.1)=(ps.map λp=>Value.ref p.1)/\∀p∈ps,H p.1=some (.tup (p.2.map V.str)):=by
  intro c xs C
  induction C with
  | nil=>
    intro ks d;cases ks with
    | nil=>exact%[[],rfl,rfl|λp i=>by cases i]
    | cons _ _=>cases d
  | @cons kv x c xs hx t ih=>
    intro ks d;cases ks with
    | nil=>cases d
    | cons k ks=>
      rw[Ys,Ys]at d;injection d with h1 h2
      have%[ps,v,G|L]:=ih ks h2;refine%[(x.2.1,k)::ps,by rw[Ys,v],by rw[Ys,Ys,G]|λp i=>?_];rcases mem_cons.mp i with e|e
      .rw[e];have:=hx.2.1;rw[h1,Yt]at this;exact this
      .exact L p e
 have%[ps,v,G|L]:=E C ks d;have w:∀p∈ps,p.2∈ks:=λp i=>by rw[<-v];exact Xt %[p,i|rfl]
 have ta:aG H ps:=λp i=>%[λe=>m0 (by rw[<-Y _ (w p i),e];rfl)|L p i]
 have ab:ps.length<=1000:=by rw[<-Z6 (f:=(·.2)),v];exact B
 have M:Raw s.heap a A ep:=%[o,g,ex|dt]
 have y:A.toList.map (·.key)=ps.map λp=>Value.ref p.1:=by
  rw[he,Yt,<-G];rfl
 have N:A.size<=sizeLine:=by
  have:(A.toList.map (·.key)).length=(ps.map λp=>Value.ref p.1).length:=by rw[y]
  rw[Z6,Z6,Zb]at this;rw[sizeLine_eq];lia
 refine jn (λE1 R hR=>tX lo (show X.A.in1.handled=none from I.ok.hd hc) M N λh' tk k ac=>?_) (mF I ta) (λp i=>Y _ (w p i)) m0 ⋯ λs1 s' l ss n O q2 k1 g1 o1 k g o z gl=>?_
 .rw[y];exact hR _ _ (List.Perm.refl _) k rfl rfl
 .have T:Inv X pins U H s1:=I.keptS k1 g1 o1;have j:H l=none:=T.hok.fresh z;have J:Inv X pins U H s':=T.keptS k g o;refine%[.ref l,_,T.stoodS (o:= .lst (ss.map λp=>V.ref p.1)) J z %[?_,ss.map (λp=>Value.ref p.1),n,mG ss|gl],rfl|q l ss j (λp i=>ta p (O.mem_iff.mp i)) (by rw[<-v];exact O.map _) (by rw[Xb];exact q2)];rw[Z6,O.length_eq,sizeLine_eq]
  lia
theorem yv(d:X.calm=true):cj X (.builtin "sorted") (λxs H Q=>∃a c ks m,xs=[.ref a]/\H a=some (.dT c)/\c.map (·.1)=ks.map (λk:ZB=>k.map Sum.inr)/\(∀k∈ks,k.length=m)/\m≠0/\ks.length<=1000/\
 ∀(l:Addr) (ss:ZG),H l=none->aG H ss->(ss.map (·.2)).Perm ks->(ss.map (·.2)).Pairwise (λa b=>c9 b a=false)->Q (.ref l) (upd H l (.lst (ss.map λp=>V.ref p.1)))):=⟨rS d⟩
end
section
variable{X:Cx}
theorem Fy:QE X (.Dict [] [] pos) vm:=⟨zW⟩
theorem iu(c:bQ k X.A)(d:swapsWith a (some (.Subscript o i b)) pos.line X.env=pure false)(e:QE X a f)(g:QE X o h)(hi:QE X i ty):QS X (.Assign [.Subscript o i b] a pos) (pS h ty f):=
 ⟨Cp (by have:=c.units;lia) g.h hi.h e.h d⟩
theorem kK [DecidableEq c](a:List (c×V))(k:c)(v:V):(cB a k v).map (·.1)=if k∈a.map (·.1)then a.map (·.1)else a.map (·.1) ++[k]:=by
 unfold cB;have e:(a.any λb=>decide (b.1=k))=true↔k∈a.map (·.1):=by
  grind
 by_cases h:k∈a.map (·.1)
 .rw[if_pos (e.mpr h),if_pos h,Yt];refine Yr λb _=>?_
  show(if b.1=k then(b.1,v)else b).1=b.1
  split<;> rfl
 .rw[if_neg (λz=>h (e.mp z)),if_neg h,Zd];rfl
end
structure tY (K:ZA) (mg:ZC) (x:Str):Prop where
 at_:mg x=some (.ref (be mg x))
 cls:Cls K (be mg x)
structure tZ (K:ZA) (mg:ZC) (x m qual:Str) (st:Stmt) (ps:ZB):Prop where
 ex:∃f fd,Cb K (be mg x) m f/\Fun K m qual st f fd/\di K fd ps []
structure A3 (K:ZA) (mg:ZC) (x qual:Str) (st:Stmt) (ps:ZB):Prop where
 ex:∃f fd,Mk K (be mg x) f/\Fun K "__init__" qual st f fd/\di K fd ps []
structure yw (P:Program) (w:World) (K:ZA) (mg:ZC) (base:Heap) (k:Nat) (x m:Str) (ps:ZB) (sp:Sp):Prop where
 ex:∃f fd,hJ P w K mg base CX0 k f fd ps sp/\Cb K (be mg x) m f/\di K fd ps []
structure C1 (P:Program) (w:World) (K:ZA) (mg:ZC) (base:Heap) (k:Nat) (x:Str) (ps:ZB) (sp:Sp):Prop where
 ex:∃f fd,hJ P w K mg base CX0 k f fd ps sp/\Mk K (be mg x) f/\di K fd ps []
section
variable{P:Program}{w:World}{K:ZA}{mg:ZC}{base:Heap}{x m qual:Str}{st:Stmt}{N ps:ZB}{k:Nat}{sp:Sp}
theorem tZ.cal(D:tZ K mg x m qual st ps)(S:ax N ps (ah st))
 (a:∀(H:Hp) (vs:List V) (Q:VK) (E:XK),sp vs H Q E->vs.length=ps.length/\∀(f:Addr) (b:Value) (A:Around) (outer:List Env) (s:Shared),bQ k (A.deeper (envOfC qual (ah st) ⇑s f b))->
  ∃t,PSs (oV CX0 P w K mg base N qual (ah st) f b A outer s H E).nox (bO st) t/\t {nx:=λ_ c=>Q .non c,rt:=Q} (start N vs) H):yw P w K mg base (k+1) x m ps sp:=by
 have%[f,d,e,F|g]:=D.ex;exact%[f,d,F.ok S (λv H Q E h=>(a H v Q E h).1) (λb A o s H v Q E r h=>(a H v Q E h).2 f b A o s r),e|g]
theorem A3.cal(D:A3 K mg x qual st ps)(S:ax N ps (ah st))
 (a:∀(H:Hp) (vs:List V) (Q:VK) (E:XK),sp vs H Q E->vs.length=ps.length/\∀(f:Addr) (b:Value) (A:Around) (outer:List Env) (s:Shared),bQ k (A.deeper (envOfC qual (ah st) ⇑s f b))->
  ∃t,PSs (oV CX0 P w K mg base N qual (ah st) f b A outer s H E).nox (bO st) t/\t {nx:=λ_ c=>Q .non c,rt:=Q} (start N vs) H):C1 P w K mg base (k+1) x ps sp:=by
 have%[f,d,e,F|g]:=D.ex;exact%[f,d,F.ok S (λv H Q E h=>(a H v Q E h).1) (λb A o s H v Q E r h=>(a H v Q E h).2 f b A o s r),e|g]
end
section
variable{X:Cx}{K:ZA}{j k:Nat}{x m:Str}{ps:ZB}{sp:Sp}{p pos apos:Pos}{o e:Expr}{es:List Expr}{to te:TE}{t:TA}
theorem Fz(C:yw X.prog X.w X.K X.mg X.base j x m ps sp)(c:tY X.K X.mg x)(d:bQ k X.A)(a:Nat.ble j k=true)
 (g:eval (.Call (.Attribute o m apos) [] [] pos) X.env=(do
  let b<-eval o X.env
  standAt apos.atName
  let(f,first)<-holding [b] (getMethod b m pl)
  callWith pos f first (backTo pos (starEach [] X.env)) (backToKw pos (keywordEach [] X.env)))) (h:QE X o to):QE X (.Call (.Attribute o m apos) [] [] pos) (wD (be X.mg x) m sp [] E0 to xI):=by
 have%[f,n,F,i|l]:=C.ex;exact⟨zJ h.h c.cls i F (d.mono (Nat.le_of_ble_eq_true a)) l .nil zY g⟩
theorem GQ(C:C1 X.prog X.w X.K X.mg X.base j x ps sp)(c:tY X.K X.mg x)(g:bQ k X.A)(h:Gl X x)(a:Nat.ble (j+1) k=true)(b:(x==("__debug__"))=false)(d:(e::es).any ba=false)(i:QA X (e::es) t):
 QE X (.Call (.Name x p) (e::es) [] pos) (wE (be X.mg x) sp [] E0 t):=by
 have%[f,q,F,l|n]:=C.ex;rw[Zy,Xa]at d;exact⟨Ce l F (g.mono (Nat.le_of_ble_eq_true a)) h c.at_ n .nil zY i.h b (az d.1) (eB d.2)⟩
theorem FA(h:X.K=K)(a:fZ o=false)(b:QE X o to):QE X (.Attribute o f pos) (Er K to f):=by
 subst h;exact⟨Et b.h (e9 a)⟩
theorem C2(h:X.K=K)(c:e8 a=false)(d:QE X o to)(g:QE X a i):QS X (.Assign [.Attribute o f b] a pos) (Es K to i f):=by
 subst h;exact⟨Eu d.h g.h (ii c)⟩
end
structure GvT (K:ZA) (mg:ZC) (x:Str) (xs:List V):Prop where
 ex:∃a,mg x=some (.ref a)/\∀H,SqT K H a xs
theorem A4{K:ZA}{h:Heap}{o:Obj}{its:ZJ}{n:Nat}(X:K.In h)(G:h.Ns mainGlobals mg)(z:nsIn K mainGlobals x=some (some (.ref a)))
 (b:K.lookup a=some o) (c:o.cls= .type "tuple") (d:o.data= .seq its n) (e:its.size<=sizeLine) (r:aD xs its.toList):GvT K mg x xs:=
 %[a,mg_of X G z|λ_=> .inr %[o,its,n,b,c,d,e|r]]
theorem GR{X:Cx}{K:ZA}{x:Str}(h:X.K=K)(g:GvT K X.mg x xs)(b:Gl X x)(c:(x==("__debug__":Str))=false):QE X (.Name x pos) (λ_ H Q=>∀a,(∀d,SqT K d a xs)->Q (.ref a) H):=by
 have%[a,e|f]:=g.ex;refine⟨λpins s i H Q I q=>Dw (v:= .ref a) %[.ref a,e|rfl] b c pins s i H Q I (q a f)⟩
theorem tryN{X:Cx}(c:∀e s,X.xe e s->False)(d:QSs X a g):QS X (.Try a [h] [] [] pos) g:=by
 refine⟨λpins s i H D I q=>wpAny_Try_except (wpAny_mono (d.h pins s i H D I q) (λf b q=>?_) λe b q=>(c e b q).elim)⟩;cases f with
 | next=>exact wpAny_execs_nil q
 | brk=>exact q
 | cont=>exact q
 | ret u=>exact q
section
variable{X:Cx}{K:ZA}
end
theorem nN(x y:Str):c9 [x] [y]=aK x y:=by
 show(if x=y then false else aK x y)=aK x y
 split
 .rename_i e;rw[e,cF]
 .rfl
section
#where
variable{S:Addr}
theorem lL{ks:ZB}{Q:ZD}(h:∀(T:ZD) (R:ZF->Shared->Prop),(∀c us f,StrsAre us f->f.Perm ks->(∀b o,s.heap.get? b=some o->c.heap.get? b=some o)->c.gens=s.gens->c.os=s.os->R us c)->↥A.in1 (collect (.ref S)) R T s)(i:ks.length<=1000)
 (U:∀(c s':Shared) (l:Addr) (vs:ZF) (ss:ZB) (n:Nat),StrsAre vs ss->ss.Perm ks->ss.Pairwise (λa b=>aK b a=false)->(∀b o,s.heap.get? b=some o->c.heap.get? b=some o)->c.gens=s.gens->c.os=s.os->(∀b o,c.heap.get? b=some o->s'.heap.get? b=some o)->s'.gens=c.gens->s'.os=c.os->⇑c<=l->s'.heap.get? l=some {cls:= .type "list",data:= .seq vs.toArray n}->Q (.ref l) s'):
 ↥A (call (.builtin "sorted") [.ref S]) Q E s:=by
 refine Calls.call_function_entry kind_sorted plain_sorted entry_sorted (args_sorted1 _) ?_;unfold Builtin.«sorted»;refine Z2 (m:=checkCount "sorted" 1 1 _) (Z3 ?_);refine Z2 (h _ _ λc us f d q k1 g1 Y=>?_);have i:us.length<=1000:=by rw[bB d,q.length_eq];exact i
 refine Z2 (wpAny_newList ?_ (by rw[sizeLine_eq];omega));have G:(c.heap.push (seqObj "list" us.toArray 0)).get? ⇑c=some (seqObj "list" us.toArray 0):=Zj _ rfl;have e:∀v∈us,∃x t,v=Value.str x t/\[x]∈ks.map λz=>[z]:=λv g=>by
  have%[x,t|rfl]:=d.all v g;refine%[x,t,rfl|Xt %[x,q.mem_iff.mp ?_|rfl]];rw[<-d.strs];exact Xt %[_,g|rfl]
 refine Z2 (wpAny_holding (wpAny_call_entry slot_list_sort %[_,G|rfl] entry_list_sort (i5 (s:={c with heap:=c.heap.push (seqObj "list" us.toArray 0)}) (kd:=oneType') (Nv:=λv=>fM (ks.map λz=>[z]) [strOf v]) G (by omega) (λH k6 I Q6 J=>?_) (λH k6=>?_) λout B p2=>%[_,rfl|?_]) (args_list_sort _)))
 .obtain⟨v1,C,r,rfl⟩:∃v1 C r,us=v1::C::r:=by
   match us,I with
   | v1::C::r,_=>exact%[v1,C,r|rfl]
  rw[keyKind_strs d];exact Z3 J
 .intro x y s' hx hy L;subst L;have%[x1|x2]:=x;have%[y1|y2]:=y;have%[a,t,rfl|M]:=e _ hx;have%[b,u,rfl|N]:=e _ hy;show ↥A.in1.in1 (keyLt' oneType' (.str a t) (.str b u)) (λr s'=>r=decide (fM (ks.map λz=>[z]) [a]<fM (ks.map λz=>[z]) [b])/\s'={c with heap:=H}) (λ_ _=>False) {c with heap:=H};rw[keyLt'_oneType];refine oneLt_str %[?_|rfl];rw[<-jP M,nN];rfl
 .obtain⟨n,gl⟩:∃n,(sortedHeap (c.heap.push (seqObj "list" us.toArray 0)) ⇑c us out.toArray).get? ⇑c=some (seqObj "list" out.toArray n):=sortedHeap_at G;refine Z3 %[_,rfl|U c _ ⇑c out (out.map strOf) n (strsAre_map out (λv g=>d.all v (B.mem_iff.mp g))) ?_ ?_ k1 g1 Y (λb o' O=>?_) rfl rfl (Zi _) gl]
  .rw[<-d.strs]at q;exact(B.map _).trans q
  .rw[Xb];refine Xj (λ{u v} hu g j=>?_) p2;have%[a,t,rfl|M]:=e _ (B.mem_iff.mp hu);have%[b,t',rfl|N]:=e _ (B.mem_iff.mp g);show aK b a=false;rw[<-nN,jP N];have j:fM (ks.map λz=>[z]) [a]<=fM (ks.map λz=>[z]) [b]:=j;exact Zh (by omega)
  .have p:=Zv O;show(sortedHeap _ _ _ _).get? b=_;rw[sortedHeap_old (Zt p) (by rw[Zq];exact Yp p)];exact Z7 _ O
end
theorem jQ:∀{ks:ZB} {us:ZF},aD (ks.map V.str) us->StrsAre us ks
 |[],_,.nil=> .nil
 | _::_,_,.cons r t=>by
   have%[t'|rfl]:=r;exact .cons _ _ (jQ t)
theorem gu:∀{ks:ZB} {us:ZF},StrsAre us ks->aD (ks.map V.str) us
 | _,_,.nil=> .nil
 | _,_,.cons _ t h=> .cons %[t|rfl] (gu h)
section
variable{X:Cx}{K:ZA}
theorem yx(h:X.K=K):cj X (.builtin "sorted") (λxs H Q=>∃a ks,xs=[.ref a]/\SqL K H a (ks.map V.str)/\ks.length<=1000/\∀l (ss:ZB),H l=none->ss.Perm ks->ss.Pairwise (λa b=>aK b a=false)->Q (.ref l) (upd H l (.lst (ss.map V.str)))):=by
 subst h;refine⟨λpins s E H xs us Q I r h=>?_⟩;have%[a,ks,rfl,j,m|q]:=h;have%[u,rfl|p]:=cP r;cases p;have%[its,f,%[o,n,v,w,G|d]|J]:=I.list j;have L:its.length=ks.length:=by rw[<-f.length,Z6]
 refine lL (λM R y=>wpAny_collect_seq a (.inl rfl) v w d (λh' k=>?_) (by simp_all)) (by omega) λN s' l vs ss n z i A k1 g1 B k g o c C=>?_
 .exact y _ _ _ (jQ f) (.refl _) k rfl rfl
 .have e:=I.keptS k1 g1 B;refine%[.ref l,_,e.stoodS (o:= .lst _) (e.keptS k g o) c %[?_,vs,n,gu z|C],rfl|q l ss (e.hok.fresh c) i A];rw[Z6,i.length_eq,sizeLine_eq];omega
theorem vW{w:World}(h:X.w=w)(p:X.calm=true):cj X (.builtin "sorted") (λxs H Q=>∃a ks,xs=[.ref a]/\H a=some (fB w a ks)/\ks.length<=1000/\∀l (ss:ZB),H l=none->ss.Perm ks->ss.Pairwise (λa b=>aK b a=false)->Q (.ref l) (upd H l (.lst (ss.map V.str)))):=by
 subst h;refine⟨λpins s E H xs us Q I r h=>?_⟩;have%[a,ks,rfl,v,e|q]:=h;have%[u,rfl|y]:=cP r;cases y;have%[S,_|_]:=(I.hok a _ v)
 refine lL (λG R z=>lG (I.ok.hd p) S λm vs ss f d k1 g1 i A=>z m vs ss f d k1 g1 i) e λm s' l vs ss n f d B k1 g1 i k g o c C=>?_
 have j:=I.keptS k1 g1 i;refine%[.ref l,_,j.stoodS (o:= .lst _) (j.keptS k g o) c %[?_,vs,n,gu f|C],rfl|q l ss (j.hok.fresh c) d B];rw[Z6,d.length_eq,sizeLine_eq];omega
theorem yy(h:X.K=K):cj X (.builtin "sorted") (λxs H Q=>∃(a:Addr) (ps:ZG) (m:Nat),xs=[.ref a]/\SqL K H a (ps.map λp=>V.ref p.1)/\aG H ps/\(∀p∈ps,p.2.length=m)/\m≠0/\ps.length<=1000/\
 ∀(l:Addr) (ss:ZG),H l=none->ss.Perm ps->ss.Pairwise (λa b=>c9 b.2 a.2=false)->Q (.ref l) (upd H l (.lst (ss.map λp=>V.ref p.1)))):=by
 subst h;refine⟨λpins s M H xs us Q I r h=>?_⟩;have%[a,ps,m,rfl,j,v,w,y,d|q]:=h;have%[u,rfl|z]:=cP r;cases z;have%[its,A,%[o,n,B,C,N|e]|O]:=I.list j;have:=rQ A;subst this;refine jn (λT R E=>wpAny_collect_seq a (.inl rfl) B C e (λh' k=>?_) (by simp_all)) (mF I v) w y d λU s' l ss n i G k1 g1 J k g o c L=>?_
 .exact E _ _ (List.Perm.refl _) k rfl rfl
 .have f:=I.keptS k1 g1 J;refine%[.ref l,_,f.stoodS (o:= .lst _) (f.keptS k g o) c %[?_,ss.map _,n,mG ss|L],rfl|q l ss (f.hok.fresh c) i G];rw[Z6,i.length_eq,sizeLine_eq];omega
theorem dinT{k:Nat}{i o:Expr}{ty a:TE}{pos:Pos}(b:bQ k X.A)(c:behindInMarks .In o=false)(hi:QE X i ty)(d:QE X o a):QT X (.Compare i [.In] [o] pos) (tB (EQ ty a)):=
 ⟨zd (ER (by have:=b.units;omega) hi.h d.h) c⟩
end
theorem cr{X:Cx}{K:ZA}{a b:Expr}{c d:TE}{pos:Pos}(h:X.K=K)(e:my b)(f:QE X a c)(g:QE X b d):QE X (.Subscript a b pos) (tOp (ED K) c d):=by subst h;exact⟨zO EF f.h g.h e⟩
theorem vX(h:(env.blockKind== .function&&env.kindOf x==some .local&&b.line==pos.line&&!(a.names.any λ(n,k)=>n==x&&(k== .local||k== .cell)))=false):
 swapsWith (.ListComp c gens a pos) (some (.Name x b)) l env=pure false:=by
 show(pure (env.blockKind== .function&&env.kindOf x==some _&&b.line==pos.line&&!(a.names.any _)))=pure false;rw[h]
theorem A5{X:Cx}(i:Nat)(e:X.N.Nodup)(hi:X.N[i]? =some x)(f:Loc X.env.scope x)(g:X.fn x=true\/X.env.scope.names.lookup x=some .local)
 (b:(X.env.blockKind== .function&&X.env.kindOf x==some .local&&h.line==pos.line&&!(a.names.any λ(n,k)=>n==x&&(k== .local||k== .cell)))=false) (j:QE X (.ListComp c gens a pos) l):
 QS X (.Assign [.Name x h] (.ListComp c gens a pos) d) (qQ l (iZ i)):=⟨zo e hi f j.h (vX b) g⟩
section
#where
end
section
variable(h:Heap)(l1 l2:Addr)
end
section
#where
end
section
variable{X:Cx}{K:ZA}{pos:Pos}
end
section
variable{X:Cx}{pos:Pos}
theorem nO(b:PassesOwn (model X.prog X.w) X.A X.env X.xe)(d:QT X c e)(f:QSs X a g):QS X (.While c a [] pos) (zq e g):=⟨zt b d.h f.h⟩
theorem dj(a:bQ k X.A)(b:EO i)(c:QE X o d)(hi:QE X i ty):QE X (.Subscript o i pos) (zT d ty):=⟨Co (by have:=a.units;lia) c.h hi.h b⟩
end
section
#where
theorem C3{P:Nat->Value->Prop}(val:Nat->Str)(a:∀i v,P i v->∃t,v= .str (val i) t):CmpOf prog w A .Gt P (λi j=>decide ((val j).cps.toList<(val i).cps.toList)):=λi j b c s Q E hi d h=>by
 have%[t|rfl]:=a i b hi;have%[u|rfl]:=a j c d;exact richCompare_gives (typeIs_str s _ t) (typeIs_str s _ u) PySem.F.slot_str_gt PySem.F.entry_str_gt (PySem.F.args_str_gt_2 _ _) (gives_str_gt _ _ t u) (λx=>nomatch x) h
theorem wW{P:Nat->Value->Prop}(val:Nat->Str)(a:∀i v,P i v->∃t,v= .str (val i) t):CmpOf prog w A .Lt P (λi j=>decide ((val i).cps.toList<(val j).cps.toList)):=λi j b c s Q E hi d h=>by
 have%[t|rfl]:=a i b hi;have%[u|rfl]:=a j c d;exact richCompare_gives (typeIs_str s _ t) (typeIs_str s _ u) PySem.F.slot_str_lt PySem.F.entry_str_lt (PySem.F.args_str_lt_2 _ _) (gives_str_lt _ _ t u) (λx=>nomatch x) h
theorem A6{i:Nat}{v:Value}(h:(#[Value.str x t,Value.str y u]:ZJ)[i]? =some v):∃t,v= .str (if i=0 then x else y) t:=by
 match i,h with
 | 0,h=>exact%[t|by simpa using h.symm]
 | 1,h=>exact%[u|by simpa using h.symm]
 | i+2,h=>simp at h
theorem t4(a:Nat->Nat->Bool):argBest a 1=if a 1 0=true then 1 else 0:=by simp[argBest]
theorem rT{x y:Str}(l:A.handled=none)
 (h:∀h' tk,(∀c o,s.heap.get? c=some o->h'.get? c=some o)->Q (if x.cps.toList<y.cps.toList then .str y u else .str x t) {s with heap:=h',toks:=tk}):
 ↥A (call (.builtin "max") [.str x t,.str y u]) Q E s:=by
 have j:(s.heap.push {cls:= .type _,data:= .seq #[.str x t,.str y u]}).IsTuple ⇑s _:=%[_,Zj _ rfl,rfl,0|rfl]
 refine call_max_two (wpAny_pyIter_tuple j ?_);have b:(s.heap.push {cls:= .type "tuple",data:= .seq #[.str x t,.str y u]}).objs.size=⇑s+1:=Zq ..;refine%[_,[_,⇑s],[_],_,_,_,_,rfl,Walks.tuple (A:=A.in1) l _ ⇑s (b▸Zt (Yq _)) _,
  %[%[_,Zj _ rfl,rfl|rfl]|j.push _],λc d=>?_,by simp,C3 _ (λ_ _=>A6)|λv h' tk m n=>?_]
 .rw[Zq,b];rcases mem_cons.mp d with rfl|d
  .simp
  .rcases mem_cons.mp d with rfl|d
   .exact Yp (Yq _)
   .cases d
 .have f:=λc o e=>by
   refine n c o (λi=>?_) (Z7 _ (Z7 _ e));rcases mem_cons.mp i with p|i
   .have:=Zv e;rw[p,b]at this;exact Xm _ (Nat.lt_of_succ_lt this)
   .cases i
  have q:=h h' tk f;have a:(#[Value.str x t,Value.str y u])[argBest _ 1]? =some v:=m;rw[t4]at a;by_cases g:x.cps.toList<y.cps.toList
  .rw[if_pos (by simp[g])]at a;rw[if_pos g]at q;exact(show Value.str y u=v by simpa using a)▸q
  .rw[if_neg (by simp[g])]at a;rw[if_neg g]at q;exact(show Value.str x t=v by simpa using a)▸q
theorem rV{x y:Str}(l:A.handled=none)
 (h:∀h' tk,(∀c o,s.heap.get? c=some o->h'.get? c=some o)->Q (if y.cps.toList<x.cps.toList then .str y u else .str x t) {s with heap:=h',toks:=tk}):
 ↥A (call (.builtin "min") [.str x t,.str y u]) Q E s:=by
 have j:(s.heap.push {cls:= .type _,data:= .seq #[.str x t,.str y u]}).IsTuple ⇑s _:=%[_,Zj _ rfl,rfl,0|rfl]
 refine call_min_two (wpAny_pyIter_tuple j ?_);have b:(s.heap.push {cls:= .type "tuple",data:= .seq #[.str x t,.str y u]}).objs.size=⇑s+1:=Zq ..;refine%[_,[_,⇑s],[_],_,_,_,_,rfl,Walks.tuple (A:=A.in1) l _ ⇑s (b▸Zt (Yq _)) _,
  %[%[_,Zj _ rfl,rfl|rfl]|j.push _],λc d=>?_,by simp,wW _ (λ_ _=>A6)|λv h' tk m n=>?_]
 .rw[Zq,b];rcases mem_cons.mp d with rfl|d
  .simp
  .rcases mem_cons.mp d with rfl|d
   .exact Yp (Yq _)
   .cases d
 .have f:=λc o e=>by
   refine n c o (λi=>?_) (Z7 _ (Z7 _ e));rcases mem_cons.mp i with p|i
   .have:=Zv e;rw[p,b]at this;exact Xm _ (Nat.lt_of_succ_lt this)
   .cases i
  have q:=h h' tk f;have a:(#[Value.str x t,Value.str y u])[argBest _ 1]? =some v:=m;rw[t4]at a;by_cases g:y.cps.toList<x.cps.toList
  .rw[if_pos (by simp[g])]at a;rw[if_pos g]at q;exact(show Value.str y u=v by simpa using a)▸q
  .rw[if_neg (by simp[g])]at a;rw[if_neg g]at q;exact(show Value.str x t=v by simpa using a)▸q
theorem pA{l:Addr}{its:ZJ}{val:Nat->Str}{Q:ZD}(n:A.handled=none)(f:s.heap.IsList l its)(g:0<its.size)(a:∀(i:Nat) v,its[i]? =some v->∃t,v= .str (val i) t)
 (h:∀v h' tk,its[argBest (λi j=>decide ((val i).cps.toList<(val j).cps.toList)) (its.size-1)]? =some v->(∀b o,s.heap.get? b=some o->h'.get? b=some o)->Q v {s with heap:=h',toks:=tk}):
 ↥A (call (.builtin "min") [.ref l]) Q E s:=by
 have c:l<⇑s:=by have%[_,e|_]:=f;exact Zv e
 refine call_min_walk (wpAny_pyIter_list f %[_,[⇑s,l],[⇑s],_,_,_,_,rfl,Walks.list (A:=A.in1) n _ l (Zt c) its,%[%[_,Zj _ rfl,rfl|rfl]|f.push _],λb d=>?_,g,wW val a|λv h' tk p q=>?_])
 .rw[Zq];rcases mem_cons.mp d with rfl|d
  .simp
  .rcases mem_cons.mp d with rfl|d
   .exact Yp c
   .cases d
 .refine h v h' tk p λb o e=>q b o (λm=>?_) (Z7 _ e)
  rcases mem_cons.mp m with r|m
  .exact absurd (r▸Zv e) (Xm _)
  .cases m
theorem nP(val:Nat->Str):∀k,argBest (λi j=>decide ((val i).cps.toList<(val j).cps.toList)) k<=k/\∀j,j<=k->aK (val j) (val (argBest (λi j=>decide ((val i).cps.toList<(val j).cps.toList)) k))=false
 | 0=>%[Zi _|λj b=>by rw[le_zero.mp b];exact cF _]
 | k+1=>by
   have%[g|d]:=nP val k;rw[argBest];by_cases c:aK (val (k+1)) (val (argBest (λi j=>decide ((val i).cps.toList<(val j).cps.toList)) k))=true
   .have a:=c;unfold aK at a;rw[if_pos a];refine%[Zi _|λj b=>?_];by_cases e:j=k+1
    .exact e▸cF _
    .cases f:aK _ _ with
     | false=>rfl
     | true=>have:=dD f c;rw[d j ⋯]at this;cases this
   .have a:=c;unfold aK at a;rw[if_neg a];refine%[⋯|λj b=>?_];by_cases e:j=k+1
    .lia
    .exact d j ⋯
end
section
variable{X:Cx}
theorem yz(b:X.calm=true):bR X (.builtin "max") (λxs H Q=>∃x y,xs=[.str x,.str y]/\Q (.str (if aK x y=true then y else x)) H):=by
 intro pins s c H xs us Q I r h;have%[x,y,rfl|q]:=h;have%[u,d,rfl,%[t|rfl],t'|rfl]:=hW r;refine rT (I.ok.hd b) λh' tk k=>%[_,H,I.kept k,?_|q]
 by_cases a:x.cps.toList<y.cps.toList
 .rw[if_pos a,if_pos (show aK x y=true from Zf a)];exact%[_|rfl]
 .rw[if_neg a,if_neg (show ¬ aK x y=true from λe=>a (Zo e))];exact%[_|rfl]
theorem yA(b:X.calm=true):bR X (.builtin "min") (λxs H Q=>∃x y,xs=[.str x,.str y]/\Q (.str (if aK y x=true then y else x)) H):=by
 intro pins s c H xs us Q I r h;have%[x,y,rfl|q]:=h;have%[u,d,rfl,%[t|rfl],t'|rfl]:=hW r;refine rV (I.ok.hd b) λh' tk k=>%[_,H,I.kept k,?_|q]
 by_cases a:y.cps.toList<x.cps.toList
 .rw[if_pos a,if_pos (show aK y x=true from Zf a)];exact%[_|rfl]
 .rw[if_neg a,if_neg (show ¬ aK y x=true from λe=>a (Zo e))];exact%[_|rfl]
theorem yB(z:X.calm=true):bR X (.builtin "min") (λxs H Q=>∃(p:Addr) (ss:ZB),xs=[.ref p]/\SqL X.K H p (ss.map V.str)/\0<ss.length/\∀m∈ss,(∀y∈ss,aK y m=false)->Q (.str m) H):=by
 intro pins s M H xs us Q I r h;have%[p,ss,rfl,A,N|q]:=h;have%[u,rfl|f]:=cP r;cases f;have%[its,g,B|O]:=I.list A;have a:=g.length;rw[Z6]at a;have C:its.toArray.size=ss.length:=by rw[Zp,a]
 have c:∀i v,its.toArray[i]? =some v->∃t,v=Value.str (ss.getD i Str.empty) t:=λi v e=>by
  have e:=by simpa using e
  have hi:i<ss.length:=a▸(Xp e).1;have%[u,l|f]:=g.get (by rw[Zl,Z4 hi];rfl);rw[e]at l;have%[t|d]:=f;exact%[t|by rw[Za l,d,Zc,Z4 hi];rfl]
 refine pA (I.ok.hd z) B.isList ⋯ c λv h' tk n k=>?_
 have%[E|o]:=nP _ _;have%[t|d]:=c _ _ n
 generalize argBest _ _=b at E o n d
 have w:b<ss.length:=by lia
 have G:ss.getD b Str.empty=ss[b]:=by rw[Zc,Z4 w];rfl
 refine%[.str _,H,I.kept k,%[t|d]|q _ (G▸Ye w) λy J=>?_];have%[j,L|rfl]:=Yf J;have:=o j ⋯;rwa[show ss.getD j Str.empty=ss[j] by rw[Zc,Z4 L];rfl]at this
theorem FB(a:X.calm=true):cj X (.builtin "max") (λxs H Q=>∃x y,xs=[.str x,.str y]/\Q (.str (if aK x y=true then y else x)) H):=⟨yz a⟩
theorem A7(a:X.calm=true):cj X (.builtin "min") (λxs H Q=>∃x y,xs=[.str x,.str y]/\Q (.str (if aK y x=true then y else x)) H):=⟨yA a⟩
theorem FC{K:ZA}(h:X.K=K)(a:X.calm=true):cj X (.builtin "min") (λxs H Q=>∃(p:Addr) (ss:ZB),xs=[.ref p]/\SqL K H p (ss.map V.str)/\0<ss.length/\∀m∈ss,(∀y∈ss,aK y m=false)->Q (.str m) H):=by subst h;exact⟨yB a⟩
end
section
#where
theorem yC:typeLookup (.type "list") "keys"=pure none:=by rw[typeLookup_type,builtinLookup_eq_fast];kernel_rfl
theorem yD(l:s.heap.get? a=some o)(m:o.cls= .type "list")(f:o.data= .seq xs k)(n:o.dict=none)(r:A.handled=none)
 (h:∀h' tk,(∀b p,s.heap.get? b=some p->h'.get? b=some p)->Q none {s with heap:=h',toks:=tk}):↥A (getAttr? (.ref a) "keys") Q E s:=by
 have%[c,u,v|y]:=o;simp only at m f n;subst m f n;have%[z,g,d,tk|os]:=s;have q:∀i,(%[z,g,d,i|os]:Shared).TypeIs (.ref a) "list":=λ_=>%[_,l|rfl]
 have C:=sub_AttributeError;have G:=PySem.F.slot_list_getattribute.lookup;have H:=PySem.F.slot_list_getattribute.bind (.ref a);have I:=am_list_getattr_none;unfold getAttr? getAttrBy? getAttrBy
 repeat (any_goals (first|assumption|exact q _|((with_reducible show wpAny _ _ (call (Value.builtin "list.__getattribute__") _ _) _ _ _);refine call_meets PySem.F.slot_list_getattribute (q _) am_entry_list_getattribute (PySem.F.args_list_getattribute_2 _ _) (meets_getattribute_miss_list a xs k y "keys" _ yC (by decide) (by decide)) ⟨l,r,λh' i e j=>?_⟩)|wp_step))
 have%[t',J|L]:=j.there;have B:=j.keeps;show wpAny _ _ (getattributeRaised _ _ _ _ _ _ _) _ _ _;unfold getattributeRaised
 repeat (any_goals (first|assumption|wp_step))
 exact h _ _ B
theorem ql:entryFor table "dict.update.loop"=some Builtin.«dict.update.loop»:=entryFor_of_tree (by kernel_rfl)
theorem iQ:plainId "dict.update.loop"=true:=by decide +kernel
end
section
variable{prog:Program}{w:World}{A:Around}{R:Result->Shared->Prop}{I:Addr}{fp wr:List Addr}{G:Array GenState->Array GenState->Prop}{n:Nat}{P:Nat->Value->Prop}{St:Nat->Shared->Prop}
end
section
#where
end
section
variable{X:Cx}{K:ZA}
end
theorem C4{b:Type}{a:List (b×V)}{vs:List (b×Value)}(r:KV a vs):aD (a.map (·.2)) (vs.map (·.2)):=by
 induction r with
 | nil=>exact .nil
 | cons h _ c=>exact .cons h.2 c
section
variable{X:Cx}{K:ZA}
def A8:V->List V->Hp->VK->Prop:=λx vs H Q=>asR x λa=>∃k y,vs=[kV k,y]/\∃b,H a=some (.dK b)/\b.length<sizeLine/\(∀v,cA b k=some v->Q v H)/\(cA b k=none->Q y (upd H a (.dK (cB b k y))))
theorem C5:MtM X "dict.setdefault" A8:=by
 intro pins s J H x vs v us Q I p r h;have%[a,rfl,k,y,rfl,b,e,L,u|w]:=eZ h;cases p;have%[M,A,rfl,B|l]:=hW r;have%[z,m,vs,c|n]:=lC I.hok e;refine call_meetsIn PySem.F.slot_dict_setdefault n.typeIs PySem.F.entry_dict_setdefault (PySem.F.args_dict_setdefault_3 _ _ _) (kt_meets_setdefault _ a (lB B) m A) %[vs,n,c.length▸z,λN hw=>?_|λO h' f C=>?_]
 .have q:=c.val k;cases d:cA b k with
  | none=>
    rw[fk.none_of (o:=valueAt vs k) (d▸q)]at hw;cases hw
  | some i=>
    have%[E,g|j]:=fk.some_of (d▸q);rw[g]at hw;exact(Za hw)▸%[i,H,I.tok _,j|u i d]
 .have d:cA b k=none:=by
   cases d:cA b k with
   | none=>rfl
   | some i=>
     have%[E,g|_]:=fk.some_of (d▸c.val k)
     grind
  exact%[y,_,jz I (e▸True.intro) C (let⟨q,_,_,G,_⟩:=f;%[q|G]) (mT (by have:=dO b k y;lia) m (c.put k l) f),l|w d]
theorem jR:MtQ X "dict.setdefault" A8:=⟨C5⟩
noncomputable def t5(v a:Addr):HO:= .ext λh=>h.IsValuesView v a
def A9:V->List V->Hp->VK->Prop:=λx vs H Q=>asR x λa=>vs=[]/\∃b,H a=some (.dK b)/\∀v,H v=none->Q (.ref v) (upd H v (t5 v a))
theorem C6:MtM X "dict.values" A9:=by
 intro pins s w H x vs v us Q I i j h;have%[a,rfl,rfl,l,e|q]:=eZ h;cases i;have c:=j.zero;subst c;have%[z,m,vs,n|f]:=lC I.hok e;refine call_meetsIn PySem.F.slot_dict_values f.typeIs PySem.F.entry_dict_values (PySem.F.args_dict_values_1 _) (meets_dict_values _ a m) %[%[vs|f]|?_];have g:(s.heap.push {cls:= .type _,data:= .fields _}).IsValuesView ⇑s a:=%[_,Zj _ rfl,rfl|rfl]
 refine%[.ref ⇑s,_,I.laid (o:=t5 ⇑s a) (λb u e=>Z7 _ e) (Zi _) %[g,?_|λy A p k1=>?_],rfl|q _ I.fresh]
 .have%[o,d|_]:=g;exact%[o|d]
 .have%[o,d|r]:=p;exact%[o,k1 _ d|r]
theorem Ba:MtQ X "dict.values" A9:=⟨C6⟩
theorem vY(j:X.calm=true):bR X (.type "list") (λxs H Q=>∃(v a:Addr) (b:List (Key×V)),xs=[.ref v]/\H v=some (t5 v a)/\H a=some (.dK b)/\∀l,H l=none->Q (.ref l) (upd H l (.lst (b.map (·.2))))):=by
 intro pins s N H xs us Q I r h;have%[v,a,b,rfl,m,n|q]:=h;have%[u,rfl|p]:=cP r;cases p;have%[z,O,vs,f|w]:=lC I.hok n;have g:=(I.hok _ _ m).1;have%[o,y,A,B|C]:=w;have E:s.heap.DictAt _ a vs A:=%[o,y,B|C]
 have G:=f.length;refine PySem.W.kdl_call (PySem.W.kdl_values) (I.ok.hd j) %[g|E] ⋯ λh' tk acc c keep J d=>?_
 have T:acc.toList.length=b.length:=by rw[Zb,d.1,G]
 refine%[.ref ⇑s,_,I.laid keep (Zi _) ?_,rfl|q _ I.fresh];have e:acc.toList=vs.map (·.2):=by
  refine Y0 (by simp_all) λi L U=>?_
  have%[k|M]:=d.2 i _ (Array.getElem?_eq_getElem L);have%[Y|e3]:=Xp M
  simp_all
 exact%[by rw[Z6];exact z,acc.toList,c,e▸C4 f|J]
theorem C7(c:X.calm=true):cj X (.type "list") (λxs H Q=>∃(v a:Addr) (b:List (Key×V)),xs=[.ref v]/\H v=some (t5 v a)/\H a=some (.dK b)/\∀l,H l=none->Q (.ref l) (upd H l (.lst (b.map (·.2))))):=⟨vY c⟩
end
theorem t6:∀{ss:ZB},z∈ss->∃j,ss[j]? =some z/\(∀m,m<j->∀y,ss[m]? =some y->y≠z)/\(z::ss.eraseIdx j).Perm ss
 | x::ss,h=>by
   by_cases e:x=z
   .exact%[0,by simp[e],λm b=>absurd b ⋯|by simp[e]]
   .have%[j,c,d|f]:=t6 ((mem_cons.mp h).resolve_left λq=>e q.symm);refine%[j+1,c,λm b y a=>?_|?_]
    .cases m with
     | zero=>simp at a;exact a▸e
     | succ m=>exact d m ⋯ y (a)
    .exact(List.Perm.swap _ _ _).trans (f.cons _)
section
variable{X:Cx}{K:ZA}
def FD:V->List V->Hp->VK->Prop:=λx vs H Q=>asR x λa=>∃k y,vs=[kV k,y]/\∃b,H a=some (.dK b)/\Q ((cA b k).getD y) H
theorem FE:MtM X "dict.get" FD:=by
 intro pins s n H x vs v us Q I f g h;have%[a,rfl,k,y,rfl,b,e|q]:=eZ h;cases f;have%[o,i,rfl,j|l]:=hW g;have%[z,m,vs,c|d]:=lC I.hok e;exact call_meetsIn slot_dict_get d.typeIs PySem.F.entry_dict_get (PySem.F.args_dict_get_3 _ _ _) (meets_dict_get_default _ a (lB j) m i) %[_,d.mapOf,(cA b k).getD y,H,I.tok _,(c.val k).getD l|q]
theorem Bb:MtQ X "dict.get" FD:=⟨FE⟩
noncomputable def isZ(z:Str):Value->Bool
 | .str x _=>x==z
 | _=>false
theorem yE(t:Tok)(r:aD (ss.map V.str) its)(h:ss.length=its.length)(l:z∈ss):∃(j:Nat) (e:j<its.toArray.size),ss[j]? =some z/\(z::ss.eraseIdx j).Perm ss/\(∀y,y∈its.toArray->MeetsSeq.EqGives y (.str z t) (isZ z y))/\isZ z its.toArray[j]=true/\∀m (a:m<its.toArray.size),m<j->isZ z its.toArray[m]=false:=by
 have%[j,f,n|o]:=t6 l;have b:∀m y,its[m]? =some y->∃x t,y=Value.str x t/\ss[m]? =some x:=λm y c=>by
  have a:m<ss.length:=h▸(Xp c).1;have%[u,i|p]:=r.get (by rw[Zl,Z4 a];rfl);rw[c]at i;have%[t|q]:=p;exact%[_,t,(Za i).trans q|Z4 a]
 have e:j<its.length:=h▸(Xp f).1;refine%[j,e,f,o,λy c=>?_,?_|λm a g=>?_]
 .have%[m|a]:=Xi (by simpa using c);have%[x,t',rfl|_]:=b m y a;exact eqGives_str x z t' t
 .have%[x,t',ex|d]:=b j _ (Z4 e);rw[f]at d;show isZ z its[j]=true;rw[ex,<-Za d];exact beq_self_eq_true z
 .have%[x,t',ex|d]:=b m _ (Z4 a);show isZ z its[m]=false;rw[ex];exact beq_eq_false_iff_ne.mpr (n m g x d)
def rW:V->List V->Hp->VK->Prop:=λx vs H Q=>asR x λl=>∃z,vs=[.str z]/\∃ss:ZB,H l=some (.lst (ss.map V.str))/\z∈ss/\∀a,(z::a).Perm ss->Q .non (upd H l (.lst (a.map V.str)))
theorem yF:MtM X "list.remove" rW:=by
 intro pins s A H x vs v us Q I c d h;have%[l,rfl,z,rfl,ss,a,f|q]:=eZ h;cases c;have%[u,rfl|g]:=d.one;have%[t|rfl]:=g;have%[i,its,n,r,b|e]:=I.lstM a;rw[Z6]at b i;have%[j,m,_,o,p,w|y]:=yE t r b f;refine call_meets F.slot_list_remove %[_,e|rfl] F.entry_list_remove (F.args_list_remove_2 _ _) (MeetsSeq.list_remove l its.toArray n _ _ p j m w y (by simp_all)) %[e,.non,_,I.lset (its':=its.eraseIdx j) a e ?_ ?_ ?_,rfl|q _ o]
 .simp
 .rw[List.eraseIdx_eq_take_drop_succ,Zd,map_take,List.map_drop,<-List.eraseIdx_eq_take_drop_succ];exact r.eraseIdx j
 .have:=pO ss j;rw[Z6]
  lia
theorem Bc:MtQ X "list.remove" rW:=⟨yF⟩
end
theorem yG:typeLookup (.type "list_reverseiterator") "__len__"=pure none:=by kernel_rfl
theorem Bd:typeLookup (.type "list_reverseiterator") "__length_hint__"=pure (some (.builtin "list_reverseiterator.__length_hint__")):=by kernel_rfl
section
#where
theorem pB(hh:A.handled=none)(O:s.heap.IsRevIter I l ((a.size:Int) -1))(U:s.heap.IsList l a)(ne:l≠I)(hz:a.size<=sizeLine)
 (hQ:∀s' acc c,(∀b o,b≠I->s.heap.get? b=some o->s'.heap.get? b=some o)->s'.gens=s.gens->s'.os=s.os->s'.heap.get? ⇑s=some {cls:= .type "list",data:= .seq acc c}->acc.toList=a.toList.reverse->Q (.ref ⇑s) s'):
 ↥A (call (.type "list") [.ref I]) Q E s:=by
 have v:I<⇑s:=let⟨_,i,_⟩:=O;Zv i;have y:l<⇑s:=let⟨_,i,_⟩:=U;Zv i
 generalize p:s.heap.push {cls:=Value.type "list",data:=Data.seq #[]}=G
 have gz:G.objs.size=⇑s+1:=by rw[<-p,Zq]
 have z:∀b o,s.heap.get? b=some o->G.get? b=some o:=λb o e=>by rw[<-p];exact Z7 _ e
 have q:G.get? ⇑s=some {cls:=Value.type "list",data:=Data.seq #[]}:=by rw[<-p];exact Zj _ rfl
 refine callType_codes (Q₁:=λobj g=>obj= .ref ⇑s/\g={s with heap:=G}) F.called_list (F.typeCall_list_1 (Value.ref I)) F.entry_list_init (code_list_new (Value.ref I) %[rfl|by rw[p]]) λobj g j=>?_
 have%[rfl|rfl]:=j;refine%[%[_,q|rfl],F.args_list_init_2 _ _|?_];show ↥A.in1.in1 (Builtin.«list.__init__» %[[.ref ⇑s,.ref I]|[]]) _ _ _;unfold Builtin.«list.__init__»;refine Z2 ?_;refine listItems_at (s:={s with heap:=G}) q rfl ?_;refine Z2 (listUpdate_at (s:={s with heap:=G}) q rfl ?_ (Xh _));have Y:=get?_update_self (Obj.mapSeq λ_=> #[]) q rfl;have f:∀b o,b≠⇑s->G.get? b=some o->(G.update ⇑s (Obj.mapSeq λ_=> #[])).get? b=some o:=λb o B e=>(get?_update_other _ _ (Ne.symm B)).trans e
 refine Z2 (wpAny_letGo ?_)
 generalize G.update ⇑s (Obj.mapSeq λ_=> #[])=h at Y f
 have C:I≠⇑s:=Zt v;have nl:l≠⇑s:=Zt y;have m:h.IsRevIter I l ((a.size:Int) -1):=O.at λo e=>f _ _ C (z _ _ e)
 have H:h.IsList l a:=let⟨o,i,r⟩:=U;%[o,f _ _ nl (z _ _ i)|r];have W:=Walks.listRev (prog:=prog) (w:=w) (A:=A.in1.in1) hh I l ne a;have n:(0<=a.size/\h.IsRevIter I l (↑a.size-1-((0:Nat):Int))/\h.IsList l a):=%[Xh _,by simpa using m|H]
 show ↥A.in1.in1 (Builtin.List.listExtendWith (.ref ⇑s) (.ref I) .none) _ _ {s with heap:=h};unfold Builtin.List.listExtendWith;have u:Shared.TypeIs {s with heap:=h} (.ref I) "list_reverseiterator":=m.typeIs;refine Z2 (wpAny_typeOf (T:="list_reverseiterator") u ?_);have n1:Builtin.List.listSameRef (.ref ⇑s) (.ref I)=false:=beq_eq_false_iff_ne.mpr (Ne.symm C);have n2:(Value.type "list_reverseiterator"==Value.type "list")=false:=by decide
 have n3:(Value.type "list_reverseiterator"==Value.type "tuple")=false:=by decide
 simp only[n1,n2,n3,Bool.or_false,Y1,if_false];refine Z2 (W.self 0 {s with heap:=h} _ _ n ?_);refine Z2 (wpAny_holding ?_);unfold Builtin.List.listLengthHint;refine Z2 (wpAny_specialOf (T:="list_reverseiterator") u yG ?_);show wpAny _ _ (specialOf (.ref I) (Str.ofString "__length_hint__")>>= _) _ _ _;refine Z2 (wpAny_specialOf u Bd ?_)
 wp_delta
 refine Z2 (wpAny_isInstance (T:="list_reverseiterator") (b:=true) u (by rw[isSubtype_type];kernel_rfl) ?_);simp only[Bool.not_true,Y1,if_false];rw[if_pos (by decide +kernel)];rw[if_neg (by decide)];refine Z3 ?_;rw[if_neg (by decide +kernel)];have J:⇑s∉[I,l]:=by
  simp only[Yx,X9,or_false,not_or];exact%[Ne.symm C|Ne.symm nl]
 refine Z3 %[plainId_quiet F.plain_extend_loop _|codeAny_extend_loopS W.toS hz _ J _ a.size 0 _ _ _ rfl (Xh _) n Y (ItemsOf.nil _) λs5 acc c5 L M d=>?_];refine%[rfl|hQ s5 acc c5 (λb o B e=>?_) L.gens L.os M ?_]
 .have nb:b≠⇑s:=Zt (Zv e);refine L.heap b o ?_ (f _ _ nb (z _ _ e));simp only[Yx,X9,or_false,not_or];exact%[nb|B]
 .apply ext_getElem?;intro k;have al:acc.toList.length=a.size:=Zb▸d.1;by_cases hk:k<a.size
  .have N:k<acc.size:=d.1▸hk;have:=d.2 k acc[k] ∅;rw[List.getElem?_reverse (hk),Zb,getElem?_toList,getElem?_toList,this];simp[N]
  .rw[Xo ⋯,Xo (by simp;lia)]
end
noncomputable def FF(n:Nat)(a l:Addr)(m:Nat):HO:= .ext λh=>n<=a/\h.IsRevIter a l (m-1)
theorem yH{X:Cx}:bR X (.type "reversed") (λxs H Q=>∃(l:Addr) (ys:List V),xs=[.ref l]/\SqL X.K H l ys/\∀r,H r=none->Q (.ref r) (upd H r (FF X.s₀.heap.objs.size r l ys.length))):=by
 intro pins s a H xs us Q I r h;have%[l,ys,rfl,c|q]:=h;have%[u,rfl|d]:=cP r;cases d;have%[its,f,pl|j]:=I.list c;refine call_reversed_list pl.isList ?_;have g:=I.hok.fresh (Zi _);have J:Inv X pins a H {s with heap:=(s.heap.push (revObj l (its.toArray.size-1)))}:=I.keptS (λb o e=>Z7 _ e) rfl rfl;refine%[.ref ⇑s,_,I.stoodS (o:=FF X.s₀.heap.objs.size ⇑s l ys.length) J (Zi _) %[%[I.sz|?_],%[_|Zj _ rfl]|λ_ _ ⟨i,x⟩ k=>%[i|x.at λo e=>k o e]],rfl|q _ g];rw[f.length,<-Zp];exact%[_,Zj _ rfl,rfl|rfl]
theorem Inv.dropped{X:Cx}(I:Inv X pins j H s)(l:H a=some (.ext i))(m:X.s₀.heap.objs.size<=a)(f:∀b o,b≠a->s.heap.get? b=some o->s'.heap.get? b=some o)(r:s'.gens=s.gens)(v:s'.os=s.os):Inv X pins j (drop H a) s':=by
 have ne:∀{b:Addr} {o:HO},H b=some o->(∀i,o≠ .ext i)->b≠a:=λe n z=>by
  grind
 have un:Un (frs X.stack) [a] H (drop H a) s.heap s'.heap:=by
  refine%[λb o e _ _ d=>f b o (by simpa using d) e,λb o e _ _ d=>%[o.slots|f b o (by simpa using d) e],λb o _ n _=>?_,λb o e d=>%[o|f b o (by simpa using d) e],λb xs e=>?_,λb o u e=>?_|λb ps e=>%[#[]|?_]]
  .unfold drop;split
   .rfl
   .exact n
  .rw[iN (ne e ∅)];exact e
  .rw[iN (ne e ∅)];exact e
  .rw[iN (ne e ∅)];simpa using e
 have g:HOk X.prog X.w (drop H a) s'.heap:=λb o e=>by
  have nb:b≠a:=λz=>by rw[z,yg]at e;cases e
  rw[iN nb]at e;refine(I.hok b o e).stay (λc u h q=>f c u ?_ q) (λc q=>?_) λc xs q=>?_
  .rcases h with rfl|h
   .exact nb
   .exact ne h ∅
  .rw[iN (ne q ∅)];exact q
  .rw[iN (ne q ∅)];exact q
 exact I.call' v un g (by rw[r];exact I.bare) λb w=>by
  obtain rfl:b=a:=by simpa using w
  refine%[.inr m,λz=>?_,λx c e z=>?_|λp y z=>?_]
  .have:=I.free;grind
  .have:=I.freeC x c e;grind
  .have:=(I.pin p y).2.1;rw[z,l]at this;cases this
theorem t7{X:Cx}(y:X.calm=true):bR X (.type "list") (λxs H Q=>∃(r l:Addr) (ys:List V),xs=[.ref r]/\H l=some (.lst ys)/\H r=some (FF X.s₀.heap.objs.size r l ys.length)/\∀p,drop H r p=none->p≠r->Q (.ref p) (upd (drop H r) p (.lst ys.reverse))):=by
 intro pins s L H xs us Q I r h;have%[a,l,ys,rfl,g,f|q]:=h;have%[u,rfl|A]:=cP r;cases A;have%[z,its,n,B,m|e]:=I.lstM g;have%[%[v|b]|_]:=I.hok a _ f;have i:l≠a:=λz=>by rw[z,f]at g;cases g
 have sz:its.toArray.size=ys.length:=by simp_all
 refine pB (I.ok.hd y) (by rw[sz];exact b) %[_,e,rfl,n|rfl] i (by rw[sz];exact z) λs' acc c C E j G d=>?_
 have w:=I.dropped f v (λ_ _ _ e=>e) rfl rfl;have J:=I.dropped f v C E j;have lt:=let⟨_,j,_⟩:=b;Zv j;refine%[.ref ⇑s,_,w.stoodS (o:= .lst ys.reverse) J (Zi _) %[?_,acc.toList,c,?_|?_],rfl|q _ (w.hok.fresh (Zi _)) (X3 lt)]
 .rw[List.length_reverse];exact z
 .rw[d];exact B.reverse
 .exact G
def t8(b:TE):TE:=λc H Q=>b c H λv a=>∃l ys,v= .ref l/\a l=some (.lst ys)/\∀p,a p=none->Q (.ref p) (upd a p (.lst ys.reverse))
theorem Be{X:Cx}(h:X.calm=true)(i:Gl X "reversed")(j:X.mg "reversed"=none)(a:Gl X "list")(b:X.mg "list"=none)(d:ba e=false)(m:QE X e n):
 QE X (.Call (.Name "list" o) [.Call (.Name "reversed" s) [e] [] u] [] w) (t8 n):=by
 have y:QE X (.Call (.Name _ s) [e] [] u) _:=ctE ⟨yH⟩ i j PyProof.Rows.boot_reversed rfl rfl (by simp[d]) (paE d (⟨Fk m.h⟩) ao);have z:=ctE (p:=o) (pos:=w) ⟨t7 h⟩ a b boot_list rfl rfl rfl (paE rfl y ao);refine⟨Fo z.h λB H Q q=>?_⟩;refine%[_,q|λv C ⟨l,ys,A,c,q⟩=>%[l,ys,by rw[A],SqL.of c|λr f=>?_]];refine%[r,l,ys,rfl,by rw[ak (av c f)];exact c,aa|λp g _=>?_];rw[AF f]at g ⊢;exact q p g
section
variable{X:Cx}
def FG:R2:=λx y H Q=>asR x λa=>asR y λb=>∃xs,H a=some (.lst xs)/\H b=some (.lst [])/\Q (.bl (decide (xs≠[]))) H
theorem FH(B:X.A.units+64<cLine):OpR X (compareOp .NotEq) FG:=by
 intro pins s C H x y v u Q I l m h;have%[a,rfl|o]:=eZ h;have%[b,rfl,xs,p,w|q]:=eZ o;cases l;cases m;have%[z,its,n,r,g|e]:=I.lstM p;have%[E,its2,i,G,d|c]:=I.lstM w;obtain rfl:its2=[]:=length_eq_zero_iff.mp d.symm;by_cases f:xs=[]
 .subst f;obtain rfl:its=[]:=length_eq_zero_iff.mp g.symm;exact richCompare_meets_room (op:= .NotEq) %[_,e|rfl] %[_,c|rfl] PySem.F.slot_list_ne PySem.F.entry_list_ne (PySem.F.args_list_ne_2 _ _) (SeqAt.list_neAt a b #[] #[] n i none none #[] #[] rfl λ_=>true) %[e,c,λj h=>absurd h (X8 j),by simp,.bl _,H,I,rfl|q] ⋯
 .have A:its.toArray.size≠0:=by
   rw[Zp,<-g];exact λq=>f (length_eq_zero_iff.mp q)
  rw[Zf f]at q;exact richCompare_meets_room (op:= .NotEq) %[_,e|rfl] %[_,c|rfl] PySem.F.slot_list_ne PySem.F.entry_list_ne (PySem.F.args_list_ne_2 _ _) (SeqAt.list_ne_lengthsAt a b its.toArray #[] n i none none #[] #[] (by simpa using A)) %[e,c,by simp,.bl true,H,I,rfl|q] ⋯
theorem DG(a:bQ k X.A):OpQ X (compareOp .NotEq) FG:=⟨FH a.units⟩
end
section
#where
theorem eQ(I:List i->j->Shared->Prop):∀(xs:List i) (b:j) (s:Shared),I xs b s->
 (∀x r b s,I (x::r) b s->↥A (f x b) (λy s'=>match y with| .done c=>Q c s'| .yield c=>I r c s') E s)->(∀b s,I [] b s->Q b s)->↥A (forIn xs b f) Q E s
 |[],b,s,h,_,a=>by
  exact Z3 (a b s h)
 | x::r,b,s,h,d,a=>by
   rw[forIn_cons];refine Z2 (wpAny_mono (d x r b s h) (λy s' g=>?_) λ_ _ e=>e);cases y with
   | done c=>exact Z3 g
   | yield c=>exact eQ I r c s' g d a
theorem Bf:∀c {Q:Bool->Shared->Prop},(∀b∈c,∃d,bi w b d s.heap)->Q true s->↥A (setsQuiet c) Q E s:=by
 intro c Q h l;refine Z2 (eQ (λr b s'=>(∀b∈r,∃d,bi w b d s.heap)/\b=(none,())/\s'=s) c _ s %[h,rfl|rfl] ?_ ?_)
 .intro x r b s' %[g,rfl|rfl];have%[d,o,m,G,t,ss,n,p,q,v,H,y,f,I,B,C|i]:=g x Zm;refine Z2 (wpAny_setEntries_of n q B (Z2 ?_));rw[<-forIn_toList];refine eQ (λr b a=>(∀e∈r,∃z u,e=(hashStr w z,Value.str z u))/\b=(none,())/\a=s') m.toList _ _ %[f,rfl|rfl] ?_ ?_
  .intro e r b a %[j,rfl|rfl];have%[z,u|rfl]:=j e Zm;exact Z3 %[λe h=>j e (Zk _ h),rfl|rfl]
  .intro b a %[_,rfl|rfl];exact Z3 %[λe h=>g e (Zk _ h),rfl|rfl]
 .intro b s' %[_,rfl|rfl];exact Z3 l
noncomputable def hsE(w:World)(p:Str×Tok):Int×Value:=(hashStr w p.1,.str p.1 p.2)
theorem bi.texts{a:Addr}{h:Heap}{o:Obj}{c:Array (Int×Value)}(d:StrsAre (c.toList.map (·.2)) ss)(g:ss.Perm ks)(f:∀e∈c.toList,∃z u,e=(hashStr w z,Value.str z u))(xs:List (Int×Value))(b:xs.Perm c.toList):∃zs:List (Str×Tok),xs=zs.map (hsE w)/\(zs.map (·.1)).Perm ks:=by
 have all:∀l,(∀e∈l,∃z u,e=(hashStr w z,Value.str z u))->∃zs:List _,l=zs.map (hsE w):=λl=>by
  induction l with
  | nil=>exact λ_=>%[[]|rfl]
  | cons e l i=>
    intro h;have%[z,u|rfl]:=h e Zm;have%[zs|rfl]:=i λx b=>h x (Zk _ b)
    exact%[(z,u)::zs|rfl]
 have%[zs|rfl]:=all xs λe j=>f e (b.mem_iff.mp j)
 refine%[zs,rfl|?_];have%[ts,m|n]:=cn d (b.map _);have e:ts=zs.map (·.1):=by
  rw[<-m.strs,Yt,Yt];rfl
 exact e▸n.trans g
theorem qo{f:List Addr}{c:ZI}{Q:Array (Int×Value)->Shared->Prop}(Y:bi w a ks s.heap)(hO:∀b∈f,∃js,bi w b js s.heap)(q:∀r,c=some r->r≠a/\bi w r [] s.heap)
 (hQ:∀(zs:List (Str×Tok)) (d:Drawn) (h':Heap),(zs.map (·.1)).Perm ks->(∀b o,c≠some b->s.heap.get? b=some o->h'.get? b=some o)->(∀r,c=some r->bi w r [] h')->Q (zs.map (hsE w)).toArray {s with heap:=h',drawn:=d}):
 ↥A (setWalkUnseen a f c) Q E s:=by
 have%[o,i,ep,t,ss,ho,ac,hd,L,hp,ag,M,J,hf,N|j]:=id Y;have g:∀(xs:List _) d h',xs.Perm i.toList->(∀b o,c≠some b->s.heap.get? b=some o->h'.get? b=some o)->(∀r,c=some r->bi w r [] h')->Q xs.toArray {s with heap:=h',drawn:=d}:=λxs d h' hx v h2=>by
  have%[zs,rfl|hz]:=bi.texts (a:=a) (h:=h') (o:=o) L hp M xs hx;exact hQ zs d h' hz v h2
 have walk:↥A (setWalk a) Q E s:=by
  refine Z2 (wpAny_setState_of ho hd hf ?_);show wpAny _ _ (if aV w=true then _ else _) _ _ _;by_cases O:aV w=true
  .rw[if_pos O];refine Z2 (wpAny_askSetting (Z3 ?_));have:=g (pickOrder (w.params.setOrder a ep) i).toList s.drawn s.heap (qb _ _) (λ_ _ _ e=>e) λr e=>(q r e).2
   exact this
  .rw[if_neg O]
   split
   .exact Z2 (rA i.size i.toList _ _ ∅ λys d p=>Z3 (g ys d s.heap p (λ_ _ _ e=>e) λr e=>(q r e).2))
   .refine Z2 ?_;show wpAny _ _ (if(!t.led&&decide _)=true then unsupported _ else pure ()) _ _ _;rw[j,show aV w=false by simpa using O];refine Z3 (Z3 ?_);have:=g i.toList s.drawn s.heap (.refl _) (λ_ _ _ e=>e) λr e=>(q r e).2
    exact this
 refine Z2 (wpAny_setState_of ho hd hf ?_);show wpAny _ _ (if(aV w||t.led&&t.plain||decide _)=true then _ else _) _ _ _;by_cases v:(aV w||t.led&&t.plain||decide (i.size<=1))=true
 .rw[if_pos v];exact walk
 .rw[if_neg v];refine Z2 (Bf _ (λb J=>?_) ?_)
  .rcases mem_cons.mp J with e|e
   .exact e▸%[_|Y]
   .exact hO b e
  refine Z2 (wpAny_rule ?_);cases c with
  | none=>
    have:=g i.toList s.drawn s.heap (.refl _) (λ_ _ _ e=>e) λr e=>(q r e).2
    exact Z3 this
  | some r=>
    have%[ne,o2,T,ai,u,al,l,y,m,B,U,C,G,H,I,ab|n]:=q r rfl;dsimp only;refine Z2 (wpAny_setState_of l m I ?_)
    split
    .refine Z2 (wpAny_storeSet_of l m ?_ (fits_of_scanBound H));have:=g i.toList s.drawn _ (.refl _) (λb o J e=>((SameBut.update s.heap r (Obj.putSet T {u with led:=u.led&&t.led,plain:=u.plain&&t.plain})).2 b λz=>J (by rw[z])).trans e) λr' e=>?_
     .exact Z3 this
     .cases e;exact(bi.stored (t':={u with led:=u.led&&t.led,plain:=u.plain&&t.plain}) l y m B U C G H I (by rw[(N λz=>v (by rw[z];simp)),Bool.and_false]) (by rw[n,j,Bool.and_self])).2
    .have:=g i.toList s.drawn s.heap (.refl _) (λ_ _ _ e=>e) λr e=>(q r e).2
     exact Z3 this
end
section
#where
theorem C8(h:jw (Sum.inr z) (Value.str y u)=true):y=z:=by
 rcases bj h with⟨i,t',a,b⟩|⟨c,t',a,b⟩
 .lia
 grind
theorem ua{ks:ZB}(i:s.heap.get? a=some o)(l:o.data= .set b H t)(c:∀e∈b.toList,∃z u,e=(hashStr w z,Value.str z u))(C:b.size<scanBound)(m:t.fits b.size=true)
 (n:∀r,(r=none->∀e∈b.toList,∀u,e.2≠ .str z u)->(∀j,r=some j->∃u,b.toList[j]? =some (hashStr w z,.str z u))->Q r s):↥A (setFind a (.str z tk) (hashStr w z)) Q E s:=by
 have p:ElemsOf (aE prog w) b.toList:=p9 c;have d:(aE prog w).is (Sum.inr z) (.str z tk)=true:=du z tk;refine Z2 (wpAny_setState_of i l m ?_);dsimp only;rw[byScan_of rfl C p];refine Z2 (wpAny_rule (Z2 (wpAny_setScan_of d i l m p ?_)));cases v:List.findIdx? _ b.toList with
 | some j=>
   have%[B,f|_]:=List.findIdx?_eq_some_iff_getElem.mp v;dsimp only;rw[zero_add];refine Z3 (n _ (λh=>(nomatch h)) λI e=>?_);cases e;have%[y,u|g]:=c _ (Ye B);rw[g]at f;rw[C8 (u:=u) f]at g;exact%[u|by rw[Z4 B,g]]
 | none=>
   refine Z3 (n none (λ_ e G u q=>?_) λj e=>(nomatch e));have:=List.findIdx?_eq_none_iff.mp v e G;rw[q,show(aE prog w).is (Sum.inr z) (Value.str z u)=true from du z u]at this;cases this
theorem yI{t:SetTable}(h:t.fits n=true)(hi:i<n):(t.drop i).fits (n-1)=true/\(t.drop i).led=t.led/\(t.drop i).plain=t.plain:=by
 unfold SetTable.fits at h ⊢;rw[Zx,beq_iff_eq,decide_eq_true_eq]at h;unfold SetTable.drop;have:t.place[i]? =some t.place[i]:=by simp
 rw[this];refine%[?_,rfl|rfl];rw[Zx,beq_iff_eq,decide_eq_true_eq];unfold SetTable.fill at h ⊢;simp only[SetTable.eraseAt,SetTable.insertAt,size_append,Array.size_extract,Xl]
 lia
theorem vZ(h:i<a.size):(SetTable.eraseAt a i).toList=a.toList.eraseIdx i:=by
 rw[List.eraseIdx_eq_take_drop_succ,SetTable.eraseAt,Xg,toList_extract,toList_extract,List.extract_eq_take_drop,List.extract_eq_take_drop];simp;exact Zn ∅
theorem ub{ks:ZB}(I:bi w a ks s.heap)(m:∀h' b,SameBut a s.heap h'->bi w a (ks.erase z) h'->Q b {s with heap:=h'}):↥A (setDiscardHashed a (.str z tk) (hashStr w z)) Q E s:=by
 have%[o,c,ep,t,ss,h,n,j,d,J,p,f,L,v,y|g]:=id I;refine Z2 (ua (ks:=ks) h j f L v λr M N=>?_);cases r with
 | none=>
   have O:z∉ks:=λq=>by
    have%[u|l]:=(dQ d).mpr (J.mem_iff.mpr q);have%[e,B|T]:=Xs l;exact M rfl e B u T
   rw[List.erase_of_not_mem O]at m;exact Z3 (m s.heap false (SameBut.refl a s.heap) I)
 | some i=>
   have%[u|l]:=N i rfl;have hi:i<c.size:=(Xp l).1;have C:((hashStr w z,Value.str z u)::(SetTable.eraseAt c i).toList).Perm c.toList:=by
    rw[vZ hi];have:=gc (xs:=c.toList) (hi);rwa[(Xp l).2]at this
   have%[ts,G|U]:=cn d (C.map _);cases G with
   | cons _ _ G=>
   have%[Y,d2|d3]:=yI v hi;have H:(SetTable.eraseAt c i).size=c.size-1:=by
    rw[<-Zb,<-Zb,<-C.length_eq];simp
   refine Z2 (wpAny_setState_of h j v ?_);dsimp only;refine Z2 (wpAny_storeSet_of h j (Z2 (wpAny_point (Z3 (m _ true (SameBut.update s.heap a _) (bi.stored h n j G ((List.cons_perm_iff_perm_erase.mp (U.trans J)).2) (p.erase z) (λe B=>f e (C.mem_iff.mp (Zk _ B))) ?_ ?_ ?_ ?_).2)))) (fits_of_scanBound ?_))
   .lia
   .exact H▸Y
   .exact d3▸y ⋯
   .exact d2▸g
   .lia
end
theorem wX(h:STab.WF t a)(b:a.size<=t.mask):t.fits a.size=true:=by
 unfold SetTable.fits SetTable.fill;rw[h.size,h.dum];simpa using b
section
#where
def rX(w:World)(a:Addr)(n:Nat)(h:Heap):Prop:=∃o b t,h.get? a=some o/\o.ExactSet/\o.data= .set #[] b t/\t.place= #[]/\t.dummies= #[]/\t.led=(!aV w)/\(∃k,t.mask+1=2^k)/\7<=t.mask/\n<=t.mask
theorem rX.fits{t:SetTable}(a:t.place= #[])(b:t.dummies= #[]):t.fits (#[]:Array (Int×Value)).size=true:=by
 unfold SetTable.fits SetTable.fill;rw[a,b];simp
theorem C9{n:Nat}{Q:Unit->Shared->Prop}(a:s.heap.get? r=some (aX w))(f:n<=1000)(c:∀h',SameBut r s.heap h'->rX w r n h'->Q () {s with heap:=h'}):↥A (setRoomFor r n) Q E s:=by
 have d:(SetTable.fresh 0 0 (!aV w)).fits _=true:=rX.fits rfl rfl;refine Z2 (wpAny_setState_of a rfl d ?_);show wpAny _ _ (match(if(0+n)*5>=7*3 then some ((0+n)*2)else none)with|some x=>setRelay r x|_=>pure ()) _ _ _;by_cases h:(0+n)*5>=7*3
 .rw[if_pos h];refine STab.relay_w a rfl d ∅ ⋯ λb t' P W l p g m2=>c _ (SameBut.update s.heap r _) ?_
  obtain rfl:b= #[]:=by
   have:=P.length_eq;simpa using this
  have e:=by
   have q:=get?_update_self (Obj.putSet #[] t') a (by rfl);rwa[putSet_of #[] t' rfl]at q
  exact%[_,_,t',e,%[rfl,rfl|rfl],rfl,Array.eq_empty_of_size_eq_zero W.size,W.dum,l,W.pow,W.big|⋯]
 .rw[if_neg h];exact Z3 (c s.heap (SameBut.refl r s.heap) %[_,_,_,a,%[rfl,rfl|rfl],rfl,rfl,rfl,rfl,%[3|rfl],Zi 7|by show n<=7;lia])
theorem Bg{ks:ZB}(M:bi w a ks s.heap)(N:s.heap.get? r=some (aX w))(ne:r≠a)(h1:1<=ks.length)(h2:ks.length<=1000)(O:∀h',SameBut r s.heap h'->bi w r ks h'->Q () {s with heap:=h'}):↥A (setMerge r a) Q E s:=by
 have%[o,d,ep,t,ss,T,U,Y,n,G,z,B,hb,H,C|g]:=id M;have hn:d.size=ks.length:=by
  have q:=bB n;rw[Z6,Zb,G.length_eq]at q;exact q
 have pl:t.plain=false:=C ⋯;unfold setMerge;rw[if_neg (by simpa using ne)];refine Z2 (wpAny_setState_of T Y H ?_);dsimp only;rw[if_neg (λh:d.isEmpty=true=>by have:=Zo h;lia)];refine Z2 (C9 N ⋯ λh' sb ⟨o2,ab,u,i,v,j,I,J,L,k2,b2,m2⟩=>Z2 (wpAny_setState_of (s:={s with heap:=h'}) i j (rX.fits I J) ?_));dsimp only;have m:u.fill=0:=by unfold SetTable.fill;rw[I,J];rfl
 have put:∀(b:Array (Int×Value)) (t':SetTable),b.toList.Perm d.toList->t'.fits b.size=true->t'.plain=false->t'.led=(!aV w)->↥A (storeSet r b t') Q E {s with heap:=h'}:=λb t' P f p l=>by
  have sz:b.size=d.size:=by rw[<-Zb,P.length_eq,Zb]
  have%[ts,r1|r2]:=cn n (P.map (·.2));exact wpAny_storeSet_of (s:={s with heap:=h'}) i j (O _ (sb.trans (SameBut.update h' r _)) (bi.stored (w:=w) i v j r1 (r2.trans G) z (λe he=>B e (P.mem_iff.mp he)) ⋯ f p l).2) (fits_of_scanBound ⋯)
 unfold SetTable.road;rw[m,if_neg (by decide)]
 split
 .exact put d _ (.refl _) H (by show(u.plain&&t.plain)=false;rw[pl,Bool.and_false]) (by show(u.led&&t.led)=_;rw[L,g,Bool.and_self])
 .have%[k|hk]:=k2;have%[t',c,e1,e2,e3,e4,e5,W|P]:=STab.laid_ok hk b2 d ⋯ u.finger u.moves _ _;have sz:(c.filterMap (d[·]?)).size=d.size:=by rw[<-Zb,P.length_eq,Zb]
  rw[e1];refine Z2 ?_;show wpAny _ A (if((c.filterMap _).size != d.size)=true then _ else pure _) _ E _;rw[if_neg (by simp[sz])];exact Z3 (put _ t' P (show t'.fits _=true from wX W (by rw[sz,e2];lia)) (by rw[e4,pl,Bool.and_false]) (by rw[e3,L,g,Bool.and_self]))
 .rename_i y
  split at y<;> cases y
end
theorem bi.nd(S:bi w a ks h):ks.Nodup:=by
 have%[_,_,_,_,_,_,_,_,_,_,h|_]:=S;exact h
section
#where
theorem rY(c:bi w b f s.heap)(d:Q true s):↥A (Builtin.Frozenset.isAnySet (.ref b)) Q E s:=by
 have%[o,g,h,t,ss,e,a|_]:=c;exact Z2 (wpAny_isInstance (b:=true) %[o,e|a.1] (by kernel_rfl) (Z3 d))
theorem jS(d:bi w b e s.heap)(f:Q e.length s):↥A (Builtin.Frozenset.sizeOf b) Q E s:=by
 have%[o,u,v,t,ss,g,h,i,a,j,l,m,y,n,p|c]:=d;have r:=by
  have q:=bB a;rw[Z6,Zb,j.length_eq]at q;exact q
 exact Z2 (wpAny_setEntries_of g i n (Z3 (r▸f)))
theorem Bh(M:bi w r ks s.heap)(N:bi w b O s.heap)(ne:r≠b)(big:O.length<ks.length)(an:ks.length<=900)
 (hQ:∀h' d ms,(∀c o,c≠r->s.heap.get? c=some o->h'.get? c=some o)->(∀x,x∈ms↔x∈ks/\x∉O)->bi w r ms h'->Q () {s with heap:=h',drawn:=d}):↥A (Builtin.Frozenset.differenceUpdate nm r (.ref b)) Q E s:=by
 unfold Builtin.Frozenset.differenceUpdate;rw[if_neg (by simpa using ne.symm)];refine Z2 (rY N ?_);rw[if_pos rfl];refine Z2 (Z3 (Z2 (jS N (Z2 (jS M ?_)))));rw[if_neg ⋯];have%[o,es,ep,t,ss,ho,aq,hd,as,hp,aR,aU,hb,hf,a0|al]:=id N;have y:∀(s':Shared) (Y:Nat->Shared->Prop),s'.heap.get? b=some o->Y ep s'->↥A (setEpoch b) Y E s':=λs' Y e q=>by
  unfold setEpoch;exact Z2 (wpAny_setState_of e hd hf (Z3 q))
 refine Z2 (y s _ ho (Z2 (wpAny_holding (Z2 (qo N (λc i=>%[ks|(Xr i)▸M]) (λ_ e=>(nomatch e)) λzs d h1 pz k1 _=>Z2 ?_)))));rw[<-forIn_toList];refine eQ (λxs _ s'=>∃f rest h',zs=f++rest/\xs=rest.map (hsE w)/\s'={s with heap:=h',drawn:=d}/\(∀c o,c≠r->s.heap.get? c=some o->h'.get? c=some o)/\∃ms,bi w r ms h'/\∀x,x∈ms↔x∈ks/\x∉f.map (·.1)) _ _ _
  %[[],zs,h1,rfl,rfl,rfl,λc o _ e=>k1 c o ∅ e,ks,M.keep λo e=>k1 r o ∅ e|by simp] ?_ ?_
 .intro x xs _ s' %[f,rest,h',T,ex,rfl,U,ms,S|g];cases rest with
  | nil=>cases ex
  | cons p rest=>
  rw[Ys]at ex;injection ex with ab ac
  subst ab;refine Z2 (wpAny_holding (ub (z:=p.1) (tk:=p.2) (s:={s with heap:=h',drawn:=d}) S λh2 bb sb S2=>Z2 ?_));unfold Builtin.Frozenset.unchanged;have B:∀c o,c≠r->s.heap.get? c=some o->h2.get? c=some o:=λc o i e=>(sb.2 c i).trans (U c o i e)
  refine Z2 (y {s with heap:=h2,drawn:=d} _ (B b o ne.symm ho) ?_);rw[if_neg ∅];refine Z3 (Z3 %[f++[p],rest,h2,by rw[T,Ze];rfl,ac,rfl,B,_,S2|λx=>?_]);rw[S.nd.mem_erase_iff,g,Zd,Yu,Ys,map_nil,X1,not_or]
  constructor
  .exact λ⟨a,b,c⟩=>%[b,c|a]
  .exact λ⟨b,c,a⟩=>%[a,b|c]
 .intro _ s' %[f,rest,h',T,ex,rfl,U,ms,S|g];obtain rfl:rest=[]:=by
   cases rest with
   | nil=>rfl
   | cons p rest=>cases ex
  rw[Zz]at T;have g:∀x,x∈ms↔x∈ks/\x∉O:=λx=>by rw[g,<-T,pz.mem_iff]
  have ag:ms.length≠0:=λe=>by
   have:=STab.nodup_sub M.nd (m:=O) λx hx=>Decidable.byContradiction λq=>by
    have:=(g x).mpr %[hx|q];rw[length_eq_zero_iff.mp e]at this;cases this
   lia
  have sub:=STab.nodup_sub S.nd λx hx=>((g x).mp hx).1
  refine Z3 ?_;have%[o2,j,a1,t2,a2,n,C,u,h,G,H,I,a3,J,L|v]:=id S;have hn:=by
   have q:=bB h;rw[Z6,Zb,G.length_eq]at q;exact q
  refine Z2 (wpAny_setState_of n u J ?_);dsimp only
  split
  .rw[show SetTable.grown j.size=j.size*4 by unfold SetTable.grown;rw[if_neg ⋯]];refine STab.relay_w n u J ⋯ ⋯ λai t' P W l p m1 m2=>?_
   have sz:ai.size=j.size:=by rw[<-Zb,P.length_eq,Zb]
   have%[ts,r1|r2]:=cn h (P.map (·.2));exact hQ _ d ms (λc o i e=>((SameBut.update h' r _).2 c i).trans (U c o i e)) g (bi.stored n C u r1 (r2.trans G) H (λe he=>I e (P.mem_iff.mp he)) ⋯ (wX W ⋯) (p▸L ⋯) (l▸v)).2
  .exact Z3 (hQ h' d ms U g S)
end
section
#where
theorem uc(a:Q (.ref ⇑s) {s with heap:=s.heap.push (aX w)}):↥A (newSet (.type "set")) Q E s:=by
 exact Z2 (Z2 (wpAny_askSetting (Z3 (wpAny_newObj_type a))))
theorem ud(d:bi w a ks s.heap)(e:Q (.type "set") s):↥A (Builtin.Frozenset.baseOf a) Q E s:=by
 have%[o,g,h,t,ss,f,c|_]:=d;exact Z2 (wpAny_isInstance (b:=true) %[o,f|c.1] (by kernel_rfl) (Z3 e))
theorem Da(n:bi w a ks s.heap)(B:bi w b H s.heap)(ab:ks.length<=900)
 (hQ:∀h' d ms,(∀c o,s.heap.get? c=some o->h'.get? c=some o)->(∀x,x∈ms↔x∈ks/\x∉H)->bi w ⇑s ms h'->Q (.ref ⇑s) {s with heap:=h',drawn:=d}):↥A (Builtin.Frozenset.difference nm a (.ref b)) Q E s:=by
 have lt:∀{c:Addr} {ls:ZB},bi w c ls s.heap->c≠⇑s:=λ{c ls} h=>by
  have%[o,_,_,_,_,T|_]:=h;exact Zt (Zv T)
 have I:∀c o,s.heap.get? c=some o->(s.heap.push (aX w)).get? c=some o:=λc o e=>Z7 _ e
 have U:(s.heap.push (aX w)).get? ⇑s=some (aX w):=Zj _ rfl;have Y:=n.keep λo e=>I a o e
 have O1:=B.keep λo e=>I b o e
 unfold Builtin.Frozenset.difference;dsimp only;refine Z2 (rY B ?_);rw[if_neg (by decide)];refine Z2 (Z3 ?_);rw[if_neg ∅,if_pos rfl];refine Z2 (jS B (Z2 (jS n ?_)))
 generalize hG:s.heap.push (aX w)=G at I U Y O1
 split
 .refine Z2 (wpAny_rule (Z2 ?_));unfold Builtin.Frozenset.copyOf;refine Z2 (ud n (Z2 (uc ?_)));rw[hG];refine Z2 (Z3 (Z2 (Bg (s:={s with heap:=G}) Y U (Ne.symm (lt n)) ⋯ ⋯ λh1 sb R1=>Z3 ?_)));have k1:∀c o,s.heap.get? c=some o->h1.get? c=some o:=λc o e=>(sb.2 c (Zt (Zv e))).trans (I c o e)
  exact Z2 (Z3 (Z2 (wpAny_holding (Bh (s:={s with heap:=h1}) R1 (B.keep λo e=>k1 b o e) (Ne.symm (lt B)) ⋯ ab λi d ms k2 v M=>Z3 (hQ i d ms (λc o e=>k2 c o (Zt (Zv e)) (k1 c o e)) v M)))))
 .refine Z2 (ud n (Z2 (uc ?_)));rw[hG];refine Z2 (Z3 ?_);have%[o,es,ep,t,ss,T,a1,hd,a2,hp,a3,a4,hb,hf,a5|as]:=id Y;have J:∀(s':Shared) (Q':Nat->Shared->Prop),s'.heap.get? a=some o->Q' ep s'->↥A (setEpoch a) Q' E s':=λs' Q' e q=>by
   unfold setEpoch;exact Z2 (wpAny_setState_of e hd hf (Z3 q))
  refine Z2 (J {s with heap:=G} _ T ?_);rw[if_pos rfl];refine Z2 (wpAny_holding (Z2 (qo (s:={s with heap:=G}) Y (λc y=>?_) (λr e=>⟨by cases e;exact Ne.symm (lt n),by cases e;exact bi.empty U⟩) λzs d h1 pz k1 r1=>Z2 ?_)))
  .simp only[Yx,X9,or_false]at y;rcases y with rfl|rfl
   .exact%[_|O1]
   .exact%[_|bi.empty U]
  rw[<-forIn_toList];refine eQ (λxs _ s'=>∃f rest h',zs=f++rest/\xs=rest.map (hsE w)/\s'={s with heap:=h',drawn:=d}/\(∀c o,c≠⇑s->G.get? c=some o->h'.get? c=some o)/\∃ms,bi w ⇑s ms h'/\ms.length<=f.length/\∀x,x∈ms↔x∈f.map (·.1)/\x∉H) _ _ _
   %[[],zs,h1,rfl,rfl,rfl,(λc o y e=>k1 c o (λq=>y (Za q).symm) e),[],r1 _ rfl,Zi _|by simp] ?_ ?_
  .intro x xs _ s' %[f,rest,h',C,ex,rfl,g,ms,M,ml|v];cases rest with
   | nil=>cases ex
   | cons p rest=>
   rw[Ys]at ex;injection ex with ac L
   subst ac;have zl:zs.length=ks.length:=by rw[<-pz.length_eq,Z6]
   have pl:f.length<ks.length:=by rw[<-zl,C,Z9,Zr];lia
   rw[if_pos rfl];have l:∀(i:Heap) Qx,(∀c o,c≠⇑s->G.get? c=some o->i.get? c=some o)->Qx (.yield ⟨⟩) {s with heap:=i,drawn:=d}->↥A (Builtin.Frozenset.unchanged nm a ep>>= λ_=>pure (ForInStep.yield PUnit.unit)) Qx E {s with heap:=i,drawn:=d}:=λi Qx k2 q=>by
    refine Z2 ?_;unfold Builtin.Frozenset.unchanged;refine Z2 (J {s with heap:=i,drawn:=d} _ (k2 a o (lt n) T) ?_);rw[if_neg ∅];exact Z3 (Z3 q)
   have mem:∀x,x∈(f++[p]).map (·.1)↔x∈f.map (·.1)\/x=p.1:=λx=>by rw[Zd,Yu,Ys,map_nil,X1]
   have%[o2,a6,a7,t2,bc,ag,aR,ai,m,N,aU,O,al,an,a0|aq]:=id O1;refine Z2 (wpAny_holding (Z2 (ua (ks:=H) (z:=p.1) (tk:=p.2) (g b o2 (lt B) ag) ai O al an λq q1 q2=>Z2 (Z3 ?_))));cases q with
   | none=>
     have hz:p.1∉H:=λz=>by
      have%[u|hu]:=(dQ m).mpr (N.mem_iff.mpr z);have%[e,he|q3]:=Xs hu;exact q1 rfl e he u q3
     rw[if_pos (by rfl)];refine Z2 (jF (z:=p.1) (tk:=p.2) M (by rw[show scanBound=4096 from rfl];lia) λi bb sb M2=>Z3 ?_);have k2:=λc o y e=>(sb.2 c y).trans (g c o y e)
     refine l i _ k2 %[f++[p],rest,i,by rw[C,Ze];rfl,L,rfl,k2,_,M2,?_|λx=>?_]
     .rw[Z9,Ym]
      split
      .lia
      .rw[Z9,Ym];lia
     .rw[mem];by_cases hx:x=p.1
      .subst hx;refine%[λ_=>%[.inr rfl|hz]|λ_=>?_]
       split
       .rename_i h;exact h
       .exact Yw _ Zm
      .split
       .rw[v];exact%[λh=>%[.inl h.1|h.2]|λh=>%[h.1.resolve_right hx|h.2]]
       .rw[Yu,X1,v];exact%[λh=>let h:=h.resolve_right hx;%[.inl h.1|h.2]|λh=> .inl %[h.1.resolve_right hx|h.2]]
   | some j=>
     have hz:p.1∈H:=by
      have%[u|hu]:=q2 j rfl;exact N.mem_iff.mp ((dQ m).mp %[u|Xt %[_,Z8 hu|rfl]])
     rw[if_neg ∅];refine Z3 (l h' _ g %[f++[p],rest,h',by rw[C,Ze];rfl,L,rfl,g,ms,M,by rw[Z9];lia|λx=>?_]);rw[v,mem];refine%[λh=>%[.inl h.1|h.2]|λh=>%[h.1.resolve_right λe=>h.2 (e▸hz)|h.2]]
  .intro _ s' %[f,rest,h',C,ex,rfl,g,ms,M,ml|v];obtain rfl:rest=[]:=by
    cases rest with
    | nil=>rfl
    | cons p rest=>cases ex
   rw[Zz]at C;exact Z3 (Z3 (hQ h' d ms (λc o e=>g c o (Zt (Zv e)) (I c o e)) (λx=>by rw[v,<-C,pz.mem_iff]) M))
end
theorem rZ:entryFor table "set.__sub__"=some Builtin.«frozenset.__sub__»:=entryFor_alias (id':="frozenset.__sub__") (by kernel_rfl) rfl (by decide +kernel) (by kernel_rfl)
section
variable{X:Cx}
def Bi(w:World):R2:=λx y H Q=>asR x λa=>asR y λb=>∃ks c,H a=some (fB w a ks)/\H b=some (fB w b c)/\ks.length<=900/\∀l ms,H l=none->(∀x,x∈ms↔x∈ks/\x∉c)->ms.Nodup->Q (.ref l) (upd H l (fB w l ms))
theorem Db:OpR X (binaryOp .Sub) (Bi X.w):=by
 intro pins s z H x y v u Q I j l h;have%[a,rfl|m]:=eZ h;have%[b,rfl,ks,A,n,p,e|q]:=eZ m;cases j;cases l;have%[S,_|_]:=(I.hok a _ n)
 have%[O,_|_]:=(I.hok b _ p)
 have f:∀{c:Addr} {ls:ZB},bi X.w c ls s.heap->s.TypeIs (.ref c) _:=λ{c ls} h=>by
  have%[o,B,C,t,ss,g,i|_]:=h;exact%[o,g|i.1]
 refine wpAny_binaryOp_same (f S) (f O) F.fills_set_sub F.slot_set_sub (wpAny_call_entry F.slot_set_sub (f S) rZ (Z2 (Z2 (Z3 (Z3 (Z2 (Z2 (rY S (rY O (Z2 (Z3 (Z2 (Da S O e λh' d ms k r M=>Z3 %[_,rfl,by simp,.ref ⇑s,_,I.stoodS (o:=fB X.w ⇑s ms) (I.keptS k rfl rfl) (Zi _) %[M,?_|λ_ _ w k1=>bi.keep w k1],rfl|q _ ms (I.hok.fresh (Zi _)) r M.nd])))))))))))) (F.args_set_sub_2 _ _));have%[o,_,_,_,_,g|_]:=M;exact%[o|g]
theorem FI(h:X.w=w):OpQ X (binaryOp .Sub) (Bi w):=by subst h;exact⟨Db⟩
end
theorem mH{X:Cx}(a:bQ k X.A)(b:behindInMarks .NotIn o=false)(hi:QE X i ty)(c:QE X o d):QT X (.Compare i [.NotIn] [o] pos) (tB (re ty d)):=
 ⟨zd (xR (by have:=a.units;lia) hi.h c.h) b⟩
open PySem PySem.Spec PyProof.Rows PySem.SeqAt
section
variable{X:Cx}
end
section
variable{X:Cx}{K:ZA}{pos:Pos}
theorem ae(i:Nat){x:Str}(h:(X.N[i]?,X.env.scope.names.lookup x,x==("__debug__":Str),x==("__classdict__":Str))=(some x,some .local,false,false)):QE X (.Name x pos) (lV i):=by
 simp only[Prod.mk.injEq]at h;exact vn i h.1 (.inl h.2.1) h.2.2.1 h.2.2.2
theorem cH(i:Nat){x:Str}(h:(X.N[i]?,X.env.scope.names.lookup x,x==("__debug__":Str),x==("__classdict__":Str))=(some x,some .cell,false,false)):QE X (.Name x pos) (lV i):=by
 simp only[Prod.mk.injEq]at h;exact vn i h.1 (.inr (.inl h.2.1)) h.2.2.1 h.2.2.2
theorem aS{mg:ZC}{j k:Nat}{x:Str}{ps:ZB}{sp:Sp}{p:Pos}{e:Expr}{a:List Expr}{t:TA}(C:Cal X.prog X.w K mg X.base j x ps sp)(b:bQ k X.A)(h:(X.K,X.mg,X.env.kindOf x,Nat.ble j k,x==("__debug__":Str),(e::a).any ba)=(K,mg,some .globalImplicit,true,false,false))(c:QA X (e::a) t):QE X (.Call (.Name x p) (e::a) [] pos) (sK sp [] E0 t):=by
 simp only[Prod.mk.injEq]at h;have%[rfl,rfl|h]:=h;exact calE C b h.1 h.2.1 h.2.2.1 h.2.2.2 c
theorem DH{mg:ZC}{j k:Nat}{x:Str}{ps:ZB}{sp:Sp}{p:Pos}{e:Expr}{a:List Expr}{t:TA}(C:C1 X.prog X.w K mg X.base j x ps sp)(c:tY K mg x)(b:bQ k X.A)(h:(X.K,X.mg,X.env.kindOf x,Nat.ble (j+1) k,x==("__debug__":Str),(e::a).any ba)=(K,mg,some .globalImplicit,true,false,false))(d:QA X (e::a) t):QE X (.Call (.Name x p) (e::a) [] pos) (wE (be mg x) sp [] E0 t):=by
 simp only[Prod.mk.injEq]at h;have%[rfl,rfl|h]:=h;exact GQ C c b h.1 h.2.1 h.2.2.1 h.2.2.2 d
theorem nQ{mg:ZC}{j k:Nat}{x m:Str}{ps:ZB}{sp:Sp}{a:Pos}{o:Expr}{b:TE}{pl:Sem Bool}(C:yw X.prog X.w K mg X.base j x m ps sp)(c:tY K mg x)(e:bQ k X.A)(h:(X.K,X.mg,Nat.ble j k)=(K,mg,true))
 (g:eval (.Call (.Attribute o m a) [] [] pos) X.env=(do
  let d<-eval o X.env
  standAt a.atName
  let(f,first)<-holding [d] (getMethod d m pl)
  callWith pos f first (backTo pos (starEach [] X.env)) (backToKw pos (keywordEach [] X.env)))) (i:QE X o b):QE X (.Call (.Attribute o m a) [] [] pos) (wD (be mg x) m sp [] E0 b xI):=by
 simp only[Prod.mk.injEq]at h;have%[rfl,rfl|h]:=h;exact Fz C c e h g i
theorem cbO{x:Str}{id:String}{r:List V->Hp->VK->Prop}{p:Pos}{e:Expr}{a:List Expr}{t:TA}(b:cj X (.builtin id) r)(c:X.mg x=none)(d:bootBuiltins x=some (.builtin id))(h:(X.env.kindOf x,x==("__name__":Str),x==("__debug__":Str),(e::a).any ba)=(some .globalImplicit,false,false,false))(f:QA X (e::a) t):QE X (.Call (.Name x p) (e::a) [] pos) (tCB r t):=by
 simp only[Prod.mk.injEq]at h;exact cbE b h.1 c d h.2.1 h.2.2.1 h.2.2.2 f
theorem ctO{x:Str}{T:String}{r:List V->Hp->VK->Prop}{p:Pos}{e:Expr}{a:List Expr}{t:TA}(b:cj X (.type T) r)(c:X.mg x=none)(d:bootBuiltins x=some (.type T))(h:(X.env.kindOf x,x==("__name__":Str),x==("__debug__":Str),(e::a).any ba)=(some .globalImplicit,false,false,false))(f:QA X (e::a) t):QE X (.Call (.Name x p) (e::a) [] pos) (tCB r t):=by
 simp only[Prod.mk.injEq]at h;exact ctE b h.1 c d h.2.1 h.2.2.1 h.2.2.2 f
theorem bmO{o e:Expr}{c:List Expr}{f:TE}{t:TA}{name:Str}{a b:Pos}{T id:String}{r:V->List V->Hp->VK->Prop}(g:PlainAttrs T)(slot:Slot T name id)(d:typeOf (.builtin id)=pure (.type "method_descriptor"))(i:MtQ X id r)
 (h:(X.K,fZ o,(e::c).any ba,Nat.blt (e::c).length 30,a.endLine==b.line)=(K,false,false,true,true)) (j:QE X o f) (l:QA X (e::c) t):QE X (.Call (.Attribute o name a) (e::c) [] b) (tBM K T r f t):=by
 simp only[Prod.mk.injEq]at h;have%[rfl|h]:=h;exact bmE rfl g slot d i h.1 h.2.1 h.2.2.1 h.2.2.2 j l
theorem aQ(i:Nat){x:Str}{e:Expr}{b:TE}{a:Pos}(c:X.N.Nodup)(h:(X.N[i]?,X.env.scope.names.lookup x,e8 e)=(some x,some .local,false))(d:QE X e b):QS X (.Assign [.Name x a] e pos) (qQ b (iZ i)):=by
 simp only[Prod.mk.injEq]at h;exact oZ i c h.1 (.inl h.2.1) (.inr h.2.1) h.2.2 d
theorem aM(i:Nat){x:Str}(a:X.N.Nodup)(h:(X.N[i]?,X.env.scope.names.lookup x)=(some x,some .local)):QG X (.Name x pos) (iZ i):=by
 simp only[Prod.mk.injEq]at h;exact wH i a h.1 (.inl h.2) (.inr h.2)
end
section
#where
variable{K:ZA}{x C:Addr}{name:Str}{v:Value}{ox:Obj}
end
section
variable{X:Cx}{o value:Expr}{nm:Str}{ta tv:TE}{C:Addr}{pos pos':Pos}
end
section
variable{P:Program}{w:World}{K:ZA}{mg:ZC}{base:Heap}{x qual:Str}{st:Stmt}{N ps:ZB}{k:Nat}{sp:Sp}
end
noncomputable def nR:V->Bool
 | .byt _=>false
 | .flt _=>false
 | _=>true
theorem gA(r:aD xs us)(h:j<us.toArray.size):∃x,xs[j]? =some x/\aO x us.toArray[j]:=by
 have l:=h;have a:j<xs.length:=r.length▸l;have%[u,b|c]:=r.get (i:=j) (x:=xs[j]) ∅
 simp_all
theorem qq{A:Around}{s:Shared}{x:V}{u v:Value}(e:nR x=true)(a:aO x u)(c:aO x v):EqAt A s u v true:=by
 cases x with
 | int i=>
   have%[t|rfl]:=a;have%[d|rfl]:=c;have:=EqAt.int_int (A:=A) (s:=s) i t i d;rwa[beq_self_eq_true]at this
 | str z=>
   have%[t|rfl]:=a;have%[d|rfl]:=c;have:=EqAt.str_str (A:=A) (s:=s) z t z d;rwa[beq_self_eq_true]at this
 | byt b=>cases e
 | flt b=>cases e
 | _=>cases a;cases c;exact EqAt.same _
def Bj(H:Hp)(x y:V):Prop:=(x=y/\nR x=true)\/∃a b xs,x= .ref a/\y= .ref b/\H a=some (.lst xs)/\H b=some (.lst xs)/\xs.all nR=true
theorem Bk{xs:List V}(h:xs.all nR=true){j:Nat}{x:V}(e:xs[j]? =some x):nR x=true:=all_eq_true.mp h x (Z8 e)
section
variable{X:Cx}{pins:ZE}{σ:St}{H:Hp}{s:Shared}
theorem v4(I:Inv X pins σ H s){A:Around}(h:Bj H x y)(n:A.units<cLine)(f:aO x u)(g:aO y v):EqAt A s u v true:=by
 rcases h with⟨rfl,d⟩|⟨a,b,xs,rfl,rfl,o,p,d⟩
 .exact qq d f g
 .cases f;cases g;by_cases e:a=b
  .subst e;exact EqAt.same _
  .have%[us,i,q|_]:=I.list (SqL.of o);have%[vs,l,r|_]:=I.list (SqL.of p);have c:=RcAt.lists (A:=A) (s:=s) (e:=λ_=>true) q.isList r.isList (by rw[Zp,Zp,<-i.length,<-l.length]) n λj w z=>by
    have%[x,ex|B]:=gA i w;have%[y,m|C]:=gA l z;rw[ex]at m;cases m;exact qq (Bk d ex) B C
   rw[show(List.range us.toArray.size).all (λ_=>true)=true by simp]at c;exact EqAt.of_refs e c
end
section
variable{X:Cx}
end
def GS(d:TE):TE:=λe H Q=>d e H λv b=>∃a ss,v= .ref a/\b a=some (.lst (ss.map λp=>V.ref p.1))/\aG b ss/\ss.length<=100/\(∀p∈ss,p.2.length<=3/\∀z∈p.2,z.length<=30/\∀c∈z.cps.toList,c<16^8)/\∀z,z.length<=100000->Q (.str z) b
theorem nS:∀{zs:ZB} {its:ZF},aD (zs.map V.str) its->ReadsAll h its (zs.map PyData.str) []
 |[],_,.nil=> .nil
 | z::zs,_,.cons r v=>by
   have%[t|rfl]:=r;exact .cons (.str _ _) (nS v)
noncomputable def ue(p:Addr×ZB):PyData:= .tuple (p.2.map PyData.str)
theorem nT{X:Cx}(I:Inv X pins h H s):∀{ss:ZG} {its:ZF},aG H ss->aD (ss.map λp=>V.ref p.1) its->∃a,ReadsAll s.heap its (ss.map ue) a
 |[],_,_,.nil=>%[_|.nil]
 | p::ss,_,t,.cons r v=>by
   cases r;have%[us,b,%[%[cls,i,data|j],c,d,n|e]|_]:=I.tuple (SqT.of (t p (Zm ..)).2);have%[bs|f]:=nT I (λq g=>t q (Zk _ g)) v;exact%[_|.cons (.tuple c d e (nS b)) f]
theorem v5(zs:ZB):PyData.showableAll (zs.map PyData.str)=true/\PyData.hasDictAll (zs.map PyData.str)=false/\PyData.depthAll (zs.map PyData.str)=0:=by
 induction zs with
 | nil=>exact%[rfl,rfl|rfl]
 | cons z zs a=>simp only[Ys,PyData.showableAll,PyData.hasDictAll,PyData.depthAll,a.1,a.2.1,a.2.2];exact%[rfl,rfl|rfl]
theorem v6{zs:ZB}(h:∀z∈zs,z.length<=30/\∀c∈z.cps.toList,c<16^8):PyData.leavesShortAll 8 (zs.map PyData.str)=true/\PyData.weightAll (zs.map PyData.str)<=31*zs.length:=by
 induction zs with
 | nil=>exact%[rfl|Zi _]
 | cons z zs d=>
   have%[a|b]:=d λy e=>h y (Zk _ e)
   have%[l|c]:=h z (Zm ..);simp only[Ys,PyData.leavesShortAll,PyData.weightAll,PyData.weight,a,Zr,Bool.and_true];have:z.length=z.cps.size:=rfl;exact%[all_eq_true.mpr λx f=>Zf (c x f)|⋯]
theorem v7{ss:List _}(h:∀p∈ss,p.2.length<=3/\∀z∈p.2,z.length<=30/\∀c∈z.cps.toList,c<16^8):PyData.showableAll (ss.map ue)=true/\PyData.hasDictAll (ss.map ue)=false/\PyData.depthAll (ss.map ue)<=1/\PyData.leavesShortAll 8 (ss.map ue)=true/\PyData.weightAll (ss.map ue)<=94*ss.length:=by
 induction ss with
 | nil=>exact%[rfl,rfl,Xh _,rfl|Zi _]
 | cons p ss f=>
   have%[a,b,c,d|e]:=f λy g=>h y (Zk _ g)
   have%[l|z]:=h p (Zm ..);have%[i,j|m]:=v5 p.2;have%[g1|g2]:=v6 z;simp only[Ys,ue,PyData.showableAll,PyData.showable,PyData.hasDictAll,PyData.hasDict,PyData.depthAll,PyData.depth,PyData.leavesShortAll,PyData.leavesShort,PyData.weightAll,PyData.weight,i,j,m,g1,Zr];exact%[a,b,⋯,d|⋯]
theorem GT{X:Cx}(f:X.A.guards=some [])(M:X.A.units+64<cLine)(g:QE X e i):QE X (.FormattedValue e 114 none pos) (GS i):=by
 refine⟨λpins s j H Q I h=>wpAny_FormattedValue_repr (thP (g.h pins s j H _ I h) λu N v l b r ⟨a,ss,m,o,p,O,w,q⟩=>?_)⟩;subst m;cases r;have%[us,y,pl|_]:=b.list (SqL.of o);have%[%[cls,T,data|U],z,A,n|B]:=pl.isList;have%[Y|C]:=nT b p y;have%[E,G,f3,J|f5]:=v7 w;have len:=PyData.shown_le 8 ∅ (.list _) (by simpa only[PyData.leavesShort]using J);simp only[PyData.weight]at len;have c:(PyData.shown (.list (ss.map ue))).length<=100000:=by lia
 have d:(PyData.shown _).length<=sizeLine:=Yi c (by decide);exact pyReprObj_of_reads (.list z A B C) (by simpa only[PyData.showable]using E) (λx=>by simp only[PyData.hasDict,G]at x;cases x) f (by simp only[PyData.depth];lia) (λ_ _ x=>x) (λh' t tk k=>formatField_str (λt' L=>%[.str _,l,(b.kept k).tok _,%[_|rfl]|q _ c]) d) d
section
variable{X:Cx}{pins:ZE}{σ:St}{H:Hp}{s:Shared}
theorem Bl{k:ZB}{x:V}{j:Nat}(h:(k.map V.str)[j]? =some x):∃z,k[j]? =some z/\x= .str z:=by
 rw[Zl]at h;have%[z,e|rfl]:=map_eq_some_iff.mp h;exact%[z,e|rfl]
theorem uf{k l:ZB}(h:k.map V.str=l.map V.str):k=l:=(List.map_inj_right λ_ _=>V.str.inj).mp h
theorem Bm(I:Inv X pins σ H s){A:Around}{a b:Addr}{k l:ZB}(g:H a=some (.tup (k.map V.str)))(f:H b=some (.tup (l.map V.str)))(q:A.units<cLine):EqAt A s (.ref a) (.ref b) (decide (k=l)):=by
 by_cases e:a=b
 .subst e;rw[g]at f;rw[Zf (uf (HO.tup.inj (Za f)))];exact EqAt.same _
 .have%[us,m,r|_]:=I.tuple (SqT.of g);have%[vs,n,v|_]:=I.tuple (SqT.of f);have d:=RcAt.tuples r v q λj o p=>by
   have%[x,ex|w]:=gA m o;have%[y,B|C]:=gA n p;have%[z,E|rfl]:=Bl ex;have%[u,G|rfl]:=Bl B;have:=zP (A:=A.in1) (s:=s) w C rfl rfl;rw[show eqV _ _=decide (k[j]? =l[j]?) by rw[E,G];show(z==u)=_;by_cases c:z=u<;> simp[c]]at this;exact this
  rw[show((List.range _).all _&&us.toArray.size==vs.toArray.size)=decide (k=l) by
   rw[Zp,Zp,<-m.length,<-n.length,Bool.eq_iff_iff,Zx,all_eq_true,decide_eq_true_iff];refine%[λ⟨o,p⟩=>ext_getElem? λi=>?_|λh=>by lia]
   grind]at d
  exact EqAt.of_refs e d
end
section
variable{X:Cx}
abbrev wY:R2:=λx y H Q=>∃(a p:Addr) (k:ZB) (ws:ZG),x= .ref a/\y= .ref p/\H a=some (.tup (k.map V.str))/\H p=some (.lst (ws.map λt=>V.ref t.1))/\(∀t∈ws,H t.1=some (.tup (t.2.map V.str)))/\k∈ws.map (·.2)/\Q (.bl false) H
open Classical in
theorem yJ(f:X.A.units+64<cLine):OpR X (compareOp .NotIn) wY:=by
 intro pins s C H x y v u Q I g i h;have%[a,p,k,ws,rfl,rfl,l,m,hw,n|q]:=h;cases g;cases i;have%[us,r,pl|_]:=I.list (SqL.of m);have of:∀y∈us,∃t∈ws,y= .ref t.1:=λy c=>by
  have%[j,d|rfl]:=Yf c;have%[x,ex|rr]:=gA r (d);rw[Zl]at ex;have%[t,b|rfl]:=map_eq_some_iff.mp ex;exact%[t,Z8 b|(rr)]
 refine notIn_listAt (λv=>decide (∃t∈ws,v= .ref t.1/\t.2=k)) pl.isList (λy c=>?_) %[.bl false,H,I,?_|q]
 .have%[t,b|rfl]:=of y (by simpa using c);have:=Bm I (A:=X.A.in1) (hw t b) l ⋯;rw[show decide _=decide (t.2=k)from ?_]
  .exact this
  .rw[Bool.eq_iff_iff,decide_eq_true_iff,decide_eq_true_iff];refine%[λ⟨t',o,w,z⟩=>?_|λh=>%[t,b,rfl|h]];have e:=hw t' o;rw[<-Value.ref.inj w,hw t b]at e;rw[<-z,uf (HO.tup.inj (Za e))]
 .have%[t,b|e]:=Xs n;have%[j|d]:=Xi b;have%[u,f|B]:=r.get (by rw[Zl,d];rfl);cases B;rw[show us.toArray.any _=true from ?_]
  .rfl
  .rw[List.any_toArray,any_eq_true];exact%[_,Z8 f|Zf %[t,b,rfl|e]]
theorem Bn(a:bQ k X.A):OpQ X (compareOp .NotIn) wY:=⟨yJ a.units⟩
end
section
variable{P:Program}{w:World}{K:ZA}{mg:ZC}{base:Heap}{k:Nat}{f:Addr}{fd:FuncData}{ps:ZB}{sp:Sp}
end
theorem Bo(r:KV a vs):a.length=vs.length:=by
 induction r with
 | nil=>rfl
 | cons _ _ b=>simp_all
section
variable{P:Program}{w:World}{K:ZA}{tg:Expr}
end
section
variable{P:Program}{w:World}{K:ZA}{elts:List Expr}{kt:Nat}{tp:Pos}
end
section
variable{X:Cx}
def GU:V->List V->Hp->VK->Prop:=λx vs H Q=>asR x λa=>∃b,vs=[.ref b]/\∃c more,a≠b/\H a=some (.dK c)/\H b=some (.dK more)/\c.length+more.length<=sizeLine/\Q .non (upd H a (.dK (ig c more)))
theorem FJ:MtM X "dict.update" GU:=by
 intro pins s B H x vs v us Q I m n h;have%[a,rfl,b,rfl,o,more,ne,g,p,i|q]:=eZ h;cases m;have%[u,rfl|r]:=n.one;cases r;have%[z,w,vs,d|j]:=lC I.hok g;have%[C,e,ms,c|f]:=lC I.hok p;exact call_meetsIn PySem.F.slot_dict_update j.typeIs PySem.F.entry_dict_update (PySem.F.args_dict_update_2 _ _) (meets_dict_update _ a b ne e) %[vs,ms,j,f,by rw[<-Bo d,<-Bo c];exact i|λh' l E y=>%[.non,_,jz I (g▸True.intro) y (let⟨q,_,_,A,_⟩:=l;%[q|A]) (mT (Yi (fz _ _) i) w (KV.merge c d) l),rfl|q]]
theorem Bp:MtQ X "dict.update" GU:=⟨FJ⟩
end
section
variable{X:Cx}
end
section
variable{prog:Program}{w:World}{A:Around}{R:Result->Shared->Prop}{I S:Addr}{fp wr:List Addr}{n:Nat}{P:Nat->Value->Prop}{St:Nat->Heap->Prop}{val:Nat->Int}{kn:Str}{d:Value}
end
section
variable{X:Cx}{e v:Expr}{te tv:TE}{p pos kpos:Pos}
end
section
variable{X:Cx}{K:ZA}{e v:Expr}{te tv:TE}{p pos kpos:Pos}
end
section
variable{prog:Program}{w:World}{A:Around}{s:Shared}{E:ZD}
end
section
variable{X:Cx}{K:ZA}
end
section
variable{X:Cx}
abbrev GV:R2:=λx y H Q=>∃a b xs ys,x= .ref a/\y= .ref b/\H a=some (.lst xs)/\H b=some (.lst ys)/\xs.length=ys.length/\(∀(j:Nat) (x y:V),xs[j]? =some x->ys[j]? =some y->Bj H x y)/\Q (.bl false) H
theorem FK(B:X.A.units+64<cLine):OpR X (compareOp .NotEq) GV:=by
 intro pins s C H x y v u Q I d e h;have%[a,b,xs,ys,rfl,rfl,f,g,i,l|q]:=h;cases d;cases e;have%[us,d,m|_]:=I.list (SqL.of f);have%[vs,e,n|_]:=I.list (SqL.of g);have c:=RcNeAt.lists (A:=X.A) m.isList n.isList (by rw[Zp,Zp,<-d.length,<-e.length,i]) (by omega) λj o p=>by
  have%[x,ex|r]:=gA d o;have%[y,w|z]:=gA e p;exact v4 I (l j x y ex w) ⋯ r z
 rw[show(List.range us.toArray.size).all _=true by simp]at c;exact c _ _ _ _ %[.bl _,H,I,rfl|q]
theorem GW{k:Nat}(a:bQ k X.A):OpQ X (compareOp .NotEq) GV:=⟨FK a.units⟩
theorem kL{xs:List V}{us:ZF}(r:aD xs us):∀is:List Nat,aD (is.filterMap (xs[·]?)) (is.filterMap (us.toArray[·]?))
 |[]=> .nil
 | i::is=>by
   have h:us.toArray[i]? =us[i]? :=by simp
   rw[Y3,Y3,h];by_cases c:i<xs.length
   .have%[u,a|b]:=r.get (i:=i) (x:=xs[i]) ∅;rw[a,Z4 c];exact .cons b (kL r is)
   .rw[Xo (by omega),Xo (by have:=r.length;omega)];exact kL r is
end
theorem GX{X:Cx}{K:ZA}(h:X.K=K)(g:X.calm=true):cj X (.builtin "any") (λxs H Q=>∃(p:Addr) (bs:List Bool),xs=[.ref p]/\SqL K H p (bs.map V.bl)/\Q (.bl (bs.any id)) H):=by
 subst h;refine⟨λ{pins s C H xs us Q} I r h=>?_⟩;have%[p,bs,rfl,j|q]:=h;have%[u,rfl|l]:=cP r;cases l;have%[its,f,pl|E]:=I.list j;have m:p<⇑s:=by have%[o,n|_]:=pl.isList;exact Zv n
 have a:bs.length=its.toArray.size:=by rw[Zp,<-f.length,Z6]
 refine call_any_walk (wpAny_pyIter_list pl.isList ?_);refine%[⇑s,[⇑s,p],[⇑s],its.toArray.size,_,_,λi=>bs.getD i false,rfl,Walks.list (A:=X.A.in1) (I.ok.hd g) _ p (Zt m) its.toArray,%[%[_,Zj _ rfl,rfl|rfl]|pl.isList.push _],?_|?_]
 .intro i v s' w G y c;have%[b,d|rfl]:=rg (i:=i) f (by simpa using y);have c:w (bs.getD i false) s':=c;rw[Zc,d]at c;exact wpAny_truthy_bool c
 .intro h' tk z;rw[<-a,show(List.range bs.length).any (λi=>bs.getD i false)=bs.any id by
   have e:(List.range bs.length).map (λi=>bs.getD i false)=bs:=Y0 ∅ λi J B=>by simp[Zc,B]
   rw[show(List.range bs.length).any (λi=>bs.getD i false)=((List.range bs.length).map λi=>bs.getD i false).any id by rw[any_map];rfl,e]]
  exact%[.bl (bs.any id),H,I.kept (t':=tk) λb o e=>z b o (λd=>absurd (Xr d) (Zt (Zv e))) (Z7 _ e),rfl|q]
theorem GY{X:Cx}{K:ZA}{a:Expr}{b:TE}{pos e:Pos}{lo hi:Option Expr}{c d:TO}(_:X.K=K)(f:QE X a b)(g:QO X lo c)(h:QO X hi d):QE X (.Subscript a (.Slice lo hi none e) pos) (tSl CA b c d):=⟨sM Ab f.h g.h h.h⟩
theorem valT{X:Cx}{a:Expr}{c:TE}(d:∀b,isTrue a X.env b=(do let v<-b;standAt a.pos;holding [v] (truthy v)))(e:QE X a c):QT X a (tB c):=⟨DS e.h d⟩
noncomputable def pC(key:Nat->Str)(val:Nat->V)(n:Nat):List (Key×V):=(List.range n).foldl (λa j=>cB a (Sum.inr (key j)) (val j)) []
theorem kM(key:Nat->Str)(val:Nat->V)(n:Nat):pC key val (n+1)=cB (pC key val n) (Sum.inr (key n)) (val n):=by
 unfold pC;rw[Xc,foldl_append];rfl
theorem nU(key:Nat->Str)(val:Nat->V):∀n,(pC key val n).length<=n
 | 0=>Zi _
 | n+1=>by
   rw[kM];have:=dO (pC key val n) (Sum.inr (key n)) (val n);have:=nU key val n
   lia
section
variable{prog:Program}{w:World}{A:Around}{R:Result->Shared->Prop}{I:Addr}{fp wr:List Addr}{G:Array GenState->Array GenState->Prop}{n:Nat}{P:Nat->Value->Prop}{St:Nat->Shared->Prop}
theorem v8(W:WalksS prog w A.in1 I fp wr G n P St)(d:Addr)(z:d∉fp)(B:Nat->Addr)(key:Nat->Str)(val:Nat->V)(O:∀i v,P i v->v= .ref (B i))(L:∀i,i<n->B i∉d::wr)(p:n<=sizeLine):
 ∀(k i:Nat) (j:Int) (s:Shared),n-i=k->i<=n->St i s->(∃vs,KV (pC key val i) vs/\s.heap.DictOf (aE prog w) d vs)->
  (∀i,i<n->∃a t u m,s.heap.get? (B i)=some a/\a.cls= .type "tuple"/\a.data= .seq #[.str (key i) t,u] m/\aO (val i) u)->
  (∀s',Moved (d::wr) G s s'->(∃vs,KV (pC key val n) vs/\s'.heap.DictOf (aE prog w) d vs)->R (.ok (.ret .none)) s')->codeAny (model prog w) A (.builtin "dict.update.loop" %[[.ref d,.ref I,.int j 0,.none]|[]]) R s:=by
 have out:d∉wr:=λh=>z (W.sub _ h)
 have more:∀b∈wr,b∈d::wr:=λb p=>Zk _ p
 have c:∀{h h':Heap} {vs:List (Key×Value)},(∀o,h.get? d=some o->h'.get? d=some o)->h.DictOf (aE prog w) d vs->h'.DictOf (aE prog w) d vs:=λk D=>by
  have%[o,Q,T,U|r]:=D;exact%[o,Q,T,k o U|r]
 intro k
 induction k with
 | zero=>
   intro i j s Y hi st C M f;have e:i=n:=by lia
   subst e;refine codeAny_builtin ql ?_;rw[Around.under_plainId iQ _];show wpAny _ A.in1 (pyNext (.ref I)>>= _) _ _ s;refine Z2 (W.done s _ _ st λl y=>?_);show wpAny _ A.in1 (Builtin.Dict.addKeywords d []>>= _) _ _ l;refine Z2 (Z3 ?_);show wpAny _ A.in1 (ret Value.none) _ _ l;have%[vs,r|D]:=C;exact Z3 (f l (y.mono more) %[vs,r|c (λo e=>y.heap d o out e) D])
 | succ k ih=>
   intro i j s Y hi st C M f;have lt:i<n:=by lia
   refine codeAny_builtin ql ?_;rw[Around.under_plainId iQ _];show wpAny _ A.in1 (pyNext (.ref I)>>= _) _ _ s;refine Z2 (W.item i s _ _ lt st λv l pv E y=>?_);obtain rfl:=O i v pv;have%[vs,r|D]:=C;have D1:=c (h':=l.heap) (λo e=>y.heap d o out e) D;have N:∀i,i<n->∃a t u m,l.heap.get? (B i)=some a/\a.cls= .type "tuple"/\a.data= .seq #[.str (key i) t,u] m/\aO (val i) u:=λi hi=>by
    have%[a,t,u,m,g|q]:=M i hi;exact%[a,t,u,m,y.heap _ _ (λh=>L i hi (more _ h)) g|q]
   have%[a,t,u,m,g,hc,hd|ru]:=N i lt;refine Z2 (wpAny_holding (Z2 (wpAny_tryCatch ?_)));refine Z2 (wpAny_typeOf %[_,g|hc] ?_);refine Z2 (wpAny_seqItems g hd (Z3 ?_));have vl:vs.length<=sizeLine:=by
    rw[<-r.length];exact Yi (nU key val i) ⋯
   refine wpAny_holding (wpAny_dictSet_pairs (lu prog w (key i) t) D1 λh2 D2 H=>?_);refine Z3 %[plainId_quiet iQ _|ih (i+1) _ _ ⋯ lt (W.frame _ l _ _ E (Yh _) λb p o e=>?_) %[_,by rw[kM];exact r.put _ ru|D2] (λi hi=>?_) λs3 m3 J=>?_]
   .rw[H.2 b (λq:b=d=>z (q▸p))];exact e
   .have%[a,t,u,m,g|q]:=N i hi;exact%[a,t,u,m,(H.2 _ (λq=>L i hi (by rw[q];exact Zm))).trans g|q]
   .refine f s3 (Moved.trans W.gtrans ((y.mono more).then_heap (Yh _) λb o p e=>?_) m3) J;rw[H.2 b (λq:b=d=>p (by rw[q];exact Zm))];exact e
end
section
#where
theorem kN{l:Addr}{o:Obj}{a:ZJ}{c:Nat}{M:Nat->Addr}{key:Nat->Str}{val:Nat->V}{Q:ZD}(hh:A.handled=none)(hx:s.heap.get? l=some o)(N:o.cls= .type "list")(j:o.data= .seq a c)(hd:o.dict=none)(hb:a.size<=sizeLine)
 (hv:∀(i:Nat) v,a[i]? =some v->v= .ref (M i)) (hT:∀i,i<a.size->∃d t u m,s.heap.get? (M i)=some d/\d.cls= .type "tuple"/\d.data= .seq #[.str (key i) t,u] m/\aO (val i) u)
 (hQ:∀(h':Heap) (tk:Nat) vs,KV (pC key val a.size) vs->h'.DictOf (aE prog w) ⇑s vs->(∀b o,s.heap.get? b=some o->h'.get? b=some o)->Q (.ref ⇑s) {s with heap:=h',toks:=tk}):
 ↥A (call (.type "dict") [.ref l]) Q E s:=by
 refine callType_codes (Q₁:=λobj n=>obj= .ref ⇑s/\n={s with heap:=s.heap.push {cls:= .type "dict",data:= .dict #[]}}) PySem.F.kt_called_dict (PySem.F.kt_typeCall_dict_1 _) PySem.F.entry_dict_init (kt_code_dict_new _ %[rfl|rfl]) ?_;intro obj n %[rfl|rfl];have f:(s.heap.push {cls:= .type "dict",data:= .dict #[]}).DictOf (aE prog w) ⇑s []:=Heap.DictOf.new s.heap;have p:(s.heap.push {cls:= .type "dict",data:= .dict #[]}).get? l=some o:=Z7 _ hx;refine%[f.typeIs,PySem.F.args_dict_init_2 _ _|?_];unfold Builtin.«dict.__init__»;refine Z2 ?_;unfold Builtin.Dict.selfAndRest;refine Z2 (wpAny_notOrdered_dict f.typeIs ?_);show wpAny _ _ (pure (⇑s,[Value.ref l])) _ _ _;refine Z3 ?_;show wpAny _ _ (Builtin.Dict.updateFrom "dict.__init__" ⇑s (.ref l) [] .none) _ _ _;unfold Builtin.Dict.updateFrom;refine Z2 (wpAny_typeOf (T:="list") %[_,p|N] ?_);have h2:A.in1.in1.handled=none:=by simp[hh]
 refine Z2 (yD p N j hd h2 λH ab O=>?_);refine Z2 (wpAny_rule ?_);have y:H.IsList l a:=%[o,O _ _ p,N,c|j]
 refine Z2 (wpAny_pyIter_list y ?_);refine Z3 %[plainId_quiet iQ _|?_];have z:∀b d,s.heap.get? b=some d->H.get? b=some d:=λb d e=>O _ _ (Z7 _ e)
 have B:=Zv hx;have d1:∃od I J,H.get? ⇑s=some od/\_:=let⟨od,I,J,g,r⟩:=f;%[od,I,J,O _ _ g|r];have h:⇑s<H.objs.size:=by have%[_,_,_,g|_]:=d1;exact Zv g
 refine v8 ((Walks.list h2 _ l (Zt (Nat.lt_trans B h)) a).toS) ⇑s ?_ M key val hv (λi hi=>?_) hb a.size 0 0 _ ⋯ (Xh _) %[%[_,Zj _ rfl,rfl|rfl]|y.push _] %[[],.nil|?_] (λi hi=>?_) ?_
 .simp only[Yx,X9,or_false,not_or];exact%[Zt h|X3 B]
 .have%[d,t,u,m,g|_]:=hT i hi;have C:=Zv g;simp only[Yx,X9,or_false,not_or];exact%[Zt C|Zt (Nat.lt_trans C h)]
 .have%[od,I,J,g|r]:=d1;exact%[od,I,J,Z7 _ g|r]
 .have%[d,t,u,m,g|q]:=hT i hi;exact%[d,t,u,m,Z7 _ (z _ _ g)|q]
 .intro s3 L %[vs,r|dd];have%[h',g',d',U|Y]:=s3;have eg:g'=s.gens:=L.gens;have ed:d'=s.drawn:=L.drawn;have eo:Y=s.os:=L.os;subst eg;subst ed;subst eo;refine%[rfl|hQ h' U vs r dd λb d e=>?_];have G:=Zv e;refine L.heap b d ?_ (Z7 _ (z _ _ e));simp only[Yx,X9,or_false,not_or];exact%[Zt G|Zt (Nat.lt_trans G h)]
end
noncomputable def jT(ps:List (Addr×Str×V)):List (Key×V):=ps.foldl (λa q=>cB a (Sum.inr q.2.1) q.2.2) []
theorem qr(ps:List _)(key:Nat->Str)(val:Nat->V)(b:∀i q,ps[i]? =some q->key i=q.2.1/\val i=q.2.2):pC key val ps.length=jT ps:=by
 have:∀n,n<=ps.length->pC key val n=jT (ps.take n):=λn=>by
  induction n with
  | zero=>intro _;rfl
  | succ n c=>
    intro h;have a:=Z4 (show n<ps.length by lia);have%[d|e]:=b n _ a;rw[kM,c ⋯,Xd,a,d,e];unfold jT;rw[foldl_append];rfl
 simp_all
section
variable{X:Cx}{K:ZA}
theorem v9(E:X.calm=true):bR X (.type "dict") (λxs H Q=>∃p ps,xs=[.ref p]/\SqL X.K H p (ps.map λq=>V.ref q.1)/\(∀q∈ps,H q.1=some (.tup [.str q.2.1,q.2.2]))/\∀l,H l=none->Q (.ref l) (upd H l (.dK (jT ps)))):=by
 intro pins s σ H xs us Q I r h;have%[p,ps,rfl,G,J|q]:=h;have%[u,rfl|f]:=cP r;cases f;have%[its,y,%[o,n,L,j,M|d]|z]:=I.list G;have c:=y.length;rw[Z6]at c z;have w:its.toArray.size=ps.length:=by simp_all
 have N:∀(i:Nat) v,its.toArray[i]? =some v->v= .ref ((ps[i]?.map _).getD 0):=λi v e=>by
  have e:=by simpa using e
  have hi:i<ps.length:=by rw[c];exact(Xp e).1
  have%[u,A|f]:=y.get (by rw[Zl,Z4 hi];rfl);rw[e]at A;rw[Za A,Z4 hi];exact f
 refine kN (key:=λi=>(ps[i]?.map (·.2.1)).getD Str.empty) (val:=λi=>(ps[i]?.map (·.2.2)).getD .non) (I.ok.hd E) L j d M ⋯ N (λi hi=>?_) λh' tk vs B O k=>?_
 .have hi:i<ps.length:=by lia
  rw[Z4 hi];have%[_,ts,rt,T,g,U,m|C]:=(I.hok _ _ (J _ (Ye hi)))
  have%[a,b,e,%[t|Y]|eb]:=hW rt;rw[e,Y]at C;exact%[T,t,b,m,g,U,C|eb]
 .rw[w,qr ps _ _ (λi q e=>by rw[e];exact%[rfl|rfl])]at B;have hl:(jT ps).length<=sizeLine:=by
   rw[<-qr ps (λi=>(ps[i]?.map _).getD Str.empty) (λi=>(ps[i]?.map _).getD .non) (λi q e=>by rw[e];exact%[rfl|rfl])];exact Yi (nU _ _ _) z
  refine%[.ref ⇑s,_,I.laid k (Zi _) (mT hl ?_ B O),rfl|q _ I.fresh];exact beq_eq_false_iff_ne.mpr (Ne.symm (Zt I.big))
theorem wZ(h:X.K=K)(a:X.calm=true)(_:bQ k X.A):cj X (.type "dict") (λxs H Q=>∃p ps,xs=[.ref p]/\SqL K H p (ps.map λq=>V.ref q.1)/\(∀q∈ps,H q.1=some (.tup [.str q.2.1,q.2.2]))/\∀l,H l=none->Q (.ref l) (upd H l (.dK (jT ps)))):=by subst h;exact⟨v9 a⟩
end
section
variable{X:Cx}
noncomputable def evI(n:Nat):List Nat:=sliceRange (sliceBounds none none (some 2) n).1 (sliceBounds none none (some 2) n).2.1 (sliceBounds none none (some 2) n).2.2
def Dc(e b:TE):TE:=λd H Q=>e d H λx f=>b d f λy c=>∃a xs,x= .ref a/\c a=some (.lst xs)/\y= .int 2/\∀p:Addr,c p=none->((evI xs.length).filterMap (xs[·]?)).length<=xs.length->Q (.ref p) (upd c p (.lst ((evI xs.length).filterMap (xs[·]?))))
theorem FL{e st:Expr}{m c:TE}{pos o:Pos}(p:PE X e m)(g:PE X st c):PE X (.Subscript e (.Slice none none (some st) o) pos) (Dc m c):=by
 intro pins s i H Q I h;refine Subscript_ (thn (p pins s i H _ I h) λv w ⟨x,z,A,B,C⟩=>?_);refine wpAny_Slice (evalPart_none_step (evalPart_none_step (evalPart_some_step (thn (g pins w i z _ A C) λu f ⟨y,E,G,J,a,xs,ex,L,M,q⟩=>?_))));subst ex M;cases B;have%[j|rfl]:=(J)
 have l:Inv X pins i E {f with heap:=f.heap.push {cls:= .type "slice",data:= .fields #[.none,.none,.int 2 j]}}:=G.kept λb N q=>Z7 _ q
 have O:(f.heap.push {cls:= .type _,data:= .fields #[.none,.none,.int 2 j]}).IsSliceOf ⇑f _ _ _:=Heap.IsSliceOf.new ..;have%[its,r,n|T]:=l.list (SqL.of L);have d:=r.length;refine tail_any n.isList.typeIs slot_list_getitem.lookup (wpAny_getItem_list_slice n.isList O .none .none (.int 2 j) ∅ ?_ (by simp_all)) (by with_unfolding_all rfl);have sz:=slicePick_size_le its.toArray none none (some 2);unfold slicePick at sz ⊢;rw[show its.toArray.size=xs.length by exact d.symm]at sz ⊢;have pv:=kL r (evI xs.length);have le:((evI xs.length).filterMap (xs[·]?)).length<=xs.length:=by rw[pv.length];exact sz
 refine%[.ref _,_,l.laid (λb N q=>Z7 _ q) (Zi _) ?_,rfl|q _ (l.hok.fresh (Zi _)) le];exact%[Yi le T,_,0,pv|Zj _ rfl]
theorem GZ{e st:Expr}{c a:TE}{pos d:Pos}(f:QE X e c)(b:QE X st a):QE X (.Subscript e (.Slice none none (some st) d) pos) (Dc c a):=⟨FL f.h b.h⟩
theorem G0{pos:Pos}{C:Addr}{e:Expr}{f:Str}{a:TE}(c:AA X.K C f)(b:∀env w,attributeBase e f env w=w)(d:QE X e a):QE X (.Attribute e f pos) (wM C a f):=⟨wN c d.h (b _ _)⟩
end
end L2
namespace Cut
open PySem L2
inductive cu (S:Str->Str->Prop):Str->Str->Prop
 | refl (x:Str):cu S x x
 | step {x y z:Str}:cu S x y->(S y z\/S z y)->cu S x z
theorem cu.trans{S:Str->Str->Prop}(h:cu S x y)(g:cu S y z):cu S x z:=by
 induction g with
 | refl=>exact h
 | step _ s a=>exact .step a s
theorem cu.one{S:Str->Str->Prop}(h:S x y\/S y x):cu S x y:= .step (.refl x) h
theorem cu.symm{S:Str->Str->Prop}(h:cu S x y):cu S y x:=by
 induction h with
 | refl=>exact .refl _
 | step _ s a=>exact(cu.one s.symm).trans a
theorem cu.mono{S R:Str->Str->Prop}(m:∀a b,S a b->R a b)(h:cu S x y):cu R x y:=by
 induction h with
 | refl=>exact .refl _
 | step _ s c=>exact .step c (s.imp (m _ _) (m _ _))
theorem cu.within{S:Str->Str->Prop}{p:Str->Prop}(w:∀a b,S a b->p a/\p b)(h:cu S x y)(c:p x):p y:=by
 induction h with
 | refl=>exact c
 | step _ s _=>
   rcases s with s|s
   .exact(w _ _ s).2
   .exact(w _ _ s).1
def cG(S:Str->Str->Prop)(z r:Str):Prop:=cu S z r/\∀y,cu S z y->aK y r=false
theorem cG.one{S:Str->Str->Prop}(h:cG S z r)(g:cG S z a):r=a:=by
 by_cases e:r=a
 .exact e
 .have:=dE (g.2 _ h.1) e;rw[h.2 _ g.1]at this;cases this
structure bI (ls:ZB) (f r:Str->Str) (S:Str->Str->Prop):Prop where
 ws:∀a b,S a b->a∈ls/\b∈ls
 fin:∀z∈ls,f z∈ls
 rin:∀z∈ls,r z∈ls
 rf:∀z∈ls,r (f z)=r z
 fr:∀z∈ls,f (r z)=r z
 fix:∀z∈ls,f z=z->r z=z
 dec:∀z∈ls,f z≠z->aK (f z) z=true
 le:∀z∈ls,aK z (r z)=false
 cl:∀x∈ls,∀y∈ls,r x=r y↔cu S x y
theorem bI.rr{S:Str->Str->Prop}(F:bI ls f r S)(h:z∈ls):r (r z)=r z:=F.fix _ (F.rin z h) (F.fr z h)
theorem bI.conn{S:Str->Str->Prop}(F:bI ls f r S)(h:z∈ls):cu S z (r z):=(F.cl z h _ (F.rin z h)).mp (F.rr h).symm
theorem bI.least{S:Str->Str->Prop}(F:bI ls f r S){z:Str}(h:z∈ls):cG S z (r z):=by
 refine%[F.conn h|λy c=>?_];have a:=c.within F.ws h;rw[(F.cl z h y a).mpr c];exact F.le y a
theorem bI.start(ls:ZB):bI ls id id (λ_ _=>False):=by
 refine%[λ_ _ h=>h.elim,λz h=>h,λz h=>h,λ_ _=>rfl,λ_ _=>rfl,λ_ _ _=>rfl,λz _ h=>(h rfl).elim,λz _=>cF z|λx a y b=>%[λe=>?_|λc=>?_]]
 .rw[show x=y from e];exact .refl _
 .induction c with
  | refl=>rfl
  | step _ s _=>simp_all
theorem bI.join{S:Str->Str->Prop}(F:bI ls f r S){a b M m:Str}(p:a∈ls)(q:b∈ls)(A:M=if aK (r a) (r b)=true then r b else r a)(B:m=if aK (r b) (r a)=true then r b else r a):
 bI ls (λx=>if x=M then m else f x) (λx=>if r x=M then m else r x) (λx y=>S x y\/(x=a/\y=b)):=by
 have g:(M=r a/\m=r b)\/(M=r b/\m=r a):=by
  rw[A,B];cases e:aK _ _ with
  | true=>
    have:aK (r b) (r a)=false:=by
     cases i:aK _ _ with
     | false=>rfl
     | true=>have:=dD e i;rw[cF]at this;cases this
    exact this▸ .inr %[rfl|rfl]
  | false=>
    cases i:aK _ _ with
    | true=>exact .inl %[rfl|rfl]
    | false=>
      have:r a=r b:=by
       by_cases h:r a=r b
       .exact h
       .have:=dE e h;rw[i]at this;cases this
      exact this▸ .inl %[rfl|rfl]
 have lt:m≠M->aK m M=true:=by
  rw[A,B];cases e:aK _ _ with
  | true=>
    cases i:aK _ _ with
    | true=>intro h;exact(h rfl).elim
    | false=>intro _;exact e
  | false=>
    cases i:aK _ _ with
    | true=>intro _;exact i
    | false=>intro h;exact(h rfl).elim
 have Q:=F.rin a p;have T:=F.rin b q;have C:m∈ls:=by rcases g with⟨_,h⟩|⟨_,h⟩<;> rw[h]<;> assumption
 have E:r M=M:=by rcases g with⟨h,_⟩|⟨h,_⟩<;> rw[h]<;> apply F.rr<;> assumption
 have L:r m=m:=by rcases g with⟨_,h⟩|⟨_,h⟩<;> rw[h]<;> apply F.rr<;> assumption
 have N:cu (λx y=>S x y\/(x=a/\y=b)) M m:=by
  have G:cu (λx y=>S x y\/(x=a/\y=b)) _ _:=(((F.conn p).mono λ_ _=> .inl).symm.trans (.one (.inl (.inr %[rfl|rfl])))).trans ((F.conn q).mono λ_ _=> .inl);rcases g with⟨j,l⟩|⟨j,l⟩
  .rw[j,l];exact G
  .rw[j,l];exact G.symm
 have o:∀x∈ls,cu _ x (if r x=M then m else r x):=λx w=>by
  have c:=(F.conn w).mono (R:=λx y=>S x y\/(x=a/\y=b)) λ_ _=> .inl
  by_cases e:r x=M
  .rw[if_pos e];rw[e]at c;exact c.trans N
  .rw[if_neg e];exact c
 have H:(if r a=M then m else r a)=(if r b=M then m else r b):=by
  rcases g with⟨j,l⟩|⟨j,l⟩
  .rw[if_pos j.symm];by_cases e:r b=M
   .rw[if_pos e]
   .rw[if_neg e];exact l
  .rw[if_pos j.symm];by_cases e:r a=M
   .rw[if_pos e]
   .rw[if_neg e];exact l.symm
 refine%[λx y h=>?_,λz d=>?_,λz d=>?_,λz d=>?_,λz d=>?_,λz d h=>?_,λz d h=>?_,λz d=>?_|λx w y I=>%[λe=>?_|λc=>?_]]
 .rcases h with h|⟨rfl,rfl⟩
  .exact F.ws x y h
  .exact%[p|q]
 .split
  .exact C
  .exact F.fin z d
 .split
  .exact C
  .exact F.rin z d
 .by_cases e:z=M
  .rw[if_pos e,e,E,if_pos rfl,L]
   split<;> rfl
  .rw[if_neg e,F.rf z d]
 .by_cases e:r z=M
  .rw[if_pos e]
   split
   .rfl
   .exact(by rcases g with⟨_,h⟩|⟨_,h⟩<;> rw[h]<;> apply F.fr<;> assumption)
  .rw[if_neg e,if_neg e];exact F.fr z d
 .by_cases e:z=M
  .rw[if_pos e]at h;rw[e,E,if_pos rfl,<-e];exact h
  .rw[if_neg e]at h;rw[F.fix z d h,if_neg e]
 .by_cases e:z=M
  .rw[if_pos e]at h ⊢;rw[e]at h ⊢;exact lt h
  .rw[if_neg e]at h ⊢;exact F.dec z d h
 .by_cases e:r z=M
  .rw[if_pos e];cases i:aK z m with
   | false=>rfl
   | true=>
     have n:=F.le z d;rw[e]at n;by_cases em:m=M
     .rw[em]at i;rw[n]at i;cases i
     .have:=dD i (lt em);rw[n]at this;cases this
  .rw[if_neg e];exact F.le z d
 .have c:=(o x w)
  rw[e]at c;exact c.trans (o y I).symm
 .have ws:∀x y,(S x y\/(x=a/\y=b))->x∈ls/\y∈ls:=λx y h=>by
   rcases h with h|⟨rfl,rfl⟩
   .exact F.ws x y h
   .exact%[p|q]
  clear I
  induction c with
  | refl=>rfl
  | step c s O=>
    rename_i u v
    have J:=c.within ws w;rw[O];rcases s with(s|⟨rfl,rfl⟩)|(s|⟨rfl,rfl⟩)
    .rw[(F.cl u J v (F.ws u v s).2).mpr (.one (.inl s))]
    .exact H
    .rw[(F.cl u J v (F.ws v u s).1).mpr (.one (.inr s))]
    .exact H.symm
theorem bI.short{S:Str->Str->Prop}(F:bI ls f r S)(b:z∈ls):bI ls (λx=>if x=z then f (f z)else f x) r S:=by
 have d:f z≠z->aK (f _) z=true:=λh=>by
  have g:=F.dec z b h;by_cases e:f (f z)=f z
  .exact e▸g
  .exact dD (F.dec _ (F.fin z b) e) g
 refine%[F.ws,λx a=>?_,F.rin,λx a=>?_,λx a=>?_,λx a h=>?_,λx a h=>?_,F.le|F.cl]
 .split
  .exact F.fin _ (F.fin z b)
  .exact F.fin x a
 .by_cases e:x=z
  .rw[if_pos e,F.rf _ (F.fin z b),F.rf z b,e]
  .rw[if_neg e];exact F.rf x a
 .by_cases e:r x=z
  .rw[if_pos e];have:=F.fr x a
   simp_all
  .rw[if_neg e];exact F.fr x a
 .by_cases e:x=z
  .rw[if_pos e]at h;rw[e]at h ⊢;by_cases c:f z=z
   .exact F.fix z b c
   .have:=d c;rw[h,cF]at this;cases this
  .rw[if_neg e]at h;exact F.fix x a h
 .by_cases e:x=z
  .rw[if_pos e]at h ⊢;rw[e]at h ⊢;refine d λc=>h ?_
   rw[c,c]
  .rw[if_neg e]at h ⊢;exact F.dec x a h
theorem bI.done{S:Str->Str->Prop}(F:bI ls f r S)(a:z∈ls)(h:∀w∈ls,aK w z=true->f w=r w):f (f z)=r z:=by
 by_cases e:f z=z
 .rw[e,e];exact(F.fix z a e).symm
 .rw[h _ (F.fin z a) (F.dec z a e),F.rf z a]
end Cut
namespace Cut
open PySem L2
def Ed(ks:List ZB)(a b:Str):Prop:=∃z,[a,b,z]∈ks
inductive Rch (ks:List ZB):Str->Str->Prop
 | one {a b:Str}:Ed ks a b->Rch ks a b
 | more {a b c:Str}:Rch ks a b->Ed ks b c->Rch ks a c
theorem Rch.closed{R:Str->Prop}(a:∀y,Ed ks s y->R y)(h:∀x y,R x->Ed ks x y->R y)(r:Rch ks s y):R y:=by
 induction r with
 | one e=>exact a _ e
 | more _ e b=>exact h _ _ b e
theorem qt{ks:List _}{laid:ZB}(h:∀i x,laid[i]? =some x->∀y,Ed ks x y->y∈laid.take i){i:Nat}{x y:Str}(hi:laid[i]? =some x)(r:Rch ks x y):∃j,j<i/\laid[j]? =some y:=by
 have b:∀i y,y∈laid.take i->∃j,j<i/\laid[j]? =some y:=λi y d=>by
  have%[j|c]:=Xi d;have f:=(Xp c).1;rw[Yn]at f;exact%[j,⋯|by rwa[List.getElem?_take_of_lt ⋯]at c]
 refine r.closed (λy e=>b i y (h i x hi y e)) λa y ⟨j,m,c⟩ e=>?_
 have%[g,n|l]:=b j y (h j a c y e);exact%[g,⋯|l]
theorem Dd{laid:ZB}(h:∀(i:Nat) x,laid[i]? =some x->∀y,Ed ks x y->y∈laid.take i){x:Str}(a:x∈laid): ¬ Rch ks x x:=by
 intro r;have%[i|hi]:=Xi a;have:∀n i:Nat,i<=n->laid[i]? ≠some x:=λn=>by
  induction n with
  | zero=>
    intro i hi e;have%[j,b|_]:=qt h e r
    lia
  | succ n c=>
    intro i hi e;have%[j,b|d]:=qt h e r;exact c j ⋯ d
 exact this i i (Zi _) hi
noncomputable def Wal:List ZB->Str->Str->Prop
 |[],a,b=>a=b
 | k::r,a,b=>∃c z,k=[a,c,z]/\Wal r c b
theorem Wal.app:∀{us vs:List ZB} {a:Str},Wal us a b->Wal vs b c->Wal (us++vs) a c
 |[],_,_,h,g=>h▸g
 | _::_,_,_,⟨d,z,e,h⟩,g=>%[d,z,e|h.app g]
def Dst(ks:List ZB)(s:Str)(n:Nat)(x:Str):Prop:=∃us:List _,us.length=n/\(∀k∈us,k∈ks)/\Wal us s x
theorem Dst.nil:Dst ks s 0 s:=%[[],rfl,λ_ h=>(nomatch h)|rfl]
theorem Dst.app(h:Dst ks s n x)(g:Dst ks x m y):Dst ks s (n+m) y:=by
 have%[us,d,a|b]:=h;have%[vs,g1,g2|g3]:=g;exact%[us++vs,by simp_all,λk c=>(Xq c).elim (a k) (g2 k)|b.app g3]
theorem Ed.dst(e:Ed ks s x):Dst ks s 1 x:=by
 have%[z|e]:=e;exact%[[[s,x,z]],rfl,λk a=>(Xr a)▸e,x,z,rfl|rfl]
theorem Dst.last:∀{n:Nat} {s:Str},Dst ks s (n+1) x->∃y,Dst ks s n y/\Ed ks y x
 | n,s,⟨[],a,_,_⟩=>(nomatch a)
 | 0,s,⟨[k],_,b,c,z,e,h⟩=>%[s,.nil,z|by rw[<-h,<-e];exact b k Zm]
 | 0,s,⟨_::_::_,a,_,_⟩=>absurd a ∅
 | n+1,s,⟨k::r,a,b,c,z,e,h⟩=>by
   have%[y,d|f]:=Dst.last %[r,by simpa using a,λk g=>b k (Zk _ g)|h];have:Ed ks s c:=%[z|e▸b k Zm]
   exact%[y,Nat.add_comm 1 n▸this.dst.app d|f]
theorem Rch.dst(h:Rch ks a b):∃n,Dst ks a (n+1) b:=by
 induction h with
 | one e=>exact%[0|e.dst]
 | more _ e c=>
   have%[n|h]:=c;exact%[n+1|h.app e.dst]
theorem Dst.rch:∀{n:Nat} {b:Str},Dst ks a (n+1) b->Rch ks a b
 | 0,b,h=>by
   have%[y,%[us,d,_|c]|e]:=h.last;rw[length_eq_zero_iff.mp d]at c;rw[c];exact .one e
 | n+1,b,h=>by
   have%[y,h|e]:=h.last;exact .more h.rch e
structure Lev (ks:List ZB) (st:Str) (rs:List (Str×Addr×ZB)) (d:Str->Nat) (k:Nat) (F:ZB):Prop where
 nd:(rs.map (·.1)).Nodup
 by_:∀r∈rs,r.2.2∈ks/\∃p z,r.2.2=[p,r.1,z]/\((p=st/\d r.1=1)\/(p≠st/\p∈rs.map (·.1)/\d r.1=d p+1))
 le:∀x∈rs.map (·.1),d x<=k
 edge:∀x,x∈F↔(k=0/\x=st)\/(1<=k/\x∈rs.map (·.1)/\d x=k)
 all:∀n x,1<=n->n<=k->Dst ks st n x->x∈rs.map (·.1)/\d x<=n
section
variable{ks:List ZB}{st:Str}{rs:List (Str×Addr×ZB)}{d:Str->Nat}{k:Nat}{F:ZB}
theorem Lev.nil:Lev ks st [] (λ_=>0) 0 [st]:=
 %[X7,λ_ h=>(nomatch h),λ_ h=>(nomatch h),λx=>by simp|λn x a b=>by lia]
theorem Lev.dst(h:Lev ks st rs d k F)(a:x∈rs.map (·.1)):1<=d x/\Dst ks st (d x) x:=by
 have:∀m x,x∈rs.map (·.1)->d x<=m->1<=d x/\Dst ks st (d x) x:=λm=>by
  induction m with
  | zero=>
    intro x a l;have%[r,b|rfl]:=Xs a;obtain⟨_,p,z,_,⟨_,e⟩|⟨_,_,e⟩⟩:=h.by_ r b<;> lia
  | succ m g=>
    intro x a l;have%[r,b|rfl]:=Xs a;have%[c,p,z,i|q]:=h.by_ r b;rw[i]at c;have f:Ed ks p r.1:=%[z|c]
    rcases q with⟨rfl,e⟩|⟨_,j,e⟩
    .rw[e];exact%[Zi _|f.dst]
    .exact e▸%[⋯|(g p j ⋯).2.app f.dst]
 exact this _ x a (Zi _)
theorem Lev.min(h:Lev ks st rs d k F)(a:x∈rs.map (·.1))(g:Dst ks st (n+1) x):d x<=n+1:=by
 by_cases c:n+1<=k
 .exact(h.all _ x ⋯ c g).2
 .have:=h.le x a
  lia
theorem Lev.stop(h:Lev ks st rs d k []):∀{n:Nat},Dst ks st (n+1) x->x∈rs.map (·.1):=by
 have k1:=pos_of_ne_zero λc=>(nomatch (h.edge st).mpr (.inl %[c|rfl]))
 have:∀n x,Dst ks st (n+1) x->x∈rs.map _:=λn=>by
  induction n with
  | zero=>exact λx g=>(h.all 1 x (Zi _) k1 g).1
  | succ n a=>
    intro x g;have%[y,b|e]:=g.last;have q:=a y b;have l:=h.le y q;have ne:d y≠k:=λc=>(nomatch (h.edge y).mpr (.inr %[k1,q|c]))
    exact(h.all _ x ⋯ ⋯ ((h.dst q).2.app e.dst)).1
 exact λ{n}=>this n x
theorem Lev.step(h:Lev ks st rs d k F)(nd:((rs++new).map (·.1)).Nodup)(E:∀r∈new,r.2.2∈ks/\∃p z,p∈F/\r.2.2=[p,r.1,z])
 (v:∀x∈F,∀y,Ed ks x y->y∈(rs++new).map (·.1)):Lev ks st (rs++new) (λx=>if x∈new.map (·.1)then k+1 else d x) (k+1) (new.map (·.1)):=by
 have o:=nd;rw[Zd,X4]at o;have f:∀{x},x∈rs.map (·.1)->x∉new.map (·.1):=λ{x} a b=>o.2.2 x a x b rfl
 have mem:∀{x},x∈(rs++new).map (·.1)↔x∈rs.map (·.1)\/x∈new.map (·.1):=λ{x}=>by rw[Zd,Yu]
 have le:∀x∈(rs++new).map (·.1),(if x∈new.map (·.1)then k+1 else d x)<=k+1:=λx l=>by
  by_cases c:x∈new.map (·.1)
  .rw[if_pos c];exact Zi _
  .rw[if_neg c];have:=h.le x ((mem.mp l).resolve_right c);lia
 refine%[nd,λr G=>?_,le,λx=>?_|λn x n1 M g=>?_]
 .rcases Xq G with q|q
  .have%[u,p,z,e|g]:=h.by_ r q;refine%[u,p,z,e|?_];rw[if_neg (f (Xt %[r,q|rfl]))];refine g.imp_right λ⟨a,b,c⟩=>%[a,mem.mpr (.inl b)|?_]
   rw[if_neg (f b)];exact c
  .have%[u,p,z,H|e]:=E r q;have w:r.1∈new.map (·.1):=Xt %[r,q|rfl];refine%[u,p,z,e|?_];rw[if_pos w];rcases(h.edge p).mp H with⟨rfl,rfl⟩|⟨k1,b,c⟩
   .exact .inl %[rfl|rfl]
   .refine .inr %[λps=>?_,mem.mpr (.inl b)|by rw[if_neg (f b),c]];have:Ed ks st r.1:=%[z|by rw[<-ps,<-e];exact u]
    exact f (h.all 1 _ (Zi _) k1 this.dst).1 w
 .refine%[λl=> .inr %[⋯,mem.mpr (.inr l)|if_pos l]|λl=>?_];rcases l with⟨a,_⟩|⟨_,a,b⟩
  .lia
  .refine(mem.mp a).resolve_left λc=>?_
   rw[if_neg (f c)]at b;have:=h.le x c
   lia
 .have i:∀{m},1<=m->m<=k->Dst ks st m x->x∈(rs++new).map _/\(if x∈new.map _ then k+1 else d x)<=m:=λa b g=>by
   have%[s|A]:=h.all _ x a b g;exact%[mem.mpr (.inl s)|by rw[if_neg (f s)];exact A]
  by_cases c:n<=k
  .exact i n1 c g
  .obtain rfl:n=k+1:=by lia
   have j:x∈(rs++new).map _->x∈(rs++new).map _/\(if x∈new.map _ then k+1 else d x)<=k+1:=λa=>%[a|le x a]
   have%[y,B|e]:=g.last;by_cases I:k=0
   .subst I;have%[us,J,_|C]:=B;rw[length_eq_zero_iff.mp J]at C;exact j (v y ((h.edge y).mpr (.inl %[rfl|(C).symm])) x e)
   .have%[s|A]:=h.all k y ⋯ (Zi _) B;by_cases L:d y=k
    .exact j (v y ((h.edge y).mpr (.inr %[⋯,s|L])) x e)
    .exact j (i ⋯ ⋯ ((h.dst s).2.app e.dst)).1
end
structure Sho (ks:List _) (a b:Str) (us:List _):Prop where
 sub:∀k∈us,k∈ks
 wal:Wal us a b
 pos:0<us.length
 min:∀n,Dst ks a (n+1) b->us.length<=n+1
theorem Sho.dst(h:Sho ks a b us):∃n,us.length=n+1/\Dst ks a (n+1) b:=
 %[us.length-1,by have:=h.pos;lia,us,by have:=h.pos;lia,h.sub|h.wal]
theorem Sho.rch(h:Sho ks a b us):Rch ks a b:=by
 have%[n,_|d]:=h.dst;exact d.rch
end Cut
namespace Cut
open PySem L2
theorem nV(lt:q->q->Bool)(c:∀x y,lt x y=false->x≠y->lt y x=true):∀{l m:List q},l.Pairwise (λa b=>lt b a=false)->m.Pairwise (λa b=>lt b a=false)->l.Nodup->m.Nodup->(∀x,x∈l↔x∈m)->l=m
 |[],[],_,_,_,_,_=>rfl
 |[],y::m,_,_,_,_,h=>absurd ((h y).mpr Zm) ∅
 | x::l,[],_,_,_,_,h=>absurd ((h x).mp Zm) ∅
 | x::l,y::m,s,u,nl,v,h=>by
   have%[f|g]:=List.pairwise_cons.mp s;have%[i|j]:=List.pairwise_cons.mp u;have%[w|n]:=nodup_cons.mp nl;have%[A|o]:=nodup_cons.mp v;have e:=Classical.byContradiction λd=>by
    have B:=(mem_cons.mp ((h x).mp Zm)).resolve_left d;have r:=f y ((mem_cons.mp ((h y).mpr Zm)).resolve_left (Ne.symm d));rw[c x y (i x B) d]at r;cases r
   subst e;rw[nV lt c g j n o λz=>?_]
   constructor
   .intro p;rcases mem_cons.mp ((h z).mp (Zk _ p))with e|e
    .simp_all
    .exact e
   .intro p;rcases mem_cons.mp ((h z).mpr (Zk _ p))with e|e
    .simp_all
    .exact e
def Let(rows:ZB)(c:Nat):Prop:=c≠46/\∃r∈rows,c∈r.cps.toList
def yK(rows:ZB)(a b:Nat):Prop:=a≠46/\a≠b/\∃(i j:Nat) (r c:Str),rows[i]? =some r/\rows[i+1]? =some c/\r.cps[j]? =some a/\c.cps[j]? =some b
theorem fO:c∈cV rows↔Let rows c:=by
 unfold cV Let;rw[List.mem_filter,tH,List.mem_flatten,decide_eq_true_eq]
 constructor
 .rintro⟨⟨l,e,b⟩,a⟩;have%[r,d|rfl]:=Xs e;exact%[a,r,d|b]
 .rintro⟨a,r,d,b⟩;exact%[%[_,Xt %[r,d|rfl]|b]|a]
def Bj(rows d:ZB):Prop:=(∀c,Let rows c↔Let d c)/\∀a b,yK rows a b↔yK d a b
end Cut
namespace Cut
open PySem L2
def St(wd:Bool)(c d:Int):Prop:=c<=d+(if wd=true then 1 else 0)/\d<=c+(if wd=true then 1 else 2)
def jU(wd:Bool)(b:ZL):Prop:=∃a:Nat,a<b.length/\(∀k c,b[k]? =some c->(k<a->c= -1)/\(a<=k->0<=c/\c<=7))/\∀k c d,b[k]? =some c->b[k+1]? =some d->a<=k->St wd c d
noncomputable def sg(a s:Int):Nat:=if a<0 then 46 else 97+((a*5+s)%26).toNat
theorem FM(h:0<=a):gT (sg a s)=true:=by
 unfold sg;rw[if_neg ⋯,kH]
 lia
theorem FN(h:a<0):sg a s=46:=if_pos h
theorem Bq(h:0<=a):sg a s≠46:=by
 unfold sg;rw[if_neg ⋯]
 lia
theorem FO(e:0<=a)(c:a<=7)(f:0<=b)(d:b<=7)(h:sg a s=sg b s):a=b:=by
 unfold sg at h;rw[if_neg ⋯,if_neg ⋯]at h;omega
noncomputable def iw(a:List ZL)(b:Int)(k:Nat):Str:=⟨(a.map λc=>sg (c.getD k 0) b).toArray⟩
noncomputable def drawn(a:List ZL)(hi:Nat)(b:Int):ZB:=(List.range hi).map (iw a b)
theorem fP(h:(drawn a hi c)[k]? =some z):k<hi/\z=iw a c k:=by
 unfold drawn at h;rw[Zl]at h;by_cases b:k<hi
 .rw[getElem?_range b]at h;exact%[b|(Za h).symm]
 simp_all
theorem kO{a:List ZL}{k j c:Nat}(h:(iw a d k).cps[j]? =some c):∃b,a[j]? =some b/\c=sg (b.getD k 0) d:=by
 have h:(a.map λc=>sg (c.getD k 0) d)[j]? =some c:=by simpa [iw]using h
 rw[Zl]at h;cases e:a[j]? with
 | none=>simp_all
 | some b=>rw[e]at h;exact%[b,rfl|(Za h).symm]
theorem df{a:ZL}(b:a.length=hi)(c:k<hi):a[k]? =some (a.getD k 0):=by
 simp_all
theorem ug{a:List ZL}{d:Int}{wd:Bool}(I:1<=hi)(J:hi<=40)(w:1<=a.length)(y:a.length<=40)(u:∀c∈a,c.length=hi/\jU wd c):cf (drawn a hi d):=by
 have len:(drawn a hi d).length=hi:=by unfold drawn;rw[Z6,Yl]
 have f:∀z∈drawn a hi d,∃k,k<hi/\z=iw a d k:=λz g=>by
  have%[k|e]:=Xi g;exact%[k|fP e]
 refine%[⋯,⋯,%[a.length,w,y|λz g=>?_],λz g=>?_,λi r L A B j c M g1 g2 p=>?_|?_]
 .have%[k,_|rfl]:=f z g;simp[iw]
 .have%[k,h|rfl]:=f z g;rw[all_eq_true];intro c q;have%[j|C]:=Xi q;have%[b,s|rfl]:=kO (j:=j) (by simpa using C);by_cases E:b.getD k 0<0
  .rw[FN E];decide +kernel
  .unfold okc;rw[FM ⋯,Bool.or_true]
 .have%[hi1|rfl]:=fP A;have%[hi2|rfl]:=fP B;have%[b,s|rfl]:=kO g1;have%[v,l|rfl]:=kO g2;rw[s]at l;cases l;have%[o,m,G,h|_]:=u b (Z8 s);by_cases H:i+1<m
  .rw[(h i _ (df o hi1)).1 ⋯];rfl
  .exact absurd p (Bq ((h _ _ (df o hi2)).2 ⋯).1)
 .have n:0<a.length:=by lia
  have%[o,m,G,h|_]:=(u _ (Ye n))
  exact%[iw a d _,Xt %[hi-1,by rw[mem_range];lia|rfl],sg (a[0].getD (hi-1) 0) d,Xt %[a[0],Ye n|rfl]|Bq ((h _ _ (df o ⋯)).2 ⋯).1]
theorem uh{i:Int}{wd:Bool}(s:∀c∈d,c.length=hi/\jU wd c){c:Nat}:Let (drawn d hi i) c↔∃a:Int,0<=a/\a<=7/\(∃b∈d,a∈b)/\c=sg a i:=by
 constructor
 .rintro⟨l,r,u,m⟩;have%[k|e]:=Xi u;have%[h|rfl]:=fP e;have%[j|v]:=Xi m;have%[b,w|rfl]:=kO (by simpa using v);have f:=Z8 w;have%[n,o,B,y|_]:=s b f;have g:=df n h;have q:=y k _ g;have:o<=k:=by
   refine Nat.le_of_not_lt λz=>l ?_
   rw[q.1 z];rfl
  exact%[_,(q.2 this).1,(q.2 this).2,%[b,f|Z8 g]|rfl]
 .rintro⟨a,A,C,⟨b,f,p⟩,rfl⟩;have%[n|_]:=s b f;have%[k|h]:=Xi p;refine%[Bq A,iw d i k,Xt %[k,by rw[mem_range];exact(n▸(Xp h).1)|rfl]|Xt %[b,f|?_]];rw[Zc,h];rfl
noncomputable def there(b:List ZL):ZL:=((List.range 8).filter λa:Nat=>b.any λc=>decide ((a:Int)∈c)).map λa:Nat=>a
theorem eK:a∈there c↔0<=a/\a<=7/\∃b∈c,a∈b:=by
 unfold there;rw[mem_map]
 constructor
 .rintro⟨n,f,rfl⟩;rw[List.mem_filter,mem_range,any_eq_true]at f;have%[g,b,d|e]:=f;exact%[⋯,⋯,b,d|Zo e]
 .rintro⟨h,i,b,d,e⟩;refine%[a.toNat,?_|⋯];rw[List.mem_filter,mem_range,any_eq_true];refine%[⋯,b,d|Zf ?_];rw[show a.toNat=a by lia];exact e
theorem uk(a:List _):(there a).Nodup:=by
 unfold there;rw[X6,Xb];refine(List.Pairwise.filter _ (nodup_iff_pairwise_ne.mp nodup_range)).imp λh e=>h ⋯
theorem Br{a:List ZL}{hi:Nat}(i:1<=hi)(j:1<=a.length)(d:∀c∈a,c.length=hi/\jU wd c):there a≠[]:=by
 have b:0<a.length:=by lia
 have%[e,f,l,h|_]:=d _ (Ye b);have g:=df e (show hi-1<hi by lia);have q:=(h _ _ g).2 ⋯;exact List.ne_nil_of_mem (eK.mpr %[q.1,q.2,_,Ye b|Z8 g])
theorem kP(a:List _):(there a).length<=8:=by
 unfold there;rw[Z6];exact Yi (Yk _ _) (Zi _)
noncomputable def dq(n:Str)(c:Nat):Str:=⟨(n.cps.toList++[46,c]).toArray⟩
theorem kQ(h:dq n c=dq m d):n=m/\c=d:=by
 have e:=by
  have:=congrArg (λz=>z.cps.toList) h;simpa [dq]using this
 have q:=List.append_inj' e rfl;refine%[fc q.1|?_];have:=q.2;simpa using this
def yL(rows:ZB):Prop:=∃m:List _,m.length<=26/\∀a b,yK rows a b->[sgn a,sgn b]∈m
noncomputable def wa(wd:Bool):List (Int×Int):=((List.range 7).map λi:Nat=>((i:Int),(i:Int) +1)) ++if wd=true then(List.range 7).map λi:Nat=>((i:Int) +1,(i:Int))else(List.range 6).map λi:Nat=>(i,i+2)
theorem yM(h:St wd c d)(c0:0<=c)(a:c<=7)(b:0<=d)(f:d<=7)(ne:c≠d):(c,d)∈wa wd:=by
 unfold St at h;unfold wa;rw[Yu];by_cases e:d=c+1
 .exact .inl (Xt %[c.toNat,mem_range.mpr ⋯|by rw[show c.toNat=c by lia,e]])
 .refine .inr ?_;cases wd
  .exact Xt %[c.toNat,mem_range.mpr ⋯|by rw[show c.toNat=c by lia,show d=c+2 by lia]]
  .exact Xt %[d.toNat,mem_range.mpr ⋯|by grind]
theorem Bs{hi:Nat}{h:Int}{wd:Bool}(v:∀c∈d,c.length=hi/\jU wd c):yL (drawn d hi h):=by
 refine%[(wa wd).map λp=>[sgn (sg p.1 h),sgn (sg p.2 h)],?_|?_]
 .rw[Z6];cases wd<;> decide
 .intro a b %[n1,w,i,j,r,E,y,A,g1|g2];have%[hi1|rfl]:=fP y;have%[hi2|rfl]:=fP A;have%[l,n|rfl]:=kO g1;have%[o,f|rfl]:=kO g2;rw[n]at f;cases f;have%[g,B,G,m|C]:=v l (Z8 n);have q:=Nat.le_of_not_lt λz=>n1 (by rw[(m i _ (df g hi1)).1 z];rfl)
  have s:=(m i _ (df g hi1)).2 q;have u:=(m _ _ (df g hi2)).2 ⋯;exact Xt %[(_,_),yM (C i _ _ (df g hi1) (df g hi2) q) s.1 s.2 u.1 u.2 (λe=>w (by rw[e]))|rfl]
end Cut
namespace K31
open PySem L2 Cut
abbrev ZqS:=Lean.Syntax
def zqn:Lean.Name->Array ZqS->ZqS:= .node .none
def zqa:String->ZqS:= .atom .none
def zqi(s:String):ZqS:=Lean.mkIdent s.toName
def zqh:ZqS:=zqn `Lean.Parser.Term.hole #[zqa "_"]
def zqf(k:Nat)(b:ZqS):ZqS:=zqn `Lean.Parser.Term.fun #[zqa "fun",zqn `Lean.Parser.Term.basicFun #[zqn `null (Array.replicate k zqh),zqn `null #[],zqa "=>",b]]
def zqd(c:Char):ZqS:=Lean.Syntax.mkNumLit (toString (c.toNat-48))
def zqe(a:Array ZqS)(x:String):ZqS:=if x="r"then zqi "rfl"else if x="n"then a[0]! else if x="h"then a.back! else if x="_"then zqh else if x="f"then zqf 2 (zqi "rfl") else if x="g"then zqf 1 (zqi "rfl") else if x.length>1 then zqi x else zqn `Lean.Parser.Term.namedArgument #[zqa "(",zqi x,zqa ":=",zqi x,zqa ")"]
def zqx(r:Array ZqS):ZqS:=if r[0]!.isAtom then(if r[0]!.getAtomVal=""then zqf 3 r[1]! else r[1]!)else if r.size<2 then r[0]! else zqn `Lean.Parser.Term.app #[r[0]!,zqn `null (r.extract 1 r.size)]
def zqp(s t:String):Nat:=(s.splitOn t).head!.length
def zqs(t:String)(a:Array ZqS)(l:List Char)(k:List (List String×Array ZqS)):List Char×List (List String×Array ZqS):=
 let f:=k.head!
 let k:=k.tail
 let x:=f.1.headD ""
 let w:=f.1.tail
 let c:=l.headD ' '
 if f.1.isEmpty then(l,(k.head!.1,k.head!.2.push (zqx f.2))::k.tail)
 else if x="#"then(l.tail,(w,f.2.push (zqd c))::k)
 else if x="L"then(l,(["*"],#[zqa ""])::(w,f.2)::k)
 else if x="*"then
  if c.isDigit then(l.tail,(["r"],#[zqi "ae",zqd c])::(w,f.2)::k)
  else if c='?'then(l.drop 2,(w,f.2.push a[l[1]!.toNat-48]!)::k)
  else
   let p:=zqp "~]`" c.toString
   let q:=if p<3 then 1 else 0
   let s:=((t.splitOn "|")[(74+84*p)*q+zqp "ABCDEFGHIJKLMNOPQRSTUVWXYZabcdefghijklmnopqrstuvwxyz!$%&'()*+,./:;<=>^_|}[0123456789" l[q]!.toString]!).splitOn " "
   (l.drop (q+1),(s.tail,#[zqi s.head!])::(w,f.2)::k)
 else(l,(w,f.2.push (zqe a x))::k)
def zqt(t:String)(a:Array ZqS)(l:List Char):Nat->ZqS
 |n=>(n.fold (λ_ _ s=>if s.2.length=1&&s.2.head!.1.isEmpty then s else zqs t a s.1 s.2) (l,[(["*"],#[zqa "1"])])).2.head!.2[1]!
def zqm(s:Lean.StrLit)(a:Array Lean.Term):Lean.MacroM Lean.Term:=
 return⟨zqt "paE r * *|ao|aw|aj * *|ar *|opE * * *|aQ # n r *|aS * h r *|aT *|QSs.h *|bz * r * *|aM # n r|ifS * * *|gsE r * *|bn|cH # r|cr K r f * *|cq K r f * *|bK|cN K r *|cX *|cO PassesOwn.never r r * * *|cc r *|aM # * r|cE|wT *|eY K r g *|bU|cbO * T.a8 PySem.boot_len r *|cL K r|aC.of *|dP|cJ|bA|Z1|Z0|f6 K r r r *|db|ik *|d8 * r r * L L L|orW * *|bmO K plainAttrs_list PySem.F.slot_list_append PySem.F.type_list_append * r * *|eBl|jD|jB * r * *|iW *|d9|dj h f * *|kA *|dZ|kB * *|m8 * *|cbO * T.ac boot_isinstance r *|ip K r|gO r T.ai r *|im *|oY *|oZ # n r * * r *|jC *|iu h r * * *|sX *|cbO * T.a7 boot_sorted r *|io|sW|vy|ctO * T.a6 boot_set r *|nQ * T.o_Ground h r r *|gvE T.al r r|m9|p7 *|x4 K r|xZ|pZ|ctO * T.a5 boot_list r *|Am|fA|slE K r * * *|gvE T.ar r r|tE K w r r r|noO|pjE * *|cx T|kC K r|ae # r|nO PassesOwn.never * *|rj|cbO * T.a0 boot_min r *|bmO K plainAttrs_str slot_str_join type_str_join * r * *|ro K r|jE # n r * * r * r r * L L L|wK K r r T.ad r *|C2 K r r * *|CJ r r r * *|gvE T.am r r|mH h r * *|wI|fD T|cbO * T.a1 boot_max r *|vx * * r * * *|cbO * T.aa boot_all r *|An K r r|kE w r r|Fi *|gH T|FA K r r *|d6 T|fE T|bmO K plainAttrs_dict slot_dict_get type_dict_get * r * *|Bb|iJ T|iI T|Dx r|GB f * *|ctO * T.ag boot_int r *|Dy|wH # n r * *|oh T|orV * *|gvE T.ao r r|Ap r T.ae r r *|j7 T|kX T|bmO K plainAttrs_list PySem.F.slot_list_extend PySem.F.type_list_extend * r * *|sY|qk P w r r r|A0 K P w r r r r h|AE *|AD|GY K r * * *|eW T|A7 r|fW T|G3 K r plainAttrs_list PySem.F.slot_list_append PySem.F.type_list_append * r r r r * *|bmO K plainAttrs_dict PySem.F.slot_dict_setdefault PySem.F.type_dict_setdefault * r * *|jR|qJ T|fX T|ctO * T.ak boot_dict r *|wZ K r r h|DG h|BN T|jc T|DH * T.o_Ground h r *|uG T|GZ * *|AC * h r r r r *|C_Torn T|uw T|GA r|A5 # n r * * r *|si T|wH # * r * *|valT g *|cbO * T.aj boot_any r *|GX K r r|gvE T.aq r r|bmO K plainAttrs_str PySem.F.slot_str_split PySem.F.type_str_split * r * *|wJ|gvE T.ap r r|By T|oo T|GP K r r T.ae r r *|jp T|gvE T.an r r|gvE T.aw r r|gvE T.ax r r|GR K r T.t_LAYER_WORDS r r|GR K r T.t_YEAR_WORDS r r|yY T|yX T|BD T|gvE T.au r r|oz T|dinT h r * *|gvE T.av r r|uA T|yT T|yx K r|wk T|sq T|uF T|mj T|yy K r|oA T|kh T|uB T|yR T|sw T|FB r|kZ T|mo T|C7 r|Gx K r plainAttrs_dict PySem.F.slot_dict_values PySem.F.type_dict_values * r r *|Ba|wp T|Be r r T.a9 r T.a5 r *|uJ T|BL T|ju T|FC K r r|bmO K plainAttrs_list PySem.F.slot_list_remove PySem.F.type_list_remove * r * *|Bc|vW w r r|FI w r|oK T|sC T|oH T|E6|mt T|mr T|Dm T|Gz r r r r *|E5 * * *|Gy|bmO K plainAttrs_dict PySem.F.slot_dict_update PySem.F.type_dict_update * r * *|Bp|Bn h|lq T|Gx K r plainAttrs_list PySem.F.slot_list_clear PySem.F.type_list_clear * r r *|CL|yP T|sA T|cbE * r T.ac boot_isinstance r r r *|GG K r|clsE r T.c_DigError r|GW h|GF T.g_Torn_ring r *|G0 T.g_Torn_ring f *" (a.map (·.raw)) s.getString.toList 9999⟩
abbrev ZM:=List V
abbrev ZN:=List (Addr×List V)
local macro_rules|`(%[$s:str,$x,*|$y])=>zqm s (x.getElems.push y)|`(%[$s:str|$y])=>zqm s #[y]
local macro_rules|`(tactic|lk)=>do
 let x<-("bw zf ko jy jx qQ iZ wB tB BW tOr DT ze DZ tOp tUn tC DN DO tCB sK xI zH Ew Ex uZ tBM Ck tSl zN qV zZ rI rI0 rU ES EU rEq rNe Ae Dv Af EJ EM EC ED EE Ag Gu vz vh rc B3 zj Ee Dz DC DF wD wE Er Es Fb pS EQ re vk vm zT A8 A9 FD rW FG Bi t8 rIn CF EH EA CA q0 wG zv CG F5 F6 F7".splitOn " ").toArray.mapM λs=>`(Lean.Parser.Tactic.simpLemma|↓$(Lean.mkIdent s.toName):ident)
 let y<-("nu B8 zC zqD tyV F8 F9 Ga List.getElem?_cons_zero List.getElem?_cons_succ List.set_cons_zero List.set_cons_succ Option.some.injEq V.int.injEq V.str.injEq V.bl.injEq V.ref.injEq V.ty.injEq List.cons.injEq reduceCtorEq and_true true_and and_false false_and or_false false_or or_true true_or exists_false exists_eq_left' exists_eq_left exists_eq_right exists_eq_right' exists_and_left exists_and_right exists_eq cons_append nil_append Zz exists_const and_assoc Int.zero_add Bool.not_true Bool.not_false Y1 if_true if_false eq_self".splitOn " ").toArray.mapM λs=>`(Lean.Parser.Tactic.simpLemma|$(Lean.mkIdent s.toName):ident)
 `(tactic|simp only[$(x++y),*])
local macro_rules|`(!$n:ident)=>`(some (V.ref $n))
local macro_rules|`(-$n:ident)=>`(some (V.str $n))
local macro_rules|`(#[$n:num])=>`((show $n≤sizeLine by decide))|`(#[$x])=>`(paE rfl $x ao)|`(#[$x,$y,*])=>`(paE rfl $x #[$y,*])
local macro_rules|`(tactic|walk)=>`(tactic|refine⟨rfl,rfl,rfl,?_,rfl,?_,?_⟩<;>decide +kernel)
theorem zq0{P:List Value->Prop}(h:P []):∀u,u.length=0->P u:=λu e=>by rw[List.length_eq_zero_iff.mp e];exact h
theorem zq1{n:Nat}{P:List Value->Prop}(h:∀a,∀u,u.length=n->P (a::u)):∀u,u.length=n+1->P u:=λu e=>by
 cases u with
 |nil=>cases e
 |cons a u=>exact h a u (Nat.succ.inj e)
local macro_rules|`(tactic|room)=>`(tactic|(intro _ _ _ _ _ _;(repeat(refine zq1 λ_=>?_));exact zq0 rfl))
set_option hygiene false in
local macro_rules|`($a>>$b)=>`(cq (K:=K) rfl (λ_ _=>rfl) $a $b)
noncomputable def top(i:Nat):Stmt:=PySem.Challenge.pw_digbook_k31_rings_told.main.body.getD i (.Pass %[0,0,0|0])
noncomputable section
abbrev fQ:Stmt:=top 1
theorem bh:ax ["ground","names","layer","word","one","other"] ["ground"] (ah fQ):=by walk
abbrev gU:Stmt:=top 2
theorem dF:ax ["names","one","other","first","second"] ["names","one","other"] (ah gU):=by walk
abbrev eR:Stmt:=top 3
theorem ee:ax ["names","layer"] ["names","layer"] (ah eR):=by walk
abbrev nW:Stmt:=top 4
theorem fi:ax ["ground","names","groups","layer"] ["ground"] (ah nW):=by walk
abbrev d5:Stmt:=top 5
theorem kR:ax ["ground"] ["ground"] (ah d5):=by walk
abbrev r8:Stmt:=top 6
theorem uo:ax ["ground","names"] ["ground"] (ah r8):=by walk
abbrev fR:Stmt:=top 15
theorem jV:ax ["found"] ["found"] (ah fR):=by walk
abbrev eS:Stmt:=top 16
theorem iX:ax ["found"] ["found"] (ah eS):=by walk
abbrev qu:Stmt:=top 17
theorem jo:ax ["found","side","groups","link"] ["found","side"] (ah qu):=by walk
abbrev eT:Stmt:=top 18
theorem a9:ax ["names","found","beneath","above","waits","name","ready","laid","least","link"] ["names","found"] (ah eT):=by walk
abbrev iz:Stmt:=top 19
theorem cW:ax ["beneath","start","goal","reached","edge"] ["beneath","start","goal"] (ah iz):=by walk
abbrev lM:Stmt:=top 20
theorem eC:ax ["beneath","edge","reached","further","name","link"] ["beneath","edge","reached"] (ah lM):=by walk
abbrev uq:Stmt:=top 21
theorem qv:ax ["reached","start","goal","way"] ["reached","start","goal"] (ah uq):=by walk
abbrev Bt:Stmt:=top 23
theorem De:ax ["ground"] ["ground"] (ah Bt):=by walk
abbrev gW:Stmt:=top 24
theorem bM:ax ["names","found","beneath","shortest","name","way"] ["names","found"] (ah gW):=by walk
abbrev jW:Stmt:=top 25
theorem pD:ax ["names","found"] ["names","found"] (ah jW):=by walk
abbrev kS:Stmt:=top 32
theorem wb:ax ["thing"] ["thing"] (ah kS):=by walk
abbrev qw:Stmt:=top 33
theorem gB:ax ["text","rows","number","row"] ["text"] (ah qw):=by walk
abbrev nZ:Stmt:=top 34
theorem yN:ax ["row"] ["row"] (ah nZ):=by walk
abbrev eU:Stmt:=top 35
theorem md:ax ["row","above"] ["row","above"] (ah eU):=by walk
abbrev gC:Stmt:=top 36
theorem pE:ax ["rows"] ["rows"] (ah gC):=by walk
abbrev qx:Stmt:=top 37
theorem wc:ax ["text"] ["text"] (ah qx):=by walk
abbrev n6:Stmt:=top 38
theorem dR:ax ["text","rows","pairs","above","row"] ["text"] (ah n6):=by walk
abbrev cY:Stmt:=top 39
theorem iY:ax ["above","row"] ["above","row"] (ah cY):=by walk
abbrev jX:Stmt:=top 48
theorem dL:ax ["cuts","names","number","thing"] ["cuts"] (ah jX):=by walk
abbrev iA:Stmt:=top 49
theorem mf:ax ["thing"] ["thing"] (ah iA):=by walk
abbrev ur:Stmt:=top 50
theorem yO:ax ["thing"] ["thing"] (ah ur):=by walk
abbrev gX:Stmt:=top 51
theorem dG:ax ["sayings","layers","number","thing"] ["sayings","layers"] (ah gX):=by walk
abbrev lN:Stmt:=top 52
theorem r9:ax ["thing","layers"] ["thing","layers"] (ah lN):=by walk
abbrev gY:Stmt:=top 53
theorem kT:ax ["thing","texts"] ["thing","texts"] (ah gY):=by walk
abbrev qy:Stmt:=top 54
theorem we:ax ["thing"] ["thing"] (ah qy):=by walk
abbrev jY:Stmt:=top 55
theorem pF:ax ["name","letter"] ["name","letter"] (ah jY):=by walk
abbrev iB:Stmt:=top 56
theorem eD:ax ["cuts","layers","name","text"] ["cuts"] (ah iB):=by walk
abbrev iC:Stmt:=top 57
theorem bW:ax ["cuts","ties","name","text","upper","lower"] ["cuts"] (ah iC):=by walk
abbrev fj:Stmt:=top 58
theorem cp:ax ["sayings","ties","number","saying"] ["sayings"] (ah fj):=by walk
abbrev i7:Stmt:=top 60
theorem n8:ax ["_law_script","_law_k"] ["_law_script","_law_k"] (ah i7):=by walk
abbrev lO:Stmt:=top 61
theorem gE:ax ["_law_cell","_law_k","_law_one","_law_two"] ["_law_cell","_law_k"] (ah lO):=by walk
abbrev qz:Stmt:=top 62
theorem dH:ax ["_law_script","_law_many","_law_found","_law_number","_law_k"] ["_law_script","_law_many"] (ah qz):=by walk
abbrev lP:Stmt:=top 63
theorem bJ:ax ["_law_number","_law_size","_law_at","_law_names_here","_law_k","_law_signs","_law_j","_law_place"] ["_law_number"] (ah lP):=by walk
abbrev jZ:Stmt:=top 64
theorem bL:ax ["_law_number","_law_high","_law_wild","_law_air","_law_at","_law_signs","_law_k"] ["_law_number","_law_high","_law_wild"] (ah jZ):=by walk
abbrev n9:Stmt:=top 65
theorem ut:ax ["_law_at","_law_shift"] ["_law_at","_law_shift"] (ah n9):=by walk
abbrev fS:Stmt:=top 66
theorem cZ:ax ["_law_row_here","_law_shift","_law_wild","_law_wide","_law_high","_law_columns","_law_rows","_law_k","_law_there"] ["_law_row_here","_law_shift","_law_wild"] (ah fS):=by walk
abbrev j3:Stmt:=top 67
theorem br:ax ["_law_one","_law_two","_law_layers","_law_torn","_law_layer","_law_at","_law_other","_law_there","_law_odd","_law_kind","_law_year"] ["_law_one","_law_two","_law_layers","_law_torn"] (ah j3):=by walk
abbrev eE:Stmt:=top 68
theorem aN:ax ["_law_row_here","_law_names_here","_law_torn","_law_cuts","_law_layers","_law_k","_law_shift","_law_wild","_law_text","_law_there","_law_at","_law_many","_law_sayings"] ["_law_row_here"] (ah eE):=by walk
abbrev gF:Stmt:=top 69
theorem cT:ax ["_law_sayings","_law_layers","_law_called_here","_law_turn","_law_saying_here","_law_least"] ["_law_sayings","_law_layers"] (ah gF):=by walk
abbrev lQ:Stmt:=top 70
theorem bu:ax ["_law_cuts","_law_sayings","_law_layers","_law_called_here","_law_found","_law_name","_law_text","_law_rows","_law_k","_law_upper","_law_lower","_law_number"] ["_law_cuts","_law_sayings","_law_layers"] (ah lQ):=by walk
abbrev bN:Stmt:=top 71
theorem aF:ax ["_law_tied","_law_least","_law_start","_law_there","_law_edge","_law_far","_law_ends"] ["_law_tied"] (ah bN):=by walk
abbrev i8:Stmt:=top 72
theorem iD:ax ["_law_found","_law_tied","_law_least","_law_k"] ["_law_found","_law_tied","_law_least"] (ah i8):=by walk
abbrev lR:Stmt:=top 73
theorem gG:ax ["_law_ground_here","_law_tied","_law_least","_law_found"] ["_law_ground_here","_law_tied"] (ah lR):=by walk
abbrev j4:Stmt:=top 74
theorem iE:ax ["_law_script","_law_row_here","_law_cuts","_law_sayings","_law_layers","_law_ground_here","_law_less","_law_made"] ["_law_script"] (ah j4):=by walk
abbrev bY:Stmt:=iL (top 47) 0
theorem eV:ax ["self","cuts","sayings","layers"] ["self","cuts","sayings"] (ah bY):=by walk
abbrev pG:Stmt:=iL (top 47) 1
theorem Bu:ax ["self"] ["self"] (ah pG):=by walk
abbrev ci:Stmt:=iL (top 47) 2
theorem j6:ax ["self"] ["self"] (ah ci):=by walk
abbrev cw:Stmt:=iL (top 47) 3
theorem kU:ax ["self"] ["self"] (ah cw):=by walk
abbrev cU:Stmt:=iL (top 47) 4
theorem oa:ax ["self"] ["self"] (ah cU):=by walk
abbrev dS:Stmt:=iL (top 11) 0
end
theorem sd:ax ["self","ring"] ["self","ring"] (ah dS):=by walk
inductive og (K:ZA) (vs:ZM) (H:Hp) (Q:VK) (E0:XK):Prop
 | mk (a:Addr) (ns:ZL) (k:Int) (z0:vs=[.ref a,.int k]) (z1:SqL K H a (ns.map V.int)) (z2:0<=k) (z3:Q (.int (ns.getD k.toNat 0)) H):og K vs H Q E0
inductive Bv (K:ZA) (vs:ZM) (H:Hp) (Q:VK) (E0:XK):Prop
 | mk (a:Addr) (ns:ZL) (m:Int) (z0:vs=[.ref a,.int m]) (z1:SqL K H a (ns.map V.int)) (z2:ns.length<=1000) (z3:0<=m) (z4:m<=100) (z5:∀l H' (xs:ZL),af H H'->H l=none->H' l=some (.lst (xs.map V.int))->xs.length=m.toNat->(∀x∈xs,0<=x/\x<9973)->Q (.ref l) H'):Bv K vs H Q E0
inductive qA (vs:ZM) (H:Hp) (Q:VK) (E0:XK):Prop
 | mk (n hi:Int) (wild:Bool) (z0:vs=[.int n,.int hi,.bl wild]) (z1:0<=n) (z2:1<=hi) (z3:hi<=7) (z4:∀l H' (cs:ZL),af H H'->H l=none->H' l=some (.lst (cs.map V.int))->cs.length=hi.toNat->jU wild cs->Q (.ref l) H'):qA vs H Q E0
inductive w4 (vs:ZM) (H:Hp) (Q:VK) (E0:XK):Prop
 | mk (a s:Int) (z0:vs=[.int a,.int s]) (z1:0<=s) (z2:Q (.str (sgn (sg a s))) H):w4 vs H Q E0
def sf(H:Hp)(a:List (Addr×ZL)):Prop:=∀p∈a,H p.1=some (.lst (p.2.map V.int))
theorem sf.up{H a:Hp}{b:List _}(h:sf H b)(s:af H a):sf a b:=λp c=>s _ _ (h p c)
inductive Bw (K:ZA) (vs:ZM) (H:Hp) (Q:VK) (E0:XK):Prop
 | mk (a:Addr) (xs:ZL) (sh:Int) (wd:Bool) (z0:vs=[.ref a,.int sh,.bl wd]) (z1:SqL K H a (xs.map V.int)) (z2:(∀H',af H H'->SqL K H' a (xs.map V.int))) (z3:xs.length=6) (z4:(∀x∈xs,0<=x/\x<9973)) (z5:0<=sh) (z6:∀(T th:Addr) H' (cols:List ZL) (hi:Nat),af H H'->H T=none->H th=none->T≠th->H' T=some (.tup [.str (Str.join nl (drawn cols hi sh)),.ref th])->H' th=some (.lst ((there cols).map V.int))->1<=hi->hi<=7->1<=cols.length->cols.length<=5->(∀c∈cols,c.length=hi/\jU wd c)->Q (.ref T) H'):Bw K vs H Q E0
inductive uu (vs:ZM) (H:Hp) (Q:VK) (E0:XK):Prop
 | mk (c k:Int) (z0:vs=[.int c,.int k]) (z1:0<=k) (z2:k<=100) (z3:∀v,0<=v->v<2147483563->Q (.int v) H):uu vs H Q E0
structure Txc (K:ZA) (mg:ZC):Prop where
 c_Torn:mg "Torn"=some (.ref (be mg "Torn"))
 c_DigError:mg "DigError"=some (.ref (be mg "DigError"))
 c_NoCut:mg "NoCut"=some (.ref (be mg "NoCut"))
 x_Torn:AB K mg "Torn" "Torn.__init__" dS ["self","ring"]
 f_Torn_ring:Fa K (be mg "Torn") "ring"
 g_Torn_ring:AA K (be mg "Torn") "ring"
 u_Torn_NoCut:subIn K (.ref (be mg "Torn")) (.ref (be mg "NoCut"))=some false
 k_Torn_DigError:kitOne K (.ref (be mg "Torn")) (.ref (be mg "DigError"))=some true
 i_DigError:Aw K (be mg "DigError")
 t_NoCut:Cat K (be mg "NoCut")
 o_Ground:tY K mg "Ground"
 n_Ground_kept_cuts:fo K (be mg "Ground") "kept_cuts"
 n_Ground_kept_sayings:fo K (be mg "Ground") "kept_sayings"
 n_Ground_kept_layers:fo K (be mg "Ground") "kept_layers"
 n_Ground_kept_ties:fo K (be mg "Ground") "kept_ties"
 i_Ground:A3 K mg "Ground" "Ground.__init__" bY ["self","cuts","sayings"]
 m_Ground_sayings:tZ K mg "Ground" "sayings" "Ground.sayings" ci ["self"]
 m_Ground_layers:tZ K mg "Ground" "layers" "Ground.layers" cw ["self"]
 m_Ground_ties:tZ K mg "Ground" "ties" "Ground.ties" cU ["self"]
 t_YEAR_WORDS:GvT K mg "YEAR_WORDS" [.str "since",.str "by"]
 t_LAYER_WORDS:GvT K mg "LAYER_WORDS" [.str "later",.str "same"]
structure Txt (K:ZA) (mg:ZC):Prop extends Txc K mg where
 a0:mg "min"=none
 a1:mg "max"=none
 a5:mg "list"=none
 a6:mg "set"=none
 a7:mg "sorted"=none
 a8:mg "len"=none
 a9:mg "reversed"=none
 aa:mg "all"=none
 ab:mg "str"=none
 ac:mg "isinstance"=none
 ad:mg "enumerate"=none
 ae:mg "zip"=none
 af:mg "tuple"=none
 ag:mg "int"=none
 ah:mg "bool"=none
 ai:mg "range"=none
 aj:mg "any"=none
 ak:mg "dict"=none
 al:Gv mg "LATER" (.int 0)
 am:Gv mg "EARLIER" (.int 1)
 an:Gv mg "LONGEST_NAME" (.int 8)
 ao:Gv mg "LETTERS" (.str "abcdefghijklmnopqrstuvwxyz")
 ap:Gv mg "MOST_ROWS" (.int 40)
 aq:Gv mg "MOST_SIGNS" (.int 40)
 ar:Gv mg "AIR" (.str ".")
 au:Gv mg "MOST_CUTS" (.int 8)
 av:Gv mg "MOST_SAYINGS" (.int 60)
 aw:Gv mg "FIRST_YEAR" (.int (-9999))
 ax:Gv mg "LAST_YEAR" (.int 9999)
 ay:aL K mg "names_by_layer" fQ ["ground"]
 az:aL K mg "join_deposits" gU ["names","one","other"]
 aA:aL K mg "least_pointed_to" eR ["names","layer"]
 aB:aL K mg "deposits" nW ["ground"]
 aC:aL K mg "deposit_names" d5 ["ground"]
 aD:aL K mg "links" r8 ["ground"]
 aE:aL K mg "links_by_later" fR ["found"]
 aF:aL K mg "links_by_earlier" eS ["found"]
 aG:aL K mg "grouped" qu ["found","side"]
 aH:aL K mg "laid_in_turn" eT ["names","found"]
 aI:aL K mg "shortest_way" iz ["beneath","start","goal"]
 aJ:aL K mg "next_edge" lM ["beneath","edge","reached"]
 aK:aL K mg "way_to" uq ["reached","start","goal"]
 aM:aL K mg "ring" Bt ["ground"]
 aN:aL K mg "shortest_ring" gW ["names","found"]
 aO:aL K mg "never_laid" jW ["names","found"]
 aP:aL K mg "is_name" kS ["thing"]
 aQ:aL K mg "rows_of" qw ["text"]
 aR:aL K mg "is_row" nZ ["row"]
 aS:aL K mg "lies_beneath" eU ["row","above"]
 aT:aL K mg "letters_in" gC ["rows"]
 aU:aL K mg "letters" qx ["text"]
 aV:aL K mg "meetings" n6 ["text"]
 aW:aL K mg "meetings_between" cY ["above","row"]
 aX:aL K mg "check_cuts" jX ["cuts"]
 aY:aL K mg "is_named_cut" iA ["thing"]
 aZ:aL K mg "is_cut" ur ["thing"]
 b0:aL K mg "check_sayings" gX ["sayings","layers"]
 b1:aL K mg "is_saying" lN ["thing","layers"]
 b2:aL K mg "is_text_among" gY ["thing","texts"]
 b3:aL K mg "is_year" qy ["thing"]
 b4:aL K mg "layer_name" jY ["name","letter"]
 b5:aL K mg "layers_of" iB ["cuts"]
 b6:aL K mg "ties_of_cuts" iC ["cuts"]
 b7:aL K mg "ties_of_sayings" fj ["sayings"]
 b8:aL K mg "_law_cell_at" i7 ["_law_script","_law_k"]
 b9:aL K mg "_law_mixed" lO ["_law_cell","_law_k"]
 ba:aL K mg "_law_row" qz ["_law_script","_law_many"]
 bb:aL K mg "_law_names" lP ["_law_number"]
 bc:aL K mg "_law_column" jZ ["_law_number","_law_high","_law_wild"]
 bd:aL K mg "_law_sign" n9 ["_law_at","_law_shift"]
 be:aL K mg "_law_cut" fS ["_law_row_here","_law_shift","_law_wild"]
 bf:aL K mg "_law_saying" j3 ["_law_one","_law_two","_law_layers","_law_torn"]
 bg:aL K mg "_law_ground" eE ["_law_row_here"]
 bh:aL K mg "_law_called" gF ["_law_sayings","_law_layers"]
 bi:aL K mg "_law_links" lQ ["_law_cuts","_law_sayings","_law_layers"]
 bj:aL K mg "_law_least_ring" bN ["_law_tied"]
 bm:aL K mg "_law_is_ring" i8 ["_law_found","_law_tied","_law_least"]
 bn:aL K mg "_law_right" lR ["_law_ground_here","_law_tied"]
section
variable{P:Program}{w:World}{K:ZA}{mg:ZC}{base:Heap}
theorem bE{n:Nat}(h:n<=5000):n<=sizeLine:=Yi h (by decide)
theorem aH{n:Nat}(h:n<=5000):n<sizeLine:=Nat.lt_of_le_of_lt h (by decide)
theorem af.upd{H:Hp}{p:Addr}{o:HO}(h:H p=none):af H (upd H p o):=λb u e=>by rw[ak (av e h)];exact e
theorem af.set{H a:Hp}{p:Addr}{o:HO}(c:af H a)(h:H p=none):af H (L2.upd a p o):=λb u e=>by rw[ak (av e h)];exact c b u e
theorem G1{b:Type}(xs:List b){i:Int}(d:0<=i)(e:i<xs.length):∃c,atI xs i=some c/\c∈xs:=by
 have%[j|rfl]:=Xk d;have a:j<xs.length:=by lia
 exact%[xs[j],cm (by simp[a])|Ye a]
theorem iF(xs:ZL){i:Int}(b:0<=i)(d:i<xs.length):∃c,atI (xs.map V.int) i=some (V.int c)/\c∈xs:=by
 have%[j|rfl]:=Xk b;have a:j<xs.length:=by lia
 exact%[xs[j],cm (by simp[a])|Ye a]
theorem DI:(gh.cps.toList.length:Int)=26:=by decide +kernel
theorem fD(T:Txt K mg):Cal P w K mg base 1 "_law_cell_at" ["_law_script","_law_k"] (og K):=by
 refine T.b8.cal n8 (λH vs Q E h=>?_)
 .have%[a,b,k,rfl,c,g|q]:=h;refine%[rfl|λf e A outer s l=>?_];refine%[_,%["JDMK:1cdA0BEIR01OEIC"|0]|?_]
  show bw _ _ _ [some _,some _] H;lk;refine%[_,.inl %[_,c|rfl]|bH (λd=>?_) λd=>?_]
  .rw[Z6]at d;refine%[_,c,.int _,?_|q];have%[j|rfl]:=Xk g;have i:j<b.length:=by lia
   exact cm (by simp[i])
  simp_all
theorem uw(T:Txt K mg):Cal P w K mg base 1 "_law_mixed" ["_law_cell","_law_k"] uu:=by
 refine T.b9.cal gE (λH vs Q E h=>?_)
 .have%[c,k,rfl,l,m|q]:=h;refine%[rfl|λf a A outer s j=>?_];refine%[_,%["JDG2FSFxFbFbFS0CFxC1CCCDG3FSFbF~L22FxFxC11CEIFSF~L33C"|gE.nd]|?_]
  show bw _ _ _ [some (.int c),some (.int k),none,none] H;refine am λn k1 _=>?_
  lk;refine%[by decide,.inl %[by decide|by decide],.inr %[by decide|by decide],by decide|k1 _ _ (am λo k2 _=>?_)];have b:=Int.emod_nonneg ((c%1000003+7919*k+1)*48271) (by decide:(2147483629:Int)≠0);have d:=Int.emod_lt_of_pos ((c%1000003+7919*k+1)*48271) (by decide:(0:Int)<2147483629)
  generalize (c%1000003+7919*k+1)*48271%2147483629=one at b d
  lk;refine%[.inl %[⋯|⋯],.inl %[by decide|by decide],.inr %[⋯|⋯],by decide|k2 _ _ ?_];have e:=Int.emod_nonneg (one*one+104729*k*k) (by decide:(2147483587:Int)≠0);have g:=Int.emod_lt_of_pos (one*one+104729*k*k) (by decide:(0:Int)<2147483587)
  generalize (one*one+104729*k*k)%2147483587=i at e g
  lk;exact%[.inl %[⋯|⋯],by decide|q _ ⋯ ⋯]
theorem yP(T:Txt K mg):Cal P w K mg base 2 "_law_row" ["_law_script","_law_many"] (Bv K):=by
 refine T.ba.cal dH (λH vs Q E h=>?_)
 .have%[a,j,m,rfl,hs,hn,h0,h1|q]:=h;refine%[rfl|λf ab A outer s r=>?_];refine%[_,%["JDG2UBDG3CDV%A1BL4DMKYFS4CCEG3H~WA0AFbCFg4CBOEMZyKYFSH~WA0ACBCC&K~A3CDWph2AFS3CBEG3Fg3CEWph2AFSH~[AH~WA0AFbCFS4~X~lACAF>cdA0BCBBA4BCBEI2",dH.nd|r]|?_]
  show bw _ _ _ [!a,some (.int m),none,none,none] H;refine am λD1 k1 _=>?_
  lk;refine%[Xh _|λl B=>k1 _ _ (am λD2 k2 _=>?_)];have C:af H (upd H l (.lst [])):=af.upd B;lk;refine k2 _ _ (am λD3 k3 _=>ay λO hK=>?_);lk;refine%[⋯,⋯|hK _ _ (cy (λi G e=>∃(n:Int) (o:Option V) (xs:ZL),G=[!a,some (.int m),!l,some (.int n),o]/\af H e/\e l=some (.lst (xs.map V.int))/\xs.length=i/\∀x∈xs,0<=x/\x<9973)
   %[_,none,[],rfl,C,aa,rfl|λ_ h=>nomatch h] ?_ ?_)]
  .intro i G e hi %[n,o,xs,rfl,u,c,z|d];have ac:i<100:=by lia
   have g:=u.seq hs;show bw _ _ _ [!a,some (.int m),!l,some (.int n),some (.int (0+i))] e;rw[Int.zero_add];refine am λD4 k4 _=>?_
   have p:∀I:Int,D4.nx [!a,some (.int m),!l,some (.int I),some (.int i)] e:=λI=>k4 _ _ (aB λD5 U _=>by
    have put:∀v:Int,0<=v->v<9973->af H (upd e l (.lst (xs.map V.int++[.int v])))/\∃b:ZL,upd e l (.lst (xs.map V.int++[.int v])) l=some (.lst (b.map V.int))/\b.length=i+1/\∀x∈b,0<=x/\x<9973:=λv Y v1=>
     ⟨af.set u B,xs++[v],by rw[aa,Zd];rfl,by rw[Z9,z];rfl,λy hy=>by
      rcases Xq hy with q|q
      .exact d y q
      .rw[Xr q];exact%[Y|v1]⟩
    have len:(xs.map V.int).length<sizeLine:=by rw[Z6,z];exact aH ⋯
    have mx:∀x:Nat,(0:Int)<(if(x:Int) -1>1 then(x:Int) -1 else 1):=λx=>by split<;> lia
    lk;refine%[a,j,0,rfl,g,by decide,_,rfl,by decide|bH (λ_=>bH (λ_=>?g1) λ_=>?g2) λ_=>?g3]
    case g1=>
     have%[J,b,L,M|N]:=put (I%9973) ⋯ ⋯;exact%[.inl %[_|SqL.of c],by decide,_,c,len,%[by decide|by decide]|U _ _ %[_,_,b,rfl,J,L,M|N]]
    all_goals
     refine%[.inl %[_|SqL.of c],_,.inl %[_,g|rfl],mx _,a,j,_,rfl,g,?_|?_]
     .have:=Int.emod_nonneg (i:Int) (Int.ne_of_gt (mx (j.map V.int).length))
      lia
     refine%[_,_,rfl,⋯,⋯|λv Y v1=>%[_,rfl,by decide,_,c,len|U _ _ ?_]];have%[J,b,L,M|N]:=put (v%9973) ⋯ ⋯;exact%[_,_,b,rfl,J,L,M|N])
   lk;exact%[by decide|bH (λ_=>%[%[by decide|by decide],a,j,_,rfl,g,⋯|p _]) λ_=>p n]
  .intro G e %[n,o,xs,rfl,u,c,z|d];refine k3 _ _ ?_;lk;exact q l e xs u B c z d
theorem Bx(a:0<=i)(c:i<26):atI gh.cps.toList i=some (97+i.toNat):=by
 have%[j|rfl]:=Xk a;have b:j<26:=by omega
 have all:∀j:Fin 26,gh.cps.toList[j.1]? =some (97+j.1):=by decide +kernel
 exact cm (all %[j|b])
theorem oh(T:Txt K mg):Cal P w K mg base 1 "_law_sign" ["_law_at","_law_shift"] w4:=by
 refine T.bd.cal ut (λH vs Q E h=>?_)
 .have%[a,g,rfl,i|c]:=h;refine%[rfl|λf d A outer s e=>?_];refine%[_,%["JDMK:0CEIfOEI~mfFSF~BF~L0C1C"|0]|?_]
  show bw _ _ _ [some (.int a),some _] H;lk;unfold sg at c;refine bH (λb=>?_) λb=>?_
  .have b:=Zo b;rw[if_pos b]at c;exact c
  .have b: ¬ a<0:=by simpa using b
   rw[if_neg b]at c;refine%[.inr %[by simp|by simp],by decide,(by decide),_,Bx (by omega) (by omega)|c]
theorem si(T:Txt K mg):Cal P w K mg base 1 "_law_column" ["_law_number","_law_high","_law_wild"] qA:=by
 refine T.bc.cal bL (λH vs Q E h=>?_)
 .have%[n,hi,wd,rfl,n0,h1,h6|kk]:=h;refine%[rfl|λf al A outer s hr=>?_];refine%[_,%["JDG3FS0CDG4FSFg0CCDG0Fg0CDG5UBDV%A1BL6EMZyK:63&K:6F>1CEWph5A+CBDWph5A4BDG4~X~lACA~M~0ACAF~B4RUACACARUACA+CB~n~oA2BBFS0CBBEG0Fg0CEI5"|bL.nd]|?_]
  show bw _ _ _ [some (.int n),some (.int hi),some (.bl wd),none,none,none,none] H;refine am λD1 k1 _=>?_
  lk;refine%[by decide|k1 _ _ (am λD2 k2 _=>?_)];lk;refine%[%[by decide|by decide],by decide|k2 _ _ (am λD3 k3 _=>?_)];lk;refine%[%[by decide|by decide]|k3 _ _ (am λD4 k4 _=>?_)];lk;refine%[Xh _|λL U=>k4 _ _ (am λD5 k5 r5=>ay λai hK=>?_)];lk;have J:∃a:Nat,(a:Int)=(if n%3<hi-1 then n%3 else hi-1):=by
   split
   .exact%[(n%3).toNat|by omega]
   .exact%[(hi-1).toNat|by omega]
  have%[a|ea]:=J;refine%[by omega,by omega|hK _ _ (cy (λi σ B=>∃(m b:Int) (o:Option V) (g:ZL),σ=[some (.int m),some (.int hi),some (.bl wd),some (.int (n%3)),some (.int b),!L,o]/\0<=b/\b<=7/\af H B/\B L=some (.lst (g.map V.int))/\g.length=i/\
   (∀(k:Nat) (c:Int),g[k]? =some c->(k<a->c= -1)/\(a<=k->0<=c/\c<=7))/\∀(k:Nat) (c d:Int),g[k]? =some c->(g++[b])[k+1]? =some d->a<=k->St wd c d)
   %[_,_,none,[],rfl,by omega,by omega,af.upd U,aa,rfl,(λk c e=>by simp at e)|λk c d e=>by simp at e] ?_ ?_)]
  .intro i σ B an %[m,b,o,g,rfl,a0,a7,Y,l,C,r|G];show ko _ _ _ _ [some (.int m),some (.int hi),some (.bl wd),some (.int (n%3)),some (.int b),!L,some (.int (0+i))] B;rw[Int.zero_add];have len:(g.map V.int).length<sizeLine:=by rw[Z6,C];exact aH (by omega)
   have put:∀v:Int,(i<a->v= -1)->(a<=i->0<=v/\v<=7)->∀(k:Nat) (c:Int),(g++[v])[k]? =some c->(k<a->c= -1)/\(a<=k->0<=c/\c<=7):=λv v1 v2 k c e=>by
    by_cases hk:k<g.length
    .rw[Ya hk]at e;exact r k c e
    .have ek:k=i:=by
      have:=(Xp e).1;rw[Z9]at this;simp only[Zr,length_nil]at this;omega
     subst ek;rw[Yb (by omega),C,sub_self]at e;cases e;exact%[v1|v2]
   refine aB λD6 k6 _=>?_
   lk;have M:∀v u:Int,(a<=i->v=b/\St wd v u)->∀(k:Nat) (c d:Int),(g++[v])[k]? =some c->(g++[v] ++[u])[k+1]? =some d->a<=k->St wd c d:=λv u q k c d I y hk=>by
    have aq:k+1<=g.length+1:=by
     have:=(Xp y).1;simp only[Z9,Zr,length_nil]at this;omega
    by_cases h:k+1<g.length+1
    .rw[Ya (by omega)]at I;rw[Ya (by simpa using h)]at y;by_cases h':a<=i
     .rw[(q h').1]at y;exact G k c d I y hk
     .omega
    .have ek:k=i:=by omega
     subst ek;rw[Yb (by omega),C,sub_self]at I;rw[Yb (by simp;omega)]at y;simp[C]at I y;rw[<-I,<-y];exact(q hk).2
   have ab:∀_v:Int,¬ i<a->∀(m2 j:Int) (HH:Hp),0<=j->j<=7->St wd b j->af (upd B L (.lst (g.map V.int++[.int b]))) HH->D6.nx [some (.int m2),some (.int hi),some (.bl wd),some (.int (n%3)),some (.int j),!L,some (.int i)] HH:=λv hv m2 j HH b0 b7 st sh=>
    k6 _ _ %[m2,j,_,g++[b],rfl,b0,b7,(af.set Y U).trans sh,by rw[sh L _ aa,Zd];rfl,by rw[Z9,C];rfl,put b (λz=>absurd z hv) λ_=>%[a0|a7]|M b j λ_=>%[rfl|st]]
   refine bH (λhA=>bH (λhB=>?g1) λhB=>?g2) λhA=>?g3
   case g1=>
    simp only[decide_eq_true_eq]at hA hB;have N:i<a:=by split at ea<;> omega
    exact%[.inl %[_|SqL.of l],_,l,len|k6 _ _ %[m,b,_,g++[-1],rfl,a0,a7,af.set Y U,by rw[aa,Zd];rfl,by rw[Z9,C];rfl,put (-1) (λ_=>rfl) λz=>absurd N (by omega)|M (-1) b λz=>absurd N (by omega)]]
   all_goals
    have ac: ¬ i<a:=by
     simp only[decide_eq_true_eq]at*
     split at ea<;> omega
    refine%[.inl %[_|SqL.of l],_,l,len,#[2]|λp hp=>%[_,SqL.of aa,.int (if wd=true then -1 else 2),by cases wd<;> rfl,#[3]|λp1 ag=>%[by decide,_,SqL.of aa|?_]]];have%[c,hc|O]:=iF [0,1,if wd=true then -1 else 2] (i:=m%3) (by omega) (by show m%3<3;omega);refine%[_,hc,c,rfl,%[by decide|by decide]|ab 0 ac _ _ _ ?_ ?_ ?_ ((af.upd hp).trans (af.upd ag))]
    rotate_left 2
    .unfold Cut.St;simp only[Yx,X9,or_false]at O;cases wd<;> rcases O with rfl|rfl|rfl<;> simp<;>(split<;>(try split)<;> omega)
    all_goals(split<;>(simp)<;> omega)
  .intro σ B %[m,b,o,g,rfl,a0,a7,Y,l,C,r|G];refine k5 _ _ ?_;lk;exact kk L B g Y U l (by omega) %[a,by omega,r|λk c d I y=>G k c d I ((Ya (Xp y).1)▸y)]
theorem ux(xs:ZL){lo hi:Int}(a:0<=lo)(b:lo<=hi)(c:hi<=xs.length):oW (xs.map V.int) (some lo) (some hi)=((xs.drop lo.toNat).take (hi.toNat-lo.toNat)).map V.int:=by
 unfold oW;have d:HT.sIx xs.length 0 (some lo)=lo.toNat:=by
  show(if lo<0 then _ else min lo.toNat xs.length)=_
  grind
 have e:HT.sIx xs.length xs.length (some hi)=hi.toNat:=by
  show(if hi<0 then _ else min hi.toNat xs.length)=_;rw[if_neg ⋯]
  lia
 simp_all
theorem Df(a:Int)(b:ZL):inV (V.int a) (b.map V.int)=decide (a∈b):=by
 unfold inV
 induction b with
 | nil=>rfl
 | cons c r d=>
   show((c==a)||_)=_
   grind
theorem yQ(a:ZL):(a.map V.int).all e7=true:=by simp[e7]
theorem yR(T:Txt K mg):Cal P w K mg base 2 "_law_cut" ["_law_row_here","_law_shift","_law_wild"] (Bw K):=by
 refine T.be.cal cZ (λH vs Q E h=>?_)
 .have%[a,xs,v,d,rfl,hs,keep,b4,hb,s0|kk]:=h;refine%[rfl|λf cl A outer s hr=>?_];have get:∀i:Int,0<=i->i<6->∃c,atI (xs.map V.int) i=some (V.int c)/\0<=c/\c<9973:=λi h0 h1=>by
   have%[c,e|hm]:=iF xs h0 ⋯;exact%[c,e|hb c hm]
  have%[c0,g0,l0|u0]:=get 0 (by decide) (by decide);refine%[_,%["JDG3FbCFSR0CCD(4ijFbCFSFgR0CCCD~15ijne?1T~C0)C)FbC3X0?2rH~2A0AP1AP2BDG6UBDV%AP4B~p7ijEWph6A~N~OfAne?3TP5X0?4rH~qAR0P2AP1BBBD~P8jie?5%ACB~30?6ij^~4~5~6Ane?7TP1X0?8rs_P10BP0EItA~N~OfA6BA8B",cZ.nd,(show bT (ah fS) ["_law_row_here","_law_shift","_law_wild","_law_wide","_law_high","_law_columns","_law_rows","_law_k","_law_there"] _ ["_law_number","_law_high","_law_wild"] [(1,4),(2,2)]=true from by decide +kernel),(show(["_law_number","_law_high","_law_wild"]:ZB).Nodup from by decide +kernel),(show bT (ah fS) ["_law_row_here","_law_shift","_law_wild","_law_wide","_law_high","_law_columns","_law_rows","_law_k","_law_there"] _ ["_law_column_here","_law_shift","_law_k"] [(1,1),(2,7)]=true from by decide +kernel),(show(["_law_column_here","_law_shift","_law_k"]:ZB).Nodup from by decide +kernel),(show bT (ah fS) ["_law_row_here","_law_shift","_law_wild","_law_wide","_law_high","_law_columns","_law_rows","_law_k","_law_there"] _ ["_law_at","_law_columns"] [(1,5)]=true from by decide +kernel),(show(["_law_at","_law_columns"]:ZB).Nodup from by decide +kernel),(show bT _ ["_law_at","_law_columns"] _ ["_law_column_here","_law_at"] [(1,0)]=true from rfl),(show(["_law_column_here","_law_at"]:ZB).Nodup from by decide +kernel)|hr]|?_]
  show bw _ _ _ [!a,some (.int v),some (.bl d),none,none,none,none,none,none] H;refine am λD1 k1 _=>?_
  lk;refine%[_,hs,_,g0,c0,rfl,by decide|k1 _ _ (am λD2 k2 _=>?_)];lk;refine%[_,hs,_,g0,c0,rfl,%[by decide|by decide],by decide|k2 _ _ (am λD4 k4 _=>?_)];have w1:1<=1+c0%5:=by lia
  have w5:1+c0%5<=5:=by lia
  have i1:1<=1+c0/5%7:=by lia
  have i6:1+c0/5%7<=7:=by lia
  generalize co:1+c0%5=wd at w1 w5
  generalize 1+c0/5%7=hi at i1 i6
  refine aJ λI Y=>?_
  lk;refine .inl %[_,hs|λp hp=> .inl %[%[_|SqL.of aa]|Y _ _ λD hD=>?_]];rw[ux xs (by decide) ⋯ ⋯]at hD ⊢;have a0:((xs.drop (Int.toNat 1)).take ((1+wd).toNat-Int.toNat 1)).length=wd.toNat:=by
   rw[Yn,Yj,b4];rw[show(1+wd).toNat=wd.toNat+1 by lia];exact X2 ⋯
  have a1:∀x∈(xs.drop (Int.toNat 1)).take ((1+wd).toNat-Int.toNat 1),0<=x/\x<9973:=λx hx=>hb x (Yy (Yz hx))
  generalize (xs.drop (Int.toNat 1)).take ((1+wd).toNat-Int.toNat 1)=ys at a0 a1 hD ⊢
  have a2:af H (upd H p (.lst (ys.map V.int))):=af.upd hp;have ab:upd H p (.lst (ys.map V.int)) p=some (.lst (ys.map V.int)):=aa
  generalize upd H p (.lst (ys.map V.int))=b5 at a2 ab hD ⊢
  refine bF (J:=Itl K p) (n:=wd.toNat) (D:=D) (λi zs m j=>(∃o,m=[o,some (.int hi),some (.bl d)])/\af b5 j/\j D=some (.lst zs)/\∃b:List (Addr×ZL),zs=b.map (λq=>V.ref q.1)/\b.length=i/\sf j b/\∀q∈b,q.1≠D/\q.2.length=hi.toNat/\jU d q.2)
   %[%[none|rfl],af.upd hD,aa,[],rfl,rfl,λq B=>(nomatch B)|λq B=>(nomatch B)]
   (λi _ _ j a3 g=>%[_,V.int (ys[i]'⋯),SqL.of (g.2.1 _ _ ab)|by simp[show i<ys.length by lia]]) (λ_ _ j g=>%[_,SqL.of (g.2.1 _ _ ab)|by simp[a0]]) ?_ ?_
  .intro i zs m j a3 %[%[o|rfl],M,a4,b,rfl,L,ac|N] x H2 %[e2|hx];subst e2;have a5:i<ys.length:=by lia
   have y:=hx _ (SqL.of (M _ _ ab));rw[Zl,Z4 a5]at y;obtain rfl:x=V.int ys[i]:=(Za y).symm;lk;refine%[_,_,_,rfl,(a1 _ (Ye a5)).1,i1,i6|λl H3 b6 aq a6 a7 bb b7=>?_];have bc:l≠D:=λe=>by rw[e,a4]at a6;cases a6
   refine CK.mk a3 (aq _ _ a4) (by rw[Z6,L];exact aH ⋯) %[%[_|rfl],af.set (M.trans aq) hD,aa,b++[(l,b6)],by rw[Zd];rfl,by rw[Z9,L];rfl,λq B=>?_|λq B=>?_]
   .rcases Xq B with z|z
    .rw[ak (N q z).1];exact aq _ _ (ac q z)
    .rw[Xr z,ak bc];exact a7
   .rcases Xq B with z|z
    .exact N q z
    .rw[Xr z];exact%[bc,bb|b7]
  intro zs m H4 %[_,b9,bf,b,rfl,L,ac|N];have as:af H H4:=a2.trans b9;refine k4 _ _ (am λD5 k5 _=>?_);lk;refine%[Xh _|λR hR=>k5 _ _ (am λD6 k6 _=>ay λI Y=>?_)];lk;have ch:(b.map (·.2)).length=wd.toNat:=by rw[Z6];exact L
  refine%[⋯,⋯|Y _ _ (cy (λi m j=>∃o7,m=[!a,some (.int v),some (.bl d),some (.int wd),some (.int hi),!D,!R,o7,none]/\af H4 j/\j R=some (.lst (((List.range i).map (iw (b.map (·.2)) v)).map V.str)))
   %[_,rfl,af.upd hR|aa] ?_ ?_)]
  .intro i m H5 ct %[o7,rfl,u|ag];show jx _ _ [!a,some (.int v),some (.bl d),some (.int wd),some (.int hi),!D,!R,some (.int (0+i)),none] H5;rw[Int.zero_add];refine aB λD8 k8 _=>?_
   lk;refine%[.inl %[_|SqL.of ag]|aJ λI Y=>?_];lk;have ai:=u _ _ bf;refine .inl %[%[_|SqL.of ai]|Y _ _ λF hF=>?_];refine bF (J:=Itl K D) (n:=wd.toNat) (D:=F) (λq ts m j=>(∃o,m=[o,some (.int v),some (.int i)])/\af H5 j/\j F=some (.lst ts)/\ts=(((b.take q).map (λp=>sg (p.2.getD i 0) v)).map sgn).map V.str)
    %[%[none|rfl],af.upd hF,aa|rfl]
    (λq _ _ j B g=>%[_,V.ref (b[q]'⋯).1,SqL.of (g.2.1 _ _ ai)|by simp[show q<b.length by lia]]) (λ_ _ j g=>%[_,SqL.of (g.2.1 _ _ ai)|by simp[L]]) ?_ ?_
   .intro q ts m j B %[%[o|rfl],M,aR|O] x H2 %[e2|hx];subst e2;have C:q<b.length:=by lia
    have y:=hx _ (SqL.of (M _ _ ai));rw[Zl,Z4 C]at y;obtain rfl:x=V.ref b[q].1:=(Za y).symm;have hm:=Ye C;lk;refine%[_,SqL.of (M _ _ (u _ _ (ac _ hm))),V.int (b[q].2.getD i 0),?_|?_]
    .refine cm ?_;rw[Zl,df (N _ hm).2.1 ⋯];rfl
    refine%[_,_,rfl,s0|?_];refine CK.mk B aR (by rw[O,Z6,Z6,Z6,Yn];exact aH ⋯) %[%[_|rfl],af.set M hF,aa|?_];rw[O,Xd,Zd,Zd,Zd,Z4 C];rfl
   intro ts m H7 %[_,bl,ca|O];rw[Zn ⋯]at O;lk;refine%[(b.map λp=>sg (p.2.getD i 0) v).map sgn,by rw[<-O];exact SqL.of ca,?_,_,bl _ _ ag,by rw[Z6,Z6,Yl];exact aH ⋯|k8 _ _ %[_,rfl,af.set (u.trans bl) hR|?_]]
   .rw[rF,Z6,Z6,show(Str.ofString "").length=0 from rfl]
    lia
   .rw[aa,Xc,Zd,Zd,show Txt.join (Str.ofString "") ((b.map λp=>sg (p.2.getD i 0) v).map sgn)=Str.join (Str.ofString "") ((b.map λp=>sg (p.2.getD i 0) v).map sgn)from StrLaws.glued_eq_join _ _,nq];have e:iw (b.map (·.2)) v i=⟨(b.map λp=>sg (p.2.getD i 0) v).toArray⟩:=by
     unfold iw;rw[Yt];rfl
    rw[<-e];rfl
  .intro m H5 %[o7,rfl,u|ag];refine k6 _ _ (am λD7 k7 _=>aJ λI Y=>?_);lk;refine%[by decide,by decide|Y _ _ λF hF=>?_];refine bF (J:=Itr 0 8) (n:=8) (D:=F) (λq ts m j=>(∃o,m=[o,!D])/\af H5 j/\j F=some (.lst ts)/\ts=(((List.range q).filter λa:Nat=>(b.map (·.2)).any λc=>decide ((a:Int)∈c)).map λa:Nat=>(a:Int)).map V.int)
    %[%[none|rfl],af.upd hF,aa|rfl] (λq _ _ j B _=>B) (λ_ _ j _=>Zi _) ?_ ?_
   .intro q ts m j B %[%[o|rfl],M,aR|O] x H2 %[e2|e3];subst e2 e3;lk;refine aJ λI Y=>?_
    lk;have al:=M _ _ (u _ _ bf);refine .inl %[%[_|SqL.of al]|Y _ _ λG hG=>?_];refine bF (J:=Itl K D) (n:=wd.toNat) (D:=G) (λr zs m H3=>(∃o,m=[o,some (.int q)])/\af H2 H3/\H3 G=some (.lst zs)/\zs=(b.take r).map (λp=>V.bl (decide ((q:Int)∈p.2))))
     %[%[none|rfl],af.upd hG,aa|rfl]
     (λr _ _ H3 bm g=>%[_,V.ref (b[r]'⋯).1,SqL.of (g.2.1 _ _ al)|by simp[show r<b.length by lia]]) (λ_ _ H3 g=>%[_,SqL.of (g.2.1 _ _ al)|by simp[L]]) ?_ ?_
    .intro r zs m H3 bm %[%[o|rfl],s3,cb|hz] x cv %[e2|hx];subst e2;have C:r<b.length:=by lia
     have y:=hx _ (SqL.of (s3 _ _ al));rw[Zl,Z4 C]at y;obtain rfl:x=V.ref b[r].1:=(Za y).symm;have hm:=Ye C;lk;refine%[_,.inl (SqL.of (s3 _ _ (M _ _ (u _ _ (ac _ hm))))),rfl,yQ _|?_];rw[Df];refine CK.mk bm cb (by rw[hz,Z6,Yn];exact aH ⋯) %[%[_|rfl],af.set s3 hG,aa|?_];rw[hz,Xd,Zd,Z4 C];rfl
    intro zs m H3 %[_,s3,cd|hz];rw[Zn ⋯]at hz;have bt:=s3 _ _ aR;lk;refine%[b.map λp=>decide ((q:Int)∈p.2),by rw[Yt];exact SqL.of (by rw[cd,hz];rfl)|?_];rw[show((b.map λp=>decide ((q:Int)∈p.2)).any id)=(b.map (·.2)).any λc=>decide ((q:Int)∈c) by rw[any_map,any_map];rfl];have b0:ts.length<sizeLine:=by
     rw[O,Z6,Z6];have:=Yk (λa:Nat=>(b.map (·.2)).any λc=>decide ((a:Int)∈c)) (List.range q);rw[Yl]at this;exact aH ⋯
    refine bH (λhb=>?_) λhb=>?_
    .refine CK.mk B bt b0 %[%[_|rfl],af.set (M.trans s3) hF,aa|?_];rw[O,Xc,Y4,Zd,Zd];rw[show List.filter (λa:Nat=>(b.map (·.2)).any λc=>decide ((a:Int)∈c)) [q]=[q]from by rw[filter_cons,if_pos hb];rfl];rfl
    .refine CN.mk B %[%[_|rfl],M.trans s3,bt|?_];rw[O,Xc,Y4,Zd,Zd];rw[show List.filter (λa:Nat=>(b.map (·.2)).any λc=>decide ((a:Int)∈c)) [q]=[]from by rw[filter_cons,if_neg hb];rfl];simp
   intro ts m H6 %[_,aU,b1|O];refine k7 _ _ ?_;lk;have U:∀c∈b.map (·.2),c.length=hi.toNat/\jU d c:=λc hc=>by
    have%[p,hp|rfl]:=Xs hc;exact(N p hp).2
   have an:cf (drawn (b.map (·.2)) hi.toNat v):=ug ⋯ ⋯ ⋯ ⋯ U;have b2:H5 R=some (.lst ((drawn (b.map (·.2)) hi.toNat v).map V.str)):=ag;refine%[drawn (b.map (·.2)) hi.toNat v,SqL.of (aU _ _ b2),?_,#[2]|λp hp=>?_]
   .have:=an.sum;have:=an.high;rw[show(Str.ofString "\n").length=1 from rfl]
    lia
   .have b3:af H (upd H6 p (.tup [V.str (Txt.join (Str.ofString "\n") (drawn (b.map (·.2)) hi.toNat v)),V.ref F])):=(as.trans (u.trans aU)).trans (af.upd hp);refine kk p F _ (b.map (·.2)) hi.toNat b3 ((as.trans (u.trans aU)).free hp) ((as.trans u).free hF) (λe=>by rw[e,b1]at hp;cases hp) ?_ ?_ ⋯ ⋯ ⋯ ⋯ U
    .rw[aa,show Txt.join (Str.ofString "\n") (drawn (b.map (·.2)) hi.toNat v)=Str.join (Str.ofString "\n") (drawn (b.map (·.2)) hi.toNat v)from StrLaws.glued_eq_join _ _];rfl
    .rw[af.upd hp F _ b1,O];rfl
inductive qB (vs:ZM) (H:Hp) (Q:VK) (E0:XK):Prop
 | mk (z:Str) (z0:vs=[.str z]) (z1:z.length<=1000) (z2:∀H',af H H'->Q (.bl (rE z)) H'):qB vs H Q E0
inductive oi (vs:ZM) (H:Hp) (Q:VK) (E0:XK):Prop
 | mk (row above:Str) (z0:vs=[.str row,.str above]) (z1:row.length<=1000) (z2:above.length<=1000) (z3:∀H',af H H'->Q (.bl (eO row above)) H'):oi vs H Q E0
inductive i9 (K:ZA) (vs:ZM) (H:Hp) (Q:VK) (E0:XK):Prop
 | mk (a) (rows) (z0:vs=[.ref a]) (z1:SqL K H a (rows.map V.str)) (z2:(rows.map (·.length)).sum<=3000) (z3:(∀r∈rows,r.cps.toList.all okc=true)) (z4:∀l H' ss,af H H'->H l=none->H' l=some (.lst (ss.map V.str))->ss.Perm (aA ((cV rows).map sgn))->PyProof.Rows.sortedS ss=true->Q (.ref l) H'):i9 K vs H Q E0
inductive oj (vs:ZM) (H:Hp) (Q:VK) (E0:XK):Prop
 | mk (rows:ZB) (z0:vs=[.str (Str.join nl rows)]) (z1:cf rows) (z2:∀l H',af H H'->H l=none->H' l=some (.lst (rows.map V.str))->Q (.ref l) H'):oj vs H Q E0
theorem iR(z:Str)(i:Nat)(c:Nat)(h:z.cps[i]? =some c):(z.cps.toList.take i++[c])=z.cps.toList.take (i+1):=by
 have h':z.cps.toList[i]? =some c:=by simpa using h
 have%[a|e]:=Xp h';rw[List.take_succ_eq_append_getElem a,e]
theorem wg(c d:Nat):((⟨([c].toArray)⟩:Str)=⟨([d].toArray)⟩)↔c=d:=by
 simp
theorem kW(c:Nat):((⟨([c].toArray)⟩)=Str.ofString ".")↔c=46:=wg c 46
theorem By(T:Txt K mg):Cal P w K mg base 1 "is_row" ["row"] qB:=by
 refine T.aR.cal yN (λH vs Q E h=>?_)
 .have%[z,rfl,O|k]:=h;refine%[rfl|λf y A outer s N=>?_];refine%[_,%["JEIz~Y||CcdA0B~7'~Z~aAne?1T0X0?2r~rsY0~D's_0~sB",0,(show bT (ah nZ) ["row"] _ ["sign"] []=true from by decide +kernel)|(show(["sign"]:ZB).Nodup from by simp)]|?_];show jy _ _ [-z] H;lk;refine%[bE ⋯|bH (λl=>bH (λm=>?_) λm=>?_) λl=>?_]
  .refine aJ λu B=>?_
   lk;refine B _ _ λD v=>?_
   refine bF (J:=Its z) (n:=z.cps.size) (D:=D) (λi ys d a=>(∃o,d=[o])/\af H a/\a D=some (.lst ys)/\ys=(z.cps.toList.take i).map (λc=>V.bl (okc c))) %[%[none|rfl],af.upd v,aa|rfl]
    (λi _ _ _ hi _=>hi) (λ_ _ _ _=>Zi _) ?_ ?_
   .intro i ys d a hi %[%[o|rfl],p,q|g] x C %[G,c,I|rfl];subst G;have j:ys.length=i:=by
     rw[g,Z6,Yn];have:z.cps.toList.length=z.cps.size:=by simp
     lia
    have L:i<1000:=by
     have:z.length=z.cps.size:=rfl
     lia
    have put:∀b:Bool,b=okc c->CK D z.cps.size i (λi ys d a=>(∃o,d=[o])/\af H a/\a D=some (.lst ys)/\ys=(z.cps.toList.take i).map (λc=>V.bl (okc c))) ys [some (.str ⟨([c].toArray)⟩)] (.bl b) C:=λb M=>
     CK.mk hi q (j▸aH ⋯) %[%[_|rfl],af.set p v,aa|by rw[M,g,<-iR z i c I,Zd];rfl]
    lk;refine bH (λr=>put true ?_) λr=>put _ ?_
    .have:=(kW c).mp (Zo r);unfold okc;rw[Zf this,Bool.true_or]
    .have: ¬ c=46:=λe=>(λe=>r (Zf e)) ((kW c).mpr e)
     unfold okc;rw[Zh this,Bool.false_or,Ad];rfl
   .intro ys d a %[_,p,q|g];lk;refine%[z.cps.toList.map okc,?_|?_]
    .have e:z.cps.toList.take z.cps.size=z.cps.toList:=by
      apply Zn;simp
     rw[e]at g;have:(z.cps.toList.map okc).map V.bl=ys:=by rw[g,Yt];rfl
     rw[this];exact SqL.of q
    .have e:rE z=(z.cps.toList.map okc).all id:=by
      unfold rE;rw[l,m,all_map]
      all_goals rfl
     exact e▸k a p
  .rw[Bool.not_eq_true]at m;have e:rE z=false:=by unfold rE;rw[m,Bool.and_false,Bool.false_and]
   rw[e]at k;exact k H (af.refl H)
  .rw[Bool.not_eq_true]at l;have e:rE z=false:=by unfold rE;rw[l,Bool.false_and,Bool.false_and]
   rw[e]at k;exact k H (af.refl H)
noncomputable def lS(p:Nat×Nat):Bool:=!decide (p.2=46)||decide (p.1=46)
theorem om(x y:Str)(i c d:Nat)(b:x.cps[i]? =some c)(f:y.cps[i]? =some d):((List.zip x.cps.toList y.cps.toList).take i++[(c,d)])=(List.zip x.cps.toList y.cps.toList).take (i+1):=by
 have h:(List.zip x.cps.toList y.cps.toList)[i]? =some (c,d):=List.getElem?_zip_eq_some.mpr %[by simpa using b|by simpa using f];have%[a|e]:=Xp h;rw[List.take_succ_eq_append_getElem a,e]
theorem oo(T:Txt K mg):Cal P w K mg base 1 "lies_beneath" ["row","above"] oi:=by
 refine T.aS.cal md (λH vs Q E h=>?_)
 .have%[row,a,rfl,L,M|k]:=h;refine%[rfl|λf I A outer s hr=>?_];refine%[_,%["JDMKucdA0BcdA1BEIqOEI~Z~aAne?1~tA1A0BkNX0?2NX1?2lr~rsu1~D'sY0~DB",0,(show bT (ah eU) ["row","above"] _ ["high","low"] []=true from by decide +kernel)|(show(["high","low"]:ZB).Nodup from by decide +kernel)]|?_]
  show bw _ _ _ [-row,-a] H;refine am λD1 k1 N=>?_
  lk;refine%[bE ⋯,bE ⋯|bH (λj=>?_) λj=>?_]
  .have j: ¬ ((row.length:Int)=a.length):=by simpa using j
   have e:eO row a=false:=by
    unfold eO;rw[Zh ⋯,Bool.false_and]
   rw[e]at k;exact N _ _ (k H (af.refl H))
  .have j:row.length=a.length:=by
    have:(row.length:Int)=a.length:=by simpa using j
    lia
   refine k1 _ _ ?_;have u:row.cps.size=a.cps.size:=j;have v:(List.zip a.cps.toList row.cps.toList).length=a.cps.size:=by rw[length_zip];simp[u]
   lk;refine aJ λB O=>?_
   lk;refine O _ _ λD C=>?_
   refine bF (J:=Itz a row) (n:=a.cps.size) (D:=D) (λi ys l g=>(∃q r,l=[q,r])/\af H g/\g D=some (.lst ys)/\ys=((List.zip a.cps.toList row.cps.toList).take i).map (λp=>V.bl (lS p))) %[%[none,none|rfl],af.upd C,aa|rfl]
    (λi _ _ _ hi _=>%[hi|⋯]) (λ_ _ _ _=>%[Zi _,⋯|.inl rfl]) ?_ ?_
   .intro i ys l g hi %[%[q,r|rfl],y,z|m] x H2 %[c,d,TT,U,Y,G,rfl|rfl];have o:ys.length=i:=by rw[m,Z6,Yn,v];lia
    have ab:i<1000:=by
     have:a.length=a.cps.size:=rfl
     lia
    have put:∀b:Bool,b=lS (c,d)->CK D a.cps.size i (λi ys l g=>(∃q r,l=[q,r])/\af H g/\g D=some (.lst ys)/\ys=((List.zip a.cps.toList row.cps.toList).take i).map (λp=>V.bl (lS p))) ys [some (.str ⟨([c].toArray)⟩),some (.str ⟨([d].toArray)⟩)] (.bl b) (upd g TT (.tup [.str ⟨([c].toArray)⟩,.str ⟨([d].toArray)⟩])):=λb eb=>
     CK.mk hi (af.upd G _ _ z) (o▸aH ⋯) %[%[_,_|rfl],af.set (y.trans (af.upd G)) C,aa|by rw[eb,m,<-om a row i c d U Y,Zd];rfl]
    lk;refine%[_,SqT.of aa,rfl,_,_,rfl,_,_,rfl,rfl,rfl|?_];simp only[V.str.injEq,kW];refine bH (λh=>put true ?_) λh=>%[rfl|put _ ?_]
    .unfold lS;rw[h,Bool.true_or]
    .unfold lS;rw[Bool.not_eq_true]at h;rw[h,Bool.false_or]
   .intro ys l g %[_,y,z|m];lk;refine%[(List.zip a.cps.toList row.cps.toList).map lS,?_|?_]
    .have e:(List.zip a.cps.toList row.cps.toList).take a.cps.size=List.zip a.cps.toList row.cps.toList:=Zn ⋯;rw[e]at m;have:((List.zip a.cps.toList row.cps.toList).map lS).map V.bl=ys:=by rw[m,Yt];rfl
     rw[this];exact SqL.of z
    .have e:eO row a=((List.zip a.cps.toList row.cps.toList).map lS).all id:=by
      unfold eO;rw[Zf j,all_map,Bool.true_and];rfl
     exact e▸k g y
theorem yS(h:(rows.map (·.length)).sum<=3000):(Str.join (Str.ofString "") rows).length<=3000:=by
 have:=StrLaws.join_length_le (Str.ofString "") rows;rw[show(Str.ofString "").length=0 from rfl]at this
 lia
theorem j7(T:Txt K mg):Cal P w K mg base 1 "letters_in" ["rows"] (i9 K):=by
 refine T.aT.cal pE (λH vs Q E h=>?_)
 .have%[a,rows,rfl,O,g,v|k]:=h;refine%[rfl|λf N A outer s hr=>?_];refine%[_,%["JEI,~bA;~EAne?1T~N~OfA0BX0?2^Ku0~D0BB",0,(show bT (ah gC) ["rows"] _ ["sign"] []=true from by decide +kernel)|(show(["sign"]:ZB).Nodup from by simp)]|?_];show jy _ _ [!a] H;lk;refine aJ λG U=>?_
  lk;refine%[rows,O,by rw[show(Str.ofString "").length=0 from rfl];lia|?_];rw[show Txt.join (Str.ofString "") rows=Str.join (Str.ofString "") rows from StrLaws.glued_eq_join _ _];have j:=yS g;have b:=kI v;unfold cV at b k
  generalize Str.join (Str.ofString "") rows=z at j b k ⊢
  refine U _ _ λD I=>?_
  refine bF (J:=Its z) (n:=z.cps.size) (D:=D) (λi ys y m=>(∃o,y=[o])/\af H m/\m D=some (.lst ys)/\ys=((z.cps.toList.take i).filter (λc=>decide (c≠46))).map (λc=>V.str (sgn c))) %[%[none|rfl],af.upd I,aa|rfl]
   (λi _ _ _ hi _=>hi) (λ_ _ _ _=>Zi _) ?_ ?_
  .intro i ys y m hi %[%[o|rfl],r,u|d] x H2 %[Y,c,L|rfl];subst Y;have M:ys.length<=i:=by
    rw[d,Z6];have:=Yk (λc=>decide (c≠46)) (z.cps.toList.take i);rw[Yn]at this
    lia
   have ab:i<3000:=by
    have:z.length=z.cps.size:=rfl
    lia
   lk;simp only[kW];refine bH (λB=>?_) λB=>?_
   .refine CK.mk hi u (aH ⋯) %[%[_|rfl],af.set r I,aa|?_];rw[<-iR z i c L,Y4,Zd,d];have:decide (c≠46)=true:=by simpa using B
    rw[filter_cons,this];rfl
   .refine CN.mk hi %[%[_|rfl],r,u|?_];rw[<-iR z i c L,Y4,Zd,d];have:decide (c≠46)=false:=by simpa using B
    rw[filter_cons,this];simp
  .intro ys y m %[_,r,u|d];have e:z.cps.toList.take z.cps.size=z.cps.toList:=by
    apply Zn;simp
   rw[e]at d;lk;have ac:=Yk (λc=>decide (c≠46)) z.cps.toList;have ag:z.cps.toList.length=z.length:=by simp[Str.length]
   refine%[(z.cps.toList.filter (λc=>decide (c≠46))).map sgn,?_,by rw[Z6];lia|λS hS=>%[_,aa,?_|λl ss p hp C=>?_]]
   .rw[Yt];have:(z.cps.toList.filter (λc=>decide (c≠46))).map (V.str ∘ sgn)=ys:=by rw[d];rfl
    rw[this];exact SqL.of u
   .have:=np b
    lia
   .have q:af H (upd m S (fB w S (aA ((z.cps.toList.filter (λc=>decide (c≠46))).map sgn)))):=r.trans (af.upd hS);exact k l _ ss (q.trans (af.upd p)) (q.free p) aa hp C
theorem kX(T:Txt K mg):Cal P w K mg base 2 "rows_of" ["text"] oj:=by
 refine T.aQ.cal gB (λH vs Q E h=>?_)
 .have%[rows,rfl,a|k]:=h;refine%[rfl|λf aq A outer s N=>?_];have%[wd,w1,w2|hw]:=a.wide;have O:=a.text;have u:=a.split;refine%[_,%["JDMma!$A0A?1BE.ODG1~8~90AfBDV~QA1BkNL2NL3lDMZoKY2]AwmaH]BA3BE.OEMZyK~A2C&maH]CA3AR1F>2CBE.ODMKYcdAH~uA1BBCE.OEI1",gB.nd,(blE (v:= .ty "str") rfl T.ab boot_str rfl rfl rfl)|N]|?_]
  generalize Str.join nl rows=z at O u
  show bw _ _ _ [-z,none,none,none] H;refine am λD1 k1 _=>?_
  lk;refine%[.type "str",.str z,true,by rfl|sU (k1 _ _ (am λD2 k2 _=>?_))];lk;refine%[by decide,Yi (by lia:z.length+2<=5000) (by decide)|λl hl=>k2 _ _ ?_];rw[show(Str.ofString "\n")=nl from rfl,u];refine am λD3 k3 _=>ay λai hK=>?_
  lk;have U:af H (upd H l (.lst (rows.map V.str))):=af.upd hl;refine%[_,SqL.of aa|hK _ _ (jH (λi L g=>∃Y o3,L=[-z,!l,Y,o3]/\af H g/\g l=some (.lst (rows.map V.str))) %[none,none,rfl,U|aa] (λi L g _ ⟨_,_,_,_,q⟩=>SqL.of q) ?_ ?_)]
  .intro i x TT L g y %[Y,o3,rfl,sm|j] hT;obtain⟨r,m,rfl⟩:∃r,rows[i]? =some r/\x=V.str r:=by
    rw[Zl]at y;cases e:rows[i]? with
    | none=>rw[e]at y;cases y
    | some r=>rw[e]at y;exact%[r,rfl|(Za y).symm]
   have al:i<rows.length:=(Xp m).1;have an:=a.high;have B:af H (upd g TT (.tup [.int i,.str r])):=sm.trans (af.upd hT);have o:upd g TT (.tup [.int i,.str r]) l=some (.lst (rows.map V.str)):=af.upd hT _ _ j;have C:upd g TT (.tup [.int i,.str r]) TT=some (.tup [.int i,.str r]):=aa
   generalize upd g TT (.tup [.int i,.str r])=HT at B o C
   have G:r.length<=1000:=by
    have:r.length=wd:=hw r (Z8 m)
    lia
   refine%[_,SqT.of C,rfl,_,_,rfl,_,_,rfl,rfl|?_];show bw _ _ _ [-z,!l,some (.int i),-r] HT;refine am λD4 k4 _=>?_
   have go:∀p,af HT p->D4.nx [-z,!l,some (.int i),-r] p:=by
    intro p b;refine k4 _ _ (aB λD5 k5 _=>?_);have I:∀M,af HT M->D5.nx [-z,!l,some (.int i),-r] M:=λM n=>k5 _ _ %[_,_,rfl,B.trans n|n l _ o]
    lk;refine bH (λJ=>?_) λ_=>I _ b
    have J:0<(i:Int):=Zo J;obtain⟨d,rfl⟩:∃d,i=d+1:=%[i-1|⋯]
    have ab:d<rows.length:=by lia
    have ac:rows[d]? =some rows[d]:=by simp
    have e1:(((d+1:Nat):Int) -1)=(d:Int):=by lia
    refine%[_,SqL.of (b l _ o),.str rows[d],e1▸cm ∅,r,rows[d],rfl,G,?_|λM n=>%[_,rfl|?_]]
    .have:rows[d].length=wd:=hw _ (Ye ab)
     lia
    .rw[a.beneath ac m];exact sU (I _ (b.trans n))
   lk;rw[if_neg ⋯];refine%[r,rfl,G|λp b=>%[_,rfl|?_]];rw[a.row (Z8 m)];exact sU (go p b)
  .intro L g %[Y,o3,rfl,sm|j];refine k3 _ _ ?_;lk;refine%[l,rows,rfl,SqL.of j,by have:=a.sum;lia,a.sign|λl2 p ss b as ag J aR=>%[_,.inl %[_,SqL.of ag|rfl]|?_]];rw[if_neg]
   .exact k l p (sm.trans b) hl (b l _ j)
   .intro h0;have h0:=Zo h0;rw[Z6]at h0;have:ss=[]:=length_eq_zero_iff.mp ⋯;rw[this]at J;have hm:=J.symm.eq_nil;have%[c|hc]:=List.exists_mem_of_ne_nil _ a.signs_ne;have:sgn c∈aA ((cV rows).map sgn):=aW.mpr (Xt %[c,hc|rfl]);rw[hm]at this;cases this
noncomputable def dU(p:Nat×Nat):Option ZB:=if p.1≠46/\p.1≠p.2 then some [sgn p.1,sgn p.2]else none
noncomputable def oq(u r:Str):List ZB:=(List.zip u.cps.toList r.cps.toList).filterMap dU
theorem fT(H:Hp):aG H []:=λp a=>by cases a
theorem aP(h:aG H ps)(s:∀b z,H b=some (.tup z)->c b=some (.tup z)):aG c ps:=λp a=>%[(h p a).1|s _ _ (h p a).2]
theorem iS(h:aG H ps)(a:q.2≠[])(b:H q.1=some (.tup (q.2.map V.str))):aG H (ps++[q]):=λp c=>by
 rcases Xq c with z|z
 .exact h p z
 .rw[Xr z];exact%[a|b]
theorem uy(a:aG H ps)(b:aG H qs):aG H (ps++qs):=λp c=>(Xq c).elim (a p) (b p)
inductive DJ (vs:ZM) (H:Hp) (Q:VK) (E0:XK):Prop
 | mk (u r:Str) (z0:vs=[.str u,.str r]) (z1:u.length<=40) (z2:r.length=u.length) (z3:∀l H' ps,af H H'->H l=none->H' l=some (.lst (ps.map λp=>V.ref p.1))->aG H' ps->ps.map (·.2)=oq u r->Q (.ref l) H'):DJ vs H Q E0
inductive w6 (vs:ZM) (H:Hp) (Q:VK) (E0:XK):Prop
 | mk (rows:ZB) (z0:vs=[.str (Str.join nl rows)]) (z1:cf rows) (z2:∀l H' ss,af H H'->H l=none->H' l=some (.lst (ss.map V.str))->ss.Perm (aA ((cV rows).map sgn))->PyProof.Rows.sortedS ss=true->Q (.ref l) H'):w6 vs H Q E0
theorem yT(T:Txt K mg):Cal P w K mg base 3 "letters" ["text"] w6:=by
 refine T.aU.cal wc (λH vs Q E h=>?_)
 .have%[rows,rfl,a|e]:=h;refine%[rfl|λf d A outer s b=>?_];refine%[_,%["JEIH~uAH~vA0BB",0|b],rows,rfl,a|λl r c u g=>%[l,rows,rfl,SqL.of g,by have:=a.sum;lia,a.sign|λi j ss m n o p q=>e i j ss (c.trans m) (c.free n) o p q]]
theorem jp(T:Txt K mg):Cal P w K mg base 1 "meetings_between" ["above","row"] DJ:=by
 refine T.aW.cal iY (λH vs Q E h=>?_)
 .have%[u,r,rfl,hu,ag|kk]:=h;refine%[rfl|λf ac A outer s hr=>?_];have ai:u.length=u.cps.size:=rfl;have al:r.length=r.cps.size:=rfl;refine%[_,%["JEIne?1~tA0A1BkNX0?2NX1?2l^ZyKu0~D&Ku01tA0A1B",0,(show bT (ah cY) ["above","row"] _ ["high","low"] []=true from by decide +kernel)|(show(["high","low"]:ZB).Nodup from by decide +kernel)]|?_];show jy _ _ [-u,-r] H;lk;refine aJ λab hK=>?_
  lk;refine hK _ _ λD O=>?_
  refine bF (J:=Itz u r) (n:=u.cps.size) (D:=D) (λi ys U l=>(∃o1 o2,U=[o1,o2])/\af H l/\l D=some (.lst ys)/\ys.length<=i/\∃ps:ZG,ys=ps.map (λp=>V.ref p.1)/\aG l ps/\ps.map (·.2)=((List.zip u.cps.toList r.cps.toList).take i).filterMap dU)
   %[%[none,none|rfl],af.upd O,aa,Zi _,[],rfl,fT _|rfl] (λi _ _ _ hi _=>%[hi|⋯]) (λ_ _ _ _=>%[Zi _,⋯|.inl rfl]) ?_ ?_
  .intro i ys U l hi %[%[o1,o2|rfl],Y,hl,I,ps,L,m|j] x H2 %[c,d,TT,hc,hd,hT,rfl|rfl];have v:=af.upd (o:= .tup [.str ⟨([c].toArray)⟩,.str ⟨([d].toArray)⟩]) hT;have nx:=om u r i c d hc hd;have a:=v _ _ hl;have C:upd l TT (.tup [.str ⟨([c].toArray)⟩,.str ⟨([d].toArray)⟩]) TT=some (.tup [.str ⟨([c].toArray)⟩,.str ⟨([d].toArray)⟩]):=aa;have g:aG (upd l TT (.tup [.str ⟨([c].toArray)⟩,.str ⟨([d].toArray)⟩])) ps:=λp G=>%[(m p G).1|v _ _ (m p G).2]
   have y:=Y.trans v
   generalize upd l TT (.tup [.str ⟨([c].toArray)⟩,.str ⟨([d].toArray)⟩])=HT at v a C g y
   refine%[_,SqT.of C,rfl,_,_,rfl,_,_,rfl,rfl|?_];show BW _ _ [some (.str ⟨([c].toArray)⟩),some (.str ⟨([d].toArray)⟩)] HT _;lk;simp only[kW,wg];have an:D≠TT:=λe=>by rw[e,C]at a;cases a
   refine bH (λM=>bH (λN=>?_) λN=>?_) λM=>?_
   .have M:c≠46:=by simpa using M
    have N:c≠d:=by simpa using N
    refine%[show 2<=sizeLine from by decide|λp G=>?_];have B:=af.upd (o:= .tup [V.str ⟨([c].toArray)⟩,V.str ⟨([d].toArray)⟩]) G;have aq:p≠D:=λe=>by rw[e,a]at G;cases G
    refine CK.mk hi (B _ _ a) (aH ⋯) %[%[_,_|rfl],af.set (y.trans B) O,aa,by rw[Z9,Ym];lia,ps++[(p,[sgn c,sgn d])],by rw[L,Zd];rfl,?_|?_]
    .have keep:∀b z,upd HT p _ b=some (.tup z)->upd _ D (.lst (ys++[V.ref p])) b=some (.tup z):=λb z e=>by
      have:b≠D:=λe2=>by rw[e2,B _ _ a]at e;cases e
      rw[ak this];exact e
     exact aP (iS (aP g λb z e=>B _ _ e) ∅ (by rw[aa];rfl)) keep
    .rw[Zd,j,<-nx,Y2];have:dU (c,d)=some [sgn c,sgn d]:=if_pos %[M|N];rw[Y3,this];rfl
   .refine CN.mk hi %[%[_,_|rfl],y,a,⋯,ps,L,g|?_];rw[j,<-nx,Y2];have:dU (c,d)=none:=if_neg λq=>q.2 (by simpa using N)
    rw[Y3,this];simp
   .refine CN.mk hi %[%[_,_|rfl],y,a,⋯,ps,L,g|?_];rw[j,<-nx,Y2];have:dU (c,d)=none:=if_neg λq=>q.1 (by simpa using M)
    rw[Y3,this];simp
  .intro ys U l %[_,Y,hl,I,ps,L,m|j];rw[Zn (by rw[length_zip];simp;lia)]at j;exact kk D l ps Y O (by rw[hl,L]) m j
theorem Bz{K:ZA}{xs ys:ZM}{g:TG}{q:TS}{D:lU}(Pv:Nat->St->Hp->Prop)(s:Pv 0 c H)(u:ys.length<=xs.length)(z:∀i c H,i<=ys.length->Pv i c H->SqL K H a xs/\SqL K H b ys)
 (A:∀i x y T c H,xs[i]? =some x->ys[i]? =some y->Pv i c H->H T=none->g (.ref T) c (upd H T (.tup [x,y])) λd j=>q {D with nx:=Pv (i+1),ct:=Pv (i+1),bk:=D.nx} d j) (B:∀c H,Pv ys.length c H->D.nx c H):
 ∃W:Nat->Nat->St->Hp->Prop,(∃m,W 0 m c H)/\∀i m c H,W i m c H->
  ((yq K a b).stop i H/\D.nx c H)\/((yq K a b).go i H/\∃N:St->Hp->Prop,(∀f h,N f h->∃r,r<m/\W (i+1) r f h)/\∀x h,(yq K a b).yld i H x h->g x c h λd j=>q {D with nx:=N,ct:=N,bk:=D.nx} d j):=by
 refine%[λi m c H=>m=ys.length-i/\i<=ys.length/\Pv i c H,%[ys.length,by simp,Xh _|s]|?_];intro i m c H %[rfl,hi|p];have%[l|n]:=z i c H hi p;by_cases o:i<ys.length
 .have C:xs[i]? =some xs[i]:=by simp[show i<xs.length by lia]
  have E:ys[i]? =some ys[i]:=by simp
  refine .inr %[%[xs,ys,_,_,l,n,C|E],Pv _,λf h G=>%[ys.length-(i+1),⋯,rfl,o|G]|λv h y=>?_];have%[T,I,J,L,rfl,rfl,M|O]:=y;exact A i I J T c H (M xs l) (O ys n) p L
 .have e:i=ys.length:=by lia
  subst e;exact .inl %[%[xs,ys,l,n,⋯,Zi _|.inr rfl]|B c H p]
noncomputable def bv(rows:ZB)(i:Nat):List ZB:=(List.range i).flatMap λj=>oq (rows.getD j ⟨([].toArray)⟩) (rows.getD (j+1) ⟨([].toArray)⟩)
theorem j8(rows:ZB)(i:Nat):bv rows (i+1)=bv rows i++oq (rows.getD i ⟨([].toArray)⟩) (rows.getD (i+1) ⟨([].toArray)⟩):=by
 unfold bv;rw[Xc,flatMap_append];simp
theorem wj(u r:Str):(oq u r).length<=u.length:=by
 refine Yi (List.length_filterMap_le _ _) ?_;rw[length_zip];have:u.cps.toList.length=u.length:=by simp[Str.length]
 lia
theorem yU(h:k∈bv rows (rows.length-1)):∃a b,k=[sgn a,sgn b]/\yK rows a b:=by
 have%[j,d|g]:=mem_flatMap.mp h;have f:∀j h,rows.getD j ⟨([].toArray)⟩=rows[j]:=λj h=>by simp[h]
 have d:=mem_range.mp d;have%[%[a|b],i|e]:=mem_filterMap.mp g;unfold dU at e
 split at e
 .rename_i h
  have%[q|c]:=Xi i;rw[List.getElem?_zip_eq_some,f j ⋯,f _ ⋯]at c;exact%[a,b,(Za e).symm,h.1,h.2,j,q,rows[j],rows[j+1],Z4 _,Z4 _,by simpa using c.1|by simpa using c.2]
 .lia
theorem qC(g:cf rows)(h:yK rows a b):Let rows a/\Let rows b:=by
 have%[n1,l,i,j,r,c,d,f,g1|g2]:=h;refine%[%[n1,r,Z8 d|Z8 (by simpa using g1)],λe=>n1 (g.fall i r c d f j a b g1 g2 e),c,Z8 f|Z8 (by simpa using g2)]
theorem yV(rows:ZB)(h:rows≠[]):oW (rows.map V.str) (some 1) none=(rows.drop 1).map V.str:=by
 unfold oW;rw[HT.sIx_none,show(some (1))=some ((1:Nat):Int)from rfl,HT.sIx_nat,Z6,X2 (length_pos_iff.mpr h),<-List.map_drop,<-map_take];rw[Zn (Yj▸Zi _)]
inductive w8 (vs:ZM) (H:Hp) (Q:VK) (E0:XK):Prop
 | mk (rows:ZB) (z0:vs=[.str (Str.join nl rows)]) (z1:cf rows) (z2:yL rows) (z3:∀l H' ss,af H H'->H l=none->H' l=some (.lst (ss.map λp=>V.ref p.1))->aG H' ss->ss.length<=26->(∀t∈ss,∃a b,t.2=[sgn a,sgn b]/\Let rows a/\Let rows b)->(∀k,k∈ss.map (·.2)↔k∈bv rows (rows.length-1))->Q (.ref l) H'):w8 vs H Q E0
theorem wk(T:Txt K mg):Cal P w K mg base 3 "meetings" ["text"] w8:=by
 refine T.aV.cal dR (λH vs Q E h=>?_)
 .have%[rows,rfl,c,%[mm,ml|a4]|kk]:=h;refine%[rfl|λf b0 A outer s hr=>?_];have%[wd,w1,w2|ab]:=c.wide;have hp:1<=rows.length:=c.pos;have bl:=c.high;have a5:rows≠[]:=length_pos_iff.mp hp;refine%[_,%["JDG1H~vA0BDG2UBDV]DA1A~C1)C~FBkNL3NL4lEW~w~x2AH]EA3A4BBEI,~yA;~zA2BB",dR.nd|hr]|?_]
  show bw _ _ _ [some (.str (Str.join nl rows)),none,none,none,none] H;refine am λD1 k1 r1=>?_
  lk;refine%[rows,rfl,c|λR H1 s1 f1 hR=>k1 _ _ (am λD2 k2 r2=>?_)];lk;refine%[Xh _|λL hL=>k2 _ _ (am λD3 k3 r3=>ay λbm hK=>?_)];have s2:=af.upd (o:= .lst []) hL;have G:=s2 _ _ hR;have I:upd H1 L (.lst []) L=some (.lst []):=aa;have fL:H L=none:=s1.free hL;have ac:=s1.trans s2
  generalize upd H1 L (.lst [])=H2 at s2 G I ac
  lk;refine .inl %[_,SqL.of G|λp hp=>?_];rw[yV rows a5];have s3:=af.upd (o:= .lst ((rows.drop 1).map V.str)) hp;have J:=s3 _ _ G;have ag:=s3 _ _ I;have M:upd H2 p (.lst ((rows.drop 1).map V.str)) p=some (.lst ((rows.drop 1).map V.str)):=aa;have ai:=ac.trans s3;have a6:L≠R:=λe=>by rw[e,hR]at hL;cases hL
  have a7:p≠L:=λe=>by rw[e,I]at hp;cases hp
  generalize upd H2 p (.lst ((rows.drop 1).map V.str))=H3 at s3 J ag M ai
  refine%[%[_|SqL.of J],%[_|SqL.of M]|hK _ _ (Bz (xs:=rows.map V.str) (ys:=(rows.drop 1).map V.str) (λi σ l=>(∃o3 o4,σ=[some (.str (Str.join nl rows)),!R,!L,o3,o4])/\af H l/\l R=some (.lst (rows.map V.str))/\l p=some (.lst ((rows.drop 1).map V.str))/\
   ∃ps:ZG,l L=some (.lst (ps.map λq=>V.ref q.1))/\aG l ps/\ps.map (·.2)=bv rows i/\ps.length<=40*i) %[%[none,none|rfl],ai,J,M,[],ag,fT _,rfl|Xh _] (by rw[Z6,Z6,Yj];lia) (λi σ l _ q=>%[SqL.of q.2.2.1|SqL.of q.2.2.2.1]) ?_ ?_)]
  .intro i x y TT σ l hx hy %[%[o3,o4|rfl],sm,al,an,ps,N,g,n|aq] hT;rw[Zl]at hx hy;have%[u,hu|rfl]:=map_eq_some_iff.mp hx;have%[r,B|rfl]:=map_eq_some_iff.mp hy;rw[Yc,Nat.add_comm]at B;have b1:i+1<rows.length:=(Xp B).1;have ul:u.length=wd:=ab u (Z8 hu);have rl:r.length=wd:=ab r (Z8 B);have j:=af.upd (o:= .tup [V.str u,V.str r]) hT;have as:upd l TT (.tup [V.str u,V.str r]) TT=some (.tup [V.str u,V.str r]):=aa;have aR:=j _ _ al;have aU:=j _ _ an;have v:=j _ _ N;have C:aG (upd l TT (.tup [V.str u,V.str r])) ps:=aP g λb z e=>j _ _ e
   have a0:=sm.trans j
   generalize upd l TT (.tup [V.str u,V.str r])=HT at j as aR aU v C a0
   refine%[_,SqT.of as,rfl,_,_,rfl,_,_,rfl,rfl|?_];refine aB λD4 k4 r4=>?_
   lk;refine%[.inl %[_|SqL.of v],u,r,rfl,⋯,⋯|λl4 H4 ps4 Y f4 h4 a1 e4=>?_];have b2:l4≠L:=λe=>by rw[e,v]at f4;cases f4
   have bt:ps4.length<=40:=by
    have:(ps4.map (·.2)).length=(oq u r).length:=by rw[e4]
    rw[Z6]at this;have:=wj u r
    lia
   refine%[_,rfl,_,Y _ _ v,_,h4,by rw[Z6,Z6];exact bE ⋯|k4 _ _ ?_];have O:∀b z,H4 b=some (.tup z)->upd H4 L (.lst ((ps.map λq=>V.ref q.1) ++ps4.map λq=>V.ref q.1)) b=some (.tup z):=λb z e=>by
    have:b≠L:=λe2=>by rw[e2,Y _ _ v]at e;cases e
    rw[ak this];exact e
   have bb:R≠L:=Ne.symm a6;refine%[%[_,_|rfl],λb u' e=>?_,(ak bb)▸Y _ _ aR,(ak a7)▸Y _ _ aU,ps++ps4,by rw[aa,Zd],aP (uy (aP C λb z e=>Y _ _ e) a1) O,?_|by rw[Z9];lia]
   .rw[ak (av e fL)];exact Y _ _ (a0 _ _ e)
   .rw[Zd,n,e4,j8];have g1:rows.getD i ⟨([].toArray)⟩=u:=by rw[Zc,hu];rfl
    have g2:rows.getD (i+1) ⟨([].toArray)⟩=r:=by rw[Zc,B];rfl
    rw[g1,g2]
  .intro σ l %[%[o3,o4|rfl],sm,al,an,ps,N,g,n|aq];rw[Z6,Yj]at n;refine k3 _ _ ?_;lk;have U:∀q∈ps,∃a b,q.2=[sgn a,sgn b]/\yK rows a b:=λq d=>yU (n▸Xt %[q,d|rfl])
   have a2:∀q∈ps,q.2∈mm:=λq d=>by
    have%[a,b,e|h]:=U q d;rw[e];exact a4 a b h
   refine%[ps,SqL.of N,g,%[mm,⋯|a2]|λl5 bc=>?_];have s5:=af.upd (o:=nM P w l5 (bd ps)) bc;have bf:(bd ps).length<=26:=by
    have:=STab.nodup_sub (dJ ps) (m:=mm) λk hk=>by
     have%[q,d|rfl]:=Xs hk;exact a2 q (bo ps q d)
    rw[Z6]at this
    lia
   refine%[bd ps,aa,λq d=>%[(g q (bo ps q d)).1|s5 _ _ (g q (bo ps q d)).2],2,λq d=>?_,by decide,⋯|λl6 ss a3 pm so=>?_]
   .have%[a,b,e|_]:=U q (bo ps q d);rw[e];rfl
   have s6:=af.upd (o:= .lst (ss.map λq=>V.ref q.1)) a3;refine kk l6 _ ss ((sm.trans s5).trans s6) ((sm.trans s5).free a3) aa (λq d=>?_) (pm.length_eq▸bf) (λq d=>?_) λk=>?_
   .have:=g q (bo ps q (pm.mem_iff.mp d));exact%[this.1|s6 _ _ (s5 _ _ this.2)]
   .have%[a,b,e|h]:=U q (bo ps q (pm.mem_iff.mp d));exact%[a,b,e|qC c h]
   .rw[(pm.map _).mem_iff,gj,n]
noncomputable def ef(z:Str):Bool:=(decide (1<=(z.length:Int))&&decide ((z.length:Int)<=8))&&z.cps.toList.all gT
inductive ot (vs:ZM) (H:Hp) (Q:VK) (E0:XK):Prop
 | mk (z:Str) (z0:vs=[.str z]) (z1:ef z=true) (z2:∀H',af H H'->Q (.bl true) H'):ot vs H Q E0
inductive uz (K:ZA) (vs:ZM) (H:Hp) (Q:VK) (E0:XK):Prop
 | mk (z:Str) (p:Addr) (ts:ZB) (z0:vs=[.str z,.ref p]) (z1:(SqL K H p (ts.map V.str)\/SqT K H p (ts.map V.str))) (z2:Q (.bl (decide (z∈ts))) H):uz K vs H Q E0
inductive ou (vs:ZM) (H:Hp) (Q:VK) (E0:XK):Prop
 | mk (i:Int) (z0:vs=[.int i]) (z1: -9999<=i) (z2:i<=9999) (z3:Q (.bl true) H):ou vs H Q E0
def qD(ls:ZB)(vs:ZM):Prop:=
 (∃w a b:Str,vs=[.str w,.str a,.str b]/\(w="later"\/w="same")/\a∈ls/\b∈ls/\a≠b)\/
 ∃w a y,vs=[.str w,.str a,.int y]/\(w="since"\/w="by")/\a∈ls/\ -9999<=y/\y<=9999
inductive j9 (K:ZA) (vs:ZM) (H:Hp) (Q:VK) (E0:XK):Prop
 | mk (t) (p) (xs) (ls) (z0:vs=[.ref t,.ref p]) (z1:H t=some (.tup xs)) (z2:SqL K H p (ls.map V.str)) (z3:qD ls xs) (z4:Q (.bl true) H):j9 K vs H Q E0
noncomputable def lnS(n z:Str):Str:=Str.empty++n++Str.ofString "."++z
inductive ja (vs:ZM) (H:Hp) (Q:VK) (E0:XK):Prop
 | mk (n z:Str) (z0:vs=[.str n,.str z]) (z1:n.length<=100) (z2:z.length<=100) (z3:Q (.str (lnS n z)) H):ja vs H Q E0
theorem sj(z:Str)(ts:ZB):inV (V.str z) (ts.map V.str)=decide (z∈ts):=by
 unfold inV
 induction ts with
 | nil=>rfl
 | cons c r a=>
   show((c==z)||_)=_
   grind
theorem yW(ts:ZB):(ts.map V.str).all e7=true:=by simp[e7]
theorem yX(T:Txt K mg):Cal P w K mg base 1 "is_name" ["thing"] ot:=by
 refine T.aP.cal wb (λH vs Q E h=>?_)
 .have%[z,rfl,B|k]:=h;refine%[rfl|λf y A outer s N=>?_];refine%[_,%["JDMma!$A0A?1BEIqOEIz~Y||CcdA0B]F'~Z~aAne?2T0X0?3rs_0~sB",0,(blE (v:= .ty "str") rfl T.ab boot_str rfl rfl rfl),(show bT (ah kS) ["thing"] _ ["sign"] []=true from by decide +kernel)|(show(["sign"]:ZB).Nodup from by decide +kernel)]|?_]
  show bw _ _ _ [-z] H;have a:=B;unfold ef at a;rw[Zx,Zx]at a;have%[%[C|q]|b]:=a;have O:z.length<=8:=by have:=Zo q;lia
  lk;refine%[.type "str",.str z,true,by rfl|?_];lk;refine%[bE ⋯|?_];rw[if_pos C,if_pos q];refine aJ λr G=>?_
  lk;refine G _ _ λD u=>?_
  refine bF (J:=Its z) (n:=z.cps.size) (D:=D) (λi ys l d=>(∃o,l=[o])/\af H d/\d D=some (.lst ys)/\ys=(z.cps.toList.take i).map (λc=>V.bl (gT c))) %[%[none|rfl],af.upd u,aa|rfl]
   (λi _ _ _ hi _=>hi) (λ_ _ _ _=>Zi _) ?_ ?_
  .intro i ys l d hi %[%[o|rfl],m,p|g] x U %[I,c,L|rfl];subst I;lk;have j:ys.length=i:=by
    rw[g,Z6,Yn];have:z.cps.toList.length=z.cps.size:=by simp
    lia
   have M:i<1000:=by
    have:z.length=z.cps.size:=rfl
    lia
   refine CK.mk hi p (j▸aH ⋯) %[%[_|rfl],af.set m u,aa|?_];rw[Ad,g,<-iR z i c L,Zd]
   all_goals rfl
  .intro ys l d %[_,m,p|g];refine%[D,rfl,(z.cps.toList.map gT),?_|?_]
   .have e:z.cps.toList.take z.cps.size=z.cps.toList:=by
     apply Zn;simp
    rw[e]at g;have:(z.cps.toList.map gT).map V.bl=ys:=by rw[g,Yt];rfl
    rw[this];exact SqL.of p
   .have e:(z.cps.toList.map gT).all id=true:=by
     rw[all_map];exact b
    rw[e];exact k d m
theorem cx(T:Txt K mg):Cal P w K mg base 1 "is_text_among" ["thing","texts"] (uz K):=by
 refine T.b2.cal kT (λH vs Q E h=>?_)
 .have%[z,p,ts,rfl,b|k]:=h;refine%[rfl|λf a A outer s c=>?_];refine%[_,%["JEIz!$A0A?1B's_01",0|(blE (v:= .ty "str") rfl T.ab boot_str rfl rfl rfl)]|?_];show jy _ _ [some _,some _] H;lk;refine%[.type _,.str z,true,by rfl|?_];rw[<-sj]at k;exact%[_,b,rfl,yW ts|k]
theorem yY(T:Txt K mg):Cal P w K mg base 1 "is_year" ["thing"] ou:=by
 refine T.b3.cal we (λH vs Q E h=>?_)
 .have%[i,rfl,b,c|k]:=h;refine%[rfl|λf a A outer s d=>?_];refine%[_,%["JDMZoma!$A0A?1Bwa!$A0A?2BEIqOEI~Y||]G0]H",0,(blE (v:= .ty "int") rfl T.ag boot_int rfl rfl rfl)|(blE (v:= .ty "bool") rfl T.ah PyProof.Rows.boot_bool rfl rfl rfl)]|?_]
  show bw _ _ _ [some (.int i)] H;lk;refine%[.type _,.int i,true,by rfl,.type _,.int i,false,by rfl|?_];rw[if_pos (Zf b),Zf c];exact k
theorem gH(T:Txt K mg):Cal P w K mg base 1 "layer_name" ["name","letter"] ja:=by
 refine T.b4.cal pF (λH vs Q E h=>?_)
 .have%[n,z,rfl,j,l|k]:=h;refine%[rfl|λf c A outer s i=>?_];refine%[_,%["JEI~!~G~c0~Gf~G~c1~$"|0]|?_];show jy _ _ [-n,some _] H;lk;have e:∀a b:Str,(a++b).length=a.length+b.length:=λa b=>size_append
  have d:Str.empty.length=0:=rfl;have g:(Str.ofString ".").length=1:=rfl;have le:∀k,k<=1000->k<=sizeLine:=λk m=>bE ⋯
  refine%[le _ ⋯,le _ ?_,le _ ?_,le _ ⋯,le _ ?_,le _ ?_|k]<;> simp only[e,d,g]<;> lia
theorem uA(T:Txt K mg):Cal P w K mg base 2 "is_saying" ["thing","layers"] (j9 K):=by
 refine T.b1.cal r9 (λH vs Q E h=>?_)
 .have%[t,p,xs,ls,rfl,l,e,ok|k]:=h;refine%[rfl|λf m A outer s c=>?_];refine%[_,%["JDMZoma!$A0A?1BwKucdA0BCEIqODMaH~HAQ0CA]IBEIzH~HAQ0CA1BzH~HAQ0CA1B'suQ0CQ0CODMaH~HAQ0CA]JBEIzH~HAQ0CA1B'H]KAQ0CBOEIq",0,(blE (v:= .ty "tuple") rfl T.af boot_tuple rfl rfl rfl)|c]|?_]
  show bw _ _ _ [!t,!p] H;lk;refine%[.type "tuple",.tup l,true,by rfl|?_];have st:=SqT.of (K:=K) l;rcases ok with⟨wd,a,b,rfl,hw,g,n,i⟩|⟨wd,a,y,rfl,hw,g,o,r⟩
  .have j:decide (wd∈([Str.ofString "later",Str.ofString "same"]:ZB))=true:=by rcases hw with rfl|rfl<;> decide
   lk;refine%[3,.inr %[_,st|rfl]|?_];rw[if_neg (by decide)];refine%[_,st,_,rfl|λq d=>%[wd,q,[Str.ofString "later",Str.ofString "same"],rfl,.inr (d H),_,rfl|?_]];rw[j];lk;refine%[_,st,_,rfl,a,p,ls,rfl,.inl e,_,rfl|?_];rw[Zf g];lk;refine%[_,st,_,rfl,b,p,ls,rfl,.inl e,_,rfl|?_];rw[Zf n];lk;refine%[_,st,_,rfl,_,st,_,rfl,rfl|?_];rw[show(!decide (V.str a=V.str b))=true from by simp[i]];exact k
  .have j:decide (wd∈([Str.ofString "later",Str.ofString "same"]:ZB))=false:=by rcases hw with rfl|rfl<;> decide
   have u:decide (wd∈([Str.ofString "since",Str.ofString "by"]:ZB))=true:=by rcases hw with rfl|rfl<;> decide
   lk;refine%[3,.inr %[_,st|rfl]|?_];rw[if_neg (by decide)];refine%[_,st,_,rfl|λq d=>%[wd,q,[Str.ofString "later",Str.ofString "same"],rfl,.inr (d H),_,rfl|?_]];rw[j];lk;refine%[_,st,_,rfl|λq d=>%[wd,q,[Str.ofString "since",Str.ofString "by"],rfl,.inr (d H),_,rfl|?_]];rw[u];lk;refine%[_,st,_,rfl,a,p,ls,rfl,.inl e,_,rfl|?_];rw[Zf g];lk;exact%[_,st,_,rfl,y,rfl,o,r|k]
noncomputable def nmC(b a k j:Nat):Nat:=97+(b+5*j*j+k*(if j=a then 1 else 0))%26
noncomputable def nmS(b a k s:Nat):Str:=⟨((List.range s).map (nmC b a k)).toArray⟩
theorem sk(b a k s:Nat):(nmS b a k s).length=s:=by
 show((List.range s).map _).toArray.size=s;simp
theorem BA{b a k s:Nat}(e:1<=s)(f:s<=8):ef (nmS b a k s)=true:=by
 have all:∀i:Fin 26,gT (97+i.1)=true:=by decide +kernel
 unfold ef;rw[sk];simp only[Zx,decide_eq_true_eq,all_eq_true];refine%[%[⋯|⋯]|λc d=>?_];have%[j,_|rfl]:=Xs (d);exact all %[_|mod_lt _ (by decide)]
theorem FP{b a k c s s':Nat}(h:a<s)(h':a<s')(f:k<4)(d:c<4)(e:nmS b a k s=nmS b a c s'):k=c:=by
 have e:(List.range s).map _=(List.range s').map _:=congrArg (λz=>z.cps.toList) e;have e:=congrArg (·[a]?) e;simp only[Zl,getElem?_range h,getElem?_range h',map_some,Option.some.injEq,nmC,if_true]at e
 generalize b+5*a*a=m at e
 lia
theorem xa(b a k s:Nat)(h:a<s):Txt.slice (nmS b a k s) none (some (a+1))=nmS b a k (a+1):=by
 rw[beq_iff_eq.mp (PyProof.Rows.slice_closes_toL ⋯ (by rw[sk];lia))];refine fc ?_;show((((List.range s).map _).drop 0).take _)=(List.range _).map _;rw[drop_zero,<-map_take,List.take_range,show min _ s=a+1 by lia]
def Nm4(ms:ZB):Prop:=ms.length=4/\ms.Nodup/\∀z∈ms,ef z=true
theorem BB{b a:Nat}{s:Nat->Nat}(h:∀k<4,a<s k/\s k<=8):Nm4 ((List.range 4).map λk=>nmS b a k (s k)):=by
 refine%[by simp,?_|λz f=>?_]
 .rw[X6,Xb];refine Xj (λ{x y} c d e g=>e ?_) (nodup_iff_pairwise_ne.mp (nodup_range));rw[mem_range]at c d;exact FP (h x c).1 (h y d).1 c d g
 .have%[k,i|rfl]:=Xs f;have:=h k (mem_range.mp i);exact BA ⋯ this.2
inductive BC (vs:ZM) (H:Hp) (Q:VK) (E0:XK):Prop
 | mk (n:Int) (z0:vs=[.int n]) (z1:0<=n) (z2:n<9973) (z3:∀l H' (ms:ZB),af H H'->H l=none->H' l=some (.lst (ms.map V.str))->Nm4 ms->Q (.ref l) H'):BC vs H Q E0
theorem uB(T:Txt K mg):Cal P w K mg base 1 "_law_names" ["_law_number"] BC:=by
 refine T.bb.cal bJ (λH vs Q E h=>?_)
 .have%[n,rfl,n0,n1|O]:=h;refine%[rfl|λf ab A outer s hr=>?_];have%[n|rfl]:=Xk n0;refine%[_,%["JDG1FbCFS0CDG2FSFg0C1DG3UBDV%ACBL4DG5UBDV%A1BL6DG7FbFbFg0CFxFxC66F~L4~n~oAsY62BEWph5A~mfFS7CBEWph3A~N~OfA5BBDMKYFSFg0CCCEG3UAR3CA~%R3C~F)Fb2CAR3CA~%R3C~F)Fb2CBOEI3"|bJ.nd]|?_]
  show bw _ _ _ [some (.int n),none,none,none,none,none,none,none] H;refine am λD1 k1 _=>?_
  lk;refine%[by decide|k1 _ _ (am λD2 k2 _=>?_)];obtain⟨sz,es,s1,s8⟩:∃sz:Nat,1+(n:Int)%8=sz/\1<=sz/\sz<=8:=%[1+n%8,⋯,⋯|⋯]
  rw[es];lk;refine%[%[by decide|by decide],⋯|k2 _ _ (am λD3 k3 _=>?_)];obtain⟨a,ea,C⟩:∃a:Nat,(n:Int)/8%sz=a/\a<sz:=%[n/8%sz,by simp|mod_lt _ ⋯]
  rw[ea];lk;refine%[Xh _|λL G=>k3 _ _ (am λD4 k4 _=>ay λq I=>?_)];lk;refine%[by decide,by decide|I _ _ (cy (λi o r=>∃J v m d,o=[some (.int n),some (.int sz),some (.int a),!L,J,v,m,d]/\af H r/\r L=some (.lst (((List.range i).map λk=>nmS (n/64) a k sz).map V.str)))
   %[_,_,_,_,rfl,af.upd G|aa] ?_ ?_)]
  .intro i o y hi %[J,v,m,d,rfl,c|b];show bw _ _ _ [some (.int n),some (.int sz),some (.int a),!L,some (.int (0+i)),v,m,d] y;rw[Int.zero_add];refine am λD5 z _=>?_
   lk;refine%[Xh _|λM U=>z _ _ (am λD6 k6 _=>ay λq I=>?_)];lk;refine%[⋯,⋯|I _ _ (cy (λj o r=>∃m d,o=[some (.int n),some (.int sz),some (.int a),!L,some (.int i),!M,m,d]/\af y r/\r M=some (.lst (((List.range j).map λj=>sgn (nmC (n/64) a i j)).map V.str)))
    %[_,_,rfl,af.upd U|aa] ?_ ?_)]
   .intro j o Y hj %[m,d,rfl,g|l];show bw _ _ _ [some (.int n),some (.int sz),some (.int a),!L,some (.int i),!M,some (.int (0+j)),d] Y;rw[Int.zero_add];refine am λD7 N _=>?_
    lk;refine%[%[by decide|by decide],.inl %[by decide|by decide],.inr %[⋯|⋯],.inr %[by split<;> decide|by split<;> decide]|N _ _ (aB λD8 k8 _=>?_)];have e:(n:Int)/64+5*j*j+i*(if decide ((j:Int)=a)=true then 1 else 0)=((n/64+5*j*j+i*(if j=a then 1 else 0):Nat):Int):=by
     by_cases h:j=a
     .simp[h]
     .simp[h,show ¬ (j:Int)=a by lia]
    rw[e]
    generalize B:n/64+5*j*j+i*(if j=a then 1 else 0)=p
    lk;refine%[.inl %[_|SqL.of l],by decide,#[26],_,Bx ⋯ ⋯,_,l,by rw[Z6,Z6,Yl];exact aH ⋯|k8 _ _ %[_,_,rfl,af.set g U|?_]];rw[aa,Xc,Zd,Zd];have:97+((p:Int)%26).toNat=nmC (n/64) a i j:=by
     unfold nmC;rw[B]
     lia
    rw[this];rfl
   .intro o Y %[m,d,rfl,g|l];refine k6 _ _ (aB λD7 N _=>?_);lk;have u:=g _ _ b;have e:(List.range (Int.toNat sz)).map (λj=>sgn (nmC (n/64) a i j))=((List.range sz).map (nmC (n/64) a i)).map sgn:=by rw[Yt];rfl
    refine%[.inl %[_|SqL.of u],((List.range sz).map (nmC (n/64) a i)).map sgn,SqL.of (by rw[<-e];simpa using l),?_,_,u,by rw[Z6,Z6,Yl];exact aH ⋯|N _ _ %[_,_,_,_,rfl,af.set (c.trans g) G|?_]]
    .rw[rF,Z6,Z6,Yl,show(Str.ofString "").length=0 from rfl]
     lia
    .rw[aa,Xc,Zd,Zd,show Txt.join (Str.ofString "") (((List.range sz).map (nmC (n/64) a i)).map sgn)=Str.join (Str.ofString "") (((List.range sz).map (nmC (n/64) a i)).map sgn)from StrLaws.glued_eq_join _ _,nq];rfl
  .intro o y %[J,v,m,d,rfl,c|b];refine k4 _ _ (am λD5 z _=>?_);lk;have ll:∀k,(nmS (n/64) a k sz).length<=sizeLine:=λk=>by rw[sk];exact bE ⋯
   refine%[%[by decide|by decide],by decide|bH (λ_=>?_) λ_=>?_]
   .refine%[_,SqL.of b,_,rfl,_,SqL.of b,_,rfl,_,rfl,ll 1,_,SqL.of b,_,rfl,_,SqL.of b,_,rfl,_,rfl,ll 3,#[4]|λp B=>z _ _ ?_];rw[xa _ _ _ _ C,xa _ _ _ _ C];lk;exact O p _ ((List.range 4).map λk=>nmS (n/64) a k (if k%2=1 then a+1 else sz)) (c.trans (af.upd B)) (c.free B) aa (BB (s:=λk=>if k%2=1 then a+1 else sz) λk hk=>by split<;> exact%[⋯|⋯])
   .refine z _ _ ?_;lk;exact O L y ((List.range 4).map λk=>nmS (n/64) a k sz) c G b (BB (s:=λ_=>sz) λk hk=>%[C|s8])
def bZ(H:Hp)(a:ZH):Prop:=∀p∈a,H p.1=some (.tup [.str p.2.1,.str (Str.join nl p.2.2)])/\ef p.2.1=true/\cf p.2.2
theorem bZ.up(h:bZ H b)(s:af H c):bZ c b:=λp a=>%[s _ _ (h p a).1|(h p a).2]
inductive qE (vs:ZM) (H:Hp) (Q:VK) (E0:XK):Prop
 | mk (rows:ZB) (z0:vs=[.str (Str.join nl rows)]) (z1:cf rows) (z2:∀H',af H H'->Q (.bl true) H'):qE vs H Q E0
inductive uC (vs:ZM) (H:Hp) (Q:VK) (E0:XK):Prop
 | mk (p:Addr×Str×ZB) (z0:vs=[.ref p.1]) (z1:bZ H [p]) (z2:∀H',af H H'->Q (.bl true) H'):uC vs H Q E0
noncomputable def cI(a:ZH):ZM:=a.map λp=>V.ref p.1
inductive jb (vs:ZM) (H:Hp) (Q:VK) (E0:XK):Prop
 | mk (l) (cs) (z0:vs=[.ref l]) (z1:H l=some (.lst (cI cs))) (z2:bZ H cs) (z3:(cs.map λp=>p.2.1).Nodup) (z4:1<=cs.length) (z5:cs.length<=8) (z6:∀H',af H H'->Q .non H'):jb vs H Q E0
def cC(H:Hp)(ls:ZB)(qs:ZN):Prop:=∀q∈qs,H q.1=some (.tup q.2)/\qD ls q.2
theorem cC.up(h:cC H ls qs)(s:af H b):cC b ls qs:=λp a=>%[s _ _ (h p a).1|(h p a).2]
inductive fU (K:ZA) (vs:ZM) (H:Hp) (Q:VK) (E0:XK):Prop
 | mk (l) (r) (ls) (qs) (z0:vs=[.ref l,.ref r]) (z1:H l=some (.lst (qs.map λq=>V.ref q.1))) (z2:H r=some (.lst (ls.map V.str))) (z3:cC H ls qs) (z4:qs.length<=60) (z5:∀H',af H H'->Q .non H'):fU K vs H Q E0
theorem BD(T:Txt K mg):Cal P w K mg base 3 "is_cut" ["thing"] qE:=by
 refine T.aZ.cal yO (λH vs Q E h=>?_)
 .have%[rows,rfl,a|k]:=h;refine%[rfl|λf b A outer s c=>?_];refine%[_,(QSs.h (aj (tryN (λ_ _ h=>h) (ar (cc rfl (aS (kX T) c rfl #[(ae 0 rfl)]))))
   (ar (aT eBl))))|?_]
  show bw _ _ _ [some (.str (Str.join nl rows))] H;lk;exact%[rows,rfl,a|λl d e g i=>k d e]
theorem oz(T:Txt K mg):Cal P w K mg base 4 "is_named_cut" ["thing"] uC:=by
 refine T.aY.cal mf (λH vs Q E h=>?_)
 .have%[p,rfl,g|k]:=h;refine%[rfl|λf e A outer s c=>?_];have%[b,i|a]:=g p (mem_singleton.mpr rfl);refine%[_,%["JEIz!$A0A?1BzsYcdA0BCzH]LAQ0CB'H]MAQ0CB",0,(blE (v:= .ty "tuple") rfl T.af boot_tuple rfl rfl rfl)|c]|?_];show jy _ _ [some _] H;lk;refine%[.type _,.tup b,true,by rfl|?_];have st:=SqT.of (K:=K) b;refine%[2,.inr %[_,st|rfl],_,st,_,rfl,p.2.1,rfl,i|λm d=>?_];lk;exact%[_,SqT.of (d _ _ b),_,rfl,p.2.2,rfl,a|λj l=>k j (d.trans l)]
theorem sq(T:Txt K mg):Cal P w K mg base 5 "check_cuts" ["cuts"] jb:=by
 refine T.aX.cal dL (λH vs Q E h=>?_)
 .have%[l,c,rfl,G,M,N,h1,h8|k]:=h;refine%[rfl|λf al A outer s L=>?_];have y:(cI c).length=c.length:=Z6 _;refine%[_,%["JDMZoma!$A0A?1BwKYcdA0BCE.ODG1}EV~QA0BkNL2NL3lDMZoKY2]NomaH]OA3Bw]PQ3C1E.OE*q1Q3C",dL.nd,(blE (v:= .ty "list") rfl T.a5 boot_list rfl rfl rfl)|L]|?_]
  show bw _ _ _ [!l,none,none,none] H;refine am λD1 k1 _=>?_
  lk;refine%[.type "list",.lst G,true,by rfl|?_];lk;refine%[c.length,.inl %[_,SqL.of G|y.symm]|?_];rw[if_neg (by simp only[decide_eq_true_eq];lia)];refine k1 _ _ (am λD2 k2 _=>?_);lk;refine λd O=>k2 _ _ (aB λD3 k3 _=>ay λai hK=>?_)
  lk;refine%[_,SqL.of (af.upd O _ _ G)|hK _ _ (jH (λi I g=>∃U Y a,I=[!l,!d,U,Y]/\af H g/\g d=some (.dK a)/\a.map (·.1)=(c.take i).map λp=>Sum.inr p.2.1) %[none,none,[],rfl,af.upd O,aa|rfl] (λi I g _ ⟨_,_,_,_,q,_⟩=>SqL.of (q _ _ G)) ?_ ?_)]
  .intro i x TT I g J %[U,Y,a,rfl,sm,z|m] hT;have hi:i<c.length:=y▸(Xp J).1;obtain⟨q,hq,rfl⟩:∃q,c[i]? =some q/\x=V.ref q.1:=by
    unfold cI at J;rw[Zl,Z4 hi]at J;exact%[c[i],Z4 hi|(Za J).symm]
   have b:af H (upd g TT (.tup [.int i,.ref q.1])):=sm.trans (af.upd hT);have B:upd g TT (.tup [.int i,.ref q.1]) TT=some (.tup [.int i,.ref q.1]):=aa;have u:=af.upd (o:= .tup [.int i,.ref q.1]) hT _ _ z
   generalize upd g TT (.tup [.int i,.ref q.1])=HT at b u B
   have n:=M q (Z8 hq);refine%[_,SqT.of B,rfl,_,_,rfl,_,_,rfl,rfl|?_];show bw _ _ _ [!l,!d,some (.int i),some (.ref q.1)] HT;refine am λD4 k4 _=>?_
   lk;rw[if_neg (by simp only[decide_eq_true_eq];lia)];refine%[q,rfl,λp hp=>(Xr hp)▸%[b _ _ n.1|n.2]|λH2 C=>%[true,rfl|?_]];rw[if_neg ∅];have r:(Sum.inr q.2.1:Key)∉a.map (·.1):=by
    rw[m];intro hm;have%[q',ab|e]:=Xs hm;have e:q'.2.1=q.2.1:=Sum.inr.inj e;have%[j|hj]:=Xi ab;have ac:j<i:=by
     have:=(Xp hj).1;rw[Yn]at this
     lia
    rw[List.getElem?_take_of_lt ac]at hj;have n1:(c.map λp=>p.2.1)[j]? =some q.2.1:=by rw[Zl,hj,<-e];rfl
    have:=mJ N n1 (by rw[Zl,hq];rfl)
    lia
   refine%[_,SqT.of (C _ _ (b _ _ n.1)),_,rfl,_,dw.k (k:=Sum.inr q.2.1) (C _ _ u)|?_];have hv:cA a (Sum.inr q.2.1:Key)=none:=by
    cases e:cA a (Sum.inr q.2.1:Key)with
    | none=>rfl
    | some v=>exact absurd (Ct e) r
   rw[hv,if_neg ∅];refine k4 _ _ (aB λD5 k5 _=>?_);lk;have ag:a.length=i:=by
    have:=congrArg List.length m;rw[Z6,Z6,Yn]at this
    lia
   refine%[_,SqT.of (C _ _ (b _ _ n.1)),_,rfl,_,ic.k (k:=Sum.inr q.2.1) (C _ _ u) (ag▸aH ⋯)|k5 _ _ %[_,_,_,rfl,af.set (b.trans C) O,aa|?_]];rw[kK,if_neg r,m,Xd,Zd,hq];rfl
  .intro I g %[U,Y,a,rfl,sm,z|m];exact k3 _ _ (k g sm)
theorem mj(T:Txt K mg):Cal P w K mg base 3 "check_sayings" ["sayings","layers"] (fU K):=by
 refine T.b0.cal dG (λH vs Q E h=>?_)
 .have%[l,r,ls,qs,rfl,g,j,m,C|k]:=h;refine%[rfl|λf z A outer s B=>?_];refine%[_,%["JDMma!$A0A?1BE.OEV~QA0BkNL2NL3lEMZoKY2]QwmaH]RA3A1BE.O",dG.nd,(blE (v:= .ty "list") rfl T.a5 boot_list rfl rfl rfl)|B]|?_]
  show bw _ _ _ [!l,!r,none,none] H;refine am λN k1 _=>?_
  lk;refine%[.type "list",.lst g,true,by rfl|?_];lk;refine k1 _ _ (aB λO G _=>ay λy I=>?_);lk;refine%[_,SqL.of g|I _ _ (jH (λi e b=>∃n o,e=[!l,!r,n,o]/\af H b) %[none,none,rfl|af.refl H] (λi e b _ ⟨_,_,_,q⟩=>SqL.of (q _ _ g)) ?_ ?_)]
  .intro i x TT e b p %[n,o,rfl|u] J;have hi:i<qs.length:=(Z6 _)▸(Xp p).1;obtain⟨q,L,rfl⟩:∃q,qs[i]? =some q/\x=V.ref q.1:=by
    rw[Zl,Z4 hi]at p;exact%[qs[i],Z4 hi|(Za p).symm]
   have a:af H (upd b TT (.tup [.int i,.ref q.1])):=u.trans (af.upd J);have c:upd b TT (.tup [.int i,.ref q.1]) TT=some (.tup [.int i,.ref q.1]):=aa
   generalize upd b TT (.tup [.int i,.ref q.1])=HT at a c
   have d:=m q (Z8 L);refine%[_,SqT.of c,rfl,_,_,rfl,_,_,rfl,rfl|?_];show ko _ _ _ _ [!l,!r,some (.int i),some (.ref q.1)] HT;refine aB λU M _=>?_
   lk;rw[if_neg ⋯];refine%[q.1,r,q.2,ls,rfl,a _ _ d.1,SqL.of (a _ _ j),d.2,true,rfl|?_];rw[if_neg ∅];exact M _ _ %[_,_,rfl|a]
  .intro e b %[n,o,rfl|u];exact G _ _ (k b u)
noncomputable def lyr(p:Addr×Str×ZB):ZB:=(aA ((cV p.2.2).map sgn)).map (lnS p.2.1)
inductive kb (vs:ZM) (H:Hp) (Q:VK) (E0:XK):Prop
 | mk (l) (cs) (z0:vs=[.ref l]) (z1:H l=some (.lst (cI cs))) (z2:bZ H cs) (z3:cs.length<=4) (z4:(cs.flatMap lyr).length<=80) (z5:∀r H' (ls:ZB),af H H'->H r=none->H' r=some (.lst (ls.map V.str))->ls.Perm (cs.flatMap lyr)->ls.Pairwise (λa b=>aK b a=false)->Q (.ref r) H'):kb vs H Q E0
def ei(ls:ZB)(k:ZB):Prop:=∃a b z,k=[a,b,z]/\a∈ls/\b∈ls
def Sml(z:Str):Prop:=z.length<=30/\∀c∈z.cps.toList,c<16^8
def yZ(ls:ZB)(k:ZB):Prop:=ei ls k/\∀z∈k,Sml z
theorem uD(h:ef z=true):Sml z:=by
 unfold ef at h;rw[Zx,Zx]at h;refine%[⋯|λc a=>?_];have:=(kH.mp (all_eq_true.mp h.2 c a)).2
 lia
theorem Sml.app{a b:Str}(f:∀c∈a.cps.toList,c<16^8)(g:∀c∈b.cps.toList,c<16^8):∀c∈(a++b).cps.toList,c<16^8:=λc d=>by
 have e:(a++b).cps.toList=a.cps.toList++b.cps.toList:=Xg;rw[e]at d;exact(Xq d).elim (f c) (g c)
theorem Dg(h:c<1000):∀x∈(sgn c).cps.toList,x<16^8:=λx a=>by
 have e:=by simpa [sgn]using a
 lia
theorem kY{c:Nat}(h:ef n=true)(d:c<1000):Sml (lnS n (sgn c)):=by
 have e:∀a b:Str,(a++b).length=a.length+b.length:=λa b=>size_append
 have l:n.length<=8:=by
  unfold ef at h
  grind
 refine%[?_|Sml.app (Sml.app (Sml.app (λc d=>(nomatch d)) (uD h).2) (by decide +kernel)) (Dg d)];unfold lnS;rw[e,e,e,show Str.empty.length=0 from rfl,show(Str.ofString ".").length=1 from rfl,show(sgn c).length=1 from rfl]
 lia
theorem wo(h:cf rows)(l:Let rows c):c<1000:=by
 have:=(kH.mp (kI h.sign c (fO.mpr l))).2
 lia
theorem Dh(b:ef p.2.1=true)(d:cf p.2.2):∀z∈lyr p,Sml z:=λz e=>by
 have%[y,f|rfl]:=Xs e;have%[c,a|rfl]:=Xs (aW.mp f);exact kY b (wo d (fO.mp a))
theorem FQ(e:Sml a)(f:Sml b)(g:Sml c):∀z∈[a,b,c],Sml z:=λz d=>by
 simp only[Yx,X9,or_false]at d;rcases d with rfl|rfl|rfl
 .exact e
 .exact f
 .exact g
theorem Di(i:Nat)(h:i<=100):Sml (Str.empty++Str.ofString "#"++Str.ofString (toString (i:Int))):=by
 have all:∀j:Fin 101,Sml (Str.empty++Str.ofString "#"++Str.ofString (toString ((j.1)))):=by
  unfold Sml;decide +kernel
 exact all %[i|⋯]
theorem ei.three(h:ei ls k):k.length=3:=by
 have%[a,b,z,rfl|_]:=h;rfl
theorem ei.mono(h:ei ls k)(s:∀x∈ls,x∈ms):ei ms k:=by
 have%[a,b,z,e,c|d]:=h;exact%[a,b,z,e,s a c|s b d]
theorem xc(h:Let p.2.2 a):lnS p.2.1 (sgn a)∈lyr p:=
 Xt %[_,aW.mpr (Xt %[a,fO.mpr h|rfl])|rfl]
noncomputable def gZ(n:Str)(k:ZB):ZB:=k.map (lnS n) ++[n]
noncomputable def uE(i:Nat):Str:=Str.empty++Str.ofString "#"++Str.ofString (toString (i:Int))
noncomputable def bG(a:ZH):List ZB:=a.flatMap λp=>(bv p.2.2 (p.2.2.length-1)).map (gZ p.2.1)
noncomputable def jq(i:Nat):ZM->Option ZB
 |[.str w,.str a,.str b]=>if w=Str.ofString "later" then some [a,b,uE i]else none
 | _=>none
noncomputable def dg(qs:ZN)(n:Nat):List ZB:=(List.range n).filterMap λj=>qs[j]?.bind λq=>jq j q.2
theorem kc{a:List _}{i:Nat}{q:Addr×Str×ZB}(b:a[i]? =some q):bG (a.take (i+1))=bG (a.take i) ++(bv q.2.2 (q.2.2.length-1)).map (gZ q.2.1):=by
 unfold bG;rw[Xd,b,flatMap_append];show _++([q].flatMap _)=_;rw[List.flatMap_singleton]
theorem eF(a:qs[i]? =some q):dg qs (i+1)=dg qs i++(jq i q.2).toList:=by
 unfold dg;rw[Xc,Y2];refine congrArg _ ?_;rw[Y3,a];rw[bind_some];cases jq i q.2<;> rfl
inductive ke (vs:ZM) (H:Hp) (Q:VK) (E0:XK):Prop
 | mk (l) (cs) (z0:vs=[.ref l]) (z1:H l=some (.lst (cI cs))) (z2:bZ H cs) (z3:(∀p∈cs,yL p.2.2)) (z4:cs.length<=4) (z5:∀r H' ts,af H H'->H r=none->H' r=some (.lst (ts.map λt=>V.ref t.1))->aG H' ts->(∀t∈ts,yZ (cs.flatMap lyr) t.2)->ts.length<=104->(∀k,k∈ts.map (·.2)↔k∈bG cs)->Q (.ref r) H'):ke vs H Q E0
inductive kf (vs:ZM) (H:Hp) (Q:VK) (E0:XK):Prop
 | mk (l) (ls) (qs) (z0:vs=[.ref l]) (z1:H l=some (.lst (qs.map λq=>V.ref q.1))) (z2:cC H ls qs) (z3:(∀z∈ls,Sml z)) (z4:qs.length<=80) (z5:∀r H' ts,af H H'->H r=none->H' r=some (.lst (ts.map λt=>V.ref t.1))->aG H' ts->(∀t∈ts,yZ ls t.2)->ts.length<=qs.length->ts.map (·.2)=dg qs qs.length->Q (.ref r) H'):kf vs H Q E0
theorem kg{z:Str}(h:ef z=true):z.length<=8:=by
 unfold ef at h;rw[Zx,Zx]at h;have:=Zo h.1.2
 lia
theorem gJ{a:List Nat}{z:Str}(h:z∈aA (a.map sgn)):∃c∈a,z=sgn c:=by
 have:=aW.mp h;have%[c,b|rfl]:=Xs this;exact%[c,b|rfl]
theorem uF(T:Txt K mg):Cal P w K mg base 4 "layers_of" ["cuts"] kb:=by
 refine T.b5.cal eD (λH vs Q E h=>?_)
 .have%[l,e,rfl,hl,U,h8,al|k]:=h;refine%[rfl|λf ai A outer s hr=>?_];have u:(cI e).length=e.length:=Z6 _;refine%[_,%["JDG1UBDVT0kN~p2ijNL3lEW~w~x1Ane?1TH]SA3BX0?2rH~dAP1A0BBEI,]TA1B",eD.nd,(show bT (ah iB) ["cuts","layers","name","text"] _ ["letter","name"] [(1,2)]=true from by decide +kernel),(show(["letter","name"]:ZB).Nodup from by decide +kernel)|hr]|?_]
  show bw _ _ _ [!l,none,none,none] H;refine am λD1 k1 _=>?_
  lk;refine%[Xh _|λL Y=>k1 _ _ (am λD2 k2 _=>ay λv hK=>?_)];lk;refine .inl %[%[_|SqL.of (af.upd Y _ _ hl)]|hK _ _ (bx (λi d a=>∃o2 o3,d=[!l,!L,o2,o3]/\af H a/\∃ms:ZB,a L=some (.lst (ms.map V.str))/\ms.Perm ((e.take i).flatMap lyr)/\ms.length<=26*i)
   %[none,none,rfl,af.upd Y,[],aa,List.Perm.refl _|Xh _] (λi d a _ ⟨_,_,_,q,_⟩=>SqL.of (q _ _ hl)) ?_ ?_)]
  .intro i x d a m %[o2,o3,rfl,y,ms,N,B|ab];have hi:i<e.length:=u▸(Xp m).1;obtain⟨q,hq,rfl⟩:∃q,e[i]? =some q/\x=V.ref q.1:=by
    unfold cI at m;rw[Zl,Z4 hi]at m;exact%[e[i],Z4 hi|(Za m).symm]
   have b:=U q (Z8 hq);refine%[_,SqT.of (y _ _ b.1),rfl,_,_,rfl,_,_,rfl,rfl|aB λD3 k3 _=>?_];show jx _ _ [!l,!L,some (.str q.2.1),some (.str (Str.join nl q.2.2))] a;lk;refine%[.inl %[_|SqL.of N]|aJ λv hK=>?_];lk;refine%[q.2.2,rfl,b.2.2|λl2 H2 ss s2 f2 O p2 q2=>?_];lk;refine .inl %[%[_|SqL.of O]|hK _ _ λF hF=>?_];have an:ss.length<=26:=p2.length_eq▸np λc hc=>kI b.2.2.sign c hc
   have one:∀z∈ss,z.length=1:=λz hz=>by
    have%[c,_|rfl]:=gJ (p2.mem_iff.mp hz);rfl
   refine bF (J:=Itl K l2) (n:=ss.length) (D:=F) (λj ts d a=>(∃o,d=[o,some (.str q.2.1)])/\af H2 a/\a F=some (.lst ts)/\ts=((ss.take j).map (lnS q.2.1)).map V.str)
    %[%[none|rfl],af.upd hF,aa|rfl]
    (λj _ _ a C g=>%[_,V.str ss[j],SqL.of (g.2.1 _ _ O)|by simp]) (λ_ _ a g=>%[_,SqL.of (g.2.1 _ _ O)|by simp]) ?_ ?_
   .intro j ts d H3 C %[%[o|rfl],G,ac|p] x H4 %[e2|m];subst e2;have I:=m _ (SqL.of (G _ _ O));rw[Zl,Z4 C]at I;obtain rfl:x=V.str ss[j]:=(Za I).symm;lk;refine%[_,_,rfl,by have:=kg b.2.1;lia,by rw[one _ (Ye C)];decide|CK.mk C ac (by rw[p,Z6,Z6,Yn];exact aH ⋯) %[%[_|rfl],af.set G hF,aa|?_]];rw[p,Xd,Zd,Zd,Z4 C];rfl
   intro ts d H3 %[_,G,ag|p];rw[Zn (Zi _)]at p;lk;refine%[_,G _ _ (s2 _ _ N),_,ag,(by rw[p,Z6,Z6,Z6];exact bE ⋯)|k3 _ _ %[_,_,rfl,af.set (y.trans (s2.trans G)) Y,ms++ss.map (lnS q.2.1),?_,?_|?_]]
   .rw[aa,p,Zd]
   .rw[Xd,hq,flatMap_append];refine B.append ?_;show List.Perm _ ([q].flatMap lyr);rw[List.flatMap_singleton];exact p2.map _
   .rw[Z9,Z6]
    lia
  .intro d a %[o2,o3,rfl,y,ms,N,B|ab];refine k2 _ _ ?_;lk;rw[u,Zn (Zi _)]at B;exact%[ms,SqL.of N,by rw[B.length_eq];lia|λr ss M p' q'=>k r _ ss (y.trans (af.upd M)) (y.free M) aa (p'.trans B) q']
theorem oA(T:Txt K mg):Cal P w K mg base 4 "ties_of_cuts" ["cuts"] ke:=by
 refine T.b6.cal bW (λH vs Q E h=>?_)
 .have%[l,B,rfl,hl,a2,a3,h8|k]:=h;refine%[rfl|λf a5 A outer s hr=>?_];have ai:(cI B).length=B.length:=Z6 _;refine%[_,%["JDG1UBDVT0kNL2NL3lEVTH]UA3BkNL4NL5lEWph1AtAH~dA2A4BAH~dA2A5BA2BBEI1",bW.nd|hr]|?_]
  show bw _ _ _ [!l,none,none,none,none,none] H;refine am λD1 k1 _=>?_
  lk;refine%[Xh _|λL hL=>k1 _ _ (am λD2 k2 _=>ay λal hK=>?_)];lk;refine .inl %[%[_|SqL.of (af.upd hL _ _ hl)]|hK _ _ (bx (λi C I=>∃o2 o3 J M,C=[!l,!L,o2,o3,J,M]/\af H I/\∃ts:ZG,I L=some (.lst (ts.map λt=>V.ref t.1))/\aG I ts/\(∀t∈ts,yZ (B.flatMap lyr) t.2)/\ts.length<=26*i/\∀k,k∈ts.map (·.2)↔k∈bG (B.take i))
   %[none,none,none,none,rfl,af.upd hL,[],aa,fT _,λt ht=>(nomatch ht),Xh _|λk=>Iff.rfl] (λi C I _ ⟨_,_,_,_,_,q,_⟩=>SqL.of (q _ _ hl)) ?_ ?_)]
  .intro i x C I N %[o2,o3,J,M,rfl,sm,ts,hm,Y,ab,an|d];have hi:i<B.length:=by rw[<-ai];exact(Xp N).1
   obtain⟨q,hq,rfl⟩:∃q,B[i]? =some q/\x=V.ref q.1:=by
    unfold cI at N;rw[Zl,Z4 hi]at N;exact%[B[i],Z4 hi|(Za N).symm]
   have g:=a2 q (Z8 hq);refine%[_,SqT.of (sm _ _ g.1),rfl,_,_,rfl,_,_,rfl,rfl|?_];refine aB λD3 k3 _=>?_
   show uY _ _ _ _ [!l,!L,some (.str q.2.1),some (.str (Str.join nl q.2.2)),J,M] I;refine ay λal hK=>?_
   lk;have qm:=Z8 hq;refine%[q.2.2,rfl,g.2.2,a3 q qm|?_];intro l2 H2 ss s2 f2 h2 t2 a6 aq all2;have a4:=kg g.2.1;have as:l2≠L:=λe=>by rw[e,hm]at f2;cases f2
   have aR:(ss.map λp=>V.ref p.1).length=ss.length:=Z6 _;refine .inl %[l2,rfl,%[_|SqL.of h2]|hK _ _ (bx (xs:=ss.map λp=>V.ref p.1) (λj C n=>∃J M,C=[!l,!L,some (.str q.2.1),some (.str (Str.join nl q.2.2)),J,M]/\af H n/\n l2=some (.lst (ss.map λp=>V.ref p.1))/\aG n ss/\∃c:ZG,n L=some (.lst (c.map λt=>V.ref t.1))/\aG n c/\(∀t∈c,yZ (B.flatMap lyr) t.2)/\c.length<=26*i+j/\c.map (·.2)=ts.map (·.2) ++((ss.take j).map (·.2)).map (gZ q.2.1))
    %[_,_,rfl,sm.trans s2,h2,t2,ts,s2 _ _ hm,aP Y λb z e=>s2 _ _ e,ab,⋯|(Zz _).symm] (λj C n _ ⟨_,_,_,_,q,_⟩=>SqL.of q) ?_ ?_)]
   .intro j x C n N %[J,M,rfl,ac,aU,r,c,G,u,ag,v|m];have hj:j<ss.length:=aR▸(Xp N).1;rw[Zl,Z4 hj]at N;obtain rfl:x=V.ref ss[j].1:=(Za N).symm;have O:=Ye hj;have%[a,b,a0,la|lb]:=aq _ O;have U:=(r _ O).2;rw[a0]at U;refine%[_,SqT.of U,rfl,_,_,rfl,_,_,rfl,rfl|aB λD4 k4 _=>?_];show jx _ _ [!l,!L,some (.str q.2.1),some (.str (Str.join nl q.2.2)),some (.str (sgn a)),some (.str (sgn b))] n;lk;refine%[.inl %[_|SqL.of G],q.2.1,sgn a,rfl,⋯,(show 1<=100 by decide)|?_];refine%[q.2.1,sgn b,rfl,⋯,(show 1<=100 by decide)|?_];refine%[#[3]|λp hp=>?_];have sp:=af.upd (o:= .tup [V.str (lnS q.2.1 (sgn a)),V.str (lnS q.2.1 (sgn b)),V.str q.2.1]) hp;have gp:upd n p (.tup [V.str (lnS q.2.1 (sgn a)),V.str (lnS q.2.1 (sgn b)),V.str q.2.1]) p=_:=aa
    generalize upd n p _=H4 at sp gp
    have a1:=sp _ _ G;have y:∀b z,H4 b=some (.tup z)->upd H4 L (.lst (c.map (λt=>V.ref t.1) ++[V.ref p])) b=some (.tup z):=λb z e=>by
     have:b≠L:=λe2=>by rw[e2,a1]at e;cases e
     rw[ak this];exact e
    refine%[_,a1,by rw[Z6];exact Nat.lt_of_le_of_lt (show c.length<=10000 by lia) (by decide)|k4 _ _ %[_,_,rfl,af.set (ac.trans sp) hL,(ak as)▸sp _ _ aU,aP (aP r λb z e=>sp _ _ e) y,c++[(p,[lnS q.2.1 (sgn a),lnS q.2.1 (sgn b),q.2.1])],?_,?_,?_,?_|?_]]
    .rw[aa,Zd];rfl
    .exact aP (iS (aP u λb z e=>sp _ _ e) ∅ gp) y
    .intro t ht;rcases Xq ht with z|z
     .exact ag t z
     .rw[Xr z];exact%[%[_,_,_,rfl,mem_flatMap.mpr %[q,qm|xc la]|mem_flatMap.mpr %[q,qm|xc lb]]|FQ (kY g.2.1 (wo g.2.2 la)) (kY g.2.1 (wo g.2.2 lb)) (uD g.2.1)]
    .rw[Z9,Ym];lia
    .rw[Zd,m,Ze,Xd,Z4 hj,Zd,Zd];show _++(_++[_])=_++(_++[gZ q.2.1 ss[j].2]);rw[a0];rfl
   .intro C n %[J,M,rfl,ac,aU,r,c,G,u,ag,v|m];rw[aR]at v m;rw[Zn (Zi _)]at m;refine k3 _ _ %[_,_,_,_,rfl,ac,c,G,u,ag,⋯|λk=>?_];rw[m,kc hq,Yu,Yu,d,mem_map,mem_map];exact or_congr Iff.rfl (exists_congr λz=>and_congr_left λ_=>all2 z)
  .intro C I %[o2,o3,J,M,rfl,sm,ts,hm,Y,ab,an|d];refine k2 _ _ ?_;lk;rw[ai]at an d;rw[Zn (Zi _)]at d;exact k L I ts sm hL hm Y ab ⋯ d
theorem kh(T:Txt K mg):Cal P w K mg base 1 "ties_of_sayings" ["sayings"] kf:=by
 refine T.b7.cal cp (λH vs Q E h=>?_)
 .have%[l,ls,qs,rfl,hl,ab,r,an|k]:=h;refine%[rfl|λf al A outer s hr=>?_];have G:(qs.map λq=>V.ref q.1).length=qs.length:=Z6 _;refine%[_,%["JDG1UBDV~QA0BkNL2NL3lEMKYQ3CfEWph1AtAQ3CAQ3CA~!~Gf~G~c2~$BBOEI1"|cp.nd]|?_]
  show bw _ _ _ [!l,none,none,none] H;refine am λD1 k1 _=>?_
  lk;refine%[Xh _|λL N=>k1 _ _ (am λD2 k2 _=>ay λag hK=>?_)];lk;refine%[_,SqL.of (af.upd N _ _ hl)|hK _ _ (jH (λi O n=>∃o2 o3,O=[!l,!L,o2,o3]/\af H n/\∃ts:ZG,n L=some (.lst (ts.map λt=>V.ref t.1))/\aG n ts/\(∀t∈ts,yZ ls t.2)/\ts.length<=i/\ts.map (·.2)=dg qs i)
   %[none,none,rfl,af.upd N,[],aa,fT _,λt ht=>(nomatch ht),Xh _|rfl] (λi O n _ ⟨_,_,_,q,_⟩=>SqL.of (q _ _ hl)) ?_ ?_)]
  .intro i x TT O n hx %[o2,o3,rfl,sm,ts,hm,u,g,v|d] hT;have hi:i<qs.length:=by rw[<-G];exact(Xp hx).1
   obtain⟨q,U,rfl⟩:∃q,qs[i]? =some q/\x=V.ref q.1:=by
    rw[Zl,Z4 hi]at hx;exact%[qs[i],Z4 hi|(Za hx).symm]
   have s0:=af.upd (o:= .tup [.int i,.ref q.1]) hT;have j:af H (upd n TT (.tup [.int i,.ref q.1])):=sm.trans s0;have I:upd n TT (.tup [.int i,.ref q.1]) TT=some (.tup [.int i,.ref q.1]):=aa;have m:=s0 _ _ hm;have c:=aP u λb z e=>s0 _ _ e
   generalize upd n TT (.tup [.int i,.ref q.1])=HT at j I m c
   have J:=ab q (Z8 U);refine%[_,SqT.of I,rfl,_,_,rfl,_,_,rfl,rfl|?_];show ko _ _ _ _ [!l,!L,some (.int i),some (.ref q.1)] HT;refine aB λD4 k4 _=>?_
   lk;have st:=SqT.of (K:=K) (j _ _ J.1);have ai:(Str.ofString (toString (i:Int))).length<=21:=by
    have e:=PySem.int_text_length_le10 (a:=(i:Int)) (k:=20) (by decide) (by have:(i:Int).natAbs=i:=rfl;lia);rw[PySem.ofString_length];lia
   have e1:(Str.empty++Str.ofString "#").length=1:=by decide +kernel
   have ea:∀a b:Str,(a++b).length=a.length+b.length:=λa b=>size_append
   have add:∀a b:Str,a∈ls->b∈ls->jq i q.2=some [a,b,uE i]->∀p,HT p=none->∃x,upd HT p (.tup [.str a,.str b,V.str (Str.empty++Str.ofString "#"++Str.ofString (toString (i:Int)))]) L=some (.lst x)/\x.length<sizeLine/\D4.nx [!l,!L,some (.int i),some (.ref q.1)] (upd (upd HT p (.tup [.str a,.str b,V.str (Str.empty++Str.ofString "#"++Str.ofString (toString (i:Int)))])) L (.lst (x++[V.ref p]))):=by
    intro a b Y mb ac p hp;have tn:=eF U;rw[ac,<-d]at tn;unfold uE at tn
    generalize hz:Str.empty++Str.ofString "#"++Str.ofString (toString (i:Int))=z at tn ⊢
    have sp:=af.upd (o:= .tup [V.str a,V.str b,V.str z]) hp;have gp:upd HT p (.tup [V.str a,V.str b,V.str z]) p=_:=aa
    generalize upd HT p (.tup [V.str a,V.str b,V.str z])=H4 at sp gp
    have M:=sp _ _ m;have B:∀b z,H4 b=some (.tup z)->upd H4 L (.lst (ts.map (λt=>V.ref t.1) ++[V.ref p])) b=some (.tup z):=λb z e=>by
     have:b≠L:=λe2=>by rw[e2,M]at e;cases e
     rw[ak this];exact e
    refine%[_,M,by rw[Z6];exact aH ⋯|k4 _ _ %[_,_,rfl,af.set (j.trans sp) N,ts++[(p,[a,b,z])],?_,?_,?_,?_|?_]]
    .rw[aa,Zd];rfl
    .exact aP (iS (aP c λb z e=>sp _ _ e) ∅ gp) B
    .intro t ht;rcases Xq ht with z|z
     .exact g t z
     .rw[Xr z];exact%[%[_,_,_,rfl,Y|mb]|FQ (r a Y) (r b mb) (hz▸Di i ⋯)]
    .rw[Z9,Ym];lia
    .rw[tn,Zd];rfl
   rcases J.2 with⟨wd,a,b,e,hw,Y,mb,_⟩|⟨wd,a,y,e,hw,_⟩
   .rw[e]at st;refine%[_,st,_,rfl,rfl|bH (λC=>?_) λC=>?_]
    .refine%[.inl %[_|SqL.of m],_,st,_,rfl,_,st,_,rfl,bE ⋯,?_,bE (by rw[ea];lia),bE (by rw[ea];lia),#[3]|add a b Y mb (e▸if_pos (V.str.inj (Zo C)))];have:(i:Int).natAbs=i:=rfl
     lia
    .refine k4 _ _ %[_,_,rfl,j,ts,m,c,g,⋯|?_];rw[eF U,e,show jq i [V.str wd,V.str a,V.str b]=none from if_neg λz=>C (Zf (by rw[z])),d];exact(Zz _).symm
   .rw[e]at st;refine%[_,st,_,rfl,rfl|?_];rw[if_neg (by rcases hw with rfl|rfl<;> decide)];refine k4 _ _ %[_,_,rfl,j,ts,m,c,g,⋯|?_];rw[eF U,e,d];exact(Zz _).symm
  .intro O n %[o2,o3,rfl,sm,ts,hm,u,g,v|d];refine k2 _ _ ?_;lk;rw[G]at v d;exact k L n ts sm N hm u g v d
structure GrF (mg:ZC) (H:Hp) (g c2 c3 c4:Addr) (qs:ZN) (ls:ZB) (ts:ZG):Prop where
 at_:∃dx c1,H g=some (.ins (be mg "Ground") dx [("kept_cuts",.ref c1),("kept_sayings",.ref c2),("kept_layers",.ref c3),("kept_ties",.ref c4)])
 a2:H c2=some (.lst (qs.map λq=>V.ref q.1))
 a3:H c3=some (.lst (ls.map V.str))
 a4:H c4=some (.lst (ts.map λt=>V.ref t.1))
 sa:cC H ls qs
 tu:aG H ts
theorem GrF.up(h:GrF mg H g a c d qs ls ts)(s:af H f):GrF mg f g a c d qs ls ts:=by
 have%[i,j|l]:=h.at_;exact%[%[i,j|s _ _ l],s _ _ h.a2,s _ _ h.a3,s _ _ h.a4,h.sa.up s|aP h.tu λb z e=>s _ _ e]
inductive qF (mg:ZC) (vs:ZM) (H:Hp) (Q:VK) (E0:XK):Prop
 | mk (g) (c2) (c3) (c4) (qs) (ls) (ts) (z0:vs=[.ref g]) (z1:GrF mg H g c2 c3 c4 qs ls ts) (z2:∀l,H l=none->Q (.ref l) (upd H l (.lst (ls.map V.str)))):qF mg vs H Q E0
inductive oB (mg:ZC) (vs:ZM) (H:Hp) (Q:VK) (E0:XK):Prop
 | mk (g) (c2) (c3) (c4) (qs) (ls) (ts) (z0:vs=[.ref g]) (z1:GrF mg H g c2 c3 c4 qs ls ts) (z2:∀l,H l=none->Q (.ref l) (upd H l (.lst (qs.map λq=>V.ref q.1)))):oB mg vs H Q E0
inductive xf (mg:ZC) (vs:ZM) (H:Hp) (Q:VK) (E0:XK):Prop
 | mk (g) (c2) (c3) (c4) (qs) (ls) (ts) (z0:vs=[.ref g]) (z1:GrF mg H g c2 c3 c4 qs ls ts) (z2:∀l,H l=none->Q (.ref l) (upd H l (.lst (ts.map λt=>V.ref t.1)))):xf mg vs H Q E0
inductive sr (mg:ZC) (vs:ZM) (H:Hp) (Q:VK) (E0:XK):Prop
 | mk (g) (l) (m) (dx) (cs) (qs) (z0:vs=[.ref g,.ref l,.ref m]) (z1:H g=some (.ins (be mg "Ground") dx [])) (z2:H l=some (.lst (cI cs))) (z3:H m=some (.lst (qs.map λq=>V.ref q.1))) (z4:bZ H cs) (z5:(cs.map λp=>p.2.1).Nodup) (z6:1<=cs.length) (z7:cs.length<=4) (z8:(∀p∈cs,yL p.2.2)) (z9:(cs.flatMap lyr).length<=80) (z10:(∀ls,ls.Perm (cs.flatMap lyr)->cC H ls qs)) (z11:qs.length<=30) (z12:∀H' ls ts c2 c3 c4,(∀b o,b≠g->H b=some o->H' b=some o)->GrF mg H' g c2 c3 c4 qs ls ts->(∀t∈ts,yZ ls t.2)->(∀z∈ls,Sml z)->(∀k,k∈ts.map (·.2)↔k∈bG cs\/k∈dg qs qs.length)->ts.length<=150->ls.Perm (cs.flatMap lyr)->ls.Pairwise (λa b=>aK b a=false)->Q .non H'):sr mg vs H Q E0
theorem uG(T:Txt K mg):C1 P w K mg base 6 "Ground" ["self","cuts","sayings"] (sr mg):=by
 refine T.i_Ground.cal eV (λH vs Q E h=>?_)
 .have%[g,l,m,d,u,qs,rfl,N,hl,hm,j,aq,h1,h8,as,aR,C,bf|k]:=h;refine%[rfl|λf bc A outer s hr=>?_];refine%[_,%["JDWH]VA1BDG3H]WA1BDWH]XA2A3BD~R0[~IA1BD~R0[~IA2BD~R03E~R0,]YAF~BH]ZA1BH]aA2BB",eV.nd|hr]|?_]
  show bw _ _ _ [!g,!l,!m,none] H;refine am λD1 k1 _=>?_
  lk;refine%[l,u,rfl,hl,j,aq,h1,⋯|λH1 s1=>k1 _ _ (am λD2 k2 _=>?_)];lk;refine%[l,u,rfl,s1 _ _ hl,j.up s1,h8,aR|λr H2 ls s2 f2 h2 O q2=>k2 _ _ (am λD3 k3 _=>?_)];have U:=s1.trans s2;lk;refine%[m,r,ls,qs,rfl,U _ _ hm,h2,(C ls O).up U,⋯|λH3 s3=>k3 _ _ (am λD4 k4 _=>?_)];have v:=U.trans s3;have OC:=T.o_Ground.cls;have ag:∀z∈ls,Sml z:=λz hz=>by
   have%[p,y|hz]:=mem_flatMap.mp (O.mem_iff.mp hz);exact Dh (j p y).2.1 (j p y).2.2 z hz
  have gl:l≠g:=λe=>by rw[e,N]at hl;cases hl
  have gm:m≠g:=λe=>by rw[e,N]at hm;cases hm
  have gr:r≠g:=λe=>by rw[e,s1 _ _ N]at f2;cases f2
  lk;refine%[_,.inl (SqL.of (v _ _ hl))|λa G=>%[_,_,_,af.upd G _ _ (v _ _ N),OC,T.n_Ground_kept_cuts,(by show 0<1000;decide)|k4 _ _ (am λD5 k5 _=>?_)]];have aU:a≠g:=λe=>by rw[e,v _ _ N]at G;cases G
  have a0:=af.upd (o:= .lst (cI u)) G;have b4:∀b o,b≠g->H3 b=some o->upd (upd H3 a (.lst (cI u))) g (.ins (be mg "Ground") d (dv (Str.ofString "kept_cuts") (V.ref a) [])) b=some o:=λb o c e=>by rw[ak c];exact a0 _ _ e
  have g4:upd (upd H3 a (.lst (cI u))) g (.ins (be mg "Ground") d (dv (Str.ofString "kept_cuts") (V.ref a) [])) g=some (.ins (be mg "Ground") d [("kept_cuts",V.ref a)]):=aa;have a4:upd (upd H3 a (.lst (cI u))) g (.ins (be mg "Ground") d (dv (Str.ofString "kept_cuts") (V.ref a) [])) a=some (.lst (cI u)):=by rw[ak aU];exact aa
  generalize upd (upd H3 a (.lst (cI u))) g (.ins (be mg "Ground") d (dv (Str.ofString "kept_cuts") (V.ref a) []))=H4 at b4 g4 a4
  have n4:∀b,H4 b=none->b≠g:=λb c e=>by rw[e,g4]at c;cases c
  lk;refine%[_,.inl (SqL.of (b4 _ _ gm (v _ _ hm)))|λi Y=>%[_,_,_,af.upd Y _ _ g4,OC,T.n_Ground_kept_sayings,(by show 1<1000;decide)|k5 _ _ (am λD6 k6 _=>?_)]];have ab:=n4 i Y;have a1:=af.upd (o:= .lst (qs.map λq=>V.ref q.1)) Y;have b5:∀b o,b≠g->H4 b=some o->upd (upd H4 i (.lst (qs.map λq=>V.ref q.1))) g (.ins (be mg "Ground") d (dv (Str.ofString "kept_sayings") (V.ref i) [("kept_cuts",V.ref a)])) b=some o:=λb o c e=>(ak c)▸a1 _ _ e
  have g5:upd (upd H4 i (.lst (qs.map λq=>V.ref q.1))) g (.ins (be mg "Ground") d (dv (Str.ofString "kept_sayings") (V.ref i) [("kept_cuts",V.ref a)])) g=some (.ins (be mg "Ground") d [("kept_cuts",V.ref a),("kept_sayings",V.ref i)]):=by rw[aa];rfl
  have a5:upd (upd H4 i (.lst (qs.map λq=>V.ref q.1))) g (.ins (be mg "Ground") d (dv (Str.ofString "kept_sayings") (V.ref i) [("kept_cuts",V.ref a)])) i=some (.lst (qs.map λq=>V.ref q.1)):=(ak ab)▸aa
  generalize upd (upd H4 i (.lst (qs.map λq=>V.ref q.1))) g (.ins (be mg "Ground") d (dv (Str.ofString "kept_sayings") (V.ref i) [("kept_cuts",V.ref a)]))=H5 at b5 g5 a5
  lk;refine%[_,_,_,g5,OC,T.n_Ground_kept_layers,(by show 2<1000;decide)|k6 _ _ (aB λD7 k7 _=>?_)];have b6:∀b o,b≠g->H5 b=some o->upd H5 g (.ins (be mg "Ground") d (dv (Str.ofString "kept_layers") (V.ref r) [("kept_cuts",V.ref a),("kept_sayings",V.ref i)])) b=some o:=λb o c e=>(ak c)▸e
  have g6:upd H5 g (.ins (be mg "Ground") d (dv (Str.ofString "kept_layers") (V.ref r) [("kept_cuts",V.ref a),("kept_sayings",V.ref i)])) g=some (.ins (be mg "Ground") d [("kept_cuts",V.ref a),("kept_sayings",V.ref i),("kept_layers",V.ref r)]):=by rw[aa];rfl
  generalize upd H5 g (.ins (be mg "Ground") d (dv (Str.ofString "kept_layers") (V.ref r) [("kept_cuts",V.ref a),("kept_sayings",V.ref i)]))=H6 at b6 g6
  have ai:∀b o,b≠g->H3 b=some o->H6 b=some o:=λb o c e=>b6 b o c (b5 b o c (b4 b o c e))
  have B:∀b o,b≠g->H b=some o->H6 b=some o:=λb o c e=>ai b o c (v _ _ e)
  have al:bZ H6 u:=λp y=>⟨B _ _ (λe=>by have:=(j p y).1;rw[e,N]at this;cases this) (j p y).1,(j p y).2⟩
  have n:cC H6 ls qs:=λq hq=>⟨B _ _ (λe=>by have:=(C ls O q hq).1;rw[e,N]at this;cases this) (C ls O q hq).1,(C ls O q hq).2⟩
  lk;refine%[l,u,rfl,B _ _ gl hl,al,as,h8|λt1 H7 ts s7 f7 h7 a2 ac bl a3=>?_];lk;refine%[m,ls,qs,rfl,s7 _ _ (B _ _ gm hm),n.up s7,ag,⋯|λt2 H8 us s8 f8 a6 a7 an bm bb=>?_];lk;have M:aG H8 (ts++us):=uy (aP a2 λb z e=>s8 _ _ e) a7;have g8:=s8 _ _ (s7 _ _ g6);refine%[_,s8 _ _ h7,_,a6,by rw[Z6,Z6,PySem.sizeLine_eq];lia|λp y=>%[ts++us,Zd▸SqL.of aa,aP M λb z e=>af.upd y _ _ e,3,?_,by decide,by rw[Z9];lia|λc4 ss I J bt=>%[_,_,_,af.upd I _ _ (af.upd y _ _ g8),OC,T.n_Ground_kept_ties,(by show 3<1000;decide)|k7 _ _ ?_]]]
  .intro t ht;rcases Xq ht with z|z
   .exact(ac t z).1.three
   .exact(an t z).1.three
  .have b9:∀b o,b≠g->H8 b=some o->upd (upd (upd H8 p (.lst (ts.map (λp=>V.ref p.1) ++us.map λp=>V.ref p.1))) c4 (.lst (ss.map λp=>V.ref p.1))) g (.ins (be mg "Ground") d (dv (Str.ofString "kept_ties") (V.ref c4) [("kept_cuts",V.ref a),("kept_sayings",V.ref i),("kept_layers",V.ref r)])) b=some o:=λb o c e=>(ak c)▸((af.upd (o:= .lst (ts.map (λp=>V.ref p.1) ++us.map λp=>V.ref p.1)) y).trans (af.upd (o:= .lst (ss.map λp=>V.ref p.1)) I)) _ _ e
   have L:∀b o,b≠g->H6 b=some o->_:=λb o c e=>b9 b o c (s8 _ _ (s7 _ _ e))
   refine k _ ls ss i r c4 (λb o c e=>L b o c (B b o c e)) %[%[d,a|?_],?_,?_,?_,?_|?_] (λt ht=>?_) ag (λk=>by rw[(J.map _).mem_iff,Zd,Yu,a3,bb]) (by rw[J.length_eq,Z9];lia) O q2
   .rw[aa];rfl
   .exact L _ _ ab (b6 _ _ ab a5)
   .exact L _ _ gr (ai _ _ gr (s3 _ _ h2))
   .rw[ak (λe=>by rw[e,af.upd y _ _ g8]at I;cases I)];exact aa
   .exact λq hq=>⟨L _ _ (λe=>by have:=(n q hq).1;rw[e,g6]at this;cases this) (n q hq).1,(n q hq).2⟩
   .intro t ht;have:=M t (J.mem_iff.mp ht);exact%[this.1|b9 _ _ (λe=>by have q:=this.2;rw[e,g8]at q;cases q) this.2]
   .rcases Xq (J.mem_iff.mp ht)with z|z
    .exact%[(ac t z).1.mono λx=>O.mem_iff.mpr|(ac t z).2]
    .exact an t z
theorem d6(T:Txt K mg):yw P w K mg base 1 "Ground" "layers" ["self"] (qF mg):=by
 refine T.m_Ground_layers.cal kU (λH vs Q E h=>?_)
 .have%[g,c,d,e,qs,ls,ts,rfl,a|k]:=h;refine%[rfl|λf b A outer s m=>?_];have%[n,o|i]:=a.at_;refine%[_,%["JEI[~IA~e0B"|0]|?_];show jy _ _ [some _] H;lk;exact%[_,_,_,i,T.o_Ground.cls,T.n_Ground_kept_layers,_,rfl,_,rfl,_,.inl (SqL.of a.a3)|λl j=>k l j]
theorem kZ(T:Txt K mg):yw P w K mg base 1 "Ground" "sayings" ["self"] (oB mg):=by
 refine T.m_Ground_sayings.cal j6 (λH vs Q E h=>?_)
 .have%[g,c,d,e,qs,ls,ts,rfl,a|k]:=h;refine%[rfl|λf b A outer s m=>?_];have%[n,o|i]:=a.at_;refine%[_,%["JEI[~IA~e0B"|0]|?_];show jy _ _ [some _] H;lk;exact%[_,_,_,i,T.o_Ground.cls,T.n_Ground_kept_sayings,_,rfl,_,rfl,_,.inl (SqL.of a.a2)|λl j=>k l j]
theorem fE(T:Txt K mg):yw P w K mg base 1 "Ground" "ties" ["self"] (xf mg):=by
 refine T.m_Ground_ties.cal oa (λH vs Q E h=>?_)
 .have%[g,c,d,e,qs,ls,ts,rfl,a|k]:=h;refine%[rfl|λf b A outer s m=>?_];have%[n,o|i]:=a.at_;refine%[_,%["JEI[~IA~e0B"|0]|?_];show jy _ _ [some _] H;lk;exact%[_,_,_,i,T.o_Ground.cls,T.n_Ground_kept_ties,_,rfl,_,rfl,_,.inl (SqL.of a.a4)|λl j=>k l j]
def dI(H:Hp)(ys:List (Addr×Str×Int)):Prop:=∀p∈ys,H p.1=some (.tup [.str p.2.1,.int p.2.2])/\0<=p.2.2/\p.2.2<=7
theorem dI.up(h:dI H ys)(s:af H b):dI b ys:=λp a=>%[s _ _ (h p a).1|(h p a).2]
inductive qG (vs:ZM) (H:Hp) (Q:VK) (E0:XK):Prop
 | mk (one two:Int) (l:Addr) (torn:Bool) (ys:List (Addr×Str×Int)) (z0:vs=[.int one,.int two,.ref l,.bl torn]) (z1:H l=some (.lst (ys.map λp=>V.ref p.1))) (z2:dI H ys) (z3:1<=ys.length) (z4:ys.length<=100) (z5:0<=one) (z6:0<=two) (z7:∀(t:Addr) H' (xs:ZM),af H H'->H t=none->H' t=some (.tup xs)->qD (ys.map λp=>p.2.1) xs->Q (.ref t) H'):qG vs H Q E0
theorem sw(T:Txt K mg):Cal P w K mg base 1 "_law_saying" ["_law_one","_law_two","_law_layers","_law_torn"] qG:=by
 refine T.bf.cal br (λH vs Q E h=>?_)
 .have%[one,d,l,g,ys,rfl,hl,U,y1,ag,o0,t0|k]:=h;refine%[rfl|λf ai A outer s hr=>?_];have get:∀n:Int,0<=n->∃q,atI (ys.map λp=>V.ref p.1) (n%(ys.length:Int))=some (V.ref q.1)/\q∈ys:=λn hn=>by
   have h0:=Int.emod_nonneg n (show(ys.length:Int)≠0 by lia);have h1:=Int.emod_lt_of_pos n (show(0:Int)<(ys.length:Int) by lia)
   generalize n%(ys.length:Int)=i at h0 h1
   have%[j|rfl]:=Xk h0;have hj:j<ys.length:=by lia
   exact%[ys[j],cm (by simp[hj])|Ye hj]
  have%[p,gp|mp]:=get one o0;have%[q,gq|mq]:=get d t0;have Y:(ys.map λp=>V.ref p.1).length=ys.length:=Z6 _;have G:(0:Int)<(ys.length:Int):=by lia
  have pa:=U p mp;have qa:=U q mq;refine%[_,%["JD~SR2FS0cdA2BkNL4NL5lD~SR2FS1cdA2BkNL6NL7lDG8z3'sYFSFg1CCCDG9FSFg0CCDMZyK:9CyKu46&ZoKu57wa8DMZyK~A57&ma8EItAfA6A4BOEItAfA4A6BODMZyKY9CyKu46&ZoKY57wa8EItAfA4A6BODG:FbF>CFxC5RUACA+CA+CACACA+CACACBFS1CDMKYFSFg1CCCEG:RUA+CACBFSFg1CCOEItARUAfAfBFS0CA4A~J:B"|br.nd]|?_]
  show bw _ _ _ [some (.int one),some (.int d),!l,some (.bl g),none,none,none,none,none,none,none] H;refine am λD1 k1 _=>?_
  lk;refine%[ys.length,.inl %[_,SqL.of hl|Y.symm],G,_,SqL.of hl,_,gp,_,rfl,_,SqT.of pa.1,rfl,_,_,rfl,_,_,rfl,rfl|k1 _ _ (am λD2 k2 _=>?_)];lk;refine%[ys.length,.inl %[_,SqL.of hl|Y.symm],G,_,SqL.of hl,_,gq,_,rfl,_,SqT.of qa.1,rfl,_,_,rfl,_,_,rfl,rfl|k2 _ _ (am λD3 k3 _=>?_)];have I:∀v:Bool,D3.nx [some (.int one),some (.int d),!l,some (.bl g),some (.str p.2.1),some (.int p.2.2),some (.str q.2.1),some (.int q.2.2),some (.bl v),none,none] H:=by
   intro v;refine k3 _ _ (am λD4 k4 _=>?_);lk;refine%[%[by decide|by decide],by decide|k4 _ _ (am λD5 k5 r5=>?_)];have b1:0<=one/64%8:=by lia
   have b2:one/64%8<8:=by lia
   generalize one/64%8=kind at b1 b2
   have%[al,pn|pi]:=p;have%[an,u|qi]:=q;dsimp only at pa qa gp gq;have mem:∀{r:Addr×Str×Int},r∈ys->r.2.1∈ys.map λp=>p.2.1:=λ{r} hr=>Xt %[r,hr|rfl]
   have J:∀(z:Hp) (a b:Str),af H z->a∈(ys.map λp=>p.2.1)->b∈(ys.map λp=>p.2.1)->a≠b->∀w:Str,w="later"\/w="same"->∀t,z t=none->Q (.ref t) (upd z t (.tup [.str w,.str a,.str b])):=λz a b sh ha hb ab w hw t y=>
    k t _ _ (sh.trans (af.upd y)) (sh.free y) aa (.inl %[w,a,b,rfl,hw,ha,hb|ab])
   have m1:pn∈ys.map λp=>p.2.1:=mem mp
   have m2:u∈ys.map λp=>p.2.1:=mem mq
   have B:3<=sizeLine:=by decide
   have rest:D5.nx [some (.int one),some (.int d),!l,some (.bl g),-pn,some (.int pi),-u,some (.int qi),some (.bl v),some (.int kind),none] H:=by
    refine k5 _ _ (am λD6 k6 r6=>?_);have M:∀z,af H z->D6.nx [some (.int one),some (.int d),!l,some (.bl g),-pn,some (.int pi),-u,some (.int qi),some (.bl v),some (.int kind),none] z:=by
     intro z sh;refine k6 _ _ (am λD7 k7 _=>?_);lk;refine%[.inl %[by decide|by decide],#[8]|λp hp=>%[by decide,_,SqL.of aa|?_]];have%[c,hc|N]:=iF [0,-20,-60,10,60,-200,110,0] (i:=d%8) ⋯ (by show d%8<8;lia);have O: -200<=c/\c<=110:=by
      simp only[Yx,X9,or_false]at N
      lia
     refine%[_,hc,c,rfl|k7 _ _ (am λD8 k8 _=>?_)];have s7:=sh.trans (af.upd (o:= .lst [V.int 0,V.int (-20),V.int (-60),V.int 10,V.int 60,V.int (-200),V.int 110,V.int 0]) hp)
     generalize L2.upd z p _=H7 at s7
     have done:∀(yr:Int) H8,af H H8-> -9999<=yr->yr<=9999->D8.nx [some (.int one),some (.int d),!l,some (.bl g),-pn,some (.int pi),-u,some (.int qi),some (.bl v),some (.int kind),some (.int yr)] H8:=by
      intro yr H8 s8 y0 y9;refine k8 _ _ ?_;lk;obtain⟨wd,ac,hw⟩:∃wd:Str,atI [V.str (Str.ofString "since"),V.str (Str.ofString "by")] (one%2)=some (V.str wd)/\(wd="since"\/wd="by"):=by
       rcases(show one%2=0\/one%2=1 by lia)with e|e<;> rw[e]
       .exact%[_,rfl|.inl rfl]
       .exact%[_,rfl|.inr rfl]
      refine%[#[2]|λp1 C=>%[by decide,_,SqL.of aa,_,ac,B|λt y=>?_]];exact k t _ _ (s8.trans ((af.upd C).trans (af.upd y))) (s8.free ((af.upd C).free y)) aa (.inr %[wd,pn,_,rfl,hw,m1,y0|y9])
     lk;refine%[%[by decide|by decide],by decide|bH (λ_=>%[#[2]|λp1 C=>%[%[by decide|by decide],by decide,_,SqL.of aa|?_]]) λ_=>done _ _ s7 ⋯ ⋯];have%[c,hc|N]:=iF [-9999,9999] (i:=d/240%2) ⋯ (by show d/240%2<2;lia);have O: -9999<=c/\c<=9999:=by
      simp only[Yx,X9,or_false]at N
      lia
     exact%[_,hc|done _ _ (s7.trans (af.upd C)) O.1 O.2]
    lk;have sp:=af.refl H;have R:=M H sp;refine bH (λ_=>bH (λm=>?_) λ_=>R) λ_=>R
    have m:pn≠u:=by simpa using m
    have L:3<=sizeLine/\∀p,H p=none->D6.rt (.ref p) (upd H p (.tup [V.str (Str.ofString "same"),V.str pn,V.str u])):=%[B|λt y=>r6 _ _ (J H pn u sp m1 m2 m _ (.inr rfl) t y)]
    exact bH (λ_=>L) λ_=>bH (λ_=>L) λ_=>R
   lk;refine bH (λ_=>bH (λm=>?_) λ_=>rest) λ_=>rest
   have m:pn≠u:=by simpa using m
   have L1:3<=sizeLine/\∀p,H p=none->D5.rt (.ref p) (upd H p (.tup [V.str (Str.ofString "later"),V.str u,V.str pn])):=%[B|λt y=>r5 _ _ (J H u pn (af.refl H) m2 m1 (Ne.symm m) _ (.inl rfl) t y)]
   have L2:3<=sizeLine/\∀p,H p=none->D5.rt (.ref p) (upd H p (.tup [V.str (Str.ofString "later"),V.str pn,V.str u])):=%[B|λt y=>r5 _ _ (J H pn u (af.refl H) m1 m2 m _ (.inl rfl) t y)]
   exact bH (λ_=>bH (λ_=>bH (λ_=>L1) λ_=>L2) λ_=>L2) λ_=>bH (λ_=>bH (λ_=>bH (λ_=>L1) λ_=>L2) λ_=>L2) λ_=>rest
  lk;exact bH (λ_=>%[%[by decide|by decide],by decide|I _]) λ_=>I _
structure Drn where
 name:Str
 cols:List ZL
 hi:Nat
 sh:Int
 wd:Bool
noncomputable def Drn.rows(d:Drn):ZB:=drawn d.cols d.hi d.sh
def lT(d:Drn):Prop:=ef d.name=true/\1<=d.hi/\d.hi<=7/\1<=d.cols.length/\d.cols.length<=5/\∀c∈d.cols,c.length=d.hi/\jU d.wd c
theorem lT.cut(h:lT d):cf d.rows:=ug h.2.1 (by have:=h.2.2.1;lia) h.2.2.2.1 (by have:=h.2.2.2.2.1;lia) h.2.2.2.2.2
noncomputable def fV(d:Drn):List (Str×Int):=(there d.cols).map λa=>(dq d.name (sg a d.sh),a)
noncomputable def dcs(ds:List (Addr×Drn)):ZH:=ds.map λp=>(p.1,p.2.name,p.2.rows)
inductive qH (K:ZA) (vs:ZM) (H:Hp) (Q:VK) (E0:XK):Prop
 | mk (a:Addr) (xs:ZL) (z0:vs=[.ref a]) (z1:SqL K H a (xs.map V.int)) (z2:(∀H',af H H'->SqL K H' a (xs.map V.int))) (z3:xs.length=86) (z4:(∀x∈xs,0<=x/\x<9973)) (z5:∀(t l1 l2 l3:Addr) H' (ds:List (Addr×Drn)) (qs:ZN),af H H'->H t=none->H l1=none->H l2=none->H l3=none->l1≠l2->l1≠l3->l2≠l3->H' t=some (.tup [.ref l1,.ref l2,.ref l3])->H' l1=some (.lst (cI (dcs ds)))->H' l2=some (.lst (qs.map λq=>V.ref q.1))->H' l3=some (.lst ((ds.flatMap λp=>(fV p.2).map (·.1)).map V.str))->1<=ds.length->ds.length<=4->(∀p∈ds,lT p.2)->(ds.map λp=>p.2.name).Nodup->bZ H' (dcs ds)->cC H' (ds.flatMap λp=>(fV p.2).map (·.1)) qs->qs.length<=30->1<=(ds.flatMap λp=>(fV p.2).map (·.1)).length/\(ds.flatMap λp=>(fV p.2).map (·.1)).length<=32->Q (.ref t) H'):qH K vs H Q E0
theorem iT(h:H M=some (.lst xs)):∀b z,H b=some (.tup z)->upd H M (.lst ys) b=some (.tup z):=λb z e=>by
 rw[ak (λa=>by grind)];exact e
theorem dI.keep(h:dI H ys)(t:∀b z,H b=some (.tup z)->c b=some (.tup z)):dI c ys:=λp a=>%[t _ _ (h p a).1|(h p a).2]
theorem bZ.keep(h:bZ H c)(t:∀b z,H b=some (.tup z)->d b=some (.tup z)):bZ d c:=λp a=>%[t _ _ (h p a).1|(h p a).2]
theorem cC.keep(h:cC H ls qs)(t:∀b z,H b=some (.tup z)->c b=some (.tup z)):cC c ls qs:=λp a=>%[t _ _ (h p a).1|(h p a).2]
theorem bZ.snoc(h:bZ H a)(b:H q.1=some (.tup [.str q.2.1,.str (Str.join nl q.2.2)])/\ef q.2.1=true/\cf q.2.2):bZ H (a++[q]):=λp c=>by
 rcases Xq c with z|z
 .exact h p z
 .rw[Xr z];exact b
theorem dI.snoc(h:dI H ys)(a:H q.1=some (.tup [.str q.2.1,.int q.2.2])/\0<=q.2.2/\q.2.2<=7):dI H (ys++[q]):=λp b=>by
 rcases Xq b with z|z
 .exact h p z
 .rw[Xr z];exact a
theorem y3(n:Str)(c:Nat):n++Str.ofString "."++sgn c=dq n c:=by
 refine fc ?_;show(n.cps++ ([46].toArray) ++ ([c].toArray)).toList=(n.cps.toList++[46,c]).toArray.toList;simp
theorem sA(T:Txt K mg):Cal P w K mg base 3 "_law_ground" ["_law_row_here"] (qH K):=by
 refine T.bg.cal aN (λH vs Q E h=>?_)
 .have%[a,xs,rfl,hs,keep,ch,hb|kk]:=h;refine%[rfl|λf ev A outer s hr=>?_];have get:∀i:Int,0<=i->i<86->∃c,atI (xs.map V.int) i=some (V.int c)/\0<=c/\c<9973:=λi h0 h1=>by
   have%[c,e|hm]:=iF xs h0 ⋯;exact%[c,e|hb c hm]
  have%[c0,g0,l0|u0]:=get 0 (by decide) (by decide);refine%[_,%["JDG1H]bARP0CBD(2ijsYFSRP0CCCDG3UBD(4ijUBDV%AFbCFSFgRP0CCCBL5DG6FbFSFgRP0CCCFxC5DG7zP2'sY5FSFgRP0CCCD~SH]cA~CP0)FbCFxC5)FbCFxC5A6A7BkNL8NL9lDWph3AtAR15A8BBEVT9L:EWphP4AtAF~BF~BR15fH~qA~J:A6BA~J:BBDG;FSFgRP0CCCD~P<jie?1%A~J;BX0?2rH]dARP3FbCFxC0ARP3FbCFxC0AP1AP2BEItA3A~J<Ane?3TP4kNX0?4NX1?4lr0B",aN.nd,(show bT (ah eE) ["_law_row_here","_law_names_here","_law_torn","_law_cuts","_law_layers","_law_k","_law_shift","_law_wild","_law_text","_law_there","_law_at","_law_many","_law_sayings"] _ ["_law_k","_law_layers","_law_torn","_law_row_here"] [(1,4),(2,2),(3,0)]=true from by decide +kernel),(show(["_law_k","_law_layers","_law_torn","_law_row_here"]:ZB).Nodup from by decide +kernel),(show bT (ah eE) ["_law_row_here","_law_names_here","_law_torn","_law_cuts","_law_layers","_law_k","_law_shift","_law_wild","_law_text","_law_there","_law_at","_law_many","_law_sayings"] _ ["_law_layer","_law_at"] []=true from by decide +kernel),(show(["_law_layer","_law_at"]:ZB).Nodup from by decide +kernel)|hr]|?_]
  have%[c1,g1,l1|u1]:=get 1 (by decide) (by decide);show bw _ _ _ [!a,none,none,none,none,none,none,none,none,none,none,none,none] H;refine am λD1 k1 _=>?_
  lk;refine%[_,hs,_,g1,_,rfl,l1,u1|λLN Hn ms sn fn b0 as=>k1 _ _ (am λD2 k2 _=>?_)];have keep:∀g,af Hn g->SqL K g a (xs.map V.int):=λg sm=>keep _ (sn.trans sm)
  lk;refine%[_,keep _ (af.refl Hn),_,g0,c0,rfl,by decide|k2 _ _ (am λew dx _=>?_)]
  generalize decide (c0%3=1)=u
  lk;refine%[Xh _|λv aR=>dx _ _ (am λet cl _=>?_)];have s1:=af.upd (o:= .lst []) aR;lk;refine%[Xh _|λL3 a3=>cl _ _ (am λD3 k3 _=>ay λaU hK=>?_)];have s2:=s1.trans (af.upd (o:= .lst []) a3);have ex:LN≠v:=λe=>by rw[<-e,b0]at aR;cases aR
  have b1:v≠L3:=λe=>by rw[<-e,aa]at a3;cases a3
  lk;refine%[_,keep _ s2,_,g0,c0,rfl,%[by decide|by decide],by decide|?_];refine%[⋯,⋯|hK _ _ (cy (λi M g=>∃o3 o4 o5 o6 o7 o8,M=[!a,!LN,some (.bl u),!v,!L3,o3,o4,o5,o6,o7,o8,none,none]/\af Hn g/\∃(ds:List (Addr×Drn)) (ys:List (Addr×Str×Int)),ds.length=i/\g v=some (.lst (cI (dcs ds)))/\g L3=some (.lst (ys.map λp=>V.ref p.1))/\dI g ys/\(ys.map (·.2))=(ds.flatMap λp=>fV p.2)/\
   bZ g (dcs ds)/\(∀p∈ds,lT p.2)/\ds.map (λp=>p.2.name)=ms.take i)
   %[_,_,_,_,_,_,rfl,s2,[],[],rfl,by rw[ak b1];exact aa,aa,λp hp=>(nomatch hp),rfl,λp hp=>(nomatch hp),λp hp=>(nomatch hp)|rfl] ?_ ?_)]
  .intro i M H3 hi %[o3,o4,o5,o6,o7,o8,rfl,s3,ds,ys,b2,C,G,a4,Y,b3,a5|b4];have hi3:i<4:=by lia
   show bw _ _ _ [!a,!LN,some (.bl u),!v,!L3,some (.int (0+i)),o4,o5,o6,o7,o8,none,none] H3;rw[Int.zero_add];refine am λD4 k4 _=>?_
   have co:i<ms.length:=by rw[as.1];exact hi3
   obtain⟨y,cs,b5⟩:∃y,ms[i]? =some y/\ef y=true:=%[_,Z4 co|as.2.2 _ (Ye co)]
   have bc:atI (ms.map V.str) (i:Int)=some (V.str y):=cm (by rw[Zl,cs];rfl);lk;refine%[_,keep _ s3,_,g0,c0,rfl,%[by decide|by decide],by decide,.inl %[by decide|by decide]|k4 _ _ (am λD5 k5 _=>?_)];have b6:0<=c0/12%26+3*(i:Int):=by lia
   generalize c0/12%26+3*(i:Int)=r at b6
   have O:=s3;have a0:∀m:Bool,D5.nx [!a,!LN,some (.bl u),!v,!L3,some (.int i),some (.int r),some (.bl m),o6,o7,o8,none,none] H3:=by
    intro m;refine k5 _ _ (am λD6 k6 _=>?_);lk;refine%[.inl %[by decide|by decide],.inl %[by decide|by decide]|.inl %[_,keep _ O|λp2 ct=>?_]];rw[ux xs ⋯ ⋯ ⋯];have cv:((xs.drop (2+6*(i:Int)).toNat).take ((8+6*(i:Int)).toNat-(2+6*(i:Int)).toNat)).length=6:=by
     rw[Yn,Yj,ch];exact(by decide:∀i:Nat,i<4->min ((8+6*(i:Int)).toNat-(2+6*(i:Int)).toNat) (86-(2+6*(i:Int)).toNat)=6) i ⋯
    have cM:∀x∈(xs.drop (2+6*(i:Int)).toNat).take ((8+6*(i:Int)).toNat-(2+6*(i:Int)).toNat),0<=x/\x<9973:=λx hx=>hb x (Yy (Yz hx))
    generalize (xs.drop (2+6*(i:Int)).toNat).take ((8+6*(i:Int)).toNat-(2+6*(i:Int)).toNat)=ws at cv cM
    refine%[p2,ws,r,m,rfl,SqL.of aa,λg sm=>SqL.of (sm _ _ aa),cv,cM,b6|λT5 th H5 d l U f5 dy n5 dA dB dK dT dV dX b7=>%[T5,rfl,_,SqT.of dA,rfl,_,_,rfl,_,_,rfl,rfl|k6 _ _ (am λD7 k7 _=>?_)]];have a6:af H3 H5:=(af.upd ct).trans U;have bf:lT %[y,d,l,r|m]:=%[b5,dK,dT,dV,dX|b7]
    have ac:H3 th=none:=(af.upd ct).free dy;have dY:th≠v:=λe=>by rw[e,C]at ac;cases ac
    have d0:th≠L3:=λe=>by rw[e,G]at ac;cases ac
    lk;refine%[.inl %[_|SqL.of (a6 _ _ C)],_,SqL.of (a6 _ _ (s3 _ _ b0)),_,bc,#[2]|λL d1=>?_];have s6:=af.upd (o:= .tup [V.str y,V.str (nl.join (drawn d l r))]) d1;have g6:upd H5 L (.tup [V.str y,V.str (nl.join (drawn d l r))]) L=_:=aa;have aq:=s6 _ _ (a6 _ _ C)
    generalize upd H5 L (.tup [V.str y,V.str (nl.join (drawn d l r))])=H6 at s6 g6 aq
    have a7:=a6.trans s6;refine%[_,aq,by rw[show(cI (dcs ds)).length=ds.length by unfold cI dcs;rw[Z6,Z6],b2];exact aH ⋯|k7 _ _ (aB λD8 k8 _=>ay λaU hK=>?_)];have tk:=iT (ys:=cI (dcs ds) ++[V.ref L]) aq;have c2:af Hn (upd H6 v (.lst (cI (dcs ds) ++[V.ref L]))):=af.set (s3.trans a7) aR;have c3:upd H6 v (.lst (cI (dcs ds) ++[V.ref L])) v=some (.lst (cI (dcs (ds++[(L,%[y,d,l,r|m])])))):=by
     rw[aa];unfold cI dcs;rw[Zd,Zd];rfl
    have c4:upd H6 v (.lst (cI (dcs ds) ++[V.ref L])) L3=some (.lst (ys.map λp=>V.ref p.1)):=by rw[ak (Ne.symm b1)];exact a7 _ _ G
    have b9:upd H6 v (.lst (cI (dcs ds) ++[V.ref L])) th=some (.lst ((there d).map V.int)):=by rw[ak dY];exact s6 _ _ dB
    have c5:bZ (upd H6 v (.lst (cI (dcs ds) ++[V.ref L]))) (dcs (ds++[(L,%[y,d,l,r|m])])):=by
     rw[show dcs (ds++[(L,%[y,d,l,r|m])])=dcs ds++[(L,y,drawn d l r)] by unfold dcs;rw[Zd];rfl];exact((b3.up a7).snoc %[g6,b5|bf.cut]).keep tk
    have c7:dI (upd H6 v (.lst (cI (dcs ds) ++[V.ref L]))) ys:=(a4.up a7).keep tk
    generalize upd H6 v (.lst (cI (dcs ds) ++[V.ref L]))=H7 at c2 c3 c4 b9 c5 c7
    have ag:ys.length<=8*i:=by
     have e:=congrArg List.length Y;rw[Z6,List.length_flatMap]at e;have:=rD (f:=λp:Addr×Drn=>(fV p.2).length) (B:=8) (xs:=ds) λp _=>by
      unfold fV;rw[Z6];exact kP _
     lia
    lk;refine .inl %[%[_|SqL.of b9]|hK _ _ (bx (xs:=(there d).map V.int) (λj M g=>∃o8,M=[!a,!LN,some (.bl u),!v,!L3,some (.int i),some (.int r),some (.bl m),some (.str (nl.join (drawn d l r))),!th,o8,none,none]/\af Hn g/\g v=some (.lst (cI (dcs (ds++[(L,%[y,d,l,r|m])]))))/\g th=some (.lst ((there d).map V.int))/\bZ g (dcs (ds++[(L,%[y,d,l,r|m])]))/\
     ∃zs:List (Addr×Str×Int),g L3=some (.lst ((ys++zs).map λp=>V.ref p.1))/\dI g (ys++zs)/\zs.map (·.2)=((there d).take j).map λa=>(dq y (sg a r),a))
     %[_,rfl,c2,c3,b9,c5,[],by rw[Zz];exact c4,by rw[Zz];exact c7|rfl] (λj M g _ ⟨_,_,_,_,q,_⟩=>SqL.of q) ?_ ?_)]
    .intro j x M H8 hx %[o8,rfl,s8,a1,bl,ca,zs,ai,cb|a2];have hj:j<(there d).length:=by have:=(Xp hx).1;rwa[Z6]at this
     rw[Zl,Z4 hj]at hx;obtain rfl:x=V.int (there d)[j]:=(Za hx).symm;have da:=eK.mp (Ye hj);show jx _ _ [!a,!LN,some (.bl u),!v,!L3,some (.int i),some (.int r),some (.bl m),some (.str (nl.join (drawn d l r))),!th,some (.int (there d)[j]),none,none] H8;refine aB λD9 k9 _=>?_
     lk;have eu:=kg b5;have ea:∀a b:Str,(a++b).length=a.length+b.length:=λa b=>size_append
     have e1:(Str.ofString ".").length=1:=rfl;have zl:zs.length<=j:=by
      have:=congrArg List.length a2;rw[Z6,Z6,Yn]at this
      lia
     have tl:=kP d;refine%[.inl %[_|SqL.of ai],_,SqL.of (s8 _ _ b0),_,bc,_,rfl,bE ⋯,_,_,rfl,b6,_,rfl,bE (by rw[ea,show(sgn (sg (there d)[j] r)).length=1 from rfl];lia),#[2]|λp hp=>?_];rw[y3];have s9:=af.upd (o:= .tup [V.str (dq y (sg (there d)[j] r)),V.int (there d)[j]]) hp;have g9:upd H8 p (.tup [V.str (dq y (sg (there d)[j] r)),V.int (there d)[j]]) p=_:=aa
     generalize upd H8 p (.tup [V.str (dq y (sg (there d)[j] r)),V.int (there d)[j]])=H9 at s9 g9
     have dd:=s9 _ _ ai;have de:=iT (ys:=(ys++zs).map (λp=>V.ref p.1) ++[V.ref p]) dd;refine%[_,dd,by rw[Z6,Z9];exact aH ⋯|k9 _ _ %[_,rfl,af.set (s8.trans s9) (s1.free a3),by rw[ak b1];exact s9 _ _ a1,by rw[ak d0];exact s9 _ _ bl,(ca.up s9).keep de,zs++[(p,dq y (sg (there d)[j] r),(there d)[j])],?_,?_|?_]]
     .rw[aa,<-Ze,Zd (l₂:=[(p,dq y (sg (there d)[j] r),(there d)[j])])];rfl
     .rw[<-Ze];exact((cb.up s9).snoc %[g9,da.1|da.2.1]).keep de
     .rw[Zd,a2,Xd,Z4 hj,Zd];rfl
    .intro M H8 %[o8,rfl,s8,a1,bl,ca,zs,ai,cb|a2];rw[Z6,Zn (Zi _)]at a2;refine k8 _ _ %[_,_,_,_,_,_,rfl,s8,ds++[(L,%[y,d,l,r|m])],ys++zs,by rw[Z9,b2];rfl,a1,ai,cb,?_,ca,λp hp=>?_|?_]
     .rw[Zd,Y,a2,flatMap_append]
      congr 1
      rw[List.flatMap_singleton];rfl
     .rcases Xq hp with z|z
      .exact a5 p z
      .rw[Xr z];exact bf
     .rw[Zd,b4,Xd,cs];rfl
   lk;exact bH (λ_=>%[_,keep _ O,_,g0,c0,rfl,%[by decide|by decide],by decide|a0 _]) λ_=>a0 _
  .intro M H3 %[o3,o4,o5,o6,o7,o8,rfl,s3,ds,ys,b2,C,G,a4,Y,b3,a5|b4];refine k3 _ _ (am λD4 k4 _=>?_);lk;refine%[_,keep _ s3,_,g0,c0,rfl,%[by decide|by decide],by decide|k4 _ _ (am λD5 k5 _=>?_)];have m0:0<=c0/12%31:=by lia
   have d2:c0/12%31<=30:=by lia
   generalize c0/12%31=bm at m0 d2
   have d3:1<=ds.length:=by lia
   have d4:ds.length<=4:=by lia
   have ag:ys.length<=32/\1<=ys.length:=by
    have e:=congrArg List.length Y;rw[Z6,List.length_flatMap]at e;have:=rD (f:=λp:Addr×Drn=>(fV p.2).length) (B:=8) (xs:=ds) λp _=>by
     unfold fV;rw[Z6];exact kP _
    refine%[⋯|pos_of_ne_zero λz=>?_];have d7:ys=[]:=length_eq_zero_iff.mp z;rw[d7]at Y;have dk:0<ds.length:=by lia
    have hq:=a5 ds[0] (Ye dk);have eb:=Br hq.2.1 hq.2.2.2.1 hq.2.2.2.2.2;have%[a'|ec]:=List.exists_mem_of_ne_nil _ eb;have:(dq ds[0].2.name (sg a' ds[0].2.sh),a')∈ds.flatMap λp=>fV p.2:=mem_flatMap.mpr %[ds[0],Ye dk|Xt %[a',ec|rfl]]
    rw[<-Y]at this;cases this
   have I:(ys.map λp=>p.2.1)=ds.flatMap λp=>(fV p.2).map (·.1):=by
    have e:=congrArg (List.map (·.1)) Y;rw[Yt,List.map_flatMap]at e;exact e
   refine aJ λaU hK=>?_
   lk;refine%[⋯,⋯|hK _ _ λL2 ab=>?_];have ed:L2≠v:=λe=>by rw[e,C]at ab;cases ab
   have ey:L2≠L3:=λe=>by rw[e,G]at ab;cases ab
   have eg:=af.upd (o:= .lst []) ab;refine bF (J:=Itr 0 bm.toNat) (n:=bm.toNat) (D:=L2) (λi zs M g=>(∃o,M=[o,!L3,some (.bl u),!a])/\af H3 g/\g L2=some (.lst zs)/\∃qs:ZN,zs=(qs.map λq=>V.ref q.1)/\qs.length=i/\cC g (ys.map λp=>p.2.1) qs)
    %[%[none|rfl],eg,aa,[],rfl,rfl|λq hq=>(nomatch hq)] (λi _ _ g hi _=>hi) (λ_ _ g _=>Zi _) ?_ ?_
   .intro i zs M H4 eh %[%[o|rfl],O,al,qs,rfl,dm|bb] x ez %[e2|e3];subst e2 e3;have%[x1,ej,ek|eH]:=get (26+2*(i:Int)) ⋯ ⋯;have%[x2,el,en|e0]:=get (27+2*(i:Int)) ⋯ ⋯;lk;refine%[.inl %[by decide|by decide],_,keep _ (s3.trans O),_,ej,.inl %[by decide|by decide],_,keep _ (s3.trans O),_,el|?_];refine%[x1,x2,L3,u,ys,rfl,O _ _ G,a4.up O,ag.2,⋯,ek,en|λt H5 eo U f5 h5 ep=>?_];have aq:=U _ _ al;have dn:=iT (ys:=qs.map (λq=>V.ref q.1) ++[V.ref t]) aq;refine CK.mk eh aq (by rw[Z6];exact aH ⋯) %[%[_|rfl],af.set (O.trans U) ab,aa,qs++[(t,eo)],by rw[Zd];rfl,by rw[Z9,dm];rfl|λq hq=>?_];rcases Xq hq with z|z
    .exact(((bb.up U).keep dn) q z)
    .rw[Xr z];exact%[dn _ _ h5|ep]
   .intro zs M H4 %[_,O,al,qs,rfl,dm|bb];refine k5 _ _ ?_;lk;refine aJ λaU hK=>?_
    lk;have an:=O _ _ G;refine .inl %[%[_|SqL.of an]|hK _ _ λN hN=>?_];refine bF (J:=Itl K L3) (n:=ys.length) (D:=N) (λj ts M g=>(∃o1 o2,M=[o1,o2])/\af H4 g/\g N=some (.lst ts)/\ts=((ys.take j).map λp=>p.2.1).map V.str)
     %[%[none,none|rfl],af.upd hN,aa|rfl]
     (λj _ _ g hj cd=>%[_,V.ref ys[j].1,SqL.of (cd.2.1 _ _ an)|by simp[hj]]) (λ_ _ g cd=>%[_,SqL.of (cd.2.1 _ _ an)|by simp]) ?_ ?_
    .intro j ts M H5 hj %[%[o1,o2|rfl],U,eq|ht] x H6 %[e2|hx];subst e2;have dp:=hx _ (SqL.of (U _ _ an));rw[Zl,Z4 hj]at dp;obtain rfl:x=V.ref ys[j].1:=(Za dp).symm;have er:=(a4 ys[j] (Ye hj)).1;refine%[_,SqT.of (U _ _ (O _ _ er)),rfl,_,_,rfl,_,_,rfl,rfl|?_];show zZ [some (.str ys[j].2.1),some (.int ys[j].2.2)] _ _;lk;refine CK.mk hj eq (by rw[ht,Z6,Z6,Yn];exact aH ⋯) %[%[_,_|rfl],af.set U hN,aa|?_];rw[ht,Xd,Zd,Zd,Z4 hj];rfl
    intro ts M H5 %[_,U,es|ht];rw[Zn (Zi _),I]at ht;refine%[#[3]|λt dr=>?_];have st:=af.upd (o:= .tup [V.ref v,V.ref L2,V.ref N]) dr;have dt:=s3.trans (O.trans (U.trans st));rw[I]at bb;have bt:=O _ _ C;refine kk t v L2 N _ ds qs (sn.trans dt) (sn.free ((s3.trans (O.trans U)).free dr)) (sn.free aR) (sn.free (s3.free ab)) (sn.free ((s3.trans O).free hN)) (Ne.symm ed) (λe=>by rw[<-e,bt]at hN;cases hN) (λe=>by rw[<-e,al]at hN;cases hN) aa (st _ _ (U _ _ bt)) (st _ _ (U _ _ al)) (by rw[st _ _ es,ht]) d3 d4 a5 ?_ (b3.up (O.trans (U.trans st))) (bb.up (U.trans st)) ⋯ (by rw[<-I,Z6];exact%[ag.2|ag.1]);rw[b4];exact as.2.1.sublist (take_sublist _ _)
noncomputable def NmD(ls:ZB)(f:Str->Str):List (Key×V):=ls.map λz=>(Sum.inr z,V.str (f z))
theorem jr:∀{ls:ZB},z∈ls->cA (NmD ls f) (Sum.inr z)=some (.str (f z))
 |[],h=>(nomatch h)
 | x::ls,h=>by
   by_cases e:x=z
   .subst e;exact dN rfl
   .rw[show NmD _ f=(Sum.inr x,V.str _)::NmD ls f from rfl,cQ (λq=>e (Sum.inr.inj q))];exact jr (by rcases mem_cons.mp h with q|q;exact(e q.symm).elim;exact q)
theorem BE:((NmD ls f).any λa=>decide (a.1=(Sum.inr z:Key)))=true↔z∈ls:=by
 rw[any_eq_true]
 constructor
 .rintro⟨a,b,c⟩;have%[x,d|rfl]:=Xs b
  simp_all
 .intro h;exact%[_,Xt %[z,h|rfl]|Zf rfl]
theorem sB(h:z∈ls):cB (NmD ls f) (Sum.inr z) (.str v)=NmD ls (λx=>if x=z then v else f x):=by
 unfold cB;rw[if_pos (BE.mpr h)];unfold NmD;rw[Yt];refine Yr λx _=>?_
 show(if(Sum.inr x)=Sum.inr z then((Sum.inr x),V.str v)else(Sum.inr x,V.str _))=(Sum.inr x,V.str (if x=z then v else f x))
 by_cases e:x=z
 .rw[if_pos (congrArg _ e),if_pos e]
 .rw[if_neg (λq=>e (Sum.inr.inj q)),if_neg e]
theorem FR(h:z∉ls):cB (NmD ls id) (Sum.inr z) (.str z)=NmD (ls++[z]) id:=by
 unfold cB;rw[if_neg (λq=>h (BE.mp q))];unfold NmD;rw[Zd];rfl
noncomputable def xg(ls:ZB)(z:Str):Nat:=fM (ls.map λu=>[u]) [z]
theorem oC(a:x∈ls)(h:aK x y=true):xg ls x<xg ls y:=by
 have:=jP (ks:=ls.map λu=>[u]) (y:=[y]) (Xt %[x,a|rfl]);rw[nN,h]at this;exact Zo this.symm
def ck(qs:ZN)(a b:Str):Prop:=∃q∈qs,q.2=[.str "same",.str a,.str b]
theorem iU{S R:Str->Str->Prop}(F:bI ls f r S)(h:∀a b,S a b↔R a b):bI ls f r R:=by
 rw[funext λa=>funext λb=>(propext (h a b)).symm];exact F
inductive BG (vs:ZM) (H:Hp) (Q:VK) (E0:XK):Prop
 | mk (d) (z) (ls) (f) (r) (S) (z0:vs=[.ref d,.str z]) (z1:H d=some (.dK (NmD ls f))) (z2:bI ls f r S) (z3:z∈ls) (z4:Q (.str (r z)) H):BG vs H Q E0
inductive xh (vs:ZM) (H:Hp) (Q:VK) (E0:XK):Prop
 | mk (d) (a) (b) (ls) (f) (r) (S) (z0:vs=[.ref d,.str a,.str b]) (z1:H d=some (.dK (NmD ls f))) (z2:bI ls f r S) (z3:a∈ls) (z4:b∈ls) (z5:ls.length<=5000) (z6:∀f' r',bI ls f' r' (λx y=>S x y\/(x=a/\y=b))->Q .non (upd H d (.dK (NmD ls f')))):xh vs H Q E0
theorem eW(T:Txt K mg):Cal P w K mg base 1 "least_pointed_to" ["names","layer"] BG:=by
 refine T.aA.cal ee (λH vs Q E h=>?_)
 .have%[d,z,ls,p,r,S,rfl,o,F,q|i]:=h;refine%[rfl|λf n A outer s g=>?_];refine%[_,%["JD~KKuv011EG1v01EI1",ee.nd|g]|am λu k1 _=>⟨λm j e=>∃y,j=[some _,-y]/\e=H/\y∈ls/\r y=r z/\m=xg ls y,%[_,z,rfl,rfl,q,rfl|rfl],?_⟩]
  intro m j e %[y,rfl,rfl,a,b|rfl];lk;have g1:=by
   have:=dw.k (k:=Sum.inr y) o;rw[jr a]at this;exact this
  refine%[_,g1,rfl|bH (λh=>?_) λh=>?_]
  .have h:=by simpa using h
   refine%[λc l=>c=[some _,some _]/\l=e,?_,_,g1,rfl|rfl];intro c l %[rfl|rfl];exact%[_,oC (F.fin y a) (F.dec y a h),p y,rfl,rfl,F.fin y a,(F.rf y a).trans b|rfl]
  .refine k1 _ _ ?_;rw[<-b,F.fix y a (by simpa using h)]at i;exact i
theorem mo(T:Txt K mg):Cal P w K mg base 2 "join_deposits" ["names","one","other"] xh:=by
 refine T.az.cal dF (λH vs Q E h=>?_)
 .have%[d,a,b,ls,p,r,S,rfl,e,F,g,i,m|n]:=h;refine%[rfl|λf l A outer s c=>?_];refine%[_,%["JDG3H~&A0A1BDG4H~&A0A2BE*~M~'A3A4B0~X]eA3A4B",dF.nd|c]|?_]
  show bw _ _ _ [!d,-a,-b,none,none] H;refine am λq k1 _=>?_
  lk;refine%[d,a,ls,p,r,S,rfl,e,F,g|k1 _ _ (am λu k2 _=>?_)];lk;refine%[d,b,ls,p,r,S,rfl,e,F,i|k2 _ _ (aB λv o _=>?_)];lk;have J:=F.join g i rfl rfl;have j:(if aK (r a) (r b)=true then r b else r a)∈ls:=by
   split
   .exact F.rin b i
   .exact F.rin a g
  generalize (if aK (r a) (r b)=true then r b else r a)=M at J j
  refine%[_,ic.k (k:=Sum.inr M) e (by unfold NmD;rw[Z6,PySem.sizeLine_eq];lia)|o _ _ ?_];rw[sB j];exact n _ _ J
theorem oE{qs:ZN}{q:Addr×ZM}(c:qs[i]? =some q)(a b:Str):ck (qs.take (i+1)) a b↔ck (qs.take i) a b\/q.2=[.str "same",.str a,.str b]:=by
 unfold ck;rw[Xd,c]
 simp_all
theorem gK{ls:ZB}(c:ls.Pairwise (λa b=>aK b a=false)){i:Nat}{z w:Str}(d:ls[i]? =some z)(hw:w∈ls)(h:aK w z=true):w∈ls.take i:=by
 rw[<-Xe i ls]at hw;rcases Xq hw with e|e
 .exact e
 .have%[hi|f]:=Xp d;have%[j,g|rfl]:=Yf e;rw[List.getElem_drop]at h;rw[Yj]at g;by_cases l:j=0
  .subst l;rw[<-f]at h;simp only[add_zero]at h;rw[cF]at h;cases h
  .have:=List.pairwise_iff_getElem.mp c i (i+j) hi ⋯ ⋯
   grind
inductive uH (mg:ZC) (vs:ZM) (H:Hp) (Q:VK) (E0:XK):Prop
 | mk (g) (c2) (c3) (c4) (qs) (ls) (ts) (z0:vs=[.ref g]) (z1:GrF mg H g c2 c3 c4 qs ls ts) (z2:ls.Nodup) (z3:ls.Pairwise (λa b=>aK b a=false)) (z4:ls.length<=5000) (z5:∀d H' r,af H H'->H d=none->H' d=some (.dK (NmD ls r))->(∀z∈ls,r z∈ls/\cG (ck qs) z (r z))->Q (.ref d) H'):uH mg vs H Q E0
theorem jt{H:Hp}{g b c d:Addr}{qs:List _}{ls:ZB}{ts:List _}{m:Str}{R:Prop}(h:GrF mg H g b c d qs ls ts)(e:m="layers"\/m="sayings"\/m="ties")(k:R):∃a fs,H g=some (.ins (be mg "Ground") a fs)/\List.lookup m fs=none/\R:=by
 have%[a,i|f]:=h.at_;exact⟨a,_,f,by rcases e with rfl|rfl|rfl<;> rfl,k⟩
theorem fW(T:Txt K mg):Cal P w K mg base 3 "names_by_layer" ["ground"] (uH mg):=by
 refine T.ay.cal bh (λH vs Q E h=>?_)
 .have%[g,c2,c3,c4,qs,ls,ts,rfl,hg,nd,so,aq|kk]:=h;refine%[rfl|λf as A outer s J=>?_];have lm:(ls.map V.str).length=ls.length:=Z6 _;have qm:(qs.map λq=>V.ref q.1).length=qs.length:=Z6 _;refine%[_,%["JDG1}DVT<~f0L2E*212DVT<]f0kNL3NL4NL5lEMKY3fEWH]gA1A4A5BODVT<~f0L2E*v1v1212EI1",bh.nd|J]|?_]
  show bw _ _ _ [!g,none,none,none,none,none] H;refine am λD1 k1 _=>?_
  lk;intro d hd;refine k1 _ _ (am λD2 k2 _=>ay λL hK=>?_);have s1:=af.upd (o:= .dK []) hd;have Y:upd H d (.dK []) d=some (.dK (NmD (ls.take 0) id)):=aa
  generalize upd H d (.dK [])=H1 at s1 Y
  lk;have ab:=hg.up s1;refine jt ab (.inl rfl) %[g,c2,c3,c4,qs,ls,ts,rfl,ab|λl1 N=> .inl %[l1,rfl,%[_|SqL.of aa]|hK _ _ ?_]];have s2:=af.upd (o:= .lst (ls.map V.str)) N;have ac:upd H1 l1 (.lst (ls.map V.str)) l1=_:=aa;have n1:l1≠d:=λe=>by rw[e,Y]at N;cases N
  have Y:=s2 _ _ Y
  generalize upd H1 l1 (.lst (ls.map V.str))=H2 at s2 ac Y
  refine bx (xs:=ls.map V.str) (λi m j=>(∃n p u v,m=[!g,!d,n,p,u,v])/\af H j/\j l1=some (.lst (ls.map V.str))/\j d=some (.dK (NmD (ls.take i) id)))
   %[%[_,_,_,_|rfl],s1.trans s2,ac|Y] (λi m j _ h=>SqL.of h.2.2.1) ?_ ?_
  .intro i x m j M %[%[n,p,u,v|rfl],l,I|c];rw[Zl]at M;have%[z,B|rfl]:=map_eq_some_iff.mp M;show pS _ _ _ _ [!g,!d,-z,p,u,v] j;refine aB λD3 k3 _=>?_
   lk;have zn:z∉ls.take i:=λhm=>by
    have h:=nd;rw[<-Xe i ls,X4]at h;exact h.2.2 z hm z (Z8 (i:=0) ((Yc)▸B)) rfl
   refine%[_,ic.k (k:=Sum.inr z) c (by unfold NmD;rw[Z6,Yn,PySem.sizeLine_eq];lia)|k3 _ _ %[%[_,_,_,_|rfl],af.set l hd,(ak n1).trans I|?_]];rw[aa,FR zn,Xd,B];rfl
  intro m H3 %[%[n,p,u,v|rfl],l,I|c];rw[lm,Zn (Zi _)]at c;refine k2 _ _ (am λD4 k4 _=>ay λL hK=>?_);lk;have ag:=hg.up l;refine jt ag (.inr (.inl rfl)) %[g,c2,c3,c4,qs,ls,ts,rfl,ag|λl2 O=> .inl %[l2,rfl,%[_|SqL.of aa]|hK _ _ ?_]];have s4:=af.upd (o:= .lst (qs.map λq=>V.ref q.1)) O;have ai:upd H3 l2 (.lst (qs.map λq=>V.ref q.1)) l2=_:=aa;have n2:l2≠d:=λe=>by rw[e,c]at O;cases O
  have c:=s4 _ _ c;have al:=l.trans s4
  generalize upd H3 l2 (.lst (qs.map λq=>V.ref q.1))=H4 at s4 ai c al
  refine bx (xs:=qs.map λq=>V.ref q.1) (λi m j=>(∃n p u v,m=[!g,!d,n,p,u,v])/\af H j/\j l2=some (.lst (qs.map λq=>V.ref q.1))/\∃f r,j d=some (.dK (NmD ls f))/\bI ls f r (ck (qs.take i)))
   %[%[_,_,_,_|rfl],al,ai,id,id,c|iU (bI.start ls) λa b=>%[λh=>h.elim|λ⟨q,hq,_⟩=>(nomatch hq)]] (λi m j _ h=>SqL.of h.2.2.1) ?_ ?_
  .intro i x m j M %[%[n,p,u,v|rfl],l,I,f,r,c|F];rw[Zl]at M;have%[q,hq|rfl]:=map_eq_some_iff.mp M;have%[q1|q2]:=hg.sa q (Z8 hq);have st:=l _ _ q1;have C:=oE hq;rcases q2 with⟨wd,a,b,e,hw,ha,hb,_⟩|⟨wd,a,y,e,hw,_⟩
   .rw[e]at st C;refine%[_,SqT.of st,rfl,_,_,rfl,_,_,rfl,_,_,rfl,rfl|?_];show ko _ _ _ _ [!g,!d,n,-wd,-a,-b] j;refine aB λD5 k5 _=>?_
    lk;refine bH (λh=>?_) λh=>?_
    .have h:wd=Str.ofString "same":=by simpa using h
     refine%[d,a,b,ls,f,r,_,rfl,c,F,ha,hb,aq|λf' r' F'=>k5 _ _ %[%[_,_,_,_|rfl],af.set l hd,(ak n2).trans I,f',r',aa|iU F' λx y=>?_]];rw[C,h];refine or_congr Iff.rfl %[λ⟨e1,e2⟩=>by rw[e1,e2]|λe=>?_];simp only[List.cons.injEq,V.str.injEq,and_true,true_and]at e;exact%[e.1.symm|e.2.symm]
    .have h:wd≠Str.ofString "same":=by simpa using h
     refine k5 _ _ %[%[_,_,_,_|rfl],l,I,f,r,c|iU F λx y=>?_];rw[C];refine%[.inl|λe=>e.resolve_right λe=>h ?_];simp only[List.cons.injEq,V.str.injEq]at e;exact e.1
   .rw[e]at st C;refine%[_,SqT.of st,rfl,_,_,rfl,_,_,rfl,_,_,rfl,rfl|?_];show ko _ _ _ _ [!g,!d,n,-wd,-a,some (.int y)] j;refine aB λD5 k5 _=>?_
    lk;rw[if_neg (by rcases hw with rfl|rfl<;> decide)];refine k5 _ _ %[%[_,_,_,_|rfl],l,I,f,r,c|iU F λx z=>?_];rw[C];refine%[.inl|λe=>e.resolve_right λe=>?_];simp at e
  intro m H5 %[%[n,p,u,v|rfl],l,I,f,r,c|F];rw[qm,Zn (Zi _)]at F;refine k4 _ _ (am λD6 k6 _=>ay λL hK=>?_);lk;have an:=hg.up l;refine jt an (.inl rfl) %[g,c2,c3,c4,qs,ls,ts,rfl,an|λl3 U=> .inl %[l3,rfl,%[_|SqL.of aa]|hK _ _ ?_]];have s6:=af.upd (o:= .lst (ls.map V.str)) U;have n3:l3≠d:=λe=>by rw[e,c]at U;cases U
  have c:=s6 _ _ c;refine bx (xs:=ls.map V.str) (λi m j=>(∃n p u v,m=[!g,!d,n,p,u,v])/\af H j/\j l3=some (.lst (ls.map V.str))/\∃f,j d=some (.dK (NmD ls f))/\bI ls f r (ck qs)/\∀z∈ls.take i,f z=r z)
   %[%[_,_,_,_|rfl],(l.trans s6),aa,f,c,F|λz B=>(nomatch B)] (λi m j _ h=>SqL.of h.2.2.1) ?_ ?_
  .intro i x m j M %[%[n,p,u,v|rfl],l,I,f,c,F|G];rw[Zl]at M;have%[z,B|rfl]:=map_eq_some_iff.mp M;have zm:=Z8 B;show pS _ _ _ _ [!g,!d,-z,p,u,v] j;refine aB λD7 k7 _=>?_
   lk;have get:=λy hy=>by
    have:=dw.k (k:=Sum.inr y) c;rw[jr hy]at this;exact this
   refine%[_,get z zm,_,get _ (F.fin z zm),_,ic.k (k:=Sum.inr z) c (by unfold NmD;rw[Z6,PySem.sizeLine_eq];lia)|k7 _ _ %[%[_,_,_,_|rfl],af.set l hd,(ak n3).trans I,_,?_,F.short zm|λy hy=>?_]]
   .rw[aa,sB zm]
   .rw[Xd,B]at hy;by_cases e:y=z
    .rw[if_pos e,e];exact F.done zm λw hw h=>G w (gK so B hw h)
    .rw[if_neg e];rcases Xq hy with h|h
     .exact G y h
     .exact(e (Xr h)).elim
  intro m H7 %[%[n,p,u,v|rfl],l,I,f,c,F|G];rw[lm,Zn (Zi _)]at G;refine k6 _ _ ?_;lk;refine kk d H7 r l hd ?_ λz B=>%[F.rin z B|F.least B]
  rw[c];unfold NmD;rw[Yr λz B=>by rw[G z B]]
theorem G3{X:Cx}{K:ZA}{T id:String}(h:X.K=K)(m:PlainAttrs T)(slot:Slot T name id)(i:typeOf (.builtin id)=pure (.type "method_descriptor"))(n:MtQ X id r)
 (b:attributeBase o name X.env (eval o X.env)=eval o X.env) (a:(e::g).any ba=false) (j:Nat.blt (e::g).length 30=true) (c:(d.endLine==f.line)=true) (p:QE X o q) (s:QA X (e::g) t):
 QE X (.Call (.Attribute o name d) (e::g) [] f) (tBM K T r q t):=by
 have l:=a;rw[Zy,Xa]at l;refine⟨Ai h m slot i n.h p.h s.h b ?_ c (az l.1) (eB l.2)⟩;rw[rh a];have:decide ((e::g).length+([]:List Keyword).length+(if([]:List Keyword).isEmpty then 0 else 1)<30)=true:=Zf ((Nat.blt_eq.mp j));rw[this];rfl
noncomputable def grp(r:Str->Str)(xs:ZB):List (Str×ZB):=(xs.filter λz=>decide (r z=z)).map λz=>(z,xs.filter λx=>decide (r x=z))
theorem y4(h:∀z∈xs,r z=b z):grp r xs=grp b xs:=by
 unfold grp;rw[List.filter_congr λz a=>by rw[h z a]];refine Yr λz a=>?_
 rw[List.filter_congr λx c=>by rw[h x c]]
theorem Dj(a:r z=z)(b:z∉xs)(c:∀x∈xs,r x∈xs):grp r (xs++[z])=grp r xs++[(z,[z])]:=by
 unfold grp;rw[Y4,Zd];refine congr (congrArg _ (Yr λw hw=>?_)) ?_
 .have:w≠z:=λe=>b (e▸(List.mem_filter.mp hw).1)
  rw[Y4,Y6 (by rw[a];simpa using this.symm),Y8,Zz]
 .rw[Y7 (by rw[a];simp),Y8];show [(z,_)]=_;rw[Y4,Y7 (by rw[a];simp),Y8,List.filter_eq_nil_iff.mpr λx d=>?_]
  .rfl
  .intro e;exact b ((Zo e)▸c x d)
theorem Dk(a:r z≠z):grp r (xs++[z])=(grp r xs).map λp=>if p.1=r z then(p.1,p.2++[z])else p:=by
 unfold grp;rw[Y4,Y6 (by simpa using a),Y8,Zz,Yt];refine Yr λw hw=>?_
 show(w,_)=if w=r z then(w,_)else(w,_)
 rw[Y4];by_cases e:w=r z
 .rw[if_pos e,Y7 (by simpa using e.symm),Y8]
 .rw[if_neg e,Y6 (by simpa using λq=>e q.symm),Y8,Zz]
theorem iV:y∈(grp r xs).map (·.1)↔y∈xs/\r y=y:=by
 unfold grp
 simp_all
theorem lh(h:xs.Nodup):((grp r xs).map (·.1)).Nodup:=by
 unfold grp;rw[Yt,show((λx=>x.1) ∘ λz=>(z,List.filter _ xs))=id from rfl,map_id];exact h.filter _
def xi(S:Str->Str->Prop)(ls:ZB)(ds:List ZB):Prop:=∃r:Str->Str,(∀z∈ls,r z∈ls/\cG S z (r z))/\ds=(grp r ls).map (·.2)
theorem xi.one{S:Str->Str->Prop}(h:xi S ls ds)(g:xi S ls b):ds=b:=by
 have%[r,c|rfl]:=h;have%[d,g1|rfl]:=g;rw[y4 λz a=>(c z a).2.one (g1 z a).2]
noncomputable abbrev Gs(a:Type):=List (Str×Addr×List a)
noncomputable def gD{a:Type}(b:Gs a):List (Key×V):=b.map λg=>(Sum.inr g.1,V.ref g.2.1)
theorem xj:∀{a:Gs b},y∉a.map (·.1)->cA (gD a) (Sum.inr y)=none
 |[],_=>rfl
 | g::a,h=>by
   rw[Ys,Yx,not_or]at h;rw[show gD _=(Sum.inr g.1,V.ref _)::gD a from rfl,cQ (λq=>h.1 (Sum.inr.inj q).symm)];exact xj h.2
theorem gM:∀{a:Gs d},cA (gD a) (Sum.inr y)=some v->∃g∈a,g.1=y/\v= .ref g.2.1
 |[],h=>(nomatch h)
 | g::a,h=>by
   rw[show gD _=(Sum.inr g.1,V.ref _)::gD a from rfl]at h;by_cases e:g.1=y
   .rw[dN (congrArg Sum.inr e)]at h;exact%[g,Zm,e|(Za h).symm]
   .rw[cQ (λq=>e (Sum.inr.inj q))]at h;have%[g',b|c]:=gM h;exact%[g',Zk _ b|c]
theorem li:∀{a:Gs b},g∈a->cA (gD a) (Sum.inr g.1)≠none
 | x::a,h,c=>by
   rw[show gD _=(Sum.inr x.1,V.ref _)::gD a from rfl]at c;by_cases e:x.1=g.1
   .rw[dN (congrArg Sum.inr e)]at c;cases c
   .rw[cQ (λq=>e (Sum.inr.inj q))]at c;rcases mem_cons.mp h with q|q
    .exact e (by rw[q])
    .exact li q c
def mI(H:Hp)(a:ZG):Prop:=∀g∈a,H g.1=some (.lst (g.2.map V.str))
theorem mI.up{H a:Hp}{b:List _}(h:mI H b)(s:af H a):mI a b:=λg c=>s _ _ (h g c)
structure iG {α:Type} (f:α->V) (H0 H:Hp) (d:Addr) (gs:Gs α):Prop where
 at_:H d=some (.dK (gD gs))
 la:∀g∈gs,H0 g.2.1=none/\H g.2.1=some (.lst (g.2.2.map f))
 nd:(gs.map (·.2.1)).Nodup
theorem Dl{f:Type}{c:Gs f}(d:(c.map (·.1)).Nodup){g h:Str×Addr×List f}(i:g∈c)(j:h∈c)(e:g.1=h.1):g=h:=by
 induction c with
 | nil=>cases i
 | cons x xs l=>
   rw[Ys,nodup_cons]at d;rcases mem_cons.mp i with a|a<;> rcases mem_cons.mp j with b|b
   .rw[a,b]
   .exact(d.1 (by rw[<-a,e];exact Xt %[_,b|rfl])).elim
   .exact(d.1 (by rw[<-b,<-e];exact Xt %[_,a|rfl])).elim
   .exact l d.2 a b
theorem BH{f:Type}{c:Gs f}(d:(c.map (·.2.1)).Nodup){g h:Str×Addr×List f}(i:g∈c)(j:h∈c)(e:g.2.1=h.2.1):g=h:=by
 induction c with
 | nil=>cases i
 | cons x xs l=>
   rw[Ys,nodup_cons]at d;rcases mem_cons.mp i with a|a<;> rcases mem_cons.mp j with b|b
   .rw[a,b]
   .exact(d.1 (by rw[<-a,e];exact Xt %[_,b|rfl])).elim
   .exact(d.1 (by rw[<-b,<-e];exact Xt %[_,a|rfl])).elim
   .exact l d.2 a b
noncomputable def pH{a:Type}(y:Str)(z:a)(b:Gs a):Gs a:=b.map λg=>if g.1=y then(g.1,g.2.1,g.2.2++[z])else g
theorem FS(y:Str)(z:b)(a:Gs b):gD (pH y z a)=gD a:=by
 unfold pH gD;rw[Yt];refine Yr λg _=>?_
 show(Sum.inr (if g.1=y then(g.1,g.2.1,g.2.2++[z])else g).1,V.ref (if g.1=y then(g.1,g.2.1,g.2.2++[z])else g).2.1)=_
 split<;> rfl
theorem FT(y:Str)(z:b)(a:Gs b):(pH y z a).map (·.2.1)=a.map (·.2.1):=by
 unfold pH;rw[Yt];refine Yr λg _=>?_
 show(if g.1=y then(g.1,g.2.1,g.2.2++[z])else g).2.1=_
 split<;> rfl
theorem FU(y:Str)(z:b)(a:Gs b):(pH y z a).map (λg=>(g.1,g.2.2))=(a.map λg=>(g.1,g.2.2)).map λp=>if p.1=y then(p.1,p.2++[z])else p:=by
 unfold pH;rw[Yt,Yt];refine Yr λg _=>?_
 show((if g.1=y then(g.1,g.2.1,g.2.2++[z])else g).1,(if g.1=y then(g.1,g.2.1,g.2.2++[z])else g).2.2)=if g.1=y then(g.1,g.2.2++[z])else(g.1,g.2.2)
 split<;> rfl
theorem iG.up{a:Type}{f:a->V}{b H c:Hp}{d:Addr}{e:Gs a}(h:iG f b H d e)(s:af H c):iG f b c d e:=%[s _ _ h.at_,λg i=>%[(h.la g i).1|s _ _ (h.la g i).2]|h.nd]
theorem iG.add{a:Type}{f:a->V}{l H:Hp}{d:Addr}{b:Gs a}(h:iG f l H d b)(m:(b.map (·.1)).Nodup){g:Str×Addr×List a}(c:g∈b)(z:a):iG f l (upd H g.2.1 (.lst (g.2.2.map f++[f z]))) d (pH g.1 z b):=by
 refine%[?_,λg' j=>?_|by rw[FT];exact h.nd]
 .rw[FS,ak (λe=>by have:=(h.la g c).2;rw[<-e,h.at_]at this;cases this)];exact h.at_
 .have%[n,i|rfl]:=Xs j;by_cases e:n.1=g.1
  .rw[if_pos e];obtain rfl:=Dl m i c e;refine%[(h.la _ c).1|?_];rw[aa,Zd];rfl
  .rw[if_neg e];refine%[(h.la _ i).1|?_];rw[ak (λq=>e (by rw[BH h.nd i c q]))];exact(h.la _ i).2
theorem iG.new{l:Gs n}(h:iG f m H d l)(s:af m H)(j:H e=none)(y:Str)(z:n)(o:y∉l.map (·.1)):iG f m (upd (upd (upd H e (.lst [])) d (.dK (cB (gD l) (Sum.inr y) (.ref e)))) e (.lst [f z])) d (l++[(y,e,[z])]):=by
 refine%[?_,λg i=>?_|?_]
 .rw[ak (λq=>by rw[<-q,h.at_]at j;cases j),aa,mR _ (xj o)];unfold gD;rw[Zd];rfl
 .rcases Xq i with i|i
  .refine%[(h.la g i).1|?_];have q:=(h.la g i).2;rw[ak (λc=>by rw[c,j]at q;cases q),ak (λc=>by rw[c,h.at_]at q;cases q),ak (λc=>by rw[c,j]at q;cases q)];exact q
  .rw[Xr i];exact%[s.free j|aa]
 .rw[Zd,X4];refine%[h.nd,by simp|λa p b r c=>?_];have%[g,i|rfl]:=Xs p;have q:=(h.la g i).2
  simp_all
inductive xk (mg:ZC) (vs:ZM) (H:Hp) (Q:VK) (E0:XK):Prop
 | mk (g) (c2) (c3) (c4) (qs) (ls) (ts) (z0:vs=[.ref g]) (z1:GrF mg H g c2 c3 c4 qs ls ts) (z2:ls.Nodup) (z3:ls.Pairwise (λa b=>aK b a=false)) (z4:ls.length<=5000) (z5:∀l H' ss,af H H'->H l=none->H' l=some (.lst (ss.map λt=>V.ref t.1))->mI H' ss->(∀s∈ss,H s.1=none)->xi (ck qs) ls (ss.map (·.2))->ss.length<=5000->Q (.ref l) H'):xk mg vs H Q E0
inductive FV (mg:ZC) (vs:ZM) (H:Hp) (Q:VK) (E0:XK):Prop
 | mk (g) (c2) (c3) (c4) (qs) (ls) (ts) (z) (z0:vs=[.ref g,.str z]) (z1:GrF mg H g c2 c3 c4 qs ls ts) (z2:ls.Nodup) (z3:ls.Pairwise (λa b=>aK b a=false)) (z4:ls.length<=5000) (z5:z∈ls) (z6:∀H' m,af H H'->cG (ck qs) z m->Q (.str m) H'):FV mg vs H Q E0
theorem wp(T:Txt K mg):Cal P w K mg base 4 "deposits" ["ground"] (xk mg):=by
 refine T.aB.cal fi (λH vs Q E h=>?_)
 .have%[g,c2,c3,c4,qs,ls,ts,rfl,hg,nd,so,an|kk]:=h;refine%[rfl|λf a4 A outer s C=>?_];have lm:(ls.map V.str).length=ls.length:=Z6 _;refine%[_,%["JDG1H~(A0BDG2}DVT<~f0L3EW~)h~*~+2Av13AUBBA3BEI[]hA]i]j2B",fi.nd|C]|?_]
  show bw _ _ _ [!g,none,none,none] H;refine am λD1 k1 _=>?_
  lk;refine%[g,c2,c3,c4,qs,ls,ts,rfl,hg,nd,so,an|λd H1 r s1 fd I C=>k1 _ _ (am λD2 k2 _=>?_)];lk;intro e fe;refine k2 _ _ (am λD3 k3 _=>ay λa3 hK=>?_);have aq:d≠e:=λc=>by rw[c,fe]at I;cases I
  have s2:=af.upd (o:= .dK []) fe;have ge:upd H1 e (.dK []) e=some (.dK (gD ([]:Gs Str))):=aa;have I:=s2 _ _ I;have fe:=s1.free fe;have U:=s1.trans s2
  generalize upd H1 e (.dK [])=H2 at s2 ge I U
  lk;have ab:=hg.up U;refine jt ab (.inl rfl) %[g,c2,c3,c4,qs,ls,ts,rfl,ab|λl1 as=> .inl %[l1,rfl,%[_|SqL.of aa]|hK _ _ ?_]];have s3:=af.upd (o:= .lst (ls.map V.str)) as;have J:upd H2 l1 (.lst (ls.map V.str)) l1=_:=aa;have I:=s3 _ _ I;have ge:=s3 _ _ ge;have ac:=U.trans s3
  generalize upd H2 l1 (.lst (ls.map V.str))=H3 at s3 J I ge ac
  have r2:∀z∈ls,r (r z)=r z:=λz L=>by
   have h:=(C z L)
   have h2:=(C _ h.1).2;exact h2.one %[.refl _|λy c=>h.2.2 y (h.2.1.trans c)]
  have ag:∀z∈ls,r z≠z->aK (r z) z=true:=λz L h=>dE ((C z L).2.2 z (.refl _)) h.symm
  obtain⟨M,aR,aU,a0,Y,s0⟩:∃M:Hp,M e=none/\M d=some (.dK (NmD ls r))/\M l1=some (.lst (ls.map V.str))/\af H M/\af M H3:=by
   refine%[λa=>if a=e then none else H3 a,if_pos rfl,?_,?_,λa o h=>?_|λa o h=>?_]
   .exact(if_neg (λc=>aq c)).trans I
   .exact(if_neg (λc=>by rw[c,ge]at J;cases J)).trans J
   .exact(if_neg (λc=>by rw[c,fe]at h;cases h)).trans (ac _ _ h)
   .have h:(if a=e then none else H3 a)=some o:=h
    split at h
    .cases h
    .exact h
  refine bx (xs:=ls.map V.str) (λi σ H'=>(∃o3,σ=[!g,!d,!e,o3])/\af M H'/\∃u,iG V.str M H' e u/\u.map (λg=>(g.1,g.2.2))=grp r (ls.take i))
   %[%[_|rfl],s0,[],%[ge,λg hg=>(nomatch hg)|X7]|rfl] (λi σ H' _ h=>SqL.of (h.2.1 _ _ a0)) ?_ ?_
  .intro i x σ H' hx %[%[o3|rfl],N,u,b|n];rw[Zl]at hx;have%[z,L|rfl]:=map_eq_some_iff.mp hx;have zm:=Z8 L;have i1:i<ls.length:=(Xp L).1;show jx _ _ [!g,!d,!e,-z] H';refine aB λD4 k4 _=>?_
   lk;have get:=dw.k (k:=Sum.inr z) (N _ _ aU);rw[jr zm]at get;have gk:u.map (·.1)=(grp r (ls.take i)).map (·.1):=by rw[<-n,Yt];rfl
   have ai:(u.map (·.1)).Nodup:=by rw[gk];exact lh (nd.sublist (take_sublist _ _))
   have gl:u.length<=ls.length:=by
    have:=STab.nodup_sub ai (m:=ls) λy hy=>by rw[gk,iV]at hy;exact Yz hy.1
    rw[Z6]at this;exact this
   have zn:z∉ls.take i:=λhm=>by
    have h:=nd;rw[<-Xe i ls,X4]at h;exact h.2.2 z hm z (Z8 (i:=0) (by rw[Yc];exact L)) rfl
   have tk:ls.take (i+1)=ls.take i++[z]:=by rw[Xd,L];rfl
   refine%[.inr (.inr (.inl (.inl %[_|b.at_]))),_,get,#[0]|λp O=>%[Sum.inr (r z),rfl,gD u,?_,?_,λv hv=>?_|λhv=>?_]]
   .rw[ak (λc=>by rw[<-c,b.at_]at O;cases O)];exact b.at_
   .unfold gD;rw[Z6];exact aH ⋯
   .have%[q,B,e1|rfl]:=gM hv;have a1:q.1∈u.map (·.1):=Xt %[q,B|rfl];have al:=a1;rw[gk,iV,e1]at al;have rn:r z≠z:=λc=>zn (by exact c▸al.1)
    have sp:=af.upd (o:= .lst []) O;have hl:=sp _ _ (b.la q B).2;have G:=(b.up sp).add ai B z;have ml:q.2.2.length<=ls.length:=by
     have:(q.1,q.2.2)∈grp r (ls.take i):=n▸Xt %[q,B|rfl];have%[y,hy|c]:=Xs this;exact((Prod.mk.inj c).2)▸Yi (Yk _ _) (by rw[Yn];lia)
    refine%[.inl %[_|SqL.of hl],_,rfl,_,hl,by rw[Z6];exact aH ⋯|k4 _ _ %[%[_|rfl],af.set (N.trans sp) (b.la q B).1,_,G|?_]];rw[FU,n,tk,Dk rn,e1]
   .have nk:r z∉u.map (·.1):=λh=>by
     have%[q,B|c]:=Xs h;have:=li B;rw[c,hv]at this;exact this rfl
    have rz:r z=z:=Decidable.byContradiction λc=>nk (by rw[gk,iV];exact%[gK so L (C z zm).1 (ag z zm c)|r2 z zm])
    have de:e≠p:=λq=>by rw[<-q,b.at_]at O;cases O
    rw[rz]at hv nk ⊢;have gp:upd (upd H' p (.lst [])) e (.dK (cB (gD u) (Sum.inr z) (.ref p))) p=some (.lst []):=by rw[ak de.symm,aa]
    refine%[.inl %[_|SqL.of gp],[],gp,(show 0<sizeLine by decide)|k4 _ _ %[%[_|rfl],af.set (af.set (N.trans (af.upd O)) aR) (N.free O),_,b.new N O z z nk|?_]];rw[Zd,n,tk,Dj rz zn λx hx=>?_]
    .rfl
    .have%[j|hj]:=List.mem_iff_getElem?.mp hx;have xm:=Yz hx;by_cases c:r x=x
     .rw[c];exact hx
     .have ji:j<i:=by have:=(Xp hj).1;rw[Yn]at this;lia
      rw[List.getElem?_take_of_lt ji]at hj;exact List.take_subset_take_left _ (Yg ji) (gK so hj (C x xm).1 (ag x xm c))
  intro σ H' %[%[o3|rfl],N,u,b|n];rw[lm,Zn (Zi _)]at n;refine k3 _ _ ?_;lk;have gk:u.map (·.1)=(grp r ls).map (·.1):=by rw[<-n,Yt];rfl
  have gl:u.length<=ls.length:=by
   have:=STab.nodup_sub (l:=u.map (·.1)) (gk▸lh nd) (m:=ls) λy hy=>by rw[gk,iV]at hy;exact hy.1
   rw[Z6]at this;exact this
  refine%[.inr (.inr (.inl (.inl %[_|b.at_]))),%[_|b.at_]|λv fv=>%[e,aa,_,af.upd fv _ _ b.at_|λl fl=>?_]];have sv:=af.upd (o:=t5 v e) fv;have sl:=af.upd (o:= .lst ((gD u).map (·.2))) fl;have a2:=N.trans (sv.trans sl);refine kk l _ (u.map (·.2)) (Y.trans a2) ((Y.trans (N.trans sv)).free fl) ?_ (λs hs=>?_) (λs hs=>?_) %[r,C|?_] (by rw[Z6];lia)
  .rw[aa];unfold gD;rw[Yt,Yt];rfl
  .have%[q,B|rfl]:=Xs hs;exact sl _ _ (sv _ _ (b.la q B).2)
  .have%[q,B|rfl]:=Xs hs;exact Y.free (b.la q B).1
  .rw[<-n,Yt,Yt];rfl
structure dh (S:Str->Str->Prop) (ks0 ks:List _):Prop where
 nd:ks.Nodup
 so:ks.Pairwise (λa b=>c9 b a=false)
 mem:∀k,k∈ks↔∃a b z a' b',[a,b,z]∈ks0/\cG S a a'/\cG S b b'/\k=[a',b',z]
theorem dh.one{S:Str->Str->Prop}(h:dh S c ks)(g:dh S c ms):ks=ms:=
 nV c9 (λ_ _ a b=>kJ a b) h.so g.so h.nd g.nd λx=>(h.mem x).trans (g.mem x).symm
noncomputable def c6(r:Str->Str):ZB->ZB
 |[a,b,z]=>[r a,r b,z]
 | k=>k
theorem oF{S:Str->Str->Prop}{c:List _}{ls:ZB}{r:Str->Str}(l:∀k∈c,ei ls k)(f:∀z∈ls,cG S z (r z))(k:ZB):k∈c.map (c6 r)↔∃a b z g h,[a,b,z]∈c/\cG S a g/\cG S b h/\k=[g,h,z]:=by
 rw[mem_map]
 constructor
 .rintro⟨t,d,rfl⟩;have%[a,b,z,rfl,i|j]:=l t d;exact%[a,b,z,r a,r b,d,f a i,f b j|rfl]
 .rintro⟨a,b,z,g,h,d,m,n,rfl⟩;have%[x,y,u,e,i|j]:=l _ d;simp only[List.cons.injEq,and_true]at e;have%[rfl,rfl|rfl]:=e;exact%[_,d|by rw[<-(f a i).one m,<-(f b j).one n];rfl]
inductive uI (mg:ZC) (vs:ZM) (H:Hp) (Q:VK) (E0:XK):Prop
 | mk (g) (c2) (c3) (c4) (qs) (ls) (ts) (z0:vs=[.ref g]) (z1:GrF mg H g c2 c3 c4 qs ls ts) (z2:ls.Nodup) (z3:ls.Pairwise (λa b=>aK b a=false)) (z4:ls.length<=5000) (z5:ts.length<=150) (z6:(∀k∈ts.map (·.2),ei ls k)) (z7:∀l H' ss,af H H'->H l=none->H' l=some (.lst (ss.map λt=>V.ref t.1))->aG H' ss->dh (ck qs) (ts.map (·.2)) (ss.map (·.2))->ss.length<=150->Q (.ref l) H'):uI mg vs H Q E0
theorem Dm(T:Txt K mg):Cal P w K mg base 4 "links" ["ground"] (uI mg):=by
 refine T.aD.cal uo (λH vs Q E h=>?_)
 .have%[g,c2,c3,c4,qs,ls,ts,rfl,hg,nd,so,ab,a0,h3|kk]:=h;refine%[rfl|λf aU A outer s v=>?_];refine%[_,%["JD(1ijH~(A0BEI,~yA;~zAne?1T<~g0kNX0?2NX1?2NX2?2lrtAvP30AvP31A2BBB",uo.nd,(show bT (ah r8) ["ground","names"] _ ["later","earlier","source","names"] [(3,1)]=true from by decide +kernel),(show(["later","earlier","source","names"]:ZB).Nodup from by decide +kernel)|v]|?_]
  show bw _ _ _ [!g,none] H;refine am λD1 k1 _=>?_
  lk;refine%[g,c2,c3,c4,qs,ls,ts,rfl,hg,nd,so,ab|λd H1 r s1 fd hd v=>k1 _ _ ?_];lk;refine aJ λaR hK=>?_
  lk;have B:=hg.up s1;refine jt B (.inr (.inr rfl)) %[g,c2,c3,c4,qs,ls,ts,rfl,B|λL ac=> .inl %[L,rfl,%[_|SqL.of aa]|hK _ _ λF hF=>?_]];have s2:=af.upd (o:= .lst (ts.map λt=>V.ref t.1)) ac;have u:upd H1 L (.lst (ts.map λt=>V.ref t.1)) L=_:=aa
  generalize upd H1 L (.lst (ts.map λt=>V.ref t.1))=H2 at s2 u hF
  have ag:=s2 _ _ hd;have ai:=(B.up s2).tu;refine bF (J:=Itl K L) (n:=ts.length) (D:=F) (λj vs σ M=>(∃o1 o2 o3,σ=[o1,o2,o3,!d])/\af H2 M/\M F=some (.lst vs)/\∃ps:ZG,vs=ps.map (λp=>V.ref p.1)/\aG M ps/\ps.map (·.2)=((ts.take j).map (·.2)).map (c6 r))
   %[%[none,none,none|rfl],af.upd hF,aa,[],rfl,fT _|rfl] (λj _ _ M G C=>%[_,V.ref ts[j].1,SqL.of (C.2.1 _ _ u)|by simp[G]]) (λ_ _ M C=>%[_,SqL.of (C.2.1 _ _ u)|by simp]) ?_ ?_
  .intro j vs σ H3 G %[%[o1,o2,o3|rfl],I,N,ps,hv,i|c] x H4 %[e2|hx];subst e2;have O:=hx _ (SqL.of (I _ _ u));rw[Zl,Z4 G]at O;obtain rfl:x=V.ref ts[j].1:=(Za O).symm;have tj:=Ye G;have%[a,b,z,e,ha|hb]:=h3 _ (Xt %[_,tj|rfl]);have st:=I _ _ (ai _ tj).2;rw[e]at st;have get:∀y∈ls,dw H4 d (.str y) (some (.str (r y))):=λy hy=>by
    have:=dw.k (k:=Sum.inr y) (I _ _ ag);rw[jr hy]at this;exact this
   refine%[_,SqT.of st,rfl,_,_,rfl,_,_,rfl,_,_,rfl,rfl|?_];show zZ [-a,-b,-z,!d] _ _;lk;refine%[_,get a ha,_,get b hb,#[3]|λp hp=>?_];have sp:=af.upd (o:= .tup [V.str (r a),V.str (r b),V.str z]) hp;have gp:upd H4 p (.tup [V.str (r a),V.str (r b),V.str z]) p=_:=aa;have pl:=congrArg List.length c;rw[Z6,Z6,Z6,Yn]at pl;refine CK.mk G (sp _ _ N) (by rw[hv,Z6];exact aH ⋯) %[%[_,_,_|rfl],af.set (I.trans sp) hF,aa,ps++[(p,[r a,r b,z])],by rw[hv,Zd];rfl,aP (iS (aP i λb z e=>sp _ _ e) ∅ gp) (iT (ys:=vs++[V.ref p]) (sp _ _ N))|?_];rw[Zd,c,Xd,Z4 G,Zd,Zd];show _++[_]=_++[c6 r ts[j].2];rw[e];rfl
  intro vs σ H3 %[_,I,al,ps,hv,i|c];rw[Zn (Zi _)]at c;have pl:=congrArg List.length c;rw[Z6,Z6,Z6]at pl;have p3:∀q∈ps,q.2.length=3:=λq l=>by
   have:q.2∈ps.map (·.2):=Xt %[q,l|rfl];rw[c]at this;have%[k,hk|e]:=Xs this;have%[a,b,z,rfl|_]:=h3 k hk;rw[<-e];rfl
  refine%[F,rfl,ps,hv▸SqL.of al,i,%[ps.map (·.2),by rw[Z6];lia|λq l=>Xt %[q,l|rfl]]|λl5 an=>?_];have s5:=af.upd (o:=nM P w l5 (bd ps)) an;have aq:(bd ps).length<=150:=by
   have:=STab.nodup_sub (dJ ps) (m:=ps.map (·.2)) λk hk=>by
    have%[q,l|rfl]:=Xs hk;exact Xt %[q,bo ps q l|rfl]
   rw[Z6,Z6]at this
   lia
  refine%[bd ps,aa,λq l=>%[(i q (bo ps q l)).1|s5 _ _ (i q (bo ps q l)).2],3,λq l=>p3 q (bo ps q l),by decide,⋯|λl6 ss U pm as=>?_];have s6:=af.upd (o:= .lst (ss.map λq=>V.ref q.1)) U;have Y:=s1.trans (s2.trans (I.trans s5));have pk:(ss.map (·.2)).Perm ((bd ps).map (·.2)):=pm.map _;refine kk l6 _ ss (Y.trans s6) (Y.free U) aa (λq l=>?_) %[pk.nodup_iff.mpr (dJ ps),by rw[Xb];exact as|λk=>?_] (pm.length_eq▸aq)
  .have:=i q (bo ps q (pm.mem_iff.mp l));exact%[this.1|s6 _ _ (s5 _ _ this.2)]
  .rw[pk.mem_iff,gj,c];exact oF h3 (λz hz=>(v z hz).2) k
theorem BI{S:Str->Str->Prop}(c:ls.Pairwise (λa b=>aK b a=false))(f:∀z∈ls,r z∈ls/\cG S z (r z))(h:p∈grp r ls):p.2[0]? =some p.1:=by
 have%[z,i|rfl]:=Xs h;have%[j|l]:=List.mem_filter.mp i;have d:z∈ls.filter (λx=>decide (r x=z)):=List.mem_filter.mpr %[j|l];have c:=c.sublist (List.filter_sublist (p:=λx=>decide (r x=z)));have all:∀x∈ls.filter (λx=>decide (r x=z)),aK x z=false:=λx m=>by
  have%[n|o]:=List.mem_filter.mp m;exact(Zo o)▸(f x n).2.2 x (.refl _)
 show(ls.filter _)[0]? =some z
 generalize ls.filter _=g at all d c
 cases g with
 | nil=>cases d
 | cons y g=>
   rw[List.getElem?_cons_zero];rcases mem_cons.mp d with e|e
   .rw[e]
   .have a:=(List.pairwise_cons.mp c).1 z e;by_cases q:y=z
    .rw[q]
    .have:=dE (all y Zm) q
     grind
structure DK (S:Str->Str->Prop) (ls ns:ZB):Prop where
 nd:ns.Nodup
 mem:∀x,x∈ns↔x∈ls/\cG S x x
 so:ns.Pairwise (λa b=>aK b a=false)
 ne:ls≠[]->ns≠[]
theorem FW{S:Str->Str->Prop}{ls:ZB}{r:Str->Str}(b:∀z∈ls,r z∈ls/\cG S z (r z))(h:ls≠[]):(grp r ls).map (·.1)≠[]:=by
 have%[z|e]:=List.exists_mem_of_ne_nil _ h;have%[c|a]:=b z e;have f:cG S (r z) (r z):=%[a.1.symm.trans a.1|λy d=>a.2 y (a.1.trans d)]
 exact List.ne_nil_of_mem (iV.mpr %[c|(b _ c).2.one f])
theorem FX{r:Str->Str}{xs:ZB}(h:xs.Pairwise (λa b=>aK b a=false)):((grp r xs).map (·.1)).Pairwise (λa b=>aK b a=false):=by
 unfold grp;rw[Yt];show List.Pairwise _ (List.map (λz=>z) _);rw[List.map_id'];exact h.filter _
inductive qI (mg:ZC) (vs:ZM) (H:Hp) (Q:VK) (E0:XK):Prop
 | mk (g) (c2) (c3) (c4) (qs) (ls) (ts) (z0:vs=[.ref g]) (z1:GrF mg H g c2 c3 c4 qs ls ts) (z2:ls.Nodup) (z3:ls.Pairwise (λa b=>aK b a=false)) (z4:ls.length<=5000) (z5:∀l H' ns,af H H'->H l=none->H' l=some (.lst (ns.map V.str))->DK (ck qs) ls ns->Q (.ref l) H'):qI mg vs H Q E0
theorem mr(T:Txt K mg):Cal P w K mg base 5 "deposit_names" ["ground"] (qI mg):=by
 refine T.aC.cal kR (λH vs Q E h=>?_)
 .have%[g,G,I,L,qs,ls,ts,rfl,hg,nd,p,q|kk]:=h;refine%[rfl|λf ab A outer s b=>?_];refine%[_,%["JEIne?1TH]kA0BX0?2rR0C",0,(show bT (ah d5) ["ground"] _ ["group"] []=true from by decide +kernel),(show(["group"]:ZB).Nodup from by simp)|b]|?_];show jy _ _ [!g] H;lk;refine aJ λM hK=>?_
  lk;refine%[g,G,I,L,qs,ls,ts,rfl,hg,nd,p,q|λN H1 ss O f1 m la _ ⟨r,b,U⟩ ac=> .inl %[N,rfl,%[_|SqL.of m]|hK _ _ λF u=>?_]];have sg:ss.length=(grp r ls).length:=by
   have:=congrArg List.length U;rwa[Z6,Z6]at this
  refine bF (J:=Itl K N) (n:=ss.length) (D:=F) (λj vs v o=>(∃Y,v=[Y])/\af H1 o/\o F=some (.lst vs)/\vs=(((grp r ls).take j).map (·.1)).map V.str)
   %[%[none|rfl],af.upd u,aa|rfl] (λj _ _ o c a=>%[_,V.ref ss[j].1,SqL.of (a.2.1 _ _ m)|by simp[c]]) (λ_ _ o a=>%[_,SqL.of (a.2.1 _ _ m)|by simp]) ?_ ?_
  .intro j vs v H3 c %[%[Y|rfl],d,y|e] x H4 %[B|hx];subst B;have i:=hx _ (SqL.of (d _ _ m));rw[Zl,Z4 c]at i;obtain rfl:x=V.ref ss[j].1:=(Za i).symm;have C:j<(grp r ls).length:=by lia
   have B:ss[j].2=(grp r ls)[j].2:=by
    have:=congrArg (λz=>z[j]?) U;simpa [c,C]using this
   lk;refine%[_,SqL.of (d _ _ (la _ (Ye c))),_,(show atI (ss[j].2.map V.str) ((0:Nat):Int)=some _ from cm (by rw[Zl,B,(BI p b (Ye C))];rfl))|?_];refine CK.mk c y (by rw[e,Z6,Z6,Yn];exact aH ⋯) %[%[_|rfl],af.set d u,aa|?_];rw[e,Xd,Z4 C,Zd,Zd];rfl
  intro vs v H3 %[_,d,l|e];rw[Zn ⋯]at e;rw[e]at l;refine kk F H3 _ (O.trans d) (O.free u) l %[lh nd,λx=>?_,FX p|FW b];rw[iV];refine%[λh=>%[h.1|by have:=(b x h.1).2;rwa[h.2]at this]|λh=>%[h.1|(b x h.1).2.one h.2]]
def GrB(H:Hp)(d:Addr)(ss:ZG)(i:Nat):Prop:=∃a,H d=some (.dK a)/\∀n,(∃l,cA a (Sum.inr n)=some (.ref l)/\H l=some (.lst ((ss.filter λt=>decide (t.2[i]? =some n)).map λt=>V.ref t.1)))\/(cA a (Sum.inr n)=none/\∀t∈ss,t.2[i]? ≠some n)
theorem GrB.up(h:GrB H d ss i)(s:af H e):GrB e d ss i:=by
 have%[c,f|g]:=h;exact%[c,s _ _ f|λn=>(g n).imp_left λ⟨l,a,b⟩=>%[l,a|s _ _ b]]
def dW(H:Hp)(a:ZB)(ss:ZG):Prop:=∀t∈ss,H t.1=some (.tup (t.2.map V.str))/\ei a t.2
theorem dW.up(h:dW H b ss)(s:af H c):dW c b ss:=λt a=>%[s _ _ (h t a).1|(h t a).2]
theorem FY(h:ei c k)(hi:i<2):∃n,k[i]? =some n/\n∈c:=by
 have%[a,b,z,rfl,d|e]:=h
 match i,hi with
 | 0,_=>exact%[a,rfl|d]
 | 1,_=>exact%[b,rfl|e]
inductive oG (vs:ZM) (H:Hp) (Q:VK) (E0:XK):Prop
 | mk (l:Addr) (i:Nat) (ns:ZB) (ss:List _) (z0:vs=[.ref l,.int i]) (z1:i<2) (z2:H l=some (.lst (ss.map λt=>V.ref t.1))) (z3:dW H ns ss) (z4:ss.length<=150) (z5:∀d H',af H H'->H d=none->GrB H' d ss i->Q (.ref d) H'):oG vs H Q E0
inductive BJ (i:Nat) (vs:ZM) (H:Hp) (Q:VK) (E0:XK):Prop
 | mk (l) (ns) (ss) (z0:vs=[.ref l]) (z1:H l=some (.lst (ss.map λt=>V.ref t.1))) (z2:dW H ns ss) (z3:ss.length<=150) (z4:∀d H',af H H'->H d=none->GrB H' d ss i->Q (.ref d) H'):BJ i vs H Q E0
theorem qJ(T:Txt K mg):Cal P w K mg base 1 "grouped" ["found","side"] oG:=by
 refine T.aG.cal jo (λH vs Q E h=>?_)
 .have%[l,i,ns,ss,rfl,hi,Y,ab,an|kk]:=h;refine%[rfl|λf al A outer s hr=>?_];have ac:(ss.map λt=>V.ref t.1).length=ss.length:=Z6 _;refine%[_,%["JDG2}DVT0L3EW~)h~*~+2AQ31AUBBA3BEI2"|jo.nd]|?_]
  show bw _ _ _ [!l,some (.int i),none,none] H;refine am λD1 k1 _=>?_
  lk;intro e fe;refine k1 _ _ (am λD2 k2 _=>ay λai hK=>?_);lk;have se:=af.upd (o:= .dK []) fe;refine .inl %[%[_|SqL.of (se _ _ Y)]|hK _ _ ?_];refine bx (xs:=ss.map λt=>V.ref t.1) (λj σ u=>(∃o3,σ=[!l,some (.int i),!e,o3])/\af H u/\∃m,iG (λt:Addr×ZB=>V.ref t.1) H u e m/\(m.map (·.1)).Nodup/\(∀g∈m,g.2.2=(ss.take j).filter λt=>decide (t.2[i]? =some g.1))/\∀n,n∈m.map (·.1)↔∃t∈ss.take j,t.2[i]? =some n)
   %[%[_|rfl],se,[],%[aa,λg B=>(nomatch B)|X7],X7,λg B=>(nomatch B)|by simp] (λj σ u _ h=>SqL.of (h.2.1 _ _ Y)) ?_ ?_
  .intro j x σ u hx %[%[o3|rfl],I,m,d,gn,J|O];rw[Zl]at hx;have%[t,L|rfl]:=map_eq_some_iff.mp hx;have tm:=Z8 L;have j1:j<ss.length:=(Xp L).1;have%[n,M|_]:=FY (ab t tm).2 hi;have tk:ss.take (j+1)=ss.take j++[t]:=by rw[Xd,L];rfl
   show jx _ _ [!l,some (.int i),!e,some (.ref t.1)] u;refine aB λD4 k4 _=>?_
   lk;have gl:m.length<=ss.length:=by
    have:m.map (·.1) ⊆ ss.filterMap λt=>t.2[i]? :=λy hy=>by
     have%[t,L|e]:=(O y).mp hy;exact mem_filterMap.mpr %[t,Yz L|e]
    have:=STab.nodup_sub gn λx hx=>this hx
    rw[Z6]at this;exact Yi this (List.length_filterMap_le _ _)
   have st:=I _ _ (ab t tm).1;have C:∀(N:Gs (Addr×ZB)),(∀y,y∈N.map (·.1)↔y∈m.map (·.1)\/y=n)->∀y,y∈N.map (·.1)↔∃t∈ss.take (j+1),t.2[i]? =some y:=λN h y=>by
    rw[h,O,tk]
    constructor
    .rintro(⟨t',h1,h2⟩|rfl)
     .exact%[t',Yv _ h1|h2]
     .exact%[t,Yw _ Zm|M]
    .rintro⟨t',h1,h2⟩;rcases Xq h1 with q|q
     .exact .inl %[t',q|h2]
     .rw[Xr q,M]at h2;exact .inr (Za h2).symm
   refine%[.inr (.inr (.inl (.inl %[_|d.at_]))),_,SqT.of st,_,cm (show(t.2.map V.str)[i]? =some (.str n) by rw[Zl,M];rfl),#[0]|λp G=>%[Sum.inr n,rfl,gD m,?_,?_,λv U=>?_|λU=>?_]]
   .rw[ak (λc=>by rw[<-c,d.at_]at G;cases G)];exact d.at_
   .unfold gD;rw[Z6];exact aH ⋯
   .have%[q,r,e1|rfl]:=gM U;have sp:=af.upd (o:= .lst []) G;have Y:=sp _ _ (d.la q r).2;have ml:q.2.2.length<=ss.length:=by
     rw[J q r];exact Yi (Yk _ _) (by rw[Yn];lia)
    have ka:(pH q.1 t m).map (·.1)=m.map (·.1):=by
     unfold pH;rw[Yt];refine Yr λg _=>?_
     show(if g.1=q.1 then(g.1,g.2.1,g.2.2++[t])else g).1=_
     split<;> rfl
    refine%[.inl %[_|SqL.of Y],_,rfl,_,Y,by rw[Z6];exact aH ⋯|k4 _ _ %[%[_|rfl],af.set (I.trans sp) (d.la q r).1,_,((d.up sp).add gn r t),ka▸gn,λg B=>?_|C _ λy=>?_]]
    .unfold pH at B;have%[g0,h0|rfl]:=Xs B;rw[tk,Y4];by_cases c:g0.1=q.1
     .rw[if_pos c];show g0.2.2++[t]=_++List.filter (λt=>decide (t.2[i]? =some g0.1)) [t];rw[J g0 h0,Y7 (by rw[M,c,e1];simp),Y8]
     .rw[if_neg c,J g0 h0,Y6 (by rw[M,<-e1];simpa using λz=>c z.symm),Y8,Zz]
    .rw[ka];exact%[.inl|λh=>h.elim id λh=>by rw[h,<-e1];exact Xt %[q,r|rfl]]
   .have nk:n∉m.map (·.1):=λh=>by
     have%[q,r|c]:=Xs h;have:=li r;rw[c,U]at this;exact this rfl
    have de:e≠p:=λq=>by rw[<-q,d.at_]at G;cases G
    have gp:upd (upd u p (.lst [])) e (.dK (cB (gD m) (Sum.inr n) (.ref p))) p=some (.lst []):=by rw[ak de.symm,aa]
    refine%[.inl %[_|SqL.of gp],[],gp,(show 0<sizeLine by decide)|k4 _ _ %[%[_|rfl],af.set (af.set (I.trans (af.upd G)) fe) (I.free G),_,d.new I G n t nk,?_,λg B=>?_|C _ λy=>?_]]
    .rw[Zd,X4];exact%[gn,by simp|λa ha b hb c=>nk (by rw[<-show b=n from Xr hb,<-c];exact ha)]
    .rw[tk,Y4];rcases Xq B with q|q
     .have c:g.1≠n:=λc=>nk (c▸Xt %[g,q|rfl])
      rw[J g q,Y6 (by rw[M];simpa using λz=>c z.symm),Y8,Zz]
     .rw[Xr q];show [t]=_++List.filter (λt=>decide (t.2[i]? =some n)) [t];rw[Y7 (by rw[M];simp),Y8,List.filter_eq_nil_iff.mpr λt' ag c=>nk ((O n).mpr %[t',ag|Zo c])];rfl
    .rw[Zd,Yu,Ys,map_nil,X1]
  .intro σ u %[%[o3|rfl],I,m,d,gn,J|O];rw[ac,Zn (Zi _)]at J O;refine k2 _ _ ?_;lk;refine kk e u I fe %[_,d.at_|λn=>?_];cases U:cA (gD m) (Sum.inr n)with
   | none=>
     refine .inr %[rfl|λt L c=>?_];have%[q,r|c]:=Xs ((O n).mpr %[t,L|c]);have:=li r;rw[c,U]at this;exact this rfl
   | some v=>
     have%[q,r,e1|rfl]:=gM U;refine .inl %[_,rfl|?_];rw[(d.la q r).2,J q r,e1]
theorem fX(T:Txt K mg):Cal P w K mg base 2 "links_by_later" ["found"] (BJ 0):=by
 refine T.aE.cal jV (λH vs Q E h=>?_)
 .have%[l,c,ss,rfl,g,a,b|i]:=h;refine%[rfl|λf d A outer s e=>?_];exact%[_,%["JEIH~,A0A=B",0|e],l,0,c,ss,rfl,by simp,g,a,b|i]
theorem ju(T:Txt K mg):Cal P w K mg base 2 "links_by_earlier" ["found"] (BJ 1):=by
 refine T.aF.cal iX (λH vs Q E h=>?_)
 .have%[l,c,ss,rfl,g,a,b|i]:=h;refine%[rfl|λf d A outer s e=>?_];exact%[_,%["JEIH~,A0A~TB",0|e],l,1,c,ss,rfl,by simp,g,a,b|i]
structure ReB (ss:ZG) (rs:Gs Str):Prop where
 nd:(rs.map (·.1)).Nodup
 sub:∀r∈rs,r.2∈ss/\r.2.2[1]? =some r.1
theorem ReB.len(h:ReB ss a):a.length<=ss.length:=by
 have:=STab.nodup_sub h.nd (m:=ss.filterMap λt=>t.2[1]?) λx b=>by
  have%[r,c|rfl]:=Xs b;exact mem_filterMap.mpr %[r.2|h.sub r c]
 rw[Z6]at this;exact Yi this (List.length_filterMap_le _ _)
theorem ReB.snoc(h:ReB ss d)(e:(a,[p,y,z])∈ss)(f:y∉d.map (·.1)):ReB ss (d++[(y,a,[p,y,z])]):=by
 refine%[?_|λr g=>?_]
 .rw[Zd,X4];exact%[h.nd,by simp|λa i b j c=>f (by rw[<-show b=y from Xr j,<-c];exact i)]
 .rcases Xq g with q|q
  .exact h.sub r q
  .rw[Xr q];exact%[e|rfl]
def eA(d:Addr)(H a:Hp):Prop:=∀b o,b≠d->H b=some o->a b=some o
theorem eA.trans(h:eA d H c)(g:eA d c a):eA d H a:=λb o n e=>g b o n (h b o n e)
theorem eA.of(h:af H a):eA d H a:=λb o _ e=>h b o e
theorem GrB.x(h:GrB H b ss i)(s:eA d H f)(n:b≠d)(m:H d=some (.dK o)):GrB f b ss i:=by
 have%[e,g|j]:=h;exact%[e,s _ _ n g|λn=>(j n).imp_left λ⟨l,a,b⟩=>%[l,a|s _ _ (λc=>by lia) b]]
theorem dW.x(h:dW H e ss)(s:eA d H f)(g:H d=some (.dK i)):dW f e ss:=λt a=>%[s _ _ (λc=>by have b:=(h t a).1;grind) (h t a).1|(h t a).2]
theorem GrB.get(h:GrB f b ss i)(s:eA d f H)(nb:b≠d)(q:∀xs,f d≠some (.lst xs))(r:H p=none)(n:Str):∃e a,upd H p (.lst []) b=some (.dK e)/\(cA e (Sum.inr n)).getD (.ref p)= .ref a/\upd H p (.lst []) a=some (.lst ((ss.filter λt=>decide (t.2[i]? =some n)).map λt=>V.ref t.1))/\(a=p\/∃o,f a=some o):=by
 have%[e,m|u]:=h;have sp:=af.upd (o:= .lst []) r;rcases u n with⟨l,g,j⟩|⟨g,v⟩
 .exact%[e,l,sp _ _ (s _ _ nb m),by rw[g];rfl,sp _ _ (s _ _ (λc=>q _ (c▸j)) j)|.inr %[_|j]]
 .refine%[e,p,sp _ _ (s _ _ nb m),by rw[g];rfl,?_|.inl rfl];rw[List.filter_eq_nil_iff.mpr λt y c=>v t y (Zo c)];exact aa
inductive xn (vs:ZM) (H:Hp) (Q:VK) (E0:XK):Prop
 | mk (b e d:Addr) (ns F:ZB) (ss:List _) (rs:Gs Str) (z0:vs=[.ref b,.ref e,.ref d]) (z1:b≠d) (z2:GrB H b ss 0) (z3:dW H ns ss) (z4:ss.length<=150) (z5:H e=some (.lst (F.map V.str))) (z6:H d=some (.dK (gD rs))) (z7:ReB ss rs) (z8:∀g H' new,eA d H H'->H g=none->H' g=some (.lst ((new.map (·.1)).map V.str))->H' d=some (.dK (gD (rs++new)))->ReB ss (rs++new)->(∀r∈new,∃p∈F,r.2.2[0]? =some p)->(∀x∈F,∀y,Ed (ss.map (·.2)) x y->y∈(rs++new).map (·.1))->Q (.ref g) H'):xn vs H Q E0
theorem uJ(T:Txt K mg):Cal P w K mg base 1 "next_edge" ["beneath","edge","reached"] xn:=by
 refine T.aJ.cal eC (λH vs Q E h=>?_)
 .have%[b,e,d,ns,F,ss,B,rfl,al,hb,an,bf,he,hd,a3|kk]:=h;refine%[rfl|λf bc A outer s hr=>?_];have Fm:(F.map V.str).length=F.length:=Z6 _;have ed:e≠d:=λc=>by rw[c,hd]at he;cases he
  refine%[_,%["JDG3UBDVT1L4EVT~h~i0A4AUBBL5EM~UQ5~T2D*52Q5~TEWph3AQ5~TBOEI3",eC.nd|hr]|?_]
  show bw _ _ _ [!b,!e,!d,none,none,none] H;refine am λD1 k1 _=>?_
  lk;refine%[#[0]|λg fg=>k1 _ _ (am λD2 k2 _=>ay λaq hK=>?_)];have gd:g≠d:=λc=>by rw[c,hd]at fg;cases fg
  have s1:=af.upd (o:= .lst []) fg;have gg:upd H g (.lst []) g=some (.lst ((([]:Gs Str).map (·.1)).map V.str)):=aa
  generalize upd H g (.lst [])=H1 at s1 gg
  lk;refine .inl %[%[_|SqL.of (s1 _ _ he)]|hK _ _ ?_];refine bx (xs:=F.map V.str) (λi σ H'=>(∃o4 o5,σ=[!b,!e,!d,!g,o4,o5])/\eA d H H'/\∃new:Gs Str,H' g=some (.lst ((new.map (·.1)).map V.str))/\H' d=some (.dK (gD (B++new)))/\ReB ss (B++new)/\(∀r∈new,∃p∈F,r.2.2[0]? =some p)/\∀x∈F.take i,∀y,Ed (ss.map (·.2)) x y->y∈(B++new).map (·.1))
   %[%[_,_|rfl],eA.of s1,[],gg,by rw[Zz];exact s1 _ _ hd,by rw[Zz];exact a3,λr hr=>(nomatch hr)|λx G=>(nomatch G)] (λi σ H' _ h=>SqL.of (h.2.1 _ _ ed he)) ?_ ?_
  .intro i x σ H' G %[%[o4,o5|rfl],sm,new,hg,l,M,ai|m];rw[Zl]at G;have%[n,hn|rfl]:=map_eq_some_iff.mp G;have tk:F.take (i+1)=F.take i++[n]:=by rw[Xd,hn];rfl
   show uY _ _ _ _ [!b,!e,!d,!g,-n,o5] H';refine aB λD3 k3 _=>ay λaq hK=>?_
   lk;refine%[.inr (.inr (.inl (.inl %[_|sm _ _ al hb.choose_spec.1]))),#[0]|λp hp=>?_];have%[a4,a,as,a5,N|a6]:=hb.get sm al (λxs c=>by rw[hd]at c;cases c) hp n;have ag:a≠g:=by
    rcases a6 with rfl|⟨o,ho⟩
    .exact λc=>by rw[c,hg]at hp;cases hp
    .exact λc=>by rw[c,fg]at ho;cases ho
   have ad:a≠d:=λc=>by
    have:=N;rw[c,ak (λc=>by rw[c,hp]at l;cases l),l]at this;cases this
   have sp:=af.upd (o:= .lst []) hp;have hg:=sp _ _ hg;have l:=sp _ _ l;have sm:=sm.trans (eA.of sp)
   generalize upd H' p (.lst [])=H2 at as N sp hg l sm ⊢
   generalize aR:(ss.filter λt=>decide (t.2[0]? =some n))=ts at N
   have tm:(ts.map λt=>V.ref t.1).length=ts.length:=Z6 _;have a7:∀t∈ts,t∈ss/\∃y z,t.2=[n,y,z]:=λt ht=>by
    rw[<-aR]at ht;have%[h1|h2]:=List.mem_filter.mp ht;have%[x,y,z,e|_]:=(an t h1).2;have h2:=Zo h2;rw[e]at h2;exact%[h1,y,z|by rw[e,show x=n from Za h2]]
   refine%[Sum.inr n,rfl,a4,as|.inl %[a,a5,%[_|SqL.of N]|hK _ _ ?_]];refine bx (xs:=ts.map λt=>V.ref t.1) (λj σ Y=>(∃o5,σ=[!b,!e,!d,!g,-n,o5])/\eA d H Y/\Y a=some (.lst (ts.map λt=>V.ref t.1))/\∃new:Gs Str,Y g=some (.lst ((new.map (·.1)).map V.str))/\Y d=some (.dK (gD (B++new)))/\ReB ss (B++new)/\(∀r∈new,∃p∈F,r.2.2[0]? =some p)/\(∀x∈F.take i,∀y,Ed (ss.map (·.2)) x y->y∈(B++new).map (·.1))/\∀t∈ts.take j,∀y,t.2[1]? =some y->y∈(B++new).map (·.1))
    %[%[_|rfl],sm,N,new,hg,l,M,ai,m|λt ht=>(nomatch ht)] (λj σ Y _ h=>SqL.of h.2.2.1) ?_ ?_
   .intro j x σ Y G %[%[o5|rfl],O,U,new,ab,J,C,I,u|ac];rw[Zl]at G;have%[t,ht|rfl]:=map_eq_some_iff.mp G;have%[aU,y,z|et]:=a7 t (Z8 ht);have L:=(an.x O hd t aU).1;rw[et]at L;have bb:ts.take (j+1)=ts.take j++[t]:=by rw[Xd,ht];rfl
    show ko _ _ _ _ [!b,!e,!d,!g,-n,some (.ref t.1)] Y;refine aB λD4 k4 _=>?_
    lk;refine%[_,SqT.of L,_,rfl,_,dw.k (k:=Sum.inr y) J|?_];have a0:∀(nw:Gs Str),(∀x∈(B++new).map (·.1),x∈(B++nw).map (·.1))->y∈(B++nw).map (·.1)->(∀x∈F.take i,∀y,Ed (ss.map (·.2)) x y->y∈(B++nw).map (·.1))/\∀t∈ts.take (j+1),∀y,t.2[1]? =some y->y∈(B++nw).map (·.1):=λnw mono hy=>by
     refine%[λx G y h=>mono y (u x G y h)|λt' a1 y' h=>?_];rw[bb]at a1;rcases Xq a1 with q|q
     .exact mono y' (ac t' q y' h)
     .rw[Xr q,et]at h;rw[<-show y=y' from Za h];exact hy
    cases hv:cA (gD (B++new)) (Sum.inr y)with
    | some v=>
      rw[if_neg ∅];have%[q,hq,e1|_]:=gM hv;have%[n1|n2]:=a0 new (λ_ h=>h) (by rw[<-e1];exact Xt %[q,hq|rfl]);exact k4 _ _ %[%[_|rfl],O,U,new,ab,J,C,I,n1|n2]
    | none=>
      rw[if_pos (by rfl)];have hy:y∉(B++new).map (·.1):=λh=>by
       have%[q,hq|c]:=Xs h;have:=li hq;rw[c,hv]at this;exact this rfl
      have ln:=C.len;have nl:new.length<=150:=by rw[Z9]at ln;lia
      refine%[_,SqT.of L,_,rfl,_,ic.k (k:=Sum.inr y) J (by unfold gD;rw[Z6];exact aH ⋯)|?_];rw[mR _ hv];have e1:gD (B++new) ++[(Sum.inr y,V.ref t.1)]=gD (B++(new++[(y,t.1,[n,y,z])])):=by
       unfold gD;rw[<-Ze,Zd (l₂:=[_])];rfl
      rw[e1];have u1:∀c o,c≠d->Y c=some o->upd Y d (.dK (gD (B++(new++[(y,t.1,[n,y,z])])))) c=some o:=λc o h e=>(ak h)▸e
      have a2:=u1 _ _ gd ab;have R:=C.snoc (p:=n) (y:=y) (z:=z) (a:=t.1) (et▸aU) hy;rw[Ze]at R;have%[n1|n2]:=a0 (new++[(y,t.1,[n,y,z])]) (λx G=>by rw[<-Ze,Zd];exact Yv _ G) (by rw[<-Ze,Zd];exact Yw _ Zm);refine%[.inl %[_|SqL.of a2],_,SqT.of (u1 _ _ (λc=>by rw[c,J]at L;cases L) L),_,rfl,_,a2,by rw[Z6,Z6];exact aH ⋯|k4 _ _ %[%[_|rfl],λc o h e=>?_,(ak ag).trans (u1 _ _ ad U),_,?_,(ak gd.symm).trans aa,R,?_,n1|n2]]
      .rw[ak (av e fg)];exact u1 _ _ h (O _ _ h e)
      .rw[aa,Zd,Zd];rfl
      .intro r hr;rcases Xq hr with q|q
       .exact I r q
       .rw[Xr q];exact%[n,Z8 hn|rfl]
   .intro σ Y %[%[o5|rfl],O,U,new,ab,J,C,I,u|ac];rw[tm,Zn (Zi _)]at ac;refine k3 _ _ %[%[_,_|rfl],O,new,ab,J,C,I|λx G y ⟨z,hy⟩=>?_];rw[tk]at G;rcases Xq G with q|q
    .exact u x q y %[z|hy]
    .rw[Xr q]at hy;have%[t,ht|et]:=Xs hy;exact ac t (aR▸List.mem_filter.mpr %[ht|by rw[et];simp]) y (by rw[et];rfl)
  .intro σ H' %[%[o4,o5|rfl],sm,new,hg,l,M,ai|m];rw[Fm,Zn (Zi _)]at m;refine k2 _ _ ?_;lk;exact kk g H' new sm fg hg l M ai m
theorem qK{b:Bool}(h: ¬ (not b)=true):b=true:=by
 cases b
 .exact absurd rfl h
 .rfl
theorem wq{a:Gs Str}{y:Str}(h:y∈a.map (·.1)):∃r∈a,r.1=y/\cA (gD a) (Sum.inr y)=some (.ref r.2.1):=by
 cases d:cA (gD a) _ with
 | none=>
   have%[q,b|c]:=Xs h;have:=li b;rw[c,d]at this;exact(this rfl).elim
 | some v=>
   have%[q,b,e|rfl]:=gM d;exact%[q,b,e|rfl]
inductive BK (vs:ZM) (H:Hp) (Q:VK) (E0:XK):Prop
 | mk (d) (st) (goal) (ns) (F) (ss) (rs) (dd) (k) (z0:vs=[.ref d,.str st,.str goal]) (z1:H d=some (.dK (gD rs))) (z2:ReB ss rs) (z3:Lev (ss.map (·.2)) st rs dd k F) (z4:k<=200) (z5:dW H ns ss) (z6:goal∈rs.map (·.1)) (z7:∀l H' (ws:List _),af H H'->H l=none->H' l=some (.lst (ws.map λt=>V.ref t.1))->(∀t∈ws,t∈ss)->Wal (ws.map (·.2)) st goal->ws.length=dd goal->Q (.ref l) H'):BK vs H Q E0
theorem BL(T:Txt K mg):Cal P w K mg base 1 "way_to" ["reached","start","goal"] BK:=by
 refine T.aK.cal qv (λH vs Q E h=>?_)
 .have%[d,st,a,ns,F,ss,C,i,k,rfl,hd,G,l,hk,I,n|kk]:=h;refine%[rfl|λf ab A outer s j=>?_];refine%[_,%["JDG3UAv02BD~KKuQR3+C=1EWph3Av0QR3+C=BEI]l3",qv.nd|j]|?_]
  show bw _ _ _ [!d,-st,-a,none] H;refine am λD1 k1 _=>?_
  lk;have%[r,J,e1|hv]:=wq n;have get:=dw.k (k:=Sum.inr a) hd;rw[hv]at get;refine%[_,get,#[1]|λb fw=>k1 _ _ (am λD2 k2 _=>?_)];have s1:=af.upd (o:= .lst [V.ref r.2.1]) fw;have gw:upd H b (.lst [V.ref r.2.1]) b=some (.lst (([]:ZG).reverse.map (λt=>V.ref t.1) ++[V.ref r.2.1])):=aa
  generalize upd H b (.lst [V.ref r.2.1])=H1 at s1 gw
  refine⟨λm σ u=>σ=[!d,-st,-a,!b]/\af H u/\∃(us:ZG) (r:Str×Addr×ZB),r∈C/\m=i r.1/\u b=some (.lst (us.reverse.map (λt=>V.ref t.1) ++[.ref r.2.1]))/\(∀t∈us,t∈ss)/\Wal (us.map (·.2)) r.1 a/\us.length+m=i a,%[_,rfl,s1,[],r,J,rfl,gw,λt h=>(nomatch h),e1|by rw[e1];simp],?_⟩;intro m σ H2 %[rfl,v,us,r,j,rfl,hw,y,B|hl];have%[ac,p,z,L|hp]:=l.by_ r j;have e:=(G.sub r j).1;have g:=v _ _ (I _ e).1;rw[L]at g;have gl:=l.le a n;lk;refine%[_,SqL.of hw,_,mP _ _,_,rfl,_,SqT.of g,_,rfl,rfl|bH (λh=>?_) λh=>?_]
  .have h:p≠st:=by simpa using h
   have%[_,M|ag]:=hp.resolve_left λc=>h c.1
   have%[r',N,O|U]:=wq M;have get:=dw.k (k:=Sum.inr p) (v _ _ hd);rw[U]at get;refine⟨λY u=>∃m',m'<i r.1/\Y=[!d,-st,-a,!b]/\af H u/\∃(us:ZG) (r:Str×Addr×ZB),r∈C/\m'=i r.1/\u b=some _/\(∀t∈us,t∈ss)/\Wal (us.map (·.2)) r.1 a/\us.length+m'=i a,λ_ _ h=>h,.inl %[_|SqL.of hw],_,SqL.of hw,_,mP _ _,_,rfl,_,SqT.of g,_,rfl,_,get,_,hw,by rw[Z9,Z6,List.length_reverse,Ym];exact aH ⋯,_,?_,rfl,af.set v fw,r.2::us,r',N,rfl,?_,?_,?_,?_⟩
   .rw[O];lia
   .rw[aa,List.reverse_cons,Zd];rfl
   .intro t ht;rcases mem_cons.mp ht with q|q
    .exact q▸e
    .exact y t q
   .exact%[r.1,z,L.trans (by rw[O])|B]
   .rw[Zr,O];lia
  .have h:p=st:=by simpa using h
   refine k2 _ _ ?_;lk;refine%[_,hw|λq fq=>kk q _ (r.2::us) (v.trans (af.upd fq)) (v.free fq) ?_ (λt ht=>?_) %[r.1,z,L.trans (by rw[h])|B] (by rw[Zr];lia)]
   .rw[aa,List.reverse_append,<-List.map_reverse,List.reverse_reverse];rfl
   .rcases mem_cons.mp ht with q|q
    .exact q▸e
    .exact y t q
inductive uK (vs:ZM) (H:Hp) (Q:VK) (E0:XK):Prop
 | mk (b) (st) (goal) (ns) (ss) (z0:vs=[.ref b,.str st,.str goal]) (z1:GrB H b ss 0) (z2:dW H ns ss) (z3:ss.length<=150) (z4:(∀H',af H H'-> ¬ Rch (ss.map (·.2)) st goal->Q .non H')) (z5:∀l H' (ws:List _),af H H'->H l=none->H' l=some (.lst (ws.map λt=>V.ref t.1))->(∀t∈ws,t∈ss)->Sho (ss.map (·.2)) st goal (ws.map (·.2))->ws.length<=200->Q (.ref l) H'):uK vs H Q E0
def G4(H:Hp)(b d:Addr)(st c:Str)(ss:ZG)(m:Nat)(g:L2.St)(f:Hp):Prop:=∃e F a h k,g=[!b,-st,-c,!d,!e]/\af H f/\f e=some (.lst (F.map V.str))/\f d=some (.dK (gD a))/\ReB ss a/\Lev (ss.map (·.2)) st a h k F/\k<=a.length+1/\(F≠[]->k<=a.length)/\m=2*(150-a.length) +F.length.min 1
theorem oH(T:Txt K mg):Cal P w K mg base 2 "shortest_way" ["beneath","start","goal"] uK:=by
 refine T.aI.cal cW (λH vs Q E h=>?_)
 .have%[b,st,i,ns,ss,rfl,hb,I,ai,kn|ky]:=h;refine%[rfl|λf a0 A outer s G=>?_];refine%[_,%["JDG3}DG4UA1BD~KZyK~AcdA4BC&~U23EG4H]mA0A4A3BDM~U23EI/OEIH]nA3A1A2B",cW.nd|G]|?_]
  show bw _ _ _ [!b,-st,-i,none,none] H;refine am λD1 k1 _=>?_
  lk;intro d fd;refine k1 _ _ (am λD2 k2 _=>?_);have al:b≠d:=λc=>by
   have%[a1,O|_]:=hb;rw[c,fd]at O;cases O
  have s1:=af.upd (o:= .dK []) fd;have B:upd H d (.dK []) d=some (.dK (gD ([]:Gs Str))):=aa
  generalize upd H d (.dK [])=H1 at s1 B
  lk;refine%[#[1]|λe fe=>k2 _ _ (am λD3 k3 _=>?_)];have s2:=af.upd (o:= .lst [V.str st]) fe;have U:upd H1 e (.lst [V.str st]) e=some (.lst ([st].map V.str)):=aa;have B:=s2 _ _ B;have Y:=s1.trans s2
  generalize upd H1 e (.lst [V.str st])=H2 at Y U B
  refine%[G4 H b d st i ss,%[_,e,[st],[],_,_,rfl,Y,U,B,%[X7|λ_ h=>(nomatch h)],.nil,by simp,λ_=>Zi _|rfl]|?_];intro m σ H3 %[e,F,C,dd,k,rfl,J,U,B,L,j,hk,an|rfl];have fm:(F.map V.str).length=F.length:=Z6 _;have get:=dw.k (k:=Sum.inr i) B;have rl:=L.len;have M:i∈C.map (·.1)↔(cA (gD C) (Sum.inr i)).isSome=true:=by
   refine%[λh=>?_|λh=>?_]
   .have%[r,_,_|e]:=wq h;rw[e];rfl
   .have%[v|hv]:=isSome_iff_exists.mp h;have%[q,hq,c|_]:=gM hv;exact c▸Xt %[q,hq|rfl]
  lk;have ab:(i∉C.map (·.1)->F=[])->D3.nx [!b,-st,-i,!d,!e] H3:=λh=>by
   refine k3 _ _ (am λD4 k4 r4=>?_);lk;refine%[_,get|bH (λq=>?_) λq=>?_]
   .have q:i∉C.map (·.1):=λc=>by rw[M.mp c]at q;cases q
    refine r4 _ _ (kn H3 J λr=>q ?_);have%[n|hn]:=r.dst;rw[h q]at j;exact j.stop hn
   .have q:i∈C.map (·.1):=M.mpr (qK q);refine k4 _ _ ?_;lk;refine%[d,st,i,ns,F,ss,C,dd,k,rfl,B,L,j,⋯,I.up J,q|λl H' ws s' fl hl ac aq wl=>ky l H' ws (J.trans s') (J.free fl) hl ac %[λk hk=>?_,aq,?_|λn hn=>?_] (by rw[wl];have:=j.le _ q;lia)]
    .have%[t,ht|rfl]:=Xs hk;exact Xt %[t,ac t ht|rfl]
    .rw[Z6,wl];exact(j.dst q).1
    .rw[Z6,wl];exact j.min q hn
  refine%[_,.inl %[_,SqL.of U|rfl]|bH (λh=>?_) λh=>ab λ_=>?_]
  .have h:0<F.length:=by
    rw[fm]at h;have:=Zo h
    lia
   refine%[_,get|bH (λq=>⟨λas H'=>∃m',m'<2*(150-C.length) +F.length.min 1/\G4 H b d st i ss m' as H',λ_ _ h=>h,b,e,d,ns,F,ss,C,rfl,al,hb.up J,I.up J,ai,U,B,L,λg H4 new sx fg hg aR u aU N=>?_⟩) λq=>ab λc=>absurd (M.mpr (qK q)) c];have ln:=u.len;rw[Z9]at ln;have ag:F.length.min 1=1:=Nat.min_eq_right h;have kF:=an λc=>by rw[c]at h;cases h
   refine%[_,?_,g,new.map (·.1),C++new,_,_,rfl,(λc o ec=>sx c o (λz=>by rw[z,fd]at ec;cases ec) (J _ _ ec)),hg,aR,u,j.step u.nd (λr G=>?_) N,?_,λnn=>?_|rfl]
   .rw[ag,Z9,Z6];cases new with
    | nil=>simp
    | cons a r=>
      rw[Zr]at ln ⊢;have:(r.length+1).min 1<=1:=Nat.min_le_right _ _
      lia
   .have%[O|h2]:=u.sub r (Yw _ G);have%[p,hp|h3]:=aU r G;have%[x,y,z,e|_]:=(I r.2 O).2;rw[e]at h2 h3;exact%[Xt %[_,O|rfl],p,z,hp|by rw[e,show x=p from Za h3,show y=r.1 from Za h2]]
   .rw[Z9];lia
   .cases new with
    | nil=>exact absurd rfl nn
    | cons a r=>rw[Z9,Zr];lia
  .cases F with
   | nil=>rfl
   | cons x F=>exact absurd (Zf (by rw[fm,Zr];lia)) h
noncomputable def VD(ls:ZB)(g:Str->V):List (Key×V):=ls.map λz=>(Sum.inr z,g z)
theorem oJ:∀{ls:ZB},z∈ls->cA (VD ls g) (Sum.inr z)=some (g z)
 | x::ls,h=>by
   by_cases e:x=z
   .subst e;exact dN rfl
   .rw[show VD _ g=(Sum.inr x,g x)::VD ls g from rfl,cQ (λq=>e (Sum.inr.inj q))];exact oJ ((mem_cons.mp h).resolve_left λq=>e q.symm)
theorem xo:∀{ls:ZB},z∉ls->cA (VD ls g) (Sum.inr z)=none
 |[],_=>rfl
 | x::ls,h=>by
   rw[Yx,not_or]at h;rw[show VD _ g=(Sum.inr x,g x)::VD ls g from rfl,cQ (λq=>h.1 (Sum.inr.inj q).symm)];exact xo h.2
theorem FZ(h:z∈ls):cB (VD ls g) (Sum.inr z) v=VD ls (λx=>if x=z then v else g x):=by
 unfold cB;rw[if_pos (by rw[h9,oJ h];rfl)];unfold VD;rw[Yt];refine Yr λx _=>?_
 show(if(Sum.inr x)=Sum.inr z then((Sum.inr x),v)else(Sum.inr x,g x))=(Sum.inr x,if x=z then v else g x)
 by_cases e:x=z
 .rw[if_pos (congrArg _ e),if_pos e]
 .rw[if_neg (λq=>e (Sum.inr.inj q)),if_neg e]
noncomputable def cnt(ss:ZG)(L:ZB)(n:Str):Nat:=ss.countP λt=>decide (t.2[0]? =some n)&&t.2[1]?.all λy=>decide (y∉L)
theorem Do(ss:List _)(n:Str):cnt ss [] n=(ss.filter λt=>decide (t.2[0]? =some n)).length:=by
 unfold cnt;rw[<-List.countP_eq_length_filter]
 simp_all
theorem BM(h:cnt ss L m=0)(e:Ed (ss.map (·.2)) m y):y∈L:=by
 have%[z|a]:=e;have%[t,b|c]:=Xs a;have:=List.countP_eq_zero.mp h t b
 simp_all
theorem uL(b:m∉L):∀ss:ZG,cnt ss L n=cnt ss (L++[m]) n+(ss.filter λt=>decide (t.2[1]? =some m)).countP λt=>decide (t.2[0]? =some n)
 |[]=>rfl
 | t::ss=>by
   have c:=uL (n:=n) b ss;unfold cnt at c ⊢;rw[countP_cons,countP_cons,c];cases d:t.2[1]? with
   | none=>rw[Y6 ⋯];simp only[Option.all_none];lia
   | some y=>
     by_cases e:y=m
     .subst e;rw[Y7 (by rw[d];simp),countP_cons];by_cases a:t.2[0]? =some n
      .simp[a,b];lia
      .simp[a]
     .rw[Y6 (by rw[d];simpa using e)];by_cases a:t.2[0]? =some n
      .by_cases f:y∈L
       .simp[f]
       .simp[a,f,e];lia
      .simp[a]
structure G5 (ss:ZG) (ns L R:ZB):Prop where
 nd:(L++R).Nodup
 mem:∀x,x∈L++R↔x∈ns/\cnt ss L x=0
 ord:∀i x,L[i]? =some x->∀y,Ed (ss.map (·.2)) x y->y∈L.take i
def G6(f:Hp)(l m b a w e ld:Addr)(d:ZB)(ss:ZG)(k:Nat)(g:L2.St)(c:Hp):Prop:=∃h i j L R,g=[!l,!m,!b,!a,!w,h,!e,!ld,i,j]/\af f c/\c w=some (.dK (VD d λn=> .int (cnt ss L n)))/\c e=some (.lst (R.map V.str))/\c ld=some (.lst (L.map V.str))/\G5 ss d L R/\k=d.length-L.length
inductive xp (vs:ZM) (H:Hp) (Q:VK) (E0:XK):Prop
 | mk (l) (m) (ns) (ss) (z0:vs=[.ref l,.ref m]) (z1:H l=some (.lst (ns.map V.str))) (z2:ns.Nodup) (z3:ns.length<=80) (z4:H m=some (.lst (ss.map λt=>V.ref t.1))) (z5:dW H ns ss) (z6:ss.length<=150) (z7:∀r H' (L:ZB),af H H'->H' r=some (.lst (L.map V.str))->L.Nodup->(∀x∈L,x∈ns)->(∀i x,L[i]? =some x->∀y,Ed (ss.map (·.2)) x y->y∈L.take i)->(∀x∈ns,x∉L->∃y,Ed (ss.map (·.2)) x y/\y∈ns/\y∉L)->Q (.ref r) H'):xp vs H Q E0
theorem oK(T:Txt K mg):Cal P w K mg base 3 "laid_in_turn" ["names","found"] xp:=by
 refine T.aH.cal a9 (λH vs Q E h=>?_)
 .have%[l,m,d,ss,rfl,hl,nn,nl,hm,as,b7|kk]:=h;refine%[rfl|λf dk A outer s hr=>?_];have nm:(d.map V.str).length=d.length:=Z6 _;refine%[_,%["JDG2H~.A1BDG3H]oA1BD(4ij}DVT0L5E*cdA~h~i2A5AUBBBP45D~P6jie?1T0X0?2^KYvP10C0DG7UBD~KK~AcdA6BCDG8~M]pA6BDW]q]r6A8BDWph7A8BEVT~h~i3A8AUBBL9D*F>vP4Q9=CP4Q9=EMKYvP4Q9=CEWph6AQ9=BOEI7",a9.nd,(show bT (ah eT) ["names","found","beneath","above","waits","name","ready","laid","least","link"] _ ["name","waits"] [(1,4)]=true from by decide +kernel),(show(["name","waits"]:ZB).Nodup from by decide +kernel)|hr]|?_]
  show bw _ _ _ [!l,!m,none,none,none,none,none,none,none,none] H;refine am λD1 k1 _=>?_
  lk;refine%[m,d,ss,rfl,hm,as,b7|λb H1 s1 fb hb=>k1 _ _ (am λD2 k2 _=>?_)];lk;refine%[m,d,ss,rfl,s1 _ _ hm,as.up s1,b7|λa H2 s2 fa ha=>k2 _ _ (am λD3 k3 _=>?_)];have ag:=s1.trans s2;have hb:=hb.up s2;lk;intro w fw;refine k3 _ _ (am λD4 k4 _=>ay λa7 hK=>?_);have s3:=af.upd (o:= .dK []) fw;have gw:upd H2 w (.dK []) w=some (.dK (VD (d.take 0) λn=> .int (cnt ss [] n))):=aa
  generalize upd H2 w (.dK [])=H3 at s3 gw
  have cM:=ag.trans s3;lk;refine .inl %[%[_|SqL.of (cM _ _ hl)]|hK _ _ ?_];have c0:b≠w:=λc=>by
   have%[ai,h1|_]:=hb;rw[c,fw]at h1;cases h1
  have c1:a≠w:=λc=>by
   have%[ai,h1|_]:=ha;rw[c,fw]at h1;cases h1
  have b9:∀xs,H2 w≠some (.lst xs):=λxs c=>by rw[fw]at c;cases c
  refine bx (xs:=d.map V.str) (λi O u=>(∃o5,O=[!l,!m,!b,!a,!w,o5,none,none,none,none])/\af H2 u/\u w=some (.dK (VD (d.take i) λn=> .int (cnt ss [] n))))
   %[%[_|rfl],s3|gw] (λi O u _ h=>SqL.of (h.2.1 _ _ (ag _ _ hl))) ?_ ?_
  .intro i x O u U %[%[o5|rfl],sm|hw];rw[Zl]at U;have%[n,hn|rfl]:=map_eq_some_iff.mp U;have i1:i<d.length:=(Xp hn).1;show pS _ _ _ _ [!l,!m,!b,!a,!w,-n,none,none,none,none] u;refine aB λD5 k5 _=>?_
   lk;refine%[.inr (.inr (.inl (.inl %[_|sm _ _ hb.choose_spec.1]))),#[0]|λp hp=>?_];have%[ai,al,c2,aR,Y|ca]:=hb.get (eA.of sm) c0 b9 hp n;have sp:=af.upd (o:= .lst []) hp;refine%[Sum.inr n,rfl,ai,c2,_,by rw[aR];exact .inl %[_,SqL.of Y|rfl],_,ic.k (k:=Sum.inr n) (sp _ _ hw) (by unfold VD;rw[Z6,Yn];exact aH ⋯)|k5 _ _ %[%[_|rfl],af.set (sm.trans sp) fw|?_]];have zn:n∉d.take i:=λhm=>by
    have h:=nn;rw[<-Xe i d,X4]at h;exact h.2.2 n hm n (Z8 (i:=0) (by rw[Yc];exact hn)) rfl
   rw[aa,mR _ (xo zn),Z6,<-Do,Xd,hn];unfold VD;rw[Zd];rfl
  .intro O u %[%[o5|rfl],sm|hw];rw[nm,Zn (Zi _)]at hw;refine k4 _ _ (am λD5 k5 _=>aJ λa7 hK=>?_);lk;have aU:=sm _ _ (ag _ _ hl);refine .inl %[%[_|SqL.of aU]|hK _ _ λM an=>?_];refine bF (J:=Itl K l) (n:=d.length) (D:=M) (λj vs O H3=>(∃o1,O=[o1,!w])/\af u H3/\H3 M=some (.lst vs)/\vs=((d.take j).filter λn=>decide (cnt ss [] n=0)).map V.str)
    %[%[none|rfl],af.upd an,aa|rfl] (λj _ _ H3 hj bc=>%[_,V.str d[j],SqL.of (bc.2.1 _ _ aU)|by simp[hj]]) (λ_ _ H3 bc=>%[_,SqL.of (bc.2.1 _ _ aU)|by simp]) ?_ ?_
   .intro j vs O H3 hj %[%[o1|rfl],C,cb|hv] x H4 %[e2|U];subst e2;have cd:=U _ (SqL.of (C _ _ aU));rw[Zl,Z4 hj]at cd;obtain rfl:x=V.str d[j]:=(Za cd).symm;have get:=dw.k (k:=Sum.inr d[j]) (C _ _ hw);rw[oJ (Ye hj)]at get;lk;refine%[_,get,rfl|bH (λh=>?_) λh=>?_]
    .have h:cnt ss [] d[j]=0:=by simpa using h
     refine CK.mk hj cb (by rw[hv,Z6];have:=Yk (λn=>decide (cnt ss [] n=0)) (d.take j);rw[Yn]at this;exact aH ⋯) %[%[_|rfl],af.set C an,aa|?_];rw[hv,Xd,Z4 hj,Y4,Zd];show _=_++(List.filter _ [d[j]]).map V.str;rw[Y7 (by simpa using h)];rfl
    .have h:cnt ss [] d[j]≠0:=by simpa using h
     refine CN.mk hj %[%[_|rfl],C,cb|?_];rw[hv,Xd,Z4 hj,Y4,Zd];show _=_++(List.filter _ [d[j]]).map V.str;rw[Y6 (by simpa using h)];simp
   intro vs O H3 %[_,C,a0|hv];rw[Zn (Zi _)]at hv;rw[hv]at a0;refine k5 _ _ (am λD6 k6 _=>?_);have ab:=C _ _ hw;have bf:=sm.trans C;have bl:w≠M:=λc=>by rw[<-c,hw]at an;cases an
   have bm:=sm.free an;lk;refine%[#[0]|λld fld=>k6 _ _ (am λD7 k7 _=>?_)];have s4:=af.upd (o:= .lst []) fld;have bt:upd H3 ld (.lst []) ld=some (.lst (([]:ZB).map V.str)):=aa;have ch:w≠ld:=λc=>by rw[<-c,ab]at fld;cases fld
   have b0:M≠ld:=λc=>by rw[<-c,a0]at fld;cases fld
   have b1:=s4 _ _ ab;have b2:=s4 _ _ a0;have b3:=bf.trans s4;have fld:=bf.free fld
   generalize upd H3 ld (.lst [])=H4 at s4 bt b1 b2 b3
   refine%[G6 H2 l m b a w M ld d ss,%[_,o5,none,none,[],_,rfl,b3,b1,b2,bt,%[nn.filter _,λx=>by simp|λi x e=>by simp at e]|rfl]|?_];clear b3 b1 b2 bt a0 ab hw hv C bf sm;intro k O H5 %[o5,o8,o9,L,R,rfl,sm,hw,hR,hL,B|rfl];have Rm:(R.map V.str).length=R.length:=Z6 _;have dm:L.length+R.length<=d.length:=by
    rw[<-Z9];exact STab.nodup_sub B.nd λx U=>((B.mem x).mp U).1
   lk;refine%[R.length,.inl %[_,SqL.of hR|Rm.symm]|bH (λh=>?_) λh=>?_]
   .have h:0<R.length:=by have:=Zo h;lia
    refine⟨λc3 u=>∃m',m'<d.length-L.length/\G6 H2 l m b a w M ld d ss m' c3 u,λ_ _ h=>h,R,SqL.of hR,h,λx U _=>%[.inl %[_|SqL.of hR],R,hR,U|λR1 pm=>?_]⟩;have u1:=af.set (o:= .lst (R1.map V.str)) sm bm;have b4:upd H5 M (.lst (R1.map V.str)) M=_:=aa;have b5:upd H5 M (.lst (R1.map V.str)) w=_:=(ak bl).trans hw;have a1:upd H5 M (.lst (R1.map V.str)) ld=_:=(ak b0.symm).trans hL
    generalize upd H5 M (.lst (R1.map V.str))=H6 at u1 b4 b5 a1 ⊢
    refine%[.inl %[_|SqL.of a1],_,a1,by rw[Z6];exact aH ⋯|aB λdn c4 _=>ay λa7 hK=>?_];have u2:=af.set (o:= .lst (L.map V.str++[.str x])) u1 fld;have a2:upd H6 ld (.lst (L.map V.str++[.str x])) ld=some (.lst ((L++[x]).map V.str)):=by rw[aa,Zd];rfl
    have a3:upd H6 ld (.lst (L.map V.str++[.str x])) w=_:=(ak ch).trans b5;have a4:upd H6 ld (.lst (L.map V.str++[.str x])) M=_:=(ak b0).trans b4
    generalize upd H6 ld (.lst (L.map V.str++[.str x]))=H7 at u2 a2 a3 a4 ⊢
    lk;refine%[.inr (.inr (.inl (.inl %[_|u2 _ _ ha.choose_spec.1]))),#[0]|λp hp=>?_];have%[ai,al,aR,c5,Y|ca]:=ha.get (eA.of u2) c1 b9 hp x;have b6:∀{c:Addr} {o:HO},H7 c=some o->H2 c=none->al≠c:=λ{c o} h1 h2=>by
     rcases ca with rfl|⟨o',ho⟩
     .exact λz=>by rw[z,h1]at hp;cases hp
     .exact λz=>by rw[z,h2]at ho;cases ho
    have c7:=b6 a3 fw;have da:=b6 a4 bm;have all:=b6 a2 fld;have sp:=af.upd (o:= .lst []) hp;have ab:=sp _ _ a3;have cl:=sp _ _ a4;have co:=sp _ _ a2;have u3:=u2.trans sp
    generalize upd H7 p (.lst [])=H8 at aR Y ab cl co u3 ⊢
    clear u1 u2 a3 a4 a2 b5 b4 a1 hp sp
    generalize cs:(ss.filter λt=>decide (t.2[1]? =some x))=ts at Y
    have tm:(ts.map λt=>V.ref t.1).length=ts.length:=Z6 _;have xL:x∉L:=λc=>(nodup_append.mp B.nd).2.2 x c x U rfl
    have pr:(L++[x] ++R1).Perm (L++R):=by
     rw[Ze];exact pm.append_left L
    have f0:∀n,cnt ss L n=cnt ss (L++[x]) n+(ts.drop 0).countP λt=>decide (t.2[0]? =some n):=λn=>by rw[drop_zero,<-cs];exact uL xL ss
    have dd:∀t∈ts,∃n z,t.2=[n,x,z]/\n∈d/\H t.1=some (.tup ([n,x,z].map V.str)):=λt ht=>by
     rw[<-cs]at ht;have%[h1|h2]:=List.mem_filter.mp ht;have%[h3,n,y,z,e,hn|_]:=as t h1;have h2:=Zo h2;rw[e]at h2 h3;obtain rfl:y=x:=Za h2;exact%[n,z,e,hn|h3]
    refine%[Sum.inr x,rfl,ai,aR|.inl %[al,c5,%[_|SqL.of Y]|hK _ _ ?_]];refine bx (xs:=ts.map λt=>V.ref t.1) (λj O u=>(∃o9,O=[!l,!m,!b,!a,!w,o5,!M,!ld,-x,o9])/\af H2 u/\u al=some (.lst (ts.map λt=>V.ref t.1))/\u w=some (.dK (VD d λn=> .int ((cnt ss (L++[x]) n+(ts.drop j).countP λt=>decide (t.2[0]? =some n):Nat):Int)))/\u ld=some (.lst ((L++[x]).map V.str))/\∃Rj:ZB,u M=some (.lst (Rj.map V.str))/\(L++[x] ++Rj).Nodup/\∀y,y∈L++[x] ++Rj↔y∈d/\cnt ss (L++[x]) y+((ts.drop j).countP λt=>decide (t.2[0]? =some y))=0)
     %[%[_|rfl],u3,Y,by rw[ab];exact congrArg (λg=>some (HO.dK (VD d g))) (funext λn=>by rw[f0 n]),co,R1,cl,pr.nodup_iff.mpr B.nd|λy=>by rw[<-f0,pr.mem_iff];exact B.mem y] (λj O u _ h=>SqL.of h.2.2.1) ?_ ?_
    .intro j v O u hv %[%[o9|rfl],a5,G,N,ac,Rj,I,rn|rz];rw[Zl]at hv;have%[t,ht|rfl]:=map_eq_some_iff.mp hv;have jl:=(Xp ht).1;have%[n,z,et,hn|r]:=dd t (Z8 ht);have r:=a5 _ _ (ag _ _ r);have dr:ts.drop j=t::ts.drop (j+1):=by rw[List.drop_eq_getElem_cons jl,(Xp ht).2]
     rw[dr]at N rz;have get:=dw.k (k:=Sum.inr n) N;rw[oJ hn]at get;have dp:=(nodup_append.mp rn)
     have rl:Rj.length<=d.length:=by
      have:=STab.nodup_sub rn λy hy=>((rz y).mp hy).1
      rw[Z9]at this
      lia
     show bw _ _ _ [!l,!m,!b,!a,!w,o5,!M,!ld,-x,some (.ref t.1)] u;refine am λds de _=>?_
     lk;have one:∀y,(t::ts.drop (j+1)).countP (λt=>decide (t.2[0]? =some y))=((ts.drop (j+1)).countP λt=>decide (t.2[0]? =some y)) +if y=n then 1 else 0:=λy=>by
      rw[countP_cons,et];by_cases c:y=n
      .rw[if_pos c,if_pos (by rw[c];simp)]
      .rw[if_neg c,if_neg (by simpa using λq=>c q.symm)]
     refine%[_,SqT.of r,_,rfl,_,get,_,rfl,_,SqT.of r,_,rfl,_,ic.k (k:=Sum.inr n) N (by unfold VD;rw[Z6];exact aH ⋯)|de _ _ (aB λdt ct _=>?_)];rw[FZ hn];have e1:(λy=>if y=n then V.int (((cnt ss (L++[x]) n+(t::ts.drop (j+1)).countP λt=>decide (t.2[0]? =some n):Nat):Int) -1)else V.int ((cnt ss (L++[x]) y+(t::ts.drop (j+1)).countP λt=>decide (t.2[0]? =some y):Nat):Int))=λy=>V.int ((cnt ss (L++[x]) y+(ts.drop (j+1)).countP λt=>decide (t.2[0]? =some y):Nat):Int):=funext λy=>by
      rw[one,one];by_cases c:y=n
      .rw[if_pos c,c,if_pos rfl]
       congr 1
       lia
      .rw[if_neg c,if_neg c];rfl
     rw[e1];have v1:=af.set (o:= .dK (VD d λy=>V.int ((cnt ss (L++[x]) y+(ts.drop (j+1)).countP λt=>decide (t.2[0]? =some y):Nat):Int))) a5 fw;have a6:upd u w (.dK (VD d λy=>V.int ((cnt ss (L++[x]) y+(ts.drop (j+1)).countP λt=>decide (t.2[0]? =some y):Nat):Int))) w=_:=aa;have aq:∀c o,c≠w->u c=some o->upd u w (.dK (VD d λy=>V.int ((cnt ss (L++[x]) y+(ts.drop (j+1)).countP λt=>decide (t.2[0]? =some y):Nat):Int))) c=some o:=λc o h e=>(ak h)▸e
     generalize upd u w (.dK (VD d λy=>V.int ((cnt ss (L++[x]) y+(ts.drop (j+1)).countP λt=>decide (t.2[0]? =some y):Nat):Int)))=H9 at v1 a6 aq
     have r:=aq _ _ (λc=>by rw[c,N]at r;cases r) r;have G:=aq _ _ c7 G;have ac:=aq _ _ ch.symm ac;have I:=aq _ _ bl.symm I;have get:=dw.k (k:=Sum.inr n) a6;rw[oJ hn]at get;have cv:n∉L++[x] ++Rj:=λc=>by
      have:=((rz n).mp c).2;rw[one,if_pos rfl]at this
      lia
     have bb:∀y,y≠n->(y∈L++[x] ++Rj↔y∈d/\cnt ss (L++[x]) y+((ts.drop (j+1)).countP λt=>decide (t.2[0]? =some y))=0):=λy c=>by
      rw[rz y,one,if_neg c];rfl
     lk;refine%[_,SqT.of r,_,rfl,_,get,rfl|bH (λh=>?_) λh=>?_]
     .have h:cnt ss (L++[x]) n+((ts.drop (j+1)).countP λt=>decide (t.2[0]? =some n))=0:=by
       have:=V.int.inj (Zo h)
       lia
      have tr:t.1≠M:=λc=>by rw[c,I]at r;cases r
      refine%[.inl %[_|SqL.of I],_,SqT.of r,_,rfl,_,I,by rw[Z6];exact aH ⋯|ct _ _ %[%[_|rfl],af.set v1 bm,(ak da).trans G,(ak bl).trans a6,(ak b0.symm).trans ac,Rj++[n],by rw[aa,Zd];rfl,?_|λy=>?_]]
      .rw[<-Ze,X4];exact%[rn,by simp|λa ha b hb c=>cv (by rw[<-Xr hb,<-c];exact ha)]
      .rw[<-Ze,Yu,X1];by_cases c:y=n
       .rw[c];exact%[λ_=>%[hn|h]|λ_=> .inr rfl]
       .rw[<-bb y c];exact%[λq=>q.resolve_right c|.inl]
     .refine ct _ _ %[%[_|rfl],v1,G,a6,ac,Rj,I,rn|λy=>?_];by_cases c:y=n
      .rw[c];exact%[λq=>absurd q cv|λq=>absurd (Zf (congrArg (λi:Nat=>V.int i) q.2)) h]
      .exact bb y c
    .intro O u %[%[o9|rfl],a5,G,N,ac,Rj,I,rn|rz];rw[tm,List.drop_length]at N rz;refine c4 _ _ %[_,?_,o5,_,o9,L++[x],Rj,rfl,a5,N,I,ac,%[rn,rz|λi y hi y' e=>?_]|rfl]
     .rw[Z9,Ym]
      lia
     .by_cases il:i<L.length
      .rw[Ya il]at hi;rw[Xf (Yg il)];exact B.ord i y hi y' e
      .have ie:i=L.length:=by
        have:=(Xp hi).1;rw[Z9,Ym]at this
        lia
       subst ie;rw[Yb (Zi _),sub_self,List.getElem?_cons_zero]at hi;obtain rfl:=Za hi;rw[Xf (Zi _),List.take_length];exact BM ((B.mem x).mp (Yw _ U)).2 e
   .refine k7 _ _ ?_;lk;have R0:R=[]:=by
     cases R with
     | nil=>rfl
     | cons x R=>exact absurd (Zf (by rw[Zr];lia)) h
    subst R0;have mem:=B.mem;have nd:=B.nd;rw[Zz]at mem nd;refine kk ld H5 L (ag.trans sm) hL nd (λx U=>((mem x).mp U).1) B.ord λx U nx=>?_
    have:cnt ss L x≠0:=λc=>nx ((mem x).mpr %[U|c])
    have%[t,ht|q]:=List.countP_pos_iff.mp (pos_of_ne_zero this);have%[a,b,z,e,_|hb]:=(as t ht).2;rw[e]at q;simp only[Zx]at q;exact%[b,%[z|by rw[<-(Za (Zo q.1)),<-e];exact Xt %[t,ht|rfl]],hb|Zo q.2]
inductive uM (vs:ZM) (H:Hp) (Q:VK) (E0:XK):Prop
 | mk (l) (m) (ns) (ss) (z0:vs=[.ref l,.ref m]) (z1:H l=some (.lst (ns.map V.str))) (z2:ns.Nodup) (z3:ns.length<=80) (z4:H m=some (.lst (ss.map λt=>V.ref t.1))) (z5:dW H ns ss) (z6:ss.length<=150) (z7:∀r H' (us:ZB),af H H'->H' r=some (.lst (us.map V.str))->(∀x∈ns,Rch (ss.map (·.2)) x x->x∈us)->Q (.ref r) H'):uM vs H Q E0
structure oM (H:Hp) (ks:List ZB) (ss:ZG) (r:Addr) (ws:ZG) (x:Str):Prop where
 at_:H r=some (.lst (ws.map λt=>V.ref t.1))
 sub:∀t∈ws,t∈ss
 sho:Sho ks x x (ws.map (·.2))
 len:ws.length<=200
theorem oM.up(h:oM H ks ss r ws x)(s:af H a):oM a ks ss r ws x:=%[s _ _ h.at_,h.sub,h.sho|h.len]
inductive uN (vs:ZM) (H:Hp) (Q:VK) (E0:XK):Prop
 | mk (l) (m) (ns) (ss) (z0:vs=[.ref l,.ref m]) (z1:H l=some (.lst (ns.map V.str))) (z2:ns.Nodup) (z3:ns.length<=80) (z4:H m=some (.lst (ss.map λt=>V.ref t.1))) (z5:dW H ns ss) (z6:ss.length<=150) (z7:(∀H',af H H'->(∀x,¬ Rch (ss.map (·.2)) x x)->Q .non H')) (z8:∀r H' ws x,af H H'->H r=none->oM H' (ss.map (·.2)) ss r ws x->(∀y n,Dst (ss.map (·.2)) y (n+1) y->ws.length<=n+1)->Q (.ref r) H'):uN vs H Q E0
theorem sC(T:Txt K mg):Cal P w K mg base 4 "never_laid" ["names","found"] uM:=by
 refine T.aO.cal pD (λH vs Q E h=>?_)
 .have%[l,m,a,ss,rfl,n,I,nl,J,g,i|M]:=h;refine%[rfl|λf C A outer s G=>?_];refine%[_,%["JEI,]sAF]t;~EA0B;~EAH]uA0A1BBB",0|G]|?_];show jy _ _ [!l,!m] H;lk;refine%[a,SqL.of n,⋯|λp N=>?_];have b:=af.upd (o:=fB w p (aA a)) N;have y:upd H p (fB w p (aA a)) p=_:=aa
  generalize upd H p (fB w p (aA a))=H1 at b y ⊢
  refine%[l,m,a,ss,rfl,b _ _ n,I,nl,b _ _ J,g.up b,i|λr H2 L z O U Y j _=>?_];have Ll:=STab.nodup_sub U Y;refine%[r,rfl,L,SqL.of O,⋯|λq fq=>?_];have B:=af.upd (o:=fB w q (aA L)) fq;have fl:=STab.nodup_sub (ce a) λx d=>aW.mp d
  refine%[_,(B _ _ (z _ _ y)),_,aa,⋯|λu ms fu e mn=>%[ms,aa,?_|λv us fv pu _=>?_]]
  .have:=STab.nodup_sub mn λx d=>aW.mp ((e x).mp d).1
   lia
  .refine M v _ us (b.trans (z.trans (B.trans ((af.upd fu).trans (af.upd fv))))) aa λx d rx=>?_
   rw[pu.mem_iff,e];exact%[aW.mpr d|λc=>Dd j (aW.mp c) rx]
theorem uO{d:ZB}{ss:ZG}(h:∀t∈ss,ei d t.2){x y:Str}(r:Rch (ss.map (·.2)) x y):x∈d:=by
 induction r with
 | one e=>
   have%[z|g]:=e;have%[t,i|f]:=Xs g;have%[a,b,c,e,j|_]:=h t i;rw[e]at f;exact((List.cons.inj f).1)▸j
 | more _ _ l=>exact l
theorem mt(T:Txt K mg):Cal P w K mg base 5 "shortest_ring" ["names","found"] uN:=by
 refine T.aN.cal bM (λH vs Q E h=>?_)
 .have%[l,m,U,ss,rfl,hl,nn,nl,hm,c,z,kn|ky]:=h;refine%[rfl|λf ai A outer s hr=>?_];refine%[_,%["JDG2H~.A1BDG3/DVTH]vA0A1BL4DG5H]wA2A4A4BEMZyK]x5/&ZoK~V3/wK:cdA5BcdA3BEG35OEI3",bM.nd|hr]|?_]
  show bw _ _ _ [!l,!m,none,none,none,none] H;refine am λD1 k1 _=>?_
  lk;refine%[m,U,ss,rfl,hm,c,z|λb H1 Y fb hb=>k1 _ _ (am λD2 k2 _=>?_)];lk;refine k2 _ _ (am λD3 k3 _=>ay λag hK=>?_);lk;refine%[l,m,U,ss,rfl,Y _ _ hl,nn,nl,Y _ _ hm,c.up Y,z|λr H2 us s2 I J=> .inl %[r,rfl,%[_|SqL.of I]|hK _ _ ?_]];have g:=Y.trans s2;refine bx (xs:=us.map V.str) (λi σ o=>(∃v o4 o5,σ=[!l,!m,!b,some v,o4,o5]/\((v= .non/\∀x∈us.take i,¬ Rch (ss.map (·.2)) x x)\/∃q ws x,v= .ref q/\H q=none/\oM o (ss.map (·.2)) ss q ws x/\∀y∈us.take i,∀n,Dst (ss.map (·.2)) y (n+1) y->ws.length<=n+1))/\af H2 o)
   %[%[_,_,_,rfl|.inl %[rfl|λx B=>(nomatch B)]]|λ_ _ e=>e] (λi σ o _ h=>SqL.of (h.2 _ _ I)) ?_ ?_
  .intro i x σ o B %[%[v,o4,o5,rfl|L]|j];rw[Zl]at B;have%[n,hn|rfl]:=map_eq_some_iff.mp B;have tk:us.take (i+1)=us.take i++[n]:=by rw[Xd,hn];rfl
   show bw _ _ _ [!l,!m,!b,some v,-n,o5] o;refine am λD4 k4 _=>?_
   lk;refine%[b,n,n,U,ss,rfl,hb.up (s2.trans j),c.up (g.trans j),z,λH3 C nr=>k4 _ _ (aB λD5 k5 _=>?_)|λq H3 ws C M G sub rr rl=>k4 _ _ (aB λD5 k5 _=>?_)]
   .lk;rw[if_neg ∅];refine k5 _ _ %[%[v,_,_,rfl|L.imp (λh=>%[h.1|λx B=>?_]) λ⟨q,ws,x,e,M,G,p⟩=>%[q,ws,x,e,M,G.up C|λy a m d=>?_]]|j.trans C]
    .rw[tk]at B;rcases Xq B with h'|h'
     .exact h.2 x h'
     .rw[Xr h'];exact nr
    .rw[tk]at a;rcases Xq a with h'|h'
     .exact p y h' m d
     .rw[Xr h']at d;exact(nr d.rch).elim
   .lk;rw[if_pos ∅];have wl:∀zs:ZG,(zs.map λt=>V.ref t.1).length=zs.length:=λzs=>Z6 _
    have u:=λm d=>by
     have:=rr.min m d;rwa[Z6]at this
    have put:(∀y∈us.take i,∀m,Dst (ss.map (·.2)) y (m+1) y->ws.length<=m+1)->D5.nx [!l,!m,!b,!q,-n,!q] H3:=λp=>k5 _ _ ⟨%[_,_,_,rfl|.inr ⟨q,ws,n,rfl,(g.trans j).free M,%[G,sub,rr|rl],λy a m d=>by
     rw[tk]at a;rcases Xq a with h'|h'
     .exact p y h' m d
     .rw[Xr h']at d;exact u m d⟩],j.trans C⟩
    rcases L with⟨rfl,ab⟩|⟨q',N,x',rfl,ac,O,p⟩
    .rw[if_pos ∅];exact put λy a m d=>(ab y a d.rch).elim
    .rw[if_neg ∅];refine%[_,.inl %[_,SqL.of G|(wl ws).symm],_,.inl %[_,SqL.of (C _ _ O.at_)|(wl N).symm]|bH (λlt=>put λy a m d=>?_) λlt=>k5 _ _ %[%[_,_,_,rfl|.inr %[q',N,x',rfl,ac,O.up C|λy a m d=>?_]]|j.trans C]]
     .have:=p y a m d;have:=Zo lt
      lia
     .rw[tk]at a;rcases Xq a with h'|h'
      .exact p y h' m d
      .rw[Xr h']at d;have:=u m d
       lia
  .intro σ o %[%[v,o4,o5,rfl|L]|j];rw[(Z6 _),Zn (Zi _)]at L;refine k3 _ _ ?_;lk;rcases L with⟨rfl,h⟩|⟨q,ws,x,rfl,M,G,p⟩
   .exact kn o (g.trans j) λx rx=>h x (J x (uO (λt ht=>(c t ht).2) rx) rx) rx
   .exact ky q o ws x (g.trans j) M G λy n d=>p y (J y (uO (λt ht=>(c t ht).2) d.rch) d.rch) n d
theorem oN{S:Str->Str->Prop}(h:cG S z m)(c:cu S z x):cG S x m:=%[c.symm.trans h.1|λy d=>h.2 y (c.trans d)]
theorem iH(h:cC H ls qs)(a b:Str)(s:ck qs a b):a∈ls/\b∈ls:=by
 have%[q,c|e]:=s;rcases(h q c).2 with⟨wd,x,y,d,_,f,g,_⟩|⟨wd,x,y,d,_⟩
 .simp_all
 grind
structure jv (mg:ZC) (H:Hp) (g:Addr) (qs:ZN) (ls:ZB) (ts:ZG):Prop where
 gr:∃c2 c3 c4,GrF mg H g c2 c3 c4 qs ls ts
 nd:ls.Nodup
 so:ls.Pairwise (λa b=>aK b a=false)
 ll:ls.length<=80
 tl:ts.length<=150
 t3:∀k∈ts.map (·.2),ei ls k
 sm:∀k∈ts.map (·.2),∀z∈k,Sml z
 lm:∀z∈ls,Sml z
theorem jv.up(h:jv mg H g qs ls ts)(s:af H a):jv mg a g qs ls ts:=by
 have%[b,c,d|e]:=h.gr;exact%[%[b,c,d|e.up s],h.nd,h.so,h.ll,h.tl,h.t3,h.sm|h.lm]
theorem jv.ends(h:jv mg H g qs ls ts)(f:dh (ck qs) (ts.map (·.2)) lk)(i:k∈lk):∃a b z,k=[a,b,z]/\(a∈ls/\cG (ck qs) a a)/\b∈ls/\cG (ck qs) b b:=by
 have%[q,r,s|j]:=h.gr;have%[a,b,z,l,m,n,c,d|rfl]:=(f.mem k).mp i;have%[x,y,u,e,o|p]:=h.t3 _ n;simp only[List.cons.injEq,and_true]at e;have%[rfl,rfl|rfl]:=e;have ws:=iH j.sa;exact%[l,m,z,rfl,%[c.1.within ws o|oN c c.1],d.1.within ws p|oN d d.1]
theorem jv.short(h:jv mg H g qs ls ts)(d:dh (ck qs) (ts.map (·.2)) lk)(f:k∈lk):k.length<=3/\∀z∈k,Sml z:=by
 have%[o,p,q|i]:=h.gr;have%[a,b,z,r,s,c,j,l|rfl]:=(d.mem k).mp f;have%[x,y,u,e,m|n]:=h.t3 _ c;simp only[List.cons.injEq,and_true]at e;have%[rfl,rfl|rfl]:=e;have ws:=iH i.sa;exact%[Zi _|FQ (h.lm _ (j.1.within ws m)) (h.lm _ (l.1.within ws n)) (h.sm _ c z ∅)]
theorem jv.names(h:jv mg H g qs ls ts)(d:dh (ck qs) (ts.map (·.2)) lk)(c:DK (ck qs) ls f):∀k∈lk,ei f k:=λk i=>by
 have%[a,b,z,e,j|l]:=h.ends d i;exact%[a,b,z,e,(c.mem a).mpr j|(c.mem b).mpr l]
theorem jv.ties(h:jv mg H g qs ls ts)(c:dh (ck qs) (ts.map (·.2)) lk):∀k∈lk,ei ls k:=λk d=>by
 have%[a,b,z,e,f|i]:=h.ends c d;exact%[a,b,z,e,f.1|i.1]
theorem uP(a:aG H ss)(h:∀k∈ss.map (·.2),ei b k):dW H b ss:=λt q=>%[(a t q).2|h _ (Xt %[t,q|rfl])]
inductive xq (mg:ZC) (vs:ZM) (H:Hp) (Q:VK) (E0:XK):Prop
 | mk (g:Addr) (qs:ZN) (ls:ZB) (ts:ZG) (z0:vs=[.ref g]) (z1:jv mg H g qs ls ts) (z2:∀H' lk,af H H'->dh (ck qs) (ts.map (·.2)) lk->((∀x,¬ Rch lk x x)->Q .non H')/\∀r ws x,H r=none->H' r=some (.lst (ws.map λt=>V.ref t.1))->aG H' ws->Sho lk x x (ws.map (·.2))->ws.length<=200->(∀y n,Dst lk y (n+1) y->ws.length<=n+1)->Q (.ref r) H'):xq mg vs H Q E0
theorem BN(T:Txt K mg):Cal P w K mg base 6 "ring" ["ground"] (xq mg):=by
 refine T.aM.cal De (λH vs Q E h=>?_)
 .have%[g,qs,ls,ts,rfl,a|o]:=h;refine%[rfl|λf C A outer s i=>?_];have%[p,q,u|v]:=a.gr;have Y:=a.ll;refine%[_,%["JEIH]yAH]zA0BAH]!A0BB",0|i]|?_];refine%[g,p,q,u,qs,ls,ts,rfl,v,a.nd,a.so,⋯|λl H1 G y fl I d=>?_];refine%[g,p,q,u,qs,ls,ts,rfl,v.up y,a.nd,a.so,⋯,a.tl,a.t3|λm H2 ss z fm J j lk L=>?_];have b:=y.trans z;refine%[l,m,G,ss,rfl,z _ _ I,d.nd,?_,J,uP j (a.names lk d),L,λn e M=>(o n _ (b.trans e) lk).1 M|λr n ws x e N c O=>(o n _ (b.trans e) lk).2 r ws x (b.free N) c.at_ (λt B=>%[(j t (c.sub t B)).1|e _ _ (j t (c.sub t B)).2]) c.sho c.len O];have:=STab.nodup_sub d.nd λx U=>((d.mem x).mp U).1
  lia
theorem wt{S:Str->Str->Prop}{P:Str->Prop}{x y:Str}(h:cu S x y)(e:P x)(d: ¬ P y):∃a b,(S a b\/S b a)/\P a/\ ¬ P b/\cu S x a:=by
 induction h with
 | refl=>exact(d e).elim
 | @step y z c s f=>
   by_cases p:P y
   .exact%[y,z,s,p,d|c]
   .exact f p
structure Rnd (ls:ZB) (S:Str->Str->Prop) (f:Str->Str) (r:Nat):Prop where
 con:∀z∈ls,cu S z (f z)
 dn:∀z∈ls,aK z (f z)=false
 cnt:∀m∈ls,cG S m m->(∀z∈ls,cu S m z->f z=m)\/r+1<=(ls.filter λz=>decide (f z=m)).length
theorem Rnd.nil{ls:ZB}{S:Str->Str->Prop}:Rnd ls S id 0:=%[λz _=> .refl z,λz _=>cF z|λm a _=> .inr (List.length_pos_of_mem (List.mem_filter.mpr %[a|Zf rfl]))]
structure Mid (ls:ZB) (S T:Str->Str->Prop) (f g:Str->Str):Prop where
 con:∀z∈ls,cu S z (g z)
 le:∀z∈ls,aK (f z) (g z)=false
 don:∀a b,T a b->aK (f a) (g b)=false/\aK (f b) (g a)=false
theorem eL{x y z:Str}(b:aK y x=false)(a:aK z y=false):aK z x=false:=by
 cases h:aK z x
 .rfl
 .by_cases e:y=x
  .grind
  .rw[dD h (dE b e)]at a;cases a
theorem Mid.step{ls:ZB}{S T:Str->Str->Prop}{f g:Str->Str}{a b:Str}(h:Mid ls S T f g)(ws:∀x y,S x y->x∈ls/\y∈ls)(s:S a b)(sub:∀x y,T x y->S x y){v:Str}(j:v=if aK (g b) (g a)=true then g b else g a):
 Mid ls S (λx y=>T x y\/(x=a/\y=b)) f (λx=>if x=b then v else if x=a then v else g x):=by
 have%[l|m]:=ws _ _ s;have v1:aK (g a) v=false:=by
  rw[j];split
  .cases q:aK _ _
   .rfl
   .rename_i c;have:=dD c q;rw[cF]at this;cases this
  .exact cF _
 have n:aK (g b) v=false:=by
  rw[j];split
  .exact cF _
  .rename_i c;simpa using c
 have o:cu S a v:=by
  rw[j];split
  .exact(cu.one (.inl s)).trans (h.con b m)
  .exact h.con a l
 have d:∀x∈ls,aK _ (if x=b then v else if x=a then v else g x)=false:=λx _=>by
  split
  .rename_i e;rw[e];exact n
  .split
   .rename_i e;rw[e];exact v1
   .exact cF _
 refine%[λz i=>?_,λz i=>eL (d z i) (h.le z i)|λx y t=>?_]
 .split
  .rename_i e;rw[e];exact(cu.one (.inr s)).trans o
  .split
   .rename_i e;rw[e];exact o
   .exact h.con z i
 .rcases t with t|⟨rfl,rfl⟩
  .have%[p|r]:=ws _ _ (sub _ _ t);exact%[eL (d y r) (h.don x y t).1|eL (d x p) (h.don x y t).2]
  .refine%[?_|?_]
   .rw[if_pos rfl];exact eL v1 (h.le x l)
   .rw[if_pos rfl,ite_self];exact eL n (h.le y m)
theorem Rnd.step{ls:ZB}{S:Str->Str->Prop}{f g:Str->Str}{r:Nat}(h:Rnd ls S f r)(nd:ls.Nodup)(ws:∀x y,S x y->x∈ls/\y∈ls)(M:Mid ls S S f g):Rnd ls S g (r+1):=by
 refine%[M.con,λz d=>eL (M.le z d) (h.dn z d)|λm n p=>?_];have i:∀{y},cu S m y->aK m y=false->y=m:=λ{y} c l=>by
  by_cases q:y=m
  .exact q
  .have:=dE (p.2 _ c) q
   grind
 have j:∀z∈ls,f z=m->g z=m:=λz d e=>by
  have c:=h.con z d;have l:=M.le z d;rw[e]at c l;exact i (c.symm.trans (M.con z d)) l
 rcases h.cnt m n p with q|q
 .exact .inl λz d c=>j z d (q z d c)
 .by_cases all:∀z∈ls,cu S m z->f z=m
  .exact .inl λz d c=>j z d (all z d c)
  .obtain⟨z,d,c,ne⟩:∃z,z∈ls/\cu S m z/\f z≠m:=by
    simp_all
   have B:=i (h.con m n) (h.dn m n);have%[a,b,s,u,C|ca]:=wt (P:=λx=>f x=m) c B ne;have v:=s.elim (λs=>(ws _ _ s).2) λs=>(ws _ _ s).1
   have E:=i ((ca.trans (.one s)).trans (M.con b v)) (by
    rcases s with s|s
    .have:=(M.don a b s).1;rwa[u]at this
    .have:=(M.don b a s).2;rwa[u]at this)
   have:=STab.nodup_sub (m:=ls.filter λz=>decide (g z=m)) (nodup_cons.mpr %[λh=>C (Zo (List.mem_filter.mp h).2)|nd.sublist List.filter_sublist]) λx o=>by
    rcases mem_cons.mp o with rfl|o
    .exact List.mem_filter.mpr %[v|Zf E]
    .have%[A|G]:=List.mem_filter.mp o;exact List.mem_filter.mpr %[A|Zf (j x A (Zo G))]
   rw[Zr]at this;exact .inr ⋯
theorem BO{ls:ZB}{S:Str->Str->Prop}(ws:∀x y,S x y->x∈ls/\y∈ls):∀n {z:Str},xg ls z<=n->z∈ls->∃m,cG S z m:=λn=>by
 induction n with
 | zero=>
   intro z f a;refine%[z,.refl z|λy c=>?_];cases q:aK y z
   .rfl
   .have:=oC (c.within ws a) q
    lia
 | succ n g=>
   intro z f a;by_cases all:∀y,cu S z y->aK y z=false
   .exact%[z,.refl z|all]
   .simp only[Classical.not_forall]at all;have%[y,c|q]:=all;have b:=c.within ws a;have:=oC b (by simpa using q);have%[m|e]:=g ⋯ b;exact%[m,c.trans e.1|λu d=>e.2 u (c.symm.trans d)]
theorem Rnd.done{ls:ZB}{S:Str->Str->Prop}{f:Str->Str}(h:Rnd ls S f ls.length)(ws:∀x y,S x y->x∈ls/\y∈ls){z:Str}(b:z∈ls):f z∈ls/\cG S z (f z):=by
 have%[m|a]:=BO ws _ (Zi _) b;have d:=a.1.within ws b;have e:f z=m:=by
  rcases h.cnt m d %[.refl m|λy c=>a.2 y (a.1.trans c)]with q|q
  .exact q z b a.1.symm
  .have:=Yk (λz=>decide (f z=m)) ls
   lia
 rw[e];exact%[d|a]
theorem F0{h:Str->V}{z:Str}{v:V}{ls:ZB}(a:z∉ls):cB (ls.map λz=>((Sum.inr z:Key),h z)) (Sum.inr z) v=(ls.map λz=>((Sum.inr z),h z)) ++[(Sum.inr z,v)]:=by
 unfold cB
 simp_all
theorem sD{h:Str->V}:∀{ms ls:ZB},(ls++ms).Nodup->(ms.map λz=>((Sum.inr z:Key),h z)).foldl (λacc a=>cB acc a.1 a.2) (ls.map λz=>((Sum.inr z),h z))=(ls++ms).map λz=>((Sum.inr z),h z)
 |[],ls,_=>by simp
 | m::ms,ls,nd=>by
   have b:=λq=>(nodup_append.mp nd).2.2 m q m Zm rfl
   rw[Ys,Y9,F0 b,show(ls.map _) ++[(Sum.inr m,h m)]=(ls++[m]).map λz=>((Sum.inr z),h z) by simp,sD (by simpa using nd)];simp
theorem uQ{h:Str->V}{ls:ZB}(nd:ls.Nodup){ps:List (Addr×Str×V)}(e:ps.map (·.2)=ls.map λz=>(z,h z)):jT ps=ls.map λz=>((Sum.inr z),h z):=by
 have a:=congrArg (List.map λq=>((Sum.inr q.1:Key),q.2)) e;rw[Yt,Yt]at a;rw[show jT ps=(ps.map ((λq=>((Sum.inr q.1),q.2)) ∘ (·.2))).foldl (λacc b=>cB acc b.1 b.2) [] by rw[List.foldl_map];rfl,a];exact sD (ls:=[]) (by simpa using nd)
inductive qL (vs:ZM) (H:Hp) (Q:VK) (E0:XK):Prop
 | mk (l m:Addr) (ls:ZB) (qs:ZN) (z0:vs=[.ref l,.ref m]) (z1:H l=some (.lst (qs.map λq=>V.ref q.1))) (z2:H m=some (.lst (ls.map V.str))) (z3:cC H ls qs) (z4:ls.Nodup) (z5:ls.length<=80) (z6:∀d H' f,af H H'->H d=none->H' d=some (.dK (NmD ls f))->(∀z∈ls,f z∈ls/\cG (ck qs) z (f z))->Q (.ref d) H'):qL vs H Q E0
theorem sE(T:Txt K mg):Cal P w K mg base 1 "_law_called" ["_law_sayings","_law_layers"] qL:=by
 refine T.bh.cal cT (λH vs Q E h=>?_)
 .have%[l,m,ls,qs,rfl,hl,hm,sa,nd,aU|kk]:=h;refine%[rfl|λf aR A outer s hr=>?_];have qm:(qs.map λq=>V.ref q.1).length=qs.length:=Z6 _;have lm:(ls.map V.str).length=ls.length:=Z6 _;have ws:=iH sa;refine%[_,%["JDG2~/~:Ane?1T1X0?2rtA0A0BBDV%AcdA1BBL3EVT0L4EMKYQ4CfDG5~M~'Av2Q4CAv2Q4CBD*52Q4CE*52Q4COEI2",cT.nd,(show bT (ah gF) ["_law_sayings","_law_layers","_law_called_here","_law_turn","_law_saying_here","_law_least"] _ ["_law_layer"] []=true from by decide +kernel),(show(["_law_layer"]:ZB).Nodup from by decide +kernel)|hr]|?_]
  show bw _ _ _ [!l,!m,none,none,none,none] H;refine am λD1 k1 _=>?_
  lk;refine aJ λO hK=>?_
  lk;refine .inl %[%[_|SqL.of hm]|hK _ _ λF hF=>?_];refine bF (J:=Itl K m) (n:=ls.length) (D:=F) (λj vs B C=>(∃o1,B=[o1])/\af H C/\C F=some (.lst vs)/\∃ps:List (Addr×Str×V),vs=ps.map (λq=>V.ref q.1)/\ps.map (·.2)=(ls.take j).map (λz=>(z,V.str z))/\∀q∈ps,C q.1=some (.tup [.str q.2.1,q.2.2]))
   %[%[none|rfl],af.upd hF,aa,[],rfl,rfl|λq L=>(nomatch L)] (λj _ _ C hj ab=>%[_,V.str ls[j],SqL.of (ab.2.1 _ _ hm)|by simp[hj]]) (λ_ _ C ab=>%[_,SqL.of (ab.2.1 _ _ hm)|by simp]) ?_ ?_
  .intro j vs B H3 hj %[%[o1|rfl],s3,ai,ps,hv,G|ac] x H4 %[e2|hx];subst e2;have al:=hx _ (SqL.of (s3 _ _ hm));rw[Zl,Z4 hj]at al;obtain rfl:x=V.str ls[j]:=(Za al).symm;lk;refine%[#[2]|λp hp=>?_];have u:=af.upd (o:= .tup [V.str ls[j],V.str ls[j]]) hp;have gp:upd H4 p (.tup [V.str ls[j],V.str ls[j]]) p=_:=aa
   generalize upd H4 p (.tup [V.str ls[j],V.str ls[j]])=H6 at u gp ⊢
   have keep:=iT (ys:=vs++[V.ref p]) (u _ _ ai);have pl:=congrArg List.length G;rw[Z6,Z6,Yn]at pl;refine CK.mk hj (u _ _ ai) (by rw[hv,Z6];exact aH ⋯) %[%[_|rfl],af.set (s3.trans u) hF,aa,ps++[(p,ls[j],V.str ls[j])],by rw[hv,Zd];rfl,by rw[Zd,G,Xd,Z4 hj,Zd];rfl|λq L=>?_];rcases Xq L with h|h
   .exact keep _ _ (u _ _ (ac q h))
   .rw[Xr h];exact keep _ _ gp
  intro vs B H3 %[_,s3,an,ps,hv,G|ac];rw[Zn (Zi _)]at G;refine%[F,rfl,ps,by rw[<-hv];exact SqL.of an,ac|λd hd=>k1 _ _ (am λD2 k2 _=>ay λO hK=>?_)];rw[show jT ps=NmD ls id from uQ nd G];have s4:=s3.trans (af.upd (o:= .dK (NmD ls id)) hd);have gd:upd H3 d (.dK (NmD ls id)) d=_:=aa;have fd:=s3.free hd
  generalize upd H3 d (.dK (NmD ls id))=H4 at s4 gd
  lk;refine%[ls.length,.inl %[_,SqL.of (s4 _ _ hm)|lm.symm],⋯,⋯|hK _ _ (cy (λi B C=>∃U Y N f,B=[!l,!m,!d,U,Y,N]/\af H C/\C d=some (.dK (NmD ls f))/\Rnd ls (ck qs) f i)
   %[_,_,_,id,rfl,s4,gd|.nil] ?_ ?_)]
  .intro i B H5 hi %[U,Y,N,f,rfl,s5,ag|R];show uY _ _ _ _ [!l,!m,!d,some (.int (0+i)),Y,N] H5;refine aB λD6 k6 _=>ay λO hK=>?_
   lk;have aq:=s5 _ _ hl;refine .inl %[%[_|SqL.of aq]|hK _ _ (bx (xs:=qs.map λq=>V.ref q.1) (λj B C=>∃U Y N g,B=[!l,!m,!d,U,Y,N]/\af H C/\C d=some (.dK (NmD ls g))/\Mid ls (ck qs) (ck (qs.take j)) f g)
    %[_,_,_,f,rfl,s5,ag,R.con,λz _=>cF _|λa b ⟨q,L,_⟩=>(nomatch L)] (λj B C _ ⟨_,_,_,_,_,q,_⟩=>SqL.of (q _ _ hl)) ?_ ?_)]
   .intro j x B H6 hx %[U,Y,N,g,rfl,u,r|M];rw[Zl]at hx;have%[q,L|rfl]:=map_eq_some_iff.mp hx;have%[q1|q2]:=sa q (Z8 L);have st:=SqT.of (K:=K) (u _ _ q1);have I:=oE L;show ko _ _ _ _ [!l,!m,!d,U,some (.ref q.1),N] H6;refine aB λD7 k7 _=>?_
    lk;rcases q2 with⟨wd,a,b,e,hw,ha,hb,_⟩|⟨wd,a,y,e,hw,_⟩
    .rw[e]at st I;refine%[_,st,_,rfl,rfl|bH (λh=>?_) λh=>?_]
     .have h:wd=Str.ofString "same":=by simpa using h
      subst h;have get:∀y∈ls,dw H6 d (.str y) (some (.str (g y))):=λy hy=>by
       have:=dw.k (k:=Sum.inr y) r;rw[jr hy]at this;exact this
      have as:ck qs a b:=%[q,Z8 L|e]
      refine%[_,st,_,rfl,_,get a ha,_,st,_,rfl,_,get b hb,_,rfl,_,rfl|?_]
      generalize hv:(if aK (g b) (g a)=true then g b else g a)=v
      have hn:(NmD ls g).length<sizeLine:=by unfold NmD;rw[Z6];exact aH ⋯
      have ne:q.1≠d:=λc=>by have:=u _ _ q1;rw[c,r]at this;cases this
      have P1:=ic.k (k:=Sum.inr a) (v:= .str v) r hn;rw[sB ha]at P1;refine%[_,st,_,rfl,_,P1,_,SqT.of ((ak ne).trans ((u _ _ q1).trans (by rw[e]))),_,rfl|?_];have P2:=ic.k (k:=Sum.inr b) (v:= .str v) (H:=upd H6 d (.dK (NmD ls λx=>if x=a then v else g x))) aa (by unfold NmD;rw[Z6];exact aH ⋯);rw[sB hb,ww]at P2;refine%[_,P2|k7 _ _ %[_,_,_,_,rfl,af.set u fd,aa|?_]];have M2:=M.step ws as (λx y ⟨p,hp,e⟩=>%[p,Yz hp|e]) hv.symm;refine%[M2.con,M2.le|λx y t=>M2.don x y (((I x y).mp t).imp id λe=>?_)];simp only[List.cons.injEq,V.str.injEq,and_true,true_and]at e;exact%[e.1.symm|e.2.symm]
     .have h:wd≠Str.ofString "same":=by simpa using h
      refine k7 _ _ %[_,_,_,g,rfl,u,r,M.con,M.le|λx y t=>M.don x y (((I x y).mp t).resolve_right λe=>h ?_)];simp only[List.cons.injEq,V.str.injEq]at e;exact e.1
    .rw[e]at st I;refine%[_,st,_,rfl,rfl|?_];rw[if_neg (by rcases hw with rfl|rfl<;> decide)];refine k7 _ _ %[_,_,_,g,rfl,u,r,M.con,M.le|λx y t=>M.don x y (((I x y).mp t).resolve_right λe=>?_)];simp at e
   .intro B H6 %[U,Y,N,g,rfl,u,r|M];rw[qm,Zn (Zi _)]at M;exact k6 _ _ %[_,_,_,g,rfl,u,r|R.step nd ws M]
  .intro B H5 %[U,Y,N,f,rfl,s5,ag|R];refine k2 _ _ ?_;lk;exact kk d H5 f s5 fd ag λz hz=>R.done ws hz
theorem BP{u r:Str}{g:TG}{o:TS}{D:lU}{a:St}{H:Hp}(Pv:Nat->St->Hp->Prop)(s:Pv 0 a H)(z:r.cps.size=u.cps.size)
 (A:∀i c d T a H,u.cps[i]? =some c->r.cps[i]? =some d->Pv i a H->H T=none->g (.ref T) a (upd H T (.tup [.str ⟨([c].toArray)⟩,.str ⟨([d].toArray)⟩])) λb l=>o {D with nx:=Pv (i+1),ct:=Pv (i+1),bk:=D.nx} b l) (n:∀a H,Pv u.cps.size a H->D.nx a H):
 ∃W:Nat->Nat->St->Hp->Prop,(∃m,W 0 m a H)/\∀i m a H,W i m a H->
  ((Itz u r).stop i H/\D.nx a H)\/((Itz u r).go i H/\∃N:St->Hp->Prop,(∀f h,N f h->∃q,q<m/\W (i+1) q f h)/\∀x h,(Itz u r).yld i H x h->g x a h λb l=>o {D with nx:=N,ct:=N,bk:=D.nx} b l):=by
 refine%[λi m a H=>m=u.cps.size-i/\i<=u.cps.size/\Pv i a H,%[u.cps.size,by simp,Xh _|s]|?_];intro i m a H %[rfl,hi|p];by_cases j:i<u.cps.size
 .refine .inr %[%[j|⋯],Pv _,λf h B=>%[u.cps.size-(i+1),⋯,rfl,j|B]|λv h y=>?_];have%[c,d,TT,C,n,E,rfl|rfl]:=y;exact A i c d TT a H C n p E
 .have e:i=u.cps.size:=by lia
  subst e;exact .inl %[%[Zi _,⋯|.inl rfl]|n a H p]
def dM(a:List (List Key×V))(m:ZB->Prop):Prop:=∃ks:List ZB,a.map (·.1)=ks.map (λk=>k.map Sum.inr)/\ks.Nodup/\∀k,k∈ks↔m k
theorem uR{c:List _}{m g:ZB->Prop}(h:dM c m)(k:ZB)(v:V)(n:∀z,g z↔m z\/z=k):dM (cB c (k.map Sum.inr) v) g:=by
 have%[ks,f,i|r]:=h;have j:(k.map Sum.inr)∈c.map (·.1)↔k∈ks:=by
  rw[f,mem_map]
  constructor
  .rintro⟨z,o,e⟩;rw[<-mE _ _ e];exact o
  .intro d;exact%[k,d|rfl]
 by_cases d:k∈ks
 .refine%[ks,by rw[kK,if_pos (j.mpr d)];exact f,i|λz=>?_]
  simp_all
 .refine%[ks++[k],by rw[kK,if_neg (λq=>d (j.mp q)),f,Zd];rfl,?_|λz=>?_]
  .rw[X4];exact%[i,by simp|λa l b p e=>by rw[Xr p]at e;rw[e]at l;exact d l]
  simp_all
theorem eM{a:List _}{m b:ZB->Prop}(h:dM a m)(e:∀k,m k↔b k):dM a b:=by
 have%[ks,c,d|f]:=h;exact%[ks,c,d|λk=>(f k).trans (e k)]
theorem xt{a:List _}{m:ZB->Prop}{B:List _}(h:dM a m)(s:∀k,m k->k∈B):a.length<=B.length:=by
 have%[ks,b,c|d]:=h;have:=STab.nodup_sub c λk e=>s k ((d k).mp e)
 have l:=congrArg List.length b;rw[Z6,Z6]at l
 lia
theorem uS{rows:ZB}{i n:Nat}(h:i<=n){k:ZB}(a:k∈bv rows i):k∈bv rows n:=by
 have%[j,b|e]:=mem_flatMap.mp a;exact mem_flatMap.mpr %[j,mem_range.mpr (Zg (mem_range.mp b) h)|e]
theorem Dp{l:List _}{j:Nat}{k:ZB}(h:k∈(l.take j).filterMap dU):k∈l.filterMap dU:=by
 have%[p,a|e]:=mem_filterMap.mp h;exact mem_filterMap.mpr %[p,Yz a|e]
theorem F1{a:List _}{i:Nat}{k:ZB}(h:k∈bG (a.take i)):k∈bG a:=by
 have%[p,b|e]:=mem_flatMap.mp h;exact mem_flatMap.mpr %[p,Yz b|e]
theorem Dq{p:Nat×Nat}{k:ZB}(h:dU p=some k):[p].filterMap dU=[k]:=by simp_all
theorem Dr{p:Nat×Nat}(h:dU p=none):[p].filterMap dU=[]:=by simp_all
theorem qM(n:Str):Str.empty++n=n:=fc (by show(([].toArray) ++n.cps).toList=_;simp)
theorem xu(n z:Str):n++Str.ofString "."++z=lnS n z:=by unfold lnS;rw[qM]
inductive lj (vs:ZM) (H:Hp) (Q:VK) (E0:XK):Prop
 | mk (l m u:Addr) (cs:ZH) (qs:ZN) (ls:ZB) (ks0:List ZB) (z0:vs=[.ref l,.ref m,.ref u]) (z1:H l=some (.lst (cI cs))) (z2:H m=some (.lst (qs.map λq=>V.ref q.1))) (z3:H u=some (.lst (ls.map V.str))) (z4:bZ H cs) (z5:cC H ls qs) (z6:ls.Nodup) (z7:ls.length<=80) (z8:qs.length<=60) (z9:(∀p∈cs,∀a,Let p.2.2 a->lnS p.2.1 (sgn a)∈ls)) (z10:ks0.length<=150) (z11:(∀k∈ks0,ei ls k)) (z12:(∀k,k∈ks0↔k∈bG cs\/k∈dg qs qs.length)) (z13:∀r H' (ss:ZG),af H H'->H r=none->H' r=some (.lst (ss.map λt=>V.ref t.1))->aG H' ss->dh (ck qs) ks0 (ss.map (·.2))->ss.length<=150->Q (.ref r) H'):lj vs H Q E0
theorem iI(T:Txt K mg):Cal P w K mg base 2 "_law_links" ["_law_cuts","_law_sayings","_law_layers"] lj:=by
 refine T.bi.cal bu (λH vs Q E h=>?_)
 .have%[l,m,u,cs,qs,ls,U,rfl,hl,hm,hu,ct,b0,nd,cv,c7,b1,b2,tok,a5|kk]:=h;refine%[rfl|λf c5 A outer s hr=>?_];have b3:(cI cs).length=cs.length:=Z6 _;have cM:(qs.map λq=>V.ref q.1).length=qs.length:=Z6 _;refine%[_,(QSs.h (aj (aQ 3 bu.nd rfl (aS (sE T) hr rfl #[(ae 1 rfl),(ae 2 rfl)]))
   (aj (aQ 4 bu.nd rfl Fy)
   (aj (cO PassesOwn.never rfl rfl (cN (K:=K) rfl (ae 0 rfl)) (f6 (K:=K) rfl rfl rfl (gsE rfl (aM 5 bu.nd rfl) (gsE rfl (aM 6 bu.nd rfl) db)))
   (aj (aQ 7 bu.nd rfl (bmO (K:=K) plainAttrs_str PySem.F.slot_str_split PySem.F.type_str_split wJ rfl (ae 6 rfl) #[dP]))
    (ar (cO PassesOwn.never rfl rfl (gO rfl T.ai rfl #[(opE m9 (cbO (cL (K:=K) rfl) T.a8 PySem.boot_len rfl #[(ae 7 rfl)]) aw)]) (aM 8 bu.nd rfl)
    (ar (cO PassesOwn.never rfl rfl (Ap rfl T.ae rfl rfl #[((ae 7 rfl)>>(ae 8 rfl)),((ae 7 rfl)>>(opE bU (ae 8 rfl) aw))]) (f6 (K:=K) rfl rfl rfl (gsE rfl (aM 9 bu.nd rfl) (gsE rfl (aM 10 bu.nd rfl) db)))
     (ar (ifS (wT (kB (bz d9 rfl (ae 9 rfl) dP) (im (bz d9 rfl (ae 9 rfl) (ae 10 rfl)))))
      (ar (iu hr rfl eBl (ae 4 rfl) (iW #[(dj hr (λ_ _=>rfl) (ae 3 rfl) (opE fA (opE fA (ae 5 rfl) dP) (ae 9 rfl))),(dj hr (λ_ _=>rfl) (ae 3 rfl) (opE fA (opE fA (ae 5 rfl) dP) (ae 10 rfl))),(ae 5 rfl)])))
      bn))))))))
   (aj (cO PassesOwn.never rfl rfl (gO rfl T.ai rfl #[(cbO (cL (K:=K) rfl) T.a8 PySem.boot_len rfl #[(ae 1 rfl)])]) (aM 11 bu.nd rfl)
   (ar (ifS (bz cE rfl (cr (K:=K) rfl (λ_ _=>rfl) ((ae 1 rfl)>>(ae 11 rfl)) aw) dP)
    (ar (iu hr rfl eBl (ae 4 rfl) (iW #[(dj hr (λ_ _=>rfl) (ae 3 rfl) (cr (K:=K) rfl (λ_ _=>rfl) ((ae 1 rfl)>>(ae 11 rfl)) aw)),(dj hr (λ_ _=>rfl) (ae 3 rfl) (cr (K:=K) rfl (λ_ _=>rfl) ((ae 1 rfl)>>(ae 11 rfl)) aw)),opE fA dP (ctO ⟨qU⟩ T.ab boot_str rfl #[(ae 11 rfl)])])))
    bn)))
   (ar (aT (cbO (yv rfl) T.a7 boot_sorted rfl #[(ae 4 rfl)]))))))))|?_]
  show bw _ _ _ [!l,!m,!u,none,none,none,none,none,none,none,none,none] H;refine am λD0 k0 _=>?_
  lk;refine%[m,u,ls,qs,rfl,hm,hu,b0,nd,cv|λd H0 g s0 fd a6 lg=>k0 _ _ (am λD1 k1 _=>?_)];have get:∀{H':Hp},H' d=some (.dK (NmD ls g))->∀y∈ls,dw H' d (.str y) (some (.str (g y))):=λ{H'} e y hy=>by
   have:=dw.k (k:=Sum.inr y) e;rw[jr hy]at this;exact this
  lk;intro L hL;refine k1 _ _ (am λD2 k2 _=>ay λai hK=>?_);lk;have s1:=af.upd (o:= .dT []) hL;have nL:L≠d:=λe=>by rw[e,a6]at hL;cases hL
  have a4:∀X:List ZB,(∀t∈X,t∈U)->∀k,k∈X.map (c6 g)->k∈U.map (c6 g):=λX h k hk=>by
   have%[t,ht|e]:=Xs hk;exact Xt %[t,h t ht|e]
  have kl:(U.map (c6 g)).length<=150:=by rw[Z6];exact b2
  refine .inl %[%[_|SqL.of (s1 _ _ (s0 _ _ hl))]|hK _ _ (bx (λi σ H'=>∃o5 o6 o7 o8 o9 C,σ=[!l,!m,!u,!d,!L,o5,o6,o7,o8,o9,C,none]/\af H0 H'/\∃G,H' L=some (.dT G)/\dM G λk=>k∈(bG (cs.take i)).map (c6 g))
   %[_,_,_,_,_,_,rfl,s1,[],aa,[],rfl,X7|λk=>Iff.rfl] (λi σ H' _ ⟨_,_,_,_,_,_,_,q,_⟩=>SqL.of (q _ _ (s0 _ _ hl))) ?_ ?_)]
  .intro i x σ H1 hx %[o5,o6,o7,o8,o9,C,rfl,sm,G,an|as];have hi:i<cs.length:=by rw[<-b3];exact(Xp hx).1
   obtain⟨q,hq,rfl⟩:∃q,cs[i]? =some q/\x=V.ref q.1:=by
    unfold cI at hx;rw[Zl,Z4 hi]at hx;exact%[cs[i],Z4 hi|(Za hx).symm]
   have a7:=Z8 hq;have ac:=ct q a7;have bb:∀S:List ZB,(∀k∈S,k∈bv q.2.2 (q.2.2.length-1))->∀k∈bG (cs.take i) ++S.map (gZ q.2.1),k∈U:=λS hS k hk=>by
    refine(a5 k).mpr (.inl ?_);rcases Xq hk with e|e
    .exact F1 e
    .have%[z,hz|rfl]:=Xs e;exact mem_flatMap.mpr %[q,a7|Xt %[z,hS z hz|rfl]]
   have b4:=kg ac.2.1;have a0:=b1 q a7;refine%[_,SqT.of (sm _ _ (s0 _ _ ac.1)),rfl,_,_,rfl,_,_,rfl,rfl|?_];have B:=kc hq;obtain⟨⟨a,n,rows⟩,e⟩:∃z,z=q:=%[q|rfl]
   subst e;have%[_,_|J]:=ac;have J:cf rows:=J;have a0:∀a,Let rows a->lnS n (sgn a)∈ls:=a0;have bb:∀S:List ZB,(∀k∈S,k∈bv rows (rows.length-1))->∀k∈bG (cs.take i) ++S.map (gZ n),k∈U:=bb;have B:bG (cs.take (i+1))=bG (cs.take i) ++(bv rows (rows.length-1)).map (gZ n):=B;have b4:n.length<=8:=b4;have%[wd,w1,w2|b5]:=J.wide;have c0:=J.text;have b6:=J.split;have da:=J.high;have dd:=J.pos;show bw _ _ _ [!l,!m,!u,!d,!L,-n,some (.str (Str.join nl rows)),o7,o8,o9,C,none] H1
   generalize Str.join nl rows=z at c0 b6
   refine am λD3 k3 _=>?_
   lk;refine%[by decide,Yi (by lia:z.length+2<=5000) (by decide)|λR hR=>k3 _ _ ?_];rw[show(Str.ofString "\n")=nl from rfl,b6];have sR:=af.upd (o:= .lst (rows.map V.str)) hR;have gR:upd H1 R (.lst (rows.map V.str)) R=_:=aa;have b7:=sR _ _ an;have b9:=sm.trans sR;have c1:R≠L:=λe=>by rw[e,an]at hR;cases hR
   generalize upd H1 R (.lst (rows.map V.str))=de at sR gR b7 b9
   refine aB λD4 k4 _=>ay λai hK=>?_
   lk;have en:((rows.length:Int) -1).toNat=rows.length-1:=by lia
   refine%[rows.length,.inl %[_,SqL.of gR|by simp],⋯,⋯|?_];rw[en];refine hK _ _ (cy (λj σ H2=>∃o8 o9 C,σ=[!l,!m,!u,!d,!L,-n,-z,!R,o8,o9,C,none]/\af H0 H2/\H2 R=some (.lst (rows.map V.str))/\∃G,H2 L=some (.dT G)/\dM G λk=>k∈(bG (cs.take i) ++(bv rows j).map (gZ n)).map (c6 g))
    %[_,_,_,rfl,b9,gR,G,b7|eM as λk=>by rw[show bv rows 0=[]from rfl,map_nil,Zz]] ?_ ?_)
   .intro j σ H2 hj %[o8,o9,C,rfl,I,a1,M,O|N];have hj:j<rows.length-1:=hj;show uY _ _ _ _ [!l,!m,!u,!d,!L,-n,-z,!R,some (.int ((0:Int) +(j:Int))),o9,C,none] H2;rw[Int.zero_add];refine aB λD5 k5 _=>ay λai hK=>?_
    lk;obtain⟨v,hv⟩:∃v,rows[j]? =some v:=%[rows[j]|by simp[show j<rows.length by lia]]
    obtain⟨r,ab⟩:∃r,rows[j+1]? =some r:=%[rows[j+1]|by simp[show j+1<rows.length by lia]]
    have ul:v.cps.size=wd:=b5 v (Z8 hv);have rl:r.cps.size=wd:=b5 r (Z8 ab);have aU:atI (rows.map V.str) (j:Int)=some (.str v):=cm (by rw[Zl,hv];rfl);have aR:atI (rows.map V.str) ((j:Int) +1)=some (.str r):=cm (j:=j+1) (by rw[Zl,ab];rfl);have g1:rows.getD j ⟨([].toArray)⟩=v:=by rw[Zc,hv];rfl
    have g2:rows.getD (j+1) ⟨([].toArray)⟩=r:=by rw[Zc,ab];rfl
    have ca:bv rows (j+1)=bv rows j++(List.zip v.cps.toList r.cps.toList).filterMap dU:=by rw[j8,g1,g2];rfl
    refine%[_,SqL.of a1,_,aU,_,SqL.of a1,_,aR,v,rfl,r,rfl|hK _ _ (BP (λt σ H3=>∃o9 C,σ=[!l,!m,!u,!d,!L,-n,-z,!R,some (.int (j:Int)),o9,C,none]/\af H0 H3/\H3 R=some (.lst (rows.map V.str))/\∃G,H3 L=some (.dT G)/\dM G λk=>k∈(bG (cs.take i) ++(bv rows j++((List.zip v.cps.toList r.cps.toList).take t).filterMap dU).map (gZ n)).map (c6 g))
     %[_,_,rfl,I,a1,M,O|eM N λk=>by rw[List.take_zero,List.filterMap_nil,Zz]] ⋯ ?_ ?_)]
    .intro t c e TT σ H3 hc he %[o9,C,rfl,bc,bf,Y,bl|ag] hT;have sT:=af.upd (o:= .tup [.str ⟨([c].toArray)⟩,.str ⟨([e].toArray)⟩]) hT;have cb:upd H3 TT (.tup [.str ⟨([c].toArray)⟩,.str ⟨([e].toArray)⟩]) TT=some (.tup [.str ⟨([c].toArray)⟩,.str ⟨([e].toArray)⟩]):=aa;have al:=bc.trans sT;have a2:=sT _ _ bf;have a3:=sT _ _ bl
     generalize upd H3 TT (.tup [.str ⟨([c].toArray)⟩,.str ⟨([e].toArray)⟩])=HT at cb al a2 a3
     refine%[_,SqT.of cb,rfl,_,_,rfl,_,_,rfl,rfl|?_];show ko _ _ _ _ [!l,!m,!u,!d,!L,-n,-z,!R,some (.int (j:Int)),some (.str ⟨([c].toArray)⟩),some (.str ⟨([e].toArray)⟩),none] HT;refine aB λD6 k6 _=>?_
     have nx:=om v r t c e hc he;have stay:dU (c,e)=none->dM Y λk=>k∈(bG (cs.take i) ++(bv rows j++((List.zip v.cps.toList r.cps.toList).take (t+1)).filterMap dU).map (gZ n)).map (c6 g):=λe=>eM ag λk=>by
      rw[<-nx,Y2,Dr e,Zz]
     lk;simp only[kW,wg];have c2:∀k∈bv rows j++((List.zip v.cps.toList r.cps.toList).take t).filterMap dU,k∈bv rows (rows.length-1):=λk hk=>by
      rcases Xq hk with e|e
      .exact uS ⋯ e
      .refine uS (i:=j+1) ⋯ ?_;rw[ca];exact Yw _ (Dp e)
     refine bH (λh1=>bH (λh2=>?_) λh2=>?_) λh1=>?_
     .have h2:c≠e:=by simpa using h2
      have h1:c≠46:=by simpa using h1
      have ed:(Str.ofString ".").length=1:=rfl;have l1:n.length+(Str.ofString ".").length<=sizeLine:=bE ⋯;have l2:∀c:Nat,(n++Str.ofString ".").length+(⟨([c].toArray)⟩:Str).length<=sizeLine:=λc=>bE (by
       have e:(n++Str.ofString ".").length=n.length+(Str.ofString ".").length:=size_append;have e1:(⟨([c].toArray)⟩:Str).length=1:=rfl
       lia)
      have%[lc|le]:=qC J (a:=c) (b:=e) %[h1,h2,j,t,v,r,hv,ab,hc|he];have cd:=al _ _ a6;rw[xu,xu];refine%[l1,l2 c,_,get cd _ (a0 c lc),l1,l2 e,_,get cd _ (a0 e le),#[3]|λp hp=>?_];have sp:=af.upd (o:= .tup [V.str (g (lnS n (sgn c))),V.str (g (lnS n (sgn e))),V.str n]) hp;have c3:=xt ag (a4 _ (bb _ c2));refine%[_,ic.t (k:=(c6 g (gZ n [sgn c,sgn e])).map Sum.inr) (sp _ _ a3) (by rw[aa];rfl) (by rw[PySem.sizeLine_eq];lia)|k6 _ _ %[_,_,rfl,λb o e=>by rw[ak (av e hL)];exact sp _ _ (al _ _ e),(ak c1).trans (sp _ _ a2),_,aa|uR ag _ _ λk=>?_]];rw[<-nx,Y2,Dq (if_pos %[h1|h2]),<-Ze,Zd (f:=gZ n),<-Ze,Zd,Yu];exact or_congr Iff.rfl X1
     .exact k6 _ _ %[_,_,rfl,al,a2,Y,a3|stay (if_neg λq=>q.2 (by simpa using h2))]
     .exact k6 _ _ %[_,_,rfl,al,a2,Y,a3|stay (if_neg λq=>q.1 (by simpa using h1))]
    .intro σ H3 %[o9,C,rfl,bc,bf,Y,bl|ag];rw[Zn (l:=List.zip v.cps.toList r.cps.toList) (by rw[length_zip];simp;lia),<-ca]at ag;exact k5 _ _ %[_,_,_,rfl,bc,bf,Y,bl|ag]
   .intro σ H2 %[o8,o9,C,rfl,I,a1,M,O|N];rw[<-B]at N;exact k4 _ _ %[_,_,_,_,_,_,rfl,I,M,O|N]
  .intro σ H1 %[o5,o6,o7,o8,o9,C,rfl,sm,G,an|as];rw[b3,Zn (Zi _)]at as;refine k2 _ _ (am λD3 k3 _=>ay λai hK=>?_);lk;have ch:=s0 _ _ hm;refine%[qs.length,.inl %[_,SqL.of (sm _ _ ch)|cM.symm],⋯,⋯|?_];rw[Int.toNat_natCast];refine hK _ _ (cy (λi σ H2=>∃bm,σ=[!l,!m,!u,!d,!L,o5,o6,o7,o8,o9,C,bm]/\af H0 H2/\∃G,H2 L=some (.dT G)/\dM G λk=>k∈(bG cs++dg qs i).map (c6 g))
    %[_,rfl,sm,G,an|eM as λk=>by rw[show dg qs 0=[]from rfl,Zz]] ?_ ?_)
   .intro i σ H2 hi %[bm,rfl,I,M,O|N];have hi:i<qs.length:=hi;show ko _ _ _ _ [!l,!m,!u,!d,!L,o5,o6,o7,o8,o9,C,some (.int ((0:Int) +(i:Int)))] H2;rw[Int.zero_add];refine aB λD4 k4 _=>?_
    obtain⟨q,hq⟩:∃q,qs[i]? =some q:=%[qs[i]|Z4 hi]
    have aq:atI (qs.map λq=>V.ref q.1) (i:Int)=some (.ref q.1):=cm (by rw[Zl,hq];rfl);have ac:=b0 q (Z8 hq);have st:=SqT.of (K:=K) (I _ _ (s0 _ _ ac.1));have sl:=SqL.of (K:=K) (I _ _ ch);have B:=eF hq;lk;rcases ac.2 with⟨wd,a,b,e,hw,ha,hb,_⟩|⟨wd,a,y,e,hw,_⟩
    .rw[e]at st B;refine%[_,sl,_,aq,_,rfl,_,st,_,rfl,rfl|bH (λbt=>?_) λbt=>?_]
     .rw[show jq i [V.str wd,V.str a,V.str b]=some [a,b,uE i]from if_pos (V.str.inj (Zo bt))]at B;have c4:(Str.ofString (toString (i:Int))).length<=21:=by
       have e:=PySem.int_text_length_le10 (a:=(i:Int)) (k:=20) (by decide) (by have:(i:Int).natAbs=i:=rfl;lia);rw[PySem.ofString_length];lia
      have e1:(Str.ofString "#").length=1:=by decide +kernel
      have cl:(i:Int).natAbs.log2<1920:=Nat.lt_of_le_of_lt (Nat.log2_le_self _) (by have:(i:Int).natAbs=i:=rfl;lia);have co:=I _ _ a6;refine%[_,sl,_,aq,_,rfl,_,st,_,rfl,_,get co a ha,_,sl,_,aq,_,rfl,_,st,_,rfl,_,get co b hb,cl,bE ⋯,#[3]|λp hp=>?_];rw[show Str.ofString "#"++Str.ofString (toString (i:Int))=uE i from by unfold uE;rw[qM]];have sp:=af.upd (o:= .tup [V.str (g a),V.str (g b),V.str (uE i)]) hp;have c3:=xt N (a4 _ λt ht=>(a5 t).mpr ((Xq ht).imp id λh=>?_))
      .refine%[_,ic.t (k:=(c6 g [a,b,uE i]).map Sum.inr) (sp _ _ O) (by rw[aa];rfl) (by rw[PySem.sizeLine_eq];lia)|k4 _ _ %[_,rfl,λb o e=>by rw[ak (av e hL)];exact sp _ _ (I _ _ e),_,aa|uR N _ _ λk=>?_]];rw[B,<-Ze,Zd,Yu];exact or_congr Iff.rfl X1
      .have%[j,hj|e]:=mem_filterMap.mp h;exact mem_filterMap.mpr %[j,mem_range.mpr (by have:=mem_range.mp hj;lia)|e]
     .rw[show jq i [V.str wd,V.str a,V.str b]=none from if_neg λz=>bt (Zf (by rw[z]))]at B;refine k4 _ _ %[_,rfl,I,M,O|?_];rw[B];exact eM N λk=>by rw[Option.toList_none,Zz]
    .rw[e]at st B;refine%[_,sl,_,aq,_,rfl,_,st,_,rfl,rfl|?_];rw[if_neg (by rcases hw with rfl|rfl<;> decide)];refine k4 _ _ %[_,rfl,I,M,O|?_];rw[B];exact eM N λk=>by show _↔_∈List.map _ (_++(_++[]));rw[Zz]
   .intro σ H2 %[bm,rfl,I,M,O|N];refine k3 _ _ ?_;lk;have%[ks,q1,q2|q3]:=N;have q3:∀k,k∈ks↔k∈U.map (c6 g):=λk=>by
     refine(q3 k).trans ?_;dsimp only;rw[mem_map,mem_map];exact exists_congr λt=>and_congr_left λ_=>by rw[a5,Yu]
    have lk:=oF tok (λz hz=>(lg z hz).2);have dk:ks.length<=150:=by
     have:=STab.nodup_sub q2 (m:=U.map (c6 g)) λk hk=>(q3 k).mp hk
     lia
    have h3:∀k∈ks,k.length=3:=λk hk=>by
     have%[a,b,z,a',b',_,_,_|rfl]:=(lk k).mp ((q3 k).mp hk);rfl
    refine%[M,O,ks,q1,3,h3,by decide,⋯|λr ss ab ta pm so=>?_];have s2:=af.upd (o:= .lst (ss.map λp=>V.ref p.1)) ab;exact kk r _ ss (s0.trans (I.trans s2)) (s0.free (I.free ab)) aa (aP ta λb z e=>s2 _ _ e) %[pm.nodup_iff.mpr q2,so|λk=>by rw[pm.mem_iff,q3,lk]] (by have:=pm.length_eq;rw[Z6]at this;lia)
theorem Dst.first{ks:List _}{a b:Str}{n:Nat}(h:Dst ks a (n+1) b):∃c,Ed ks a c/\Dst ks c n b:=by
 have%[us,d,f|g]:=h;cases us with
 | nil=>cases d
 | cons k r=>
   have%[c,z,e|h]:=g;exact%[c,%[z|by rw[<-e];exact f k Zm],r,by simpa using d,λk i=>f k (Zk _ i)|h]
structure Bfs (ks:List ZB) (st:Str) (T F:ZB) (k:Nat):Prop where
 lv:∀x∈T,∃m,m<=k/\Dst ks st m x
 fr:∀x∈F,Dst ks st k x
 key:∀n,1<=n->Dst ks st n st->∃x∈F,∃j,1<=j/\Dst ks x j st/\k+j<=n
theorem Bfs.nil{ks:List _}{st:Str}:Bfs ks st [st] [st] 0:=
 %[λx a=>%[0,Zi _|by rw[Xr a];exact .nil],λx a=>by rw[Xr a];exact .nil|λn h d=>%[st,mem_singleton.mpr rfl,n,h,d|⋯]]
theorem Bfs.step{ks:List _}{st:Str}{T F r f:ZB}{k:Nat}(h:Bfs ks st T F k)(A:∀x∈F,¬ Ed ks x st)(s:∀y,y∈f↔(∃x∈F,Ed ks x y)/\y∉T)(B:∀y,y∈r->y∈T\/y∈f):Bfs ks st r f (k+1):=by
 have u:∀x∈f,Dst ks st _ x:=λy l=>by
  have%[x,g|e]:=((s y).mp l).1;exact(h.fr x g).app e.dst
 refine%[λy l=>?_,u|λn=>?_]
 .rcases B y l with q|q
  .have%[m,C|d]:=h.lv y q;exact%[m,⋯|d]
  .exact%[k+1,Zi _|u y q]
 .induction n using Nat.strongRecOn with
  | _ n E=>
    intro n1 d;have%[x,g,j,N,G|le]:=h.key n n1 d;obtain⟨j,rfl⟩:∃i,j=i+1:=%[j-1|⋯]
    have%[y,e|o]:=Dst.first G
    have H:1<=j:=pos_of_ne_zero λz=>by
     subst z;have%[us,I,_|v]:=o;rw[length_eq_zero_iff.mp I]at v;rw[v]at e;exact A x g e
    by_cases q:y∈T
    .have%[m,C|J]:=h.lv y q;have%[L,p,M,a,b|c]:=E _ ⋯ ⋯ (J.app o);exact%[L,p,M,a,b|⋯]
    .exact%[y,(s y).mpr %[%[x,g|e]|q],j,H,o|⋯]
def eX(ks:List ZB)(S:Str->Prop)(v:V):Prop:=(v= .non/\∀x,S x->∀n,1<=n-> ¬ Dst ks x n x)\/∃n:Nat,v= .int n/\1<=n/\(∃y,Dst ks y n y)/\∀x,S x->∀m,1<=m->Dst ks x m x->n<=m
theorem eX.more{ks:List _}{S c:Str->Prop}{v:V}{st:Str}(h:eX ks S v)(f:∀n,1<=n->Dst ks st n st->∃m:Nat,v= .int m/\m<=n)(g:∀x,c x->S x\/x=st):eX ks c v:=by
 rcases h with⟨rfl,h⟩|⟨n,rfl,n1,y,h⟩
 .refine .inl %[rfl|λx b m a d=>?_];rcases g x b with q|rfl
  .exact h x q m a d
  .have%[_,e|_]:=f m a d;cases e
 .refine .inr %[n,rfl,n1,y|λx b m a d=>?_];rcases g x b with q|rfl
  .exact h x q m a d
  .have%[i,e|le]:=f m a d
   lia
theorem eX.found{ks:List _}{S b:Str->Prop}{v:V}{st:Str}{T F:ZB}{k:Nat}(h:eX ks S v)(B:Bfs ks st T F k){x:Str}(c:x∈F)(e:Ed ks x st)(lt:∀n:Nat,v= .int n->k<n)(f:∀x,b x->S x\/x=st):eX ks b (.int (k+1:Nat)):=by
 refine .inr %[k+1,rfl,⋯,%[st|(B.fr x c).app e.dst]|λy g m a d=>?_];rcases f y g with q|rfl
 .rcases h with⟨_,h⟩|⟨n,rfl,_,_,h⟩
  .exact(h y q m a d).elim
  .have:=h y q m a d;have:=lt n rfl
   lia
 .have%[_,_,j,i,_|le]:=B.key m a d
  lia
theorem oO{t:TT}{b:L2.St}{H:Hp}{Q:Bool->Hp->Prop}(h:∀K,(∀a,Q true a->K true a)->(∀a,Q false a->K false a)->t b H K):t b H Q:=h Q (λ_ q=>q) λ_ q=>q
theorem BQ{y:Str}:∀{T:ZB},(cA (T.map λz=>((Sum.inr z:Key),V.bl true)) (Sum.inr y)).isSome=decide (y∈T)
 |[]=>rfl
 | x::T=>by
   by_cases e:x=y
   .subst e;rw[Ys,dN rfl];simp
   .rw[Ys,cQ (λq=>e (Sum.inr.inj q)),BQ];have:y≠x:=λq=>e q.symm
    simp[this]
noncomputable def fs3(k:ZB):Str:=k.getD 0 Str.empty
noncomputable def sn3(k:ZB):Str:=k.getD 1 Str.empty
inductive uT (vs:ZM) (H:Hp) (Q:VK) (E0:XK):Prop
 | mk (r:Addr) (ns:ZB) (ss:ZG) (z0:vs=[.ref r]) (z1:H r=some (.lst (ss.map λt=>V.ref t.1))) (z2:dW H ns ss) (z3:ns.length<=60) (z4:ss.length<=150) (z5:∀H' v,af H H'->eX (ss.map (·.2)) (λ_=>True) v->Q v H'):uT vs H Q E0
theorem lq(T:Txt K mg):Cal P w K mg base 1 "_law_least_ring" ["_law_tied"] uT:=by
 refine T.bj.cal aF (λH vs Q E h=>?_)
 .have%[r,ns,ss,rfl,ag,aR,c2,bb|kk]:=h;refine%[rfl|λf c1 A outer s hr=>?_];have sm:(ss.map λt=>V.ref t.1).length=ss.length:=Z6 _;refine%[_,%["JDG1/DVT,~bA;~EAne?1T0X0?2rQ0CBBL2D(3ij]$]%2q]&D(4ijUA2BDG5CE~KZyK~;P4UB&ZoK~V1/wK:51DG5Fb5CD~P6jie?3T0X0?4^K_Q0CP1Q0CEMK_26DG15E(4ijUBD(4ij,~bA;~EAne?5T6X0?6^~U0P10BBEW]'](P3A~/~:Ane?7TP4X0?8rtA0AqBBBEI1",aF.nd,(show bT (ah bN) ["_law_tied","_law_least","_law_start","_law_there","_law_edge","_law_far","_law_ends"] _ ["_law_link"] []=true from by decide +kernel),(show(["_law_link"]:ZB).Nodup from by decide +kernel),(show bT (ah bN) ["_law_tied","_law_least","_law_start","_law_there","_law_edge","_law_far","_law_ends"] _ ["_law_link","_law_edge"] [(1,4)]=true from by decide +kernel),(show(["_law_link","_law_edge"]:ZB).Nodup from by decide +kernel),(show bT (ah bN) ["_law_tied","_law_least","_law_start","_law_there","_law_edge","_law_far","_law_ends"] _ ["_law_end","_law_there"] [(1,3)]=true from by decide +kernel),(show(["_law_end","_law_there"]:ZB).Nodup from by decide +kernel),(show bT (ah bN) ["_law_tied","_law_least","_law_start","_law_there","_law_edge","_law_far","_law_ends"] _ ["_law_end"] []=true from by decide +kernel),(show(["_law_end"]:ZB).Nodup from by decide +kernel)|hr]|?_]
  show bw _ _ _ [!r,none,none,none,none,none,none] H;refine am λD1 k1 _=>?_
  lk;refine k1 _ _ (am λD2 k2 _=>ay λai hK=>?_);lk;refine aJ λca cb=>?_
  lk;refine .inl %[%[_|SqL.of ag]|cb _ _ λF hF=>?_];refine bF (J:=Itl K r) (n:=ss.length) (D:=F) (λj vs O B=>(∃o1,O=[o1])/\af H B/\B F=some (.lst vs)/\vs=((ss.take j).map λt=>fs3 t.2).map V.str)
   %[%[none|rfl],af.upd hF,aa|rfl] (λj _ _ B C g=>%[_,V.ref ss[j].1,SqL.of (g.2.1 _ _ ag)|by simp[C]]) (λ_ _ B g=>%[_,SqL.of (g.2.1 _ _ ag)|by simp]) ?_ ?_
  .intro j vs O H3 C %[%[o1|rfl],s3,cd|L] x H4 %[e2|u];subst e2;have U:=u _ (SqL.of (s3 _ _ ag));rw[Zl,Z4 C]at U;obtain rfl:x=V.ref ss[j].1:=(Za U).symm;have%[q1,a,b,z,e|_]:=aR ss[j] (Ye C);lk;refine%[_,SqT.of (s3 _ _ q1),V.str (fs3 ss[j].2),by rw[e];rfl|CK.mk C cd (by rw[L,Z6,Z6,Yn];exact aH ⋯) %[%[_|rfl],af.set s3 hF,aa|?_]];rw[L,Xd,Z4 C,Zd,Zd];rfl
  intro vs O H1 %[_,s1,ch|L];rw[Zn (Zi _)]at L;subst L;lk;have mem:∀t∈ss,fs3 t.2∈ns/\sn3 t.2∈ns:=λt ht=>by
   have%[_,a,b,z,e,ha|hb]:=aR t ht;rw[e];exact%[ha|hb]
  have cl:(aA (ss.map λt=>fs3 t.2)).length<64:=by
   have:=STab.nodup_sub (ce (ss.map λt=>fs3 t.2)) (m:=ns) λx u=>by
    have%[t,ht|rfl]:=Xs (aW.mp u);exact(mem t ht).1
   lia
  refine%[_,SqL.of ch,by rw[Z6];lia|λl fl=>%[_,aa,cl|λm us fm pm _=> .inl %[%[_|SqL.of aa]|hK _ _ ?_]]];have s2:=s1.trans ((af.upd (o:=fB w l (aA (ss.map λt=>fs3 t.2))) fl).trans (af.upd (o:= .lst (us.map V.str)) fm));have hm:upd (upd H1 l (fB w l (aA (ss.map λt=>fs3 t.2)))) m (.lst (us.map V.str)) m=_:=aa
  generalize upd (upd H1 l (fB w l (aA (ss.map λt=>fs3 t.2)))) m (.lst (us.map V.str))=H2 at s2 hm
  have um:(us.map V.str).length=us.length:=Z6 _;have ed:∀{x y},Ed (ss.map (·.2)) x y↔∃t∈ss,fs3 t.2=x/\sn3 t.2=y:=λ{x y}=>by
   constructor
   .rintro⟨z,hz⟩;have%[t,ht|e]:=Xs hz;exact%[t,ht,by rw[e];rfl|by rw[e];rfl]
   .rintro⟨t,ht,rfl,rfl⟩;have%[_,a,b,z,e|_]:=aR t ht;exact%[z|Xt %[t,ht|by rw[e];rfl]]
  have co:=s2 _ _ ag;refine bx (xs:=us.map V.str) (λi O B=>(∃v o2 o3 o4 o5 o6,O=[!r,some v,o2,o3,o4,o5,o6]/\eX (ss.map (·.2)) (λx=>x∈us.take i) v)/\af H2 B)
   %[%[_,_,_,_,_,_,rfl|.inl %[rfl|λx u=>(nomatch u)]]|λ_ _ e=>e] (λi O B _ h=>SqL.of (h.2 _ _ hm)) ?_ ?_
  .intro i x O H3 u %[%[v,o2,o3,o4,o5,o6,rfl|lr]|s3];rw[Zl]at u;have%[st,cs|rfl]:=map_eq_some_iff.mp u;have tk:∀x,x∈us.take (i+1)->x∈us.take i\/x=st:=λx u=>by
    rw[Xd,cs]at u;exact(Xq u).imp id Xr
   show bw _ _ _ [!r,some v,-st,o3,o4,o5,o6] H3;refine am λD3 k3 _=>?_
   lk;intro p fp;refine%[aa,[(Sum.inr st,.bl true)],rfl,(by decide:1<=15)|k3 _ _ (am λD4 k4 _=>?_)];have s4:=af.upd (o:= .dK [(Sum.inr st,.bl true)]) fp;rw[ww];have hp:upd H3 p (.dK [(Sum.inr st,.bl true)]) p=_:=aa;rw[show ig [] [((Sum.inr st:Key),V.bl true)]=[(Sum.inr st,.bl true)]from rfl]
   generalize upd H3 p (.dK [(Sum.inr st,.bl true)])=H4 at s4 hp
   lk;refine%[#[1]|λe fe=>k4 _ _ (am λD5 k5 _=>?_)];lk;refine k5 _ _ ?_;have s5:=s4.trans (af.upd (o:= .lst [.str st]) fe);have hp:=af.upd (o:= .lst [.str st]) fe _ _ hp;have he:upd H4 e (.lst [.str st]) e=_:=aa
   generalize upd H4 e (.lst [.str st])=H5 at s5 hp he
   refine⟨λm O B=>∃(v':V) (e:Addr) (o6:Option V) (k:Nat) (T F:ZB),O=[!r,some v',-st,!p,!e,some (.int k),o6]/\af H3 B/\B p=some (.dK (T.map λz=>(Sum.inr z,V.bl true)))/\B e=some (.lst (F.map V.str))/\T.Nodup/\(∀x∈T,x∈st::ns)/\m=2*(70-T.length) +F.length.min 1/\((v'=v/\Bfs (ss.map (·.2)) st T F k)\/(F=[]/\eX (ss.map (·.2)) (λx=>x∈us.take (i+1)) v')),
    %[_,v,e,_,0,[st],[st],rfl,s5,hp,he,by simp,by simp,rfl|.inl %[rfl|.nil]],?_⟩
   intro m O H6 %[v',e,o6,k,T,F,rfl,s6,ct,bc,Tn,Ts,rfl|bf];have c3:T.length<=61:=by
    have:=STab.nodup_sub Tn Ts;rw[Zr]at this
    lia
   refine oO λKt hT hF=>?_
   lk;refine%[#[0]|λq fq=>%[_,af.upd fq _ _ bc,aa|?_]];have s7:=s6.trans (af.upd (o:= .lst []) fq);have a1:=af.upd (o:= .lst []) fq _ _ ct;have bl:=af.upd (o:= .lst []) fq _ _ bc
   generalize upd H6 q (.lst [])=H7 at s7 a1 bl
   have done:eX (ss.map (·.2)) (λx=>x∈us.take (i+1)) v'->Kt false H7:=λh=>hF _ (by
    rw[if_neg ∅];exact%[%[v',_,_,_,_,_,rfl|h]|s3.trans s7])
   have go:F≠[]->v'=v->Bfs (ss.map (·.2)) st T F k->(∀n:Nat,v= .int n->k<n)->Kt true H7:=by
    rintro Fn rfl BF lt;refine hT _ ?_;rw[if_pos rfl];refine%[_,λ_ _ h=>h|?_];refine am λD6 k6 _=>?_
    lk;refine k6 _ _ (am λD7 k7 _=>aJ λai hK=>?_);lk;have aU:=s7 _ _ (s3 _ _ co);have cv:=s2.trans (s3.trans s7);refine .inl %[%[_|SqL.of aU]|hK _ _ λG hG=>?_];refine bF (J:=Itl K r) (n:=ss.length) (D:=G) (λj vs O B=>(∃o1,O=[o1,!e])/\af H7 B/\B G=some (.lst vs)/\vs=(((ss.take j).filter λt=>decide (fs3 t.2∈F)).map λt=>sn3 t.2).map V.str)
     %[%[none|rfl],af.upd hG,aa|rfl] (λj _ _ B C g=>%[_,V.ref ss[j].1,SqL.of (g.2.1 _ _ aU)|by simp[C]]) (λ_ _ B g=>%[_,SqL.of (g.2.1 _ _ aU)|by simp]) ?_ ?_
    .intro j vs O H8 C %[%[o1|rfl],s8,bm|L] x H9 %[e2|u];subst e2;have U:=u _ (SqL.of (s8 _ _ aU));rw[Zl,Z4 C]at U;obtain rfl:x=V.ref ss[j].1:=(Za U).symm;have%[q1,a,b,z,ez|_]:=aR ss[j] (Ye C);have bt:=SqT.of (K:=K) (s8 _ _ (cv _ _ q1));have b0:(ss.take (j+1)).filter (λt=>decide (fs3 t.2∈F))=(ss.take j).filter (λt=>decide (fs3 t.2∈F)) ++if fs3 ss[j].2∈F then [ss[j]]else []:=by
      rw[Xd,Z4 C,Y4];refine congrArg _ ?_;show List.filter _ [ss[j]]=_;rw[filter_cons];simp only[decide_eq_true_eq,Y8]
     lk;refine%[_,bt,V.str (fs3 ss[j].2),by rw[ez];rfl,_,.inl (SqL.of (s8 _ _ bl)),rfl,by simp[e7]|?_];rw[sj];refine bH (λh=>%[_,bt,V.str (sn3 ss[j].2),by rw[ez];rfl|CK.mk C bm (by rw[L,Z6,Z6];exact aH (Yi (Yk _ _) (by rw[Yn];lia))) %[%[_|rfl],af.set s8 hG,aa|?_]]) λh=>CN.mk C %[%[_|rfl],s8,bm|?_]
     .rw[L,b0,if_pos (Zo h),Zd,Zd];rfl
     .rw[L,b0,if_neg (λc=>h (Zf c)),Zz]
    intro vs O H8 %[_,s8,ac|L];rw[Zn (Zi _)]at L;subst L;refine k7 _ _ ?_;refine aB λD8 k8 _=>?_
    have em:∀y,y∈(ss.filter λt=>decide (fs3 t.2∈F)).map (λt=>sn3 t.2)↔∃x∈F,Ed (ss.map (·.2)) x y:=λy=>by
     rw[mem_map]
     constructor
     .rintro⟨t,ht,rfl⟩;have%[h1|h2]:=List.mem_filter.mp ht;exact%[_,Zo h2|ed.mpr %[t,h1,rfl|rfl]]
     .rintro⟨x,u,h⟩;have%[t,ht,rfl|rfl]:=ed.mp h;exact%[t,List.mem_filter.mpr %[ht|Zf u]|rfl]
    have el:((ss.filter λt=>decide (fs3 t.2∈F)).map λt=>sn3 t.2).length<=150:=by
     rw[Z6];exact Yi (Yk _ _) bb
    have a2:∀y∈(ss.filter λt=>decide (fs3 t.2∈F)).map (λt=>sn3 t.2),y∈ns:=λy hy=>by
     have%[t,ht|rfl]:=Xs hy;exact(mem t (List.mem_filter.mp ht).1).2
    generalize (ss.filter λt=>decide (fs3 t.2∈F)).map (λt=>sn3 t.2)=Y at em el a2 ac
    refine oO (t:=wB (tOp (Ag K) (lV 2) (lV 6))) λKt hT hF=>?_
    lk;refine%[_,.inl (SqL.of ac),rfl,by simp[e7]|?_];rw[sj];have b1:=s7.trans s8;by_cases c:st∈Y
    .rw[Zf c];refine hT _ ?_;rw[if_pos rfl];lk;refine%[#[0]|λq fq=>k8 _ _ %[_,?_,.int (k+1:Nat),q,_,k+1,T,[],rfl,b1.trans (af.upd fq),af.upd fq _ _ (s8 _ _ a1),aa,Tn,Ts,rfl|.inr %[rfl|?_]]]
     .have:1<=F.length:=length_pos_iff.mpr Fn;show 2*(70-T.length) +0<2*(70-T.length) +F.length.min 1;rw[show F.length.min 1=1 from Nat.min_eq_right this]
      lia
     .have%[x,u|h]:=(em st).mp c;exact lr.found BF u h lt tk
    .rw[Zh c];refine hF _ ?_;rw[if_neg ∅];refine am λD9 k9 _=>?_
     lk;refine aJ λai hK=>?_
     lk;refine .inl %[%[_|SqL.of ac]|hK _ _ λM hM=>?_];have b2:=s8 _ _ a1;refine bF (J:=Itl K G) (n:=Y.length) (D:=M) (λj vs O B=>(∃o1,O=[o1,!p])/\af H8 B/\B M=some (.lst vs)/\vs=((Y.take j).filter λy=>decide (y∉T)).map V.str)
      %[%[none|rfl],af.upd hM,aa|rfl] (λj _ _ B C g=>%[_,V.str Y[j],SqL.of (g.2.1 _ _ ac)|by simp[C]]) (λ_ _ B g=>%[_,SqL.of (g.2.1 _ _ ac)|by simp]) ?_ ?_
     .intro j vs O H9 C %[%[o1|rfl],s9,b3|L] x b4 %[e2|u];subst e2;have U:=u _ (SqL.of (s9 _ _ ac));rw[Zl,Z4 C]at U;obtain rfl:x=V.str Y[j]:=(Za U).symm;have b5:(Y.take (j+1)).filter (λy=>decide (y∉T))=(Y.take j).filter (λy=>decide (y∉T)) ++if Y[j]∉T then [Y[j]]else []:=by
       rw[Xd,Z4 C,Y4];refine congrArg _ ?_;show List.filter _ [Y[j]]=_;rw[filter_cons];simp only[decide_eq_true_eq,Y8]
      lk;refine%[_,dw.k (k:=Sum.inr Y[j]) (s9 _ _ b2)|?_];rw[BQ];refine bH (λh=>CK.mk C b3 (by rw[L,Z6];exact aH (Yi (Yk _ _) (by rw[Yn];lia))) %[%[_|rfl],af.set s9 hM,aa|?_]) λh=>CN.mk C %[%[_|rfl],s9,b3|?_]
      .rw[L,b5,if_pos (by simpa using h),Zd];rfl
      .rw[L,b5,if_neg (by simpa using h),Zz]
     intro vs O H9 %[_,s9,cM|L];rw[Zn (Zi _)]at L;subst L;have b6:∀y,y∈aA (Y.filter λy=>decide (y∉T))↔y∈Y/\y∉T:=λy=>by rw[aW,List.mem_filter,decide_eq_true_eq]
     have f9:(aA (Y.filter λy=>decide (y∉T))).length<=60:=by
      have:=STab.nodup_sub (ce (Y.filter λy=>decide (y∉T))) (m:=ns) λx u=>a2 x ((b6 x).mp u).1
      lia
     refine%[M,rfl,_,SqL.of cM,by have:=Yk (λy=>decide (y∉T)) Y;lia|λl fl=>%[_,aa,⋯|λq I fq a3 _=>k9 _ _ ?_]];have a4:=s9.trans ((af.upd (o:=fB w l (aA (Y.filter λy=>decide (y∉T)))) fl).trans (af.upd (o:= .lst (I.map V.str)) fq));have hq:upd (upd H9 l (fB w l (aA (Y.filter λy=>decide (y∉T))))) q (.lst (I.map V.str)) q=_:=aa
     generalize upd (upd H9 l (fB w l (aA (Y.filter λy=>decide (y∉T))))) q (.lst (I.map V.str))=b4 at a4 hq
     have Fm:∀y,y∈I↔(∃x∈F,Ed (ss.map (·.2)) x y)/\y∉T:=λy=>by rw[a3.mem_iff,b6,em]
     have Fd:I.Nodup:=a3.nodup_iff.mpr (ce _);have Fl:I.length<=60:=by rw[a3.length_eq];exact f9
     have al:=a4 _ _ b2;refine aB λc4 c0 _=>?_
     lk;refine%[.inr (.inr (.inl (.inl %[_|al])))|aJ λai hK=>?_];lk;refine .inl %[%[_|SqL.of hq]|hK _ _ λN hN=>?_];refine bF (J:=Itl K q) (n:=I.length) (D:=N) (λj vs O B=>(∃o1,O=[o1])/\af b4 B/\B N=some (.lst vs)/\∃ps:List (Addr×Str×V),vs=ps.map (λq=>V.ref q.1)/\ps.map (·.2)=(I.take j).map (λz=>(z,V.bl true))/\∀q∈ps,B q.1=some (.tup [.str q.2.1,q.2.2]))
      %[%[none|rfl],af.upd hN,aa,[],rfl,rfl|λq hq=>(nomatch hq)] (λj _ _ B C g=>%[_,V.str I[j],SqL.of (g.2.1 _ _ hq)|by simp[C]]) (λ_ _ B g=>%[_,SqL.of (g.2.1 _ _ hq)|by simp]) ?_ ?_
     .intro j vs O a5 C %[%[o1|rfl],an,b7,ps,L,aq|a6] x a7 %[e2|u];subst e2;have U:=u _ (SqL.of (an _ _ hq));rw[Zl,Z4 C]at U;obtain rfl:x=V.str I[j]:=(Za U).symm;lk;refine%[#[2]|λa fa=>?_];have s6:=af.upd (o:= .tup [V.str I[j],V.bl true]) fa;have gp:upd a7 a (.tup [V.str I[j],V.bl true]) a=_:=aa
      generalize upd a7 a (.tup [V.str I[j],V.bl true])=c5 at s6 gp ⊢
      have keep:=iT (ys:=vs++[V.ref a]) (s6 _ _ b7);have pl:=congrArg List.length aq;rw[Z6,Z6,Yn]at pl;refine CK.mk C (s6 _ _ b7) (by rw[L,Z6];exact aH ⋯) %[%[_|rfl],af.set (an.trans s6) hN,aa,ps++[(a,I[j],V.bl true)],by rw[L,Zd];rfl,by rw[Zd,aq,Xd,Z4 C,Zd];rfl|λq hq=>?_];rcases Xq hq with h|h
      .exact keep _ _ (s6 _ _ (a6 q h))
      .rw[Xr h];exact keep _ _ gp
     intro vs O a5 %[_,an,b9,ps,L,aq|a6];rw[Zn (Zi _)]at aq;refine%[N,rfl,ps,by rw[<-L];exact SqL.of b9,a6|λd fd=>?_];rw[uQ (h:=λ_=>V.bl true) Fd aq];have a0:=an.trans (af.upd (o:= .dK (I.map λz=>(Sum.inr z,V.bl true))) fd);have gd:upd a5 d (.dK (I.map λz=>(Sum.inr z,V.bl true))) d=_:=aa;have as:=a0 _ _ al;have ab:=a0 _ _ hq;have ne:p≠d:=λc=>by rw[<-c,an _ _ al]at fd;cases fd
     generalize upd a5 d (.dK (I.map λz=>(Sum.inr z,V.bl true)))=a7 at a0 gd as ab
     have TF:(T++I).Nodup:=nodup_append.mpr %[Tn,Fd|λa ha b hb e=>((Fm b).mp hb).2 (e▸ha)];refine%[d,rfl,_,_,ne,as,gd,by rw[Z6,Z6];exact bE ⋯|c0 _ _ ?_];rw[show ig (T.map λz=>((Sum.inr z:Key),V.bl true)) (I.map λz=>(Sum.inr z,V.bl true))=_ from sD TF];have qp:q≠p:=λc=>by rw[c,as]at ab;cases ab
     refine k8 _ _ %[_,?_,v',q,_,k+1,T++I,I,rfl,?_,aa,(ak qp).trans ab,TF,λx u=>?_,rfl|.inl %[rfl|BF.step (λx u h=>c ((em st).mpr %[x,u|h])) Fm λy hy=>Xq hy]]
     .have:1<=F.length:=length_pos_iff.mpr Fn;rw[show F.length.min 1=1 from Nat.min_eq_right this,Z9];have:=Nat.min_le_right I.length 1;have:=Nat.min_le_left I.length 1;show 2*(70-(T.length+I.length)) +min I.length 1<_
      lia
     .exact λb o hb=>by rw[ak (av hb fp)];exact a0 _ _ (a4 _ _ (b1 _ _ hb))
     .rcases Xq u with h|h
      .exact Ts x h
      .exact Zk _ (a2 x ((em x).mpr ((Fm x).mp h).1))
   refine bH (λh1=>?_) λh1=>?_
   .have Fn:F≠[]:=by simpa using h1
    have%[rfl|BF]:=bf.resolve_right λh=>Fn h.1
    rcases lr with⟨rfl,h⟩|⟨n,rfl,n1,y,h⟩
    .rw[if_pos ∅];exact go Fn rfl BF λn e=>by cases e
    .rw[if_neg ∅];refine%[_,rfl|?_];by_cases c:(k:Int)<n
     .rw[Zf c];exact go Fn rfl BF λm e=>by have:=V.int.inj e;lia
     .rw[Zh c];refine done (eX.more (.inr %[n,rfl,n1,y|h]) (λm m1 d=>%[n,rfl|?_]) tk);have%[_,_,j,_,_|le]:=BF.key m m1 d
      lia
   .have Fn:F=[]:=by simpa using h1
    subst Fn;rcases bf with⟨rfl,BF⟩|⟨_,h⟩
    .exact done (lr.more (λn n1 d=>by have%[x,u|_]:=BF.key n n1 d;cases u) tk)
    .exact done h
  .intro O H3 %[%[v,o2,o3,o4,o5,o6,rfl|lr]|s3];rw[um,Zn (Zi _)]at lr;refine k2 _ _ ?_;lk;have all:∀x n,1<=n->Dst (ss.map (·.2)) x n x->x∈us:=λx n n1 d=>by
    obtain⟨n,rfl⟩:∃i,n=i+1:=%[n-1|⋯]
    have%[c,e|_]:=Dst.first d
    have%[t,ht,rfl|_]:=ed.mp e;exact pm.mem_iff.mpr (aW.mpr (Xt %[t,ht|rfl]))
   refine kk H3 v (s2.trans s3) ?_;rcases lr with⟨rfl,h⟩|⟨n,rfl,n1,y,h⟩
   .exact .inl %[rfl|λx _ n n1 d=>h x (all x n n1 d) n n1 d]
   .exact .inr %[n,rfl,n1,y|λx _ m m1 d=>h x (all x m m1 d) m m1 d]
theorem sF{b:Str}:∀{us:List _} {a:Str},Wal us a b->∀i,i<us.length->∃p q z,us[i]? =some [p,q,z]/\(i=0->p=a)/\(∀k,us[i+1]? =some k->k[0]? =some q)/\(i+1=us.length->q=b)
 |[],_,_,_,h=>absurd h (X8 _)
 | k::r,a,⟨c,z,e,w⟩,0,_=>by
   refine%[a,c,z,by rw[e];rfl,λ_=>rfl,λm h'=>?_|λh'=>?_]
   .match r,w,h' with
    | k2::n,⟨o,s,d,_⟩,h'=>
      rw[<-Za (h'),d];rfl
   .match r,w,h' with
    |[],w,_=>exact w
    | _::_,_,h'=>exact absurd h' ∅
 | k::r,a,⟨c,z,e,w⟩,i+1,h=>by
   have%[p,q,f,g,_,j|l]:=sF w i (by simpa using h);exact%[p,q,f,g,λh=>absurd h ⋯,j|λh=>l (by simpa using h)]
theorem y6{ws:ZG}{x:Str}(w:Wal (ws.map (·.2)) x x){k:Nat}(g:k<ws.length):∃t∈ws,∃p q z b d,ws[k].2=[p,q,z]/\t.2=[b,p,d]/\atI (ws.map λt=>V.ref t.1) ((k:Int) -1)=some (.ref t.1):=by
 have u:(ws.map (·.2)).length=ws.length:=Z6 _;have a:∀(i:Nat) h l,(ws.map _)[i]? =some l->ws[i].2=l:=λi h l e=>by
  rw[Zl,Z4 h]at e;exact Za e
 have%[p,q,z,j,n,_|_]:=sF w k ⋯;have m:=a k g _ j;cases k with
 | zero=>
   have%[b,o,d,g1,_,_|r]:=sF w (ws.length-1) ⋯;have f:=a _ ⋯ _ g1;rw[r ⋯,<-n rfl]at f;refine%[_,Ye ⋯,p,q,z,b,d,m,f|?_];obtain⟨ys,y,rfl⟩:∃ys y,ws=ys++[y]:=%[ws.dropLast,ws.getLast (by intro c;rw[c]at g;exact absurd g (X8 _))|(List.dropLast_concat_getLast _).symm]
   rw[Zd,show((0:Nat):Int) -1= -1 from rfl,List.map_singleton,mP];simp
 | succ k=>
   have%[b,o,d,g1,_,g3|_]:=sF w k ⋯;have f:=a k ⋯ _ g1;have s:=g3 _ j;rw[<-Za s]at f;refine%[_,Ye ⋯,p,q,z,b,d,m,f|?_];rw[show((k+1:Nat):Int) -1=k by lia];exact cm (by rw[Zl,Z4 ⋯];rfl)
inductive qN (vs:ZM) (H:Hp) (Q:VK) (E0:XK):Prop
 | mk (l m:Addr) (ns:ZB) (ws ss:ZG) (x:Str) (z0:vs=[.ref l,.ref m,.int (ws.length:Int)]) (z1:H l=some (.lst (ws.map λt=>V.ref t.1))) (z2:aG H ws) (z3:ws.length<=200) (z4:H m=some (.lst (ss.map λt=>V.ref t.1))) (z5:dW H ns ss) (z6:Sho (ss.map (·.2)) x x (ws.map (·.2))) (z7:Q (.bl true) H):qN vs H Q E0
theorem jc(T:Txt K mg):Cal P w K mg base 1 "_law_is_ring" ["_law_found","_law_tied","_law_least"] qN:=by
 refine T.bm.cal iD (λH vs Q E h=>?_)
 .have%[l,m,M,ws,ss,x,rfl,a,y,B,N,j,b|O]:=h;refine%[rfl|λf J A outer s L=>?_];have C:(ws.map λt=>V.ref t.1).length=ws.length:=Z6 _;refine%[_,%["JDMZoma!$A0A?1BwKucdA0B2EIqODV%AcdA0BBL3EMZoma!$AR03A?2BoK])R031wKuQR03CQR0F>3CCEIqOEIq",iD.nd,(blE (v:= .ty "list") rfl T.a5 boot_list rfl rfl rfl),(blE (v:= .ty "tuple") rfl T.af boot_tuple rfl rfl rfl)|L]|?_]
  show bw _ _ _ [!l,!m,some (.int ws.length),none] H;refine am λD1 k1 _=>?_
  lk;refine%[.type "list",.lst a,true,by rfl|sU %[ws.length,.inl %[_,SqL.of a|C.symm]|?_]];rw[if_neg ∅];refine k1 _ _ (am λD2 k2 _=>ay λG U=>?_);lk;refine%[ws.length,.inl %[_,SqL.of a|C.symm],⋯,⋯|U _ _ ?_];rw[Int.toNat_natCast];refine cy (λi n e=>(∃o,n=[!l,!m,some (.int ws.length),o])/\e=H) %[%[_|rfl]|rfl] ?_ ?_
  .intro i n e hi %[%[o|rfl]|rfl];show ko _ _ _ _ [!l,!m,some (.int ws.length),some (.int (0+i))] e;rw[Int.zero_add];refine aB λD3 Y _=>?_
   lk;have%[t',r,p,q,z,p',z',e1,e2|ea]:=y6 b.wal hi;have c:=Ye hi;have u:atI (ws.map λt=>V.ref t.1) (i:Int)=some (.ref ws[i].1):=cm (by rw[Zl,Z4 hi];rfl);have g:=(y _ c).2;have I:=(y _ r).2;have d:=b.sub _ (Xt %[_,c|rfl]);rw[e1]at g d;rw[e2]at I;refine%[_,SqL.of a,_,u,.type "tuple",.tup g,true,by rfl|sU %[_,SqL.of a,_,u,_,_,_,ss,rfl,rfl,g,N,λt ht=>(j t ht).1,d,_,rfl|sU %[_,SqL.of a,_,u,_,rfl,_,SqT.of g,_,rfl,_,SqL.of a,_,ea,_,rfl,_,SqT.of I,_,rfl|?_]]];exact%[rfl|by rw[if_neg ∅];exact Y _ _ %[%[_|rfl]|rfl]]
  .intro n e %[%[o|rfl]|rfl];refine k2 _ _ ?_;lk;exact O
inductive oP (mg:ZC) (vs:ZM) (H:Hp) (Q:VK) (E0:XK):Prop
 | mk (g t:Addr) (qs:ZN) (ls:ZB) (ts ss:ZG) (z0:vs=[.ref g,.ref t]) (z1:jv mg H g qs ls ts) (z2:ls.length<=60) (z3:H t=some (.lst (ss.map λt=>V.ref t.1))) (z4:aG H ss) (z5:dh (ck qs) (ts.map (·.2)) (ss.map (·.2))) (z6:ss.length<=150) (z7:∀H',af H H'->Q (.bl true) H'):oP mg vs H Q E0
theorem iJ(T:Txt K mg):Cal P w K mg base 7 "_law_right" ["_law_ground_here","_law_tied"] (oP mg):=by
 refine T.bn.cal gG (λH vs Q E h=>?_)
 .have%[g,t,qs,ls,ts,ss,rfl,I,J,L,tu,lk,B|kk]:=h;refine%[rfl|λf al A outer s z=>?_];have M:=uP tu (I.ties lk);refine%[_,%["JDG2H]*A1BDG3H~<A0BDMK~V2/EIs~V3/ODMmaH~=A3A1A2BEIqODW]+],3EIH~=AH~<A0BA1A2B",gG.nd|z]|?_]
  show bw _ _ _ [!g,!t,none,none] H;refine am λD1 k1 _=>?_
  lk;refine%[t,ls,ss,rfl,L,M,J,B|λH1 v N lr=>k1 _ _ (am λD2 k2 _=>?_)];lk;refine%[g,qs,ls,ts,rfl,I.up N|λH2 an s2 C=>?_];obtain rfl:=lk.one C;have c:=N.trans s2;rcases lr with⟨rfl,no⟩|⟨n,rfl,n1,⟨y,dy⟩,mn⟩
  .refine%[λ_=>k2 _ _ (am λD3 _ r3=>?_)|λr ws x _ _ _ a _ _=>?_]
   .lk;rw[if_pos ∅,show decide True=true from rfl];exact r3 _ _ (kk H2 c)
   .have%[n,_|d]:=a.dst;exact(no x trivial (n+1) ⋯ d).elim
  .refine%[λO=>?_|λr ws x fr l tw a G U=>k2 _ _ (am λD3 k3 _=>?_)]
   .obtain⟨n,rfl⟩:∃i,n=i+1:=%[n-1|⋯]
    exact(O y dy.rch).elim
   .have wn:∀{ws:ZG} {x:Str},Sho _ x x (ws.map (·.2))->(∀y n,Dst _ y (n+1) y->ws.length<=n+1)->ws.length=n:=λ{ws x} a U=>by
     have%[m,e|d]:=a.dst;rw[Z6]at e;have:=mn x trivial (m+1) ⋯ d;obtain⟨i,rfl⟩:∃i,n=i+1:=%[n-1|⋯]
     have:=U y i dy
     lia
    have e:=wn a U;lk;refine k3 _ _ (am λD4 k4 _=>?_);lk;refine%[r,t,ls,ws,ss,x,by rw[e],l,tw,G,c _ _ L,M.up c,a|?_];lk;refine k4 _ _ (am λD5 k5 _=>?_);lk;refine%[.inl %[_|SqL.of l],%[_|l]|k5 _ _ ?_];have s3:af H (upd H2 r (.lst [])):=λb o hb=>by rw[ak (av (N _ _ hb) fr)];exact c _ _ hb
    lk;refine%[g,qs,ls,ts,rfl,I.up s3|λH4 ai s4 p=>?_];obtain rfl:=lk.one p;refine%[λO=>(O x a.rch).elim|λr' Y x' _ ab ac j q ag=>?_];have e':=wn j ag;have u:=s3.trans s4;exact%[r',t,ls,Y,ss,x',by rw[e'],ab,ac,q,u _ _ L,M.up u,j|kk H4 u]
def F2(ws:ZG):Prop:=∀p∈ws,p.2.length<=3/\∀z∈p.2,Sml z
inductive sG (C:Addr) (vs:ZM) (H:Hp) (Q:VK) (E0:XK):Prop
 | mk (a r:Addr) (ws:ZG) (z0:vs=[.ref a,.ref r]) (z1:H r=some (.lst (ws.map λt=>V.ref t.1))) (z2:aG H ws) (z3:ws.length<=100) (z4:F2 ws) (z5:H a=some (ExO a C none)) (z6:∀l d,H l=none->H d=none->d≠l->Q .non (upd (upd (upd H l (.lst (ws.map λt=>V.ref t.1))) a (ExO a C (some d))) d (.xd [("ring",.ref l)]))):sG C vs H Q E0
theorem C_Torn(T:Txt K mg):Fh P w K mg base 1 "Torn" ["self","ring"] (sG (be mg "Torn")):=by
 refine T.x_Torn.cal sd (by intro a b c d h;have%[_,_,_,rfl|_]:=h;rfl) (λf m A outer s H vs Q E n g h=>?_)
 .have%[a,r,ws,rfl,i,o,p,u,j|q]:=h;refine%[_,(QSs.h (aj (cc rfl (Fj (C:=be mg "Torn") n rfl T.c_DigError T.i_DigError rfl rfl %[_|rfl] #[(ae 0 rfl),AE (pjE dP (pjE (GT g.gd g.units (ae 1 rfl)) AD))]))
   (ar (GE (C:=be mg "Torn") T.f_Torn_ring rfl (ae 0 rfl) (ctO (kC (K:=K) rfl) T.a5 boot_list rfl #[(ae 1 rfl)])))))|?_]
  show bw _ _ _ [some _,some _] H;lk;have y:(Str.empty++Str.ofString "torn by the ring ").length=17:=by decide +kernel
  refine%[by rw[PySem.sizeLine_eq];lia,r,ws,rfl,i,o,p,u|λz B=>%[z,rfl,by rw[strLen_append,PySem.sizeLine_eq];lia,by rw[strLen_append,PySem.sizeLine_eq];lia,by simp,%[_|j]|?_]];refine%[r,rfl,_,.inl (SqL.of i)|λl b=>%[a,rfl,af.upd b _ _ j|λd c v=>?_]];have dl:d≠l:=λe=>by rw[e,aa]at c;cases c
  rw[ak dl]at c;exact q l d b c dl
theorem ki(n:Str)(c:Nat):lnS n (sgn c)=dq n c:=by
 refine fc ?_;show(([].toArray) ++n.cps++ ([46].toArray) ++ ([c].toArray)).toList=(n.cps.toList++[46,c]).toArray.toList;simp
theorem sH:x∈lyr p↔∃c,Let p.2.2 c/\x=dq p.2.1 c:=by
 unfold lyr;rw[mem_map]
 constructor
 .rintro⟨z,b,rfl⟩;have%[c,a|rfl]:=gJ b;exact%[c,fO.mp a|ki _ _]
 .rintro⟨c,a,rfl⟩;exact%[sgn c,aW.mpr (Xt %[c,fO.mpr a|rfl])|ki _ _]
theorem oQ(h:lT d):x∈(fV d).map (·.1)↔∃c,Let d.rows c/\x=dq d.name c:=by
 unfold fV Drn.rows;rw[Yt,mem_map]
 constructor
 .rintro⟨a,i,rfl⟩;have%[e,f|g]:=eK.mp i;exact%[sg a d.sh,(uh h.2.2.2.2.2).mpr %[a,e,f,g|rfl]|rfl]
 .rintro⟨c,g,rfl⟩;have%[a,e,f,b|rfl]:=(uh h.2.2.2.2.2).mp g;exact%[a,eK.mpr %[e,f|b]|rfl]
theorem oR:∀{xs:List u},(xs.map m).Nodup->(∀p∈xs,(f p).Nodup)->(∀p∈xs,∀x∈f p,∃c,x=dq (m p) c)->(xs.flatMap f).Nodup
 |[],_,_,_=>X7
 | p::xs,h,l,i=>by
   rw[Ys,nodup_cons]at h;rw[List.flatMap_cons,X4];refine%[l p Zm,oR h.2 (λq g=>l q (Zk _ g)) (λq g=>i q (Zk _ g))|λa n b o e=>?_];have%[q,g|j]:=mem_flatMap.mp o;have%[c|r]:=i p Zm a n;have%[d|s]:=i q (Zk _ g) b j;have:=(kQ (r.symm.trans (e.trans s))).1;exact h.1 (Xt %[q,g|this.symm])
theorem y8(p:Addr×Str×ZB):(lyr p).Nodup:=by
 unfold lyr;rw[X6,Xb];refine Xj (λ{x y} e f a b=>?_) (nodup_iff_pairwise_ne.mp (ce _));have%[c,_|rfl]:=gJ e;have%[d,_|rfl]:=gJ f;rw[ki,ki]at b;exact a (by rw[(kQ b).2])
theorem wu(d:Drn):((fV d).map (·.1)).Nodup:=by
 unfold fV;rw[Yt,X6,Xb];refine Xj (λ{x y} b c a e=>?_) (nodup_iff_pairwise_ne.mp (uk d.cols));have%[f,g|_]:=eK.mp b;have%[h,i|_]:=eK.mp c;exact a (FO f g h i (kQ e).2)
theorem qD.mono(h:qD ls xs)(s:∀x∈ls,x∈ms):qD ms xs:=by
 rcases h with⟨w,a,b,e,c,d,f,g⟩|⟨w,a,y,e,c,d,f⟩
 .exact .inl %[w,a,b,e,c,s _ d,s _ f|g]
 .exact .inr %[w,a,y,e,c,s _ d|f]
theorem wv{d:List _}{ls:ZB}(h:ls.Perm (d.flatMap lyr)){x:Str}:x∈ls↔∃p∈d,∃c,Let p.2.2 c/\x=dq p.2.1 c:=by
 rw[h.mem_iff,mem_flatMap]
 constructor
 .rintro⟨p,a,b⟩;exact%[p,a|sH.mp b]
 .rintro⟨p,a,b⟩;exact%[p,a|sH.mpr b]
theorem qO(h:∀p∈ds,lT p.2):x∈(ds.flatMap λp=>(fV p.2).map (·.1))↔∃p∈dcs ds,∃c,Let p.2.2 c/\x=dq p.2.1 c:=by
 rw[mem_flatMap]
 constructor
 .rintro⟨p,a,b⟩;exact%[_,Xt %[p,a|rfl]|(oQ (h p a)).mp b]
 .rintro⟨q,d,b⟩;have%[p,a|rfl]:=Xs d;exact%[p,a|(oQ (h p a)).mpr b]
theorem uU{ds:List (Addr×Drn)}(h:∀p∈ds,lT p.2)(a:(ds.map λp=>p.2.name).Nodup):(ds.flatMap λp=>(fV p.2).map (·.1)).Nodup:=
 oR a (λp _=>wu p.2) λp b x d=>by
  have%[c,_|e]:=(oQ (h p b)).mp d;exact%[c|e]
theorem km{a:List _}(b:(a.map λp=>p.2.1).Nodup){ls:ZB}(h:ls.Perm (a.flatMap lyr)):ls.Nodup:=by
 rw[h.nodup_iff];exact oR b (λp _=>y8 p) λp f x d=>by
  have%[c,_|e]:=sH.mp d;exact%[c|e]
structure gN (H:Hp) (cs:List _) (qs:List _):Prop where
 ca:bZ H cs
 nd:(cs.map λp=>p.2.1).Nodup
 p1:1<=cs.length
 p3:cs.length<=4
 few:∀p∈cs,yL p.2.2
 ly:(cs.flatMap lyr).length<=80
 sa:∀ls,ls.Perm (cs.flatMap lyr)->cC H ls qs
 q20:qs.length<=30
theorem gN.up(h:gN H a qs)(s:af H b):gN b a qs:=
 %[h.ca.up s,h.nd,h.p1,h.p3,h.few,h.ly,λls p=>(h.sa ls p).up s|h.q20]
inductive oS (K:ZA) (vs:ZM) (H:Hp) (Q:VK) (E0:XK):Prop
 | mk (a:Addr) (ns:ZL) (z0:vs=[.ref a]) (z1:SqL K H a (ns.map V.int)) (z2:Cs H) (z3:ns.length<=63) (z4:∀H',Q (.bl true) H'):oS K vs H Q E0
theorem xv{R:Hp->Prop}(j:H g=none)(i:H c=none)(n:H a=some (.lst (cI h)))(r:H b=some (.lst (qs.map λq=>V.ref q.1)))(p:gN H h qs)
 (k:∀d ls ts,af H d->jv mg d g qs ls ts->ls.Perm (h.flatMap lyr)->(∀k,k∈ts.map (·.2)↔k∈bG h\/k∈dg qs qs.length)->R d):
 sr mg [.ref g,.ref a,.ref b] (upd (upd H c (.own g)) g (.ins (be mg "Ground") c [])) (λv s=>v= .non/\R s) E0:=by
 have f:af H (upd (upd H c (.own g)) g (.ins (be mg "Ground") c [])):=λb o e=>by
  rw[ak (av e j),ak (av e i)];exact e
 refine%[g,a,b,c,h,qs,rfl,aa,f _ _ n,f _ _ r,p.ca.up f,p.nd,p.p1,p.p3,p.few,p.ly,λls q=>(p.sa ls q).up f,p.q20|λd ls ts u y z A B tk C E G pl I=>%[rfl|k d ls ts (λb o e=>A b o (av e j) (f _ _ e)) %[%[u,y,z|B],km p.nd pl,I,pl.length_eq▸p.ly,G,λk l=>?_,λk l=>?_|C] pl E]]<;> have%[t,m|rfl]:=Xs l
 .exact(tk t m).1
 .exact(tk t m).2
theorem gN.sub{H:Hp}{b:List _}{qs a:List _}(h:gN H b qs)(s:∀q∈a,q∈qs)(l:a.length<=30):gN H b a:=%[h.ca,h.nd,h.p1,h.p3,h.few,h.ly,λls p q c=>h.sa ls p q (s q c)|l]
theorem uV{a b:Type}(f:a->b)(xs:List a)(is:List Nat):is.filterMap ((xs.map f)[·]?)=(is.filterMap (xs[·]?)).map f:=by
 rw[List.map_filterMap];exact congrArg (λg=>List.filterMap g is) (funext λi=>Zl ..)
theorem BR{a:Type}{xs:List a}{is:List Nat}{q:a}(h:q∈is.filterMap (xs[·]?)):q∈xs:=by
 have%[i,_|e]:=mem_filterMap.mp h;exact Z8 e
theorem G7(ts:ZG):oW (ts.map λt=>V.ref t.1) none (some 3)=(ts.take 3).map λt=>V.ref t.1:=by
 unfold oW;rw[show HT.sIx _ 0 none=0 from rfl,drop_zero,Nat.sub_zero,show HT.sIx _ _ _=min 3 _ from rfl,map_take];exact(List.take_eq_take_min ..).symm
theorem qP{C r x:Addr}{ws:List _}{H:Hp}{Q:VK}(g:H x=none)(q:H r=some (.lst (ws.map λt=>V.ref t.1)))(s:aG H ws)(a:ws.length<=100)(v:F2 ws)
 (k:∀d l c,af H c->c x=some (ExO x C (some d))->c d=some (.xd [("ring",.ref l)])->c l=some (.lst (ws.map λt=>V.ref t.1))->Q .non c):sG C [.ref x,.ref r] (upd H x (ExO x C none)) Q E0:=by
 have m:=af.upd (o:=ExO x C none) g;refine%[x,r,ws,rfl,m _ _ q,aP s λb z e=>m _ _ e,a,v,aa|λl d a f h=>?_];have n:l≠x:=λe=>by rw[e,aa]at a;cases a
 have p:d≠x:=λe=>by rw[e,aa]at f;cases f
 have i:=by rw[ak n]at a;exact a
 have j:=by rw[ak p]at f;exact f
 refine k d l _ (λb u e=>?_) ?_ aa ?_
 .rw[ak (av e j),ak (av e g),ak (av e i),ak (av e g)];exact e
 .rw[ak p.symm,aa]
 .rw[ak h.symm,ak n,aa]
theorem oU{mg:ZC}{H:Hp}{e f h g:Addr}{c:ZH}{qs:ZN}{ls b:ZB}{ts:ZG}{j:VK}(o:H e=some (.lst (cI c)))(s:H f=some (.lst (qs.map λq=>V.ref q.1)))(u:H h=some (.lst (b.map V.str)))(p:gN H c qs)(v:cC H b qs)(y:b.Nodup)(z:b.length<=32)
 (d:∀p∈c,∀a,Let p.2.2 a->lnS p.2.1 (sgn a)∈b) (i:jv mg H g qs ls ts) (A:ls.length<=32) (sub:∀x,x∈ls↔x∈b) (B:∀k,k∈ts.map (·.2)↔k∈bG c\/k∈dg qs qs.length) (k:∀l,af H l->j (.bl true) l):
 lj [.ref e,.ref f,.ref h] H (λx m=>oP mg [.ref g,x] m j E0) E0:=by
 have:=p.q20;refine%[e,f,h,c,qs,b,ts.map _,rfl,o,s,u,p.ca,v,y,⋯,⋯,d,by rw[Z6];exact i.tl,λk C=>(i.t3 k C).mono λx=>(sub x).mp,B|λr m ss n _ E G lk I=>?_];exact%[g,r,qs,ls,ts,ss,rfl,i.up n,⋯,E,G,lk,I|λJ L=>k J (n.trans L)]
theorem F3{f:Addr}{fd:FuncData}(F:Fun K "law" "law" j4 f fd)(T:Txt K mg):hJ P w K mg base CX0 12 f fd ["_law_script"] (oS K):=by
 refine F.ok iE (by intro a b c d h;have%[_,_,rfl|_]:=h;rfl) (λca A outer s H vs Q E e h=>?_)
 .have%[a,ns,rfl,hs,ho,hn|kk]:=h;refine%[_,%["JDG1H].A0ACBD~SH]/A1BkNL2NL3NL4lDG5~>~^A2A3BDG6~>~^A2A~_3CBDMmaH~jA5AH~kA2A3A4BBEIqODMmaH~jA6AH~kA2A~_3CA4BBEIqODG7~|~}A~C<~g5~F)CBDMZoma]:];A7A]<BoK]=]>7~C<~g5~F)CwK~;]^~|~}AUBBUBEIqOEIH~jA5AH~kA2A3A4BB",iE.nd|e]|?_]
  show bw _ _ _ [!a,none,none,none,none,none,none,none] H;refine am λD1 k1 _=>?_
  lk;refine%[a,ns,86,rfl,hs,⋯,by decide,by decide|λl0 H0 xs s0 f0 h0 z hb=>k1 _ _ (am λD2 k2 _=>?_)];lk;refine%[l0,xs,rfl,SqL.of h0,λH' sm=>SqL.of (sm _ _ h0),z,hb|λt l1 l2 l3 H1 ds qs s1 ft f1 f2 f3 cb cd ch I v B G d1 d3 r J U C hq aU=>?_];have nm:((dcs ds).map λp=>p.2.1).Nodup:=by
   unfold dcs;rw[Yt];exact J
  have dl:(dcs ds).length=ds.length:=by unfold dcs;rw[Z6]
  have sub:∀ls:ZB,ls.Perm ((dcs ds).flatMap lyr)->∀x,x∈ls↔x∈(ds.flatMap λp=>(fV p.2).map (·.1)):=λls pl x=>by rw[wv pl,qO r]
  have Y:∀p∈dcs ds,yL p.2.2:=λp N=>by
   unfold dcs at N;have%[d,hd|rfl]:=Xs N;exact Bs (r d hd).2.2.2.2.2
  have L:((dcs ds).flatMap lyr).length<=32:=by
   have:=STab.nodup_sub (km nm (.refl _)) λx z=>(sub _ (.refl _) x).mp z
   lia
  have P1:gN H1 (dcs ds) qs:=%[U,nm,⋯,⋯,Y,⋯,λls p q ab=>%[(C q ab).1|(C q ab).2.mono λx=>(sub ls p x).mpr]|⋯]
  have c:∀p∈dcs ds,∀a,Let p.2.2 a->lnS p.2.1 (sgn a)∈(ds.flatMap λp=>(fV p.2).map (·.1)):=λp N a ha=>(qO r).mpr %[p,N,a,ha|ki _ _]
  have nn:=uU r J
  generalize (ds.flatMap λp=>(fV p.2).map (·.1))=cl at G C sub c nn aU
  generalize dcs ds=cs at v P1 sub c L
  clear U Y r J dl nm d1 d3 ho s0 f0 hs z hb;lk;refine%[_,SqT.of I,rfl,_,_,rfl,_,_,rfl,_,_,rfl,rfl|k2 _ _ (am λD3 k3 _=>?_)];lk;refine λg dx fg a0 co=>xv fg a0 v B P1 λH2 ls ts t2 gr pl tm=>k3 _ _ (am λD4 k4 _=>?_)
  have v:=t2 _ _ v;have B:=t2 _ _ B;have G:=t2 _ _ G;have P2:=P1.up t2;have a1:=C.up t2;lk;unfold Dc;lk;refine%[_,B|λb fb il=>?_];simp only[uV,Z6]at il ⊢;have q2:∀q∈(evI qs.length).filterMap (qs[·]?),q∈qs:=λq hq=>BR hq
  generalize a2:(evI qs.length).filterMap (qs[·]?)=i at il q2 ⊢
  have u2:=af.upd (o:= .lst (i.map λq=>V.ref q.1)) fb;have gb:upd H2 b (.lst (i.map λq=>V.ref q.1)) b=_:=aa
  generalize upd H2 b (.lst (i.map λq=>V.ref q.1))=H3 at u2 gb ⊢
  have P3:=P2.up u2;have:=P3.q20;refine λg2 ct a3 ac _=>xv a3 ac (u2 _ _ v) gb (P3.sub q2 ⋯) λH4 ag cv u3 a4 ai a5=>k4 _ _ (am λD5 k5 _=>?_)
  have O:=u2.trans u3;have v:=O _ _ v;have B:=O _ _ B;have G:=O _ _ G;have u:=gr.up O;have P4:=P2.up O;have M:=a1.up O;have al:ls.length<=32:=by rw[pl.length_eq];exact L
  have a6:ag.length<=32:=by rw[ai.length_eq];exact L
  lk;refine oU v B G P4 M nn ⋯ c u al (sub ls pl) tm λH5 s5=>?_
  lk;refine k5 _ _ (am λD6 k6 _=>?_);lk;unfold Dc;lk;refine%[_,s5 _ _ B|λb2 a7 _=>?_];simp only[uV,Z6,a2];have v1:=s5.trans (af.upd (o:= .lst (i.map λq=>V.ref q.1)) a7);have an:upd H5 b2 (.lst (i.map λq=>V.ref q.1)) b2=_:=aa
  generalize upd H5 b2 (.lst (i.map λq=>V.ref q.1))=H6 at v1 an ⊢
  refine oU (v1 _ _ v) an (v1 _ _ G) ((P4.up v1).sub q2 ⋯) (λq hq=>M.up v1 q (q2 q hq)) nn ⋯ c (a4.up v1) a6 (sub ag ai) a5 λH7 s7=>?_
  have v2:=v1.trans s7;lk;refine k6 _ _ (am λD7 k7 _=>?_);have bb:=u.up v2;have%[c2,c3,c4|gg]:=bb.gr;lk;unfold rH;lk;refine jt gg (.inr (.inr rfl)) %[g,c2,c3,c4,qs,ls,ts,rfl,gg|λm1 bc=>?_];lk;refine .inl %[_,SqL.of aa|λp fp=>?_];rw[G7];have w3:∀t∈ts.take 3,t∈ts:=λt=>Yz
  have bf:F2 (ts.take 3):=λt I=>by
   have m:t.2∈ts.map (·.2):=Xt %[t,w3 t I|rfl];exact%[by rw[(gr.t3 _ m).three];exact Zi _|gr.sm _ m]
  have s8:=v2.trans ((af.upd (o:= .lst (ts.map λt=>V.ref t.1)) bc).trans (af.upd (o:= .lst ((ts.take 3).map λt=>V.ref t.1)) fp));have N:upd (upd H7 m1 (.lst (ts.map λt=>V.ref t.1))) p (.lst ((ts.take 3).map λt=>V.ref t.1)) p=_:=aa;have bl:=(u.up s8).gr.choose_spec.choose_spec.choose_spec.tu;refine%[by simp|λx z=>qP z N (λt I=>bl t (w3 t I)) (by rw[Yn];lia) bf λd l H9 s9 z hd bm=>%[rfl|k7 _ _ (am λD8 k8 _=>?_)]];have t9:=s8.trans s9;have bt:=u.up t9;have%[c2,c3,c4|gg]:=bt.gr;lk;simp only[wM];lk;refine%[_,d,z,%[_|hd],T.x_Torn.is,true,T.k_Torn_DigError|sU %[d,z,_,hd,.ref l,by rfl|jt gg (.inr (.inr rfl)) %[g,c2,c3,c4,qs,ls,ts,rfl,gg|λm2 b0=> .inl %[m2,rfl,_,SqL.of aa|λp2 b1=>?_]]]];rw[G7];have aq:=(af.upd (o:= .lst (ts.map λt=>V.ref t.1)) b0).trans (af.upd (o:= .lst ((ts.take 3).map λt=>V.ref t.1)) b1);have b3:upd (upd H9 m2 (.lst (ts.map λt=>V.ref t.1))) p2 (.lst ((ts.take 3).map λt=>V.ref t.1)) p2=_:=aa;refine%[l,p2,_,_,rfl,rfl,aq _ _ bm,b3,rfl,λj x y ex ey=> .inl %[Za (ex.symm.trans ey)|?_],false,rfl|sU ?_]
  .rw[Zl]at ex;have%[t,_|rfl]:=map_eq_some_iff.mp ex;rfl
  unfold rH;lk;refine%[#[0]|λq fq=>%[by simp|λy hy=>qP (ws:=[]) hy aa (fT _) (Xh _) (λt I=>(nomatch I)) λd2 as cM b4 b5 b6 b7=>%[rfl,d2,b5,_,b6,.ref as,by rfl,#[0]|λc0 aR=>%[as,rfl,_,af.upd aR _ _ b7,aa|?_]]]];rw[if_neg ∅];have n:=t9.trans (aq.trans ((af.upd fq).trans (b4.trans (af.upd (o:= .lst []) aR))));refine k8 _ _ ?_;lk;exact oU (n _ _ v) (n _ _ B) (n _ _ G) (P4.up n) (M.up n) nn ⋯ c (u.up n) al (sub ls pl) tm λb9 _=>kk b9
end
noncomputable def dfm:= @E3
noncomputable def gvm:= @Gw
theorem all_mk{l:PySem.W.OpenLaw}{w:World}{K:ZA}{h:Heap}{mg:ZC}{fa ak:Addr}(X:K.In h)(G:h.Ns mainGlobals mg)(hfa:mg "law"=some (.ref fa))
 {bv ay:ZI} {bw:ZK} {bx az a0 a1 al a2:Value}
 (F:Txc K mg->Txt K mg)
 (bz:nsIn K mainGlobals "law"=some (some (.ref ak))) (b0:K.lookup ak=some %[bx,bv,.func (fnOf "law" "law" (cK j4) (bO j4) (ah j4) .none az a0 a1 ay al a2)|bw]) (b1:codeIn K al "law"=true) (b2:keepIn K (.ref ak)=true)
 {aa ac ad:Addr}
 {ae:Addr} {b3 b4:ZI} {b5:ZK} {b6 b7 b8 a3 b9:Value}
 (am:nsIn K mainGlobals "Torn"=some (some (.ref aa)))
 (a4:nsIn K mainGlobals "DigError"=some (some (.ref ac)))
 (a5:nsIn K mainGlobals "NoCut"=some (some (.ref ad)))
 (a6:findIn K (.ref aa) "__getattribute__"=some (some (.builtin "BaseException.__getattribute__")))
 (a7:findIn K (.ref aa) "__getattr__"=some none)
 (a8:subIn K (.ref aa) (.type "BaseException")=some true)
 (an:hasDictIn K aa=true)
 (ca:findIn K (.ref aa) "__class__"=some (some (.builtin "object.__class__")))
 (cb:specialIn K (.builtin "object.__class__") "__get__"=some (some (.builtin "getset_descriptor.__get__")))
 (cc:takesIn K (.builtin "object.__class__")=some true)
 (cd:mroIn K aa (.type "object")=some true)
 (en:findIn K (.ref aa) "__init__"=some (some (.ref ae)))
 (ao:K.lookup ae=some %[.type "function",b3,.func (fnOf "__init__" "Torn.__init__" (cK dS) (bO dS) (ah dS) .none b6 b7 b8 b4 a3 b9)|b5])
 (a9:codeIn K a3 "Torn.__init__"=true)
 (ba:keepIn K (.ref ae)=true)
 (bb:exK K aa ae=true)
 (ce:keepIn K (.ref aa)=true)
 (cf:findIn K (.ref aa) "__setattr__"=some (some (.builtin "object.__setattr__")))
 (bc:rG K aa=true)
 (bd:findIn K (.ref aa) "ring"=some none)






 (cg:subIn K (.ref aa) (.ref ad)=some false)
 (ch:kitOne K (.ref aa) (.ref ac)=some true)
 (cj:specialIn K (.ref ac) "__getattribute__"=some (some (.builtin "type.__getattribute__")))
 (ck:readsIn K ac (.type "type")=true)
 (cl:findCls K (.ref ac) (.type "type") "__init__"=some (.val (.builtin "ValueError.__init__")))
 (cm:typeIn K (.ref ad)=some (.type "type"))
 (cn:subIn K (.ref ad) (.type "BaseException")=some true)
 (be:(K.lookup ad).any (λo=>match o.data with| .cls _=>true|_=>false)=true)
 {ab:Addr}
 (bf:nsIn K mainGlobals "Ground"=some (some (.ref ab)))
 (co:plainGet K ab Str.empty=true)
 (cp:hasDictIn K ab=true)
 (cq:plainOver K ab=true)
 (cr:findIn K (.ref ab) "__setattr__"=some (some (.builtin "object.__setattr__")))
 (cs:findIn K (.ref ab) "kept_cuts"=some none)
 (ct:findIn K (.ref ab) "kept_sayings"=some none)
 (cu:findIn K (.ref ab) "kept_layers"=some none)
 (cv:findIn K (.ref ab) "kept_ties"=some none)
 {af:Addr} {cx cy:ZI} {cz:ZK} {c0 c1 c2 c3 bg c4:Value}
 (c5:findIn K (.ref ab) "__init__"=some (some (.ref af)))
 (bh:K.lookup af=some %[c0,cx,.func (fnOf "__init__" "Ground.__init__" (cK bY) (bO bY) (ah bY) .none c1 c2 c3 cy bg c4)|cz])
 (bi:codeIn K bg "Ground.__init__"=true)
 (bj:keepIn K (.ref af)=true)
 (c6:isFn K (.ref af)=true)
 (c7:makesIn K ab=true)
 (c8:keepIn K (.ref ab)=true)
 {ag:Addr} {c9 da:ZI} {db:ZK} {dc dd de df bk dg:Value}
 (dh:findIn K (.ref ab) "sayings"=some (some (.ref ag)))
 (bl:K.lookup ag=some %[dc,c9,.func (fnOf "sayings" "Ground.sayings" (cK ci) (bO ci) (ah ci) .none dd de df da bk dg)|db])
 (bm:codeIn K bk "Ground.sayings"=true)
 (ap:keepIn K (.ref ag)=true)
 (di:isFn K (.ref ag)=true)
 {ai:Addr} {dj dk:ZI} {dl:ZK} {dm dn dp dq bn dr:Value}
 (ds:findIn K (.ref ab) "layers"=some (some (.ref ai)))
 (bo:K.lookup ai=some %[dm,dj,.func (fnOf "layers" "Ground.layers" (cK cw) (bO cw) (ah cw) .none dn dp dq dk bn dr)|dl])
 (bp:codeIn K bn "Ground.layers"=true)
 (aq:keepIn K (.ref ai)=true)
 (dt:isFn K (.ref ai)=true)
 {aj:Addr} {du dv:ZI} {dw:ZK} {dx dy d0 d1 bq d2:Value}
 (d3:findIn K (.ref ab) "ties"=some (some (.ref aj)))
 (br:K.lookup aj=some %[dx,du,.func (fnOf "ties" "Ground.ties" (cK cU) (bO cU) (ah cU) .none dy d0 d1 dv bq d2)|dw])
 (bs:codeIn K bq "Ground.ties"=true)
 (ar:keepIn K (.ref aj)=true)
 (d4:isFn K (.ref aj)=true)
 {bt:Addr} {au:Obj} {av:ZJ} {d5:Nat}
 (d6:nsIn K mainGlobals "YEAR_WORDS"=some (some (.ref bt)))
 (d7:K.lookup bt=some au)
 (d8:au.cls= .type "tuple")
 (d9:au.data= .seq av d5)
 (ea:av.size<=sizeLine)
 (eb:aD [.str "since",.str "by"] av.toList)
 {bu:Addr} {aw:Obj} {ax:ZJ} {ec:Nat}
 (ed:nsIn K mainGlobals "LAYER_WORDS"=some (some (.ref bu)))
 (ee:K.lookup bu=some aw)
 (ef:aw.cls= .type "tuple")
 (eg:aw.data= .seq ax ec)
 (eh:ax.size<=sizeLine)
 (ei:aD [.str "later",.str "same"] ax.toList)
 :∃fd:FuncData,(∀(s:Shared) (v:Value),BindsTo s fd %[[v]|[]] [("_law_script",v)])/\∀base:Heap,K.In base->base.Ns mainGlobals mg->hJ l.prog w K mg base CX0 12 fa fd ["_law_script"] (oS K):=by
 have e:=hfa.symm.trans (mg_of X G bz);cases e;have ej:=mB (mg_of X G am);subst ej;have ek:=mB (mg_of X G a4);subst ek;have el:=mB (mg_of X G a5);subst el;have em:=mB (mg_of X G bf);subst em;have T:Txt K mg:=F %[mg_of X G am,
  mg_of X G a4,
  mg_of X G a5,
  %[mg_of X G am,%[a6,a7,a8,an,ca,cb,cc|cd],ae,_,%[bb,by rw[ao];rfl|ce],dz ao a9 ba|(dz ao a9 ba).binds (by room)],
  %[cf,bc,bd|an],
  %[a6,a7,a8,bd|an],
  cg,
  ch,
  %[cj,ck|cl],
  %[cm,cn|be],
  %[mg_of X G bf,co,cp,cq|cr],
  cs,
  ct,
  cu,
  cv,
  %[af,_,%[c7,c5,c6|c8],dz bh bi bj|(dz bh bi bj).binds (by room)],
  %[ag,_,%[dh,di|ap],dz bl bm ap|(dz bl bm ap).binds (by room)],
  %[ai,_,%[ds,dt|aq],dz bo bp aq|(dz bo bp aq).binds (by room)],
  %[aj,_,%[d3,d4|ar],dz br bs ar|(dz br bs ar).binds (by room)],
  A4 X G d6 d7 d8 d9 ea eb|
  A4 X G ed ee ef eg eh ei]
 exact%[fnOf "law" "law" (cK j4) (bO j4) (ah j4) .none az a0 a1 ay al a2,λs v=> .of_eq rfl|λbase _ _=>F3 (dz (st:=j4) b0 b1 b2) T]
theorem walk{l:PySem.W.OpenLaw}{q:Program}{b:ZB}{j:(Str->Option Value)->Heap->Prop}{e:World->Heap->Prop}{d:DefRec}{K:Params->ZA}(m:l.most=some 63)(c:d.params.defaults=[])
 (o:∀(w:World) (h:Heap),e w h->(K w.params).In h)
 (F:∀(w:World) (mg:ZC) (g:Addr) (h:Heap),(K w.params).In h->h.Ns mainGlobals mg->mg d.name=some (.ref g)->
  ∃i:FuncData,(∀(s:Shared) (u:Value),BindsTo s i %[[u]|[]] [("_law_script",u)])/\∀base:Heap,(K w.params).In base->base.Ns mainGlobals mg->hJ l.prog w (K w.params) mg base CX0 12 g i ["_law_script"] (oS (K w.params))):
 PySem.W.WalkO q b j e l.row.toRowW d [] (λf vs=>PySem.call f vs):=
 L2.walk_of (n:=63) (k:=12) (x:="_law_script") (CX:=λ_=>CX0) (sp:=λw=>oS (K w.params)) m (by decide) c %[rfl,by decide,by decide|rfl] o F (λ_ _ a p r v y=>%[a,p,rfl,y,v,r|λ_=>rfl]) λ_ _ _ _ _ z=>z
end K31
end
open PySem PySem.W PyProof.Rows
set_option maxRecDepth 100000 in
theorem PySem.Challenge.cw_digbook_k31_rings_told_holds : PySem.Challenge.rw_digbook_k31_rings_told.Holds := by
 w_on;o_law;k_head;(case hw=>w_witness2)
 k_fill
 refine K31.walk (l:=PySem.Challenge.rw_digbook_k31_rings_told) rfl rfl (λw h Y=>PySem.W.kIn_of Y) ?F
 case F=>
  intro w mg fa h KX G hmg;apply K31.all_mk KX G hmg
  (case F=>
   intro C
   constructor
   exact C
   all_goals first|exact PySem.W.mg_none_of KX G (by k_is)|(refine' K31.gvm KX G ?z ?r;(case z=>k_is);(case r=>exact⟨_,rfl⟩))|(refine' K31.dfm KX G ?a ?l ?c ?k ?b;(case a=>k_is);(case l=>k_is);(case c=>k_is);(case k=>k_is);(case b=>intro _ _ _ _ _ _;(repeat(refine K31.zq1 λ_=>?_));exact K31.zq0 rfl)))
  any_goals k_is
  (case bb|bc|be=>kernel_rfl)
  any_goals first|kit_is|rfl|decide|exact .cons ⟨_,rfl⟩ (.cons ⟨_,rfl⟩ (.nil))
