import PyProof.Rows.All
import Wide.All
import OpenK.AllK
import Wide.FinOn
import Lean
import PyProof.EqAt
import PyProof.EqKinds
import PyProof.TupleCall
import PyProof.ExcInit
import PyProof.ExcClass2
import PyProof.InstStoreFacts
import OpenK.KOwn
import PyProof.RulesAs
import PyProof.ExcAttrAll.ValueError
import KE.KIsAll
import KE.KRevSl
import KE.KRevIter
import PyProof.Rows.SortRuns
import PySem.SetTable
import PySem.SetOps
import PyProof.TupleKey
import PyProof.SetKind
import PyProof.Rows.SetObj
import KE.KDictSum
import PyProof.WalkInts
import KE.KDictOf
import PyProof.AttrMissHeap
import PyProof.DictWalks
import KE.KDictLaws
import KE.KDictList
import PyProof.FString2
import PyProof.ReprRoads
import PyProof.ReprLen
import PySem.Challenge.RW_digbook_k64_rows_torn
set_option linter.all false
structure PySem.W.Fast:Prop where(tw3973183847934639920 tw8372184664078450797 tw11182785345695101738 tw13832467868813195908 tw12146392481175825384 tw16153350696498791406 tw17165327838880509972 tw851131021466903278 tw8890355271818877665 tw11621353207947803588 tw14215370703975522462 tw4302773857091870565 tw17061137006590433803 tw14566317628962563953 tw218795806716262721 tw4036051760775211266 tw2730375176262746328 tw15925519650232566859 tw1831944034178123608 tw1155596586334411361 tw12012539359963656527 tw6360126227723260045 tw3580738580551450750 tw2226777081953499227 tw16188810655757259672 tw3832435617375886008 tw14505887810619762089 tw2898220999018396716 tw16242037929702815416 tw17107692486695836966 tw5215003859259197057 tw15978930560644038565 tw13785622390359146744 tw10609020674370383766 tw2763868748828569383 tw2381543917982792637 tw4309089577726832090 tw11633278997555119403 tw13150768297475780054 tw10471602186310409385 tw10369185750591347041 tw17862473678108066746 tw7461302444523369864 tw17143010237826917348 tw12709885790956351772 tw17765683875035111153 tw17027537288031677952 tw8317461929493095222 tw6753930301331020308 tw11496093928421570865 tw13059707710987887399 tw7067356309643339951 tw10062536329942845792 tw7298735718350392926 tw9564717410241113013 tw2303477693304394340 tw4917603863175368508 tw14735085536794835764 tw6270919346346091669 tw4169663151044628368 tw566587375281755945 tw11815184945683797890 tw7174168894409913637 tw15953797912539615184 tw17760549186605440006 tw9012904778815809013 tw10892372920935551381 tw8968084395671146744 tw1966366270334752382 tw4426051684545804313 tw16107953560022565569 tw4174488515502033915 tw12838342619309553304 tw258690974855322170 tw5533166010374110621 tw11445769327696628192 tw2336472306580268386 tw970572690570734682 tw6139785567207237887 tw15536298060605431582 tw4235617835699096065 tw15449990648259220100 tw10293644529286148072 tw11661192631034949152 tw3964170184525885945 tw17840752307691078720 tw18203293975049659160 tw11434099455825541608 tw10565136397723159379 tw8874227813314488831 tw1597585663288027206 tw6142505250128765474 tw2671923665281171845 tw16797835257369448081 tw16732935623050331277 tw12959260022752050266 tw16490484368905769225 tw6284857278806460481 tw4415032738964591446 tw7739013398792053997 tw6840501862819236906 tw610655374387343696 tw8825020782162053760 tw18060352755314565003 tw1196530359344595049 tw12710976720614487260 tw3538328256753127083 tw6487235757027088616 tw4709997649947749462 tw15112207093454514392 tw6411330701943699308 tw16329961498680908922 tw11496236355552923653 tw10815173366947422727 tw7695103187487989949 tw17137748158635990854 tw5441405727558665447 tw16885582144859374048 tw14578129557283971658 tw6544285588717437927 tw14465165746171370284 tw9717577837514108687 tw15288132395915575314 tw606489424067382992 tw7582988747805822378 tw8773841356660785815 tw8728596387481571967 tw17369534485596038616 tw12769157580651794279 tw14876819261373820552 tw10340829982546536617 tw783042552989556005 tw12712444247946689465 tw8930868286757619382 tw8295730214811210823 tw1617338832482366341 tw6474641428692833004 tw6273648913327446860 tw13919818996240404168 tw15371658102564622757 tw2447065698741402487 tw6273900874968039338 tw5674538166534904417 tw8996319129926571992 tw101245546417771078 tw5340772731606934240 tw9068318734410037929 tw4664380069578938427 tw1806823218255479905 tw7939755278846634673 tw7673366916061999999 tw229895378642752948 tw7552897910302505335 tw623348756667483892 tw14974806849364660828 tw13621888439890839873 tw1882183940984303182 tw8675644097129196979 tw7758370889829409627 tw16707678758454279465 tw14011452647399518775 tw6128169423463233327 tw11765692299908051685 tw12718340957856685937 tw18122499312558545035 tw17329103820809960606 tw16178581303019022756 tw12319930282108078651 tw14006024108882618893 tw13232662808188362611 tw16679799275936515847 tw4578038605054772431 tw1737201288124273503 tw14710813692124553385 tw5656300683086687704 tw5101340504801816697 tw3388332346659283012 tw18325714177495268411 tw16838355109550732575 tw8082095248938561512 tw3700420750588229219 tw1559204046227606704 tw1717698727636727085 tw12712913837981063934 tw16709578083023319721 tw12659364480338523947 tw14416244028095469684 tw5093396058306379035 tw9814164069631431001 tw7187743097979958513 tw13070386039497938355 tw10514423269436765074 tw8919965638766962256 tw6578227526236520311 tw15100892243830273447 tw12257460623917878098 tw12009717627225755192 tw10341047952192409151 tw7207882158444955708 tw3901491182864791288 tw7663923997345564025 tw6255543437106183774 tw2722774206044962600 tw16988018007694934306 tw13497028443794037080 tw8732568336487467205 tw7269695311130342340 tw11213331950810155865 tw8014871528681731797 tw9832559450026617409 tw6843933798085135238 tw3978959856946429015 tw1055772882822088742 tw8197976518767494560 tw18209391188115886796 tw11678708492946151679 tw11492767841388739583 tw4815208287570843078 tw18277380888434360289 tw17666564964238166729 tw12305231225092276265 tw13050184582455597921 tw2572867684561557900 tw2057406185218716145 tw10524133857679706829 tw13711350006132259350 tw9633793552160270246 tw8501680862535904278 tw10206939193211815879 tw12655131075336827701 tw5754950909773262826 tw3548410198085743131 tw1066310825975448703 tw9198132288537216673 tw9280480806524840474 tw7167452597124520093 tw5885127397451897051 tw4087306622895393792 tw3524000958118129366 tw17725788360060937100 tw16758758547975827965 tw14335695429584341749 tw12329904625807200599 tw12120034462939665328 tw6297584829829356444 tw1402589278820160541 tw4719774894703416103 tw14388582850937643147 tw7016036512997928719 tw527189310663683209 tw18340019475939763115 tw16914322238843990703 tw1648816941129839491 tw8257537947184974353 tw7349401589767410831 tw4548548155717409112 tw2860885480064783399 tw18376742105996703844 tw17471311323518967385 tw12033740033883615971 tw5503845204955103799 tw6724931188045853619 tw13747885320267831341 tw12710618713599568888 tw17335616810434558710 tw15603695781363123661 tw4989370560298941034 tw3844419880599463497 tw15869010329062888097 tw11936336289409363161 tw9768674926171357757 tw8409339419785177760 tw5635790139459045906 tw12533519819671792994 tw11167442406553743437 tw9968538656636270655 tw9437614397763318828 tw9352850226542111414 tw8811890424670381491 tw8787142552727564713:0=0)
theorem Z0{c:Sort _}{b:Prop}{a:c}:a=a∨b:=Or.inl rfl
theorem Z1{c:Sort _}{b:Prop}{a:c}:b∨a=a:=Or.inr rfl
def Z2:=@PySem.wpAny_bind
def Z3:=@PySem.wpAny_pure
def Z4:=@List.getElem?_eq_getElem
def Z5:=@List.length_map
def Z6:=@PySem.Heap.get?_push_of_some
def Z7:=@List.mem_of_getElem?
def Z8:=@List.length_append
def Z9:=@Option.some.inj
def Za:=@Array.length_toList
def Zb:=@List.getD_eq_getElem?_getD
def Zc:=@List.map_append
def Zd:=@List.append_assoc
def Ze:=@decide_eq_true
def Zf:=@Nat.lt_of_lt_of_le
def Zg:=@decide_eq_false
def Zh:=@Nat.le_refl
def Zi:=@PySem.Heap.get?_push_size
def Zj:=@List.mem_cons_of_mem
def Zk:=@List.getElem?_map
def Zl:=@List.mem_cons_self
def Zm:=@List.take_of_length_le
def Zn:=@of_decide_eq_true
def Zo:=@List.size_toArray
def Zp:=@PySem.Heap.size_push
def Zq:=@List.length_cons
def Zr:=@Nat.ne_of_lt
def Zs:=@Bool.false_ne_true
def Zt:=@PySem.Heap.lt_size
def Zu:=@Bool.and_eq_true
def Zv:=@List.any_cons
def Zw:=@List.append_nil
def Zx:=@Bool.false_eq_true
def Zy:=@List.filterMap_cons
def Zz:=@List.filter_append
def Y0:=@List.filter_cons_of_neg
def Y1:=@List.filter_cons_of_pos
def Y2:=@List.filter_nil
def Y3:=@List.getElem?_append_left
def Y4:=@List.getElem?_append_right
def Y5:=@List.getElem?_take_of_lt
def Y6:=@List.getElem_mem
def Y7:=@Nat.le_of_ble_eq_true
def Y8:=@Nat.le_of_lt
def Y9:=@Nat.le_succ
def Ya:=@Nat.le_trans
def Yb:=@List.length_drop
def Yc:=@List.length_filter_le
def Yd:=@List.length_range
def Ye:=@List.length_singleton
def Yf:=@List.length_take
def Yg:=@List.lookup_cons
def Yh:=@Nat.lt_succ_of_lt
def Yi:=@Nat.lt_succ_self
def Yj:=@List.map_congr_left
def Yk:=@List.map_cons
def Yl:=@List.map_map
def Ym:=@List.mem_append
def Yn:=@List.mem_append_left
def Yo:=@List.mem_append_right
def Yp:=@List.mem_cons
def Yq:=@List.mem_of_mem_take
def Yr:=@List.mem_singleton
def Ys:=@Nat.ne_of_gt
def Yt:=@List.nodup_append
def Yu:=@List.nodup_iff_pairwise_ne
def Yv:=@List.nodup_nil
def Yw:=@Nat.not_lt_zero
def Yx:=@List.not_mem_nil
def Yy:=@Bool.or_eq_false_iff
def Yz:=@List.pairwise_map
def X0:=@List.take_add_one
def X1:=@List.take_append_drop
def X2:=@Nat.zero_le
def X3:=@List.getElem?_of_mem
def X4:=@List.Pairwise.imp_of_mem
def X5:=@Int.eq_ofNat_of_zero_le
def X6:=@Nat.lt_irrefl
def X7:=@List.getElem?_eq_none
theorem X8{b:Type _}{l:List b}{i:Nat}{a:b}(h:l[i]?=some a):∃h:i<l.length,l[i]=a:=List.getElem?_eq_some_iff.mp h
theorem X9{b:Type _}{a:b}{s t:List b}(h:a∈s++t):a∈s∨a∈t:=List.mem_append.mp h
theorem Xa{c:Type _}{a b:c}(h:a∈[b]):a=b:=List.mem_singleton.mp h
theorem Xb{c d:Type _}{f:c->d}{l:List c}{b:d}(h:b∈l.map f):∃a,a∈l/\f a=b:=List.mem_map.mp h
theorem Xc{c d:Type _}{f:c->d}{l:List c}{b:d}(h:∃a,a∈l/\f a=b):b∈l.map f:=List.mem_map.mpr h
open Array (forIn_toList getElem?_toList length_toList mem_toList_iff size_append size_map toList_append toList_extract toList_push)
open Bool (and_eq_true eq_false_iff false_eq_true or_eq_false_iff or_eq_true)
open List (all_eq_true all_map any_cons any_eq_true any_map append_nil countP_cons ext_getElem ext_getElem? filterMap_cons filter_append filter_cons filter_cons_of_neg filter_cons_of_pos filter_nil flatMap_append foldl_cons forIn_cons getD_eq_getElem?_getD getElem?_append_left getElem?_append_right getElem?_drop getElem?_map getElem?_take_of_lt getElem_mem getElem_of_mem length_append length_cons length_drop length_eq_zero_iff length_filter_le length_map length_nil length_range length_singleton length_take length_zip lookup_cons map_append map_congr_left map_cons map_id map_map map_nil mem_append mem_append_left mem_append_right mem_cons mem_cons_of_mem mem_cons_self mem_filterMap mem_flatMap mem_map mem_of_mem_take mem_range mem_singleton nodup_append nodup_cons nodup_iff_pairwise_ne nodup_nil nodup_range not_mem_nil of_mem_zip pairwise_map range_succ size_toArray take_add_one take_append_drop take_of_length_le)
open Nat (add_mod add_zero le_add_right le_of_ble_eq_true le_of_lt le_refl le_succ le_trans le_zero lt_of_lt_of_le lt_succ_of_lt lt_succ_self mod_lt ne_of_gt ne_of_lt not_lt_zero pow_succ sub_self succ_pos zero_add zero_le)
open Option (bind_some getD_none isSome_iff_exists isSome_map map_eq_some_iff)
open PyProof.Rows (boot_abs boot_all boot_int boot_isinstance boot_list boot_max boot_min boot_set boot_sorted boot_str boot_tuple)
open PySem.F (called_set plainAttrs_dict plainAttrs_list plainAttrs_str slot_dict_get slot_str_join type_dict_get type_str_join)
open PySem.Heap (ExtBut SameBut get?_push_of_some get?_push_size get?_update_other get?_update_self lt_size)
open PySem.W (KatTups KitX Looks any_some callWith_K cellsFrom_some check_slot clsIn codeIn emptyDict findCls findIn findObj findObj_own fnOf handedIn hasDictIn hideAll hideAll_get instObj isFn keepIn kia_one kitAny kitOne kitx_dict kitx_list kitx_none lookIn looks_clsIn looks_find looks_findIn looks_hook looks_subIn makesIn mg_none_of mg_of mroIn nsIn of_hideAll plainGet plainGet_of plainOver readsIn set_plain specialIn subIn takerIn takesIn typeIn)
set_option maxHeartbeats 0
set_option Elab.async false
set_option compiler.extract_closed false
set_option maxRecDepth 100000
section
open PySem
local macro_rules|`(⋯)=>`(by lia)|`(∅)=>`(by simp)
local macro_rules|`(⇑$s:ident)=>`(Shared.heap $s|>.objs.size)
local macro_rules|`(~~~$x:ident)=>`(wpAny (model ($x).prog ($x).w) ($x).A)
local macro_rules|`($s:ident>>>$e)=>`({$s with heap:=$e})
local macro_rules|`(%[$x,*|$y])=>`(⟨$x,*,$y⟩)
def zqp:Nat->Lean.Syntax->Lean.Syntax
 |n+1,.node i k a=>if k==`«term%[_|_]»then .node i `Lean.Parser.Tactic.rcasesPat.tuple #[.atom i "⟨",.node i `null (a[1]!.getArgs.push (.atom i ",")|>.push a[3]!|>.map λx=>if x.isAtom then x else .node i `Lean.Parser.Tactic.rcasesPatLo #[.node i `Lean.Parser.Tactic.rcasesPatMed #[.node i `null #[zqp n x]],.node i `null #[]]),.atom i "⟩"]else .node i `Lean.Parser.Tactic.rcasesPat.ignore #[.atom i "_"]
 |_,x=>.node .none `Lean.Parser.Tactic.rcasesPat.one #[x]
local macro_rules|`(tactic|have $p:term:=$h)=>if p.raw.isOfKind `«term%[_|_]»then`(tactic|obtain $(⟨zqp 99 p⟩):rcasesPat:=$h)else Lean.Macro.throwUnsupported
local macro_rules|`(tactic|intro $p*)=>if p.any (·.raw.isOfKind `«term%[_|_]»)then do
  let q:=p.map λx=>(⟨.node .none `Lean.Parser.Tactic.rintroPat.one #[zqp 99 x]⟩:Lean.TSyntax `rintroPat)
  `(tactic|rintro $q*)else Lean.Macro.throwUnsupported
set_option hygiene false in
local macro_rules|`(↥$a:ident)=>`(wpAny (model prog w) $a)
set_option hygiene false in
local macro_rules|`(command|#where)=>`(variable{prog:Program}{w:World}{A:Around}{E:ZD}{s:Shared})
set_option hygiene false in
local macro_rules|`(command|#version)=>`(variable{X:Cx}{pins:ZE}{σ:St}{H:Hp}{s:Shared})
abbrev ZA:=PySem.W.Frag
abbrev ZB:=List PySem.Str
abbrev ZC:=PySem.Str->Option PySem.Value
abbrev ZD:=PySem.Value->PySem.Shared->Prop
abbrev ZE:=List (PySem.Addr×PySem.Obj)
abbrev ZG:=List PySem.Value
abbrev ZH:=List (PySem.Addr×List PySem.Str)
abbrev ZI:=Option PySem.Addr
abbrev ZJ:=Array PySem.Value
abbrev ZK:=Array (Option PySem.Value)
abbrev ZL:=List Int
set_option genSizeOf false
set_option genInjectivity false
set_option bootstrap.genMatcherCode false
namespace L2
open PySem PySem.Spec PyProof.Rows
noncomputable abbrev Key:=Sum Int Str
noncomputable def jz:Key->Value->Bool
 | .inl k,v=>Value.isInt k v
 | .inr x,v=>Value.isStrOf x v
noncomputable def keyH(w:World):Key->Int
 | .inl k=>hashInt k
 | .inr x=>hashStr w x
theorem aY:∀{k:Key} {v:Value},jz k v=true->(∃i t,k=Sum.inl i/\v=Value.int i t)\/(∃x t,k=Sum.inr x/\v=Value.str x t)
 | .inl i,v,h=>by
   have%[t|e]:=Value.isInt_shape h;exact .inl %[i,t,rfl|e]
 | .inr x,v,h=>by
   have%[t|e]:=Value.isStrOf_shape h;exact .inr %[x,t,rfl|e]
theorem ye(i:Int)(t:Tok):jz (.inl i) (.int i t)=true:=by simp[jz,Value.isInt]
theorem dI(x:Str)(t:Tok):jz (.inr x) (.str x t)=true:=by simp[jz,Value.isStrOf]
theorem EI(a b:Int):decide ((Sum.inl a:Key)=Sum.inl b)=(a==b):=by
 by_cases e:a=b
 .subst e;simp
 simp_all
theorem EJ(a b:Str):decide ((Sum.inr a:Key)=Sum.inr b)=decide (a=b):=by
 simp
noncomputable def aN(prog:Program)(w:World):PySem.KeyKind prog w Key where
 is:=jz
 hash:=keyH w
 inj:=λv a b ha hb=>by
  rcases aY ha with⟨i,t,rfl,rfl⟩|⟨x,t,rfl,rfl⟩
  .rcases aY hb with⟨j,u,rfl,e⟩|⟨y,u,rfl,e⟩
   .injection e with e1 _;rw[e1]
   .exact nomatch e
  .rcases aY hb with⟨j,u,rfl,e⟩|⟨y,u,rfl,e⟩
   .exact nomatch e
   .injection e with e1 _;rw[e1]
 byValue:=λk v h=>by
  rcases aY h with⟨i,t,rfl,rfl⟩|⟨x,t,rfl,rfl⟩<;> rfl
 pyHash:=λhv h=>by
  rcases aY hv with⟨i,t,rfl,rfl⟩|⟨x,t,rfl,rfl⟩
  .exact wpAny_pyHash_int h
  .exact wpAny_pyHash_str h
 eqBool:=λhu hv h=>by
  rcases aY hu with⟨i,t,rfl,rfl⟩|⟨x,t,rfl,rfl⟩
  .rcases aY hv with⟨j,u,rfl,rfl⟩|⟨y,u,rfl,rfl⟩
   .rw[EI]at h;exact wpAny_eqBool_int h
   .exact SeqAt.EqAt.int_str i t y u _ _ _ _ h
  .rcases aY hv with⟨j,u,rfl,rfl⟩|⟨y,u,rfl,rfl⟩
   .exact SeqAt.EqAt.str_int x t j u _ _ _ _ h
   .rw[EJ]at h;exact wpAny_eqBool_str h
 «strs»:=λk x t v h=>by
  rcases aY h with⟨i,u,rfl,e⟩|⟨y,u,rfl,e⟩
  .exact nomatch e
  .injection e with e1 _
   subst e1;cases v<;> rfl
theorem sY(prog:Program)(w:World)(i:Int)(t:Tok):(aN prog w).is (.inl i) (.int i t)=true:=ye i t
theorem sZ(prog:Program)(w:World)(x:Str)(t:Tok):(aN prog w).is (.inr x) (.str x t)=true:=dI x t
set_option genInjectivity true in
inductive V where
 | non|bl (b:Bool)|int (i:Int)|str (x:Str)|byt (b:Array UInt8)|flt (b:UInt64)|ref (a:Addr)|ty (n:String)
 deriving DecidableEq
def aO:V->Value->Prop
 | .non,u=>u=Value.none
 | .bl b,u=>u=Value.bool b
 | .int i,u=>∃t,u=Value.int i t
 | .str x,u=>∃t,u=Value.str x t
 | .byt b,u=>∃t,u=Value.bytes b t
 | .flt b,u=>∃t,u=Value.float b t
 | .ref a,u=>u=Value.ref a
 | .ty n,u=>u=Value.type n
abbrev aE:List V->ZG->Prop:=Paired aO
theorem aE.length{xs:List V}{us:ZG}(r:aE xs us):xs.length=us.length:=Paired.length r
theorem aE.get:∀{xs:List V} {us:ZG} {i:Nat} {x:V},aE xs us->xs[i]? =some x->∃u,us[i]? =some u/\aO x u
 | _,_,_,_,.nil,e=>by simp at e
 | _,_,0,_,.cons r _,e=>by simp at e;subst e;exact%[_,rfl|r]
 | _,_,i+1,x,.cons _ t,e=>by
   have%[u,a|b]:=aE.get t (e);exact%[u,a|b]
theorem aE.append:∀{xs ys:List V} {us ws:ZG},aE xs us->aE ys ws->aE (xs++ys) (us++ws)
 | _,_,_,_,.nil,s=>s
 | _,_,_,_,.cons r t,s=> .cons r (aE.append t s)
theorem aE.take:∀{xs:List V} {us:ZG} n,aE xs us->aE (xs.take n) (us.take n)
 | _,_,0,_=> .nil
 | _,_,_+1,.nil=> .nil
 | _,_,n+1,.cons r t=> .cons r (aE.take n t)
theorem aE.drop:∀{xs:List V} {us:ZG} n,aE xs us->aE (xs.drop n) (us.drop n)
 | _,_,0,r=>r
 | _,_,_+1,.nil=> .nil
 | _,_,n+1,.cons _ t=>aE.drop n t
def gc:Option V->Option Value->Prop
 | some v,some u=>aO v u
 | none,none=>True
 | _,_=>False
noncomputable def KV{a:Type}:List (a×V)->List (a×Value)->Prop:=Paired λp q=>p.1=q.1/\aO p.2 q.2
noncomputable def kV:Key->V
 | .inl i=> .int i
 | .inr x=> .str x
set_option genInjectivity true in
inductive HO where
 | lst (xs:List V)
 | tup (xs:List V)
 | dK (kvs:List (Key×V))|dT (kvs:List (List Key×V))
 | set (S:Int->Bool) (n:Nat)
 | ins (C dx:Addr) (fs:List (Str×V))
 | own (x:Addr)
 | xd (fs:List (Str×V))
 | met (f x:Addr)
 | rng (lo hi:Int)
 | frz (o:Obj) (u:HO)
 | tbl (ps:ZJ)
 | ext (φ:Heap->Prop)
noncomputable abbrev Hp:=Addr->Option HO
noncomputable def upd(H:Hp)(a:Addr)(o:HO):Hp:=λb=>if b=a then some o else H b
theorem aa:upd H a o a=some o:=by unfold upd;rw[if_pos rfl]
theorem ak{H:Hp}{a b:Addr}{o:HO}(h:b≠a):upd H a o b=H b:=by unfold upd;rw[if_neg h]
theorem mW{H:Hp}(h:H a=some o)(h':H b=some u)(d:o≠u):a≠b:=by
 intro e;subst e;rw[h]at h';exact d (Z9 h')
theorem ar{H:Hp}{a b:Addr}{o:HO}(h:H a=some o)(h':H b=none):a≠b:=by
 lia
section
variable(P:Program)(w:World)
def bN(H:Hp)(h:Heap)(a:Addr):HO->Prop
 | .lst xs=>xs.length<=sizeLine/\∃(its:ZG) (n:Nat),aE xs its/\h.get? a=some {cls:= .type "list",data:= .seq its.toArray n}
 | .tup xs=>xs.length<=sizeLine/\∃its:ZG,aE xs its/\IsTup h a its.toArray
 | .dK b=>b.length<=sizeLine/\(a==sysModules)=false/\∃vs,KV b vs/\h.DictOf (aN P w) a vs
 | .dT b=>b.length<=sizeLine/\(a==sysModules)=false/\∃xs:List (List Key×Addr×Value),
  Paired (λ(p:List Key×V) (q:List Key×Addr×Value)=>p.1=q.1/\H q.2.1=some (.tup (p.1.map kV))/\aO p.2 q.2.2) b xs/\
  ∃o g l,h.get? a=some o/\o.ExactDict/\o.data= .dict g l/\g.toList=xs.map (entryOfKey (tupleKind (aN P w)))/\(xs.map (·.1)).Nodup
 | .set S n=>h.SetOf (intKind P w) a S n
 | .ins C d fs=>H d=some (.own a)/\fs.length<=1000/\d≠a/\h.get? a=some (instObj C d)/\
  ∃c,h.Ns1 d c/\(∀f,gc (fs.lookup f) (c f))/\PySem.Within c (fs.map (·.1))
 | .own _=>∃o,h.get? a=some o
 | .xd fs=>∃c,h.Ns1 a c/\∀f,gc (fs.lookup f) (c f)
 | .rng lo hi=>∃t u v,h.get? a=some {cls:= .type "range",data:= .fields #[.int lo t,.int hi u,.int 1 v]}
 | .frz o u=>h.get? a=some o/\bN H h a u
 | .tbl ps=>h.get? a=some {cls:= .none,data:= .fields ps}
 | .met f x=>h.get? a=some (PySem.W.methodObj (.ref f) (.ref x))
 | .ext e=>e h/\(∃o,h.get? a=some o)/\∀i j,e i->(∀o,i.get? a=some o->j.get? a=some o)->e j
def HOk(H:Hp)(h:Heap):Prop:=∀a o,H a=some o->bN P w H h a o
end
section
variable{P:Program}{w:World}{H H':Hp}{h h':Heap}{a:Addr}{o:HO}
theorem bN.lt(x:bN P w H h a o):a<h.objs.size:=by
 cases o with
 | lst xs=>have%[_,_,_,_|e]:=x;exact Zt e
 | tup xs=>have%[_,_,_|p]:=x;exact p.lt
 | dK b=>have%[_,_,_,_,o,_,_,e|_]:=x;exact Zt e
 | dT b=>have%[_,_,_,_,o,_,_,e|_]:=x;exact Zt e
 | set S n=>have%[o,_,_,_,e|_]:=x;exact Zt e
 | ins C c fs=>have%[_,_,_,e|_]:=x;exact Zt e
 | own y=>have%[_|e]:=x;exact Zt e
 | xd fs=>have%[_,%[_,_,_,e|_]|_]:=x;exact Zt e
 | rng lo hi=>have%[_,_,_|e]:=x;exact Zt e
 | frz d u=>have%[e|_]:=x;exact Zt e
 | tbl ps=>exact Zt (x)
 | met f y=>exact Zt (x)
 | ext g=>have%[_,%[_|e]|_]:=x;exact Zt e
theorem Paired.mapP{F G:c->d->Prop}:∀{l₁:List c} {l₂:List d},Paired F l₁ l₂->(∀a b,F a b->G a b)->Paired G l₁ l₂
 | _,_,.nil,_=> .nil
 | _,_,.cons r t,f=> .cons (f _ _ r) (Paired.mapP t f)
theorem bN.stay(x:bN P w H h a o)(k:∀b u,(b=a\/H b=some (.own a))->h.get? b=some u->h'.get? b=some u)
 (s:∀b,H b=some (.own a)->H' b=some (.own a)) (A:∀b xs,H b=some (.tup xs)->H' b=some (.tup xs)):bN P w H' h' a o:=by
 induction o with
 | lst xs=>have%[z,its,n,r|e]:=x;exact%[z,its,n,r|k _ _ (.inl rfl) e]
 | tup xs=>have%[z,its,r,g,e|c]:=x;exact%[z,its,r,g,k _ _ (.inl rfl) e|c]
 | dK l=>have%[z,y,vs,r,g,i,j,e|c]:=x;exact%[z,y,vs,r,g,i,j,k _ _ (.inl rfl) e|c]
 | dT l=>
   have%[z,y,xs,r,g,i,j,e|c]:=x;exact%[z,y,xs,Paired.mapP r λp q z=>%[z.1,A _ _ z.2.1|z.2.2],g,i,j,k _ _ (.inl rfl) e|c]
 | set S n=>have%[g,i,j,t,e|c]:=x;exact%[g,i,j,t,k _ _ (.inl rfl) e|c]
 | ins C G fs=>
   have%[d,z,ne,e,m,%[od,i,j,B|c]|r]:=x;exact%[s _ d,z,ne,k _ _ (.inl rfl) e,m,%[od,i,j,k _ _ (.inr d) B|c]|r]
 | own y=>have%[g|e]:=x;exact%[g|k _ _ (.inl rfl) e]
 | xd fs=>have%[m,%[od,i,j,e|c]|r]:=x;exact%[m,%[od,i,j,k _ _ (.inl rfl) e|c]|r]
 | rng lo hi=>have%[t,u,v|e]:=x;exact%[t,u,v|k _ _ (.inl rfl) e]
 | frz g u E=>have%[e|q]:=x;exact%[k _ _ (.inl rfl) e|E q]
 | tbl ps=>
   exact k a _ (.inl rfl) x
 | met f y=>
   exact k a _ (.inl rfl) x
 | ext I=>have%[p,%[o|e]|st]:=x;exact%[st _ _ p λo q=>k _ _ (.inl rfl) q,%[o|k _ _ (.inl rfl) e]|st]
theorem HOk.lt(x:HOk P w H h)(e:H a=some o):a<h.objs.size:=(x a o e).lt
theorem HOk.fresh(x:HOk P w H h)(e:h.objs.size<=a):H a=none:=by
 cases q:H a with
 | none=>rfl
 | some u=>exact absurd (Zf (x.lt q) e) (X6 _)
theorem HOk.kept(x:HOk P w H h)(k:∀b u,h.get? b=some u->h'.get? b=some u):HOk P w H h':=λa o e=>
 (x a o e).stay (λb u _ q=>k b u q) (λ_ q=>q) λ_ _ q=>q
theorem HOk.laid(x:HOk P w H h)(k:∀b u,h.get? b=some u->h'.get? b=some u)(g:h.objs.size<=a)(new:bN P w (upd H a o) h' a o):HOk P w (upd H a o) h':=λb u e=>by
 have d:=x.fresh g;by_cases f:b=a
 .subst f;rw[aa]at e;grind
 .rw[ak f]at e;exact(x b u e).stay (λc v _ q=>k c v q) (λc q=>(ak (ar q d))▸q) λc xs q=>(ak (ar q d))▸q
end
def Rd(H:Hp)(a:Addr)(u:HO):Prop:=H a=some u\/∃o,H a=some (.frz o u)
theorem Rd.ok{P:Program}{w:World}{H:Hp}{h:Heap}{a:Addr}{u:HO}(r:Rd H a u)(x:HOk P w H h):bN P w H h a u:=by
 rcases r with r|⟨o,r⟩
 .exact x a u r
 .have%[_|q]:=x a _ r;exact q
def Mut:Option HO->Prop
 | some (.lst _)=>True
 | some (.dK _)=>True
 | some (.dT _)=>True
 | some (.set _ _)=>True
 | some (.ins _ _ _)=>True
 | some (.ext _)=>True
 | _=>False
section
variable{P:Program}{w:World}{H:Hp}{h h':Heap}{x e:Addr}{o':HO}
theorem HOk.write(ok:HOk P w H h)(g:Mut (H x))(m:e=x\/H e=some (.own x))(k:∀b u,b≠e->h.get? b=some u->h'.get? b=some u)(i:∃u,h'.get? e=some u)
 (new:bN P w (upd H x o') h' x o'):HOk P w (upd H x o') h':=λb u q=>by
 have d:∀c y,H c=some (.own y)->c≠x:=λc y r z=>by subst z;rw[r]at g;exact g
 have f:∀c xs,H c=some (.tup xs)->c≠x:=λc xs r z=>by subst z;rw[r]at g;exact g
 by_cases j:b=x
 .subst j;rw[aa]at q;grind
 .rw[ak j]at q;by_cases a:b=e
  .have l:H b=some (.own x):=by
    rcases m with z|z
    .exact absurd (a.trans z) j
    .exact a▸z
   rw[q]at l;cases l;have%[v|n]:=i;exact%[v|a▸n]
  .refine(ok b u q).stay (λc v o r=>k c v ?_ r) (λc r=>(ak (d c b r))▸r) λc xs r=>(ak (f c xs r))▸r
   grind
end
structure Un (fs ex:List Addr) (H H':Hp) (h h':Heap):Prop where
 keep:∀b o,h.get? b=some o->H b=none->b∉fs->b∉ex->h'.get? b=some o
 slot:∀b o,h.get? b=some o->H b=none->b∈fs->b∉ex->∃sl,h'.get? b=some {o with slots:=sl}
 free:∀b o,h.get? b=some o->H b=none->b∉ex->H' b=none
 there:∀b o,h.get? b=some o->b∉ex->∃o',h'.get? b=some o'
 tups:∀b xs,H b=some (.tup xs)->H' b=some (.tup xs)
 frzs:∀b o u,H b=some (.frz o u)->H' b=some (.frz o u)
 tbls:∀b ps,H b=some (.tbl ps)->∃more,H' b=some (.tbl (ps++more))
section
variable{fs fs' ex ex':List Addr}{H H1 H2:Hp}{h h1 h2 h':Heap}{a x e:Addr}{o:HO}
theorem Un.any(u:Un fs ex H H1 h h1)(q:h.get? b=some c)(n:H b=none)(d:b∉ex):∃g,h1.get? b=some {c with slots:=g}:=by
 by_cases f:b∈fs
 .exact u.slot b c q n f d
 .exact%[c.slots|u.keep b c q n f d]
theorem Un.trans(a:Un fs ex H H1 h h1)(b:Un fs ex H1 H2 h1 h2):Un fs ex H H2 h h2 where
 keep:=λc ob q n hc hx=>b.keep c ob (a.keep c ob q n hc hx) (a.free c ob q n hx) hc hx
 slot:=λc ob q n hc hx=>by
  have%[sl|e1]:=a.slot c ob q n hc hx;have%[sl'|e2]:=b.slot c _ e1 (a.free c ob q n hx) hc hx;exact%[sl'|e2]
 free:=λc ob q n hx=>by
  have%[o'|e1]:=a.there c ob q hx;exact b.free c o' e1 (a.free c ob q n hx) hx
 there:=λc ob q hx=>by
  have%[o'|e1]:=a.there c ob q hx;exact b.there c o' e1 hx
 tups:=λc xs q=>b.tups c xs (a.tups c xs q)
 frzs:=λc ob xs q=>b.frzs c ob xs (a.frzs c ob xs q)
 tbls:=λc ps q=>by
  have%[m1|e1]:=a.tbls c ps q;have%[m2|e2]:=b.tbls c _ e1;exact%[m1++m2|by rw[e2,Array.append_assoc]]
theorem Un.kept(k:∀b u,h.get? b=some u->h'.get? b=some u):Un fs ex H H h h':=
 %[λb c q _ _ _=>k b c q,λb c q _ _ _=>%[c.slots|k b c q],λ_ _ _ n _=>n,λb c q _=>%[c|k b c q],λ_ _ q=>q,λ_ _ _ q=>q|λ_ ps q=>%[#[]|by rw[q];simp]]
theorem Un.refl:Un fs ex H H h h:=Un.kept λ_ _ q=>q
theorem Un.laid(k:∀b u,h.get? b=some u->h'.get? b=some u)(hp:h.objs.size<=a)(hn:H a=none):Un fs ex H (upd H a o) h h' where
 keep:=λb u q _ _ _=>k b u q
 slot:=λb u q _ _ _=>%[u.slots|k b u q]
 free:=λb u q n _=>(ak (Zr (Zf (Zt q) hp)))▸n
 there:=λb u q _=>%[u|k b u q]
 tups:=λb xs q=>(ak (ar q hn))▸q
 frzs:=λb u xs q=>(ak (ar q hn))▸q
 tbls:=λb ps q=>%[#[]|by rw[ak (ar q hn),q];simp]
theorem Un.write(f:Mut (H x))(l:e=x\/H e=some (.own x))(k:∀b u,b≠e->h.get? b=some u->h'.get? b=some u)(i:∃u,h'.get? e=some u):Un fs ex H (upd H x o) h h':=by
 have j:∀b,H b=none->b≠x:=λb n z=>by subst z;rw[n]at f;exact f
 have g:∀b,H b=none->b≠e:=λb n z=>by
  simp_all
 have c:∀b u,H b=some u-> ¬ Mut (some u)->b≠x:=λb u q m z=>by simp_all
 refine%[λb u q n _ _=>k b u (g b n) q,λb u q n _ _=>%[u.slots|k b u (g b n) q],λb u q n _=>(ak (j b n))▸n,λb u q _=>?_,
  λb xs q=>(ak (c b _ q λz=>z))▸q,λb u xs q=>(ak (c b _ q λz=>z))▸q|λb ps q=>%[#[]|by rw[ak (c b _ q λz=>z),q];simp]]
 by_cases d:b=e
 .simp_all
 .exact%[u|k b u d q]
end
noncomputable def trk(h:Heap)(H:Hp):List Addr:=(List.range h.objs.size).filter λa=>(H a).isSome
noncomputable def yf(h:Heap)(H:Hp):Heap:=hideAll h (trk h H)
theorem yg(h:Heap)(H:Hp):(yf h H).objs.size=h.objs.size:=PySem.W.hideAll_size _ _
theorem z0(e:h.get? b=some o)(n:H b=none):(yf h H).get? b=some o:=
 hideAll_get _ e λa=>by
  have q:=(List.mem_filter.mp a).2;rw[n]at q;simp at q
theorem Cw(e:(yf h H).get? b=some o):h.get? b=some o/\H b=none:=by
 have a:=of_hideAll _ e;refine%[a|?_];cases q:H b with
 | none=>rfl
 | some x=>
   have z:(yf h H).get? b=none:=PySem.W.hideAll_none _ (List.mem_filter.mpr %[mem_range.mpr (Zt a)|by simp[q]])
   grind
noncomputable def Cy(g h:Heap)(L:Addr):ZE:=(List.range h.objs.size).filterMap λa=>if a=L\/(g.get? a).isSome=true then none else(h.get? a).map λo=>(a,o)
noncomputable def rest(g h:Heap)(L d:Addr):ZE:=(Cy g h L).filter λp=>decide (p.1≠d)
structure Mod (K:ZA) (mg:ZC) (base:Heap):Prop where
 kin:K.In base
 glob:base.Ns mainGlobals mg
 blt:∃mb,base.Ns builtinsNs mb/\∀x:Str,x≠"__name__"->mb x=bootBuiltins x
 nolimit:base.NoLimit
structure Cx where
 prog:Program
 w:World
 K:ZA
 mg:Str->Option Value
 base:Heap
 A:Around
 N:ZB
 s₀:Shared
 H₀:Hp
 env:Env
 outer:List Env
 stack:List Env
 ex:List Addr
 fn:Str->Bool
 calm:Bool
 pn:ZE
 xe:Value->Shared->Prop
noncomputable def frs(l:List Env):List Addr:=l.filterMap (·.frame)
noncomputable abbrev Cx.fs(X:Cx):List Addr:=frs X.outer
def Vis(a:Scope)(x:Str):Prop:=a.names.lookup x=some .local\/a.names.lookup x=some .cell\/a.names.lookup x=some .free
def Loc(a:Scope)(x:Str):Prop:=a.names.lookup x=some .local\/a.names.lookup x=some .cell
def Look(env:Env)(h:Heap)(m:ZC)(x:Str)(u:Value):Prop:=
 (env.kindOf x=some .local/\m x=some u)\/((env.kindOf x=some .cell\/env.kindOf x=some .free)/\∃c,env.cells.lookup x=some c/\h.IsCell c (some u))
structure Cx.Ok (X:Cx):Prop where
 mod:Mod X.K X.mg X.base
 kind:X.env.scope.kind= .function
 glob:X.env.globals=mainGlobals
 blt:X.env.builtins=builtinsNs
 above:X.s₀.heap.objs.size<=X.env.locals
 inj:∀x y c,X.env.cells.lookup x=some c->X.env.cells.lookup y=some c->x=y
 has:∀x,(X.env.kindOf x=some .cell\/X.env.kindOf x=some .free)->∃c,X.env.cells.lookup x=some c
 cab:∀x c,X.fn x=true->X.env.cells.lookup x=some c->X.s₀.heap.objs.size<=c
 hd:X.calm=true->X.A.handled=none
 frames:X.A.frames=some X.stack
 stk:X.stack=X.outer\/(X.stack=X.env::X.outer/\X.env.frame=some X.env.locals)
 exf:∀b∈X.ex,b≠X.env.locals/\∀x c,X.env.cells.lookup x=some c->c≠b
 bs:∀b o,X.base.get? b=some o->X.s₀.heap.get? b=some o/\X.H₀ b=none
 bsz:X.base.objs.size<=X.s₀.heap.objs.size
 noex:∀b o,X.base.get? b=some o->b∉X.ex
 exfs:∀b∈X.ex,b∉X.fs
 funs:X.s₀.heap.FunFrames X.base X.outer
 frf:∀b∈X.fs,X.H₀ b=none
structure Inv (X:Cx) (pins:List _) (σ:List _) (H:Hp) (s:Shared):Prop where
 ok:X.Ok
 os:s.os=X.s₀.os
 bare:AllBare s.gens
 base:Un X.fs X.ex X.H₀ H X.s₀.heap s.heap
 loc:∃m,s.heap.Ns X.env.locals m/\∀(i:Nat) x v,X.N[i]? =some x->σ[i]? =some (some v)->Vis X.env.scope x->∃u,aO v u/\Look X.env s.heap m x u
 cell:∀x c,X.env.cells.lookup x=some c->∃v,s.heap.IsCell c v
 free:H X.env.locals=none
 freeC:∀x c,X.env.cells.lookup x=some c->H c=none
 pin:∀p∈X.pn++pins,s.heap.get? p.1=some p.2/\H p.1=none/\p.1≠X.env.locals/\p.1∉X.fs/\∀v,p.2.data≠ .cell v
 hok:HOk X.prog X.w H s.heap
 len:σ.length=X.N.length
section
variable{X:Cx}{pins:ZE}{σ:List (Option V)}{H H':Hp}{s:Shared}{h':Heap}
theorem Cx.Ok.nofr(ok:X.Ok)(e:X.base.get? b=some o):b∉X.fs:=λa=>by
 have:=(ok.funs.mem a).1
 grind
theorem Inv.bs(I:Inv X pins σ H s):∀b o,X.base.get? b=some o->s.heap.get? b=some o/\H b=none:=λb o e=>
 %[I.base.keep b o (I.ok.bs b o e).1 (I.ok.bs b o e).2 (I.ok.nofr e) (I.ok.noex b o e)|I.base.free b o (I.ok.bs b o e).1 (I.ok.bs b o e).2 (I.ok.noex b o e)]
theorem Inv.bk(I:Inv X pins σ H s):∀b o,X.base.get? b=some o->s.heap.get? b=some o:=λb o e=>(I.bs b o e).1
theorem Inv.mod(I:Inv X pins σ H s):Mod X.K X.mg X.base:=I.ok.mod
theorem Inv.kIn(I:Inv X pins σ H s):X.K.In s.heap:=I.ok.mod.kin.keeps I.bk
theorem Inv.lt(I:Inv X pins σ H s):X.env.locals<⇑s:=let⟨_,a,_⟩:=I.loc;a.lt
theorem Inv.sz(I:Inv X pins σ H s):X.s₀.heap.objs.size<=⇑s:=Ya I.ok.above (Y8 I.lt)
theorem Inv.nofs(I:Inv X pins σ H s)(h:⇑s<=a):a∉X.fs:=λb=>by
 have%[_,o,c|_]:=I.ok.funs.mem b;exact absurd (Zf (Zt c) (Ya I.sz h)) (X6 _)
theorem Inv.cne(I:Inv X pins σ H s):∀x c,X.env.cells.lookup x=some c->c≠X.env.locals:=λx c e z=>by
 have%[v,o,d|f]:=I.cell x c e;have%[m,%[g,h,i,a,b|_]|_]:=I.loc
 grind
theorem Inv.funs(I:Inv X pins σ H s):s.heap.FunFrames X.base X.outer:=by
 have all:∀l,(∀b∈frs l,b∈X.fs)->X.s₀.heap.FunFrames X.base l->s.heap.FunFrames X.base l:=by
  intro l
  induction l with
  | nil=>intro _ _;trivial
  | cons env r g=>
    intro f h;have%[i,%[L,o,a,j,m|n]|p]:=h;have c:=f L (by unfold frs;rw[Zy,a];exact Zl);have%[q|e]:=I.base.slot L o m (I.ok.frf L c) c λz=>I.ok.exfs L z c
    exact%[i,%[L,_,a,j,e|n]|g (λb d=>f b (by unfold frs;rw[Zy,a];exact Zj _ d)) p]
 exact all X.outer (λ_ d=>d) I.ok.funs
theorem Inv.stack(I:Inv X pins σ H s):s.heap.FunFrames X.base X.stack:=by
 rcases I.ok.stk with e|⟨e,a⟩
 .exact e▸I.funs
 .rw[e];have%[m,b|_]:=I.loc;exact .cons (by rw[I.ok.kind];decide) a b (Heap.get?_none_of_le (Ya I.ok.bsz I.ok.above)) I.funs
theorem Inv.stkSub(I:Inv X pins σ H s):∀b∈frs X.stack,b∈X.env.locals::X.fs:=λb a=>by
 rcases I.ok.stk with e|⟨e,c⟩
 .rw[e]at a;exact Zj _ a
 .rw[e]at a;unfold frs at a;rw[Zy,c]at a;exact a
theorem Inv.stkFree(I:Inv X pins σ H s):∀b∈frs X.stack,H b=none:=λb a=>by
 rcases mem_cons.mp (I.stkSub b a)with e|a
 .exact e▸I.free
 .have%[_,o,c|_]:=I.ok.funs.mem a;exact I.base.free b o c (I.ok.frf b a) λz=>I.ok.exfs b z a
theorem Inv.step{d':Drawn}{ch:List Addr}(I:Inv X pins σ H s)
 (f:∀b∈ch,(b∈X.ex\/X.s₀.heap.objs.size<=b)/\b≠X.env.locals/\(∀x c,X.env.cells.lookup x=some c->c≠b)/\∀p∈X.pn++pins,p.1≠b)
 (keep:∀b o,b≠X.env.locals->b∉X.fs->b∉ch->s.heap.get? b=some o->H b=none->h'.get? b=some o)
 (slot:∀b o,b≠X.env.locals->b∈X.fs->b∉ch->s.heap.get? b=some o->H b=none->∃E,h'.get? b=some {o with slots:=E}) (free:∀b o,b∉ch->s.heap.get? b=some o->H b=none->H' b=none)
 (there:∀b o,b∉ch->s.heap.get? b=some o->∃A,h'.get? b=some A)
 (tups:∀b xs,H b=some (.tup xs)->H' b=some (.tup xs)) (frzs:∀b o u,H b=some (.frz o u)->H' b=some (.frz o u)) (tbls:∀b ps,H b=some (.tbl ps)->∃more,H' b=some (.tbl (ps++more)))
 (Q:∀m,s.heap.Ns X.env.locals m->h'.Ns X.env.locals m) (G:HOk X.prog X.w H' h') (T:AllBare g'):
 Inv X pins σ H' {s with heap:=h',gens:=g',drawn:=d',toks:=t'}:=by
 have B:∀b o,X.s₀.heap.get? b=some o->b≠X.env.locals:=λb o e=>Zr (Zf (Zt e) I.ok.above)
 have j:∀b o,X.s₀.heap.get? b=some o->b∉X.ex->b∉ch:=λb o e a w=>by
  rcases(f b w).1 with z|z
  .exact a z
  .exact absurd (Zf (Zt e) z) (X6 _)
 have g:∀x c,X.env.cells.lookup x=some c->∀v,s.heap.IsCell c v->h'.IsCell c v:=λx c e v ⟨o,y,J⟩=>by
  have h:=λz=>(f c z).2.2.1 x c e rfl
  by_cases M:c∈X.fs
  .have%[E|q]:=slot c o (I.cne x c e) M h y (I.freeC x c e);exact%[_,q|J]
  .exact%[o,keep c o (I.cne x c e) M h y (I.freeC x c e)|J]
 refine%[I.ok,I.os,T,%[λb o e n w a=>?_,λb o e n w a=>?_,λb o e n a=>?_,λb o e a=>?_,λb xs e=>tups b xs (I.base.tups b xs e),λb o xs e=>frzs b o xs (I.base.frzs b o xs e)|λb ps e=>?_],?_,λx c e=>?_,?_,λx c e=>?_,λp N=>?_,G|I.len]
 .exact keep b o (B b o e) w (j b o e a) (I.base.keep b o e n w a) (I.base.free b o e n a)
 .have%[E|t]:=I.base.slot b o e n w a;have%[L|C]:=slot b _ (B b o e) w (j b o e a) t (I.base.free b o e n a);exact%[L|C]
 .have%[A|t]:=I.base.there b o e a;exact free b A (j b o e a) t (I.base.free b o e n a)
 .have%[A|t]:=I.base.there b o e a;exact there b A (j b o e a) t
 .have%[U|t]:=I.base.tbls b ps e;have%[m2|C]:=tbls b _ t;exact%[U++m2|by rw[C,Array.append_assoc]]
 .have%[m,Y|hl]:=I.loc;refine%[m,Q m Y|λi x v t C e3=>?_];have%[u,r|l]:=hl i x v t C e3;refine%[u,r|?_];rcases l with l|⟨k,c,e,z⟩
  .exact .inl l
  .exact .inr %[k,c,e|g x c e _ z]
 .have%[v|z]:=I.cell x c e;exact%[v|g x c e v z]
 .have%[m,%[o,_,_,y|_]|_]:=I.loc;exact free _ o (λz=>(f _ z).2.1 rfl) y I.free
 .have%[v,o,y|J]:=I.cell x c e;exact free c o (λz=>(f c z).2.2.1 x c e rfl) y (I.freeC x c e)
 .have%[e,n,ne,O|d]:=I.pin p N;have h:=λz=>(f p.1 z).2.2.2 p N rfl
  exact%[keep p.1 p.2 ne O h e n,free p.1 p.2 h e n,ne,O|d]
theorem Inv.un{t':Nat}(I:Inv X pins σ H s)(u:Un X.fs [] H H' s.heap h')(c:HOk X.prog X.w H' h'):Inv X pins σ H' {s with heap:=h',toks:=t'}:=by
 have%[m,%[o,p,q,h|r]|_]:=id I.loc;have%[t|i]:=u.any h I.free ∅;exact I.step (ch:=[]) (λ_ z=>nomatch z) (λb o _ d _ e n=>u.keep b o e n d ∅) (λb o _ d _ e n=>u.slot b o e n d ∅) (λb o _ e n=>u.free b o e n ∅) (λb o _ e=>u.there b o e ∅) u.tups u.frzs u.tbls (λv j=>by
  have%[w,f,g,a|l]:=j;rw[h]at a;cases a;exact%[_,f,g,i|l]) c I.bare
theorem Inv.call{d':Drawn}{ch:List Addr}(I:Inv X pins σ H s)(u:Un (frs X.stack) ch H H' s.heap h')(g:HOk X.prog X.w H' h')(q:AllBare g')
 (d:∀b∈ch,(b∈X.ex\/X.s₀.heap.objs.size<=b)/\b≠X.env.locals/\(∀x c,X.env.cells.lookup x=some c->c≠b)/\∀p∈X.pn++pins,p.1≠b):
 Inv X pins σ H' {s with heap:=h',gens:=g',drawn:=d',toks:=t'}:=by
 have%[m,%[o,y,A,l|r]|_]:=id I.loc;have%[B|h]:=u.any l I.free λz=>(d _ z).2.1 rfl
 exact I.step d (λb o h t a e n=>u.keep b o e n (λz=>(mem_cons.mp (I.stkSub b z)).elim h t) a) (λb o _ _ a e n=>u.any e n a) (λb o a e n=>u.free b o e n a) (λb o a e=>u.there b o e a) u.tups u.frzs u.tbls (λC v=>by
  have%[E,i,j,f|w]:=v;rw[l]at f;cases f;exact%[_,i,j,h|w]) g q
theorem Inv.turned{it:Addr}(I:Inv X pins σ H s)(k:∀b o,b≠it->s.heap.get? b=some o->h'.get? b=some o)(A:H it=none)(f:it≠X.env.locals)
 (g:it∈X.ex\/X.s₀.heap.objs.size<=it) (h:∀x c,X.env.cells.lookup x=some c->c≠it) (i:∀p∈X.pn++pins,p.1≠it):Inv X pins σ H {s with heap:=h',toks:=t'}:=by
 have d:∀b u,H b=some u->b≠it:=λb u e z=>by lia
 refine I.step (ch:=[it]) (λb j=>?_) (λb o _ _ a e _=>k b o (λz=>a (by simp[z])) e) (λb o _ _ a e _=>%[o.slots|k b o (λz=>a (by simp[z])) e]) (λ_ _ _ _ n=>n)
  (λb o a e=>%[o|k b o (λz=>a (by simp[z])) e]) (λ_ _ e=>e) (λ_ _ _ e=>e) (λb ps e=>%[#[]|by rw[e];simp]) (λm l=>?_) (λb u e=>?_) I.bare
 .have e:=by simpa using j
  subst e;exact%[g,f,h|i]
 .have%[o,t,w,y|r]:=l;exact%[o,t,w,k _ o (Ne.symm f) y|r]
 .refine(I.hok b u e).stay (λc v a q=>k c v ?_ q) (λ_ q=>q) λ_ _ q=>q
  rcases a with z|z
  .exact z▸d b u e
  .exact d c _ z
theorem Inv.tok(I:Inv X pins σ H s)(t:Nat):Inv X pins σ H {s with toks:=t}:=I.un Un.refl I.hok
theorem Inv.kept(I:Inv X pins σ H s)(k:∀b u,s.heap.get? b=some u->h'.get? b=some u):Inv X pins σ H {s with heap:=h',toks:=t'}:=I.un (Un.kept k) (I.hok.kept k)
theorem Inv.laid{a:Addr}{o:HO}{t':Nat}(I:Inv X pins σ H s)(k:∀b u,s.heap.get? b=some u->h'.get? b=some u)(c:⇑s<=a)(new:bN X.prog X.w (upd H a o) h' a o):
 Inv X pins σ (upd H a o) {s with heap:=h',toks:=t'}:=I.un (Un.laid k c (I.hok.fresh c)) (I.hok.laid k c new)
theorem Inv.write(I:Inv X pins σ H s)(c:Mut (H x))(d:e=x\/H e=some (.own x))(k:∀b u,b≠e->s.heap.get? b=some u->h'.get? b=some u)(a:∃u,h'.get? e=some u)
 (new:bN X.prog X.w (upd H x o) h' x o):Inv X pins σ (upd H x o) {s with heap:=h',toks:=t'}:=I.un (Un.write c d k a) (I.hok.write c d k a new)
theorem Inv.pins_of(I:Inv X pins σ H s)(h:∀p∈a,s.heap.get? p.1=some p.2/\H p.1=none/\p.1≠X.env.locals/\p.1∉X.fs/\∀v,p.2.data≠ .cell v):Inv X a σ H s:=
 %[I.ok,I.os,I.bare,I.base,I.loc,I.cell,I.free,I.freeC,λp b=>(X9 b).elim (λz=>I.pin p (Yn _ z)) (h p),I.hok|I.len]
theorem cP{N:ZB}(c:N.Nodup){i j:Nat}{x:Str}(a:N[i]? =some x)(b:N[j]? =some x):i=j:=by
 have%[f|d]:=X8 a;have%[g|e]:=X8 b;exact(List.getElem_inj c).mp (d.trans e.symm)
theorem yh{A:Around}{E:ZD}{i:Nat}{x:Str}{v:V}{u:Value}{Q:Unit->Shared->Prop}(I:Inv X pins σ H s)(hN:X.N.Nodup)(hi:X.N[i]? =some x)(w:Loc X.env.scope x)(r:aO v u)
 (h:∀s',Inv X pins (σ.set i (some v)) H s'->(∃a,SameBut a s.heap s'.heap/\(a=X.env.locals\/X.env.cells.lookup x=some a))->Q () s') (hf:X.fn x=true\/X.env.scope.names.lookup x=some .local):wpAny M A (storeName X.env x u) Q E s:=by
 have%[m,hn|hl]:=id I.loc;have G:i<σ.length:=I.len▸(X8 hi).1;have cne:=I.cne;have g:∀{a:Addr} {h':Heap},(∃o,s.heap.get? a=some o/\H a=none)->SameBut a s.heap h'->HOk X.prog X.w H h':=λ{a h'} ha f b ob e=>by
  have%[_,_|B]:=ha;refine(I.hok b ob e).stay (λc w' t q=>(f.2 c ?_).trans q) (λ_ q=>q) λ_ _ q=>q
  rintro rfl;rcases t with rfl|t
  .rw[B]at e;cases e
  .rw[B]at t;cases t
 rcases w with J|J
 .refine wpAny_storeName_local J hn (λh' ae f=>?_) (by rw[I.ok.kind];rfl);have%[oL,_,_,ag|_]:=id hn;refine h _ %[I.ok,I.os,I.bare,%[λb o e n L w=>?_,λb o e n L w=>?_,I.base.free,λb o e w=>?_,I.base.tups,I.base.frzs|I.base.tbls],%[_,ae|λj y v' l C e3=>?_],λy c e=>?_,I.free,I.freeC,λp hp=>?_,g %[oL,ag|I.free] f|by simpa using I.len] %[_,f|.inl rfl]
  .exact(f.2 b (Zr (Zf (Zt e) I.ok.above))).trans (I.base.keep b o e n L w)
  .have%[sl|l]:=I.base.slot b o e n L w;exact%[sl|(f.2 b (Zr (Zf (Zt e) I.ok.above))).trans l]
  .have%[o'|l]:=I.base.there b o e w;exact%[o'|(f.2 b (Zr (Zf (Zt e) I.ok.above))).trans l]
  .by_cases N:j=i
   .subst N;rw[hi]at l;cases l;rw[List.getElem?_set_self G]at C;cases C;exact%[u,r|.inl %[J|by simp]]
   .rw[List.getElem?_set_ne (Ne.symm N)]at C;have%[u',r'|q]:=hl j y v' l C e3;refine%[u',r'|?_];rcases q with⟨k,e⟩|⟨k,c,e,z⟩
    .refine .inl %[k|?_];have:y≠x:=λe=>N (cP hN l (e▸hi))
     simp[this,e]
    .exact .inr %[k,c,e|z.sameBut f (cne y c e)]
  .have%[w'|z]:=I.cell y c e;exact%[w'|z.sameBut f (cne y c e)]
  .have%[e,n,ne,nf|d]:=I.pin p hp;exact%[(f.2 p.1 ne).trans e,n,ne,nf|d]
 .have O:X.fn x=true:=by
   rcases hf with z|z
   .exact z
   .rw[z]at J;cases J
  have%[c|t]:=I.ok.has x (.inl J);have%[w'|z]:=I.cell x c t;refine wpAny_storeName_cell I.ok.kind J t z (λh' T f=>?_);have%[oc,U|Y]:=id z;refine h _ %[I.ok,I.os,I.bare,%[λb o e n L w=>?_,λb o e n L w=>?_,I.base.free,λb o e w=>?_,I.base.tups,I.base.frzs|I.base.tbls],%[m,hn.sameBut f (Ne.symm (cne x c t))|λj y v' l C e3=>?_],λy c' e=>?_,I.free,I.freeC,λp hp=>?_,g %[oc,U|I.freeC x c t] f|by simpa using I.len] %[c,f|.inr t]
  .exact(f.2 b (Zr (Zf (Zt e) (I.ok.cab x c O t)))).trans (I.base.keep b o e n L w)
  .have%[sl|l]:=I.base.slot b o e n L w;exact%[sl|(f.2 b (Zr (Zf (Zt e) (I.ok.cab x c O t)))).trans l]
  .have%[o'|l]:=I.base.there b o e w;exact%[o'|(f.2 b (Zr (Zf (Zt e) (I.ok.cab x c O t)))).trans l]
  .by_cases N:j=i
   .subst N;rw[hi]at l;cases l;rw[List.getElem?_set_self G]at C;cases C;exact%[u,r|.inr %[.inl J,c,t|T]]
   .rw[List.getElem?_set_ne (Ne.symm N)]at C;have%[u',r'|q]:=hl j y v' l C e3;refine%[u',r'|?_];rcases q with q|⟨k,c',e,z'⟩
    .exact .inl q
    .refine .inr %[k,c',e|z'.sameBut f ?_];rintro rfl;exact N (cP hN l (I.ok.inj _ _ _ e t▸hi))
  .by_cases ab:c'=c
   .subst ab;exact%[_|T]
   .have%[w2|z2]:=I.cell y c' e;exact%[w2|z2.sameBut f ab]
  .have%[e,n,ne,nf|d]:=I.pin p hp;refine%[(f.2 p.1 ?_).trans e,n,ne,nf|d];intro q;rw[q,U]at e;exact d w' ((Z9 e)▸Y)
theorem j2(I:Inv X pins σ H s)(a:X.N.Nodup)(hi:X.N[i]? =some x)(b:Loc X.env.scope x)(r:aO v u)
 (h:∀s',Inv X pins (σ.set i (some v)) H s'->Q () s') (c:X.fn x=true\/X.env.scope.names.lookup x=some .local):wpAny M A (storeName X.env x u) Q E s:=
 yh I a hi b r (λs' d _=>h s' d) c
theorem Inv.call'(I:Inv X pins σ H s)(e:s'.os=s.os)(u:Un (frs X.stack) ch H H' s.heap s'.heap)(a:HOk X.prog X.w H' s'.heap)(f:AllBare s'.gens)
 (d:∀b∈ch,(b∈X.ex\/X.s₀.heap.objs.size<=b)/\b≠X.env.locals/\(∀x c,X.env.cells.lookup x=some c->c≠b)/\∀p∈X.pn++pins,p.1≠b):Inv X pins σ H' s':=by
 have%[h',g',d',t'|g]:=s';subst e;exact I.call u a f d
end
noncomputable abbrev XK:=Value->ZI->Hp->Prop
noncomputable abbrev St:=List (Option V)
noncomputable abbrev VK:=V->Hp->Prop
noncomputable abbrev TE:=St->Hp->VK->Prop
noncomputable abbrev TT:=St->Hp->(Bool->Hp->Prop)->Prop
noncomputable abbrev TA:=St->Hp->(List V->Hp->Prop)->Prop
structure iL where
 nx:St->Hp->Prop
 rt:VK
 bk:St->Hp->Prop:=λ_ _=>False
 ct:St->Hp->Prop:=λ_ _=>False
noncomputable abbrev TS:=iL->St->Hp->Prop
def EP(X:Cx)(pins:ZE)(b:St)(Q:VK)(u:Value)(s':Shared):Prop:=∃v a,Inv X pins b a s'/\aO v u/\Q v a
def TP(X:Cx)(pins:ZE)(c:St)(Q:Bool->Hp->Prop)(b:Bool)(s':Shared):Prop:=∃a,Inv X pins c a s'/\Q b a
def AP(X:Cx)(pins:ZE)(b:St)(Q:List V->Hp->Prop)(us:ZG)(s':Shared):Prop:=∃vs a,Inv X pins b a s'/\aE vs us/\Q vs a
def SP(X:Cx)(pins:ZE)(D:iL)(f:Flow)(s':Shared):Prop:=
 match f with
 | .next=>∃a b,Inv X pins a b s'/\D.nx a b
 | .brk=>∃a b,Inv X pins a b s'/\D.bk a b
 | .cont=>∃a b,Inv X pins a b s'/\D.ct a b
 | .ret u=>∃v a b,Inv X pins a b s'/\aO v u/\D.rt v b
def PE(X:Cx)(e:Expr)(t:TE):Prop:=
 ∀pins s (a:St) H Q,Inv X pins a H s->t a H Q->(~~~X) (eval e X.env) (EP X pins a Q) X.xe s
def PT(X:Cx)(e:Expr)(t:TT):Prop:=
 ∀pins s (a:St) H Q,Inv X pins a H s->t a H Q->(~~~X) (isTrue e X.env (eval e X.env)) (TP X pins a Q) X.xe s
def PW(X:Cx)(e:Expr)(t:TT):Prop:=
 ∀a pins s (b:St) H Q,Inv X pins b H s->t b H Q->(~~~X) (isTrue e X.env a) (TP X pins b Q) X.xe s
theorem PW.pt{X:Cx}(h:PW X e t):PT X e t:=h _
def PA(X:Cx)(b:List Expr)(t:TA):Prop:=
 ∀pos pins s (a:St) H Q,Inv X pins a H s->t a H Q->(~~~X) (spliced (backTo pos (starEach b X.env))) (AP X pins a Q) X.xe s
def PS(X:Cx)(st:Stmt)(t:TS):Prop:=
 ∀pins s (a:St) H D,Inv X pins a H s->t D a H->(~~~X) (exec st X.env) (SP X pins D) X.xe s
def PSs(X:Cx)(st:List Stmt)(t:TS):Prop:=
 ∀pins s (a:St) H D,Inv X pins a H s->t D a H->(~~~X) (execs st X.env) (SP X pins D) X.xe s
theorem thn{b:Type}{t:Sem b}{Q c:b->Shared->Prop}{M:Model}{A:Around}{E:ZD}{s:Shared}(h:wpAny M A t Q E s)(d:∀a s,Q a s->c a s):wpAny M A t c E s:=wpAny_mono h d λ_ _ x=>x
theorem thP{c d:Type}{t:Sem c}{X:Cx}{pins:ZE}{e:St}{R:d->c->Prop}{Q:d->Hp->Prop}{f:c->Shared->Prop}{M:Model}{A:Around}{E:ZD}{s:Shared}(h:wpAny M A t (λa s=>∃v b,Inv X pins e b s/\R v a/\Q v b) E s)(g:∀a s v b,Inv X pins e b s->R v a->Q v b->f a s):wpAny M A t f E s:=wpAny_mono h (λa s ⟨v,b,i,r,q⟩=>g a s v b i r q) λ_ _ x=>x
theorem thT{c:Type}{t:Sem c}{X:Cx}{pins:ZE}{d:St}{Q:c->Hp->Prop}{e:c->Shared->Prop}{M:Model}{A:Around}{E:ZD}{s:Shared}(h:wpAny M A t (λa s=>∃b,Inv X pins d b s/\Q a b) E s)(f:∀a s b,Inv X pins d b s->Q a b->e a s):wpAny M A t e E s:=wpAny_mono h (λa s ⟨b,i,q⟩=>f a s b i q) λ_ _ x=>x
section
variable{X:Cx}
def asI(x:V)(f:Int->Prop):Prop:=match x with| .int i=>f i|_=>False
def asB(x:V)(f:Bool->Prop):Prop:=match x with| .bl i=>f i|_=>False
def asR(x:V)(f:Addr->Prop):Prop:=match x with| .ref i=>f i|_=>False
theorem GV:asI (.int i) f=f i:=rfl
theorem GW:asB (.bl i) f=f i:=rfl
theorem GX:asR (.ref i) f=f i:=rfl
theorem iM{x:V}{f:Int->Prop}(h:asI x f):∃i,x= .int i/\f i:=by
 cases x<;> first|exact⟨_,rfl,h⟩|exact h.elim
theorem pT{x:V}{f:Bool->Prop}(h:asB x f):∃i,x= .bl i/\f i:=by
 cases x<;> first|exact⟨_,rfl,h⟩|exact h.elim
theorem e7{x:V}{f:Addr->Prop}(h:asR x f):∃i,x= .ref i/\f i:=by
 cases x<;> first|exact⟨_,rfl,h⟩|exact h.elim
theorem GY:asI x f=∃i,x= .int i/\f i:=propext %[iM|λ⟨_,e,q⟩=>by subst e;exact q]
theorem GZ:asB x f=∃i,x= .bl i/\f i:=propext %[pT|λ⟨_,e,q⟩=>by subst e;exact q]
theorem G0:asR x f=∃i,x= .ref i/\f i:=propext %[e7|λ⟨_,e,q⟩=>by subst e;exact q]
def pd:Nat->TE
 | 0,some v::_,H,Q=>Q v H
 | i+1,_::a,H,Q=>pd i a H Q
 | _,_,_,_=>False
theorem EK:pd 0 (some v::a) H Q=Q v H:=rfl
theorem EM:pd (i+1) (o::a) H Q=pd i a H Q:=rfl
theorem z3:∀{i:Nat} {a:St},pd i a H Q->∃v,a[i]? =some (some v)/\Q v H
 | 0,some v::_,h=>%[v,rfl|h]
 | 0,none::_,h=>h.elim
 | 0,[],h=>h.elim
 | _+1,[],h=>h.elim
 | i+1,_::a,h=>z3 (i:=i) h
def tC(v:V):TE:=λ_ H Q=>Q v H
theorem z4(j:X.N[i]? =some x)(n:Vis X.env.scope x)(d:(x==("__debug__":Str))=false)(f:(x==("__classdict__":Str))=false):PE X (.Name x pos) (pd i):=by
 intro pins s o H Q I h;have%[v,e|h]:=z3 h;have%[m,p|q]:=I.loc;have%[u,r|l]:=q i x v j e n;have fin:EP X pins o Q u s:=%[v,H,I,r|h]
 rcases l with⟨b,t⟩|⟨b,c,g,a⟩
 .exact wpAny_Name (wpAny_loadName_local I.ok.kind b p t fin) d
 .rcases b with b|b
  .exact wpAny_Name (wpAny_loadName_cell I.ok.kind b g a fin) d
  .exact wpAny_Name (wpAny_loadName_free I.ok.kind b g a fin f) d
theorem EN{i j pos}:PE X (.Constant (.int i) j pos) (tC (.int i)):=λ_ _ _ H _ I h=>wpAny_Constant_int %[.int i,H,I.tok _,%[_|rfl]|h]
theorem G1{b j pos}:PE X (.Constant (.bool b) j pos) (tC (.bl b)):=λ_ _ _ H _ I h=>Constant_bool %[.bl b,H,I,rfl|h]
theorem EO{j pos}:PE X (.Constant .none j pos) (tC .non):=λ_ _ _ H _ I h=>Constant_none %[.non,H,I,rfl|h]
theorem EQ{x j pos}:PE X (.Constant (.str x) j pos) (tC (.str x)):=λ_ _ _ H _ I h=>Calls.Constant_str %[.str x,H,I.tok _,%[_|rfl]|h]
def Gl(X:Cx)(x:Str):Prop:=X.env.kindOf x=some .globalImplicit
theorem fP(I:Inv X pins d H s)(a:Gl X x)(b:X.mg x=some u)(h:Q u s)
 (c:(x==("__debug__":Str))=false):(~~~X) (eval (.Name x pos) X.env) Q E s:=
 Calls.Name_function_global I.ok.kind a (Calls.loadGlobal_global (I.ok.glob▸I.mod.glob.keeps I.bk) b h) c
theorem jK(I:Inv X pins i H s)(a:Gl X x)(b:X.mg x=none)(c:bootBuiltins x=some u)(h:Q u s)
 (d:x≠"__name__":=by decide) (e:(x==("__debug__":Str))=false:=by decide):(~~~X) (eval (.Name x pos) X.env) Q E s:=by
 have%[j,f|g]:=I.mod.blt;exact Calls.Name_function_global I.ok.kind a (Calls.loadGlobal_builtin (I.ok.glob▸I.mod.glob.keeps I.bk) b (I.ok.blt▸f.keeps I.bk) ((g x d).trans c) h) e
theorem Cz(a:Gl X x)(b:X.mg x=some u)(r:aO v u)(c:(x==("__debug__":Str))=false):PE X (.Name x pos) (tC v):=
 λ_ _ _ H _ I h=>fP I a b %[v,H,I,r|h] c
theorem CA(a:Gl X x)(b:X.mg x=none)(c:bootBuiltins x=some u)(r:aO v u)(d:x≠"__name__")(e:(x==("__debug__":Str))=false):PE X (.Name x pos) (tC v):=
 λ_ _ _ H _ I h=>jK I a b c %[v,H,I,r|h] d e
variable{a b:Expr}{ta tb:TE}{pos:Pos}
def PC(X:Cx)(op:CmpOp)(a b:Expr)(t:TE):Prop:=
 ∀pins s (e:St) H Q,Inv X pins e H s->t e H Q->
  (~~~X) (eval a X.env) (λv c=>(~~~X) (eval b X.env) (λu d=>(~~~X) (compareOp op v u) (EP X pins e Q) X.xe d) X.xe c) X.xe s
theorem G3(b:Expr)(h:op≠ .In)(e:op≠ .NotIn):behindInMarks op b=false:=by
 have c:(op==CmpOp.In)=false:=by lia
 have d:(op==CmpOp.NotIn)=false:=by lia
 cases b<;> simp[behindInMarks,c,d]
def tB(t:TE):TT:=λd H Q=>t d H λx e=>asB x λc=>Q c e
theorem z5{op:CmpOp}(h:PC X op a b t)(e:behindInMarks op b=false):PT X (.Compare a [op] [b] pos) (tB t):=by
 intro pins s f H Q I hw;refine wpAny_isTrue_Compare1 (thn (h pins s f H _ I hw) λv n e=>thn e λu o g=>thn g λc p ⟨x,i,j,l,m⟩=>?_) e;have%[d,rfl|q]:=pT m;cases l;exact wpAny_truthy_bool %[i,j|q]
variable{tA tB':TT}{rest:List Expr}
def CB(t u:TT):TT:=λd H Q=>t d H λc e=>if c=true then u d e Q else Q false e
def tOr(t u:TT):TT:=λd H Q=>t d H λc e=>if c=true then Q true e else u d e Q
def ER(t:TT):TT:=λd H Q=>t d H λc e=>Q (!c) e
theorem CC(d:PT X a tA):PW X (.BoolOp .And [a] pos) tA:=by
 intro g pins s f H Q I h;refine isTrue_and (thn (d pins s f H Q I h) λc i e=>?_);cases c with
 | true=>exact isTrue_and_nil e
 | false=>exact e
theorem ES(d:PT X a tA):PW X (.BoolOp .Or [a] pos) tA:=by
 intro g pins s f H Q I h;refine isTrue_or (thn (d pins s f H Q I h) λc i e=>?_);cases c with
 | false=>exact isTrue_or_nil e
 | true=>exact e
theorem ET(i:PT X a tA)(j:PW X (.BoolOp .And (b::rest) pos) tB'):PW X (.BoolOp .And (a::b::rest) pos) (CB tA tB'):=by
 intro l pins s d H Q I h;refine isTrue_and (thT (i pins s d H _ I h) λc m e f g=>?_);cases c with
 | true=>exact j l pins m d e Q f g
 | false=>exact%[e,f|g]
theorem G4(i:PT X a tA)(j:PW X (.BoolOp .Or (b::rest) pos) tB'):PW X (.BoolOp .Or (a::b::rest) pos) (tOr tA tB'):=by
 intro l pins s d H Q I h;refine isTrue_or (thT (i pins s d H _ I h) λc m e f g=>?_);cases c with
 | true=>exact%[e,f|g]
 | false=>exact j l pins m d e Q f g
theorem EU(c:PT X a tA):PT X (.UnaryOp .Not a pos) (ER tA):=by
 intro pins s d H Q I h;exact isTrue_not (c pins s d H _ I h)
def z6(ta tb:TE):TE:=λd H Q=>ta d H λx e=>asB x λc=>if c=true then tb d e Q else Q (.bl false) e
def EV(ta tb:TE):TE:=λd H Q=>ta d H λx e=>asB x λc=>if c=true then Q (.bl true) e else tb d e Q
theorem EW{op}(h:PE X a t):PE X (.BoolOp op [a] pos) t:=λpins s c H Q I hw=>BoolOp_one (h pins s c H Q I hw)
theorem EX(i:PE X a ta)(j:PE X (.BoolOp .And (b::rest) pos) tb):PE X (.BoolOp .And (a::b::rest) pos) (z6 ta tb):=by
 intro pins s e H Q I h;refine BoolOp_and (thP (i pins s e H _ I h) λv l x f g m d=>?_);have%[c,rfl|d]:=pT d;cases m;refine wpAny_truthy_bool ?_;cases c with
 | true=>exact j pins l e f Q g d
 | false=>exact%[.bl false,f,g,rfl|d]
theorem G5(i:PE X a ta)(j:PE X (.BoolOp .Or (b::rest) pos) tb):PE X (.BoolOp .Or (a::b::rest) pos) (EV ta tb):=by
 intro pins s e H Q I h;refine BoolOp_or (thP (i pins s e H _ I h) λv l x f g m d=>?_);have%[c,rfl|d]:=pT d;cases m;refine wpAny_truthy_bool ?_;cases c with
 | false=>exact j pins l e f Q g d
 | true=>exact%[.bl true,f,g,rfl|d]
def tIf(t:TT)(ta tb:TE):TE:=λd H Q=>t d H λc e=>if c=true then ta d e Q else tb d e Q
theorem z7{c:Expr}(l:PT X c tA)(m:PE X a ta)(n:PE X b tb):PE X (.IfExp c a b pos) (tIf tA ta tb):=by
 intro pins s e H Q I h;refine wpAny_IfExp (thT (l pins s e H _ I h) λd f g i j=>?_);cases d with
 | true=>exact m pins f e g Q i j
 | false=>exact n pins f e g Q i j
end
def SqL(K:ZA)(H:Hp)(a:Addr)(xs:List V):Prop:=
 Rd H a (.lst xs)\/
  ∃o its n,K.lookup a=some o/\o.cls= .type "list"/\o.dict=none/\o.data= .seq its n/\its.size<=sizeLine/\aE xs its.toList
def SqT(K:ZA)(H:Hp)(a:Addr)(xs:List V):Prop:=
 Rd H a (.tup xs)\/
  ∃o its n,K.lookup a=some o/\o.cls= .type "tuple"/\o.data= .seq its n/\its.size<=sizeLine/\aE xs its.toList
noncomputable def absV:Value->Option V
 | .none=>some .non
 | .bool b=>some (.bl b)
 | .int i _=>some (.int i)
 | .str x _=>some (.str x)
 | .bytes b _=>some (.byt b)
 | .float b _=>some (.flt b)
 | .ref a=>some (.ref a)
 | .type n=>some (.ty n)
 | _=>none
theorem aO.abs(r:aO x u):absV u=some x:=by
 cases x with
 | non=>cases r;rfl
 | bl _=>cases r;rfl
 | int _=>have%[t|rfl]:=r;rfl
 | str _=>have%[t|rfl]:=r;rfl
 | byt _=>have%[t|rfl]:=r;rfl
 | flt _=>have%[t|rfl]:=r;rfl
 | ref _=>cases r;rfl
 | ty _=>cases r;rfl
theorem aO.inj(r:aO x u)(q:aO y u):x=y:=Z9 (r.abs.symm.trans q.abs)
theorem aE.inj:∀{xs ys:List V} {us:ZG},aE xs us->aE ys us->xs=ys
 | _,_,_,.nil,.nil=>rfl
 | _,_,_,.cons r t,.cons a t'=>by rw[r.inj a,aE.inj t t']
section
#version
variable{a:Addr}{xs ys:List V}
theorem SqL.of{K:ZA}(h:H a=some (.lst xs)):SqL K H a xs:= .inl (.inl h)
theorem SqT.of{K:ZA}(h:H a=some (.tup xs)):SqT K H a xs:= .inl (.inl h)
theorem Inv.list(I:Inv X pins σ H s)(h:SqL X.K H a xs):∃its:ZG,aE xs its/\PlainL s.heap a its.toArray/\xs.length<=sizeLine:=by
 rcases h with h|⟨o,its,n,b,c,d,f,g,r⟩
 .have%[z,its,n,r|e]:=h.ok I.hok;exact%[its,r,%[_,n,e,rfl,rfl|rfl]|z]
 .refine%[its.toList,r,%[o,n,I.kIn a o b,c,d|f]|?_];have e:=r.length
  simp_all
theorem Inv.tuple(I:Inv X pins σ H s)(h:SqT X.K H a xs):∃its:ZG,aE xs its/\IsTup s.heap a its.toArray/\xs.length<=sizeLine:=by
 rcases h with h|⟨o,its,n,b,c,d,f,r⟩
 .have%[z,its,r|p]:=h.ok I.hok;exact%[its,r,p|z]
 .refine%[its.toList,r,%[o,I.kIn a o b,c,n|d]|?_];have e:=r.length;simp only[Za]at e
  lia
theorem Inv.list_inj(I:Inv X pins σ H s)(h:SqL X.K H a xs)(h':SqL X.K H a ys):xs=ys:=by
 have%[its,r,%[o,n,e,_,_|d]|_]:=I.list h;have%[its',c,%[g,i,b,_,_|d']|_]:=I.list h';rw[e]at b;cases b;rw[d]at d';injection d' with f _
 have:=congrArg Array.toList f;subst this;exact r.inj c
theorem Inv.tuple_inj(I:Inv X pins σ H s)(h:SqT X.K H a xs)(h':SqT X.K H a ys):xs=ys:=by
 have%[its,r,%[o,e,_,n|d]|_]:=I.tuple h;have%[its',c,%[g,b,_,i|d']|_]:=I.tuple h';rw[e]at b;cases b;rw[d]at d';injection d' with f _
 have:=congrArg Array.toList f;subst this;exact r.inj c
end
noncomputable abbrev Cx.wish(X:Cx)(E:ZD):Cx:={X with xe:=E}
noncomputable abbrev Cx.nox(X:Cx):Cx:=X.wish λ_ _=>False
theorem Cx.Ok.wish{X:Cx}(ok:X.Ok)(E:ZD):(X.wish E).Ok:=
 %[ok.mod,ok.kind,ok.glob,ok.blt,ok.above,ok.inj,ok.has,ok.cab,ok.hd,ok.frames,ok.stk,ok.exf,ok.bs,ok.bsz,ok.noex,ok.exfs,ok.funs|ok.frf]
theorem Cx.Ok.unwish{X:Cx}{E:ZD}(ok:(X.wish E).Ok):X.Ok:=
 %[ok.mod,ok.kind,ok.glob,ok.blt,ok.above,ok.inj,ok.has,ok.cab,ok.hd,ok.frames,ok.stk,ok.exf,ok.bs,ok.bsz,ok.noex,ok.exfs,ok.funs|ok.frf]
section
#version
variable{E:ZD}
theorem Inv.wish(I:Inv X pins σ H s)(E:ZD):Inv (X.wish E) pins σ H s:=%[I.ok.wish E,I.os,I.bare,I.base,I.loc,I.cell,I.free,I.freeC,I.pin,I.hok|I.len]
theorem Inv.unwish(I:Inv (X.wish E) pins σ H s):Inv X pins σ H s:=%[I.ok.unwish,I.os,I.bare,I.base,I.loc,I.cell,I.free,I.freeC,I.pin,I.hok|I.len]
theorem SP.unwish{D:iL}{f:Flow}{s':Shared}(h:SP (X.wish E) pins D f s'):SP X pins D f s':=by
 cases f with
 | next=>have%[a,b,I|q]:=h;exact%[a,b,I.unwish|q]
 | brk=>have%[a,b,I|q]:=h;exact%[a,b,I.unwish|q]
 | cont=>have%[a,b,I|q]:=h;exact%[a,b,I.unwish|q]
 | ret u=>have%[v,a,b,I,r|q]:=h;exact%[v,a,b,I.unwish,r|q]
theorem PSs.nox{st:List Stmt}(h:PSs X.nox st t):PSs X st t:=λpins s σ H D I hw=>
 wpAny_mono (h pins s σ H D (I.wish _) hw) (λ_ _ q=>q.unwish) λ_ _ z=>False.elim z
end
section
variable{X:Cx}{st:Stmt}{rest:List Stmt}{t u:TS}{e:Expr}{te:TE}{pos:Pos}
def z8:TS:=λD a H=>D.nx a H
def bc(t u:TS):TS:=λD a H=>t {D with nx:=u D} a H
theorem CD:PSs X [] z8:=λ_ _ a H _ I h=>wpAny_execs_nil %[a,H,I|h]
theorem z9(b:PS X st t)(c:PSs X rest u):PSs X (st::rest) (bc t u):=by
 intro pins s d H D I h;refine wpAny_execs_cons (thn (b pins s d H _ I h) λf g q=>?_);cases f with
 | next=>
   have%[a,i,j|q]:=q;exact c pins g a i D j q
 | ret v=>exact q
 | brk=>exact q
 | cont=>exact q
theorem CF(a:PS X st t):PSs X [st] t:=by
 intro pins s b H D I h;refine wpAny_execs_cons (thn (a pins s b H D I h) λf c q=>?_);cases f with
 | next=>exact wpAny_execs_nil q
 | ret v=>exact q
 | brk=>exact q
 | cont=>exact q
theorem Inv.quiet{pins:List _}{a:St}{H:Hp}{s:Shared}(I:Inv X pins a H s):interactive X.env=false:=by simp[interactive,I.ok.kind]
def j3(te:TE):TS:=λD a H=>te a H λ_ b=>D.nx a b
theorem CG(b:PE X e te)(c:swapsWith e none pos.line X.env=pure false):PS X (.Expr e pos) (j3 te):=by
 intro pins s a H D I h;exact wpAny_Expr_any (thP (b pins s a H _ I h) λv i x d f j g=>%[a,d,f|g]) I.quiet c
def j5(te:TE):TS:=λD a H=>te a H D.rt
theorem EY(b:PE X e te):PS X (.Return (some e) pos) (j5 te):=by
 intro pins s a H D I h;exact wpAny_Return_some (thP (b pins s a H _ I h) λv i x c d f g=>%[x,a,c,d,f|g])
def j6(c:TT)(t u:TS):TS:=λD a H=>c a H λb d=>if b=true then t D a d else u D a d
theorem G6{c:Expr}{a b:List Stmt}(m:PT X c n)(o:PSs X a t)(p:PSs X b u):PS X (.If c a b pos) (j6 n t u):=by
 intro pins s f H D I h;refine wpAny_If (thT (m pins s f H _ I h) λd g i j l=>?_);cases d with
 | true=>exact o pins g f i D j l
 | false=>exact p pins g f i D j l
def Aa:TS:=λ_ _ _=>False
theorem Ab:PS X st Aa:=λ_ _ _ _ _ _ h=>h.elim
end
noncomputable abbrev TG:=V->St->Hp->(St->Hp->Prop)->Prop
noncomputable abbrev TGs:=List V->St->Hp->(St->Hp->Prop)->Prop
def PG(X:Cx)(a:Expr)(t:TG):Prop:=
 ∀pins s (c:St) H v u Q,Inv X pins c H s->aO v u->t v c H Q->
  (~~~X) (assign a X.env u) (λ_ s'=>∃b d,Inv X pins b d s'/\Q b d) X.xe s
def PGs(X:Cx)(ts:List Expr)(t:TGs):Prop:=
 ∀pins s (b:St) H vs us Q,Inv X pins b H s->aE vs us->t vs b H Q->
  (~~~X) (assignInOrder ((assignEach ts X.env).map (·.2)) us) (λ_ s'=>∃a c,Inv X pins a c s'/\Q a c) X.xe s
section
variable{X:Cx}{pos:Pos}
def jA(i:Nat):TG:=λv a H Q=>Q (a.set i (some v)) H
theorem CH(a:X.N.Nodup)(hi:X.N[i]? =some x)(b:Loc X.env.scope x)(c:X.fn x=true\/X.env.scope.names.lookup x=some .local):PG X (.Name x pos) (jA i):=by
 intro pins s e H v u Q I r h;exact wpAny_assign_Name (j2 I a hi b r (λs' d=>%[_,H,d|h]) c)
def EZ:TGs:=λvs a H Q=>vs=[]/\Q a H
def Ac(t:TG)(u:TGs):TGs:=λvs b H Q=>∃v r,vs=v::r/\t v b H λa c=>u r a c Q
theorem CI:PGs X [] EZ:=by
 intro pins s a H vs us Q I r h;have%[e|h]:=h;exact assignInOrder_nil %[a,H,I|h]
theorem Ad{e:Expr}{u:TGs}(c:PG X e t)(d:PGs X a u)
 (f:(assignEach (e::a) X.env).map (·.2)=assign e X.env::(assignEach a X.env).map (·.2)):PGs X (e::a) (Ac t u):=by
 intro pins s g H vs us Q I r h;have%[v,o,i|h]:=h;subst i;cases r with
 | cons r rr=>
   rw[f];exact assignInOrder_cons (thn (c pins s g H _ _ _ I r h) λ_ j ⟨b,l,m,n⟩=>d pins j b l _ _ Q m rr n)
def Ae(K:ZA)(n:Nat)(t:TGs):TG:=λv b H Q=>asR v λa=>∃xs,SqT K H a xs/\xs.length=n/\t xs b H Q
theorem E3(g:X.calm=true)(h:PGs X c t)
 (i:(assignEach c X.env).length=n) (d:(assignEach c X.env).findIdx? (·.1)=none):PG X (.Tuple c k pos) (Ae X.K n t):=by
 intro pins s j H v u Q I r hw;have%[a,l,xs,m,p|hw]:=e7 hw;clear ‹Ae _ _ _ _ _ _ _›;subst l;cases r;have%[its,f,q|y]:=I.tuple m;exact assign_Tuple_tuple (I.ok.hd g) q (by simp[i,<-p,f.length]) d λh' w=>h pins _ j H xs _ Q (I.kept λb o e=>w b o (Zr (Zt e)) e) (f) hw
def pf(b:TE)(g:TG):TS:=λD a H=>b a H λx c=>g x a c D.nx
theorem E4{a e:Expr}{g:TG}(c:PE X e d)(f:PG X a g)(i:swapsWithSole [a] e pos.line X.env=pure false)(hw:swappedStores [a] e X.env=pure none)
 (j:(assignEach [a] X.env).map (·.2)=[assign a X.env]):PS X (.Assign [a] e pos) (pf d g):=by
 intro pins s b H D I h;refine wpAny_Assign_stores (thP (c pins s b H _ I h) λv l x m n o p=>?_) i hw;rw[j];exact thn (f pins l b m x v _ n o p) λ_ r q=>q
theorem Af{i:Nat}{x:Str}{e:Expr}(b:X.N.Nodup)(hi:X.N[i]? =some x)(c:Loc X.env.scope x)(d:PE X e f)(g:swapsWith e (some (.Name x a)) pos.line X.env=pure false)(j:X.fn x=true\/X.env.scope.names.lookup x=some .local):
 PS X (.Assign [.Name x a] e pos) (pf f (jA i)):=by
 intro pins s l H D I h;exact wpAny_Assign_Name (thP (d pins s l H _ I h) λv r y m n o p=>j2 n b hi c o (λt q=>%[_,m,q|p]) j) g
end
section
variable{X:Cx}{pos:Pos}
def Ag(c:TT)(h:TS):TS:=λD a H=>∃W:Nat->St->Hp->Prop,(∃m,W m a H)/\∀m a H,W m a H->
 c a H λb e=>if b=true then∃N:St->Hp->Prop,(∀d f,N d f->∃g,g<m/\W g d f)/\h {D with nx:=N,ct:=N,bk:=D.nx} a e else D.nx a e
theorem Ah(u:PassesOwn (model X.prog X.w) X.A X.env X.xe)(C:PT X c E)(G:PSs X e J):PS X (.While c e [] pos) (Ag E J):=by
 intro pins s L H D I h;have%[W,%[M|O]|g]:=h;refine wpAny_While (codeAny_whileLoop (λn s'=>∃i w,Inv X pins i w s'/\W n i w) ?_ M %[L,H,I|O]);intro n Q %[d,y,T|U];refine wpAny_passesOwn u (thT (C pins Q d y _ T (g n d y U)) λb Y z A l=>?_);cases b with
 | true=>
   have%[N,B|l]:=l;refine wpAny_passesOwn u (thn (G pins Y d z _ A l) λf s3 m=>?_);cases f with
   | next=>
     have%[a,j,o|p]:=m;have%[q,r|t]:=B a j p;exact%[q,r,a,j,o|t]
   | cont=>
     have%[a,j,o|p]:=m;have%[q,r|t]:=B a j p;exact%[q,r,a,j,o|t]
   | brk=>exact m
   | ret v=>exact m
 | false=>
   exact wpAny_execs_nil %[d,z,A|l]
end
structure It where
 go:Nat->Hp->Prop
 yld:Nat->Hp->V->Hp->Prop
 stop:Nat->Hp->Prop
def mB(X:Cx)(pins:ZE)(H:Hp)(b:Addr):Prop:=
 H b=none/\b≠X.env.locals/\b∉X.fs/\(b∈X.ex\/X.s₀.heap.objs.size<=b)/\(∀x c,X.env.cells.lookup x=some c->c≠b)/\∀p∈X.pn++pins,p.1≠b
theorem Inv.fpOk{X:Cx}(I:Inv X pins h H s)(a:⇑s<=b)(d:f b=none):mB X pins f b:=by
 refine%[d,Ys (Zf I.lt a),I.nofs a,.inr (Ya I.sz a),λx c e z=>?_|λp g z=>?_]
 .have%[v|q]:=I.cell x c e;exact absurd (Zf q.lt (z▸a)) (X6 _)
 .exact absurd (Zf (Zt (I.pin p g).1) (z▸a)) (X6 _)
structure mX (P:Program) (w:World) (K:ZA) (tg:Expr) (J:It) (fp:List Addr) (it:Addr) (tn:Nat->Heap->Prop):Prop where
 mem:it∈fp
 obj:∀i h,tn i h->∀b∈fp,∃o,h.get? b=some o/\∀v,o.data≠ .cell v
 keep:∀i h h',tn i h->(∀b∈fp,∀o,h.get? b=some o->h'.get? b=some o)->tn i h'
 item:∀(X:Cx),X.prog=P->X.w=w->X.K=K->X.calm=true->∀i (pins:ZE) s (σ:St) H (E:ZD),Inv X pins σ H s->(∀b∈fp,mB X pins H b)->tn i s.heap->J.go i H->
  wpAny (model P w) X.A (pyNext (.ref it)) (λr s1=>∃u,r=some u/\
   wpAny (model P w) X.A (letOwnedTupleGo tg (.ref it) u) (λ_ s2=>∃x H',Inv X pins σ H' s2/\aO x u/\J.yld i H x H'/\tn (i+1) s2.heap/\∀b∈fp,H' b=none) E s1) E s
 done:∀X,X.prog=P->X.w=w->X.K=K->X.calm=true->∀i pins s (σ:St) H E,Inv X pins σ H s->(∀b∈fp,mB X pins H b)->tn i s.heap->J.stop i H->
  wpAny (model P w) X.A (pyNext (.ref it)) (λr s1=>r=none/\Inv X pins σ H s1) E s
 self:∀A i s Q E,tn i s.heap->Q (.ref it) s->wpAny (model P w) A (pyIter (.ref it)) Q E s
noncomputable abbrev TI:=St->Hp->(It->Hp->Prop)->Prop
def PIE(X:Cx)(pins:ZE)(g:St)(h:Expr)(R:It->Hp->Prop)(a:Value)(d:Shared):Prop:=
 ∃it e f J c,a= .ref it/\Inv X pins g c d/\mX X.prog X.w X.K h J e it f/\f 0 d.heap/\(∀b∈e,mB X pins c b)/\R J c
def PI(X:Cx)(b iter:Expr)(c:TI):Prop:=
 ∀pins s (a:St) H R,Inv X pins a H s->c a H R->
  (~~~X) (eval iter X.env) (λv d=>(~~~X) (pyIter v) (PIE X pins a b R) X.xe d) X.xe s
theorem pV(b:s.heap.get? it=some o)(c:o.cls= .type n)(d:o.data= .fields vs)
 (e:["enumerate","zip","dict_itemiterator","dict_reverseitemiterator","odict_iterator","itertools.zip_longest","itertools.pairwise"].contains n=false) (a:Q () s):wpAny M A (letOwnedTupleGo f (.ref it) u) Q E s:=by
 cases f<;> first
  | exact Z3 a
  |(cases u<;> first
   | exact Z3 a
   |(refine Z2 (wpAny_load b ?_)
     rw[c,d];show wpAny M A (if(["enumerate","zip","dict_itemiterator","dict_reverseitemiterator","odict_iterator","itertools.zip_longest","itertools.pairwise"].contains n&&vs[0]? ==some _)=true then _ else _) Q E s;rw[if_neg (by intro h;rw[e,Bool.false_and]at h;cases h)];exact Z3 a))
noncomputable def Itl(K:ZA)(a:Addr):It:=
 ⟨λi H=>∃xs x,SqL K H a xs/\xs[i]? =some x,λi H x b=>b=H/\∀xs,SqL K H a xs->xs[i]? =some x,λi H=>∃xs,SqL K H a xs/\xs.length<=i⟩
noncomputable def Itt(K:ZA)(a:Addr):It:=
 ⟨λi H=>∃xs x,SqT K H a xs/\xs[i]? =some x,λi H x b=>b=H/\∀xs,SqT K H a xs->xs[i]? =some x,λi H=>∃xs,SqT K H a xs/\xs.length<=i⟩
noncomputable def Itr(lo:Int)(n:Nat):It:=%[λi _=>i<n,λi H x a=>a=H/\x= .int (lo+i)|λi _=>n<=i]
theorem yi{P:Program}{K:ZA}(a it:Addr):mX P w K tg (Itl K a) [it] it (λi h=>h.IsListIter it a i) where
 mem:=by simp
 obj:=λi h st b hb=>by
  have e:=by simpa using hb
  subst e;have%[o,e,c|d]:=st;exact%[o,e|λv z=>by rw[d]at z;cases z]
 keep:=λi h h' st k=>st.at λo e=>k it ∅ o e
 item:=by
  intro X hP hw hK hc i pins s σ H E I hf st hg;subst hP hw hK;have%[xs,x,hq|hx]:=hg;have%[its,rv,p|hz]:=I.list hq;have%[u,hu|ru]:=rv.get hx;have%[f0,f1,f2,f3,f4|f5]:=hf it ∅;refine wpAny_pyNext_list_item st p.isList (by simpa using hu) λh' st' sb=>?_
  have%[o,e,c|d]:=id st';exact%[u,rfl|pV e c d (by decide) %[x,H,(I.turned (λb o hb e=>(sb.2 b hb).trans e) f0 f1 f3 f4 f5),ru,%[rfl|λys hy=>(I.list_inj hy hq)▸hx],st'|λb hb=>(hf b hb).1]]
 done:=by
  intro X hP hw hK hc i pins s σ H E I hf st hg;subst hP hw hK;have%[xs,hq|hx]:=hg;have%[its,rv,p|hz]:=I.list hq;have%[f0,f1,f2,f3,f4|f5]:=hf it ∅;have hl:=rv.length;exact wpAny_pyNext_list_end (I.ok.hd hc) st p.isList (by simp;lia) λh' eb=>%[rfl|I.turned (λb o hb e=>eb b o hb e) f0 f1 f3 f4 f5]
 self:=λ_ _ _ _ _ st h=>wpAny_pyIter_listiter st h
theorem vf{P:Program}{K:ZA}(a it:Addr):mX P w K tg (Itt K a) [it] it (λi h=>h.IsTupleIter it a i) where
 mem:=by simp
 obj:=λi h st b hb=>by
  have e:=by simpa using hb
  subst e;have%[o,e,c|d]:=st;exact%[o,e|λv z=>by rw[d]at z;cases z]
 keep:=λi h h' st k=>st.at λo e=>k it ∅ o e
 item:=by
  intro X hP hw hK hc i pins s σ H E I hf st hg;subst hP hw hK;have%[xs,x,hq|hx]:=hg;have%[its,rv,p|hz]:=I.tuple hq;have%[u,hu|ru]:=rv.get hx;have%[f0,f1,f2,f3,f4|f5]:=hf it ∅;refine wpAny_pyNext_tuple_item st (p) (by simpa using hu) λh' st' sb=>?_
  have%[o,e,c|d]:=id st';exact%[u,rfl|pV e c d (by decide) %[x,H,(I.turned (λb o hb e=>(sb.2 b hb).trans e) f0 f1 f3 f4 f5),ru,%[rfl|λys hy=>(I.tuple_inj hy hq)▸hx],st'|λb hb=>(hf b hb).1]]
 done:=by
  intro X hP hw hK hc i pins s σ H E I hf st hg;subst hP hw hK;have%[xs,hq|hx]:=hg;have%[its,rv,p|hz]:=I.tuple hq;have%[f0,f1,f2,f3,f4|f5]:=hf it ∅;have hl:=rv.length;exact wpAny_pyNext_tuple_end (I.ok.hd hc) st (p) (by simp;lia) λh' eb=>%[rfl|I.turned (λb o hb e=>eb b o hb e) f0 f1 f3 f4 f5]
 self:=λ_ _ _ _ _ st h=>wpAny_pyIter_tupleiter st h
theorem vg{P:Program}{K:ZA}(it:Addr)(lo:Int)(n:Nat):mX P w K tg (Itr lo n) [it] it (λi h=>IsRangeIter h it (lo+(i:Nat)*1) ((n:Int) -(i:Nat)) 1) where
 mem:=by simp
 obj:=λi h st b hb=>by
  simp_all
 keep:=λi h h' st k=>k it ∅ _ st
 item:=by
  intro X hP hw hK hc i pins s σ H E I hf st hg;subst hP hw hK;have%[f0,f1,f2,f3,f4|f5]:=hf it ∅;refine(Walks.range (prog:=X.prog) (w:=X.w) (I.ok.hd hc) it lo 1 n).item i s _ _ hg st λv h' tk hv st' kk=>?_
  have%[t|rfl]:=hv;refine%[_,rfl|pV st' rfl rfl (by decide) %[.int _,H,(I.turned (λb o hb e=>kk b o (by simpa using hb) e) f0 f1 f3 f4 f5),%[t|?_],%[rfl|rfl],st'|λb hb=>(hf b hb).1]];rw[Int.mul_one]
 done:=by
  intro X hP hw hK hc i pins s σ H E I hf st hg;have%[f0,f1,f2,f3,f4|f5]:=hf it ∅;exact wpAny_pyNext_range_end (I.ok.hd hc) st (by have:n<=i:=hg;lia) λh' eb=>%[rfl|I.turned (λb o hb e=>eb b o hb e) f0 f1 f3 f4 f5]
 self:=λ_ _ _ _ _ st h=>wpAny_pyIter_rangeiter st h
section
variable{X:Cx}{tg:Expr}
theorem Ai{R:It->Hp->Prop}{lo hi:Int}(I:Inv X pins c H s)(d: -(2^62)<=lo)(f:lo<2^62)(g: -(2^62)<=hi)(h:hi<2^62)
 (q:R (Itr lo (hi-lo).toNat) H):(~~~X) (pyIter (.ref ⇑s)) (PIE X pins c tg R) E {s with heap:=s.heap.push {cls:= .type "range",data:= .fields #[.int lo t,.int hi u,.int 1 v]},toks:=tk}:=by
 refine wpAny_pyIter_range (IsRange.new ..) (small_one d f g h) ?_;have a:Inv X pins c H {s with heap:=s.heap.push {cls:= .type "range",data:= .fields #[.int lo t,.int hi u,.int 1 v]},toks:=tk}:=I.kept λb o e=>Z6 _ e
 refine%[(s.heap.push _).objs.size,[(s.heap.push _).objs.size],_,_,H,rfl,
  a.kept λb o e=>Z6 _ e,vg _ lo _,?_,λb i=>?_|q]
 .have j:lo+((0:Nat))*1=lo:=by simp
  have l:(((hi-lo).toNat)) -((0:Nat))=Builtin.Range.rangeSize lo hi 1:=by rw[rangeSize_one];split<;> lia
  rw[j,l];exact Zi _ rfl
 .have e:b=(s.heap.push {cls:= .type "range",data:= .fields #[.int lo t,.int hi u,.int 1 v]}).objs.size:=by simpa using i
  subst e;exact a.fpOk (Zh _) (a.hok.fresh (Zh _))
def Aj(a:TA):TI:=λb H R=>a b H λvs c=>∃j:Int,vs=[.int j]/\ -(2^62)<=j/\j<2^62/\R (Itr 0 j.toNat) c
theorem yj{a:Expr}(c:Gl X "range")(d:X.mg "range"=none)(f:PA X [a] g)(i:starEach [a] X.env=[(false,eval a X.env)]):PI X tg (.Call (.Name "range" p) [a] [] pos) (Aj g):=by
 intro pins s l H R I h;refine Call_ (jK I c d boot_range (PyProof.Rows.callWith_type1 (thP (f pos pins s l H _ I h) λus u vs v m n b=>?_) i rfl));have%[j,e,b,o|q]:=b;subst e;cases n with
 | cons r rr=>
   cases rr;have%[t|rfl]:=r;exact call_range_1 (Ai m ⋯ ⋯ b o (by simpa using q))
def Ak(f:TI)(g:TG)(h:TS):TS:=λD a H=>f a H λJ j=>∃W:Nat->Nat->St->Hp->Prop,(∃m,W 0 m a j)/\∀i m a H,W i m a H->
 (J.stop i H/\D.nx a H)\/(J.go i H/\∃N:St->Hp->Prop,(∀b c,N b c->∃e,e<m/\W (i+1) e b c)/\∀x c,J.yld i H x c->g x a c λd l=>h {D with nx:=N,ct:=N,bk:=D.nx} d l)
noncomputable def rc(a:List Addr)(h:Heap):ZE:=a.filterMap λb=>(h.get? b).map λo=>(b,o)
theorem e8(a:b∈c)(e:h.get? b=some o):(b,o)∈rc c h:=mem_filterMap.mpr %[b,a|by rw[e];rfl]
theorem yk(a:p∈rc c h):p.1∈c/\h.get? p.1=some p.2:=by
 have%[b,d|e]:=mem_filterMap.mp a;cases q:h.get? b with
 | none=>simp_all
 | some o=>
   rw[q]at e;have f:=Z9 e;subst f;exact%[d|q]
theorem Inv.pinned(I:Inv X pins g H s)(h:∀b∈a,mB X pins H b)(i:∀b∈a,∃o,s.heap.get? b=some o/\∀v,o.data≠ .cell v):Inv X (pins++rc a s.heap) g H s:=
 I.pins_of λp j=>(X9 j).elim (λz=>I.pin p (Yo _ z)) λz=>by
  have%[c|e]:=yk z;have%[l,m,n|_]:=h p.1 c;have%[o,f|d]:=i p.1 c;rw[e]at f;cases f;exact%[e,l,m,n|d]
theorem Inv.unpinned(I:Inv X (pins++pl) a H s):Inv X pins a H s:=I.pins_of λp b=>I.pin p (Yo _ (Yn _ b))
theorem E5(A:PassesOwn (model X.prog X.w) X.A X.env X.xe)(hc:X.calm=true)(hi:PI X tg iter wi)(hg:PG X tg g)(c:PSs X B tb)
 (hs:∀x,foldedSetIterable iter X.env x=pure x):PS X (.For tg iter B [] pos) (Ak wi g tb):=by
 intro pins s σ H D I h;refine wpAny_For (thn (hi pins s σ H _ I h) λv s1 h1=>thn h1 λae s2 h2=>?_) hs;have%[it,M,tn,J,H2,e,I2,T,Q,f2,W,%[m0|w0]|C]:=h2;subst e;have j:∀{w:Hp},(∀b∈M,w b=none)->∀b∈M,mB X pins w b:=λhn b c=>%[hn b c|(f2 b c).2]
 refine codeAny_forLoop_any (λn s'=>∃i l w,Inv X pins l w s'/\tn i s'.heap/\(∀b∈M,w b=none)/\W i n l w) ?_ m0 %[0,σ,H2,I2,Q,λb c=>(f2 b c).1|w0];intro n s3 %[i,p,O,I3,E,G|w3];rcases C i n p O w3 with⟨stop,qn⟩|⟨go,N,hN,step⟩
 .refine wpAny_passesOwn A (thn (T.done X rfl rfl rfl hc i pins s3 p O X.xe I3 (j G) E stop) λr s4 ⟨U,I4⟩=>?_);subst U;exact wpAny_execs_nil %[p,O,I4|qn]
 .refine wpAny_passesOwn A (thn (T.item X rfl rfl rfl hc i pins s3 p O X.xe I3 (j G) E go) λr s4 ⟨u,U,h4⟩=>?_);subst U;refine wpAny_passesOwn A (thn h4 λ_ s5 ⟨x,H5,I5,r5,y5,z,Y⟩=>wpAny_passesOwn A (thn (hg _ s5 p H5 x u _ (I5.pinned (j Y) (T.obj _ _ z)) r5 (step x H5 y5)) λ_ s6 ⟨ab,H6,I6,q6⟩=>wpAny_passesOwn A (thn (c _ s6 ab H6 _ I6 q6) λf s7 y=>?_)));have again:∀{a:St} {q:Hp},Inv X _ a q s7->N a q->∃m,m<n/\∃i l w,Inv X pins l w s7/\tn i s7.heap/\(∀b∈M,w b=none)/\W i m l w:=λ{a q} t L=>by
   have%[m',hm|w7]:=hN a q L;refine%[m',hm,i+1,a,q,t.unpinned,T.keep _ _ _ z λb c o e=>(t.pin _ (Yo _ (Yo _ (e8 c e)))).1,λb c=>?_|w7];have%[o,e|d]:=T.obj _ _ z b c;exact(t.pin _ (Yo _ (Yo _ (e8 c e)))).2.1
  cases f with
  | next=>have%[a,q,t|L]:=y;exact again t L
  | cont=>have%[a,q,t|L]:=y;exact again t L
  | brk=>have%[a,q,t|y]:=y;exact%[a,q,t.unpinned|y]
  | ret v=>have%[x7,a,q,t,r7|y]:=y;exact%[x7,a,q,t.unpinned,r7|y]
end
theorem bx{K:ZA}{g:TG}{l:TS}{D:iL}(Pv:Nat->St->Hp->Prop)(o:Pv 0 b H)(r:∀i b H,i<=xs.length->Pv i b H->SqL K H a xs)
 (s:∀i x b H,xs[i]? =some x->Pv i b H->g x b H λc h=>l {D with nx:=Pv (i+1),ct:=Pv (i+1),bk:=D.nx} c h) (t:∀b H,Pv xs.length b H->D.nx b H):
 ∃W:Nat->Nat->St->Hp->Prop,(∃m,W 0 m b H)/\∀i m b H,W i m b H->
  ((Itl K a).stop i H/\D.nx b H)\/((Itl K a).go i H/\∃N:St->Hp->Prop,(∀d f,N d f->∃n,n<m/\W (i+1) n d f)/\∀x f,(Itl K a).yld i H x f->g x b f λc h=>l {D with nx:=N,ct:=N,bk:=D.nx} c h):=by
 refine%[λi m b H=>m=xs.length-i/\i<=xs.length/\Pv i b H,%[xs.length,by simp,X2 _|o]|?_];intro i m b H %[rfl,hi|p];have q:=r i b H hi p;by_cases j:i<xs.length
 .refine .inr %[%[xs,xs[i],q|by simp],Pv _,λd f u=>%[xs.length-(i+1),⋯,rfl,j|u]|λx f y=>?_];have%[e|y]:=y;subst e;exact s i x b _ (y xs q) p
 .have e:i=xs.length:=by lia
  subst e;exact .inl %[%[xs,q|Zh _]|t b H p]
theorem eW{lo:Int}{g:TG}{j:TS}{D:iL}(Pv:Nat->St->Hp->Prop)(o:Pv 0 a H)
 (q:∀i a H,i<n->Pv i a H->g (.int (lo+i)) a H λb h=>j {D with nx:=Pv (i+1),ct:=Pv (i+1),bk:=D.nx} b h) (r:∀a H,Pv n a H->D.nx a H):
 ∃W:Nat->Nat->St->Hp->Prop,(∃m,W 0 m a H)/\∀i m a H,W i m a H->
  ((Itr lo n).stop i H/\D.nx a H)\/((Itr lo n).go i H/\∃N:St->Hp->Prop,(∀c d,N c d->∃l,l<m/\W (i+1) l c d)/\∀x d,(Itr lo n).yld i H x d->g x a d λb h=>j {D with nx:=N,ct:=N,bk:=D.nx} b h):=by
 refine%[λi m a H=>m=n-i/\i<=n/\Pv i a H,%[n,by simp,X2 _|o]|?_];intro i m a H %[rfl,hi|p];by_cases f:i<n
 .refine .inr %[f,Pv _,λc d s=>%[n-(i+1),⋯,rfl,f|s]|λx d y=>?_];have%[e|y]:=y;subst e y;exact q i a _ f p
 .have e:i=n:=by lia
  subst e;exact .inl %[Zh _|r a H p]
noncomputable abbrev R2:=V->V->Hp->VK->Prop
def OpR(X:Cx)(f:Value->Value->Sem Value)(r:R2):Prop:=
 ∀pins s (a:St) H x y v u Q,Inv X pins a H s->aO x v->aO y u->r x y H Q->
  (~~~X) (f v u) (EP X pins a Q) X.xe s
def UnR(X:Cx)(f:Value->Sem Value)(r:V->Hp->VK->Prop):Prop:=
 ∀pins s (a:St) H x v Q,Inv X pins a H s->aO x v->r x H Q->
  (~~~X) (f v) (EP X pins a Q) X.xe s
def bW(X:Cx)(f:Value)(r:List V->Hp->VK->Prop):Prop:=
 ∀pins s (a:St) H xs us Q,Inv X pins a H s->aE xs us->r xs H Q->
  (~~~X) (call f us) (EP X pins a Q) X.xe s
def TruR(X:Cx)(r:V->Hp->(Bool->Hp->Prop)->Prop):Prop:=
 ∀pins s (a:St) H x v Q,Inv X pins a H s->aO x v->r x H Q->
  (~~~X) (truthy v) (TP X pins a Q) X.xe s
def tOp(r:R2)(b c:TE):TE:=λa H Q=>b a H λx d=>c a d λy e=>r x y e Q
def tUn(r:V->Hp->VK->Prop)(a:TE):TE:=λb H Q=>a b H λx c=>r x c Q
def rI(C:Int->Int->Prop)(g:Int->Int->V):R2:=λx y H Q=>asI x λi=>asI y λj=>C i j/\Q (g i j) H
def rI0(g:Int->Int->V):R2:=λx y H Q=>asI x λi=>asI y λj=>Q (g i j) H
def rU(g:Int->V):V->Hp->VK->Prop:=λx H Q=>asI x λi=>Q (g i) H
section
variable{X:Cx}{a b c:Expr}{ta tb tc:TE}{pos:Pos}
theorem E6(m:PE X a ta)(n:PE X b tb){pins:List _}{s:Shared}{d:St}{H:Hp}{R:V->V->Hp->Prop}(I:Inv X pins d H s)
 (h:ta d H λx l=>tb d l λy e=>R x y e) {Q:ZD} {f:Value->Value->Sem Value}
 (o:∀v u j x y e,Inv X pins d e j->aO x v->aO y u->R x y e->(~~~X) (f v u) Q X.xe j):
 (~~~X) (eval a X.env) (λv g=>(~~~X) (eval b X.env) (λu i=>(~~~X) (f v u) Q X.xe i) X.xe g) X.xe s:=by
 exact thP (m pins s d H _ I h) λv p x l q r t=>thP (n pins p d l _ q t) λu j y e w z A=>o v u j x y e w r z A
theorem G7{r:R2}(d:OpR X (binaryOp op) r)(e:PE X a ta)(f:PE X b tb):PE X (.BinOp a op b pos) (tOp r ta tb):=by
 intro pins s g H Q I h;exact wpAny_BinOp (E6 e f I h λv u i x y j l m n q=>d pins i g j x y v u Q l m n q)
theorem G8(e:UnR X (unaryOp op) r)(f:PE X a ta):PE X (.UnaryOp op a pos) (tUn r ta):=by
 intro pins s d H Q I h;exact UnaryOp_ (thP (f pins s d H _ I h) λv g x i j l m=>e pins g d i x v Q j l m)
theorem opI{f:Value->Value->Sem Value}{C:Int->Int->Prop}{g:Int->Int->Int}
 (rule:∀i j t u s Q E,C i j->Q (.int (g i j) s.toks) {s with toks:=s.toks+1}->(~~~X) (f (.int i t) (.int j u)) Q E s):
 OpR X f (rI C λi j=> .int (g i j)):=by
 intro pins s n H x y v u Q I d e h;have%[i,rfl|l]:=iM h;have%[j,rfl,m|q]:=iM l;have%[t|rfl]:=d;have%[t'|rfl]:=e;exact rule i j t t' s _ _ m %[.int _,H,I.tok _,%[_|rfl]|q]
theorem G9{g:Int->Int->Int}
 (rule:∀(i j:Int) (t u:Tok) (s:Shared) (Q:ZD) (E:ZD),Q (.int (g i j) s.toks) {s with toks:=s.toks+1}->(~~~X) (f (.int i t) (.int j u)) Q E s):
 OpR X f (rI0 λi j=> .int (g i j)):=by
 intro pins s m H x y v u Q I d e h;have%[i,rfl|l]:=iM h;have%[j,rfl|q]:=iM l;have%[t|rfl]:=d;have%[t'|rfl]:=e;exact rule i j t t' s _ _ %[.int _,H,I.tok _,%[_|rfl]|q]
theorem E7{g:Int->Int->Bool}
 (rule:∀(i j:Int) (t u:Tok) (s:Shared) (Q:ZD) (E:ZD),Q (.bool (g i j)) s->(~~~X) (f (.int i t) (.int j u)) Q E s):
 OpR X f (rI0 λi j=> .bl (g i j)):=by
 intro pins s m H x y v u Q I d e h;have%[i,rfl|l]:=iM h;have%[j,rfl|q]:=iM l;have%[t|rfl]:=d;have%[t'|rfl]:=e;exact rule i j t t' s _ _ %[.bl _,H,I,rfl|q]
def Hd(i j:Int):Prop:=0<j/\j<1073741824
def Al(i j:Int):Prop:=(-(2^64)<i/\i<2^64)\/(-(2^64)<j/\j<2^64)
theorem Al.ok{i j:Int}(h:Al i j):IntMulOk i j:=by
 rcases h with⟨d,e⟩|⟨d,e⟩
 .exact .of_left (intBits_le_64 d e)
 .exact .of_right (intBits_le_64 d e)
theorem Am:OpR X (binaryOp .Add) (rI0 λi j=> .int (i+j)):=G9 λ_ _ _ _ _ _ _ q=>add_int q
theorem E8:OpR X (binaryOp .Sub) (rI0 λi j=> .int (i-j)):=G9 λ_ _ _ _ _ _ _ q=>sub_int q
theorem Ao:OpR X (binaryOp .Mult) (rI Al λi j=> .int (i*j)):=opI λ_ _ _ _ _ _ _ d q=>mul_int q d.ok
theorem CJ:OpR X (binaryOp .FloorDiv) (rI Hd λi j=> .int (i/j)):=opI λi j _ _ _ _ _ d q=>by
 have e:(0:Int)<j:=d.1;have f:j<1073741824:=d.2;exact floordiv_int ⋯ (by rw[Int.fdiv_eq_ediv_of_nonneg i ⋯];exact q) (.inl (PyProof.noPylong_small ⋯))
theorem E9:OpR X (binaryOp .Mod) (rI (λ_ j=>0<j) λi j=> .int (i%j)):=opI λi j _ _ _ _ _ d q=>by
 have e:(0:Int)<j:=d;exact mod_int' ⋯ (by rw[Int.fmod_eq_emod_of_nonneg i ⋯];exact q)
theorem unI{g:Int->Int}
 (rule:∀(i:Int) (t:Tok) (s:Shared) (Q:ZD) (E:ZD),Q (.int (g i) s.toks) {s with toks:=s.toks+1}->(~~~X) (f (.int i t)) Q E s):
 UnR X f (rU λi=> .int (g i)):=by
 intro pins s e H x v Q I d h;have%[i,rfl|q]:=iM h;have%[t|rfl]:=d;exact rule i t s _ _ %[.int _,H,I.tok _,%[_|rfl]|q]
theorem Fa:UnR X (unaryOp .USub) (rU λi=> .int (-i)):=unI λ_ _ _ _ _ q=>neg_int q
end
noncomputable def Fb:V->V->Bool
 | .non,.non=>true| .non,.int _=>true| .int _,.non=>true| .non,.bl _=>true| .bl _,.non=>true| .non,.str _=>true| .str _,.non=>true
 | .int _,.int _=>true| .bl _,.bl _=>true| .str _,.str _=>true| .byt _,.byt _=>true
 | .int _,.str _=>true| .str _,.int _=>true| .bl _,.str _=>true| .str _,.bl _=>true
 | _,_=>false
theorem zqD:(Fb .non .non=true)/\(∀j,Fb .non (.int j)=true)/\(∀i,Fb (.int i) .non=true)/\(∀j,Fb .non (.bl j)=true)/\(∀i,Fb (.bl i) .non=true)/\(∀j,Fb .non (.str j)=true)/\(∀i,Fb (.str i) .non=true)/\(∀i j,Fb (.int i) (.int j)=true)/\(∀i j,Fb (.bl i) (.bl j)=true)/\(∀i j,Fb (.str i) (.str j)=true)/\(∀i j,Fb (.byt i) (.byt j)=true)/\(∀i j,Fb (.int i) (.str j)=true)/\(∀i j,Fb (.str i) (.int j)=true)/\(∀i j,Fb (.bl i) (.str j)=true)/\(∀i j,Fb (.str i) (.bl j)=true):=by and_intros<;> intros<;> rfl
def rEq:R2:=λx y H Q=>Fb x y=true/\Q (.bl (decide (x=y))) H
def rNe:R2:=λx y H Q=>Fb x y=true/\Q (.bl (!decide (x=y))) H
theorem wV:decide (V.int i=V.int j)=(i==j):=by
 rw[Bool.eq_iff_iff];simp
theorem Ap:decide (V.bl i=V.bl j)=(i==j):=by
 rw[Bool.eq_iff_iff];simp
theorem wW:decide (V.str i=V.str j)=(i==j):=by
 rw[Bool.eq_iff_iff];simp
theorem wX:decide (V.byt i=V.byt j)=(i.toList==j.toList):=by
 rw[Bool.eq_iff_iff]
 simp_all
section
variable{X:Cx}{a b c:Expr}{ta tb tc:TE}{pos:Pos}
theorem aV(I:Inv X pins d H s)(q:Q (.bl k) H)(e:k=f):EP X pins d Q (.bool f) s:=by
 subst e;exact%[.bl k,H,I,rfl|q]
theorem He:OpR X (compareOp .Eq) rEq:=by
 intro pins s g H x y v u Q I f d h;have%[e|q]:=h;cases x with
 | non=>
   cases f;cases y with
   | non=>cases d;exact PySem.EqNone.eq_none_none (aV I q ∅)
   | bl j=>cases d;exact PySem.EqNone.eq_none_bool (aV I q ∅)
   | int j=>have%[t'|rfl]:=d;exact PySem.EqNone.eq_none_int (aV I q ∅)
   | str j=>have%[t'|rfl]:=d;exact PySem.EqNone.eq_none_str (aV I q ∅)
   | _=>exact absurd (show false=true from e) Zs
 | bl i=>
   cases f;cases y with
   | non=>cases d;exact PySem.EqNone.eq_bool_none (aV I q ∅)
   | bl j=>cases d;exact eq_bool (aV I q Ap)
   | str j=>have%[t'|rfl]:=d;exact PySem.EqMixed.eq_bool_str (aV I q ∅)
   | _=>exact absurd (show false=true from e) Zs
 | int i=>
   have%[t|rfl]:=f;cases y with
   | non=>cases d;exact PySem.EqNone.eq_int_none (aV I q ∅)
   | int j=>have%[t'|rfl]:=d;exact eq_int (aV I q wV)
   | str j=>have%[t'|rfl]:=d;exact PySem.EqMixed.eq_int_str (aV I q ∅)
   | _=>exact absurd (show false=true from e) Zs
 | str i=>
   have%[t|rfl]:=f;cases y with
   | non=>cases d;exact PySem.EqNone.eq_str_none (aV I q ∅)
   | bl j=>cases d;exact PySem.EqMixed.eq_str_bool (aV I q ∅)
   | int j=>have%[t'|rfl]:=d;exact PySem.EqMixed.eq_str_int (aV I q ∅)
   | str j=>have%[t'|rfl]:=d;exact eq_str (aV I q wW)
   | _=>exact absurd (show false=true from e) Zs
 | byt i=>
   have%[t|rfl]:=f;cases y with
   | byt j=>have%[t'|rfl]:=d;exact PySem.W.eq_bytes (aV I q wX)
   | _=>exact absurd (show false=true from e) Zs
 | _=>cases y<;> exact absurd (show false=true from e) Zs
theorem Hf:OpR X (compareOp .NotEq) rNe:=by
 intro pins s g H x y v u Q I f d h;have%[e|q]:=h;cases x with
 | non=>
   cases f;cases y with
   | non=>cases d;exact PySem.EqNone.ne_none_none (aV I q ∅)
   | bl j=>cases d;exact PySem.EqNone.ne_none_bool (aV I q ∅)
   | int j=>have%[t'|rfl]:=d;exact PySem.EqNone.ne_none_int (aV I q ∅)
   | str j=>have%[t'|rfl]:=d;exact PySem.EqNone.ne_none_str (aV I q ∅)
   | _=>exact absurd (show false=true from e) Zs
 | bl i=>
   cases f;cases y with
   | non=>cases d;exact PySem.EqNone.ne_bool_none (aV I q ∅)
   | bl j=>cases d;exact ne_bool (aV I q (congrArg not Ap))
   | str j=>have%[t'|rfl]:=d;exact PySem.EqMixed.ne_bool_str (aV I q ∅)
   | _=>exact absurd (show false=true from e) Zs
 | int i=>
   have%[t|rfl]:=f;cases y with
   | non=>cases d;exact PySem.EqNone.ne_int_none (aV I q ∅)
   | int j=>have%[t'|rfl]:=d;exact ne_int (aV I q (congrArg not wV))
   | str j=>have%[t'|rfl]:=d;exact PySem.EqMixed.ne_int_str (aV I q ∅)
   | _=>exact absurd (show false=true from e) Zs
 | str i=>
   have%[t|rfl]:=f;cases y with
   | non=>cases d;exact PySem.EqNone.ne_str_none (aV I q ∅)
   | bl j=>cases d;exact PySem.EqMixed.ne_str_bool (aV I q ∅)
   | int j=>have%[t'|rfl]:=d;exact PySem.EqMixed.ne_str_int (aV I q ∅)
   | str j=>have%[t'|rfl]:=d;exact ne_str (aV I q (congrArg not wW))
   | _=>exact absurd (show false=true from e) Zs
 | byt i=>
   have%[t|rfl]:=f;cases y with
   | byt j=>have%[t'|rfl]:=d;exact PySem.W.ne_bytes (aV I q (congrArg not wX))
   | _=>exact absurd (show false=true from e) Zs
 | _=>cases y<;> exact absurd (show false=true from e) Zs
theorem Hg:OpR X (compareOp .Lt) (rI0 λi j=> .bl (decide (i<j))):=E7 λ_ _ _ _ _ _ _ q=>lt_int q
theorem Hh:OpR X (compareOp .LtE) (rI0 λi j=> .bl (decide (i<=j))):=E7 λ_ _ _ _ _ _ _ q=>le_int q
theorem Hi:OpR X (compareOp .Gt) (rI0 λi j=> .bl (decide (j<i))):=E7 λ_ _ _ _ _ _ _ q=>gt_int q
theorem yo:OpR X (compareOp .In) (λx y H Q=>∃i j,x= .str i/\y= .str j/\Q (.bl (!(Builtin.Str.occurrences j i 0 j.length 1).isEmpty)) H):=by
 intro pins s f H x y v u Q I d e h;have%[i,j,rfl,rfl|q]:=h;have%[t|rfl]:=d;have%[t'|rfl]:=e;exact in_str (aV I q rfl)
theorem Fc:OpR X (compareOp .Is) (λx y H Q=>y= .non/\Q (.bl (decide (x= .non))) H):=by
 intro pins s f H x y v u Q I d e h;have%[rfl|q]:=h;cases e;refine is_none_gen (aV I q ?_);cases x<;> first
  | lia
  |(have%[t|rfl]:=d;rfl)
theorem CL:OpR X (compareOp .IsNot) (λx y H Q=>y= .non/\Q (.bl (!decide (x= .non))) H):=by
 intro pins s f H x y v u Q I d e h;have%[rfl|q]:=h;cases e;refine isnot_none_gen (aV I q ?_);cases x<;> first
  | lia
  |(have%[t|rfl]:=d;rfl)
theorem OpR.or(h:OpR X f r)(h':OpR X f i):OpR X f (λx y H Q=>r x y H Q\/i x y H Q):=by
 intro pins s d H x y v u Q I e g q;rcases q with q|q
 .exact h pins s d H x y v u Q I e g q
 .exact h' pins s d H x y v u Q I e g q
theorem nomark(b:Expr)(h:op≠ .In)(f:op≠ .NotIn):behindInMarks op b=false:=by
 have d:(op==CmpOp.In)=false:=by lia
 have e:(op==CmpOp.NotIn)=false:=by lia
 cases b<;> simp[behindInMarks,d,e]
theorem CM{r:R2}(d:OpR X (compareOp op) r)(e:PE X a ta)(f:PE X b tb)(g:behindInMarks op b=false):PE X (.Compare a [op] [b] pos) (tOp r ta tb):=by
 intro pins s i H Q I h;exact wpAny_Compare1 (E6 e f I h λv u j x y l m n o q=>d pins j i l x y v u Q m n o q) g
def Aq(t:TE):TT:=λd H Q=>t d H λx e=>asB x λk=>Q k e
theorem CO(f:OpR X (compareOp op) r)(g:PE X a ta)(i:PE X b tb)(j:behindInMarks op b=false):PT X (.Compare a [op] [b] pos) (Aq (tOp r ta tb)):=by
 intro pins s d H Q I h;refine wpAny_isTrue_Compare1 (thP (g pins s d H _ I h) λv l x m n o p=>thP (i pins l d m _ n p) λu q y t w A B=>
  thP (f pins q d t x y v u _ w o A B) λc J z C E G e=>?_) j
 have%[k,rfl|e]:=pT e;cases G;exact wpAny_truthy_bool %[C,E|e]
def vh(r f:R2)(ta tb tc:TE):TE:=λd H Q=>ta d H λx g=>tb d g λy h=>r x y h λz e=>asB z λk=>
 (if k=true then tc d e λi j=>f y i j Q else Q (.bl false) e)
theorem Ar(n:OpR X (compareOp op) r)(i:OpR X (compareOp e) o)(p:PE X a ta)(q:PE X b tb)(t:PE X c tc)
 (w:lastMarks [op,e] [b,c]=false):PE X (.Compare a [op,e] [b,c] pos) (vh r o ta tb tc):=by
 intro pins s f H Q I h;refine Compare_chain (thP (p pins s f H _ I h) λv A x B C E G=>chain_link (thP (q pins A f B _ C G) λu J y L M j N=>
  thP (n pins J f L x y v u _ M E j N) λd O z l m T g=>?_)) w
 have%[k,rfl|g]:=pT g;cases T;refine wpAny_truthy_bool ?_;cases k with
 | false=>exact ite_ff %[.bl false,l,m,rfl|g]
 | true=>exact ite_tt (chain_last (thP (t pins O f l _ m g) λU Y z' H4 I4 r4 q4=>i pins Y f H4 y z' u U Q I4 j r4 q4))
def At(K:ZA)(x:V)(H:Hp)(k:Bool):Prop:=
 match x with
 | .non=>k=false
 | .bl b=>k=b
 | .int i=>k=(i != 0)
 | .str y=>y.length<=sizeLine/\k=((y.length:Int) != 0)
 | .byt y=>y.size<=sizeLine/\k=((y.size:Int) != 0)
 | .ref p=>(∃xs,SqL K H p xs/\k=!xs.isEmpty)\/(∃xs,SqT K H p xs/\k=!xs.isEmpty)\/∃d,H p=some (.dK d)/\k=!d.isEmpty
 | _=>False
theorem vk{e:Type}{d:List (e×V)}{vs:List _}(r:KV d vs):(!vs.isEmpty)=!d.isEmpty:=by
 cases r<;> rfl
theorem mY(r:aE xs its):(!its.toArray.isEmpty)=!xs.isEmpty:=by
 cases r<;> simp
theorem rg:sizeLine<2^63:=by decide
theorem Fd:TruR X (λx H Q=>∃k,At X.K x H k/\Q k H):=by
 intro pins s w H x v Q I j h;have%[k,e|q]:=h;have z:=rg;have A:sizeLine=16777216:=sizeLine_eq;cases x with
 | non=>
   cases j;have d:k=false:=e;subst d;exact truthy_none %[H,I|q]
 | bl b=>
   cases j;have d:k=b:=e;subst d;exact wpAny_truthy_bool %[H,I|q]
 | int i=>
   have%[t|rfl]:=j;have d:k=(i != 0):=e;subst d;exact PySem.P.truthy_int %[H,I|q]
 | str y=>
   have%[t|rfl]:=j;obtain⟨o,d⟩:y.length<=sizeLine/\k=((y.length:Int) != 0):=e;subst d;exact PySem.P.truthy_str ⋯ %[H,I.tok _|q]
 | byt y=>
   have%[t|rfl]:=j;obtain⟨o,d⟩:y.size<=sizeLine/\k=((y.size:Int) != 0):=e;subst d;exact PySem.W.truthy_bytes ⋯ %[H,I.tok _|q]
 | ref p=>
   cases j;have d:(∃xs,SqL X.K H p xs/\k=!xs.isEmpty)\/(∃xs,SqT X.K H p xs/\k=!xs.isEmpty)\/∃f,H p=some (.dK f)/\k=!f.isEmpty:=e;rcases d with⟨xs,l,d⟩|⟨xs,l,d⟩|⟨f,l,d⟩
   .subst d;have%[its,r,pl|n]:=I.list l;have g:=r.length;exact wpAny_truthy_list pl.isList (by simp only[Zo];lia) %[H,I.tok _|(mY r)▸q]
   .subst d;have%[its,r,pl|n]:=I.tuple l;have g:=r.length;exact truthy_tuple pl (by simp only[Zo];lia) %[H,I.tok _|(mY r)▸q]
   .subst d;obtain⟨n,u,vs,r,m⟩:f.length<=sizeLine/\(p==sysModules)=false/\∃vs,KV f vs/\s.heap.DictOf (aN X.prog X.w) p vs:=I.hok p _ l;have g:f.length=vs.length:=Paired.length r;exact wpAny_truthy_dict u m ⋯ %[H,I.tok _|(vk r)▸q]
 | _=>exact(show False from e).elim
theorem Au(g:PE X a ta)(i:∀d,isTrue a X.env d=(do let v<-d;standAt a.pos;holding [v] (truthy v))):
 PT X a (λe H Q=>ta e H λx f=>∃k,At X.K x f k/\Q k f):=by
 intro pins s e H Q I h;exact isTrue_plain (thP (g pins s e H _ I h) λv j x l m n o=>Fd pins j e l x v Q m n o) (i _)
theorem vm:OpR X (binaryOp .Add) (λx y H Q=>∃i j,x= .str i/\y= .str j/\i.length+j.length<=sizeLine/\Q (.str (i++j)) H):=by
 intro pins s g H x y v u Q I d e h;have%[i,j,rfl,rfl,f|q]:=h;have%[t|rfl]:=d;have%[t'|rfl]:=e;exact add_str (λt' tk=>%[.str _,H,I.tok _,%[_|rfl]|q]) f
theorem di(r:aE [x] us):∃u,us=[u]/\aO x u:=by
 cases r with
 | cons d e=>cases e;exact%[_,rfl|d]
theorem jB(r:aE [x,y] us):∃u d,us=[u,d]/\aO x u/\aO y d:=by
 cases r with
 | cons e f=>
   cases f with
   | cons g h=>cases h;exact%[_,_,rfl,e|g]
theorem Av:bW X (.builtin "abs") (λxs H Q=>∃i,xs=[.int i]/\Q (.int (if i<0 then -i else i)) H):=by
 intro pins s d H xs us Q I r h;have%[i,rfl|q]:=h;have%[u,rfl,t|rfl]:=di r;exact call_abs_int λu tk=>%[.int _,H,I.tok _,%[_|rfl]|q]
theorem yp(e:X.calm=true):bW X (.builtin "max") (λxs H Q=>∃i j,xs=[.int i,.int j]/\Q (.int (if j>i then j else i)) H):=by
 intro pins s f H xs us Q I r h;have%[i,j,rfl|q]:=h;have%[u,g,rfl,%[t|rfl],t'|rfl]:=jB r;refine max_two_ints (I.ok.hd e) λh' tk k=>%[_,H,I.kept k,?_|q]
 by_cases d:j>i
 .rw[if_pos d,if_pos d];exact%[_|rfl]
 .rw[if_neg d,if_neg d];exact%[_|rfl]
theorem yq(e:X.calm=true):bW X (.builtin "min") (λxs H Q=>∃i j,xs=[.int i,.int j]/\Q (.int (if j<i then j else i)) H):=by
 intro pins s f H xs us Q I r h;have%[i,j,rfl|q]:=h;have%[u,g,rfl,%[t|rfl],t'|rfl]:=jB r;refine min_two_ints (I.ok.hd e) λh' tk k=>%[_,H,I.kept k,?_|q]
 by_cases d:j<i
 .rw[if_pos d,if_pos d];exact%[_|rfl]
 .rw[if_neg d,if_neg d];exact%[_|rfl]
theorem yr:bW X (.type "int") (λxs H Q=>(∃i,xs=[.int i]/\Q (.int i) H)\/∃k,xs=[.bl k]/\Q (.int (if k then 1 else 0)) H):=by
 intro pins s e H xs us Q I r h;rcases h with⟨i,rfl,q⟩|⟨k,rfl,q⟩
 .have%[u,rfl,t|rfl]:=di r;exact call_int_int %[.int i,H,I,%[_|rfl]|q]
 .have%[u,rfl|d]:=di r;cases d;exact call_int_bool %[.int _,H,I.tok _,%[_|rfl]|q]
def CP(K:ZA)(x:V)(H:Hp)(n:Nat):Prop:=
 match x with
 | .str y=>y.length<=sizeLine/\n=y.length
 | .byt y=>y.size<=sizeLine/\n=y.size
 | .ref p=>(∃xs,SqL K H p xs/\n=xs.length)\/∃xs,SqT K H p xs/\n=xs.length
 | _=>False
theorem Aw:bW X (.builtin "len") (λxs H Q=>∃x n,xs=[x]/\CP X.K x H n/\Q (.int n) H):=by
 intro pins s o H xs us Q I r h;have%[x,n,rfl,e|q]:=h;have%[u,rfl|g]:=di r;have v:=sizeLine_eq;cases x with
 | str y=>
   have%[t|rfl]:=g;obtain⟨l,f⟩:y.length<=sizeLine/\n=y.length:=e;subst f;exact len_str ⋯ %[.int _,H,I.tok _,%[_|rfl]|q]
 | byt y=>
   have%[t|rfl]:=g;obtain⟨l,f⟩:y.size<=sizeLine/\n=y.size:=e;subst f;exact PySem.W.len_bytes ⋯ %[.int _,H,I.tok _,%[_|rfl]|q]
 | ref p=>
   cases g;have f:=e;rcases f with⟨xs,i,f⟩|⟨xs,i,f⟩
   .subst f;have%[its,j,pl|m]:=I.list i;have d:=j.length;exact Calls.call_len_list pl.isList (by simp only[Zo];lia) %[.int xs.length,H,I.tok _,%[_|by simp only[Zo];rw[d]]|q]
   .subst f;have%[its,j,pl|m]:=I.tuple i;have d:=j.length;exact len_tuple pl (by simp only[Zo];lia) %[.int xs.length,H,I.tok _,%[_|by simp only[Zo];rw[d]]|q]
 | _=>exact(e).elim
end
structure vo (h:Heap) (x dx C:Addr) (mA:ZC):Prop where
 obj:h.get? x=some (instObj C dx)
 ns:h.Ns1 dx mA
 ne:dx≠x
theorem pW{h:Heap}{c:ZC}(n:h.Ns1 d c):∃od,h.get? d=some od/\∀name,lookIn name od=some (c name):=by
 have%[o,f,p,g,i,j,_|l]:=n;refine%[o,g|λname=>?_];have e:=l name;unfold nsFind findBy at e;rw[<-Array.find?_toList]at e;unfold lookIn;rw[i];dsimp only
 split
 .rename_i y q
  rw[q]at e;exact congrArg some e
 .rename_i q
  rw[q]at e;have a:f.toList.any (·.refKey)=false:=by
   rw[List.any_eq_false];intro y m;have%[z,t|b]:=j y (mem_toList_iff.mp m);simp[DictEntry.refKey,b]
  rw[if_neg (a▸Zs)];exact congrArg some e
theorem vo.look(I:vo h x a C b):∃od,PySem.W.InstAt h x (instObj C a) C (some od)/\∀name,lookIn name od=some (b name):=
 let⟨od,c,d⟩:=pW I.ns
 %[od,%[I.obj,rfl,rfl|c]|d]
section
#where
variable{K:ZA}{x dx C f:Addr}{mA:ZC}{name:Str}{v:Value}
theorem CQ(X:K.In s.heap)(I:vo s.heap x dx C mA)(c:plainGet K C name=true)(d:hasDictIn K C=true)
 (e:findIn K (.ref C) name=some none) (g:mA name=some v) (a:handedIn v=true) (h:Q v {s with toks:=s.toks+1}):
 ↥A (getAttr (.ref x) name b) Q E s:=by
 have%[od,J|i]:=I.look;exact PySem.W.get_value X J (plainGet_of c).1 (findObj_own d e rfl (by rw[i,g])) a h
theorem Ax(X:K.In s.heap)(I:vo s.heap x dx C mA)(a:plainGet K C name=true)
 (b:findIn K (.ref C) name=some (some (.ref f))) (c:isFn K (.ref f)=true) (d:mA name=none) (h:Q (.ref f,[.ref x]) s):
 ↥A (getMethod (.ref x) name pl) Q E s:=by
 have%[od,J|e]:=I.look;exact PySem.W.method_fn X J (plainGet_of a).1 (plainGet_of a).2 b (beq_iff_eq.mp c) (by show(lookIn name od).map _=some false;rw[e,d];rfl) h
theorem CS(X:K.In s.heap)(I:vo s.heap x dx C mA)
 (j:findIn K (.ref C) "__setattr__"=some (some (.builtin "object.__setattr__"))) (l:plainOver K C=true) (m:takerIn K C name=some none) (n:hasDictIn K C=true)
 (hw:PySem.Within mA o) (p:o.length<=sizeLine)
 (h:∀h',vo h' x dx C (λy=>if y=name then some v else mA y)->SameBut dx s.heap h'->Q () {s with heap:=h',toks:=s.toks+2}):
 ↥A (setAttr (.ref x) name v) Q E s:=by
 have%[od,J|u]:=I.look;refine set_plain X J j (PySem.W.osa_open X J l m λb=>?_);have%[z,q|d]:=any_some n;refine Z2 (Z3 (Z2 (Z2 (wpAny_loadPart I.obj (Z2 (Looks.here (looks_clsIn X q) ?_))))));rw[d];refine Z3 (Z2 (Z3 (Z2 (wpAny_nsSet1 I.ns λh' a c=>?_))));have%[B,r,t,e,g|i]:=a.count (PySem.Within.cons name v hw);exact Z2 (wpAny_lookBehind e (g▸pastItsLine_dict (Ya i (by simp_all))) (Z3 (h _ %[(c.2 _ (Ne.symm I.ne)).trans I.obj,a|I.ne] c)))
theorem Ay{R:Result->Shared->Prop}(X:K.In s.heap)(b:makesIn K C=true)
 (hi:findIn K (.ref C) "__init__"=some (some (.ref f))) (c:typeIn K (.ref f)=some (.type "function"))
 (h:codeAny (model prog w) (A.under (.builtin "type.__call__" %[.ref C::vs|a])) (.call (.ref f) %[.ref (⇑s+1)::vs|a]) (PySem.W.InitBack (⇑s+1) R)
  (s>>>(s.heap.push emptyDict).push (instObj C ⇑s))):
 codeAny (model prog w) A (.call (.ref C) %[vs|a]) R s:=by
 exact PySem.W.make_core (PySem.W.makes_of X b) (looks_findIn X hi) (λself=>PySem.W.bind_fn X self c) (.inl rfl) h
end
noncomputable def dJ(f:Str)(v:V):List (Str×V)->List (Str×V)
 |[]=>[(f,v)]
 |(g,x)::r=>if g=f then(g,v)::r else(g,x)::dJ f v r
theorem lU(f g:Str)(v:V):∀fs,(dJ f v fs).lookup g=if g=f then some v else fs.lookup g
 |[]=>by
  show List.lookup g [(f,v)]=_;by_cases h:g=f
  .have a:=beq_iff_eq.mpr h;simp only[List.lookup,a,if_pos h]
  .have a:=beq_eq_false_iff_ne.mpr h;simp only[List.lookup,a,if_neg h]
 |(k,x)::r=>by
  rw[show dJ f v _=(if k=f then(k,v)::r else(k,x)::dJ f v r)from rfl];by_cases b:k=f
  .rw[if_pos b];by_cases h:g=k
   .have a:=beq_iff_eq.mpr h;simp only[List.lookup,a,if_pos (h.trans b)]
   .have a:=beq_eq_false_iff_ne.mpr h;simp only[List.lookup,a,if_neg (λe:g=f=>h (e.trans b.symm))]
  .rw[if_neg b];by_cases h:g=k
   .have a:=beq_iff_eq.mpr h;simp only[List.lookup,a,if_neg (λe=>b (h.symm.trans e))]
   .have a:=beq_eq_false_iff_ne.mpr h;simp only[List.lookup,a];exact(lU f g v r)
theorem kW(f:Str)(v:V):∀fs:List (Str×V),f∈(dJ f v fs).map (·.1)/\∀g,g∈fs.map (·.1)->g∈(dJ f v fs).map (·.1)
 |[]=>%[by simp[dJ]|λg h=>by simp at h]
 |(k,x)::r=>by
  have%[a|b]:=kW f v r;rw[show dJ f v _=(if k=f then(k,v)::r else(k,x)::dJ f v r)from rfl]
  grind
theorem lV(f:Str)(v:V):∀fs,(dJ f v fs).length<=fs.length+1
 |[]=>by simp[dJ]
 |(k,x)::r=>by
  have a:=lV f v r;rw[show dJ f v _=(if k=f then(k,v)::r else(k,x)::dJ f v r)from rfl];by_cases b:k=f
  .simp_all
  simp_all
theorem gc.some_of(r:gc (some v) o):∃u,o=some u/\aO v u:=by
 cases o with
 | none=>exact(r).elim
 | some u=>exact%[u,rfl|r]
theorem gc.none_of(r:gc none o):o=none:=by
 cases o with
 | none=>rfl
 | some u=>exact(r).elim
theorem pX(r:aO v u):handedIn u=true:=by
 cases v with
 | non=>cases(r);rfl
 | bl b=>cases(r);rfl
 | int i=>have%[t|e]:=(r);cases e;rfl
 | str x=>have%[t|e]:=(r);cases e;rfl
 | byt b=>have%[t|e]:=(r);cases e;rfl
 | flt b=>have%[t|e]:=(r);cases e;rfl
 | ref a=>cases(r);rfl
 | ty n=>cases(r);rfl
section
variable{P:Program}{w:World}{H H':Hp}{h h':Heap}{a C dx:Addr}{fs fs':List (Str×V)}
theorem mL(c:HOk P w H h)(e:H a=some (.ins C dx fs)):∃b,vo h a dx C b/\(∀f,gc (fs.lookup f) (b f))/\PySem.Within b (fs.map (·.1))/\fs.length<=1000/\H dx=some (.own a):=by
 have%[d,z,ne,g,b,n,r|q]:=(c a _ e)
 exact%[b,%[g,n|ne],r,q,z|d]
end
structure Cls (K:ZA) (C:Addr):Prop where
 pg:plainGet K C Str.empty=true
 hd:hasDictIn K C=true
 po:plainOver K C=true
 sa:findIn K (.ref C) "__setattr__"=some (some (.builtin "object.__setattr__"))
theorem Cls.get{K:ZA}{C:Addr}(c:Cls K C)(f:Str):plainGet K C f=true:=c.pg
def gi(K:ZA)(C:Addr)(f:Str):Prop:=findIn K (.ref C) f=some none
theorem gi.taker{K:ZA}{C:Addr}{f:Str}(n:gi K C f):takerIn K C f=some none:=by
 unfold takerIn;rw[n];rfl
structure CT (K:ZA) (C:Addr) (m:Str) (f:Addr):Prop where
 at_:findIn K (.ref C) m=some (some (.ref f))
 fn:isFn K (.ref f)=true
 kp:keepIn K (.ref f)=true
section
#version
variable{a C dx:Addr}{fs:List (Str×V)}{f:Str}{v:V}{A:Around}{E:ZD}
theorem vp(I:Inv X pins σ H s)(e:H a=some (.ins C dx fs))(c:Cls X.K C)(n:gi X.K C f)(l:fs.lookup f=some v)
 (h:∀u s',Inv X pins σ H s'->aO v u->Q u s'):wpAny (model X.prog X.w) A (getAttr (.ref a) f b) Q E s:=by
 have%[i,O,r,_,_|_]:=mL I.hok e;have%[u,g|d]:=gc.some_of (l▸r f);exact CQ I.kIn O (c.get f) c.hd n g (pX d) (h u _ (I.tok _) d)
theorem vq(I:Inv X pins σ H s)(e:H a=some (.ins C dx fs))(c:Cls X.K C)(k:CT X.K C m g)(l:fs.lookup m=none)
 (h:Q (.ref g,[.ref a]) s):wpAny (model X.prog X.w) A (getMethod (.ref a) m pl) Q E s:=by
 have%[b,O,r,_,_|_]:=mL I.hok e;exact Ax I.kIn O (c.get m) k.at_ k.fn (gc.none_of (l▸r m)) h
theorem vt(I:Inv X pins σ H s)(e:H a=some (.ins C dx fs))(c:Cls X.K C)(n:gi X.K C f)(G:fs.length<1000)(l:aO y u)
 (h:∀s',Inv X pins σ (upd H a (.ins C dx (dJ f y fs))) s'->Q () s'):wpAny (model X.prog X.w) A (setAttr (.ref a) f u) Q E s:=by
 have%[m,O,r,i,_|j]:=mL I.hok e;refine CS I.kIn O c.sa c.po n.taker c.hd i (by rw[Z5,sizeLine_eq];lia) λh' d p=>h _ (I.write (e▸True.intro) (.inr j) (λb q t z=>(p.2 b t).trans z) (let⟨o,_,_,w,_⟩:=d.ns;%[o|w]) %[(ak O.ne)▸j,?_,O.ne,d.obj,_,d.ns,λg=>?_|λg B=>?_])
 .have:=lV f y fs;lia
 .rw[lU];by_cases q:g=f
  .rw[if_pos q,if_pos q];exact l
  .rw[if_neg q,if_neg q];exact r g
 .by_cases q:g=f
  .exact q▸(kW f y fs).1
  .refine(kW f y fs).2 g (i g λz=>B ?_);show(if g=f then some u else m g)=none;rw[if_neg q];exact z
theorem Inv.made(I:Inv X pins σ H s):Inv X pins σ (upd (upd H ⇑s (.own (⇑s+1))) (⇑s+1) (.ins C ⇑s []))
 (s>>>(s.heap.push emptyDict).push (instObj C ⇑s)):=by
 have c:(s.heap.push emptyDict).get? ⇑s=some emptyDict:=Zi s.heap rfl;have d:=by
  have:=Zi (s.heap.push emptyDict) (o:=instObj C ⇑s) rfl;rwa[Zp]at this
 refine(I.laid (o:= .own (⇑s+1)) (t':=s.toks) (λb u q=>Z6 _ q) (Zh _) %[_|c]).laid (λb u q=>Z6 _ q) (Nat.le_of_eq (Zp _ _)) ?_;have ne:⇑s≠⇑s+1:=Zr (Yi _);refine%[by rw[ak ne,aa],X2 _,ne,d,λ_=>none,(Heap.Ns1.of_empty %[emptyDict,#[],_,c,rfl,(λe g=>absurd g ∅)|λ_=>rfl]).at λo q=>Z6 _ q,λ_=>True.intro|λy h=>absurd rfl h]
theorem wY(c:attributeBase e f env (eval e env)=eval e env)
 (h:↥A (eval e env) (λo b=>↥A (getAttr o f true) Q E b) E s):↥A (eval (.Attribute e f pos) env) Q E s:=
 Attribute_any_ h (by rw[arm_eval_Attribute,c])
end
def Fe(K:ZA)(c:TE)(f:Str):TE:=λd H Q=>c d H λx b=>∃a C e fs v,x= .ref a/\b a=some (.ins C e fs)/\Cls K C/\gi K C f/\fs.lookup f=some v/\Q v b
def Ff(K:ZA)(e g:TE)(f:Str):TS:=λD b H=>g b H λy h=>e b h λx c=>∃a C d fs,x= .ref a/\c a=some (.ins C d fs)/\Cls K C/\gi K C f/\fs.length<1000/\
 D.nx b (upd c a (.ins C d (dJ f y fs)))
section
variable{X:Cx}{o e value:Expr}{f:Str}{pos pos' tpos:Pos}{ta tv:TE}
theorem Fg(b:PE X e ta)(d:attributeBase e f X.env (eval e X.env)=eval e X.env):PE X (.Attribute e f pos) (Fe X.K ta f):=by
 intro pins s g H Q I h;refine wY d (thP (b pins s g H _ I h) λu w x i j m ⟨a,C,y,fs,v,ex,p,c,n,l,q⟩=>?_);subst ex;obtain rfl:u=Value.ref a:=m;exact vp j p c n l λz A r t=>%[v,i,r,t|q]
theorem Fh(d:PE X o ta)(g:PE X value tv)(i:swapsWith value (some (.Attribute o f pos')) pos.line X.env=pure false):PS X (.Assign [.Attribute o f pos'] value pos) (Ff X.K ta tv f):=by
 intro pins s b H D I h;refine plainObj_wpAny_Assign_Attribute (thP (g pins s b H _ I h) λu j y m p r q=>thP (d pins j b m _ p q) λt E x G v w ⟨a,C,J,fs,ex,z,c,n,l,A⟩=>?_) i;subst ex;obtain rfl:t=Value.ref a:=w;exact vt v z c n l r λL B=>%[b,_,B|A]
end
section
#version
variable{A:Around}{E:ZD}{Q:ZD}{c:Value}{b:Bool}
inductive jL (K:ZA) (H:Hp):V->Value->Prop where
 | non:jL K H .non (.type "NoneType")
 | bl (x:Bool):jL K H (.bl x) (.type "bool")
 | int (i:Int):jL K H (.int i) (.type "int")
 | str (x:Str):jL K H (.str x) (.type "str")
 | flt (x:UInt64):jL K H (.flt x) (.type "float")
 | lst {a:Addr} {xs:List V} (e:H a=some (.lst xs)):jL K H (.ref a) (.type "list")
 | frz {a:Addr} {o:Obj} {xs:List V} (e:H a=some (.frz o (.lst xs))):jL K H (.ref a) (.type "list")
 | tup {a:Addr} {xs:List V} (e:H a=some (.tup xs)):jL K H (.ref a) (.type "tuple")
 | dK {a:Addr} {kvs:List _} (e:H a=some (.dK kvs)):jL K H (.ref a) (.type "dict")
 | dT {a:Addr} {kvs:List _} (e:H a=some (.dT kvs)):jL K H (.ref a) (.type "dict")
 | ins {a C dx:Addr} {fs:List _} (e:H a=some (.ins C dx fs)) (cl:Cls K C) (ha:findIn K (.ref C) "__class__"=some (some (.builtin "object.__class__")))
  (hn:specialIn K (.builtin "object.__class__") "__get__"=some (some (.builtin "getset_descriptor.__get__"))) (htk:takesIn K (.builtin "object.__class__")=some true)
  (hm:mroIn K C (.type "object")=some true):jL K H (.ref a) (.ref C)
theorem yv(I:Inv X pins σ H s)(d:aO x u)(ty:jL X.K H x t)(e:kitOne X.K t c=some b)(h:∀tk,Q (.bool b) {s with toks:=tk}):
 wpAny (model X.prog X.w) A (call (.builtin "isinstance") [u,c]) Q E s:=by
 cases ty with
 | non=>cases(d);exact kia_one kitx_none I.kIn True.intro e (λz=>nomatch z) h
 | bl y=>cases(d);exact kia_one PySem.W.kitx_bool I.kIn True.intro e (λz=>nomatch z) h
 | int i=>have%[t|q]:=(d);cases q;exact kia_one PySem.W.kitx_int I.kIn True.intro e (λz=>nomatch z) h
 | str y=>have%[t|q]:=(d);cases q;exact kia_one PySem.W.kitx_str I.kIn True.intro e (λz=>nomatch z) h
 | flt y=>have%[t|q]:=(d);cases q;exact kia_one PySem.W.kitx_float I.kIn True.intro e (λz=>nomatch z) h
 | @lst a xs f=>
   cases(d);have%[_,_,n,_|g]:=(I.hok a _ f)
   exact kia_one kitx_list I.kIn %[_,g|rfl] e (λz=>nomatch z) h
 | @frz a M xs f=>
   cases(d);have%[_,_,_,n,_|g]:=(I.hok a _ f)
   exact kia_one kitx_list I.kIn %[_,g|rfl] e (λz=>nomatch z) h
 | @tup a xs f=>
   cases(d);have%[_,_,_|p]:=(I.hok a _ f)
   have%[o,g,j|_]:=p;exact kia_one PySem.W.kitx_tuple I.kIn %[o,g|j] e (λz=>nomatch z) h
 | @dK a l f=>
   cases(show u=Value.ref a from d);have%[_,_,vs,_|p]:=(I.hok a _ f)
   have%[o,v,w,g,j|_]:=p;exact kia_one kitx_dict I.kIn %[o,g|j.1] e (λz=>nomatch z) h
 | @dT a l f=>
   cases(show u=Value.ref a from d);have%[_,_,xs,_,o,v,w,g,j|_]:=(I.hok a _ f)
   exact kia_one kitx_dict I.kIn %[o,g|j.1] e (λz=>nomatch z) h
 | @ins a C N fs f r B G m L=>
   cases(d);have%[T,O|_]:=mL I.hok f;have%[od,J|_]:=O.look;exact kia_one (PySem.W.kitx_own (r.get _) r.hd B G m L) I.kIn J e (λz=>nomatch z) h
end
structure bF (k:Nat) (A:Around):Prop where
 hd:A.handled=none
 dp:A.depth+3*k+5<recursionLimit
 un:A.units+16*k+200<cLine
 gd:A.guards=some []
theorem bF.mono(r:bF k A)(h:j<=k):bF j A:=%[r.hd,by have:=r.dp;lia,by have:=r.un;lia|r.gd]
theorem bF.deeper(r:bF (k+1) A)(env:Env):bF k (A.deeper env):=
 %[r.hd,by have:=r.dp;show A.depth+1+3*k+5<_;lia,by have:=r.un;show A.units+3+16*k+200<_;lia|r.gd]
theorem vv{A:Around}:(A.under (.builtin "type.__call__" %[.ref C::us|a])).depth=A.depth+1:=by
 first|rfl|lia
theorem vw{A:Around}:(A.under (.builtin "type.__call__" %[.ref C::us|a])).units=A.units+1:=by
 first|rfl|lia
theorem bF.make(r:bF (k+1) A)(C:Addr)(us:ZG)(a:List (Str×Value)):bF k (A.under (.builtin "type.__call__" %[.ref C::us|a])):=
 %[r.hd,by have:=r.dp;rw[vv];lia,by have:=r.un;rw[vw];lia|r.gd]
theorem bF.depth(r:bF k A):A.depth<recursionLimit:=by have:=r.dp;lia
theorem bF.units(r:bF k A):A.units+64<cLine:=by have:=r.un;lia
def yw:TA:=λ_ H Q=>Q [] H
def Az(b:TE)(c:TA):TA:=λa H Q=>b a H λx d=>c a d λxs e=>Q (x::xs) e
section
variable{X:Cx}{e:Expr}{es:List Expr}{te:TE}{t:TA}{pos:Pos}
theorem Fi:PA X [] yw:=λ_ _ _ _ H Q I h=>Calls.spliced_nil %[[],H,I,.nil|h]
theorem CU(b:PE X e te)(c:PA X es t)(d:starEach (e::es) X.env=(false,eval e X.env)::starEach es X.env):PA X (e::es) (Az te t):=by
 intro pos pins s a H Q I h;rw[d];show wpAny _ _ (spliced ((false,eval e X.env)::backTo pos _)) _ _ s;exact Calls.spliced_cons (thP (b pins s a H _ I h) λu f x g i j l=>thP (c pos pins f a g _ i l) λus q xs m n o p=>%[x::xs,m,n,.cons j o|p])
def Fj(t:TA):TE:=λb H Q=>t b H λxs a=>xs.length<=sizeLine/\∀p,a p=none->Q (.ref p) (upd a p (.tup xs))
def Fk(t:TA):TE:=λb H Q=>t b H λxs a=>xs.length<=sizeLine/\∀p,a p=none->Q (.ref p) (upd a p (.lst xs))
theorem Fn{x1}(h:PA X es t):PE X (.Tuple es x1 pos) (Fj t):=by
 intro pins s d H Q I f;refine wpAny_Tuple_spliced (thP (h pos pins s d H _ I f) λus a xs g c r ⟨z,q⟩=>%[r.length▸z|?_]);have i:=c.hok.fresh (Zh _);refine%[.ref ⇑a,upd g ⇑a _,c.laid (λb u e=>Z6 _ e) (Zh _) ?_,rfl|q _ i];exact%[z,us,r,_,Zi _ rfl,rfl,_|rfl]
theorem Fo(h:PA X es t):PE X (.List es pos) (Fk t):=by
 intro pins s d H Q I f;refine wpAny_List_spliced (thP (h pos pins s d H _ I f) λus a xs g c r ⟨z,q⟩=>%[r.length▸z|?_]);have i:=c.hok.fresh (Zh _);refine%[.ref ⇑a,upd g ⇑a _,c.laid (λb u e=>Z6 _ e) (Zh _) ?_,rfl|q _ i];exact%[z,us,0,r|Zi _ rfl]
end
noncomputable abbrev Sp:=List V->Hp->VK->XK->Prop
noncomputable abbrev CXT:=List Env->Hp->Shared->XK->Value->Shared->Prop
structure vy (P:Program) (w:World) (K:ZA) (mg:ZC) (base:Heap) (A:Around) (outer:List Env) (s:Shared) (H:Hp):Prop where
 frames:A.frames=some outer
 mod:Mod K mg base
 bs:∀b o,base.get? b=some o->s.heap.get? b=some o/\H b=none
 bsz:base.objs.size<=⇑s
 funs:s.heap.FunFrames base outer
 frf:∀b∈frs outer,H b=none
 hok:HOk P w H s.heap
 bare:AllBare s.gens
def CE(outer:List Env)(P:Program)(w:World)(H:Hp)(s:Shared)(Q:VK)(u:Value)(s':Shared):Prop:=
 ∃v a,s'.os=s.os/\AllBare s'.gens/\Un (frs outer) [] H a s.heap s'.heap/\HOk P w a s'.heap/\aO v u/\Q v a
def CR(CX:CXT)(outer:List Env)(P:Program)(w:World)(H:Hp)(s:Shared)(Q:VK)(E:XK)(r:Result)(s':Shared):Prop:=
 match r with
 | .ok (.ret u)=>CE outer P w H s Q u s'
 | .ok _=>False
 | .error e=>CX outer H s E e s'
structure dj (P:Program) (w:World) (K:ZA) (mg:ZC) (base:Heap) (CX:CXT) (k:Nat) (f:Addr) (fd:FuncData) (ps:ZB) (sp:Sp):Prop where
 len:∀vs H Q E,sp vs H Q E->vs.length=ps.length
 run:∀A outer s H args us vs Q E,bF k A->vy P w K mg base A outer s H->BindsTo s fd args (ps.zip us)->aE vs us->sp vs H Q E->
  codeAny (model P w) A (.call (.ref f) args) (CR CX outer P w H s Q E) s
theorem dj.imp{P:Program}{K:ZA}(F:dj P w K mg base CX k f b ps sp)
 (h:∀vs H Q E,a vs H Q E->sp vs H Q E):dj P w K mg base CX k f b ps a:=
 %[λvs H Q E q=>F.len vs H Q E (h _ _ _ _ q)|λA outer s H args us vs Q E c d e g i=>F.run A outer s H args us vs Q E c d e g (h _ _ _ _ i)]
theorem vy.make{P:Program}{K:ZA}(e:vy P w K mg base A outer s H)(C:Addr)(us:ZG)(a:List (Str×Value)):
 vy P w K mg base (A.under (.builtin "type.__call__" %[.ref C::us|a])) outer s H:=⟨by first|exact e.frames|lia,e.mod,e.bs,e.bsz,e.funs,e.frf,e.hok,e.bare⟩
section
variable{X:Cx}{pins:ZE}{σ:St}{H:Hp}{s s':Shared}
theorem Inv.env0(I:Inv X pins σ H s):vy X.prog X.w X.K X.mg X.base X.A X.stack s H:=
 %[I.ok.frames,I.ok.mod,I.bs,Ya I.ok.bsz I.sz,I.stack,I.stkFree,I.hok|I.bare]
theorem Inv.after(I:Inv X pins σ H s)(h:CE X.stack X.prog X.w H s Q u s'):EP X pins σ Q u s':=by
 have%[v,f,os,a,un,c,r|q]:=h;have%[i,g,d,t|e]:=s';obtain rfl:e=s.os:=os;exact%[v,f,I.call un c a (λb z=>absurd z ∅),r|q]
end
def pY(sp:Sp)(dvs:List V)(E:XK)(t:TA):TE:=λa H Q=>t a H λvs b=>sp (vs++dvs) b Q E
def wZ(C:Addr)(m:Str)(sp:Sp)(dvs:List V)(E:XK)(d:TE)(t:TA):TE:=λb H Q=>d b H λx c=>∃a e fs,x= .ref a/\c a=some (.ins C e fs)/\fs.lookup m=none/\
 t b c λvs f=>sp (x::(vs++dvs)) f Q E
def w4(C:Addr)(sp:Sp)(dvs:List V)(E:XK)(t:TA):TE:=λc H Q=>t c H λvs b=>∀x a,b x=none->b a=none->a≠x->
 sp (.ref x::(vs++dvs)) (upd (upd b a (.own x)) x (.ins C a [])) (λv d=>v= .non/\Q (.ref x) d) E
def dm(K:ZA)(a:FuncData)(ps:ZB)(ds:ZG):Prop:=
 ∀s us,K.In s.heap->(us++ds).length=ps.length->BindsTo s a %[us|[]] (ps.zip (us++ds))
theorem dm.all{K:ZA}(h:∀us:ZG,us.length=ps.length->bindArgs b %[us|[]]=pure (ps.zip us)):dm K b ps []:=λs us _ a=>by
 rw[Zw]at a ⊢;exact .of_eq (h us a)
def gZ(CX:CXT)(X:Cx)(E:XK):Prop:=∀pins (a:St) H s e s',Inv X pins a H s->CX X.stack H s E e s'->X.xe e s'
section
variable{X:Cx}{CX:CXT}{k:Nat}{f C:Addr}{fd:FuncData}{ps:ZB}{sp:Sp}{dvs:List V}{ds:ZG}{E:XK}{x m:Str}{p pos apos:Pos}{e o:Expr}{es:List Expr}{ta:TE}{t:TA}
theorem AA(F:dj X.prog X.w X.K X.mg X.base CX k f fd ps sp)(d:bF k X.A)(g:dm X.K fd ps ds)(i:aE dvs ds)(j:gZ CX X E)
 (I:Inv X pins b H s) (r:aE vs us) (h:sp (vs++dvs) H Q E):(~~~X) (call (.ref f) us) (EP X pins b Q) X.xe s:=by
 have c:=r.append i;refine wpAny_call (codeAny_mono (F.run X.A X.stack s H _ _ _ Q E d I.env0 (g s us I.kIn (c.length▸F.len _ _ _ _ h)) c h) λr s' a=>?_);cases r with
 | error e=>exact j pins b H s e s' I a
 | ok l=>
   cases l with
   | ret u=>exact I.after a
   | next=>exact False.elim a
   | brk=>exact False.elim a
   | cont=>exact False.elim a
theorem w6(F:dj X.prog X.w X.K X.mg X.base CX k f fd ps sp)(d:bF k X.A)(g:Gl X x)(i:X.mg x=some (.ref f))(j:keepIn X.K (.ref f)=true)(l:dm X.K fd ps ds)(n:aE dvs ds)(u:gZ CX X E)
 (v:PA X (e::es) t) (a:(x==("__debug__":Str))=false) (w:starEach (e::es) X.env=(false,eval e X.env)::starEach es X.env) (b:(backTo pos (starEach es X.env)).any (·.1)=false):
 PE X (.Call (.Name x p) (e::es) [] pos) (pY sp dvs E t):=by
 intro pins s y H Q I h;exact wpAny_Call_Name_kw (fP I g i (callWith_K I.ok.mod.kin j (thP (v pos pins s y H _ I h) λus z vs A c r q=>%[c.kIn|AA F d l n u c r q]) w b) a)
theorem AB(i:PE X o ta)(c:Cls X.K C)(d:CT X.K C m f)(F:dj X.prog X.w X.K X.mg X.base CX k f fd ps sp)(j:bF k X.A)(n:dm X.K fd ps ds)(r:aE dvs ds)(v:gZ CX X E)
 (w:eval (.Call (.Attribute o m apos) [] [] pos) X.env=(do
  let g<-eval o X.env
  standAt apos.atName
  let(f,first)<-holding [g] (getMethod g m pl)
  callWith pos f first (backTo pos (starEach [] X.env)) (backToKw pos (keywordEach [] X.env)))):
 PE X (.Call (.Attribute o m apos) [] [] pos) (wZ C m sp dvs E ta yw):=by
 intro pins s y H Q I h;refine PySem.W.methodCall_KW (thP (i pins s y H _ I h) λu B x G b z ⟨a,J,fs,ex,A,l,q⟩=>?_) w;subst ex;obtain rfl:u=Value.ref a:=z;exact vq b A c d l (PySem.W.callWith_K0 b.kIn d.kp (AA (us:=[.ref a]) (vs:=[.ref a]) F j n r v b (.cons rfl .nil) q))
structure Mk (K:ZA) (C f:Addr):Prop where
 makes:makesIn K C=true
 init:findIn K (.ref C) "__init__"=some (some (.ref f))
 fn:isFn K (.ref f)=true
 kp:keepIn K (.ref C)=true
theorem AC(M:Mk X.K C f)(F:dj X.prog X.w X.K X.mg X.base CX k f fd ps sp)(j:bF (k+1) X.A)(l:dm X.K fd ps ds)(n:aE dvs ds)
 (q:gZ CX X E) (I:Inv X pins d H s) (r:aE vs us)
 (h:∀x b,H x=none->H b=none->b≠x->sp (.ref x::(vs++dvs)) (upd (upd H b (.own x)) x (.ins C b [])) (λv w=>v= .non/\Q (.ref x) w) E):
 (~~~X) (call (.ref C) us) (EP X pins d Q) X.xe s:=by
 have g:=h (⇑s+1) ⇑s (I.hok.fresh (Y9 _)) (I.hok.fresh (Zh _)) (Zr (Yi _));have c:=Inv.made (C:=C) I;have i:aE (V.ref (⇑s+1)::(vs++dvs)) _:= .cons rfl (r.append n);have y:=by
  have e:=i.length;rw[F.len _ _ _ _ g]at e;exact e.symm
 refine wpAny_call (Ay I.kIn M.makes M.init (beq_iff_eq.mp M.fn) (codeAny_mono (F.run _ X.stack _ _ _ _ _ _ E (j.make C us [])
  (c.env0.make C us []) (l _ _ c.kIn y) i g) λr s' a=>?_))
 cases r with
 | error e=>exact q pins d _ _ e s' c a
 | ok z=>
   cases z with
   | ret u=>
     have%[v,A,B,G,J|L]:=c.after a;subst J;exact%[G,V.ref _,A,B,rfl|L]
   | next=>exact False.elim a
   | brk=>exact False.elim a
   | cont=>exact False.elim a
theorem CV(M:Mk X.K C f)(F:dj X.prog X.w X.K X.mg X.base CX k f fd ps sp)(d:bF (k+1) X.A)(g:Gl X x)(i:X.mg x=some (.ref C))(j:dm X.K fd ps ds)(l:aE dvs ds)(n:gZ CX X E)
 (u:PA X (e::es) t) (a:(x==("__debug__":Str))=false) (v:starEach (e::es) X.env=(false,eval e X.env)::starEach es X.env) (b:(backTo pos (starEach es X.env)).any (·.1)=false):
 PE X (.Call (.Name x p) (e::es) [] pos) (w4 C sp dvs E t):=by
 intro pins s w H Q I h;exact wpAny_Call_Name_kw (fP I g i (callWith_K I.ok.mod.kin M.kp (thP (u pos pins s w H _ I h) λus y vs z c r q=>%[c.kIn|AC M F d j l n c r q]) v b) a)
end
section
variable{X:Cx}{CX:CXT}{k:Nat}{f C:Addr}{fd:FuncData}{ps ks:ZB}{sp:Sp}{E:XK}{x m:Str}{p pos apos kpos:Pos}{e o:Expr}{es:List Expr}{kws:List Keyword}{te ta:TE}{t tk:TA}{nm:Option Str}
variable{g:ZG->ZG->ZG}{gV:List V->List V->List V}
end
structure au (N P:ZB) (sc:Scope):Prop where
 kind:sc.kind= .function
 co:sc.isCoroutine=false
 gen:sc.isGenerator=false
 nd:N.Nodup
 pre:N.take P.length=P
 par:∀x∈P,sc.names.lookup x=some .local\/sc.names.lookup x=some .cell
 nofree:∀y∈sc.names,y.2≠ .free
theorem pZ{kindOf:Str->Option NameKind}:∀{binds:List (Str×Value)} {m:ZC},(∀v,(x,v)∉binds)->bindL kindOf binds m x=m x
 |[],_,_=>rfl
 |(n,v)::r,m,h=>by
  unfold bindL;rw[pZ λw hw=>h w (Zj _ hw)]
  split
  .have:x≠n:=by rintro rfl;exact h v Zl
   simp[this]
  .rfl
theorem p7{kindOf:Str->Option NameKind}:∀{binds:List (Str×Value)} {m:ZC},(∀v,(x,v)∉binds)->bindC kindOf binds m x=m x
 |[],_,_=>rfl
 |(n,v)::r,m,h=>by
  unfold bindC;rw[p7 λw hw=>h w (Zj _ hw)]
  split
  .rfl
  .have:x≠n:=by rintro rfl;exact h v Zl
   simp[this]
theorem p8{kindOf:Str->Option NameKind}{x:Str}:∀{P:ZB} {vs:ZG} {i:Nat} {m:ZC},P.Nodup->P[i]? =some x->vs[i]? =some v->kindOf x=some .local->
 bindL kindOf (P.zip vs) m x=some v
 |[],_,_,_,_,h,_,_=>by simp at h
 | _::_,[],_,_,_,_,h,_=>by simp at h
 | p::P,w::vs,0,m,nd,a,b,c=>by
   simp at a b;subst a;subst b;show bindL kindOf ((p,w)::P.zip vs) m p=_;unfold bindL;rw[pZ λv d=>(nodup_cons.mp nd).1 (of_mem_zip d).1,if_pos c];simp
 | p::P,w::vs,i+1,m,nd,a,b,c=>by
   show bindL kindOf ((p,w)::P.zip vs) m x=_;exact p8 (nodup_cons.mp nd).2 (a) (b) c
theorem p9{kindOf:Str->Option NameKind}{x:Str}:∀{P:ZB} {vs:ZG} {i:Nat} {m:ZC},P.Nodup->P[i]? =some x->vs[i]? =some v->kindOf x≠some .local->
 bindC kindOf (P.zip vs) m x=some v
 |[],_,_,_,_,h,_,_=>by simp at h
 | _::_,[],_,_,_,_,h,_=>by simp at h
 | p::P,w::vs,0,m,nd,a,b,c=>by
   simp at a b;subst a;subst b;show bindC kindOf ((p,w)::P.zip vs) m p=_;unfold bindC;rw[p7 λv d=>(nodup_cons.mp nd).1 (of_mem_zip d).1,if_neg c];simp
 | p::P,w::vs,i+1,m,nd,a,b,c=>by
   show bindC kindOf ((p,w)::P.zip vs) m x=_;exact p9 (nodup_cons.mp nd).2 (a) (b) c
noncomputable def start(N:ZB)(vs:List V):St:=vs.map some++List.replicate (N.length-vs.length) none
noncomputable def e9(CX:CXT)(P:Program)(w:World)(K:ZA)(mg:ZC)(base:Heap)(N:ZB)(qual:Str)(scope:Scope)(f:Addr)(cd:Value)(A:Around)(outer:List Env)(s:Shared)(H:Hp)(E:XK):Cx where
 prog:=P
 w:=w
 K:=K
 mg:=mg
 base:=base
 A:=A.deeper (envOfC qual scope ⇑s f cd)
 N:=N
 s₀:=s
 H₀:=H
 env:=envOfC qual scope ⇑s f cd
 outer:=outer
 stack:=envOfC qual scope ⇑s f cd::outer
 ex:=[]
 calm:=true
 fn:=λ_=>true
 pn:=[]
 xe:=λe s'=>wpAny (model P w) (A.deeper (envOfC qual scope ⇑s f cd)) (leaving (envOfC qual scope ⇑s f cd) e) (λ_ s''=>CX outer H s E e s'') (λe' s''=>CX outer H s E e' s'') s'
theorem tf{a:Scope}{n:Nat}{x:Str}(h:a.names.lookup x=some .cell):∃c,(cellsFrom n a.names []).lookup x=some c:=by
 exact isSome_iff_exists.mp (cellsFrom_some a.names n [] (.inl h))
theorem yx{P:Program}{K:ZA}
 (S:au N ps a) (I:A.handled=none) (g:vy P w K mg base A outer s H) (Q:vs.length=ps.length) (r:aE vs us)
 (x:InCallC s ⇑s (bindL (envOfC d a ⇑s f B).kindOf (ps.zip us) λ_=>none) (cellsFrom (⇑s+1) a.names []) (bindC (envOfC d a ⇑s f B).kindOf (ps.zip us) λ_=>none) J):
 Inv (e9 CX P w K mg base N d a f B A outer s H E) [] (start N vs) H J:=by
 have L:ps.length<=N.length:=by have:=congrArg List.length S.pre;rw[Yf]at this;lia
 have%[t,tk,rfl|C]:=x.done;have l:∀b,b∉(e9 CX P w K mg base N d a f B A outer s H E).ex:=λb z=>absurd (show b∈([])from z) ∅
 refine%[%[g.mod,S.kind,rfl,rfl,Zh _,λy z c t j=>?_,λy m=>?_,λy c _ h=>?_,λ_=>I,Around.frames_deeper g.frames,.inr %[rfl|rfl],λb z=>absurd z (l b),g.bs,g.bsz,λb _ _=>l b,λb z=>absurd z (l b),g.funs|g.frf],
  rfl,g.bare,Un.kept C,%[_,x.toInCall.ns|λi y v t j T=>?_],λy c h=>%[_|x.cell y c h],g.hok.fresh (Zh _),λy c h=>?_,λp n=>absurd (show p∈([])from n) ∅,g.hok.kept C|?_]
 .exact name_of_addr x.apart (PySem.mem_of_lookup t) (PySem.mem_of_lookup j)
 .rcases m with m|m
  .exact tf m
  .exact absurd rfl (S.nofree _ (PySem.mem_of_lookup m))
 .exact Y8 (x.above y c (PySem.mem_of_lookup h))
 .have hi:i<vs.length:=by
   unfold start at j;by_cases hi:i<vs.length
   .exact hi
   .rw[Y4 (by simpa using hi)]at j;rw[List.getElem?_replicate]at j
    split at j<;> cases j
  have M:vs[i]? =some v:=by
   unfold start at j;rw[Y3 (by simpa using hi),Zk]at j
   simp_all
  have%[u,G|O]:=r.get M;have n:ps[i]? =some y:=by
   rw[<-S.pre,Y5 ⋯];exact t
  have o:ps.Nodup:=S.pre▸S.nd.sublist (List.take_sublist _ _);refine%[u,O|?_];rcases S.par y (Z7 n)with k|k
  .exact .inl %[k|p8 o n G k]
  .have%[c|e]:=tf k;refine .inr %[.inl k,c,e|?_];have q:=x.cell y c e;rw[p9 o n G (by show a.names.lookup y≠_;rw[k];decide)]at q;exact q
 .exact g.hok.fresh (Y8 (x.above y c (PySem.mem_of_lookup h)))
 .unfold start;show _=N.length;rw[Z8,Z5,List.length_replicate]
  lia
theorem El{P:Program}{K:ZA}{T kV z U d ct oc:Value}
 (lk:K.lookup f=some %[oc,od,.func (fnOf name c g i a T kV z U an d ct)|ab]) (G:codeIn K d c=true) (S:au N ps a)
 (len:∀vs H Q E,sp vs H Q E->vs.length=ps.length)
 (l:∀(A:Around) (outer:List Env) (s:Shared) (H:Hp) (vs:List V) (Q:VK) (E:XK),bF k (A.deeper (envOfC c a ⇑s f d))->sp vs H Q E->
  ∃t,PSs (e9 CX P w K mg base N c a f d A outer s H E) i t/\t {nx:=λ_ j=>Q .non j,rt:=Q} (start N vs) H):
 dj P w K mg base CX (k+1) f (fnOf name c g i a T kV z U an d ct) ps sp:=by
 refine%[len|λA outer s H args us vs Q E L B hb r C=>?_];have Y:=B.mod.kin.keeps λb o e=>(B.bs b o e).1
 have M:=B.mod.nolimit.keeps λb o e=>(B.bs b o e).1
 have m:∀y∈ps.zip us,a.names.lookup y.1=some _\/(a.names.lookup y.1=some _/\((cellsFrom (⇑s+1) a.names []).lookup y.1).isSome=true):=λ⟨n,v⟩ hy=>by
  rcases S.par n (of_mem_zip hy).1 with q|q
  .exact .inl q
  .exact .inr %[q|cellsFrom_some _ _ _ (.inl q)]
 refine codeAny_call_function L.depth (Y _ _ lk) rfl S.co S.gen rfl (PySem.W.codeRec_of Y G) (hb _ _ _ _ (wpAny_newFunctionEnv_cells S.kind m λenv he s1 x=>?_));subst he;refine%[M.keeps x.toInCall.keep|codeAny_func ?_];have%[t,ht|hq]:=l A outer s H vs Q E (L.deeper _) C;have I:Inv (e9 CX P w K mg base N c a f d A outer s H E) [] _ H s1:=yx S L.hd B (len _ _ _ _ C) r x;refine wpAny_mono (ht [] s1 _ H _ I hq) (λfl s' p=>?_) λe s' p=>p
 have fin:∀{h:St} {j:Hp} {v:V} {u:Value},Inv (e9 CX P w K mg base N c a f d A outer s H E) [] h j s'->aO v u->Q v j->CE outer P w H s Q u s':=
  λ{h j v u} J O q=>%[v,j,J.os,J.bare,J.base,J.hok,O|q]
 cases fl with
 | ret u=>
   have%[v,h,j,J,O|q]:=p;exact fin J O q
 | next=>
   have%[h,j,J|q]:=p;exact fin (v:=V.non) J rfl q
 | brk=>
   have%[_,_,_|q]:=p
   simp_all
 | cont=>
   have%[_,_,_|q]:=p;exact False.elim q
section
variable{X:Cx}{x:Str}{p pos:Pos}{e:Expr}{es:List Expr}{t:TA}{id T:String}{r:List V->Hp->VK->Prop}
def tCB(r:List V->Hp->VK->Prop)(t:TA):TE:=λa H Q=>t a H λvs b=>r vs b Q
theorem AD(d:bW X (.builtin id) r)(f:Gl X x)(g:X.mg x=none)(i:bootBuiltins x=some (.builtin id))(j:PA X (e::es) t)(l:x≠"__name__")(a:(x==("__debug__":Str))=false)
 (m:starEach (e::es) X.env=(false,eval e X.env)::starEach es X.env) (b:(backTo pos (starEach es X.env)).any (·.1)=false):PE X (.Call (.Name x p) (e::es) [] pos) (tCB r t):=by
 intro pins s c H Q I h;exact wpAny_Call_Name_kw (jK I f g i (PyProof.Rows.callWith_builtin1 (thP (j pos pins s c H _ I h) λus n vs o q u v=>d pins n c o vs us Q q u v) m b) l a)
theorem yy(d:bW X (.type T) r)(f:Gl X x)(g:X.mg x=none)(i:bootBuiltins x=some (.type T))(j:PA X (e::es) t)(l:x≠"__name__")(a:(x==("__debug__":Str))=false)
 (m:starEach (e::es) X.env=(false,eval e X.env)::starEach es X.env) (b:(backTo pos (starEach es X.env)).any (·.1)=false):PE X (.Call (.Name x p) (e::es) [] pos) (tCB r t):=by
 intro pins s c H Q I h;exact wpAny_Call_Name_kw (jK I f g i (PyProof.Rows.callWith_type1 (thP (j pos pins s c H _ I h) λus n vs o q u v=>d pins n c o vs us Q q u v) m b) l a)
end
end L2
namespace HT
open PySem PyProof.Rows
section
open PySem.SeqAt
open PySem.AutoSeq1 (wpAny_loadPart')
open PySem.MeetsSeq PySem.MeetsSeq2 PySem.MeetsSeq3
end
section
#where
noncomputable def sIx(n d:Nat):Option Int->Nat
 | none=>d
 | some v=>if v<0 then(v+n).toNat else min v.toNat n
theorem sIx_none(n d:Nat):sIx n d none=d:=rfl
theorem sIx_nat(n d k:Nat):sIx n d (some k)=min k n:=by
 show(if k<0 then((k:Int) +n).toNat else min _ n)=min k n;rw[if_neg ⋯,Int.toNat_natCast]
theorem w8(v:Int)(n d:Nat):(if v<0 then max (v+n) 0 else min v n)=((sIx n d (some v))):=by
 show(if v<0 then max _ 0 else min v n)=(((if v<0 then(v+n).toNat else min v.toNat n):Nat))
 grind
theorem vz(lo hi:Option Int)(n:Nat):Builtin.Slice.sliceAdjust lo hi 1 n=(((sIx n 0 lo):Int),((sIx n n hi):Int)):=by
 refine Prod.ext ?_ ?_
 .cases lo with
  | none=>rfl
  | some v=>exact w8 v n 0
 .cases hi with
  | none=>rfl
  | some v=>exact w8 v n n
theorem vA(i j:Nat):Builtin.Slice.slicePlaces i j 1=j-i:=by
 unfold Builtin.Slice.slicePlaces;have a:(1:Int)>0:=by lia
 simp only[a,if_true,Int.ediv_one]
 split<;> lia
theorem mZ(p:IsPart v o)(h:Q o s):↥A (Builtin.Slice.slicePartIndex v) Q E s:=by
 cases p with
 | none=>exact slicePart_none h
 | int i t=>exact slicePart_int h
theorem kX{lo hi:Option Int}{n:Nat}(c:s.heap.IsSliceOf d e f .none)(pl:IsPart e lo)(g:IsPart f hi)
 (h:Q (((sIx n 0 lo:Nat):Int),1,sIx n n hi-sIx n 0 lo) s):↥A (Builtin.Slice.sliceApplied (.ref d) (pure (n:Int))) Q E s:=by
 have%[os,a,i|b]:=id c;refine Z2 (Z2 (wpAny_field a b rfl (Z2 (wpAny_field a b rfl (Z2 (wpAny_field a b rfl (Z3 (Z2 (slicePart_none (Z2 (mZ pl (Z2 (mZ g (Z2 (Z3 ?_)))))))))))))));show wpAny _ _ (match Builtin.Slice.sliceAdjust lo hi 1 n with|(lo,hi)=>pure (lo,(1:Int),Builtin.Slice.slicePlaces lo hi 1)) _ _ s;rw[vz lo hi n];show wpAny _ _ (pure _) _ _ s;rw[vA];exact Z3 h
theorem AE(xs:ZJ)(i k:Nat):((List.range k).filterMap λ(m:Nat)=>xs[((i:Int) +m*1).toNat]?).toArray=((xs.toList.drop i).take k).toArray:=by
 have e:(λ(m:Nat)=>xs[((i:Int) +m*1).toNat]?)=λm=>xs[i+m]? :=by
  funext m;have:((i:Int) +m*1).toNat=i+m:=by lia
  rw[this]
 rw[e];have:=pick_run xs i k;rw[List.filterMap_map]at this;have a:((λx=>xs[x]?) ∘ λx=>i+x)=λm=>xs[i+m]? :=rfl
 rw[a]at this;rw[this]
theorem getItem_tuple_cut{lo hi:Option Int}(c:IsTup s.heap t a)(g:s.heap.IsSliceOf i j l .none)(pl:IsPart j lo)(m:IsPart l hi)
 (hw: ¬ (sIx a.size 0 lo=0/\sIx a.size a.size hi=a.size))
 (h:Q (.ref ⇑s) {s with heap:=s.heap.push {cls:= .type "tuple",data:= .seq ((a.toList.drop (sIx a.size 0 lo)).take (sIx a.size a.size hi-sIx a.size 0 lo)).toArray}})
 (n:a.size<=sizeLine):↥A (getItem (.ref t) (.ref i)) Q E s:=by
 have b:sizeOk (.seq ((a.toList.drop (sIx a.size 0 lo)).take (sIx a.size a.size hi-sIx a.size 0 lo)).toArray):=by
  show((a.toList.drop _).take _).toArray.size<=sizeLine;rw[Zo,Yf,Yb,Za]
  lia
 have%[os,d,e|o]:=id g;unfold getItem
 try with_reducible refine wpAny_holding ?_
 refine Z2 (wpAny_sequenceKey c.typeIs (by decide) ?_);refine Z2 (wpAny_callSpecial?_slot c.typeIs PyProof.Rows.slot_tuple_getitem
  (wpAny_call_entry PyProof.Rows.slot_tuple_getitem c.typeIs entry_tuple_getitem ?_ (args_tuple_getitem _ _)))
 show wpAny _ _ (Builtin.Tuple.tupleItemsOf _>>= _) _ _ s;refine Z2 (tupleItemsOf_ c (Z2 (wpAny_typeOf %[os,d|e] (Z2 (kX g pl m ?_)))));have f: ¬ ((((sIx a.size 0 lo):Int)==0&&(1:Int)==1&&(sIx a.size a.size hi-sIx a.size 0 lo)==a.size)=true):=by
  lia
 show wpAny _ _ (if(((sIx a.size 0 lo):Int)==0&&(1)==1&&(sIx a.size a.size hi-sIx a.size 0 lo)==a.size)=true then _ else _) _ _ s;rw[if_neg f,AE]
 first
  | exact Z2 (wpAny_newObj_type (Z3 ⟨_,rfl,Z3 h⟩) b)
  | lia
  | lia
  | lia
end
end HT
namespace L2
open PySem PySem.Spec PyProof.Rows
noncomputable abbrev TO:=St->Hp->(Option Int->Hp->Prop)->Prop
def PO(X:Cx)(e:Option Expr)(t:TO):Prop:=
 ∀pins s (a:St) H Q,Inv X pins a H s->t a H Q->
  (~~~X) (evalPart e X.env) (λu s'=>∃o b,Inv X pins a b s'/\IsPart u o/\Q o b) X.xe s
def rh:TO:=λ_ H Q=>Q none H
def AF(t:TE):TO:=λa H Q=>t a H λx b=>asI x λi=>Q (some i) b
section
variable{X:Cx}{e:Expr}{te:TE}{lo hi:Option Expr}{tl th:TO}{pos p2:Pos}
theorem CW:PO X none rh:=by
 intro pins s a H Q I h;exact Z3 %[none,H,I,.none|h]
theorem CY(h:PE X e te):PO X (some e) (AF te):=by
 intro pins s a H Q I hw;refine thP (h pins s a H _ I hw) λu g x b c d f=>?_
 have%[i,rfl|q]:=iM f;have%[t|rfl]:=d;exact%[some i,b,c,.int i t|q]
def SlR(X:Cx)(r:V->Option Int->Option Int->Hp->VK->Prop):Prop:=
 ∀pins s (a:St) H x v b c lo hi d Q,Inv X pins a H s->aO x v->s.heap.IsSliceOf d b c .none->IsPart b lo->IsPart c hi->r x lo hi H Q->
  ∃T id,typeLookup (.type T) "__getitem__"=pure (some (.builtin id))/\s.TypeIs v T/\(~~~X) (getItem v (.ref d)) (EP X pins a Q) X.xe s
theorem SlR.or(h:SlR X r)(h':SlR X j):SlR X (λx lo hi H Q=>r x lo hi H Q\/j x lo hi H Q):=by
 intro pins s a H x v b c lo hi d Q I f g pl i q;rcases q with q|q
 .exact h pins s a H x v b c lo hi d Q I f g pl i q
 .exact h' pins s a H x v b c lo hi d Q I f g pl i q
def tSl(r:V->Option Int->Option Int->Hp->VK->Prop)(te:TE)(tl th:TO):TE:=λa H Q=>te a H λx b=>tl a b λl c=>th a c λu d=>r x l u d Q
theorem AG(c:SlR X r)(d:PE X e te)(f:PO X lo tl)(g:PO X hi th):PE X (.Subscript e (.Slice lo hi none p2) pos) (tSl r te tl th):=by
 intro pins s a H Q I h;refine Subscript_ (thP (d pins s a H _ I h) λv i x j m n o=>wpAny_Slice (thP (f pins i a j _ m o) λp t l w y pl z=>thP (g pins t a w _ y z) λA B u C E G J=>Z3 ?_));have%[T,id,L,M|N]:=c pins _ a C x v p A l u ⇑B Q (E.kept λb O q=>Z6 _ q) n (Heap.IsSliceOf.new ..) pl G J;exact tail_any M L N (by with_unfolding_all rfl)
noncomputable def tq(xs:List V)(lo hi:Option Int):List V:=(xs.drop (HT.sIx xs.length 0 lo)).take (HT.sIx xs.length xs.length hi-HT.sIx xs.length 0 lo)
theorem lW(xs:List V)(lo hi:Option Int):(tq xs lo hi).length<=xs.length:=by
 unfold tq;rw[Yf,Yb]
 lia
def Fp(K:ZA):V->Option Int->Option Int->Hp->VK->Prop:=λx lo hi H Q=>∃a xs,x= .ref a/\SqT K H a xs/\
 ¬ (HT.sIx xs.length 0 lo=0/\HT.sIx xs.length xs.length hi=xs.length)/\∀p,H p=none->Q (.ref p) (upd H p (.tup (tq xs lo hi)))
theorem Fq:SlR X (Fp X.K):=by
 intro pins s m H x v n o lo hi p Q I g i pl j h;have%[a,xs,rfl,l,hw|q]:=h;cases g;have%[its,r,d|f]:=I.tuple l;have c:its.toArray.size=xs.length:=r.length.symm;refine%["tuple",_,PyProof.Rows.slot_tuple_getitem.lookup,d.typeIs|HT.getItem_tuple_cut d i pl j (c▸hw) ?_ (c▸f)];rw[c];refine%[.ref ⇑s,_,I.laid (λb t q=>Z6 _ q) (Zh _) ?_,rfl|q _ (I.hok.fresh (Zh _))];exact%[Ya (lW xs lo hi) f,_,(r.drop _).take _|IsTup.new _ _]
end
noncomputable def ixN(n:Nat)(i:Int):Option Nat:=if 0<=i then(if i<n then some i.toNat else none)else if -n<=i then some (i+n).toNat else none
noncomputable def atI{a:Type}(xs:List a)(i:Int):Option a:=(ixN xs.length i).bind λj=>xs[j]?
theorem CZ(h:ixN n i=some j):seqIndex? i n=some j/\j<n/\ -(n:Int)<=i/\i<n:=by
 unfold ixN at h;by_cases b:0<=i
 .rw[if_pos b]at h;by_cases a:i<n
  .rw[if_pos a]at h;exact%[by rw[seqIndex_of b a,(Z9 h)],⋯,⋯|a]
  simp_all
 .rw[if_neg b]at h;by_cases a: -n<=i
  .rw[if_pos a]at h;exact%[by rw[seqIndex_neg ⋯ a,(Z9 h)],⋯,a|⋯]
  .rw[if_neg a]at h;cases h
theorem ri{a:Type}{xs:List a}{i:Int}{v:a}(h:atI xs i=some v):∃j,seqIndex? i xs.length=some j/\xs[j]? =some v/\j<xs.length/\ -xs.length<=i/\i<xs.length:=by
 unfold atI at h;cases e:ixN xs.length i with
 | none=>simp_all
 | some j=>
   rw[e]at h;have%[b,c,d|f]:=CZ e;exact%[j,b,h,c,d|f]
theorem cA{a:Type}{xs:List a}{j:Nat}{v:a}(h:xs[j]? =some v):atI xs j=some v:=by
 have b:=(X8 h).1;have e:ixN xs.length j=some j:=by
  unfold ixN
  simp_all
 unfold atI;exact e▸h
theorem iN(xs:List a)(v:a):atI (xs++[v]) (-1)=some v:=by
 have b:(xs++[v]).length=xs.length+1:=by simp
 have e:ixN (xs++[v]).length (-1)=some xs.length:=by
  unfold ixN;rw[b,if_neg (by decide),if_pos ⋯]
  congr 1
  lia
 unfold atI
 simp_all
def mM(b:Expr):Prop:=∀o i,subscripted b false o i=operate [o,i] (getItem o i)
def IxR(X:Cx)(r:R2):Prop:=
 ∀b a pins s (c:St) H x y v u Q,Inv X pins c H s->aO x v->aO y u->r x y H Q->
  subscripted a false v u=operate [v,u] (getItem v u)->(~~~X) (subscriptTail b a v u) (EP X pins c Q) X.xe s
def MtR(X:Cx)(id:String)(r:V->List V->Hp->VK->Prop):Prop:=
 ∀pins s (a:St) H x xs v us Q,Inv X pins a H s->aO x v->aE xs us->r x xs H Q->
  (~~~X) (call (.builtin id) (v::us)) (EP X pins a Q) X.xe s
section
variable{X:Cx}{a b:Expr}{ta tb:TE}{pos:Pos}
theorem AH(c:IxR X r)(d:PE X a ta)(e:PE X b tb)(f:mM b):PE X (.Subscript a b pos) (tOp r ta tb):=by
 intro pins s g H Q I h;exact Subscript_ (E6 d e I h λv u i x y j l m n q=>c a b pins i g j x y v u Q l m n q (f _ _))
def Fs(K:ZA):R2:=λx y H Q=>asR x λp=>asI y λi=>∃xs,SqL K H p xs/\∃v,atI xs i=some v/\Q v H
def Ft(K:ZA):R2:=λx y H Q=>asR x λp=>asI y λi=>∃xs,SqT K H p xs/\∃v,atI xs i=some v/\Q v H
def Fu:R2:=λx y H Q=>∃z i c,x= .str z/\y= .int i/\z.length<=sizeLine/\atI z.cps.toList i=some c/\Q (.str ⟨#[c]⟩) H
theorem C0:IxR X (Fs X.K):=by
 intro d e pins s A H x y v u Q I B C h m;have%[p,rfl|f]:=e7 h;have%[i,rfl,xs,E,z,G|q]:=iM f;cases B;have%[t|rfl]:=C;have%[its,r,pl|N]:=I.list E;have%[j,c,f,O,J|L]:=ri G;have%[w,n|g]:=r.get f;have M:=r.length;have T:=rg;have fin:EP X pins A Q w s:=%[z,H,I,g|q]
 by_cases o:0<=i
 .have l:=by
   rw[seqIndex_of o L]at c;exact Z9 c
  exact item_listR pl.isList o ⋯ (by rw[l];simpa using n) fin m
 .have l:(i+its.toArray.size).toNat=j:=by
   rw[seqIndex_neg ⋯ J]at c;rw[Zo,<-M];exact Z9 c
  exact subscriptTail_builtinR pl.isList.typeIs slot_list_getitem.lookup
   (wpAny_getItem_list_neg pl.isList ⋯ (by simp_all) ⋯ (by rw[l];simpa using n) %[rfl|fin]) m
theorem Fv:IxR X (Ft X.K):=by
 intro c d pins s g H x y v u Q I l m h n;have%[p,rfl|e]:=e7 h;have%[i,rfl,xs,o,z,A|q]:=iM e;cases l;have%[t|rfl]:=m;have%[its,r,pl|E]:=I.tuple o;have%[j,B,e,G,J|L]:=ri A;have%[w,C|f]:=r.get e;have M:=rg;have fin:EP X pins g Q w s:=%[z,H,I,f|q]
 exact subscriptTail_builtinR pl.typeIs slot_tuple_getitem.lookup
  (getItem_tuple pl ⋯ ⋯ (by rw[Zo,<-r.length];exact B) (by simpa using C) %[rfl|fin]) n
theorem Fw:IxR X Fu:=by
 intro d e pins s A H x y v u Q I g l h m;have%[z,i,c,rfl,rfl,B,n|q]:=h;have%[t|rfl]:=g;have%[t'|rfl]:=l;have%[j,f,o,C,p|r]:=ri n;have w:z.cps.toList.length=z.length:=by simp[Str.length]
 rw[w]at f p r;have E:=rg;exact tail_any (typeIs_str s z t) slot_str_getitem.lookup (getItem_str (by
  lia) (by rw[f];simpa using o) %[.str _,H,I.tok _,%[_|rfl]|q]) m
theorem rj(lo hi:Option Int)(n:Nat):(sliceBounds lo hi none n).1=((HT.sIx n 0 lo:Nat):Int)/\(sliceBounds lo hi none n).2.1=((HT.sIx n n hi:Nat):Int)/\(sliceBounds lo hi none n).2.2=1:=by
 refine%[?_,?_|rfl]
 .cases lo with
  | none=>simp[sliceBounds,HT.sIx]
  | some i=>
    simp only[sliceBounds,HT.sIx,getD_none,show(1:Int)>0 by decide,if_true];by_cases h:i<0
    .simp only[h,if_true]<;> lia
    .simp only[h,if_false]<;> lia
 .cases hi with
  | none=>simp[sliceBounds,HT.sIx]
  | some i=>
    simp only[sliceBounds,HT.sIx,getD_none,show(1:Int)>0 by decide,if_true];by_cases h:i<0
    .simp only[h,if_true]<;> lia
    .simp only[h,if_false]<;> lia
theorem ph(its:ZG)(lo hi:Option Int):slicePick its.toArray lo hi none=((its.drop (HT.sIx its.length 0 lo)).take (HT.sIx its.length its.length hi-HT.sIx its.length 0 lo)).toArray:=by
 have%[c,d|e]:=rj lo hi its.toArray.size;unfold slicePick;rw[c,d,e];simp only[sliceRange_one,pick_run]<;> rfl
def Fx(K:ZA):V->Option Int->Option Int->Hp->VK->Prop:=λx lo hi H Q=>∃a xs,x= .ref a/\SqL K H a xs/\∀p,H p=none->Q (.ref p) (upd H p (.lst (tq xs lo hi)))
theorem C1:SlR X (Fx X.K):=by
 intro pins s l H x v m n lo hi o Q I e f pl g h;have%[a,xs,rfl,i|q]:=h;cases e;have%[its,r,d|j]:=I.list i;have c:=r.length;refine%["list",_,slot_list_getitem.lookup,d.isList.typeIs|wpAny_getItem_list_slice d.isList f pl g .none ∅ ?_ (by simp_all)];rw[ph,<-c];refine%[.ref ⇑s,_,I.laid (λb p q=>Z6 _ q) (Zh _) ?_,rfl|q _ (I.hok.fresh (Zh _))];exact%[Ya (lW xs lo hi) j,_,0,(r.drop _).take _|Zi _ rfl]
noncomputable def fQ:V->Bool
 | .non=>true
 | .bl _=>true
 | .int _=>true
 | .str _=>true
 | _=>false
noncomputable def eqV:V->V->Bool
 | .non,.non=>true
 | .bl a,.bl b=>a==b
 | .bl a,.int b=>(if a then 1 else 0)==b
 | .int a,.bl b=>a==(if b then 1 else 0)
 | .int a,.int b=>a==b
 | .str a,.str b=>a==b
 | _,_=>false
theorem AI(d:aO y u)(c:aO x v)(f:fQ y=true)(e:fQ x=true):SeqAt.EqAt A s u v (eqV y x):=by
 cases y with
 | non=>
   cases d;cases x with
   | non=>cases c;exact SeqAt.EqAt.same _
   | bl b=>cases c;exact SeqAt.EqAt.none_bool b
   | int b=>have%[t|rfl]:=c;exact SeqAt.EqAt.none_int b t
   | str b=>have%[t|rfl]:=c;exact SeqAt.EqAt.none_str b t
   | _=>exact absurd (show false=true from e) Zs
 | bl a=>
   cases d;cases x with
   | non=>cases c;exact SeqAt.EqAt.bool_none a
   | bl b=>cases c;exact SeqAt.EqAt.bool_bool a b
   | int b=>have%[t|rfl]:=c;exact SeqAt.EqAt.bool_int a b t
   | str b=>have%[t|rfl]:=c;exact SeqAt.EqAt.bool_str a b t
   | _=>exact absurd (show false=true from e) Zs
 | int a=>
   have%[t'|rfl]:=d;cases x with
   | non=>cases c;exact SeqAt.EqAt.int_none a t'
   | bl b=>cases c;exact SeqAt.EqAt.int_bool a t' b
   | int b=>have%[t|rfl]:=c;exact SeqAt.EqAt.int_int a t' b t
   | str b=>have%[t|rfl]:=c;exact SeqAt.EqAt.int_str a t' b t
   | _=>exact absurd (show false=true from e) Zs
 | str a=>
   have%[t'|rfl]:=d;cases x with
   | non=>cases c;exact SeqAt.EqAt.str_none a t'
   | bl b=>cases c;exact SeqAt.EqAt.str_bool a t' b
   | int b=>have%[t|rfl]:=c;exact SeqAt.EqAt.str_int a t' b t
   | str b=>have%[t|rfl]:=c;exact SeqAt.EqAt.str_str a t' b t
   | _=>exact absurd (show false=true from e) Zs
 | _=>exact absurd (show false=true from f) Zs
noncomputable def eqU(x:V)(u:Value):Bool:=match u with
 | .none=>eqV .non x
 | .bool b=>eqV (.bl b) x
 | .int i _=>eqV (.int i) x
 | .str z _=>eqV (.str z) x
 | _=>false
theorem AJ(r:aO y u)(f:fQ y=true):eqU x u=eqV y x:=by
 cases y with
 | non=>cases r;rfl
 | bl b=>cases r;rfl
 | int i=>have%[t|rfl]:=r;rfl
 | str z=>have%[t|rfl]:=r;rfl
 | _=>exact absurd (show false=true from f) Zs
theorem j7:∀{xs:List V} {us:ZG},aE xs us->xs.all fQ=true->us.any (eqU x)=xs.any λy=>eqV y x
 | _,_,.nil,_=>rfl
 | y::xs,u::us,.cons r t,f=>by
   rw[List.all_cons,Zu]at f;rw[Zv,Zv,AJ r f.1,j7 t f.2]
theorem iO(d:aO x v)(e:fQ x=true):∀{xs:List V} {us:ZG},aE xs us->xs.all fQ=true->∀u∈us,SeqAt.EqAt A s u v (eqU x u)
 | _,_,.nil,_=>λu c=>by cases c
 | y::xs,u::us,.cons r t,f=>λg c=>by
   rw[List.all_cons,Zu]at f;rcases mem_cons.mp c with rfl|c
   .rw[AJ r f.1];exact AI r d f.1 e
   .exact iO d e t f.2 g c
noncomputable def inV(x:V)(xs:List V):Bool:=xs.any λy=>eqV y x
def rIn(K:ZA)(c:Bool):R2:=λx y H Q=>∃p xs,y= .ref p/\(SqL K H p xs\/SqT K H p xs)/\fQ x=true/\xs.all fQ=true/\Q (.bl (if c then !inV x xs else inV x xs)) H
theorem yz:OpR X (compareOp .In) (rIn X.K false):=by
 intro pins s i H x y v u Q I d f h;have%[p,xs,rfl,c,e,fs|q]:=h;cases f;rcases c with c|c
 .have%[its,r,pl|g]:=I.list c;refine SeqAt.in_listAt _ pl.isList (λw hw=>iO d e r fs w (by simpa using hw)) %[.bl _,H,I,rfl|?_];rw[show its.toArray.any _=its.any (eqU x) by simp,j7 r fs];exact q
 .have%[its,r,pl|g]:=I.tuple c;refine SeqAt.in_tupleAt _ pl (λw hw=>iO d e r fs w (by simpa using hw)) %[.bl _,H,I,rfl|?_];rw[show its.toArray.any _=its.any (eqU x) by simp,j7 r fs];exact q
theorem rp:OpR X (compareOp .NotIn) (rIn X.K true):=by
 intro pins s i H x y v u Q I d f h;have%[p,xs,rfl,c,e,fs|q]:=h;cases f;rcases c with c|c
 .have%[its,r,pl|g]:=I.list c;refine SeqAt.notIn_listAt _ pl.isList (λw hw=>iO d e r fs w (by simpa using hw)) %[.bl _,H,I,rfl|?_];rw[show its.toArray.any _=its.any (eqU x) by simp,j7 r fs];exact q
 .have%[its,r,pl|g]:=I.tuple c;refine SeqAt.notIn_tupleAt _ pl (λw hw=>iO d e r fs w (by simpa using hw)) %[.bl _,H,I,rfl|?_];rw[show its.toArray.any _=its.any (eqU x) by simp,j7 r fs];exact q
theorem rq:OpR X (compareOp .NotIn) (λx y H Q=>∃i j,x= .str i/\y= .str j/\Q (.bl (!(!(Builtin.Str.occurrences j i 0 j.length 1).isEmpty))) H):=by
 intro pins s e H x y v u Q I c d h;have%[i,j,rfl,rfl|q]:=h;have%[t|rfl]:=c;have%[t'|rfl]:=d;exact notIn_str %[.bl _,H,I,rfl|q]
theorem rA:bW X (.type "list") (λxs H Q=>∃p ys,xs=[.ref p]/\(SqL X.K H p ys\/SqT X.K H p ys)/\∀l,H l=none->Q (.ref l) (upd H l (.lst ys))):=by
 intro pins s y H xs us Q I r h;have%[p,ys,rfl,f|q]:=h;have%[u,rfl|z]:=di r;cases z;have fin:∀its,aE ys its->ys.length<=sizeLine->∀h' d,(∀b w,s.heap.get? b=some w->h'.get? b=some w)->
  h'.get? ⇑s=some _->EP X pins y Q _ (s>>>h'):=λits c g h' d i e=>
  %[.ref ⇑s,_,I.laid i (Zh _) (show bN X.prog X.w _ h' _ (.lst ys)from%[g,its,d,c|e]),rfl|q _ (I.hok.fresh (Zh _))]
 rcases f with f|f
 .have%[its,c,pl|g]:=I.list f;have j:=c.length;have%[o,m,t,n|v]:=pl.isList;exact call_list_seq p (.inl rfl) m t v (λh' d i e=>fin its c g h' d i e) (by simp only[Zo]<;> lia)
 .have%[its,c,pl|g]:=I.tuple f;have j:=c.length;have%[o,m,t,n|v]:=pl;exact call_list_seq p (.inr rfl) m t v (λh' d i e=>fin its c g h' d i e) (by simp only[Zo]<;> lia)
def tyV(K:ZA)(T:String)(x:V)(H:Hp):Prop:=match x with
 | .str _=>T="str"
 | .int _=>T="int"
 | .ref p=>(T="list"/\∃xs,SqL K H p xs)\/(T="tuple"/\∃o,K.lookup p=some o/\o.cls= .type "tuple"/\o.dict=none)\/
  (T="dict"/\((∃c,H p=some (.dK c))\/∃c,H p=some (.dT c)))\/(T="set"/\∃S n,H p=some (.set S n))
 | _=>False
theorem AK(I:Inv X pins q H s)(r:aO x v)(ty:tyV X.K T x H):
 s.TypeIs v T/\∀a,v= .ref a->∃j,s.heap.get? a=some j/\j.dict=none:=by
 cases x with
 | str z=>
   have%[t|rfl]:=r;cases(show T="str" from ty);exact%[typeIs_str s z t|λ_ e=>nomatch e]
 | int i=>
   have%[t|rfl]:=r;cases(show T="int" from ty);exact%[typeIs_int s i t|λ_ e=>nomatch e]
 | ref p=>
   cases r;rcases ty with⟨rfl,xs,l⟩|⟨rfl,o,d,m,f⟩|⟨rfl,d⟩|⟨rfl,S,n,d⟩
   .have%[its,_,pl|_]:=I.list l;refine%[pl.isList.typeIs|λa e=>?_];cases e;have%[o,n,e,c,f|_]:=pl;exact%[o,e|f]
   .refine%[%[o,I.kIn p o d|m]|λa e=>?_];cases e;exact%[o,I.kIn _ o d|f]
   .have z:∃o,s.heap.get? p=some o/\o.ExactDict:=by
     rcases d with⟨g,d⟩|⟨g,d⟩
     .have%[_,_,_,_,o,_,_,e,ex|_]:=I.hok p _ d;exact%[o,e|ex]
     .have%[_,_,_,_,o,_,_,e,ex|_]:=I.hok p _ d;exact%[o,e|ex]
    have%[o,e|ex]:=z;refine%[%[o,e|ex.1]|λa h=>?_];cases h;exact%[o,e|ex.2.1]
   .have%[o,_,_,_,e,ex|_]:=I.hok p _ d;refine%[%[o,e|ex.1]|λa h=>?_];cases h;exact%[o,e|ex.2.1]
 | _=>exact False.elim ty
def C2(K:ZA)(T:String)(r:V->List V->Hp->VK->Prop)(d:TE):TE:=λe H Q=>d e H λx c=>tyV K T x c/\r x [] c Q
def tBM(K:ZA)(T:String)(r:V->List V->Hp->VK->Prop)(e:TE)(t:TA):TE:=λc H Q=>e c H λx d=>tyV K T x d/\t c d λxs f=>r x xs f Q
variable{o e:Expr}{es:List Expr}{to:TE}{t:TA}{name:Str}{apos cpos:Pos}{T id:String}{r:V->List V->Hp->VK->Prop}
theorem Fy(l:PlainAttrs T)(slot:Slot T name id)(f:typeOf (.builtin id)=pure (.type "method_descriptor"))(m:MtR X id r)(n:PE X o to)
 (c:attributeBase o name X.env (eval o X.env)=eval o X.env) (d:(apos.endLine==cpos.line)=true):PE X (.Call (.Attribute o name apos) [] [] cpos) (C2 X.K T r to):=by
 intro pins s g H Q I h;refine wpAny_Call_method0_late c d (thP (n pins s g H _ I h) λv p x q i j ⟨ty,u⟩=>?_);have%[w|y]:=AK i j ty;exact%[T,id,l,slot,f,w,y|Calls.callWith_builtin rfl (PySem.evalArgs_none (m pins p g q x [] v [] Q i j .nil u))]
theorem Hj(p:PlainAttrs T)(slot:Slot T name id)(i:typeOf (.builtin id)=pure (.type "method_descriptor"))(q:MtR X id r)(u:PE X o to)(w:PA X (e::es) t)
 (d:attributeBase o name X.env (eval o X.env)=eval o X.env)
 (g:((backTo cpos (starEach (e::es) X.env)).all (λx=>!x.1)&&(backToKw cpos (keywordEach [] X.env)).all (λx=>x.1.isSome)
  && decide ((e::es).length+([]:List Keyword).length+(if([]:List Keyword).isEmpty then 0 else 1)<30))=true)
 (f:(apos.endLine==cpos.line)=true) (y:starEach (e::es) X.env=(false,eval e X.env)::starEach es X.env) (c:(backTo cpos (starEach es X.env)).any (·.1)=false):
 PE X (.Call (.Attribute o name apos) (e::es) [] cpos) (tBM X.K T r to t):=by
 intro pins s j H Q I h;refine wpAny_Call_method_late d g f rfl (thP (u pins s j H _ I h) λv z x A l m ⟨ty,B⟩=>?_);have%[C|E]:=AK l m ty;refine%[T,id,p,slot,i,C,E|?_];have n:=w cpos pins z j A _ l B;rw[y]at n ⊢;exact Calls.callWith_builtin (by show(false||(backTo cpos _).any _)=false;rw[c]<;> rfl) (Calls.evalArgs_plain (thn n λus G ⟨vs,J,L,M,N⟩=>q pins G j J x vs v us Q L m M N))
end
def MtM(X:Cx)(id:String)(r:V->List V->Hp->VK->Prop):Prop:=
 ∀pins s (a:St) H x xs v us Q,Inv X pins a H s->aO x v->aE xs us->r x xs H Q->
  (~~~X) (call (.builtin id) (v::us)) (EP X pins a Q) X.xe s
theorem aE.one:∀{x:V} {us:ZG},aE [x] us->∃u,us=[u]/\aO x u
 | _,_,.cons r .nil=>%[_,rfl|r]
theorem aE.zero:∀{us:ZG},aE [] us->us=[]
 | _,.nil=>rfl
theorem aE.dropLast{xs:List V}{us:ZG}(h:aE xs us):aE xs.dropLast us.dropLast:=by
 induction h with
 | nil=>exact .nil
 | cons r t a=>
   cases t with
   | nil=>exact .nil
   | cons q t'=>exact .cons r a
theorem aE.eraseIdx:∀{xs:List V} {us:ZG} i,aE xs us->aE (xs.eraseIdx i) (us.eraseIdx i)
 | _,_,_,.nil=> .nil
 | _,_,0,.cons _ t=>t
 | _,_,i+1,.cons r t=> .cons r (aE.eraseIdx i t)
theorem aE.reverse(h:aE xs us):aE xs.reverse us.reverse:=by
 induction h with
 | nil=>exact .nil
 | cons r t a=>rw[List.reverse_cons,List.reverse_cons];exact aE.append a (.cons r .nil)
theorem aE.rep(h:aE xs us):∀k:Nat,aE (List.replicate k xs).flatten (List.replicate k us).flatten
 | 0=> .nil
 | k+1=>by
   exact aE.append h (aE.rep h k)
theorem qb:∀(l:List a) (i:Nat),(l.eraseIdx i).length<=l.length
 |[],_=>Zh _
 | _::_,0=>Y9 _
 | _::r,i+1=>Nat.succ_le_succ (qb r i)
theorem qc(its:ZG):∀k acc,
 List.foldl (λx1 x2=>x1++x2) acc.toArray (List.replicate k its.toArray)=(acc++(List.replicate k its).flatten).toArray
 | 0,acc=>by simp
 | k+1,acc=>by
   have e:acc.toArray++its.toArray=(acc++its).toArray:=by simp
   have a:(acc++its) ++(List.replicate k its).flatten=acc++(List.replicate (k+1) its).flatten:=by
    rw[List.replicate_succ,List.flatten_cons,Zd]
   rw[<-a,<-qc its k _,<-e,List.replicate_succ,foldl_cons]
section
#version
variable{l b:Addr}{xs ys zs:List V}
theorem Inv.lset{its its':ZG}{n:Nat}{f:ZJ->ZJ}{t':Nat}(I:Inv X pins σ H s)(a:H l=some (.lst xs))
 (e:s.heap.get? l=some {cls:= .type "list",data:= .seq its.toArray n}) (c:f its.toArray=its'.toArray) (d:aE ys its') (g:ys.length<=sizeLine):
 Inv X pins σ (upd H l (.lst ys)) {s with heap:=s.heap.update l (Obj.mapSeq f),toks:=t'}:=by
 have q:=PySem.IsL.update e f;rw[c]at q;refine I.write (a▸trivial) (.inl rfl) (λj u h i=>(get?_update_other s.heap _ (Ne.symm h)).trans i) %[_|q] ?_;exact%[g,its',_,d|q]
theorem Inv.lnew(I:Inv X pins σ H s)(a:aE ys its)(c:ys.length<=sizeLine):
 Inv X pins σ (upd H ⇑s (.lst ys)) {s with heap:=s.heap.push {cls:= .type "list",data:= .seq its.toArray},toks:=t'}:=
 I.laid (λ_ _ q=>Z6 _ q) (Zh _) %[c,its,0,a|Zi _ rfl]
theorem Inv.fresh(I:Inv X pins σ H s):H ⇑s=none:=I.hok.fresh (Zh _)
theorem Inv.lstM(I:Inv X pins σ H s)(a:H l=some (.lst xs)):xs.length<=sizeLine/\∃its n,aE xs its/\xs.length=its.length/\s.heap.get? l=some {cls:= .type "list",data:= .seq its.toArray n}:=by
 have%[z,its,n,r|e]:=I.hok l _ a;exact%[z,its,n,r,r.length|e]
theorem tt{n:Nat}(h:n<=sizeLine):Builtin.List.listTooLong n=false:=by
 unfold Builtin.List.listTooLong
 simp_all
end
section
variable{X:Cx}
def rB:V->List V->Hp->VK->Prop:=λx vs H Q=>asR x λl=>∃y,vs=[y]/\∃xs,H l=some (.lst xs)/\xs.length<sizeLine/\Q .non (upd H l (.lst (xs++[y])))
theorem qd:MtM X "list.append" rB:=by
 intro pins s f H x vs v us Q I b c h;have%[l,rfl,y,rfl,xs,a,g|q]:=e7 h;cases b;have%[u,rfl|d]:=c.one;have%[z,its,n,r,i|e]:=I.lstM a;refine call_meets F.slot_list_append %[_,e|rfl] F.entry_list_append (F.args_list_append_2 _ _) (PySem.list_append l its.toArray n u (by simp_all)) %[e,.non,_,I.lset a e ∅ (r.append (.cons d .nil)) ?_,rfl|q];rw[Z8,Ye]
 lia
def rC:V->List V->Hp->VK->Prop:=λx vs H Q=>∃l b xs zs,x= .ref l/\vs=[.ref b]/\H l=some (.lst xs)/\H b=some (.lst zs)/\xs.length+zs.length<=sizeLine/\Q .non (upd H l (.lst (xs++zs)))
theorem yA:MtM X "list.extend" rC:=by
 intro pins s w H x vs v us Q I f g h;have%[l,b,xs,zs,rfl,rfl,d,i,y|q]:=h;cases f;have%[u,rfl|j]:=g.one;cases j;have%[z,its,n,r,A|e]:=I.lstM d;have%[B,its2,m,o,p|t]:=I.lstM i;have c:its.toArray.size+its2.toArray.size<=sizeLine:=by simp_all
 have a: ¬ (!its.toArray.isEmpty&&Builtin.List.listTooLong (its.toArray.size+its2.toArray.size))=true:=by
  rw[tt c,Bool.and_false];exact Zs
 refine call_meets F.slot_list_extend %[_,e|rfl] F.entry_list_extend (F.args_list_extend_2 _ _)
  (AutoSeq1.list_extend_list_list_0 l its.toArray n b its2.toArray m a ⋯ ⋯) %[e,t,.non,_,I.lset d e ∅ (r.append o) ?_,rfl|q]
 simp_all
def Hk:V->List V->Hp->VK->Prop:=λx vs H Q=>∃l xs y,x= .ref l/\vs=[]/\H l=some (.lst xs)/\xs[xs.length-1]? =some y/\Q y (upd H l (.lst xs.dropLast))
theorem Fz:MtM X "list.pop" Hk:=by
 intro pins s j H x vs v us Q I d f h;have%[l,xs,y,rfl,rfl,c,g|q]:=h;cases d;have a:=f.zero;subst a;have%[z,its,n,r,m|e]:=I.lstM c;have%[u,o|i]:=r.get g;have b:its.toArray[its.toArray.size-1]? =some u:=by
  simp_all
 refine call_meets F.slot_list_pop %[_,e|rfl] F.entry_list_pop (F.args_list_pop_1 _) (MeetsSeq.list_pop_last l its.toArray n u b (by simp_all)) %[e,y,_,I.lset c e ?_ r.dropLast ?_,i|q]
 .simp
 .rw[List.length_dropLast]
  lia
def vB:V->List V->Hp->VK->Prop:=λx vs H Q=>∃l xs,x= .ref l/\vs=[]/\H l=some (.lst xs)/\Q .non (upd H l (.lst []))
theorem AL:MtM X "list.clear" vB:=by
 intro pins s f H x vs v us Q I c d h;have%[l,xs,rfl,rfl,b|q]:=h;cases c;have a:=d.zero;subst a;have%[z,its,n,r,g|e]:=I.lstM b;exact call_meets F.slot_list_clear %[_,e|rfl] F.entry_list_clear (F.args_list_clear_1 _) (AutoSeq1.list_clear_list_0 l its.toArray n (by rw[Zo];lia)) %[e,.non,_,I.lset b e rfl .nil (X2 _),rfl|q]
def FA:R2:=λx y H Q=>∃l b xs zs,x= .ref l/\y= .ref b/\H l=some (.lst xs)/\H b=some (.lst zs)/\xs.length+zs.length<=sizeLine/\∀p,H p=none->Q (.ref p) (upd H p (.lst (xs++zs)))
theorem FB:OpR X (binaryOp .Add) FA:=by
 intro pins s o H x y v u Q I a c h;have%[l,b,xs,zs,rfl,rfl,d,f,p|q]:=h;cases a;cases c;have%[z,its,n,r,t|e]:=I.lstM d;have%[w,its2,A,g,i|j]:=I.lstM f;refine PySem.P.add_list e j ?_ (by rw[Zo,Zo];lia);have m:its.toArray++its2.toArray=(its++its2).toArray:=by simp
 rw[m];exact%[.ref _,_,I.lnew (r.append g) (by rw[Z8];lia),rfl|q _ I.fresh]
def FC:R2:=λx y H Q=>∃l k xs,x= .ref l/\y= .int k/\H l=some (.lst xs)/\ -(2^63)<=k/\k<2^63/\xs.length*k.toNat<=sizeLine/\
 ∀p,H p=none->Q (.ref p) (upd H p (.lst (List.replicate k.toNat xs).flatten))
theorem C3(xs:List a)(k:Nat):(List.replicate k xs).flatten.length=k*xs.length:=by
 simp
theorem FD:OpR X (binaryOp .Mult) FC:=by
 intro pins s C H x y v u Q I j o h;have%[l,k,xs,rfl,rfl,p,w,A,i|q]:=h;cases j;have%[t|rfl]:=o;have%[z,its,n,r,B|e]:=I.lstM p;have c:its.toArray.size*k.toNat<=sizeLine:=by rw[Zo,<-B];exact i
 have d: ¬ its.toArray.size*k.toNat>(2^63-1)/8:=by
  have:sizeLine<=(2^63-1)/8:=by decide
  lia
 have f: ¬ (!Builtin.List.listFitsIndex k)=true:=by
  rw[fitsIndex_both w A];exact Zs
 have b: ¬ Builtin.List.listTooLong (its.toArray.size*k.toNat)=true:=by
  rw[tt c];exact Zs
 have g:List.foldl (λx1 x2=>x1++x2) #[] (List.replicate (if its.toArray.isEmpty=true then 0 else k.toNat) its.toArray)=(List.replicate k.toNat its).flatten.toArray:=by
  have E:∀m,List.foldl (λx1 x2=>x1++x2) #[] (List.replicate m its.toArray)=(List.replicate m its).flatten.toArray:=λm=>by
   have:=qc its m []
   simp_all
  cases its with
  | nil=>simp
  | cons a G=>simp_all
 refine wpAny_binaryOp_repeat_ref (by decide) %[_,e|rfl] (λs'=>typeIs_int s' k t) noFill_list_mul F.fills_int_mul F.slot_int_rmul repeat_list F.slot_int_index.lookup
  (call_meets F.slot_int_rmul (typeIs_int s k t) F.entry_int_rmul (F.args_int_rmul_2 _ _) (int___rmul___int_list k t l its.toArray n)
   %[e,rfl,%[_,e|rfl]|call_meets F.slot_list_mul %[_,e|rfl] F.entry_list_mul (F.args_list_mul_2 _ _) (AutoListH.list___mul___list_int_3 l its.toArray n k t f d b) %[e|?_]])
 rw[g];exact%[.ref _,_,I.lnew (r.rep k.toNat) (by rw[C3,Nat.mul_comm];exact i),rfl|q _ I.fresh]
end
section
#where
end
section
variable{X:Cx}
end
section
variable{κ:Type}[DecidableEq κ]
noncomputable def bG(a:List (κ×V))(k:κ):Option V:=(a.find? λb=>decide (b.1=k)).map (·.2)
noncomputable def cQ(a:List (κ×V))(k:κ)(v:V):List (κ×V):=
 if(a.any λb=>decide (b.1=k))=true then a.map (λb=>if b.1=k then(b.1,v)else b)else a++[(k,v)]
theorem fh{p:κ×V}{r:List _}{k:κ}(e:p.1=k):bG (p::r) k=some p.2:=by simp[bG,e]
theorem dq{p:κ×V}{r:List _}{k:κ}(e: ¬ p.1=k):bG (p::r) k=bG r k:=by simp[bG,e]
theorem iP(k:κ):∀a,(a.any λb=>decide (b.1=k))=(bG a k).isSome
 |[]=>rfl
 | p::r=>by
   rw[Zv];by_cases e:p.1=k
   .simp only[fh e,Ze e,Bool.true_or,Option.isSome_some]
   .rw[dq e,Zg e,Bool.false_or];exact iP k r
theorem fR(a:List _)(k:κ)(v:V):(cQ a k v).length<=a.length+1:=by
 unfold cQ
 split
 .simp
 simp_all
theorem fi{k:κ}(v:V)(h:bG a k=none):cQ a k v=a++[(k,v)]:=by
 unfold cQ;rw[iP,h];exact if_neg (by decide)
theorem gc.isSome_eq(r:gc o u):o.isSome=u.isSome:=by
 cases o with
 | none=>cases u with
   | none=>rfl
   | some _=>exact(r).elim
 | some _=>cases u with
   | none=>exact(r).elim
   | some _=>rfl
theorem gc.getD{o:Option V}{u:Option Value}{d:V}{d':Value}(r:gc o u)(a:aO d d'):aO (o.getD d) (u.getD d'):=by
 cases o with
 | none=>cases u with
   | none=>exact a
   | some _=>exact(r).elim
 | some _=>cases u with
   | none=>exact(r).elim
   | some _=>exact r
theorem KV.val{vs:List (κ×Value)}(r:KV a vs)(k:κ):gc (bG a k) (valueAt vs k):=by
 induction r with
 | nil=>exact True.intro
 | @cons p q ps qs h t f=>
   have%[d|g]:=h;by_cases e:p.1=k
   .have c:=d.symm.trans e;have b:valueAt (q::qs) k=some q.2:=by simp[valueAt,c]
    rw[fh e,b];exact g
   .have c: ¬ q.1=k:=λz=>e (d.trans z)
    have b:valueAt (q::qs) k=valueAt qs k:=by simp[valueAt,c]
    rw[dq e,b];exact f
theorem KV.any(r:KV a vs)(k:κ):(a.any λb=>decide (b.1=k))=vs.any λb=>decide (b.1=k):=by
 induction r with
 | nil=>rfl
 | cons h t c=>simp_all
theorem KV.repl(r:KV c vs)(k:κ)(d:aO y u):
 KV (c.map λa=>if a.1=k then(a.1,y)else a) (vs.map λa=>if a.1=k then(a.1,u)else a):=by
 induction r with
 | nil=>exact .nil
 | @cons p q ps qs h t f=>
   rw[Yk,Yk];refine .cons ?_ f;have%[b|g]:=h;by_cases e:p.1=k
   .rw[if_pos e,if_pos (b.symm.trans e)];exact%[b|d]
   .rw[if_neg e,if_neg (λz=>e (b.trans z))];exact%[b|g]
theorem KV.put(r:KV a vs)(k:κ)(b:aO y u):KV (cQ a k y) (stored vs k u):=by
 unfold cQ stored;rw[r.any k];by_cases e:(vs.any λc=>decide (c.1=k))=true
 .rw[if_pos e,if_pos e];exact r.repl k b
 .rw[if_neg e,if_neg e];exact Paired.snoc r %[rfl|b]
theorem KV.keys{a:List (κ×V)}{vs:List (κ×Value)}(r:KV a vs):a.map (·.1)=vs.map (·.1):=by
 induction r with
 | nil=>rfl
 | cons h t b=>simp_all
theorem KV.length{a:List (κ×V)}{vs:List _}(r:KV a vs):a.length=vs.length:=Paired.length r
end
theorem lX{P:Program}(r:aO (kV k) u):(aN P w).is k u=true:=by
 cases k with
 | inl i=>have%[t|e]:=(r);subst e;exact sY P w i t
 | inr x=>have%[t|e]:=(r);subst e;exact sZ P w x t
theorem qe{P:Program}:∀{ks:List Key} {us:ZG},aE (ks.map kV) us->ItemsAre (aN P w) ks us
 |[],_,r=>by cases r;exact .nil
 | k::ks,_,r=>by
   cases r with
   | cons h t=>exact .cons (lX h) (qe t)
noncomputable abbrev KT(H:Hp):List (List Key×V)->List (List Key×Addr×Value)->Prop:=Paired λp q=>p.1=q.1/\H q.2.1=some (.tup (p.1.map kV))/\aO p.2 q.2.2
theorem KT.val{a:List (List Key×V)}{xs:List (List Key×Addr×Value)}(r:KT H a xs)(k:List Key):gc (bG a k) ((atKey xs k).map (·.2)):=by
 induction r with
 | nil=>exact True.intro
 | @cons p q ps qs h t f=>
   have%[d,_|g]:=h;by_cases e:p.1=k
   .have c:=d.symm.trans e;have b:atKey (q::qs) k=some q.2:=by simp[atKey,c]
    rw[fh e,b];exact g
   .have c: ¬ q.1=k:=λz=>e (d.trans z)
    have b:atKey (q::qs) k=atKey qs k:=by simp[atKey,c]
    rw[dq e,b];exact f
theorem KT.repl(r:KT H b xs)(k:List Key)(f:aO y u):
 KT H (b.map λc=>if c.1=k then(c.1,y)else c) (xs.map (putAt k u)):=by
 induction r with
 | nil=>exact .nil
 | @cons p q ps qs h t g=>
   rw[Yk,Yk];refine .cons ?_ g;have%[a,d|i]:=h;unfold putAt;by_cases e:p.1=k
   .rw[if_pos e,if_pos (a.symm.trans e)];exact%[a,d|f]
   .rw[if_neg e,if_neg (λz=>e (a.trans z))];exact%[a,d|i]
theorem KT.put(r:KT H a xs)(k:List Key)(d:H b=some (.tup (k.map kV)))(c:aO y u):
 KT H (cQ a k y) (storedH xs k b u):=by
 have e:(a.any λf=>decide (f.1=k))=(atKey xs k).isSome:=by
  rw[iP,(r.val k).isSome_eq,isSome_map]
 unfold cQ storedH;rw[e];by_cases q:(atKey xs k).isSome=true
 .rw[if_pos q,if_pos q];exact r.repl k c
 .rw[if_neg q,if_neg q];exact Paired.snoc r %[rfl,d|c]
theorem KT.keeps(r:KT H a xs)(c:∀b ys,H b=some (.tup ys)->d b=some (.tup ys)):KT d a xs:=
 Paired.mapP r λ_ _ z=>%[z.1,c _ _ z.2.1|z.2.2]
section
variable{P:Program}{w:World}{H:Hp}{h:Heap}{a:Addr}
theorem Em(ok:HOk P w H h)(e:Rd H a u):bN P w H h a u:=e.ok ok
theorem m4(ok:HOk P w H h)(e:Rd H a (.dK b)):b.length<=sizeLine/\(a==sysModules)=false/\∃vs,KV b vs/\h.DictOf (aN P w) a vs:=
 Em ok e
theorem j8(ok:HOk P w H h)(e:H a=some (.dK b)):b.length<=sizeLine/\(a==sysModules)=false/\∃vs,KV b vs/\h.DictOf (aN P w) a vs:=m4 ok (.inl e)
theorem m7(ok:HOk P w H h)(e:H a=some (.tup (ks.map kV))):(tupleKind (aN P w)).is h ks a:=by
 have%[_,its,r,o,b,c,n|d]:=(ok a _ e)
 exact%[o,its.toArray,n,b,c,d|qe r]
theorem qf(ok:HOk P w H h)(e:Rd H a (.dT b)):b.length<=sizeLine/\(a==sysModules)=false/\
 ∃xs,KT H b xs/\h.DictOfH (tupleKind (aN P w)) a xs:=by
 have%[z,y,xs,r,o,d,f,g,i,j,n|s]:=(Em ok e)
 refine%[z,y,xs,r,o,d,f,g,i,j,n,λx c=>?_|s];have all:∀{l:List _} {m:List _},KT H l m->∀x∈m,(tupleKind (aN P w)).is h x.1 x.2.1:=by
  intro l m q
  induction q with
  | nil=>simp
  | @cons p q ps qs v t u=>
    intro x c;rcases mem_cons.mp c with e|c
    .exact m7 ok (by simp_all)
    .exact u x c
 exact all r x c
theorem Hl(ok:HOk P w H h)(e:H a=some (.dT b)):b.length<=sizeLine/\(a==sysModules)=false/\
 ∃xs,KT H b xs/\h.DictOfH (tupleKind (aN P w)) a xs:=qf ok (.inl e)
end
def cD(H:Hp)(a:Addr)(y:V)(r:Option V):Prop:=
 (∃c k,Rd H a (.dK c)/\y=kV k/\r=bG c k)\/∃c k b,Rd H a (.dT c)/\y= .ref b/\H b=some (.tup (k.map kV))/\r=bG c k
def iQ(H:Hp)(a:Addr)(y v:V)(d:Hp):Prop:=
 (∃c k,H a=some (.dK c)/\y=kV k/\c.length<sizeLine/\d=upd H a (.dK (cQ c k v)))\/
 ∃c k b,H a=some (.dT c)/\y= .ref b/\H b=some (.tup (k.map kV))/\c.length<sizeLine/\d=upd H a (.dT (cQ c k v))
theorem cD.k{k:Key}(e:H a=some (.dK b)):cD H a (kV k) (bG b k):= .inl %[b,k,.inl e,rfl|rfl]
theorem iQ.k{k:Key}(e:H a=some (.dK b))(c:b.length<sizeLine):iQ H a (kV k) v (upd H a (.dK (cQ b k v))):= .inl %[b,k,e,rfl,c|rfl]
section
#version
variable{a:Addr}{y v:V}{u r:Value}{o:Option V}{A:Around}{E:ZD}
theorem Inv.big(I:Inv X pins σ H s):sysModules<⇑s:=by
 exact Nat.lt_trans (by decide) ((I.mod.glob.keeps I.bk).lt)
theorem yB(t:A.units+1<cLine)(I:Inv X pins σ H s)(g:cD H a y (some v))(q:aO y u)(h:∀f s',Inv X pins σ H s'->aO v f->Q f s'):
 wpAny (model X.prog X.w) A (getItem (.ref a) u) Q E s:=by
 rcases g with⟨i,k,e,j,l⟩|⟨i,k,b,e,j,w,l⟩
 .subst j;have%[z,B,vs,c|m]:=m4 I.hok e;have%[f,hw|d]:=gc.some_of (l▸c.val k);exact wpAny_getItem_of (lX q) m.mapOf hw (h f _ (I.tok _) d)
 .subst j;cases(q);have%[z,B,xs,c|m]:=qf I.hok e;have%[f,hw|d]:=gc.some_of (l▸c.val k);have%[p,C|n]:=map_eq_some_iff.mp hw;refine wpAny_getItem_heap (tupleKind_room_in1 t) (m7 I.hok w) m C ?_;rw[n];exact h f _ (I.tok _) d
theorem d_in(n:A.units+1<cLine)(I:Inv X pins σ H s)(g:cD H a y o)(m:aO y u)(h:∀s',Inv X pins σ H s'->Q (.bool o.isSome) s'):
 wpAny (model X.prog X.w) A (compareOp .In u (.ref a)) Q E s:=by
 rcases g with⟨d,k,e,f,l⟩|⟨d,k,b,e,f,p,l⟩
 .subst f;have%[z,i,vs,c|j]:=m4 I.hok e;refine wpAny_in_of (lX m) i j.mapOf ?_;rw[<-(c.val k).isSome_eq,<-l];exact h _ (I.tok _)
 .subst f;cases(m);have%[z,i,xs,c|j]:=qf I.hok e;refine wpAny_in_heap (tupleKind_room_in1 n) (m7 I.hok p) i j ?_;have q:=(c.val k).isSome_eq;rw[isSome_map]at q;rw[<-q,<-l];exact h _ (I.tok _)
theorem C4(n:A.units+1<cLine)(I:Inv X pins σ H s)(g:cD H a y o)(m:aO y u)(h:∀s',Inv X pins σ H s'->Q (.bool (!o.isSome)) s'):
 wpAny (model X.prog X.w) A (compareOp .NotIn u (.ref a)) Q E s:=by
 rcases g with⟨d,k,e,f,l⟩|⟨d,k,b,e,f,p,l⟩
 .subst f;have%[z,i,vs,c|j]:=m4 I.hok e;refine wpAny_notIn_of (lX m) i j.mapOf ?_;rw[<-(c.val k).isSome_eq,<-l];exact h _ (I.tok _)
 .subst f;cases(m);have%[z,i,xs,c|j]:=qf I.hok e;refine wpAny_notIn_heap (tupleKind_room_in1 n) (m7 I.hok p) i j ?_;have q:=(c.val k).isSome_eq;rw[isSome_map]at q;rw[<-q,<-l];exact h _ (I.tok _)
theorem mO(I:Inv X pins σ H s)(d:Mut (H a))(e:SameBut a s.heap h')(f:∃q,h'.get? a=some q)(new:bN X.prog X.w (upd H a c) h' a c):
 Inv X pins σ (upd H a c) {s with heap:=h',toks:=t'}:=
 I.write d (.inl rfl) (λb q g z=>(e.2 b g).trans z) f new
theorem vC{P:Program}(z:b.length<=sizeLine)(d:(a==sysModules)=false)(c:KV b vs)(e:h'.DictOf (aN P w) a vs):
 bN P w f h' a (.dK b):=%[z,d,vs,c|e]
theorem yC(M:A.units+1<cLine)(I:Inv X pins σ H s)(g:iQ H a y v N)(C:aO y u)(G:aO v r)(h:∀s',Inv X pins σ N s'->Q () s'):
 wpAny (model X.prog X.w) A (setItem (.ref a) u r) Q E s:=by
 rcases g with⟨d,k,e,m,l,n⟩|⟨d,k,b,e,m,J,l,n⟩
 .subst m n;have%[z,p,vs,f|t]:=j8 I.hok e;have O:vs.length<=sizeLine:=f.length▸z;have w:(cQ d k v).length<=sizeLine:=by have:=fR d k v;lia
  exact wpAny_setItem_pairs (lX C) t λh' i B=>h _ (mO I (e▸True.intro) B (let⟨q,_,_,j,_⟩:=i;%[q|j]) (vC w p (f.put k G) i))
 .subst m n;cases(C);have%[z,p,xs,f|t]:=Hl I.hok e;have O:xs.length<=sizeLine:=(Paired.length f)▸z;have w:(cQ d k v).length<=sizeLine:=by have:=fR d k v;lia
  refine wpAny_setItem_heap (tupleKind_room_in1 M) (m7 I.hok J) t λh' i B=>h _ ?_
  have%[q,T,U,j,Y,h3,h4,_|h5]:=i;refine mO I (e▸True.intro) B %[q|j] %[w,p,_,(f.put k J G).keeps λc ys L=>?_,q,T,U,j,Y,h3,h4|h5];rw[ak (mW L e (λz=>nomatch z))];exact L
end
section
#version
variable{a:Addr}{kvs:List (Key×V)}{k:Key}{u:Value}{A:Around}{E:ZD}
end
def FE(i:Expr):Prop:=∀a b,subscripted i false a b=operate [a,b] (getItem a b)
theorem C5{T id:String}
 (l:typeLookup (.type T) "__getitem__"=pure (some (.builtin id))) (m:FE a)
 (h:↥A (eval c env) (λo e=>↥A (eval a env) (λi b=>b.TypeIs o T/\↥A (getItem o i) Q E b) E e) E s):
 ↥A (eval (.Subscript c a pos) env) Q E s:=by
 refine Subscript_ (wpAny_mono h (λo e g=>wpAny_mono g (λi b d=>?_) λ_ _ x=>x) λ_ _ x=>x);have%[n|d]:=d;refine Z2 (Z2 (wpAny_specialOf n l ?_));have fin:↥A (subscripted a false o i) (λr f=>↥A (letTemporaryGo c o r>>= λ_=>pure r) Q E f) E b:=by
  rw[m o i];exact wpAny_operating (wpAny_mono d (λr f j=>Z2 (wpAny_letTemporaryGo (Z3 j))) λ_ _ x=>x)
 first
  | exact Z3 (Z2 fin)
  | lia
  | lia
theorem lY{X:Cx}(I:Inv X pins f H s)(g:cD H a y o):s.TypeIs (.ref a) "dict":=by
 rcases g with⟨c,k,e,_,_⟩|⟨c,k,b,e,_,_,_⟩
 .have%[_,_,vs,_|d]:=m4 I.hok e;exact d.typeIs
 .have%[_,_,xs,_|d]:=qf I.hok e;exact d.typeIs
theorem tz{X:Cx}(I:Inv X pins i H s)(g:cD H a y o):
 ∀b,Value.ref a= .ref b->∃c,s.heap.get? b=some c/\c.dict=none:=λb q=>by
 cases q;rcases g with⟨d,k,e,_,_⟩|⟨d,k,b,e,_,_,_⟩
 .have%[_,_,vs,_,c,_,_,f,h|_]:=m4 I.hok e;exact%[c,f|h.2.1]
 .have%[_,_,xs,_,c,_,_,f,h|_]:=qf I.hok e;exact%[c,f|h.2.1]
def AM(d ty:TE):TE:=λb H Q=>d b H λx e=>ty b e λy c=>∃a v,x= .ref a/\cD c a y (some v)/\Q v c
def FF(ty d:TE):TE:=λb H Q=>ty b H λy e=>d b e λx c=>∃a o,x= .ref a/\cD c a y o/\Q (.bl o.isSome) c
def rD(ty d:TE):TE:=λb H Q=>ty b H λy e=>d b e λx c=>∃a o,x= .ref a/\cD c a y o/\Q (.bl (!o.isSome)) c
def m8(d ty e:TE):TS:=λD b H=>e b H λv f=>d b f λx g=>ty b g λy h=>∃a c,x= .ref a/\iQ h a y v c/\D.nx b c
section
variable{X:Cx}{o i e value:Expr}{pos pos' tpos:Pos}{td ty tv:TE}
theorem C6(f:X.A.units+1<cLine)(j:PE X o td)(hi:PE X i ty)(l:FE i):PE X (.Subscript o i pos) (AM td ty):=by
 intro pins s c H Q I h;refine C5 PySem.F.slot_dict_getitem.lookup l (thP (j pins s c H _ I h) λu m x n p q r=>thP (hi pins m c n _ p r) λB C y t d w ⟨a,v,ex,g,z⟩=>?_);subst ex;obtain rfl:u=Value.ref a:=q;exact%[lY d g|yB f d g w λE G A b=>%[v,t,A,b|z]]
theorem FG(c:X.A.units+1<cLine)(hi:PE X i ty)(d:PE X o td):PC X .In i o (FF ty td):=by
 intro pins s b H Q I h;refine thP (hi pins s b H _ I h) λz f y j l m n=>thP (d pins f b j _ l n) λu A x p q r ⟨a,t,ex,g,v⟩=>?_
 subst ex;obtain rfl:u=Value.ref a:=r;exact d_in c q g m λB w=>%[.bl t.isSome,p,w,rfl|v]
theorem yD(c:X.A.units+1<cLine)(hi:PE X i ty)(d:PE X o td):PC X .NotIn i o (rD ty td):=by
 intro pins s b H Q I h;refine thP (hi pins s b H _ I h) λw f y j l m n=>thP (d pins f b j _ l n) λu z x p q r ⟨a,A,ex,g,t⟩=>?_
 subst ex;obtain rfl:u=Value.ref a:=r;exact C4 c q g m λB v=>%[.bl _,p,v,rfl|t]
theorem C7(c:X.A.units+1<cLine)(d:PE X o td)(hi:PE X i ty)(f:PE X value tv)(j:swapsWith value (some (.Subscript o i pos')) pos.line X.env=pure false):
 PS X (.Assign [.Subscript o i pos'] value pos) (m8 td ty tv):=by
 intro pins s b H D I h;refine wpAny_Assign_Subscript (thP (f pins s b H _ I h) λr l v m n p q=>thP (d pins l b m _ n q) λu t x w z A B=>thP (hi pins t b w _ z B) λM N y O C E ⟨a,G,ex,g,J⟩=>?_) j;subst ex;obtain rfl:u=Value.ref a:=A;exact yC c C g E p λQ L=>%[b,G,L|J]
end
theorem AN{P:Program}(h:Heap)(a:sysModules<h.objs.size):bN P w H (h.push {cls:= .type "dict",data:= .dict #[]}) h.objs.size (.dK []):=
 %[X2 _,beq_eq_false_iff_ne.mpr (Ne.symm (Zr a)),[],.nil|Heap.DictOf.new h]
def vD:TE:=λ_ H Q=>∀p,H p=none->Q (.ref p) (upd H p (.dK []))
section
variable{X:Cx}{pos:Pos}
theorem AO:PE X (.Dict [] [] pos) vD:=λpins s a H Q I h=>
 wpAny_Dict_empty %[.ref ⇑s,_,I.laid (λ_ _ q=>Z6 _ q) (Zh _) (AN s.heap I.big),rfl|h _ (I.hok.fresh (Zh _))]
end
noncomputable def kY(a more:List (Key×V)):List (Key×V):=more.foldl (λacc b=>cQ acc b.1 b.2) a
theorem KV.merge:∀{more:List _} {rs:List _} {a:List _} {vs:List _},KV more rs->KV a vs->KV (kY a more) (merged vs rs):=by
 intro more rs a vs r
 induction r generalizing a vs with
 | nil=>intro q;exact q
 | @cons p q ps qs h t b=>
   intro c;have e:KV (cQ a p.1 p.2) (stored vs q.1 q.2):=by
    have:=c.put p.1 h.2;exact h.1▸this
   exact b e
theorem jC:∀more a,(kY a more).length<=a.length+more.length
 |[],a=>by show a.length<=a.length+0;lia
 | p::r,a=>by
   have b:=jC r (cQ a p.1 p.2);have c:=fR a p.1 p.2;show(kY _ r).length<=_
   grind
structure M1 (X:Cx) (o:Expr) (m:Str) (apos:Pos) (e:Expr) (cpos:Pos):Prop where
 base:attributeBase o m X.env (eval o X.env)=eval o X.env
 few:((backTo cpos (starEach [e] X.env)).all (λx=>!x.1)&&(backToKw cpos (keywordEach [] X.env)).all (λx=>x.1.isSome)
  && decide (([e]).length+([]:List Keyword).length+(if([]:List Keyword).isEmpty then 0 else 1)<30))=true
 line:(apos.endLine==cpos.line)=true
 trees:backTo cpos (starEach [e] X.env)=[(false,eval e X.env)]
structure M2 (X:Cx) (o:Expr) (m:Str) (apos:Pos) (e f:Expr) (cpos:Pos):Prop where
 base:attributeBase o m X.env (eval o X.env)=eval o X.env
 few:((backTo cpos (starEach [e,f] X.env)).all (λx=>!x.1)&&(backToKw cpos (keywordEach [] X.env)).all (λx=>x.1.isSome)
  && decide (([e,f]).length+([]:List Keyword).length+(if([]:List Keyword).isEmpty then 0 else 1)<30))=true
 line:(apos.endLine==cpos.line)=true
 trees:backTo cpos (starEach [e,f] X.env)=[(false,eval e X.env),(false,eval f X.env)]
section
#version
variable{a:Addr}{y d:V}{u r:Value}{o:Option V}{A:Around}{E:ZD}
end
section
variable{X:Cx}{o e f:Expr}{apos cpos:Pos}{td ty tx:TE}
end
section
#version
variable{a:Addr}{kvs:List (Key×V)}{A:Around}{E:ZD}
end
section
#version
variable{a:Addr}{y:V}{u:Value}{A:Around}{E:ZD}
end
end L2
namespace Att
open PySem PySem.W PySem.Calls PyProof.Rows
theorem mC{P:Params}:∀(c:ZL) (vs:ZG),WellAll P h vs (c.map WData.int)->IntsAre vs c:=by
 intro c
 induction c with
 | nil=>
   intro vs w;cases w;exact .nil
 | cons n c d=>
   intro vs w;cases w with
   | cons a b=>
     cases a;exact .cons _ _ (d _ b)
theorem yE{l:OpenLaw}(o:l.most=some n){P:Params}
 (b:l.row.toRowW.claim.pre args=true) (j:WellAll P h e args):
 ∃a vs c,e=[Value.ref a]/\args=[WData.list (c.map WData.int)]/\h.get? a=some {cls:= .type "list",data:= .seq vs.toArray}/\IntsAre vs c/\c.length<=n:=by
 have m:l.pre.holds [] _=true:=(pre_splitW b).2;have%[d,r,rfl,p|q]:=hasAllW_cons ((pre_splitW b).1);obtain rfl:=hasAllW_nil q;have%[xs,rfl|s]:=hasW_list p;have%[c|rfl]:=items_int s;have f:c.length<=n:=by
  unfold OpenLaw.pre at m;have i:=by
   have i:=(holds_andW m).1;rw[o]at i;exact i
  have w:=condW_of i (w_not (w_lt w_lit (w_len_list (w_arg rfl))))
  grind
 cases j with
 | cons t u=>
   cases u;cases t with
   | list v g=>exact%[_,_,c,rfl,rfl,v,mC c _ g|f]
theorem yF(l:OpenLaw)(args:List WData):l.row.toRowW.claim.post args (.bool true) args=true:=
 postW_of
  (by first|rfl|simp|lia)
  (w_eq_bool (w_res rfl) w_lit) rfl
theorem attach_call{l:OpenLaw}{n:Nat}{q:Program}
 (H:l.most=some n) (t:d.params.defaults=[])
 (call:∀(w:World) (s₀ b:Shared) (mg u:ZC) (h:Addr) (o:Obj) (v p c:Value) (a:Addr) (vs:ZG) (s:ZL),
  Ground q e [] I w s₀ mg u b.heap->J w b.heap->
  b.heap.get? h=some o->o.data= .func (docDef d.name d.params d.body d.scope v p c)->b.heap.CodeRec p d.name->mg d.name=some (.ref h)->
  b.heap.get? a=some {cls:= .type "list",data:= .seq vs.toArray}->IntsAre vs s->s.length<=n->b.gens= #[]->
  codeAny (model l.prog w) callerA (.call (.ref h) %[[.ref a]|[]]) (λr s'=>r= .ok (.ret (.bool true))/\OldK b.heap s'.heap/\s'.os=b.os/\AllBare s'.gens) b):
 WalkO q e I J l.row.toRowW d [] (λf vs=>PySem.call f vs):=by
 intro w s₀ b mg u G Y h o v p c L kV M N y B z O args C as i E Q A T;obtain rfl:L= .none:=Dflts.none B t;obtain rfl:kV= .none:=Dflts.noKw B;have%[a,vs,s,rfl,rfl,j,g|m]:=yE H i A;refine enter_call (codeAny_mono (call w s₀ b mg u h o v p c a vs s G Y M (fd_plain N) y z j g m O) λr s' U=>?_);have%[rfl,h2,h3|h4]:=U;exact%[.inl %[.bool true,.bool true,[],rfl,λ_=>rfl,.bool true,yF l _|λ_=>%[List.Pairwise.nil|λ_ hm=>(nomatch hm)]],h2,h3|h4]
section
#where
variable{K:Frag}
end
end Att
namespace L2
open PySem PySem.Spec PyProof.Rows
theorem qg:∀{vs:ZG} {a:ZL},IntsAre vs a->aE (a.map V.int) vs
 | _,_,.nil=> .nil
 | _,_,.cons n t h=> .cons %[t|rfl] (qg h)
def C8(H:Hp):Prop:=∀b,H b=none\/∃o xs,H b=some (.frz o (.lst xs))
theorem law_call{P:Program}{K:ZA}{mg I:ZC}{vs:ZG}
 (U:K.In c.heap) (p:c.heap.Ns mainGlobals mg) (g:c.heap.Ns builtinsNs I) (J:∀x:Str,x≠"__name__"->I x=bootBuiltins x) (t:c.heap.NoLimit) (hg:c.gens= #[])
 (L:c.heap.get? a=some {cls:= .type "list",data:= .seq vs.toArray}) (hi:IntsAre vs M) (Y:M.length<=sizeLine) (hr:bF k callerA)
 (F:∀base:Heap,K.In base->base.Ns mainGlobals mg->dj P w K mg base CX k fa fd [x] sp) (l:∀(s:Shared) (u:Value),BindsTo s fd %[[u]|[]] [(x,u)])
 (N:∀H:Hp,C8 H->SqL K H a (M.map V.int)->sp [.ref a] H (λv _=>v= .bl true) λ_ _ _=>False)
 (O:∀H e s',CX [] H c (λ_ _ _=>False) e s'->False):
 codeAny (model P w) callerA (.call (.ref fa) %[[.ref a]|[]]) (λr s'=>r= .ok (.ret (.bool true))/\OldK c.heap s'.heap/\s'.os=c.os/\AllBare s'.gens) c:=by
 have rv:=qg hi;have j:∀H,C8 H->SqL K H a (M.map V.int)->HOk P w H c.heap->(∀b,H b≠none->b=a)->(H a≠none->K.lookup a=none)->
  codeAny (model P w) callerA (.call (.ref fa) %[[.ref a]|[]]) (λr s'=>r= .ok (.ret (.bool true))/\OldK c.heap s'.heap/\s'.os=c.os/\AllBare s'.gens) c:=by
  intro H hO hS y hA hK;have f:∀{b:Addr} {o:Obj},c.heap.get? b=some o->H b=none->(yf c.heap H).get? b=some o:=λe n=>z0 e n
  have Q:∀{b:Addr} {o:Obj} {E:Array DictEntry} {G:Nat},c.heap.get? b=some o->o.data= .dict E G->H b=none:=λ{b o E G} e d=>by
   grind
  have i:∀{b:Addr} {m:ZC},c.heap.Ns b m->(yf c.heap H).Ns b m:=λ{b m} ⟨o,E,G,e,d,r⟩=>%[o,E,G,f e (Q e d),d|r]
  have A:=λb o e=>f (U b o e) (by
   grind)
  refine codeAny_mono ((F _ A (i p)).run callerA [] c H _ _ [.ref a] _ _ hr %[rfl,%[A,i p,%[I,i g|J]|let⟨mc,h1,h2⟩:=t;%[mc,i h1|h2]],λb o e=>Cw e,Nat.le_of_eq (yg _ _),trivial,λb g=>absurd (show b∈([])from g) ∅,y|.of_eq hg] (l c _) (.cons rfl .nil) (N H hO hS)) λr s' h=>?_
  cases r with
  | error e=>exact(O H e s' h).elim
  | ok fl=>
    cases fl with
    | next=>exact False.elim h
    | brk=>exact False.elim h
    | cont=>exact False.elim h
    | ret u=>
      have%[v,H',os,B,un,C,r'|q]:=h;subst q;obtain rfl:u=Value.bool true:=r';refine%[rfl,OldK.of_keep λb o e=>?_,os|B];cases q:H b with
      | none=>exact un.keep b o e q (by intro z;exact absurd (show b∈([])from z) ∅) ∅
      | some u=>
        rcases hO b with z|⟨ob,xs,z⟩
        .rw[q]at z;cases z
        .have%[e1|_]:=y b _ z;have%[e2|_]:=C b _ (un.frzs b ob _ z);rw[e]at e1;cases e1;exact e2
 cases T:K.lookup a with
 | some o=>
   have e:=U a o T;rw[L]at e;cases e;refine j _ (λ_=> .inl rfl) (.inr %[_,vs.toArray,_,T,rfl,rfl,rfl,by rw[Zo,hi.length];exact Y|rv]) (λb u z=>by simp_all) (λb z=>absurd rfl z) λz=>absurd rfl z
 | none=>
   refine j (λb=>if b=a then some (.frz {cls:= .type "list",data:= .seq vs.toArray} _)else none) (λb=>?_) (.inl (.inr %[{cls:= .type _,data:= .seq vs.toArray}|if_pos rfl])) (λb u z=>?_) (λb z=>?_) λ_=>T
   .by_cases g:b=a
    .exact .inr %[_,_|if_pos g]
    .exact .inl (if_neg g)
   .by_cases g:b=a
    .have z':=(if_pos g).symm.trans z;cases z';subst g;exact%[L,by rw[Z5];exact Y,vs,_,rv|L]
    simp_all
   .by_cases g:b=a
    .exact g
    .exact absurd (if_neg g) z
theorem walk_of{l:PySem.W.OpenLaw}{I:(Str->Option Value)->Heap->Prop}{C:World->Heap->Prop}{d:DefRec}{K:Params->ZA}{CX:World->CXT}{sp:World->Sp}{x:Str}
 (J:l.most=some n) (p:n<=sizeLine) (r:d.params.defaults=[]) (L:bF k callerA)
 (M:∀(w:World) (h:Heap),C w h->(K w.params).In h)
 (F:∀(w:World) (mg:ZC) (j:Addr) (h:Heap),(K w.params).In h->h.Ns mainGlobals mg->mg d.name=some (.ref j)->
  ∃t:FuncData,(∀(s:Shared) (u:Value),BindsTo s t %[[u]|[]] [(x,u)])/\
   ∀base:Heap,(K w.params).In base->base.Ns mainGlobals mg->dj l.prog w (K w.params) mg base (CX w) k j t [x] (sp w))
 (y:∀(w:World) (H:Hp) (a:Addr) (m:ZL),m.length<=n->C8 H->SqL (K w.params) H a (m.map V.int)->sp w [.ref a] H (λv _=>v= .bl true) λ_ _ _=>False)
 (z:∀(w:World) (H:Hp) (s:Shared) (e:Value) (s':Shared),CX w [] H s (λ_ _ _=>False) e s'->False):
 PySem.W.WalkO q A I C l.row.toRowW d [] (λf vs=>PySem.call f vs):=by
 refine Att.attach_call J r λw s₀ g mg mb j o pm cd N a vs m G Y ho hd O B i c b Q=>?_
 have E:=M w _ Y;have%[t,T|U]:=F w mg j _ E G.T.g B;exact law_call E G.T.g G.T.b G.T.builtins G.T.nolimit Q i c (Ya b p) L U T (λH hO hS=>y w H a m b hO hS) λH e s'=>z w H g e s'
noncomputable def jj(s:Stmt)(j:Nat):Stmt:=match s with
 | .ClassDef _ _ _ a _ _ _ _ _ _ _=>a.getD j (.Pass %[0,0,0|0])
 | _=> .Pass %[0,0,0|0]
noncomputable def bZ(s:Stmt):Arguments:=match s with
 | .FunctionDef _ a _ _ _ _ _ _ _ _=>a
 | _=>{posonlyargs:=[],args:=[],vararg:=none,kwonlyargs:=[],kw_defaults:=[],kwarg:=none,defaults:=[]}
noncomputable def bi(s:Stmt):List Stmt:=match s with
 | .FunctionDef _ _ b _ _ _ _ _ _ _=>b
 | _=>[]
noncomputable def ah(s:Stmt):Scope:=match s with
 | .FunctionDef _ _ _ _ _ _ a _ _ _=>a
 | _=>{kind:= .function,names:=[],isGenerator:=false,isCoroutine:=false}
noncomputable abbrev CX0:CXT:=λ_ _ _ _ _ _=>False
noncomputable abbrev E0:XK:=λ_ _ _=>False
theorem AQ{X:Cx}:gZ CX0 X E0:=λ_ _ _ _ _ _ _ h=>h.elim
structure Fun (K:ZA) (x qual:Str) (st:Stmt) (f:Addr) (fd:FuncData):Prop where
 ex:∃oc od kV doc pm an cdv ct osl,
  fd=fnOf x qual (bZ st) (bi st) (ah st) .none kV doc pm an cdv ct/\K.lookup f=some %[oc,od,.func fd|osl]/\codeIn K cdv qual=true
 kp:keepIn K (.ref f)=true
section
variable{P:Program}{w:World}{K:ZA}{mg:ZC}{base:Heap}
theorem Fun.ok{x a:Str}{st:Stmt}{f:Addr}{g:FuncData}{N ps:ZB}{k:Nat}{sp:Sp}(F:Fun K x a st f g)(S:au N ps (ah st))(len:∀vs H Q E,sp vs H Q E->vs.length=ps.length)
 (c:∀b (A:Around) (outer:List Env) s H (vs:List V) Q E,bF k (A.deeper (envOfC a (ah st) ⇑s f b))->sp vs H Q E->
  ∃t,PSs (e9 CX0 P w K mg base N a (ah st) f b A outer s H E).nox (bi st) t/\t {nx:=λ_ i=>Q .non i,rt:=Q} (start N vs) H):dj P w K mg base CX0 (k+1) f g ps sp:=by
 have%[n,od,kV,j,o,p,b,ct,l,rfl,lk|d]:=F.ex;refine El lk d S len λA outer s H vs Q E m e=>?_
 have%[t,h|q]:=c b A outer s H vs Q E m e;exact%[t,h.nox|q]
theorem Fun.binds{st:Stmt}(F:Fun K x c st f g)
 (h:∀(kV a d:Value) (e:ZI) (b ct:Value) (us:ZG),us.length=ps.length->bindArgs (fnOf x c (bZ st) (bi st) (ah st) .none kV a d e b ct) %[us|[]]=pure (ps.zip us)):dm K g ps []:=by
 have%[l,od,kV,a,d,e,b,ct,i,rfl,lk|j]:=F.ex;exact .all (h kV a d e b ct)
theorem dL{st:Stmt}{kV d e b ct:Value}(l:K.lookup f=some %[i,od,.func (fnOf x a (bZ st) (bi st) (ah st) .none kV d e h b ct)|g])
 (c:codeIn K b a=true) (k:keepIn K (.ref f)=true):Fun K x a st f (fnOf x a (bZ st) (bi st) (ah st) .none kV d e h b ct):=%[%[i,od,kV,d,e,h,b,ct,g,rfl,l|c]|k]
end
section
variable{X:Cx}
theorem pv(i:Nat)(b:X.N[i]? =some x)(c:Vis X.env.scope x)(d:(x==("__debug__":Str))=false)
 (a:(x==("__classdict__":Str))=false):PE X (.Name x pos) (pd i):=z4 b c d a
end
theorem tD{A B:Prop}(h:B):if false=true then A else B:=by
 simp_all
theorem bj{c A B:Prop}[Decidable c](a:c->A)(b: ¬ c->B):if c then A else B:=by
 simp_all
def af(H a:Hp):Prop:=∀b o,H b=some o->a b=some o
theorem af.refl(H:Hp):af H H:=λ_ _ h=>h
theorem af.trans{H d e:Hp}(a:af H d)(b:af d e):af H e:=λc o h=>b c o (a c o h)
theorem af.free{H a:Hp}(e:af H a){l:Addr}(h:a l=Option.none):H l=Option.none:=by
 cases q:H l with
 | none=>rfl
 | some o=>
   rw[e l o q]at h;cases h
theorem af.seq{K:ZA}(e:af H b)(h:SqL K H a xs):SqL K b a xs:=by
 rcases h with(h|⟨o,h⟩)|h
 .exact .inl (.inl (e _ _ h))
 .exact .inl (.inr %[o|e _ _ h])
 .exact .inr h
section
variable{X:Cx}
end
section
variable{κ:Type}[DecidableEq κ]
theorem C9{a:List (κ×V)}(h:bG a k=some v):k∈a.map (·.1):=by
 have q:(a.any λb=>decide (b.1=k))=true:=by
  rw[iP,h]
  all_goals rfl
 simp_all
theorem mP:∀{l:List κ} {k:κ},l.Nodup-> ¬ k∈l->(l++[k]).Nodup
 |[],k,_,_=>by simp
 | a::r,k,h,b=>by
   have%[c|d]:=nodup_cons.mp h;refine nodup_cons.mpr %[λm=>?_|mP d λm=>b (mem_cons.mpr (Or.inr m))];rcases X9 m with q|q
   .exact c q
   .exact b (mem_cons.mpr (Or.inl (Xa q).symm))
end
noncomputable def m9(env:Env):List (Str×NameKind)->List (Str×Addr)->List (Str×Addr)
 |[],acc=>acc
 |(n,k)::r,acc=>m9 env r (if k= .free then(n,(env.cells.lookup n).getD 0)::acc else acc)
theorem ng:∀(names:List (Str×NameKind)) (acc:List (Str×Addr)),(∀y∈names,y.2= .free->∃c,env.cells.lookup y.1=some c)->
 (forIn names acc λx r=>match x with
  |(name,kind)=>if(kind==NameKind.free)=true then do let a<-cellOf env name;pure (ForInStep.yield ((name,a)::r))else pure (ForInStep.yield r):Sem (List (Str×Addr)))=pure (m9 env names acc)
 |[],acc,_=>rfl
 |(n,k)::r,acc,h=>by
  have d:=λacc=>ng r acc λy f=>h y (Zj _ f)
  rw[forIn_cons];by_cases b:k= .free
  .subst b;have%[c|e]:=h _ Zl rfl;have g:cellOf env n=pure c:=by unfold cellOf;rw[e]
   simp only[beq_self_eq_true,if_true,g,pure_bind];rw[d];show _=pure (m9 env r _);rw[if_pos rfl,e]
   all_goals rfl
  .have i:(k==NameKind.free)=false:=by simpa using b
   simp only[i,Zx,if_false,pure_bind];rw[d];show _=pure (m9 env r _);rw[if_neg b]
theorem Da(h:∀y∈a.names,y.2= .free->∃c,env.cells.lookup y.1=some c):closureFor a env=pure (m9 env a.names []):=by
 unfold closureFor;simp only[bind_pure];exact(ng a.names [] h)
theorem tE:∀(names:List (Str×NameKind)) (acc:List (Str×Addr)),(∀y∈names,y.2= .free->∃c,env.cells.lookup y.1=some c)->
 (∀y d,acc.lookup y=some d->env.cells.lookup y=some d)->(m9 env names acc).lookup x=some c->env.cells.lookup x=some c
 |[],acc,_,a,e=>a x c e
 |(n,k)::r,acc,h,a,e=>by
  refine tE r _ (λy b=>h y (Zj _ b)) (λy d q=>?_) e;by_cases f:k= .free
  .rw[if_pos f,Yg]at q;have%[g|i]:=h _ Zl f;cases b:y==n with
   | true=>
     simp_all
   | false=>rw[b]at q;exact a y d q
  .rw[if_neg f]at q;exact a y d q
theorem nh:∀(names:List (Str×NameKind)) (acc:List (Str×Addr)),(∃c,acc.lookup x=some c)->∃c,(m9 env names acc).lookup x=some c
 |[],_,h=>h
 |(n,k)::r,acc,h=>by
  refine nh r _ ?_;by_cases a:k= .free
  .rw[if_pos a,Yg];cases b:x==n with
   | true=>exact%[_|rfl]
   | false=>exact h
  .rw[if_neg a];exact h
theorem ni:∀(names:List (Str×NameKind)) (acc:List (Str×Addr)),(x,NameKind.free)∈names->∃c,(m9 env names acc).lookup x=some c
 |[],_,h=>by simp at h
 |(n,k)::r,acc,h=>by
  rcases mem_cons.mp h with e|h
  .refine nh r _ ?_
   simp_all
  .exact ni r _ h
noncomputable def bR(X:Cx)(a:Scope)(d:ZB)(b:Shared)(c:Hp)(e:List Addr):Cx:=
 {X with
  N:=d
  s₀:=b
  H₀:=c
  env:=compEnvC a (cellsFrom (⇑b+1) a.names (m9 X.env a.names [])) ⇑b X.env
  outer:=X.stack
  stack:=X.stack
  ex:=e
  fn:=λx=>decide (a.names.lookup x=some .cell)
  pn:=[]
  xe:=λ_ _=>False}
structure ay (X:Cx) (scope:Scope) (N':ZB) (cap:List (Nat×Nat)):Prop where
 kind:scope.kind= .function
 cell:∀y∈scope.names,y.2= .cell->scope.names.lookup y.1=some .cell
 loc:∀y∈scope.names,y.2= .local->scope.names.lookup y.1=some .local
 free:∀y∈scope.names,y.2= .free->X.env.kindOf y.1=some .cell\/X.env.kindOf y.1=some .free
 capt:∀p∈cap,∃x,N'[p.1]? =some x/\X.N[p.2]? =some x/\scope.names.lookup x=some .free
noncomputable def qh(n:Nat)(a:List (Nat×Nat))(b:St):St:=(List.range n).map λj=>(a.lookup j).bind λi=>(b[i]?).join
theorem lZ:∀{l:List _} {j i:Nat},l.lookup j=some i->(j,i)∈l
 |[],_,_,h=>by simp at h
 |(a,b)::r,j,i,h=>by
  rw[Yg]at h;cases c:j==a with
  | true=>
    simp_all
  | false=>rw[c]at h;exact Zj _ (lZ h)
theorem l7{env:Env}{names:List (Str×NameKind)}{x:Str}{k:NameKind}(h:(names.map λ(n,k)=>if(k==NameKind.free&&env.scope.kind== .function&&env.kindOf n==some .cell)then(n,NameKind.cell)else(n,k)).lookup x=some k)
 (a:k= .cell\/k= .free):(x,NameKind.free)∈names\/(x,NameKind.cell)∈names:=by
 have m:=PySem.mem_of_lookup h
 grind
theorem eX:∀names n acc,cellsFrom n names acc=cellsFrom n names [] ++acc
 |[],_,_=>rfl
 |(x,k)::r,n,acc=>by
  unfold cellsFrom
  split
  .rw[eX r _ _,eX r _ [(x,n)],Zd];rfl
  .exact eX r n acc
theorem kZ:∀{names:List (Str×NameKind)} {n:Nat},(x,c)∈cellsFrom n names []->(x,NameKind.cell)∈names
 |[],_,h=>nomatch h
 |(y,k)::r,n,h=>by
  unfold cellsFrom at h
  split at h
  .rw[eX]at h;rcases X9 h with q|q
   .exact Zj _ (kZ q)
   grind
  .exact Zj _ (kZ h)
theorem l8(h:(cellsFrom n names acc).lookup x=some c):(x,c)∈cellsFrom n names []\/((cellsFrom n names []).lookup x=none/\acc.lookup x=some c):=by
 rw[eX,List.lookup_append]at h;cases e:(cellsFrom n names []).lookup x with
 | none=>rw[e]at h;exact .inr %[rfl|h]
 | some d=>
   rw[e]at h;have:=by simpa using h
   exact this▸ .inl (PySem.mem_of_lookup e)
theorem j9{env:Env}:∀{names:List (Str×NameKind)} {x:Str},names.lookup x=some .free->
 (names.map λ(n,k)=>if(k==NameKind.free&&env.scope.kind== .function&&env.kindOf n==some .cell)then(n,NameKind.cell)else(n,k)).lookup x=some .cell\/
 (names.map λ(n,k)=>if(k==NameKind.free&&env.scope.kind== .function&&env.kindOf n==some .cell)then(n,NameKind.cell)else(n,k)).lookup x=some .free
 |[],_,h=>by simp at h
 |(n,k)::r,x,h=>by
  have c:= @j9 env r x;simp only[Yk];cases a:x==n with
  | true=>
    rw[Yg,a]at h;have d:=Z9 h;subst d;by_cases b:((NameKind.free==NameKind.free)&&env.scope.kind== .function&&env.kindOf n==some .cell)=true
    .rw[if_pos b,Yg,a];exact .inl rfl
    .rw[if_neg b,Yg,a];exact .inr rfl
  | false=>
    rw[Yg,a]at h;by_cases b:(k==NameKind.free&&env.scope.kind== .function&&env.kindOf n==some .cell)=true
    .rw[if_pos b,Yg,a];exact(c h)
    .rw[if_neg b,Yg,a];exact(c h)
section
#version
theorem Inv.kindL(I:Inv X pins σ H s)(h:X.env.kindOf x=some .cell\/X.env.kindOf x=some .free):∃c,X.env.cells.lookup x=some c:=I.ok.has x h
theorem Inv.block{a:Scope}{C:ZB}{fp:List Addr}{f:Heap}{tk:Nat}(S:ay X a C n)(I:Inv X pins σ H s)(O:∀b∈fp,mB X pins H b)(J:∀b∈fp,b<⇑s)
 (hn:f.Ns ⇑s (λ_=>none)) (A:∀b u,s.heap.get? b=some u->f.get? b=some u) (nc:CellsOk f (⇑s+1) (cellsFrom (⇑s+1) a.names [])):
 Inv (bR X a C s H fp) [] (qh C.length n σ) H {s with heap:=f,toks:=tk}:=by
 have h:∀x c,(m9 X.env a.names []).lookup x=some c->X.env.cells.lookup x=some c:=λx c e=>tE a.names [] (λy hy hk=>I.kindL (S.free y hy hk)) (λ_ _ q=>by simp at q) e
 have o:∀x c,(cellsFrom (⇑s+1) a.names (m9 X.env a.names [])).lookup x=some c->((x,c)∈cellsFrom (⇑s+1) a.names []/\f.IsCell c none/\⇑s+1<=c)\/(X.env.cells.lookup x=some c/\c<⇑s):=λx c e=>by
  rcases l8 e with q|⟨_,q⟩
  .exact .inl %[q|nc.empty x c q]
  .have q':=h x c q;have%[v,G,L|_]:=I.cell x c q';exact .inr %[q'|Zt L]
 refine%[%[I.ok.mod,S.kind,I.ok.glob,I.ok.blt,Zh _,λx y c h1 h2=>?_,λx hx=>?_,λx c hq e=>?_,I.ok.hd,I.ok.frames,.inl rfl,λb g=>%[?_|λx c e=>?_],I.bs,
  Ya I.ok.bsz I.sz,λb u e g=>?_,λb g Q=>?_,I.stack|I.stkFree],rfl,I.bare,Un.kept A,%[_,hn|λj x v e1 e2 e3=>?_],λx c e=>?_,I.hok.fresh (Zh _),λx c e=>?_,λp hp=>?_,I.hok.kept A|?_]
 .rcases o x c h1 with⟨q1,_,q2⟩|⟨q1,q2⟩<;> rcases o y c h2 with⟨r1,_,r2⟩|⟨r1,r2⟩
  .exact name_of_addr nc.apart q1 r1
  .exact absurd r2 (Nat.not_lt_of_le (Ya (Y9 _) q2))
  .exact absurd q2 (Nat.not_lt_of_le (Ya (Y9 _) r2))
  .exact I.ok.inj x y c q1 r1
 .have:(x,NameKind.free)∈a.names\/(x,NameKind.cell)∈a.names:=by
   rcases hx with q|q
   .exact l7 q (.inl rfl)
   .exact l7 q (.inr rfl)
  refine isSome_iff_exists.mp (cellsFrom_some a.names _ _ ?_);rcases this with q|q
  .exact .inr (isSome_iff_exists.mpr (ni a.names [] q))
  .exact .inl (S.cell _ q rfl)
 .rcases l8 e with q|⟨q,_⟩
  .have:=(nc.empty x c q).2;show ⇑s<=c
   lia
  .have:=cellsFrom_some a.names (⇑s+1) [] (.inl (Zn hq));rw[q]at this;cases this
 .exact Zr (J b g)
 .rcases o x c e with⟨_,_,q⟩|⟨q,_⟩
  .exact λz=>absurd (J b g) (Nat.not_lt_of_le (Ya (Y9 _) (z▸q)))
  .exact(O b g).2.2.2.2.1 x c q
 .rcases(O b g).2.2.2.1 with z|z
  .exact I.ok.noex b u e z
  .exact absurd (Zf (Zt e) (Ya I.ok.bsz z)) (X6 _)
 .rcases mem_cons.mp (I.stkSub b Q)with z|z
  .exact(O b g).2.1 z
  .exact(O b g).2.2.1 z
 ·
  have hj:∃i,n.lookup j=some i/\σ[i]? =some (some v):=by
   have t:((List.range C.length).map _)[j]? =some _:=e2;rw[Zk]at t;cases hr:(List.range C.length)[j]? with
   | none=>rw[hr]at t;cases t
   | some j'=>
     rw[hr]at t;have ab:j'=j:=by
      have:=X8 hr;have%[h1|h2]:=this;simpa using h2.symm
     subst ab;have B:((n.lookup j').bind _)=some v:=Z9 t;cases T:n.lookup j' with
     | none=>rw[T]at B;cases B
     | some i=>
       rw[T]at B;refine%[i,rfl|?_];have U:(σ[i]?).join=some v:=B;cases Q:σ[i]? with
       | none=>rw[Q]at U;cases U
       | some w=>rw[Q]at U;have:w=some v:=U;rw[this]
  have%[i,T|hi]:=hj;have%[y,n1,n2|Y]:=S.capt _ (lZ T);have ae:=Z9 (n1.symm.trans e1);subst ae;have M:=S.free _ (PySem.mem_of_lookup Y) rfl;have%[m,hm|hl]:=I.loc;have%[u,r|l]:=hl i y v n2 hi (by rcases M with q|q;exact .inr (.inl q);exact .inr (.inr q));refine%[u,r|.inr %[?_|?_]]
  .exact j9 Y
  .rcases l with⟨k,_⟩|⟨_,c,E,hv⟩
   .rcases M with q|q
    .rw[k]at q;cases q
    .rw[k]at q;cases q
   .have%[c'|N]:=ni a.names [] (PySem.mem_of_lookup Y);have:=h y c' N;rw[E]at this;have e5:=Z9 this;subst e5;have%[G,L|hd]:=hv;refine%[c,?_,G,A c G L|hd];show(cellsFrom _ _ _).lookup y=some c;rw[eX,List.lookup_append];cases e6:(cellsFrom _ a.names []).lookup y with
    | none=>simpa using N
    | some d=>
      have:=S.cell _ (kZ (PySem.mem_of_lookup e6)) rfl;rw[Y]at this;cases this
 .rcases o x c e with⟨_,q,_⟩|⟨q,_⟩
  .exact%[none|q]
  .have%[v,G,L|hd]:=I.cell x c q;exact%[v,G,A c G L|hd]
 .rcases o x c e with⟨_,_,q⟩|⟨q,_⟩
  .exact I.hok.fresh ⋯
  .exact I.freeC x c q
 .exact absurd (show p∈([])from hp) ∅
 .show(qh C.length n σ).length=C.length;unfold qh;rw[Z5,Yd]
end
def PTs(X:Cx)(a:List Expr)(t:TT):Prop:=
 ∀pins s (b:St) H Q,Inv X pins b H s->t b H Q->
  (~~~X) (forIn a true λc r=>if r=true then do let ok<-isTrue c X.env (eval c X.env);pure (ForInStep.yield ok)else pure (ForInStep.yield r)) (TP X pins b Q) X.xe s
def yG:TT:=λ_ H Q=>Q true H
theorem Db{X:Cx}:PTs X [] yG:=λ_ _ _ H _ I h=>wpAny_tests_nil %[H,I|h]
theorem Dc{X:Cx}(h:PT X c t):PTs X [c] t:=λpins s a H Q I q=>wpAny_tests_one (h pins s a H Q I q)
def qj(q:TI)(n:Nat)(f:List (Nat×Nat))(g:TG)(r:TT)(s:TE):TE:=λh H Q=>q h H λJ j=>∀D,j D=none->∃W:Nat->Nat->List V->St->Hp->Prop,
 (∃m,W 0 m [] (qh n f h) (upd j D (.lst [])))/\∀i m ys c d,W i m ys c d->(J.stop i d/\Q (.ref D) d)\/
  (J.go i d/\∀x l,J.yld i d x l->g x c l λa t=>r a t λb o=>if b=true then s a o λy p=>∃zs e,p D=some (.lst zs)/\zs.length<sizeLine/\e<m/\W (i+1) e (ys++[y]) a (upd p D (.lst (zs++[y])))
   else∃e,e<m/\W (i+1) e ys a o)
theorem Dd{code:Value}
 (j:∀h',h'.Ns ⇑s (λ_=>none)->(∀b u,s.heap.get? b=some u->h'.get? b=some u)->CellsOk h' (⇑s+1) (cellsFrom (⇑s+1) a.names [])->
  Q (newEnv a ⇑s d (cellsFrom (⇑s+1) a.names f) g h code (some env) c) (s>>>h')):wpAny M A (newFunctionEnv a d f [] g h code (some env) c) Q E s:=by
 refine Z2 (wpAny_alloc (Z2 (wpAny_layCells _ (λname kind i=>by lia) _ _ _ _ ?_)));have ok:=cellsFrom_ok a.names (s.heap.push {cls:= .type "dict",data:= .dict #[]}) (⇑s+1) [] %[λ_ _ l=>(nomatch l)|List.Pairwise.nil] ∅;rw[Zp]at ok;rw[Zp ..];exact Z2 (Z3 (Z3 (j _ ((Heap.Ns.new s.heap _).keeps (pushCells_keeps _ _)) (λb u e=>pushCells_keeps _ _ b u (Z6 _ e)) ok)))
theorem qk{X:Cx}{a:Scope}(S:ay X a N' a3)(hc:X.calm=true)(hi:PI X tg iter wi)
 (hg:∀L M A,PG (bR X a N' L M A) tg g) (ht:∀L M A,PTs (bR X a N' L M A) a4 tc) (he:∀L M A,PE (bR X a N' L M A) a5 te)
 (hs:∀x,foldedSetIterable iter X.env x=pure x) (I:Inv X pins σ H s) (h:qj wi N'.length a3 g tc te σ H Q)
 (a6:∀(D C:Addr) (O:Hp) (s6:Shared) (fl:Flow) (m:ZC),s6.heap.Ns C m->mB X pins O C->(∀h',SameBut C s6.heap h'->Inv X pins σ O (s6>>>h'))->Q (.ref D) O->compPost (model X.prog X.w) X.A X.xe use QQ (.ref D) C (.ok fl) s6):
 (~~~X) (comprehension (.ListComp a5 [%[tg,iter,a4|0]] a pos) a X.env b9 (newList []) false (eval iter X.env) use) QQ X.xe s:=by
 refine wpAny_comprehension_free (use:=use) rfl hs (Da (λy hy hk=>I.kindL (S.free y hy hk))) S.kind S.loc (thn (hi pins s σ H _ I h) λv s1 h1=>thn h1 λca l h2=>?_);have%[it,A,tn,J,H2,e,I2,T,a7,f2|R]:=h2;subst e;refine wpAny_newObj_type (Dd λU Y N ab=>?_);dsimp only at Y N ab ⊢;have I3:Inv X pins σ (upd H2 ⇑l (.lst [])) {l with heap:=l.heap.push {cls:= .type "list",data:= .seq ([]:ZG).toArray}}:=I2.lnew (its:=[]) (t':=l.toks) .nil (X2 _);have hD:H2 ⇑l=none:=I2.fresh;have al:∀b∈A,b<⇑l:=λb j=>by have%[o,ho|_]:=T.obj 0 _ a7 b j;exact Zt ho
 generalize a0:({l with heap:=l.heap.push {cls:= .type "list",data:= .seq ([]:ZG).toArray}}:Shared)=B at I3
 have G:B.heap=l.heap.push {cls:= .type "list",data:= .seq ([]:ZG).toArray}:=by rw[<-a0]
 have a8:⇑B=⇑l+1:=by rw[G,Zp]
 have f3:∀b∈A,mB X pins (upd H2 ⇑l (.lst [])) b:=λb j=>%[(ak (Zr (al b j)))▸(f2 b j).1|(f2 b j).2]
 have%[W,%[m0|w0]|a9]:=R _ hD;have ag:∀b u,B.heap.get? b=some u->U.get? b=some u:=G▸N;have I4:Inv (bR X a N' B (upd H2 ⇑l (.lst [])) A) [] (qh N'.length a3 σ) (upd H2 ⇑l (.lst [])) {B with heap:=U,toks:=B.toks}:=I3.block S f3 (λb j=>a8▸Yh (al b j)) (G▸Y) ag (G▸ab);have bb:tn 0 U:=T.keep _ _ _ a7 λb j o e=>ag b o (G▸Z6 _ e)
 have cd:(bR X a N' B (upd H2 ⇑l (.lst [])) A).env=compEnvC a _ ⇑B X.env:=rfl;have ai:∀{H':Hp},(∀b∈A,H' b=none)->∀b∈A,mB _ [] H' b:=λhn b j=>
  %[hn b j,(I4.ok.exf b j).1,I4.ok.exfs b j,.inl j,(I4.ok.exf b j).2|λp hp=>absurd (show p∈([]:ZE)from hp) ∅]
 have an:codeAny (model X.prog X.w) X.A (.compLoop (.ListComp a5 [%[tg,iter,a4|0]] a pos) 0 (.ref it) (.ref ⇑l) (bR X a N' B (upd H2 ⇑l (.lst [])) A).env)
  (compPost (model X.prog X.w) X.A X.xe use QQ (.ref ⇑l) ⇑B) {B with heap:=U,toks:=B.toks}:=by
  refine codeAny_loop rfl (λn s'=>∃i ys bf H',Inv _ [] bf H' s'/\tn i s'.heap/\(∀b∈A,H' b=none)/\W i n ys bf H') ?_ m0 %[0,[],_,_,I4,bb,λb j=>(f3 b j).1|w0];intro n s5 %[i,ys,aj,O,I5,bl,bm|w5];show wpAny _ X.A _ _ _ s5;refine wpAny_noted ?_;rw[compTurn_list];refine Z2 (wpAny_standAt (Z2 ?_));rcases a9 i n ys aj O w5 with⟨stop,q⟩|⟨go,step⟩
  .refine thn (T.done (bR X a N' B (upd H2 ⇑l (.lst [])) A) rfl rfl rfl hc i [] s5 aj O _ I5 (ai bm) bl stop) λr s6 ⟨hr,I6⟩=>?_
   subst hr;refine Z3 ?_;have%[m6,bt|_]:=I6.loc;refine a6 ⇑l ⇑B O s6 _ m6 bt (I2.fpOk (a8▸Y9 _) I6.free) (λh' sb=>?_) q;have u6:Un (frs X.stack) A (upd H2 ⇑l (.lst [])) O B.heap s6.heap:=I6.base;have a1:∀b u,B.heap.get? b=some u->b≠⇑B:=λb u e=>Zr (Zt e)
   have u7:Un (frs X.stack) A (upd H2 ⇑l (.lst [])) O B.heap h':=%[λb u e n j hx=>(sb.2 b (a1 b u e)).trans (u6.keep b u e n j hx),λb u e n j hx=>by
    have%[sl|q]:=u6.slot b u e n j hx;exact%[sl|(sb.2 b (a1 b u e)).trans q],u6.free,λb u e hx=>by
    have%[o'|q]:=u6.there b u e hx;exact%[o'|(sb.2 b (a1 b u e)).trans q],u6.tups,u6.frzs|u6.tbls]
   have bU:HOk X.prog X.w O h':=λb u e=>by
    have bn:∀c w,O c=some w->c≠⇑B:=λc w q z=>by
     have:O ⇑B=none:=I6.free;rw[z,this]at q;cases q
    refine(I6.hok b u e).stay (λc w b0 q=>(sb.2 c ?_).trans q) (λ_ q=>q) λ_ _ q=>q
    rcases b0 with z|z
    .exact z▸bn b u e
    .exact bn c _ z
   exact I2.call' (s':=(s6>>>h')) (ch:=A) (by show s6.os=l.os;rw[I6.os,<-a0];rfl) ((Un.laid (λb u e=>G▸Z6 _ e) (Zh _) hD).trans u7) bU I6.bare λb j=>%[(f2 b j).2.2.2.1,(f2 b j).2.1,(f2 b j).2.2.2.2.1|(f2 b j).2.2.2.2.2]
  .refine thn (T.item (bR X a N' B (upd H2 ⇑l (.lst [])) A) rfl rfl rfl hc i [] s5 aj O _ I5 (ai bm) bl go) λr s6 ⟨u,hr,h6⟩=>?_
   subst hr;refine Z2 (thn h6 λ_ s7 ⟨x,H7,I7,r7,y7,a2,b1⟩=>?_);have ae:∀{α:Type} {t:Sem α} {Q1:α->Shared->Prop} {E2:ZD} {s':Shared},(~~~X) t Q1 (λ_ _=>False) s'->(~~~X) t Q1 E2 s':=λh=>wpAny_mono h (λ_ _ q=>q) λ_ _ f=>f.elim
   have as:∀{E:St} {H8:Hp} {s8:Shared},Inv (bR X a N' B (upd H2 ⇑l (.lst [])) A) ([] ++rc A s7.heap) E H8 s8->
    Inv _ [] E H8 s8/\tn (i+1) s8.heap/\∀b∈A,H8 b=none:=λ{E H8 s8} I8=>by
    refine%[I8.unpinned,T.keep _ _ _ a2 λb j o e=>(I8.pin (b,o) (Yo _ (Yo _ (e8 j e)))).1|λb j=>?_];have%[o,e|d]:=T.obj _ _ a2 b j;exact(I8.pin (b,o) (Yo _ (Yo _ (e8 j e)))).2.1
   refine Z2 (ae (thn (hg B _ A _ s7 aj H7 x u _ (I7.pinned (ai b1) (T.obj _ _ a2)) r7 (step x H7 y7)) λ_ s8 ⟨E,H8,I8,q8⟩=>Z2 (ae (thT (ht B _ A _ s8 E H8 _ I8 q8) λb s9 H9 I9 q9=>?_))));cases b with
   | false=>
     have%[m',hm|w9]:=(q9)
     have%[J1,J2|J3]:=as I9;exact Z3 %[rfl,m',hm,i+1,ys,E,H9,J1,J2,J3|w9]
   | true=>
     have q9:=(q9:te E H9 λy O=>∃zs m',O ⇑l=some (.lst zs)/\zs.length<sizeLine/\m'<n/\W (i+1) m' (ys++[y]) E _)
     refine Z2 (Z2 (ae (thP (he B _ A _ s9 E H9 _ I9 q9) λu2 b2 y bp b3 b4 ⟨zs,m',hz,hl,hm,b5⟩=>Z2 (ae (thP (qd _ b2 E bp (.ref ⇑l) [y] (.ref ⇑l) [u2] (λv H'=>v= .non/\H'=upd bp ⇑l (.lst (zs++[y]))) b3 rfl (.cons b4 .nil) %[_,rfl,_,hz,hl,rfl|rfl]) λu3 cl v3 co b6 cp ⟨cs,b7⟩=>?_)))));subst b7;have%[J1,J2|J3]:=as b6;exact Z3 (Z3 %[rfl,m',hm,i+1,ys++[y],E,_,J1,J2,J3|b5])
 subst a0;exact(codeAny_compStart_list an (T.self _ 0 _ _ _ bb an))
theorem De{X:Cx}(S:ay X a e f)(n:X.calm=true)(hi:PI X l iter o)
 (p:∀b c d,PG (bR X a e b c d) l g) (r:∀b c d,PTs (bR X a e b c d) i t) (u:∀b c d,PE (bR X a e b c d) j v)
 (w:∀x,foldedSetIterable iter X.env x=pure x):
 PE X (.ListComp j [%[l,iter,i|0]] a pos) (qj o e.length f g t v):=by
 intro pins s B H Q I h;exact qk S n hi p r u w I h λD C y E G m z _ k q=>%[m,z|λh' A=>%[.ref D,y,k h' A,rfl|q]]
noncomputable def Its(z:Str):It:=⟨λi _=>i<z.cps.size,λi H x a=>a=H/\∃c,z.cps[i]? =some c/\x= .str ⟨#[c]⟩,λi _=>z.cps.size<=i⟩
theorem vE{P:Program}{K:ZA}(it:Addr)(z:Str)(t:Tok):mX P w K tg (Its z) [it] it (λi h=>h.IsStrIter it "str_ascii_iterator" z t i) where
 mem:=by simp
 obj:=λi h st b hb=>by
  have e:=by simpa using hb
  subst e;have%[o,e,c|d]:=st;exact%[o,e|λv z=>by lia]
 keep:=λi h h' st k=>by
  have%[o,e|r]:=st;exact%[o,k it ∅ o e|r]
 item:=by
  intro X hP hw hK hc i pins s σ H E I hf st hg;have hlt:i<z.cps.size:=hg;have%[f0,f1,f2,f3,f4|f5]:=hf it ∅;refine wpAny_pyNext_ascii_item st (c:=z.cps[i]) ∅ λh' st' sb=>?_
  have%[o,e,c|d]:=id st';exact%[_,rfl|pV e c d (by decide) %[.str _,H,(I.turned (λb o hb e=>(sb.2 b hb).trans e) f0 f1 f3 f4 f5),%[_|rfl],%[rfl,_,by simp|rfl],st'|λb hb=>(hf b hb).1]]
 done:=by
  intro X hP hw hK hc i pins s σ H E I hf st hg;have hle:z.cps.size<=i:=hg;have%[f0,f1,f2,f3,f4|f5]:=hf it ∅;exact wpAny_pyNext_ascii_end (I.ok.hd hc) st (by simp[hle]) λh' eb=>%[rfl|I.turned (λb o hb e=>eb b o hb e) f0 f1 f3 f4 f5]
 self:=λ_ _ _ _ _ st h=>wpAny_pyIter_striter_ascii st h
theorem yH{P:Program}{K:ZA}(it:Addr)(z:Str)(t:Tok):mX P w K tg (Its z) [it] it (λi h=>h.IsStrIter it "str_iterator" z t i) where
 mem:=by simp
 obj:=λi h st b hb=>by
  have e:=by simpa using hb
  subst e;have%[o,e,c|d]:=st;exact%[o,e|λv z=>by rw[d]at z;cases z]
 keep:=λi h h' st k=>by
  have%[o,e|r]:=st;exact%[o,k it ∅ o e|r]
 item:=by
  intro X hP hw hK hc i pins s σ H E I hf st hg;have hlt:i<z.cps.size:=hg;have%[f0,f1,f2,f3,f4|f5]:=hf it ∅;refine wpAny_pyNext_wide_item st (c:=z.cps[i]) ∅ λh' st' sb=>?_
  have%[o,e,c|d]:=id st';exact%[_,rfl|pV e c d (by decide) %[.str _,H,(I.turned (λb o hb e=>(sb.2 b hb).trans e) f0 f1 f3 f4 f5),%[_|rfl],%[rfl,_,by simp|rfl],st'|λb hb=>(hf b hb).1]]
 done:=by
  intro X hP hw hK hc i pins s σ H E I hf st hg;have hle:z.cps.size<=i:=hg;have%[f0,f1,f2,f3,f4|f5]:=hf it ∅;exact wpAny_pyNext_wide_end (I.ok.hd hc) st (by simp[hle]) λh' eb=>%[rfl|I.turned (λb o hb e=>eb b o hb e) f0 f1 f3 f4 f5]
 self:=λ_ _ _ _ _ st h=>wpAny_pyIter_striter_wide st h
def CK(D:Addr)(n i:Nat)(Pv:Nat->List V->St->Hp->Prop)(ys:List V)(b:St)(y:V)(H:Hp):Prop:=
 ∃zs a,H D=some (.lst zs)/\zs.length<sizeLine/\a<n-i/\(a=n-(i+1)/\i+1<=n/\Pv (i+1) (ys++[y]) b (upd H D (.lst (zs++[y]))))
def CN(n i:Nat)(Pv:Nat->List V->St->Hp->Prop)(ys:List V)(b:St)(H:Hp):Prop:=∃a,a<n-i/\(a=n-(i+1)/\i+1<=n/\Pv (i+1) ys b H)
theorem CK.mk{Pv:Nat->List V->St->Hp->Prop}(hi:i<n)(a:H D=some (.lst zs))(b:zs.length<sizeLine)(p:Pv (i+1) (ys++[y]) c (upd H D (.lst (zs++[y])))):CK D n i Pv ys c y H:=
 %[zs,n-(i+1),a,b,⋯,rfl,hi|p]
theorem CN.mk{Pv:Nat->List V->St->Hp->Prop}(hi:i<n)(p:Pv (i+1) ys a H):CN n i Pv ys a H:=%[n-(i+1),⋯,rfl,hi|p]
theorem bw{J:It}{g:TG}{u:TT}{v:TE}{w:Hp->Prop}(Pv:Nat->List V->St->Hp->Prop)(z:Pv 0 [] c H)(s:∀i ys c H,i<n->Pv i ys c H->J.go i H)(d:∀ys c H,Pv n ys c H->J.stop n H)
 (A:∀i ys c H,i<n->Pv i ys c H->∀x f,J.yld i H x f->g x c f λa t=>u a t λb h=>if b=true then v a h λy r=>CK D n i Pv ys a y r else CN n i Pv ys a h) (B:∀ys c H,Pv n ys c H->w H):
 ∃W:Nat->Nat->List V->St->Hp->Prop,(∃m,W 0 m [] c H)/\∀i m ys j l,W i m ys j l->(J.stop i l/\w l)\/
  (J.go i l/\∀x f,J.yld i l x f->g x j f λa t=>u a t λb h=>if b=true then v a h λy r=>∃zs o,r D=some (.lst zs)/\zs.length<sizeLine/\o<m/\W (i+1) o (ys++[y]) a (upd r D (.lst (zs++[y])))
   else∃o,o<m/\W (i+1) o ys a h):=by
 refine%[λi m ys c H=>m=n-i/\i<=n/\Pv i ys c H,%[n,by simp,X2 _|z]|?_];intro i m ys c H %[rfl,hi|p];by_cases q:i<n
 .exact .inr %[s i ys c H q p|λx f y=>A i ys c H q p x f y]
 .have e:i=n:=by lia
  subst e;exact .inl %[d ys c H p|B ys c H p]
theorem xa:∀{bs:List Bool} {us:ZG} {i:Nat} {v:Value},aE (bs.map V.bl) us->us[i]? =some v->∃b,bs[i]? =some b/\v= .bool b
 |[],_,_,_,r,e=>by cases r;simp at e
 | b::bs,_,i,v,r,e=>by
   cases r with
   | cons a c=>
     cases(a);cases i with
     | zero=>simp at e;exact%[b,rfl|e.symm]
     | succ i=>
       have%[d,f|g]:=xa c (e);exact%[d,f|g]
theorem np(bs:List Bool):(List.range bs.length).all (λi=>bs.getD i false)=bs.all id:=by
 have e:(List.range bs.length).map (λi=>bs.getD i false)=bs:=by
  apply ext_getElem
  .simp
  .intro i a b
   simp_all
 have:(List.range bs.length).all (λi=>bs.getD i false)=((List.range bs.length).map λi=>bs.getD i false).all id:=by rw[all_map];rfl
 rw[this,e]
theorem AR{X:Cx}(g:X.calm=true):bW X (.builtin "all") (λxs H Q=>∃(p:Addr) (bs:List Bool),xs=[.ref p]/\SqL X.K H p (bs.map V.bl)/\Q (.bl (bs.all id)) H):=by
 intro pins s z H xs us Q I r h;have%[p,bs,rfl,j|q]:=h;have%[u,rfl|l]:=di r;cases l;have%[its,d,pl|A]:=I.list j;have m:X.A.in1.handled=none:=I.ok.hd g;have a:bs.length=its.toArray.size:=by rw[Zo,<-d.length,Z5]
 refine call_all_walk (wpAny_pyIter_list pl.isList %[⇑s,[⇑s,p],[⇑s],its.toArray.size,_,_,λi=>bs.getD i false,rfl,Walks.list m _ p (Zr (by have%[o,n|_]:=pl.isList;exact Zt n)) its.toArray,%[%[_,Zi _ rfl,rfl|rfl]|pl.isList.push _],?_|?_])
 .intro i v s' t B w c;have%[b,f|rfl]:=xa d (by simpa using w);have e:bs.getD i false=b:=by simp_all
  have c:t (bs.getD i false) s':=c;rw[e]at c;exact wpAny_truthy_bool c
 .intro h' tk y;rw[<-a,np];refine%[.bl _,H,I.kept λb o e=>y b o ?_ (Z6 _ e),rfl|q];have:=Zt e;intro f;exact absurd (Xa f) (Zr this)
def FH:V->Option Int->Option Int->Hp->VK->Prop:=λx lo hi H Q=>∃z,x= .str z/\z.length<=sizeLine/\Q (.str (Txt.slice z lo hi)) H
theorem FI{X:Cx}:SlR X FH:=by
 intro pins s g H x v m n lo hi o Q I e a pl c h;have%[z,rfl,f|q]:=h;have%[t|rfl]:=e;refine%["str",_,F.slot_str_getitem.lookup,typeIs_str _ _ _|?_];have fin:∀l u,(Txt.slice z l u).length<=sizeLine:=λl u=>Ya (Txt.slice_le z _ _) f
 cases pl with
 | none=>
   cases c with
   | none=>exact wpAny_getItem_str_slice (l:=none) (u:=none) (st:=none) a rfl (post_val_or_str %[fin _ _|λt' k=>%[.str (Txt.slice z _ _),H,I.tok k,%[_|rfl]|q]])
   | int j b=>exact wpAny_getItem_str_slice (l:=none) (u:=some (j,b)) (st:=none) a rfl (post_val_or_str %[fin _ _|λt' k=>%[.str (Txt.slice z _ _),H,I.tok k,%[_|rfl]|q]])
 | int i d=>
   cases c with
   | none=>exact wpAny_getItem_str_slice (l:=some (i,d)) (u:=none) (st:=none) a rfl (post_val_or_str %[fin _ _|λt' k=>%[.str (Txt.slice z _ _),H,I.tok k,%[_|rfl]|q]])
   | int j b=>exact wpAny_getItem_str_slice (l:=some (i,d)) (u:=some (j,b)) (st:=none) a rfl (post_val_or_str %[fin _ _|λt' k=>%[.str (Txt.slice z _ _),H,I.tok k,%[_|rfl]|q]])
theorem hJ:∀{ss:ZB} {us:ZG},aE (ss.map V.str) us->StrsAre us ss
 |[],_,r=>by cases r;exact .nil
 | x::ss,_,r=>by
   cases r with
   | cons a b=>
     have%[t|e]:=a;subst e;exact .cons x t (hJ b)
theorem qo:∀{ss:ZB} {us:ZG},StrsAre us ss->aE (ss.map V.str) us
 | _,_,.nil=> .nil
 | _,_,.cons x t h=> .cons %[t|rfl] (qo h)
def xf(K:ZA):V->List V->Hp->VK->Prop:=λx vs H Q=>∃z l ss,x= .str z/\vs=[.ref l]/\SqL K H l (ss.map V.str)/\(ss.map (·.length)).sum+ss.length*z.length<=16777216/\Q (.str (Txt.join z ss)) H
theorem Df{X:Cx}:MtM X "str.join" (xf X.K):=by
 intro pins s e H x vs v us Q I a b h;have%[z,l,ss,rfl,rfl,c,hw|q]:=h;have%[t|rfl]:=a;have%[u,rfl|d]:=b.one;cases d;have%[its,r,pl|f]:=I.list c;exact PyProof.Rows.join_list pl.isList (hJ r) hw λt' k=>%[.str _,H,I.tok k,%[_|rfl]|q]
theorem AS{X:Cx}:bW X (.builtin "isinstance") (λxs H Q=>∃x n t b,xs=[x,.ty n]/\jL X.K H x t/\kitOne X.K t (.type n)=some b/\Q (.bl b) H):=by
 intro pins s d H xs us Q I r h;have%[x,n,t,b,rfl,ty,e|q]:=h;have%[u,f,rfl,c|a]:=jB r;cases(a);exact yv I c ty e λtk=>%[.bl b,H,I.tok tk,rfl|q]
theorem qp(z:Str)(c i:Nat):Builtin.Str.subAt z ⟨#[c]⟩ i=decide (z.cps[i]? =some c):=by
 unfold Builtin.Str.subAt;have b:(⟨#[c]⟩:Str).length=1:=rfl;rw[b];by_cases hi:i<z.cps.size
 .have e:z.cps.extract i (i+1)= #[z.cps[i]]:=by
   apply Array.ext
   .simp;lia
   .intro j d a;simp at a;subst a;simp
  rw[e,Array.getElem?_eq_getElem hi];by_cases f:z.cps[i]=c
  .subst f;simp
  simp_all
 .have e:z.cps.extract i (i+1)= #[]:=by
   apply Array.ext
   .simp;lia
   .intro j d a;simp at a
  rw[e,Array.getElem?_eq_none ⋯];simp
theorem AT(z:Str)(c:Nat):(!(Builtin.Str.occurrences z ⟨#[c]⟩ 0 z.length 1).isEmpty)=decide (c∈z.cps.toList):=by
 rcases StrLaws.occ_head z _ 1 (Zh _)with⟨e,d⟩|⟨i,r,e,f,_⟩
 .rw[e];refine(Zg λg=>?_).symm;have%[j,h|l]:=List.mem_iff_getElem.mp g;have a:=by simpa using h
  refine d j %[?_|?_]
  .show j+1<=z.cps.size;lia
  .rw[qp];exact Ze (by rw[Array.getElem?_eq_getElem a];simpa using l)
 .rw[e];refine(Ze ?_).symm;have b:=f.2;rw[qp]at b;have:=Array.mem_of_getElem? (Zn b);simpa using this
section
variable{X:Cx}
abbrev En:R2:=λx y H Q=>∃i j,x= .str i/\y= .str j/\i.length+j.length<=sizeLine/\Q (.str (i++j)) H
abbrev AU:R2:=λx y H Q=>rI0 (λi j=> .int (i+j)) x y H Q\/(En x y H Q\/FA x y H Q)
theorem Dg:OpR X (binaryOp .Add) AU:=Am.or (vm.or FB)
abbrev AV:R2:=λx y H Q=>rI Al (λi j=> .int (i*j)) x y H Q\/FC x y H Q
theorem Dh:OpR X (binaryOp .Mult) AV:=Ao.or FD
abbrev FJ:R2:=rEq
theorem FK:OpR X (compareOp .Eq) FJ:=He
abbrev FL:R2:=rNe
theorem FM:OpR X (compareOp .NotEq) FL:=Hf
abbrev Hm:R2:=λx y H Q=>∃i j,x= .str i/\y= .str j/\Q (.bl (!(Builtin.Str.occurrences j i 0 j.length 1).isEmpty)) H
abbrev Di(K:ZA):R2:=λx y H Q=>Hm x y H Q\/rIn K false x y H Q
theorem FN:OpR X (compareOp .In) (Di X.K):=yo.or yz
abbrev Dj(K:ZA):V->Option Int->Option Int->Hp->VK->Prop:=λx lo hi H Q=>Fx K x lo hi H Q\/(Fp K x lo hi H Q\/FH x lo hi H Q)
theorem FO:SlR X (Dj X.K):=C1.or (Fq.or FI)
def Dk(K:ZA)(c:TE):TI:=λd H R=>c d H λx b=>(∃a,x= .ref a/\(∃xs,SqL K b a xs)/\R (Itl K a) b)\/(∃a,x= .ref a/\(∃xs,SqT K b a xs)/\R (Itt K a) b)\/∃z,x= .str z/\R (Its z) b
theorem FP(n:PE X l r):PI X C l (Dk X.K r):=by
 intro pins s u H R I h;refine thP (n pins s u H _ I h) λv d x g f i w=>?_
 have c:∀b∈[⇑d],mB X pins g b:=λb y=>by
  have e:b=⇑d:=by simpa using y
  subst e;exact f.fpOk (Zh _) (f.hok.fresh (Zh _))
 rcases w with⟨a,e,⟨xs,j⟩,q⟩|⟨a,e,⟨xs,j⟩,q⟩|⟨z,e,q⟩
 .subst e;cases i;have%[its,A,p|B]:=f.list j;exact wpAny_pyIter_list p.isList %[⇑d,[⇑d],_,_,g,rfl,f.kept (t':=d.toks) λb o e=>Z6 _ e,yi a _,%[_,Zi _ rfl,rfl|rfl],c|q]
 .subst e;cases i;have%[its,A,p|B]:=f.tuple j;exact wpAny_pyIter_tuple (p) %[⇑d,[⇑d],_,_,g,rfl,f.kept λb o e=>Z6 _ e,vf a _,%[_,Zi _ rfl,rfl|rfl],c|q]
 .subst e;have%[t|rfl]:=i;cases m:z.cps.all _ with
  | true=>
    exact wpAny_pyIter_ascii m %[⇑d,[⇑d],_,_,g,rfl,f.kept λb o e=>Z6 _ e,vE _ z t,%[_,Zi _ rfl,rfl|rfl],c|q]
  | false=>
    exact wpAny_pyIter_wide m %[⇑d,[⇑d],_,_,g,rfl,f.kept λb o e=>Z6 _ e,yH _ z t,%[_,Zi _ rfl,rfl|rfl],c|q]
end
noncomputable def bD(c:Scope)(N:ZB)(a:Scope)(d:ZB)(b:List (Nat×Nat)):Bool:=
 decide (a.kind= .function)&&a.names.all (λy=>(decide (y.2≠ .cell)||decide (a.names.lookup y.1=some .cell))&&(decide (y.2≠ .local)||decide (a.names.lookup y.1=some .local))&&(decide (y.2≠ .free)||decide (c.names.lookup y.1=some .cell)||decide (c.names.lookup y.1=some .free)))&&
  b.all λp=>match d[p.1]? with
   | some x=>decide (N[p.2]? =some x)&&decide (a.names.lookup x=some .free)
   | none=>false
theorem ay.of{X:Cx}(h:bD X.env.scope X.N a g c=true):ay X a g c:=by
 unfold bD at h;rw[Zu,Zu,all_eq_true,all_eq_true]at h;have%[%[i|d]|j]:=h;refine%[Zn i,λy b f=>?_,λy b f=>?_,λy b l=>?_|λp m=>?_]
 .have:=d y b;simp only[Zu,or_eq_true,decide_eq_true_eq]at this;exact this.1.1.resolve_left λq=>q f
 .have:=d y b;simp only[Zu,or_eq_true,decide_eq_true_eq]at this;exact this.1.2.resolve_left λq=>q f
 .have:=d y b;simp only[Zu,or_eq_true,decide_eq_true_eq]at this;rcases this.2 with(q|q)|q
  .exact absurd l q
  .exact .inl q
  .exact .inr q
 .have:=j p m;cases e:g[p.1]? with
  | none=>simp_all
  | some x=>
    rw[e]at this;simp only[Zu,decide_eq_true_eq]at this;exact%[x,rfl,this.1|this.2]
structure Gv (mg:ZC) (x:Str) (v:V):Prop where
 ex:∃u,mg x=some u/\aO v u
theorem Eo{X:Cx}(g:Gv X.mg x v)(a:Gl X x)(b:(x==("__debug__":Str))=false):PE X (.Name x pos) (tC v):=by
 have%[u,h|r]:=g.ex;exact Cz a h r b
structure Cal (P:Program) (w:World) (K:ZA) (mg:ZC) (base:Heap) (k:Nat) (x:Str) (ps:ZB) (sp:Sp):Prop where
 ex:∃f fd,dj P w K mg base CX0 k f fd ps sp/\mg x=some (.ref f)/\keepIn K (.ref f)=true/\dm K fd ps []
structure aD (K:ZA) (mg:ZC) (x:Str) (st:Stmt) (ps:ZB):Prop where
 ex:∃f fd,Fun K x x st f fd/\mg x=some (.ref f)/\dm K fd ps []
theorem aD.cal{P:Program}{K:ZA}{st:Stmt}(D:aD K mg x st ps)(S:au N ps (ah st))
 (a:∀(H:Hp) (vs:List V) (Q:VK) (E:XK),sp vs H Q E->vs.length=ps.length/\∀(f:Addr) (b:Value) (A:Around) (outer:List Env) (s:Shared),bF k (A.deeper (envOfC x (ah st) ⇑s f b))->
  ∃t,PSs (e9 CX0 P w K mg base N x (ah st) f b A outer s H E).nox (bi st) t/\t {nx:=λ_ c=>Q .non c,rt:=Q} (start N vs) H):Cal P w K mg base (k+1) x ps sp:=by
 have%[f,d,F,e|g]:=D.ex;exact%[f,d,F.ok S (λv H Q E h=>(a H v Q E h).1) (λb A o s H v Q E r h=>(a H v Q E h).2 f b A o s r),e,F.kp|g]
theorem FQ{X:Cx}(C:Cal X.prog X.w X.K X.mg X.base j x ps sp)(g:bF k X.A)(h:Gl X x)(i:gZ CX0 X E0)(l:PA X (e::a) t)(b:j<=k)
 (c:(x==("__debug__":Str))=false) (m:starEach (e::a) X.env=(false,eval e X.env)::starEach a X.env) (d:(backTo pos (starEach a X.env)).any (·.1)=false):
 PE X (.Call (.Name x p) (e::a) [] pos) (pY sp [] E0 t):=by
 have%[f,r,F,n,o|q]:=C.ex;exact w6 F (g.mono b) h n o q .nil i l c m d
theorem FR{K:ZA}{h:Heap}{st:Stmt}{kV e g d ct:Value}(X:K.In h)(G:h.Ns mainGlobals mg)
 (a:nsIn K mainGlobals x=some (some (.ref f))) (l:K.lookup f=some %[m,od,.func (fnOf x x (bZ st) (bi st) (ah st) .none kV e g i d ct)|j]) (c:codeIn K d x=true) (k:keepIn K (.ref f)=true)
 (b:∀(kV e g:Value) (i:ZI) (d ct:Value) (us:ZG),us.length=ps.length->bindArgs (fnOf x x (bZ st) (bi st) (ah st) .none kV e g i d ct) %[us|[]]=pure (ps.zip us)):aD K mg x st ps:=
 %[f,_,dL l c k,mg_of X G a|(dL l c k).binds b]
theorem iR{K:ZA}{h:Heap}(X:K.In h)(G:h.Ns mainGlobals mg)(a:nsIn K mainGlobals x=some (some u))(r:aO v u):Gv mg x v:=%[u,mg_of X G a|r]
theorem lc(h:∀nx:St->Hp->Prop,(∀a b,u D a b->nx a b)->t {D with nx:=nx} c H):bc t u D c H:=h _ λ_ _ x=>x
theorem az(h:∀a:It->Hp->Prop,(∀J f,(∃W:Nat->Nat->St->Hp->Prop,(∃m,W 0 m b f)/\∀i m b H,W i m b H->
 (J.stop i H/\D.nx b H)\/(J.go i H/\∃N:St->Hp->Prop,(∀c d,N c d->∃j,j<m/\W (i+1) j c d)/\∀x d,J.yld i H x d->g x b d λe l=>n {D with nx:=N,ct:=N,bk:=D.nx} e l))->a J f)->o b H a):Ak o g n D b H:=h _ λ_ _ x=>x
theorem aF(h:∀c:It->Hp->Prop,(∀J j,(∀D,j D=none->∃W:Nat->Nat->List V->St->Hp->Prop,
 (∃m,W 0 m [] (qh n l o) (upd j D (.lst [])))/\∀i m ys d e,W i m ys d e->(J.stop i e/\Q (.ref D) e)\/
  (J.go i e/\∀x p,J.yld i e x p->g x d p λa s=>t a s λb q=>if b=true then u a q λy r=>∃zs f,r D=some (.lst zs)/\zs.length<sizeLine/\f<m/\W (i+1) f (ys++[y]) a (upd r D (.lst (zs++[y])))
   else∃f,f<m/\W (i+1) f ys a q))->c J j)->v o H c):qj v n l g t u o H Q:=h _ λ_ _ x=>x
section
variable{X:Cx}{K:ZA}
theorem FS(h:X.K=K):OpR X (compareOp .In) (Di K):=by subst h;exact FN
theorem slK(h:X.K=K):SlR X (Dj K):=by subst h;exact FO
theorem yI(h:X.K=K):bW X (.builtin "len") (λxs H Q=>∃x n,xs=[x]/\CP K x H n/\Q (.int n) H):=by subst h;exact Aw
theorem yJ(h:X.K=K)(a:X.calm=true):bW X (.builtin "all") (λxs H Q=>∃(p:Addr) (bs:List Bool),xs=[.ref p]/\SqL K H p (bs.map V.bl)/\Q (.bl (bs.all id)) H):=by subst h;exact AR a
theorem yK(h:X.K=K):bW X (.builtin "isinstance") (λxs H Q=>∃x n t b,xs=[x,.ty n]/\jL K H x t/\kitOne K t (.type n)=some b/\Q (.bl b) H):=by subst h;exact AS
theorem vF(h:X.K=K):bW X (.type "list") (λxs H Q=>∃p ys,xs=[.ref p]/\(SqL K H p ys\/SqT K H p ys)/\∀l,H l=none->Q (.ref l) (upd H l (.lst ys))):=by subst h;exact rA
theorem AW(h:X.K=K):MtR X "str.join" (xf K):=by subst h;exact Df
theorem yL(h:X.K=K)(d:PE X a e)(f:∀b,isTrue a X.env b=(do let v<-b;standAt a.pos;holding [v] (truthy v))):PT X a (λg H Q=>e g H λx c=>∃k,At K x c k/\Q k c):=by subst h;exact Au d f
theorem Dl(h:X.K=K)(a:PE X l b):PI X c l (Dk K b):=by subst h;exact FP a
variable{o e:Expr}{es:List Expr}{to:TE}{t:TA}{name:Str}{apos cpos:Pos}{T id:String}{r:V->List V->Hp->VK->Prop}
theorem Dm(h:X.K=K)(d:PlainAttrs T)(slot:Slot T name id)(c:typeOf (.builtin id)=pure (.type "method_descriptor"))(f:MtR X id r)(g:PE X o to)
 (a:attributeBase o name X.env (eval o X.env)=eval o X.env) (b:(apos.endLine==cpos.line)=true):PE X (.Call (.Attribute o name apos) [] [] cpos) (C2 K T r to):=by
 subst h;exact Fy d slot c f g a b
theorem AX(h:X.K=K)(g:PlainAttrs T)(slot:Slot T name id)(f:typeOf (.builtin id)=pure (.type "method_descriptor"))(i:MtR X id r)(j:PE X o to)(l:PA X (e::es) t)
 (b:attributeBase o name X.env (eval o X.env)=eval o X.env)
 (d:((backTo cpos (starEach (e::es) X.env)).all (λx=>!x.1)&&(backToKw cpos (keywordEach [] X.env)).all (λx=>x.1.isSome)
  && decide ((e::es).length+([]:List Keyword).length+(if([]:List Keyword).isEmpty then 0 else 1)<30))=true)
 (c:(apos.endLine==cpos.line)=true) (m:starEach (e::es) X.env=(false,eval e X.env)::starEach es X.env) (a:(backTo cpos (starEach es X.env)).any (·.1)=false):
 PE X (.Call (.Attribute o name apos) (e::es) [] cpos) (tBM K T r to t):=by
 subst h;exact Hj g slot f i j l b d c m a
end
structure vG (z TI TO i1 i2:Addr):Prop where
 TIz:TI≠z
 TOz:TO≠z
 i1z:i1≠z
 i2z:i2≠z
 TITO:TI≠TO
 TIi1:TI≠i1
 TIi2:TI≠i2
 TOi1:TO≠i1
 TOi2:TO≠i2
 i12:i1≠i2
section
#where
variable{z TI TO i1 i2:Addr}{fp1 fp2:List Addr}{n1 n2 i:Nat}{P1 P2:Nat->Value->Prop}{St1 St2:Nat->Heap->Prop}
theorem AY{Q:ZD}(D1:Draws prog w A i1 fp1 n1 P1 St1)(D2:Draws prog w A i2 fp2 n2 P2 St2)(D:vG z TI TO i1 i2)(O:∀b∈fp1,b≠z/\b≠TO/\b≠i2)(m2:∀b∈fp2,b≠z/\b≠TO/\b≠i1)
 (T:IsZip s.heap z TI TO .none) (ae:IsPair s.heap TI (.ref i1) (.ref i2)) (ag:IsPair s.heap TO a b) (h1:St1 i s.heap) (h2:St2 i s.heap) (l1:i<n1) (l2:i<n2)
 (hQ:∀x y h' tk,P1 i x->P2 i y->IsZip h' z TI TO (rawInt ⇑s)->IsPair h' TO x y->St1 (i+1) h'->St2 (i+1) h'->IsPair h' ⇑s x y->
  (∀c o,c≠z->c≠TO->c≠i1->c≠i2->s.heap.get? c=some o->h'.get? c=some o)->Q (.ref ⇑s) {s with heap:=h',toks:=tk}):
 ↥A (Builtin.«zip.__next__» %[[.ref z]|[]]) (λfin s'=>∃v,fin= .done (.ret v)/\Q v s') E s:=by
 have r:∀{k h h' c},(∀b∈fp1,b≠c)->SameBut c h h'->St1 k h->St1 k h':=λhc sb st=>D1.frame _ _ _ st λb d o e=>(sb.2 b (hc b d)).trans e
 have t:∀{k h h' c},(∀b∈fp2,b≠c)->SameBut c h h'->St2 k h->St2 k h':=λhc sb st=>D2.frame _ _ _ st λb d o e=>(sb.2 b (hc b d)).trans e
 show wpAny _ _ (field (.ref z) 2>>= _) _ _ _;refine Z2 (wpAny_field T rfl (x:= .bool false) rfl ?_);show wpAny _ _ (field (.ref z) 3>>= _) _ _ _;refine Z2 (wpAny_field T rfl (x:= .ref TI) rfl (Z2 (wpAny_seqItems ae rfl ?_)));show wpAny _ _ (Builtin.SmallTypes.ownedTupleIsFree (.ref z)>>= _) _ _ _;refine Z2 ?_;unfold Builtin.SmallTypes.ownedTupleIsFree;refine Z2 (wpAny_field T rfl (x:= .none) rfl (Z3 ?_));simp only[if_true];refine Z2 (wpAny_rule (Z2 (wpAny_field T rfl (x:= .ref TO) rfl (Z2 (wpAny_setField_rec T ∅ λg1 L n=>?_)))));replace L:IsZip g1 z TI TO .ellipsis:=L;refine Z2 ?_;simp only[List.zipIdx_cons,List.zipIdx_nil,forIn_cons,List.forIn_nil];refine Z2 (Z2 (wpAny_onRaise ?_));show wpAny _ _ (Builtin.SmallTypes.nextOf (.ref i1)>>= _) _ _ _;refine Z2 (D1.item i _ _ _ l1 (r (λb d=>(O b d).1) n h1) λx g2 ai px aj f=>Z3 ?_);replace f:SameBut i1 g1 g2:=f;have H:IsPair g2 TO a b:=(f.2 _ D.TOi1).trans ((n.2 _ D.TOz).trans ag);refine Z2 (wpAny_seqItems H rfl (Z2 (wpAny_updateSeq_pair (s:={s with heap:=g2,toks:=ai}) H λg3 p g=>?_)));replace p:IsPair g3 TO x b:=p;replace g:SameBut TO g2 g3:=g;refine Z2 (wpAny_letGo (Z3 (Z2 (Z2 (wpAny_onRaise ?_)))));show wpAny _ _ (Builtin.SmallTypes.nextOf (.ref i2)>>= _) _ _ _;refine Z2 (D2.item i _ _ _ l2 (t (λb d=>(m2 b d).2.1) g (t (λb d=>(m2 b d).2.2) f (t (λb d=>(m2 b d).1) n h2))) λy g4 u py al j=>Z3 ?_);replace j:SameBut i2 g3 g4:=j;have I:IsPair g4 TO x b:=(j.2 _ D.TOi2).trans p;refine Z2 (wpAny_seqItems I rfl (Z2 (wpAny_updateSeq_pair (s:={s with heap:=g4,toks:=u}) I λq m l=>?_)));replace m:IsPair q TO x y:=m;replace l:SameBut TO g4 q:=l;refine Z2 (wpAny_letGo (Z3 (Z3 (Z2 (wpAny_seqItems m rfl (Z2 (wpAny_newTuple ?_)))))));have U:q.objs.size=⇑s:=by rw[l.1,j.1,g.1,f.1,n.1]
 have Y:IsZip q z TI TO .ellipsis:=(l.2 _ D.TOz.symm).trans ((j.2 _ D.i2z.symm).trans ((g.2 _ D.TOz.symm).trans ((f.2 _ D.i1z.symm).trans L)));have an:∀c o,c≠z->c≠TO->c≠i1->c≠i2->s.heap.get? c=some o->q.get? c=some o:=λc o M c2 c3 c4 e=>
  (l.2 c c2).trans ((j.2 c c4).trans ((g.2 c c2).trans ((f.2 c c3).trans ((n.2 c M).trans e))))
 have J:z<q.objs.size:=Zt Y;refine Z2 (Z2 (wpAny_setField_rec (s:={s with heap:=q.push {cls:= .type "tuple",data:= .seq #[x,y]},toks:=u}) (Z6 _ Y) ∅ λg7 N B=>?_));replace N:IsZip g7 z TI TO (rawInt q.objs.size):=N;replace B:SameBut z (q.push _) g7:=B;refine wpAny_setField_rec (s:={s with heap:=g7,toks:=u}) N ∅ λg8 C G=>?_
 replace C:IsZip g8 z TI TO (rawInt q.objs.size):=C;replace G:SameBut z g7 g8:=G;have up:∀c o,c≠z->q.get? c=some o->g8.get? c=some o:=λc o M e=>(G.2 c M).trans ((B.2 c M).trans (Z6 _ e))
 have ab:=(G.2 _ (Ys J)).trans ((B.2 _ (Ys J)).trans (Zi _ rfl));rw[U]at C ab;refine Z3 %[_,rfl|?_];rw[U];exact hQ x y g8 u px py C (up _ _ D.TOz m) (D1.frame _ _ _ (r (λb d=>(O b d).2.1) l (r (λb d=>(O b d).2.2) j (r (λb d=>(O b d).2.1) g aj))) λb d o e=>up b o (O b d).1 e) (D2.frame _ _ _ (t (λb d=>(m2 b d).2.1) l al) λb d o e=>up b o (m2 b d).1 e) ab λc o M c2 c3 c4 e=>up c o M (an c o M c2 c3 c4 e)
theorem AZ(J:Draws prog w A i1 fp1 n1 P1 St1)(D2:Draws prog w A i2 fp2 n2 P2 St2)(D:vG z TI TO i1 i2)(m1:∀b∈fp1,b≠z/\b≠TO/\b≠i2)(m2:∀b∈fp2,b≠z/\b≠TO/\b≠i1)
 (y:IsZip s.heap z TI TO .none) (L:IsPair s.heap TI (.ref i1) (.ref i2)) (M:IsPair s.heap TO a b) (h1:St1 i s.heap) (h2:St2 i s.heap) (l1:i<=n1) (l2:i<=n2) (ab:i=n1\/i=n2)
 (hE:∀h' e tk,(∀c o,c≠z->c≠TO->c≠i1->c≠i2->s.heap.get? c=some o->h'.get? c=some o)->(∃o,h'.get? e=some o/\o.cls= .type "StopIteration")->E (.ref e) {s with heap:=h',toks:=tk}):
 ↥A (Builtin.«zip.__next__» %[[.ref z]|[]]) Q E s:=by
 have N:∀{k h h' c},(∀b∈fp1,b≠c)->SameBut c h h'->St1 k h->St1 k h':=λO T st=>J.frame _ _ _ st λb j o e=>(T.2 b (O b j)).trans e
 have t:∀{k h h' c},(∀b∈fp2,b≠c)->SameBut c h h'->St2 k h->St2 k h':=λO T st=>D2.frame _ _ _ st λb j o e=>(T.2 b (O b j)).trans e
 show wpAny _ _ (field (.ref z) 2>>= _) _ _ _;refine Z2 (wpAny_field y rfl (x:= .bool false) rfl ?_);show wpAny _ _ (field (.ref z) 3>>= _) _ _ _;refine Z2 (wpAny_field y rfl (x:= .ref TI) rfl (Z2 (wpAny_seqItems L rfl ?_)));show wpAny _ _ (Builtin.SmallTypes.ownedTupleIsFree (.ref z)>>= _) _ _ _;refine Z2 ?_;unfold Builtin.SmallTypes.ownedTupleIsFree;refine Z2 (wpAny_field y rfl (x:= .none) rfl (Z3 ?_));simp only[if_true];refine Z2 (wpAny_rule (Z2 (wpAny_field y rfl (x:= .ref TO) rfl (Z2 (wpAny_setField_rec y ∅ λg1 n l=>?_)))));replace n:IsZip g1 z TI TO .ellipsis:=n;refine Z2 ?_;simp only[List.zipIdx_cons,List.zipIdx_nil,forIn_cons,List.forIn_nil];refine Z2 (Z2 (wpAny_onRaise ?_));show wpAny _ _ (Builtin.SmallTypes.nextOf (.ref i1)>>= _) _ _ _;have B:St1 i g1:=N (λb j=>(m1 b j).1) l h1;by_cases c1:i<n1
 .have e2:i=n2:=by lia
  refine Z2 (J.item i _ _ _ c1 B λx g2 u px ag d=>Z3 ?_);replace d:SameBut i1 g1 g2:=d;have r:IsPair g2 TO a b:=(d.2 _ D.TOi1).trans ((l.2 _ D.TOz).trans M);refine Z2 (wpAny_seqItems r rfl (Z2 (wpAny_updateSeq_pair (s:={s with heap:=g2,toks:=u}) r λg3 ae f=>?_)));replace f:SameBut TO g2 g3:=f;refine Z2 (wpAny_letGo (Z3 (Z2 (Z2 (wpAny_onRaise ?_)))));show wpAny _ _ (Builtin.SmallTypes.nextOf (.ref i2)>>= _) _ _ _;refine Z2 (D2.done _ _ _ (e2▸t (λb j=>(m2 b j).2.1) f (t (λb j=>(m2 b j).2.2) d (t (λb j=>(m2 b j).1) l h2))) λI e p U=>?_);replace p:ExtBut i2 g3 I:=p;have%[Y,g|m]:=U;have C:IsZip I z TI TO .ellipsis:=p _ _ D.i2z.symm ((f.2 _ D.TOz.symm).trans ((d.2 _ D.i1z.symm).trans n));have v:e≠z:=λx=>by subst x;rw[C]at g;cases g;simp at m
  refine wpAny_setField_rec (s:={s with heap:=I,toks:=u}) C ∅ λg5 _ q=>?_
  replace q:SameBut z I g5:=q;exact hE g5 e u (λc o G d2 d3 d4 x=>(q.2 c G).trans (p c o d4 ((f.2 c d2).trans ((d.2 c d3).trans ((l.2 c G).trans x))))) %[Y,(q.2 e v).trans g|m]
 .have e1:i=n1:=by lia
  refine Z2 (J.done _ _ _ (e1▸B) λg2 e d U=>?_);replace d:ExtBut i1 g1 g2:=d;have%[Y,g|m]:=U;have H:=d _ _ D.i1z.symm n;have v:e≠z:=λx=>by subst x;rw[H]at g;cases g;simp at m
  refine wpAny_setField_rec (s:=(s>>>g2)) H ∅ λg3 _ f=>?_
  replace f:SameBut z g2 g3:=f;exact hE g3 e s.toks (λc o G _ d3 _ x=>(f.2 c G).trans (d c o d3 ((l.2 c G).trans x))) %[Y,(f.2 e v).trans g|m]
end
noncomputable def Itz(x y:Str):It:=⟨λi _=>i<x.cps.size/\i<y.cps.size,λi H v a=>∃c d T,x.cps[i]? =some c/\y.cps[i]? =some d/\H T=none/\v= .ref T/\a=upd H T (.tup [.str ⟨#[c]⟩,.str ⟨#[d]⟩]),
 λi _=>i<=x.cps.size/\i<=y.cps.size/\(i=x.cps.size\/i=y.cps.size)⟩
def ZSt(z TI TO c d:Addr)(e f:Nat->Heap->Prop)(i:Nat)(h:Heap):Prop:=IsZip h z TI TO .none/\IsPair h TI (.ref c) (.ref d)/\(∃a b,IsPair h TO a b)/\e i h/\f i h
theorem jk(prog:Program)(w:World)(x:Str)(t:Tok)(it:Addr):∀A,A.handled=none->
 Draws prog w A it [it] x.cps.size (λi v=>∃c u,x.cps[i]? =some c/\v= .str ⟨#[c]⟩ u) (λi h=>h.IsStrIter it (strIterType x) x t i):=by
 intro A a;unfold strIterType;cases b:x.cps.all _ with
 | true=>exact Draws.strAscii a it x t
 | false=>exact Draws.strWide a it x t
theorem A1{P:Program}{K:ZA}(z TI TO i1 i2:Addr)(x y:Str)(t u:Tok)(D:vG z TI TO i1 i2):
 mX P w K (.Tuple elts kt tp) (Itz x y) [z,TI,TO,i1,i2] z (ZSt z TI TO i1 i2 (λi h=>h.IsStrIter i1 (strIterType x) x t i) (λi h=>h.IsStrIter i2 (strIterType y) y u i)) where
 mem:=by simp
 obj:=λi h st b hb=>by
  have%[hz,hTI,%[a,c|hTO],%[o1,e1,_|d1],o2,e2,_|d2]:=st
  grind
 keep:=λi h h' st k=>by
  have%[hz,hTI,%[a,c|hTO],%[o1,e1|r1],o2,e2|r2]:=st;exact%[k z ∅ _ hz,k TI ∅ _ hTI,%[a,c|k TO ∅ _ hTO],%[o1,k i1 ∅ _ e1|r1],o2,k i2 ∅ _ e2|r2]
 item:=by
  intro X hP hw hK hc i pins s σ H E I hf st hg;subst hP hw hK;have%[hz,hTI,%[a,c|hTO],h1|h2]:=st;obtain⟨g1,g2⟩:i<x.cps.size/\i<y.cps.size:=hg;have hT:s.TypeIs (.ref z) "zip":=%[_,hz|rfl]
  have hh:X.A.in1.handled=none:=I.ok.hd hc;unfold pyNext;refine Z2 (wpAny_attempt (wpAny_callSpecial?_slot (name:=Str.ofString "__next__") hT F.slot_zip_next (wpAny_call_entry F.slot_zip_next hT F.entry_zip_next
   (AY (jk _ _ x t i1 _ hh) (jk _ _ y u i2 _ hh) D (λb hb=>(show b=i1 by simpa using hb)▸%[D.i1z,Ne.symm D.TOi1|D.i12]) (λb hb=>(show b=i2 by simpa using hb)▸%[D.i2z,Ne.symm D.TOi2|Ne.symm D.i12]) hz hTI hTO h1 h2 g1 g2 λv1 v2 h' tk p1 p2 a1 a2 a3 a4 a5 hk=>Z3 ?_) (F.args_zip_next_1 _))))
  have%[c1,u1,e1|rfl]:=p1;have%[c2,u2,e2|rfl]:=p2;refine%[_,rfl|wpAny_letOwnedTupleGo_zip (s:={s with heap:=h',toks:=tk}) a1 λh'' hz'' sb=>?_];replace sb:SameBut z h' h'':=sb;have turn1:Inv X pins σ H {s with heap:=h'',toks:=tk}:=by
   have nit:∀b v,H b=some v->b∉[z,TI,TO,i1,i2]:=λb v e hb=>by rw[(hf b hb).1]at e;cases e
   have kk:∀b o,b∉[z,TI,TO,i1,i2]->s.heap.get? b=some o->h''.get? b=some o:=λb o hb e=>by
    simp only[Yp,Yx,or_false,not_or]at hb;exact(sb.2 b hb.1).trans (hk b o hb.1 hb.2.2.1 hb.2.2.2.1 hb.2.2.2.2 e)
   refine I.step (g':=s.gens) (d':=s.drawn) (ch:=[z,TI,TO,i1,i2]) (λb hb=>%[(hf b hb).2.2.2.1,(hf b hb).2.1,(hf b hb).2.2.2.2.1|(hf b hb).2.2.2.2.2]) (λb o _ _ hc e _=>kk b o hc e) (λb o _ _ hc e _=>%[o.slots|kk b o hc e]) (λ_ _ _ _ n=>n)
    (λb o hc e=>%[o|kk b o hc e]) (λ_ _ e=>e) (λ_ _ _ e=>e) (λb ps e=>%[#[]|by rw[e];simp]) (λm hm=>?_) (λb v e=>?_) I.bare
   .have%[o,es,ep,ho|r]:=hm;exact%[o,es,ep,kk _ o (λhb=>(hf _ hb).2.1 rfl) ho|r]
   .refine(I.hok b v e).stay (λc' v' hc' q=>kk c' v' ?_ q) (λ_ q=>q) λ_ _ q=>q
    rcases hc' with q'|q'
    .exact q'▸nit b v e
    .exact nit c' _ q'
  have Hn:H ⇑s=none:=I.fresh;have I2:Inv X pins σ (upd H ⇑s (.tup [.str ⟨#[c1]⟩,.str ⟨#[c2]⟩])) {s with heap:=h'',toks:=tk}:=by
   have nf:⇑s∉X.fs:=I.nofs (Zh _);refine%[turn1.ok,turn1.os,turn1.bare,?_,turn1.loc,turn1.cell,?_,?_,?_,?_|turn1.len]
   .refine%[turn1.base.keep,turn1.base.slot,λb o e n hx=>?_,turn1.base.there,λb xs e=>?_,λb o v e=>?_|λb ps e=>?_]
    .rw[ak ((λb o e=>Zr (Zf (Zt e) I.sz)) b o e)];exact turn1.base.free b o e n hx
    .rw[ak (ar (turn1.base.tups b xs e) Hn)];exact turn1.base.tups b xs e
    .rw[ak (ar (turn1.base.frzs b o v e) Hn)];exact turn1.base.frzs b o v e
    .have%[m|q]:=turn1.base.tbls b ps e;exact%[m|(ak (ar q Hn))▸q]
   .rw[ak (Zr I.lt)];exact turn1.free
   .intro x' c' e;have%[v'|q]:=I.cell x' c' e;rw[ak (Zr q.lt)];exact turn1.freeC x' c' e
   .intro p hp;have%[e,n|r]:=turn1.pin p hp;refine%[e,?_|r];rw[ak (Zr (Zt (I.pin p hp).1))];exact n
   .intro b v e;by_cases hb:b=⇑s
    .subst hb;rw[aa]at e;cases e;exact%[by show 2<=sizeLine;decide,[.str _ u1,.str _ u2],.cons %[_|rfl] (.cons %[_|rfl] .nil),_,((sb.2 _ (Ys (Zt hz))).trans a5),rfl,_|rfl]
    .rw[ak hb]at e;refine(turn1.hok b v e).stay (λ_ _ _ q=>q) (λc' q=>?_) λc' xs q=>?_
     .rw[ak (ar q Hn)];exact q
     .rw[ak (ar q Hn)];exact q
  refine%[.ref ⇑s,_,I2,rfl,%[c1,c2,_,e1,e2,Hn,rfl|rfl],%[hz'',(sb.2 _ D.TIz).trans (hk _ _ D.TIz D.TITO D.TIi1 D.TIi2 hTI),%[_,_|(sb.2 _ D.TOz).trans a2],?_|?_]|λb hb=>?_]
  .have%[o,e|r]:=a3;exact%[o,(sb.2 _ D.i1z).trans e|r]
  .have%[o,e|r]:=a4;exact%[o,(sb.2 _ D.i2z).trans e|r]
  .have:b<⇑s:=by
    simp only[Yp,Yx,or_false]at hb;have%[o1,q1|_]:=h1;have%[o2,q2|_]:=h2;rcases hb with rfl|rfl|rfl|rfl|rfl
    .exact Zt hz
    .exact Zt hTI
    .exact Zt hTO
    .exact Zt q1
    .exact Zt q2
   rw[ak (Zr this)];exact(hf b hb).1
 done:=by
  intro X hP hw hK hc i pins s σ H E I hf st hg;have%[hz,hTI,%[a,c|hTO],h1|h2]:=st;obtain⟨g1,g2,g3⟩:i<=x.cps.size/\i<=y.cps.size/\(i=x.cps.size\/i=y.cps.size):=hg;have hT:s.TypeIs (.ref z) "zip":=%[_,hz|rfl]
  have hh:=I.ok.hd hc;refine Z2 (wpAny_attempt (wpAny_callSpecial?_slot hT F.slot_zip_next (wpAny_call_entry F.slot_zip_next hT F.entry_zip_next
   (AZ (jk _ _ x t i1 _ hh) (jk _ _ y u i2 _ hh) D (λb hb=>(show b=i1 by simpa using hb)▸%[D.i1z,Ne.symm D.TOi1|D.i12]) (λb hb=>(show b=i2 by simpa using hb)▸%[D.i2z,Ne.symm D.TOi2|Ne.symm D.i12]) hz hTI hTO h1 h2 g1 g2 g3 λh' e tk hk he=>?_) (F.args_zip_next_1 _))))
  have%[o,ho|hco]:=he;refine Z2 (wpAny_isInstance %[o,ho|hco] isSubtype_stop (Z3 %[rfl|?_]));have nit:∀b v,H b=some v->b∉[z,TI,TO,i1,i2]:=λb v e hb=>by rw[(hf b hb).1]at e;cases e
  have kk:∀b o,b∉[z,TI,TO,i1,i2]->s.heap.get? b=some o->h'.get? b=some o:=λb o hb e=>by
   simp only[Yp,Yx,or_false,not_or]at hb;exact hk b o hb.1 hb.2.2.1 hb.2.2.2.1 hb.2.2.2.2 e
  refine I.step (λb hb=>%[(hf b hb).2.2.2.1,(hf b hb).2.1,(hf b hb).2.2.2.2.1|(hf b hb).2.2.2.2.2]) (λb o _ _ hc e _=>kk b o hc e) (λb o _ _ hc e _=>%[o.slots|kk b o hc e]) (λ_ _ _ _ n=>n)
   (λb o hc e=>%[o|kk b o hc e]) (λ_ _ e=>e) (λ_ _ _ e=>e) (λb ps e=>%[#[]|by rw[e];simp]) (λm hm=>?_) (λb v e=>?_) I.bare
  .have%[o',es,ep,ho'|r]:=hm;exact%[o',es,ep,kk _ o' (λhb=>(hf _ hb).2.1 rfl) ho'|r]
  .refine(I.hok b v e).stay (λc' v' hc' q=>kk c' v' ?_ q) (λ_ q=>q) λ_ _ q=>q
   rcases hc' with q'|q'
   .exact q'▸nit b v e
   .exact nit c' _ q'
 self:=λ_ _ _ _ _ st h=>wpAny_pyIter_zip st.1 h
noncomputable def aW:Expr->Bool
 | .Starred _ _=>true
 | _=>false
theorem aw(h:aW e=false):starEach (e::a) env=(false,eval e env)::starEach a env:=by
 cases e<;> first|rfl|cases(show true=false from h)
theorem dM(h:aW e=false):assignEach (e::a) env=(false,assign e env)::assignEach a env:=by
 cases e<;> first|rfl|cases(show true=false from h)
theorem du:∀{a:List Expr},a.any aW=false->(backTo pos (starEach a env)).any (·.1)=false
 |[],_=>rfl
 | e::a,h=>by
   rw[Zv,Yy]at h;rw[aw h.1];have:=du (pos:=pos) (env:=env) h.2;cases a with
   | nil=>rfl
   | cons c b=>
     simp only[backTo]at this ⊢;simpa using this
theorem rE:∀{a:List Expr},a.any aW=false->(backTo pos (starEach a env)).all (λx=>!x.1)=true
 |[],_=>rfl
 | e::a,h=>by
   rw[Zv,Yy]at h;rw[aw h.1];have:=rE (pos:=pos) (env:=env) h.2;cases a with
   | nil=>rfl
   | cons c b=>
     simp only[backTo]at this ⊢;simpa using this
theorem jM:∀{a:List Expr},a.any aW=false->(assignEach a env).length=a.length/\(assignEach a env).findIdx? (·.1)=none
 |[],_=>%[rfl|rfl]
 | e::a,h=>by
   rw[Zv,Yy]at h;rw[dM h.1];have b:=jM (env:=env) h.2;refine%[by rw[Zq,Zq,b.1]|?_];rw[List.findIdx?_cons,b.2];rfl
noncomputable def fS:Expr->Bool
 | .ListComp _ _ _ _=>true
 | .SetComp _ _ _ _=>true
 | .DictComp _ _ _ _ _=>true
 | _=>false
theorem iS(h:fS e=false):swapsWith e t l env=pure false:=by
 cases e<;> first|rfl|cases(show true=false from h)
noncomputable def vH:Expr->Bool
 | .Tuple _ _ _=>true
 | _=>false
theorem vI(h:vH e=false):swappedStores [t] e env=pure none:=by
 cases e with
 | Tuple _ _ _=>cases(show true=false from h)
 | _=>cases t<;> rfl
noncomputable def fT:Expr->Bool
 | .Call _ _ _ _=>true
 | _=>false
theorem d9(h:fT o=false):attributeBase o a env w=w:=by
 cases o<;> first|rfl|cases(show true=false from h)
noncomputable def nq:Expr->Bool
 | .Set _ _ _=>true
 | _=>false
theorem lg(h:nq e=false)(x:Value):foldedSetIterable e env x=pure x:=by
 cases e<;> first|rfl|cases(show true=false from h)
structure QE (X:Cx) (e:Expr) (t:TE):Prop where
 h:PE X e t
structure QT (X:Cx) (e:Expr) (t:TT):Prop where
 h:PT X e t
structure QW (X:Cx) (e:Expr) (t:TT):Prop where
 h:PW X e t
structure QA (X:Cx) (es:List Expr) (t:TA):Prop where
 h:PA X es t
structure QS (X:Cx) (st:Stmt) (t:TS):Prop where
 h:PS X st t
structure QSs (X:Cx) (st:List Stmt) (t:TS):Prop where
 h:PSs X st t
structure QG (X:Cx) (e:Expr) (t:TG):Prop where
 h:PG X e t
structure QGs (X:Cx) (es:List Expr) (t:TGs):Prop where
 h:PGs X es t
structure QI (X:Cx) (tg iter:Expr) (wi:TI):Prop where
 h:PI X tg iter wi
structure QO (X:Cx) (e:Option Expr) (t:TO):Prop where
 h:PO X e t
structure QTs (X:Cx) (ifs:List Expr) (t:TT):Prop where
 h:PTs X ifs t
structure OpQ (X:Cx) (f:Value->Value->Sem Value) (r:R2):Prop where
 h:OpR X f r
structure cB (X:Cx) (f:Value) (r:List V->Hp->VK->Prop):Prop where
 h:bW X f r
structure MtQ (X:Cx) (id:String) (r:V->List V->Hp->VK->Prop):Prop where
 h:MtR X id r
section
variable{X:Cx}{K:ZA}{pos:Pos}
theorem av{i j}:QE X (.Constant (.int i) j pos) (tC (.int i)):=⟨EN⟩
theorem eBl{b j}:QE X (.Constant (.bool b) j pos) (tC (.bl b)):=⟨G1⟩
theorem nu{j}:QE X (.Constant .none j pos) (tC .non):=⟨EO⟩
theorem eB{x j}:QE X (.Constant (.str x) j pos) (tC (.str x)):=⟨EQ⟩
theorem vn(i:Nat)(b:X.N[i]? =some x)(c:Vis X.env.scope x)(d:(x==("__debug__":Str))=false)(a:(x==("__classdict__":Str))=false):QE X (.Name x pos) (pd i):=⟨z4 b c d a⟩
theorem gvE(g:Gv X.mg x v)(a:Gl X x)(b:(x==("__debug__":Str))=false):QE X (.Name x pos) (tC v):=⟨Eo g a b⟩
theorem blE(a:Gl X x)(b:X.mg x=none)(c:bootBuiltins x=some u)(r:aO v u)(f:(x==("__name__":Str))=false)(d:(x==("__debug__":Str))=false):QE X (.Name x pos) (tC v):=
 ⟨CA a b c r (λe=>by lia) d⟩
theorem ao:QA X [] yw:=⟨Fi⟩
theorem paE(a:aW e=false)(b:QE X e c)(d:QA X f t):QA X (e::f) (Az c t):=⟨CU b.h d.h (aw a)⟩
theorem calE(C:Cal X.prog X.w X.K X.mg X.base j x ps sp)(f:bF k X.A)(g:Gl X x)(a:Nat.ble j k=true)
 (b:(x==("__debug__":Str))=false) (c:(e::d).any aW=false) (h:QA X (e::d) t):
 QE X (.Call (.Name x p) (e::d) [] pos) (pY sp [] E0 t):=by
 rw[Zv,Yy]at c;exact⟨FQ C f g AQ h.h (Y7 a) b (aw c.1) (du c.2)⟩
theorem cbE{id:String}(d:cB X (.builtin id) r)(f:Gl X x)(g:X.mg x=none)(h:bootBuiltins x=some (.builtin id))(j:(x==("__name__":Str))=false)(a:(x==("__debug__":Str))=false)
 (b:(e::c).any aW=false) (i:QA X (e::c) t):QE X (.Call (.Name x p) (e::c) [] pos) (tCB r t):=by
 rw[Zv,Yy]at b;exact⟨AD d.h f g h i.h (λe=>by lia) a (aw b.1) (du b.2)⟩
theorem ctE(d:cB X (.type T) r)(f:Gl X x)(g:X.mg x=none)(h:bootBuiltins x=some (.type T))(j:(x==("__name__":Str))=false)(a:(x==("__debug__":Str))=false)
 (b:(e::c).any aW=false) (i:QA X (e::c) t):QE X (.Call (.Name x p) (e::c) [] pos) (tCB r t):=by
 rw[Zv,Yy]at b;exact⟨yy d.h f g h i.h (λe=>by lia) a (aw b.1) (du b.2)⟩
theorem bmE{T id:String}(h:X.K=K)(m:PlainAttrs T)(slot:Slot T name id)(i:typeOf (.builtin id)=pure (.type "method_descriptor"))(n:MtQ X id r)
 (b:fT o=false) (a:(e::g).any aW=false) (j:Nat.blt (e::g).length 30=true) (c:(d.endLine==f.line)=true) (p:QE X o q) (s:QA X (e::g) t):
 QE X (.Call (.Attribute o name d) (e::g) [] f) (tBM K T r q t):=by
 have l:=a;rw[Zv,Yy]at l;refine⟨AX h m slot i n.h p.h s.h (d9 b) ?_ c (aw l.1) (du l.2)⟩;rw[rE a];have:decide ((e::g).length+([]:List Keyword).length+(if([]:List Keyword).isEmpty then 0 else 1)<30)=true:=Ze ((Nat.blt_eq.mp j));rw[this];rfl
theorem FT{T id:String}(h:X.K=K)(f:PlainAttrs T)(slot:Slot T name id)(e:typeOf (.builtin id)=pure (.type "method_descriptor"))(g:MtQ X id r)
 (a:fT o=false) (b:(c.endLine==d.line)=true) (i:QE X o j):QE X (.Call (.Attribute o name c) [] [] d) (C2 K T r j):=⟨Dm h f slot e g.h i.h (d9 a) b⟩
theorem nv(b:Gl X "range")(c:X.mg "range"=none)(d:aW a=false)(e:QA X [a] f):QI X g (.Call (.Name "range" p) [a] [] pos) (Aj f):=⟨yj b c e.h (aw d)⟩
theorem cC(h:X.K=K)(a:QE X l b):QI X c l (Dk K b):=⟨Dl h a.h⟩
section
variable{a b c:Expr}{ta tb tc:TE}{op op':CmpOp}{r r':R2}
theorem vJ(e:OpQ X (compareOp op) r)(d:OpQ X (compareOp op') r')(f:lastMarks [op,op'] [b,c]=false)(g:QE X a ta)(h:QE X b tb)(i:QE X c tc):QE X (.Compare a [op,op'] [b,c] pos) (vh r r' ta tb tc):=⟨Ar e.h d.h g.h h.h i.h f⟩
theorem iT(d:OpQ X (compareOp op) r)(e:behindInMarks op b=false)(f:QE X a ta)(g:QE X b tb):QE X (.Compare a [op] [b] pos) (tOp r ta tb):=⟨CM d.h f.h g.h e⟩
theorem bz(d:OpQ X (compareOp op) r)(e:behindInMarks op b=false)(f:QE X a ta)(g:QE X b tb):QT X (.Compare a [op] [b] pos) (Aq (tOp r ta tb)):=⟨CO d.h f.h g.h e⟩
theorem opE{op:Operator}(d:OpQ X (binaryOp op) r)(e:QE X a ta)(f:QE X b tb):QE X (.BinOp a op b pos) (tOp r ta tb):=⟨G7 d.h e.h f.h⟩
theorem rF(d:QE X a ta):QE X (.UnaryOp .USub a pos) (tUn (rU λi=> .int (-i)) ta):=⟨G8 Fa d.h⟩
theorem slE{lo hi:Option Expr}(h:X.K=K)(d:QE X a ta)(e:QO X lo f)(g:QO X hi i):QE X (.Subscript a (.Slice lo hi none j) pos) (tSl (Dj K) ta f i):=⟨AG (slK h) d.h e.h g.h⟩
theorem noO:QO X none rh:=⟨CW⟩
theorem tF(h:QE X a ta):QO X (some a) (AF ta):=⟨CY h.h⟩
theorem pj{op}(h:QE X a ta):QE X (.BoolOp op [a] pos) ta:=⟨EW h.h⟩
theorem nA{rest:List Expr}(d:QE X a ta)(e:QE X (.BoolOp .And (b::rest) pos) tb):QE X (.BoolOp .And (a::b::rest) pos) (z6 ta tb):=⟨EX d.h e.h⟩
theorem orV{rest:List Expr}(d:QE X a ta)(e:QE X (.BoolOp .Or (b::rest) pos) tb):QE X (.BoolOp .Or (a::b::rest) pos) (EV ta tb):=⟨G5 d.h e.h⟩
theorem cr(h:QA X d t):QE X (.List d pos) (Fk t):=⟨Fo h.h⟩
theorem iU{x1}(h:QA X d t):QE X (.Tuple d x1 pos) (Fj t):=⟨Fn h.h⟩
theorem iI:QE X (.Dict [] [] pos) vD:=⟨AO⟩
variable{tA tB':TT}{rest:List Expr}
theorem ifE(d:QT X c tA)(e:QE X a ta)(f:QE X b tb):QE X (.IfExp c a b pos) (tIf tA ta tb):=⟨z7 d.h e.h f.h⟩
theorem jv(d:QT X a tA):QT X (.UnaryOp .Not a pos) (ER tA):=⟨EU d.h⟩
theorem kb(d:QT X a tA):QW X (.BoolOp .And [a] pos) tA:=⟨CC d.h⟩
theorem li(d:QT X a tA):QW X (.BoolOp .Or [a] pos) tA:=⟨ES d.h⟩
theorem nB(d:QT X a tA)(e:QW X (.BoolOp .And (b::rest) pos) tB'):QW X (.BoolOp .And (a::b::rest) pos) (CB tA tB'):=⟨ET d.h e.h⟩
theorem orW(d:QT X a tA)(e:QW X (.BoolOp .Or (b::rest) pos) tB'):QW X (.BoolOp .Or (a::b::rest) pos) (tOr tA tB'):=⟨G4 d.h e.h⟩
theorem wT(h:QW X a tA):QT X a tA:=⟨PW.pt h.h⟩
theorem gj(h:X.K=K)(f:∀d,isTrue a X.env d=(do let v<-d;standAt a.pos;holding [v] (truthy v)))(g:QE X a ta):QT X a (λi H Q=>ta i H λx e=>∃k,At K x e k/\Q k e):=⟨yL h g.h f⟩
theorem lj:QTs X [] yG:=⟨Db⟩
theorem iV(h:QT X c tA):QTs X [c] tA:=⟨Dc h.h⟩
end
theorem dG(S:ay X c e f)(l:X.calm=true)(m:nq iter=false)(hi:QI X j iter n)
 (o:∀a b d,QG (bR X c e a b d) j g) (p:∀a b d,QTs (bR X c e a b d) h q) (r:∀a b d,QE (bR X c e a b d) i s):
 QE X (.ListComp i [%[j,iter,h|0]] c pos) (qj n e.length f g q s):=⟨De S l hi.h (λa b d=>(o a b d).h) (λa b d=>(p a b d).h) (λa b d=>(r a b d).h) (lg m)⟩
theorem bh:QSs X [] z8:=⟨CD⟩
theorem am{st:Stmt}{rest:List Stmt}(a:QS X st t)(b:QSs X rest u):QSs X (st::rest) (bc t u):=⟨z9 a.h b.h⟩
theorem aq{st:Stmt}(a:QS X st t):QSs X [st] t:=⟨CF a.h⟩
theorem ifS(d:QT X c e)(f:QSs X a t)(g:QSs X b u):QS X (.If c a b pos) (j6 e t u):=⟨G6 d.h f.h g.h⟩
theorem aJ(a:QE X e b):QS X (.Return (some e) pos) (j5 b):=⟨EY a.h⟩
theorem hV{st:Stmt}:QS X st Aa:=⟨Ab⟩
theorem cR(c:PassesOwn (model X.prog X.w) X.A X.env X.xe)(d:X.calm=true)(e:nq iter=false)(hi:QI X b iter f)(h:QG X b g)(i:QSs X a j):
 QS X (.For b iter a [] pos) (Ak f g j):=⟨E5 c d hi.h h.h i.h (lg e)⟩
theorem jN(i:Nat)(b:X.N.Nodup)(hi:X.N[i]? =some x)(c:Loc X.env.scope x)(d:X.fn x=true\/X.env.scope.names.lookup x=some .local)(f:fS e=false)(g:QE X e h):
 QS X (.Assign [.Name x a] e pos) (pf h (jA i)):=⟨Af b hi c g.h (iS f) d⟩
theorem bJ(a:fS e=false)(b:QE X e c):QS X (.Expr e pos) (j3 c):=⟨CG b.h (iS a)⟩
theorem A2(c:fS e=false)(hw:vH e=false)(a:aW b=false)(d:QE X e f)(h:QG X b g):QS X (.Assign [b] e pos) (pf f g):=
 ⟨E4 d.h h.h (iS c) (vI hw) (by rw[dM a];rfl)⟩
theorem tG(i:Nat)(a:X.N.Nodup)(hi:X.N[i]? =some x)(b:Loc X.env.scope x)(c:X.fn x=true\/X.env.scope.names.lookup x=some .local):QG X (.Name x pos) (jA i):=⟨CH a hi b c⟩
theorem cS:QGs X [] EZ:=⟨CI⟩
theorem gsE(a:aW e=false)(b:QG X e t)(c:QGs X d u):QGs X (e::d) (Ac t u):=⟨Ad b.h c.h (by rw[dM a];rfl)⟩
theorem gu(c:X.K=K)(d:X.calm=true)(b:a.any aW=false)(h:QGs X a t):QG X (.Tuple a k pos) (Ae K a.length t):=by
 subst c;exact⟨E3 d h.h (jM b).1 (jM b).2⟩
theorem hX:OpQ X (binaryOp .Add) AU:=⟨Dg⟩
theorem qq:OpQ X (binaryOp .Sub) (rI0 λi j=> .int (i-j)):=⟨E8⟩
theorem vK:OpQ X (binaryOp .Mult) AV:=⟨Dh⟩
theorem bY:OpQ X (binaryOp .Mod) (rI (λ_ j=>0<j) λi j=> .int (i%j)):=⟨E9⟩
theorem c9:OpQ X (binaryOp .FloorDiv) (rI Hd λi j=> .int (i/j)):=⟨CJ⟩
theorem cE:OpQ X (compareOp .Eq) FJ:=⟨FK⟩
theorem gF:OpQ X (compareOp .NotEq) FL:=⟨FM⟩
theorem vL:OpQ X (compareOp .Lt) (rI0 λi j=> .bl (decide (i<j))):=⟨Hg⟩
theorem yM:OpQ X (compareOp .LtE) (rI0 λi j=> .bl (decide (i<=j))):=⟨Hh⟩
theorem vM:OpQ X (compareOp .Gt) (rI0 λi j=> .bl (decide (j<i))):=⟨Hi⟩
theorem Ep:OpQ X (compareOp .Is) (λx y H Q=>y= .non/\Q (.bl (decide (x= .non))) H):=⟨Fc⟩
theorem nC:OpQ X (compareOp .IsNot) (λx y H Q=>y= .non/\Q (.bl (!decide (x= .non))) H):=⟨CL⟩
theorem vN(h:X.K=K):OpQ X (compareOp .In) (Di K):=⟨FS h⟩
abbrev xg:R2:=λx y H Q=>∃i j,x= .str i/\y= .str j/\Q (.bl (!(!(Builtin.Str.occurrences j i 0 j.length 1).isEmpty))) H
abbrev xh(K:ZA):R2:=λx y H Q=>xg x y H Q\/rIn K true x y H Q
theorem rG(h:X.K=K):OpQ X (compareOp .NotIn) (xh K):=by subst h;exact⟨rq.or rp⟩
theorem bQ(h:X.K=K):cB X (.builtin "len") (λxs H Q=>∃x n,xs=[x]/\CP K x H n/\Q (.int n) H):=⟨yI h⟩
theorem A3(h:X.K=K)(a:X.calm=true):cB X (.builtin "all") (λxs H Q=>∃(p:Addr) (bs:List Bool),xs=[.ref p]/\SqL K H p (bs.map V.bl)/\Q (.bl (bs.all id)) H):=⟨yJ h a⟩
theorem Er(a:X.calm=true):cB X (.builtin "max") (λxs H Q=>∃i j,xs=[.int i,.int j]/\Q (.int (if j>i then j else i)) H):=⟨yp a⟩
theorem Ho(a:X.calm=true):cB X (.builtin "min") (λxs H Q=>∃i j,xs=[.int i,.int j]/\Q (.int (if j<i then j else i)) H):=⟨yq a⟩
theorem iW(h:X.K=K):cB X (.builtin "isinstance") (λxs H Q=>∃x n t b,xs=[x,.ty n]/\jL K H x t/\kitOne K t (.type n)=some b/\Q (.bl b) H):=⟨yK h⟩
theorem Es:cB X (.type "int") (λxs H Q=>(∃i,xs=[.int i]/\Q (.int i) H)\/∃k,xs=[.bl k]/\Q (.int (if k then 1 else 0)) H):=⟨yr⟩
theorem fj(h:X.K=K):cB X (.type "list") (λxs H Q=>∃p ys,xs=[.ref p]/\(SqL K H p ys\/SqT K H p ys)/\∀l,H l=none->Q (.ref l) (upd H l (.lst ys))):=⟨vF h⟩
theorem bo:MtQ X "list.append" rB:=⟨qd⟩
theorem tH:MtQ X "list.extend" rC:=⟨yA⟩
theorem Do:MtQ X "list.clear" vB:=⟨AL⟩
theorem vO(h:X.K=K):MtQ X "str.join" (xf K):=⟨AW h⟩
end
open PySem PySem.Spec PyProof.Rows PySem.SeqAt
section
#version
variable{h':Heap}{tk:Nat}{fp:List Addr}
theorem Inv.moved(I:Inv X pins σ H s)(c:∀b∈fp,mB X pins H b)(d:∀b o,b∉fp->s.heap.get? b=some o->h'.get? b=some o):Inv X pins σ H {s with heap:=h',toks:=tk}:=by
 have f:∀b v,H b=some v->b∉fp:=λb v e a=>by rw[(c b a).1]at e;cases e
 refine I.step (λb a=>%[(c b a).2.2.2.1,(c b a).2.1,(c b a).2.2.2.2.1|(c b a).2.2.2.2.2]) (λb o _ _ g e _=>d b o g e) (λb o _ _ g e _=>%[o.slots|d b o g e]) (λ_ _ _ _ n=>n)
  (λb o g e=>%[o|d b o g e]) (λ_ _ e=>e) (λ_ _ _ e=>e) (λb ps e=>%[#[]|by rw[e];simp]) (λm l=>?_) (λb v e=>?_) I.bare
 .have%[o,p,t,u|r]:=l;exact%[o,p,t,d _ o (λa=>(c _ a).2.1 rfl) u|r]
 .refine(I.hok b v e).stay (λj w h q=>d j w ?_ q) (λ_ q=>q) λ_ _ q=>q
  rcases h with i|i
  .exact i▸f b v e
  .exact f j _ i
theorem Inv.stood(I:Inv X pins σ H s)(J:Inv X pins σ H {s with heap:=h',toks:=tk})(c:⇑s<=a)(new:bN X.prog X.w (upd H a o) h' a o):Inv X pins σ (upd H a o) {s with heap:=h',toks:=tk}:=by
 have d:=I.hok.fresh c;refine%[J.ok,J.os,J.bare,?_,J.loc,J.cell,?_,?_,?_,?_|J.len]
 .refine%[J.base.keep,J.base.slot,λb o e n j=>?_,J.base.there,λb xs e=>?_,λb o v e=>?_|λb ps e=>?_]
  .rw[ak ((λb o e=>Zr (Zf (Zf (Zt e) I.sz) c)) b o e)];exact J.base.free b o e n j
  .rw[ak (ar (J.base.tups b xs e) d)];exact J.base.tups b xs e
  .rw[ak (ar (J.base.frzs b o v e) d)];exact J.base.frzs b o v e
  .have%[m|q]:=J.base.tbls b ps e;exact%[m|(ak (ar q d))▸q]
 .rw[ak (Zr (Zf I.lt c))];exact J.free
 .intro g f e;have%[l|q]:=I.cell g f e;rw[ak (Zr (Zf q.lt c))];exact J.freeC g f e
 .intro p h;have%[e,n|r]:=J.pin p h;refine%[e,?_|r];rw[ak (Zr (Zf (Zt (I.pin p h).1) c))];exact n
 .intro b v e;by_cases i:b=a
  .subst i;rw[aa]at e;cases e;exact new
  .rw[ak i]at e;refine(J.hok b v e).stay (λ_ _ _ q=>q) (λf q=>?_) λf xs q=>?_
   .rw[ak (ar q d)];exact q
   .rw[ak (ar q d)];exact q
end
def vP:V->List V->Hp->VK->Prop:=λx vs H Q=>∃z y,x= .str z/\vs=[.str y]/\1<=y.length/\z.length+2<=sizeLine/\∀l,H l=none->Q (.ref l) (upd H l (.lst ((Txt.split z y).map V.str)))
theorem qr:∀ss k,aE (ss.map V.str) (strsFrom k ss)
 |[],_=> .nil
 | _::r,k=> .cons %[_|rfl] (qr r _)
theorem A4{X:Cx}:MtM X "str.split" vP:=by
 intro pins s m H x vs v us Q I g i h;have%[z,y,rfl,rfl,n,o|q]:=h;have%[t|rfl]:=g;have%[p,rfl|j]:=i.one;have%[u|rfl]:=j;have b:(y.length==0)=false:=by simp;lia
 have l:=split_le z y;by_cases c:(decide (z.length<y.length)||decide (Builtin.Str.strKind z<Builtin.Str.strKind y))=true
 .have e:Txt.split z y=[z]:=if_pos c;rw[e]at q;exact call_meets F.slot_str_split (typeIs_str _ _ _) F.entry_str_split (F.args_str_split_2 _ _) (meets_str_split_cannot_occur z y t u c) %[.ref _,_,I.lnew (ys:=[.str z]) (.cons %[_|rfl] .nil) (by show 1<=sizeLine;decide),rfl|q _ I.fresh]
 .have d:=eq_false_iff.mpr c;by_cases f:(Builtin.Str.occurrences z y 0 z.length (z.length+1)).isEmpty=true
  .have e:Txt.split z y=[z]:=(if_neg c).trans (if_pos f);rw[e]at q;exact call_meets F.slot_str_split (typeIs_str _ _ _) F.entry_str_split (F.args_str_split_2 _ _) (meets_str_split_not_found z y t u d b f) %[.ref _,_,I.lnew (ys:=[.str z]) (.cons %[_|rfl] .nil) (by show 1<=sizeLine;decide),rfl|q _ I.fresh]
  .have e:Txt.split z y=Builtin.Str.partsBetween z _ y.length:=(if_neg c).trans (if_neg f);have a:(Builtin.Str.partsBetween z (Builtin.Str.occurrences z y 0 z.length (z.length+1)) y.length).length<=sizeLine:=by rw[<-e];lia
   refine call_meets F.slot_str_split (typeIs_str _ _ _) F.entry_str_split (F.args_str_split_2 _ _) (meets_str_split_sep z y t u d b (eq_false_iff.mpr f) ⋯ a) ?_;rw[<-e]at a ⊢;exact%[.ref _,_,I.lnew (qr _ _) (by rw[Z5];exact a),rfl|q _ I.fresh]
theorem Dp{X:Cx}:MtQ X "str.split" vP:=⟨A4⟩
noncomputable def Ite(K:ZA)(a:Addr)(xs:List V):It:=⟨λi H=>SqL K H a xs/\i<xs.length,λi H v b=>∃x T,xs[i]? =some x/\H T=none/\v= .ref T/\b=upd H T (.tup [.int i,x]),λi H=>SqL K H a xs/\xs.length<=i⟩
def ESt(e it a:Addr)(i:Nat)(h:Heap):Prop:=(∃b,IsEnum h e it i b)/\h.IsListIter it a i
theorem yN{P:Program}{K:ZA}(e it a:Addr)(xs:List V)(hne:e≠it):mX P w K (.Tuple elts kt tp) (Ite K a xs) [e,it] e (ESt e it a) where
 mem:=by simp
 obj:=λi h st b hb=>by
  have%[%[old|he],o1,e1,_|d1]:=st;simp only[Yp,Yx,or_false]at hb;rcases hb with rfl|rfl
  .exact%[_,he|λv q=>nomatch q]
  .exact%[o1,e1|λv q=>by rw[d1]at q;cases q]
 keep:=λi h h' st k=>by
  have%[%[old|he],o1,e1|r1]:=st;exact%[%[old|k e ∅ _ he],o1,k it ∅ _ e1|r1]
 item:=by
  intro X hP hw hK hc i pins s σ H E I hf st hg;subst hP hw hK;have%[%[old|he]|hit]:=st;obtain⟨hq,hi⟩:SqL X.K H a xs/\i<xs.length:=hg;have%[its,rv,p|hz]:=I.list hq;have%[u,hu|ru]:=rv.get (i:=i) (x:=xs[i]) ∅;refine wpAny_pyNext_enum_item he hit p.isList (by simpa using hu) hne λh1 he1 hit1 ht1 hz1 hk1=>%[_,rfl|wpAny_letOwnedTupleGo_enum he1 λh2 he2 sb2=>?_]
  replace sb2:SameBut e h1 h2:=sb2;have elt:=Zt he;have kk:∀b o,b∉[e,it]->s.heap.get? b=some o->h2.get? b=some o:=λb o hb q=>by
   simp only[Yp,Yx,or_false,not_or]at hb;exact(sb2.2 b hb.1).trans (hk1 b o hb.1 hb.2 q)
  have J:Inv X pins σ H {s with heap:=h2,toks:=s.toks+1}:=I.moved hf kk;have I2:Inv X pins σ (upd H ⇑s (.tup [.int i,xs[i]])) _:=
   I.stood J (Zh _) %[by show 2<=sizeLine;decide,[.int i s.toks,u],.cons %[_|rfl] (.cons ru .nil),_,((sb2.2 _ (Ys elt)).trans ht1),rfl,_|rfl]
  refine%[.ref ⇑s,_,I2,rfl,%[xs[i],_,by simp,I.fresh,rfl|rfl],%[%[u|he2]|?_]|λb hb=>?_]
  .have%[o,q|r]:=hit1;exact%[o,(sb2.2 _ (Ne.symm hne)).trans q|r]
  .have:b<⇑s:=by
    simp only[Yp,Yx,or_false]at hb;rcases hb with rfl|rfl
    .exact elt
    .exact(by have%[o,q|_]:=hit;exact Zt q)
   rw[ak (Zr this)];exact(hf b hb).1
 done:=by
  intro X hP hw hK hc i pins s σ H E I hf st hg;subst hP hw hK;have%[%[old|he]|hit]:=st;obtain⟨hq,hi⟩:SqL X.K H a xs/\xs.length<=i:=hg;have%[its,rv,p|hz]:=I.list hq;have hl:=rv.length;refine wpAny_pyNext_enum_end (I.ok.hd hc) he hit p.isList (by simp;lia) λh1 xb=>%[rfl|I.moved hf λb o hb q=>?_]
  simp only[Yp,Yx,or_false,not_or]at hb;exact xb b o hb.2 q
 self:=λA i s Q E st h=>by
  have%[%[old|he]|hit]:=st;exact wpAny_pyIter_enum he h
def Et(K:ZA)(c:TA):TI:=λd H R=>c d H λvs b=>∃a xs,vs=[.ref a]/\SqL K b a xs/\R (Ite K a xs) b
section
variable{X:Cx}{K:ZA}{pos:Pos}
theorem xi(m:X.K=K)(n:Gl X "enumerate")(o:X.mg "enumerate"=none)(r:aW a=false)(t:QA X [a] v):
 QI X (.Tuple g J L) (.Call (.Name "enumerate" p) [a] [] pos) (Et K v):=by
 subst m
 constructor
 intro pins s w H R I h;refine Call_ (jK I n o boot_enumerate (PyProof.Rows.callWith_type1 (thP (t.h pos pins s w H _ I h) λus d vs y c z A=>?_) (aw r) rfl));have%[l,xs,e,B|q]:=A;subst e;have%[u,rfl|C]:=di z;cases C;have%[its,M,p|N]:=c.list B;refine call_enumerate_list p.isList λO i f E G=>wpAny_pyIter_enum i %[⇑d+1,[⇑d+1,⇑d],ESt _ ⇑d l,Ite X.K l xs,y,rfl,(c.kept G),yN _ _ _ _ (Nat.succ_ne_self _),%[%[_|i]|f],λb j=>?_|q]
 simp only[Yp,Yx,or_false]at j;rcases j with rfl|rfl
 .exact c.fpOk (Y9 _) (c.hok.fresh (Y9 _))
 .exact c.fpOk (Zh _) (c.hok.fresh (Zh _))
end
section
variable(h:Heap)(x y:Str)(t u:Tok)
noncomputable abbrev zs1:Heap:=h.push {cls:= .type (strIterType x),data:= .fields #[.str x t,.int 0 0]}
noncomputable abbrev zs2:Heap:=(zs1 h x t).push {cls:= .type (strIterType y),data:= .fields #[.str y u,.int 0 0]}
noncomputable abbrev zs3:Heap:=(zs2 h x y t u).push {cls:= .type "tuple",data:= .seq #[.ref h.objs.size,.ref (zs1 h x t).objs.size]}
noncomputable abbrev zs4:Heap:=(zs3 h x y t u).push {cls:= .type "tuple",data:= .seq #[.none,.none]}
noncomputable abbrev zs5:Heap:=(zs4 h x y t u).push {cls:= .type "zip",data:= .fields #[.none,.bool false,.bool false,.ref (zs2 h x y t u).objs.size,.ref (zs3 h x y t u).objs.size]}
end
theorem mD(x y:Str)(t u:Tok):
 Meets (Builtin.«zip.__new__» %[[.type "zip",.str x t,.str y u]|[]]) (λ_ R s=>R (.ok (.ret (.ref (zs4 s.heap x y t u).objs.size))) (s>>>zs5 s.heap x y t u)):=
 .of_wp λprog w A R s b=>by
  have%[c,g,d,tk|os]:=s;have a:=PySem.sub_zip
  wp_walk using wpAny_pyIter_strU (x:=x) (t:=t),wpAny_pyIter_strU (x:=y) (t:=u)
  exact%[_,rfl|b]
section
#where
theorem nD
 (h:∀h',IsZip h' (⇑s+4) (⇑s+2) (⇑s+3) .none->IsPair h' (⇑s+2) (.ref ⇑s) (.ref (⇑s+1))->IsPair h' (⇑s+3) .none .none->
  h'.IsStrIter ⇑s (strIterType x) x t 0->h'.IsStrIter (⇑s+1) (strIterType y) y u 0->(∀c o,s.heap.get? c=some o->h'.get? c=some o)->Q (.ref (⇑s+4)) (s>>>h')):
 ↥A (call (.type "zip") [.str x t,.str y u]) Q E s:=by
 refine callType_new F.called_zip (by decide) (F.typeCall_zip_2 _ _) (F.newCall_zip_2 _ _) (λobj=>F.args_object_init_3 obj _ _) F.entry_zip_new (mD x y t u) ?_;have a:(zs1 s.heap x t).objs.size=⇑s+1:=Zp ..;have b:(zs2 s.heap x y t u).objs.size=⇑s+2:=by rw[Zp,a]
 have d:(zs3 s.heap x y t u).objs.size=⇑s+3:=by rw[Zp,b]
 have f:(zs4 s.heap x y t u).objs.size=⇑s+4:=by rw[Zp,d]
 have g:∀c o,(zs4 s.heap x y t u).get? c=some o->(zs5 s.heap x y t u).get? c=some o:=λ_ _ q=>Z6 _ q
 have i:∀c o,(zs3 s.heap x y t u).get? c=some o->(zs5 s.heap x y t u).get? c=some o:=λc o q=>g c o (Z6 _ q)
 have j:∀c o,(zs2 s.heap x y t u).get? c=some o->(zs5 s.heap x y t u).get? c=some o:=λc o q=>i c o (Z6 _ q)
 have l:∀c o,(zs1 s.heap x t).get? c=some o->(zs5 s.heap x y t u).get? c=some o:=λc o q=>j c o (Z6 _ q)
 have r:∀c o,s.heap.get? c=some o->(zs5 s.heap x y t u).get? c=some o:=λc o q=>l c o (Z6 _ q)
 have e:(zs5 s.heap x y t u).get? (zs4 s.heap x y t u).objs.size=some _:=Zi _ rfl;have m:(zs5 s.heap x y t u).get? (zs3 s.heap x y t u).objs.size=some _:=g _ _ (Zi _ rfl);have n:(zs5 s.heap x y t u).get? (zs2 s.heap x y t u).objs.size=some _:=i _ _ (Zi _ rfl);have p:=j _ _ (Zi _ rfl);show _/\_;rw[b,d,f]at e;rw[a,b]at n;rw[d]at m;rw[a]at p;rw[f];exact%[%[_,e|rfl]|h _ e n m %[_,(l _ _ (Zi _ rfl)),rfl|rfl] %[_,p,rfl|rfl] r]
end
def Eu(a:TA):TI:=λb H R=>a b H λvs c=>∃x y,vs=[.str x,.str y]/\R (Itz x y) c
section
variable{X:Cx}{K:ZA}{pos:Pos}
theorem Ev(z:Gl X "zip")(A:X.mg "zip"=none)(B:aW a=false)(f:aW b=false)(C:QA X [a,b] E):
 QI X (.Tuple r O Q) (.Call (.Name "zip" p) [a,b] [] pos) (Eu E):=by
 constructor
 intro pins s G H R I h;refine Call_ (jK I z A boot_zip (PyProof.Rows.callWith_type1 (thP (C.h pos pins s G H _ I h) λus c vs J g L M=>?_) (aw B) (by rw[aw f];rfl)));have%[x,y,e|q]:=M;subst e;have%[T,U,rfl,%[t|rfl],u|rfl]:=jB L;refine nD λY v l m n o N=>wpAny_pyIter_zip v ?_
 have ne:∀i j,i≠j->⇑c+i≠⇑c+j:=λi j h e=>h (Nat.add_left_cancel e)
 refine%[⇑c+4,[⇑c+4,⇑c+2,⇑c+3,⇑c+0,⇑c+1],_,Itz x y,J,rfl,(g.kept N),
  A1 _ _ _ _ _ x y t u %[ne 2 4 (by decide),ne 3 4 (by decide),ne 0 4 (by decide),ne 1 4 (by decide),ne 2 3 (by decide),ne 2 0 (by decide),ne 2 1 (by decide),ne 3 0 (by decide),ne 3 1 (by decide)|ne 0 1 (by decide)],
  %[v,l,%[_,_|m],n|o],λb w=>?_|q]
 have d:⇑c<=b:=by
  simp only[Yp,Yx,or_false]at w;rcases w with rfl|rfl|rfl|rfl|rfl<;> exact le_add_right _ _
 exact g.fpOk d (g.hok.fresh d)
end
inductive D where
 | non|bl (b:Bool)|int (i:Int)|str (x:Str)|lst (ds:List D)|tup (ds:List D)
section
variable{K:ZA}{H H':Hp}
theorem af.seqT(e:af H H')(h:SqT K H a xs):SqT K H' a xs:=by
 rcases h with(h|⟨o,h⟩)|h
 .exact .inl (.inl (e _ _ h))
 .exact .inl (.inr %[o|e _ _ h])
 .exact .inr h
end
section
#version
end
theorem vQ{X:Cx}(G:X.N.Nodup)(t:X.N[i]? =some x)(J:Loc X.env.scope x)(L:X.fn x=true\/X.env.scope.names.lookup x=some .local)
 (u:swapsWith (.ListComp l [%[w,iter,p|0]] a pos) (some (.Name x A)) f.line X.env=pure true) (S:ay X a r y) (M:X.calm=true) (N:∀x,foldedSetIterable iter X.env x=pure x) (hi:PI X w iter O)
 (Q:∀c d j,PG (bR X a r c d j) w g) (T:∀c d j,PTs (bR X a r c d j) p U) (Y:∀c d j,PE (bR X a r c d j) l te):
 PS X (.Assign [.Name x A] (.ListComp l [%[w,iter,p|0]] a pos) f) (pf (qj O r.length y g U te) (jA i)):=by
 intro pins s σ H D I h;refine Z2 (wpAny_standAt ?_);show wpAny _ _ (swapsWith (.ListComp l _ a pos) (some (.Name x A)) f.line X.env>>= _) _ _ _;rw[u];refine Z2 (Z3 (Z2 (Z2 (qk S M hi Q T Y N I h λD' C H5 s6 fl m hn j k q=>?_))));have%[o,es,ep,B,hd|hr]:=id hn;have I7:=(k s6.heap (SameBut.refl _ _)).pinned (λb n=>(Xa n)▸j) λb n=>by
  rw[Xa n];exact%[o,B|λv z=>by lia]
 refine wpAny_assign_Name (j2 I7 G t J (v:= .ref D') rfl (λs8 E=>%[m,%[o,es,ep,((E.pin _ (Yo _ (Yo _ (e8 (mem_singleton.mpr rfl) B)))).1),hd|hr]|λh' sb=>Z3 (Z3 %[_,H5,(E.unpinned).moved (λb n=>(Xa n)▸j) λb o' n e=>(sb.2 b (λz=>n (mem_singleton.mpr z))).trans e|q])]) L)
theorem yO(h:(env.blockKind== .function&&env.kindOf x==some .local&&b.line==pos.line&&!(a.names.any λ(n,k)=>n==x&&(k== .local||k== .cell)))=true):
 swapsWith (.ListComp c gens a pos) (some (.Name x b)) l env=pure true:=by
 show(pure (env.blockKind== .function&&env.kindOf x==some _&&b.line==pos.line&&!(a.names.any _)))=pure true;rw[h]
theorem gG{X:Cx}(i:Nat)(q:X.N.Nodup)(f:X.N[i]? =some x)(r:Loc X.env.scope x)(s:X.fn x=true\/X.env.scope.names.lookup x=some .local)
 (h:(X.env.blockKind== .function&&X.env.kindOf x==some .local&&t.line==pos.line&&!(c.names.any λ(n,k)=>n==x&&(k== .local||k== .cell)))=true) (S:ay X c e j) (u:X.calm=true) (v:nq iter=false) (hi:QI X o iter w)
 (y:∀a b d,QG (bR X c e a b d) o g) (z:∀a b d,QTs (bR X c e a b d) l A) (B:∀a b d,QE (bR X c e a b d) m C):
 QS X (.Assign [.Name x t] (.ListComp m [%[o,iter,l|0]] c pos) p) (pf (qj w e.length j g A C) (jA i)):=
 ⟨vQ q f r s (yO h) S u (lg v) hi.h (λa b d=>(y a b d).h) (λa b d=>(z a b d).h) (λa b d=>(B a b d).h)⟩
section
#version
end
section
variable{X:Cx}{K:ZA}
end
theorem bS:Slot "set_iterator" "__next__" "set_iterator.__next__":=
 .of (owner:="set_iterator") (n:="__next__") (by rw[typeLookup_type,builtinLookup_eq_fast];kernel_rfl) (by decide +kernel) (by decide +kernel) (by decide +kernel) (by first|exact .inl (by decide +kernel)|exact .inr ∅) (by kernel_rfl)
theorem gH:entryFor table "set_iterator.__next__"=some Builtin.«set_iterator.__next__»:=entryFor_of_tree (by kernel_rfl)
theorem iJ(a:Value):argsOk "set_iterator.__next__" %[[a]|[]]:=by kernel_rfl
theorem pq:entryFor table "set.__iter__"=some Builtin.«frozenset.__iter__»:=entryFor_alias (id':="frozenset.__iter__") (by kernel_rfl) rfl (by decide +kernel) (by kernel_rfl)
theorem pw(t:SetTable)(n:Nat):(t.orStandIn n).led=t.led:=by unfold SetTable.orStandIn;split<;> rfl
theorem vR(t:SetTable)(a:Array _)(h:Int)(x:Value):(layNew t a h x).2.1.led=t.led:=by
 unfold layNew;cases t.freeSlot h with
 | none=>rfl
 | some p=>
   exact pw _ _
theorem rH(t:SetTable)(c:Array _)(n:Nat):(relayAll t c n).2.1.led=t.led:=by
 unfold relayAll;cases a:t.relaid _ n with
 | none=>rfl
 | some p=>
   have%[t'|d]:=p;simp only
   split
   .simp only[SetTable.relaid,SetTable.laid]at a;cases b:SetTable.layClean _ _ with
    | none=>rw[b]at a;cases a
    | some f=>rw[b]at a;injection a with a;injection a with e g;rw[<-e]
   .rfl
theorem nE(t:SetTable)(c:Array _)(n:Nat)(d:t.plain=false):(relayAll t c n).2.1.plain=false:=by
 unfold relayAll;cases a:t.relaid _ n with
 | none=>rfl
 | some p=>
   have%[t'|e]:=p;simp only
   split
   .simp only[SetTable.relaid,SetTable.laid]at a;cases b:SetTable.layClean _ _ with
    | none=>rw[b]at a;cases a
    | some g=>rw[b]at a;injection a with a;injection a with f h;exact f▸d
   .rfl
noncomputable def aS(w:World):Bool:=w.params.followText "set-order"
def bu(w:World)(a:Addr)(ks:ZB)(h:Heap):Prop:=
 ∃o b c t ss,h.get? a=some o/\o.ExactSet/\o.data= .set b c t/\StrsAre (b.toList.map (·.2)) ss/\ss.Perm ks/\ks.Nodup/\(∀e∈b.toList,∃z u,e=(hashStr w z,.str z u))/\b.size<scanBound/\t.fits b.size=true/\(b.size≠0->t.plain=false)/\t.led=!aS w
theorem qt(h:∀e∈l,∃z u,e=(hashStr w z,.str z u)):ElemsOf (aN prog w) l:=λe a=>by
 have%[z,u|rfl]:=h e a;exact%[%[Sum.inr z,dI z u|rfl]|rfl]
theorem ee:∀{vs:ZG} {ss:ZB} {z:Str},StrsAre vs ss->((∃u,Value.str z u∈vs)↔z∈ss)
 | _,_,z,.nil=>by simp
 | _,_,z,.cons x t h=>by
   have b:=ee (z:=z) h
   constructor
   .rintro⟨u,a⟩;rcases mem_cons.mp a with e|e
    .injection e with c _;exact c▸Zl
    .exact Zj _ (b.mp %[u|e])
   .intro d;rcases mem_cons.mp d with e|e
    .exact e▸%[t|Zl]
    .have%[u|a]:=b.mpr e;exact%[u|Zj _ a]
theorem iX:∀{vs ws:ZG} {ss ts:ZB},StrsAre vs ss->StrsAre ws ts->StrsAre (vs++ws) (ss++ts)
 | _,_,_,_,.nil,h=>h
 | _,_,_,_,.cons x t h,h'=> .cons x t (iX h h')
theorem bE:∀{vs:ZG} {ss:ZB},StrsAre vs ss->vs.length=ss.length
 | _,_,.nil=>rfl
 | _,_,.cons x t h=>by rw[Zq,Zq,bE h]
theorem ci(h:StrsAre vs ss)(p:ws.Perm vs):∃ts,StrsAre ws ts/\ts.Perm ss:=by
 refine%[ws.map strOf,strsAre_map ws λv a=>h.all v (p.mem_iff.mp a)|?_];have:=p.map strOf;rwa[h.strs]at this
section
#where
variable{a:Addr}
theorem bu.stored{h:Heap}{o:Obj}{i b:Array (Int×Value)}{t t':SetTable}(j:h.get? a=some o)(c:o.ExactSet)(d:o.data= .set i f t)(l:StrsAre (b.toList.map (·.2)) ss)(m:ss.Perm ks)(n:ks.Nodup)
 (p:∀e∈b.toList,∃z u,e=(hashStr w z,.str z u)) (r:b.size<scanBound) (v:t'.fits b.size=true) (y:t'.plain=false) (B:t'.led=!aS w):
 (h.update a (Obj.putSet b t')).get? a=some {o with data:= .set b (f+1) t'}/\bu w a ks (h.update a (Obj.putSet b t')):=by
 have g:=by
  have q:=get?_update_self (Obj.putSet b t') j (by rw[putSet_of b t' d];rfl);rwa[putSet_of b t' d]at q
 exact%[g,_,b,f+1,t',ss,g,c,rfl,l,m,n,p,r,v,λ_=>y|B]
theorem tJ{g:Bool->Sem Unit}(N:∀(b:Bool) (h:Shared) (q:Unit->Shared->Prop),q () h->↥A (g b) q E h){m:Bool}{R:Option Bool->Shared->Prop}(r:s.heap.get? a=some o)(i:o.ExactSet)(v:o.data= .set es ep t)
 (y:StrsAre (c.toList.map (·.2)) ss) (B:ss.Perm ks) (C:ks.Nodup) (G:∀e∈c.toList,∃z u,e=(hashStr w z,.str z u)) (j:c.size<scanBound) (O:d.fits c.size=true) (H:d.plain=false) (I:d.led=!aS w)
 (J:∀h',SameBut a s.heap h'->bu w a ks h'->R (some true) (s>>>h')):
 ↥A (do
  storeSet a c d
  if(!m&&d.tooFull)=true then do
   g (relayAll d c (SetTable.grown c.size)).2.2
   storeSet a (relayAll d c (SetTable.grown c.size)).1 (relayAll d c (SetTable.grown c.size)).2.1
   pure (some true)
  else pure (some true)) R E s:=by
 have%[g1|Q]:=bu.stored r i v y B C G j O H I;have M:=SameBut.update s.heap a (Obj.putSet c d);refine Z2 (wpAny_storeSet_of r v ?_ (fits_of_scanBound j))
 split
 .have p:=relayAll_perm d c (SetTable.grown c.size);have f:=relayAll_fits d c (SetTable.grown c.size);have l:=rH d c (SetTable.grown c.size);have pl:=nE d c (SetTable.grown c.size) H
  generalize relayAll d c _=L at p f l pl ⊢
  have%[n,t3|gv]:=L;have z:n.size=c.size:=by rw[<-Za,p.length_eq,Za]
  have%[ts,T|U]:=ci y (p.map _);exact Z2 (N _ _ _ (Z2 (wpAny_storeSet_of g1 rfl (Z3 (J _ (M.trans (SameBut.update _ a _)) (bu.stored g1 i rfl T (U.trans B) C (λe Y=>G e (p.mem_iff.mp Y)) (by rw[z];exact j) f pl (l.trans I)).2)) (fits_of_scanBound (by rw[z];exact j)))))
 .exact Z3 (J _ M Q)
theorem kc{ks:ZB}(hS:bu w a ks s.heap)(r:ks.length+1<scanBound)
 (hQ:∀h' b,SameBut a s.heap h'->bu w a (if z∈ks then ks else ks++[z]) h'->Q b (s>>>h')):↥A (setAddHashed a (.str z tk) (hashStr w z)) Q E s:=by
 have%[o,c,ep,t,ss,C,v,G,g,hp,H,h,hb,hf,ab|d]:=hS;have hn:c.size=ks.length:=by
  have q:=bE g;rw[Z5,Za,hp.length_eq]at q;exact q
 have hE:ElemsOf (aN prog w) c.toList:=qt h;have I:(aN prog w).is (Sum.inr z) (.str z tk)=true:=dI z tk;unfold setAddHashed setAddHashedIn;refine wpAny_holding (Z2 (wpAny_setState_of C G hf ?_));dsimp only;rw[byScan_of (knd:=aN prog w) rfl hb hE];simp only[↓reduceIte];unfold setAddByScan;refine Z2 (Z2 (wpAny_rule (Z2 (wpAny_setScan_of I C G hf hE ?_))));have J:(∃e∈c.toList,(aN prog w).is (Sum.inr z) e.2=true)↔z∈ks:=by
  rw[<-hp.mem_iff,<-ee g]
  constructor
  .rintro⟨e,l,q⟩;have%[y,u|rfl]:=h e l;have q:jz (Sum.inr z) (Value.str y u)=true:=q;rcases aY q with⟨i,t',q1,m⟩|⟨y',t',q1,m⟩
   .cases m
   .cases q1;exact%[u|Xc ⟨_,l,by injection m with e1 _;rw[e1]⟩]
  .rintro⟨u,hu⟩;have%[e,l|q]:=Xb hu;exact%[e,l|q▸dI z u]
 cases hr:List.findIdx? _ c.toList with
 | some j=>
   have%[hj,ae|_]:=List.findIdx?_eq_some_iff_getElem.mp hr;have hz:=J.mp %[c.toList[j],Y6 hj|ae];have q:=hQ s.heap false (SameBut.refl a s.heap) ((if_pos hz)▸%[o,c,ep,t,ss,C,v,G,g,hp,H,h,hb,hf,ab|d]);exact Z3 (Z3 q)
 | none=>
   have hz:z∉ks:=λq=>by
    have%[e,l|m]:=J.mpr q;have:=List.findIdx?_eq_none_iff.mp hr e l;rw[m]at this;cases this
   rw[if_neg hz]at hQ;have M:=layNew_perm t c (hashStr w z) (.str z tk);have lf:=layNew_fits t c (hashStr w z) (.str z tk);have ll:=vR t c (hashStr w z) (.str z tk)
   generalize hL:layNew t c _ _=L at M lf ll
   have%[B,t1,aj|ai]:=L;rw[toList_push]at M;have gone:∀b f Q',Q' () f->↥A (match b with|true=>rule "set.scan.the-table-gave-way"|false=>pure ()) Q' E f:=λb f Q' q=>by
    cases b
    .exact Z3 q
    .exact wpAny_rule q
   have n:∀e∈B.toList,∃z u,e=(hashStr w z,.str z u):=λe l=>by
    rcases X9 (M.mem_iff.mp l)with q|q
    .exact h e q
    .rw[Xa q];exact%[z,tk|rfl]
   have q1:StrsAre ((c.toList++[(hashStr w z,Value.str z tk)]).map (·.2)) (ss++[z]):=by
    rw[Zc];exact iX g (.cons z tk .nil)
   have%[ts,m|q3]:=ci q1 (M.map _);have N:=q3.trans (hp.append_right _);have p:=mP H hz;have ag:B.size=c.size+1:=by rw[<-Za,M.length_eq,Z8,Za];rfl
   have O:B.size<scanBound:=by rw[ag,hn];exact r
   have fin:∀h',SameBut a s.heap h'->bu w a _ h'->↥A _ Q E _:=λh' T U=>Z3 (hQ h' true T U)
   refine Z2 (gone _ _ _ ?_);cases Y:t1.plain with
   | true=>
     exact Z2 (Z3 (tJ gone C v G m N p n O (SetTable.fits_plain_off lf) rfl (ll.trans d) λh' T U=>fin h' T U))
   | false=>
     exact tJ gone C v G m N p n O lf Y (ll.trans d) λh' T U=>fin h' T U
theorem tK(d:bu w a ks s.heap)(c:ks.length+1<scanBound)
 (e:∀h' b,SameBut a s.heap h'->bu w a (if z∈ks then ks else ks++[z]) h'->Q b {s with heap:=h',toks:=s.toks+1}):↥A (setAdd a (.str z tk)) Q E s:=by
 exact wpAny_holding (Z2 (wpAny_pyHash_str (kc d c e)))
end
noncomputable def mE(ks:ZB)(z:Str):ZB:=if z∈ks then ks else ks++[z]
noncomputable def aM(ss:ZB):ZB:=ss.foldl mE []
theorem A5(ks:ZB)(z:Str):(mE ks z).length<=ks.length+1:=by
 unfold mE;split
 .lia
 .exact Z8▸Zh _
theorem A6:y∈mE ks z↔y∈ks\/y=z:=by
 unfold mE;by_cases h:z∈ks
 .rw[if_pos h]
  simp_all
 .rw[if_neg h,Ym,Yr]
theorem vS(h:ks.Nodup):(mE ks z).Nodup:=by
 unfold mE;by_cases a:z∈ks
 .rw[if_pos a];exact h
 .rw[if_neg a];exact mP h a
theorem tL:∀{ss ks:ZB} {y:Str},y∈ss.foldl mE ks↔y∈ks\/y∈ss
 |[],ks,y=>by simp
 | z::r,ks,y=>by
   rw[foldl_cons,tL,A6,Yp]
   grind
theorem nF:∀{ss ks:ZB},ks.Nodup->(ss.foldl mE ks).Nodup
 |[],_,h=>h
 | z::r,ks,h=>by
   rw[foldl_cons];exact nF (vS h)
theorem bB:y∈aM ss↔y∈ss:=by unfold aM;rw[tL];simp
theorem fk(ss:ZB):(aM ss).Nodup:=nF Yv
theorem tM:∀(ss ks:ZB),(ss.foldl mE ks).length<=ks.length+ss.length
 |[],ks=>by simp
 | z::r,ks=>by
   have a:=tM r (mE ks z);have b:=A5 ks z;rw[foldl_cons,Zq]
   lia
theorem bu.keep(S:bu w a ks h)(k:∀o,h.get? a=some o->h'.get? a=some o):bu w a ks h':=by
 have%[o,b,c,t,ss,d|r]:=S;exact%[o,b,c,t,ss,k o d|r]
theorem tN(val:Nat->Str)(i:Nat):aM ((List.range (i+1)).map val)=mE (aM ((List.range i).map val)) (val i):=by
 unfold aM;rw[range_succ,Zc,List.foldl_append];rfl
section
variable{prog:Program}{w:World}{A:Around}{R:Result->Shared->Prop}{I:Addr}{fp wr:List Addr}{G:Array GenState->Array GenState->Prop}{n:Nat}{P:Nat->Value->Prop}{St:Nat->Shared->Prop}
theorem pA(W:WalksS prog w A.in1 I fp wr G n P St)(S:Addr)(c:S∉fp)(val:Nat->Str)(d:∀i v,P i v->∃t,v= .str (val i) t)(a:n+1<scanBound):
 ∀(k i:Nat) (s:Shared),n-i=k->i<=n->St i s->bu w S (aM ((List.range i).map val)) s.heap->
  (∀s',Moved (S::wr) G s s'->bu w S (aM ((List.range n).map val)) s'.heap->R (.ok (.ret .none)) s')->codeAny (model prog w) A (.builtin "set.update.loop" %[[.ref S,.ref I]|[]]) R s:=by
 have f:S∉wr:=λh=>c (W.sub _ h)
 have more:∀b∈wr,b∈S::wr:=λb a=>Zj _ a
 intro k
 induction k with
 | zero=>
   intro i s y hi st l fin;have e:i=n:=by lia
   subst e;refine codeAny_builtin F.entry_set_update_loop ?_;rw[Around.under_plainId F.plain_set_update_loop _];show wpAny _ A.in1 (pyNext (.ref I)>>= _) _ _ s;refine Z2 (W.done s _ _ st λg j=>?_);show wpAny _ A.in1 (ret Value.none) _ _ g;exact Z3 (fin g (j.mono more) (l.keep λo e=>j.heap S o f e))
 | succ k z=>
   intro i s y hi st l fin;have lt:i<n:=by lia
   refine codeAny_builtin F.entry_set_update_loop ?_;rw[Around.under_plainId F.plain_set_update_loop _];show wpAny _ A.in1 (pyNext (.ref I)>>= _) _ _ s;refine Z2 (W.item i s _ _ lt st λv g pv m j=>?_);have%[t|rfl]:=d i v pv;have room:(aM ((List.range i).map val)).length+1<scanBound:=by
    have q:=tM ((List.range i).map val) [];rw[Z5,Yd]at q;unfold aM;simp only[length_nil,zero_add]at q
    lia
   refine Z2 (wpAny_holding (tK (l.keep (h':=g.heap) λo e=>j.heap S o f e) room λE b u p=>Z3 %[plainId_quiet F.plain_set_update_loop _|z (i+1) _ ⋯ lt (W.frame _ g _ _ m (Y9 _) λb a o e=>?_) (by rw[tN];exact p) λB C r=>?_]))
   .rw[u.2 b (λq:b=S=>c (q▸a))];exact e
   .refine fin B (Moved.trans W.gtrans ((j.mono more).then_heap (Y9 _) λb o a e=>?_) C) r;rw[u.2 b (λq:b=S=>a (q▸Zl))];exact e
end
section
#where
noncomputable abbrev aT(w:World):Obj:={cls:= .type "set",dict:=none,data:= .set #[] 0 (.fresh 0 0 (!aS w))}
theorem tO(a:Value)(h:Q₁ (.ref ⇑s) (s>>>s.heap.push (aT w))):
 codeAny (model prog w) A (.call (.builtin "set.__new__") %[[.type "set",a]|[]]) (wants Q₁ E) s:=by
 refine codeAny_of_tree ?_;show wpAny _ A.in1 _ _ _ s;refine Z2 (wpAny_of_eq (PySem.F.newCall_set_1 a) (Z3 %[plainId_quiet PySem.F.plain_set_new _|codeAny_builtin PySem.F.entry_set_new ?_]));unfold Builtin.«set.__new__» Builtin.Frozenset.newClass;have b:=sub_set_self;have%[c,g,d,tk|os]:=s;dsimp only
 wp_walk
 refine wpAny_askSetting (Z3 ?_);dsimp only;simp only[newObj];exact Z2 (wpAny_alloc (Z3 (Z3 h)))
theorem bu.empty(e:h.get? a=some (aT w)):bu w a [] h:=
 %[_,#[],0,_,[],e,%[rfl,rfl|rfl],rfl,.nil,.nil,Yv,λe b=>by simp at b,by decide,rfl,λq=>absurd rfl q|rfl]
theorem tP:∀{vs:ZG} {ss:ZB},StrsAre vs ss->∀(i:Nat) v,vs[i]? =some v->∃t,v= .str (ss.getD i (Str.ofString "")) t
 | _,_,.nil,i,v,h=>by simp at h
 | _,_,.cons x t a,0,v,h=>by simp at h;exact%[t|by rw[<-h];rfl]
 | _,_,.cons x t a,i+1,v,h=>by
   have%[u|e]:=tP a i v (h);exact%[u|by rw[e];rfl]
theorem vT(ss:ZB):(List.range ss.length).map (λi=>ss.getD i (Str.ofString ""))=ss:=by
 apply ext_getElem
 .simp
 .intro i a b
  simp_all
theorem pB(hh:A.handled=none)(hl:s.heap.IsList l a)(hi:StrsAre a.toList ss)(hb:a.size+1<scanBound)
 (hQ:∀(h':Heap) (tk:Nat),bu w ⇑s (aM ss) h'->(∀b o,s.heap.get? b=some o->h'.get? b=some o)->Q (.ref ⇑s) {s with heap:=h',toks:=tk}):
 ↥A (call (.type "set") [.ref l]) Q E s:=by
 have%[c,tl|T]:=called_set.mro;have B:=called_set.made;have U:=called_set.sub;refine wpAny_call (codeAny_of_tree ?_);show wpAny _ _ (callAny (.type "set") _) _ _ _;refine Z3 %[Code.quiet_builtin _ (by decide +kernel)|codeAny_builtin F.entry_type_call ?_];rw[Around.under_plain (weight_type_call_type "set" [.ref l] []) rfl];have ae:=called_set.notType;have ag:=called_set.canCreate;have ai:=PySem.F.typeCall_set_1 (.ref l)
 repeat any_goals first|assumption|wp_step
 refine codeAny_mono (tO (.ref l) (E:=E) (Q₁:=λobj g=>obj= .ref ⇑s/\g=(s>>>s.heap.push (aT w))) %[rfl|rfl]) λr g C=>?_
 cases r with
 | error e=>exact C
 | ok fl=>
   cases fl with
   | ret obj=>
     have%[rfl|rfl]:=C;have Y:(s.heap.push (aT w)).get? ⇑s=some (aT w):=Zi _ rfl;have tS:Shared.TypeIs (s>>>s.heap.push (aT w)) (.ref ⇑s) "set":=%[_,Y|rfl]
     have aj:=called_set.init.lookup;have al:=called_set.init.bind (.ref ⇑s)
     repeat any_goals first|assumption|wp_step
     refine codeAny_mono (codeAny_call_builtin (R:=wants (λr h=>r= .none/\∃h' tk,h={s with heap:=h',toks:=tk}/\bu w ⇑s (aM ss) h'/\(∀b o,s.heap.get? b=some o->h'.get? b=some o)) E) called_set.init.plain F.entry_set_init (check_set_init_1 tS ?_)) λn h d=>?_
     .have%[ol,gl,cl,nl|dl]:=hl;have%[ab,j,G|f]:=ol;simp only at cl dl;subst cl;subst dl;have H:(s.heap.push (aT w)).get? l=some {cls:= .type "list",dict:=j,data:= .seq a nl,slots:=f}:=Z6 _ gl;have an:=PySem.F.sub_list_set;have as:=PySem.F.sub_list_frozenset;have a0:(Value.type "list"==Value.type "dict")=false:=by decide
      have p:(s.heap.push (aT w)).IsList l a:=%[_,H,rfl,nl|rfl]
      unfold Builtin.«set.__init__»;unfold noKeywords;unfold Builtin.Frozenset.updateFrom
      generalize I:pyIter=PI
      wp_walk
      subst I;refine wpAny_pyIter_list p (Z2 (wpAny_runValue ?_));have q:l<⇑s:=Zt gl;have h3:A.in1.in1.in1.handled=none:=by simp[hh]
      have J:(s.heap.push (aT w)).objs.size=⇑s+1:=Zp ..;have L:l≠(s.heap.push (aT w)).objs.size:=by rw[J];exact Zr (Yh q)
      have M:⇑s∉[(s.heap.push (aT w)).objs.size,l]:=by
       rw[J];simp only[Yp,Yx,or_false,not_or];exact%[Zr (Yi _)|Ys q]
      have t:a.size=ss.length:=by rw[<-Za];exact bE hi
      refine pA ((Walks.list h3 _ l L a).toS) ⇑s M (λi=>ss.getD i (Str.ofString "")) (λi v hv=>tP hi i v (by rw[getElem?_toList];exact hv)) hb (a.size-0) 0 _ ⋯ (X2 _)
       %[%[_,Zi _ rfl,rfl|rfl]|p.push _] (bu.empty (Z6 _ Y)) ?_
      intro s3 y z;rw[t,vT]at z;have%[h',g',d',N|O]:=s3;have eg:g'=s.gens:=y.gens;have ed:d'=s.drawn:=y.drawn;have eo:O=s.os:=y.os;subst eg;subst ed;subst eo;refine Z3 ?_;show wpAny _ _ (ret Value.none) _ _ _;refine Z3 %[rfl,h',N,rfl,z|λb o e=>?_];have u:=Zt e;refine y.heap b o ?_ (Z6 _ (Z6 _ e));simp only[Yp,Yx,or_false,not_or,J];exact%[Zr u|Zr (Yh u)]
     .cases n with
      | error e=>exact d
      | ok m=>
        cases m with
        | ret r=>
          have%[rfl,h',tk,rfl,z|k3]:=d
          repeat any_goals first|assumption|wp_step
          exact hQ _ _ z k3
        | _=>exact d.elim
   | _=>exact C.elim
end
section
variable{X:Cx}{K:ZA}
noncomputable def ke(w:World)(a:Addr)(ks:ZB):HO:= .ext (bu w a ks)
theorem A7(b:X.calm=true):bW X (.type "set") (λxs H Q=>∃p ss,xs=[.ref p]/\SqL X.K H p (ss.map V.str)/\ss.length<=4000/\∀l,H l=none->Q (.ref l) (upd H l (ke X.w l (aM ss)))):=by
 intro pins s m H xs us Q I r h;have%[p,ss,rfl,c,n|q]:=h;have%[u,rfl|d]:=di r;cases d;have%[its,e,pl|t]:=I.list c;have a:=hJ e;have f:its.toArray.size=ss.length:=bE a;refine pB (I.ok.hd b) pl.isList (a) (by rw[f];show ss.length+1<4096;lia) λh' tk S k=>%[.ref ⇑s,_,I.laid (o:=ke X.w ⇑s _) k (Zh _) %[S,?_|λv w g i=>g.keep i],rfl|q _ I.fresh]
 have%[o,_,_,_,_,j|_]:=S;exact%[o|j]
theorem A8(h:X.K=K)(hw:X.w=w)(a:X.calm=true):cB X (.type "set") (λxs H Q=>∃p ss,xs=[.ref p]/\SqL K H p (ss.map V.str)/\ss.length<=4000/\∀l,H l=none->Q (.ref l) (upd H l (ke w l (aM ss)))):=by subst h;subst hw;exact⟨A7 a⟩
end
theorem hZ:∀{xs:List a} {i:Nat} (h:i<xs.length),(xs[i]::xs.eraseIdx i).Perm xs
 | x::r,0,_=>by simp
 | x::r,i+1,h=>by
   exact(List.Perm.swap _ _ _).trans (.cons _ (hZ (by simpa using h)))
section
#where
theorem yP(a:n≠0)(h:∀i d,i<n->Q i {s with drawn:=d}):↥A (choose b n) Q E s:=by
 intro c p _;exact%[a|h _ _ (mod_lt _ (Nat.pos_of_ne_zero a))]
theorem rJ:∀(n:Nat) (xs:List b) (s:Shared) (Q:List b->Shared->Prop),xs.length<=n->(∀ys d,ys.Perm xs->Q ys {s with drawn:=d})->↥A (drawOrder n xs) Q E s
 | 0,xs,s,Q,a,h=>by
   have e:=length_eq_zero_iff.mp (le_zero.mp a);subst e;exact Z3 (h [] s.drawn .nil)
 | n+1,[],s,Q,a,h=>Z3 (h [] s.drawn .nil)
 | n+1,x::r,s,Q,a,h=>by
   unfold drawOrder;refine Z2 (yP ∅ λi d hi=>?_);rw[(Z4 hi)];exact Z2 (rJ n _ _ _ (by rw[List.length_eraseIdx];simp only[hi];simp_all) λys c p=>Z3 (h _ c ((List.Perm.cons _ p).trans (hZ hi))))
end
theorem xj(next:Nat->Nat):∀(fuel k:Nat) (left:List b) (a:Array b),left.length<=fuel->(pickOrder.go next fuel k left a).toList.Perm (a.toList++left)
 | 0,k,left,a,h=>by
   have e:=length_eq_zero_iff.mp (le_zero.mp h);subst e;rw[Zw];exact .refl _
 | fuel+1,k,[],a,h=>by
   unfold pickOrder.go;simp
 | fuel+1,k,x::r,a,h=>by
   unfold pickOrder.go;have hi:next k%(x::r).length<(x::r).length:=mod_lt _ ∅;rw[Z4 hi];refine(xj next fuel _ _ _ (by rw[List.length_eraseIdx];simp_all)).trans ?_;rw[toList_push,Zd];exact(List.Perm.refl _).append (hZ hi)
theorem qu(next:Nat->Nat)(xs:Array a):(pickOrder next xs).toList.Perm xs.toList:=by
 have:=xj next xs.size 0 xs.toList #[] ∅;simpa [pickOrder]using this
theorem qv(p j:Nat):SetTable.below #[p] j=if p<j then 1 else 0:=by
 unfold SetTable.below;simp only[Zo,Zq];unfold SetTable.below.go;simp
 split<;>(rfl)
theorem vU(j:Nat):SetTable.below #[] j=0:=rfl
theorem qw{a:Type}{xs:Array a}(h:xs.size=1):∃p,xs= #[p]:=by
 obtain⟨l⟩:=xs
 match l,h with
 |[p],_=>exact%[p|rfl]
def SIt(w:World)(I S T:Addr)(o:Obj)(b:Array (Int×Value))(c:Nat)(t:SetTable)(a:ZG)(i:Nat)(h:Heap):Prop:=
 h.get? S=some o/\∃first,h.get? I=some {cls:= .type "set_iterator",dict:=none,data:= .fields #[first,rawInt i,.ref S,rawInt b.size,rawInt c],slots:= #[]}/\
  ((aS w=true/\first=rawInt 0/\a=(pickOrder (w.params.setOrder S c) b).toList.map (·.2))\/
   (aS w=false/\first= .ref T/\T≠I/\∃ps:List Nat,h.get? T=some {cls:= .type "tuple",data:= .seq (ps.map λ(i:Nat)=>rawInt i).toArray}/\ps.length=a.length/\∀(j p:Nat),ps[j]? =some p->∃e,b[p]? =some e/\a[j]? =some e.2)\/
   (aS w=false/\b.size<=1/\a=b.toList.map (·.2)/\(i=0->first=rawInt 0)/\(i=1->∃p:Nat,t.place[0]? =some p/\first=rawInt (p+1))))
theorem SIt.is{w:World}{I S T:Addr}{o:Obj}{b:Array _}{c:Nat}{t:SetTable}{a:ZG}{i:Nat}{s:Shared}(h:SIt w I S T o b c t a i s.heap):s.TypeIs (.ref I) "set_iterator":=by
 have%[_,f,d|_]:=h;exact%[_,d|rfl]
section
#where
variable{I S T:Addr}{o:Obj}{es:Array (Int×Value)}{ep:Nat}{t:SetTable}{ord:ZG}
theorem vV{i:Nat}{v:Value}{Q:Option Value->Shared->Prop}(y:o.data= .set es ep t)(h:t.fits es.size=true)(z:t.led=!aS w)(j:S≠I)(st:SIt w I S T o es ep t ord i s.heap)(f:ord[i]? =some v)(hn:ord.length=es.size)
 (U:∀h',SIt w I S T o es ep t ord (i+1) h'->SameBut I s.heap h'->Q (some v) (s>>>h')):↥A (pyNext (.ref I)) Q E s:=by
 have hT:=st.is;have%[g,first,N|m]:=st;unfold pyNext;refine Z2 (wpAny_attempt (wpAny_callSpecial?_slot (name:=Str.ofString "__next__") hT bS (wpAny_call_entry bS hT gH ?_ (iJ _))));unfold Builtin.«set_iterator.__next__»;refine Z2 (m:=slotArgs _ _ _) (Z3 ?_);refine Z2 (wpAny_fieldsOf N rfl ?_);show wpAny _ _ (setEntries S>>= _) _ _ _;refine Z2 (wpAny_setEntries_of g y h ?_);rw[if_neg ∅];rcases m with⟨c,rfl,B⟩|⟨c,rfl,C,ps,G,Y,H⟩|⟨c,h1,B,f0,f1⟩
 .show wpAny _ _ (setNext S 0 i ep>>= _) _ _ _;refine Z2 ?_;unfold setNext;refine Z2 (wpAny_setState_of g y h ?_);refine Z2 (Z2 (wpAny_askSetting (Z3 ?_)));show wpAny _ _ (if aS w=true then _ else _) _ _ _;rw[if_pos c];dsimp only;rw[if_neg (show ¬ ((ep != ep)=true) by simp)];refine Z2 ?_;unfold setWalk;refine Z2 (wpAny_setState_of g y h ?_);refine Z2 (Z2 (wpAny_askSetting (Z3 ?_)));show wpAny _ _ (if aS w=true then _ else _) _ _ _;rw[if_pos c];refine Z2 (wpAny_askSetting (Z3 (Z3 ?_)));have d:(pickOrder (w.params.setOrder S ep) es)[i]?.map (·.2)=some v:=by
   rw[B]at f;simpa using f
  cases u:(pickOrder (w.params.setOrder S ep) es)[i]? with
  | none=>rw[u]at d;cases d
  | some e=>
    rw[u]at d;have J:e.2=v:=by simpa using d
    show wpAny _ _ (match((pickOrder (w.params.setOrder S ep) es)[i]?).map λe=>(e.2,0)with|some (x,next)=>_|none=>_) _ _ _;rw[u];refine Z2 (wpAny_setField_rec N ∅ λg1 b a=>?_);refine Z2 (wpAny_setField_rec (s:=(s>>>g1)) b ∅ λg2 l n=>?_);rw[J];have L:SameBut I s.heap g2:=a.trans n;refine Z3 %[v,rfl|Z3 (U g2 %[(L.2 S j).trans g,_,l|.inl %[c,rfl|B]] L)]
 .refine Z2 (wpAny_seqItems G rfl ?_);have hi:i<ord.length:=(X8 f).1;have ab:i<ps.length:=by lia
  have%[e,O|ae]:=H i ps[i] ∅;have J:e.2=v:=by rw[ae]at f;exact Z9 f
  have M:(ps.map λ(i:Nat)=>rawInt i).toArray[(i:Int).toNat]? =some (rawInt ps[i]):=by simp[ab]
  dsimp only;rw[M];show wpAny _ _ (setNextDrawn S ps[i] ep>>= _) _ _ _;refine Z2 ?_;unfold setNextDrawn;refine Z2 (wpAny_setState_of g y h ?_);dsimp only;rw[if_neg (show ¬ ((ep != ep)=true) by simp),O];refine Z3 ?_;refine Z2 (wpAny_setField_rec N ∅ λg1 b a=>?_);rw[J];exact Z3 %[v,rfl|Z3 (U g1 %[(a.2 S j).trans g,_,b|.inr (.inl %[c,rfl,C,ps,(a.2 T C).trans G,Y|H])] a)]
 .have hi:i<ord.length:=(X8 f).1;have i0:i=0:=by lia
  subst i0;have f0:=f0 rfl;subst f0;have e1:es.size=1:=by lia
  have pz:t.place.size=1:=by
   simp only[SetTable.fits,Zu,beq_iff_eq,decide_eq_true_eq]at h;rw[h.1,e1]
  have%[p|u]:=qw pz;obtain⟨e,O⟩:∃e,es[0]? =some e:=%[es[0]|by simp]
  have J:e.2=v:=by
   rw[B]at f;have:(es[0]?).map (·.2)=some v:=by simpa using f
   rw[O]at this;simpa using this
  show wpAny _ _ (setNext S 0 0 ep>>= _) _ _ _;refine Z2 ?_;unfold setNext;refine Z2 (wpAny_setState_of g y h ?_);show wpAny _ _ (if aS w=true then _ else _) _ _ _;rw[if_neg (by rw[c];decide)];dsimp only
  split
  .rename_i r
   change (!t.plain&&decide (es.size>1))=true at r;rw[e1]at r;simp at r
  .refine Z2 (m:=(if(!t.led&&!es.isEmpty)=true then unsupported "set:maker-not-led" else pure ())) ?_;rw[z,c];refine Z3 ?_;rw[u,qv];simp only[Yw,↓reduceIte,O];refine Z3 ?_;show wpAny _ _ (setField (.ref I) 0 (rawInt ((p+1:Nat):Int))>>= _) _ _ _;refine Z2 (wpAny_setField_rec N ∅ λg1 b a=>Z2 (wpAny_setField_rec (s:=(s>>>g1)) b ∅ λg2 l n=>?_));rw[J];have L:SameBut I s.heap g2:=a.trans n;exact Z3 %[v,rfl|Z3 (U g2 %[(L.2 S j).trans g,_,l|.inr (.inr %[c,⋯,B,λq=>by lia|λ_=>%[p,by rw[u];rfl|rfl]])] L)]
theorem tQ{c:Type}{Q:c->Shared->Prop}(d:A.handled=none)(f:∀h' e,(∀b o,s.heap.get? b=some o->h'.get? b=some o)->(∃o,h'.get? e=some o/\o.cls= .type "StopIteration")->E (.ref e) (s>>>h')):
 ↥A (newExc (.type "StopIteration") []>>= λe=>(raiseNew e)) Q E s:=by
 refine Z2 ?_;refine Z2 (wpAny_newObj_type ?_ (by size_fits));refine Z2 (wpAny_of_eq (a:=Value.none) (by first|rfl|lia) (wpAny_newObj_type (wpAny_raiseNew_none d (f _ _ (λb o e=>Z6 _ (Z6 _ e)) %[_,Zi _ rfl|rfl])) (by size_fits)))
theorem yQ{i:Nat}{Q:Option Value->Shared->Prop}(hh:A.handled=none)(u:o.data= .set es ep t)(h:t.fits es.size=true)(l:t.led=!aS w)(st:SIt w I S T o es ep t ord i s.heap)(hi:i=ord.length)(hn:ord.length=es.size)
 (hQ:∀h',(∀b o,b≠I->s.heap.get? b=some o->h'.get? b=some o)->Q none (s>>>h')):↥A (pyNext (.ref I)) Q E s:=by
 have U:=st.is;have%[y,first,z|m]:=st;have G:A.in1.handled=none:=hh;have fin:∀(g:Heap) (Y:Fin->Shared->Prop),SameBut I s.heap g->↥A.in1 (newExc (.type "StopIteration") []>>= λe=>(raiseNew e:Sem Fin)) Y (λe s'=>↥A (do
  if(<-isInstance e (.type "StopIteration"))then pure none else throw e) Q E s') (s>>>g):=λg Y sb=>by
  refine tQ G λh' e k ⟨oe,he,hc⟩=>?_
  refine Z2 (wpAny_isInstance (T:="StopIteration") (b:=true) %[oe,he|hc] isSubtype_stop (Z3 (hQ h' λb o n q=>k b o ((sb.2 b n).trans q))))
 unfold pyNext;refine Z2 (wpAny_attempt (wpAny_callSpecial?_slot (name:=Str.ofString "__next__") U bS (wpAny_call_entry bS U gH ?_ (iJ _))));unfold Builtin.«set_iterator.__next__»;refine Z2 (m:=slotArgs _ _ _) (Z3 ?_);refine Z2 (wpAny_fieldsOf z rfl ?_);show wpAny _ _ (setEntries S>>= _) _ _ _;refine Z2 (wpAny_setEntries_of y u h ?_);rw[if_neg ∅];rcases m with⟨j,rfl,eo⟩|⟨j,rfl,ab,ps,H,ae,ag⟩|⟨j,h1,eo,J,L⟩
 .show wpAny _ _ (setNext S 0 i ep>>= _) _ _ _;refine Z2 ?_;unfold setNext;refine Z2 (wpAny_setState_of y u h ?_);refine Z2 (Z2 (wpAny_askSetting (Z3 ?_)));show wpAny _ _ (if aS w=true then _ else _) _ _ _;rw[if_pos j];dsimp only;rw[if_neg (show ¬ ((ep != ep)=true) by simp)];refine Z2 ?_;unfold setWalk;refine Z2 (wpAny_setState_of y u h (Z2 (Z2 (wpAny_askSetting (Z3 ?_)))));show wpAny _ _ (if aS w=true then _ else _) _ _ _;rw[if_pos j];refine Z2 (wpAny_askSetting (Z3 (Z3 ?_)));have B:(pickOrder (w.params.setOrder S ep) es)[i]? =none:=by
   rw[Array.getElem?_eq_none_iff,hi,eo,Z5,Za];exact Zh _
  show wpAny _ _ (match((pickOrder (w.params.setOrder S ep) es)[i]?).map λe=>(e.2,0)with|some (x,next)=>_|none=>_) _ _ _;rw[B];show wpAny _ _ (setField (.ref I) 2 .none>>= _) _ _ _;exact Z2 (wpAny_setField_rec z ∅ λg1 _ c=>fin g1 _ c)
 .show wpAny _ _ (seqItems? (.ref T)>>= _) _ _ _;refine Z2 (wpAny_seqItems H rfl ?_);have r:(ps.map λ(i:Nat)=>rawInt i).toArray[(i:Int).toNat]? =none:=by simp;lia
  dsimp only;rw[r];exact Z2 (wpAny_setField_rec z ∅ λg1 M c=>Z2 (wpAny_setField_rec M ∅ λg2 _ N=>fin g2 _ (c.trans N)))
 .have done:∀slot:Nat,first=rawInt slot->SetTable.below t.place slot=es.size->↥A.in1 (setNext S slot i ep) (λa s'=>a=none/\s'=s) (λ_ _=>False) s:=by
   intro slot _ n;unfold setNext;refine Z2 (wpAny_setState_of y u h ?_);show wpAny _ _ (if aS w=true then _ else _) _ _ _;rw[if_neg (by rw[j];decide)];dsimp only
   split
   .rename_i d
    change (!t.plain&&decide (es.size>1))=true at d;have:decide (es.size>1)=false:=Zg ⋯;rw[this,Bool.and_false]at d;cases d
   .refine Z2 (m:=(if(!t.led&&!es.isEmpty)=true then unsupported "set:maker-not-led" else pure ())) ?_;rw[l,j];refine Z3 ?_;rw[n,show es[es.size]? =none by simp];exact Z3 %[rfl|rfl]
  have go:∀slot:Nat,first=rawInt slot->SetTable.below t.place slot=es.size->↥A.in1 (setNext S slot i ep>>= λa=>match a with
   | some (x,next)=>(do
     setField (.ref I) 0 (rawInt ↑next)
     setField (.ref I) 1 (rawInt (↑i+1))
     ret x)
   | none=>(do
     setField (.ref I) 2 .none
     let e<-newExc (.type "StopIteration") []
     raiseNew e)) (λfin s'=>∃v,fin=Fin.done (Flow.ret v)/\↥A (pure (some v)) Q E s') (λe s'=>↥A (do
   if(<-isInstance e (.type "StopIteration"))then pure none else throw e) Q E s') s:=by
   intro slot e n;refine Z2 (wpAny_mono (done slot e n) (λa s' ⟨C,e2⟩=>?_) λ_ _ f=>f.elim);subst C;subst e2;exact Z2 (wpAny_setField_rec z ∅ λg1 _ c=>fin g1 _ c)
  have pz:=by
   simp only[SetTable.fits,Zu,beq_iff_eq,decide_eq_true_eq]at h;exact h.1
  by_cases e0:es.size=0
  .have i0:i=0:=by lia
   subst i0;have J:=J rfl;subst J;refine go 0 rfl ?_;have:t.place= #[]:=Array.eq_empty_of_size_eq_zero ⋯;rw[this,vU,e0]
  .have C:es.size=1:=by lia
   have i1:i=1:=by lia
   subst i1;have%[p,B|L]:=L rfl;subst L;refine go (p+1) rfl ?_;have%[p'|O]:=qw (by rw[pz,C]:t.place.size=1);rw[O]at B ⊢;have:p'=p:=by simpa using B
   subst this;rw[qv,if_pos (Yi _),C]
end
theorem iK:Slot "set_iterator" "__iter__" "set_iterator.__iter__":=
 .of (owner:="set_iterator") (n:="__iter__") (by rw[typeLookup_type,builtinLookup_eq_fast];kernel_rfl) (by decide +kernel) (by decide +kernel) (by decide +kernel) (by first|exact .inl (by decide +kernel)|exact .inr ∅) (by kernel_rfl)
theorem lq:entryFor table "set_iterator.__iter__"=some Builtin.«dict_keyiterator.__iter__»:=entryFor_alias (id':="dict_keyiterator.__iter__") (by kernel_rfl) rfl (by decide +kernel) (by kernel_rfl)
theorem mF(a:Value):argsOk "set_iterator.__iter__" %[[a]|[]]:=by kernel_rfl
theorem rK:typeLookup (.type "set") "__len__"=pure (some (.builtin "set.__len__")):=by kernel_rfl
section
#where
variable{I S T:Addr}{o:Obj}{es:Array (Int×Value)}{ep:Nat}{t:SetTable}{ord:ZG}
theorem yR(hh:A.handled=none)(hd:o.data= .set es ep t)(hf:t.fits es.size=true)(hled:t.led=!aS w)(hSI:S≠I)(hn:ord.length=es.size):
 Walks prog w A I [I,S,T] [I] ord.length (λi v=>ord[i]? =some v) (λi h=>SIt w I S T o es ep t ord i h) where
 sub:=by simp
 frame:=λi h h' st k=>by
  have%[hS,first,hI|m]:=st;refine⟨k S ∅ _ hS,first,k I ∅ _ hI,?_⟩;rcases m with m|⟨bt,e,hTI,ps,hTt,r⟩|m
  .exact .inl m
  .exact .inr (.inl %[bt,e,hTI,ps,k T ∅ _ hTt|r])
  .exact .inr (.inr m)
 item:=λi s Q E hi st hQ=>vV (v:=ord[i]) hd hf hled hSI st ∅ hn λh' st' sb=>hQ _ h' s.toks ∅ st' λb o' hb e=>(sb.2 b (λq=>hb (by simp[q]))).trans e
 done:=λs Q E st hQ=>yQ hh hd hf hled st rfl hn λh' k=>hQ h' s.toks λb o' hb e=>k b o' (λq=>hb (by simp[q])) e
 self:=λi s Q E st hQ=>by
  have hT:=st.is;exact wpAny_pyIter_slot hT iK (wpAny_call_entry iK hT lq (Z3 %[_,rfl,"set_iterator",_,hT,bS.lookup|hQ]) (mF _))
theorem yS(f:s.heap.get? S=some o)(z:o.ExactSet)(B:o.data= .set es ep t)(hb:es.size<scanBound)(C:t.fits es.size=true)(G:es.size≠0->t.plain=false)(N:t.led=!aS w)
 (hQ:∀(I T:Addr) (ord:ZG) (h':Heap) d,(∀b o,s.heap.get? b=some o->h'.get? b=some o)->⇑s<=I->S≠I->(T=S\/⇑s<=T)->T<h'.objs.size->I<h'.objs.size->ord.length=es.size->
  SIt w I S T o es ep t ord 0 h'->ord.Perm (es.toList.map (·.2))->Q (.ref I) {s with heap:=h',drawn:=d}):↥A (pyIter (.ref S)) Q E s:=by
 have O:s.TypeIs (.ref S) "set":=%[o,f|z.1]
 have l:S<⇑s:=Zt f;refine wpAny_pyIter_slot O F.slot_set_iter (wpAny_call_entry F.slot_set_iter O pq ?_ (F.args_set_iter_1 _));unfold Builtin.«frozenset.__iter__»;refine Z2 (m:=Builtin.Frozenset.slot0 _ _) (Z2 (m:=slotArgs _ _ _) (Z3 (Z3 ?_)));refine Z2 (m:=Builtin.Frozenset.sizeOf S) (Z2 (wpAny_setEntries_of f B C (Z3 ?_)));refine Z2 (m:=setDrawn S) ?_;unfold setDrawn;refine Z2 (wpAny_setState_of f B C (Z2 (Z2 (wpAny_askSetting (Z3 (Z3 ?_))))));have fin:∀(first:Value) (a:Shared) (T:Addr) (ord:ZG),a.heap.get? S=some o->(∃d c,a={s with heap:=c,drawn:=d})->(∀b o,s.heap.get? b=some o->a.heap.get? b=some o)->T<⇑a->⇑s<=⇑a->(T=S\/⇑s<=T)->ord.Perm (es.toList.map (·.2))->
  ((aS w=true/\first=rawInt 0/\ord=(pickOrder (w.params.setOrder S ep) es).toList.map (·.2))\/(aS w=false/\first= .ref T/\∃ps:List Nat,a.heap.get? T=some {cls:= .type "tuple",data:= .seq (ps.map λ(i:Nat)=>rawInt i).toArray}/\ps.length=ord.length/\∀(j p:Nat),ps[j]? =some p->∃e,es[p]? =some e/\ord[j]? =some e.2)\/(aS w=false/\es.size<=1/\ord=es.toList.map (·.2)/\first=rawInt 0))->ord.length=es.size->
  ↥A.in1 (do ret (<-newFields "set_iterator" [first,rawInt 0,.ref S,rawInt es.size,rawInt (<-setEpoch S)])) (λfin s'=>∃v,fin=Fin.done (Flow.ret v)/\∃U r,s'.TypeIs v U/\typeLookup (.type U) "__next__"=pure (some r)/\Q v s') (λe s'=>E e s') a:=by
  intro first a T ord c %[d,g1|e1] k1 Y sl H u m hn
  subst e1;refine Z2 (wpAny_setEpoch_of c B C (Z2 (wpAny_newObj_type ?_)));have gI:(g1.push {cls:= .type "set_iterator",data:= .fields #[first,rawInt 0,.ref S,rawInt es.size,rawInt ep]}).get? g1.objs.size=some _:=Zi _ rfl;refine Z3 %[_,rfl,"set_iterator",_,%[_,gI|rfl],bS.lookup|hQ g1.objs.size T ord _ d (λb o' e=>Z6 _ (k1 b o' e)) sl (Zr (Zt c)) H (by rw[Zp];exact Yh Y) (by rw[Zp];exact Yi _) hn ?_ u];refine⟨Z6 _ c,first,gI,?_⟩;rcases m with m|⟨g,e,ps,J,r⟩|⟨g,L,eo,e⟩
  .exact .inl m
  .exact .inr (.inl %[g,e,Zr Y,ps,Z6 _ J|r])
  .exact .inr (.inr %[g,L,eo,λ_=>e|λq=>absurd q ∅])
 have lst:(es.toList.map (·.2)).length=es.size:=by rw[Z5,Za]
 by_cases g:aS w=true
 .show wpAny _ _ (if(!aS w&&_)=true then _ else _) _ _ _;rw[g,Bool.not_true,Bool.false_and,if_neg ∅];refine Z2 (Z3 ?_);have n:=(qu (w.params.setOrder S ep) es).map (·.2);exact fin (rawInt 0) s S _ f %[s.drawn,s.heap|rfl] (λ_ _ e=>e) l (Zh _) (.inl rfl) n (.inl %[g,rfl|rfl]) (by rw[n.length_eq,lst])
 .have y:aS w=false:=by simpa using g
  show wpAny _ _ (if(!aS w&&(!t.plain&&decide (es.size>1)))=true then _ else _) _ _ _;by_cases c:es.size>1
  .rw[y,G ⋯,Ze c];refine Z2 (rJ es.size _ _ _ ∅ λps d h=>Z2 (wpAny_newTuple ?_ (by rw[Z5,h.length_eq,Yd];exact fits_of_scanBound hb)));have lt:∀p∈ps,p<es.size:=λp q=>mem_range.mp (h.mem_iff.mp q)
   have er:(List.range es.size).map (λp=>((es[p]?).map (·.2)).getD .none)=es.toList.map (·.2):=by
    apply ext_getElem
    .simp
    .intro i u q2;simp at u;simp[u]
   have n:(ps.map (λp=>((es[p]?).map (·.2)).getD .none)).Perm (es.toList.map (·.2)):=er▸h.map _;refine fin _ _ ⇑s _ (Z6 _ f) %[d,_|rfl] (λb o' e=>Z6 _ e) (by rw[Zp];exact Yi _) (by rw[Zp];exact Y9 _) (.inr (Zh _)) n
    (.inr (.inl %[y,rfl,ps,Zi _ rfl,by rw[Z5]|λj p q=>?_])) (by rw[n.length_eq,lst])
   have M:=lt p (Z7 q);exact%[es[p],by simp|by simp[q,M]]
  .rw[y,Zg c];simp only[Bool.and_false,Zx];exact fin (rawInt 0) s S _ f %[s.drawn,s.heap|rfl] (λ_ _ e=>e) l (Zh _) (.inl rfl) (List.Perm.refl _) (.inr (.inr %[y,⋯,rfl|rfl])) lst
theorem kf(hh:A.handled=none)(u:s.heap.get? S=some r)(a:r.ExactSet)(v:r.data= .set g a0 t0)(y:g.size<scanBound)(z:t0.fits g.size=true)(B:g.size≠0->t0.plain=false)(c:t0.led=!aS w)
 (hQ:∀s' vs,vs.Perm (g.toList.map (·.2))->(∀b o,s.heap.get? b=some o->s'.heap.get? b=some o)->s'.gens=s.gens->s'.os=s.os->⇑s<=⇑s'->Q vs s'):↥A (collect (.ref S)) Q E s:=by
 unfold collect;refine Z2 (wpAny_runValue (codeAny_builtin F.entry_proto_collect ?_));rw[Around.under_plainId F.plain_proto_collect _];show wpAny _ A.in1 (newList []>>= λl=>again (.builtin "list.__iadd__" %[[l,.ref S]|[]])) _ _ s;refine Z2 (wpAny_newObj_type (Z3 %[plainId_quiet F.plain_list_iadd _|codeAny_builtin F.entry_list_iadd ?_]));rw[Around.under_plainId F.plain_list_iadd _];have i:S<⇑s:=Zt u;show wpAny _ A.in1 (Builtin.List.listExtendWith (.ref ⇑s) (.ref S) (.ref ⇑s)) _ _ _;unfold Builtin.List.listExtendWith
 generalize U:s.heap.push {cls:= .type "list",data:= .seq ([]:ZG).toArray}=G
 have gS:G.get? S=some r:=by rw[<-U];exact Z6 _ u
 have gz:G.objs.size=⇑s+1:=by rw[<-U,Zp]
 have gL:G.get? ⇑s=some {cls:= .type "list",data:= .seq ([]:ZG).toArray}:=U▸Zi _ rfl;have tS:Shared.TypeIs (s>>>G) (.ref S) "set":=%[r,gS|a.1]
 refine Z2 (wpAny_typeOf (T:="set") tS ?_);have n1:Builtin.List.listSameRef (.ref ⇑s) (.ref S)=false:=by
  show(⇑s==S)=false;exact beq_eq_false_iff_ne.mpr (Ys i)
 have n2:(Value.type "set"==Value.type "list")=false:=by decide
 have n3:(Value.type "set"==Value.type "tuple")=false:=by decide
 simp only[n1,n2,n3,Bool.or_false,Zx,if_false];refine Z2 (yS (s:=(s>>>G)) gS a v y z B c λI T ord h d C Y ab ae a1 a2 hn st q1=>?_);replace C:∀b o,G.get? b=some o->h.get? b=some o:=C;replace Y:G.objs.size<=I:=Y;have ag:h.get? S=some r:=C _ _ gS;refine Z2 (wpAny_holding ?_);unfold Builtin.List.listLengthHint;have m:Shared.TypeIs {s with heap:=h,drawn:=d} (.ref S) "set":=%[r,ag|a.1]
 refine Z2 (wpAny_specialOf (T:="set") m rK ?_)
 wp_delta
 refine Z2 (wpAny_isInstance (T:="set") (b:=true) m (by rw[isSubtype_type];kernel_rfl) ?_);show wpAny _ A.in1 (typeOf (.ref S)>>= _) _ _ _;refine Z2 (wpAny_typeOf (T:="set") m (Z3 ?_));rw[if_pos (by decide)];refine Z2 (wpAny_rule ?_);have H:h.get? ⇑s=some {cls:= .type "list",data:= .seq ([]:ZG).toArray}:=C _ _ gL;refine Z2 ?_;unfold Builtin.List.listTouch;refine Z2 (listUpdate_at (s:={s with heap:=h,drawn:=d}) H rfl ?_ (X2 _) (by show 1<=sizeLine+1;lia));have J:=get?_update_self (Obj.mapSeq (·.push Value.none)) H rfl;refine listUpdate_at (xs:= #[Value.none]) (n:=1) (s:={s with heap:=h.update ⇑s (Obj.mapSeq _),drawn:=d}) J rfl ?_ (by decide) (by show 0<=sizeLine+1;lia);have ai:=get?_update_self (Obj.mapSeq (·.pop)) J rfl;have L:∀b o,b≠⇑s->h.get? b=some o->((h.update ⇑s (Obj.mapSeq (·.push Value.none))).update ⇑s (Obj.mapSeq (·.pop))).get? b=some o:=λb o hb e=>(get?_update_other _ _ (Ne.symm hb)).trans ((get?_update_other _ _ (Ne.symm hb)).trans e)
 have aj:=Zr (Zf (by rw[gz];exact Yi _) Y);have neT:⇑s≠T:=by
  rcases ae with e|e
  .exact e▸Ys i
  .exact Zr (Zf (gz▸Yi _) e)
 have M:⇑s∉[I,S,T]:=by
  simp only[Yp,Yx,or_false,not_or];exact%[aj,Ys i|neT]
 have al:ord.length<=sizeLine:=hn▸fits_of_scanBound y;have W:=yR (prog:=prog) (A:=A.in1) (T:=T) (hh) v z c ab hn;have an:=W.frame 0 h _ st λb hb N e=>L b N (λq=>M (q▸hb)) e
 refine Z3 %[plainId_quiet F.plain_extend_loop _|codeAny_extend_loopS W.toS al _ M _ ord.length 0 _ _ _ rfl (X2 _) an ai (ItemsOf.nil _) λs5 acc c5 m5 O f=>?_];refine Z2 (wpAny_load O (Z3 ?_));have ea:acc.toList=ord:=by
  apply ext_getElem?;intro j;by_cases hj:j<ord.length
  .have as:j<acc.size:=f.1▸hj;have:=f.2 j acc[j] ∅;rw[this];simp[as]
  .have l1:acc.toList.length=ord.length:=f.1;rw[X7 ⋯,X7 (l:=ord) ⋯]
 rw[ea];refine hQ s5 ord q1 (λb N e=>?_) m5.gens m5.os (Y8 (Zt O));have p:=Zt e;refine m5.heap b N ?_ (L b N (Zr p) (C b N (U▸Z6 _ e)));simp only[Yp,Yx,or_false,not_or];exact%[Zr p|Zr (Zf p (Ya (gz▸Y9 _) Y))]
theorem tR(f:A.handled=none)(h:bu w S ks s.heap)
 (i:∀s' vs ss,StrsAre vs ss->ss.Perm ks->(∀b o,s.heap.get? b=some o->s'.heap.get? b=some o)->s'.gens=s.gens->s'.os=s.os->⇑s<=⇑s'->Q vs s'):↥A (collect (.ref S)) Q E s:=by
 have%[o,es,ep,t,ss,j,c,l,d,m,n,p,q,r,e|a]:=h;refine kf f j c l q r e a λs' vs pv k g os sz=>?_
 have%[ts,u|v]:=ci d pv;exact i s' vs ts u (v.trans m) k g os sz
end
section
variable{X:Cx}{pins:ZE}{σ:St}{H:Hp}{s s':Shared}
theorem Inv.keptS(I:Inv X pins σ H s)(k:∀b o,s.heap.get? b=some o->s'.heap.get? b=some o)(c:s'.gens=s.gens)(a:s'.os=s.os):Inv X pins σ H s':=by
 have%[h',g',d',t'|d]:=s';replace a:d=s.os:=a;subst c;subst a;refine I.step (ch:=[]) (λb f=>absurd f ∅) (λb o _ _ _ e _=>k b o e) (λb o _ _ _ e _=>%[o.slots|k b o e]) (λ_ _ _ _ n=>n) (λb o _ e=>%[o|k b o e]) (λ_ _ e=>e) (λ_ _ _ e=>e) (λb ps e=>%[#[]|by rw[e];simp]) (λm g=>?_) (λb v e=>?_) I.bare
 .have%[o,h,i,a|r]:=g;exact%[o,h,i,k _ o a|r]
 .exact(I.hok b v e).stay (λj l _ q=>k j l q) (λ_ q=>q) λ_ _ q=>q
theorem Inv.stoodS(I:Inv X pins σ H s)(J:Inv X pins σ H s')(c:⇑s<=a)(new:bN X.prog X.w (upd H a o) s'.heap a o):Inv X pins σ (upd H a o) s':=by
 have d:=I.hok.fresh c;refine%[J.ok,J.os,J.bare,?_,J.loc,J.cell,?_,?_,?_,?_|J.len]
 .refine%[J.base.keep,J.base.slot,λb o e n j=>?_,J.base.there,λb xs e=>?_,λb o v e=>?_|λb ps e=>?_]
  .rw[ak ((λb o e=>Zr (Zf (Zf (Zt e) I.sz) c)) b o e)];exact J.base.free b o e n j
  .rw[ak (ar (J.base.tups b xs e) d)];exact J.base.tups b xs e
  .rw[ak (ar (J.base.frzs b o v e) d)];exact J.base.frzs b o v e
  .have%[m|q]:=J.base.tbls b ps e;exact%[m|(ak (ar q d))▸q]
 .rw[ak (Zr (Zf I.lt c))];exact J.free
 .intro g f e;have%[l|q]:=I.cell g f e;rw[ak (Zr (Zf q.lt c))];exact J.freeC g f e
 .intro p h;have%[e,n|r]:=J.pin p h;refine%[e,?_|r];rw[ak (Zr (Zf (Zt (I.pin p h).1) c))];exact n
 .intro b v e;by_cases i:b=a
  .subst i;rw[aa]at e;cases e;exact new
  .rw[ak i]at e;refine(J.hok b v e).stay (λ_ _ _ q=>q) (λf q=>?_) λf xs q=>?_
   .rw[ak (ar q d)];exact q
   .rw[ak (ar q d)];exact q
end
section
#where
variable{S:Addr}
theorem vW(t:A.handled=none)(u:bu w S ks s.heap)(g:ks.length<64)
 (v:∀(s':Shared) (l:Addr) (vs:ZG) (ss:ZB) (n:Nat),StrsAre vs ss->ss.Perm ks->sortedS ss=true->(∀b o,s.heap.get? b=some o->s'.heap.get? b=some o)->s'.gens=s.gens->s'.os=s.os->⇑s<=l->s'.heap.get? l=some {cls:= .type "list",data:= .seq vs.toArray n}->Q (.ref l) s'):
 ↥A (call (.builtin "sorted") [.ref S]) Q E s:=by
 refine Calls.call_function_entry kind_sorted plain_sorted entry_sorted (args_sorted1 _) ?_;unfold Builtin.«sorted»;refine Z2 (m:=checkCount "sorted" 1 1 _) (Z3 ?_);refine Z2 (tR (show A.in1.handled=none from t) u λc vs ss f j y g1 z h=>?_);have B:vs.length<64:=by rw[bE f,j.length_eq];exact g
 refine Z2 (wpAny_newList ?_ (by rw[sizeLine_eq];lia));have i:(c.heap.push (seqObj "list" vs.toArray 0)).get? ⇑c=some (seqObj "list" vs.toArray 0):=Zi _ rfl;refine Z2 (wpAny_holding (wpAny_call_entry slot_list_sort %[_,i|rfl] entry_list_sort (list_sort_treeK (s:=(c>>>c.heap.push (seqObj "list" vs.toArray 0))) strKind_oneLt i f.keysOf (λp q rest e=>keyKind_strs (by rw[<-e];exact f)) B λa C G=>%[_,rfl|?_]) (args_list_sort _)));have%[ts,H,I|J]:=sorted_out_str f C G;obtain⟨n,L⟩:∃n,(sortedHeap (c.heap.push (seqObj "list" vs.toArray 0)) ⇑c vs ((arrOf a).map (·.2))).get? ⇑c=some (seqObj "list" ((arrOf a).map (·.2)) n):=sortedHeap_at i;refine Z3 %[_,rfl|v _ ⇑c ((arrOf a).map (·.2)).toList ts n H (I.trans j) J (λb M e=>?_) g1 z h ?_]
 rotate_left
 .show _=some (seqObj "list" ((arrOf a).map (·.2)).toList.toArray n);rw[Array.toArray_toList];exact L
 have r:=y b M e;have d:=Zt r;show(sortedHeap _ _ _ _).get? b=_;rw[sortedHeap_old (Zr d) (by rw[Zp];exact Yh d)];exact Z6 _ r
end
section
variable{X:Cx}{K:ZA}
theorem rL(d:X.calm=true):bW X (.builtin "sorted") (λxs H Q=>∃a ks,xs=[.ref a]/\H a=some (ke X.w a ks)/\ks.length<64/\∀l ss,H l=none->ss.Perm ks->sortedS ss=true->Q (.ref l) (upd H l (.lst (ss.map V.str)))):=by
 intro pins s t H xs us Q I r h;have%[a,ks,rfl,e,f|q]:=h;have%[u,rfl|i]:=di r;cases i;have%[S,_|_]:=(I.hok a _ e)
 refine vW (I.ok.hd d) S f λs' l vs ss n j c m k g o b p=>%[.ref l,_,I.stoodS (o:= .lst _) (I.keptS k g o) b %[?_,vs,n,qo j|p],rfl|q l ss (I.hok.fresh b) c m]
 rw[Z5,c.length_eq,sizeLine_eq]
 lia
theorem qx(h:X.w=w)(b:X.calm=true):cB X (.builtin "sorted") (λxs H Q=>∃a ks,xs=[.ref a]/\H a=some (ke w a ks)/\ks.length<64/\∀l ss,H l=none->ss.Perm ks->sortedS ss=true->Q (.ref l) (upd H l (.lst (ss.map V.str)))):=by subst h;exact⟨rL b⟩
end
theorem ap{D:iL}(h:∀c:iL,(∀a b,u D a b->c.nx a b)->(∀v b,D.rt v b->c.rt v b)->t c d H):bc t u D d H:=h _ (λ_ _ x=>x) λ_ _ x=>x
theorem aC{t:TS}{D:iL}(h:∀c:iL,(∀a b,D.nx a b->c.nx a b)->(∀v b,D.rt v b->c.rt v b)->t c d H):t D d H:=h _ (λ_ _ x=>x) λ_ _ x=>x
theorem kg{K:ZA}{xs:List V}{g:TG}{j:TS}{D:iL}(Pv:Nat->St->Hp->Prop)(n:Pv 0 b H)(o:∀i b H,i<=xs.length->Pv i b H->SqL K H a xs)
 (r:∀i x T b H,xs[i]? =some x->Pv i b H->H T=none->g (.ref T) b (upd H T (.tup [.int i,x])) λc h=>j {D with nx:=Pv (i+1),ct:=Pv (i+1),bk:=D.nx} c h) (s:∀b H,Pv xs.length b H->D.nx b H):
 ∃W:Nat->Nat->St->Hp->Prop,(∃m,W 0 m b H)/\∀i m b H,W i m b H->
  ((Ite K a xs).stop i H/\D.nx b H)\/((Ite K a xs).go i H/\∃N:St->Hp->Prop,(∀d f,N d f->∃l,l<m/\W (i+1) l d f)/\∀x f,(Ite K a xs).yld i H x f->g x b f λc h=>j {D with nx:=N,ct:=N,bk:=D.nx} c h):=by
 refine%[λi m b H=>m=xs.length-i/\i<=xs.length/\Pv i b H,%[xs.length,by simp,X2 _|n]|?_];intro i m b H %[rfl,hi|p];have q:=o i b H hi p;by_cases lt:i<xs.length
 .refine .inr %[%[q|lt],Pv _,λd f t=>%[xs.length-(i+1),⋯,rfl,lt|t]|λv f y=>?_];have%[x,T,e,u,rfl|rfl]:=y;exact r i x T b _ e p u
 .have e:i=xs.length:=by lia
  subst e;exact .inl %[%[q|Zh _]|s b H p]
section
variable{X:Cx}{K:ZA}{pos:Pos}{a b:Expr}{ta tb:TE}
theorem cN:OpQ X (binaryOp .Add) (rI0 λi j=> .int (i+j)):=⟨Am⟩
theorem gA:OpQ X (binaryOp .Mult) (rI Al λi j=> .int (i*j)):=⟨Ao⟩
theorem cF(h:X.K=K)(c:mM b)(d:QE X a ta)(e:QE X b tb):QE X (.Subscript a b pos) (tOp (Fs K) ta tb):=by subst h;exact⟨AH C0 d.h e.h c⟩
theorem ixSE(c:mM b)(d:QE X a ta)(e:QE X b tb):QE X (.Subscript a b pos) (tOp Fu ta tb):=⟨AH Fw d.h e.h c⟩
end
end L2
namespace Cut
open PySem L2 PyProof.Rows
noncomputable def ia:Str:="abcdefghijklmnopqrstuvwxyz"
noncomputable def iY(c:Nat):Bool:=decide (c∈ia.cps.toList)
noncomputable def okc(c:Nat):Bool:=decide (c=46)||iY c
noncomputable def nl:Str:="\n"
theorem Hq:nl=⟨#[10]⟩:=rfl
theorem lr:iY c=true↔97<=c/\c<=122:=by
 have e:ia.cps.toList=(List.range 26).map (·+97):=by decide +kernel
 unfold iY;rw[decide_eq_true_iff,e,mem_map]
 constructor
 .rintro⟨i,h,rfl⟩;have:=mem_range.mp h
  lia
 .rintro⟨a,b⟩;exact%[c-97,mem_range.mpr ⋯|⋯]
theorem FU(h:okc c=true):c≠10:=by
 intro e;subst e
 revert h
 decide +kernel
structure cf (rows:ZB):Prop where
 pos:1<=rows.length
 high:rows.length<=40
 wide:∃wd,1<=wd/\wd<=40/\∀r∈rows,r.cps.size=wd
 sign:∀r∈rows,r.cps.toList.all okc=true
 fall:∀i r r',rows[i]? =some r->rows[i+1]? =some r'->∀(j c c':Nat),r.cps[j]? =some c->r'.cps[j]? =some c'->c'=46->c=46
 some':∃r∈rows,∃c∈r.cps.toList,c≠46
theorem jm{x y:Str}(h:x.cps.toList=y.cps.toList):x=y:=by
 obtain⟨⟨l⟩⟩:=x
 simp_all
theorem gJ(sep x y:Str)(r:ZB):(Str.join sep (x::y::r)).cps.toList=x.cps.toList++sep.cps.toList++(Str.join sep (y::r)).cps.toList:=by
 show((x.cps++sep.cps) ++(Str.join sep _).cps).toList=_;rw[toList_append,toList_append]
theorem A9 [DecidableEq f]:∀{a b x y:List f},c∉a->c∉b->a++c::x=b++c::y->a=b/\x=y
 |[],[],_,_,_,_,h=>%[rfl|(List.cons.inj h).2]
 |[],b::bs,_,_,_,d,h=>absurd (((List.cons.inj h).1)▸Zl) d
 | a::as,[],_,_,e,_,h=>absurd (((List.cons.inj h).1)▸Zl) e
 | a::as,b::bs,x,y,e,d,h=>by
   have%[g|i]:=List.cons.inj h;have%[j|l]:=A9 (λq=>e (Zj _ q)) (λq=>d (Zj _ q)) i;exact%[by rw[g,j]|l]
theorem tT{c:Nat}:∀{ps qs:ZB},ps≠[]->qs≠[]->(∀p∈ps,c∉p.cps.toList)->(∀q∈qs,c∉q.cps.toList)->(Str.join ⟨#[c]⟩ ps).cps.toList=(Str.join ⟨#[c]⟩ qs).cps.toList->ps=qs
 |[],_,h,_,_,_,_=>absurd rfl h
 | _,[],_,h,_,_,_=>absurd rfl h
 |[p],[q],_,_,_,_,e=>by rw[jm (show p.cps.toList=q.cps.toList from e)]
 |[p],q::f::qs,_,_,a,_,e=>by
  rw[gJ]at e;refine absurd ?_ (a p Zl);rw[show p.cps.toList=(Str.join _ [p]).cps.toList from rfl,e];simp
 | p::g::ps,[q],_,_,_,b,e=>by
   rw[gJ]at e;refine absurd ?_ (b q Zl);rw[show q.cps.toList=(Str.join _ [q]).cps.toList from rfl,<-e];simp
 | p::g::ps,q::f::qs,_,_,a,b,e=>by
   rw[gJ,gJ,Zd,Zd]at e;have%[i|j]:=A9 (a p Zl) (b q Zl) e;rw[jm i,tT ∅ ∅ (λx d=>a x (Zj _ d)) (λx d=>b x (Zj _ d)) j]
theorem vX(a:rows≠[])(h:∀r∈rows,10∉r.cps.toList):Txt.split (Str.join nl rows) nl=rows:=by
 have e:=StrLaws.join_split (Str.join nl rows) nl;rw[Hq]at e ⊢;refine tT ?_ a (StrLaws.split_free _ 10) h (by rw[e]);intro q;have:=split_pos (Str.join ⟨#[10]⟩ rows) ⟨#[10]⟩
 simp_all
theorem cf.nonl(h:cf rows):∀r∈rows,10∉r.cps.toList:=λr a b=>by
 have:=all_eq_true.mp (h.sign r a) 10 b;exact FU this rfl
theorem cf.split(h:cf rows):Txt.split (Str.join nl rows) nl=rows:=
 vX (λe=>by have:=h.pos;simp_all) h.nonl
theorem rN:∀{xs:List b},(∀x∈xs,f x<=B)->(xs.map f).sum<=xs.length*B
 |[],_=>by simp
 | x::r,h=>by
   have c:=rN λy a=>h y (Zj _ a)
   have d:=h x Zl;rw[Yk,List.sum_cons,Zq,Nat.succ_mul]
   lia
theorem cf.sum(h:cf rows):(rows.map (·.length)).sum<=1600:=by
 have%[wd,_,c|a]:=h.wide;have:=rN (f:=λr:Str=>r.length) λr b=>by have:=a r b;show r.cps.size<=40;lia
 have:=h.high
 grind
theorem cf.text(h:cf rows):(Str.join nl rows).length<=2000:=by
 have a:=StrLaws.join_length_le nl rows;have b:=h.sum;have c:=h.high;have d:nl.length=1:=rfl
 lia
noncomputable def sgn(c:Nat):Str:=⟨#[c]⟩
theorem nG{a:List Nat}(h:∀c∈a,iY c=true):(aM (a.map sgn)).length<=26:=by
 have b:∀x∈aM _,x∈ia.cps.toList.map sgn:=λx d=>by
  have%[c,f|e]:=Xb (bB.mp d);exact Xc %[c,Zn (h c f)|e]
 have:=List.Nodup.length_le_of_subset (fk _) b;rw[Z5]at this;have e:ia.cps.toList.length=26:=by decide +kernel
 lia
noncomputable def cX(rows:ZB):List Nat:=(Str.join (Str.ofString "") rows).cps.toList.filter (λc=>decide (c≠46))
theorem tU:∀(rows:ZB),(Str.join (Str.ofString "") rows).cps.toList=(rows.map (·.cps.toList)).flatten
 |[]=>rfl
 |[x]=>by simp[Str.join]
 | x::y::r=>by
   have e:(Str.ofString "").cps.toList=[]:=rfl;rw[gJ,tU _,e,Zw];simp
theorem lu(h:∀r∈rows,r.cps.toList.all okc=true):∀c∈cX rows,iY c=true:=λc a=>by
 unfold cX at a;rw[List.mem_filter,tU]at a;have%[b|d]:=a;have%[l,e|f]:=List.mem_flatten.mp b;have%[r,g|rfl]:=Xb e;have:=all_eq_true.mp (h r g) c f;unfold okc at this;rw[or_eq_true]at this;rcases this with q|q
 .exact absurd (Zn q) (Zn d)
 .exact q
theorem cf.signs_ne(h:cf rows):cX rows≠[]:=by
 have%[r,b,c,d|a]:=h.some';have:c∈cX rows:=by
  unfold cX;rw[List.mem_filter,tU];exact%[List.mem_flatten.mpr %[_,Xc %[r,b|rfl]|d]|Ze a]
 grind
noncomputable def rO(z:Str):Bool:=(decide (1<=(z.length:Int))&&decide ((z.length:Int)<=40))&&z.cps.toList.all okc
noncomputable def fo(row a:Str):Bool:=decide (row.length=a.length)&&(List.zip a.cps.toList row.cps.toList).all λp=>!decide (p.2=46)||decide (p.1=46)
theorem cf.row(h:cf rows)(a:r∈rows):rO r=true:=by
 have%[wd,c,d|b]:=h.wide;have e:r.length=wd:=b r a;unfold rO;rw[h.sign r a,e,Ze ⋯,Ze ⋯];rfl
theorem cf.beneath(h:cf rows)(c:rows[i]? =some r)(d:rows[i+1]? =some a):fo a r=true:=by
 have%[wd,m,n|e]:=h.wide;have f:r.length=wd:=e r (Z7 c);have g:a.length=wd:=e a (Z7 d);unfold fo;rw[Ze (g.trans f.symm),Bool.true_and,all_eq_true];intro p l;have%[j|b]:=X3 l;rw[List.getElem?_zip_eq_some]at b;have:=h.fall i r a c d j p.1 p.2 (by simpa using b.1) (by simpa using b.2)
 grind
theorem vY(a:List Nat):(Str.join (Str.ofString "") (a.map sgn))=⟨a.toArray⟩:=by
 refine jm ?_;rw[tU,Yl];show((a.map (λc=>[c])).flatten)=a
 induction a with
 | nil=>rfl
 | cons c r b=>simp_all
theorem xk:∀a:List Nat,((a.map sgn).map (λx=>x.length)).sum=a.length
 |[]=>rfl
 | c::r=>by
   rw[Yk,Yk,List.sum_cons,xk r,Zq];show 1+r.length=r.length+1
   lia
end Cut
namespace Cut
open PySem L2
end Cut
namespace L2
open PySem PySem.Spec PyProof.Rows
def Up(B:Heap)(l:List Env)(e:Addr)(cls:Value)(b:ZI)(d:Option Value)(h:Heap):Prop:=
 B.StaysIn h/\B.get? e=none/\h.FunFrames B l/\∃a vs,h.get? e=some a/\a.cls=cls/\a.dict=b/\a.data= .fields vs/\1<vs.size/\
  match d with
  | none=>vs[1]? =some .none
  | some f=>∃T c ts,vs[1]? =some (.ref T)/\B.get? T=none/\T≠e/\h.get? T=some c/\c.data= .fields ts/\ts[3]? =some f
theorem qy(o:Obj)(f:ZJ->ZJ):(o.mapFields f).dict=o.dict:=by
 have%[c,d,a|b]:=o;cases a<;> rfl
section
variable{M:Model}{A:Around}{E:ZD}{s:Shared}{B:Heap}{env:Env}{outer:List Env}{L e:Addr}{cls:Value}{dct:ZI}{Q:Unit->Shared->Prop}
theorem tV(w:A.frames=some (env::outer))(Y:env.frame=some L)(st:B.StaysIn s.heap)(y:B.get? e=none)(p:s.heap.FunFrames B (env::outer))
 (he:s.heap.get? e=some t) (J:t.data= .fields vs) (d:1<vs.size)
 (k:∀h',Up B (env::outer) e t.cls t.dict (some (rawInt L)) h'->s.heap.UpToSlots h'->Q () (s>>>h')):
 wpAny M A (do let a<-frameOf env;let pl<-entryPlaceOf L i;let b<-EntryCells.newEntry N a .none (rawInt L) .none pl;setField (.ref e) 1 b) Q E s:=by
 have C:e∉(env::outer).filterMap _:=λG=>by
  have%[_,o,ho|ab]:=p.mem G
  simp_all
 refine Z2 (wpAny_frameOf_fun w p Y λc u=>Z2 (wpAny_entryPlaceOf λpl H=>Z2 (wpAny_newObj_type ?_ (H.sizeOk5 _ _ _ _ _))))
 generalize j:({cls:= .type _,dict:=none,data:= .fields _}:Obj)=h
 have O:=(u.2.1 e C).trans he;have T:(c.push h).get? e=some t:=Z6 _ O;refine wpAny_setField T J d ?_;have ne:=Zr (Zt O);have l:=Obj.data_mapFields J (·.setIfInBounds 1 (Value.ref c.objs.size));have f:∀b o,b≠e->c.get? b=some o->((c.push h).update e (Obj.mapFields (·.setIfInBounds 1 (Value.ref c.objs.size)))).get? b=some o:=λb o n q=>by
  rw[get?_update_other _ _ (Ne.symm n)];exact Z6 _ q
 have m:B.StaysIn c:=λb o q=>(u.2.1 b λG=>by rw[(p.mem G).1]at q;cases q).trans (st b o q)
 have nb:∀b o,s.heap.get? b=some o->(∀ws,o.data≠ .fields ws)->b≠e:=λb o q v z=>by
  simp_all
 have t3:((c.push h).update e (Obj.mapFields (·.setIfInBounds 1 (Value.ref c.objs.size)))).get? c.objs.size=some h:=by
  rw[get?_update_other _ _ ne];exact Zi c (by subst j;rfl)
 have g:∃ts,h.data= .fields ts/\ts[3]? =some (rawInt L):=by
  subst j;exact%[_,rfl|by simp]
 have%[ts,g|I]:=g;refine k _ %[λb o q=>f b o (λz=>by lia) (m b o q),y,p.of_keeps λb o q v=>?_,_,_,(get?_update_self _ T (Obj.isFreed_of_fields l)),Obj.cls_mapFields _ _,qy _ _,l,by simpa using d,c.objs.size,h,ts,?_,m.fresh,Ne.symm ne,t3,g|I] λb o q v=>?_
 .have%[U|r]:=u.2.2 b o q;exact%[_,f b _ (nb b o q v) r|rfl]
 .simp[d]
 .have%[U|r]:=u.2.2 b o q;exact%[U|f b _ (nb b o q v) r]
theorem xo(st:B.StaysIn s.heap)(r:B.get? e=none)(w:s.heap.FunFrames B l)
 (y:s.heap.get? e=some c) (C:c.data= .fields vs) (t:1<vs.size) (G:vs[1]? =some (.ref T)) (u:B.get? T=none) (d:T≠e) (v:s.heap.get? T=some H) (h:H.data= .fields ts) (I:ts[3]? =some f)
 (k:∀h',Up B l e c.cls c.dict (some g) h'->h'.get? e=some c->s.heap.UpToSlots h'->Q () (s>>>h')):wpAny M A (setField (.ref T) 3 g) Q E s:=by
 have i:=(Array.getElem?_eq_some_iff.mp I).1;refine wpAny_setField v h i ?_;have a:∀b,b≠T->(s.heap.update T (Obj.mapFields (·.setIfInBounds 3 g))).get? b=s.heap.get? b:=λb n=>get?_update_other _ _ (Ne.symm n)
 have nb:∀b o,s.heap.get? b=some o->(∀ws,o.data≠ .fields ws)->b≠T:=λb o q p z=>by
  simp_all
 have j:=Obj.data_mapFields h (·.setIfInBounds 3 g);have m:=(a e (Ne.symm d)).trans y;refine k _ %[λb o q=>(a b λz=>by lia).trans (st b o q),r,w.of_keeps λb o q p=>%[o,(a b (nb b o q p)).trans q|rfl],c,vs,m,rfl,rfl,C,t,T,_,_,G,u,d,
  get?_update_self _ v (Obj.isFreed_of_fields j),j|by simp[i]] m λb o q p=>%[o.slots|(a b (nb b o q p)).trans q]
theorem xp(i:t=none\/t=some .none)(b:A.frames=some (env::outer))(j:env.frame=some L)(u:Up B (env::outer) e cls dct t s.heap)
 (k:∀h',Up B (env::outer) e cls dct (some (rawInt L)) h'->s.heap.UpToSlots h'->Q () (s>>>h')):wpAny M A (noteFrame (.ref e) env) Q E s:=by
 have%[st,c,v,J,vs,h,rfl,rfl,d,a|r]:=u;unfold noteFrame;simp only[j];rcases i with rfl|rfl
 .exact Z2 (wpAny_field h d r (tV b j st c v h d a k))
 .have%[T,N,ts,w,l,m,y,f|z]:=r;refine Z2 (wpAny_field h d w (Z2 (wpAny_field y f z (Z2 (xo st c v h d a w l m y f z λh' C n G=>?_)))));have%[o,g,p|_]:=C;exact tV b j o g p n d a λH I q=>k H I (G.trans q)
theorem rP(u:Up B l e cls dct (some f) s.heap)(k:∀h',Up B l e cls dct (some .none) h'->s.heap.UpToSlots h'->Q () (s>>>h')):
 wpAny M A (setFlight (.ref e) none) Q E s:=by
 have%[st,a,m,r,vs,h,rfl,rfl,i,b,T,t,ts,j,c,d,n,g|o]:=u;exact Z2 (wpAny_field h i j (xo st a m h i b j c d n g o λh' p _ q=>k h' p q))
theorem tW(a:g=none\/g=some .none)(b:A.frames=some (env::outer))(h:env.frame=some L)(u:Up B (env::outer) e cls dct g s.heap)
 (k:∀h',Up B outer e cls dct (some .none) h'->s.heap.UpToSlots h'->Q () (s>>>h')):wpAny M A (leaving env (.ref e)) Q E s:=by
 refine Z2 (xp a b h u λn i c=>rP i λj l d=>?_);have%[st,f,%[_,_|m]|r]:=l;exact k j %[st,f,m|r] (c.trans d)
end
section
variable{P:Program}{w:World}{H:Hp}{h:Heap}{a:Addr}{o:HO}
theorem bN.there(x:bN P w H h a o):∃b,h.get? a=some b:=by
 cases o with
 | lst xs=>have%[_,_,_,_|e]:=x;exact%[_|e]
 | tup xs=>have%[_,_,_,b,e|_]:=x;exact%[_|e]
 | dK c=>have%[_,_,_,_,o,_,_,e|_]:=x;exact%[_|e]
 | dT c=>have%[_,_,_,_,o,_,_,e|_]:=x;exact%[_|e]
 | set S n=>have%[o,_,_,_,e|_]:=x;exact%[_|e]
 | ins C d fs=>have%[_,_,_,e|_]:=x;exact%[_|e]
 | own y=>have%[_|e]:=x;exact%[_|e]
 | xd fs=>have%[_,%[_,_,_,e|_]|_]:=x;exact%[_|e]
 | rng lo hi=>have%[_,_,_|e]:=x;exact%[_|e]
 | frz b u=>have%[e|_]:=x;exact%[_|e]
 | tbl ps=>exact%[_|(x)]
 | met f y=>exact%[_|(x)]
 | ext g=>have%[_,%[_|e]|_]:=x;exact%[_|e]
end
structure Fl (P:Program) (w:World) (l:List Env) (H:Hp) (s:Shared) (ea:Addr) (B:Heap) (cls:Value) (dx:ZI) (fl:Option Value) (H':Hp) (s':Shared):Prop where
 os:s'.os=s.os
 bare:AllBare s'.gens
 un:Un (frs l) [] H H' s.heap s'.heap
 hok:HOk P w H' s'.heap
 up:Up B l ea cls dx fl s'.heap
 free:H' ea=none
 new:s.heap.get? ea=none
 inB:∀b ob,s'.heap.get? b=some ob->((∃o,s.heap.get? b=some o)\/∃o,H' b=some o)->b∉frs l->B.get? b=some ob
 frf:∀b∈frs l,H' b=none
noncomputable def CXO(P:Program)(w:World):CXT:=λl H s E e s'=>∃a B cls b c,e= .ref a/\Fl P w l H s a B cls b (some .none) c s'/\E cls b c
section
variable{P:Program}{w:World}{l:List Env}{H H':Hp}{s s':Shared}{ea:Addr}{B h':Heap}{cls:Value}{dx:ZI}{fl fl':Option Value}
theorem Fl.fly(F:Fl P w l H s ea B cls dx fl H' s')(st:B.StaysIn h')(y:s'.heap.UpToSlots h'):Un (frs l) [] H H' s.heap h'/\HOk P w H' h':=by
 have p:∀b g,s'.heap.get? b=some g->b∈frs l->∃r,h'.get? b=some _:=λb g q a=>by
  have%[_,d,t|z]:=F.up.2.2.1.mem a;rw[q]at t;cases t;exact y b g q z
 refine%[%[λb o q n a f=>?_,λb o q n a f=>?_,F.un.free,λb o q f=>?_,F.un.tups,F.un.frzs|F.un.tbls]|λb o q=>?_]
 .exact st b o (F.inB b o (F.un.keep b o q n a f) (.inl %[o|q]) a)
 .have%[r|e]:=F.un.slot b o q n a f;have%[h|i]:=p b _ e a;exact%[h|i]
 .have%[d|e]:=F.un.there b o q f;by_cases a:b∈frs l
  .have%[r|i]:=p b d e a;exact%[_|i]
  .exact%[d|st b d (F.inB b d e (.inl %[o|q]) a)]
 .refine(F.hok b o q).stay (λc u j e=>?_) (λ_ e=>e) λ_ _ e=>e
  have A:∃v,H' c=some v:=by
   rcases j with rfl|j
   .exact%[_|q]
   .exact%[_|j]
  have%[v|m]:=A;exact st c u (F.inB c u e (.inr %[v|m]) λa=>by rw[F.frf c a]at m;cases m)
end
section
variable{P:Program}{w:World}{K:ZA}{mg:ZC}{base:Heap}{N:ZB}{qual:Str}{scope:Scope}{f:Addr}{cd:Value}{A:Around}{outer:List Env}{s₀:Shared}{H₀:Hp}{E:XK}
theorem Ba(i:t=none\/t=some .none)
 (I:Inv (e9 (CXO P w) P w K mg base N qual scope f cd A outer s₀ H₀ E) pins G H s) (F:Fl P w (envOfC qual scope ⇑s₀ f cd::outer) H s d B cls v t g s') (q:E cls v g):
 (e9 (CXO P w) P w K mg base N qual scope f cd A outer s₀ H₀ E).xe (.ref d) s':=by
 refine tW i I.ok.frames rfl F.up λh' u L=>?_
 have%[un|j]:=F.fly u.1 L;have J:Inv _ pins G g (s'>>>h'):=I.call' F.os un j F.bare λb z=>absurd z ∅
 refine%[d,B,cls,v,g,rfl,%[J.os,J.bare,J.base,J.hok,u,F.free,?_,λb ob e h M=>?_|λb h=>F.frf b (mem_filterMap.mpr ?_)]|q]
 .cases z:s₀.heap.get? d with
  | none=>rfl
  | some o=>
    have%[o'|e]:=I.base.there d o z (by simp[e9]);rw[F.new]at e;cases e
 .have O:b∉frs (envOfC qual scope ⇑s₀ f cd::outer):=λQ=>by
   rcases mem_cons.mp (Q)with z|z
   .rcases h with⟨o,c⟩|⟨o,c⟩
    .exact absurd (Zt c) (z▸X6 _)
    .have:=J.free;rw[show(e9 _ P w K mg base N qual scope f cd A outer s₀ H₀ E).env.locals=b from z.symm,c]at this;cases this
   .exact M z
  have l:∃a,s'.heap.get? b=some a/\((∃o,s.heap.get? b=some o)\/∃o,g b=some o):=by
   rcases h with⟨o,c⟩|⟨o,c⟩
   .have%[y|C]:=I.base.there b o c (by simp[e9]);have%[n|p]:=F.un.there b y C ∅;exact%[n,p|.inl %[y|C]]
   .have%[n|p]:=(F.hok b o c).there;exact%[n,p|.inr %[o|c]]
  have%[a,T|r]:=l;have U:=F.inB b a T r O;have:=u.1 b a U
  grind
 .have%[Y,m|q]:=mem_filterMap.mp h;exact%[Y,mem_cons.mpr (.inr m)|q]
theorem rQ(a:∀c d H,b c d H->E c d H):gZ (CXO P w) (e9 (CXO P w) P w K mg base N qual scope f cd A outer s₀ H₀ E) b:=by
 intro pins g H s e s' I %[h,B,cls,i,j,rfl,F|q];exact Ba (.inr rfl) I F (a _ _ _ q)
end
noncomputable abbrev FV(vs:ZG):Obj:={cls:= .type "tuple",data:= .seq vs.toArray}
noncomputable abbrev Hr(C t:Addr):Obj:={cls:= .ref C,data:= .fields #[.ref t,.none,.none,.none,.bool false,.none]}
noncomputable abbrev vZ(h:Heap)(C:Addr)(vs:ZG):Heap:=(h.push (FV vs)).push (Hr C h.objs.size)
theorem tX(h:Heap)(C:Addr)(vs:ZG):(vZ h C vs).get? (h.objs.size+1)=some (Hr C h.objs.size):=by
 heap_get
theorem gK(b:Addr)(o:Obj)(e:h.get? b=some o):(vZ h C vs).get? b=some o:=
 Z6 _ (Z6 _ e)
section
variable{prog:Program}{w:World}{A:Around}{E:ZD}{h:Heap}{g:Array GenState}{d:Drawn}{t:Nat}{os:OsState}
variable{nm q:Str}{C N:Addr}{bs bm bmB:ZG}{hdct:Bool}{sn:ZB}{sub:ZG}{ab:Bool}{col:Option Bool}{dd:ZI}{k0 k1 k2 k3 k5:Option Value}{B newId initId:String}
theorem yT(F:ExcBaseFacts B newId initId bmB)(T:OwnTail h bmB bm){rest:ZG}
 (b:h.get? C=some (excClassObj nm q C N bs bm hdct sn sub ab col dd k0 k1 k2 k3 k5 newId)) (m:h.Ns N i) (hi:i "__init__"=some (.ref j)) (c:h.get? j=some n) (e:n.cls= .type "function") (a:rest.length<=sizeLine)
 (o:↥A (call (.ref j) (.ref (h.objs.size+1)::rest)) (λr s'=>r= .none/\Q (.done (.ret (.ref (h.objs.size+1)))) s') E %[vZ h C rest,g,d,t|os]):
 ↥A (Builtin.«type.__call__» %[.ref C::rest|[]]) Q E %[h,g,d,t|os]:=by
 repeat (first|with_reducible refine wpAny_loadPart_at b ?_|with_reducible refine wpAny_madeBy_exc b ?_|wp_step)
 refine codeAny_call_builtin_code (Code.quiet_builtin _ F.quiet) (wpAny_check_new_subT F T b ?_);refine codeAny_exc_new_subT F T b ?_ a;have l:=gK (C:=C) (vs:=rest) _ _ b;have p:=gK (C:=C) (vs:=rest) _ _ c;have s:(vZ h C rest).Ns N i:=m.keeps gK;have u:=tX h C rest;have f:(Value.ref C::bm).contains (.ref C)=true:=by simp
 unfold isInstance
 repeat (first|with_reducible refine wpAny_loadPart_at u ?_|(with_reducible refine wpAny_isSubtype_exc l ?_;rw[f])|wp_step)
 show wpAny _ _ (typeLookup (.ref C) _) _ _ _;refine wpAny_typeLookup_tail l s (T.keeps (h':=vZ h C rest) gK) F.mroIs F.init.lookup ?_;rw[hi];refine wpAny_holding (Z2 ?_);unfold bindSpecial;refine Z2 (wpAny_typeOf (T:="function") %[_,p|e] ?_);rw[if_pos (by decide)];refine Z3 (Z2 (wpAny_mono o (λr s' v=>?_) λ_ _ x=>x));have%[rfl|y]:=v
 wp_walk
 exact y
theorem yU(F:ExcBaseFacts B newId initId bmB)(T:OwnTail h bmB bm){rest:ZG}
 (b:h.get? C=some (excClassObj nm q C N bs bm hdct sn sub ab col dd k0 k1 k2 k3 k5 newId)) (i:h.Ns N j) (hi:j "__init__"=some (.ref f)) (c:h.get? f=some l) (e:l.cls= .type "function") (a:rest.length<=sizeLine)
 (m:wpAny (model prog w) (A.under (.builtin "type.__call__" %[.ref C::rest|[]])) (call (.ref f) (.ref (h.objs.size+1)::rest)) (λr s'=>r= .none/\Q (.ref (h.objs.size+1)) s') E %[vZ h C rest,g,d,t|os]):
 ↥A (call (.ref C) rest) Q E %[h,g,d,t|os]:=by
 have n:=tc_lookup;have o:=tc_bind (.ref C);have p:(%[h,g,d,t|os]:Shared).TypeIs (.ref C) "type":=%[_,b|rfl]
 refine wpAny_call (codeAny_of_tree ?_);show wpAny _ _ (callAny (.ref C) _) _ _ _
 repeat (any_goals (first|assumption|with_reducible refine wpAny_loadPart_at b ?_|wp_step))
 refine%[rfl|?_];exact codeAny_call_builtin_at (Code.quiet_builtin _ (by decide +kernel)) entry_typeCall (wpAny_check_type_call_sub b (yT F T b i hi c e a m))
end
noncomputable abbrev veB:ZG:=[.type "ValueError",.type "Exception",.type "BaseException",.type "object"]
noncomputable def bA:ZG->Bool
 | .ref c::r=>bA r
 | l=>l==veB
theorem jD(self:Value):∀{l:ZG},bA l=true->refuseLoop self "__setattr__" l=pure ()
 | .ref c::r,e=>by rw[refuseLoop_ref];exact jD self e
 | .type n::r,e=>by
   have a:(Value.type n::r)=veB:=by simpa [bA]using e
   exact a▸PySem.F.store_ValueError.passes self
 |[],e=>by simp[bA]at e
 | .none::r,e=>by simp[bA]at e
 | .bool _::r,e=>by simp[bA]at e
 | .int _ _::r,e=>by simp[bA]at e
 | .str _ _::r,e=>by simp[bA]at e
 | .builtin _::r,e=>by simp[bA]at e
 | .float _ _::r,e=>by simp[bA]at e
 | .bytes _ _::r,e=>by simp[bA]at e
 | .ellipsis::r,e=>by simp[bA]at e
 | .notImplemented::r,e=>by simp[bA]at e
theorem nH(n:String)(a:veB.contains (.type n)=true):∀{l:ZG},bA l=true->l.contains (.type n)=true
 | .ref c::r,e=>by rw[List.contains_cons,nH n a (l:=r) e,Bool.or_true]
 | .type m::r,e=>by
   have b:(Value.type m::r)=veB:=by simpa [bA]using e
   exact b▸a
 |[],e=>by simp[bA]at e
 | .none::r,e=>by simp[bA]at e
 | .bool _::r,e=>by simp[bA]at e
 | .int _ _::r,e=>by simp[bA]at e
 | .str _ _::r,e=>by simp[bA]at e
 | .builtin _::r,e=>by simp[bA]at e
 | .float _ _::r,e=>by simp[bA]at e
 | .bytes _ _::r,e=>by simp[bA]at e
 | .ellipsis::r,e=>by simp[bA]at e
 | .notImplemented::r,e=>by simp[bA]at e
noncomputable def rR(K:ZA)(C:Addr):Bool:=(clsIn K C).any λa=>bA a.mro
section
#where
variable{K:ZA}{x C:Addr}{name:Str}{v:Value}{ox:Obj}{od:Option Obj}
theorem FW{R:Result->Shared->Prop}(X:K.In s.heap)(I:PySem.W.InstAt s.heap x ox C od)(i:rR K C=true)(j:findIn K (.ref C) name=some none)
 (h:↥A.in1 (Builtin.ObjectAttr.storeInOwnDict (.ref x) (.ref C) (.str name tk) name v false)
  (λfin s'=>match fin with| .done f=>R (.ok f) s'| .again d=>d.quiet=true/\codeAny (model prog w) A d R s') (λe s'=>R (.error e) s') s):
 codeAny (model prog w) A (.call (.builtin "object.__setattr__") %[[.ref x,.str name tk,v]|[]]) R s:=by
 have a:=PySem.F.store_object;have%[c,g|b]:=any_some i;have ne:c.mro.isEmpty=false:=by cases q:c.mro with|nil=>rw[q]at b;simp[bA]at b|cons _ _=>rfl
 refine codeAny_call_builtin a.slot.plain a.entry (@check_slot _ _ _ s _ _ _ _ _ [] _ a.kind a.split (I.type.andThen (PySem.W.looks_mroIn X (by unfold mroIn;rw[g,bind_some,if_neg (by rw[ne];decide),(nH _ (by decide) b)]))) (a.args _ _ v) ?_);have l:Looks (model prog w) s.heap (mroOf (.ref C)) c.mro:=(looks_clsIn X g).andThen .now;rw[PySem.W.osa_eq,refuse_eq];refine Z2 (Z2 (I.type.here (Z2 (l.here ?_))));rw[jD _ b];exact Z3 (Z2 (I.type.here (Z2 ((looks_findIn X j).here (Z2 (Z3 h))))))
theorem Dq(X:K.In s.heap)(g:s.heap.get? x=some ox)(i:ox.cls= .ref C)(j:ox.data= .fields vs)(l:ox.dict=none)
 (u:findIn K (.ref C) "__setattr__"=some (some (.builtin "object.__setattr__"))) (z:rR K C=true) (B:findIn K (.ref C) name=some none) (G:hasDictIn K C=true)
 (h:∀h',h'.get? x=some {ox with dict:=some ⇑s}->h'.Ns1 ⇑s (λy=>if y=name then some v else none)->(∀b o,b≠x->s.heap.get? b=some o->h'.get? b=some o)->Q () {s with heap:=h',toks:=s.toks+2}):
 ↥A (setAttr (.ref x) name v) Q E s:=by
 have%[Y,H,I|L]:=ox;subst i j l;have J:PySem.W.InstAt s.heap x _ C none:=%[g,rfl,rfl|trivial]
 refine set_plain X J u (FW X J z B ?_);have%[cd,M|m]:=any_some G;refine Z2 (Z3 (Z2 (Z2 (wpAny_loadPart g (Z2 (Looks.here (looks_clsIn X M) ?_))))));rw[m];have a:(s.heap.push {cls:= .type "dict",data:= .dict #[]}).get? x=some _:=Z6 _ g;have c:=Zr (Zt g);refine Z2 (wpAny_alloc' (Z2 (wpAny_update' a (Z3 ?_))));have n:((s.heap.push {cls:= .type "dict",data:= .dict #[]}).update x λo=>{o with dict:=some ⇑s}).get? ⇑s=some _:=
  (get?_update_other _ _ c).trans (Heap.get?_push_at rfl rfl)
 have p:((s.heap.push _).update x _).Ns ⇑s _:=
  %[_,#[],_,n,rfl,λe N=>absurd N ∅|λ_=>rfl]
 refine Z2 (Z3 (Z2 (wpAny_nsSet1 (Heap.Ns1.of_empty p) λh' d f=>?_)));have%[oD,O,T,q,r|t]:=d.count (PySem.Within.cons name v PySem.Within.nil);refine Z2 (wpAny_lookBehind q (r▸pastItsLine_dict (Ya t ∅)) (Z3 (h h' ?_ d λb o U e=>?_)))
 .exact(f.2 x c).trans (get?_update_self _ a rfl)
 .exact(f.2 b (Zr (Zt e))).trans ((get?_update_other _ _ (Ne.symm U)).trans (Z6 _ e))
end
noncomputable def ExO(a C:Addr)(d:ZI):HO:= .ext λh=>∃o vs,h.get? a=some o/\o.cls= .ref C/\o.dict=d/\o.data= .fields vs/\1<vs.size/\vs[1]? =some .none
theorem ExO.ok{P:Program}(e:h.get? a=some o)(c:o.cls= .ref C)(f:o.dict=d)(g:o.data= .fields vs)(i:1<vs.size)(b:vs[1]? =some .none):
 bN P w H h a (ExO a C d):=
 %[%[o,vs,e,c,f,g,i|b],%[o|e]|λb j ⟨o,vs,e,r⟩ k=>%[o,vs,k o e|r]]
theorem Bb(h:H a=some o):upd H a o=H:=by
 funext b;unfold upd;simp_all
noncomputable def exK(K:ZA)(C f:Addr):Bool:=match K.lookup C with
 | some ⟨.type "type",_,.cls a,b⟩=>(match a.mro,b.toList with
   | .ref c::d,[_,_,_,_,some (.builtin n),_]=>c==C&&n=="ValueError.__new__"&&!a.hasDel&&PySem.W.tailIn K veB d&&PySem.W.nsOkIn K a.ns&&nsIn K a.ns "__init__"==some (some (.ref f))
   | _,_=>false)
 | _=>false
theorem v4{K:ZA}{h:Heap}{mg:ZC}(X:K.In h)(G:h.Ns N mg)(e:nsIn K N n=some (some v)):mg n=some v:=by
 have%[o,j,l,a,b,_|f]:=G;unfold nsIn at e
 split at e
 .rename_i c d g m p q
  have:=X _ _ q;rw[a]at this;cases this;cases b
  split at e
  .rename_i r i
   cases e;rw[<-f];unfold nsFind findBy;rw[<-Array.find?_toList,i];rfl
  simp_all
 .cases e
theorem v5{K:ZA}(X:K.In h)(q:exK K C f=true):∃r s N bs g b t sub u c v i j l m o w,
 h.get? C=some (excClassObj r s C N bs g b t sub u c v i j l m o "ValueError.__new__")/\h.Ns N w/\w "__init__"=some (.ref f)/\OwnTail h veB g:=by
 unfold exK at q
 split at q
 .rename_i v z A B
  split at q
  .rename_i L g i j l m n o y E
   simp only[Zu,beq_iff_eq,Bool.not_eq_true']at q;have%[%[%[%[%[rfl|rfl]|a]|H]|d]|e]:=q;have%[r,bs,I,M,s,O,t,sub,u,c|J]:=z;dsimp only at y a d e;subst y a;have p:A= #[i,j,l,m,some (.builtin "ValueError.__new__"),o]:=by
    rw[<-E]
   subst p;have G:=PySem.Heap.Ns.of_isNs (PySem.W.isNs_of_in X d);exact%[_,_,_,_,_,_,_,_,_,_,_,_,_,_,_,_,_,X _ _ B,G,v4 X G e|PySem.W.tail_of_in X H]
  .lia
 .lia
section
variable{X:Cx}{C f:Addr}
theorem v6(y:exK X.K C f=true):bW X (.builtin "ValueError.__init__") (λxs H Q=>∃a d ys,xs=V.ref a::ys/\ys.length<=9/\H a=some (ExO a C d)/\Q .non H):=by
 intro pins s A H xs us Q I r h;have%[a,d,ys,rfl,Y,g|q]:=h;cases r with
 | cons B E=>
   rename_i u ws
   obtain rfl:u=Value.ref a:=B;have%[%[o,vs,e,t,G,i,L|M]|_]:=I.hok a _ g;have%[nm,qn,N,bs,bm,v,sn,sub,ab,O,dd,k0,k1,k2,k3,k5,mN,U,hN,hi|T]:=v5 I.kIn y;have F:=PySem.F.excBase_ValueError;have j:ws.length<=sizeLine:=by rw[<-E.length,sizeLine_eq];lia
   refine wpAny_call (codeAny_call_builtin F.init.plain F.initEntry (wpAny_check_init_subT F T U e t ?_));have l:∃m,vs[0]? =some m:=%[vs[0]'⋯|Array.getElem?_eq_getElem ⋯]
   have%[m|l]:=l;have p:(s.heap.push (FV ws)).get? a=some o:=Z6 _ e;have c:=Obj.data_mapFields i (·.setIfInBounds 0 (Value.ref ⇑s));have w:=get?_update_self (Obj.mapFields (·.setIfInBounds 0 (Value.ref ⇑s))) p (Obj.isFreed_of_fields c);have J:Inv X pins A H (s>>>((s.heap.push (FV ws)).update a (Obj.mapFields (·.setIfInBounds 0 (Value.ref ⇑s))))):=by
    have:=I.write (x:=a) (e:=a) (o:=ExO a C d) (t':=s.toks) (g▸True.intro) (.inl rfl)
     (λb u n z=>by rw[get?_update_other _ _ (Ne.symm n)];exact Z6 _ z) %[_|w]
     (ExO.ok w ((Obj.cls_mapFields _ _).trans t) ((qy _ _).trans G) c (by simpa using L) (by rw[Array.getElem?_setIfInBounds_ne ∅];exact M))
    rw[Bb g]at this;exact this
   refine Z2 (wpAny_newTuple (Z2 (Z2 (wpAny_field p i l (Z2 (wpAny_setField p i ⋯ ?_))))) j);cases m with
   | ref b=>exact wpAny_letGo (Z3 %[.non,H,J,rfl|q])
   | _=>exact Z3 (Z3 %[.non,H,J,rfl|q])
end
section
variable{X:Cx}{pins:ZE}{σ:St}{H:Hp}{s s':Shared}
theorem Inv.stood2(I:Inv X pins σ l s)(J:Inv X pins σ H s')(c:H a=none)(d:⇑s<=a)(new:bN X.prog X.w (upd H a o) s'.heap a o):Inv X pins σ (upd H a o) s':=by
 refine%[J.ok,J.os,J.bare,?_,J.loc,J.cell,?_,?_,?_,?_|J.len]
 .refine%[J.base.keep,J.base.slot,λb o e n j=>?_,J.base.there,λb xs e=>?_,λb o v e=>?_|λb ps e=>?_]
  .rw[ak ((λb o e=>Zr (Zf (Zf (Zt e) I.sz) d)) b o e)];exact J.base.free b o e n j
  .rw[ak (ar (J.base.tups b xs e) c)];exact J.base.tups b xs e
  .rw[ak (ar (J.base.frzs b o v e) c)];exact J.base.frzs b o v e
  .have%[m|q]:=J.base.tbls b ps e;exact%[m|(ak (ar q c))▸q]
 .rw[ak (Zr (Zf I.lt d))];exact J.free
 .intro g f e;have%[t|q]:=I.cell g f e;rw[ak (Zr (Zf q.lt d))];exact J.freeC g f e
 .intro p h;have%[e,n|r]:=J.pin p h;refine%[e,?_|r];rw[ak (Zr (Zf (Zt (I.pin p h).1) d))];exact n
 .intro b v e;by_cases i:b=a
  .subst i;rw[aa]at e;cases e;exact new
  .rw[ak i]at e;refine(J.hok b v e).stay (λ_ _ _ q=>q) (λf q=>?_) λf xs q=>?_
   .rw[ak (ar q c)];exact q
   .rw[ak (ar q c)];exact q
end
structure Bc (K:ZA) (D:Addr):Prop where
 ga:specialIn K (.ref D) "__getattribute__"=some (some (.builtin "type.__getattribute__"))
 rd:readsIn K D (.type "type")=true
 at_:findCls K (.ref D) (.type "type") "__init__"=some (.val (.builtin "ValueError.__init__"))
structure FX (K:ZA) (C:Addr) (f:Str):Prop where
 sa:findIn K (.ref C) "__setattr__"=some (some (.builtin "object.__setattr__"))
 ov:rR K C=true
 no:findIn K (.ref C) f=some none
 hd:hasDictIn K C=true
section
variable{X:Cx}{C D f:Addr}{x nm:Str}{p pos pos' apos:Pos}{e o value:Expr}{es:List Expr}{t:TA}{ta tv:TE}{r:List V->Hp->VK->Prop}
theorem Bd(g:Gl X x)(i:X.mg x=some (.ref D))(B:Bc X.K D)(j:bW X (.builtin "ValueError.__init__") r)(l:PA X (e::es) t)(a:(x==("__debug__":Str))=false)
 (m:starEach (e::es) X.env=(false,eval e X.env)::starEach es X.env) (b:(backTo pos (starEach es X.env)).any (·.1)=false)
 (n:eval (.Call (.Attribute (.Name x p) "__init__" apos) (e::es) [] pos) X.env=(do
  let c<-eval (.Name x p) X.env
  standAt apos.atName
  let(f,first)<-holding [c] (getMethod c "__init__" pl)
  callWith pos f first (backTo pos (starEach (e::es) X.env)) (backToKw pos (keywordEach [] X.env)))):
 PE X (.Call (.Attribute (.Name x p) "__init__" apos) (e::es) [] pos) (tCB r t):=by
 intro pins s d H Q I h;exact PySem.W.methodCall_KW (fP I g i (PySem.W.method_cls I.kIn B.ga (PySem.W.cls_value I.kIn B.rd B.at_ (by decide) (PyProof.Rows.callWith_builtin1 (thP (l pos pins _ d H _ (I.tok _) h) λus q vs u v w y=>j pins q d u vs us Q v w y) m b))) a) n
def Ew(K:ZA)(C:Addr)(ta tv:TE)(f:Str):TS:=λD b H=>tv b H λy g=>ta b g λx c=>∃a,x= .ref a/\c a=some (ExO a C none)/\
 ∀d,c d=none->d≠a->D.nx b (upd (upd c a (ExO a C (some d))) d (.xd [(f,y)]))
theorem Dr(c:FX X.K C nm)(E:PE X o ta)(G:PE X value tv)(J:swapsWith value (some (.Attribute o nm pos')) pos.line X.env=pure false):PS X (.Assign [.Attribute o nm pos'] value pos) (Ew X.K C ta tv nm):=by
 intro pins s j H D I h;refine plainObj_wpAny_Assign_Attribute (thP (G pins s j H _ I h) λu L y M N O q=>thP (E pins L j M _ N q) λQ l x H2 d T ⟨a,ex,m,U⟩=>?_) J;subst ex;obtain rfl:Q=Value.ref a:=T;have%[%[ob,vs,e,v,Y,w,hz|h1]|_]:=d.hok a _ m;have i:=Ys (Zt e);have A:=d.hok.fresh (Zh _);refine Dq d.kIn e v w Y c.sa c.ov c.no c.hd λh' B n' k=>%[j,_,?_|U ⇑l A i]
 refine Inv.stood2 d (d.write (t':=l.toks+2) (m▸True.intro) (.inl rfl) (λb u n z=>k b u n z) %[_|B] (ExO.ok B v rfl w hz h1)) ((ak i)▸A) (Zh _) %[_,n'|λg=>?_];by_cases z:g=nm
 .rw[if_pos z,z];simp only[List.lookup,beq_self_eq_true];exact O
 .rw[if_neg z];have z':(g==nm)=false:=by simpa using z
  simp only[List.lookup,z'];exact True.intro
end
def FY(b:TE):TE:=λc H Q=>b c H λv a=>(∃i:Int,v= .int i/\i.natAbs<2^64/\Q (.str (toString i)) a)\/∃y:Str,v= .str y/\y.length<=sizeLine/\Q (.str y) a
def nJ:List TE->Str->TE
 |[],a=>λb H Q=>a.length<=sizeLine/\Q (.str a) H
 | t::ts,a=>λb H Q=>t b H λv c=>∃y:Str,v= .str y/\(a++y).length<=sizeLine/\nJ ts (a++y) b c Q
inductive PJ (X:Cx):List Expr->List TE->Prop
 | nil:PJ X [] []
 | cons {e:Expr} {es:List Expr} {t:TE} {ts:List TE}:PE X e t->PJ X es ts->PJ X (e::es) (t::ts)
section
variable{X:Cx}{e v1 v2:Expr}{rest:List Expr}{te t1 t2:TE}{ts:List TE}{pos:Pos}
theorem FZ(c:PE X e te):PE X (.FormattedValue e (-1) none pos) (FY te):=by
 intro pins s d H Q I h;refine FormattedValue_plain (thP (c pins s d H _ I h) λu j v a b r q=>?_);rcases q with⟨i,rfl,hi,q⟩|⟨y,rfl,f,q⟩
 .have%[t|rfl]:=(show∃t,u=Value.int i t from r)
  have g:i.natAbs.log2<1920:=by
   by_cases z:i.natAbs=0
   .rw[z];decide
   .exact(Nat.log2_lt z).mpr (Zf hi (Nat.pow_le_pow_right (by decide) ∅))
  exact formatField_int_small g %[V.str (toString i),a,b.tok _,%[_|rfl]|q]
 .have%[t|rfl]:=(r)
  exact formatField_str (λt' tk=>%[.str y,a,b.tok _,%[_|rfl]|q]) f
theorem Be(h:PJ X d ts):∀(a:Str) (pins:ZE) (s:Shared) (b:St) (H:Hp) (Q:VK),Inv X pins b H s->nJ ts a b H Q->
 (~~~X) (joinParts a (evalEach d X.env)) (EP X pins b Q) X.xe s:=by
 induction h with
 | nil=>exact λa pins s b H Q I ⟨c,q⟩=>joinParts_nil %[.str a,H,I.tok _,%[_|rfl]|q] c
 | cons f _ g=>
   intro a pins s b H Q I q;refine joinParts_cons (thP (f pins s b H _ I q) λu i v j l r ⟨y,m,c,n⟩=>?_);subst m;have%[t|rfl]:=(r)
   exact%[c|g _ pins i b j Q l n]
theorem Dt(h:PJ X (v1::v2::rest) ts):PE X (.JoinedStr (v1::v2::rest) pos) (nJ ts Str.empty):=λpins s a H Q I q=>
 JoinedStr_many (Be h _ pins s a H Q I q)
end
def v7(C:Addr)(sp:Sp)(t:TA):TE:=λb H Q=>t b H λvs a=>vs.length<=9/\∀x,a x=none->sp (.ref x::vs) (upd a x (ExO x C none)) (λv c=>v= .non/\Q (.ref x) c) E0
structure MkX (K:ZA) (C f:Addr):Prop where
 ex:exK K C f=true
 fn:(K.lookup f).map (·.cls)=some (.type "function")
 kp:keepIn K (.ref C)=true
section
variable{X:Cx}{k:Nat}{f C:Addr}{fd:FuncData}{ps:ZB}{sp:Sp}{x:Str}{p pos cpos:Pos}{e:Expr}{es:List Expr}{te:TE}{t:TA}
theorem yV(M:MkX X.K C f)(F:dj X.prog X.w X.K X.mg X.base CX0 k f fd ps sp)(w:bF (k+1) X.A)(y:dm X.K fd ps [])
 (I:Inv X pins j H s) (r:aE vs us) (hv:vs.length<=9)
 (h:∀x,H x=none->sp (.ref x::vs) (upd H x (ExO x C none)) (λv z=>v= .non/\Q (.ref x) z) E0):
 (~~~X) (call (.ref C) us) (EP X pins j Q) X.xe s:=by
 have%[i,g,d,tk|os]:=s;have%[nm,qn,N,bs,bm,n,sn,sub,ab,A,dd,k0,k1,k2,k3,k5,mN,B,E,hi|T]:=v5 I.kIn M.ex;have%[oI,G|l]:=map_eq_some_iff.mp M.fn;refine yU PySem.F.excBase_ValueError T B E hi (I.kIn _ _ G) l (by rw[<-r.length,sizeLine_eq];lia) ?_;have J:Inv X pins j H %[vZ i C us,g,d,tk|os]:=I.keptS gK rfl rfl;have m:Inv X pins j (upd H _ (ExO _ C none)) _:=
  I.stoodS J (Y9 _) (ExO.ok (tX i C us) rfl rfl rfl ∅ rfl)
 have o:=h _ (I.hok.fresh (Y9 _));have q:aE (V.ref (i.objs.size+1)::vs) _:= .cons rfl r;have b:(Value.ref (i.objs.size+1)::us++[]).length=ps.length:=by
  rw[Zw,<-q.length];exact F.len _ _ _ _ o
 have c:=y _ _ m.kIn b;rw[Zw]at c;refine wpAny_call (codeAny_mono (F.run _ X.stack _ _ _ _ _ _ E0 (w.make C us []) (m.env0.make C us []) c q o) λr s' a=>?_);cases r with
 | error e=>exact False.elim a
 | ok L=>
   cases L with
   | ret u=>
     have%[v,O,U,Y,ev|q3]:=m.after a;subst ev;exact%[Y,V.ref _,O,U,rfl|q3]
   | next=>exact False.elim a
   | brk=>exact False.elim a
   | cont=>exact False.elim a
theorem Bf(M:MkX X.K C f)(F:dj X.prog X.w X.K X.mg X.base CX0 k f fd ps sp)(d:bF (k+1) X.A)(g:Gl X x)(i:X.mg x=some (.ref C))(j:dm X.K fd ps [])
 (l:PA X (e::es) t) (a:(x==("__debug__":Str))=false) (m:starEach (e::es) X.env=(false,eval e X.env)::starEach es X.env) (b:(backTo pos (starEach es X.env)).any (·.1)=false):
 PE X (.Call (.Name x p) (e::es) [] pos) (v7 C sp t):=by
 intro pins s n H Q I h;exact wpAny_Call_Name_kw (fP I g i (callWith_K I.ok.mod.kin M.kp (thP (l pos pins s n H _ I h) λus u vs v c r ⟨o,q⟩=>%[c.kIn|yV M F d j c r o q]) m b) a)
def rS(C:Addr)(te:TE)(W:Addr->Hp->Prop):TS:=λ_ c H=>te c H λv b=>∃a d,v= .ref a/\b a=some (ExO a C (some d))/\W a b
theorem Bg{W:Addr->Hp->Prop}(A:exK X.K C f=true)(B:X.calm=true)(E:PE X e te)
 (G:∀(pins:ZE) (i:St) (H:Hp) (s:Shared) (a d:Addr),Inv X pins i H s->H a=some (ExO a C (some d))->W a H->X.xe (.ref a) s):PS X (.Raise (some e) none pos) (rS C te W):=by
 intro pins s i H D I h;show wpAny _ X.A (do standAt pos;raiseStmt X.env (some (do let v<-eval e X.env;standAt pos;pure v)) none) _ _ s;refine Z2 (wpAny_standAt ?_);unfold raiseStmt;refine Z2 (Z2 (thP (E pins s i H _ I h) λu m v J j r ⟨a,d,L,n,q⟩=>Z2 (wpAny_standAt (Z3 ?_))));subst L;obtain rfl:u=Value.ref a:=r;have%[%[M,vs,O,c,o,w,hz|Q]|_]:=j.hok a _ n;have%[nm,qn,N,bs,U,y,sn,sub,ab,Y,dd,k0,k1,k2,k3,k5,mN,z,hN,hi|T]:=v5 j.kIn A;have l:(Value.ref C::U).contains (.type "BaseException")=true:=by rw[List.contains_cons,T.hasType (b:=true) (by decide),Bool.or_true]
 have hE:=G pins i J m a d j n q;have%[hp,g,dr,tk|os]:=m;have%[oc,od,ae|ag]:=M;dsimp only at c o w;subst c o w;have hh:X.A.handled=none:=j.ok.hd B
 repeat (first|with_reducible refine wpAny_loadPart_at O ?_|with_reducible refine wpAny_loadPart_at z ?_|(with_reducible refine wpAny_isSubtype_exc z ?_;rw[l])|wp_step)
 rw[Q];refine Z3 ?_;rw[if_neg (by decide)];exact Z3 (wpAny_raiseNew_none hh hE)
end
noncomputable def drop(H:Hp)(a:Addr):Hp:=λb=>if b=a then none else H b
theorem gM:drop H a a=none:=by unfold drop;rw[if_pos rfl]
theorem bH(h:b≠a):drop H a b=H b:=by unfold drop;rw[if_neg h]
theorem yX{P:Program}{K:ZA}
 (hk:exK K C f=true) (he:PE (e9 (CXO P w) P w K mg base N h g p r A outer s₀ H₀ E) e te):
 PS (e9 (CXO P w) P w K mg base N h g p r A outer s₀ H₀ E) (.Raise (some e) none pos) (rS C te λa H=>∃d,H a=some (ExO a C (some d))/\H₀ a=none/\E (.ref C) (some d) (drop H a)):=by
 refine Bg hk rfl he λpins σ H s a ai I _ ⟨d,G,hn,q⟩=>?_
 have%[%[oe,vs,ea,U,hd,hf,hz|h1]|_]:=I.hok a _ G;have ST:=I.stack;have Y:=I.stkFree;have L0:⇑s₀<=(envOfC h g ⇑s₀ p r).locals:=Zh _;show wpAny (model P w) (A.deeper (envOfC h g ⇑s₀ p r)) (leaving (envOfC h g ⇑s₀ p r) (.ref a)) _ _ s;have ab:a∉frs (envOfC h g ⇑s₀ p r::outer):=λz=>by
  have:=Y a z;rw[G]at this;cases this
 refine tW (.inl rfl) I.ok.frames rfl %[λb o z=>of_hideAll _ z,PySem.W.hideAll_none _ (mem_cons.mpr (.inl rfl)),PySem.W.funFrames_hide ST λen ae b i=>mem_cons.mpr (.inr (mem_filterMap.mpr %[en,ae|i])),oe,vs,ea,U,hd,hf,hz|h1] λh' u sm=>?_
 have B:∀b o,s.heap.get? b=some o->b≠a->b∉frs (envOfC h g ⇑s₀ p r::outer)->h'.get? b=some o/\(hideAll s.heap (a::frs (envOfC h g ⇑s₀ p r::outer))).get? b=some o:=λb o z n1 n2=>by
  have hB:=hideAll_get (a::frs (envOfC h g ⇑s₀ p r::outer)) z λm=>(mem_cons.mp m).elim n1 n2
  exact%[u.1 b o hB|hB]
 have Q:∀b o,s.heap.get? b=some o->b∈frs (envOfC h g ⇑s₀ p r::outer)->∃sl,h'.get? b=some {o with slots:=sl}:=λb o z i=>by
  have%[_,o',z'|L]:=ST.mem i;rw[z]at z';cases z';exact sm b o z L
 have nL:∀b o,s₀.heap.get? b=some o->b∉frs outer->b∉frs (envOfC h g ⇑s₀ p r::outer):=λb o z n m=>by
  rcases mem_cons.mp (show b∈⇑s₀::frs outer from m)with y|y
  .exact absurd (Zt z) (y▸X6 _)
  .exact n y
 have sub:∀b,b∈frs outer->b∈frs (envOfC h g ⇑s₀ p r::outer):=λb i=>mem_cons.mpr (.inr i)
 have j:∀b,b∉(e9 (CXO P w) P w K mg base N h g p r A outer s₀ H₀ E).ex:=λb z=>absurd (show b∈([]:List Addr)from z) ∅
 have new:s₀.heap.get? a=none:=by
  cases z:s₀.heap.get? a with
  | none=>rfl
  | some o=>
    have:=I.base.free a o z hn (j a);rw[G]at this;cases this
 have trk:∀b o,H b=some o->b∉frs (envOfC h g ⇑s₀ p r::outer):=λb o z m=>by
  rw[Y b m]at z;cases z
 refine%[a,_,.ref C,some d,drop H a,rfl,%[I.os,I.bare,%[λb o z n i hx=>?_,λb o z n i hx=>?_,λb o z n hx=>?_,λb o z hx=>?_,λb xs z=>?_,λb o v z=>?_|λb ps z=>?_],λb o z=>?_,u,gM,new,λb ob z i L=>?_|λb i=>?_]|q]
 .have l:=I.base.keep b o z n i (j b);refine(B b o l (λy=>?_) (nL b o z i)).1;subst y;rw[new]at z;cases z
 .have%[sl|l]:=I.base.slot b o z n i (j b);have%[ag|O]:=Q b _ l (sub b i);exact%[ag|O]
 .by_cases y:b=a
  .exact y▸gM
  .rw[bH y];exact I.base.free b o z n (j b)
 .have%[M|l]:=I.base.there b o z (j b);by_cases i:b∈frs (envOfC h g ⇑s₀ p r::outer)
  .have%[sl|O]:=Q b M l i;exact%[_|O]
  .refine%[M|(B b M l (λy=>?_) i).1];subst y;rw[new]at z;cases z
 .have l:=I.base.tups b xs z;rw[bH (mW l G (by simp[ExO]))];exact l
 .have l:=I.base.frzs b o v z;rw[bH (mW l G (by simp[ExO]))];exact l
 .have%[m|l]:=I.base.tbls b ps z;refine%[m|?_];rw[bH (mW l G (by simp[ExO]))];exact l
 .have y:b≠a:=λy=>by rw[y,gM]at z;cases z
  rw[bH y]at z;refine(I.hok b o z).stay (λc u' T J=>?_) (λc J=>?_) λc xs J=>?_
  .rcases T with rfl|T
   .exact(B c u' J y (trk c o z)).1
   .exact(B c u' J (mW T G (by simp[ExO])) (trk c _ T)).1
  .rw[bH (mW J G (by simp[ExO]))];exact J
  .rw[bH (mW J G (by simp[ExO]))];exact J
 .have y:b≠a:=λy=>by
   rcases i with⟨o,t⟩|⟨o,t⟩
   .rw[y,new]at t;cases t
   .rw[y,gM]at t;cases t
  have nf:b∉frs (envOfC h g ⇑s₀ p r::outer):=by
   rcases i with⟨o,t⟩|⟨o,t⟩
   .exact nL b o t L
   .rw[bH y]at t;exact trk b o t
  have ex:∃M,s.heap.get? b=some M:=by
   rcases i with⟨o,t⟩|⟨o,t⟩
   .exact I.base.there b o t (j b)
   .rw[bH y]at t;exact(I.hok b o t).there
  have%[M|l]:=ex;have%[O|e3]:=B b M l y nf;rw[show h'.get? b=some ob from z]at O;cases O;exact e3
 .have y:b≠a:=λy=>ab (y▸sub b i)
  rw[bH y];exact Y b (sub b i)
noncomputable def ExH(a C:Addr)(d:ZI):HO:= .ext λh=>∃o vs,h.get? a=some o/\o.cls= .ref C/\o.dict=d/\o.data= .fields vs
theorem ExH.ok{P:Program}(e:h.get? a=some o)(b:o.cls= .ref C)(c:o.dict=d)(f:o.data= .fields vs):
 bN P w H h a (ExH a C d):=
 %[%[o,vs,e,b,c|f],%[o|e]|λg i ⟨o,vs,e,r⟩ k=>%[o,vs,k o e|r]]
section
variable{X:Cx}{pins:ZE}{σ:St}{H:Hp}{s s':Shared}
theorem Du(I:Inv X pins σ H s)(J:X.N.Nodup)(hi:X.N[i]? =some n)(L:X.env.kindOf n=some .local)
 (h:∀s',Inv X pins (σ.set i none) H s'->Q () s'):wpAny M A (do bindName X.env n .none;unbindBehindTheSuite X.env n pos) Q E s:=by
 have%[m,N|O]:=id I.loc;have w:i<σ.length:=I.len▸(X8 hi).1;refine wpAny_nameGoes_keeps L N (by rw[I.ok.kind];rfl) λh' v t a=>h _ ?_
 have f:∀b o,X.s₀.heap.get? b=some o->b≠X.env.locals:=λb o e=>Zr (Zf (Zt e) I.ok.above)
 refine%[I.ok,I.os,I.bare,%[λb o e n u l=>?_,λb o e n u l=>?_,I.base.free,λb o e l=>?_,I.base.tups,I.base.frzs|I.base.tbls],%[_,t|λj y T g B U=>?_],λy c e=>?_,I.free,I.freeC,λp Y=>?_,λb ob e=>?_|by simpa using I.len]
 .exact(a.2 b (f b o e)).trans (I.base.keep b o e n u l)
 .have%[sl|g]:=I.base.slot b o e n u l;exact%[sl|(a.2 b (f b o e)).trans g]
 .have%[o'|g]:=I.base.there b o e l;exact%[o'|(a.2 b (f b o e)).trans g]
 .have C:j≠i:=λz=>by
   simp_all
  rw[List.getElem?_set_ne (Ne.symm C)]at B;have%[u',r'|q]:=O j y T g B U;refine%[u',r'|?_];rcases q with⟨k,e⟩|⟨k,c,e,z⟩
  .refine .inl %[k|?_];have:y≠n:=λe=>C (cP J g (e▸hi))
   simp[this,e]
  .exact .inr %[k,c,e|z.sameBut a (I.cne y c e)]
 .have%[G|z]:=I.cell y c e;exact%[G|z.sameBut a (I.cne y c e)]
 .have%[e,n,ne,nf|d]:=I.pin p Y;exact%[(a.2 p.1 ne).trans e,n,ne,nf|d]
 .refine(I.hok b ob e).stay (λc G r q=>(a.2 c ?_).trans q) (λ_ q=>q) λ_ _ q=>q
  rintro rfl;rcases r with rfl|r
  .rw[I.free]at e;cases e
  .rw[I.free]at r;cases r
theorem Inv.stood3(I:Inv X c w A s)(g:∀p∈pins,p∈c)(J:Inv X pins σ H s')(d:H a=none)(B:s.heap.get? a=none)(new:bN X.prog X.w (upd H a o) s'.heap a o):Inv X pins σ (upd H a o) s':=by
 have ne:∀{b:Addr} {o:Obj},s.heap.get? b=some o->b≠a:=λe z=>by lia
 refine%[J.ok,J.os,J.bare,?_,J.loc,J.cell,?_,?_,?_,?_|J.len]
 .refine%[J.base.keep,J.base.slot,λb o e n j=>?_,J.base.there,λb xs e=>?_,λb o v e=>?_|λb ps e=>?_]
  .have%[C|y]:=I.base.there b o e j;rw[ak (ne y)];exact J.base.free b o e n j
  .rw[ak (ar (J.base.tups b xs e) d)];exact J.base.tups b xs e
  .rw[ak (ar (J.base.frzs b o v e) d)];exact J.base.frzs b o v e
  .have%[m|q]:=J.base.tbls b ps e;exact%[m|(ak (ar q d))▸q]
 .have%[m,%[E,_,_,h|_]|_]:=I.loc;rw[ak (ne h)];exact J.free
 .intro l f e;have%[G,L,i|_]:=I.cell l f e;rw[ak (ne i)];exact J.freeC l f e
 .intro p t;have%[e,n|r]:=J.pin p t;refine%[e,?_|r];have:=(I.pin p ((X9 t).elim (λz=>Yn _ z) λz=>Yo _ (g p z))).1;rw[ak (ne this)];exact n
 .intro b v e;by_cases u:b=a
  .subst u;rw[aa]at e;cases e;exact new
  .rw[ak u]at e;refine(J.hok b v e).stay (λ_ _ _ q=>q) (λf q=>?_) λf xs q=>?_
   .rw[ak (ar q d)];exact q
   .rw[ak (ar q d)];exact q
end
section
variable{M:Model}{A:Around}{E:ZD}{s:Shared}{K:ZA}{D C e:Addr}{oe:Obj}{b:Bool}{Q:Bool->Shared->Prop}
theorem Bh(X:K.In s.heap)(i:typeIn K (.ref D)=some (.type "type"))(j:subIn K (.ref D) (.type "BaseException")=some true)(d:(K.lookup D).any (λo=>match o.data with| .cls _=>true|_=>false)=true)
 (l:s.heap.get? e=some oe) (m:oe.cls= .ref C) (n:subIn K (.ref C) (.ref D)=some b) (f:Q b s):wpAny M A (excMatches (.ref e) (.ref D)) Q E s:=by
 have%[g,p|c]:=any_some d;refine Z2 (Z2 ((PySem.W.looks_typeIn X i).here ?_));rw[tc_notTuple];refine Z3 (Z2 (Z3 ?_));have a:∃h,g.data= .cls h:=by
  revert c
  cases g.data<;> intro c<;> first|exact⟨_,rfl⟩|cases c
 have%[h|a]:=a;have LT:Looks M s.heap (typeOf (.ref e)) _:=λq t u s' k r=>by
  exact Z2 (wpAny_loadPart (k _ _ l) (Z3 (m▸r)))
 refine Z2 (Z2 (Z2 (Z2 (Z2 (wpAny_loadPart (X _ _ p) (Z3 ?_))))));rw[a,if_pos rfl];refine(looks_subIn X j).here (Z3 (Z3 (Z2 (LT.here (Z2 (Z2 (Z2 ((looks_subIn X n).here ?_))))))));cases b with
 | true=>
   exact Z3 (Z3 (Z3 f))
 | false=>
   exact Z3 (Z3 (Z3 f))
end
noncomputable abbrev Cx.suiteX(X:Cx)(a:Addr):Cx:={X with A:=X.A.mark (some (.ref a)),calm:=false,xe:=λ_ _=>False}
section
variable{X:Cx}{pins pins' pn:ZE}{σ:St}{H:Hp}{s:Shared}{E:ZD}
theorem Hs(ok:X.Ok)(pn:List _)(E:ZD):({X with pn:=pn,xe:=E}).Ok:=
 %[ok.mod,ok.kind,ok.glob,ok.blt,ok.above,ok.inj,ok.has,ok.cab,ok.hd,ok.frames,ok.stk,ok.exf,ok.bs,ok.bsz,ok.noex,ok.exfs,ok.funs|ok.frf]
theorem unPn(ok:({X with pn:=pn,xe:=E}).Ok):X.Ok:=
 %[ok.mod,ok.kind,ok.glob,ok.blt,ok.above,ok.inj,ok.has,ok.cab,ok.hd,ok.frames,ok.stk,ok.exf,ok.bs,ok.bsz,ok.noex,ok.exfs,ok.funs|ok.frf]
theorem Inv.toPn(I:Inv X pins σ H s)(E:ZD):Inv ({X with pn:=X.pn++pins,xe:=E}) [] σ H s:=
 %[Hs I.ok _ E,I.os,I.bare,I.base,I.loc,I.cell,I.free,I.freeC,λp a=>I.pin p (by simpa using a),I.hok|I.len]
theorem Inv.ofPn(I:Inv ({X with pn:=X.pn++pins,xe:=E}) pins' σ H s):Inv X pins σ H s:=
 %[unPn I.ok,I.os,I.bare,I.base,I.loc,I.cell,I.free,I.freeC,λp a=>I.pin p (Yn _ a),I.hok|I.len]
theorem Inv.toSuite(I:Inv X pins σ H s)(a:Addr):Inv (X.suiteX a) pins σ H s:=
 %[%[I.ok.mod,I.ok.kind,I.ok.glob,I.ok.blt,I.ok.above,I.ok.inj,I.ok.has,I.ok.cab,(λz=>Bool.noConfusion z),I.ok.frames,I.ok.stk,I.ok.exf,I.ok.bs,I.ok.bsz,I.ok.noex,I.ok.exfs,I.ok.funs|I.ok.frf],I.os,I.bare,I.base,I.loc,I.cell,I.free,I.freeC,I.pin,I.hok|I.len]
theorem Inv.ofSuite(I:Inv (X.suiteX a) pins σ H s)(ok:X.Ok):Inv X pins σ H s:=%[ok,I.os,I.bare,I.base,I.loc,I.cell,I.free,I.freeC,I.pin,I.hok|I.len]
theorem SP.ofPn{D:iL}(h:SP ({X with pn:=X.pn++pins,xe:=E}:Cx) [] D f s):SP X pins D f s:=by
 cases f with
 | next=>have%[a,b,I|q]:=h;exact%[a,b,I.ofPn|q]
 | brk=>have%[a,b,I|q]:=h;exact%[a,b,I.ofPn|q]
 | cont=>have%[a,b,I|q]:=h;exact%[a,b,I.ofPn|q]
 | ret u=>have%[v,a,b,I,r|q]:=h;exact%[v,a,b,I.ofPn,r|q]
end
noncomputable def iL.gone(D:iL)(i:Nat):iL:={nx:=λa H=>D.nx (a.set i none) H,rt:=D.rt,bk:=λa H=>D.bk (a.set i none) H,ct:=λa H=>D.ct (a.set i none) H}
structure Cat (K:ZA) (D:Addr):Prop where
 ty:typeIn K (.ref D)=some (.type "type")
 ex:subIn K (.ref D) (.type "BaseException")=some true
 cd:(K.lookup D).any (λo=>match o.data with| .cls _=>true|_=>false)=true
structure Dv (K:ZA) (C:Addr) (f:Str):Prop where
 ga:findIn K (.ref C) "__getattribute__"=some (some (.builtin "BaseException.__getattribute__"))
 hk:findIn K (.ref C) "__getattr__"=some none
 sub:subIn K (.ref C) (.type "BaseException")=some true
 no:findIn K (.ref C) f=some none
 hd:hasDictIn K C=true
section
#where
variable{K:ZA}{x C:Addr}{name:Str}{v:Value}{ox:Obj}{od:Option Obj}
theorem F0(X:K.In s.heap)(I:PySem.W.InstAt s.heap x ox C od)(c:Dv K C name)(d:findObj K C od name=some (.value v))(f:handedIn v=true)
 (h:Q v {s with toks:=s.toks+1}):↥A (getAttr (.ref x) name a) Q E s:=by
 have b:Looks (model prog w) s.heap (typeOf (.ref x)) (.ref C):=I.type;have sub:Looks (model prog w) s.heap (isInstance (.ref x) (.type "BaseException")) true:=b.andThen (looks_subIn X c.sub);have g:=looks_find (M:=model prog w) X I d;have S:=PySem.F.excAttr_ValueError.ga;refine Z2 (wpAny_mkText (wpAny_holding (Z2 (b _ _ _ _ (λ_ _ e=>e) (Z2 (looks_findIn X c.ga _ _ _ _ (λ_ _ e=>e) ?_))))));dsimp only;rw[show(onTheHeap (Value.ref C)&&Value.builtin "BaseException.__getattribute__"==Value.builtin "object.__getattribute__")=false from by rw[show(Value.builtin "BaseException.__getattribute__"==Value.builtin "object.__getattribute__")=false from by decide +kernel,Bool.and_false],if_neg (by decide)];refine Z2 (looks_hook X (mc:= .ref C) (r:=none) (c.hk) _ _ _ _ (λ_ _ e=>e) (Z2 (wpAny_attempt (wpAny_holding ?_))));unfold callGetattribute;rw[show(a&&onTheHeap (Value.builtin _))=false from Bool.and_false _,if_neg (by decide)];unfold boundAndCalled;rw[S.bind];refine wpAny_call ?_;refine codeAny_call_builtin S.plain PySem.F.entry_bexc_ga ?_;refine @check_slot _ _ _ _ _ _ "__getattribute__" _ _ [] _ (by decide +kernel) (by decide +kernel) sub (PySem.F.args_bexc_ga _ _) ?_;refine Z2 (Z3 (Z2 (Z3 (Z2 (Looks.here b (Z2 (Looks.here g (Z3 ?_))))))));show wpAny _ _ (handedOut v) _ _ _;rw[PySem.W.handedOut_of f];exact Z3 h
end
def xq(C:Addr)(c:TE)(f:Str):TE:=λe H Q=>c e H λx b=>∃a d fs v,x= .ref a/\b a=some (ExH a C (some d))/\b d=some (.xd fs)/\fs.lookup f=some v/\Q v b
theorem Dw{X:Cx}(c:Dv X.K C f)(n:PE X e p)(t:attributeBase e f X.env (eval e X.env)=eval e X.env):PE X (.Attribute e f pos) (xq C p f):=by
 intro pins s w H Q I h;refine wY t (thP (n pins s w H _ I h) λu U x y b z ⟨a,d,fs,v,ex,A,B,l,q⟩=>?_);subst ex;obtain rfl:u=Value.ref a:=z;have%[%[o,vs,E,g,i|j]|_]:=b.hok a _ A;have%[Y,G|r]:=b.hok d _ B;have%[uv,J|m]:=gc.some_of (l▸r f);have%[od,L|M]:=pW G;have%[oc,N,O|T]:=o;dsimp only at g i j;subst g i j;exact F0 b.kIn %[E,rfl,rfl|L] c (findObj_own c.hd c.no rfl (by rw[M,J])) (pX m) %[v,y,b.tok _,m|q]
structure XIs (K:ZA) (C:Addr):Prop where
 ga:findIn K (.ref C) "__getattribute__"=some (some (.builtin "BaseException.__getattribute__"))
 hk:findIn K (.ref C) "__getattr__"=some none
 sub:subIn K (.ref C) (.type "BaseException")=some true
 hd:hasDictIn K C=true
 cl:findIn K (.ref C) "__class__"=some (some (.builtin "object.__class__"))
 gt:specialIn K (.builtin "object.__class__") "__get__"=some (some (.builtin "getset_descriptor.__get__"))
 tk:takesIn K (.builtin "object.__class__")=some true
 ob:mroIn K C (.type "object")=some true
section
#where
variable{K:ZA}{x C:Addr}{ox:Obj}{od:Option Obj}
theorem F2(X:K.In s.heap)(I:PySem.W.InstAt s.heap x ox C od)(c:XIs K C)(h:Q (some (.ref C)) {s with toks:=s.toks+1}):↥A (getAttr? (.ref x) "__class__") Q E s:=by
 have a:Looks (model prog w) s.heap (typeOf (.ref x)) (.ref C):=I.type;have sub:Looks (model prog w) s.heap (isInstance (.ref x) (.type "BaseException")) true:=a.andThen (looks_subIn X c.sub);have b:findObj K C od "__class__"=some (.bind (.builtin "getset_descriptor.__get__") (.builtin "object.__class__")):=by
  have%[g,d|_]:=any_some c.hd;unfold findObj;rw[d,bind_some,c.cl,bind_some];dsimp only;rw[c.gt,bind_some];dsimp only;rw[c.tk,bind_some]
 have f:=looks_find (M:=model prog w) X I b;have S:=PySem.F.excAttr_ValueError.ga;unfold getAttr? getAttrBy? getAttrBy;refine Z2 (wpAny_mkText (Z2 (wpAny_attempt (wpAny_holding (Z2 (a _ _ _ _ (λ_ _ e=>e) (Z2 (looks_findIn X c.ga _ _ _ _ (λ_ _ e=>e) ?_))))))));dsimp only;rw[show(onTheHeap (Value.ref C)&&Value.builtin "BaseException.__getattribute__"==Value.builtin "object.__getattribute__")=false from by rw[show(Value.builtin "BaseException.__getattribute__"==Value.builtin "object.__getattribute__")=false from by decide +kernel,Bool.and_false],if_neg (by decide)];refine Z2 (looks_hook X (mc:= .ref C) (r:=none) (c.hk) _ _ _ _ (λ_ _ e=>e) (Z2 (wpAny_attempt (wpAny_holding ?_))));unfold callGetattribute;rw[show(false&&onTheHeap (Value.builtin "BaseException.__getattribute__"))=false from rfl,if_neg (by decide)];unfold boundAndCalled;rw[S.bind];refine Z2 (Z3 ?_);show wpAny _ _ (call (.builtin "BaseException.__getattribute__") _) _ _ _;refine wpAny_call ?_;refine codeAny_call_builtin S.plain PySem.F.entry_bexc_ga ?_;refine @check_slot (model prog w) _ _ {s with toks:=s.toks+1} _ "BaseException" "__getattribute__" (.ref x) [.str "__class__" s.toks] [] _ (by decide +kernel) (by decide +kernel) sub (PySem.F.args_bexc_ga (.ref x) (.str "__class__" s.toks)) ?_;exact Z2 (Z3 (Z2 (Z3 (Z2 (Looks.here a (Z2 (Looks.here f (Z2 (wpAny_holding (wpAny_call (PySem.W.class_get (ox:=ox) (od:=od) X I c.ob (Z3 (Z3 (Z3 h))))))))))))))
theorem Dx(c:XIs K C):KitX K (.ref x) (.ref C) (λh=>∃ox od,PySem.W.InstAt h x ox C od) where
 ty:=λ_ _ _ ⟨_,_,I⟩=>I.type
 it:=λ_ _ X _=>by
  have%[cdD,hcD|_]:=any_some c.hd;unfold clsIn at hcD
  split at hcD
  .rename_i c' d' cd' sl' ho
   intro A' Q' E' s' k q;exact Z2 (wpAny_loadPart (k _ _ (X _ _ ho)) (Z3 q))
  .cases hcD
 ne:=λh tp dd its n sl X htp=>by
  have%[cdD,hcD|_]:=any_some c.hd;refine eq_false_iff.mpr λq=>?_
  have e:=Value.ref.inj (beq_iff_eq.mp q);subst e;unfold clsIn at hcD
  split at hcD
  .rename_i c' d' cd' sl' ho
   have z:=(X _ _ ho).symm.trans htp;cases z
  .cases hcD
 ca:=λX ⟨_,_,I⟩ k=>F2 X I c k
end
def Held(H:Hp)(a C:Addr):Prop:=∃d,H a=some (ExH a C d)/\(d=none\/∃b fs,d=some b/\H b=some (.xd fs))
inductive TyX (K:ZA) (H:Hp):V->Value->Prop where
 | non:TyX K H .non (.type "NoneType")
 | ex {a C:Addr} (h:Held H a C) (c:XIs K C):TyX K H (.ref a) (.ref C)
section
#version
theorem TyX.kit(ty:TyX X.K H x t)(I:Inv X pins σ H s)(r:aO x u):∃f:Heap->Prop,KitX X.K u t f/\f s.heap/\u≠ .builtin "__main__.__loader__#opaque":=by
 cases ty with
 | non=>
   cases(r);exact%[_,kitx_none,True.intro|λz=>nomatch z]
 | @ex a C h c=>
   cases(r);have%[d,j|l]:=h;have%[%[o,vs,e,g,b|i]|_]:=I.hok a _ j;have%[y,m,n|p]:=o;dsimp only at g b i;subst g b i;refine%[_,Dx c,?_|λz=>nomatch z];rcases l with rfl|⟨q,fs,rfl,v⟩
   .exact%[_,none,e,rfl,rfl|trivial]
   .have%[od|w]:=(I.hok q _ v).there;exact%[_,some od,e,rfl,rfl|w]
end
theorem qz:∀{a:List Addr} {us:ZG},aE (a.map V.ref) us->us=a.map Value.ref
 |[],_,.nil=>rfl
 | _::_,_,.cons r t=>by
   cases r;rw[qz t];rfl
theorem Bi{X:Cx}:bW X (.builtin "isinstance") (λxs H Q=>∃x y t b,xs=[x,y]/\TyX X.K H x t/\
 ((∃n,y= .ty n/\kitOne X.K t (.type n)=some b)\/(∃D,y= .ref D/\kitOne X.K t (.ref D)=some b)\/∃c d,y= .ref c/\H c=some (.tup (List.map V.ref d))/\kitAny X.K t (d.map Value.ref)=some b)/\Q (.bl b) H):=by
 intro pins s B H xs us Q I r h;have%[x,y,t,b,rfl,ty,f|q]:=h;have%[u,C,rfl,g|a]:=jB r;have%[E,Z,p|nb]:=ty.kit I g;rcases f with⟨n,rfl,e⟩|⟨D,rfl,e⟩|⟨c,d,rfl,i,e⟩
 .cases(a);exact kia_one Z I.kIn p e nb λtk=>%[.bl b,H,I.tok tk,rfl|q]
 .cases(a);exact kia_one Z I.kIn p e nb λtk=>%[.bl b,H,I.tok tk,rfl|q]
 .cases(a);have%[_,its,j,o,l,m,n|v]:=I.hok c _ i;have:=qz j;subst this;have%[G,w,z|A]:=o;subst m v;exact PySem.W.kia_tup Z I.kIn p l e nb λtk=>%[.bl b,H,I.tok tk,rfl|q]
theorem F3{X:Cx}{D:Addr}(b:Gl X x)(c:X.mg x=some (.ref D))(a:(x==("__debug__":Str))=false):PE X (.Name x p) (λd H Q=>Q (.ref D) H):=λpins s d H Q I h=>
 fP I b c %[.ref D,H,I,rfl|h] a
theorem Fun.okX{P:Program}{K:ZA}{st:Stmt}(F:Fun K x b st f g)(S:au N ps (ah st))(len:∀vs H Q E,sp vs H Q E->vs.length=ps.length)
 (c:∀(a:Value) (A:Around) (outer:List Env) (s:Shared) (H:Hp) (vs:List V) (Q:VK) (E:XK),bF k (A.deeper (envOfC b (ah st) ⇑s f a))->sp vs H Q E->
  ∃t,PSs (e9 (CXO P w) P w K mg base N b (ah st) f a A outer s H E) (bi st) t/\t {nx:=λ_ h=>Q .non h,rt:=Q} (start N vs) H):dj P w K mg base (CXO P w) (k+1) f g ps sp:=by
 have%[m,od,kV,i,n,o,a,ct,j,rfl,lk|d]:=F.ex;exact El lk d S len λA outer s H vs Q E l e=>c a A outer s H vs Q E l e
noncomputable def aH(mg:ZC)(x:Str):Addr:=match mg x with
 | some (.ref C)=>C
 | _=>0
theorem eO(h:mg x=some (.ref C)):aH mg x=C:=by unfold aH;rw[h]
structure Bj (K:ZA) (mg:ZC) (x qual:Str) (st:Stmt) (ps:ZB):Prop where
 at_:mg x=some (.ref (aH mg x))
 is:XIs K (aH mg x)
 ini:∃f fd,MkX K (aH mg x) f/\Fun K "__init__" qual st f fd/\dm K fd ps []
structure v8 (P:Program) (w:World) (K:ZA) (mg:ZC) (base:Heap) (k:Nat) (x:Str) (ps:ZB) (sp:Sp):Prop where
 ex:∃f fd,dj P w K mg base (CXO P w) k f fd ps sp/\mg x=some (.ref f)/\keepIn K (.ref f)=true/\dm K fd ps []
structure F4 (P:Program) (w:World) (K:ZA) (mg:ZC) (base:Heap) (k:Nat) (x:Str) (ps:ZB) (sp:Sp):Prop where
 ex:∃f fd,dj P w K mg base CX0 k f fd ps sp/\MkX K (aH mg x) f/\mg x=some (.ref (aH mg x))/\dm K fd ps []
section
variable{P:Program}{w:World}{K:ZA}{mg:ZC}{base:Heap}{x qual:Str}{st:Stmt}{N ps:ZB}{k:Nat}{sp:Sp}
theorem aD.calX(D:aD K mg x st ps)(S:au N ps (ah st))
 (a:∀(H:Hp) (vs:List V) (Q:VK) (E:XK),sp vs H Q E->vs.length=ps.length/\∀(f:Addr) (b:Value) (A:Around) (outer:List Env) (s:Shared),bF k (A.deeper (envOfC x (ah st) ⇑s f b))->
  ∃t,PSs (e9 (CXO P w) P w K mg base N x (ah st) f b A outer s H E) (bi st) t/\t {nx:=λ_ c=>Q .non c,rt:=Q} (start N vs) H):v8 P w K mg base (k+1) x ps sp:=by
 have%[f,d,F,e|g]:=D.ex;exact%[f,d,F.okX S (λv H Q E h=>(a H v Q E h).1) (λb A o s H v Q E r h=>(a H v Q E h).2 f b A o s r),e,F.kp|g]
theorem Bj.cal(D:Bj K mg x qual st ps)(S:au N ps (ah st))(len:∀vs H Q E,sp vs H Q E->vs.length=ps.length)
 (b:∀(f:Addr) (a:Value) (A:Around) (outer:List Env) (s:Shared) (H:Hp) (vs:List V) (Q:VK) (E:XK),exK K (aH mg x) f=true->bF k (A.deeper (envOfC qual (ah st) ⇑s f a))->sp vs H Q E->
  ∃t,PSs (e9 CX0 P w K mg base N qual (ah st) f a A outer s H E).nox (bi st) t/\t {nx:=λ_ c=>Q .non c,rt:=Q} (start N vs) H):F4 P w K mg base (k+1) x ps sp:=by
 have%[f,d,M,F|e]:=D.ini;exact%[f,d,F.ok S len λa A outer s H vs Q E=>b f a A outer s H vs Q E M.ex,M,D.at_|e]
end
section
variable{X:Cx}{K:ZA}{pos:Pos}
theorem Bk(g:gZ (CXO X.prog X.w) X E)(C:v8 X.prog X.w X.K X.mg X.base j x ps sp)(h:bF k X.A)(i:Gl X x)(a:Nat.ble j k=true)
 (b:(x==("__debug__":Str))=false) (c:(e::d).any aW=false) (l:QA X (e::d) t):QE X (.Call (.Name x p) (e::d) [] pos) (pY sp [] E t):=by
 rw[Zv,Yy]at c;have%[f,q,F,m,n|o]:=C.ex;exact⟨w6 F (h.mono (Y7 a)) i m n o .nil g l.h b (aw c.1) (du c.2)⟩
theorem F5(C:F4 X.prog X.w X.K X.mg X.base j x ps sp)(g:bF k X.A)(h:Gl X x)(a:Nat.ble (j+1) k=true)
 (b:(x==("__debug__":Str))=false) (c:(e::d).any aW=false) (i:QA X (e::d) t):QE X (.Call (.Name x p) (e::d) [] pos) (v7 (aH X.mg x) sp t):=by
 rw[Zv,Yy]at c;have%[f,n,F,M,l|m]:=C.ex;exact⟨Bf M F (g.mono (Y7 a)) h l m i.h b (aw c.1) (du c.2)⟩
theorem v9(b:Gl X x)(c:X.mg x=some (.ref (aH X.mg x)))(a:(x==("__debug__":Str))=false):QE X (.Name x p) (tC (.ref (aH X.mg x))):=⟨F3 b c a⟩
theorem F6(a:QE X e b):QE X (.FormattedValue e (-1) none pos) (FY b):=⟨FZ a.h⟩
theorem Bl:PJ X [] []:= .nil
theorem pjE(a:QE X e t)(h:PJ X b ts):PJ X (e::b) (t::ts):= .cons a.h h
theorem Bm{rest:List Expr}(h:PJ X (v1::a::rest) ts):QE X (.JoinedStr (v1::a::rest) pos) (nJ ts Str.empty):=⟨Dt h⟩
theorem Ex(c:Dv X.K C f)(a:fT e=false)(b:QE X e d):QE X (.Attribute e f pos) (xq C d f):=⟨Dw c b.h (d9 a)⟩
theorem Ht(c:FX X.K C f)(b:fS e=false)(d:QE X o g)(h:QE X e i):QS X (.Assign [.Attribute o f a] e pos) (Ew X.K C g i f):=⟨Dr c d.h h.h (iS b)⟩
theorem l9(h:X.K=K):cB X (.builtin "isinstance") (λxs H Q=>∃x y t b,xs=[x,y]/\TyX K H x t/\
 ((∃n,y= .ty n/\kitOne K t (.type n)=some b)\/(∃D,y= .ref D/\kitOne K t (.ref D)=some b)\/∃a c,y= .ref a/\H a=some (.tup (List.map V.ref c))/\kitAny K t (c.map Value.ref)=some b)/\Q (.bl b) H):=by
 subst h;exact⟨Bi⟩
end
theorem F7{P:Program}{K:ZA}
 (g:exK K C f=true) (h:QE (e9 (CXO P w) P w K mg base N c b i j A outer s₀ H₀ E) e l):
 QS (e9 (CXO P w) P w K mg base N c b i j A outer s₀ H₀ E) (.Raise (some e) none pos) (rS C l λa H=>∃d,H a=some (ExO a C (some d))/\H₀ a=none/\E (.ref C) (some d) (drop H a)):=⟨yX g h.h⟩
theorem F8{X:Cx}{C D f:Addr}(l:exK X.K C f=true)(m:Gl X x)(n:X.mg x=some (.ref D))(B:Bc X.K D)(g:(x==("__debug__":Str))=false)(h:(e::c).any aW=false)
 (i:∃pl:Sem Bool,eval (.Call (.Attribute (.Name x p) "__init__" b) (e::c) [] pos) X.env=(do
  let j<-eval (.Name x p) X.env
  standAt b.atName
  let(f,first)<-holding [j] (getMethod j "__init__" pl)
  callWith pos f first (backTo pos (starEach (e::c) X.env)) (backToKw pos (keywordEach [] X.env)))) (o:QA X (e::c) t):
 QE X (.Call (.Attribute (.Name x p) "__init__" b) (e::c) [] pos) (tCB (λxs H Q=>∃a d ys,xs=V.ref a::ys/\ys.length<=9/\H a=some (ExO a C d)/\Q .non H) t):=by
 rw[Zv,Yy]at h;have%[pl|i]:=i;exact⟨Bd m n B (v6 l) o.h g (aw h.1) (du h.2) i⟩
section
#where
end
section
#where
end
section
#where
end
section
#where
end
def clo(c:TE):TE:=λd H Q=>∃a:VK,c d H a/\∀v b,a v b->Q v b
theorem F9{X:Cx}(h:PE X e b):PE X e (clo b):=λpins s c H Q I ⟨d,q,k⟩=>
 thP (h pins s c H d I q) λ_ _ v a f r z=>%[v,a,f,r|k v a z]
theorem Ga{X:Cx}(h:PE X e t)(k:∀a H Q,t' a H Q->t a H Q):PE X e t':=λpins s a H Q I q=>h pins s a H Q I (k a H Q q)
theorem Bn(h:H r=none):drop (upd H r o) r=H:=by
 funext b;unfold drop upd
 simp_all
section
variable{X:Cx}{K:ZA}{pos:Pos}
end
end L2
namespace SBig
open PySem PyProof.Rows
section
variable(prog:Program)(w:World)(A:Around)(SI:Shared->Prop)
def SC{a:Type}(m:StateT SortSt Sem a)(Q:a->SortSt->Prop)(st:SortSt):Prop:=
 ∀s,SI s->↥A (m.run st) (λr s'=>SI s'/\Q r.1 r.2) (λ_ _=>False) s
def Cmp(a:SortKind)(D:Keyed->Prop)(N:Keyed->Nat):Prop:=
 ∀x y s,D x->D y->SI s->↥A (keyLt' a x.1 y.1) (λb s'=>b=decide (N x<N y)/\SI s') (λ_ _=>False) s
end
section
variable{prog:Program}{w:World}{A:Around}{SI:Shared->Prop}{α β:Type}
theorem bq{st:SortSt}(h:Q a st):(SC prog w A SI) (pure a) Q st:=λs b=>by
 exact Z3 %[b|h]
theorem aK{st:SortSt}(h:(SC prog w A SI) m (λa b=>(SC prog w A SI) (f a) Q b) st):(SC prog w A SI) (m>>= f) Q st:=λs c=>by
 exact Z2 (wpAny_mono (h s c) (λr s' h'=>h'.2 s' h'.1) λ_ _ e=>e)
theorem fV{st:SortSt}(h:(SC prog w A SI) m Q st)(c:∀a b,Q a b->d a b):(SC prog w A SI) m d st:=λs f=>
 wpAny_mono (h s f) (λr s' h'=>%[h'.1|c _ _ h'.2]) λ_ _ e=>e
theorem lv{st:SortSt}(h:Q st st):(SC prog w A SI) get Q st:=λs a=>by
 exact Z3 %[a|h]
theorem jn{st:SortSt}(h:Q ⟨⟩ (f st)):(SC prog w A SI) (modify f) Q st:=λs a=>by
 exact Z3 %[a|h]
theorem xt{st:SortSt}(h:∀s,SI s->↥A m (λa s'=>SI s'/\Q a st) (λ_ _=>False) s):(SC prog w A SI) (liftM m:StateT SortSt Sem α) Q st:=λs b=>by
 exact Z2 (wpAny_mono (h s b) (λa s' h'=>Z3 h') λ_ _ e=>e)
theorem xu{st:SortSt}(h:Q () st):(SC prog w A SI) (liftM (rule t):StateT SortSt Sem Unit) Q st:=xt λs a=>wpAny_rule %[a|h]
theorem fz{st:SortSt}(I:Nat->β->SortSt->Prop)(j:a<=b)(l:I a c st)
 (m:∀i x st,a<=i->i<b->I i x st->(SC prog w A SI) (f i x) (λr g=>match r with| .done y=>Q y g| .yield y=>I (i+1) y g) st) (n:∀x st,I b x st->Q x st):(SC prog w A SI) (forIn [a:b] c f) Q st:=by
 rw[Std.Legacy.Range.forIn_eq_forIn_range'];have o:([a:b]).size=b-a:=by simp[Std.Legacy.Range.size]
 have p:∀d i x st,i+d=b->a<=i->I i x st->(SC prog w A SI) (forIn (List.range' i d 1) x f) Q st:=by
  intro d
  induction d with
  | zero=>
    intro i x st e _ h;subst e;exact bq (n x st h)
  | succ d q=>
    intro i x st e s h;rw[List.range'_succ,forIn_cons];refine aK (fV (m i x st s ⋯ h) λr g h'=>?_);cases r with
    | done y=>exact bq h'
    | yield y=>exact q _ y g ⋯ ⋯ h'
 exact p _ a c st ⋯ (Zh _) l
theorem xv{st:SortSt}(a:xs[i]? =some x)(h:Q x st):(SC prog w A SI) (elem' xs i) Q st:=by
 rw[elem'_eq,a];exact bq h
theorem Hu{st:SortSt}(c:Cmp prog w A SI (kindOf st) D N)(d:D x)(f:D y)(h:Q (some (decide (N x<N y))) st):(SC prog w A SI) (lt' x y) Q st:=by
 refine aK (lv (aK (xt (λs g=>wpAny_attempt (wpAny_mono (c x y s d f g) (λb s' ⟨i,a⟩=>?_) λ_ _ e=>e.elim)))));subst i;exact%[a|bq h]
theorem Dy{st:SortSt}(c:Cmp prog w A SI (kindOf st) D N)(hi:(arrOf st)[i]? =some x)(a:(arrOf st)[j]? =some y)(b:D x)(d:D y)
 (h:Q (some (decide (N x<N y))) st):(SC prog w A SI) (ltAt' i j) Q st:=by
 exact aK (lv (aK (xv hi (aK (xv a (Hu c b d h))))))
end
end SBig
namespace SBig
open PySem PyProof.Rows
section
variable{prog:Program}{w:World}{A:Around}{SI:Shared->Prop}{α β:Type}
noncomputable def ahead(N:Keyed->Nat)(left:Bool)(a x:Keyed):Bool:=if left then decide (N x<N a)else !decide (N a<N x)
end
end SBig
namespace SBig
open PySem PyProof.Rows
def Srt(N:Keyed->Nat)(l:List Keyed):Prop:=l.Pairwise λx y=>N x<=N y
end SBig
namespace SBig
open PySem PyProof.Rows
section
variable{prog:Program}{w:World}{A:Around}{SI:Shared->Prop}{α β:Type}
theorem xw{a:Array Keyed}{i:Nat}(h:i<a.size):a[i]? =some a[i]/\a.toList[i]? =some a[i]:=%[by simp|by simp]
end
end SBig
namespace SBig
open PySem PyProof.Rows
section
variable{prog:Program}{w:World}{A:Around}{SI:Shared->Prop}{α β:Type}
end
end SBig
namespace SBig
open PySem PyProof.Rows
section
variable{prog:Program}{w:World}{A:Around}{SI:Shared->Prop}{α β:Type}
end
end SBig
namespace SBig
open PySem PyProof.Rows
noncomputable def ky(N:Keyed->Nat)(a:Array Keyed)(i:Nat):Nat:=N (a.getD i (Value.none,Value.none))
theorem Bo(h:a[i]? =some x):ky N a i=N x:=by
 unfold ky
 simp_all
theorem tY(h:a[i]? =b[j]?):ky N a i=ky N b j:=by
 unfold ky
 simp_all
structure CR (st0 st:SortSt) (lo:Nat):Prop where
 kind:kindOf st=kindOf st0
 pend:pendingOf st=pendingOf st0
 fail:failedOf st=failedOf st0
 perm:(arrOf st).Perm (arrOf st0)
 same:∀i,i<lo->(arrOf st)[i]? =(arrOf st0)[i]?
theorem CR.refl(st:SortSt)(lo:Nat):CR st st lo:=%[rfl,rfl,rfl,Array.Perm.refl _|λ_ _=>rfl]
theorem CR.size{a st:SortSt}{lo:Nat}(h:CR a st lo):(arrOf st).size=(arrOf a).size:=h.perm.size_eq
theorem CR.rev{a st:SortSt}{lo i j:Nat}(h:CR a st lo)(hi:lo<=i)(b:j<=(arrOf st).size):CR a (setArr st (mirror (arrOf st) i j ((j-i)/2))) lo:=
 %[h.kind,h.pend,h.fail,(mirror_perm _ _ _ _).trans h.perm|λk c=>by
  rw[getElem?_mirror_all b,if_neg ⋯];exact h.same k c]
theorem wa(b:j<=a.size)(k:Nat):ky N (mirror a i j ((j-i)/2)) k=if i<=k/\k<j then ky N a (i+j-1-k)else ky N a k:=by
 split
 .rename_i h
  exact tY (by rw[getElem?_mirror_all b,if_pos h])
 .rename_i h
  exact tY (by rw[getElem?_mirror_all b,if_neg h])
def Up(N:Keyed->Nat)(a:Array Keyed)(lo n:Nat):Prop:=∀i j,i<=j->j<n->ky N a (lo+i)<=ky N a (lo+j)
def Dn(N:Keyed->Nat)(a:Array Keyed)(lo n:Nat):Prop:=∀i j,i<=j->j<n->ky N a (lo+j)<=ky N a (lo+i)
theorem Up.one(N:Keyed->Nat)(a:Array Keyed)(lo:Nat):Up N a lo 1:=λi j b c=>by
 simp_all
theorem Up.step{lo n:Nat}(h:Up N a lo n)(d:1<=n)(f: ¬ ky N a (lo+n)<ky N a (lo+n-1)):Up N a lo (n+1):=λi j b g=>by
 by_cases e:j=n
 .subst e;by_cases c:i=j
  .exact c▸Zh _
  .have:=h i (j-1) ⋯ ⋯;rw[show lo+(j-1)=lo+j-1 by lia]at this
   lia
 .exact h i j b ⋯
theorem Dn.step{lo n:Nat}(h:Dn N a lo n)(d:1<=n)(f:ky N a (lo+n)<=ky N a (lo+n-1)):Dn N a lo (n+1):=λi j b g=>by
 by_cases e:j=n
 .subst e;by_cases c:i=j
  .exact c▸Zh _
  .have:=h i (j-1) ⋯ ⋯;rw[show lo+(j-1)=lo+j-1 by lia]at this
   lia
 .exact h i j b ⋯
theorem Dn.rev{lo n:Nat}(h:Dn N a lo n)(b:lo+n<=a.size):Up N (mirror a lo (lo+n) ((lo+n-lo)/2)) lo n:=λi j c d=>by
 rw[wa b,wa b,if_pos ⋯,if_pos ⋯];have:=h (n-1-j) (n-1-i) ⋯ ⋯
 grind
theorem Dn.same{lo n i j:Nat}(h:Dn N a lo n)(d:j<=a.size)(g:∀k b,i<=k->k<j->i<=b->b<j->ky N a k=ky N a b):Dn N (mirror a i j ((j-i)/2)) lo n:=by
 have e:∀k,ky N (mirror a i j _) k=ky N a k:=λk=>by
  rw[wa d]
  grind
 intro p q c f;rw[e,e];exact h p q c f
section
variable{prog:Program}{w:World}{A:Around}{SI:Shared->Prop}{α β:Type}
theorem nK{i j lo:Nat}{a st:SortSt}(c:Cmp prog w A SI (kindOf a) D N)(d:∀x∈(arrOf a).toList,D x)(r:CR a st lo)(hi:i<(arrOf a).size)(m:j<(arrOf a).size)
 (h:Q (some (decide (ky N (arrOf st) i<ky N (arrOf st) j))) st):(SC prog w A SI) (ltAt' i j) Q st:=by
 have f:=λx n=>d x ((Array.perm_iff_toList_perm.mp r.perm).mem_iff.mp n)
 have b:i<(arrOf st).size:=r.size▸hi;have e:j<(arrOf st).size:=r.size▸m;have%[g|o]:=xw b;have%[l|p]:=xw e;refine Dy (r.kind▸c) g l (f _ ∅) (f _ ∅) ?_;rw[Bo g,Bo l]at h;exact h
theorem rT{st:SortSt}(h:Q () (setArr st (mirror (arrOf st) i j ((j-i)/2)))):(SC prog w A SI) (reverseSlice' i j) Q st:=by
 exact jn h
noncomputable def cuL(lo:Nat)(x:Option (Option Nat)×Nat):StateT SortSt Sem (ForInStep (Option (Option Nat)×Nat)):=do
 match<-ltAt' (lo+x.2) (lo+x.2-1)with
 | some w=>if w=true then pure (.done (none,x.2))else pure (.yield (none,x.2+1))
 | _=>pure (.done (some none,x.2))
noncomputable def cu3(lo nrem n:Nat):StateT SortSt Sem (Option Nat):=do
 reverseSlice' lo (lo+n)
 let x<-forIn [n:nrem] (none,n) λ_ x=>cuL lo x
 match x.1 with
 | some r=>pure r
 | none=>pure (some x.2)
noncomputable def cuM(lo:Nat)(x:Option (Option Nat)×Nat×Nat):StateT SortSt Sem (ForInStep (Option (Option Nat)×Nat×Nat)):=do
 match<-ltAt' (lo+x.2.1) (lo+x.2.1-1)with
 | some w=>
   if w=true then(if x.2.2>0 then(do
    reverseSlice' (lo+x.2.1-(x.2.2+1)) (lo+x.2.1)
    pure (.yield (none,x.2.1+1,0)))else pure (.yield (none,x.2.1+1,0)))
   else(do
    match<-ltAt' (lo+x.2.1-1) (lo+x.2.1)with
    | some w=>if w=true then pure (.done (none,x.2.1,x.2.2))else pure (.yield (none,x.2.1+1,x.2.2+1))
    | _=>pure (.done (some none,x.2.1,x.2.2)))
 | _=>pure (.done (some none,x.2.1,x.2.2))
noncomputable def cu2(lo nrem n:Nat):StateT SortSt Sem (Option Nat):=do
 rule "list.sort.descending-run"
 let x<-forIn [n+1:nrem] (none,n+1,0) λ_ x=>cuM lo x
 match x.1 with
 | some r=>pure r
 | none=>
   if x.2.2>0 then(do
    reverseSlice' (lo+x.2.1-(x.2.2+1)) (lo+x.2.1)
    cu3 lo nrem x.2.1)else cu3 lo nrem x.2.1
set_option smartUnfolding false in
theorem Hv(lo nrem:Nat):countRun' lo nrem=(do
 let x<-forIn [1:nrem] (none,1) λ_ x=>cuL lo x
 match x.1 with
 | some r=>pure r
 | none=>
   if(x.2==nrem)=true then pure (some x.2)
   else if x.2>1 then(do
    match<-ltAt' lo (lo+x.2-1)with
    | some w=>if w=true then pure (some x.2)else(do
      reverseSlice' lo (lo+x.2)
      cu2 lo nrem x.2)
    | _=>pure none)else cu2 lo nrem x.2):=by
 rw[countRun'_eq];rfl
variable{D:Keyed->Prop}{N:Keyed->Nat}{lo nrem n j:Nat}{Q:Option Nat->SortSt->Prop}{st st2:SortSt}
theorem Bp{q:Option (Option Nat)}{R:ForInStep (Option (Option Nat)×Nat)->SortSt->Prop}(c:Cmp prog w A SI (kindOf st) D N)(d:∀x∈(arrOf st).toList,D x)(r:CR st st2 lo)(e:lo+nrem<=(arrOf st).size)(f:1<=j)(g:j<nrem)
 (a:ky N (arrOf st2) (lo+j)<ky N (arrOf st2) (lo+j-1)->R (.done (none,j)) st2) (b: ¬ ky N (arrOf st2) (lo+j)<ky N (arrOf st2) (lo+j-1)->R (.yield (none,j+1)) st2):(SC prog w A SI) (cuL lo (q,j)) R st2:=by
 refine aK (nK c d r ⋯ ⋯ ?_);dsimp only;by_cases q:ky N (arrOf st2) (lo+j)<ky N (arrOf st2) (lo+j-1)
 .rw[Ze q,if_pos rfl];exact bq (a q)
 .rw[Zg q,if_neg ∅];exact bq (b q)
theorem Bq(c:Cmp prog w A SI (kindOf st) D N)(d:∀x∈(arrOf st).toList,D x)(u:lo+nrem<=(arrOf st).size)(h:∀n a,CR st a lo->1<=n->n<=nrem->Up N (arrOf a) lo n->Q (some n) a)
 (r:CR st st2 lo) (p:1<=n) (s:n<=nrem) (v:Dn N (arrOf st2) lo n):(SC prog w A SI) (cu3 lo nrem n) Q st2:=by
 refine aK (rT ?_);have y:=r.rev (i:=lo) (j:=lo+n) (Zh _) (by rw[r.size];lia);have g:=v.rev (by rw[r.size];lia);refine aK (fV (fz (Q:=λx a=>CR st a lo/\∃n,x=(none,n)/\1<=n/\n<=nrem/\Up N (arrOf a) lo n)
  (λj x a=>CR st a lo/\x=(none,j)/\Up N (arrOf a) lo j) s %[y,rfl|g] ?_ ?_) ?_)
 .intro j x e l t %[f,rfl|b];have o:=Ya p l;exact Bp c d f u o t (λ_=>%[f,j,rfl,o,Y8 t|b]) λq=>%[f,rfl|b.step o q]
 .intro x e %[f,rfl|b];exact%[f,nrem,rfl,Ya p s,Zh _|b]
 .intro x e %[f,m,rfl,z,m2|b];exact bq (h m e f z m2 b)
theorem Gb{q:Option (Option Nat)}{k:Nat}{R:ForInStep (Option (Option Nat)×Nat×Nat)->SortSt->Prop}(c:Cmp prog w A SI (kindOf st) D N)(d:∀x∈(arrOf st).toList,D x)(r:CR st st2 lo)(z:lo+nrem<=(arrOf st).size)(u:k+1<=j)(B:j<nrem)
 (o:Dn N (arrOf st2) lo j) (p:∀i a,lo+j-(k+1)<=i->i<lo+j->lo+j-(k+1)<=a->a<lo+j->ky N (arrOf st2) i=ky N (arrOf st2) a)
 (v:R (.done (none,j,k)) st2) (g:∀k st2,CR st st2 lo->k<=j->Dn N (arrOf st2) lo (j+1)->(∀i a,lo+(j+1) -(k+1)<=i->i<lo+(j+1)->lo+(j+1) -(k+1)<=a->a<lo+(j+1)->ky N (arrOf st2) i=ky N (arrOf st2) a)->R (.yield (none,j+1,k)) st2):(SC prog w A SI) (cuM lo (q,j,k)) R st2:=by
 have one:∀st,∀i a,lo+(j+1) -(0+1)<=i->i<lo+(j+1)->lo+(j+1) -(0+1)<=a->a<lo+(j+1)->ky N (arrOf st) i=ky N (arrOf st) a:=λst i a h l y s=>by rw[show i=a by lia]
 refine aK (nK c d r ⋯ ⋯ ?_);dsimp only;by_cases m:ky N (arrOf st2) (lo+j)<ky N (arrOf st2) (lo+j-1)
 .rw[Ze m,if_pos rfl];have b:=o.step ⋯ (Y8 m);by_cases f:k>0
  .rw[if_pos f];exact aK (rT (bq (g 0 _ (r.rev ⋯ (by rw[r.size];lia)) (X2 _) (b.same (by rw[r.size];lia) p) (one _))))
  .rw[if_neg f];exact bq (g 0 _ r (X2 _) b (one _))
 .rw[Zg m,if_neg ∅];refine aK (nK c d r ⋯ ⋯ ?_);dsimp only;by_cases t:ky N (arrOf st2) (lo+j-1)<ky N (arrOf st2) (lo+j)
  .rw[Ze t,if_pos rfl];exact bq v
  .rw[Zg t,if_neg ∅];have all:∀i,lo+j-(k+1)<=i->i<lo+(j+1)->ky N (arrOf st2) i=ky N (arrOf st2) (lo+j-1):=λi h l=>by
    by_cases e:i=lo+j
    .rw[e];lia
    .exact p _ _ h ⋯ ⋯ ⋯
   exact bq (g (k+1) _ r u (o.step ⋯ ⋯) λi a h l y s=>(all i ⋯ l).trans (all a ⋯ s).symm)
theorem Br(c:Cmp prog w A SI (kindOf st) D N)(d:∀x∈(arrOf st).toList,D x)(p:lo+nrem<=(arrOf st).size)(h:∀n a,CR st a lo->1<=n->n<=nrem->Up N (arrOf a) lo n->Q (some n) a)
 (r:CR st st2 lo) (z:n<nrem) (s:Dn N (arrOf st2) lo (n+1)):(SC prog w A SI) (cu2 lo nrem n) Q st2:=by
 refine aK (xu ?_);refine aK (fV (fz (Q:=λx a=>CR st a lo/\∃m q,x=(none,m,q)/\q+1<=m/\m<=nrem/\Dn N (arrOf a) lo m/\(∀k f,lo+m-(q+1)<=k->k<lo+m->lo+m-(q+1)<=f->f<lo+m->ky N (arrOf a) k=ky N (arrOf a) f))
  (λj x a=>CR st a lo/\∃q,x=(none,j,q)/\q+1<=j/\Dn N (arrOf a) lo j/\(∀k f,lo+j-(q+1)<=k->k<lo+j->lo+j-(q+1)<=f->f<lo+j->ky N (arrOf a) k=ky N (arrOf a) f)) z %[r,0,rfl,Nat.le_add_left _ _,s|λk f G H I J=>by rw[show k=f by lia]] ?_ ?_) ?_)
 .intro j x l B u %[g,q,rfl,i,b|e];exact Gb c d g p i u b e %[g,j,q,rfl,i,Y8 u,b|e] λk st2 r C s E=>%[r,k,rfl,Nat.succ_le_succ C,s|E]
 .intro x l %[g,q,rfl,i,b|e];exact%[g,nrem,q,rfl,i,Zh _,b|e]
 .intro x l %[g,m,q,rfl,t,v,b|e];have y:1<=m:=Ya (Nat.le_add_left _ _) t;dsimp only;by_cases o:q>0
  .rw[if_pos o];exact aK (rT (Bq c d p h (g.rev ⋯ (by rw[g.size];lia)) y v (b.same (by rw[g.size];lia) e)))
  .rw[if_neg o];exact Bq c d p h g y v b
theorem tZ{lo nrem:Nat}{st:SortSt}(c:Cmp prog w A SI (kindOf st) D N)(d:∀x∈(arrOf st).toList,D x)(u:1<=nrem)(l:lo+nrem<=(arrOf st).size)
 (h:∀n b,CR st b lo->1<=n->n<=nrem->Up N (arrOf b) lo n->Q (some n) b):(SC prog w A SI) (countRun' lo nrem) Q st:=by
 rw[Hv];refine aK (fV (fz (Q:=λx b=>b=st/\∃n,x=(none,n)/\1<=n/\n<=nrem/\Up N (arrOf st) lo n/\(n=nrem\/ky N (arrOf st) (lo+n)<ky N (arrOf st) (lo+n-1)))
  (λj x b=>b=st/\x=(none,j)/\Up N (arrOf st) lo j) u %[rfl,rfl|Up.one _ _ _] ?_ ?_) ?_)
 .intro j x b e f %[rfl,rfl|up];exact Bp c d (CR.refl _ lo) l e f (λq=>%[rfl,j,rfl,e,Y8 f,up|.inr q]) λq=>%[rfl,rfl|up.step e q]
 .intro x b %[rfl,rfl|up];exact%[rfl,nrem,rfl,u,Zh _,up|.inl rfl]
 .intro x a %[I,n,rfl,g,v,up|m];subst I;dsimp only;by_cases o:n=nrem
  .rw[if_pos (by simp[o])];exact bq (h n a (CR.refl _ _) g v up)
  rw[if_neg (by simp[o])];have m:ky N (arrOf a) (lo+n)<ky N (arrOf a) (lo+n-1):=m.resolve_left o;have y:n<nrem:=by lia
  by_cases z:n>1
  .rw[if_pos z];refine aK (nK c d (CR.refl _ lo) ⋯ ⋯ ?_);dsimp only;by_cases B:ky N (arrOf a) lo<ky N (arrOf a) (lo+n-1)
   .rw[Ze B,if_pos rfl];exact bq (h n a (CR.refl _ _) g v up)
   .rw[Zg B,if_neg ∅];have all:∀i,i<n->ky N (arrOf a) (lo+i)=ky N (arrOf a) lo:=λi hi=>by
     have C:=up 0 i (X2 _) hi;have E:=up i (n-1) ⋯ ⋯;rw[show lo+(n-1)=lo+n-1 by lia]at E;rw[add_zero]at C
     lia
    have p:Dn N (arrOf a) lo n:=λi j r f=>by rw[all i ⋯,all j f];exact Zh _
    have s:Dn N (arrOf a) lo (n+1):=p.step g ⋯;exact aK (rT (Br c d l h ((CR.refl a lo).rev (Zh _) ⋯) y (s.same ⋯ (λk t C E J L=>by
     have G:=all (k-lo) ⋯;have H:=all (t-lo) ⋯;rw[show lo+(k-lo)=k by lia]at G;rw[show lo+(t-lo)=t by lia]at H;rw[G,H]))))
  .rw[if_neg z];refine Br c d l h (CR.refl a lo) y (Dn.step (λi j r f=>?_) g (Y8 m));rw[show i=j by lia];exact Zh _
end
end SBig
namespace SBig
open PySem PyProof.Rows
section
variable{prog:Program}{w:World}{A:Around}{SI:Shared->Prop}{α β:Type}
theorem CR.move{a st:SortSt}{lo k l:Nat}(h:CR a st lo)(b:lo+k<(arrOf st).size)(c:l<=k):CR a (setArr st (bubble (arrOf st) (lo+k) (lo+k-(lo+l)))) lo:=
 %[h.kind,h.pend,h.fail,(bubble_perm _ _ _).trans h.perm|λi hi=>by
  rw[getElem?_bubble b _ ⋯,if_neg ⋯,if_neg ⋯];exact h.same i hi]
theorem xx(f:b<a.size)(g:d<=b)(k:Nat):ky N (bubble a b d) k=if k=b-d then ky N a b else if b-d<k/\k<=b then ky N a (k-1)else ky N a k:=by
 by_cases c:k=b-d
 .rw[if_pos c];exact tY (by rw[getElem?_bubble f d g,if_pos c])
 .rw[if_neg c];by_cases e:b-d<k/\k<=b
  .rw[if_pos e];exact tY (by rw[getElem?_bubble f d g,if_neg c,if_pos e])
  .rw[if_neg e];exact tY (by rw[getElem?_bubble f d g,if_neg c,if_neg e])
theorem yY{lo n ok:Nat}{f st:SortSt}(c:Cmp prog w A SI (kindOf f) D N)(d:∀x∈(arrOf f).toList,D x)(r:CR f st lo)(M:1<=ok)(O:ok<=n)(hs:lo+n<=(arrOf f).size)(up:Up N (arrOf st) lo ok)
 (h:∀a,CR f a lo->Up N (arrOf a) lo n->Q true a):(SC prog w A SI) (binarySort' lo n ok) Q st:=by
 rw[binarySort'_eq];rw[show max ok 1=ok by lia];refine aK (fV (fz (Q:=λx a=>x=(none,())/\CR f a lo/\Up N (arrOf a) lo n) (λk x a=>x=(none,())/\CR f a lo/\Up N (arrOf a) lo k) O %[rfl,r|up] ?_ ?_) ?_)
 .intro k x b T hk %[rfl,m|up1];dsimp only;have pv:∀i,i<k->lo+i<(arrOf f).size:=λi hi=>by lia
  refine aK (fV (fz (Q:=λx a=>a=b/\∃l,x.1=none/\x.2.1=l/\l<=k/\(∀i,i<l->ky N (arrOf b) (lo+i)<=ky N (arrOf b) (lo+k))/\(∀i,l<=i->i<k->ky N (arrOf b) (lo+k)<ky N (arrOf b) (lo+i)))
   (λj x a=>a=b/\∃l q,x=(none,l,q)/\l<=q/\q<=k/\q-l<=k-j/\(∀i,i<l->ky N (arrOf b) (lo+i)<=ky N (arrOf b) (lo+k))/\(∀i,q<=i->i<k->ky N (arrOf b) (lo+k)<ky N (arrOf b) (lo+i))) (X2 _)
   %[rfl,0,k,rfl,⋯,⋯,⋯,λi hi=>absurd hi (Yw _)|λi M h2=>by lia] ?_ ?_) ?_)
  .intro j x g _ U %[rfl,l,q,rfl,B,o,Y,s|t];dsimp only;by_cases u:l>=q
   .rw[if_pos u];have e:l=q:=by lia
    subst e;exact bq %[rfl,l,rfl,rfl,o,s|t]
   .rw[if_neg u];refine aK (nK c d m ⋯ ⋯ ?_);dsimp only;by_cases p:ky N (arrOf g) (lo+k)<ky N (arrOf g) (lo+(l+q)/2)
    .rw[Ze p,if_pos rfl];exact bq %[rfl,l,_,rfl,⋯,⋯,⋯,s|λi v z=>Zf p (up1 _ _ v z)]
    .rw[Zg p,if_neg ∅];exact bq %[rfl,_,q,rfl,⋯,⋯,⋯,λi v=>Ya (up1 i ((l+q)/2) ⋯ ⋯) ⋯|t]
  .intro x g %[rfl,l,q,rfl,B,o,Y,s|t];have e:l=q:=by lia
   subst e;exact%[rfl,l,rfl,rfl,o,s|t]
  .rintro⟨x1,x2,x3⟩ g ⟨e2,l,G,H,C,s,t⟩;subst e2;dsimp only at G H;subst G H;dsimp only;rw[moveDown'_eq];refine aK (jn (bq %[rfl,m.move (by rw[m.size];lia) C|?_]));have y:lo+k<(arrOf g).size:=by rw[m.size];lia
   intro i j E U;rw[xx y ⋯,xx y ⋯];have ed:lo+k-(lo+k-(lo+x2))=lo+x2:=by lia
   rw[ed];by_cases v:lo+i=lo+x2
   .rw[if_pos v];by_cases z:lo+j=lo+x2
    .rw[if_pos z];exact Zh _
    .rw[if_neg z,if_pos ⋯];have:=t (j-1) ⋯ ⋯;rw[show lo+(j-1)=lo+j-1 by lia]at this
     lia
   .rw[if_neg v];by_cases I:lo+x2<lo+i/\lo+i<=lo+k
    .rw[if_pos I,if_neg ⋯,if_pos ⋯];have:=up1 (i-1) (j-1) ⋯ ⋯;rw[show lo+(j-1)=lo+j-1 by lia,show lo+(i-1)=lo+i-1 by lia]at this;exact this
    .rw[if_neg I];by_cases J:lo+j=lo+x2
     .rw[if_pos J];exact s i ⋯
     .rw[if_neg J];by_cases L:lo+x2<lo+j/\lo+j<=lo+k
      .rw[if_pos L];have:=up1 i (j-1) ⋯ ⋯;rw[show lo+(j-1)=lo+j-1 by lia]at this;exact this
      .rw[if_neg L];exact up1 i j E ⋯
 .intro x b %[rfl,m|up1];exact%[rfl,m|up1]
 .intro x b %[rfl,m|up1];exact bq (h b m up1)
end
end SBig
namespace SBig
open PySem PyProof.Rows
section
variable{prog:Program}{w:World}{A:Around}{SI:Shared->Prop}
theorem Dz(h:Up N a 0 a.size):Srt N a.toList:=by
 refine List.pairwise_iff_getElem.mpr λi j hi b c=>?_
 have g:∀i hi,N a.toList[i]=ky N a (0+i):=λi hi=>(Bo ∅).symm
 rw[g,g];exact h i j ⋯ (b)
theorem sc_sortFew{st:SortSt}(c:Cmp prog w A SI (kindOf st) D N)(d:∀x∈(arrOf st).toList,D x)(E:1<=(arrOf st).size)(l:(arrOf st).size<64)(z:pendingOf st= #[])(G:failedOf st=none)
 (h:∀a,(arrOf a).toList.Perm (arrOf st).toList->Srt N (arrOf a).toList->failedOf a=none->Q () a):(SC prog w A SI) sortRuns' Q st:=by
 rw[sortRuns'_eq];refine aK (lv ?_);dsimp only;have H:minRun' (arrOf st).size (arrOf st).size 0=(arrOf st).size:=by
  obtain⟨m,e⟩:∃m,(arrOf st).size=m+1:=%[_|(Nat.sub_add_cancel E).symm]
  rw[e]at l ⊢;rw[minRun'_succ,if_pos l,add_zero]
 rw[H];refine aK (fV (fz (Q:=λx a=>x=(none,(arrOf st).size)/\(arrOf a).toList.Perm (arrOf st).toList/\Srt N (arrOf a).toList/\failedOf a=none/\(pendingOf a).size=1)
  (λj x a=>(j=0/\x=(none,0)/\a=st)\/(x=(none,(arrOf st).size)/\(arrOf a).toList.Perm (arrOf st).toList/\Srt N (arrOf a).toList/\failedOf a=none/\(pendingOf a).size=1)) (X2 _) (.inl %[rfl,rfl|rfl]) ?_ ?_) ?_)
 .rintro j x f _ I (⟨rfl,rfl,rfl⟩|⟨rfl,ok⟩)
  .dsimp only;rw[if_neg ⋯];refine aK (tZ c d ⋯ ⋯ λn g B J U o=>?_);dsimp only;have C:∀(b:SortSt) (n:Nat),n=(arrOf f).size->CR f b 0->Up N (arrOf b) 0 n->(pendingOf b).back? =none/\(arrOf b).toList.Perm (arrOf f).toList/\Srt N (arrOf b).toList/\failedOf b=none/\(pendingOf b).size=0:=λb n e r u=>by
    refine%[by rw[r.pend,z];rfl,Array.perm_iff_toList_perm.mp r.perm,Dz (by rw[r.size,<-e];exact u),r.fail.trans G|by rw[r.pend,z];rfl]
   by_cases i:n<(arrOf f).size
   .rw[if_pos i];refine aK (xu (aK (yY c d B J ⋯ ⋯ o λb L p=>?_)));rw[if_neg ∅];refine aK (lv ?_);have%[q,s,t,v|y]:=C b _ ⋯ L p;rw[q];dsimp only;refine aK (jn (bq (.inr %[?_,s,t,v|?_])))
    .rw[zero_add,Nat.sub_zero,Nat.min_self]
    .show((pendingOf b).push _).size=1;rw[Array.size_push,y]
   .rw[if_neg i];refine aK (lv ?_);have%[q,s,t,v|y]:=C g _ ⋯ B o;rw[q];dsimp only;refine aK (jn (bq (.inr %[?_,s,t,v|?_])))
    .rw[zero_add,show n=(arrOf f).size by lia]
    .rw[Array.size_push,y]
  .dsimp only;rw[if_pos (Zh _)];exact bq %[rfl|ok]
 .rintro x f (⟨e,_⟩|ok)
  .lia
  .exact ok
 .intro x f %[rfl,M,O,T|Y];dsimp only;refine aK (fV (fz (Q:=λx a=>x=(none,())/\a=f) (λj x a=>x=(none,())/\a=f) (X2 _) %[rfl|rfl] ?_ ?_) ?_)
  .intro j x g _ I %[rfl|rfl];refine aK (lv ?_);rw[if_pos ⋯];exact bq %[rfl|rfl]
  .rintro x g e;exact e
  .intro x g %[rfl|rfl];exact bq (h g M O T)
end
end SBig
namespace STab
open PySem PySem.SetTable
theorem t7:∀k,∃q,5^(2^k)=1+2^(k+2)*(2*q+1)
 | 0=>%[0|rfl]
 | k+1=>by
   have%[q|e]:=t7 k;refine%[q+2^k*(2*q+1)*(2*q+1)|?_];rw[pow_succ 2 k,Nat.pow_mul,e]
   grind
noncomputable def step(M i:Nat):Nat:=(i*5+1)%M
noncomputable def iter(M:Nat):Nat->Nat->Nat
 | 0,i=>i
 | n+1,i=>step M (iter M n i)
noncomputable def geo:Nat->Nat
 | 0=>0
 | n+1=>geo n*5+1
theorem rV:∀n,4*geo n+1=5^n
 | 0=>rfl
 | n+1=>by
   have:=rV n;rw[pow_succ,<-this,geo]
   lia
theorem kh(M:Nat)(i:Nat):∀n,iter M n i%M=(5^n*i+geo n)%M
 | 0=>by simp[iter,geo]
 | n+1=>by
   rw[iter,step,Nat.mod_mod,geo,pow_succ];rw[add_mod,Nat.mul_mod,(kh M i n),<-Nat.mul_mod,<-add_mod]
   congr 1
   grind
theorem nM:∀(k i e:Nat),e<2^k->∃n,n<2^k/\iter (2^k) n i%2^k=e
 | 0,i,e,c=>%[0,by simp|by simp at c;subst c;simp[Nat.mod_one]]
 | k+1,i,e,c=>by
   have%[n,M|t]:=nM k i (e%2^k) (mod_lt _ (Nat.two_pow_pos k));have d:∀n,iter (2^(k+1)) n i%2^(k+1)%2^k=iter (2^k) n i%2^k:=λn=>by
    rw[Nat.mod_mod_of_dvd _ (Nat.pow_dvd_pow 2 (Y9 k)),<-Nat.mod_mod_of_dvd _ (Nat.pow_dvd_pow 2 (Y9 k)),kh,Nat.mod_mod_of_dvd _ (Nat.pow_dvd_pow 2 (Y9 k)),kh]
   have%[q|b]:=t7 k;have w:geo (2^k)=2^k*(2*q+1):=by
    have g:=rV (2^k);rw[b,Nat.pow_add]at g;have:2^k*2^2*(2*q+1)=4*(2^k*(2*q+1)):=by
     rw[Nat.mul_right_comm];lia
    lia
   have f:∀n,iter (2^(k+1)) (n+2^k) i%2^(k+1)=(iter (2^(k+1)) n i+2^k)%2^(k+1):=λn=>by
    rw[kh];have y:5^(n+2^k)*i+geo (n+2^k)=5^(2^k)*(5^n*i+geo n) +geo (2^k):=by
     have g1:=rV (n+2^k);have g2:=rV n
     grind
    rw[y,b,w];have z:2^(k+1)=2*2^k:=by rw[pow_succ];lia
    have j:2^(k+2)=2*2^(k+1):=by rw[pow_succ];lia
    have p:=kh (2^(k+1)) i n
    generalize 5^n*i+geo n=v at p ⊢
    have A:(1+2^(k+2)*(2*q+1))*v+2^k*(2*q+1)=v+2^k+2^(k+1)*(2*((2*q+1)*v) +q):=by
     rw[Nat.add_mul,Nat.one_mul,j];have B:2*2^(k+1)*(2*q+1)*v=2^(k+1)*(2*((2*q+1)*v)):=by
      simp only[Nat.mul_assoc,Nat.mul_left_comm]
     have C:2^k*(2*q+1)=2^k+2^(k+1)*q:=by
      rw[z,Nat.mul_add,Nat.mul_one]
      lia
     rw[B,C,Nat.mul_add]
     lia
    rw[A,Nat.add_mul_mod_self_left,add_mod,<-p,<-add_mod]
   have l:=d n;rw[t]at l;have E:iter (2^(k+1)) n i%2^(k+1)<2^(k+1):=mod_lt _ (Nat.two_pow_pos _);have m:=f n;rw[add_mod,Nat.mod_eq_of_lt (by lia:2^k<2^(k+1))]at m;obtain⟨a,r⟩:∃a,a=iter (2^(k+1)) n i%2^(k+1):=%[_|rfl]
   rw[<-r]at l E m;have o:a=e\/(a+2^k)%2^(k+1)=e:=by
    have s:=Nat.div_add_mod a (2^k);have G:=Nat.div_add_mod e (2^k);have H:a/2^k<2:=Nat.div_lt_of_lt_mul ⋯;have I:e/2^k<2:=Nat.div_lt_of_lt_mul ⋯;rw[l]at s
    generalize a/2^k=u at s H
    generalize e/2^k=v at G I
    have J:u=0\/u=1:=by lia
    have L:v=0\/v=1:=by lia
    rcases J with rfl|rfl<;> rcases L with rfl|rfl
    .left;lia
    .right
     rw[Nat.mod_eq_of_lt ⋯]
     lia
    .right
     rw[show a+2^k=e+2^(k+1) by lia,Nat.add_mod_right,Nat.mod_eq_of_lt c]
    .left;lia
   rcases o with h|h
   .exact%[n,⋯|by rw[<-r,h]]
   .exact%[n+2^k,⋯|by rw[m,h]]
end STab
namespace STab
open PySem PySem.SetTable
noncomputable def stand(t:SetTable)(h:Int):Nat->Probe
 | 0=>t.probeStart h
 | n+1=>t.advance (stand t h n)
noncomputable def way(t:SetTable)(h:Int)(n:Nat):Nat:=(stand t h n).j
noncomputable def aI(t:SetTable)(h:Int):Nat->Nat×Nat
 | 0=>(bits h%(t.mask+1),bits h)
 | r+1=>leap t.mask (aI t h r).1 (aI t h r).2
theorem md(t:SetTable)(h:Int):∀n,(stand t h n).dummy=none
 | 0=>rfl
 | n+1=>by
   have:=md t h n;show(t.advance _).dummy=none;unfold advance
   split
   .exact this
   .exact this
theorem DA(m i:Nat):runEnd m i-i<=9:=by
 unfold runEnd
 split<;> lia
theorem yZ(t:SetTable)(h:Int):∀r,∃n,n<=10*r/\∀d,d<=runEnd t.mask (aI t h r).1-(aI t h r).1->
 stand t h (n+d)=%[(aI t h r).1+d,runEnd t.mask (aI t h r).1-(aI t h r).1-d,(aI t h r).1,(aI t h r).2|none]:=by
 have a:∀n i b,stand t h n=%[i,runEnd t.mask i-i,i,b|none]->∀d,d<=runEnd t.mask i-i->stand t h (n+d)=%[i+d,runEnd t.mask i-i-d,i,b|none]:=by
  intro n i b e d
  induction d with
  | zero=>intro _;rw[add_zero,e];rfl
  | succ d c=>
    intro f;show t.advance (stand t h (n+d))=_;rw[c ⋯];unfold advance;rw[if_pos ⋯]
    grind
 intro r
 induction r with
 | zero=>exact%[0,X2 _|a 0 _ _ rfl]
 | succ r c=>
   have%[n,g|e]:=c;have j:=DA t.mask (aI t h r).1;refine%[n+(runEnd t.mask (aI t h r).1-(aI t h r).1) +1,⋯|a _ _ _ ?_];show t.advance _=_;rw[e _ (Zh _)];unfold advance;rw[if_neg ⋯];rfl
theorem DB(h:Int):bits h<2^64:=by
 unfold bits
 grind
theorem nO(t:SetTable)(h:Int):∀r,(aI t h r).2=bits h/32^r
 | 0=>by simp[aI]
 | r+1=>by
   show(aI t h r).2/32=_;rw[nO t h r,Nat.div_div_eq_div_mul,pow_succ]
theorem Bs(t:SetTable)(h:Int):∀r,(aI t h r).1<t.mask+1
 | 0=>mod_lt _ (succ_pos _)
 | r+1=>mod_lt _ (succ_pos _)
theorem jO(t:SetTable)(h:Int):∀m,(aI t h (12+m)).1=iter (t.mask+1) m (aI t h 12).1
 | 0=>rfl
 | m+1=>by
   show((aI t h (12+m)).1*5+1+(aI t h (12+m)).2/32)%(t.mask+1)=step _ _;rw[jO t h m,nO,Nat.div_div_eq_div_mul,<-pow_succ];have a:bits h/32^(12+m+1)=0:=by
    exact Nat.div_eq_of_lt (Zf (DB h) (Ya (by decide:2^64<=32^13) (Nat.pow_le_pow_right (by decide) ⋯)))
   rw[a,add_zero];rfl
theorem nP(a:t.mask+1=2^k)(h:Int)(e:Nat)(c:e<=t.mask):∃r,r<turns t.mask/\(aI t h r).1=e:=by
 have%[n,d|b]:=nM k _ e ⋯;refine%[12+n,by unfold turns;lia|?_];rw[jO,a];rw[<-a]at b;have:iter (t.mask+1) n (aI t h 12).1<t.mask+1:=by rw[<-jO];exact Bs t h _
 rw[Nat.mod_eq_of_lt this]at b;exact a▸b
theorem wb(a:t.mask+1=2^k)(h:Int)(e:Nat)(b:e<=t.mask):∃n,n+10<=10*turns t.mask/\way t h n=e:=by
 have%[r,f|c]:=nP a h e b;have%[n,g|d]:=yZ t h r;refine%[n,⋯|?_];have:=d 0 (X2 _);unfold way;rw[add_zero]at this;rw[this];exact c
theorem t8(o:t.dummies= #[]){hashAt:Nat->Int}:∀(fuel n m:Nat),n<=m->m<n+fuel->t.slot (way t h m)= .empty->
 ∃q,n<=q/\q<=m/\(∀j,n<=j->j<q->∃i,t.slot (way t h j)= .live i/\hashAt i≠h)/\
  ((t.slot (way t h q)= .empty/\probe.go t hashAt h fuel (stand t h n)=some (.empty (way t h q) none))\/
   ∃i,t.slot (way t h q)= .live i/\hashAt i=h/\probe.go t hashAt h fuel (stand t h n)=some (.candidate (way t h q) i (stand t h (q+1))))
 | 0,n,m,g,r,_=>by lia
 | fuel+1,n,m,g,r,p=>by
   have d:probe.go t hashAt h (fuel+1) (stand t h n)=(match t.slot (stand t h n).j with
    | .empty=>some _
    | .dummy=>probe.go t hashAt h fuel (t.advance {stand t h n with dummy:=some _})
    | .live i=>if hashAt i==h then some _ else probe.go t hashAt h fuel _):=rfl
   have l:(stand t h n).j=way t h n:=rfl;cases c:t.slot _ with
   | empty=>
     refine%[n,Zh _,g,λj a b=>by lia|.inl %[c|?_]];rw[d,l,c,md]
   | dummy=>
     exfalso;unfold slot at c;dsimp only at c
     split at c
     .lia
     .split at c
      .rename_i q
       rw[o]at q;simp[has]at q
      .lia
   | live i=>
     by_cases f:hashAt i=h
     .refine%[n,Zh _,g,λj a b=>by lia|.inr %[i,c,f|?_]];rw[d,l,c];dsimp only;rw[if_pos (by simp[f])];rfl
     .have s:n≠m:=λq=>by rw[q,p]at c;cases c
      have%[q,z,u,v|w]:=t8 o fuel (n+1) m ⋯ ⋯ p;have y:probe.go t hashAt h (fuel+1) (stand t h n)=probe.go t hashAt h fuel (stand t h (n+1)):=by
       rw[d,l,c];dsimp only;rw[if_neg (by simp[f])];rfl
      refine%[q,⋯,u,λj a b=>?_|?_]
      .by_cases e:j=n
       .exact e▸%[i,c|f]
       .exact v j ⋯ b
      .exact y▸w
end STab
namespace STab
open PySem PySem.SetTable
theorem nQ(xs:Array Nat)(j:Nat)(d:∀a b (s:a<xs.size) (t:b<xs.size),a<b->xs[a]<xs[b]):∀(fuel lo hi:Nat),hi-lo<=fuel->lo<=hi->hi<=xs.size->(∀i (h:i<xs.size),i<lo->xs[i]<j)->(∀i (h:i<xs.size),hi<=i->j<=xs[i])->
 below.go xs j fuel lo hi<=xs.size/\(∀i (h:i<xs.size),i<below.go xs j fuel lo hi->xs[i]<j)/\(∀i (h:i<xs.size),below.go xs j fuel lo hi<=i->j<=xs[i])
 | 0,lo,hi,p,q,f,g,l=>by
   have e:lo=hi:=by lia
   subst e;exact%[f,g|l]
 | fuel+1,lo,hi,p,q,f,g,l=>by
   rw[below.go];by_cases c:lo<hi
   .rw[if_pos c];dsimp only;have n:(lo+hi)/2<xs.size:=by lia
    have r:xs.getD ((lo+hi)/2) j=xs[(lo+hi)/2]:=by simp[Array.getD,n]
    rw[r];by_cases m:xs[(lo+hi)/2]<j
    .rw[if_pos m];refine nQ xs j d fuel _ hi ⋯ ⋯ f (λi h o=>?_) l;by_cases e:i=(lo+hi)/2
     .subst e;exact m
     .exact Nat.lt_trans (d i _ h n ⋯) m
    .rw[if_neg m];refine nQ xs j d fuel lo _ ⋯ ⋯ ⋯ g (λi h o=>?_);by_cases e:i=(lo+hi)/2
     .subst e;lia
     .have:=d _ i n h ⋯
      lia
   .rw[if_neg c];have e:lo=hi:=by lia
    subst e;exact%[f,g|l]
def Bt(xs:Array Nat):Prop:=∀a b c (d:b<xs.size),a<b->xs[a]<xs[b]
theorem jP(a:Bt xs)(j:Nat):below xs j<=xs.size/\(∀i (h:i<xs.size),i<below xs j->xs[i]<j)/\(∀i (h:i<xs.size),below xs j<=i->j<=xs[i]):=
 nQ xs j a xs.size 0 xs.size ⋯ (X2 _) (Zh _) (λi h q=>absurd q (Yw _)) (λi h q=>by lia)
theorem Bu(a:Bt xs)(h:xs[i]? =some j):below xs j=i:=by
 have%[f,c|d]:=jP a j;have%[hi|e]:=Array.getElem?_eq_some_iff.mp h;rcases Nat.lt_trichotomy i _ with q|q|q
 .have:=c i hi q
  lia
 .exact q.symm
 .have b:below xs j<xs.size:=by lia
  have:=d _ b (Zh _);have:=a _ i b hi q
  lia
theorem qA{t:SetTable}(a:Bt t.place)(h:t.place[i]? =some j):t.slot j= .live i:=by
 unfold slot;dsimp only;rw[Bu a h,h];simp
theorem jQ{t:SetTable}(a:Bt t.place)(b:t.dummies= #[])(j:Nat):(∃i,t.place[i]? =some j/\t.slot j= .live i)\/(j∉t.place.toList/\t.slot j= .empty):=by
 by_cases h:j∈t.place.toList
 .have%[i|hi]:=X3 h;have hi:=by simpa using hi
  exact .inl %[i,hi|qA a hi]
 .refine .inr %[h|?_];unfold slot;rw[if_neg,if_neg]
  .rw[b];simp[has]
  .intro q;exact h (mem_toList_iff.mpr (Array.mem_of_getElem? (by simpa using q)))
theorem t9(h:t.mask=t'.mask)(x:Int):∀n,stand t x n=stand t' x n
 | 0=>by
   show t.probeStart x=t'.probeStart x;unfold probeStart;rw[h]
 | n+1=>by
   show t.advance _=t'.advance _;rw[t9 h x n];unfold advance;rw[h]
theorem qB(h:t.mask=t'.mask)(x:Int)(n:Nat):way t x n=way t' x n:=by unfold way;rw[t9 h]
structure WF (t:SetTable) (es:Array (Int×Value)):Prop where
 pow:∃k,t.mask+1=2^k
 big:7<=t.mask
 dum:t.dummies= #[]
 rise:Bt t.place
 inb:∀j∈t.place.toList,j<=t.mask
 size:t.place.size=es.size
 chain:∀(i j:Nat) h x,t.place[i]? =some j->es[i]? =some (h,x)->∃n,way t h n=j/\∀m,m<n->way t h m∈t.place.toList
theorem nodup_sub [DecidableEq c]:∀{l m:List c},l.Nodup->(∀x∈l,x∈m)->l.length<=m.length
 |[],_,_,_=>X2 _
 | x::l,m,d,a=>by
   have%[f|g]:=nodup_cons.mp d;have b:=a x Zl;have h:=nodup_sub (m:=m.erase x) g λy i=>(List.mem_erase_of_ne (λe=>f (by simp_all))).mpr (a y (Zj _ i))
   rw[List.length_erase_of_mem b]at h;have:=List.length_pos_of_mem b;rw[Zq]
   lia
theorem wc(W:WF t v)(R:t.place.size<=t.mask)(h:Int):∃m,m+10<=10*turns t.mask/\way t h m∉t.place.toList/\(∀q,q<m->way t h q∈t.place.toList):=by
 have%[k|l]:=W.pow;have ex:∃e,e<=t.mask/\e∉t.place.toList:=by
  refine Classical.byContradiction λb=>?_
  have:(List.range (t.mask+1)).length<=t.place.toList.length:=nodup_sub nodup_range λx o=>(λe c=>Classical.byContradiction λq=>b %[e,c|q]) x (by have:=mem_range.mp o;lia)
  rw[Yd,Za]at this
  lia
 have%[e,c|f]:=ex;have%[n,p|hw]:=wb l h e c;have:∀d,∀n,n<=d->n+10<=10*turns t.mask->way t h n∉t.place.toList->∃m,m+10<=10*turns t.mask/\way t h m∉t.place.toList/\(∀q,q<m->way t h q∈t.place.toList):=by
  intro d
  induction d with
  | zero=>
    intro n r g i;have:n=0:=by lia
    subst this;exact%[0,g,i|λq j=>absurd j (Yw _)]
  | succ d s=>
    intro n r g i;by_cases a:∀q,q<n->way t h q∈t.place.toList
    .exact%[n,g,i|a]
    .have%[q|j]:=Classical.not_forall.mp a;have%[w|u]:=Classical.not_imp.mp j;exact s q ⋯ ⋯ u
 exact this n n (Zh _) p (hw▸f)
end STab
namespace STab
open PySem PySem.SetTable
theorem ki(xs:Array a)(p:Nat)(x:a)(b:p<=xs.size):(insertAt xs p x).toList=xs.toList.take p++x::xs.toList.drop p:=by
 unfold insertAt;rw[toList_append,toList_push,toList_extract,toList_extract,List.extract_eq_take_drop,List.extract_eq_take_drop];rw[List.drop_zero,Nat.sub_zero,Zm (l:=xs.toList.drop p) ∅];simp
theorem we(xs:Array c)(x:c)(f:p<=xs.size)(i:Nat):(insertAt xs p x)[i]? =if i<p then xs[i]? else if i=p then some x else xs[i-1]? :=by
 have e:(insertAt xs p x)[i]? =(insertAt xs p x).toList[i]? :=by simp
 rw[e,ki xs p x f];have g:(xs.toList.take p).length=p:=by simp_all
 by_cases a:i<p
 .rw[if_pos a,Y3 ⋯,List.getElem?_take,if_pos a];simp
 .rw[if_neg a,Y4 ⋯,g];by_cases b:i=p
  .rw[if_pos b,b,sub_self];rfl
  .rw[if_neg b];obtain⟨d,h⟩:∃d,i-p=d+1:=%[i-p-1|⋯]
   rw[h,List.getElem?_cons_succ,getElem?_drop];rw[show p+d=i-1 by lia];simp
theorem iZ(xs:Array a)(p:Nat)(x:a)(b:p<=xs.size):(insertAt xs p x).size=xs.size+1:=by
 rw[<-Za,ki xs p x b,Z8,Zq,Yf,Yb,Za]
 lia
theorem Bv(t:SetTable)(h:Int):∀n,(stand t h n).j+(stand t h n).more<=t.mask
 | 0=>by
   show bits h%(t.mask+1) +(runEnd t.mask _-bits h%(t.mask+1))<=t.mask;have:=mod_lt (bits h) (show 0<t.mask+1 from succ_pos _);unfold runEnd
   split<;> lia
 | n+1=>by
   have a:=Bv t h n;show(t.advance _).j+(t.advance _).more<=t.mask;unfold advance
   split
   .lia
   .dsimp only[leap];have:=mod_lt ((stand t h n).i*5+1+(stand t h n).perturb/32) (show 0<t.mask+1 from succ_pos _);unfold runEnd
    split<;> lia
theorem rW(t:SetTable)(h:Int)(n:Nat):way t h n<=t.mask:=by
 have:=Bv t h n;unfold way
 lia
theorem WF.put(W:WF t J)(U:way t h m∉t.place.toList)(Y:∀q,q<m->way t h q∈t.place.toList)(r f:Bool):
 (t.put (way t h m)).2=below t.place (way t h m)/\(t.put (way t h m)).1.mask=t.mask/\(t.put (way t h m)).1.place.size=t.place.size+1/\(t.put (way t h m)).1.led=t.led/\(t.put (way t h m)).1.plain=t.plain/\(t.put (way t h m)).1.moves=t.moves/\
  WF {(t.put (way t h m)).1 with led:=r,plain:=f} (insertAt J (t.put (way t h m)).2 (h,x)):=by
 have hd:has t.dummies (way t h m)=false:=by rw[W.dum];simp[has]
 have ep:t.put (way t h m)=({t with place:=insertAt t.place (below t.place (way t h m)) (way t h m)},below t.place (way t h m)):=by
  unfold SetTable.put;dsimp only;rw[hd];rfl
 rw[ep];have%[g,L|M]:=jP W.rise (way t h m)
 generalize hp:below t.place (way t h m)=p at g L M
 have w:p<=J.size:=by rw[<-W.size];exact g
 have s3:∀i (hi:i<t.place.size),p<=i->way t h m<t.place[i]:=λi hi q=>by
  have:=M i hi q;rcases Nat.eq_or_lt_of_le this with e|e
  .exact absurd (by rw[e];simp) U
  .exact e
 have c:∀y,y∈(insertAt t.place p (way t h m)).toList↔y=way t h m\/y∈t.place.toList:=λy=>by
  rw[ki _ _ _ g,Ym,Yp];have:=X1 p t.place.toList
  constructor
  .rintro(q|q|q)
   .exact .inr (Yq q)
   .exact .inl q
   .exact .inr (List.mem_of_mem_drop q)
  .rintro(q|q)
   .exact .inr (.inl q)
   .rw[<-this]at q;rcases X9 q with q|q
    .exact .inl q
    .exact .inr (.inr q)
 refine%[rfl,rfl,iZ _ _ _ g,rfl,rfl,rfl,W.pow,W.big,W.dum,?_,?_,?_|?_]
 .intro a b ha B C;have l:(insertAt t.place p (way t h m))[a]? =some (insertAt t.place p (way t h m))[a]:=by simp
  have d:(insertAt t.place p (way t h m))[b]? =some (insertAt t.place p (way t h m))[b]:=by simp
  show(insertAt t.place p (way t h m))[a]<(insertAt t.place p (way t h m))[b];rw[we _ _ g]at l d;have ab:b<t.place.size+1:=(iZ t.place p (way t h m) g)▸B;by_cases E:a<p
  .rw[if_pos E]at l;have%[u|G]:=Array.getElem?_eq_some_iff.mp l;rw[<-G];by_cases r:b<p
   .rw[if_pos r]at d;have%[f|v]:=Array.getElem?_eq_some_iff.mp d;exact v▸W.rise a b u f C
   .rw[if_neg r]at d;by_cases f:b=p
    .rw[if_pos f]at d;exact(Z9 d)▸L a u E
    .rw[if_neg f]at d;have%[v|H]:=Array.getElem?_eq_some_iff.mp d;exact H▸W.rise a (b-1) u v ⋯
  .rw[if_neg E]at l;have r: ¬ b<p:=by lia
   have f: ¬ b=p:=by lia
   rw[if_neg r,if_neg f]at d;have%[v|H]:=Array.getElem?_eq_some_iff.mp d;rw[<-H];by_cases u:a=p
   .rw[if_pos u]at l;exact(Z9 l)▸s3 (b-1) v ⋯
   .rw[if_neg u]at l;have%[G|a4]:=Array.getElem?_eq_some_iff.mp l;exact a4▸W.rise (a-1) (b-1) G v ⋯
 .intro y hy;rcases(c y).mp hy with q|q
  .rw[q];exact rW t h m
  .exact W.inb y q
 .rw[iZ _ _ _ g,iZ _ _ _ w,W.size]
 .intro i j h' N hi o;have O:∀n,way {t with place:=insertAt t.place p (way t h m),led:=r,plain:=f} h' n=way t h' n:=λn=>qB (t':=t) (by rfl) h' n
  have I:∃n,way t h' n=j/\∀q,q<n->way t h' q∈(insertAt t.place p (way t h m)).toList:=by
   rw[we _ _ g]at hi;rw[we _ _ w]at o;by_cases Q:i<p
   .rw[if_pos Q]at hi o;have%[n,z|A]:=W.chain i j h' N hi o;exact%[n,z|λq s=>(c _).mpr (.inr (A q s))]
   .rw[if_neg Q]at hi o;by_cases T:i=p
    .rw[if_pos T]at hi o;cases hi;cases o;exact%[m,rfl|λq s=>(c _).mpr (.inr (Y q s))]
    .rw[if_neg T]at hi o;have%[n,z|A]:=W.chain (i-1) j h' N hi o;exact%[n,z|λq s=>(c _).mpr (.inr (A q s))]
  have%[n,z|A]:=I;exact%[n,by rw[O];exact z|λq s=>by rw[O];exact A q s]
end STab
namespace STab
open PySem PySem.SetTable
noncomputable def nb(t:SetTable)(h:Int):Nat->Nat
 | 0=>0
 | r+1=>nb t h r+(runEnd t.mask (aI t h r).1-(aI t h r).1) +1
theorem Bw(t:SetTable)(h:Int):∀r d,d<=runEnd t.mask (aI t h r).1-(aI t h r).1->
 stand t h (nb t h r+d)=%[(aI t h r).1+d,runEnd t.mask (aI t h r).1-(aI t h r).1-d,(aI t h r).1,(aI t h r).2|none]:=by
 have a:∀n i b,stand t h n=%[i,runEnd t.mask i-i,i,b|none]->∀d,d<=runEnd t.mask i-i->stand t h (n+d)=%[i+d,runEnd t.mask i-i-d,i,b|none]:=by
  intro n i b e d
  induction d with
  | zero=>intro _;rw[add_zero,e];rfl
  | succ d c=>
    intro f;show t.advance (stand t h (n+d))=_;rw[c ⋯];unfold advance;rw[if_pos ⋯]
    grind
 intro r
 induction r with
 | zero=>exact a 0 _ _ rfl
 | succ r c=>
   refine a _ _ _ ?_;show t.advance _=_;rw[c _ (Zh _)];unfold advance;rw[if_neg ⋯];rfl
theorem wg(t:SetTable)(h:Int)(r d:Nat)(a:d<=runEnd t.mask (aI t h r).1-(aI t h r).1):way t h (nb t h r+d)=(aI t h r).1+d:=by
 unfold way;rw[Bw t h r d a]
noncomputable def fA(owner:Array (Option Nat))(j:Nat):Bool:=(owner.getD j (some 0)).isSome
theorem qC(t:SetTable)(h:Int)(owner:Array (Option Nat)):∀(fuel r:Nat),(∃a,r<=a/\a<r+fuel/\fA owner (aI t h a).1=false)->(∀m,m<nb t h r->fA owner (way t h m)=true)->
 ∃j n,layClean.free t.mask owner fuel (aI t h r).1 (aI t h r).2=some j/\way t h n=j/\fA owner j=false/\∀m,m<n->fA owner (way t h m)=true
 | 0,r,⟨a,o,p,_⟩,_=>by lia
 | fuel+1,r,⟨a,o,p,f⟩,g=>by
   rw[layClean.free];have s:runEnd t.mask (aI t h r).1>=(aI t h r).1:=by unfold runEnd;split<;> lia
   have tk:∀k,(owner.getD ((aI t h r).1+k) (some 0)).isNone=!fA owner ((aI t h r).1+k):=λk=>by
    unfold fA;cases owner.getD ((aI t h r).1+k) (some 0)<;> rfl
   cases i:(List.range (runEnd t.mask (aI t h r).1+1-(aI t h r).1)).find? λk=>(owner.getD ((aI t h r).1+k) (some 0)).isNone with
   | some k=>
     have%[l,as,bs,b|u]:=List.find?_eq_some_iff_append.mp i;have c:k∈List.range (runEnd t.mask (aI t h r).1+1-(aI t h r).1):=by rw[b];simp
     have c:=mem_range.mp c;have v:as=List.range k:=by
      have w:as.length=k:=by
       have:(List.range (runEnd t.mask (aI t h r).1+1-(aI t h r).1))[as.length]? =some k:=by rw[b];simp
       rw[List.getElem?_range (by have:=(X8 this).1;simpa using this)]at this;exact Z9 this
      have y:as=(List.range (runEnd t.mask (aI t h r).1+1-(aI t h r).1)).take k:=by
       rw[b,<-w];simp
      rw[y,List.take_range,Nat.min_eq_left ⋯]
     dsimp only;refine%[_,nb t h r+k,rfl,wg t h r k ⋯,?_|λm d=>?_]
     .rw[tk]at l;simpa using l
     .by_cases q:m<nb t h r
      .exact g m q
      .have:=u (m-nb t h r) (v▸mem_range.mpr ⋯);rw[tk]at this;rw[show m=nb t h r+(m-nb t h r) by lia,wg t h r _ ⋯];simpa using this
   | none=>
     have all:∀k,k<=runEnd t.mask (aI t h r).1-(aI t h r).1->fA owner ((aI t h r).1+k)=true:=λk c=>by
      have:=(List.find?_eq_none.mp i) k (mem_range.mpr ⋯);rw[tk]at this;simpa using this
     have z:r≠a:=λe=>by
      have:=all 0 (X2 _);rw[add_zero,e,f]at this;cases this
     dsimp only;exact qC t h owner fuel (r+1) %[a,⋯,⋯|f] λm d=>by
      by_cases q:m<nb t h r
      .exact g m q
      .have d:m<nb t h r+(runEnd t.mask (aI t h r).1-(aI t h r).1) +1:=d;rw[show m=nb t h r+(m-nb t h r) by lia,wg t h r _ ⋯];exact all _ ⋯
structure LO (t:SetTable) (hs:ZL) (owner:Array _):Prop where
 size:owner.size=t.mask+1
 own:∀j q,owner[j]? =some (some q)->∃h,hs[q]? =some h/\∃n,way t h n=j/\∀m,m<n->fA owner (way t h m)=true
 all:∀q,q<hs.length->∃j:Nat,owner[j]? =some (some q)
 one:∀(j j' q:Nat),owner[j]? =some (some q)->owner[j']? =some (some q)->j=j'
theorem gN(b:j<owner.size):fA owner j=true↔∃q,owner[j]? =some (some q):=by
 unfold fA;have e:owner.getD j (some 0)=owner[j]:=by simp_all
 rw[e];have a:owner[j]? =some owner[j]:=by simp
 rw[a];cases owner[j]with
 | none=>simp
 | some q=>simp
theorem LO.step(L:LO t f owner)(J:t.mask+1=2^k)(room:f.length<=t.mask)(h:Int):
 ∃j,layClean.free t.mask owner (turns t.mask) (bits h%(t.mask+1)) (bits h)=some j/\LO t (f++[h]) (owner.setIfInBounds j (some f.length)):=by
 have d:∀h n,way t h n<owner.size:=λh n=>by rw[L.size];have:=rW t h n;lia
 have ex:∃e,e<=t.mask/\fA owner e=false:=by
  refine Classical.byContradiction λv=>?_
  have all:∀e,e<t.mask+1->fA owner e=true:=λe c=>by
   cases q:fA owner e with
   | true=>rfl
   | false=>exact absurd %[e,⋯|q] v
  let g:Nat->Nat:=λe=>((owner[e]?).getD none).getD 0
  have w:∀e,e<t.mask+1->owner[e]? =some (some (g e)):=λe c=>by
   have%[q|o]:=(λe c=>(gN (L.size▸c)).mp (all e c)) e c;show owner[e]? =some (some (((owner[e]?).getD none).getD 0));rw[o];rfl
  have nd:((List.range (t.mask+1)).map g).Nodup:=by
   rw[Yu,Yz];refine X4 (λ{a b} M N A q=>A ?_) (nodup_iff_pairwise_ne.mp nodup_range);have E:=w b (mem_range.mp N);rw[<-q]at E;exact L.one a b _ (w a (mem_range.mp M)) E
  have:=nodup_sub nd λy O=>by
   have%[e,c|rfl]:=Xb O;have%[h',l|_]:=L.own e _ (w e (mem_range.mp c));exact mem_range.mpr (X8 l).1
  rw[Z5,Yd,Yd]at this
  lia
 have%[e,c|B]:=ex;have%[r,hr|o]:=nP J h e c;have%[j,n,Q,G,T|U]:=qC t h owner (turns t.mask) 0 %[r,X2 _,⋯|o▸B] (λm p=>absurd p (Yw _));refine%[j,Q|?_];have Y:j<owner.size:=G▸d h n;have nj:∀q,owner[j]? ≠some _:=λq e=>by
  have:=(gN Y).mpr %[q|e];rw[T]at this;cases this
 have get:∀i,(owner.setIfInBounds j (some f.length))[i]? =if j=i then some _ else owner[i]? :=λi=>by
  rw[Array.getElem?_setIfInBounds]
  split
  .first|rfl|simp
  .rfl
 have keep:∀i,fA owner i=true->i<owner.size->fA (owner.setIfInBounds j _) i=true:=λi hi H=>by
  have%[q|e]:=(gN H).mp hi;refine(gN (Array.size_setIfInBounds▸H)).mpr ?_;rw[get]
  split
  .exact%[_|rfl]
  .exact%[q|e]
 refine%[by rw[Array.size_setIfInBounds];exact L.size,λi q e=>?_,λq o=>?_|λi I q e s=>?_]
 .rw[get]at e
  split at e
  .rename_i C
   cases e;refine%[h,by simp,n,by rw[G,C]|λm p=>keep _ (U m p) (d h m)]
  .have%[h',l,n',e2|e3]:=L.own i q e;exact%[h',(Y3 (X8 l).1)▸l,n',e2|λm p=>keep _ (e3 m p) (d h' m)]
 .rw[Z8,Ye]at o;by_cases e:q=f.length
  .exact%[j|by rw[get,if_pos rfl,e]]
  .have%[i|hi]:=L.all q ⋯;refine%[i|?_];rw[get,if_neg]
   .exact hi
   .intro C;rw[<-C]at hi;exact nj q hi
 .have u:∀i,owner[i]? =some (some f.length)->False:=λi e=>by
   have%[h',l|_]:=L.own i _ e;have:=(X8 l).1
   lia
  rw[get]at e s
  split at e<;> split at s
  .lia
  .cases e;exact absurd s (λz=>u I z)
  .cases s;exact absurd e (λz=>u i z)
  .exact L.one i I q e s
theorem ue(c:t.mask+1=2^k)(a:Array Int)(room:a.size<=t.mask+1):∃owner,layClean t.mask a=some owner/\LO t a.toList owner:=by
 have d:∀rest done owner,LO t done owner->(done++rest).length<=t.mask+1->
  ∃b,rest.foldl (λacc h=>do
   let(owner,k)<-acc
   let j<-layClean.free t.mask owner (turns t.mask) (bits h%(t.mask+1)) (bits h)
   pure (owner.setIfInBounds j (some k),k+1)) (some (owner,done.length))=some (b,(done++rest).length)/\LO t (done++rest) b:=by
  intro rest
  induction rest with
  | nil=>intro done owner L _;exact%[owner,by simp|by simpa using L]
  | cons h rest g=>
    intro done owner L i;simp only[Z8,Zq]at i;have%[j,f|l]:=L.step c ⋯ h;have%[b,e|L2]:=g _ _ l (by simp_all);refine%[b,?_|by simpa using L2];rw[foldl_cons];have m:(do
     let(owner,k)<-(some (owner,done.length))
     let j<-layClean.free t.mask owner (turns t.mask) (bits h%(t.mask+1)) (bits h)
     pure (owner.setIfInBounds j (some k),k+1))=some (owner.setIfInBounds j (some done.length),(done++[h]).length):=by
     show(layClean.free t.mask owner _ _ _).bind _=_;rw[f];simp
    rw[m,e];simp
 have n:LO t [] (Array.replicate (t.mask+1) none):=%[by simp,λj q e=>by
  rw[Array.getElem?_replicate]at e
  split at e<;> simp at e,λq o=>absurd o (Yw _)|λj p q e _=>by
  rw[Array.getElem?_replicate]at e
  split at e<;> simp at e]
 have%[owner,e|L]:=d a.toList [] _ n (room);refine%[owner,?_|L];unfold layClean;rw[<-Array.foldl_toList];rw[show(0)=([]).length from rfl,e];rfl
end STab
namespace STab
open PySem PySem.SetTable
theorem uf(n:Nat):∀fuel k,3<=k->n<2^(k+fuel)->(2^k<=2*n\/k=3)->∃a,3<=a/\sizeAbove.go n fuel (2^k)=2^a/\n<2^a/\(2^a<=2*n\/a=3)
 | 0,k,b,c,d=>%[k,b,rfl,c|d]
 | fuel+1,k,b,c,d=>by
   rw[sizeAbove.go];by_cases h:2^k<=n
   .rw[if_pos h];have e:2^k*2=2^(k+1):=by rw[pow_succ]
    rw[e];exact uf n fuel _ ⋯ ((show k+1+fuel=k+(fuel+1) by lia)▸c) (.inl ⋯)
   .rw[if_neg h];exact%[k,b,rfl,⋯|d]
theorem wj(a:n<2^60):∃k,3<=k/\sizeAbove n=2^k/\n<2^k/\(2^k<=2*n\/k=3):=
 uf n 64 3 (Zh _) (Zf a (Nat.pow_le_pow_right (by decide) ∅)) (.inr rfl)
theorem nR [DecidableEq c]:∀{l m:List c},l.Nodup->m.Nodup->(∀x,x∈l↔x∈m)->l.Perm m
 |[],m,_,_,h=>by
  cases m with
  | nil=>simp
  | cons x m=>exact absurd ((h x).mpr Zl) ∅
 | x::l,m,d,b,h=>by
   have%[f|g]:=nodup_cons.mp d;refine List.Perm.trans (List.Perm.cons x (nR g (b.erase x) λy=>?_)) (List.perm_cons_erase ((h x).mp Zl)).symm
   constructor
   .intro a;exact(List.mem_erase_of_ne (λe=>f (by simp_all))).mpr ((h y).mp (Zj _ a))
   .intro a;rcases mem_cons.mp ((h y).mpr (List.mem_of_mem_erase a))with q|q
    .exact absurd q (λe=>by rw[e]at a;exact b.not_mem_erase a)
    .exact q
theorem laid_ok{t:SetTable}(hp:t.mask+1=2^k)(E:7<=t.mask)(c:Array (Int×Value))(room:c.size<=t.mask)(finger moves:Nat)(led plain:Bool):
 ∃t' d,laid t.mask finger moves led plain (c.map (·.1))=some (t',d)/\t'.mask=t.mask/\t'.led=led/\t'.plain=plain/\t'.moves=moves/\WF t' (d.filterMap (c[·]?))/\(d.filterMap (c[·]?)).toList.Perm c.toList:=by
 have%[owner,e|L]:=ue hp (c.map (·.1)) (by rw[size_map];lia);have G:(c.map (·.1)).toList.length=c.size:=by simp
 obtain⟨live,v⟩:∃live,(List.range (t.mask+1)).filterMap (λj=>(owner.getD j none).map (λq=>(j,q)))=live:=%[_|rfl]
 refine%[%[t.mask,(live.map (·.1)).toArray,#[],finger,led,moves|plain],(live.map (·.2)).toArray,by unfold laid;rw[e,<-v];rfl,rfl,rfl,rfl,rfl|?_];have gd:∀j q,owner.getD j none=some q↔owner[j]? =some (some q):=λj q=>by
  rw[Array.getD_eq_getD_getElem?];cases owner[j]? with
  | none=>simp
  | some o=>simp
 have mem:∀j q,(j,q)∈live↔owner[j]? =some (some q):=λj q=>by
  rw[<-v,mem_filterMap]
  constructor
  .rintro⟨H,ae,I⟩;have%[z,s|J]:=map_eq_some_iff.mp I;cases J;exact(gd j q).mp s
  .intro ho;have:j<owner.size:=by
    have%[f|_]:=Array.getElem?_eq_some_iff.mp ho;exact f
   refine%[j,mem_range.mpr (by rw[L.size]at this;exact this)|?_];rw[(gd j q).mpr ho];rfl
 have r:(live.map (·.1)).Pairwise (·<·):=by
  rw[<-v,Yz,List.pairwise_filterMap];refine List.Pairwise.imp (λ{a b} u x hx y M=>?_) List.pairwise_lt_range;have%[_,_|rfl]:=map_eq_some_iff.mp hx;have%[_,_|rfl]:=map_eq_some_iff.mp M;exact u
 have w:∀j q,(j,q)∈live->q<c.size:=λj q h=>by
  have%[h',s|_]:=L.own j q ((mem j q).mp h);have:=(X8 s).1
  lia
 have B:(live.map (·.2)).Nodup:=by
  rw[Yu,Yz];refine X4 (λ{a b} N E u g=>?_) (by rw[Yz]at r;exact r);have f:=(mem a.1 a.2).mp N;have O:=(mem b.1 b.2).mp E;rw[<-g]at O;have:=L.one _ _ _ f O
  lia
 have C:(live.map (·.2)).Perm (List.range c.size):=nR B nodup_range λq=>by
  constructor
  .intro g;have%[%[j|z],f|rfl]:=Xb g;exact mem_range.mpr (w j z f)
  .intro g;have%[j|Q]:=L.all q (G▸mem_range.mp g);exact Xc %[(j,q),(mem j q).mpr Q|rfl]
 have fm:∀(l:List Nat),(∀q∈l,q<c.size)->l.filterMap (c[·]?)=l.map (λq=>c.getD q (0,Value.none)):=by
  intro l
  induction l with
  | nil=>intro _;rfl
  | cons q l ih=>
    intro g;have f:=g q Zl;have s:c[q]? =some (c.getD q (0,Value.none)):=by simp[Array.getD,f]
    rw[Zy,s,Yk,ih λy M=>g y (Zj _ M)]
 have T:((live.map (·.2)).toArray.filterMap (c[·]?)).toList=(live.map (·.2)).map (λq=>c.getD q (0,Value.none)):=by
  rw[Array.toList_filterMap,List.toList_toArray];exact fm _ λq g=>by
   have%[%[j|z],f|rfl]:=Xb g;exact w j z f
 have er:c.toList=(List.range c.size).map (λq=>c.getD q (0,Value.none)):=by
  apply ext_getElem
  .simp
  .intro i f O;have f:=by simpa using f
   simp[Array.getD,f]
 refine%[%[%[k|hp],E,rfl,?_,λj Q=>?_,?_|λi j h x hi A=>?_]|?_]
 .intro a b N U u;have:=List.pairwise_iff_getElem.mp r a b (N) (U) u;simpa using this
 .have%[%[H|q],f|rfl]:=Xb Q;have:=(Array.getElem?_eq_some_iff.mp ((mem H q).mp f)).1;rw[L.size]at this
  lia
 .rw[<-Za (xs:=Array.filterMap _ _),T];simp
 .have hi:(live.map (·.1))[i]? =some j:=by simpa using hi
  have A:((live.map (·.2)).toArray.filterMap (c[·]?)).toList[i]? =some (h,x):=by simpa using A
  rw[T,Yl,Zk]at A;rw[Zk]at hi;cases Y:live[i]? with
  | none=>rw[Y]at hi;cases hi
  | some p=>
    have%[H|q]:=p;rw[Y]at hi A;cases hi;have hm:=Z7 Y;have%[h',s,n,n1|n2]:=L.own _ q ((mem _ q).mp hm);have g:=w _ q hm;have eh:h'=h:=by
     have J:(c.map (·.1)).toList[q]? =some (c[q]).1:=by simp[g]
     rw[J]at s;have e3:c.getD q (0,Value.none)=c[q]:=by simp[Array.getD,g]
     simp only[Function.comp,Option.map_some,e3,Option.some.injEq]at A;rw[A]at s;exact(Z9 s).symm
    subst eh;have wm:∀n,way {mask:=t.mask,place:=(live.map (·.1)).toArray,dummies:= #[],finger:=finger,led:=led,moves:=moves,plain:=plain} h' n=way t h' n:=λn=>qB (t':=t) (by rfl) h' n
    refine%[n,by rw[wm];exact n1|λm ab=>?_];rw[wm];have%[z|I]:=(gN (by rw[L.size];have:=rW t h' m;lia)).mp (n2 m ab);exact Xc %[(way t h' m,z),(mem _ _).mpr I|rfl]
 .rw[T,er];exact C.map _
end STab
namespace STab
open PySem PySem.SetTable
section
variable{prog:Program}{w:World}{K:Type}[DecidableEq K]{knd:KeyKind prog w K}{A:Around}{E:ZD}{s:Shared}
def EL(knd:KeyKind prog w K)(h:Heap)(a:Array (Int×Value)):Prop:=∀(i:Nat) e,a[i]? =some e->∃r k,e=(tupleKeyHash knd k,Value.ref r)/\IsTupleKey knd h k r
theorem mf(g:IsTupleKey knd s.heap ks r)(h:Q false s):↥A (ofAClassStatement 8 (.ref r)) Q E s:=by
 have l:=g.typeIs;have%[o,c,n,m,_,p|hi]:=g;unfold ofAClassStatement;refine Z2 (wpAny_typeOf l (Z2 (Z3 (Z2 (wpAny_seqItems m p (Z2 ?_))))));rw[<-forIn_toList];refine wpAny_forIn_list _ (λrest r s'=>r=(none,())/\s'=s/\∃i,ItemsAre knd i rest) _ ?_ ?_ _ _ %[rfl,rfl,ks|hi]
 .intro x rest r s' %[rfl,rfl,i|d];cases d with
  | @cons u v f j q b=>
    have t:=knd.byValue _ _ q;have e:ofAClassStatement 7 x=pure false:=by
     cases x with
     | ref a=>simp[carriedByValue]at t
     | _=>first|rfl|lia|lia
    refine Z2 ?_;rw[e];exact Z3 (Z3 %[rfl,rfl,f|b])
 .intro r s' %[rfl,rfl|_];exact Z3 h
theorem wk(d:IsTupleKey knd s.heap ks r):∀(l:ZG),(∀y∈l,∃a c,y=Value.ref a/\IsTupleKey knd s.heap c a)->∀{Q:Bool->Shared->Prop},Q false s->↥A (searchCouldBeSeen (.ref r) l) Q E s:=by
 intro l g Q h;refine Z2 (wpAny_forIn_list _ (λrest x s'=>x=(none,())/\s'=s/\∀y∈rest,∃a c,y=Value.ref a/\IsTupleKey knd s.heap c a) _ ?_ ?_ _ _ %[rfl,rfl|g])
 .intro y rest x s' %[rfl,rfl|e];have%[a,c,rfl|b]:=e y Zl;have f:=λy i=>e y (Zj _ i)
  dsimp only
  split
  .exact Z3 %[rfl,rfl|f]
  .exact Z2 (wpAny_eqIsQuiet_tuple d (Z2 (wpAny_eqIsQuiet_tuple b (Z2 (mf d (Z2 (mf b (Z3 %[rfl,rfl|f]))))))))
 .intro x s' %[rfl,rfl|_];exact Z3 h
theorem rX(hu:A.units<cLine)(ho:s.heap.get? a=some o)(hd:o.data= .set u ep t)(W:WF t u)(room:t.place.size<=t.mask)(ag:t.mask<=9000)
 (el:EL knd s.heap u) (hk:IsTupleKey knd s.heap k r)
 (h1:(∃(i:Nat) (g:Addr),u[i]? =some (tupleKeyHash knd k,Value.ref g)/\IsTupleKey knd s.heap k g)->Q (.there none) s)
 (h2:∀m,way t (tupleKeyHash knd k) m∉t.place.toList->(∀q,q<m->way t (tupleKeyHash knd k) q∈t.place.toList)->(∀(i:Nat) g v,u[i]? =some (tupleKeyHash knd v,Value.ref g)->IsTupleKey knd s.heap v g->v≠k)->Q (.free (way t (tupleKeyHash knd k) m) false) s):
 ↥A (setSearch a (.ref r) (tupleKeyHash knd k) true) Q E s:=by
 generalize hh:tupleKeyHash knd k=h at h1 h2
 have hf:t.fits u.size=true:=by
  unfold fits fill;rw[W.dum];simp[W.size];exact W.size▸room
 have%[N,m1,m2|m3]:=wc W room h;have me:t.slot (way t h N)= .empty:=by
  rcases jQ W.rise W.dum (way t h N)with⟨i,e,_⟩|⟨_,e⟩
  .exact absurd (mem_toList_iff.mpr (Array.mem_of_getElem? e)) m2
  .exact e
 have ai:t.gaveWay=false:=by
  have%[c|hc]:=W.pow;have hb:=W.big;have c0:c≠0:=λq=>by rw[q]at hc;lia
  have%[c'|rfl]:=Nat.exists_eq_succ_of_ne_zero c0;rw[pow_succ]at hc;unfold gaveWay;have:t.mask%2=1:=by lia
  simp[this]
 have O:∀(fuel n:Nat) (st:Option Probe),st.getD (t.probeStart h)=stand t h n->n<=N->N<n+fuel->(∀j,j<n->∀(i:Nat) g v,t.slot (way t h j)= .live i->u[i]? =some (tupleKeyHash knd v,Value.ref g)->IsTupleKey knd s.heap v g->v≠k)->
  ↥A (setSearchFrom a (.ref r) h true fuel st) Q E s:=by
  intro fuel
  induction fuel with
  | zero=>intro n st _ a1 a2;lia
  | succ fuel ih=>
    intro n st aj hn a7 T;unfold setSearchFrom;refine Z2 (wpAny_setState_of ho hd hf ?_);dsimp only;rw[ai];simp only[Zx,if_false];rw[aj]
    generalize al:SetTable.probe t _ h (stand t h n)=pr
    have l:SetTable.probe.go t (λi=>((u[i]?).map (·.1)).getD 0) h (10*turns t.mask) (stand t h n)=pr:=al;have%[q,q1,q2,q3|q4]:=t8 (t:=t) W.dum (hashAt:=λi=>((u[i]?).map (·.1)).getD 0) (h:=h) (10*turns t.mask) n N hn ⋯ me;rcases q4 with⟨J,e2⟩|⟨i,J,e2,e3⟩
    .rw[e2]at l;subst l;have hq:q=N:=by
      rcases Nat.eq_or_lt_of_le q2 with z|z
      .exact z
      .have:=m3 q z;rcases jQ W.rise W.dum (way t h q)with⟨i,_,U⟩|⟨z2,_⟩
       .rw[J]at U;cases U
       .exact absurd this z2
     subst hq;dsimp only;refine Z3 (h2 q m2 m3 λi g v p B C=>?_);subst C;rw[hh]at p;have hi:i<u.size:=(Array.getElem?_eq_some_iff.mp p).1;have hp:t.place[i]? =some (t.place[i]'(W.size▸hi)):=by simp
     have%[Y,c1|c2]:=W.chain i _ h _ hp p;have G:=qA W.rise hp;have an:Y<q:=by
      rcases Nat.lt_trichotomy Y q with z|z|z
      .exact z
      .rw[z,]at c1;rw[<-c1,me]at G;cases G
      .exact absurd (c2 q z) m2
     rw[<-c1]at G;by_cases ab:Y<n
     .exact T Y ab i g v G (hh▸p) B rfl
     .have%[H,U|ae]:=q3 Y ⋯ an;rw[G]at U;cases U;rw[p]at ae;exact ae rfl
    .rw[e3]at l;subst l;obtain⟨x0,p⟩:∃e,u[i]? =some e:=by
      have as:t.place[i]? =some (way t h q):=by
       rcases jQ W.rise W.dum (way t h q)with⟨H,p1,I⟩|⟨_,I⟩
       .rw[J]at I;cases I;exact p1
       .rw[J]at I;cases I
      have:=(Array.getElem?_eq_some_iff.mp as).1;exact%[u[i]'(W.size▸this)|by simp[<-W.size,this]]
     have%[g,v,rfl|B]:=el i x0 p;have a8:q<N:=Nat.lt_of_le_of_ne q2 λz=>by rw[z,me]at J;cases J
     have L:↥A (do
      let f<-holding [Value.ref g] (eqBool (Value.ref g) (Value.ref r))
      let x<-setState a
      if(true&&f)=true then pure (SetFound.there none)
      else match x.2.snd.sameMemory t.moves t.mask with
       | some same=>
         match if same=true then x.2.snd.slot (way t h q)else Slot.empty with
         | Slot.live H=>
           match x.fst[H]? with
           | some (_,y')=>do
             let b<-isSame y' (Value.ref g)
             let d<-pure (if b=true then some H else none)
             match d with
              | none=>do
                rule "set.search.anew"
                setSearchFrom a (Value.ref r) h true fuel none
              | some H=>
                if f=true then pure (SetFound.there (some H))
                else setSearchFrom a (Value.ref r) h true fuel (some (stand t h (q+1)))
           | none=>do
             let d<-pure none
             match d with
              | none=>do
                rule "set.search.anew"
                setSearchFrom a (Value.ref r) h true fuel none
              | some H=>
                if f=true then pure (SetFound.there (some H))
                else setSearchFrom a (Value.ref r) h true fuel (some (stand t h (q+1)))
         | x=>do
           let d<-pure none
           match d with
            | none=>do
              rule "set.search.anew"
              setSearchFrom a (Value.ref r) h true fuel none
            | some H=>
              if f=true then pure (SetFound.there (some H))
              else setSearchFrom a (Value.ref r) h true fuel (some (stand t h (q+1)))
       | x=>unsupported "set.changed-during-lookup:is-the-new-block-at-the-old-address") Q E s:=by
      refine Z2 (wpAny_holding (wpAny_eqBool_tuple hu B hk (Z2 (wpAny_setState_of ho hd hf ?_))));dsimp only;by_cases C:v=k
      .subst C;rw[Ze rfl];exact Z3 (h1 %[i,g,(by rw[p]at e2;exact e2)▸p|B])
      .rw[Zg C];have sm:t.sameMemory t.moves t.mask=some true:=by unfold sameMemory;rw[if_pos ∅]
       rw[sm];simp only[if_true];rw[J];dsimp only;rw[p];dsimp only;have same:isSame (Value.ref g) (Value.ref g)=pure true:=by
        unfold isSame;simp
       refine Z2 ?_;rw[same];refine Z3 ?_;simp only[if_true];refine Z2 (Z3 ?_);dsimp only;refine ih (q+1) _ rfl ⋯ ⋯ λj hj i2 r2 k2 s2 g2 t2=>?_
       by_cases a0:j<n
       .exact T j a0 i2 r2 k2 s2 g2 t2
       .by_cases a3:j=q
        .subst a3;rw[J]at s2;cases s2;rw[p]at g2;have:g=r2:=by
          have:=Z9 g2;injection this with _ z
          injection z
         subst this;exact(B.inj t2)▸C
        .have%[i3,p1|I]:=q3 j ⋯ ⋯;rw[s2]at p1;cases p1;rw[g2]at I;intro z;rw[z]at I;exact I hh
     dsimp only;rw[p];dsimp only;by_cases M:(!t.led)=true
     .rw[if_pos M];refine Z2 (wk hk _ (λy hy=>?_) ?_)
      .have%[e,a4|rfl]:=Xb hy;have%[i2|a5]:=Array.getElem?_of_mem ((Array.mem_filter.mp (mem_toList_iff.mp a4)).1);have%[r2,k2,rfl|a6]:=el i2 e a5;exact%[r2,k2,rfl|a6]
      .exact L
     .rw[if_neg M];exact L
 exact O 100000 0 none rfl (X2 _) (by unfold turns at m1;lia) (λj hj=>absurd hj (Yw _))
end
end STab
namespace STab
open PySem PySem.SetTable
structure IN (es:Array _) (t:SetTable) (led:Bool):Prop where
 wf:WF t es
 roomy:t.place.size*5<t.mask*3
 small:t.mask<=7\/t.mask+1<=8*es.size
 led:t.led=led
 plain:es.size≠0->t.plain=false
theorem IN.fits{a:Array _}{t:SetTable}{led:Bool}(I:IN a t led):t.fits a.size=true:=by
 unfold SetTable.fits fill;rw[I.wf.dum];have:=I.roomy;simp[I.wf.size];rw[<-I.wf.size]
 lia
theorem IN.fresh(finger moves:Nat)(led:Bool):IN #[] (SetTable.fresh finger moves led) led:=
 %[%[%[3|rfl],Zh _,rfl,λa b c=>absurd c (by simp[SetTable.fresh]),λj d=>by simp[SetTable.fresh]at d,rfl|λi j h x hi=>by simp[SetTable.fresh]at hi],show 0*5<7*3 from by decide,.inl (Zh _),rfl|λq=>absurd rfl q]
section
variable{prog:Program}{w:World}{K:Type}[DecidableEq K]{knd:KeyKind prog w K}{A:Around}{E:ZD}{s:Shared}
theorem relay_w(e:s.heap.get? a=some o)(f:o.data= .set c B t)(j:t.fits c.size=true)(C:c.size<=n)(hw:n<=4000)
 (h:∀d t',d.toList.Perm c.toList->WF t' d->t'.led=t.led->t'.plain=t.plain->n<=t'.mask->t'.mask+1<=2*n\/t'.mask<=7->Q () (s>>>s.heap.update a (Obj.putSet d t'))):
 ↥A (setRelay a n) Q E s:=by
 have%[k,l,g,lt|m]:=wj (n:=n) ⋯;have G:8<=2^k:=Ya (by simp:8<=2^3) (Nat.pow_le_pow_right ∅ l);have i:2^k<=2*n\/2^k=8:=by
  rcases m with q|q
  .exact .inl q
  .exact .inr (by rw[q])
 have p:2^k<=8000:=by rcases i with q|q<;> lia
 let r:SetTable:={t with mask:=2^k-1}
 have%[t',b,u,H,v,y,I,W|P]:=laid_ok (t:=r) (k:=k) (by show 2^k-1+1=2^k;lia) (by show 7<=2^k-1;lia) c (by show c.size<=2^k-1;lia) t.finger _ t.led t.plain;have z:t.relaid (c.map (·.1)) n=some (t',b):=by
  unfold relaid;rw[g];exact u
 have sz:(b.filterMap (c[·]?)).size=c.size:=by rw[<-Za,P.length_eq,Za]
 refine Z2 (wpAny_setState_of e f j ?_);dsimp only;rw[g,if_neg (by rw[PySem.sizeLine_eq];lia)];rw[z];refine Z2 ?_;show wpAny _ A (if((b.filterMap _).size != c.size)=true then _ else pure _) _ E s;rw[if_neg (by simp[sz])];exact Z3 (wpAny_storeSet_of e f (h _ t' P W v y ⋯ (by rcases i with q|q<;> lia)) (by rw[sz,PySem.sizeLine_eq];lia))
theorem Bx(e:s.heap.get? a=some o)(f:o.data= .set c j t)(g:t.fits c.size=true)(m:c.size<=1000)(n:c.size≠0)(d:t.plain=false)
 (h:∀b t',b.toList.Perm c.toList->IN b t' t.led->t'.plain=false->Q () (s>>>s.heap.update a (Obj.putSet b t'))):
 ↥A (setRelay a (grown c.size)) Q E s:=by
 have i:grown c.size=c.size*4:=by unfold grown;rw[if_neg ⋯]
 rw[i];refine relay_w e f g ⋯ ⋯ λb t' P W l p q m2=>?_
 have sz:b.size=c.size:=by rw[<-Za,P.length_eq,Za]
 exact h b t' P %[W,by rw[W.size,sz];lia,⋯,l|λ_=>p▸d] (p▸d)
theorem y3{led:Bool}(L:A.units<cLine)(p:s.heap.get? a=some o)(n:o.data= .set d ep t)(I:IN d t led)(hn:d.size+1<=1000)
 (el:EL knd s.heap d) (B:IsTupleKey knd s.heap k r) (hv:∀(s':Shared) (M:Bool->Shared->Prop),IsTupleKey knd s'.heap k r->M false s'->↥A (hashByValue 8 (.ref r)) M E s')
 (h1:(∃(i:Nat) (u:Addr),d[i]? =some (tupleKeyHash knd k,Value.ref u)/\IsTupleKey knd s.heap k u)->Q false {s with toks:=s.toks+(k.length+1)})
 (N:(∀(i:Nat) (u:Addr) (C:List K),d[i]? =some (tupleKeyHash knd C,Value.ref u)->IsTupleKey knd s.heap C u->C≠k)->∀g t' G h',h'.get? a=some {o with data:= .set g G t'}->SameBut a s.heap h'->g.toList.Perm (d.toList++[(tupleKeyHash knd k,Value.ref r)])->IN g t' led->Q true {s with heap:=h',toks:=s.toks+(k.length+1)}):
 ↥A (setAdd a (.ref r)) Q E s:=by
 unfold setAdd;refine wpAny_holding (Z2 (wpAny_pyHash_tuple L B ?_));unfold setAddHashed;refine wpAny_holding ?_;unfold setAddHashedIn;refine Z2 (wpAny_setState_of (s:={s with toks:=s.toks+(k.length+1)}) p n I.fits ?_);dsimp only;have ns:byScan (Value.ref r) d=false:=by unfold byScan;simp[Value.scannable]
 rw[ns];simp only[Zx,if_false];have rm:=I.roomy;refine Z2 (rX (s:={s with toks:=s.toks+(k.length+1)}) L p n I.wf ⋯ (by rcases I.small with q|q<;> lia) el B (λq=>?_) λm O m2 T=>?_)
 .exact Z3 (h1 q)
 .dsimp only;refine Z2 (wpAny_setState_of (s:={s with toks:=s.toks+(k.length+1)}) p n I.fits ?_);dsimp only;have v:=I.wf;have%[p1,U,Y,p4,p5,p6|Wp]:=v.put (x:=Value.ref r) O m2 t.led false;have%[_,_,_,_,_,_|Wq]:=v.put (x:=Value.ref r) O m2 (t.put (way t (tupleKeyHash knd k) m)).1.led (t.put (way t (tupleKeyHash knd k) m)).1.plain;have y:(t.put (way t (tupleKeyHash knd k) m)).2<=d.size:=by
   rw[p1,<-v.size];exact(jP v.rise _).1
  have e:(insertAt d (t.put (way t (tupleKeyHash knd k) m)).2 (tupleKeyHash knd k,Value.ref r)).size=d.size+1:=iZ _ _ _ y;have h:(insertAt d (t.put (way t (tupleKeyHash knd k) m)).2 (tupleKeyHash knd k,Value.ref r)).toList.Perm (d.toList++[(tupleKeyHash knd k,Value.ref r)]):=by
   rw[ki _ _ _ y];have q:=X1 (t.put (way t (tupleKeyHash knd k) m)).2 d.toList;refine List.Perm.trans List.perm_middle ?_;rw[q];exact List.perm_append_comm (l₁:=[_])
  generalize ab:insertAt d _ _=c at Wp Wq e h
  have f:∀b:SetTable,WF b c->b.mask=t.mask->b.place.size=t.place.size+1->b.led=led->b.plain=false->
   ↥A (do storeSet a c b;if(!false&&b.tooFull)=true then do setRelay a (grown (d.size+1));pure true else pure true) Q E {s with toks:=s.toks+(k.length+1)}:=λb W2 e1 e2 e3 e4=>by
   have g1:=by
    have q:=get?_update_self (Obj.putSet c b) p (by rw[putSet_of c b n];rfl);rwa[putSet_of c b n]at q
   have b1:=SameBut.update s.heap a (Obj.putSet c b);refine Z2 (wpAny_storeSet_of p n ?_ (e▸Ya hn (by decide)));have H:b.tooFull=true↔b.mask*3<=b.place.size*5:=by
    unfold tooFull fill;rw[W2.dum];simp
   by_cases hf:b.tooFull=true
   .rw[if_pos (by simp[hf])];have z:b.fits c.size=true:=by
     unfold SetTable.fits fill;rw[W2.dum];simp[W2.size];exact W2.size▸(by rw[e1,e2];have:=v.big;lia)
    rw[<-e];refine Z2 (Bx g1 rfl z ⋯ ⋯ e4 λj J P3 I3 _=>Z3 ?_);have g2:=by
     have q:=get?_update_self (Obj.putSet j J) g1 (by rfl);rwa[putSet_of j J rfl]at q
    exact N T j J _ _ g2 (b1.trans (SameBut.update _ a _)) (P3.trans h) (by rw[e3]at I3;exact I3)
   .rw[if_neg (by simp[hf])];refine Z3 (N T c b _ _ g1 b1 h %[W2,⋯,?_,e3|λ_=>e4]);rw[e1,e];rcases I.small with q|q
    .exact .inl q
    .exact .inr ⋯
  by_cases l:(t.put (way t (tupleKeyHash knd k) m)).1.plain=true
  .rw[if_pos l];exact Z2 (hv _ _ B (f _ Wp U Y I.led rfl))
  .rw[if_neg l];exact f _ Wq U Y (p4.trans I.led) (by simpa using l)
end
end STab
namespace L2
open PySem PySem.Spec PyProof.Rows STab
noncomputable def ib{a:Type}[DecidableEq a](ps:List (Addr×a))(p:Addr×a):List (Addr×a):=if p.2∈ps.map (·.2)then ps else ps++[p]
noncomputable def bg{a:Type}[DecidableEq a](l:List (Addr×a)):List (Addr×a):=l.foldl ib []
section
variable{κ:Type}[DecidableEq κ]
theorem By{ps:List _}{p q:Addr×κ}(h:q∈ib ps p):q∈ps\/q=p:=by
 unfold ib at h
 split at h
 .exact .inl h
 simp_all
theorem y4{ps:List (Addr×κ)}{p:Addr×κ}{k:κ}:k∈(ib ps p).map (·.2)↔k∈ps.map (·.2)\/k=p.2:=by
 unfold ib;by_cases h:p.2∈ps.map (·.2)
 .rw[if_pos h];exact%[.inl|λq=>q.elim id λe=>e▸h]
 .rw[if_neg h,Zc,Ym];simp
theorem wo{ps:List (Addr×κ)}{p:Addr×κ}(h:(ps.map (·.2)).Nodup):((ib ps p).map (·.2)).Nodup:=by
 unfold ib
 split
 .exact h
 .rename_i a
  rw[Zc];exact mP h a
theorem xz:∀(l ps:List (Addr×κ)),(ps.map (·.2)).Nodup->((l.foldl ib ps).map (·.2)).Nodup/\(∀k,k∈(l.foldl ib ps).map (·.2)↔k∈ps.map (·.2)\/k∈l.map (·.2))/\(∀q∈l.foldl ib ps,q∈ps\/q∈l)
 |[],ps,h=>%[h,λk=>by simp|λq a=> .inl a]
 | p::l,ps,h=>by
   have%[b,c|d]:=xz l _ (wo h);rw[foldl_cons];refine%[b,λk=>?_|λq a=>?_]
   .rw[c,y4,Yk,Yp]
    grind
   .rcases d q a with z|z
    .rcases By z with z|z
     .exact .inl z
     .exact .inr (z▸Zl)
    .exact .inr (Zj _ z)
theorem dY(l:List (Addr×κ)):((bg l).map (·.2)).Nodup:=(xz l [] Yv).1
theorem ic(l:List (Addr×κ))(k:κ):k∈(bg l).map (·.2)↔k∈l.map (·.2):=by
 have:=(xz l [] Yv).2.1 k;simpa [bg]using this
theorem bv(l:List (Addr×κ)):∀q∈bg l,q∈l:=λq a=>by
 rcases(xz l [] Yv).2.2 q a with z|z
 .cases z
 .exact z
theorem rY(val:Nat->Addr×κ)(i:Nat):bg ((List.range (i+1)).map val)=ib (bg ((List.range i).map val)) (val i):=by
 unfold bg;rw[range_succ,Zc,List.foldl_append];rfl
end
section
variable{prog:Program}{w:World}{κ:Type}[DecidableEq κ]{knd:PySem.KeyKind prog w κ}{A:Around}{E:ZD}{s:Shared}{a:Addr}
def nS(w:World)(knd:PySem.KeyKind prog w κ)(a:Addr)(ps:List (Addr×List κ))(h:Heap):Prop:=
 ∃o b c t,h.get? a=some o/\o.ExactSet/\o.data= .set b c t/\IN b t (!aS w)/\b.toList.Perm (ps.map λp=>(tupleKeyHash knd p.2,Value.ref p.1))
theorem nS.keep(S:nS w knd a ps h)(k:∀o,h.get? a=some o->h'.get? a=some o):nS w knd a ps h':=by
 have%[o,b,c,t,d|r]:=S;exact%[o,b,c,t,k o d|r]
theorem mQ(x:IsTupleKey knd h k r)(q:∀o,h.get? r=some o->h'.get? r=some o):IsTupleKey knd h' k r:=by
 have%[o,b,n,c|z]:=x;exact%[o,b,n,q o c|z]
theorem Bz(v:A.units<cLine)(y:nS w knd a ps s.heap)(tk:∀q∈ps,IsTupleKey knd s.heap q.2 q.1)(B:IsTupleKey knd s.heap p.2 p.1)(room:ps.length+1<=1000)
 (C:∀(s':Shared) (m:Bool->Shared->Prop),IsTupleKey knd s'.heap p.2 p.1->m false s'->↥A (hashByValue 8 (.ref p.1)) m E s')
 (n:∀h' b tk,SameBut a s.heap h'->nS w knd a (ib ps p) h'->s.toks<=tk->Q b {s with heap:=h',toks:=tk}):↥A (setAdd a (.ref p.1)) Q E s:=by
 have%[o,g,G,t,r,f,u,I|P]:=y;have hn:=by
  have:=P.length_eq;rw[Z5,Za]at this;exact this
 have mem:∀i e,g[i]? =some e->∃q∈ps,e=(tupleKeyHash knd q.2,Value.ref q.1):=λi e h=>by
  have:=mem_toList_iff.mpr (Array.mem_of_getElem? h);have%[q,c|rfl]:=Xb (P.mem_iff.mp this);exact%[q,c|rfl]
 have H:EL knd s.heap g:=λi e h=>by
  have%[q,c|rfl]:=mem i e h;exact%[q.1,q.2,rfl|tk q c]
 refine y3 v r u I ⋯ H B C (λ⟨i,J,e,L⟩=>?_) λd j t' l h' g' M N O=>?_
 .have%[q,c|T]:=mem i _ e;have U:J=q.1:=by injection T with _ z;injection z
  subst U;refine n s.heap false _ (SameBut.refl a s.heap) ?_ (le_add_right _ _);unfold ib;rw[if_pos (Xc %[q,c|(L.inj (tk q c)).symm])];exact%[o,g,G,t,r,f,u,I|P]
 .refine n h' true _ M ?_ (le_add_right _ _);unfold ib;rw[if_neg]
  .refine%[_,j,l,t',g',f,rfl,O|N.trans ?_];rw[Zc];exact P.append_right _
  .intro Y;have%[q,c|e]:=Xb Y;have:=P.mem_iff.mpr (Xc %[q,c|rfl]);have%[i|hi]:=X3 this;exact d i q.1 q.2 (by simpa using hi) (tk q c) e
end
section
variable{prog:Program}{w:World}{κ:Type}[DecidableEq κ]{knd:PySem.KeyKind prog w κ}{A:Around}{R:Result->Shared->Prop}{I:Addr}{fp wr:List Addr}{G:Array GenState->Array GenState->Prop}{n:Nat}{P:Nat->Value->Prop}{St:Nat->Shared->Prop}
theorem pD(W:WalksS prog w A.in1 I fp wr G n P St)(S:Addr)(l:S∉fp)(O:A.in1.units<cLine)(val:Nat->Addr×List κ)(r:∀i v,i<n->P i v->v= .ref (val i).1)(U:List (List κ))(hU:U.length<=999)(B:∀i,i<n->(val i).2∈U)(c:∀i,i<n->(val i).1≠S/\(val i).1∉wr)
 (Q:∀i,i<n->∀(s':Shared) (z:Bool->Shared->Prop) (T:ZD),IsTupleKey knd s'.heap (val i).2 (val i).1->z false s'->↥A.in1 (hashByValue 8 (.ref (val i).1)) z T s'):
 ∀(k i:Nat) (s:Shared),n-i=k->i<=n->St i s->nS w knd S (bg ((List.range i).map val)) s.heap->(∀j,j<n->IsTupleKey knd s.heap (val j).2 (val j).1)->
  (∀s',Moved (S::wr) G s s'->nS w knd S (bg ((List.range n).map val)) s'.heap->R (.ok (.ret .none)) s')->codeAny (model prog w) A (.builtin "set.update.loop" %[[.ref S,.ref I]|[]]) R s:=by
 have t:S∉wr:=λh=>l (W.sub _ h)
 have more:∀b∈wr,b∈S::wr:=λb u=>Zj _ u
 intro k
 induction k with
 | zero=>
   intro i s C hi st E tk fin;have e:i=n:=by lia
   subst e;refine codeAny_builtin F.entry_set_update_loop ?_;rw[Around.under_plainId F.plain_set_update_loop _];show wpAny _ A.in1 (pyNext (.ref I)>>= _) _ _ s;refine Z2 (W.done s _ _ st λd g=>?_);show wpAny _ A.in1 (ret Value.none) _ _ d;exact Z3 (fin d (g.mono more) (E.keep λo e=>g.heap S o t e))
 | succ k Y=>
   intro i s C hi st E tk fin;have lt:i<n:=by lia
   refine codeAny_builtin F.entry_set_update_loop ?_;rw[Around.under_plainId F.plain_set_update_loop _];show wpAny _ A.in1 (pyNext (.ref I)>>= _) _ _ s;refine Z2 (W.item i s _ _ lt st λv d pv H g=>?_);obtain rfl:=r i v lt pv;have f:∀j,j<n->IsTupleKey knd d.heap (val j).2 (val j).1:=λj a=>mQ (tk j a) λo e=>g.heap _ o (c j a).2 e
   have J:∀q∈bg ((List.range i).map val),IsTupleKey knd d.heap q.2 q.1:=λq hq=>by
    have%[j,a|rfl]:=Xb (bv _ q hq);exact f j (by have:=mem_range.mp a;lia)
   have room:(bg ((List.range i).map val)).length+1<=1000:=by
    have q:=nodup_sub (dY ((List.range i).map val)) (m:=U) λk C=>by
     have%[p,hp|rfl]:=Xb ((ic _ k).mp C);have%[j,a|rfl]:=Xb hp;exact B j (by have:=mem_range.mp a;lia)
    rw[Z5]at q
    lia
   refine Z2 (wpAny_holding (Bz (p:=val i) O (E.keep (h':=d.heap) λo e=>g.heap S o t e) J (f i lt) room (λs' z=>Q i lt s' z _) λh2 b ab L M y=>Z3 %[plainId_quiet F.plain_set_update_loop _|Y (i+1) _ ⋯ lt (W.frame _ d _ _ H y λb u o e=>?_) (by rw[rY];exact M) (λj a=>mQ (f j a) λo e=>(L.2 _ (c j a).1)▸e) λs3 m3 N=>?_]))
   .rw[L.2 b (λq:b=S=>l (q▸u))];exact e
   .refine fin s3 (Moved.trans W.gtrans ((g.mono more).then_heap y λb o u e=>?_) m3) N;rw[L.2 b (λq:b=S=>u (q▸Zl))];exact e
end
section
variable{prog:Program}{w:World}{κ:Type}[DecidableEq κ]{knd:PySem.KeyKind prog w κ}{A:Around}{E:ZD}{s:Shared}
theorem pE(hh:A.handled=none)(hu:A.units+16<cLine)(hl:s.heap.IsList l a)(hi:a.toList=ps.map λp=>Value.ref p.1)(tk:∀p∈ps,IsTupleKey knd s.heap p.2 p.1)(U:List (List κ))(hU:U.length<=999)(ab:∀p∈ps,p.2∈U)
 (hv:∀p∈ps,∀(B:Around) (s':Shared) (O:Bool->Shared->Prop) (E':ZD),IsTupleKey knd s'.heap p.2 p.1->O false s'->↥B (hashByValue 8 (.ref p.1)) O E' s')
 (hQ:∀(h':Heap) (tk:Nat),nS w knd ⇑s (bg ps) h'->(∀b o,s.heap.get? b=some o->h'.get? b=some o)->Q (.ref ⇑s) {s with heap:=h',toks:=tk}):
 ↥A (call (.type "set") [.ref l]) Q E s:=by
 have%[c,tl|a3]:=called_set.mro;have ae:=called_set.made;have a4:=called_set.sub;refine wpAny_call (codeAny_of_tree ?_);show wpAny _ _ (callAny (.type "set") _) _ _ _;refine Z3 %[Code.quiet_builtin _ (by decide +kernel)|codeAny_builtin F.entry_type_call ?_];rw[Around.under_plain (weight_type_call_type "set" [.ref l] []) rfl];have a6:=called_set.notType;have a7:=called_set.canCreate;have a8:=PySem.F.typeCall_set_1 (.ref l)
 repeat any_goals first|assumption|wp_step
 refine codeAny_mono (tO (.ref l) (E:=E) (Q₁:=λobj q=>obj= .ref ⇑s/\q=(s>>>s.heap.push (aT w))) %[rfl|rfl]) λr q C=>?_
 cases r with
 | error e=>exact C
 | ok fl=>
   cases fl with
   | ret obj=>
     have%[rfl|rfl]:=C;have gS:(s.heap.push (aT w)).get? ⇑s=some (aT w):=Zi _ rfl;have tS:Shared.TypeIs (s>>>s.heap.push (aT w)) (.ref ⇑s) "set":=%[_,gS|rfl]
     have a9:=called_set.init.lookup;have bb:=called_set.init.bind (.ref ⇑s)
     repeat any_goals first|assumption|wp_step
     refine codeAny_mono (codeAny_call_builtin (R:=wants (λr t=>r= .none/\∃h' tk,t={s with heap:=h',toks:=tk}/\nS w knd ⇑s (bg ps) h'/\(∀b o,s.heap.get? b=some o->h'.get? b=some o)) E) called_set.init.plain F.entry_set_init (check_set_init_1 tS ?_)) λG t f=>?_
     .have%[ol,gl,cl,nl|dl]:=hl;have%[a5,y,ag|m]:=ol;simp only at cl dl;subst cl;subst dl;have ai:(s.heap.push (aT w)).get? l=some {cls:= .type "list",dict:=y,data:= .seq a nl,slots:=m}:=Z6 _ gl;have bf:=PySem.F.sub_list_set;have bl:=PySem.F.sub_list_frozenset;have bm:(Value.type "list"==Value.type "dict")=false:=by decide
      have H:(s.heap.push (aT w)).IsList l a:=%[_,ai,rfl,nl|rfl]
      unfold Builtin.«set.__init__»;unfold noKeywords;unfold Builtin.Frozenset.updateFrom
      generalize aj:pyIter=PI
      wp_walk
      subst aj;refine wpAny_pyIter_list H (Z2 (wpAny_runValue ?_));have I:l<⇑s:=Zt gl;have h3:A.in1.in1.in1.handled=none:=by simp[hh]
      have T:(s.heap.push (aT w)).objs.size=⇑s+1:=Zp ..;have al:l≠(s.heap.push (aT w)).objs.size:=by rw[T];exact Zr (Yh I)
      have an:⇑s∉[(s.heap.push (aT w)).objs.size,l]:=by
       rw[T];simp only[Yp,Yx,or_false,not_or];exact%[Zr (Yi _)|Ys I]
      have J:a.size=ps.length:=by rw[<-Za,hi,Z5]
      have as:A.in1.in1.in1.units<cLine:=by simp only[Around.in1];lia
      have g:∀i,i<a.size->∃p∈ps,ps[i]? =some p/\ps.getD i (0,[])=p:=λi h=>by
       have h':i<ps.length:=by lia
       exact%[ps[i],Y6 h',by simp[h']|by simp[Zb,h']]
      refine pD (knd:=knd) ((Walks.list h3 _ l al a).toS) ⇑s an as (λi=>ps.getD i (0,[])) (λi v d a0=>?_) U hU (λi d=>?_) (λi d=>?_) (λi d=>?_) (a.size-0) 0 _ ⋯ (X2 _)
       %[%[_,Zi _ rfl,rfl|rfl]|H.push _] %[_,#[],0,_,Z6 _ gS,%[rfl,rfl|rfl],rfl,IN.fresh 0 0 _|List.Perm.refl _] (λj d=>?_) ?_
      .have%[p,u,L|n]:=g i d;have:a.toList[i]? =some v:=by rw[getElem?_toList];exact a0
       rw[hi,Zk,L]at this;show v= .ref (ps.getD i (0,[])).1;rw[n];exact(Z9 this).symm
      .have%[p,u,L|n]:=g i d;show(ps.getD i (0,[])).2∈U;rw[n];exact ab p u
      .have%[p,u,L|n]:=g i d;have%[po,_,_,pg|_]:=tk p u;have M:=Zt pg;show(ps.getD i (0,[])).1≠_/\(ps.getD i (0,[])).1∉_;rw[n];refine%[Zr M|?_];simp only[Yp,Yx,or_false,T];exact Zr (Yh M)
      .have%[p,u,L|n]:=g i d;intro s' O E';show IsTupleKey knd s'.heap (ps.getD i (0,[])).2 (ps.getD i (0,[])).1->_->wpAny _ _ (hashByValue 8 (.ref (ps.getD i (0,[])).1)) _ _ _;rw[n];exact hv p u _ s' O E'
      .have%[p,u,L|n]:=g j d;show IsTupleKey knd _ (ps.getD j (0,[])).2 (ps.getD j (0,[])).1;rw[n];exact mQ (tk p u) λo e=>Z6 _ (Z6 _ e)
      intro s3 Y S3;have C:(List.range a.size).map (λi=>ps.getD i (0,[]))=ps:=by
       rw[J];apply ext_getElem
       .simp
       .intro i h1 h2;simp[Zb,h2]
      rw[C]at S3;have%[h',g',d',a1|a2]:=s3;have eg:g'=s.gens:=Y.gens;have ed:d'=s.drawn:=Y.drawn;have eo:a2=s.os:=Y.os;subst eg;subst ed;subst eo;refine Z3 ?_;show wpAny _ _ (ret Value.none) _ _ _;refine Z3 %[rfl,h',a1,rfl,S3|λb o e=>?_];have N:=Zt e;refine Y.heap b o ?_ (Z6 _ (Z6 _ e));simp only[Yp,Yx,or_false,not_or,T];exact%[Zr N|Zr (Yh N)]
     .cases G with
      | error e=>exact f
      | ok z=>
        cases z with
        | ret r=>
          have%[rfl,h',tk,rfl,S3|k3]:=f
          repeat any_goals first|assumption|wp_step
          exact hQ _ _ S3 k3
        | _=>exact f.elim
   | _=>exact C.elim
end
open PySem PySem.Spec PyProof.Rows
section
variable{prog:Program}{w:World}{A:Around}{s:Shared}
theorem jE{Nv:Value->Nat}{P:Fin->Shared->Prop}(C:s.heap.get? a=some (seqObj "list" vs.toArray n))(z:vs.length<64)
 (f:∀l:Heap,(∀b o,b≠a->s.heap.get? b=some o->l.get? b=some o)->2<=vs.length->∀Q:SortKind->Shared->Prop,Q kd (s>>>l)->↥A (keyKind' vs.toArray) Q E (s>>>l))
 (H:∀l:Heap,(∀b o,b≠a->s.heap.get? b=some o->l.get? b=some o)->SBig.Cmp prog w A (λs'=>s'=(s>>>l)) kd (λx=>x.1∈vs) (λx=>Nv x.1))
 (h:∀g:ZG,g.Perm vs->g.Pairwise (λx y=>Nv x<=Nv y)->P (.done (.ret .none)) (s>>>sortedHeap s.heap a vs g.toArray)):
 ↥A (Builtin.«list.sort» %[[.ref a]|[]]) P E s:=by
 rw[list_sort_plain];have L:a<⇑s:=Zt C;have j:vs.length<=sizeLine:=Ya (Y8 z) (by decide);refine Z2 (listItems_at C rfl ?_);refine Z2 (listUpdate_at C rfl ?_ (j));obtain⟨I,B⟩:∃I,(s.heap.update a (Obj.mapSeq λ_=> #[])).get? a=some (seqObj "list" #[] I):=%[_|get?_update_seq C (λ_=> #[])]
 refine Z2 (seqEpoch_at B rfl ?_);refine Z2 (wpAny_newTuple ?_ (j));refine Z2 (wpAny_newList ?_);refine wpAny_holding ?_;have keep:∀b o,b≠a->s.heap.get? b=some o->(((s.heap.update a (Obj.mapSeq λ_=> #[])).push (seqObj "tuple" vs.toArray 0)).push (seqObj "list" #[] 0)).get? b=some o:=λb o O e=>
  Z6 _ (Z6 _ ((get?_update_other _ _ (Ne.symm O)).trans e))
 have d:(((s.heap.update a (Obj.mapSeq λ_=> #[])).push (seqObj "tuple" vs.toArray 0)).push (seqObj "list" #[] 0)).get? a=some (seqObj "list" #[] I):=by
  rw[Heap.get?_push_ne _ _ _ (by rw[size_push',Heap.size_update];exact Zr (Yh L)),Heap.get?_push_ne _ _ _ (by rw[Heap.size_update];exact Zr L)];exact B
 have f:=f _ keep;have H:=H _ keep;show ↥A _ P E {s with heap:=((s.heap.update a (Obj.mapSeq λ_=> #[])).push (seqObj "tuple" vs.toArray 0)).push (seqObj "list" #[] 0)};dsimp only;have J:vs.toArray.size=vs.length:=by simp
 have m:(vs.toArray.zip vs.toArray).toList=vs.map λv=>(v,v):=by
  rw[Array.toList_zip,List.toList_toArray];apply ext_getElem
  .simp
  .intro i h1 p;simp
 have fin:∀c:SortSt,(arrOf c).toList.Perm (vs.map λv=>(v,v))->SBig.Srt (λx=>Nv x.1) (arrOf c).toList->P (.done (.ret .none)) (s>>>(sortedHeap s.heap a vs ((arrOf c).map (·.2)))):=by
  intro c t G;have M:∀x∈(arrOf c).toList,x.1=x.2:=λx u=>by
   have%[v,_|rfl]:=Xb (t.mem_iff.mp u);rfl
  have e:(arrOf c).map (·.2)=((arrOf c).toList.map (·.2)).toArray:=by
   apply Array.ext';simp
  rw[e];refine h _ ?_ ?_
  .have:=t.map (·.2);rwa[Yl,show((λx:Keyed=>x.2) ∘ λv:Value=>(v,v))=id from rfl,map_id]at this
  .rw[Yz];exact X4 (λ{x y} u T q=>by rw[<-M x u,<-M y T];exact q) G
 by_cases p:vs.toArray.size<2
 .rw[if_pos p,if_pos p];refine Z2 (Z3 ?_);rw[StateT.run_pure];refine Z2 (Z3 ?_);dsimp only;refine Z2 (seqEpoch_at d rfl (Z2 (listUpdate_at d rfl ?_ (hsz2:=by rw[size_map];show(pairsOf vs).size<=_;rw[pairsOf_size,sizeLine_eq];lia))));simp only[bne_self_eq_false,Zx,if_false];refine Z3 (fin _ (by rw[m]) ?_);rw[m]
  match vs,J,p with
  |[],_,_=>exact List.Pairwise.nil
  |[v],_,_=>exact List.pairwise_singleton _ _
  | v1::v2::r,h3,U=>simp at U;lia
 .rw[if_neg p,if_neg p];refine Z2 (f ⋯ _ ?_);refine Z2 (wpAny_mono (SBig.sc_sortFew (D:=λx=>x.1∈vs) (st:=SortSt.mk' kd (vs.toArray.zip vs.toArray) #[] 7 none) H (λx u=>?_) ?_ ?_ rfl rfl
   (Q:=λ_ c=>(arrOf c).toList.Perm (vs.map λv=>(v,v))/\failedOf c=none/\SBig.Srt (λx=>Nv x.1) (arrOf c).toList) (λc Y a2 a3=>%[?_,a3|a2]) _ rfl) ?_ λ_ _ e=>e.elim)
  .rw[m]at u;have%[v,hv|rfl]:=Xb u;exact hv
  .rw[<-Za,m,Z5]
   lia
  .show(vs.toArray.zip vs.toArray).size<64;rw[<-Za,m,Z5];exact z
  .rwa[m]at Y
  .rintro⟨⟨⟩,c⟩ s' ⟨rfl,t,N,G⟩;dsimp only at t N G ⊢;refine Z2 (seqEpoch_at d rfl (Z2 (listUpdate_at d rfl ?_ (hsz2:=?_))))
   .rw[N];simp only[bne_self_eq_false,Zx,if_false];exact Z3 (fin c t G)
   .rw[size_map,<-Za,t.length_eq,Z5];exact Nat.le_succ_of_le j
end
noncomputable def bd(x y:Str):Bool:=decide (x.cps.toList<y.cps.toList)
noncomputable def dF:ZB->ZB->Bool
 |[],[]=>false
 |[],_::_=>true
 | _::_,[]=>false
 | x::xs,y::ys=>if x=y then dF xs ys else bd x y
theorem fW(x:Str):bd x x=false:=Zg (List.lt_irrefl _)
theorem Gc{x y:Str}(h:x.cps.toList=y.cps.toList):x=y:=by
 obtain⟨⟨l⟩⟩:=x
 simp_all
theorem gO(a:bd x y=true)(b:bd y z=true):bd x z=true:=Ze (List.lt_trans (Zn a) (Zn b))
theorem gP{x y:Str}(h:bd x y=false)(a:x≠y):bd y x=true:=by
 exact Ze (Classical.byContradiction λb=>a (Gc (List.le_antisymm b (of_decide_eq_false h))))
theorem xA:∀x,dF x x=false
 |[]=>rfl
 | x::xs=>by rw[dF,if_pos rfl];exact xA xs
theorem jo:∀{x y z:ZB},dF x y=true->dF y z=true->dF x z=true
 |[],[],z,b,a=>by cases b
 |[],y::ys,[],b,a=>by cases a
 |[],y::ys,z::zs,b,a=>rfl
 | x::xs,[],z,b,a=>by cases b
 | x::xs,y::ys,[],b,a=>by cases a
 | x::xs,y::ys,z::zs,b,a=>by
   rw[dF]at b a ⊢;by_cases d:x=y
   .rw[if_pos d]at b;subst d;by_cases c:x=z
    .rw[if_pos c]at a ⊢;exact jo b a
    .rw[if_neg c]at a ⊢;exact a
   .rw[if_neg d]at b;by_cases c:y=z
    .rw[if_pos c]at a;subst c;rw[if_neg d];exact b
    .rw[if_neg c]at a;have f:=gO b a;rw[if_neg (λe=>by rw[e,fW]at f;cases f)];exact f
theorem lw:∀{x y:ZB},dF x y=false->x≠y->dF y x=true
 |[],[],a,c=>absurd rfl c
 |[],y::ys,a,c=>by cases a
 | x::xs,[],a,c=>rfl
 | x::xs,y::ys,a,c=>by
   rw[dF]at a ⊢;by_cases b:x=y
   .rw[if_pos b]at a;rw[if_pos b.symm];exact lw a λe=>c (by rw[b,e])
   .rw[if_neg b]at a;rw[if_neg (Ne.symm b)];exact gP a b
noncomputable def gQ(ks:List ZB)(k:ZB):Nat:=ks.countP λu=>dF u k
theorem km(b:x∈ks):dF x y=decide (gQ ks x<gQ ks y):=by
 have up:∀(l:List ZB) p q,(∀u∈l,p u=true->q u=true)->l.countP p<=l.countP q:=λl p q h=>List.countP_mono_left h
 cases h:dF x y with
 | true=>
   symm
   refine Ze ?_;have c:∀l:List _,x∈l->l.countP (λu=>dF u x)<l.countP (λu=>dF u y):=by
    intro l
    induction l with
    | nil=>simp
    | cons u l d=>
      intro b;rw[countP_cons,countP_cons];have f:=up l (λu=>dF u x) _ λu _ a=>jo a h
      rcases mem_cons.mp b with e|e
      .subst e;rw[if_neg (by rw[xA];simp),if_pos h]
       lia
      .by_cases a:dF u x=true
       .rw[if_pos a,if_pos (jo a h)]
        lia
       .rw[if_neg a]
        split<;> lia
   exact c ks b
 | false=>
   symm
   refine Zg (Nat.not_lt.mpr (up ks _ _ λu _ a=>?_));by_cases e:x=y
   .exact e▸a
   .exact jo a (lw h e)
section
variable{prog:Program}{w:World}{A:Around}{s:Shared}{E:ZD}
abbrev y6(prog:Program)(w:World)(h:Heap)(zs:ZB)(r:Addr):Prop:=IsTupleKey (aN prog w) h (zs.map Sum.inr) r
theorem gR:∀{zs:ZB} {vs:ZG},ItemsAre (aN prog w) (zs.map Sum.inr) vs->StrsAre vs zs
 |[],_,h=>by cases h;exact .nil
 | z::zs,_,h=>by
   cases h with
   | cons a d=>
     have a:jz (Sum.inr z) _=true:=a;rcases aY a with⟨i,t,b,c⟩|⟨y,t,b,c⟩
     .cases b
     .cases b;subst c;exact .cons z t (gR d)
theorem Ey:∀(x y:ZB) (vs us:ZG) (i:Nat),StrsAre vs x->StrsAre us y->(x.length=y.length)->fin=false->Q (dF x y) s->PySem.W.KatLex prog w A b fin Q (vs.zip us) i s
 |[],[],_,_,i,.nil,.nil,_,a,h=>a▸h
 | x::xs,y::ys,_,_,i,.cons _ t c,.cons _ u d,f,a,h=>by
   rw[List.zip_cons_cons];refine PySem.W.kat_cons (eqBool_str ?_);rw[dF]at h;by_cases e:x=y
   .subst e;rw[if_pos rfl]at h;rw[beq_self_eq_true];exact PySem.W.kat_yes (Ey xs ys _ _ _ c d (by simpa using f) a h)
   .rw[if_neg e]at h;rw[beq_eq_false_iff_ne.mpr e];refine PySem.W.kat_no ?_;cases g:(b&&i==0)with
    | true=>exact oneLt_str h
    | false=>exact PySem.W.kat_one _ _ (lt_str h)
theorem DC(d:y6 prog w s.heap x r)(e:y6 prog w s.heap y q)(f:x.length=y.length)(h:Q (dF x y) s):↥A (keyLt' (tuples' b) (.ref r) (.ref q)) Q E s:=by
 have%[ox,xs,nx,g,_,i|j]:=d;have%[o,ys,p,l,_,m|n]:=e;have a:=gR j;have c:=gR n;refine PySem.W.kat_lt g i l m (Ey x y _ _ 0 a c f ?_ h);have t:=bE a;have u:=bE c
 simp_all
end
theorem ug [DecidableEq d][DecidableEq i](g:d->i)(j:∀a b,g a=g b->a=b)(l:List (Addr×d)):bg (l.map λp=>(p.1,g p.2))=(bg l).map λp=>(p.1,g p.2):=by
 have m:∀(l ps:List _),(l.map λp=>(p.1,g p.2)).foldl ib (ps.map λp=>(p.1,g p.2))=(l.foldl ib ps).map λp=>(p.1,g p.2):=by
  intro l
  induction l with
  | nil=>intro ps;rfl
  | cons p l n=>
    intro ps;rw[Yk,foldl_cons,foldl_cons];have e:ib (ps.map λp=>(p.1,g p.2)) (p.1,g p.2)=(ib ps p).map λp=>(p.1,g p.2):=by
     unfold ib;have f:(g p.2∈(ps.map λp=>(p.1,g p.2)).map (·.2))↔p.2∈ps.map (·.2):=by
      rw[Yl]
      constructor
      .intro h;have%[q,c|e]:=Xb h;exact Xc %[q,c|j _ _ e]
      .intro h;have%[q,c|e]:=Xb h;exact Xc %[q,c|by show g q.2=g p.2;rw[e]]
     by_cases h:p.2∈ps.map (·.2)
     .rw[if_pos h,if_pos (f.mpr h)]
     .rw[if_neg h,if_neg (λz=>h (f.mp z)),Zc];rfl
    rw[e];exact n _
 exact m l []
noncomputable abbrev Hw(p:Addr×ZB):Addr×List Key:=(p.1,p.2.map Sum.inr)
theorem rZ:∀a b:ZB,a.map (Sum.inr:Str->Key)=b.map Sum.inr->a=b
 |[],[],_=>rfl
 |[],_::_,h=>by cases h
 | _::_,[],h=>by cases h
 | x::xs,y::ys,h=>by
   injection h with c d
   injection c with e
   rw[e,rZ xs ys d]
section
#where
variable{S:Addr}
theorem nT:∀{vs:ZG} {zs:ZB},StrsAre vs zs->ItemsAre (aN prog w) (zs.map Sum.inr) vs
 | _,_,.nil=> .nil
 | _,_,.cons x t h=> .cons (dI x t) (nT h)
theorem DD(c:zs≠[])(b:y6 prog w s.heap zs r)(h:Q false s):↥A (hashByValue 8 (.ref r)) Q E s:=by
 have d:=b.typeIs;have%[o,a,n,e,_,f|hi]:=b;refine Z2 (wpAny_specialOf d F.slot_tuple_hash.lookup (Z2 (wpAny_seqItems e f (Z2 ?_))));rw[<-forIn_toList]
 match zs,a.toList,(gR hi),c with
 | z::zs,_,.cons _ t g,_=>
   exact Z2 (Z2 (Z3 (Z3 (Z3 (Z3 h)))))
noncomputable def kOf(ps:ZH):Value->ZB
 | .ref r=>((ps.find? λp=>p.1==r).map (·.2)).getD []
 | _=>[]
noncomputable def aOf:Value->Addr
 | .ref r=>r
 | _=>0
theorem nU(L:∀(E1:ZD) (R:ZG->Shared->Prop),(∀c vs,vs.Perm (ps.map λp=>Value.ref p.1)->(∀b o,s.heap.get? b=some o->c.heap.get? b=some o)->c.gens=s.gens->c.os=s.os->R vs c)->↥A.in1 (collect (.ref S)) R E1 s)(tk:∀p∈ps,y6 prog w s.heap p.2 p.1)(Y:∀p∈ps,p.2.length=m)(m0:m≠0)(al:ps.length<64)
 (hQ:∀(c s':Shared) (l:Addr) (ss:ZH) (n:Nat),ss.Perm ps->ss.Pairwise (λa b=>dF b.2 a.2=false)->(∀b o,s.heap.get? b=some o->c.heap.get? b=some o)->c.gens=s.gens->c.os=s.os->(∀b o,c.heap.get? b=some o->s'.heap.get? b=some o)->s'.gens=c.gens->s'.os=c.os->⇑c<=l->s'.heap.get? l=some {cls:= .type "list",data:= .seq (ss.map λp=>Value.ref p.1).toArray n}->Q (.ref l) s'):
 ↥A (call (.builtin "sorted") [.ref S]) Q E s:=by
 have r:∀p∈ps,kOf ps (.ref p.1)=p.2:=λp d=>by
  show((ps.find? λq=>q.1==p.1).map (·.2)).getD []=p.2;cases B:ps.find? λq=>q.1==p.1 with
  | none=>
    have:=List.find?_eq_none.mp B p d;simp at this
  | some q=>
    have C:=List.mem_of_find?_eq_some B;have e:q.1=p.1:=by have:=List.find?_some B;simpa using this
    show q.2=p.2;have t1:=tk q C;rw[e]at t1;exact rZ _ _ (t1.inj (tk p d))
 refine Calls.call_function_entry kind_sorted plain_sorted entry_sorted (args_sorted1 _) ?_;unfold Builtin.«sorted»;refine Z2 (m:=checkCount "sorted" 1 1 _) (Z3 ?_);refine Z2 (L _ _ λc vs q2 k1 g1 o1=>?_);have hl:vs.length=ps.length:=by rw[q2.length_eq,Z5]
 have mem:∀v∈vs,∃p∈ps,v=Value.ref p.1:=λv G=>by
  have%[p,d|rfl]:=Xb (q2.mem_iff.mp G);exact%[p,d|rfl]
 refine Z2 (wpAny_newList ?_ (by rw[sizeLine_eq];lia));have gL:(c.heap.push (seqObj "list" vs.toArray 0)).get? ⇑c=some (seqObj "list" vs.toArray 0):=Zi _ rfl;have H:∀p∈ps,∀j:Heap,(∀b o,b≠⇑c->(c.heap.push (seqObj "list" vs.toArray 0)).get? b=some o->j.get? b=some o)->y6 prog w j p.2 p.1:=λp d j J=>by
  refine mQ (tk p d) λo e=>?_
  have M:=k1 _ _ e;exact J _ _ (Zr (Zt M)) (Z6 _ M)
 refine Z2 (wpAny_holding (wpAny_call_entry slot_list_sort %[_,gL|rfl] entry_list_sort (jE (s:=(c>>>c.heap.push (seqObj "list" vs.toArray 0))) (kd:=tuples' true) (Nv:=λv=>gQ (ps.map (·.2)) (kOf ps v)) gL ⋯ (λj J an Q6 ab=>?_) (λj J=>?_) λg p1 p2=>%[_,rfl|?_]) (args_list_sort _)))
 .have tups:∀l:ZG,(∀v∈l,∃p∈ps,v=Value.ref p.1)->∃fs:ZG,KatTups j l fs/\fs.length=l.length/\∀f∈fs,∃z t,f=Value.str z t:=by
   intro l
   induction l with
   | nil=>intro _;exact%[[],KatTups.nil,rfl|λf B=>by cases B]
   | cons v l ih=>
     intro G;have%[fs,f1,f2|f3]:=ih λu hu=>G u (Zj _ hu)
     have%[p,d|rfl]:=G v Zl;have%[o',h,n',g',c',d'|i']:=H p d j J;have i:=gR i';have ae:p.2≠[]:=λe=>by have:=Y p d;rw[e]at this;exact m0 this.symm
     obtain⟨z,zs,ez⟩:∃z zs,p.2=z::zs:=by
      cases ag:p.2 with
      | nil=>exact absurd ag ae
      | cons z zs=>exact%[z,zs|rfl]
     rw[ez]at i;obtain⟨t',vr,ev⟩:∃t' vr,h.toList=Value.str z t'::vr:=by
      cases N:h.toList with
      | nil=>rw[N]at i;cases i
      | cons a b=>
        rw[N]at i;cases i with
        | cons _ t' _=>exact%[t',b|rfl]
     have e0:h[0]? =some (Value.str z t'):=by
      have:h.toList[0]? =some (Value.str z t'):=by rw[ev];rfl
      simpa using this
     exact⟨Value.str z t'::fs,KatTups.cons g' c' d' e0 f1,by simp[f2],λf B=>by
      rcases mem_cons.mp B with e|e
      .exact%[z,t'|e]
      .exact f3 f e⟩
  have%[fs,f1,f2|f3]:=tups vs mem;refine PySem.W.kat_kind (T:= .type "str") f1 ⋯ (λf B=>?_) (by decide) ab;have%[z,t'|rfl]:=f3 f B;exact Looks.of_pure rfl
 .intro x y s' hx hy i;subst i;have%[p,d|ai]:=mem _ hx;have%[q,C|aj]:=mem _ hy;have%[x1|x2]:=x;have%[y1|y2]:=y;obtain rfl:x1=Value.ref p.1:=ai;obtain rfl:y1=Value.ref q.1:=aj;show ↥A.in1.in1 (keyLt' (tuples' true) (Value.ref p.1) (Value.ref q.1)) (λb s'=>b=decide (gQ (ps.map (·.2)) (kOf ps (Value.ref p.1))<gQ (ps.map (·.2)) (kOf ps (Value.ref q.1)))/\s'=(c>>>j)) (λ_ _=>False) (c>>>j);rw[r p d,r q C];refine DC (s:=(c>>>j)) (H p d j J) (H q C j J) (by rw[Y p d,Y q C]) %[?_|rfl];exact km (Xc %[p,d|rfl])
 .have U:g.Perm (ps.map λp=>Value.ref p.1):=p1.trans q2;have oe:g=(g.map λv=>(aOf v,kOf ps v)).map λp=>Value.ref p.1:=by
   rw[Yl];refine(map_id g).symm.trans (Yj λv G=>?_);have%[p,d|rfl]:=Xb (U.mem_iff.mp G);rfl
  obtain⟨n,gl⟩:∃n,(sortedHeap (c.heap.push (seqObj "list" vs.toArray 0)) ⇑c vs g.toArray).get? ⇑c=some (seqObj "list" g.toArray n):=sortedHeap_at gL;refine Z3 %[_,rfl|hQ c _ ⇑c (g.map λv=>(aOf v,kOf ps v)) n ?_ ?_ k1 g1 o1 (λb o' M=>?_) rfl rfl (Zh _) ?_]
  .have:=U.map λv=>(aOf v,kOf ps v)
   rw[Yl]at this;refine this.trans ?_;have:(ps.map ((λv=>(aOf v,kOf ps v)) ∘ λp=>Value.ref p.1))=ps:=by
    refine(Yj λp d=>?_).trans (map_id ps);show(p.1,kOf ps (.ref p.1))=p;rw[r p d]
   rw[this]
  .rw[Yz];refine X4 (λ{u v} hu G I=>?_) p2;have%[p,d|rfl]:=Xb (U.mem_iff.mp hu);have%[q,C|rfl]:=Xb (U.mem_iff.mp G);show dF (kOf ps (.ref q.1)) (kOf ps (.ref p.1))=false;have I:gQ (ps.map (·.2)) (kOf ps (.ref p.1))<=gQ (ps.map (·.2)) (kOf ps (.ref q.1)):=I;rw[r p d,r q C]at I ⊢;rw[km (ks:=ps.map (·.2)) (Xc %[q,C|rfl])];exact Zg ⋯
  .have O:=Zt M;show(sortedHeap _ _ _ _).get? b=_;rw[sortedHeap_old (Zr O) (by rw[Zp];exact Yh O)];exact Z6 _ M
  .have e3:(seqObj "list" g.toArray n)=({cls:= .type "list",data:= .seq ((g.map λv=>(aOf v,kOf ps v)).map λp=>Value.ref p.1).toArray n}:Obj):=by
    rw[(congrArg List.toArray oe.symm)]
   exact gl.trans (congrArg some e3)
end
section
variable{X:Cx}{K:ZA}
noncomputable def nV(P:Program)(w:World)(a:Addr)(ps:ZH):HO:= .ext (nS w (aN P w) a (ps.map Hw))
def aP(H:Hp)(ps:ZH):Prop:=∀p∈ps,p.2≠[]/\H p.1=some (.tup (p.2.map V.str))
theorem r9(I:Inv X pins f H s)(h:aP H ps):∀p∈ps,y6 X.prog X.w s.heap p.2 p.1:=λp a=>by
 have%[_,its,b,o,c,d,n|e]:=I.hok p.1 _ (h p a).2;exact%[o,its.toArray,n,c,d,e|nT (hJ b)]
theorem sd:∀{ps:ZH} {us:ZG},aE (ps.map λp=>V.ref p.1) us->us=ps.map λp=>Value.ref p.1
 |[],_,.nil=>rfl
 | _::_,_,.cons r t=>by
   cases r;rw[sd t];rfl
theorem sf:∀(ps:ZH),aE (ps.map λp=>V.ref p.1) (ps.map λp=>Value.ref p.1)
 |[]=> .nil
 | _::ps=> .cons rfl (sf ps)
theorem y8(j:X.calm=true)(E:X.A.units+64<cLine):bW X (.type "set") (λxs H Q=>∃p ps,xs=[.ref p]/\SqL X.K H p (ps.map λq=>V.ref q.1)/\aP H ps/\(∃U:List _,U.length<=999/\∀q∈ps,q.2∈U)/\∀l,H l=none->Q (.ref l) (upd H l (nV X.prog X.w l (bg ps)))):=by
 intro pins s G H xs us Q I r h;have%[p,ps,rfl,m,g,%[U,J|d]|q]:=h;have%[u,rfl|n]:=di r;cases n;have%[its,t,pl|L]:=I.list m;have v:=sd t;refine pE (knd:=aN X.prog X.w) (I.ok.hd j) ⋯ pl.isList (ps:=ps.map Hw) (by simp_all) (λi a=>?_) (U.map λz=>z.map Sum.inr) (by simp_all) (λi a=>?_) (λi a B s' M N e f=>?_) λh' w S k=>?_
 .have%[b,c|rfl]:=Xb a;exact(r9 I g) b c
 .have%[b,c|rfl]:=Xb a;exact Xc %[b.2,d b c|rfl]
 .have%[b,c|rfl]:=Xb a;exact DD (g b c).1 e f
 .rw[(ug _ rZ ps)]at S;refine%[.ref ⇑s,_,I.laid (o:=nV X.prog X.w ⇑s _) k (Zh _) %[S,?_|λO T y A=>nS.keep y A],rfl|q _ I.fresh];have%[o,_,_,_,C|_]:=S;exact%[o|C]
theorem si(y:X.calm=true):bW X (.builtin "sorted") (λxs H Q=>∃a ps m,xs=[.ref a]/\H a=some (nV X.prog X.w a ps)/\aP H ps/\(∀p∈ps,p.2.length=m)/\m≠0/\ps.length<64/\
 ∀l (ss:List _),H l=none->ss.Perm ps->ss.Pairwise (λa b=>dF b.2 a.2=false)->Q (.ref l) (upd H l (.lst (ss.map λp=>V.ref p.1)))):=by
 intro pins s U H xs us Q I r h;have%[a,ps,m,rfl,z,A,B,C,d|q]:=h;have%[u,rfl|E]:=di r;cases E;have%[%[o,e,Y,t,G,f,L,J|P],_|_]:=(I.hok a _ z)
 have hn:e.size=ps.length:=by
  have:=P.length_eq
  simp_all
 have pv:(e.toList.map (·.2)).Perm (ps.map λp=>Value.ref p.1):=by
  have:=P.map (·.2);rw[Yl,Yl]at this;exact this
 refine nU (λE1 R M=>kf (I.ok.hd y) G f L (by show e.size<4096;lia) J.fits J.plain J.led λv vs N i g1 j _=>M v vs (N.trans pv) i g1 j) (r9 I A) B C d λv s' l ss n w O i g1 j k g o c T=>?_
 have I:=I.keptS i g1 j;refine%[.ref l,_,I.stoodS (o:= .lst _) (I.keptS k g o) c %[?_,ss.map _,n,sf ss|T],rfl|q l ss (I.hok.fresh c) w O];rw[Z5,w.length_eq,sizeLine_eq]
 lia
theorem BA{P:Program}(h:X.K=K)(c:X.prog=P)(hw:X.w=w)(a:X.calm=true)(b:bF k X.A):cB X (.type "set") (λxs H Q=>∃p ps,xs=[.ref p]/\SqL K H p (ps.map λq=>V.ref q.1)/\aP H ps/\(∃U:List ZB,U.length<=999/\∀q∈ps,q.2∈U)/\∀l,H l=none->Q (.ref l) (upd H l (nV P w l (bg ps)))):=by
 subst h;subst hw;exact⟨y8 a b.units⟩
theorem qD{P:Program}(d:X.prog=P)(hw:X.w=w)(c:X.calm=true):cB X (.builtin "sorted") (λxs H Q=>∃a ps m,xs=[.ref a]/\H a=some (nV P w a ps)/\aP H ps/\(∀p∈ps,p.2.length=m)/\m≠0/\ps.length<64/\
 ∀(l:Addr) (ss:ZH),H l=none->ss.Perm ps->ss.Pairwise (λa b=>dF b.2 a.2=false)->Q (.ref l) (upd H l (.lst (ss.map λp=>V.ref p.1)))):=by
 subst hw;exact⟨si c⟩
end
noncomputable def y9(K:ZA)(a b:Addr):It:=⟨λi H=>∃xs ys x y,SqL K H a xs/\SqL K H b ys/\xs[i]? =some x/\ys[i]? =some y,
 λi H v c=>∃T x y,H T=none/\v= .ref T/\c=upd H T (.tup [x,y])/\(∀xs,SqL K H a xs->xs[i]? =some x)/\(∀ys,SqL K H b ys->ys[i]? =some y),
 λi H=>∃xs ys,SqL K H a xs/\SqL K H b ys/\i<=xs.length/\i<=ys.length/\(i=xs.length\/i=ys.length)⟩
theorem za{P:Program}{K:ZA}(z TI TO i1 i2 l1 l2:Addr)(D:ZipApart z TI TO i1 i2 l1 l2):
 mX P w K (.Tuple elts kt tp) (y9 K l1 l2) [z,TI,TO,i1,i2] z (ZSt z TI TO i1 i2 (λi h=>h.IsListIter i1 l1 i) (λi h=>h.IsListIter i2 l2 i)) where
 mem:=by simp
 obj:=λi h st b hb=>by
  have%[hz,hTI,%[a,c|hTO],%[o1,e1,_|d1],o2,e2,_|d2]:=st
  grind
 keep:=λi h h' st k=>by
  have%[hz,hTI,%[a,c|hTO],%[o1,e1|r1],o2,e2|r2]:=st;exact%[k z ∅ _ hz,k TI ∅ _ hTI,%[a,c|k TO ∅ _ hTO],%[o1,k i1 ∅ _ e1|r1],o2,k i2 ∅ _ e2|r2]
 item:=by
  intro X hP hw hK hc i pins s σ H E I hf st hg;subst hP hw hK;have%[hz,hTI,%[a,c|hTO],h1|h2]:=st;have%[xs,ys,x,y,hq1,hq2,hx|hy]:=hg;have%[its1,rv1,pl1|hz1]:=I.list hq1;have%[its2,rv2,pl2|hz2]:=I.list hq2;have%[u1,hu1|ru1]:=rv1.get hx;have%[u2,hu2|ru2]:=rv2.get hy;refine wpAny_pyNext_zip_item D hz hTI hTO h1 h2 pl1.isList pl2.isList (x:=u1) (y:=u2) (by simpa using hu1) (by simpa using hu2) λh' a1 a2 a3 a4 a5 a6 hk=>%[_,rfl|wpAny_letOwnedTupleGo_zip (s:=(s>>>h')) a1 λh'' hz'' sb=>?_]
  replace sb:SameBut z h' h'':=sb;have turn1:Inv X pins σ H (s>>>h''):=by
   have nit:∀b v,H b=some v->b∉[z,TI,TO,i1,i2]:=λb v e hb=>by rw[(hf b hb).1]at e;cases e
   have kk:∀b o,b∉[z,TI,TO,i1,i2]->s.heap.get? b=some o->h''.get? b=some o:=λb o hb e=>by
    simp only[Yp,Yx,or_false,not_or]at hb;exact(sb.2 b hb.1).trans (hk b o hb.1 hb.2.2.1 hb.2.2.2.1 hb.2.2.2.2 e)
   refine I.step (g':=s.gens) (d':=s.drawn) (ch:=[z,TI,TO,i1,i2]) (λb hb=>%[(hf b hb).2.2.2.1,(hf b hb).2.1,(hf b hb).2.2.2.2.1|(hf b hb).2.2.2.2.2]) (λb o _ _ hc e _=>kk b o hc e) (λb o _ _ hc e _=>%[o.slots|kk b o hc e]) (λ_ _ _ _ n=>n)
    (λb o hc e=>%[o|kk b o hc e]) (λ_ _ e=>e) (λ_ _ _ e=>e) (λb ps e=>%[#[]|by rw[e];simp]) (λm hm=>?_) (λb v e=>?_) I.bare
   .have%[o,es,ep,ho|r]:=hm;exact%[o,es,ep,kk _ o (λhb=>(hf _ hb).2.1 rfl) ho|r]
   .refine(I.hok b v e).stay (λc' v' hc' q=>kk c' v' ?_ q) (λ_ q=>q) λ_ _ q=>q
    rcases hc' with q'|q'
    .exact q'▸nit b v e
    .exact nit c' _ q'
  have Hn:H ⇑s=none:=I.fresh;have I2:Inv X pins σ (upd H ⇑s (.tup [x,y])) (s>>>h''):=by
   have nf:⇑s∉X.fs:=I.nofs (Zh _);refine%[turn1.ok,turn1.os,turn1.bare,?_,turn1.loc,turn1.cell,?_,?_,?_,?_|turn1.len]
   .refine%[turn1.base.keep,turn1.base.slot,λb o e n hx=>?_,turn1.base.there,λb xs e=>?_,λb o v e=>?_|λb ps e=>?_]
    .rw[ak ((λb o e=>Zr (Zf (Zt e) I.sz)) b o e)];exact turn1.base.free b o e n hx
    .rw[ak (ar (turn1.base.tups b xs e) Hn)];exact turn1.base.tups b xs e
    .rw[ak (ar (turn1.base.frzs b o v e) Hn)];exact turn1.base.frzs b o v e
    .have%[m|q]:=turn1.base.tbls b ps e;exact%[m|(ak (ar q Hn))▸q]
   .rw[ak (Zr I.lt)];exact turn1.free
   .intro x' c' e;have%[v'|q]:=I.cell x' c' e;rw[ak (Zr q.lt)];exact turn1.freeC x' c' e
   .intro p hp;have%[e,n|r]:=turn1.pin p hp;refine%[e,?_|r];rw[ak (Zr (Zt (I.pin p hp).1))];exact n
   .intro b v e;by_cases hb:b=⇑s
    .subst hb;rw[aa]at e;cases e;exact%[by show 2<=sizeLine;decide,[u1,u2],.cons ru1 (.cons ru2 .nil),_,((sb.2 _ (Ys (Zt hz))).trans a5),rfl,_|rfl]
    .rw[ak hb]at e;refine(turn1.hok b v e).stay (λ_ _ _ q=>q) (λc' q=>?_) λc' xs q=>?_
     .rw[ak (ar q Hn)];exact q
     .rw[ak (ar q Hn)];exact q
  refine%[.ref ⇑s,_,I2,rfl,%[_,x,y,Hn,rfl,rfl,λzs hzs=>(I.list_inj hzs hq1)▸hx|λzs hzs=>(I.list_inj hzs hq2)▸hy],%[hz'',(sb.2 _ D.TIz).trans (hk _ _ D.TIz D.TITO D.TIi1 D.TIi2 hTI),%[_,_|(sb.2 _ D.TOz).trans a2],?_|?_]|λb hb=>?_]
  .have%[o,e|r]:=a3;exact%[o,(sb.2 _ D.i1z).trans e|r]
  .have%[o,e|r]:=a4;exact%[o,(sb.2 _ D.i2z).trans e|r]
  .have:b<⇑s:=by
    simp only[Yp,Yx,or_false]at hb;have%[o1,q1|_]:=h1;have%[o2,q2|_]:=h2;rcases hb with rfl|rfl|rfl|rfl|rfl
    .exact Zt hz
    .exact Zt hTI
    .exact Zt hTO
    .exact Zt q1
    .exact Zt q2
   rw[ak (Zr this)];exact(hf b hb).1
 done:=by
  intro X hP hw hK hc i pins s σ H E I hf st hg;subst hP hw hK;have%[hz,hTI,%[a,c|hTO],h1|h2]:=st;have%[xs,ys,hq1,hq2,g1,g2|g3]:=hg;have%[its1,rv1,pl1|hz1]:=I.list hq1;have%[its2,rv2,pl2|hz2]:=I.list hq2;have n1:=rv1.length;have n2:=rv2.length;refine wpAny_pyNext_zip_end (I.ok.hd hc) D hz hTI hTO h1 h2 pl1.isList pl2.isList (by
   rcases g3 with q|q
   .exact .inl (by simp;lia)
   .exact .inr (by simp;lia)) λh' hk=>%[rfl|?_]
  have nit:∀b v,H b=some v->b∉[z,TI,TO,i1,i2]:=λb v e hb=>by rw[(hf b hb).1]at e;cases e
  have kk:∀b o,b∉[z,TI,TO,i1,i2]->s.heap.get? b=some o->h'.get? b=some o:=λb o hb e=>by
   simp only[Yp,Yx,or_false,not_or]at hb;exact hk b o hb.1 hb.2.2.1 hb.2.2.2.1 hb.2.2.2.2 e
  refine I.step (λb hb=>%[(hf b hb).2.2.2.1,(hf b hb).2.1,(hf b hb).2.2.2.2.1|(hf b hb).2.2.2.2.2]) (λb o _ _ hc e _=>kk b o hc e) (λb o _ _ hc e _=>%[o.slots|kk b o hc e]) (λ_ _ _ _ n=>n)
   (λb o hc e=>%[o|kk b o hc e]) (λ_ _ e=>e) (λ_ _ _ e=>e) (λb ps e=>%[#[]|by rw[e];simp]) (λm hm=>?_) (λb v e=>?_) I.bare
  .have%[o',es,ep,ho'|r]:=hm;exact%[o',es,ep,kk _ o' (λhb=>(hf _ hb).2.1 rfl) ho'|r]
  .refine(I.hok b v e).stay (λc' v' hc' q=>kk c' v' ?_ q) (λ_ q=>q) λ_ _ q=>q
   rcases hc' with q'|q'
   .exact q'▸nit b v e
   .exact nit c' _ q'
 self:=λ_ _ _ _ _ st h=>wpAny_pyIter_zip st.1 h
def Ez(K:ZA)(d:TA):TI:=λe H R=>d e H λvs c=>∃a b,vs=[.ref a,.ref b]/\(∃xs,SqL K c a xs)/\(∃ys,SqL K c b ys)/\R (y9 K a b) c
section
variable{X:Cx}{K:ZA}{pos:Pos}
theorem Hx(M:X.K=K){N p:Pos}{a b:Expr}{C:TA}(O:Gl X "zip")(Q:X.mg "zip"=none)(T:aW a=false)(n:aW b=false)(U:QA X [a,b] C):
 QI X (.Tuple E kt N) (.Call (.Name "zip" p) [a,b] [] pos) (Ez K C):=by
 subst M
 constructor
 intro pins s Y H R I h;refine Call_ (jK I O Q boot_zip (PyProof.Rows.callWith_type1 (thP (U.h pos pins s Y H _ I h) λus c vs H1 d r1 q1=>?_) (aw T) (by rw[aw n];rfl)));have%[r,t,e,%[xs|u],%[ys|v]|q]:=q1;subst e;have%[u1,u2,rfl,e1|e2]:=jB r1;cases e1;cases e2;have%[G,ab,f|ae]:=d.list u;have%[its2,ag,g|ai]:=d.list v;refine call_zip_2 f.isList g.isList λh1 J w y z A _ hk=>wpAny_pyIter_zip J ?_
 have ne:∀i j,i≠j->⇑c+i≠⇑c+j:=λi j h e=>h (Nat.add_left_cancel e)
 have m:∀i,r≠⇑c+i:=λi=>Zr (Zf (by have%[o,B|_]:=f.isList;exact Zt B) (le_add_right _ _))
 have nb:∀i,t≠⇑c+i:=λi=>Zr (Zf (by have%[o,B|_]:=g.isList;exact Zt B) (le_add_right _ _))
 refine%[⇑c+4,[⇑c+4,⇑c+2,⇑c+3,⇑c+0,⇑c+1],_,y9 X.K r t,H1,rfl,(d.kept hk),
  za _ _ _ _ _ r t %[ne 2 4 (by decide),ne 3 4 (by decide),ne 0 4 (by decide),ne 1 4 (by decide),ne 2 3 (by decide),ne 2 0 (by decide),ne 2 1 (by decide),ne 3 0 (by decide),ne 3 1 (by decide),ne 0 1 (by decide),m 4,m 3,m 0,m 1,nb 4,nb 3,nb 0|nb 1],
  %[J,w,%[_,_|y],z|A],λb L=>?_|q]
 have l:⇑c<=b:=by
  simp only[Yp,Yx,or_false]at L;rcases L with rfl|rfl|rfl|rfl|rfl<;> exact le_add_right _ _
 exact d.fpOk l (d.hok.fresh l)
end
open PySem PySem.Spec PySem.Calls PyProof.Rows PyProof.V PySem.W
def Raw(h:Heap)(d:Addr)(a:Array DictEntry)(b:Nat):Prop:=∃o,h.get? d=some o/\o.ExactDict/\o.data= .dict a b
section
#where
variable{d it:Addr}{es:Array DictEntry}{ep i:Nat}
theorem Raw.ty(h:Raw s.heap d es ep):s.TypeIs (.ref d) "dict":=%[h.choose,h.choose_spec.1|h.choose_spec.2.1.1]
theorem Raw.lt(r:Raw h d es ep):d<h.objs.size:=Zt r.choose_spec.1
theorem Raw.up(r:Raw h d es ep)(e:∀o,h.get? d=some o->h'.get? d=some o):Raw h' d es ep:=%[r.choose,e _ r.choose_spec.1|r.choose_spec.2]
theorem BB(lo:(d==sysModules)=false)(r:Raw s.heap d es ep)
 (h:Q (.ref ⇑s) {s with heap:=s.heap.push {cls:= .type "dict_keyiterator",data:= .fields #[.ref d,.int 0 0,.int es.size 0,.int ep 0]}}):↥A (pyIter (.ref d)) Q E s:=by
 have ty:=r.ty;have%[o,g,_|a]:=r;refine wpAny_pyIter_slot ty F.slot_dict_iter (wpAny_call_entry F.slot_dict_iter ty F.entry_dict_iter (Z2 (Z2 (wpAny_notOrdered_dict ty (Z3 ?_)))) (F.args_dict_iter_1 _));show wpAny _ _ (Builtin.Dict.showsAll d>>= _) _ _ s;unfold Builtin.Dict.showsAll;rw[if_neg (lo▸Zs)];refine Z2 (Z3 (Z2 (wpAny_dictEntries g a (Z2 (wpAny_dictEpoch g a (Z2 (wpAny_newObj_type (Z3 %[_,rfl,"dict_keyiterator",_,%[_,Zi _ rfl|rfl],F.slot_dict_keyiterator_next.lookup|?_]))))))));simpa [rawInt]using h
theorem BC(k:s.heap.IsKeyIter it d i es.size ep)(r:Raw s.heap d es ep)(hi:i<es.size)
 (h:∀h',h'.IsKeyIter it d (i+1) es.size ep->SameBut it s.heap h'->Q (some es[i].key) (s>>>h')):↥A (pyNext (.ref it)) Q E s:=by
 have%[o,b,g|a]:=id k;have%[od,c,_|e]:=r;unfold pyNext;refine Z2 (wpAny_attempt (wpAny_callSpecial?_slot (name:=Str.ofString "__next__") k.typeIs F.slot_dict_keyiterator_next (wpAny_call_entry F.slot_dict_keyiterator_next k.typeIs F.entry_dict_keyiterator_next ?_ (F.args_dict_keyiterator_next_1 _))));refine Z2 (Z3 (Z2 (Z2 (Z2 (wpAny_typeNameOfWhole_keyiter k.typeIs (Z3 (Z2 (wpAny_fieldsOf b a ?_))))))));simp only[show Builtin.Dict_items.ownsTuple "dict_keyiterator"=false by decide,Zx,if_false];show wpAny _ _ (if(Value.ref d==Value.none)=true then _ else _) _ _ s;rw[if_neg (by exact Zs)];refine Z2 (Z3 (Z2 (wpAny_dictEntries c e ?_)));rw[if_neg ∅];refine Z2 (Z3 (Z2 (wpAny_dictEpoch c e ?_)));rw[if_neg ∅];refine Z3 ?_;simp only[if_false,Int.toNat_natCast,Array.getElem?_eq_getElem hi];refine Z2 (Z2 (wpAny_typeNameOfWhole_keyiter k.typeIs (Z3 (Z2 (wpAny_isOneOf_keyiter k.typeIs ?_)))));show wpAny _ _ (setField (.ref it) 1 (rawInt ((i:Int) +1))>>= _) _ _ s;refine Z2 (wpAny_setField b a ∅ ?_);have f:(s.heap.update it (Obj.mapFields (·.setIfInBounds 1 (rawInt ((i:Int) +1))))).IsKeyIter it d (i+1) es.size ep:=
  %[_,get?_update_self _ b (Obj.isFreed_of_fields (Obj.data_mapFields a _)),(Obj.cls_mapFields ..).trans g|by rw[Obj.data_mapFields a];simp[rawInt]]
 exact Z2 (wpAny_holding (Z2 (wpAny_isOneOf_keyiter f.typeIs (Z3 (Z3 %[_,rfl|Z3 (h _ f (SameBut.update ..))])))))
theorem DE(j:A.handled=none)(k:s.heap.IsKeyIter it d i es.size ep)(r:Raw s.heap d es ep)(hi:es.size<=i)
 (h:∀h',ExtBut it s.heap h'->Q none (s>>>h')):↥A (pyNext (.ref it)) Q E s:=by
 have%[o,c,l|e]:=id k;have%[od,f,_|g]:=r;unfold pyNext;refine Z2 (wpAny_attempt (wpAny_callSpecial?_slot (name:=Str.ofString "__next__") k.typeIs F.slot_dict_keyiterator_next (wpAny_call_entry F.slot_dict_keyiterator_next k.typeIs F.entry_dict_keyiterator_next ?_ (F.args_dict_keyiterator_next_1 _))));refine Z2 (Z3 (Z2 (Z2 ?_)));refine Z2 (wpAny_typeNameOfWhole_keyiter k.typeIs (Z3 (Z2 (wpAny_fieldsOf c e ?_))));simp only[show Builtin.Dict_items.ownsTuple "dict_keyiterator"=false by decide,Zx,if_false];show wpAny _ _ (if(Value.ref d==Value.none)=true then _ else _) _ _ s;rw[if_neg (by exact Zs)];refine Z2 (Z3 (Z2 (wpAny_dictEntries f g ?_)));rw[if_neg ∅];refine Z2 (Z3 (Z2 (wpAny_dictEpoch f g ?_)));rw[if_neg ∅];refine Z3 ?_;simp only[show ¬ ((i:Int)<0)from by lia,if_false,Int.toNat_natCast,Array.getElem?_eq_none hi];refine Z2 (Z2 (wpAny_typeNameOfWhole_keyiter k.typeIs (Z3 ?_)));show wpAny _ _ (setField (.ref it) 0 .none>>= _) _ _ s;refine Z2 (wpAny_setField c e ∅ (Z2 ?_));simp only[newExc,newTuple];refine Z2 (m:=firstArgMember _ _) (wpAny_of_eq (a:=Value.none) (by first|rfl|(simp only[firstArgMember];rfl)) (wpAny_newObj_type ?_ (by size_fits)));simp only[raiseNew];refine Z2 (wpAny_handled ?_);rw[show A.in1.handled=none from j];refine Z2 (Z3 (wpAny_throw ?_));refine Z2 (wpAny_isInstance (T:="StopIteration") (b:=true) %[_,Zi _ rfl|rfl] isSubtype_stop ?_);exact Z3 (h _ (((SameBut.update ..).extBut.push _).push _))
theorem DF(lo:(d==sysModules)=false):KdlSrc prog w "dict" d d es.size (λi v=>∃h:i<es.size,v=es[i].key) (λh=>Raw h d es ep) where
 type:=λ_ r=>r.ty
 there:=λ_ r=>%[r.lt|r.lt]
 keep:=λ_ _ r hk=>r.up λo e=>hk d (.inl rfl) o e
 notList:=by decide
 notTuple:=by decide
 hint:=λ_ _ _ _ r hq=>kdl_hint_dict r.ty hq
 iter:=λA s hh r=>%[_,λi h=>h.IsKeyIter ⇑s d i es.size ep/\Raw h d es ep,(λ_ _ hq=>BB lo r hq),{
  sub:=λb hb=>by simp_all
  frame:=λ_ _ _ st hk=>%[st.1.at λo e=>hk _ ∅ o e|st.2.up λo e=>hk d ∅ o e]
  item:=λi s' Q E hi st hQ=>BC st.1 st.2 hi λh' k' hs'=>hQ _ h' s'.toks %[hi|rfl] %[k'|st.2.up λo e=>hs'.extBut d o (Zr r.lt) e] λb o hb e=>hs'.extBut b o (λh=>hb (by simp[h])) e
  done:=λs' Q E st hQ=>DE hh st.1 st.2 (Zh _) λh' he'=>hQ h' s'.toks λb o hb e=>he' b o (λh=>hb (by simp[h])) e
  self:=λ_ _ _ _ st hQ=>wpAny_pyIter_keyiter st.1 hQ},%[_,Zi _ rfl,rfl|rfl]|r.up λo e=>Z6 _ e]
theorem uh{P:Nat->Value->Prop}{R:ZG->Shared->Prop}(K:KdlSrc prog w T r d n P j)(l:A.handled=none)(ok:j s.heap)(m:n<=sizeLine)
 (h:∀(h':Heap) (tk:Nat) (acc:ZJ),(∀b o,s.heap.get? b=some o->h'.get? b=some o)->⇑s<=h'.objs.size->ItemsOf P acc n->R acc.toList {s with heap:=h',toks:=tk}):↥A (collect (.ref r)) R E s:=by
 have lt:=K.there _ ok;refine Z2 (wpAny_runValue (codeAny_builtin entry_proto_collect' (Z2 (wpAny_newObj_type (Z3 %[plainId_quiet F.plain_list_iadd _|codeAny_builtin entry_list_iadd' ?_])))));rw[Around.under_plainId F.plain_list_iadd _];have a:=kdl_extend (s:=(s>>>s.heap.push _))
  (R:=λq s'=>∃h' tk acc c,q= .ok (.ret (.ref ⇑s))/\s'={s with heap:=h',toks:=tk}/\(∀b o,s.heap.get? b=some o->h'.get? b=some o)/\h'.get? ⇑s=some {cls:= .type _,dict:=none,data:= .seq acc c,slots:= #[]}/\ItemsOf P acc n)
  K l (K.keep _ _ ok λb _ o e=>Z6 _ e) ⇑s (Ys lt.1) (Ys lt.2) _ 0 (Zi _ rfl)
  (λh' tk acc c g g' it=>%[h',tk,acc,c,rfl,rfl,λb o e=>g b o (Zr (Zt e)) (Z6 _ e),g'|it]) m
 refine wpAny_mono a (λfin s' x=>?_) λe s' x=>?_
 .cases fin with
  | done f=>
    have%[h',tk,acc,c,e,rfl,g,g'|it]:=x;cases e;exact Z2 (wpAny_load g' (Z3 (h h' tk acc g (Y8 (Zt g')) it)))
  | again p=>
    refine%[x.1|codeAny_mono x.2 λq t y=>?_];have%[h',tk,acc,c,rfl,rfl,g,g'|it]:=y;exact Z2 (wpAny_load g' (Z3 (h h' tk acc g (Y8 (Zt g')) it)))
 simp_all
theorem uk{R:ZG->Shared->Prop}(lo:(d==sysModules)=false)(f:A.handled=none)(r:Raw s.heap d es ep)(g:es.size<=sizeLine)
 (h:∀(h':Heap) (tk:Nat),(∀b o,s.heap.get? b=some o->h'.get? b=some o)->⇑s<=h'.objs.size->R (es.toList.map (·.key)) {s with heap:=h',toks:=tk}):↥A (collect (.ref d)) R E s:=by
 refine uh (DF lo) f r g λh' tk acc l c a=>?_
 have e:acc.toList=es.toList.map (·.key):=by
  apply ext_getElem?;intro j;rw[Zk,getElem?_toList,getElem?_toList];by_cases m:j<es.size
  .have n:j<acc.size:=a.1▸m;have%[_|q]:=a.2 j acc[j] ∅
   simp_all
  .rw[Array.getElem?_eq_none (by rw[a.1];lia),Array.getElem?_eq_none ⋯];rfl
 rw[e];exact h h' tk l c
end
section
#where
variable{S:Addr}
end
section
variable{X:Cx}{K:ZA}
end
section
variable{X:Cx}
theorem gT(c:bF k X.A)(d:swapsWith a (some (.Subscript o i b)) pos.line X.env=pure false)(e:QE X a f)(g:QE X o h)(hi:QE X i ty):QS X (.Assign [.Subscript o i b] a pos) (m8 h ty f):=
 ⟨C7 (by have:=c.units;lia) g.h hi.h e.h d⟩
theorem zb [DecidableEq c](a:List (c×V))(k:c)(v:V):(cQ a k v).map (·.1)=if k∈a.map (·.1)then a.map (·.1)else a.map (·.1) ++[k]:=by
 unfold cQ;have e:(a.any λb=>decide (b.1=k))=true↔k∈a.map (·.1):=by
  grind
 by_cases h:k∈a.map (·.1)
 .rw[if_pos (e.mpr h),if_pos h,Yl];refine Yj λb _=>?_
  show(if b.1=k then(b.1,v)else b).1=b.1
  split<;> rfl
 .rw[if_neg (λz=>h (e.mp z)),if_neg h,Zc];rfl
end
structure um (K:ZA) (mg:ZC) (x:Str):Prop where
 at_:mg x=some (.ref (aH mg x))
 cls:Cls K (aH mg x)
structure uo (K:ZA) (mg:ZC) (x m qual:Str) (st:Stmt) (ps:ZB):Prop where
 ex:∃f fd,CT K (aH mg x) m f/\Fun K m qual st f fd/\dm K fd ps []
structure BD (K:ZA) (mg:ZC) (x qual:Str) (st:Stmt) (ps:ZB):Prop where
 ex:∃f fd,Mk K (aH mg x) f/\Fun K "__init__" qual st f fd/\dm K fd ps []
structure zd (P:Program) (w:World) (K:ZA) (mg:ZC) (base:Heap) (k:Nat) (x m:Str) (ps:ZB) (sp:Sp):Prop where
 ex:∃f fd,dj P w K mg base CX0 k f fd ps sp/\CT K (aH mg x) m f/\dm K fd ps []
structure DG (P:Program) (w:World) (K:ZA) (mg:ZC) (base:Heap) (k:Nat) (x:Str) (ps:ZB) (sp:Sp):Prop where
 ex:∃f fd,dj P w K mg base CX0 k f fd ps sp/\Mk K (aH mg x) f/\dm K fd ps []
section
variable{P:Program}{w:World}{K:ZA}{mg:ZC}{base:Heap}{x m qual:Str}{st:Stmt}{N ps:ZB}{k:Nat}{sp:Sp}
theorem uo.cal(D:uo K mg x m qual st ps)(S:au N ps (ah st))
 (a:∀(H:Hp) (vs:List V) (Q:VK) (E:XK),sp vs H Q E->vs.length=ps.length/\∀(f:Addr) (b:Value) (A:Around) (outer:List Env) (s:Shared),bF k (A.deeper (envOfC qual (ah st) ⇑s f b))->
  ∃t,PSs (e9 CX0 P w K mg base N qual (ah st) f b A outer s H E).nox (bi st) t/\t {nx:=λ_ c=>Q .non c,rt:=Q} (start N vs) H):zd P w K mg base (k+1) x m ps sp:=by
 have%[f,d,e,F|g]:=D.ex;exact%[f,d,F.ok S (λv H Q E h=>(a H v Q E h).1) (λb A o s H v Q E r h=>(a H v Q E h).2 f b A o s r),e|g]
theorem BD.cal(D:BD K mg x qual st ps)(S:au N ps (ah st))
 (a:∀(H:Hp) (vs:List V) (Q:VK) (E:XK),sp vs H Q E->vs.length=ps.length/\∀(f:Addr) (b:Value) (A:Around) (outer:List Env) (s:Shared),bF k (A.deeper (envOfC qual (ah st) ⇑s f b))->
  ∃t,PSs (e9 CX0 P w K mg base N qual (ah st) f b A outer s H E).nox (bi st) t/\t {nx:=λ_ c=>Q .non c,rt:=Q} (start N vs) H):DG P w K mg base (k+1) x ps sp:=by
 have%[f,d,e,F|g]:=D.ex;exact%[f,d,F.ok S (λv H Q E h=>(a H v Q E h).1) (λb A o s H v Q E r h=>(a H v Q E h).2 f b A o s r),e|g]
end
section
variable{X:Cx}{K:ZA}{j k:Nat}{x m:Str}{ps:ZB}{sp:Sp}{p pos apos:Pos}{o e:Expr}{es:List Expr}{to te:TE}{t:TA}
theorem Gd(C:zd X.prog X.w X.K X.mg X.base j x m ps sp)(c:um X.K X.mg x)(d:bF k X.A)(a:Nat.ble j k=true)
 (g:eval (.Call (.Attribute o m apos) [] [] pos) X.env=(do
  let b<-eval o X.env
  standAt apos.atName
  let(f,first)<-holding [b] (getMethod b m pl)
  callWith pos f first (backTo pos (starEach [] X.env)) (backToKw pos (keywordEach [] X.env)))) (h:QE X o to):QE X (.Call (.Attribute o m apos) [] [] pos) (wZ (aH X.mg x) m sp [] E0 to yw):=by
 have%[f,n,F,i|l]:=C.ex;exact⟨AB h.h c.cls i F (d.mono (Y7 a)) l .nil AQ g⟩
theorem Hy(C:DG X.prog X.w X.K X.mg X.base j x ps sp)(c:um X.K X.mg x)(g:bF k X.A)(h:Gl X x)(a:Nat.ble (j+1) k=true)(b:(x==("__debug__"))=false)(d:(e::es).any aW=false)(i:QA X (e::es) t):
 QE X (.Call (.Name x p) (e::es) [] pos) (w4 (aH X.mg x) sp [] E0 t):=by
 have%[f,q,F,l|n]:=C.ex;rw[Zv,Yy]at d;exact⟨CV l F (g.mono (Y7 a)) h c.at_ n .nil AQ i.h b (aw d.1) (du d.2)⟩
theorem Ge(h:X.K=K)(a:fT o=false)(b:QE X o to):QE X (.Attribute o f pos) (Fe K to f):=by
 subst h;exact⟨Fg b.h (d9 a)⟩
theorem DH(h:X.K=K)(c:fS a=false)(d:QE X o to)(g:QE X a i):QS X (.Assign [.Attribute o f b] a pos) (Ff K to i f):=by
 subst h;exact⟨Fh d.h g.h (iS c)⟩
end
structure GvT (K:ZA) (mg:ZC) (x:Str) (xs:List V):Prop where
 ex:∃a,mg x=some (.ref a)/\∀H,SqT K H a xs
theorem BE{K:ZA}{h:Heap}{o:Obj}{its:ZJ}{n:Nat}(X:K.In h)(G:h.Ns mainGlobals mg)(z:nsIn K mainGlobals x=some (some (.ref a)))
 (b:K.lookup a=some o) (c:o.cls= .type "tuple") (d:o.data= .seq its n) (e:its.size<=sizeLine) (r:aE xs its.toList):GvT K mg x xs:=
 %[a,mg_of X G z|λ_=> .inr %[o,its,n,b,c,d,e|r]]
theorem Hz{X:Cx}{K:ZA}{x:Str}(h:X.K=K)(g:GvT K X.mg x xs)(b:Gl X x)(c:(x==("__debug__":Str))=false):QE X (.Name x pos) (λ_ H Q=>∀a,(∀d,SqT K d a xs)->Q (.ref a) H):=by
 have%[a,e|f]:=g.ex;refine⟨λpins s i H Q I q=>Eo (v:= .ref a) %[.ref a,e|rfl] b c pins s i H Q I (q a f)⟩
theorem tryN{X:Cx}(c:∀e s,X.xe e s->False)(d:QSs X a g):QS X (.Try a [h] [] [] pos) g:=by
 refine⟨λpins s i H D I q=>wpAny_Try_except (wpAny_mono (d.h pins s i H D I q) (λf b q=>?_) λe b q=>(c e b q).elim)⟩;cases f with
 | next=>exact wpAny_execs_nil q
 | brk=>exact q
 | cont=>exact q
 | ret u=>exact q
section
variable{X:Cx}{K:ZA}
end
theorem nW(x y:Str):dF [x] [y]=bd x y:=by
 show(if x=y then false else bd x y)=bd x y
 split
 .rename_i e;rw[e,fW]
 .rfl
section
#where
variable{S:Addr}
theorem mh(h:∀(O:ZD) (R:ZG->Shared->Prop),(∀c,(∀b o,s.heap.get? b=some o->c.heap.get? b=some o)->c.gens=s.gens->c.os=s.os->R us c)->↥A.in1 (collect (.ref S)) R O s)(e:StrsAre us ks)(T:us.length<64)
 (U:∀(c s':Shared) (l:Addr) (vs:ZG) (ss:ZB) (n:Nat),StrsAre vs ss->ss.Perm ks->ss.Pairwise (λa b=>bd b a=false)->(∀b o,s.heap.get? b=some o->c.heap.get? b=some o)->c.gens=s.gens->c.os=s.os->(∀b o,c.heap.get? b=some o->s'.heap.get? b=some o)->s'.gens=c.gens->s'.os=c.os->⇑c<=l->s'.heap.get? l=some {cls:= .type "list",data:= .seq vs.toArray n}->Q (.ref l) s'):
 ↥A (call (.builtin "sorted") [.ref S]) Q E s:=by
 refine Calls.call_function_entry kind_sorted plain_sorted entry_sorted (args_sorted1 _) ?_;unfold Builtin.«sorted»;refine Z2 (m:=checkCount "sorted" 1 1 _) (Z3 ?_);refine Z2 (h _ _ λc Y g1 o1=>?_);refine Z2 (wpAny_newList ?_ (by rw[sizeLine_eq];lia));have C:(c.heap.push (seqObj "list" us.toArray 0)).get? ⇑c=some (seqObj "list" us.toArray 0):=Zi _ rfl;have f:∀v∈us,∃x t,v=Value.str x t/\[x]∈ks.map λz=>[z]:=λv g=>by
  have%[x,t|rfl]:=e.all v g;refine%[x,t,rfl|Xc %[x,?_|rfl]];rw[<-e.strs];exact Xc %[_,g|rfl]
 refine Z2 (wpAny_holding (wpAny_call_entry slot_list_sort %[_,C|rfl] entry_list_sort (jE (s:=(c>>>c.heap.push (seqObj "list" us.toArray 0))) (kd:=oneType') (Nv:=λv=>gQ (ks.map λz=>[z]) [strOf v]) C ⋯ (λG k6 H Q6 I=>?_) (λG k6=>?_) λd q p2=>%[_,rfl|?_]) (args_list_sort _)))
 .obtain⟨v1,B,r,rfl⟩:∃v1 B r,us=v1::B::r:=by
   match us,H with
   | v1::B::r,_=>exact%[v1,B,r|rfl]
  rw[keyKind_strs e];exact Z3 I
 .intro x y s' hx hy J;subst J;have%[x1|x2]:=x;have%[y1|y2]:=y;have%[a,t,rfl|L]:=f _ hx;have%[b,u,rfl|M]:=f _ hy;show ↥A.in1.in1 (keyLt' oneType' (.str a t) (.str b u)) (λr s'=>r=decide (gQ (ks.map λz=>[z]) [a]<gQ (ks.map λz=>[z]) [b])/\s'=(c>>>G)) (λ_ _=>False) (c>>>G);rw[keyLt'_oneType];refine oneLt_str %[?_|rfl];rw[<-km L,nW];rfl
 .have i:∀v∈d,∃x t,v=Value.str x t:=λv g=>e.all v (q.mem_iff.mp g)
  obtain⟨n,gl⟩:∃n,(sortedHeap (c.heap.push (seqObj "list" us.toArray 0)) ⇑c us d.toArray).get? ⇑c=some (seqObj "list" d.toArray n):=sortedHeap_at C;refine Z3 %[_,rfl|U c _ ⇑c d (d.map strOf) n (strsAre_map d i) ?_ ?_ Y g1 o1 (λb o' N=>?_) rfl rfl (Zh _) gl]
  .exact e.strs▸q.map _
  .rw[Yz];refine X4 (λ{u v} hu g j=>?_) p2;have%[a,t,rfl|L]:=f _ (q.mem_iff.mp hu);have%[b,t',rfl|M]:=f _ (q.mem_iff.mp g);show bd b a=false;rw[<-nW,km M];have j:gQ (ks.map λz=>[z]) [a]<=gQ (ks.map λz=>[z]) [b]:=j;exact Zg ⋯
  .have p:=Zt N;show(sortedHeap _ _ _ _).get? b=_;rw[sortedHeap_old (Zr p) (by rw[Zp];exact Yh p)];exact Z6 _ N
end
theorem ko:∀{ks:ZB} {us:ZG},aE (ks.map V.str) us->StrsAre us ks
 |[],_,.nil=> .nil
 | _::_,_,.cons r t=>by
   have%[t'|rfl]:=r;exact .cons _ _ (ko t)
theorem ig:∀{ks:ZB} {us:ZG},StrsAre us ks->aE (ks.map V.str) us
 | _,_,.nil=> .nil
 | _,_,.cons _ t h=> .cons %[t|rfl] (ig h)
section
variable{X:Cx}{K:ZA}
theorem ze(h:X.K=K):cB X (.builtin "sorted") (λxs H Q=>∃a ks,xs=[.ref a]/\SqL K H a (ks.map V.str)/\ks.length<64/\∀l (ss:ZB),H l=none->ss.Perm ks->ss.Pairwise (λa b=>bd b a=false)->Q (.ref l) (upd H l (.lst (ss.map V.str)))):=by
 subst h;refine⟨λpins s E H xs us Q I r h=>?_⟩;have%[a,ks,rfl,j,m|q]:=h;have%[u,rfl|p]:=di r;cases p;have%[its,f,%[o,n,t,v,G|d]|J]:=I.list j;have L:its.length=ks.length:=by rw[<-f.length,Z5]
 refine mh (λM R w=>wpAny_collect_seq a (.inl rfl) t v d (λh' k=>?_) (by simp_all)) (ko f) ⋯ λN s' l vs ss n y i z A g1 B k g o c C=>?_
 .exact w _ k rfl rfl
 .have e:=I.keptS A g1 B;refine%[.ref l,_,e.stoodS (o:= .lst _) (e.keptS k g o) c %[?_,vs,n,ig y|C],rfl|q l ss (e.hok.fresh c) i z];rw[Z5,i.length_eq,sizeLine_eq]
  lia
theorem nX{P:Program}:∀{a:List DictEntry} {vs:List (Key×Value)} {ks:ZB},Pairs (aN P w) a vs->vs.map (·.1)=ks.map Sum.inr->StrsAre (a.map (·.key)) ks
 | _,_,[],h,e=>by
   cases h with
   | nil=>exact .nil
   | cons _ _ _=>cases e
 | _,_,k::ks,h,e=>by
   cases h with
   | nil=>cases e
   | @cons m n b c d o f=>
     rw[Yk,Yk]at e;injection e with g j
     rcases aY (d)with⟨i,t,q,_⟩|⟨x,t,q,l⟩
     .simp_all
     .rw[g]at q;cases q;rw[Yk,l];exact .cons _ _ (nX f j)
theorem zf(m:X.calm=true):cB X (.builtin "sorted") (λxs H Q=>∃(a:Addr) (c:List (Key×V)) (ks:ZB),xs=[.ref a]/\H a=some (.dK c)/\c.map (·.1)=ks.map Sum.inr/\ks.length<64/\
 ∀l (ss:ZB),H l=none->ss.Perm ks->ss.Pairwise (λa b=>bd b a=false)->Q (.ref l) (upd H l (.lst (ss.map V.str)))):=by
 refine⟨λpins s N H xs us Q I r h=>?_⟩;have%[a,c,ks,rfl,p,e,t|q]:=h;have%[u,rfl|v]:=di r;cases v;have%[_,lo,vs,w,o,y,O,g,ex,z,_,A|_]:=j8 I.hok p;have i:=nX A (e▸w.keys.symm);have T:y.size=ks.length:=by
  have:=bE i
  grind
 refine mh (λU R B=>uk lo (I.ok.hd m) %[o,g,ex|z] (by rw[sizeLine_eq];lia) λh' tk k C=>B _ k rfl rfl) i (by simp_all) λY s' l vs ss n E j G J g1 L k g o d M=>?_
 have f:=I.keptS J g1 L;refine%[.ref l,_,f.stoodS (o:= .lst _) (f.keptS k g o) d %[?_,vs,n,ig E|M],rfl|q l ss (f.hok.fresh d) j G];rw[Z5,j.length_eq,sizeLine_eq]
 lia
theorem zg(h:X.K=K):cB X (.builtin "sorted") (λxs H Q=>∃a ps m,xs=[.ref a]/\SqL K H a (ps.map λp=>V.ref p.1)/\aP H ps/\(∀p∈ps,p.2.length=m)/\m≠0/\ps.length<64/\
 ∀l (ss:List _),H l=none->ss.Perm ps->ss.Pairwise (λa b=>dF b.2 a.2=false)->Q (.ref l) (upd H l (.lst (ss.map λp=>V.ref p.1)))):=by
 subst h;refine⟨λpins s M H xs us Q I r h=>?_⟩;have%[a,ps,m,rfl,j,t,v,w,d|q]:=h;have%[u,rfl|y]:=di r;cases y;have%[its,z,%[o,n,A,B,N|e]|O]:=I.list j;have:=sd z;subst this;refine nU (λT R C=>wpAny_collect_seq a (.inl rfl) A B e (λh' k=>?_) (by simp_all)) (r9 I t) v w d λU s' l ss n i E G g1 J k g o c L=>?_
 .exact C _ _ (List.Perm.refl _) k rfl rfl
 .have f:=I.keptS G g1 J;refine%[.ref l,_,f.stoodS (o:= .lst _) (f.keptS k g o) c %[?_,ss.map _,n,sf ss|L],rfl|q l ss (f.hok.fresh c) i E];rw[Z5,i.length_eq,sizeLine_eq]
  lia
theorem Gf(a:bF k X.A)(b:behindInMarks .In o=false)(hi:QE X i ty)(c:QE X o d):QT X (.Compare i [.In] [o] pos) (tB (FF ty d)):=
 ⟨z5 (FG (by have:=a.units;lia) hi.h c.h) b⟩
end
theorem db{X:Cx}{K:ZA}(h:X.K=K)(c:mM b)(d:QE X a e)(f:QE X b g):QE X (.Subscript a b pos) (tOp (Ft K) e g):=by subst h;exact⟨AH Fv d.h f.h c⟩
theorem wq(h:(env.blockKind== .function&&env.kindOf x==some .local&&b.line==pos.line&&!(a.names.any λ(n,k)=>n==x&&(k== .local||k== .cell)))=false):
 swapsWith (.ListComp c gens a pos) (some (.Name x b)) l env=pure false:=by
 show(pure (env.blockKind== .function&&env.kindOf x==some _&&b.line==pos.line&&!(a.names.any _)))=pure false;rw[h]
theorem BF{X:Cx}(i:Nat)(e:X.N.Nodup)(hi:X.N[i]? =some x)(f:Loc X.env.scope x)(g:X.fn x=true\/X.env.scope.names.lookup x=some .local)
 (b:(X.env.blockKind== .function&&X.env.kindOf x==some .local&&h.line==pos.line&&!(a.names.any λ(n,k)=>n==x&&(k== .local||k== .cell)))=false) (j:QE X (.ListComp c gens a pos) l):
 QS X (.Assign [.Name x h] (.ListComp c gens a pos) d) (pf l (jA i)):=⟨Af e hi f j.h (wq b) g⟩
section
#where
end
section
variable(h:Heap)(l1 l2:Addr)
end
section
#where
end
section
variable{X:Cx}{K:ZA}{pos:Pos}
end
section
variable{X:Cx}{pos:Pos}
theorem i4(b:PassesOwn (model X.prog X.w) X.A X.env X.xe)(d:QT X c e)(f:QSs X a g):QS X (.While c a [] pos) (Ag e g):=⟨Ah b d.h f.h⟩
theorem dv(a:bF k X.A)(b:FE i)(c:QE X o d)(hi:QE X i ty):QE X (.Subscript o i pos) (AM d ty):=⟨C6 (by have:=a.units;lia) c.h hi.h b⟩
end
section
#where
theorem DJ{P:Nat->Value->Prop}(val:Nat->Str)(a:∀i v,P i v->∃t,v= .str (val i) t):CmpOf prog w A .Gt P (λi j=>decide ((val j).cps.toList<(val i).cps.toList)):=λi j b c s Q E hi d h=>by
 have%[t|rfl]:=a i b hi;have%[u|rfl]:=a j c d;exact richCompare_gives (typeIs_str s _ t) (typeIs_str s _ u) PySem.F.slot_str_gt PySem.F.entry_str_gt (PySem.F.args_str_gt_2 _ _) (gives_str_gt _ _ t u) (λx=>nomatch x) h
theorem xB{P:Nat->Value->Prop}(val:Nat->Str)(a:∀i v,P i v->∃t,v= .str (val i) t):CmpOf prog w A .Lt P (λi j=>decide ((val i).cps.toList<(val j).cps.toList)):=λi j b c s Q E hi d h=>by
 have%[t|rfl]:=a i b hi;have%[u|rfl]:=a j c d;exact richCompare_gives (typeIs_str s _ t) (typeIs_str s _ u) PySem.F.slot_str_lt PySem.F.entry_str_lt (PySem.F.args_str_lt_2 _ _) (gives_str_lt _ _ t u) (λx=>nomatch x) h
theorem BG{i:Nat}{v:Value}(h:(#[Value.str x t,Value.str y u]:ZJ)[i]? =some v):∃t,v= .str (if i=0 then x else y) t:=by
 match i,h with
 | 0,h=>exact%[t|by simpa using h.symm]
 | 1,h=>exact%[u|by simpa using h.symm]
 | i+2,h=>simp at h
theorem uq(a:Nat->Nat->Bool):argBest a 1=if a 1 0=true then 1 else 0:=by simp[argBest]
theorem sj{x y:Str}(l:A.handled=none)
 (h:∀h' tk,(∀c o,s.heap.get? c=some o->h'.get? c=some o)->Q (if x.cps.toList<y.cps.toList then .str y u else .str x t) {s with heap:=h',toks:=tk}):
 ↥A (call (.builtin "max") [.str x t,.str y u]) Q E s:=by
 have j:(s.heap.push {cls:= .type _,data:= .seq #[.str x t,.str y u]}).IsTuple ⇑s _:=%[_,Zi _ rfl,rfl,0|rfl]
 refine call_max_two (wpAny_pyIter_tuple j ?_);have b:(s.heap.push {cls:= .type "tuple",data:= .seq #[.str x t,.str y u]}).objs.size=⇑s+1:=Zp ..;refine%[_,[_,⇑s],[_],_,_,_,_,rfl,Walks.tuple (A:=A.in1) l _ ⇑s (b▸Zr (Yi _)) _,
  %[%[_,Zi _ rfl,rfl|rfl]|j.push _],λc d=>?_,by simp,DJ _ (λ_ _=>BG)|λv h' tk m n=>?_]
 .rw[Zp,b];rcases mem_cons.mp d with rfl|d
  .simp
  .rcases mem_cons.mp d with rfl|d
   .exact Yh (Yi _)
   .cases d
 .have f:=λc o e=>by
   refine n c o (λi=>?_) (Z6 _ (Z6 _ e));rcases mem_cons.mp i with p|i
   .have:=Zt e;rw[p,b]at this;exact X6 _ (Nat.lt_of_succ_lt this)
   .cases i
  have q:=h h' tk f;have a:(#[Value.str x t,Value.str y u])[argBest _ 1]? =some v:=m;rw[uq]at a;by_cases g:x.cps.toList<y.cps.toList
  .rw[if_pos (by simp[g])]at a;rw[if_pos g]at q;exact(show Value.str y u=v by simpa using a)▸q
  .rw[if_neg (by simp[g])]at a;rw[if_neg g]at q;exact(show Value.str x t=v by simpa using a)▸q
theorem sk{x y:Str}(l:A.handled=none)
 (h:∀h' tk,(∀c o,s.heap.get? c=some o->h'.get? c=some o)->Q (if y.cps.toList<x.cps.toList then .str y u else .str x t) {s with heap:=h',toks:=tk}):
 ↥A (call (.builtin "min") [.str x t,.str y u]) Q E s:=by
 have j:(s.heap.push {cls:= .type _,data:= .seq #[.str x t,.str y u]}).IsTuple ⇑s _:=%[_,Zi _ rfl,rfl,0|rfl]
 refine call_min_two (wpAny_pyIter_tuple j ?_);have b:(s.heap.push {cls:= .type "tuple",data:= .seq #[.str x t,.str y u]}).objs.size=⇑s+1:=Zp ..;refine%[_,[_,⇑s],[_],_,_,_,_,rfl,Walks.tuple (A:=A.in1) l _ ⇑s (b▸Zr (Yi _)) _,
  %[%[_,Zi _ rfl,rfl|rfl]|j.push _],λc d=>?_,by simp,xB _ (λ_ _=>BG)|λv h' tk m n=>?_]
 .rw[Zp,b];rcases mem_cons.mp d with rfl|d
  .simp
  .rcases mem_cons.mp d with rfl|d
   .exact Yh (Yi _)
   .cases d
 .have f:=λc o e=>by
   refine n c o (λi=>?_) (Z6 _ (Z6 _ e));rcases mem_cons.mp i with p|i
   .have:=Zt e;rw[p,b]at this;exact X6 _ (Nat.lt_of_succ_lt this)
   .cases i
  have q:=h h' tk f;have a:(#[Value.str x t,Value.str y u])[argBest _ 1]? =some v:=m;rw[uq]at a;by_cases g:y.cps.toList<x.cps.toList
  .rw[if_pos (by simp[g])]at a;rw[if_pos g]at q;exact(show Value.str y u=v by simpa using a)▸q
  .rw[if_neg (by simp[g])]at a;rw[if_neg g]at q;exact(show Value.str x t=v by simpa using a)▸q
theorem pF{l:Addr}{its:ZJ}{val:Nat->Str}{Q:ZD}(n:A.handled=none)(f:s.heap.IsList l its)(g:0<its.size)(a:∀(i:Nat) v,its[i]? =some v->∃t,v= .str (val i) t)
 (h:∀v h' tk,its[argBest (λi j=>decide ((val i).cps.toList<(val j).cps.toList)) (its.size-1)]? =some v->(∀b o,s.heap.get? b=some o->h'.get? b=some o)->Q v {s with heap:=h',toks:=tk}):
 ↥A (call (.builtin "min") [.ref l]) Q E s:=by
 have c:l<⇑s:=by have%[_,e|_]:=f;exact Zt e
 refine call_min_walk (wpAny_pyIter_list f %[_,[⇑s,l],[⇑s],_,_,_,_,rfl,Walks.list (A:=A.in1) n _ l (Zr c) its,%[%[_,Zi _ rfl,rfl|rfl]|f.push _],λb d=>?_,g,xB val a|λv h' tk p q=>?_])
 .rw[Zp];rcases mem_cons.mp d with rfl|d
  .simp
  .rcases mem_cons.mp d with rfl|d
   .exact Yh c
   .cases d
 .refine h v h' tk p λb o e=>q b o (λm=>?_) (Z6 _ e)
  rcases mem_cons.mp m with r|m
  .exact absurd (r▸Zt e) (X6 _)
  .cases m
theorem nY(val:Nat->Str):∀k,argBest (λi j=>decide ((val i).cps.toList<(val j).cps.toList)) k<=k/\∀j,j<=k->bd (val j) (val (argBest (λi j=>decide ((val i).cps.toList<(val j).cps.toList)) k))=false
 | 0=>%[Zh _|λj b=>by rw[le_zero.mp b];exact fW _]
 | k+1=>by
   have%[g|d]:=nY val k;rw[argBest];by_cases c:bd (val (k+1)) (val (argBest (λi j=>decide ((val i).cps.toList<(val j).cps.toList)) k))=true
   .have a:=c;unfold bd at a;rw[if_pos a];refine%[Zh _|λj b=>?_];by_cases e:j=k+1
    .exact e▸fW _
    .cases f:bd _ _ with
     | false=>rfl
     | true=>have:=gO f c;rw[d j ⋯]at this;cases this
   .have a:=c;unfold bd at a;rw[if_neg a];refine%[⋯|λj b=>?_];by_cases e:j=k+1
    .lia
    .exact d j ⋯
end
section
variable{X:Cx}
theorem zh(b:X.calm=true):bW X (.builtin "max") (λxs H Q=>∃x y,xs=[.str x,.str y]/\Q (.str (if bd x y=true then y else x)) H):=by
 intro pins s c H xs us Q I r h;have%[x,y,rfl|q]:=h;have%[u,d,rfl,%[t|rfl],t'|rfl]:=jB r;refine sj (I.ok.hd b) λh' tk k=>%[_,H,I.kept k,?_|q]
 by_cases a:x.cps.toList<y.cps.toList
 .rw[if_pos a,if_pos (show bd x y=true from Ze a)];exact%[_|rfl]
 .rw[if_neg a,if_neg (show ¬ bd x y=true from λe=>a (Zn e))];exact%[_|rfl]
theorem zi(b:X.calm=true):bW X (.builtin "min") (λxs H Q=>∃x y,xs=[.str x,.str y]/\Q (.str (if bd y x=true then y else x)) H):=by
 intro pins s c H xs us Q I r h;have%[x,y,rfl|q]:=h;have%[u,d,rfl,%[t|rfl],t'|rfl]:=jB r;refine sk (I.ok.hd b) λh' tk k=>%[_,H,I.kept k,?_|q]
 by_cases a:y.cps.toList<x.cps.toList
 .rw[if_pos a,if_pos (show bd y x=true from Ze a)];exact%[_|rfl]
 .rw[if_neg a,if_neg (show ¬ bd y x=true from λe=>a (Zn e))];exact%[_|rfl]
theorem zj(z:X.calm=true):bW X (.builtin "min") (λxs H Q=>∃(p:Addr) (ss:ZB),xs=[.ref p]/\SqL X.K H p (ss.map V.str)/\0<ss.length/\∀m∈ss,(∀y∈ss,bd y m=false)->Q (.str m) H):=by
 intro pins s M H xs us Q I r h;have%[p,ss,rfl,A,N|q]:=h;have%[u,rfl|f]:=di r;cases f;have%[its,g,B|O]:=I.list A;have a:=g.length;rw[Z5]at a;have C:its.toArray.size=ss.length:=by rw[Zo,a]
 have c:∀i v,its.toArray[i]? =some v->∃t,v=Value.str (ss.getD i Str.empty) t:=λi v e=>by
  have e:=by simpa using e
  have hi:i<ss.length:=a▸(X8 e).1;have%[u,l|f]:=g.get (by rw[Zk,Z4 hi];rfl);rw[e]at l;have%[t|d]:=f;exact%[t|by rw[Z9 l,d,Zb,Z4 hi];rfl]
 refine pF (I.ok.hd z) B.isList ⋯ c λv h' tk n k=>?_
 have%[E|o]:=nY _ _;have%[t|d]:=c _ _ n
 generalize argBest _ _=b at E o n d
 have w:b<ss.length:=by lia
 have G:ss.getD b Str.empty=ss[b]:=by rw[Zb,Z4 w];rfl
 refine%[.str _,H,I.kept k,%[t|d]|q _ (G▸Y6 w) λy J=>?_];have%[j,L|rfl]:=getElem_of_mem J;have:=o j ⋯;rwa[show ss.getD j Str.empty=ss[j] by rw[Zb,Z4 L];rfl]at this
theorem Gg(a:X.calm=true):cB X (.builtin "max") (λxs H Q=>∃x y,xs=[.str x,.str y]/\Q (.str (if bd x y=true then y else x)) H):=⟨zh a⟩
theorem Gh(a:X.calm=true):cB X (.builtin "min") (λxs H Q=>∃x y,xs=[.str x,.str y]/\Q (.str (if bd y x=true then y else x)) H):=⟨zi a⟩
theorem Gi{K:ZA}(h:X.K=K)(a:X.calm=true):cB X (.builtin "min") (λxs H Q=>∃(p:Addr) (ss:ZB),xs=[.ref p]/\SqL K H p (ss.map V.str)/\0<ss.length/\∀m∈ss,(∀y∈ss,bd y m=false)->Q (.str m) H):=by subst h;exact⟨zj a⟩
end
section
#where
end
section
variable{prog:Program}{w:World}{A:Around}{R:Result->Shared->Prop}{I:Addr}{fp wr:List Addr}{G:Array GenState->Array GenState->Prop}{n:Nat}{P:Nat->Value->Prop}{St:Nat->Shared->Prop}
end
section
#where
end
section
variable{X:Cx}{K:ZA}
end
theorem DK{b:Type}{a:List (b×V)}{vs:List (b×Value)}(r:KV a vs):aE (a.map (·.2)) (vs.map (·.2)):=by
 induction r with
 | nil=>exact .nil
 | cons h _ c=>exact .cons h.2 c
section
variable{X:Cx}{K:ZA}
def BH:V->List V->Hp->VK->Prop:=λx vs H Q=>asR x λa=>∃k y,vs=[kV k,y]/\∃b,H a=some (.dK b)/\b.length<sizeLine/\(∀v,bG b k=some v->Q v H)/\(bG b k=none->Q y (upd H a (.dK (cQ b k y))))
theorem DL:MtM X "dict.setdefault" BH:=by
 intro pins s G H x vs v us Q I p r h;have%[a,rfl,k,y,rfl,b,e,J,t|u]:=e7 h;cases p;have%[L,w,rfl,A|l]:=jB r;have%[z,m,vs,c|n]:=j8 I.hok e;refine call_meetsIn PySem.F.slot_dict_setdefault n.typeIs PySem.F.entry_dict_setdefault (PySem.F.args_dict_setdefault_3 _ _ _) (kt_meets_setdefault _ a (lX A) m w) %[vs,n,c.length▸z,λM hw=>?_|λN h' f B=>?_]
 .have q:=c.val k;cases d:bG b k with
  | none=>
    rw[gc.none_of (o:=valueAt vs k) (d▸q)]at hw;cases hw
  | some i=>
    have%[C,g|j]:=gc.some_of (d▸q);rw[g]at hw;exact(Z9 hw)▸%[i,H,I.tok _,j|t i d]
 .have d:bG b k=none:=by
   cases d:bG b k with
   | none=>rfl
   | some i=>
     have%[C,g|_]:=gc.some_of (d▸c.val k)
     grind
  exact%[y,_,mO I (e▸True.intro) B (let⟨q,_,_,E,_⟩:=f;%[q|E]) (vC (by have:=fR b k y;lia) m (c.put k l) f),l|u d]
theorem kq:MtQ X "dict.setdefault" BH:=⟨DL⟩
noncomputable def ur(v a:Addr):HO:= .ext λh=>h.IsValuesView v a
def BI:V->List V->Hp->VK->Prop:=λx vs H Q=>asR x λa=>vs=[]/\∃b,H a=some (.dK b)/\∀v,H v=none->Q (.ref v) (upd H v (ur v a))
theorem DM:MtM X "dict.values" BI:=by
 intro pins s w H x vs v us Q I i j h;have%[a,rfl,rfl,l,e|q]:=e7 h;cases i;have c:=j.zero;subst c;have%[z,m,vs,n|f]:=j8 I.hok e;refine call_meetsIn PySem.F.slot_dict_values f.typeIs PySem.F.entry_dict_values (PySem.F.args_dict_values_1 _) (meets_dict_values _ a m) %[%[vs|f]|?_];have g:(s.heap.push {cls:= .type _,data:= .fields _}).IsValuesView ⇑s a:=%[_,Zi _ rfl,rfl|rfl]
 refine%[.ref ⇑s,_,I.laid (o:=ur ⇑s a) (λb u e=>Z6 _ e) (Zh _) %[g,?_|λy A p t=>?_],rfl|q _ I.fresh]
 .have%[o,d|_]:=g;exact%[o|d]
 .have%[o,d|r]:=p;exact%[o,t _ d|r]
theorem BJ:MtQ X "dict.values" BI:=⟨DM⟩
theorem wt(j:X.calm=true):bW X (.type "list") (λxs H Q=>∃(v a:Addr) (b:List (Key×V)),xs=[.ref v]/\H v=some (ur v a)/\H a=some (.dK b)/\∀l,H l=none->Q (.ref l) (upd H l (.lst (b.map (·.2))))):=by
 intro pins s M H xs us Q I r h;have%[v,a,b,rfl,m,n|q]:=h;have%[u,rfl|p]:=di r;cases p;have%[z,N,vs,f|t]:=j8 I.hok n;have g:=(I.hok _ _ m).1;have%[o,w,y,A|B]:=t;have C:s.heap.DictAt _ a vs y:=%[o,w,A|B]
 have E:=f.length;refine PySem.W.kdl_call (PySem.W.kdl_values) (I.ok.hd j) %[g|C] ⋯ λh' tk acc c keep G d=>?_
 have O:acc.toList.length=b.length:=by rw[Za,d.1,E]
 refine%[.ref ⇑s,_,I.laid keep (Zh _) ?_,rfl|q _ I.fresh];have e:acc.toList=vs.map (·.2):=by
  refine ext_getElem (by simp_all) λi J T=>?_
  have%[k|L]:=d.2 i _ (Array.getElem?_eq_getElem J);have%[U|Y]:=X8 L
  simp_all
 exact%[by rw[Z5];exact z,acc.toList,c,e▸DK f|G]
theorem DN(c:X.calm=true):cB X (.type "list") (λxs H Q=>∃(v a:Addr) (b:List (Key×V)),xs=[.ref v]/\H v=some (ur v a)/\H a=some (.dK b)/\∀l,H l=none->Q (.ref l) (upd H l (.lst (b.map (·.2))))):=⟨wt c⟩
end
theorem ut:∀{ss:ZB},z∈ss->∃j,ss[j]? =some z/\(∀m,m<j->∀y,ss[m]? =some y->y≠z)/\(z::ss.eraseIdx j).Perm ss
 | x::ss,h=>by
   by_cases e:x=z
   .exact%[0,by simp[e],λm b=>absurd b ⋯|by simp[e]]
   .have%[j,c,d|f]:=ut ((mem_cons.mp h).resolve_left λq=>e q.symm);refine%[j+1,c,λm b y a=>?_|?_]
    .cases m with
     | zero=>simp at a;exact a▸e
     | succ m=>exact d m ⋯ y (a)
    .exact(List.Perm.swap _ _ _).trans (f.cons _)
section
variable{X:Cx}{K:ZA}
def Gj:V->List V->Hp->VK->Prop:=λx vs H Q=>asR x λa=>∃k y,vs=[kV k,y]/\∃b,H a=some (.dK b)/\Q ((bG b k).getD y) H
theorem Gk:MtM X "dict.get" Gj:=by
 intro pins s n H x vs v us Q I f g h;have%[a,rfl,k,y,rfl,b,e|q]:=e7 h;cases f;have%[o,i,rfl,j|l]:=jB g;have%[z,m,vs,c|d]:=j8 I.hok e;exact call_meetsIn slot_dict_get d.typeIs PySem.F.entry_dict_get (PySem.F.args_dict_get_3 _ _ _) (meets_dict_get_default _ a (lX j) m i) %[_,d.mapOf,(bG b k).getD y,H,I.tok _,(c.val k).getD l|q]
theorem uu:MtQ X "dict.get" Gj:=⟨Gk⟩
noncomputable def isZ(z:Str):Value->Bool
 | .str x _=>x==z
 | _=>false
theorem zk(t:Tok)(r:aE (ss.map V.str) its)(h:ss.length=its.length)(l:z∈ss):∃(j:Nat) (e:j<its.toArray.size),ss[j]? =some z/\(z::ss.eraseIdx j).Perm ss/\(∀y,y∈its.toArray->MeetsSeq.EqGives y (.str z t) (isZ z y))/\isZ z its.toArray[j]=true/\∀m (a:m<its.toArray.size),m<j->isZ z its.toArray[m]=false:=by
 have%[j,f,n|o]:=ut l;have b:∀m y,its[m]? =some y->∃x t,y=Value.str x t/\ss[m]? =some x:=λm y c=>by
  have a:m<ss.length:=h▸(X8 c).1;have%[u,i|p]:=r.get (by rw[Zk,Z4 a];rfl);rw[c]at i;have%[t|q]:=p;exact%[_,t,(Z9 i).trans q|Z4 a]
 have e:j<its.length:=h▸(X8 f).1;refine%[j,e,f,o,λy c=>?_,?_|λm a g=>?_]
 .have%[m|a]:=X3 (by simpa using c);have%[x,t',rfl|_]:=b m y a;exact eqGives_str x z t' t
 .have%[x,t',ex|d]:=b j _ (Z4 e);rw[f]at d;show isZ z its[j]=true;rw[ex,<-Z9 d];exact beq_self_eq_true z
 .have%[x,t',ex|d]:=b m _ (Z4 a);show isZ z its[m]=false;rw[ex];exact beq_eq_false_iff_ne.mpr (n m g x d)
def sq:V->List V->Hp->VK->Prop:=λx vs H Q=>asR x λl=>∃z,vs=[.str z]/\∃ss:ZB,H l=some (.lst (ss.map V.str))/\z∈ss/\∀a,(z::a).Perm ss->Q .non (upd H l (.lst (a.map V.str)))
theorem zo:MtM X "list.remove" sq:=by
 intro pins s A H x vs v us Q I c d h;have%[l,rfl,z,rfl,ss,a,f|q]:=e7 h;cases c;have%[u,rfl|g]:=d.one;have%[t|rfl]:=g;have%[i,its,n,r,b|e]:=I.lstM a;rw[Z5]at b i;have%[j,m,_,o,p,w|y]:=zk t r b f;refine call_meets F.slot_list_remove %[_,e|rfl] F.entry_list_remove (F.args_list_remove_2 _ _) (MeetsSeq.list_remove l its.toArray n _ _ p j m w y (by simp_all)) %[e,.non,_,I.lset (its':=its.eraseIdx j) a e ?_ ?_ ?_,rfl|q _ o]
 .simp
 .rw[List.eraseIdx_eq_take_drop_succ,Zc,List.map_take,List.map_drop,<-List.eraseIdx_eq_take_drop_succ];exact r.eraseIdx j
 .have:=qb ss j;rw[Z5]
  lia
theorem BK:MtQ X "list.remove" sq:=⟨zo⟩
end
theorem zq:typeLookup (.type "list_reverseiterator") "__len__"=pure none:=by kernel_rfl
theorem BL:typeLookup (.type "list_reverseiterator") "__length_hint__"=pure (some (.builtin "list_reverseiterator.__length_hint__")):=by kernel_rfl
section
#where
theorem pG(hh:A.handled=none)(N:s.heap.IsRevIter I l ((a.size:Int) -1))(O:s.heap.IsList l a)(ne:l≠I)(hz:a.size<=sizeLine)
 (hQ:∀s' acc c,(∀b o,b≠I->s.heap.get? b=some o->s'.heap.get? b=some o)->s'.gens=s.gens->s'.os=s.os->s'.heap.get? ⇑s=some {cls:= .type "list",data:= .seq acc c}->acc.toList=a.toList.reverse->Q (.ref ⇑s) s'):
 ↥A (call (.type "list") [.ref I]) Q E s:=by
 have u:I<⇑s:=let⟨_,i,_⟩:=N;Zt i;have v:l<⇑s:=let⟨_,i,_⟩:=O;Zt i
 generalize p:s.heap.push {cls:=Value.type "list",data:=Data.seq #[]}=G
 have gz:G.objs.size=⇑s+1:=by rw[<-p,Zp]
 have y:∀b o,s.heap.get? b=some o->G.get? b=some o:=λb o e=>by rw[<-p];exact Z6 _ e
 have q:G.get? ⇑s=some {cls:=Value.type "list",data:=Data.seq #[]}:=by rw[<-p];exact Zi _ rfl
 refine callType_codes (Q₁:=λobj g=>obj= .ref ⇑s/\g=(s>>>G)) F.called_list (F.typeCall_list_1 (Value.ref I)) F.entry_list_init (code_list_new (Value.ref I) %[rfl|by rw[p]]) λobj g j=>?_
 have%[rfl|rfl]:=j;refine%[%[_,q|rfl],F.args_list_init_2 _ _|?_];show ↥A.in1.in1 (Builtin.«list.__init__» %[[.ref ⇑s,.ref I]|[]]) _ _ _;unfold Builtin.«list.__init__»;refine Z2 ?_;refine listItems_at (s:=(s>>>G)) q rfl ?_;refine Z2 (listUpdate_at (s:=(s>>>G)) q rfl ?_ (X2 _));have U:=get?_update_self (Obj.mapSeq λ_=> #[]) q rfl;have f:∀b o,b≠⇑s->G.get? b=some o->(G.update ⇑s (Obj.mapSeq λ_=> #[])).get? b=some o:=λb o z e=>(get?_update_other _ _ (Ne.symm z)).trans e
 refine Z2 (wpAny_letGo ?_)
 generalize G.update ⇑s (Obj.mapSeq λ_=> #[])=h at U f
 have B:I≠⇑s:=Zr u;have nl:l≠⇑s:=Zr v;have m:h.IsRevIter I l ((a.size:Int) -1):=N.at λo e=>f _ _ B (y _ _ e)
 have C:h.IsList l a:=let⟨o,i,r⟩:=O;%[o,f _ _ nl (y _ _ i)|r];have W:=Walks.listRev (prog:=prog) (w:=w) (A:=A.in1.in1) hh I l ne a;have n:(0<=a.size/\h.IsRevIter I l (↑a.size-1-((0:Nat):Int))/\h.IsList l a):=%[X2 _,by simpa using m|C]
 show ↥A.in1.in1 (Builtin.List.listExtendWith (.ref ⇑s) (.ref I) .none) _ _ (s>>>h);unfold Builtin.List.listExtendWith;have t:Shared.TypeIs (s>>>h) (.ref I) "list_reverseiterator":=m.typeIs;refine Z2 (wpAny_typeOf (T:="list_reverseiterator") t ?_);have n1:Builtin.List.listSameRef (.ref ⇑s) (.ref I)=false:=beq_eq_false_iff_ne.mpr (Ne.symm B);have n2:(Value.type "list_reverseiterator"==Value.type "list")=false:=by decide
 have n3:(Value.type "list_reverseiterator"==Value.type "tuple")=false:=by decide
 simp only[n1,n2,n3,Bool.or_false,Zx,if_false];refine Z2 (W.self 0 (s>>>h) _ _ n ?_);refine Z2 (wpAny_holding ?_);unfold Builtin.List.listLengthHint;refine Z2 (wpAny_specialOf (T:="list_reverseiterator") t zq ?_);show wpAny _ _ (specialOf (.ref I) (Str.ofString "__length_hint__")>>= _) _ _ _;refine Z2 (wpAny_specialOf t BL ?_)
 wp_delta
 refine Z2 (wpAny_isInstance (T:="list_reverseiterator") (b:=true) t (by rw[isSubtype_type];kernel_rfl) ?_);simp only[Bool.not_true,Zx,if_false];rw[if_pos (by decide +kernel)];rw[if_neg (by decide)];refine Z3 ?_;rw[if_neg (by decide +kernel)];have H:⇑s∉[I,l]:=by
  simp only[Yp,Yx,or_false,not_or];exact%[Ne.symm B|Ne.symm nl]
 refine Z3 %[plainId_quiet F.plain_extend_loop _|codeAny_extend_loopS W.toS hz _ H _ a.size 0 _ _ _ rfl (X2 _) n U (ItemsOf.nil _) λs5 acc c5 J L d=>?_];refine%[rfl|hQ s5 acc c5 (λb o z e=>?_) J.gens J.os L ?_]
 .have nb:b≠⇑s:=Zr (Zt e);refine J.heap b o ?_ (f _ _ nb (y _ _ e));simp only[Yp,Yx,or_false,not_or];exact%[nb|z]
 .apply ext_getElem?;intro k;have al:acc.toList.length=a.size:=Za▸d.1;by_cases Y:k<a.size
  .have M:k<acc.size:=d.1▸Y;have:=d.2 k acc[k] ∅;rw[List.getElem?_reverse (Y),Za,getElem?_toList,getElem?_toList,this];simp[M]
  .rw[X7 ⋯,X7 (by simp;lia)]
end
noncomputable def Gm(n:Nat)(a l:Addr)(m:Nat):HO:= .ext λh=>n<=a/\h.IsRevIter a l (m-1)
theorem zt{X:Cx}:bW X (.type "reversed") (λxs H Q=>∃(l:Addr) (ys:List V),xs=[.ref l]/\SqL X.K H l ys/\∀r,H r=none->Q (.ref r) (upd H r (Gm X.s₀.heap.objs.size r l ys.length))):=by
 intro pins s a H xs us Q I r h;have%[l,ys,rfl,c|q]:=h;have%[u,rfl|d]:=di r;cases d;have%[its,f,pl|j]:=I.list c;refine call_reversed_list pl.isList ?_;have g:=I.hok.fresh (Zh _);have J:Inv X pins a H (s>>>(s.heap.push (revObj l (its.toArray.size-1)))):=I.keptS (λb o e=>Z6 _ e) rfl rfl;refine%[.ref ⇑s,_,I.stoodS (o:=Gm X.s₀.heap.objs.size ⇑s l ys.length) J (Zh _) %[%[I.sz|?_],%[_|Zi _ rfl]|λ_ _ ⟨i,x⟩ k=>%[i|x.at λo e=>k o e]],rfl|q _ g];rw[f.length,<-Zo];exact%[_,Zi _ rfl,rfl|rfl]
theorem Inv.dropped{X:Cx}(I:Inv X pins j H s)(l:H a=some (.ext i))(m:X.s₀.heap.objs.size<=a)(f:∀b o,b≠a->s.heap.get? b=some o->s'.heap.get? b=some o)(r:s'.gens=s.gens)(t:s'.os=s.os):Inv X pins j (drop H a) s':=by
 have ne:∀{b:Addr} {o:HO},H b=some o->(∀i,o≠ .ext i)->b≠a:=λe n z=>by
  grind
 have un:Un (frs X.stack) [a] H (drop H a) s.heap s'.heap:=by
  refine%[λb o e _ _ d=>f b o (by simpa using d) e,λb o e _ _ d=>%[o.slots|f b o (by simpa using d) e],λb o _ n _=>?_,λb o e d=>%[o|f b o (by simpa using d) e],λb xs e=>?_,λb o u e=>?_|λb ps e=>%[#[]|?_]]
  .unfold drop;split
   .rfl
   .exact n
  .rw[bH (ne e ∅)];exact e
  .rw[bH (ne e ∅)];exact e
  .rw[bH (ne e ∅)];simpa using e
 have g:HOk X.prog X.w (drop H a) s'.heap:=λb o e=>by
  have nb:b≠a:=λz=>by rw[z,gM]at e;cases e
  rw[bH nb]at e;refine(I.hok b o e).stay (λc u h q=>f c u ?_ q) (λc q=>?_) λc xs q=>?_
  .rcases h with rfl|h
   .exact nb
   .exact ne h ∅
  .rw[bH (ne q ∅)];exact q
  .rw[bH (ne q ∅)];exact q
 exact I.call' t un g (by rw[r];exact I.bare) λb v=>by
  obtain rfl:b=a:=by simpa using v
  refine%[.inr m,λz=>?_,λx c e z=>?_|λp w z=>?_]
  .have:=I.free;grind
  .have:=I.freeC x c e;grind
  .have:=(I.pin p w).2.1;rw[z,l]at this;cases this
theorem uw{X:Cx}(w:X.calm=true):bW X (.type "list") (λxs H Q=>∃(r l:Addr) (ys:List V),xs=[.ref r]/\H l=some (.lst ys)/\H r=some (Gm X.s₀.heap.objs.size r l ys.length)/\∀p,drop H r p=none->p≠r->Q (.ref p) (upd (drop H r) p (.lst ys.reverse))):=by
 intro pins s J H xs us Q I r h;have%[a,l,ys,rfl,g,f|q]:=h;have%[u,rfl|y]:=di r;cases y;have%[z,its,n,A,m|e]:=I.lstM g;have%[%[t|b]|_]:=I.hok a _ f;have i:l≠a:=λz=>by rw[z,f]at g;cases g
 have sz:its.toArray.size=ys.length:=by simp_all
 refine pG (I.ok.hd w) (by rw[sz];exact b) %[_,e,rfl,n|rfl] i (by rw[sz];exact z) λs' acc c B C j E d=>?_
 have v:=I.dropped f t (λ_ _ _ e=>e) rfl rfl;have G:=I.dropped f t B C j;have lt:=let⟨_,j,_⟩:=b;Zt j;refine%[.ref ⇑s,_,v.stoodS (o:= .lst ys.reverse) G (Zh _) %[?_,acc.toList,c,?_|?_],rfl|q _ (v.hok.fresh (Zh _)) (Ys lt)]
 .rw[List.length_reverse];exact z
 .rw[d];exact A.reverse
 .exact E
def ux(b:TE):TE:=λc H Q=>b c H λv a=>∃l ys,v= .ref l/\a l=some (.lst ys)/\∀p,a p=none->Q (.ref p) (upd a p (.lst ys.reverse))
theorem BM{X:Cx}(h:X.calm=true)(i:Gl X "reversed")(j:X.mg "reversed"=none)(a:Gl X "list")(b:X.mg "list"=none)(d:aW e=false)(m:QE X e n):
 QE X (.Call (.Name "list" o) [.Call (.Name "reversed" s) [e] [] t] [] u) (ux n):=by
 have w:QE X (.Call (.Name _ s) [e] [] t) _:=ctE ⟨zt⟩ i j PyProof.Rows.boot_reversed rfl rfl (by simp[d]) (paE d (⟨F9 m.h⟩) ao);have y:=ctE (p:=o) (pos:=u) ⟨uw h⟩ a b boot_list rfl rfl rfl (paE rfl w ao);refine⟨Ga y.h λA H Q q=>?_⟩;refine%[_,q|λv B ⟨l,ys,z,c,q⟩=>%[l,ys,by rw[z],SqL.of c|λr f=>?_]];refine%[r,l,ys,rfl,by rw[ak (ar c f)];exact c,aa|λp g _=>?_];rw[Bn f]at g ⊢;exact q p g
section
variable{X:Cx}
def Gn:R2:=λx y H Q=>asR x λa=>asR y λb=>∃xs,H a=some (.lst xs)/\H b=some (.lst [])/\Q (.bl (decide (xs≠[]))) H
theorem Go(A:X.A.units+64<cLine):OpR X (compareOp .NotEq) Gn:=by
 intro pins s B H x y v u Q I l m h;have%[a,rfl|o]:=e7 h;have%[b,rfl,xs,p,t|q]:=e7 o;cases l;cases m;have%[z,its,n,r,g|e]:=I.lstM p;have%[C,its2,i,E,d|c]:=I.lstM t;obtain rfl:its2=[]:=length_eq_zero_iff.mp d.symm;by_cases f:xs=[]
 .subst f;obtain rfl:its=[]:=length_eq_zero_iff.mp g.symm;exact richCompare_meets_room (op:= .NotEq) %[_,e|rfl] %[_,c|rfl] PySem.F.slot_list_ne PySem.F.entry_list_ne (PySem.F.args_list_ne_2 _ _) (SeqAt.list_neAt a b #[] #[] n i none none #[] #[] rfl λ_=>true) %[e,c,λj h=>absurd h (Yw j),by simp,.bl _,H,I,rfl|q] ⋯
 .have w:its.toArray.size≠0:=by
   rw[Zo,<-g];exact λq=>f (length_eq_zero_iff.mp q)
  rw[Ze f]at q;exact richCompare_meets_room (op:= .NotEq) %[_,e|rfl] %[_,c|rfl] PySem.F.slot_list_ne PySem.F.entry_list_ne (PySem.F.args_list_ne_2 _ _) (SeqAt.list_ne_lengthsAt a b its.toArray #[] n i none none #[] #[] (by simpa using w)) %[e,c,by simp,.bl true,H,I,rfl|q] ⋯
theorem HA(a:bF k X.A):OpQ X (compareOp .NotEq) Gn:=⟨Go a.units⟩
end
section
#where
theorem fB(I:List i->j->Shared->Prop):∀(xs:List i) (b:j) (s:Shared),I xs b s->
 (∀x r b s,I (x::r) b s->↥A (f x b) (λy s'=>match y with| .done c=>Q c s'| .yield c=>I r c s') E s)->(∀b s,I [] b s->Q b s)->↥A (forIn xs b f) Q E s
 |[],b,s,h,_,a=>by
  exact Z3 (a b s h)
 | x::r,b,s,h,d,a=>by
   rw[forIn_cons];refine Z2 (wpAny_mono (d x r b s h) (λy s' g=>?_) λ_ _ e=>e);cases y with
   | done c=>exact Z3 g
   | yield c=>exact fB I r c s' g d a
theorem BN:∀as {Q:Bool->Shared->Prop},(∀b∈as,∃c,bu w b c s.heap)->Q true s->↥A (setsQuiet as) Q E s:=by
 intro as Q h j;refine Z2 (fB (λr b s'=>(∀b∈r,∃c,bu w b c s.heap)/\b=(none,())/\s'=s) as _ s %[h,rfl|rfl] ?_ ?_)
 .intro x r b s' %[f,rfl|rfl];have%[c,o,l,C,t,ss,m,n,p,q,G,v,d,H,y,B|g]:=f x Zl;refine Z2 (wpAny_setEntries_of m p y (Z2 ?_));rw[<-forIn_toList];refine fB (λr b a=>(∀e∈r,∃z u,e=(hashStr w z,Value.str z u))/\b=(none,())/\a=s') l.toList _ _ %[d,rfl|rfl] ?_ ?_
  .intro e r b a %[i,rfl|rfl];have%[z,u|rfl]:=i e Zl;exact Z3 %[λe h=>i e (Zj _ h),rfl|rfl]
  .intro b a %[_,rfl|rfl];exact Z3 %[λe h=>f e (Zj _ h),rfl|rfl]
 .intro b s' %[_,rfl|rfl];exact Z3 j
noncomputable def hsE(w:World)(p:Str×Tok):Int×Value:=(hashStr w p.1,.str p.1 p.2)
theorem bu.texts{a:Addr}{h:Heap}{o:Obj}{c:Array (Int×Value)}(d:StrsAre (c.toList.map (·.2)) ss)(g:ss.Perm ks)(f:∀e∈c.toList,∃z u,e=(hashStr w z,Value.str z u))(xs:List (Int×Value))(b:xs.Perm c.toList):∃zs:List (Str×Tok),xs=zs.map (hsE w)/\(zs.map (·.1)).Perm ks:=by
 have all:∀l,(∀e∈l,∃z u,e=(hashStr w z,Value.str z u))->∃zs:List _,l=zs.map (hsE w):=λl=>by
  induction l with
  | nil=>exact λ_=>%[[]|rfl]
  | cons e l i=>
    intro h;have%[z,u|rfl]:=h e Zl;have%[zs|rfl]:=i λx b=>h x (Zj _ b)
    exact%[(z,u)::zs|rfl]
 have%[zs|rfl]:=all xs λe j=>f e (b.mem_iff.mp j)
 refine%[zs,rfl|?_];have%[ts,m|n]:=ci d (b.map _);have e:ts=zs.map (·.1):=by
  rw[<-m.strs,Yl,Yl];rfl
 exact e▸n.trans g
theorem qF{f:List Addr}{c:ZI}{Q:Array (Int×Value)->Shared->Prop}(U:bu w a ks s.heap)(hO:∀b∈f,∃js,bu w b js s.heap)(n:∀r,c=some r->r≠a/\bu w r [] s.heap)
 (hQ:∀(zs:List (Str×Tok)) (d:Drawn) (h':Heap),(zs.map (·.1)).Perm ks->(∀b o,c≠some b->s.heap.get? b=some o->h'.get? b=some o)->(∀r,c=some r->bu w r [] h')->Q (zs.map (hsE w)).toArray {s with heap:=h',drawn:=d}):
 ↥A (setWalkUnseen a f c) Q E s:=by
 have%[o,g,ep,t,ss,Y,ae,hd,J,hp,ag,L,I,hf,M|i]:=id U;have fin:∀(xs:List _) d h',xs.Perm g.toList->(∀b o,c≠some b->s.heap.get? b=some o->h'.get? b=some o)->(∀r,c=some r->bu w r [] h')->Q xs.toArray {s with heap:=h',drawn:=d}:=λxs d h' hx u h2=>by
  have%[zs,rfl|hz]:=bu.texts (a:=a) (h:=h') (o:=o) J hp L xs hx;exact hQ zs d h' hz u h2
 have walk:↥A (setWalk a) Q E s:=by
  refine Z2 (wpAny_setState_of Y hd hf ?_);show wpAny _ _ (if aS w=true then _ else _) _ _ _;by_cases N:aS w=true
  .rw[if_pos N];refine Z2 (wpAny_askSetting (Z3 ?_));have:=fin (pickOrder (w.params.setOrder a ep) g).toList s.drawn s.heap (qu _ _) (λ_ _ _ e=>e) λr e=>(n r e).2
   exact this
  .rw[if_neg N]
   split
   .exact Z2 (rJ g.size g.toList _ _ ∅ λys d p=>Z3 (fin ys d s.heap p (λ_ _ _ e=>e) λr e=>(n r e).2))
   .refine Z2 ?_;show wpAny _ _ (if(!t.led&&decide _)=true then unsupported _ else pure ()) _ _ _;rw[i,show aS w=false by simpa using N];refine Z3 (Z3 ?_);have:=fin g.toList s.drawn s.heap (.refl _) (λ_ _ _ e=>e) λr e=>(n r e).2
    exact this
 refine Z2 (wpAny_setState_of Y hd hf ?_);show wpAny _ _ (if(aS w||t.led&&t.plain||decide _)=true then _ else _) _ _ _;by_cases u:(aS w||t.led&&t.plain||decide (g.size<=1))=true
 .rw[if_pos u];exact walk
 .rw[if_neg u];refine Z2 (BN _ (λb I=>?_) ?_)
  .rcases mem_cons.mp I with e|e
   .exact e▸%[_|U]
   .exact hO b e
  refine Z2 (wpAny_rule ?_);cases c with
  | none=>
    have:=fin g.toList s.drawn s.heap (.refl _) (λ_ _ _ e=>e) λr e=>(n r e).2
    exact Z3 this
  | some r=>
    have%[ne,o2,O,ai,q,aj,j,v,l,y,T,B,C,G,H,ab|m]:=n r rfl;dsimp only;refine Z2 (wpAny_setState_of j l H ?_)
    split
    .refine Z2 (wpAny_storeSet_of j l ?_ (fits_of_scanBound G));have:=fin g.toList s.drawn _ (.refl _) (λb o I e=>((SameBut.update s.heap r (Obj.putSet O {q with led:=q.led&&t.led,plain:=q.plain&&t.plain})).2 b λz=>I (by rw[z])).trans e) λr' e=>?_
     .exact Z3 this
     .cases e;exact(bu.stored (t':={q with led:=q.led&&t.led,plain:=q.plain&&t.plain}) j v l y T B C G H (by rw[(M λz=>u (by rw[z];simp)),Bool.and_false]) (by rw[m,i,Bool.and_self])).2
    .have:=fin g.toList s.drawn s.heap (.refl _) (λ_ _ _ e=>e) λr e=>(n r e).2
     exact Z3 this
end
section
#where
theorem DO(h:jz (Sum.inr z) (Value.str y u)=true):y=z:=by
 rcases aY h with⟨i,t',a,b⟩|⟨c,t',a,b⟩
 .lia
 grind
theorem uy{ks:ZB}(i:s.heap.get? a=some o)(l:o.data= .set b H t)(c:∀e∈b.toList,∃z u,e=(hashStr w z,Value.str z u))(C:b.size<scanBound)(m:t.fits b.size=true)
 (n:∀r,(r=none->∀e∈b.toList,∀u,e.2≠ .str z u)->(∀j,r=some j->∃u,b.toList[j]? =some (hashStr w z,.str z u))->Q r s):↥A (setFind a (.str z tk) (hashStr w z)) Q E s:=by
 have p:ElemsOf (aN prog w) b.toList:=qt c;have d:(aN prog w).is (Sum.inr z) (.str z tk)=true:=dI z tk;refine Z2 (wpAny_setState_of i l m ?_);dsimp only;rw[byScan_of rfl C p];refine Z2 (wpAny_rule (Z2 (wpAny_setScan_of d i l m p ?_)));cases v:List.findIdx? _ b.toList with
 | some j=>
   have%[B,f|_]:=List.findIdx?_eq_some_iff_getElem.mp v;dsimp only;rw[zero_add];refine Z3 (n _ (λh=>(nomatch h)) λI e=>?_);cases e;have%[y,u|g]:=c _ (Y6 B);rw[g]at f;rw[DO (u:=u) f]at g;exact%[u|by rw[Z4 B,g]]
 | none=>
   refine Z3 (n none (λ_ e G u q=>?_) λj e=>(nomatch e));have:=List.findIdx?_eq_none_iff.mp v e G;rw[q,show(aN prog w).is (Sum.inr z) (Value.str z u)=true from dI z u]at this;cases this
theorem zu{t:SetTable}(h:t.fits n=true)(hi:i<n):(t.drop i).fits (n-1)=true/\(t.drop i).led=t.led/\(t.drop i).plain=t.plain:=by
 unfold SetTable.fits at h ⊢;rw[Zu,beq_iff_eq,decide_eq_true_eq]at h;unfold SetTable.drop;have:t.place[i]? =some t.place[i]:=by simp
 rw[this];refine%[?_,rfl|rfl];rw[Zu,beq_iff_eq,decide_eq_true_eq];unfold SetTable.fill at h ⊢;simp only[SetTable.eraseAt,SetTable.insertAt,size_append,Array.size_extract,Array.size_push]
 lia
theorem wu(h:i<a.size):(SetTable.eraseAt a i).toList=a.toList.eraseIdx i:=by
 rw[List.eraseIdx_eq_take_drop_succ,SetTable.eraseAt,toList_append,toList_extract,toList_extract,List.extract_eq_take_drop,List.extract_eq_take_drop];simp;exact Zm ∅
theorem uz{ks:ZB}(I:bu w a ks s.heap)(m:∀h' b,SameBut a s.heap h'->bu w a (ks.erase z) h'->Q b (s>>>h')):↥A (setDiscardHashed a (.str z tk) (hashStr w z)) Q E s:=by
 have%[o,c,ep,t,ss,h,n,j,d,J,p,f,L,v,y|g]:=id I;refine Z2 (uy (ks:=ks) h j f L v λr M N=>?_);cases r with
 | none=>
   have O:z∉ks:=λq=>by
    have%[u|l]:=(ee d).mpr (J.mem_iff.mpr q);have%[e,B|T]:=Xb l;exact M rfl e B u T
   rw[List.erase_of_not_mem O]at m;exact Z3 (m s.heap false (SameBut.refl a s.heap) I)
 | some i=>
   have%[u|l]:=N i rfl;have hi:i<c.size:=(X8 l).1;have C:((hashStr w z,Value.str z u)::(SetTable.eraseAt c i).toList).Perm c.toList:=by
    rw[wu hi];have:=hZ (xs:=c.toList) (hi);rwa[(X8 l).2]at this
   have%[ts,G|U]:=ci d (C.map _);cases G with
   | cons _ _ G=>
   have%[Y,d2|d3]:=zu v hi;have H:(SetTable.eraseAt c i).size=c.size-1:=by
    rw[<-Za,<-Za,<-C.length_eq];simp
   refine Z2 (wpAny_setState_of h j v ?_);dsimp only;refine Z2 (wpAny_storeSet_of h j (Z2 (wpAny_point (Z3 (m _ true (SameBut.update s.heap a _) (bu.stored h n j G ((List.cons_perm_iff_perm_erase.mp (U.trans J)).2) (p.erase z) (λe B=>f e (C.mem_iff.mp (Zj _ B))) ?_ ?_ ?_ ?_).2)))) (fits_of_scanBound ?_))
   .lia
   .exact H▸Y
   .exact d3▸y ⋯
   .exact d2▸g
   .lia
end
theorem xC(h:STab.WF t a)(b:a.size<=t.mask):t.fits a.size=true:=by
 unfold SetTable.fits SetTable.fill;rw[h.size,h.dum];simpa using b
section
#where
def sr(w:World)(a:Addr)(n:Nat)(h:Heap):Prop:=∃o b t,h.get? a=some o/\o.ExactSet/\o.data= .set #[] b t/\t.place= #[]/\t.dummies= #[]/\t.led=(!aS w)/\(∃k,t.mask+1=2^k)/\7<=t.mask/\n<=t.mask
theorem sr.fits{t:SetTable}(a:t.place= #[])(b:t.dummies= #[]):t.fits (#[]:Array (Int×Value)).size=true:=by
 unfold SetTable.fits SetTable.fill;rw[a,b];simp
theorem DP{n:Nat}{Q:Unit->Shared->Prop}(a:s.heap.get? r=some (aT w))(f:n<=1000)(c:∀h',SameBut r s.heap h'->sr w r n h'->Q () (s>>>h')):↥A (setRoomFor r n) Q E s:=by
 have d:(SetTable.fresh 0 0 (!aS w)).fits _=true:=sr.fits rfl rfl;refine Z2 (wpAny_setState_of a rfl d ?_);show wpAny _ _ (match(if(0+n)*5>=7*3 then some ((0+n)*2)else none)with|some x=>setRelay r x|_=>pure ()) _ _ _;by_cases h:(0+n)*5>=7*3
 .rw[if_pos h];refine STab.relay_w a rfl d ∅ ⋯ λb t' P W l p g m2=>c _ (SameBut.update s.heap r _) ?_
  obtain rfl:b= #[]:=by
   have:=P.length_eq;simpa using this
  have e:=by
   have q:=get?_update_self (Obj.putSet #[] t') a (by rfl);rwa[putSet_of #[] t' rfl]at q
  exact%[_,_,t',e,%[rfl,rfl|rfl],rfl,Array.eq_empty_of_size_eq_zero W.size,W.dum,l,W.pow,W.big|⋯]
 .rw[if_neg h];exact Z3 (c s.heap (SameBut.refl r s.heap) %[_,_,_,a,%[rfl,rfl|rfl],rfl,rfl,rfl,rfl,%[3|rfl],Zh 7|by show n<=7;lia])
theorem BO{ks:ZB}(M:bu w a ks s.heap)(N:s.heap.get? r=some (aT w))(ne:r≠a)(h1:1<=ks.length)(h2:ks.length<=1000)(O:∀h',SameBut r s.heap h'->bu w r ks h'->Q () (s>>>h')):↥A (setMerge r a) Q E s:=by
 have%[o,d,ep,t,ss,T,U,Y,n,G,z,B,hb,H,C|g]:=id M;have hn:d.size=ks.length:=by
  have q:=bE n;rw[Z5,Za,G.length_eq]at q;exact q
 have pl:t.plain=false:=C ⋯;unfold setMerge;rw[if_neg (by simpa using ne)];refine Z2 (wpAny_setState_of T Y H ?_);dsimp only;rw[if_neg (λh:d.isEmpty=true=>by have:=Zn h;lia)];refine Z2 (DP N ⋯ λh' sb ⟨o2,ab,u,i,v,j,I,J,L,k2,b2,m2⟩=>Z2 (wpAny_setState_of (s:=(s>>>h')) i j (sr.fits I J) ?_));dsimp only;have m:u.fill=0:=by unfold SetTable.fill;rw[I,J];rfl
 have put:∀(b:Array (Int×Value)) (t':SetTable),b.toList.Perm d.toList->t'.fits b.size=true->t'.plain=false->t'.led=(!aS w)->↥A (storeSet r b t') Q E (s>>>h'):=λb t' P f p l=>by
  have sz:b.size=d.size:=by rw[<-Za,P.length_eq,Za]
  have%[ts,r1|r2]:=ci n (P.map (·.2));exact wpAny_storeSet_of (s:=(s>>>h')) i j (O _ (sb.trans (SameBut.update h' r _)) (bu.stored (w:=w) i v j r1 (r2.trans G) z (λe he=>B e (P.mem_iff.mp he)) ⋯ f p l).2) (fits_of_scanBound ⋯)
 unfold SetTable.road;rw[m,if_neg (by decide)]
 split
 .exact put d _ (.refl _) H (by show(u.plain&&t.plain)=false;rw[pl,Bool.and_false]) (by show(u.led&&t.led)=_;rw[L,g,Bool.and_self])
 .have%[k|hk]:=k2;have%[t',c,e1,e2,e3,e4,e5,W|P]:=STab.laid_ok hk b2 d ⋯ u.finger u.moves _ _;have sz:(c.filterMap (d[·]?)).size=d.size:=by rw[<-Za,P.length_eq,Za]
  rw[e1];refine Z2 ?_;show wpAny _ A (if((c.filterMap _).size != d.size)=true then _ else pure _) _ E _;rw[if_neg (by simp[sz])];exact Z3 (put _ t' P (show t'.fits _=true from xC W (by rw[sz,e2];lia)) (by rw[e4,pl,Bool.and_false]) (by rw[e3,L,g,Bool.and_self]))
 .rename_i y
  split at y<;> cases y
end
theorem bu.nd(S:bu w a ks h):ks.Nodup:=by
 have%[_,_,_,_,_,_,_,_,_,_,h|_]:=S;exact h
section
#where
theorem sA(c:bu w b f s.heap)(d:Q true s):↥A (Builtin.Frozenset.isAnySet (.ref b)) Q E s:=by
 have%[o,g,h,t,ss,e,a|_]:=c;exact Z2 (wpAny_isInstance (b:=true) %[o,e|a.1] (by kernel_rfl) (Z3 d))
theorem kr(d:bu w b e s.heap)(f:Q e.length s):↥A (Builtin.Frozenset.sizeOf b) Q E s:=by
 have%[o,u,v,t,ss,g,h,i,a,j,l,m,y,n,p|c]:=d;have r:=by
  have q:=bE a;rw[Z5,Za,j.length_eq]at q;exact q
 exact Z2 (wpAny_setEntries_of g i n (Z3 (r▸f)))
theorem BP(N:bu w r ks s.heap)(O:bu w b T s.heap)(ne:r≠b)(big:T.length<ks.length)(al:ks.length<=900)
 (hQ:∀h' d f,(∀c o,c≠r->s.heap.get? c=some o->h'.get? c=some o)->(∀x,x∈f↔x∈ks/\x∉T)->bu w r f h'->Q () {s with heap:=h',drawn:=d}):↥A (Builtin.Frozenset.differenceUpdate nm r (.ref b)) Q E s:=by
 unfold Builtin.Frozenset.differenceUpdate;rw[if_neg (by simpa using ne.symm)];refine Z2 (sA O ?_);rw[if_pos rfl];refine Z2 (Z3 (Z2 (kr O (Z2 (kr N ?_)))));rw[if_neg ⋯];have%[o,es,ep,t,ss,ho,an,hd,as,hp,a0,a1,hb,hf,a2|aj]:=id O;have B:∀(s':Shared) (Q':Nat->Shared->Prop),s'.heap.get? b=some o->Q' ep s'->↥A (setEpoch b) Q' E s':=λs' Q' e q=>by
  unfold setEpoch;exact Z2 (wpAny_setState_of e hd hf (Z3 q))
 refine Z2 (B s _ ho (Z2 (wpAny_holding (Z2 (qF O (λc j=>%[ks|(Xa j)▸N]) (λ_ e=>(nomatch e)) λzs d h1 pz k1 _=>Z2 ?_)))));rw[<-forIn_toList];refine fB (λxs _ s'=>∃g rest h',zs=g++rest/\xs=rest.map (hsE w)/\s'={s with heap:=h',drawn:=d}/\(∀c o,c≠r->s.heap.get? c=some o->h'.get? c=some o)/\∃f,bu w r f h'/\∀x,x∈f↔x∈ks/\x∉g.map (·.1)) _ _ _
  %[[],zs,h1,rfl,rfl,rfl,λc o _ e=>k1 c o ∅ e,ks,N.keep λo e=>k1 r o ∅ e|by simp] ?_ ?_
 .intro x xs _ s' %[g,rest,h',U,ex,rfl,Y,f,S|h];cases rest with
  | nil=>cases ex
  | cons p rest=>
  rw[Yk]at ex;injection ex with ab ae
  subst ab;refine Z2 (wpAny_holding (uz (z:=p.1) (tk:=p.2) (s:={s with heap:=h',drawn:=d}) S λh2 bb sb S2=>Z2 ?_));unfold Builtin.Frozenset.unchanged;have C:∀c o,c≠r->s.heap.get? c=some o->h2.get? c=some o:=λc o j e=>(sb.2 c j).trans (Y c o j e)
  refine Z2 (B {s with heap:=h2,drawn:=d} _ (C b o ne.symm ho) ?_);rw[if_neg ∅];refine Z3 (Z3 %[g++[p],rest,h2,by rw[U,Zd];rfl,ae,rfl,C,_,S2|λx=>?_]);rw[S.nd.mem_erase_iff,h,Zc,Ym,Yk,map_nil,Yr,not_or]
  constructor
  .exact λ⟨a,b,c⟩=>%[b,c|a]
  .exact λ⟨b,c,a⟩=>%[a,b|c]
 .intro _ s' %[g,rest,h',U,ex,rfl,Y,f,S|h];obtain rfl:rest=[]:=by
   cases rest with
   | nil=>rfl
   | cons p rest=>cases ex
  rw[Zw]at U;have h:∀x,x∈f↔x∈ks/\x∉T:=λx=>by rw[h,<-U,pz.mem_iff]
  have ag:f.length≠0:=λe=>by
   have:=STab.nodup_sub N.nd (m:=T) λx hx=>Decidable.byContradiction λq=>by
    have:=(h x).mpr %[hx|q];rw[length_eq_zero_iff.mp e]at this;cases this
   lia
  have sub:=STab.nodup_sub S.nd λx hx=>((h x).mp hx).1
  refine Z3 ?_;have%[o2,n,a3,t2,a4,u,G,v,i,H,I,J,a5,L,M|y]:=id S;have hn:=by
   have q:=bE i;rw[Z5,Za,H.length_eq]at q;exact q
  refine Z2 (wpAny_setState_of u v L ?_);dsimp only
  split
  .rw[show SetTable.grown n.size=n.size*4 by unfold SetTable.grown;rw[if_neg ⋯]];refine STab.relay_w u v L ⋯ ⋯ λai t' P W l p m1 m2=>?_
   have sz:ai.size=n.size:=by rw[<-Za,P.length_eq,Za]
   have%[ts,r1|r2]:=ci i (P.map (·.2));exact hQ _ d f (λc o j e=>((SameBut.update h' r _).2 c j).trans (Y c o j e)) h (bu.stored u G v r1 (r2.trans H) I (λe he=>J e (P.mem_iff.mp he)) ⋯ (xC W ⋯) (p▸M ⋯) (l▸y)).2
  .exact Z3 (hQ h' d f Y h S)
end
section
#where
theorem uA(a:Q (.ref ⇑s) (s>>>s.heap.push (aT w))):↥A (newSet (.type "set")) Q E s:=by
 exact Z2 (Z2 (wpAny_askSetting (Z3 (wpAny_newObj_type a))))
theorem uB(d:bu w a ks s.heap)(e:Q (.type "set") s):↥A (Builtin.Frozenset.baseOf a) Q E s:=by
 have%[o,g,h,t,ss,f,c|_]:=d;exact Z2 (wpAny_isInstance (b:=true) %[o,f|c.1] (by kernel_rfl) (Z3 e))
theorem DQ(v:bu w a ks s.heap)(C:bu w b J s.heap)(ab:ks.length<=900)
 (hQ:∀h' d i,(∀c o,s.heap.get? c=some o->h'.get? c=some o)->(∀x,x∈i↔x∈ks/\x∉J)->bu w ⇑s i h'->Q (.ref ⇑s) {s with heap:=h',drawn:=d}):↥A (Builtin.Frozenset.difference nm a (.ref b)) Q E s:=by
 have lt:∀{c:Addr} {ls:ZB},bu w c ls s.heap->c≠⇑s:=λ{c ls} h=>by
  have%[o,_,_,_,_,Y|_]:=h;exact Zr (Zt Y)
 have L:∀c o,s.heap.get? c=some o->(s.heap.push (aT w)).get? c=some o:=λc o e=>Z6 _ e
 have hr:(s.heap.push (aT w)).get? ⇑s=some (aT w):=Zi _ rfl;have S1:=v.keep λo e=>L a o e
 have O1:=C.keep λo e=>L b o e
 unfold Builtin.Frozenset.difference;dsimp only;refine Z2 (sA C ?_);rw[if_neg (by decide)];refine Z2 (Z3 ?_);rw[if_neg ∅,if_pos rfl];refine Z2 (kr C (Z2 (kr v ?_)))
 generalize hG:s.heap.push (aT w)=G at L hr S1 O1
 split
 .refine Z2 (wpAny_rule (Z2 ?_));unfold Builtin.Frozenset.copyOf;refine Z2 (uB v (Z2 (uA ?_)));rw[hG];refine Z2 (Z3 (Z2 (BO (s:=(s>>>G)) S1 hr (Ne.symm (lt v)) ⋯ ⋯ λh1 sb R1=>Z3 ?_)));have k1:∀c o,s.heap.get? c=some o->h1.get? c=some o:=λc o e=>(sb.2 c (Zr (Zt e))).trans (L c o e)
  exact Z2 (Z3 (Z2 (wpAny_holding (BP (s:=(s>>>h1)) R1 (C.keep λo e=>k1 b o e) (Ne.symm (lt C)) ⋯ ab λl d i H y M=>Z3 (hQ l d i (λc o e=>H c o (Zr (Zt e)) (k1 c o e)) y M)))))
 .refine Z2 (uB v (Z2 (uA ?_)));rw[hG];refine Z2 (Z3 ?_);have%[o,es,ep,t,ss,Y,a3,hd,a4,hp,a5,a6,hb,hf,a7|as]:=id S1;have N:∀(s':Shared) (Q':Nat->Shared->Prop),s'.heap.get? a=some o->Q' ep s'->↥A (setEpoch a) Q' E s':=λs' Q' e q=>by
   unfold setEpoch;exact Z2 (wpAny_setState_of e hd hf (Z3 q))
  refine Z2 (N (s>>>G) _ Y ?_);rw[if_pos rfl];refine Z2 (wpAny_holding (Z2 (qF (s:=(s>>>G)) S1 (λc B=>?_) (λr e=>⟨by cases e;exact Ne.symm (lt v),by cases e;exact bu.empty hr⟩) λzs d h1 pz k1 r1=>Z2 ?_)))
  .simp only[Yp,Yx,or_false]at B;rcases B with rfl|rfl
   .exact%[_|O1]
   .exact%[_|bu.empty hr]
  rw[<-forIn_toList];refine fB (λxs _ s'=>∃f rest h',zs=f++rest/\xs=rest.map (hsE w)/\s'={s with heap:=h',drawn:=d}/\(∀c o,c≠⇑s->G.get? c=some o->h'.get? c=some o)/\∃i,bu w ⇑s i h'/\i.length<=f.length/\∀x,x∈i↔x∈f.map (·.1)/\x∉J) _ _ _
   %[[],zs,h1,rfl,rfl,rfl,(λc o B e=>k1 c o (λq=>B (Z9 q).symm) e),[],r1 _ rfl,Zh _|by simp] ?_ ?_
  .intro x xs _ s' %[f,rest,h',I,ex,rfl,g,i,M,ml|y];cases rest with
   | nil=>cases ex
   | cons p rest=>
   rw[Yk]at ex;injection ex with ae O
   subst ae;have zl:zs.length=ks.length:=by rw[<-pz.length_eq,Z5]
   have pl:f.length<ks.length:=by rw[<-zl,I,Z8,Zq];lia
   rw[if_pos rfl];have m:∀(l:Heap) Qx,(∀c o,c≠⇑s->G.get? c=some o->l.get? c=some o)->Qx (.yield ⟨⟩) {s with heap:=l,drawn:=d}->↥A (Builtin.Frozenset.unchanged nm a ep>>= λ_=>pure (ForInStep.yield PUnit.unit)) Qx E {s with heap:=l,drawn:=d}:=λl Qx H q=>by
    refine Z2 ?_;unfold Builtin.Frozenset.unchanged;refine Z2 (N {s with heap:=l,drawn:=d} _ (H a o (lt v) Y) ?_);rw[if_neg ∅];exact Z3 (Z3 q)
   have mem:∀x,x∈(f++[p]).map (·.1)↔x∈f.map (·.1)\/x=p.1:=λx=>by rw[Zc,Ym,Yk,map_nil,Yr]
   have%[o2,a8,a9,t2,bf,ag,a0,ai,n,T,a1,U,aj,al,a2|an]:=id O1;refine Z2 (wpAny_holding (Z2 (uy (ks:=J) (z:=p.1) (tk:=p.2) (g b o2 (lt C) ag) ai U aj al λq q1 q2=>Z2 (Z3 ?_))));cases q with
   | none=>
     have hz:p.1∉J:=λz=>by
      have%[u|hu]:=(ee n).mpr (T.mem_iff.mpr z);have%[e,he|q3]:=Xb hu;exact q1 rfl e he u q3
     rw[if_pos (by rfl)];refine Z2 (kc (z:=p.1) (tk:=p.2) M (by rw[show scanBound=4096 from rfl];lia) λl bb sb M2=>Z3 ?_);have H:=λc o B e=>(sb.2 c B).trans (g c o B e)
     refine m l _ H %[f++[p],rest,l,by rw[I,Zd];rfl,O,rfl,H,_,M2,?_|λx=>?_]
     .rw[Z8,Ye]
      split
      .lia
      .rw[Z8,Ye];lia
     .rw[mem];by_cases hx:x=p.1
      .subst hx;refine%[λ_=>%[.inr rfl|hz]|λ_=>?_]
       split
       .rename_i h;exact h
       .exact Yo _ Zl
      .split
       .rw[y];exact%[λh=>%[.inl h.1|h.2]|λh=>%[h.1.resolve_right hx|h.2]]
       .rw[Ym,Yr,y];exact%[λh=>let h:=h.resolve_right hx;%[.inl h.1|h.2]|λh=> .inl %[h.1.resolve_right hx|h.2]]
   | some j=>
     have hz:p.1∈J:=by
      have%[u|hu]:=q2 j rfl;exact T.mem_iff.mp ((ee n).mp %[u|Xc %[_,Z7 hu|rfl]])
     rw[if_neg ∅];refine Z3 (m h' _ g %[f++[p],rest,h',by rw[I,Zd];rfl,O,rfl,g,i,M,by rw[Z8];lia|λx=>?_]);rw[y,mem];refine%[λh=>%[.inl h.1|h.2]|λh=>%[h.1.resolve_right λe=>h.2 (e▸hz)|h.2]]
  .intro _ s' %[f,rest,h',I,ex,rfl,g,i,M,ml|y];obtain rfl:rest=[]:=by
    cases rest with
    | nil=>rfl
    | cons p rest=>cases ex
   rw[Zw]at I;exact Z3 (Z3 (hQ h' d i (λc o e=>g c o (Zr (Zt e)) (L c o e)) (λx=>by rw[y,<-I,pz.mem_iff]) M))
end
theorem sB:entryFor table "set.__sub__"=some Builtin.«frozenset.__sub__»:=entryFor_alias (id':="frozenset.__sub__") (by kernel_rfl) rfl (by decide +kernel) (by kernel_rfl)
section
variable{X:Cx}
def BQ(w:World):R2:=λx y H Q=>asR x λa=>asR y λb=>∃ks d,H a=some (ke w a ks)/\H b=some (ke w b d)/\ks.length<=900/\∀l c,H l=none->(∀x,x∈c↔x∈ks/\x∉d)->c.Nodup->Q (.ref l) (upd H l (ke w l c))
theorem DR:OpR X (binaryOp .Sub) (BQ X.w):=by
 intro pins s C H x y v u Q I m n h;have%[a,rfl|p]:=e7 h;have%[b,rfl,ks,E,r,w,e|q]:=e7 p;cases m;cases n;have%[S,_|_]:=(I.hok a _ r)
 have%[O,_|_]:=(I.hok b _ w)
 have f:∀{c:Addr} {j:ZB},bu X.w c j s.heap->s.TypeIs (.ref c) _:=λ{c j} h=>by
  have%[o,G,J,t,ss,g,i|_]:=h;exact%[o,g|i.1]
 refine wpAny_binaryOp_same (f S) (f O) F.fills_set_sub F.slot_set_sub (wpAny_call_entry F.slot_set_sub (f S) sB (Z2 (Z2 (Z3 (Z3 (Z2 (Z2 (sA S (sA O (Z2 (Z3 (Z2 (DQ S O e λh' d l k z M=>Z3 %[_,rfl,by simp,.ref ⇑s,_,I.stoodS (o:=ke X.w ⇑s l) (I.keptS k rfl rfl) (Zh _) %[M,?_|λ_ _ A B=>bu.keep A B],rfl|q _ l (I.hok.fresh (Zh _)) z M.nd])))))))))))) (F.args_set_sub_2 _ _));have%[o,_,_,_,_,g|_]:=M;exact%[o|g]
theorem Gp(h:X.w=w):OpQ X (binaryOp .Sub) (BQ w):=by subst h;exact⟨DR⟩
end
theorem dZ{X:Cx}(a:bF k X.A)(b:behindInMarks .NotIn o=false)(hi:QE X i ty)(c:QE X o d):QT X (.Compare i [.NotIn] [o] pos) (tB (rD ty d)):=
 ⟨z5 (yD (by have:=a.units;lia) hi.h c.h) b⟩
open PySem PySem.Spec PyProof.Rows PySem.SeqAt
section
variable{X:Cx}
end
section
variable{X:Cx}{K:ZA}{pos:Pos}
theorem ac(i:Nat){x:Str}(h:(X.N[i]?,X.env.scope.names.lookup x,x==("__debug__":Str),x==("__classdict__":Str))=(some x,some .local,false,false)):QE X (.Name x pos) (pd i):=by
 simp only[Prod.mk.injEq]at h;exact vn i h.1 (.inl h.2.1) h.2.2.1 h.2.2.2
theorem bO(i:Nat){x:Str}(h:(X.N[i]?,X.env.scope.names.lookup x,x==("__debug__":Str),x==("__classdict__":Str))=(some x,some .cell,false,false)):QE X (.Name x pos) (pd i):=by
 simp only[Prod.mk.injEq]at h;exact vn i h.1 (.inr (.inl h.2.1)) h.2.2.1 h.2.2.2
theorem aA{mg:ZC}{j k:Nat}{x:Str}{ps:ZB}{sp:Sp}{p:Pos}{e:Expr}{a:List Expr}{t:TA}(C:Cal X.prog X.w K mg X.base j x ps sp)(b:bF k X.A)(h:(X.K,X.mg,X.env.kindOf x,Nat.ble j k,x==("__debug__":Str),(e::a).any aW)=(K,mg,some .globalImplicit,true,false,false))(c:QA X (e::a) t):QE X (.Call (.Name x p) (e::a) [] pos) (pY sp [] E0 t):=by
 simp only[Prod.mk.injEq]at h;have%[rfl,rfl|h]:=h;exact calE C b h.1 h.2.1 h.2.2.1 h.2.2.2 c
theorem EA{mg:ZC}{j k:Nat}{x:Str}{ps:ZB}{sp:Sp}{p:Pos}{e:Expr}{a:List Expr}{t:TA}(C:DG X.prog X.w K mg X.base j x ps sp)(c:um K mg x)(b:bF k X.A)(h:(X.K,X.mg,X.env.kindOf x,Nat.ble (j+1) k,x==("__debug__":Str),(e::a).any aW)=(K,mg,some .globalImplicit,true,false,false))(d:QA X (e::a) t):QE X (.Call (.Name x p) (e::a) [] pos) (w4 (aH mg x) sp [] E0 t):=by
 simp only[Prod.mk.injEq]at h;have%[rfl,rfl|h]:=h;exact Hy C c b h.1 h.2.1 h.2.2.1 h.2.2.2 d
theorem uC{mg:ZC}{j k:Nat}{x m:Str}{ps:ZB}{sp:Sp}{a:Pos}{o:Expr}{b:TE}{pl:Sem Bool}(C:zd X.prog X.w K mg X.base j x m ps sp)(c:um K mg x)(e:bF k X.A)(h:(X.K,X.mg,Nat.ble j k)=(K,mg,true))
 (g:eval (.Call (.Attribute o m a) [] [] pos) X.env=(do
  let d<-eval o X.env
  standAt a.atName
  let(f,first)<-holding [d] (getMethod d m pl)
  callWith pos f first (backTo pos (starEach [] X.env)) (backToKw pos (keywordEach [] X.env)))) (i:QE X o b):QE X (.Call (.Attribute o m a) [] [] pos) (wZ (aH mg x) m sp [] E0 b yw):=by
 simp only[Prod.mk.injEq]at h;have%[rfl,rfl|h]:=h;exact Gd C c e h g i
theorem cbO{x:Str}{id:String}{r:List V->Hp->VK->Prop}{p:Pos}{e:Expr}{a:List Expr}{t:TA}(b:cB X (.builtin id) r)(c:X.mg x=none)(d:bootBuiltins x=some (.builtin id))(h:(X.env.kindOf x,x==("__name__":Str),x==("__debug__":Str),(e::a).any aW)=(some .globalImplicit,false,false,false))(f:QA X (e::a) t):QE X (.Call (.Name x p) (e::a) [] pos) (tCB r t):=by
 simp only[Prod.mk.injEq]at h;exact cbE b h.1 c d h.2.1 h.2.2.1 h.2.2.2 f
theorem ctO{x:Str}{T:String}{r:List V->Hp->VK->Prop}{p:Pos}{e:Expr}{a:List Expr}{t:TA}(b:cB X (.type T) r)(c:X.mg x=none)(d:bootBuiltins x=some (.type T))(h:(X.env.kindOf x,x==("__name__":Str),x==("__debug__":Str),(e::a).any aW)=(some .globalImplicit,false,false,false))(f:QA X (e::a) t):QE X (.Call (.Name x p) (e::a) [] pos) (tCB r t):=by
 simp only[Prod.mk.injEq]at h;exact ctE b h.1 c d h.2.1 h.2.2.1 h.2.2.2 f
theorem bmO{o e:Expr}{c:List Expr}{f:TE}{t:TA}{name:Str}{a b:Pos}{T id:String}{r:V->List V->Hp->VK->Prop}(g:PlainAttrs T)(slot:Slot T name id)(d:typeOf (.builtin id)=pure (.type "method_descriptor"))(i:MtQ X id r)
 (h:(X.K,fT o,(e::c).any aW,Nat.blt (e::c).length 30,a.endLine==b.line)=(K,false,false,true,true)) (j:QE X o f) (l:QA X (e::c) t):QE X (.Call (.Attribute o name a) (e::c) [] b) (tBM K T r f t):=by
 simp only[Prod.mk.injEq]at h;have%[rfl|h]:=h;exact bmE rfl g slot d i h.1 h.2.1 h.2.2.1 h.2.2.2 j l
theorem aG(i:Nat){x:Str}{e:Expr}{b:TE}{a:Pos}(c:X.N.Nodup)(h:(X.N[i]?,X.env.scope.names.lookup x,fS e)=(some x,some .local,false))(d:QE X e b):QS X (.Assign [.Name x a] e pos) (pf b (jA i)):=by
 simp only[Prod.mk.injEq]at h;exact jN i c h.1 (.inl h.2.1) (.inr h.2.1) h.2.2 d
theorem aL(i:Nat){x:Str}(a:X.N.Nodup)(h:(X.N[i]?,X.env.scope.names.lookup x)=(some x,some .local)):QG X (.Name x pos) (jA i):=by
 simp only[Prod.mk.injEq]at h;exact tG i a h.1 (.inl h.2) (.inr h.2)
end
section
#where
variable{K:ZA}{x C:Addr}{name:Str}{v:Value}{ox:Obj}
end
section
variable{X:Cx}{o value:Expr}{nm:Str}{ta tv:TE}{C:Addr}{pos pos':Pos}
end
section
variable{P:Program}{w:World}{K:ZA}{mg:ZC}{base:Heap}{x qual:Str}{st:Stmt}{N ps:ZB}{k:Nat}{sp:Sp}
end
theorem sC(r:aE xs us)(h:j<us.toArray.size):∃x,xs[j]? =some x/\aO x us.toArray[j]:=by
 have l:=h;have a:j<xs.length:=r.length▸l;have%[u,b|c]:=r.get (i:=j) (x:=xs[j]) ∅
 simp_all
section
#version
end
section
variable{X:Cx}
abbrev HB:R2:=λx y H Q=>∃a b xs,x= .ref a/\y= .ref b/\H a=some (.lst xs)/\H b=some (.lst [])/\Q (.bl (decide (xs=[]))) H
theorem Gq(p:X.A.units+64<cLine):OpR X (compareOp .Eq) HB:=by
 intro pins s r H x y v u Q I d f h;have%[a,b,xs,rfl,rfl,m,n|q]:=h;cases d;cases f;have%[us,d,i|_]:=I.list (SqL.of m);have%[vs,f,l|_]:=I.list (SqL.of n);obtain rfl:vs=[]:=length_eq_zero_iff.mp f.length.symm;by_cases g:xs=[]
 .subst g;obtain rfl:us=[]:=length_eq_zero_iff.mp d.length.symm;have c:=RcAt.lists (A:=X.A) (e:=λ_=>true) i.isList l.isList rfl ⋯ λj o t=>absurd o (Yw _)
  exact c _ _ _ _ %[.bl _,H,I,rfl|q]
 .rw[Zg g]at q;have c:=RcAt.lists_lengths (A:=X.A) i.isList l.isList (by
   have:us.length≠0:=d.length▸λq=>g (length_eq_zero_iff.mp q)
   simpa using this) ⋯
  exact c _ _ _ _ %[.bl _,H,I,rfl|q]
theorem EB(a:bF k X.A):OpQ X (compareOp .Eq) HB:=⟨Gq a.units⟩
end
def HC(d:TE):TE:=λe H Q=>d e H λv b=>∃a ss,v= .ref a/\b a=some (.lst (ss.map λp=>V.ref p.1))/\aP b ss/\ss.length<=100/\(∀p∈ss,p.2.length<=3/\∀z∈p.2,z.length<=30/\∀c∈z.cps.toList,c<16^8)/\∀z,z.length<=100000->Q (.str z) b
theorem nZ:∀{zs:ZB} {its:ZG},aE (zs.map V.str) its->ReadsAll h its (zs.map PyData.str) []
 |[],_,.nil=> .nil
 | z::zs,_,.cons r v=>by
   have%[t|rfl]:=r;exact .cons (.str _ _) (nZ v)
noncomputable def uD(p:Addr×ZB):PyData:= .tuple (p.2.map PyData.str)
theorem n6{X:Cx}(I:Inv X pins g H s):∀{ss:ZH} {its:ZG},aP H ss->aE (ss.map λp=>V.ref p.1) its->∃as,ReadsAll s.heap its (ss.map uD) as
 |[],_,_,.nil=>%[_|.nil]
 | p::ss,_,t,.cons r v=>by
   cases r;have%[us,a,%[%[cls,h,data|i],b,c,n|d]|_]:=I.tuple (SqT.of (t p (Zl ..)).2);have%[bs|e]:=n6 I (λq f=>t q (Zj _ f)) v;exact%[_|.cons (.tuple b c d (nZ a)) e]
theorem wv(zs:ZB):PyData.showableAll (zs.map PyData.str)=true/\PyData.hasDictAll (zs.map PyData.str)=false/\PyData.depthAll (zs.map PyData.str)=0:=by
 induction zs with
 | nil=>exact%[rfl,rfl|rfl]
 | cons z zs a=>simp only[Yk,PyData.showableAll,PyData.hasDictAll,PyData.depthAll,a.1,a.2.1,a.2.2];exact%[rfl,rfl|rfl]
theorem ww{zs:ZB}(h:∀z∈zs,z.length<=30/\∀c∈z.cps.toList,c<16^8):PyData.leavesShortAll 8 (zs.map PyData.str)=true/\PyData.weightAll (zs.map PyData.str)<=31*zs.length:=by
 induction zs with
 | nil=>exact%[rfl|Zh _]
 | cons z zs d=>
   have%[a|b]:=d λy e=>h y (Zj _ e)
   have%[l|c]:=h z (Zl ..);simp only[Yk,PyData.leavesShortAll,PyData.weightAll,PyData.weight,a,Zq,Bool.and_true];have:z.length=z.cps.size:=rfl;exact%[all_eq_true.mpr λx f=>Ze (c x f)|⋯]
theorem wx{ss:List _}(h:∀p∈ss,p.2.length<=3/\∀z∈p.2,z.length<=30/\∀c∈z.cps.toList,c<16^8):PyData.showableAll (ss.map uD)=true/\PyData.hasDictAll (ss.map uD)=false/\PyData.depthAll (ss.map uD)<=1/\PyData.leavesShortAll 8 (ss.map uD)=true/\PyData.weightAll (ss.map uD)<=94*ss.length:=by
 induction ss with
 | nil=>exact%[rfl,rfl,X2 _,rfl|Zh _]
 | cons p ss f=>
   have%[a,b,c,d|e]:=f λy g=>h y (Zj _ g)
   have%[l|z]:=h p (Zl ..);have%[i,j|m]:=wv p.2;have%[g1|g2]:=ww z;simp only[Yk,uD,PyData.showableAll,PyData.showable,PyData.hasDictAll,PyData.hasDict,PyData.depthAll,PyData.depth,PyData.leavesShortAll,PyData.leavesShort,PyData.weightAll,PyData.weight,i,j,m,g1,Zq];exact%[a,b,⋯,d|⋯]
theorem HD{X:Cx}(f:X.A.guards=some [])(M:X.A.units+64<cLine)(g:QE X e i):QE X (.FormattedValue e 114 none pos) (HC i):=by
 refine⟨λpins s j H Q I h=>wpAny_FormattedValue_repr (thP (g.h pins s j H _ I h) λu N v l b r ⟨a,ss,m,o,p,O,w,q⟩=>?_)⟩;subst m;cases r;have%[us,y,pl|_]:=b.list (SqL.of o);have%[%[cls,T,data|U],z,A,n|B]:=pl.isList;have%[as|C]:=n6 b p y;have%[E,G,Y,J|f5]:=wx w;have len:=PyData.shown_le 8 ∅ (.list _) (by simpa only[PyData.leavesShort]using J);simp only[PyData.weight]at len;have c:(PyData.shown (.list (ss.map uD))).length<=100000:=by lia
 have d:(PyData.shown _).length<=sizeLine:=Ya c (by decide);exact pyReprObj_of_reads (.list z A B C) (by simpa only[PyData.showable]using E) (λx=>by simp only[PyData.hasDict,G]at x;cases x) f (by simp only[PyData.depth];lia) (λ_ _ x=>x) (λh' t tk k=>formatField_str (λt' L=>%[.str _,l,(b.kept k).tok _,%[_|rfl]|q _ c]) d) d
section
#version
theorem BR{k:ZB}{x:V}{j:Nat}(h:(k.map V.str)[j]? =some x):∃z,k[j]? =some z/\x= .str z:=by
 rw[Zk]at h;have%[z,e|rfl]:=map_eq_some_iff.mp h;exact%[z,e|rfl]
theorem uE{k l:ZB}(h:k.map V.str=l.map V.str):k=l:=(List.map_inj_right λ_ _=>V.str.inj).mp h
theorem BS(I:Inv X pins σ H s){A:Around}{a b:Addr}{k l:ZB}(g:H a=some (.tup (k.map V.str)))(f:H b=some (.tup (l.map V.str)))(q:A.units<cLine):EqAt A s (.ref a) (.ref b) (decide (k=l)):=by
 by_cases e:a=b
 .subst e;rw[g]at f;rw[Ze (uE (HO.tup.inj (Z9 f)))];exact EqAt.same _
 .have%[us,m,r|_]:=I.tuple (SqT.of g);have%[vs,n,t|_]:=I.tuple (SqT.of f);have d:=RcAt.tuples r t q λj o p=>by
   have%[x,ex|v]:=sC m o;have%[y,w|B]:=sC n p;have%[z,C|rfl]:=BR ex;have%[u,E|rfl]:=BR w;have:=AI (A:=A.in1) (s:=s) v B rfl rfl;rw[show eqV _ _=decide (k[j]? =l[j]?) by rw[C,E];by_cases c:z=u<;> simp[eqV,c]]at this;exact this
  rw[show((List.range _).all _&&us.toArray.size==vs.toArray.size)=decide (k=l) by
   rw[Zo,Zo,<-m.length,<-n.length,Bool.eq_iff_iff,Zu,all_eq_true,decide_eq_true_iff];refine%[λ⟨o,p⟩=>ext_getElem? λi=>?_|λh=>by lia]
   grind]at d
  exact EqAt.of_refs e d
end
section
variable{X:Cx}
abbrev xD:R2:=λx y H Q=>∃(a p:Addr) (k:ZB) (ws:ZH),x= .ref a/\y= .ref p/\H a=some (.tup (k.map V.str))/\H p=some (.lst (ws.map λt=>V.ref t.1))/\(∀t∈ws,H t.1=some (.tup (t.2.map V.str)))/\k∈ws.map (·.2)/\Q (.bl false) H
open Classical in
theorem zv(f:X.A.units+64<cLine):OpR X (compareOp .NotIn) xD:=by
 intro pins s C H x y v u Q I g i h;have%[a,p,k,ws,rfl,rfl,l,m,hw,n|q]:=h;cases g;cases i;have%[us,r,pl|_]:=I.list (SqL.of m);have of:∀y∈us,∃t∈ws,y= .ref t.1:=λy c=>by
  have%[j,d|rfl]:=getElem_of_mem c;have%[x,ex|rr]:=sC r (d);rw[Zk]at ex;have%[t,b|rfl]:=map_eq_some_iff.mp ex;exact%[t,Z7 b|(rr)]
 refine notIn_listAt (λv=>decide (∃t∈ws,v= .ref t.1/\t.2=k)) pl.isList (λy c=>?_) %[.bl false,H,I,?_|q]
 .have%[t,b|rfl]:=of y (by simpa using c);have:=BS I (A:=X.A.in1) (hw t b) l ⋯;rw[show decide _=decide (t.2=k)from ?_]
  .exact this
  .rw[Bool.eq_iff_iff,decide_eq_true_iff,decide_eq_true_iff];refine%[λ⟨t',o,w,z⟩=>?_|λh=>%[t,b,rfl|h]];have e:=hw t' o;rw[<-Value.ref.inj w,hw t b]at e;rw[<-z,uE (HO.tup.inj (Z9 e))]
 .have%[t,b|e]:=Xb n;have%[j|d]:=X3 b;have%[u,f|B]:=r.get (by rw[Zk,d];rfl);cases B;rw[show us.toArray.any _=true from ?_]
  .rfl
  .rw[List.any_toArray,any_eq_true];exact%[_,Z7 f|Ze %[t,b,rfl|e]]
theorem BT(a:bF k X.A):OpQ X (compareOp .NotIn) xD:=⟨zv a.units⟩
theorem qG:∀{a:ZL} {us:ZG},aE (a.map V.int) us->∃ps:List (Int×Tok),ps.map (·.1)=a/\us=ps.map λp=>Value.int p.1 p.2
 |[],_,.nil=>%[[],rfl|rfl]
 | n::a,_,.cons r v=>by
   have%[t|rfl]:=r;have%[ps,rfl|rfl]:=qG v;exact%[(n,t)::ps,rfl|rfl]
theorem zw(l:X.calm=true):bW X (.builtin "min") (λxs H Q=>∃(p:Addr) (a:ZL),xs=[.ref p]/\SqL X.K H p (a.map V.int)/\0<a.length/\∀m∈a,(∀y∈a,m<=y)->Q (.int m) H):=by
 intro pins s C H xs us Q I r h;have%[p,a,rfl,c,d|q]:=h;have%[u,rfl|n]:=di r;cases n;have%[its,o,t|E]:=I.list c;have%[ps,rfl|rfl]:=qG o;rw[Z5]at d;have%[w|e]:=argBest_lt _ (ps.length-1);refine min_intList (I.ok.hd l) ((show intItems ps.toArray=(ps.map λp=>Value.int p.1 p.2).toArray by simp[intItems])▸t.isList) d λv h' tk f k=>?_
 generalize argBest _ _=b at w e f
 have z:∀i h,numAt ps.toArray i=ps[i].1:=λi h=>by simp[numAt,h]
 have g:b<ps.length:=by lia
 have A:v= .int ps[b].1 ps[b].2:=by simpa [intItems,g,eq_comm]using f
 refine%[.int _,H,I.kept k,%[_|A]|q _ (Xc %[_,Y6 g|rfl]) λy B=>?_];have%[p,c|rfl]:=Xb B;have%[j,G|rfl]:=getElem_of_mem c;have:=e j ⋯
 simp_all
theorem Gr{K:ZA}(h:X.K=K)(b:X.calm=true):cB X (.builtin "min") (λxs H Q=>∃(p:Addr) (a:ZL),xs=[.ref p]/\SqL K H p (a.map V.int)/\0<a.length/\∀m∈a,(∀y∈a,m<=y)->Q (.int m) H):=by subst h;exact⟨zw b⟩
end
noncomputable abbrev Cx.tryV(X:Cx)(pn:ZE)(E:St->XK):Cx:={X with pn:=pn,xe:=λe s'=>∃pins a H s,Inv ({X with pn:=pn}) pins a H s/\CXO X.prog X.w X.stack H s (E a) e s'}
def EC(CX:CXT)(X:Cx)(E:St->XK):Prop:=∀pins (a:St) H s e s',Inv X pins a H s->CX X.stack H s (E a) e s'->X.xe e s'
theorem qH{X:Cx}:EC (CXO X.prog X.w) (X.tryV pn E) E:=by
 intro pins a H s e s' I %[b,B,cls,c,d,rfl,F|q];exact%[pins,a,H,s,%[Hs I.ok _ _,I.os,I.bare,I.base,I.loc,I.cell,I.free,I.freeC,I.pin,I.hok|I.len],b,B,cls,c,d,rfl,F|q]
def ED(K:ZA)(D:Addr)(E:St->XK)(len i:Nat)(e ts:TS):TS:=λDn f H=>e Dn f H/\∀b cls d c,E b cls d c->∃C,cls= .ref C/\subIn K (.ref C) (.ref D)=some true/\
 ∀a,b.length=len->c a=none->ts (Dn.gone i) (b.set i (some (.ref a))) (upd c a (ExH a C d))
theorem DS{X:Cx}{D:Addr}(l:X.stack=X.env::X.outer)(hf:X.env.frame=some X.env.locals)(hN:X.N.Nodup)(hi:X.N[i]? =some n)
 (hk:X.env.kindOf n=some .local) (hl:X.env.scope.names.lookup n=some .local) (hg:Gl X x) (hm:X.mg x=some (.ref D)) (c:Cat X.K D) (m:∀pn,PSs (X.tryV pn E) G tb) (h:∀a,PSs (X.suiteX a) (L::o) ts)
 (ab:(x==("__debug__":Str))=false):
 PS X (.Try G [.ExceptHandler (some (.Name x p)) (some n) (L::o) M] [] [] pos) (ED X.K D E X.N.length i tb ts):=by
 intro pins s σ H Dn I %[h1|h2];refine wpAny_Try_except (wpAny_mono (m _ [] s σ H Dn (I.toPn _) h1) (λf s1 q=>?_) λe s1 q=>?_)
 .have q':=SP.ofPn q;cases f with
  | next=>exact wpAny_execs_nil q'
  | brk=>exact q'
  | cont=>exact q'
  | ret u=>exact q'
 .have%[ae,ag,H1,s2,I1,y,B,cls,dx,H',rfl,F|qE]:=q;have%[C,rfl,N|ai]:=h2 ag cls dx H' qE;refine xp (.inr rfl) (l▸I.ok.frames) hf (l▸F).up λha ua O=>rP ua λhb ub T=>?_
  have%[un|aj]:=F.fly ub.1 (O.trans T);have J:=(I1.call' (s':=(s1>>>hb)) F.os un aj F.bare λb z=>absurd z ∅).ofPn;have%[_,_,_,oe,vs,eb,al,a3,a4|_]:=id ub;refine wpAny_handleBy_cons (codeAny_handlers_test (fP (J.toSuite y) hg hm (Bh J.kIn c.ty c.ex c.cd eb al N (codeAny_handlers_suite_as (rP ub λhc uc an=>?_))) ab)) (by intro q;cases q);have%[as|U]:=F.fly uc.1 ((O.trans T).trans an);have%[_,_,_,oc,vc,ec,a0,a1,a2|_]:=id uc;have Y:=I1.ofPn;refine j2 (v:= .ref y) (Y.stood3 (λ_ z=>z) ((I1.call' (s':=(s1>>>hc)) F.os as U F.bare λb z=>absurd z ∅).ofPn) F.free F.new (ExH.ok ec a0 a1 a2)) hN hi (.inl hl) rfl (λs4 J4=>wpAny_mono (h y pins s4 _ _ _ (J4.toSuite y) (ai y Y.len F.free)) (λf s5 q5=>?_) λ_ _ z=>z.elim) (.inr hl);have d:∀{g:St} {A:Hp} {Q:Unit->Shared->Prop},Inv (X.suiteX y) pins g A s5->(∀s',Inv X pins _ A s'->Q () s')->
   (~~~X) (do bindName X.env n _;unbindBehindTheSuite X.env n M) Q X.xe s5:=λj h5=>Du (j.ofSuite I.ok) hN hi hk h5
  cases f with
  | next=>
    have%[g,A,j|t]:=q5;exact d j λs' w=>%[_,_,w|t]
  | brk=>
    have%[g,A,j|t]:=q5;exact d j λs' w=>%[_,_,w|t]
  | cont=>
    have%[g,A,j|t]:=q5;exact d j λs' w=>%[_,_,w|t]
  | ret u=>
    have%[v,g,A,j,r|t]:=q5;exact d j λs' w=>%[v,_,_,w,r|t]
theorem tryV{X:Cx}{D:Addr}(E:St->XK)(f:X.stack=X.env::X.outer)(m:X.env.frame=some X.env.locals)(o:X.N.Nodup)(hi:X.N[i]? =some n)
 (q:X.env.kindOf n=some .local) (r:X.env.scope.names.lookup n=some .local) (s:Gl X x) (t:X.mg x=some (.ref D)) (c:Cat X.K D) (j:(x==("__debug__":Str))=false) (d:∀pn,QSs (X.tryV pn E) g u) (b:∀a,QSs (X.suiteX a) (h::e) ts):
 QS X (.Try g [.ExceptHandler (some (.Name x p)) (some n) (h::e) l] [] [] pos) (ED X.K D E X.N.length i u ts):=
 ⟨DS f m o hi q r s t c (λpn=>(d pn).h) (λa=>(b a).h) j⟩
def BU(sp:Sp)(E:St->XK)(t:TA):TE:=λa H Q=>t a H λvs b=>sp vs b Q (E a)
theorem EE{X:Cx}(w:EC (CXO X.prog X.w) X E)(C:v8 X.prog X.w X.K X.mg X.base j x ps sp)(y:bF k X.A)(z:Gl X x)(c:Nat.ble j k=true)
 (d:(x==("__debug__":Str))=false) (g:(e::n).any aW=false) (A:QA X (e::n) t):QE X (.Call (.Name x p) (e::n) [] pos) (BU sp E t):=by
 rw[Zv,Yy]at g;have%[f,M,F,B,G|J]:=C.ex;refine⟨λpins s i H Q I h=>wpAny_Call_Name_kw (fP I z B (callWith_K I.ok.mod.kin G (thP (A.h pos pins s i H _ I h) λus l vs m a r q=>%[a.kIn|?_]) (aw g.1) (du g.2)) d)⟩;have o:=r.append .nil;have v:sp (vs++[]) m Q (E i):=by rw[Zw];exact q
 refine wpAny_call (codeAny_mono (F.run X.A X.stack l m _ _ _ Q _ (y.mono (Y7 c)) a.env0 (J l us a.kIn (o.length▸F.len _ _ _ _ v)) o v) λr s' b=>?_);cases r with
 | error e=>exact w pins i m l e s' a b
 | ok L=>
   cases L with
   | ret u=>exact a.after b
   | next=>exact False.elim b
   | brk=>exact False.elim b
   | cont=>exact False.elim b
noncomputable def pH(L:List Addr)(c:Addr->Obj)(H:Hp):Hp:=λb=>if b∈L then(match H b with|some (.dK a)=>some (.frz (c b) (.dK a))|x=>x)else H b
theorem mR(h:b∈L)(e:H b=some (.dK a)):pH L c H b=some (.frz (c b) (.dK a)):=by
 unfold pH;rw[if_pos h,e]
theorem n8(h:b∉L):pH L a H b=H b:=if_neg h
theorem ii(h:∀a,H b≠some (.dK a)):pH L d H b=H b:=by
 unfold pH;by_cases c:b∈L
 .rw[if_pos c];cases e:H b with
  | none=>rfl
  | some o=>cases o<;> first|rfl|exact(h _ e).elim
 .rw[if_neg c]
section
variable{P:Program}{w:World}{K:ZA}{mg:ZC}{base:Heap}{k:Nat}{f:Addr}{fd:FuncData}{ps:ZB}{sp:Sp}
theorem DT(x:HOk P w H h):HOk P w (pH L (λb=>(h.get? b).getD default) H) h:=by
 intro b o e;have st:∀{b:Addr} {o:HO},bN P w H h b o->bN P w (pH L (λb=>(h.get? b).getD default) H) h b o:=λq=>q.stay (λ_ _ _ q=>q) (λc q=>by rw[ii (λa z=>by lia)];exact q) λc xs q=>by rw[ii (λa z=>by rw[q]at z;cases z)];exact q
 by_cases c:b∈L
 .by_cases d:∃a,H b=some (.dK a)
  .have%[a|d]:=d;rw[mR c d]at e;cases e;have%[i|g]:=(x b _ d).there;exact%[by rw[g];rfl|st (x b _ d)]
  .rw[ii (λa z=>d %[a|z])]at e;exact st (x b o e)
 .rw[n8 c]at e;exact st (x b o e)
theorem Gu(u:Un fs [] H c h h'):Un fs [] H (pH L g c) h h':=by
 refine%[u.keep,u.slot,λb o e n d=>?_,u.there,λb xs e=>?_,λb o v e=>?_|λb q e=>?_]
 .have:=u.free b o e n d;rw[ii (λa z=>by lia)];exact this
 .have:=u.tups b xs e;rw[ii (λa z=>by rw[this]at z;cases z)];exact this
 .have:=u.frzs b o v e;rw[ii (λa z=>by rw[this]at z;cases z)];exact this
 .have%[m|this]:=u.tbls b q e;exact%[m|by rw[ii (λa z=>by rw[this]at z;cases z)];exact this]
theorem dj.freeze(F:dj P w K mg base CX0 k f fd ps sp):dj P w K mg base CX0 k f fd ps (λvs H Q E=>sp vs H (λv b=>∃L,∀c,Q v (pH L c b)) E):=by
 refine%[λvs H Q E=>F.len vs H _ E|λA outer s H args us vs Q E d g h i j=>codeAny_mono (F.run A outer s H args us vs _ E d g h i j) λr s' a=>?_];cases r with
 | error e=>exact a
 | ok l=>
   cases l with
   | ret u=>
     have%[v,y,m,n,o,p,q,L|t]:=a;exact%[v,_,m,n,Gu o,DT p,q|t _]
   | next=>exact a
   | brk=>exact a
   | cont=>exact a
theorem dj.frozen(F:dj P w K mg base CX0 k f fd ps sp):dj P w K mg base CX0 k f fd ps (λvs H Q E=>∃d a,vs.length=ps.length/\H d=some (.dK a)/\∀o,sp vs (upd H d (.frz o (.dK a))) (λv J=>Q v (upd J d (.dK a))) E):=by
 refine%[λvs H Q E ⟨d,a,l,_⟩=>l|λA outer s H args us vs Q E L g y M ⟨d,a,_,B,N⟩=>?_];have%[o|O]:=(g.hok d _ B).there;have h:∀{b:Addr},H b=none->b≠d:=λe z=>by rw[z,B]at e;cases e
 have ne:∀{b:Addr} {u:HO},H b=some u->(∀q,u≠ .dK q)->b≠d:=λe n z=>by rw[z,B]at e;cases e;exact n _ rfl
 have st:∀{b:Addr} {u:HO},bN P w H s.heap b u->bN P w (upd H d (.frz o (.dK a))) s.heap b u:=λq=>q.stay (λ_ _ _ q=>q) (λc q=>(ak (ne q λ_ z=>nomatch z))▸q) λc xs q=>(ak (ne q λ_ z=>nomatch z))▸q
 have C:vy P w K mg base A outer s (upd H d (.frz o _)):=⟨g.frames,g.mod,λb i e=>%[(g.bs b i e).1|by rw[ak (h (g.bs b i e).2)];exact(g.bs b i e).2],g.bsz,g.funs,λb y=>by rw[ak (h (g.frf b y))];exact g.frf b y,λb u e=>by
  by_cases c:b=d
  .subst c;rw[aa]at e;cases e;exact%[O|st (g.hok b _ B)]
  .rw[ak c]at e;exact st (g.hok b u e),g.bare⟩
 refine codeAny_mono (F.run A outer s _ args us vs _ E L C y M (N o)) λr s' m=>?_
 cases r with
 | error e=>exact m
 | ok T=>
   cases T with
   | next=>exact m
   | brk=>exact m
   | cont=>exact m
   | ret u=>
     have%[v,G,U,Y,j,I,h5|h6]:=m;have hf:=j.frzs d o _ aa;have p:∀{b:Addr} {u:HO},G b=some u->(∀o q,u≠ .frz o q)->b≠d:=λe n z=>by grind
     have t:∀{b:Addr} {u:HO},bN P w G s'.heap b u->bN P w (upd G d (.dK a)) s'.heap b u:=λq=>q.stay (λ_ _ _ q=>q) (λc q=>(ak (p q λ_ _ z=>nomatch z))▸q) λc xs q=>(ak (p q λ_ _ z=>nomatch z))▸q
     refine%[v,_,U,Y,%[λb i e n=>j.keep b i e ((ak (h n))▸n),λb i e n=>j.slot b i e ((ak (h n))▸n),λb i e n hx=>?_,j.there,λb xs e=>?_,λb i u e=>?_|λb q e=>?_],λb u e=>?_,h5|h6]
     .rw[ak (h n)];exact j.free b i e ((ak (h n))▸n) hx
     .have n:=ne e λ_ z=>nomatch z
      rw[ak n];exact j.tups b xs ((ak n)▸e)
     .have n:=ne e λ_ z=>nomatch z
      rw[ak n];exact j.frzs b i u ((ak n)▸e)
     .have n:=ne e λ_ z=>nomatch z
      rw[ak n];exact j.tbls b q ((ak n)▸e)
     .by_cases c:b=d
      .subst c;rw[aa]at e;cases e;exact t (I b _ hf).2
      .rw[ak c]at e;exact t (I b u e)
end
noncomputable def Itk(d:Addr)(o:Obj)(a:List (Key×V)):It:=⟨λi H=>H d=some (.frz o (.dK a))/\i<a.length,λi H x b=>b=H/\∃k v,a[i]? =some (k,v)/\x=kV k,λi H=>H d=some (.frz o (.dK a))/\a.length<=i⟩
def qI(c:TE):TI:=λe H R=>c e H λv b=>∃d o a,v= .ref d/\b d=some (.frz o (.dK a))/\R (Itk d o a) b
theorem xE(h:jz k v=true):aO (kV k) v:=by
 rcases aY h with⟨i,t,rfl,rfl⟩|⟨x,t,rfl,rfl⟩
 .exact%[t|rfl]
 .exact%[t|rfl]
theorem BV{a:List _}{vs:List _}(r:KV a vs){i:Nat}{k:Key}{v:V}(e:a[i]? =some (k,v)):∃u,vs[i]? =some (k,u)/\aO v u:=by
 induction r generalizing i with
 | nil=>cases e
 | @cons p q ps qs b t c=>
   cases i with
   | zero=>
     obtain rfl:p=(k,v):=Z9 e;exact%[q.2,by rw[show k=q.1 from b.1];rfl|b.2]
   | succ i=>exact c e
theorem i5(r:KV a vs):a.length=vs.length:=by
 induction r with
 | nil=>rfl
 | cons _ _ b=>simp_all
section
variable{P:Program}{w:World}{K:ZA}{tg:Expr}
theorem sD{X:Cx}(I:Inv X pins n H s)(e:H d=some (.frz o (.dK a)))(b:o.data= .dict f h):∃vs,KV a vs/\s.heap.DictAt (aN X.prog X.w) d vs h:=by
 have%[g,p,q,vs,r,t,i,j,g',l,c|m]:=I.hok d _ e;rw[g]at g';cases g';rw[b]at c;cases c;exact%[vs,r,_,f,g,l,b|m]
theorem BW(d it:Addr)(o:Obj)(kvs:List _):mX P w K tg (Itk d o kvs) [it] it (λi h=>∃es ep,o.data= .dict es ep/\h.IsKeyIter it d i kvs.length ep) where
 mem:=by simp
 obj:=λi h st b hb=>by
  have e:=by simpa using hb
  subst e;have%[_,_,_,o,e,c|d]:=st;exact%[o,e|λv z=>by rw[d]at z;cases z]
 keep:=λi h h' ⟨es,ep,ho,st⟩ k=>%[es,ep,ho|st.at λo e=>k it ∅ o e]
 item:=by
  intro X hP hw hK hc i pins s σ H E I hf st hg;subst hP hw hK;have%[es,ep,ho|st]:=st;have%[hd|hi]:=hg;have%[vs,r|da]:=sD I hd ho;have ln:=i5 r;have%[u,hu|ru]:=BV r (Z4 hi);have%[f0,f1,f2,f3,f4|f5]:=hf it ∅;rw[ln]at st;refine wpAny_pyNext_dict_item st da hu λkey h' hk st' sb=>?_
  rw[<-ln]at st';have%[o',e,c|dd]:=id st';exact%[key,rfl|pV e c dd (by decide) %[_,H,(I.turned (λb o hb e=>(sb.2 b hb).trans e) f0 f1 f3 f4 f5),xE hk,%[rfl,_,_,Z4 hi|rfl],%[es,ep,ho|st']|λb hb=>(hf b hb).1]]
 done:=by
  intro X hP hw hK hc i pins s σ H E I hf st hg;subst hP hw hK;have%[es,ep,ho|st]:=st;have%[hd|hi]:=hg;have%[vs,r|da]:=sD I hd ho;have ln:=i5 r;have%[f0,f1,f2,f3,f4|f5]:=hf it ∅;rw[ln]at st;exact wpAny_pyNext_dict_end (I.ok.hd hc) st da (X7 ⋯) λh' eb=>%[rfl|I.turned (λb o hb e=>eb b o hb e) f0 f1 f3 f4 f5]
 self:=λ_ _ _ _ _ ⟨_,_,_,st⟩ h=>wpAny_pyIter_keyiter st h
theorem DU{X:Cx}(n:PE X l p):PI X tg l (qI p):=by
 intro pins s t H R I h;refine thP (n pins s t H _ I h) λv c x u a y z=>?_
 have%[d,o,f,e,A|q]:=z;subst e;cases y;have%[g,M,B,vs,r,C,i,j,g',E,m|G]:=a.hok d _ A;have J:c.heap.DictAt _ d vs j:=%[C,i,g',E,m|G]
 rw[g]at g';cases g';refine wpAny_pyIter_dict B J %[⇑c,[⇑c],_,_,u,rfl,a.kept λb o e=>Z6 _ e,BW d _ o f,%[i,j,m,_,Zi _ rfl,rfl|by rw[i5 r];rfl],λb L=>?_|q];have e:=by simpa using L
 subst e;exact a.fpOk (Zh _) (a.hok.fresh (Zh _))
theorem xF{X:Cx}(a:QE X l b):QI X tg l (qI b):=⟨DU a.h⟩
end
noncomputable def Iti(d:Addr)(o:Obj)(a:List (Key×V)):It:=⟨λi H=>H d=some (.frz o (.dK a))/\i<a.length,λi H v b=>∃k x T,a[i]? =some (k,x)/\H T=none/\v= .ref T/\b=upd H T (.tup [kV k,x]),λi H=>H d=some (.frz o (.dK a))/\a.length<=i⟩
def wz(c:TE):TI:=λe H R=>c e H λv b=>∃d o a,v= .ref d/\b d=some (.frz o (.dK a))/\R (Iti d o a) b
theorem sE:entryFor table "dict_itemiterator.__iter__"=some Builtin.«dict_keyiterator.__iter__»:=
 entryFor_alias (id (Eq.refl (fastTable "dict_itemiterator.__iter__"))) (Eq.refl ("dict_itemiterator.__iter__".cutAt '#')) (by decide +kernel) (id (Eq.refl (fastTable "dict_keyiterator.__iter__")))
section
variable{P:Program}{w:World}{K:ZA}{elts:List Expr}{kt:Nat}{tp:Pos}
theorem wA(d it:Addr)(o:Obj)(kvs:List (Key×V)):mX P w K (.Tuple elts kt tp) (Iti d o kvs) [it] it (λi h=>∃es ep ok ov,o.data= .dict es ep/\IsItemIter h it d i kvs.length ep ok ov) where
 mem:=by simp
 obj:=λi h st b hb=>by
  have e:b=it:=by simpa using hb
  subst e;have%[_,_,_,_,_|e]:=st;exact%[_,e|λv z=>nomatch z]
 keep:=λi h h' ⟨es,ep,ok,ov,ho,st⟩ k=>%[es,ep,ok,ov,ho|k it ∅ _ st]
 item:=by
  intro X hP hw hK hc i pins s σ H E I hf st hg;subst hP hw hK;have%[es,ep,ok,ov,ho|st]:=st;have%[hd|hi]:=hg;have%[vs,r|da]:=sD I hd ho;have ln:=i5 r;have%[u,hu|ru]:=BV r (Z4 hi);have ilt:it<⇑s:=Zt st;rw[ln]at st;refine wpAny_pyNext_items_item st da hu λkey h1 hk st1 ht1 hz1 hk1=>%[_,rfl|wpAny_letOwnedTupleGo_items (s:=(s>>>h1)) st1 λh2 st2 sb2=>?_]
  replace sb2:SameBut it h1 h2:=sb2;have kk:∀b o,b∉[it]->s.heap.get? b=some o->h2.get? b=some o:=λb o hb q=>by
   have hb:b≠it:=by simpa using hb
   exact(sb2.2 b hb).trans (hk1 b o hb q)
  have J:Inv X pins σ H (s>>>h2):=I.moved hf kk;have hT:=(sb2.2 _ (Ys ilt)).trans ht1;have I2:Inv X pins σ (upd H ⇑s (.tup _)) _:=
   I.stood J (Zh _) %[by show 2<=sizeLine;decide,[key,u],.cons (xE hk) (.cons ru .nil),_,hT,rfl,_|rfl]
  rw[<-ln]at st2;refine%[.ref ⇑s,_,I2,rfl,%[_,_,_,Z4 hi,I.fresh,rfl|rfl],%[es,ep,_,_,ho|st2]|λb hb=>?_];rw[ak ((by simpa using hb)▸Zr ilt)];exact(hf b hb).1
 done:=by
  intro X hP hw hK hc i pins s σ H E I hf st hg;subst hP hw hK;have%[es,ep,ok,ov,ho|st]:=st;have%[hd|hi]:=hg;have%[vs,r|da]:=sD I hd ho;have ln:=i5 r;rw[ln]at st;refine wpAny_pyNext_items_end (I.ok.hd hc) st da (X7 ⋯) λh1 xb=>%[rfl|I.moved hf λb o hb q=>?_]
  exact xb b o (by simpa using hb) q
 self:=λA i s Q E ⟨_,_,_,_,_,st⟩ h=>by
  have hT:s.TypeIs (.ref it) _:=%[_,st|rfl]
  exact wpAny_pyIter_slot hT PySem.F.slot_dict_itemiterator_iter (wpAny_call_entry PySem.F.slot_dict_itemiterator_iter hT sE (Z3 %[.ref it,rfl,"dict_itemiterator",_,hT,PySem.F.slot_dict_itemiterator_next.lookup|h]) (PySem.F.args_dict_itemiterator_iter_1 _))
theorem BX{X:Cx}(n:fT o=false)(c:(i.endLine==j.line)=true)(G:QE X o J):QI X (.Tuple elts kt tp) (.Call (.Attribute o "items" i) [] [] j) (wz J):=by
 refine⟨λpins s z H R I h=>?_⟩;refine wpAny_Call_method0_late (d9 n) c (thP (G.h pins s z H _ I h) λv a x p l L M=>?_);have%[d,t,f,e,u|q]:=M;subst e;cases L;have g:cD p d (kV (.inr Str.empty)) (bG f (.inr Str.empty)):= .inl %[f,_,.inr %[t|u],rfl|rfl];refine%["dict",_,plainAttrs_dict,PySem.F.slot_dict_items,PySem.F.type_dict_items,lY l g,tz l g|Calls.callWith_builtin rfl (PySem.evalArgs_none ?_)];have%[hz,N,vs,r|A]:=m4 l.hok (.inr %[t|u]);refine call_meetsIn PySem.F.slot_dict_items A.typeIs PySem.F.entry_dict_items (PySem.F.args_dict_items_1 _) (meets_dict_items (aN X.prog X.w) d N) %[%[vs|A]|?_];have m:Inv X pins z p {a with heap:=a.heap.push {cls:= .type "dict_items",data:= .fields #[.ref d]}}:=l.kept (t':=a.toks) λb o e=>Z6 _ e
 have%[O,_,_,y,Q,T,B,C,g',U,E|Y]:=m.hok d _ u;have da:Heap.DictAt (aN X.prog X.w) (a.heap.push {cls:= .type "dict_items",data:= .fields #[.ref d]}) d y C:=%[T,B,g',U,E|Y]
 rw[O]at g';cases g';refine wpAny_pyIter_items (s:={a with heap:=a.heap.push {cls:= .type "dict_items",data:= .fields #[.ref d]}}) %[_,Zi _ rfl,rfl|rfl] da ?_;refine%[_,[_],_,_,p,rfl,(m.kept (t':=a.toks) λb o e=>Z6 _ e),wA d _ t f,%[B,C,_,_,E|by rw[i5 Q];exact Zi _ rfl],λb n=>?_|q];have e:b=(a.heap.push {cls:= .type "dict_items",data:= .fields #[.ref d]}).objs.size:=by simpa using n
 subst e;exact m.fpOk (Zh _) (m.hok.fresh (Zh _))
end
section
variable{X:Cx}
theorem HE:MtQ X "list.pop" Hk:=⟨Fz⟩
def HF:V->List V->Hp->VK->Prop:=λx vs H Q=>asR x λa=>∃b,vs=[.ref b]/\∃c more,a≠b/\H a=some (.dK c)/\H b=some (.dK more)/\c.length+more.length<=sizeLine/\Q .non (upd H a (.dK (kY c more)))
theorem Gw:MtM X "dict.update" HF:=by
 intro pins s B H x vs v us Q I m n h;have%[a,rfl,b,rfl,o,more,ne,g,p,i|q]:=e7 h;cases m;have%[u,rfl|r]:=n.one;cases r;have%[z,t,vs,d|j]:=j8 I.hok g;have%[C,e,w,c|f]:=j8 I.hok p;exact call_meetsIn PySem.F.slot_dict_update j.typeIs PySem.F.entry_dict_update (PySem.F.args_dict_update_2 _ _) (meets_dict_update _ a b ne e) %[vs,w,j,f,by rw[<-i5 d,<-i5 c];exact i|λh' l E y=>%[.non,_,mO I (g▸True.intro) y (let⟨q,_,_,A,_⟩:=l;%[q|A]) (vC (Ya (jC _ _) i) t (KV.merge c d) l),rfl|q]]
theorem BY:MtQ X "dict.update" HF:=⟨Gw⟩
def EF:V->List V->Hp->VK->Prop:=λx vs H Q=>asR x λa=>∃k,vs=[kV k]/\∃b,H a=some (.dK b)/\Q ((bG b k).getD .non) H
theorem DV:MtM X "dict.get" EF:=by
 intro pins s l H x vs v us Q I f g h;have%[a,rfl,k,rfl,b,e|q]:=e7 h;cases f;have%[m,rfl|i]:=g.one;have%[z,j,vs,c|d]:=j8 I.hok e;exact call_meetsIn slot_dict_get d.typeIs PySem.F.entry_dict_get (PySem.F.args_dict_get_2 _ _) (meets_dict_get _ a (lX i) j) %[_,d.mapOf,(bG b k).getD .non,H,I.tok _,(c.val k).getD rfl|q]
theorem Gx:MtQ X "dict.get" EF:=⟨DV⟩
end
theorem Cal.freeze{P:Program}{K:ZA}(C:Cal P w K mg base k x ps sp):Cal P w K mg base k x ps (λvs H Q E=>sp vs H (λv a=>∃L,∀b,Q v (pH L b a)) E):=by
 have%[f,c,F|r]:=C.ex;exact%[f,c,F.freeze|r]
theorem Cal.imp{P:Program}{K:ZA}(C:Cal P w K mg base k x ps sp)(h:∀vs H Q E,a vs H Q E->sp vs H Q E):Cal P w K mg base k x ps a:=by
 have%[f,b,F|r]:=C.ex;exact%[f,b,F.imp h|r]
theorem Cal.frozen{P:Program}{K:ZA}(C:Cal P w K mg base k x ps sp):Cal P w K mg base k x ps (λvs H Q E=>sp vs H Q E\/∃d a,vs.length=ps.length/\H d=some (.dK a)/\∀o,sp vs (upd H d (.frz o (.dK a))) (λv i=>Q v (upd i d (.dK a))) E):=by
 have%[f,j,F|r]:=C.ex;refine%[f,j,%[λvs H Q E h=>h.elim (F.len vs H Q E) (F.frozen.len vs H Q E)|λA outer s H args us vs Q E b c e g h=>h.elim (F.run A outer s H args us vs Q E b c e g) (F.frozen.run A outer s H args us vs Q E b c e g)]|r]
theorem uF{a:List (Key×V)}{g:TG}{n:TS}{D:iL}(Pv:Nat->St->Hp->Prop)(s:Pv 0 b H)(t:∀i b H,i<=a.length->Pv i b H->H d=some (.frz o (.dK a)))
 (u:∀i k v b H,a[i]? =some (k,v)->Pv i b H->g (kV k) b H λc l=>n {D with nx:=Pv (i+1),ct:=Pv (i+1),bk:=D.nx} c l) (w:∀b H,Pv a.length b H->D.nx b H):
 ∃W:Nat->Nat->St->Hp->Prop,(∃m,W 0 m b H)/\∀i m b H,W i m b H->
  ((Itk d o a).stop i H/\D.nx b H)\/((Itk d o a).go i H/\∃N:St->Hp->Prop,(∀f h,N f h->∃r,r<m/\W (i+1) r f h)/\∀x h,(Itk d o a).yld i H x h->g x b h λc l=>n {D with nx:=N,ct:=N,bk:=D.nx} c l):=by
 refine%[λi m b H=>m=a.length-i/\i<=a.length/\Pv i b H,%[a.length,by simp,X2 _|s]|?_];intro i m b H %[rfl,hi|p];have q:=t i b H hi p;by_cases j:i<a.length
 .refine .inr %[%[q|j],Pv _,λf h z=>%[a.length-(i+1),⋯,rfl,j|z]|λx h y=>?_];have%[e,k,v,y|rfl]:=y;subst e;exact u i k v b _ y p
 .have e:i=a.length:=by lia
  subst e;exact .inl %[%[q|Zh _]|w b H p]
theorem zx{a:List (Key×V)}{g:TG}{r:TS}{D:iL}(Pv:Nat->St->Hp->Prop)(t:Pv 0 b H)(u:∀i b H,i<=a.length->Pv i b H->H d=some (.frz o (.dK a)))
 (w:∀i k v T b H,a[i]? =some (k,v)->Pv i b H->H T=none->g (.ref T) b (upd H T (.tup [kV k,v])) λc n=>r {D with nx:=Pv (i+1),ct:=Pv (i+1),bk:=D.nx} c n) (z:∀b H,Pv a.length b H->D.nx b H):
 ∃W:Nat->Nat->St->Hp->Prop,(∃m,W 0 m b H)/\∀i m b H,W i m b H->
  ((Iti d o a).stop i H/\D.nx b H)\/((Iti d o a).go i H/\∃N:St->Hp->Prop,(∀h j,N h j->∃s,s<m/\W (i+1) s h j)/\∀x j,(Iti d o a).yld i H x j->g x b j λc n=>r {D with nx:=N,ct:=N,bk:=D.nx} c n):=by
 refine%[λi m b H=>m=a.length-i/\i<=a.length/\Pv i b H,%[a.length,by simp,X2 _|t]|?_];intro i m b H %[rfl,hi|p];have q:=u i b H hi p;by_cases l:i<a.length
 .refine .inr %[%[q|l],Pv _,λh j A=>%[a.length-(i+1),⋯,rfl,l|A]|λx j y=>?_];have%[k,v,T,y,f,rfl|rfl]:=y;exact w i k v T b H y p f
 .have e:i=a.length:=by lia
  subst e;exact .inl %[%[q|Zh _]|z b H p]
section
variable{X:Cx}
abbrev HG:R2:=λx y H Q=>∃a b xs ys,x= .ref a/\y= .ref b/\H a=some (.lst xs)/\H b=some (.lst ys)/\(a=b\/xs.length≠ys.length)/\Q (.bl (decide (a=b))) H
theorem Gy(n:X.A.units+64<cLine):OpR X (compareOp .Eq) HG:=by
 intro pins s o H x y v u Q I d f h;have%[a,b,xs,ys,rfl,rfl,i,l,h|q]:=h;cases d;cases f;have%[us,d,g|_]:=I.list (SqL.of i);have%[vs,f,m|_]:=I.list (SqL.of l);by_cases e:a=b
 .subst e;rw[Ze rfl]at q;have c:=RcAt.lists (A:=X.A) g.isList g.isList rfl ⋯ λj p r=>EqAt.same _
  rw[show(List.range us.toArray.size).all _=true by simp]at c;exact c _ _ _ _ %[.bl _,H,I,rfl|q]
 .rw[Zg e]at q;have c:=RcAt.lists_lengths (A:=X.A) g.isList m.isList (by
   have:=h.resolve_left e;rw[d.length,f.length]at this;simpa using this) ⋯
  exact c _ _ _ _ %[.bl _,H,I,rfl|q]
theorem HI(a:bF k X.A):OpQ X (compareOp .Eq) HG:=⟨Gy a.units⟩
end
end L2
namespace Cut
open PySem L2
inductive dw (S:Str->Str->Prop):Str->Str->Prop
 | refl (x:Str):dw S x x
 | step {x y z:Str}:dw S x y->(S y z\/S z y)->dw S x z
theorem dw.trans{S:Str->Str->Prop}(h:dw S x y)(g:dw S y z):dw S x z:=by
 induction g with
 | refl=>exact h
 | step _ s a=>exact .step a s
theorem dw.one{S:Str->Str->Prop}(h:S x y\/S y x):dw S x y:= .step (.refl x) h
theorem dw.symm{S:Str->Str->Prop}(h:dw S x y):dw S y x:=by
 induction h with
 | refl=>exact .refl _
 | step _ s a=>exact(dw.one s.symm).trans a
theorem dw.mono{S R:Str->Str->Prop}(m:∀a b,S a b->R a b)(h:dw S x y):dw R x y:=by
 induction h with
 | refl=>exact .refl _
 | step _ s c=>exact .step c (s.imp (m _ _) (m _ _))
theorem dw.within{S:Str->Str->Prop}{p:Str->Prop}(w:∀a b,S a b->p a/\p b)(h:dw S x y)(c:p x):p y:=by
 induction h with
 | refl=>exact c
 | step _ s _=>
   rcases s with s|s
   .exact(w _ _ s).2
   .exact(w _ _ s).1
def cg(S:Str->Str->Prop)(z r:Str):Prop:=dw S z r/\∀y,dw S z y->bd y r=false
theorem cg.one{S:Str->Str->Prop}(h:cg S z r)(g:cg S z a):r=a:=by
 by_cases e:r=a
 .exact e
 .have:=gP (g.2 _ h.1) e;rw[h.2 _ g.1]at this;cases this
structure bI (ls:ZB) (f r:Str->Str) (S:Str->Str->Prop):Prop where
 ws:∀a b,S a b->a∈ls/\b∈ls
 fin:∀z∈ls,f z∈ls
 rin:∀z∈ls,r z∈ls
 rf:∀z∈ls,r (f z)=r z
 fr:∀z∈ls,f (r z)=r z
 fix:∀z∈ls,f z=z->r z=z
 dec:∀z∈ls,f z≠z->bd (f z) z=true
 le:∀z∈ls,bd z (r z)=false
 cl:∀x∈ls,∀y∈ls,r x=r y↔dw S x y
theorem bI.rr{S:Str->Str->Prop}(F:bI a f r S)(h:z∈a):r (r z)=r z:=F.fix _ (F.rin z h) (F.fr z h)
theorem bI.conn{S:Str->Str->Prop}(F:bI a f r S)(h:z∈a):dw S z (r z):=(F.cl z h _ (F.rin z h)).mp (F.rr h).symm
theorem bI.least{S:Str->Str->Prop}(F:bI b f r S){z:Str}(h:z∈b):cg S z (r z):=by
 refine%[F.conn h|λy c=>?_];have a:=c.within F.ws h;rw[(F.cl z h y a).mpr c];exact F.le y a
theorem bI.start(a:ZB):bI a id id (λ_ _=>False):=by
 refine%[λ_ _ h=>h.elim,λz h=>h,λz h=>h,λ_ _=>rfl,λ_ _=>rfl,λ_ _ _=>rfl,λz _ h=>(h rfl).elim,λz _=>fW z|λx b y d=>%[λe=>?_|λc=>?_]]
 .rw[show x=y from e];exact .refl _
 .induction c with
  | refl=>rfl
  | step _ s _=>simp_all
theorem bI.join{S:Str->Str->Prop}(F:bI j f r S){a b M m:Str}(q:a∈j)(t:b∈j)(A:M=if bd (r a) (r b)=true then r b else r a)(B:m=if bd (r b) (r a)=true then r b else r a):
 bI j (λx=>if x=M then m else f x) (λx=>if r x=M then m else r x) (λx y=>S x y\/(x=a/\y=b)):=by
 have g:(M=r a/\m=r b)\/(M=r b/\m=r a):=by
  rw[A,B];cases e:bd _ _ with
  | true=>
    have:bd (r b) (r a)=false:=by
     cases i:bd _ _ with
     | false=>rfl
     | true=>have:=gO e i;rw[fW]at this;cases this
    exact this▸ .inr %[rfl|rfl]
  | false=>
    cases i:bd _ _ with
    | true=>exact .inl %[rfl|rfl]
    | false=>
      have:r a=r b:=by
       by_cases h:r a=r b
       .exact h
       .have:=gP e h;rw[i]at this;cases this
      exact this▸ .inl %[rfl|rfl]
 have lt:m≠M->bd m M=true:=by
  rw[A,B];cases e:bd _ _ with
  | true=>
    cases i:bd _ _ with
    | true=>intro h;exact(h rfl).elim
    | false=>intro _;exact e
  | false=>
    cases i:bd _ _ with
    | true=>intro _;exact i
    | false=>intro h;exact(h rfl).elim
 have Q:=F.rin a q;have T:=F.rin b t;have C:m∈j:=by rcases g with⟨_,h⟩|⟨_,h⟩<;> rw[h]<;> assumption
 have E:r M=M:=by rcases g with⟨h,_⟩|⟨h,_⟩<;> rw[h]<;> apply F.rr<;> assumption
 have L:r m=m:=by rcases g with⟨_,h⟩|⟨_,h⟩<;> rw[h]<;> apply F.rr<;> assumption
 have N:dw (λx y=>S x y\/(x=a/\y=b)) M m:=by
  have G:dw (λx y=>S x y\/(x=a/\y=b)) _ _:=(((F.conn q).mono λ_ _=> .inl).symm.trans (.one (.inl (.inr %[rfl|rfl])))).trans ((F.conn t).mono λ_ _=> .inl);rcases g with⟨l,n⟩|⟨l,n⟩
  .rw[l,n];exact G
  .rw[l,n];exact G.symm
 have p:∀x∈j,dw _ x (if r x=M then m else r x):=λx w=>by
  have c:=(F.conn w).mono (R:=λx y=>S x y\/(x=a/\y=b)) λ_ _=> .inl
  by_cases e:r x=M
  .rw[if_pos e];rw[e]at c;exact c.trans N
  .rw[if_neg e];exact c
 have H:(if r a=M then m else r a)=(if r b=M then m else r b):=by
  rcases g with⟨l,n⟩|⟨l,n⟩
  .rw[if_pos l.symm];by_cases e:r b=M
   .rw[if_pos e]
   .rw[if_neg e];exact n
  .rw[if_pos l.symm];by_cases e:r a=M
   .rw[if_pos e]
   .rw[if_neg e];exact n.symm
 refine%[λx y h=>?_,λz d=>?_,λz d=>?_,λz d=>?_,λz d=>?_,λz d h=>?_,λz d h=>?_,λz d=>?_|λx w y I=>%[λe=>?_|λc=>?_]]
 .rcases h with h|⟨rfl,rfl⟩
  .exact F.ws x y h
  .exact%[q|t]
 .split
  .exact C
  .exact F.fin z d
 .split
  .exact C
  .exact F.rin z d
 .by_cases e:z=M
  .rw[if_pos e,e,E,if_pos rfl,L]
   split<;> rfl
  .rw[if_neg e,F.rf z d]
 .by_cases e:r z=M
  .rw[if_pos e]
   split
   .rfl
   .exact(by rcases g with⟨_,h⟩|⟨_,h⟩<;> rw[h]<;> apply F.fr<;> assumption)
  .rw[if_neg e,if_neg e];exact F.fr z d
 .by_cases e:z=M
  .rw[if_pos e]at h;rw[e,E,if_pos rfl,<-e];exact h
  .rw[if_neg e]at h;rw[F.fix z d h,if_neg e]
 .by_cases e:z=M
  .rw[if_pos e]at h ⊢;rw[e]at h ⊢;exact lt h
  .rw[if_neg e]at h ⊢;exact F.dec z d h
 .by_cases e:r z=M
  .rw[if_pos e];cases i:bd z m with
   | false=>rfl
   | true=>
     have o:=F.le z d;rw[e]at o;by_cases em:m=M
     .rw[em]at i;rw[o]at i;cases i
     .have:=gO i (lt em);rw[o]at this;cases this
  .rw[if_neg e];exact F.le z d
 .have c:=(p x w)
  rw[e]at c;exact c.trans (p y I).symm
 .have ws:∀x y,(S x y\/(x=a/\y=b))->x∈j/\y∈j:=λx y h=>by
   rcases h with h|⟨rfl,rfl⟩
   .exact F.ws x y h
   .exact%[q|t]
  clear I
  induction c with
  | refl=>rfl
  | step c s O=>
    rename_i u v
    have J:=c.within ws w;rw[O];rcases s with(s|⟨rfl,rfl⟩)|(s|⟨rfl,rfl⟩)
    .rw[(F.cl u J v (F.ws u v s).2).mpr (.one (.inl s))]
    .exact H
    .rw[(F.cl u J v (F.ws v u s).1).mpr (.one (.inr s))]
    .exact H.symm
theorem bI.short{S:Str->Str->Prop}(F:bI d f r S)(b:z∈d):bI d (λx=>if x=z then f (f z)else f x) r S:=by
 have g:f z≠z->bd (f _) z=true:=λh=>by
  have i:=F.dec z b h;by_cases e:f (f z)=f z
  .exact e▸i
  .exact gO (F.dec _ (F.fin z b) e) i
 refine%[F.ws,λx a=>?_,F.rin,λx a=>?_,λx a=>?_,λx a h=>?_,λx a h=>?_,F.le|F.cl]
 .split
  .exact F.fin _ (F.fin z b)
  .exact F.fin x a
 .by_cases e:x=z
  .rw[if_pos e,F.rf _ (F.fin z b),F.rf z b,e]
  .rw[if_neg e];exact F.rf x a
 .by_cases e:r x=z
  .rw[if_pos e];have:=F.fr x a
   simp_all
  .rw[if_neg e];exact F.fr x a
 .by_cases e:x=z
  .rw[if_pos e]at h;rw[e]at h ⊢;by_cases c:f z=z
   .exact F.fix z b c
   .have:=g c;rw[h,fW]at this;cases this
  .rw[if_neg e]at h;exact F.fix x a h
 .by_cases e:x=z
  .rw[if_pos e]at h ⊢;rw[e]at h ⊢;refine g λc=>h ?_
   rw[c,c]
  .rw[if_neg e]at h ⊢;exact F.dec x a h
theorem bI.done{S:Str->Str->Prop}(F:bI b f r S)(a:z∈b)(h:∀w∈b,bd w z=true->f w=r w):f (f z)=r z:=by
 by_cases e:f z=z
 .rw[e,e];exact(F.fix z a e).symm
 .rw[h _ (F.fin z a) (F.dec z a e),F.rf z a]
end Cut
namespace Cut
open PySem L2
def Ed(ks:List ZB)(a b:Str):Prop:=∃z,[a,b,z]∈ks
inductive Rch (ks:List ZB):Str->Str->Prop
 | one {a b:Str}:Ed ks a b->Rch ks a b
 | more {a b c:Str}:Rch ks a b->Ed ks b c->Rch ks a c
theorem Rch.trans(h:Rch ks a b)(g:Rch ks b c):Rch ks a c:=by
 induction g with
 | one e=>exact .more h e
 | more _ e d=>exact .more d e
theorem Rch.closed{R:Str->Prop}(a:∀y,Ed ks s y->R y)(h:∀x y,R x->Ed ks x y->R y)(r:Rch ks s y):R y:=by
 induction r with
 | one e=>exact a _ e
 | more _ e b=>exact h _ _ b e
theorem qJ{ks:List _}{laid:ZB}(h:∀i x,laid[i]? =some x->∀y,Ed ks x y->y∈laid.take i){i:Nat}{x y:Str}(hi:laid[i]? =some x)(r:Rch ks x y):∃j,j<i/\laid[j]? =some y:=by
 have b:∀i y,y∈laid.take i->∃j,j<i/\laid[j]? =some y:=λi y d=>by
  have%[j|c]:=X3 d;have f:=(X8 c).1;rw[Yf]at f;exact%[j,⋯|by rwa[Y5 ⋯]at c]
 refine r.closed (λy e=>b i y (h i x hi y e)) λa y ⟨j,m,c⟩ e=>?_
 have%[g,n|l]:=b j y (h j a c y e);exact%[g,⋯|l]
theorem DW{laid:ZB}(h:∀(i:Nat) x,laid[i]? =some x->∀y,Ed ks x y->y∈laid.take i){x:Str}(a:x∈laid): ¬ Rch ks x x:=by
 intro r;have%[i|hi]:=X3 a;have:∀n i:Nat,i<=n->laid[i]? ≠some x:=λn=>by
  induction n with
  | zero=>
    intro i hi e;have%[j,b|_]:=qJ h e r
    lia
  | succ n c=>
    intro i hi e;have%[j,b|d]:=qJ h e r;exact c j ⋯ d
 exact this i i (Zh _) hi
noncomputable def Wal:List ZB->Str->Str->Prop
 |[],a,b=>a=b
 | k::r,a,b=>∃c z,k=[a,c,z]/\Wal r c b
theorem Wal.app:∀{us vs:List ZB} {a:Str},Wal us a b->Wal vs b c->Wal (us++vs) a c
 |[],_,_,h,g=>h▸g
 | _::_,_,_,⟨d,z,e,h⟩,g=>%[d,z,e|h.app g]
def Dst(ks:List ZB)(s:Str)(n:Nat)(x:Str):Prop:=∃us:List _,us.length=n/\(∀k∈us,k∈ks)/\Wal us s x
theorem Dst.nil:Dst ks s 0 s:=%[[],rfl,λ_ h=>(nomatch h)|rfl]
theorem Dst.app(h:Dst ks s n x)(g:Dst ks x m y):Dst ks s (n+m) y:=by
 have%[us,d,a|b]:=h;have%[vs,g1,g2|g3]:=g;exact%[us++vs,by simp_all,λk c=>(X9 c).elim (a k) (g2 k)|b.app g3]
theorem Ed.dst(e:Ed ks s x):Dst ks s 1 x:=by
 have%[z|e]:=e;exact%[[[s,x,z]],rfl,λk a=>(Xa a)▸e,x,z,rfl|rfl]
theorem Dst.last:∀{n:Nat} {s:Str},Dst ks s (n+1) x->∃y,Dst ks s n y/\Ed ks y x
 | n,s,⟨[],a,_,_⟩=>(nomatch a)
 | 0,s,⟨[k],_,b,c,z,e,h⟩=>%[s,.nil,z|by rw[<-h,<-e];exact b k Zl]
 | 0,s,⟨_::_::_,a,_,_⟩=>absurd a ∅
 | n+1,s,⟨k::r,a,b,c,z,e,h⟩=>by
   have%[y,d|f]:=Dst.last %[r,by simpa using a,λk g=>b k (Zj _ g)|h];have:Ed ks s c:=%[z|e▸b k Zl]
   exact%[y,Nat.add_comm 1 n▸this.dst.app d|f]
theorem Rch.dst(h:Rch ks a b):∃n,Dst ks a (n+1) b:=by
 induction h with
 | one e=>exact%[0|e.dst]
 | more _ e c=>
   have%[n|h]:=c;exact%[n+1|h.app e.dst]
theorem Dst.rch:∀{n:Nat} {b:Str},Dst ks a (n+1) b->Rch ks a b
 | 0,b,h=>by
   have%[y,%[us,d,_|c]|e]:=h.last;rw[length_eq_zero_iff.mp d]at c;rw[c];exact .one e
 | n+1,b,h=>by
   have%[y,h|e]:=h.last;exact .more h.rch e
structure Lev (ks:List ZB) (st:Str) (rs:List (Str×Addr×ZB)) (d:Str->Nat) (k:Nat) (F:ZB):Prop where
 nd:(rs.map (·.1)).Nodup
 by_:∀r∈rs,r.2.2∈ks/\∃p z,r.2.2=[p,r.1,z]/\((p=st/\d r.1=1)\/(p≠st/\p∈rs.map (·.1)/\d r.1=d p+1))
 le:∀x∈rs.map (·.1),d x<=k
 edge:∀x,x∈F↔(k=0/\x=st)\/(1<=k/\x∈rs.map (·.1)/\d x=k)
 all:∀n x,1<=n->n<=k->Dst ks st n x->x∈rs.map (·.1)/\d x<=n
section
variable{ks:List ZB}{st:Str}{rs:List (Str×Addr×ZB)}{d:Str->Nat}{k:Nat}{F:ZB}
theorem Lev.nil:Lev ks st [] (λ_=>0) 0 [st]:=
 %[Yv,λ_ h=>(nomatch h),λ_ h=>(nomatch h),λx=>by simp|λn x a b=>by lia]
theorem Lev.dst(h:Lev ks st rs d k F)(a:x∈rs.map (·.1)):1<=d x/\Dst ks st (d x) x:=by
 have:∀m x,x∈rs.map (·.1)->d x<=m->1<=d x/\Dst ks st (d x) x:=λm=>by
  induction m with
  | zero=>
    intro x a l;have%[r,b|rfl]:=Xb a;obtain⟨_,p,z,_,⟨_,e⟩|⟨_,_,e⟩⟩:=h.by_ r b<;> lia
  | succ m g=>
    intro x a l;have%[r,b|rfl]:=Xb a;have%[c,p,z,i|q]:=h.by_ r b;rw[i]at c;have f:Ed ks p r.1:=%[z|c]
    rcases q with⟨rfl,e⟩|⟨_,j,e⟩
    .rw[e];exact%[Zh _|f.dst]
    .exact e▸%[⋯|(g p j ⋯).2.app f.dst]
 exact this _ x a (Zh _)
theorem Lev.min(h:Lev ks st rs d k F)(a:x∈rs.map (·.1))(g:Dst ks st (n+1) x):d x<=n+1:=by
 by_cases c:n+1<=k
 .exact(h.all _ x ⋯ c g).2
 .have:=h.le x a
  lia
theorem Lev.stop(h:Lev ks st rs d k []):∀{n:Nat},Dst ks st (n+1) x->x∈rs.map (·.1):=by
 have a:=Nat.pos_of_ne_zero λc=>(nomatch (h.edge st).mpr (.inl %[c|rfl]))
 have:∀n x,Dst ks st (n+1) x->x∈rs.map _:=λn=>by
  induction n with
  | zero=>exact λx g=>(h.all 1 x (Zh _) a g).1
  | succ n b=>
    intro x g;have%[y,f|e]:=g.last;have q:=b y f;have l:=h.le y q;have ne:d y≠k:=λc=>(nomatch (h.edge y).mpr (.inr %[a,q|c]))
    exact(h.all _ x ⋯ ⋯ ((h.dst q).2.app e.dst)).1
 exact λ{n}=>this n x
theorem Lev.step(h:Lev ks st rs d k F)(nd:((rs++new).map (·.1)).Nodup)(C:∀r∈new,r.2.2∈ks/\∃p z,p∈F/\r.2.2=[p,r.1,z])
 (t:∀x∈F,∀y,Ed ks x y->y∈(rs++new).map (·.1)):Lev ks st (rs++new) (λx=>if x∈new.map (·.1)then k+1 else d x) (k+1) (new.map (·.1)):=by
 have l:=nd;rw[Zc,Yt]at l;have f:∀{x},x∈rs.map (·.1)->x∉new.map (·.1):=λ{x} a b=>l.2.2 x a x b rfl
 have mem:∀{x},x∈(rs++new).map (·.1)↔x∈rs.map (·.1)\/x∈new.map (·.1):=λ{x}=>by rw[Zc,Ym]
 have u:∀x∈(rs++new).map (·.1),(if x∈new.map (·.1)then k+1 else d x)<=k+1:=λx j=>by
  by_cases c:x∈new.map (·.1)
  .rw[if_pos c];exact Zh _
  .rw[if_neg c];have:=h.le x ((mem.mp j).resolve_right c);lia
 refine%[nd,λr E=>?_,u,λx=>?_|λn x G N g=>?_]
 .rcases X9 E with q|q
  .have%[s,p,z,e|g]:=h.by_ r q;refine%[s,p,z,e|?_];rw[if_neg (f (Xc %[r,q|rfl]))];refine g.imp_right λ⟨a,b,c⟩=>%[a,mem.mpr (.inl b)|?_]
   rw[if_neg (f b)];exact c
  .have%[s,p,z,H|e]:=C r q;have v:r.1∈new.map (·.1):=Xc %[r,q|rfl];refine%[s,p,z,e|?_];rw[if_pos v];rcases(h.edge p).mp H with⟨rfl,rfl⟩|⟨I,b,c⟩
   .exact .inl %[rfl|rfl]
   .refine .inr %[λps=>?_,mem.mpr (.inl b)|by rw[if_neg (f b),c]];have:Ed ks st r.1:=%[z|by rw[<-ps,<-e];exact s]
    exact f (h.all 1 _ (Zh _) I this.dst).1 v
 .refine%[λj=> .inr %[⋯,mem.mpr (.inr j)|if_pos j]|λj=>?_];rcases j with⟨a,_⟩|⟨_,a,b⟩
  .lia
  .refine(mem.mp a).resolve_left λc=>?_
   rw[if_neg (f c)]at b;have:=h.le x c
   lia
 .have i:∀{m},1<=m->m<=k->Dst ks st m x->x∈(rs++new).map _/\(if x∈new.map _ then k+1 else d x)<=m:=λa b g=>by
   have%[o|w]:=h.all _ x a b g;exact%[mem.mpr (.inl o)|by rw[if_neg (f o)];exact w]
  by_cases c:n<=k
  .exact i G c g
  .obtain rfl:n=k+1:=by lia
   have fin:x∈(rs++new).map _->x∈(rs++new).map _/\(if x∈new.map _ then k+1 else d x)<=k+1:=λa=>%[a|u x a]
   have%[y,A|e]:=g.last;by_cases J:k=0
   .subst J;have%[us,L,_|B]:=A;rw[length_eq_zero_iff.mp L]at B;exact fin (t y ((h.edge y).mpr (.inl %[rfl|(B).symm])) x e)
   .have%[o|w]:=h.all k y ⋯ (Zh _) A;by_cases M:d y=k
    .exact fin (t y ((h.edge y).mpr (.inr %[⋯,o|M])) x e)
    .exact fin (i ⋯ ⋯ ((h.dst o).2.app e.dst)).1
end
structure Sho (ks:List _) (a b:Str) (us:List _):Prop where
 sub:∀k∈us,k∈ks
 wal:Wal us a b
 pos:0<us.length
 min:∀n,Dst ks a (n+1) b->us.length<=n+1
theorem Sho.dst(h:Sho ks a b us):∃n,us.length=n+1/\Dst ks a (n+1) b:=
 %[us.length-1,by have:=h.pos;lia,us,by have:=h.pos;lia,h.sub|h.wal]
theorem Sho.rch(h:Sho ks a b us):Rch ks a b:=by
 have%[n,_|d]:=h.dst;exact d.rch
theorem Gz{U:ZB}(h:∀x∈U,∃y∈U,Ed ks x y)(i:∀x,¬ Rch ks x x){x:Str}(j:x∈U):False:=by
 have:∀n,∃a p,p.length=n/\(a::p).Nodup/\(∀y∈a::p,y∈U)/\∀y∈p,Rch ks y a:=λn=>by
  induction n with
  | zero=>exact%[x,[],rfl,by simp,by simpa using j|λ_ h=>(nomatch h)]
  | succ n m=>
    have%[a,p,l,nd,d|r]:=m;have%[b,o|e]:=h a (d a Zl);have g:∀y∈a::p,Rch ks y b:=λy f=>by
     rcases mem_cons.mp f with rfl|q
     .exact .one e
     .exact .more (r y q) e
    refine%[b,a::p,by simp_all,nodup_cons.mpr %[λc=>i b (g b c)|nd],λy f=>?_|g];rcases mem_cons.mp f with rfl|q
    .exact o
    .exact d y q
 have%[a,p,l,nd,d|_]:=this U.length;have:=STab.nodup_sub nd d;rw[Zq]at this
 lia
end Cut
namespace Cut
open PySem L2
structure Mat (E:Str->Str->Prop) (L:ZB) (m:Str->Str):Prop where
 nd:L.Nodup
 inj:∀x∈L,∀y∈L,m x=m y->x=y
 ed:∀x∈L,E (m x) x
structure kz (E:Str->Str->Prop) (L:ZB) (m:Str->Str) (S T:Str->Prop):Prop where
 nb:∀a,S a->∀p,E a p->T p
 mt:∀p,T p->p∈L/\S (m p)
structure Ask (E:Str->Str->Prop) (L:ZB) (m:Str->Str) (A0 Q:ZB) (g:Str->Str):Prop where
 nd:Q.Nodup
 by_:∀i x,Q[i]? =some x->E (g x) x/\(g x∈A0\/∃y∈Q.take i,y∈L/\m y=g x)
section
variable{E:Str->Str->Prop}{L A0 Q:ZB}{m g:Str->Str}{S T S' T':Str->Prop}
theorem kz.or(h:kz E L m S T)(k:kz E L m S' T'):kz E L m (λa=>S a\/S' a) (λp=>T p\/T' p):=
 %[λa s p e=>s.imp (λs=>h.nb a s p e) λs=>k.nb a s p e|λp t=>t.elim (λt=>%[(h.mt p t).1|.inl (h.mt p t).2]) λt=>%[(k.mt p t).1|.inr (k.mt p t).2]]
theorem Ask.shut(a:Ask E L m A0 Q g)(h:kz E L m S T)(d:∀x∈A0,S x):∀x∈Q,T x:=by
 have:∀(n i:Nat) x,i<n->Q[i]? =some x->T x:=λn=>by
  induction n with
  | zero=>exact λi x l=>absurd l (Yw _)
  | succ n f=>
    intro i x l e;have%[o|b]:=a.by_ i x e;refine h.nb _ ?_ x o;rcases b with b|⟨y,p,s,b⟩
    .exact d _ b
    .have%[j|c]:=X3 p;have q:=(X8 c).1;rw[Yf]at q;rw[Y5 ⋯]at c;exact b▸(h.mt y (f j y ⋯ c)).2
 intro x r;have%[i|hi]:=X3 r;exact this _ i x (Yi _) hi
theorem Ask.closed(c:∀x∈Q,x∈L)(d:∀b,(b∈A0\/∃y∈Q,y∈L/\m y=b)->∀p,E b p->p∈Q):kz E L m (λb=>b∈A0\/∃y∈Q,y∈L/\m y=b) (λp=>p∈Q):=
 %[d|λp a=>%[c p a|.inr %[p,a,c p a|rfl]]]
structure n9 (E:Str->Str->Prop) (L Q:ZB) (m g:Str->Str) (T:Str->Prop) (f:Str) (C:ZB) (i:Nat) (p:Str):Prop where
 at_:Q[i]? =some p
 own:p=f\/p∈L
 far:∀x∈C,∃j,i<j/\Q[j]? =some x
 nx:∀x∈C,∃y,y∈L/\m y=g x/\(y∈C\/y=p)
 inj:∀x∈C,∀y∈C,g x=g y->x=y
 pv:∀y,y∈C\/y=p->y=f\/(y∈L/\∃x∈C,g x=m y)
 nt:∀y,y∈C\/y=p-> ¬ T y
 hf:f∈C\/p=f
theorem BZ{Q:ZB}(nd:Q.Nodup){i j:Nat}{x:Str}(h:Q[i]? =some x)(k:Q[j]? =some x):i=j:=cP nd h k
theorem n9.start(h:kz E L m S T)(b:f∉L)(e:Q[i]? =some f):n9 E L Q m g T f [] i f:=
 %[e,.inl rfl,λ_ h=>(nomatch h),λ_ h=>(nomatch h),λ_ h=>(nomatch h),λy a=>a.elim (λh=>(nomatch h)) .inl,λy a t=>a.elim (λh=>(nomatch h)) λe=>b (e▸(h.mt y t).1)|.inr rfl]
theorem n9.inj'(M:Mat E L m)(a:Ask E L m A0 Q g){f:Str}{C:ZB}{i:Nat}{p:Str}(b:n9 E L Q m g T f C i p):∀x∈C++[p],∀y∈C++[p],(∀z∈L,m z=g p->z∈Q.take i)->g x=g y->x=y:=by
 have o:∀x∈C,(∀z∈L,m z=g p->z∈Q.take i)->g x≠g p:=λx c h e=>by
  have%[y,q,r|n]:=b.nx x c;have%[j|l]:=X3 (h y q (r.trans e));have s:=(X8 l).1;rw[Yf]at s;rw[Y5 ⋯]at l;rcases n with n|rfl
  .have%[k,u|t]:=b.far y n;have:=BZ a.nd l t
   lia
  .have:=BZ a.nd l b.at_
   lia
 intro x c y d h e;rcases X9 c with c|c<;> rcases X9 d with d|d
 .exact b.inj x c y d e
 .rw[Xa d]at e;exact(o x c h e).elim
 .rw[Xa c]at e;exact(o y d h e.symm).elim
 .rw[Xa c,Xa d]
theorem n9.step(M:Mat E L m)(a:Ask E L m [w] Q g)(A:∀x∈L,m x≠w)(h:kz E L m S T)(b:n9 E L Q m g T f C i p)(n:y∈L)(o:m y=g p):∃j,j<i/\n9 E L Q m g T f (C++[p]) j y:=by
 have%[B|s]:=a.by_ i p b.at_;have v:y∈Q.take i:=by
  rcases s with s|⟨z,c,q,r⟩
  .exact(A y n (o.trans (Xa s))).elim
  .rw[M.inj y n z q (o.trans r.symm)];exact c
 have%[j|u]:=X3 v;have G:=(X8 u).1;rw[Yf]at G;rw[Y5 ⋯]at u;have l:∀{x},x∈C++[p]↔x∈C\/x=p:=λ{x}=>by rw[Ym,Yr]
 refine%[j,⋯,u,.inr n,λx d=>?_,λx d=>?_,λx d z c=>b.inj' M a x d z c λz q r=>(M.inj z q y n (r.trans o.symm))▸v,λz c=>?_,λz c t=>?_|.inl (l.mpr (b.hf.imp_right Eq.symm))]
 .rcases l.mp d with d|rfl
  .have%[k,J|H]:=b.far x d;exact%[k,⋯|H]
  .exact%[i,⋯|b.at_]
 .rcases l.mp d with d|rfl
  .have%[z,q,r|I]:=b.nx x d;exact%[z,q,r|.inl (l.mpr I)]
  .exact%[y,n,o|.inr rfl]
 .rcases c with c|rfl
  .exact(b.pv z (l.mp c)).imp_right λ⟨a,x,d,e⟩=>%[a,x,l.mpr (.inl d)|e]
  .exact(.inr %[n,p,l.mpr (.inr rfl)|o.symm])
 .rcases c with c|rfl
  .exact b.nt z (l.mp c) t
  .exact b.nt p (.inr rfl) (h.nb _ (o▸(h.mt z t).2) p B)
theorem n9.fin(M:Mat E L m)(a:Ask E L m [B] Q g)(h:kz E L m S T)(b:n9 E L Q m g T f C i p)(J:f∉L)(N:∀y∈L,m y≠g p)(nd:v.Nodup)(G:∀x,x∈v↔x∈L\/x=f):
 Mat E v (λx=>if x∈C++[p]then g x else m x)/\kz E v (λx=>if x∈C++[p]then g x else m x) S T/\g p=B/\(∀x∈v,(if x∈C++[p]then g x else m x)=B\/∃y∈L,m y=if x∈C++[p]then g x else m x)/\∀y,y=B\/(∃x∈L,m x=y)->∃x∈v,(if x∈C++[p]then g x else m x)=y:=by
 have r:∀{x},x∈C++[p]↔x∈C\/x=p:=λ{x}=>by rw[Ym,Yr]
 have O:g p=B:=by
  obtain⟨_,e|⟨y,_,H,ym⟩⟩:=a.by_ i p b.at_
  .exact Xa e
  .exact(N y H ym).elim
 have U:∀x∈C++[p],∃j,Q[j]? =some x:=λx l=>by
  rcases r.mp l with l|rfl
  .have%[j,_|e]:=b.far x l;exact%[j|e]
  .exact%[i|b.at_]
 have o:∀x∈v,x∉C++[p]->x∈L:=λx l n=>((G x).mp l).resolve_right λe=>n (e▸r.mpr (b.hf.imp_right Eq.symm))
 have s:∀x∈C++[p],∀y∈L,y∉C++[p]->g x≠m y:=λx l y H n e=>by
  rcases r.mp l with l|rfl
  .have%[z,w,A|zc]:=b.nx x l;exact n ((M.inj y H z w (e.symm.trans A.symm))▸r.mpr zc)
  .exact N y H e.symm
 refine%[%[nd,λx l y I e=>?_|λx l=>?_],%[h.nb|λq t=>%[(G q).mpr (.inl (h.mt q t).1)|?_]],O,λx l=>?_|λy I=>?_]
 .by_cases d:x∈C++[p]<;> by_cases u:y∈C++[p]
  .rw[if_pos d,if_pos u]at e;exact b.inj' M a x d y u (λz w A=>(N z w A).elim) e
  .rw[if_pos d,if_neg u]at e;exact(s x d y (o y I u) u e).elim
  .rw[if_neg d,if_pos u]at e;exact(s y u x (o x l d) d e.symm).elim
  .rw[if_neg d,if_neg u]at e;exact M.inj x (o x l d) y (o y I u) e
 .by_cases d:x∈C++[p]
  .rw[if_pos d];have%[j|e]:=U x d;exact(a.by_ j x e).1
  .rw[if_neg d];exact M.ed x (o x l d)
 .rw[if_neg (λc=>b.nt q (r.mp c) t)];exact(h.mt q t).2
 .by_cases d:x∈C++[p]
  .rw[if_pos d];rcases r.mp d with d|rfl
   .have%[z,w,A|_]:=b.nx x d;exact .inr %[z,w|A]
   .exact .inl O
  .rw[if_neg d];exact .inr %[x,o x l d|rfl]
 .have mem:=λx l=>(G x).mpr ((b.pv x (r.mp l)).elim .inr λh=> .inl h.1)
  rcases I with rfl|⟨x,Y,rfl⟩
  .exact%[p,mem p (r.mpr (.inr rfl))|(if_pos (r.mpr (.inr rfl)))▸O]
  .by_cases d:x∈C++[p]
   .rcases b.pv x (r.mp d)with e|⟨_,z,hz,e⟩
    .exact(J (e▸Y)).elim
    .exact%[z,mem z (r.mpr (.inl hz))|(if_pos (r.mpr (.inl hz)))▸e]
   .exact%[x,(G x).mpr (.inl Y)|by rw[if_neg d]]
end
theorem jp(p:Str->Prop)[DecidablePred p]:∀xs:ZB,xs.length=(xs.filter λx=>decide (p x)).length+(xs.filter λx=>decide (¬ p x)).length
 |[]=>rfl
 | x::xs=>by
   have a:=jp p xs;by_cases c:p x
   .rw[Y1 (by simpa using c),Y0 (by simpa using c),Zq,Zq];lia
   .rw[Y0 (by simpa using c),Y1 (by simpa using c),Zq,Zq];lia
open Classical in
theorem xG(q:∀a b c,E a b->E b c->E a c){names L A:ZB}(p:names.Nodup)(M:Mat E L m)(r:∀x∈L,m x∈names)(s:A.Nodup)(t:∀x∈A,x∈names)(g:∀x∈A,∀y∈A,¬ E x y):A.length<=(names.filter λx=>decide (x∉L)).length:=by
 have up:∀{x y a:Str},E y x->(x=a\/E x a)->E y a:=λe h=>h.elim (λh=>h▸e) λh=>q _ _ _ e h
 have u:=STab.nodup_sub (l:=((L.filter λx=>decide (∃a∈A,x=a\/E x a)).map m) ++A) (m:=names.filter λx=>decide (∃a∈A,x=a\/E x a)) (nodup_append.mpr %[?_,s|λy d z v e=>?_]) λy d=>?_
 .rw[Z8,Z5]at u;have w:=jp (λx=>x∈L) (names.filter λx=>decide (∃a∈A,x=a\/E x a));have B:=STab.nodup_sub (l:=(names.filter λx=>decide (∃a∈A,x=a\/E x a)).filter λx=>decide (x∈L)) (m:=L.filter λx=>decide (∃a∈A,x=a\/E x a)) ((p.filter _).filter _) λx f=>by
   have%[h|j]:=List.mem_filter.mp f;exact List.mem_filter.mpr %[Zn j|(List.mem_filter.mp h).2]
  have C:=STab.nodup_sub (l:=(names.filter λx=>decide (∃a∈A,x=a\/E x a)).filter λx=>decide (¬ x∈L)) (m:=names.filter λx=>decide (x∉L)) ((p.filter _).filter _) λx f=>by
   have%[h|j]:=List.mem_filter.mp f;exact List.mem_filter.mpr %[(List.mem_filter.mp h).1|j]
  lia
 .rw[Yu,Yz];exact X4 (λ{x y} f d n e=>n (M.inj x (List.mem_filter.mp f).1 y (List.mem_filter.mp d).1 e)) (nodup_iff_pairwise_ne.mp (M.nd.filter _))
 .have%[x,f|rfl]:=Xb d;have%[i|h]:=List.mem_filter.mp f;have%[a,o|h]:=Zn h;exact g _ (e▸v) a o (up (M.ed x i) h)
 .rcases X9 d with d|d
  .have%[x,f|rfl]:=Xb d;have%[i|h]:=List.mem_filter.mp f;have%[a,o|h]:=Zn h;exact List.mem_filter.mpr %[r x i|Ze %[a,o|.inr (up (M.ed x i) h)]]
  .exact List.mem_filter.mpr %[t y d|Ze %[y,d|.inl rfl]]
theorem uG{names L lf:ZB}(b:names.Nodup)(c:L.Nodup)(sub:∀x∈L,x∈names)(d:lf.length=L.length):(names.filter λx=>decide (x∉L)).length<=(names.filter λx=>decide (x∉lf)).length:=by
 have e:=jp (λx=>x∈L) names;have f:=jp (λx=>x∈lf) names;have g:=STab.nodup_sub c λx a=>List.mem_filter.mpr %[sub x a|Ze a]
 have h:=STab.nodup_sub (b.filter λx=>decide (x∈lf)) λx a=>Zn (List.mem_filter.mp a).2
 lia
end Cut
namespace Cut
open PySem L2
theorem oa(lt:q->q->Bool)(c:∀x y,lt x y=false->x≠y->lt y x=true):∀{l m:List q},l.Pairwise (λa b=>lt b a=false)->m.Pairwise (λa b=>lt b a=false)->l.Nodup->m.Nodup->(∀x,x∈l↔x∈m)->l=m
 |[],[],_,_,_,_,_=>rfl
 |[],y::m,_,_,_,_,h=>absurd ((h y).mpr Zl) ∅
 | x::l,[],_,_,_,_,h=>absurd ((h x).mp Zl) ∅
 | x::l,y::m,s,t,nl,u,h=>by
   have%[f|g]:=List.pairwise_cons.mp s;have%[i|j]:=List.pairwise_cons.mp t;have%[v|n]:=nodup_cons.mp nl;have%[w|o]:=nodup_cons.mp u;have e:=Classical.byContradiction λd=>by
    have A:=(mem_cons.mp ((h x).mp Zl)).resolve_left d;have r:=f y ((mem_cons.mp ((h y).mpr Zl)).resolve_left (Ne.symm d));rw[c x y (i x A) d]at r;cases r
   subst e;rw[oa lt c g j n o λz=>?_]
   constructor
   .intro p;rcases mem_cons.mp ((h z).mp (Zj _ p))with e|e
    .simp_all
    .exact e
   .intro p;rcases mem_cons.mp ((h z).mpr (Zj _ p))with e|e
    .simp_all
    .exact e
def Let(rows:ZB)(c:Nat):Prop:=c≠46/\∃r∈rows,c∈r.cps.toList
def DX(rows:ZB)(a b:Nat):Prop:=a≠46/\a≠b/\∃(i j:Nat) (r c:Str),rows[i]? =some r/\rows[i+1]? =some c/\r.cps[j]? =some a/\c.cps[j]? =some b
theorem gU:c∈cX rows↔Let rows c:=by
 unfold cX Let;rw[List.mem_filter,tU,List.mem_flatten,decide_eq_true_eq]
 constructor
 .rintro⟨⟨l,e,b⟩,a⟩;have%[r,d|rfl]:=Xb e;exact%[a,r,d|b]
 .rintro⟨a,r,d,b⟩;exact%[%[_,Xc %[r,d|rfl]|b]|a]
end Cut
namespace Cut
open PySem L2
def St(wd:Bool)(c d:Int):Prop:=c<=d+(if wd=true then 1 else 0)/\d<=c+(if wd=true then 1 else 2)
def kA(wd:Bool)(b:ZL):Prop:=∃a:Nat,a<b.length/\(∀k c,b[k]? =some c->(k<a->c= -1)/\(a<=k->0<=c/\c<=7))/\∀k c d,b[k]? =some c->b[k+1]? =some d->a<=k->St wd c d
noncomputable def sg(a s:Int):Nat:=if a<0 then 46 else 97+((a*5+s)%26).toNat
theorem GA(h:0<=a):iY (sg a s)=true:=by
 unfold sg;rw[if_neg ⋯,lr]
 lia
theorem GB(h:a<0):sg a s=46:=if_pos h
theorem B0(h:0<=a):sg a s≠46:=by
 unfold sg;rw[if_neg ⋯]
 lia
theorem GC(e:0<=a)(c:a<=7)(f:0<=b)(d:b<=7)(h:sg a s=sg b s):a=b:=by
 unfold sg at h;rw[if_neg ⋯,if_neg ⋯]at h;omega
noncomputable def i7(a:List ZL)(b:Int)(k:Nat):Str:=⟨(a.map λc=>sg (c.getD k 0) b).toArray⟩
noncomputable def drawn(a:List ZL)(hi:Nat)(b:Int):ZB:=(List.range hi).map (i7 a b)
theorem gW(h:(drawn a hi c)[k]? =some z):k<hi/\z=i7 a c k:=by
 unfold drawn at h;rw[Zk]at h;by_cases b:k<hi
 .rw[List.getElem?_range b]at h;exact%[b|(Z9 h).symm]
 simp_all
theorem lA{a:List ZL}{k j c:Nat}(h:(i7 a d k).cps[j]? =some c):∃b,a[j]? =some b/\c=sg (b.getD k 0) d:=by
 have h:(a.map λc=>sg (c.getD k 0) d)[j]? =some c:=by simpa [i7]using h
 rw[Zk]at h;cases e:a[j]? with
 | none=>simp_all
 | some b=>rw[e]at h;exact%[b,rfl|(Z9 h).symm]
theorem dz{a:ZL}(b:a.length=hi)(c:k<hi):a[k]? =some (a.getD k 0):=by
 simp_all
theorem uH{a:List ZL}{d:Int}{wd:Bool}(J:1<=hi)(L:hi<=40)(y:1<=a.length)(A:a.length<=40)(v:∀c∈a,c.length=hi/\kA wd c):cf (drawn a hi d):=by
 have len:(drawn a hi d).length=hi:=by unfold drawn;rw[Z5,Yd]
 have f:∀z∈drawn a hi d,∃k,k<hi/\z=i7 a d k:=λz g=>by
  have%[k|e]:=X3 g;exact%[k|gW e]
 refine%[⋯,⋯,%[a.length,y,A|λz g=>?_],λz g=>?_,λi r M B C j c N g1 g2 p=>?_|?_]
 .have%[k,_|rfl]:=f z g;simp[i7]
 .have%[k,h|rfl]:=f z g;rw[all_eq_true];intro c q;have%[j|E]:=X3 q;have%[b,s|rfl]:=lA (j:=j) (by simpa using E);by_cases G:b.getD k 0<0
  .rw[GB G];decide +kernel
  .unfold okc;rw[GA ⋯,Bool.or_true]
 .have%[t|rfl]:=gW B;have%[u|rfl]:=gW C;have%[b,s|rfl]:=lA g1;have%[w,l|rfl]:=lA g2;rw[s]at l;cases l;have%[o,m,H,h|_]:=v b (Z7 s);by_cases I:i+1<m
  .rw[(h i _ (dz o t)).1 ⋯];rfl
  .exact absurd p (B0 ((h _ _ (dz o u)).2 ⋯).1)
 .have n:0<a.length:=by lia
  have%[o,m,H,h|_]:=(v _ (Y6 n))
  exact%[i7 a d _,Xc %[hi-1,by rw[mem_range];lia|rfl],sg (a[0].getD (hi-1) 0) d,Xc %[a[0],Y6 n|rfl]|B0 ((h _ _ (dz o ⋯)).2 ⋯).1]
theorem uI{i:Int}{wd:Bool}(s:∀c∈d,c.length=hi/\kA wd c){c:Nat}:Let (drawn d hi i) c↔∃a:Int,0<=a/\a<=7/\(∃b∈d,a∈b)/\c=sg a i:=by
 constructor
 .rintro⟨l,r,t,m⟩;have%[k|e]:=X3 t;have%[h|rfl]:=gW e;have%[j|u]:=X3 m;have%[b,v|rfl]:=lA (by simpa using u);have f:=Z7 v;have%[n,o,A,w|_]:=s b f;have g:=dz n h;have q:=w k _ g;have:o<=k:=by
   refine Nat.le_of_not_lt λz=>l ?_
   rw[q.1 z];rfl
  exact%[_,(q.2 this).1,(q.2 this).2,%[b,f|Z7 g]|rfl]
 .rintro⟨a,y,B,⟨b,f,p⟩,rfl⟩;have%[n|_]:=s b f;have%[k|h]:=X3 p;refine%[B0 y,i7 d i k,Xc %[k,by rw[mem_range];exact(n▸(X8 h).1)|rfl]|Xc %[b,f|?_]];rw[Zb,h];rfl
noncomputable def there(b:List ZL):ZL:=((List.range 8).filter λa:Nat=>b.any λc=>decide ((a:Int)∈c)).map λa:Nat=>a
theorem eY:a∈there c↔0<=a/\a<=7/\∃b∈c,a∈b:=by
 unfold there;rw[mem_map]
 constructor
 .rintro⟨n,f,rfl⟩;rw[List.mem_filter,mem_range,any_eq_true]at f;have%[g,b,d|e]:=f;exact%[⋯,⋯,b,d|Zn e]
 .rintro⟨h,i,b,d,e⟩;refine%[a.toNat,?_|⋯];rw[List.mem_filter,mem_range,any_eq_true];refine%[⋯,b,d|Ze ?_];rw[show a.toNat=a by lia];exact e
theorem uJ(a:List _):(there a).Nodup:=by
 unfold there;rw[Yu,Yz];refine(List.Pairwise.filter _ (nodup_iff_pairwise_ne.mp nodup_range)).imp λh e=>h ⋯
theorem B1{a:List ZL}{hi:Nat}(i:1<=hi)(j:1<=a.length)(d:∀c∈a,c.length=hi/\kA wd c):there a≠[]:=by
 have b:0<a.length:=by lia
 have%[e,f,l,h|_]:=d _ (Y6 b);have g:=dz e (show hi-1<hi by lia);have q:=(h _ _ g).2 ⋯;exact List.ne_nil_of_mem (eY.mpr %[q.1,q.2,_,Y6 b|Z7 g])
theorem lB(a:List _):(there a).length<=8:=by
 unfold there;rw[Z5];exact Ya (Yc _ _) (Zh _)
noncomputable def dH(n:Str)(c:Nat):Str:=⟨(n.cps.toList++[46,c]).toArray⟩
theorem lC(h:dH n c=dH m d):n=m/\c=d:=by
 have e:=by
  have:=congrArg (λz=>z.cps.toList) h;simpa [dH]using this
 have q:=List.append_inj' e rfl;refine%[jm q.1|?_];have:=q.2;simpa using this
def zA(rows:ZB):Prop:=∃m:List _,m.length<=14/\∀a b,DX rows a b->[sgn a,sgn b]∈m
noncomputable def wB(wd:Bool):List (Int×Int):=((List.range 7).map λi:Nat=>((i:Int),(i:Int) +1)) ++if wd=true then(List.range 7).map λi:Nat=>((i:Int) +1,(i:Int))else(List.range 6).map λi:Nat=>(i,i+2)
theorem zB(h:St wd c d)(c0:0<=c)(a:c<=7)(b:0<=d)(f:d<=7)(ne:c≠d):(c,d)∈wB wd:=by
 unfold St at h;unfold wB;rw[Ym];by_cases e:d=c+1
 .exact .inl (Xc %[c.toNat,mem_range.mpr ⋯|by rw[show c.toNat=c by lia,e]])
 .refine .inr ?_;cases wd
  .exact Xc %[c.toNat,mem_range.mpr ⋯|by rw[show c.toNat=c by lia,show d=c+2 by lia]]
  .exact Xc %[d.toNat,mem_range.mpr ⋯|by grind]
theorem B2{hi:Nat}{m:Int}{wd:Bool}(w:∀c∈f,c.length=hi/\kA wd c):zA (drawn f hi m):=by
 refine%[(wB wd).map λp=>[sgn (sg p.1 m),sgn (sg p.2 m)],?_|?_]
 .rw[Z5];cases wd<;> decide
 .intro a b %[y,A,i,j,r,H,B,C,g1|g2];have%[d|rfl]:=gW B;have%[g|rfl]:=gW C;have%[n,q|rfl]:=lA g1;have%[s,h|rfl]:=lA g2;rw[q]at h;cases h;have%[l,E,I,o|G]:=w n (Z7 q);have t:=Nat.le_of_not_lt λz=>y (by rw[(o i _ (dz l d)).1 z];rfl)
  have u:=(o i _ (dz l d)).2 t;have v:=(o _ _ (dz l g)).2 ⋯;exact Xc %[(_,_),zB (G i _ _ (dz l d) (dz l g) t) u.1 u.2 v.1 v.2 (λe=>A (by rw[e]))|rfl]
end Cut
namespace K64
open PySem L2 Cut
abbrev ZqS:=Lean.Syntax
def zqn:Lean.Name->Array ZqS->ZqS:= .node .none
def zqa:String->ZqS:= .atom .none
def zqi(s:String):ZqS:=Lean.mkIdent s.toName
def zqh:ZqS:=zqn `Lean.Parser.Term.hole #[zqa "_"]
def zqf(k:Nat)(b:ZqS):ZqS:=zqn `Lean.Parser.Term.fun #[zqa "fun",zqn `Lean.Parser.Term.basicFun #[zqn `null (Array.replicate k zqh),zqn `null #[],zqa "=>",b]]
def zqd(c:Char):ZqS:=Lean.Syntax.mkNumLit (toString (c.toNat-48))
def zqe(a:Array ZqS)(x:String):ZqS:=if x="r"then zqi "rfl"else if x="n"then a[0]! else if x="h"then a.back! else if x="_"then zqh else if x="f"then zqf 2 (zqi "rfl") else if x="g"then zqf 1 (zqi "rfl") else if x.length>1 then zqi x else zqn `Lean.Parser.Term.namedArgument #[zqa "(",zqi x,zqa ":=",zqi x,zqa ")"]
def zqx(r:Array ZqS):ZqS:=if r[0]!.isAtom then(if r[0]!.getAtomVal=""then zqf 3 r[1]! else r[1]!)else if r.size<2 then r[0]! else zqn `Lean.Parser.Term.app #[r[0]!,zqn `null (r.extract 1 r.size)]
def zqp(s t:String):Nat:=(s.splitOn t).head!.length
def zqs(t:String)(a:Array ZqS)(l:List Char)(k:List (List String×Array ZqS)):List Char×List (List String×Array ZqS):=
 let f:=k.head!
 let k:=k.tail
 let x:=f.1.headD ""
 let w:=f.1.tail
 let c:=l.headD ' '
 if f.1.isEmpty then(l,(k.head!.1,k.head!.2.push (zqx f.2))::k.tail)
 else if x="#"then(l.tail,(w,f.2.push (zqd c))::k)
 else if x="L"then(l,(["*"],#[zqa ""])::(w,f.2)::k)
 else if x="*"then
  if c.isDigit then(l.tail,(["r"],#[zqi "ac",zqd c])::(w,f.2)::k)
  else if c='?'then(l.drop 2,(w,f.2.push a[l[1]!.toNat-48]!)::k)
  else
   let p:=zqp "~]`" c.toString
   let q:=if p<3 then 1 else 0
   let s:=((t.splitOn "|")[(74+84*p)*q+zqp "ABCDEFGHIJKLMNOPQRSTUVWXYZabcdefghijklmnopqrstuvwxyz!$%&'()*+,./:;<=>^_|}[0123456789" l[q]!.toString]!).splitOn " "
   (l.drop (q+1),(s.tail,#[zqi s.head!])::(w,f.2)::k)
 else(l,(w,f.2.push (zqe a x))::k)
def zqt(t:String)(a:Array ZqS)(l:List Char):Nat->ZqS
 |n=>(n.fold (λ_ _ s=>if s.2.length=1&&s.2.head!.1.isEmpty then s else zqs t a s.1 s.2) (l,[(["*"],#[zqa "1"])])).2.head!.2[1]!
def zqm(s:Lean.StrLit)(a:Array Lean.Term):Lean.MacroM Lean.Term:=
 return⟨zqt "paE r * *|ao|am * *|aq *|av|aA * h r *|aJ *|aG # n r *|opE * * *|QSs.h *|aL # n r|bz * r * *|gsE r * *|bO # r|ifS * * *|bh|cr *|cF K r f * *|cC K r *|cR PassesOwn.never r r * * *|db K r f * *|cbO * T.a8 PySem.boot_len r *|bQ K r|aL # * r|bJ r *|eB|wT *|Z1|Z0|ay.of *|cE|gu K r r r *|cS|gj K r g *|bY|dv h f * *|bo|iU *|iT * r * *|dG * r r * L L L|jv *|bmO K plainAttrs_list PySem.F.slot_list_append PySem.F.type_list_append * r * *|orW * *|c9|eBl|lj|gF|li *|gT h r * * *|cN|iI|nB * *|jN # n r * * r *|nA * *|cbO * T.ac boot_isinstance r *|iW K r|ctO * T.a5 boot_list r *|nu|pj *|fj K r|hX|kb *|rF *|iV *|hV|dZ h r * *|i4 PassesOwn.never * *|cbE * r T.ac boot_isinstance r r r *|l9 K r|vL|vN K r|cbO * T.a7 boot_sorted r *|gvE T.an r r|nv r T.aj r *|gG # n r * * r * r r * L L L|yM|vM|gA|gvE T.ao r r|ba T|qq|tF *|gvE T.av r r|ctO * T.a6 boot_set r *|pjE * *|cw T|A2 r r r * *|uC * T.c2 h r r *|bmO K plainAttrs_dict slot_dict_get type_dict_get * r * *|uu|nC|kQ T|cbO * T.a0 boot_min r *|xi K r r T.ae r *|DH K r r * *|xF *|slE K r * * *|tG # n r * *|bmO K plainAttrs_str slot_str_join type_str_join * r * *|vO K r|vJ * * r * * *|cbO * T.aa boot_all r *|A3 K r r|orV * *|A8 K w r r r|F6 *|Gf h r * *|iz T|Ge K r r *|eJ T|dW T|eK T|c8 T|cbO * T.a1 boot_max r *|oo T|gvE T.aq r r|Ev r T.af r r *|qx w r r|kI T|lM T|bmO K plainAttrs_list PySem.F.slot_list_extend PySem.F.type_list_extend * r * *|tH|qD P w r r r|BA K P w r r r r h|Bm *|Bl|ac # r|fM T|gY T|GH K r plainAttrs_list PySem.F.slot_list_append PySem.F.type_list_append * r r r r * *|bmO K plainAttrs_dict PySem.F.slot_dict_setdefault PySem.F.type_dict_setdefault * r * *|kq|qV T|je T|Ep|BX r r *|kT T|eV T|jh T|rG K r|EB h|my T|Ex T.bM r *|EA * T.c2 h r *|uU T|jJ T|ixSE f * *|vK|Er r|Ho r|ctO * T.ah boot_int r *|Es|BF # n r * * r *|sI T|tG # * r * *|gvE T.au r r|bmO K plainAttrs_str PySem.F.slot_str_split PySem.F.type_str_split * r * *|Dp|gvE T.ar r r|B7 T|oA T|Hx K r r T.af r r *|noO|jW T|gvE T.ap r r|gvE T.ay r r|gvE T.az r r|Hz K r T.cf r r|Hz K r T.ce r r|zO T|zN T|B9 T|gvE T.aw r r|oF T|gvE T.ax r r|uQ T|zJ T|ze K r|wH T|sL T|uT T|mI T|zg K r|oJ T|kO T|zH T|sO T|Gh r|Gg r|lO T|mJ T|DN r|FT K r plainAttrs_dict PySem.F.slot_dict_values PySem.F.type_dict_values * r r *|BJ|pM T|wK T|BM r r T.a9 r T.a5 r *|uY T|Ch T|jX T|Gi K r r|bmO K plainAttrs_list PySem.F.slot_list_remove PySem.F.type_list_remove * r * *|BK|Gp w r|sR T|oP T|F7 b.ex *|F5 * h r r r r *|C_Torn T|bmO K plainAttrs_dict PySem.F.slot_dict_update PySem.F.type_dict_update * r * *|BY|oR T|jI T|FT K r plainAttrs_list PySem.F.slot_list_pop PySem.F.type_list_pop * r r *|HE|Gx|zU T|ifE * * *|oU T|fO T|v9 r T.bE r|v9 r T.bJ r|v9 r T.bI r|v9 r T.bH r|v9 r T.bG r|v9 r T.bF r|v9 r T.bC r|HA h|GN T|zf r|BT h|GH K r plainAttrs_dict slot_dict_get type_dict_get * r r r r * *|Gr K r r|mK T|pR T|FT K r plainAttrs_list PySem.F.slot_list_clear PySem.F.type_list_clear * r r *|Do|sP T|zE T|jZ T|d8 T|pS T|HI h|Cp T" (a.map (·.raw)) s.getString.toList 9999⟩
abbrev ZM:=List V
abbrev ZN:=List (Addr×List V)
local macro_rules|`(%[$s:str,$x,*|$y])=>zqm s (x.getElems.push y)|`(%[$s:str|$y])=>zqm s #[y]
local macro_rules|`(tactic|lk)=>do
 let x<-("bc z8 j6 j5 j3 pf jA Aq tB CB tOr ER z6 EV tIf tOp tUn tC EK EM tCB pY yw Az Fj Fk vh tBM C2 tSl AF rh yG rI rI0 rU FJ FL rEq rNe AU En AV FA FC Fs Ft Fu Di Hm xh xg vP vB rC Ae Ac EZ Et Eu Ez wZ w4 Fe Ff FY m8 FF rD vD AM BH BI Gj sq Gn BQ ux rIn Dj Fx Fp FH rB xf Aj Dk GV GW GX".splitOn " ").toArray.mapM λs=>`(Lean.Parser.Tactic.simpLemma|↓$(Lean.mkIdent s.toName):ident)
 let y<-("nJ CP At zqD tyV GY GZ G0 List.getElem?_cons_zero List.getElem?_cons_succ List.set_cons_zero List.set_cons_succ Option.some.injEq V.int.injEq V.str.injEq V.bl.injEq V.ref.injEq V.ty.injEq List.cons.injEq reduceCtorEq and_true true_and and_false false_and or_false false_or or_true true_or exists_false exists_eq_left' exists_eq_left exists_eq_right exists_eq_right' exists_and_left exists_and_right exists_eq List.cons_append List.nil_append Zw exists_const and_assoc Int.zero_add Bool.not_true Bool.not_false Zx if_true if_false eq_self".splitOn " ").toArray.mapM λs=>`(Lean.Parser.Tactic.simpLemma|$(Lean.mkIdent s.toName):ident)
 `(tactic|simp only[$(x++y),*])
local macro_rules|`(!$n:ident)=>`(some (V.ref $n))
local macro_rules|`(-$n:ident)=>`(some (V.str $n))
local macro_rules|`(#[$n:num])=>`((show $n≤sizeLine by decide))|`(#[$x])=>`(paE rfl $x ao)|`(#[$x,$y,*])=>`(paE rfl $x #[$y,*])
local macro_rules|`(tactic|walk)=>`(tactic|refine⟨rfl,rfl,rfl,?_,rfl,?_,?_⟩<;>decide +kernel)
theorem zq0{P:List Value->Prop}(h:P []):∀u,u.length=0->P u:=λu e=>by rw[List.length_eq_zero_iff.mp e];exact h
theorem zq1{n:Nat}{P:List Value->Prop}(h:∀a,∀u,u.length=n->P (a::u)):∀u,u.length=n+1->P u:=λu e=>by
 cases u with
 |nil=>cases e
 |cons a u=>exact h a u (Nat.succ.inj e)
local macro_rules|`(tactic|room)=>`(tactic|(intro _ _ _ _ _ _;(repeat(refine zq1 λ_=>?_));exact zq0 rfl))
set_option hygiene false in
local macro_rules|`(tactic|fin2)=>`(tactic|(intro a b c d h;cases h;subst_vars;rfl))
set_option hygiene false in
local macro_rules|`(↑$n:num)=>`(ac $n rfl)
set_option hygiene false in
local macro_rules|`(↥$n:num)=>`(Cal P w K mg base $n)
noncomputable def top(i:Nat):Stmt:=PySem.Challenge.pw_digbook_k64_rows_torn.main.body.getD i (.Pass %[0,0,0|0])
noncomputable section
abbrev dN:Stmt:=top 1
theorem br:au ["ground","names","layer","word","one","other"] ["ground"] (ah dN):=by walk
abbrev eC:Stmt:=top 2
theorem dO:au ["names","one","other","first","second"] ["names","one","other"] (ah eC):=by walk
abbrev df:Stmt:=top 3
theorem eL:au ["names","layer"] ["names","layer"] (ah df):=by walk
abbrev jR:Stmt:=top 4
theorem fX:au ["ground","names","groups","layer"] ["ground"] (ah jR):=by walk
abbrev cY:Stmt:=top 5
theorem lD:au ["ground"] ["ground"] (ah cY):=by walk
abbrev mS:Stmt:=top 6
theorem uK:au ["ground","names"] ["ground"] (ah mS):=by walk
abbrev dP:Stmt:=top 19
theorem kB:au ["found"] ["found"] (ah dP):=by walk
abbrev dg:Stmt:=top 20
theorem jw:au ["found"] ["found"] (ah dg):=by walk
abbrev lE:Stmt:=top 21
theorem jS:au ["found","side","groups","link"] ["found","side"] (ah lE):=by walk
abbrev dA:Stmt:=top 22
theorem aZ:au ["names","found","beneath","above","waits","name","ready","laid","least","link"] ["names","found"] (ah dA):=by walk
abbrev fC:Stmt:=top 23
theorem cZ:au ["beneath","start","goal","reached","edge"] ["beneath","start","goal"] (ah fC):=by walk
abbrev i8:Stmt:=top 24
theorem eP:au ["beneath","edge","reached","further","name","link"] ["beneath","edge","reached"] (ah i8):=by walk
abbrev og:Stmt:=top 25
theorem qK:au ["reached","start","goal","way"] ["reached","start","goal"] (ah og):=by walk
abbrev gB:Stmt:=top 26
theorem cG:au ["names","found","beneath","reach","name","link"] ["names","found"] (ah gB):=by walk
abbrev eQ:Stmt:=top 27
theorem cT:au ["partners","held_by","asker","asked_by","free"] ["partners"] (ah eQ):=by walk
abbrev ik:Stmt:=top 28
theorem cU:au ["partners","held_by","askers","asked_by","waiting","asker","partner"] ["partners","held_by","askers"] (ah ik):=by walk
abbrev lF:Stmt:=top 29
theorem fD:au ["held_by","asked_by","free","holds","partner","asker"] ["held_by","asked_by","free"] (ah lF):=by walk
abbrev eD:Stmt:=top 30
theorem cK:au ["some","turned_about","key","value"] ["some"] (ah eD):=by walk
abbrev bP:Stmt:=top 31
theorem cO:au ["partners","held_by","holds","asked_by"] ["partners","held_by"] (ah bP):=by walk
abbrev wC:Stmt:=top 33
theorem DY:au ["ground"] ["ground"] (ah wC):=by walk
abbrev eE:Stmt:=top 34
theorem bM:au ["names","found","beneath","shortest","name","way"] ["names","found"] (ah eE):=by walk
abbrev im:Stmt:=top 35
theorem pI:au ["names","found"] ["names","found"] (ah im):=by walk
abbrev fE:Stmt:=top 36
theorem bT:au ["ground","found","torn_by"] ["ground"] (ah fE):=by walk
abbrev fF:Stmt:=top 38
theorem c6:au ["ground","found"] ["ground"] (ah fF):=by walk
abbrev cV:Stmt:=top 40
theorem b8:au ["ground","later_ahead","earlier_behind"] ["ground"] (ah cV):=by walk
abbrev jT:Stmt:=top 41
theorem mj:au ["first","earlier_behind","row"] ["first","earlier_behind"] (ah jT):=by walk
abbrev i9:Stmt:=top 42
theorem eZ:au ["ground","reach","left_out"] ["ground"] (ah i9):=by walk
abbrev jq:Stmt:=top 49
theorem wD:au ["thing"] ["thing"] (ah jq):=by walk
abbrev lG:Stmt:=top 50
theorem io:au ["text","rows","number","row"] ["text"] (ah lG):=by walk
abbrev kC:Stmt:=top 51
theorem zC:au ["row"] ["row"] (ah kC):=by walk
abbrev dB:Stmt:=top 52
theorem mG:au ["row","above"] ["row","above"] (ah dB):=by walk
abbrev eR:Stmt:=top 53
theorem pJ:au ["rows"] ["rows"] (ah eR):=by walk
abbrev lH:Stmt:=top 54
theorem wE:au ["text"] ["text"] (ah lH):=by walk
abbrev jU:Stmt:=top 55
theorem ef:au ["text","rows","pairs","above","row"] ["text"] (ah jU):=by walk
abbrev cj:Stmt:=top 56
theorem jx:au ["above","row"] ["above","row"] (ah cj):=by walk
abbrev ip:Stmt:=top 65
theorem d5:au ["cuts","names","number","thing"] ["cuts"] (ah ip):=by walk
abbrev fG:Stmt:=top 66
theorem mH:au ["thing"] ["thing"] (ah fG):=by walk
abbrev oh:Stmt:=top 67
theorem zD:au ["thing"] ["thing"] (ah oh):=by walk
abbrev eF:Stmt:=top 68
theorem dQ:au ["sayings","layers","number","thing"] ["sayings","layers"] (ah eF):=by walk
abbrev ja:Stmt:=top 69
theorem sF:au ["thing","layers"] ["thing","layers"] (ah ja):=by walk
abbrev eG:Stmt:=top 70
theorem lI:au ["thing","texts"] ["thing","texts"] (ah eG):=by walk
abbrev lJ:Stmt:=top 71
theorem wF:au ["thing"] ["thing"] (ah lJ):=by walk
abbrev iq:Stmt:=top 72
theorem pK:au ["name","letter"] ["name","letter"] (ah iq):=by walk
abbrev fY:Stmt:=top 73
theorem eS:au ["cuts","layers","name","text"] ["cuts"] (ah fY):=by walk
abbrev fH:Stmt:=top 74
theorem bV:au ["cuts","ties","name","text","upper","lower"] ["cuts"] (ah fH):=by walk
abbrev dC:Stmt:=top 75
theorem ck:au ["sayings","ties","number","saying"] ["sayings"] (ah dC):=by walk
abbrev gC:Stmt:=top 77
theorem oi:au ["_law_script","_law_k"] ["_law_script","_law_k"] (ah gC):=by walk
abbrev lK:Stmt:=top 78
theorem cH:au ["_law_script","_law_many","_law_found","_law_number","_law_k","_law_cell","_law_one","_law_two"] ["_law_script","_law_many"] (ah lK):=by walk
abbrev ir:Stmt:=top 79
theorem bK:au ["_law_number","_law_high","_law_wild","_law_air","_law_at","_law_signs","_law_k"] ["_law_number","_law_high","_law_wild"] (ah ir):=by walk
abbrev jV:Stmt:=top 80
theorem uL:au ["_law_at","_law_shift"] ["_law_at","_law_shift"] (ah jV):=by walk
abbrev dR:Stmt:=top 81
theorem cm:au ["_law_row_here","_law_shift","_law_wide","_law_high","_law_wild","_law_columns","_law_rows","_law_k","_law_signs","_law_there"] ["_law_row_here","_law_shift"] (ah dR):=by walk
abbrev iu:Stmt:=top 82
theorem bL:au ["_law_one","_law_two","_law_layers","_law_layer","_law_at","_law_other","_law_there","_law_kind","_law_odd","_law_year"] ["_law_one","_law_two","_law_layers"] (ah iu):=by walk
abbrev eT:Stmt:=top 83
theorem aR:au ["_law_row_here","_law_cuts","_law_layers","_law_k","_law_name","_law_shift","_law_text","_law_there","_law_at","_law_many","_law_sayings"] ["_law_row_here"] (ah eT):=by walk
abbrev jb:Stmt:=top 84
theorem bC:au ["_law_some","_law_begin","_law_steps_here","_law_edge","_law_far","_law_more","_law_later","_law_earlier","_law_source"] ["_law_some","_law_begin"] (ah jb):=by walk
abbrev cn:Stmt:=top 86
theorem aX:au ["_law_ground_here","_law_sayings","_law_layers","_law_number","_law_some","_law_later","_law_earlier","_law_source","_law_steps_here","_law_far"] ["_law_ground_here","_law_sayings","_law_layers","_law_number"] (ah cn):=by walk
abbrev d6:Stmt:=top 87
theorem fJ:au ["_law_found","_law_some","_law_k","_law_sizes"] ["_law_found","_law_some"] (ah d6):=by walk
abbrev eI:Stmt:=top 88
theorem dS:au ["_law_e","_law_some"] ["_law_e"] (ah eI):=by walk
abbrev gE:Stmt:=top 89
theorem dD:au ["_law_way","_law_ground_here","_law_some","_law_kept","_law_e"] ["_law_way","_law_ground_here","_law_some"] (ah gE):=by walk
abbrev kD:Stmt:=top 90
theorem iw:au ["_law_script","_law_cuts","_law_sayings","_law_layers","_law_ground_here","_law_torn_ones","_law_other_ground","_law_some","_law_way"] ["_law_script"] (ah kD):=by walk
abbrev bX:Stmt:=jj (top 64) 0
theorem fK:au ["self","cuts","sayings","layers"] ["self","cuts","sayings"] (ah bX):=by walk
abbrev pL:Stmt:=jj (top 64) 1
theorem B3:au ["self"] ["self"] (ah pL):=by walk
abbrev cb:Stmt:=jj (top 64) 2
theorem kE:au ["self"] ["self"] (ah cb):=by walk
abbrev cu:Stmt:=jj (top 64) 3
theorem lL:au ["self"] ["self"] (ah cu):=by walk
abbrev cW:Stmt:=jj (top 64) 4
theorem oj:au ["self"] ["self"] (ah cW):=by walk
abbrev ei:Stmt:=jj (top 11) 0
end
theorem sG:au ["self","ring"] ["self","ring"] (ah ei):=by walk
inductive om (K:ZA) (vs:ZM) (H:Hp) (Q:VK) (E0:XK):Prop
 | mk (a:Addr) (ns:ZL) (k:Int):vs=[.ref a,.int k]->SqL K H a (ns.map V.int)->0<=k->Q (.int (ns.getD k.toNat 0)) H->om K vs H Q E0
inductive B4 (K:ZA) (vs:ZM) (H:Hp) (Q:VK) (E0:XK):Prop
 | mk (a:Addr) (ns:ZL) (m:Int):vs=[.ref a,.int m]->SqL K H a (ns.map V.int)->ns.length<=1000->0<=m->m<=100->(∀l H' (xs:ZL),af H H'->H l=none->H' l=some (.lst (xs.map V.int))->xs.length=m.toNat->(∀x∈xs,0<=x/\x<9973)->Q (.ref l) H')->B4 K vs H Q E0
inductive qL (vs:ZM) (H:Hp) (Q:VK) (E0:XK):Prop
 | mk (n hi wild):vs=[.int n,.int hi,.bl wild]->0<=n->1<=hi->hi<=6->(∀l H' cs,af H H'->H l=none->H' l=some (.lst (cs.map V.int))->cs.length=hi.toNat->kA wild cs->Q (.ref l) H')->qL vs H Q E0
inductive xH (vs:ZM) (H:Hp) (Q:VK) (E0:XK):Prop
 | mk (a s:Int):vs=[.int a,.int s]->0<=s->Q (.str (sgn (sg a s))) H->xH vs H Q E0
def sH(H:Hp)(a:List (Addr×ZL)):Prop:=∀p∈a,H p.1=some (.lst (p.2.map V.int))
theorem sH.up{H a:Hp}{b:List _}(h:sH H b)(s:af H a):sH a b:=λp c=>s _ _ (h p c)
inductive B5 (K:ZA) (vs:ZM) (H:Hp) (Q:VK) (E0:XK):Prop
 | mk (a:Addr) (xs:ZL) (sh:Int):vs=[.ref a,.int sh]->SqL K H a (xs.map V.int)->(∀H',af H H'->SqL K H' a (xs.map V.int))->xs.length=6->(∀x∈xs,0<=x/\x<9973)->0<=sh->(∀T th H' cols hi wd,af H H'->H T=none->H th=none->T≠th->H' T=some (.tup [.str (Str.join nl (drawn cols hi sh)),.ref th])->H' th=some (.lst ((there cols).map V.int))->1<=hi->hi<=6->1<=cols.length->cols.length<=5->(∀c∈cols,c.length=hi/\kA wd c)->Q (.ref T) H')->B5 K vs H Q E0
structure Txt (K:ZA) (mg:ZC):Prop where
 a0:mg "min"=none
 a1:mg "max"=none
 a5:mg "list"=none
 a6:mg "set"=none
 a7:mg "sorted"=none
 a8:mg "len"=none
 a9:mg "reversed"=none
 aa:mg "all"=none
 ab:mg "str"=none
 ac:mg "isinstance"=none
 ae:mg "enumerate"=none
 af:mg "zip"=none
 ag:mg "tuple"=none
 ah:mg "int"=none
 ai:mg "bool"=none
 aj:mg "range"=none
 ak:mg "abs"=none
 am:mg "ValueError"=none
 an:Gv mg "LATER" (.int 0)
 ao:Gv mg "EARLIER" (.int 1)
 ap:Gv mg "LONGEST_NAME" (.int 8)
 aq:Gv mg "LETTERS" (.str "abcdefghijklmnopqrstuvwxyz")
 ar:Gv mg "MOST_ROWS" (.int 40)
 au:Gv mg "MOST_SIGNS" (.int 40)
 av:Gv mg "AIR" (.str ".")
 aw:Gv mg "MOST_CUTS" (.int 8)
 ax:Gv mg "MOST_SAYINGS" (.int 60)
 ay:Gv mg "FIRST_YEAR" (.int (-9999))
 az:Gv mg "LAST_YEAR" (.int 9999)
 aA:aD K mg "names_by_layer" dN ["ground"]
 aB:aD K mg "join_deposits" eC ["names","one","other"]
 aC:aD K mg "least_pointed_to" df ["names","layer"]
 aE:aD K mg "deposits" jR ["ground"]
 aF:aD K mg "deposit_names" cY ["ground"]
 aG:aD K mg "links" mS ["ground"]
 aI:aD K mg "links_by_later" dP ["found"]
 aJ:aD K mg "links_by_earlier" dg ["found"]
 aK:aD K mg "grouped" lE ["found","side"]
 aL:aD K mg "laid_in_turn" dA ["names","found"]
 aM:aD K mg "shortest_way" fC ["beneath","start","goal"]
 aN:aD K mg "next_edge" i8 ["beneath","edge","reached"]
 aO:aD K mg "way_to" og ["reached","start","goal"]
 aP:aD K mg "all_beneath" gB ["names","found"]
 aQ:aD K mg "most_pairs" eQ ["partners"]
 aR:aD K mg "ask_around" ik ["partners","held_by","askers"]
 aS:aD K mg "pass_on" lF ["held_by","asked_by","free"]
 aT:aD K mg "keys_by_value" eD ["some"]
 aU:aD K mg "one_of_each_pair" bP ["partners","held_by"]
 aV:aD K mg "ring" wC ["ground"]
 aW:aD K mg "shortest_ring" eE ["names","found"]
 aX:aD K mg "never_laid" im ["names","found"]
 aY:aD K mg "untorn_links" fE ["ground"]
 aZ:aD K mg "earlier_ones" fF ["ground"]
 b0:aD K mg "fewest_rows" cV ["ground"]
 b1:aD K mg "row_from" jT ["first","earlier_behind"]
 b2:aD K mg "widest" i9 ["ground"]
 b3:aD K mg "is_name" jq ["thing"]
 b4:aD K mg "rows_of" lG ["text"]
 b5:aD K mg "is_row" kC ["row"]
 b6:aD K mg "lies_beneath" dB ["row","above"]
 b7:aD K mg "letters_in" eR ["rows"]
 b8:aD K mg "letters" lH ["text"]
 b9:aD K mg "meetings" jU ["text"]
 ba:aD K mg "meetings_between" cj ["above","row"]
 bb:aD K mg "check_cuts" ip ["cuts"]
 bc:aD K mg "is_named_cut" fG ["thing"]
 bd:aD K mg "is_cut" oh ["thing"]
 be:aD K mg "check_sayings" eF ["sayings","layers"]
 bf:aD K mg "is_saying" ja ["thing","layers"]
 bg:aD K mg "is_text_among" eG ["thing","texts"]
 bh:aD K mg "is_year" lJ ["thing"]
 bi:aD K mg "layer_name" iq ["name","letter"]
 bj:aD K mg "layers_of" fY ["cuts"]
 bm:aD K mg "ties_of_cuts" fH ["cuts"]
 bn:aD K mg "ties_of_sayings" dC ["sayings"]
 bo:aD K mg "_law_cell_at" gC ["_law_script","_law_k"]
 bp:aD K mg "_law_row" lK ["_law_script","_law_many"]
 bq:aD K mg "_law_column" ir ["_law_number","_law_high","_law_wild"]
 br:aD K mg "_law_sign" jV ["_law_at","_law_shift"]
 bt:aD K mg "_law_cut" dR ["_law_row_here","_law_shift"]
 bu:aD K mg "_law_saying" iu ["_law_one","_law_two","_law_layers"]
 bv:aD K mg "_law_ground" eT ["_law_row_here"]
 bw:aD K mg "_law_steps" jb ["_law_some","_law_begin"]
 bx:aD K mg "_law_torn_sayings" cn ["_law_ground_here","_law_sayings","_law_layers","_law_number"]
 bz:aD K mg "_law_is_ring" d6 ["_law_found","_law_some"]
 bA:aD K mg "_law_only_torn" eI ["_law_e"]
 bB:aD K mg "_law_refused" gE ["_law_way","_law_ground_here","_law_some"]
 bC:mg "Torn"=some (.ref (aH mg "Torn"))
 bD:mg "DigError"=some (.ref (aH mg "DigError"))
 bE:mg "NoCut"=some (.ref (aH mg "NoCut"))
 bF:mg "NoLayer"=some (.ref (aH mg "NoLayer"))
 bG:mg "NoRow"=some (.ref (aH mg "NoRow"))
 bH:mg "NoDeed"=some (.ref (aH mg "NoDeed"))
 bI:mg "NoSaying"=some (.ref (aH mg "NoSaying"))
 bJ:mg "NoGround"=some (.ref (aH mg "NoGround"))
 bK:Bj K mg "Torn" "Torn.__init__" ei ["self","ring"]
 bL:FX K (aH mg "Torn") "ring"
 bM:Dv K (aH mg "Torn") "ring"
 bN:subIn K (.ref (aH mg "Torn")) (.ref (aH mg "NoCut"))=some false
 bO:subIn K (.ref (aH mg "Torn")) (.ref (aH mg "DigError"))=some true
 bQ:kitOne K (.ref (aH mg "Torn")) (.ref (aH mg "NoCut"))=some false
 bR:kitOne K (.ref (aH mg "Torn")) (.ref (aH mg "NoGround"))=some false
 bS:kitOne K (.ref (aH mg "Torn")) (.ref (aH mg "NoSaying"))=some false
 bT:kitOne K (.ref (aH mg "Torn")) (.ref (aH mg "NoDeed"))=some false
 bU:kitOne K (.ref (aH mg "Torn")) (.ref (aH mg "Torn"))=some true
 bV:kitOne K (.ref (aH mg "Torn")) (.type "ValueError")=some true
 bW:kitOne K (.ref (aH mg "Torn")) (.ref (aH mg "NoRow"))=some false
 bY:kitOne K (.ref (aH mg "Torn")) (.ref (aH mg "NoLayer"))=some false
 bZ:Bc K (aH mg "DigError")
 c0:Cat K (aH mg "NoCut")
 c1:Cat K (aH mg "DigError")
 c2:um K mg "Ground"
 c3:gi K (aH mg "Ground") "kept_cuts"
 c4:gi K (aH mg "Ground") "kept_sayings"
 c5:gi K (aH mg "Ground") "kept_layers"
 c6:gi K (aH mg "Ground") "kept_ties"
 c7:BD K mg "Ground" "Ground.__init__" bX ["self","cuts","sayings"]
 c8:uo K mg "Ground" "sayings" "Ground.sayings" cb ["self"]
 c9:uo K mg "Ground" "layers" "Ground.layers" cu ["self"]
 cc:uo K mg "Ground" "ties" "Ground.ties" cW ["self"]
 ce:GvT K mg "YEAR_WORDS" [.str "since",.str "by"]
 cf:GvT K mg "LAYER_WORDS" [.str "later",.str "same"]
section
variable{P:Program}{w:World}{K:ZA}{mg:ZC}{base:Heap}
theorem cv{n:Nat}(h:n<=5000):n<=sizeLine:=Ya h (by decide)
theorem aB{n:Nat}(h:n<=5000):n<sizeLine:=Nat.lt_of_le_of_lt h (by decide)
theorem af.upd{H:Hp}{p:Addr}{o:HO}(h:H p=none):af H (upd H p o):=λb u e=>(ak (ar e h))▸e
theorem af.set{H a:Hp}{p:Addr}{o:HO}(c:af H a)(h:H p=none):af H (L2.upd a p o):=λb u e=>(ak (ar e h))▸c b u e
theorem HJ{a:Type}(xs:List a){i:Int}(b:0<=i)(e:i<xs.length):∃c,atI xs i=some c/\c∈xs:=by
 have%[j|rfl]:=X5 b;have d:j<xs.length:=by lia
 exact%[xs[j],cA ∅|Y6 d]
theorem kH(xs:ZL){i:Int}(b:0<=i)(d:i<xs.length):∃c,atI (xs.map V.int) i=some (V.int c)/\c∈xs:=by
 have%[j|rfl]:=X5 b;have a:j<xs.length:=by lia
 exact%[xs[j],cA (by simp[a])|Y6 a]
theorem EG:(ia.cps.toList.length:Int)=26:=by decide +kernel
theorem d8(T:Txt K mg):↥1 "_law_cell_at" ["_law_script","_law_k"] (om K):=by
 refine T.bo.cal oi (λH vs Q E h=>?_)
 .have%[a,b,k,rfl,c,g|q]:=h;refine%[rfl|λf e A outer s l=>?_];refine%[_,%["JCOL^1VWA0BDGR01PDGE"|0]|?_]
  show bc _ _ _ [some _,some _] H;lk;refine%[_,.inl %[_,c|rfl]|bj (λd=>?_) λd=>?_]
  .rw[Z5]at d;refine%[_,c,.int _,?_|q];have%[j|rfl]:=X5 g;have i:j<b.length:=by lia
   exact cA (by simp[i])
  simp_all
theorem zE(T:Txt K mg):↥2 "_law_row" ["_law_script","_law_many"] (B4 K):=by
 refine T.bp.cal cH (λH vs Q E h=>?_)
 .have%[a,p,m,rfl,J,hn,h0,h1|q]:=h;refine%[rfl|λf ae A outer s I=>?_];refine%[_,(QSs.h (am (aG 2 cH.nd rfl (cr ao))
   (am (aG 3 cH.nd rfl (opE gA (cbO ⟨Av⟩ T.ak boot_abs rfl #[aA (d8 T) I rfl #[↑0,av]]) (ctO Es T.ah boot_int rfl #[iT cE rfl (opE bY (aA (d8 T) I rfl #[↑0,av]) av) av])))
   (am (cR PassesOwn.never rfl rfl (nv rfl T.aj rfl #[↑1]) (aL 4 cH.nd rfl)
   (aq (ifS (bz vM rfl ↑3 av)
    (am (bJ rfl (bmO (K:=K) plainAttrs_list PySem.F.slot_list_append PySem.F.type_list_append bo rfl ↑2 #[opE bY ↑3 av]))
     (aq (aG 3 cH.nd rfl (opE c9 ↑3 av))))
    (am (aG 5 cH.nd rfl (aA (d8 T) I rfl #[↑0,(opE cN av (opE bY ↑4 (cbO (Er rfl) T.a1 boot_max rfl #[av,(opE qq (cbO (bQ (K:=K) rfl) T.a8 PySem.boot_len rfl #[↑0]) av)])))]))
     (am (aG 6 cH.nd rfl (opE bY (opE gA (opE cN (opE cN (opE bY ↑5 av) (opE gA av ↑4)) av) av) av))
     (am (aG 7 cH.nd rfl (opE bY (opE cN (opE vK ↑6 ↑6) (opE gA av ↑4)) av))
     (aq (bJ rfl (bmO (K:=K) plainAttrs_list PySem.F.slot_list_append PySem.F.type_list_append bo rfl ↑2 #[opE bY (opE bY (opE vK ↑7 ↑7) av) av])))))))))
   (aq (aJ ↑2))))))|?_]
  show bc _ _ _ [!a,some (.int m),none,none,none,none,none,none] H;refine lc λn1 c1=>?_
  lk;refine%[X2 _|λl L=>c1 _ _ (lc λn2 c2=>?_)];have j:af H (upd H l (.lst [])):=af.upd L;lk;refine%[a,p,1,rfl,j.seq J,by decide,_,rfl,a,p,0,rfl,j.seq J,by decide,_,rfl,by decide|?_];refine%[.inr (by split<;> exact%[by decide|by decide])|c2 _ _ (lc λn3 c3=>az λab hK=>?_)];lk;refine%[⋯,⋯|hK _ _ (eW (λi M g=>∃(n:Int) (o u z B:Option V) (xs:ZL),M=[!a,some (.int m),!l,some (.int n),o,u,z,B]/\af H g/\g l=some (.lst (xs.map V.int))/\xs.length=i/\∀x∈xs,0<=x/\x<9973)
   %[_,none,none,none,none,[],rfl,j,aa,rfl|λ_ h=>nomatch h] ?_ ?_)]
  .intro i M g hi %[n,o,u,z,B,xs,rfl,C,d,G|e];have ag:i<100:=by lia
   have r:=C.seq J;show j6 _ _ _ _ [!a,some (.int m),!l,some (.int n),some (.int (0+i)),u,z,B] g;rw[Int.zero_add];have put:∀v:Int,0<=v->v<9973->af H (upd g l (.lst (xs.map V.int++[.int v])))/\∃b:ZL,upd g l (.lst (xs.map V.int++[.int v])) l=some (.lst (b.map V.int))/\b.length=i+1/\∀x∈b,0<=x/\x<9973:=λv v0 v1=>
    ⟨af.set C L,xs++[v],by rw[aa,Zc];rfl,by rw[Z8,G];rfl,λy hy=>by
     rcases X9 hy with q|q
     .exact e y q
     .rw[Xa q];exact%[v0|v1]⟩
   have len:(xs.map V.int).length<sizeLine:=by rw[Z5,G];exact aB ⋯
   have mx:∀x:Nat,(0:Int)<(if(x:Int) -1>1 then(x:Int) -1 else 1):=λx=>by split<;> lia
   refine aC λD1 k1 _=>?_
   lk;refine bj (λ_=>?_) λ_=>?_
   .refine%[.inl %[_|SqL.of d],by decide,_,d,len,%[by decide|by decide]|k1 _ _ ?_];have%[N,b,O,U|Y]:=put (n%9973) ⋯ ⋯;exact%[_,_,_,_,_,b,rfl,N,O,U|Y]
   .refine%[_,.inl %[_,r|rfl],mx _,a,p,_,rfl,r,?_|?_]
    .have:=Int.emod_nonneg (i:Int) (Int.ne_of_gt (mx (p.map V.int).length))
     lia
    generalize p.getD _ 0=c
    lk;refine%[by decide,.inl %[by decide|by decide],.inr %[by decide|by decide],by decide|?_];have b1:=Int.emod_nonneg ((c%1000003+7919*i+1)*48271) (by decide:(2147483629:Int)≠0);have b2:=Int.emod_lt_of_pos ((c%1000003+7919*i+1)*48271) (by decide:(0:Int)<2147483629)
    generalize (c%1000003+7919*i+1)*48271%2147483629=one at b1 b2
    refine%[.inl %[⋯|⋯],.inl %[by decide|by simp],by decide|?_];have b3:=Int.emod_nonneg (one*one+104729*i) (by decide:(2147483587:Int)≠0);have b4:=Int.emod_lt_of_pos (one*one+104729*i) (by decide:(0:Int)<2147483587)
    generalize (one*one+104729*i)%2147483587=t at b3 b4
    refine%[.inl %[_|SqL.of d],.inl %[⋯|⋯],by simp,by decide,_,d,len|k1 _ _ ?_];have%[N,b,O,U|Y]:=put (t*t%2147483563%9973) ⋯ ⋯;exact%[_,_,_,_,_,b,rfl,N,O,U|Y]
  .intro M g %[n,o,u,z,B,xs,rfl,C,d,G|e];refine c3 _ _ ?_;lk;exact q l g xs C L d G e
theorem GD(a:0<=i)(c:i<26):atI ia.cps.toList i=some (97+i.toNat):=by
 have%[j|rfl]:=X5 a;have b:j<26:=by omega
 have all:∀j:Fin 26,ia.cps.toList[j.1]? =some (97+j.1):=by decide +kernel
 exact cA (all %[j|b])
theorem oo(T:Txt K mg):↥1 "_law_sign" ["_law_at","_law_shift"] xH:=by
 refine T.br.cal uL (λH vs Q E h=>?_)
 .have%[a,g,rfl,i|c]:=h;refine%[rfl|λf d A outer s e=>?_];refine%[_,%["JCOL^0EDGZPDG~}ZIiI+I~[0E1E"|0]|?_]
  show bc _ _ _ [some (.int a),some _] H;lk;unfold sg at c;refine bj (λb=>?_) λb=>?_
  .have b:=Zn b;rw[if_pos b]at c;exact c
  .have b: ¬ a<0:=by simpa using b
   rw[if_neg b]at c;refine%[.inr %[by simp|by simp],by decide,(by decide),_,GD (by omega) (by omega)|c]
theorem sI(T:Txt K mg):↥1 "_law_column" ["_law_number","_law_high","_law_wild"] qL:=by
 refine T.bq.cal bK (λH vs Q E h=>?_)
 .have%[n,hi,wd,rfl,n0,h1,h6|kk]:=h;refine%[rfl|λf ai A outer s hr=>?_];refine%[_,%["JCH3Ii0ECH4IiIr0EECH0Ir0ECH5QBCT[A1BK6DOazL^63,L^6I~G1EDYpk5A.EBCYpk5A4BCH4~n~0AEA~S~1AEAI+4RQAEAEARQAEA.EB~2~3A2BBIi0EBBDH0Ir0EDG5"|bK.nd]|?_]
  show bc _ _ _ [some (.int n),some (.int hi),some (.bl wd),none,none,none,none] H;refine ap λD1 k1 _=>?_
  lk;refine%[by decide|k1 _ _ (ap λD2 k2 _=>?_)];lk;refine%[%[by decide|by decide],by decide|k2 _ _ (ap λD3 k3 _=>?_)];lk;refine%[%[by decide|by decide]|k3 _ _ (ap λD4 k4 _=>?_)];lk;refine%[X2 _|λL O=>k4 _ _ (ap λD5 k5 r5=>az λag hK=>?_)];lk;have I:∃a:Nat,(a:Int)=(if n%3<hi-1 then n%3 else hi-1):=by
   split
   .exact%[(n%3).toNat|by omega]
   .exact%[(hi-1).toNat|by omega]
  have%[a|ea]:=I;refine%[by omega,by omega|hK _ _ (eW (λi σ y=>∃(m b:Int) (o:Option V) (g:ZL),σ=[some (.int m),some (.int hi),some (.bl wd),some (.int (n%3)),some (.int b),!L,o]/\0<=b/\b<=7/\af H y/\y L=some (.lst (g.map V.int))/\g.length=i/\
   (∀(k:Nat) (c:Int),g[k]? =some c->(k<a->c= -1)/\(a<=k->0<=c/\c<=7))/\∀(k:Nat) (c d:Int),g[k]? =some c->(g++[b])[k+1]? =some d->a<=k->St wd c d)
   %[_,_,none,[],rfl,by omega,by omega,af.upd O,aa,rfl,(λk c e=>by simp at e)|λk c d e=>by simp at e] ?_ ?_)]
  .intro i σ y aj %[m,b,o,g,rfl,a0,a7,U,l,B,r|C];show j6 _ _ _ _ [some (.int m),some (.int hi),some (.bl wd),some (.int (n%3)),some (.int b),!L,some (.int (0+i))] y;rw[Int.zero_add];have len:(g.map V.int).length<sizeLine:=by rw[Z5,B];exact aB (by omega)
   have put:∀v:Int,(i<a->v= -1)->(a<=i->0<=v/\v<=7)->∀(k:Nat) (c:Int),(g++[v])[k]? =some c->(k<a->c= -1)/\(a<=k->0<=c/\c<=7):=λv v1 v2 k c e=>by
    by_cases Y:k<g.length
    .rw[Y3 Y]at e;exact r k c e
    .have ek:k=i:=by
      have:=(X8 e).1;rw[Z8]at this;simp only[Zq,length_nil]at this;omega
     subst ek;rw[Y4 (by omega),B,sub_self]at e;cases e;exact%[v1|v2]
   refine aC λD6 k6 _=>?_
   lk;have J:∀v u:Int,(a<=i->v=b/\St wd v u)->∀(k:Nat) (c d:Int),(g++[v])[k]? =some c->(g++[v] ++[u])[k+1]? =some d->a<=k->St wd c d:=λv u q k c d G t Y=>by
    have al:k+1<=g.length+1:=by
     have:=(X8 t).1;simp only[Z8,Zq,length_nil]at this;omega
    by_cases h:k+1<g.length+1
    .rw[Y3 (by omega)]at G;rw[Y3 (by simpa using h)]at t;by_cases h':a<=i
     .rw[(q h').1]at t;exact C k c d G t Y
     .omega
    .have ek:k=i:=by omega
     subst ek;rw[Y4 (by omega),B,sub_self]at G;rw[Y4 (by simp;omega)]at t;simp[B]at G t;rw[<-G,<-t];exact(q Y).2
   have fin:∀_v:Int,¬ i<a->∀(m2 j:Int) (HH:Hp),0<=j->j<=7->St wd b j->af (upd y L (.lst (g.map V.int++[.int b]))) HH->D6.nx [some (.int m2),some (.int hi),some (.bl wd),some (.int (n%3)),some (.int j),!L,some (.int i)] HH:=λv hv m2 j HH b0 b7 st sh=>
    k6 _ _ %[m2,j,_,g++[b],rfl,b0,b7,(af.set U O).trans sh,by rw[sh L _ aa,Zc];rfl,by rw[Z8,B];rfl,put b (λz=>absurd z hv) λ_=>%[a0|a7]|J b j λ_=>%[rfl|st]]
   refine bj (λhA=>bj (λhB=>?g1) λhB=>?g2) λhA=>?g3
   case g1=>
    simp only[decide_eq_true_eq]at hA hB;have M:i<a:=by split at ea<;> omega
    exact%[.inl %[_|SqL.of l],_,l,len|k6 _ _ %[m,b,_,g++[-1],rfl,a0,a7,af.set U O,by rw[aa,Zc];rfl,by rw[Z8,B];rfl,put (-1) (λ_=>rfl) λz=>absurd M (by omega)|J (-1) b λz=>absurd M (by omega)]]
   all_goals
    have ab: ¬ i<a:=by
     simp only[decide_eq_true_eq]at*
     split at ea<;> omega
    refine%[.inl %[_|SqL.of l],_,l,len,#[2]|λp hp=>%[_,SqL.of aa,.int (if wd=true then -1 else 2),by cases wd<;> rfl,#[3]|λp1 ae=>%[by decide,_,SqL.of aa|?_]]];have%[c,hc|N]:=kH [0,1,if wd=true then -1 else 2] (i:=m%3) (by omega) (by show m%3<3;omega);refine%[_,hc,c,rfl,%[by decide|by decide]|fin 0 ab _ _ _ ?_ ?_ ?_ ((af.upd hp).trans (af.upd ae))]
    rotate_left 2
    .unfold Cut.St;simp only[Yp,Yx,or_false]at N;cases wd<;> rcases N with rfl|rfl|rfl<;> simp<;>(split<;>(try split)<;> omega)
    all_goals(split<;>(simp)<;> omega)
  .intro σ y %[m,b,o,g,rfl,a0,a7,U,l,B,r|C];refine k5 _ _ ?_;lk;exact kk L y g U O l (by omega) %[a,by omega,r|λk c d G t=>C k c d G ((Y3 (X8 t).1)▸t)]
theorem uM(xs:ZL){lo hi:Int}(a:0<=lo)(b:lo<=hi)(c:hi<=xs.length):tq (xs.map V.int) (some lo) (some hi)=((xs.drop lo.toNat).take (hi.toNat-lo.toNat)).map V.int:=by
 unfold tq;have d:HT.sIx xs.length 0 (some lo)=lo.toNat:=by
  show(if lo<0 then _ else min lo.toNat xs.length)=_
  grind
 have e:HT.sIx xs.length xs.length (some hi)=hi.toNat:=by
  show(if hi<0 then _ else min hi.toNat xs.length)=_;rw[if_neg ⋯]
  lia
 simp_all
theorem HU(p:Nat->Bool)(n:Nat):inV (V.bl true) ((List.range n).map λr=>V.bl (p r))=(List.range n).any p:=by
 unfold inV;rw[any_map]
 congr 1
 funext r;show eqV (V.bl _) (V.bl true)=p r;cases p r<;> rfl
theorem zF{a:Type}(p:a->Bool)(xs:List a):inV (V.bl true) (xs.map λr=>V.bl (p r))=xs.any p:=by
 unfold inV;rw[any_map]
 congr 1
 funext r;show eqV (V.bl _) (V.bl true)=p r;cases p r<;> rfl
theorem DZ(a:Int)(b:ZL):inV (V.int a) (b.map V.int)=decide (a∈b):=by
 unfold inV
 induction b with
 | nil=>rfl
 | cons c r d=>
   show((c==a)||_)=_
   grind
theorem zG(a:ZL):(a.map V.int).all fQ=true:=by simp[fQ]
theorem zH(T:Txt K mg):↥2 "_law_cut" ["_law_row_here","_law_shift"] (B5 K):=by
 refine T.bt.cal cm (λH vs Q E h=>?_)
 .have%[a,xs,B,rfl,hs,keep,b1,hb,s0|kk]:=h;refine%[rfl|λf ch A outer s hr=>?_];have get:∀i:Int,0<=i->i<6->∃c,atI (xs.map V.int) i=some (V.int c)/\0<=c/\c<9973:=λi h0 h1=>by
   have%[c,e|hm]:=kH xs h0 ⋯;exact%[c,e|hb c hm]
  have%[c0,g0,l0|u0]:=get 0 (by decide) (by decide);refine%[_,%["JCH2IxEIiR0EEC!3bcIxEIiIrR0EEEC!4bcmeIiIrR0EEEEC~45bcnd?1S~W0~HE~HIxE2X0?2tF~5A0AN1AN2BCH6QBCT[AN3B~X7bcC~A8cbd?3SN5X0?4tR0N1DYpk6A~Y~ZZAnd?5S8X0?6tF~oA0AN1BBBC~A9cbd?7[AEB~60?8bc/L_snd?9SN1X0?:tm_N10N0DGlA~Y~ZZA6BA9B",cm.nd,(show bD (ah dR) ["_law_row_here","_law_shift","_law_wide","_law_high","_law_wild","_law_columns","_law_rows","_law_k","_law_signs","_law_there"] _ ["_law_number","_law_high","_law_wild"] [(1,3),(2,4)]=true from by decide +kernel),(show(["_law_number","_law_high","_law_wild"]:ZB).Nodup from by decide +kernel),(show bD (ah dR) ["_law_row_here","_law_shift","_law_wide","_law_high","_law_wild","_law_columns","_law_rows","_law_k","_law_signs","_law_there"] _ ["_law_column_here","_law_k"] [(1,7)]=true from by decide +kernel),(show(["_law_column_here","_law_k"]:ZB).Nodup from by decide +kernel),(show bD (ah dR) ["_law_row_here","_law_shift","_law_wide","_law_high","_law_wild","_law_columns","_law_rows","_law_k","_law_signs","_law_there"] _ ["_law_at","_law_shift"] [(1,1)]=true from by decide +kernel),(show(["_law_at","_law_shift"]:ZB).Nodup from by decide +kernel),(show bD (ah dR) ["_law_row_here","_law_shift","_law_wide","_law_high","_law_wild","_law_columns","_law_rows","_law_k","_law_signs","_law_there"] _ ["_law_at","_law_columns"] [(1,5)]=true from by decide +kernel),(show(["_law_at","_law_columns"]:ZB).Nodup from by decide +kernel),(show bD _ ["_law_at","_law_columns"] _ ["_law_column_here","_law_at"] [(1,0)]=true from rfl),(show(["_law_column_here","_law_at"]:ZB).Nodup from by decide +kernel)|hr]|?_]
  show bc _ _ _ [!a,some (.int B),none,none,none,none,none,none,none,none] H;refine ap λD1 k1 _=>?_
  lk;refine%[_,hs,_,g0,c0,rfl,by decide|k1 _ _ (ap λD2 k2 _=>?_)];lk;refine%[_,hs,_,g0,c0,rfl,%[by decide|by decide],by decide|k2 _ _ (ap λD3 k3 _=>?_)];lk;refine%[_,hs,_,g0,c0,rfl,%[by decide|by decide],by decide|k3 _ _ (ap λD4 k4 _=>?_)];have w1:1<=1+c0%5:=by lia
  have w5:1+c0%5<=5:=by lia
  have i1:1<=1+c0/5%6:=by lia
  have i6:1+c0/5%6<=6:=by lia
  generalize cl:1+c0%5=wd at w1 w5
  generalize 1+c0/5%6=hi at i1 i6
  generalize decide (c0/30%8=0)=v
  refine aF λC O=>?_
  lk;refine .inl %[_,hs|λp hp=> .inl %[%[_|SqL.of aa]|O _ _ λD hD=>?_]];rw[uM xs (by decide) ⋯ ⋯]at hD ⊢;have a2:((xs.drop (Int.toNat 1)).take ((1+wd).toNat-Int.toNat 1)).length=wd.toNat:=by
   rw[Yf,Yb,b1];rw[show(1+wd).toNat=wd.toNat+1 by lia];exact Nat.min_eq_left ⋯
  have a3:∀x∈(xs.drop (Int.toNat 1)).take ((1+wd).toNat-Int.toNat 1),0<=x/\x<9973:=λx hx=>hb x (List.mem_of_mem_drop (Yq hx))
  generalize (xs.drop (Int.toNat 1)).take ((1+wd).toNat-Int.toNat 1)=ys at a2 a3 hD ⊢
  have a4:af H (upd H p (.lst (ys.map V.int))):=af.upd hp;have ae:upd H p (.lst (ys.map V.int)) p=some (.lst (ys.map V.int)):=aa
  generalize upd H p (.lst (ys.map V.int))=b2 at a4 ae hD ⊢
  refine bw (J:=Itl K p) (n:=wd.toNat) (D:=D) (λi zs m g=>(∃o,m=[o,some (.int hi),some (.bl v)])/\af b2 g/\g D=some (.lst zs)/\∃b:List (Addr×ZL),zs=b.map (λq=>V.ref q.1)/\b.length=i/\sH g b/\∀q∈b,q.1≠D/\q.2.length=hi.toNat/\kA v q.2)
   %[%[none|rfl],af.upd hD,aa,[],rfl,rfl,λq y=>(nomatch y)|λq y=>(nomatch y)]
   (λi _ _ g a5 d=>%[_,V.int (ys[i]'⋯),SqL.of (d.2.1 _ _ ae)|by simp[show i<ys.length by lia]]) (λ_ _ g d=>%[_,SqL.of (d.2.1 _ _ ae)|by simp[a2]]) ?_ ?_
  .intro i zs m g a5 %[%[o|rfl],M,a6,b,rfl,I,ag|U] x H2 %[e2|hx];subst e2;have a7:i<ys.length:=by lia
   have t:=hx _ (SqL.of (M _ _ ae));rw[Zk,Z4 a7]at t;obtain rfl:x=V.int ys[i]:=(Z9 t).symm;lk;refine%[_,_,_,rfl,(a3 _ (Y6 a7)).1,i1,i6|λl H3 b3 as a8 a9 bb b4=>?_];have bf:l≠D:=λe=>by rw[e,a6]at a8;cases a8
   refine CK.mk a5 (as _ _ a6) (by rw[Z5,I];exact aB ⋯) %[%[_|rfl],af.set (M.trans as) hD,aa,b++[(l,b3)],by rw[Zc];rfl,by rw[Z8,I];rfl,λq y=>?_|λq y=>?_]
   .rcases X9 y with z|z
    .rw[ak (U q z).1];exact as _ _ (ag q z)
    .rw[Xa z,ak bf];exact a9
   .rcases X9 y with z|z
    .exact U q z
    .rw[Xa z];exact%[bf,bb|b4]
  intro zs m H4 %[_,b5,Y,b,rfl,I,ag|U];have a0:af H H4:=a4.trans b5;refine k4 _ _ (ap λD5 k5 _=>?_);lk;refine%[X2 _|λR hR=>k5 _ _ (ap λD6 k6 _=>az λC O=>?_)];lk;have cd:(b.map (·.2)).length=wd.toNat:=by rw[Z5];exact I
  refine%[⋯,⋯|O _ _ (eW (λi m g=>∃o7 o8,m=[!a,some (.int B),some (.int wd),some (.int hi),some (.bl v),!D,!R,o7,o8,none]/\af H4 g/\g R=some (.lst (((List.range i).map (i7 (b.map (·.2)) B)).map V.str)))
   %[_,_,rfl,af.upd hR|aa] ?_ ?_)]
  .intro i m H5 co %[o7,o8,rfl,j|ai];show bc _ _ _ [!a,some (.int B),some (.int wd),some (.int hi),some (.bl v),!D,!R,some (.int (0+i)),o8,none] H5;rw[Int.zero_add];refine ap λD7 k7 _=>aF λC O=>?_
   lk;refine .inl %[%[_|SqL.of (j _ _ Y)]|O _ _ λE hE=>?_];refine bw (J:=Itl K D) (n:=wd.toNat) (D:=E) (λq zs m g=>(∃o,m=[o,some (.int i)])/\af H5 g/\g E=some (.lst zs)/\zs=((b.take q).map (λp=>p.2.getD i 0)).map V.int)
    %[%[none|rfl],af.upd hE,aa|rfl]
    (λq _ _ g y d=>%[_,V.ref (b[q]'⋯).1,SqL.of (d.2.1 _ _ (j _ _ Y))|by simp[show q<b.length by lia]]) (λ_ _ g d=>%[_,SqL.of (d.2.1 _ _ (j _ _ Y))|by simp[I]]) ?_ ?_
   .intro q zs m g y %[%[o|rfl],M,b6|N] x H2 %[e2|hx];subst e2;have u:q<b.length:=by lia
    have t:=hx _ (SqL.of (M _ _ (j _ _ Y)));rw[Zk,Z4 u]at t;obtain rfl:x=V.ref b[q].1:=(Z9 t).symm;lk;have hm:=Y6 u;refine%[_,SqL.of (M _ _ (j _ _ (ag _ hm))),V.int (b[q].2.getD i 0),?_|?_]
    .refine cA ?_;rw[Zk,dz (U _ hm).2.1 ⋯];rfl
    .refine CK.mk y b6 (by rw[N,Z5,Z5,Yf];exact aB ⋯) %[%[_|rfl],af.set M hE,aa|?_];rw[N,X0,Zc,Zc,Z4 u];rfl
   intro zs m H6 %[_,L,aj|N];rw[Zm ⋯]at N;refine k7 _ _ (aC λD8 k8 _=>?_);have bl:=j.trans L;lk;refine%[.inl %[_|SqL.of (L _ _ ai)]|aF λC O=>?_];lk;refine .inl %[%[_|SqL.of aj]|O _ _ λF hF=>?_];refine bw (J:=Itl K E) (n:=wd.toNat) (D:=F) (λq ts m g=>(∃o,m=[o,some (.int B)])/\af H6 g/\g F=some (.lst ts)/\ts=(((b.take q).map (λp=>sg (p.2.getD i 0) B)).map sgn).map V.str)
    %[%[none|rfl],af.upd hF,aa|rfl]
    (λq _ _ g y d=>%[_,V.int ((b[q]'⋯).2.getD i 0),SqL.of (d.2.1 _ _ aj)|by rw[N];simp[show q<b.length by lia]]) (λ_ _ g d=>%[_,SqL.of (d.2.1 _ _ aj)|by rw[N];simp[I]]) ?_ ?_
   .intro q ts m g y %[%[o|rfl],M,a1|ht] x H2 %[e2|hx];subst e2;have u:q<b.length:=by lia
    have t:=hx _ (SqL.of (M _ _ aj));rw[N,Zk,Zk,Z4 u]at t;obtain rfl:x=V.int (b[q].2.getD i 0):=(Z9 t).symm;lk;refine%[_,_,rfl,s0|?_];refine CK.mk y a1 (by rw[ht,Z5,Z5,Z5,Yf];exact aB ⋯) %[%[_|rfl],af.set M hF,aa|?_];rw[ht,X0,Zc,Zc,Zc,Z4 u];rfl
   intro ts m H7 %[_,bm,b7|ht];rw[Zm ⋯]at ht;lk;refine%[(b.map λp=>sg (p.2.getD i 0) B).map sgn,by rw[<-ht];exact SqL.of b7,?_,_,bm _ _ (L _ _ ai),by rw[Z5,Z5,Yd];exact aB ⋯|k8 _ _ %[_,_,rfl,af.set (bl.trans bm) hR|?_]]
   .rw[xk,Z5,Z5,show(Str.ofString "").length=0 from rfl]
    lia
   .rw[aa,range_succ,Zc,Zc,show Txt.join (Str.ofString "") ((b.map λp=>sg (p.2.getD i 0) B).map sgn)=Str.join (Str.ofString "") ((b.map λp=>sg (p.2.getD i 0) B).map sgn)from StrLaws.glued_eq_join _ _,vY];have e:i7 (b.map (·.2)) B i=⟨(b.map λp=>sg (p.2.getD i 0) B).toArray⟩:=by
     unfold i7;rw[Yl];rfl
    rw[<-e];rfl
  .intro m H5 %[o7,o8,rfl,j|ai];refine k6 _ _ (ap λD7 k7 _=>aF λC O=>?_);lk;refine%[by decide,by simp|O _ _ λF hF=>?_];refine bw (J:=Itr 0 8) (n:=8) (D:=F) (λq ts m g=>(∃o,m=[o,!D])/\af H5 g/\g F=some (.lst ts)/\ts=(((List.range q).filter λa:Nat=>(b.map (·.2)).any λc=>decide ((a:Int)∈c)).map λa:Nat=>(a:Int)).map V.int)
    %[%[none|rfl],af.upd hF,aa|rfl] (λq _ _ g y _=>y) (λ_ _ g _=>Zh _) ?_ ?_
   .intro q ts m g y %[%[o|rfl],M,a1|ht] x H2 %[e2|e3];subst e2 e3;lk;refine aF λC O=>?_
    lk;have al:=M _ _ (j _ _ Y);refine .inl %[%[_|SqL.of al]|O _ _ λG hG=>?_];refine bw (J:=Itl K D) (n:=wd.toNat) (D:=G) (λr zs m H3=>(∃o,m=[o,some (.int q)])/\af H2 H3/\H3 G=some (.lst zs)/\zs=(b.take r).map (λp=>V.bl (decide ((q:Int)∈p.2))))
     %[%[none|rfl],af.upd hG,aa|rfl]
     (λr _ _ H3 bn d=>%[_,V.ref (b[r]'⋯).1,SqL.of (d.2.1 _ _ al)|by simp[show r<b.length by lia]]) (λ_ _ H3 d=>%[_,SqL.of (d.2.1 _ _ al)|by simp[I]]) ?_ ?_
    .intro r zs m H3 bn %[%[o|rfl],s3,b9|N] x cp %[e2|hx];subst e2;have u:r<b.length:=by lia
     have t:=hx _ (SqL.of (s3 _ _ al));rw[Zk,Z4 u]at t;obtain rfl:x=V.ref b[r].1:=(Z9 t).symm;have hm:=Y6 u;lk;refine%[_,.inl (SqL.of (s3 _ _ (M _ _ (j _ _ (ag _ hm))))),rfl,zG _|?_];rw[DZ];refine CK.mk bn b9 (by rw[N,Z5,Yf];exact aB ⋯) %[%[_|rfl],af.set s3 hG,aa|?_];rw[N,X0,Zc,Z4 u];rfl
    intro zs m H3 %[_,s3,ca|N];rw[Zm ⋯]at N;have bp:=s3 _ _ a1;lk;refine%[_,.inl (SqL.of ca),rfl,by rw[N];simp[fQ]|?_];rw[N,zF];have any:(b.any λp=>decide ((q:Int)∈p.2))=(b.map (·.2)).any λc=>decide ((q:Int)∈c):=by rw[any_map];rfl
    rw[any];have bt:ts.length<sizeLine:=by
     rw[ht,Z5,Z5];have:=Yc (λa:Nat=>(b.map (·.2)).any λc=>decide ((a:Int)∈c)) (List.range q);rw[Yd]at this;exact aB ⋯
    refine bj (λhb=>?_) λhb=>?_
    .refine CK.mk y bp bt %[%[_|rfl],af.set (M.trans s3) hF,aa|?_];rw[ht,range_succ,Zz,Zc,Zc];rw[show List.filter (λa:Nat=>(b.map (·.2)).any λc=>decide ((a:Int)∈c)) [q]=[q]from by rw[filter_cons,if_pos hb];rfl];rfl
    .refine CN.mk y %[%[_|rfl],M.trans s3,bp|?_];rw[ht,range_succ,Zz,Zc,Zc];rw[show List.filter (λa:Nat=>(b.map (·.2)).any λc=>decide ((a:Int)∈c)) [q]=[]from by rw[filter_cons,if_neg hb];rfl];simp
   intro ts m H6 %[_,L,bU|ht];refine k7 _ _ ?_;lk;have ab:∀c∈b.map (·.2),c.length=hi.toNat/\kA v c:=λc hc=>by
    have%[p,hp|rfl]:=Xb hc;exact(U p hp).2
   have an:cf (drawn (b.map (·.2)) hi.toNat B):=uH ⋯ ⋯ ⋯ ⋯ ab;have b0:H5 R=some (.lst ((drawn (b.map (·.2)) hi.toNat B).map V.str)):=ai;refine%[drawn (b.map (·.2)) hi.toNat B,SqL.of (L _ _ b0),?_,#[2]|λp hp=>?_]
   .have:=an.sum;have:=an.high;rw[show(Str.ofString "\n").length=1 from rfl]
    lia
   .refine kk p F _ (b.map (·.2)) hi.toNat v ((a0.trans (j.trans L)).trans (af.upd hp)) ((a0.trans (j.trans L)).free hp) ((a0.trans j).free hF) (λe=>by rw[e,bU]at hp;cases hp) ?_ ?_ ⋯ ⋯ ⋯ ⋯ ab
    .rw[aa,show Txt.join (Str.ofString "\n") (drawn (b.map (·.2)) hi.toNat B)=Str.join (Str.ofString "\n") (drawn (b.map (·.2)) hi.toNat B)from StrLaws.glued_eq_join _ _];rfl
    .rw[af.upd hp F _ bU,ht];rfl
inductive qM (vs:ZM) (H:Hp) (Q:VK) (E0:XK):Prop
 | mk (z:Str):vs=[.str z]->z.length<=1000->(∀H',af H H'->Q (.bl (rO z)) H')->qM vs H Q E0
inductive ot (vs:ZM) (H:Hp) (Q:VK) (E0:XK):Prop
 | mk (row above:Str):vs=[.str row,.str above]->row.length<=1000->above.length<=1000->(∀H',af H H'->Q (.bl (fo row above)) H')->ot vs H Q E0
inductive jF (K:ZA) (vs:ZM) (H:Hp) (Q:VK) (E0:XK):Prop
 | mk (a rows):vs=[.ref a]->SqL K H a (rows.map V.str)->(rows.map (·.length)).sum<=3000->(∀r∈rows,r.cps.toList.all okc=true)->(∀l H' ss,af H H'->H l=none->H' l=some (.lst (ss.map V.str))->ss.Perm (aM ((cX rows).map sgn))->PyProof.Rows.sortedS ss=true->Q (.ref l) H')->jF K vs H Q E0
inductive ou (vs:ZM) (H:Hp) (Q:VK) (E0:XK):Prop
 | mk (rows:ZB):vs=[.str (Str.join nl rows)]->cf rows->(∀l H',af H H'->H l=none->H' l=some (.lst (rows.map V.str))->Q (.ref l) H')->ou vs H Q E0
theorem jr(z:Str)(i:Nat)(c:Nat)(h:z.cps[i]? =some c):(z.cps.toList.take i++[c])=z.cps.toList.take (i+1):=by
 have h':z.cps.toList[i]? =some c:=by simpa using h
 have%[a|e]:=X8 h';rw[List.take_succ_eq_append_getElem a,e]
theorem B6(c d:Nat):((⟨([c].toArray)⟩:Str)=⟨([d].toArray)⟩)↔c=d:=by
 simp
theorem oz(c:Nat):((⟨([c].toArray)⟩)=Str.ofString ".")↔c=46:=B6 c 46
theorem B7(T:Txt K mg):↥1 "is_row" ["row"] qM:=by
 refine T.b5.cal zC (λH vs Q E h=>?_)
 .have%[z,rfl,N|k]:=h;refine%[rfl|λf v A outer s M=>?_];refine%[_,%["JDG$~a~B~BEVWA0B~7)~b~cAnd?1S0X0?2t~dme0~I)m_0~pB",0,(show bD (ah kC) ["row"] _ ["sign"] []=true from by decide +kernel)|(show(["sign"]:ZB).Nodup from by simp)]|?_];show j5 _ _ [-z] H;lk;refine%[cv ⋯|bj (λl=>bj (λm=>?_) λm=>?_) λl=>?_]
  .refine aF λt y=>?_
   lk;refine y _ _ λD u=>?_
   refine bw (J:=Its z) (n:=z.cps.size) (D:=D) (λi ys d a=>(∃o,d=[o])/\af H a/\a D=some (.lst ys)/\ys=(z.cps.toList.take i).map (λc=>V.bl (okc c))) %[%[none|rfl],af.upd u,aa|rfl]
    (λi _ _ _ hi _=>hi) (λ_ _ _ _=>Zh _) ?_ ?_
   .intro i ys d a hi %[%[o|rfl],p,q|g] x B %[C,c,G|rfl];subst C;have j:ys.length=i:=by
     rw[g,Z5,Yf];have:z.cps.toList.length=z.cps.size:=by simp
     lia
    have I:i<1000:=by
     have:z.length=z.cps.size:=rfl
     lia
    have put:∀b:Bool,b=okc c->CK D z.cps.size i (λi ys d a=>(∃o,d=[o])/\af H a/\a D=some (.lst ys)/\ys=(z.cps.toList.take i).map (λc=>V.bl (okc c))) ys [some (.str ⟨([c].toArray)⟩)] (.bl b) B:=λb L=>
     CK.mk hi q (j▸aB ⋯) %[%[_|rfl],af.set p u,aa|by rw[L,g,<-jr z i c G,Zc];rfl]
    lk;refine bj (λr=>put true ?_) λr=>put _ ?_
    .have:=(oz c).mp (Zn r);unfold okc;rw[Ze this,Bool.true_or]
    .have: ¬ c=46:=λe=>(λe=>r (Ze e)) ((oz c).mpr e)
     unfold okc;rw[Zg this,Bool.false_or,AT];rfl
   .intro ys d a %[_,p,q|g];lk;refine%[z.cps.toList.map okc,?_|?_]
    .have e:z.cps.toList.take z.cps.size=z.cps.toList:=by
      apply Zm;simp
     rw[e]at g;have:(z.cps.toList.map okc).map V.bl=ys:=by rw[g,Yl];rfl
     rw[this];exact SqL.of q
    .have e:rO z=(z.cps.toList.map okc).all id:=by
      unfold rO;rw[l,m,all_map]
      all_goals rfl
     exact e▸k a p
  .rw[Bool.not_eq_true]at m;have e:rO z=false:=by unfold rO;rw[m,Bool.and_false,Bool.false_and]
   rw[e]at k;exact k H (af.refl H)
  .rw[Bool.not_eq_true]at l;have e:rO z=false:=by unfold rO;rw[l,Bool.false_and,Bool.false_and]
   rw[e]at k;exact k H (af.refl H)
noncomputable def mr(p:Nat×Nat):Bool:=!decide (p.2=46)||decide (p.1=46)
theorem uN(x y:Str)(i c d:Nat)(b:x.cps[i]? =some c)(f:y.cps[i]? =some d):((List.zip x.cps.toList y.cps.toList).take i++[(c,d)])=(List.zip x.cps.toList y.cps.toList).take (i+1):=by
 have h:(List.zip x.cps.toList y.cps.toList)[i]? =some (c,d):=List.getElem?_zip_eq_some.mpr %[by simpa using b|by simpa using f];have%[a|e]:=X8 h;rw[List.take_succ_eq_append_getElem a,e]
theorem oA(T:Txt K mg):↥1 "lies_beneath" ["row","above"] ot:=by
 refine T.b6.cal mG (λH vs Q E h=>?_)
 .have%[row,a,rfl,I,L|k]:=h;refine%[rfl|λf G A outer s hr=>?_];refine%[_,%["JCOLuVWA0BVWA1BDGsPDG~b~cAnd?1~qA1A0BfMX0?2MX1?2gt~dmu1~I)me0~IB",0,(show bD (ah dB) ["row","above"] _ ["high","low"] []=true from by decide +kernel)|(show(["high","low"]:ZB).Nodup from by decide +kernel)]|?_]
  show bc _ _ _ [-row,-a] H;refine ap λD1 M N=>?_
  lk;refine%[cv ⋯,cv ⋯|bj (λj=>?_) λj=>?_]
  .have j: ¬ ((row.length:Int)=a.length):=by simpa using j
   have e:fo row a=false:=by
    unfold fo;rw[Zg ⋯,Bool.false_and]
   rw[e]at k;exact N _ _ (k H (af.refl H))
  .have j:row.length=a.length:=by
    have:(row.length:Int)=a.length:=by simpa using j
    lia
   refine M _ _ ?_;have t:row.cps.size=a.cps.size:=j;have u:(List.zip a.cps.toList row.cps.toList).length=a.cps.size:=by rw[length_zip];simp[t]
   lk;refine aF λz O=>?_
   lk;refine O _ _ λD B=>?_
   refine bw (J:=Itz a row) (n:=a.cps.size) (D:=D) (λi ys l g=>(∃q r,l=[q,r])/\af H g/\g D=some (.lst ys)/\ys=((List.zip a.cps.toList row.cps.toList).take i).map (λp=>V.bl (mr p))) %[%[none,none|rfl],af.upd B,aa|rfl]
    (λi _ _ _ hi _=>%[hi|⋯]) (λ_ _ _ _=>%[Zh _,⋯|.inl rfl]) ?_ ?_
   .intro i ys l g hi %[%[q,r|rfl],v,y|m] x H2 %[c,d,TT,U,Y,C,rfl|rfl];have o:ys.length=i:=by rw[m,Z5,Yf,u];lia
    have ab:i<1000:=by
     have:a.length=a.cps.size:=rfl
     lia
    have put:∀b:Bool,b=mr (c,d)->CK D a.cps.size i (λi ys l g=>(∃q r,l=[q,r])/\af H g/\g D=some (.lst ys)/\ys=((List.zip a.cps.toList row.cps.toList).take i).map (λp=>V.bl (mr p))) ys [some (.str ⟨([c].toArray)⟩),some (.str ⟨([d].toArray)⟩)] (.bl b) (upd g TT (.tup [.str ⟨([c].toArray)⟩,.str ⟨([d].toArray)⟩])):=λb eb=>
     CK.mk hi (af.upd C _ _ y) (o▸aB ⋯) %[%[_,_|rfl],af.set (v.trans (af.upd C)) B,aa|by rw[eb,m,<-uN a row i c d U Y,Zc];rfl]
    lk;refine%[_,SqT.of aa,rfl,_,_,rfl,_,_,rfl,rfl,rfl|?_];simp only[V.str.injEq,oz];refine bj (λh=>put true ?_) λh=>%[rfl|put _ ?_]
    .unfold mr;rw[h,Bool.true_or]
    .unfold mr;rw[Bool.not_eq_true]at h;rw[h,Bool.false_or]
   .intro ys l g %[_,v,y|m];lk;refine%[(List.zip a.cps.toList row.cps.toList).map mr,?_|?_]
    .have e:(List.zip a.cps.toList row.cps.toList).take a.cps.size=List.zip a.cps.toList row.cps.toList:=Zm ⋯;rw[e]at m;have:((List.zip a.cps.toList row.cps.toList).map mr).map V.bl=ys:=by rw[m,Yl];rfl
     rw[this];exact SqL.of y
    .have e:fo row a=((List.zip a.cps.toList row.cps.toList).map mr).all id:=by
      unfold fo;rw[Ze j,all_map,Bool.true_and];rfl
     exact e▸k g v
theorem zI(h:(rows.map (·.length)).sum<=3000):(Str.join (Str.ofString "") rows).length<=3000:=by
 have:=StrLaws.join_length_le (Str.ofString "") rows;rw[show(Str.ofString "").length=0 from rfl]at this
 lia
theorem kI(T:Txt K mg):↥1 "letters_in" ["rows"] (jF K):=by
 refine T.b7.cal pJ (λH vs Q E h=>?_)
 .have%[a,rows,rfl,N,g,u|k]:=h;refine%[rfl|λf M A outer s hr=>?_];refine%[_,%["JDG|~rA~J~eAnd?1S~Y~ZZA0BX0?2/Lu0~I0BB",0,(show bD (ah eR) ["rows"] _ ["sign"] []=true from by decide +kernel)|(show(["sign"]:ZB).Nodup from by simp)]|?_];show j5 _ _ [!a] H;lk;refine aF λC O=>?_
  lk;refine%[rows,N,by rw[show(Str.ofString "").length=0 from rfl];lia|?_];rw[show Txt.join (Str.ofString "") rows=Str.join (Str.ofString "") rows from StrLaws.glued_eq_join _ _];have j:=zI g;have b:=lu u;unfold cX at b k
  generalize Str.join (Str.ofString "") rows=z at j b k ⊢
  refine O _ _ λD G=>?_
  refine bw (J:=Its z) (n:=z.cps.size) (D:=D) (λi ys v m=>(∃o,v=[o])/\af H m/\m D=some (.lst ys)/\ys=((z.cps.toList.take i).filter (λc=>decide (c≠46))).map (λc=>V.str (sgn c))) %[%[none|rfl],af.upd G,aa|rfl]
   (λi _ _ _ hi _=>hi) (λ_ _ _ _=>Zh _) ?_ ?_
  .intro i ys v m hi %[%[o|rfl],r,t|d] x H2 %[U,c,I|rfl];subst U;have L:ys.length<=i:=by
    rw[d,Z5];have:=Yc (λc=>decide (c≠46)) (z.cps.toList.take i);rw[Yf]at this
    lia
   have Y:i<3000:=by
    have:z.length=z.cps.size:=rfl
    lia
   lk;simp only[oz];refine bj (λy=>?_) λy=>?_
   .refine CK.mk hi t (aB ⋯) %[%[_|rfl],af.set r G,aa|?_];rw[<-jr z i c I,Zz,Zc,d];have:decide (c≠46)=true:=by simpa using y
    rw[filter_cons,this];rfl
   .refine CN.mk hi %[%[_|rfl],r,t|?_];rw[<-jr z i c I,Zz,Zc,d];have:decide (c≠46)=false:=by simpa using y
    rw[filter_cons,this];simp
  .intro ys v m %[_,r,t|d];have e:z.cps.toList.take z.cps.size=z.cps.toList:=by
    apply Zm;simp
   rw[e]at d;lk;have ab:=Yc (λc=>decide (c≠46)) z.cps.toList;have ae:z.cps.toList.length=z.length:=by simp[Str.length]
   refine%[(z.cps.toList.filter (λc=>decide (c≠46))).map sgn,?_,by rw[Z5];lia|λS hS=>%[_,aa,?_|λl ss p hp B=>?_]]
   .rw[Yl];have:(z.cps.toList.filter (λc=>decide (c≠46))).map (V.str ∘ sgn)=ys:=by rw[d];rfl
    rw[this];exact SqL.of t
   .have:=nG b
    lia
   .have q:af H (upd m S (ke w S (aM ((z.cps.toList.filter (λc=>decide (c≠46))).map sgn)))):=r.trans (af.upd hS);exact k l _ ss (q.trans (af.upd p)) (q.free p) aa hp B
theorem lM(T:Txt K mg):↥2 "rows_of" ["text"] ou:=by
 refine T.b4.cal io (λH vs Q E h=>?_)
 .have%[rows,rfl,a|k]:=h;refine%[rfl|λf an A outer s L=>?_];have%[wd,w1,w2|hw]:=a.wide;have M:=a.text;have t:=a.split;refine%[_,%["JCOoh%&A0A?1BD:PCH1~8~90AZBCT~TA1BfMK2MK3gCOaqLe2]AvohF]BA3BD:PDOazL~C2E,ohF]CA3AR1I~G2EBD:PCOLeVWAF~sA1BBED:PDG1",io.nd,(blE (v:= .ty "str") rfl T.ab boot_str rfl rfl rfl)|L]|?_]
  generalize Str.join nl rows=z at M t
  show bc _ _ _ [-z,none,none,none] H;refine ap λD1 k1 _=>?_
  lk;refine%[.type "str",.str z,true,by rfl|tD (k1 _ _ (ap λD2 k2 _=>?_))];lk;refine%[by decide,Ya (by lia:z.length+2<=5000) (by decide)|λl hl=>k2 _ _ ?_];rw[show(Str.ofString "\n")=nl from rfl,t];refine ap λD3 k3 _=>az λai hK=>?_
  lk;have N:af H (upd H l (.lst (rows.map V.str))):=af.upd hl;refine%[_,SqL.of aa|hK _ _ (kg (λi I g=>∃O U,I=[-z,!l,O,U]/\af H g/\g l=some (.lst (rows.map V.str))) %[none,none,rfl,N|aa] (λi I g _ ⟨_,_,_,_,q⟩=>SqL.of q) ?_ ?_)]
  .intro i x TT I g u %[O,U,rfl,Y|j] hT;obtain⟨r,m,rfl⟩:∃r,rows[i]? =some r/\x=V.str r:=by
    rw[Zk]at u;cases e:rows[i]? with
    | none=>rw[e]at u;cases u
    | some r=>rw[e]at u;exact%[r,rfl|(Z9 u).symm]
   have aj:i<rows.length:=(X8 m).1;have al:=a.high;have y:af H (upd g TT (.tup [.int i,.str r])):=Y.trans (af.upd hT);have o:upd g TT (.tup [.int i,.str r]) l=some (.lst (rows.map V.str)):=af.upd hT _ _ j;have B:upd g TT (.tup [.int i,.str r]) TT=some (.tup [.int i,.str r]):=aa
   generalize upd g TT (.tup [.int i,.str r])=HT at y o B
   have C:r.length<=1000:=by
    have:r.length=wd:=hw r (Z7 m)
    lia
   refine%[_,SqT.of B,rfl,_,_,rfl,_,_,rfl,rfl|?_];show bc _ _ _ [-z,!l,some (.int i),-r] HT;refine ap λD4 k4 _=>?_
   have go:∀p,af HT p->D4.nx [-z,!l,some (.int i),-r] p:=by
    intro p b;refine k4 _ _ (aC λD5 k5 _=>?_);have fin:∀J,af HT J->D5.nx [-z,!l,some (.int i),-r] J:=λJ n=>k5 _ _ %[_,_,rfl,y.trans n|n l _ o]
    lk;refine bj (λG=>?_) λ_=>fin _ b
    have G:0<(i:Int):=Zn G;obtain⟨d,rfl⟩:∃d,i=d+1:=%[i-1|⋯]
    have ab:d<rows.length:=by lia
    have ae:rows[d]? =some rows[d]:=by simp
    have e1:(((d+1:Nat):Int) -1)=(d:Int):=by lia
    refine%[_,SqL.of (b l _ o),.str rows[d],e1▸cA ∅,r,rows[d],rfl,C,?_|λJ n=>%[_,rfl|?_]]
    .have:rows[d].length=wd:=hw _ (Y6 ab)
     lia
    .rw[a.beneath ae m];exact tD (fin _ (b.trans n))
   lk;rw[if_neg ⋯];refine%[r,rfl,C|λp b=>%[_,rfl|?_]];rw[a.row (Z7 m)];exact tD (go p b)
  .intro I g %[O,U,rfl,Y|j];refine k3 _ _ ?_;lk;refine%[l,rows,rfl,SqL.of j,by have:=a.sum;lia,a.sign|λl2 p ss b as ag G a0=>%[_,.inl %[_,SqL.of ag|rfl]|?_]];rw[if_neg]
   .exact k l p (Y.trans b) hl (b l _ j)
   .intro h0;have h0:=Zn h0;rw[Z5]at h0;have:ss=[]:=length_eq_zero_iff.mp ⋯;rw[this]at G;have hm:=G.symm.eq_nil;have%[c|hc]:=List.exists_mem_of_ne_nil _ a.signs_ne;have:sgn c∈aM ((cX rows).map sgn):=bB.mpr (Xc %[c,hc|rfl]);rw[hm]at this;cases this
noncomputable def qN(p:Nat×Nat):Option ZB:=if p.1≠46/\p.1≠p.2 then some [sgn p.1,sgn p.2]else none
noncomputable def oB(u r:Str):List ZB:=(List.zip u.cps.toList r.cps.toList).filterMap qN
theorem jc(H:Hp):aP H []:=λp a=>by cases a
theorem aU(h:aP H ps)(s:∀b z,H b=some (.tup z)->c b=some (.tup z)):aP c ps:=λp a=>%[(h p a).1|s _ _ (h p a).2]
theorem jt(h:aP H ps)(a:q.2≠[])(b:H q.1=some (.tup (q.2.map V.str))):aP H (ps++[q]):=λp c=>by
 rcases X9 c with z|z
 .exact h p z
 .rw[Xa z];exact%[a|b]
theorem uO(a:aP H ps)(b:aP H qs):aP H (ps++qs):=λp c=>(X9 c).elim (a p) (b p)
inductive EH (vs:ZM) (H:Hp) (Q:VK) (E0:XK):Prop
 | mk (u r:Str):vs=[.str u,.str r]->u.length<=40->r.length=u.length->(∀l H' ps,af H H'->H l=none->H' l=some (.lst (ps.map λp=>V.ref p.1))->aP H' ps->ps.map (·.2)=oB u r->Q (.ref l) H')->EH vs H Q E0
inductive xI (vs:ZM) (H:Hp) (Q:VK) (E0:XK):Prop
 | mk (rows:ZB):vs=[.str (Str.join nl rows)]->cf rows->(∀l H' ss,af H H'->H l=none->H' l=some (.lst (ss.map V.str))->ss.Perm (aM ((cX rows).map sgn))->PyProof.Rows.sortedS ss=true->Q (.ref l) H')->xI vs H Q E0
theorem zJ(T:Txt K mg):↥3 "letters" ["text"] xI:=by
 refine T.b8.cal wE (λH vs Q E h=>?_)
 .have%[rows,rfl,a|e]:=h;refine%[rfl|λf d A outer s b=>?_];refine%[_,%["JDGF~sAF~tA0BB",0|b],rows,rfl,a|λl r c t g=>%[l,rows,rfl,SqL.of g,by have:=a.sum;lia,a.sign|λi j ss m n o p q=>e i j ss (c.trans m) (c.free n) o p q]]
theorem jW(T:Txt K mg):↥1 "meetings_between" ["above","row"] EH:=by
 refine T.ba.cal jx (λH vs Q E h=>?_)
 .have%[u,r,rfl,hu,ag|kk]:=h;refine%[rfl|λf ae A outer s hr=>?_];have ai:u.length=u.cps.size:=rfl;have aj:r.length=r.cps.size:=rfl;refine%[_,%["JDGnd?1~qA0A1BfMX0?2MX1?2g/azLu0~I,Lu01lA0A1B",0,(show bD (ah cj) ["above","row"] _ ["high","low"] []=true from by decide +kernel)|(show(["high","low"]:ZB).Nodup from by decide +kernel)]|?_];show j5 _ _ [-u,-r] H;lk;refine aF λab hK=>?_
  lk;refine hK _ _ λD N=>?_
  refine bw (J:=Itz u r) (n:=u.cps.size) (D:=D) (λi ys O l=>(∃o1 o2,O=[o1,o2])/\af H l/\l D=some (.lst ys)/\ys.length<=i/\∃ps:ZH,ys=ps.map (λp=>V.ref p.1)/\aP l ps/\ps.map (·.2)=((List.zip u.cps.toList r.cps.toList).take i).filterMap qN)
   %[%[none,none|rfl],af.upd N,aa,Zh _,[],rfl,jc _|rfl] (λi _ _ _ hi _=>%[hi|⋯]) (λ_ _ _ _=>%[Zh _,⋯|.inl rfl]) ?_ ?_
  .intro i ys O l hi %[%[o1,o2|rfl],U,Y,G,ps,I,m|j] x H2 %[c,d,TT,hc,hd,hT,rfl|rfl];have t:=af.upd (o:= .tup [.str ⟨([c].toArray)⟩,.str ⟨([d].toArray)⟩]) hT;have nx:=uN u r i c d hc hd;have a:=t _ _ Y;have B:upd l TT (.tup [.str ⟨([c].toArray)⟩,.str ⟨([d].toArray)⟩]) TT=some (.tup [.str ⟨([c].toArray)⟩,.str ⟨([d].toArray)⟩]):=aa;have g:aP (upd l TT (.tup [.str ⟨([c].toArray)⟩,.str ⟨([d].toArray)⟩])) ps:=λp C=>%[(m p C).1|t _ _ (m p C).2]
   have v:=U.trans t
   generalize upd l TT (.tup [.str ⟨([c].toArray)⟩,.str ⟨([d].toArray)⟩])=HT at t a B g v
   refine%[_,SqT.of B,rfl,_,_,rfl,_,_,rfl,rfl|?_];show CB _ _ [some (.str ⟨([c].toArray)⟩),some (.str ⟨([d].toArray)⟩)] HT _;lk;simp only[oz,B6];have al:D≠TT:=λe=>by rw[e,B]at a;cases a
   refine bj (λL=>bj (λM=>?_) λM=>?_) λL=>?_
   .have L:c≠46:=by simpa using L
    have M:c≠d:=by simpa using M
    refine%[show 2<=sizeLine from by decide|λp C=>?_];have y:=af.upd (o:= .tup [V.str ⟨([c].toArray)⟩,V.str ⟨([d].toArray)⟩]) C;have an:p≠D:=λe=>by rw[e,a]at C;cases C
    refine CK.mk hi (y _ _ a) (aB ⋯) %[%[_,_|rfl],af.set (v.trans y) N,aa,by rw[Z8,Ye];lia,ps++[(p,[sgn c,sgn d])],by rw[I,Zc];rfl,?_|?_]
    .have keep:∀b z,upd HT p _ b=some (.tup z)->upd _ D (.lst (ys++[V.ref p])) b=some (.tup z):=λb z e=>by
      have:b≠D:=λe2=>by rw[e2,y _ _ a]at e;cases e
      rw[ak this];exact e
     exact aU (jt (aU g λb z e=>y _ _ e) ∅ (by rw[aa];rfl)) keep
    .rw[Zc,j,<-nx,List.filterMap_append];have:qN (c,d)=some [sgn c,sgn d]:=if_pos %[L|M];rw[Zy,this];rfl
   .refine CN.mk hi %[%[_,_|rfl],v,a,⋯,ps,I,g|?_];rw[j,<-nx,List.filterMap_append];have:qN (c,d)=none:=if_neg λq=>q.2 (by simpa using M)
    rw[Zy,this];simp
   .refine CN.mk hi %[%[_,_|rfl],v,a,⋯,ps,I,g|?_];rw[j,<-nx,List.filterMap_append];have:qN (c,d)=none:=if_neg λq=>q.1 (by simpa using L)
    rw[Zy,this];simp
  .intro ys O l %[_,U,Y,G,ps,I,m|j];rw[Zm (by rw[length_zip];simp;lia)]at j;exact kk D l ps U N (by rw[Y,I]) m j
theorem B8{K:ZA}{xs ys:ZM}{g:TG}{q:TS}{D:iL}(Pv:Nat->St->Hp->Prop)(s:Pv 0 c H)(t:ys.length<=xs.length)(u:∀i c H,i<=ys.length->Pv i c H->SqL K H a xs/\SqL K H b ys)
 (z:∀i x y T c H,xs[i]? =some x->ys[i]? =some y->Pv i c H->H T=none->g (.ref T) c (upd H T (.tup [x,y])) λd j=>q {D with nx:=Pv (i+1),ct:=Pv (i+1),bk:=D.nx} d j) (A:∀c H,Pv ys.length c H->D.nx c H):
 ∃W:Nat->Nat->St->Hp->Prop,(∃m,W 0 m c H)/\∀i m c H,W i m c H->
  ((y9 K a b).stop i H/\D.nx c H)\/((y9 K a b).go i H/\∃N:St->Hp->Prop,(∀f h,N f h->∃r,r<m/\W (i+1) r f h)/\∀x h,(y9 K a b).yld i H x h->g x c h λd j=>q {D with nx:=N,ct:=N,bk:=D.nx} d j):=by
 refine%[λi m c H=>m=ys.length-i/\i<=ys.length/\Pv i c H,%[ys.length,by simp,X2 _|s]|?_];intro i m c H %[rfl,hi|p];have%[l|n]:=u i c H hi p;by_cases o:i<ys.length
 .have B:xs[i]? =some xs[i]:=by simp[show i<xs.length by lia]
  have C:ys[i]? =some ys[i]:=by simp
  refine .inr %[%[xs,ys,_,_,l,n,B|C],Pv _,λf h E=>%[ys.length-(i+1),⋯,rfl,o|E]|λv h y=>?_];have%[T,G,I,J,rfl,rfl,L|M]:=y;exact z i G I T c H (L xs l) (M ys n) p J
 .have e:i=ys.length:=by lia
  subst e;exact .inl %[%[xs,ys,l,n,⋯,Zh _|.inr rfl]|A c H p]
noncomputable def fZ(rows:ZB)(i:Nat):List ZB:=(List.range i).flatMap λj=>oB (rows.getD j ⟨([].toArray)⟩) (rows.getD (j+1) ⟨([].toArray)⟩)
theorem sJ(rows:ZB)(i:Nat):fZ rows (i+1)=fZ rows i++oB (rows.getD i ⟨([].toArray)⟩) (rows.getD (i+1) ⟨([].toArray)⟩):=by
 unfold fZ;rw[range_succ,flatMap_append];simp
theorem wG(u r:Str):(oB u r).length<=u.length:=by
 refine Ya (List.length_filterMap_le _ _) ?_;rw[length_zip];have:u.cps.toList.length=u.length:=by simp[Str.length]
 lia
theorem zK(h:k∈fZ rows (rows.length-1)):∃a b,k=[sgn a,sgn b]/\DX rows a b:=by
 have%[j,d|g]:=mem_flatMap.mp h;have f:∀j h,rows.getD j ⟨([].toArray)⟩=rows[j]:=λj h=>by simp[h]
 have d:=mem_range.mp d;have%[%[a|b],i|e]:=mem_filterMap.mp g;unfold qN at e
 split at e
 .rename_i h
  have%[q|c]:=X3 i;rw[List.getElem?_zip_eq_some,f j ⋯,f _ ⋯]at c;exact%[a,b,(Z9 e).symm,h.1,h.2,j,q,rows[j],rows[j+1],Z4 _,Z4 _,by simpa using c.1|by simpa using c.2]
 .lia
theorem zL(l:cf rows)(h:DX rows a b):Let rows a/\Let rows b:=by
 have%[c,m,i,j,r,d,f,g,g1|g2]:=h;refine%[%[c,r,Z7 f|Z7 (by simpa using g1)],λe=>c (l.fall i r d f g j a b g1 g2 e),d,Z7 g|Z7 (by simpa using g2)]
theorem zM(rows:ZB)(h:rows≠[]):tq (rows.map V.str) (some 1) none=(rows.drop 1).map V.str:=by
 unfold tq;rw[HT.sIx_none,show(some (1))=some ((1:Nat):Int)from rfl,HT.sIx_nat,Z5,Nat.min_eq_left (List.length_pos_iff.mpr h),<-List.map_drop,<-List.map_take];rw[Zm (Yb▸Zh _)]
inductive xJ (vs:ZM) (H:Hp) (Q:VK) (E0:XK):Prop
 | mk (rows:ZB):vs=[.str (Str.join nl rows)]->cf rows->zA rows->(∀l H' ss,af H H'->H l=none->H' l=some (.lst (ss.map λp=>V.ref p.1))->aP H' ss->ss.length<=14->(∀t∈ss,∃a b,t.2=[sgn a,sgn b]/\Let rows a/\Let rows b)->(∀k,k∈ss.map (·.2)↔k∈fZ rows (rows.length-1))->Q (.ref l) H')->xJ vs H Q E0
theorem wH(T:Txt K mg):↥3 "meetings" ["text"] xJ:=by
 refine T.b9.cal ef (λH vs Q E h=>?_)
 .have%[rows,rfl,c,%[mm,ml|a5]|kk]:=h;refine%[rfl|λf bp A outer s hr=>?_];have%[wd,w1,w2|Y]:=c.wide;have hp:1<=rows.length:=c.pos;have bl:=c.high;have a6:rows≠[]:=List.length_pos_iff.mp hp;refine%[_,%["JCH1F~tA0BCH2QBCT]DA1A~W1~HE]EBfMK3MK4gDY~u~v2AF]FA3A4BBDG|~wA~J~xA2BB",ef.nd|hr]|?_]
  show bc _ _ _ [some (.str (Str.join nl rows)),none,none,none,none] H;refine ap λD1 k1 r1=>?_
  lk;refine%[rows,rfl,c|λR H1 s1 f1 hR=>k1 _ _ (ap λD2 k2 r2=>?_)];lk;refine%[X2 _|λL hL=>k2 _ _ (ap λD3 k3 r3=>az λbm hK=>?_)];have s2:=af.upd (o:= .lst []) hL;have C:=s2 _ _ hR;have G:upd H1 L (.lst []) L=some (.lst []):=aa;have fL:H L=none:=s1.free hL;have ab:=s1.trans s2
  generalize upd H1 L (.lst [])=H2 at s2 C G ab
  lk;refine .inl %[_,SqL.of C|λp hp=>?_];rw[zM rows a6];have s3:=af.upd (o:= .lst ((rows.drop 1).map V.str)) hp;have I:=s3 _ _ C;have ae:=s3 _ _ G;have J:upd H2 p (.lst ((rows.drop 1).map V.str)) p=some (.lst ((rows.drop 1).map V.str)):=aa;have ag:=ab.trans s3;have a7:L≠R:=λe=>by rw[e,hR]at hL;cases hL
  have a8:p≠L:=λe=>by rw[e,G]at hp;cases hp
  generalize upd H2 p (.lst ((rows.drop 1).map V.str))=H3 at s3 I ae J ag
  refine%[%[_|SqL.of I],%[_|SqL.of J]|hK _ _ (B8 (xs:=rows.map V.str) (ys:=(rows.drop 1).map V.str) (λi σ l=>(∃o3 o4,σ=[some (.str (Str.join nl rows)),!R,!L,o3,o4])/\af H l/\l R=some (.lst (rows.map V.str))/\l p=some (.lst ((rows.drop 1).map V.str))/\
   ∃ps:ZH,l L=some (.lst (ps.map λq=>V.ref q.1))/\aP l ps/\ps.map (·.2)=fZ rows i/\ps.length<=40*i) %[%[none,none|rfl],ag,I,J,[],ae,jc _,rfl|X2 _] (by rw[Z5,Z5,Yb];lia) (λi σ l _ q=>%[SqL.of q.2.2.1|SqL.of q.2.2.2.1]) ?_ ?_)]
  .intro i x y TT σ l hx hy %[%[o3,o4|rfl],sm,ai,aj,ps,M,g,n|al] hT;rw[Zk]at hx hy;have%[u,hu|rfl]:=map_eq_some_iff.mp hx;have%[r,v|rfl]:=map_eq_some_iff.mp hy;rw[getElem?_drop,Nat.add_comm]at v;have bt:i+1<rows.length:=(X8 v).1;have ul:u.length=wd:=Y u (Z7 hu);have rl:r.length=wd:=Y r (Z7 v);have j:=af.upd (o:= .tup [V.str u,V.str r]) hT;have an:upd l TT (.tup [V.str u,V.str r]) TT=some (.tup [V.str u,V.str r]):=aa;have as:=j _ _ ai;have a0:=j _ _ aj;have t:=j _ _ M;have B:aP (upd l TT (.tup [V.str u,V.str r])) ps:=aU g λb z e=>j _ _ e
   have a1:=sm.trans j
   generalize upd l TT (.tup [V.str u,V.str r])=HT at j an as a0 t B a1
   refine%[_,SqT.of an,rfl,_,_,rfl,_,_,rfl,rfl|?_];refine aC λD4 k4 r4=>?_
   lk;refine%[.inl %[_|SqL.of t],u,r,rfl,⋯,⋯|λl4 H4 ps4 U f4 h4 a2 e4=>?_];have bU:l4≠L:=λe=>by rw[e,t]at f4;cases f4
   have bn:ps4.length<=40:=by
    have:(ps4.map (·.2)).length=(oB u r).length:=by rw[e4]
    rw[Z5]at this;have:=wG u r
    lia
   refine%[_,rfl,_,U _ _ t,_,h4,by rw[Z5,Z5];exact cv ⋯|k4 _ _ ?_];have N:∀b z,H4 b=some (.tup z)->upd H4 L (.lst ((ps.map λq=>V.ref q.1) ++ps4.map λq=>V.ref q.1)) b=some (.tup z):=λb z e=>by
    have:b≠L:=λe2=>by rw[e2,U _ _ t]at e;cases e
    rw[ak this];exact e
   have a9:R≠L:=Ne.symm a7;refine%[%[_,_|rfl],λb u' e=>?_,(ak a9)▸U _ _ as,(ak a8)▸U _ _ a0,ps++ps4,by rw[aa,Zc],aU (uO (aU B λb z e=>U _ _ e) a2) N,?_|by rw[Z8];lia]
   .rw[ak (ar e fL)];exact U _ _ (a1 _ _ e)
   .rw[Zc,n,e4,sJ];have g1:rows.getD i ⟨([].toArray)⟩=u:=by rw[Zb,hu];rfl
    have g2:rows.getD (i+1) ⟨([].toArray)⟩=r:=by rw[Zb,v];rfl
    rw[g1,g2]
  .intro σ l %[%[o3,o4|rfl],sm,ai,aj,ps,M,g,n|al];rw[Z5,Yb]at n;refine k3 _ _ ?_;lk;have O:∀q∈ps,∃a b,q.2=[sgn a,sgn b]/\DX rows a b:=λq d=>zK (n▸Xc %[q,d|rfl])
   have a3:∀q∈ps,q.2∈mm:=λq d=>by
    have%[a,b,e|h]:=O q d;rw[e];exact a5 a b h
   refine%[ps,SqL.of M,g,%[mm,⋯|a3]|λl5 bb=>?_];have s5:=af.upd (o:=nV P w l5 (bg ps)) bb;have bf:(bg ps).length<=14:=by
    have:=STab.nodup_sub (dY ps) (m:=mm) λk hk=>by
     have%[q,d|rfl]:=Xb hk;exact a3 q (bv ps q d)
    rw[Z5]at this
    lia
   refine%[bg ps,aa,λq d=>%[(g q (bv ps q d)).1|s5 _ _ (g q (bv ps q d)).2],2,λq d=>?_,by decide,⋯|λl6 ss a4 pm so=>?_]
   .have%[a,b,e|_]:=O q (bv ps q d);rw[e];rfl
   have s6:=af.upd (o:= .lst (ss.map λq=>V.ref q.1)) a4;refine kk l6 _ ss ((sm.trans s5).trans s6) ((sm.trans s5).free a4) aa (λq d=>?_) (pm.length_eq▸bf) (λq d=>?_) λk=>?_
   .have:=g q (bv ps q (pm.mem_iff.mp d));exact%[this.1|s6 _ _ (s5 _ _ this.2)]
   .have%[a,b,e|h]:=O q (bv ps q (pm.mem_iff.mp d));exact%[a,b,e|zL c h]
   .rw[(pm.map _).mem_iff,ic,n]
noncomputable def f6(z:Str):Bool:=(decide (1<=(z.length:Int))&&decide ((z.length:Int)<=8))&&z.cps.toList.all iY
inductive oC (vs:ZM) (H:Hp) (Q:VK) (E0:XK):Prop
 | mk (z:Str):vs=[.str z]->f6 z=true->(∀H',af H H'->Q (.bl true) H')->oC vs H Q E0
inductive uP (K:ZA) (vs:ZM) (H:Hp) (Q:VK) (E0:XK):Prop
 | mk (z:Str) (p:Addr) (ts:ZB):vs=[.str z,.ref p]->(SqL K H p (ts.map V.str)\/SqT K H p (ts.map V.str))->Q (.bl (decide (z∈ts))) H->uP K vs H Q E0
inductive oE (vs:ZM) (H:Hp) (Q:VK) (E0:XK):Prop
 | mk (i:Int):vs=[.int i]-> -9999<=i->i<=9999->Q (.bl true) H->oE vs H Q E0
def qO(c:ZB)(vs:ZM):Prop:=
 (∃w a b:Str,vs=[.str w,.str a,.str b]/\(w="later"\/w="same")/\a∈c/\b∈c/\a≠b)\/
 ∃w a y,vs=[.str w,.str a,.int y]/\(w="since"\/w="by")/\a∈c/\ -9999<=y/\y<=9999
inductive kJ (K:ZA) (vs:ZM) (H:Hp) (Q:VK) (E0:XK):Prop
 | mk (t p xs ls):vs=[.ref t,.ref p]->H t=some (.tup xs)->SqL K H p (ls.map V.str)->qO ls xs->Q (.bl true) H->kJ K vs H Q E0
noncomputable def lnS(n z:Str):Str:=Str.empty++n++Str.ofString "."++z
inductive jG (vs:ZM) (H:Hp) (Q:VK) (E0:XK):Prop
 | mk (n z:Str):vs=[.str n,.str z]->n.length<=100->z.length<=100->Q (.str (lnS n z)) H->jG vs H Q E0
theorem sK(z:Str)(ts:ZB):inV (V.str z) (ts.map V.str)=decide (z∈ts):=by
 unfold inV
 induction ts with
 | nil=>rfl
 | cons c r a=>
   show((c==z)||_)=_
   grind
theorem qP(ts:ZB):(ts.map V.str).all fQ=true:=by simp[fQ]
theorem zN(T:Txt K mg):↥1 "is_name" ["thing"] oC:=by
 refine T.b3.cal wD (λH vs Q E h=>?_)
 .have%[z,rfl,y|k]:=h;refine%[rfl|λf u A outer s M=>?_];refine%[_,%["JCOoh%&A0A?1BDGsPDG$~a~B~BEVWA0B]G)~b~cAnd?2S0X0?3tm_0~pB",0,(blE (v:= .ty "str") rfl T.ab boot_str rfl rfl rfl),(show bD (ah jq) ["thing"] _ ["sign"] []=true from by decide +kernel)|(show(["sign"]:ZB).Nodup from by decide +kernel)]|?_]
  show bc _ _ _ [-z] H;have a:=y;unfold f6 at a;rw[Zu,Zu]at a;have%[%[B|q]|b]:=a;have N:z.length<=8:=by have:=Zn q;lia
  lk;refine%[.type "str",.str z,true,by rfl|?_];lk;refine%[cv ⋯|?_];rw[if_pos B,if_pos q];refine aF λr C=>?_
  lk;refine C _ _ λD t=>?_
  refine bw (J:=Its z) (n:=z.cps.size) (D:=D) (λi ys l d=>(∃o,l=[o])/\af H d/\d D=some (.lst ys)/\ys=(z.cps.toList.take i).map (λc=>V.bl (iY c))) %[%[none|rfl],af.upd t,aa|rfl]
   (λi _ _ _ hi _=>hi) (λ_ _ _ _=>Zh _) ?_ ?_
  .intro i ys l d hi %[%[o|rfl],m,p|g] x O %[G,c,I|rfl];subst G;lk;have j:ys.length=i:=by
    rw[g,Z5,Yf];have:z.cps.toList.length=z.cps.size:=by simp
    lia
   have L:i<1000:=by
    have:z.length=z.cps.size:=rfl
    lia
   refine CK.mk hi p (j▸aB ⋯) %[%[_|rfl],af.set m t,aa|?_];rw[AT,g,<-jr z i c I,Zc]
   all_goals rfl
  .intro ys l d %[_,m,p|g];refine%[D,rfl,(z.cps.toList.map iY),?_|?_]
   .have e:z.cps.toList.take z.cps.size=z.cps.toList:=by
     apply Zm;simp
    rw[e]at g;have:(z.cps.toList.map iY).map V.bl=ys:=by rw[g,Yl];rfl
    rw[this];exact SqL.of p
   .have e:(z.cps.toList.map iY).all id=true:=by
     rw[all_map];exact b
    rw[e];exact k d m
theorem cw(T:Txt K mg):↥1 "is_text_among" ["thing","texts"] (uP K):=by
 refine T.bg.cal lI (λH vs Q E h=>?_)
 .have%[z,p,ts,rfl,b|k]:=h;refine%[rfl|λf a A outer s c=>?_];refine%[_,%["JDG$%&A0A?1B)m_01",0|(blE (v:= .ty "str") rfl T.ab boot_str rfl rfl rfl)]|?_];show j5 _ _ [some _,some _] H;lk;refine%[.type _,.str z,true,by rfl|?_];rw[<-sK]at k;exact%[_,b,rfl,qP ts|k]
theorem zO(T:Txt K mg):↥1 "is_year" ["thing"] oE:=by
 refine T.bh.cal wF (λH vs Q E h=>?_)
 .have%[i,rfl,b,c|k]:=h;refine%[rfl|λf a A outer s d=>?_];refine%[_,%["JCOaqoh%&A0A?1Bvh%&A0A?2BDGsPDG~a~B~B]H0]I",0,(blE (v:= .ty "int") rfl T.ah boot_int rfl rfl rfl)|(blE (v:= .ty "bool") rfl T.ai PyProof.Rows.boot_bool rfl rfl rfl)]|?_]
  show bc _ _ _ [some (.int i)] H;lk;refine%[.type _,.int i,true,by rfl,.type _,.int i,false,by rfl|?_];rw[if_pos (Ze b),Ze c];exact k
theorem iz(T:Txt K mg):↥1 "layer_name" ["name","letter"] jG:=by
 refine T.bi.cal pK (λH vs Q E h=>?_)
 .have%[n,z,rfl,l,m|k]:=h;refine%[rfl|λf d A outer s j=>?_];refine%[_,%["JDG~y~K~f0~KZ~K~f1~z"|0]|?_];show j5 _ _ [-n,some _] H;lk;have e:∀a b:Str,(a++b).length=a.length+b.length:=λa b=>size_append
  have g:Str.empty.length=0:=rfl;have i:(Str.ofString ".").length=1:=rfl;have c:∀k,k<=1000->k<=sizeLine:=λk o=>cv ⋯
  refine%[c _ ⋯,c _ ?_,c _ ?_,c _ ⋯,c _ ?_,c _ ?_|k]<;> simp only[e,g,i]<;> lia
theorem uQ(T:Txt K mg):↥2 "is_saying" ["thing","layers"] (kJ K):=by
 refine T.bf.cal sF (λH vs Q E h=>?_)
 .have%[t,p,xs,e,rfl,m,g,ok|k]:=h;refine%[rfl|λf n A outer s c=>?_];refine%[_,%["JCOaqoh%&A0A?1BvLuVWA0BEDGsPCOhF~LAU0EA]JBDG$F~LAU0EA1B$F~LAU0EA1B)muU0EU0EPCOhF~LAU0EA]KBDG$F~LAU0EA1B)F]LAU0EBPDGs",0,(blE (v:= .ty "tuple") rfl T.ag boot_tuple rfl rfl rfl)|c]|?_]
  show bc _ _ _ [!t,!p] H;lk;refine%[.type "tuple",.tup m,true,by rfl|?_];have st:=SqT.of (K:=K) m;rcases ok with⟨wd,a,b,rfl,hw,i,o,j⟩|⟨wd,a,y,rfl,hw,i,r,u⟩
  .have l:decide (wd∈([Str.ofString "later",Str.ofString "same"]:ZB))=true:=by rcases hw with rfl|rfl<;> decide
   lk;refine%[3,.inr %[_,st|rfl]|?_];rw[if_neg (by decide)];refine%[_,st,_,rfl|λq d=>%[wd,q,[Str.ofString "later",Str.ofString "same"],rfl,.inr (d H),_,rfl|?_]];rw[l];lk;refine%[_,st,_,rfl,a,p,e,rfl,.inl g,_,rfl|?_];rw[Ze i];lk;refine%[_,st,_,rfl,b,p,e,rfl,.inl g,_,rfl|?_];rw[Ze o];lk;refine%[_,st,_,rfl,_,st,_,rfl,rfl|?_];rw[show(!decide (V.str a=V.str b))=true from by simp[j]];exact k
  .have l:decide (wd∈([Str.ofString "later",Str.ofString "same"]:ZB))=false:=by rcases hw with rfl|rfl<;> decide
   have z:decide (wd∈([Str.ofString "since",Str.ofString "by"]:ZB))=true:=by rcases hw with rfl|rfl<;> decide
   lk;refine%[3,.inr %[_,st|rfl]|?_];rw[if_neg (by decide)];refine%[_,st,_,rfl|λq d=>%[wd,q,[Str.ofString "later",Str.ofString "same"],rfl,.inr (d H),_,rfl|?_]];rw[l];lk;refine%[_,st,_,rfl|λq d=>%[wd,q,[Str.ofString "since",Str.ofString "by"],rfl,.inr (d H),_,rfl|?_]];rw[z];lk;refine%[_,st,_,rfl,a,p,e,rfl,.inl g,_,rfl|?_];rw[Ze i];lk;exact%[_,st,_,rfl,y,rfl,r,u|k]
def cc(H:Hp)(a:List (Addr×Str×ZB)):Prop:=∀p∈a,H p.1=some (.tup [.str p.2.1,.str (Str.join nl p.2.2)])/\f6 p.2.1=true/\cf p.2.2
theorem cc.up(h:cc H b)(s:af H c):cc c b:=λp a=>%[s _ _ (h p a).1|(h p a).2]
inductive qQ (vs:ZM) (H:Hp) (Q:VK) (E0:XK):Prop
 | mk (rows:ZB):vs=[.str (Str.join nl rows)]->cf rows->(∀H',af H H'->Q (.bl true) H')->qQ vs H Q E0
inductive uR (vs:ZM) (H:Hp) (Q:VK) (E0:XK):Prop
 | mk (p:Addr×Str×ZB):vs=[.ref p.1]->cc H [p]->(∀H',af H H'->Q (.bl true) H')->uR vs H Q E0
noncomputable def cq(a:List (Addr×Str×ZB)):ZM:=a.map λp=>V.ref p.1
inductive jH (vs:ZM) (H:Hp) (Q:VK) (E0:XK):Prop
 | mk (l cs):vs=[.ref l]->H l=some (.lst (cq cs))->cc H cs->(cs.map λp=>p.2.1).Nodup->1<=cs.length->cs.length<=8->(∀H',af H H'->Q .non H')->jH vs H Q E0
def cz(H:Hp)(a:ZB)(qs:ZN):Prop:=∀q∈qs,H q.1=some (.tup q.2)/\qO a q.2
theorem cz.up(h:cz H b qs)(s:af H c):cz c b qs:=λp a=>%[s _ _ (h p a).1|(h p a).2]
inductive gX (K:ZA) (vs:ZM) (H:Hp) (Q:VK) (E0:XK):Prop
 | mk (l r ls qs):vs=[.ref l,.ref r]->H l=some (.lst (qs.map λq=>V.ref q.1))->H r=some (.lst (ls.map V.str))->cz H ls qs->qs.length<=60->(∀H',af H H'->Q .non H')->gX K vs H Q E0
theorem B9(T:Txt K mg):↥3 "is_cut" ["thing"] qQ:=by
 refine T.bd.cal zD (λH vs Q E h=>?_)
 .have%[rows,rfl,a|k]:=h;refine%[rfl|λf b A outer s c=>?_];refine%[_,(QSs.h (am (tryN (λ_ _ h=>h) (aq (bJ rfl (aA (lM T) c rfl #[↑0]))))
   (aq (aJ eBl))))|?_]
  show bc _ _ _ [some (.str (Str.join nl rows))] H;lk;exact%[rows,rfl,a|λl d e g i=>k d e]
theorem oF(T:Txt K mg):↥4 "is_named_cut" ["thing"] uR:=by
 refine T.bc.cal mH (λH vs Q E h=>?_)
 .have%[p,rfl,g|k]:=h;refine%[rfl|λf e A outer s c=>?_];have%[b,i|a]:=g p (mem_singleton.mpr rfl);refine%[_,%["JDG$%&A0A?1B$meVWA0BE$F]MAU0EB)F]NAU0EB",0,(blE (v:= .ty "tuple") rfl T.ag boot_tuple rfl rfl rfl)|c]|?_];show j5 _ _ [some _] H;lk;refine%[.type _,.tup b,true,by rfl|?_];have st:=SqT.of (K:=K) b;refine%[2,.inr %[_,st|rfl],_,st,_,rfl,p.2.1,rfl,i|λm d=>?_];lk;exact%[_,SqT.of (d _ _ b),_,rfl,p.2.2,rfl,a|λj l=>k j (d.trans l)]
theorem sL(T:Txt K mg):↥5 "check_cuts" ["cuts"] jH:=by
 refine T.bb.cal d5 (λH vs Q E h=>?_)
 .have%[l,c,rfl,C,L,M,h1,h8|k]:=h;refine%[rfl|λf aj A outer s J=>?_];have u:(cq c).length=c.length:=Z5 _;refine%[_,%["JCOaqoh%&A0A?1BvLeVWA0BED:PCH1yDT~TA0BfMK2MK3gCOaqLe2]OqohF]PA3Bv~gU3E1D:PDws1U3E",d5.nd,(blE (v:= .ty "list") rfl T.a5 boot_list rfl rfl rfl)|J]|?_]
  show bc _ _ _ [!l,none,none,none] H;refine ap λD1 k1 _=>?_
  lk;refine%[.type "list",.lst C,true,by rfl|?_];lk;refine%[c.length,.inl %[_,SqL.of C|u.symm]|?_];rw[if_neg (by simp only[decide_eq_true_eq];lia)];refine k1 _ _ (ap λD2 k2 _=>?_);lk;refine λd N=>k2 _ _ (aC λD3 k3 _=>az λai hK=>?_)
  lk;refine%[_,SqL.of (af.upd N _ _ C)|hK _ _ (kg (λi G g=>∃O U a,G=[!l,!d,O,U]/\af H g/\g d=some (.dK a)/\a.map (·.1)=(c.take i).map λp=>Sum.inr p.2.1) %[none,none,[],rfl,af.upd N,aa|rfl] (λi G g _ ⟨_,_,_,_,q,_⟩=>SqL.of (q _ _ C)) ?_ ?_)]
  .intro i x TT G g I %[O,U,a,rfl,Y,y|m] hT;have hi:i<c.length:=u▸(X8 I).1;obtain⟨q,hq,rfl⟩:∃q,c[i]? =some q/\x=V.ref q.1:=by
    unfold cq at I;rw[Zk,Z4 hi]at I;exact%[c[i],Z4 hi|(Z9 I).symm]
   have b:af H (upd g TT (.tup [.int i,.ref q.1])):=Y.trans (af.upd hT);have z:upd g TT (.tup [.int i,.ref q.1]) TT=some (.tup [.int i,.ref q.1]):=aa;have t:=af.upd (o:= .tup [.int i,.ref q.1]) hT _ _ y
   generalize upd g TT (.tup [.int i,.ref q.1])=HT at b t z
   have n:=L q (Z7 hq);refine%[_,SqT.of z,rfl,_,_,rfl,_,_,rfl,rfl|?_];show bc _ _ _ [!l,!d,some (.int i),some (.ref q.1)] HT;refine ap λD4 k4 _=>?_
   lk;rw[if_neg (by simp only[decide_eq_true_eq];lia)];refine%[q,rfl,λp hp=>(Xa hp)▸%[b _ _ n.1|n.2]|λH2 B=>%[true,rfl|?_]];rw[if_neg ∅];have r:(Sum.inr q.2.1:Key)∉a.map (·.1):=by
    rw[m];intro hm;have%[q',ab|e]:=Xb hm;have e:q'.2.1=q.2.1:=Sum.inr.inj e;have%[j|hj]:=X3 ab;have ae:j<i:=by
     have:=(X8 hj).1;rw[Yf]at this
     lia
    rw[Y5 ae]at hj;have n1:(c.map λp=>p.2.1)[j]? =some q.2.1:=by rw[Zk,hj,<-e];rfl
    have:=cP M n1 (by rw[Zk,hq];rfl)
    lia
   refine%[_,SqT.of (B _ _ (b _ _ n.1)),_,rfl,_,cD.k (k:=Sum.inr q.2.1) (B _ _ t)|?_];have hv:bG a (Sum.inr q.2.1:Key)=none:=by
    cases e:bG a (Sum.inr q.2.1:Key)with
    | none=>rfl
    | some v=>exact absurd (C9 e) r
   rw[hv,if_neg ∅];refine k4 _ _ (aC λD5 k5 _=>?_);lk;have ag:a.length=i:=by
    have:=congrArg List.length m;rw[Z5,Z5,Yf]at this
    lia
   refine%[_,SqT.of (B _ _ (b _ _ n.1)),_,rfl,_,iQ.k (k:=Sum.inr q.2.1) (B _ _ t) (ag▸aB ⋯)|k5 _ _ %[_,_,_,rfl,af.set (b.trans B) N,aa|?_]];rw[zb,if_neg r,m,X0,Zc,hq];rfl
  .intro G g %[O,U,a,rfl,Y,y|m];exact k3 _ _ (k g Y)
theorem mI(T:Txt K mg):↥3 "check_sayings" ["sayings","layers"] (gX K):=by
 refine T.be.cal dQ (λH vs Q E h=>?_)
 .have%[l,r,u,qs,rfl,g,j,m,C|k]:=h;refine%[rfl|λf z A outer s B=>?_];refine%[_,%["JCOoh%&A0A?1BD:PDT~TA0BfMK2MK3gDOaqLe2]QvohF]RA3A1BD:P",dQ.nd,(blE (v:= .ty "list") rfl T.a5 boot_list rfl rfl rfl)|B]|?_]
  show bc _ _ _ [!l,!r,none,none] H;refine ap λO G _=>?_
  lk;refine%[.type "list",.lst g,true,by rfl|?_];lk;refine G _ _ (aC λU I _=>az λy J=>?_);lk;refine%[_,SqL.of g|J _ _ (kg (λi e b=>∃n o,e=[!l,!r,n,o]/\af H b) %[none,none,rfl|af.refl H] (λi e b _ ⟨_,_,_,q⟩=>SqL.of (q _ _ g)) ?_ ?_)]
  .intro i x TT e b p %[n,o,rfl|t] L;have hi:i<qs.length:=(Z5 _)▸(X8 p).1;obtain⟨q,M,rfl⟩:∃q,qs[i]? =some q/\x=V.ref q.1:=by
    rw[Zk,Z4 hi]at p;exact%[qs[i],Z4 hi|(Z9 p).symm]
   have a:af H (upd b TT (.tup [.int i,.ref q.1])):=t.trans (af.upd L);have c:upd b TT (.tup [.int i,.ref q.1]) TT=some (.tup [.int i,.ref q.1]):=aa
   generalize upd b TT (.tup [.int i,.ref q.1])=HT at a c
   have d:=m q (Z7 M);refine%[_,SqT.of c,rfl,_,_,rfl,_,_,rfl,rfl|?_];show j6 _ _ _ _ [!l,!r,some (.int i),some (.ref q.1)] HT;refine aC λY N _=>?_
   lk;rw[if_neg ⋯];refine%[q.1,r,q.2,u,rfl,a _ _ d.1,SqL.of (a _ _ j),d.2,true,rfl|?_];rw[if_neg ∅];exact N _ _ %[_,_,rfl|a]
  .intro e b %[n,o,rfl|t];exact I _ _ (k b t)
noncomputable def lyr(p:Addr×Str×ZB):ZB:=(aM ((cX p.2.2).map sgn)).map (lnS p.2.1)
inductive kK (vs:ZM) (H:Hp) (Q:VK) (E0:XK):Prop
 | mk (l cs):vs=[.ref l]->H l=some (.lst (cq cs))->cc H cs->cs.length<=3->(cs.flatMap lyr).length<=60->(∀r H' (ls:ZB),af H H'->H r=none->H' r=some (.lst (ls.map V.str))->ls.Perm (cs.flatMap lyr)->ls.Pairwise (λa b=>bd b a=false)->Q (.ref r) H')->kK vs H Q E0
def cL(c:ZB)(k:ZB):Prop:=∃a b z,k=[a,b,z]/\a∈c/\b∈c
def Sml(z:Str):Prop:=z.length<=30/\∀c∈z.cps.toList,c<16^8
def zP(a:ZB)(k:ZB):Prop:=cL a k/\∀z∈k,Sml z
theorem uS(h:f6 z=true):Sml z:=by
 unfold f6 at h;rw[Zu,Zu]at h;refine%[⋯|λc a=>?_];have:=(lr.mp (all_eq_true.mp h.2 c a)).2
 lia
theorem Sml.app{a b:Str}(f:∀c∈a.cps.toList,c<16^8)(g:∀c∈b.cps.toList,c<16^8):∀c∈(a++b).cps.toList,c<16^8:=λc d=>by
 have e:(a++b).cps.toList=a.cps.toList++b.cps.toList:=toList_append;rw[e]at d;exact(X9 d).elim (f c) (g c)
theorem D0(h:c<1000):∀x∈(sgn c).cps.toList,x<16^8:=λx a=>by
 have e:=by simpa [sgn]using a
 lia
theorem lN{c:Nat}(h:f6 n=true)(d:c<1000):Sml (lnS n (sgn c)):=by
 have e:∀a b:Str,(a++b).length=a.length+b.length:=λa b=>size_append
 have l:n.length<=8:=by
  unfold f6 at h
  grind
 refine%[?_|Sml.app (Sml.app (Sml.app (λc d=>(nomatch d)) (uS h).2) (by decide +kernel)) (D0 d)];unfold lnS;rw[e,e,e,show Str.empty.length=0 from rfl,show(Str.ofString ".").length=1 from rfl,show(sgn c).length=1 from rfl]
 lia
theorem wI(h:cf rows)(l:Let rows c):c<1000:=by
 have:=(lr.mp (lu h.sign c (gU.mpr l))).2
 lia
theorem Ea(b:f6 p.2.1=true)(d:cf p.2.2):∀z∈lyr p,Sml z:=λz e=>by
 have%[y,f|rfl]:=Xb e;have%[c,a|rfl]:=Xb (bB.mp f);exact lN b (wI d (gU.mp a))
theorem GE(e:Sml a)(f:Sml b)(g:Sml c):∀z∈[a,b,c],Sml z:=λz d=>by
 simp only[Yp,Yx,or_false]at d;rcases d with rfl|rfl|rfl
 .exact e
 .exact f
 .exact g
theorem Eb(i:Nat)(h:i<=100):Sml (Str.empty++Str.ofString "#"++Str.ofString (toString (i:Int))):=by
 have all:∀j:Fin 101,Sml (Str.empty++Str.ofString "#"++Str.ofString (toString ((j.1)))):=by
  unfold Sml;decide +kernel
 exact all %[i|⋯]
theorem cL.three(h:cL c k):k.length=3:=by
 have%[a,b,z,rfl|_]:=h;rfl
theorem cL.mono(h:cL c k)(s:∀x∈c,x∈d):cL d k:=by
 have%[a,b,z,e,f|g]:=h;exact%[a,b,z,e,s a f|s b g]
theorem xK(h:Let p.2.2 a):lnS p.2.1 (sgn a)∈lyr p:=
 Xc %[_,bB.mpr (Xc %[a,gU.mpr h|rfl])|rfl]
noncomputable def xM(n:Str)(k:ZB):ZB:=k.map (lnS n) ++[n]
noncomputable def Ec(i:Nat):Str:=Str.empty++Str.ofString "#"++Str.ofString (toString (i:Int))
noncomputable def iA(a:List (Addr×Str×ZB)):List ZB:=a.flatMap λp=>(fZ p.2.2 (p.2.2.length-1)).map (xM p.2.1)
noncomputable def oG(i:Nat):ZM->Option ZB
 |[.str w,.str a,.str b]=>if w=Str.ofString "later" then some [a,b,Ec i]else none
 | _=>none
noncomputable def dE(qs:ZN)(n:Nat):List ZB:=(List.range n).filterMap λj=>qs[j]?.bind λq=>oG j q.2
theorem sM{a:List _}{i:Nat}{q:Addr×Str×ZB}(b:a[i]? =some q):iA (a.take (i+1))=iA (a.take i) ++(fZ q.2.2 (q.2.2.length-1)).map (xM q.2.1):=by
 unfold iA;rw[X0,b,flatMap_append];show _++([q].flatMap _)=_;rw[List.flatMap_singleton]
theorem iB(a:qs[i]? =some q):dE qs (i+1)=dE qs i++(oG i q.2).toList:=by
 unfold dE;rw[range_succ,List.filterMap_append];refine congrArg _ ?_;rw[Zy,a];rw[bind_some];cases oG i q.2<;> rfl
inductive kL (vs:ZM) (H:Hp) (Q:VK) (E0:XK):Prop
 | mk (l cs):vs=[.ref l]->H l=some (.lst (cq cs))->cc H cs->(∀p∈cs,zA p.2.2)->cs.length<=3->(∀r H' ts,af H H'->H r=none->H' r=some (.lst (ts.map λt=>V.ref t.1))->aP H' ts->(∀t∈ts,zP (cs.flatMap lyr) t.2)->ts.length<=42->(∀k,k∈ts.map (·.2)↔k∈iA cs)->Q (.ref r) H')->kL vs H Q E0
inductive kM (vs:ZM) (H:Hp) (Q:VK) (E0:XK):Prop
 | mk (l ls qs):vs=[.ref l]->H l=some (.lst (qs.map λq=>V.ref q.1))->cz H ls qs->(∀z∈ls,Sml z)->qs.length<=60->(∀r H' ts,af H H'->H r=none->H' r=some (.lst (ts.map λt=>V.ref t.1))->aP H' ts->(∀t∈ts,zP ls t.2)->ts.length<=qs.length->ts.map (·.2)=dE qs qs.length->Q (.ref r) H')->kM vs H Q E0
theorem oH{z:Str}(h:f6 z=true):z.length<=8:=by
 unfold f6 at h;rw[Zu,Zu]at h;have:=Zn h.1.2
 lia
theorem iC{a:List Nat}{z:Str}(h:z∈aM (a.map sgn)):∃c∈a,z=sgn c:=by
 have:=bB.mp h;have%[c,b|rfl]:=Xb this;exact%[c,b|rfl]
theorem uT(T:Txt K mg):↥4 "layers_of" ["cuts"] kK:=by
 refine T.bj.cal eS (λH vs Q E h=>?_)
 .have%[l,e,rfl,hl,U,h8,aj|k]:=h;refine%[rfl|λf ai A outer s hr=>?_];have u:(cq e).length=e.length:=Z5 _;refine%[_,%["JCH1QBCTS0fM~X2bcMK3gDY~u~v1And?1SF]SA3BX0?2tF~hAN1A0BBDG|]TA1B",eS.nd,(show bD (ah fY) ["cuts","layers","name","text"] _ ["letter","name"] [(1,2)]=true from by decide +kernel),(show(["letter","name"]:ZB).Nodup from by decide +kernel)|hr]|?_]
  show bc _ _ _ [!l,none,none,none] H;refine ap λD1 k1 _=>?_
  lk;refine%[X2 _|λL Y=>k1 _ _ (ap λD2 k2 _=>az λv hK=>?_)];lk;refine .inl %[%[_|SqL.of (af.upd Y _ _ hl)]|hK _ _ (bx (λi d a=>∃o2 o3,d=[!l,!L,o2,o3]/\af H a/\∃g:ZB,a L=some (.lst (g.map V.str))/\g.Perm ((e.take i).flatMap lyr)/\g.length<=26*i)
   %[none,none,rfl,af.upd Y,[],aa,List.Perm.refl _|X2 _] (λi d a _ ⟨_,_,_,q,_⟩=>SqL.of (q _ _ hl)) ?_ ?_)]
  .intro i x d a p %[o2,o3,rfl,y,g,N,B|ab];have hi:i<e.length:=u▸(X8 p).1;obtain⟨q,hq,rfl⟩:∃q,e[i]? =some q/\x=V.ref q.1:=by
    unfold cq at p;rw[Zk,Z4 hi]at p;exact%[e[i],Z4 hi|(Z9 p).symm]
   have b:=U q (Z7 hq);refine%[_,SqT.of (y _ _ b.1),rfl,_,_,rfl,_,_,rfl,rfl|aC λD3 k3 _=>?_];show j3 _ _ [!l,!L,some (.str q.2.1),some (.str (Str.join nl q.2.2))] a;lk;refine%[.inl %[_|SqL.of N]|aF λv hK=>?_];lk;refine%[q.2.2,rfl,b.2.2|λl2 H2 ss s2 f2 O p2 q2=>?_];lk;refine .inl %[%[_|SqL.of O]|hK _ _ λF hF=>?_];have al:ss.length<=26:=p2.length_eq▸nG λc hc=>lu b.2.2.sign c hc
   have one:∀z∈ss,z.length=1:=λz hz=>by
    have%[c,_|rfl]:=iC (p2.mem_iff.mp hz);rfl
   refine bw (J:=Itl K l2) (n:=ss.length) (D:=F) (λj ts d a=>(∃o,d=[o,some (.str q.2.1)])/\af H2 a/\a F=some (.lst ts)/\ts=((ss.take j).map (lnS q.2.1)).map V.str)
    %[%[none|rfl],af.upd hF,aa|rfl]
    (λj _ _ a C m=>%[_,V.str ss[j],SqL.of (m.2.1 _ _ O)|by simp]) (λ_ _ a m=>%[_,SqL.of (m.2.1 _ _ O)|by simp]) ?_ ?_
   .intro j ts d H3 C %[%[o|rfl],G,ae|t] x H4 %[e2|p];subst e2;have I:=p _ (SqL.of (G _ _ O));rw[Zk,Z4 C]at I;obtain rfl:x=V.str ss[j]:=(Z9 I).symm;lk;refine%[_,_,rfl,by have:=oH b.2.1;lia,by rw[one _ (Y6 C)];decide|CK.mk C ae (by rw[t,Z5,Z5,Yf];exact aB ⋯) %[%[_|rfl],af.set G hF,aa|?_]];rw[t,X0,Zc,Zc,Z4 C];rfl
   intro ts d H3 %[_,G,ag|t];rw[Zm (Zh _)]at t;lk;refine%[_,G _ _ (s2 _ _ N),_,ag,(by rw[t,Z5,Z5,Z5];exact cv ⋯)|k3 _ _ %[_,_,rfl,af.set (y.trans (s2.trans G)) Y,g++ss.map (lnS q.2.1),?_,?_|?_]]
   .rw[aa,t,Zc]
   .rw[X0,hq,flatMap_append];refine B.append ?_;show List.Perm _ ([q].flatMap lyr);rw[List.flatMap_singleton];exact p2.map _
   .rw[Z8,Z5]
    lia
  .intro d a %[o2,o3,rfl,y,g,N,B|ab];refine k2 _ _ ?_;lk;rw[u,Zm (Zh _)]at B;exact%[g,SqL.of N,by rw[B.length_eq];lia|λr ss M p' q'=>k r _ ss (y.trans (af.upd M)) (y.free M) aa (p'.trans B) q']
theorem oJ(T:Txt K mg):↥4 "ties_of_cuts" ["cuts"] kL:=by
 refine T.bm.cal bV (λH vs Q E h=>?_)
 .have%[l,B,rfl,hl,a4,a5,h8|k]:=h;refine%[rfl|λf a7 A outer s hr=>?_];have ai:(cq B).length=B.length:=Z5 _;refine%[_,%["JCH1QBCTS0fMK2MK3gDTSF]UA3BfMK4MK5gDYpk1AlAF~hA2A4BAF~hA2A5BA2BBDG1",bV.nd|hr]|?_]
  show bc _ _ _ [!l,none,none,none,none,none] H;refine ap λD1 k1 _=>?_
  lk;refine%[X2 _|λL hL=>k1 _ _ (ap λD2 k2 _=>az λaj hK=>?_)];lk;refine .inl %[%[_|SqL.of (af.upd hL _ _ hl)]|hK _ _ (bx (λi C I=>∃o2 o3 J M,C=[!l,!L,o2,o3,J,M]/\af H I/\∃ts:ZH,I L=some (.lst (ts.map λt=>V.ref t.1))/\aP I ts/\(∀t∈ts,zP (B.flatMap lyr) t.2)/\ts.length<=14*i/\∀k,k∈ts.map (·.2)↔k∈iA (B.take i))
   %[none,none,none,none,rfl,af.upd hL,[],aa,jc _,λt ht=>(nomatch ht),X2 _|λk=>Iff.rfl] (λi C I _ ⟨_,_,_,_,_,q,_⟩=>SqL.of (q _ _ hl)) ?_ ?_)]
  .intro i x C I N %[o2,o3,J,M,rfl,sm,ts,hm,Y,ab,al|d];have hi:i<B.length:=by rw[<-ai];exact(X8 N).1
   obtain⟨q,hq,rfl⟩:∃q,B[i]? =some q/\x=V.ref q.1:=by
    unfold cq at N;rw[Zk,Z4 hi]at N;exact%[B[i],Z4 hi|(Z9 N).symm]
   have g:=a4 q (Z7 hq);refine%[_,SqT.of (sm _ _ g.1),rfl,_,_,rfl,_,_,rfl,rfl|?_];refine aC λD3 k3 _=>?_
   show Ak _ _ _ _ [!l,!L,some (.str q.2.1),some (.str (Str.join nl q.2.2)),J,M] I;refine az λaj hK=>?_
   lk;have qm:=Z7 hq;refine%[q.2.2,rfl,g.2.2,a5 q qm|?_];intro l2 H2 ss s2 f2 h2 t2 a8 an all2;have a6:=oH g.2.1;have as:l2≠L:=λe=>by rw[e,hm]at f2;cases f2
   have a0:(ss.map λp=>V.ref p.1).length=ss.length:=Z5 _;refine .inl %[l2,rfl,%[_|SqL.of h2]|hK _ _ (bx (xs:=ss.map λp=>V.ref p.1) (λj C n=>∃J M,C=[!l,!L,some (.str q.2.1),some (.str (Str.join nl q.2.2)),J,M]/\af H n/\n l2=some (.lst (ss.map λp=>V.ref p.1))/\aP n ss/\∃c:ZH,n L=some (.lst (c.map λt=>V.ref t.1))/\aP n c/\(∀t∈c,zP (B.flatMap lyr) t.2)/\c.length<=14*i+j/\c.map (·.2)=ts.map (·.2) ++((ss.take j).map (·.2)).map (xM q.2.1))
    %[_,_,rfl,sm.trans s2,h2,t2,ts,s2 _ _ hm,aU Y λb z e=>s2 _ _ e,ab,⋯|(Zw _).symm] (λj C n _ ⟨_,_,_,_,q,_⟩=>SqL.of q) ?_ ?_)]
   .intro j x C n N %[J,M,rfl,ae,a1,r,c,G,u,ag,v|m];have hj:j<ss.length:=a0▸(X8 N).1;rw[Zk,Z4 hj]at N;obtain rfl:x=V.ref ss[j].1:=(Z9 N).symm;have O:=Y6 hj;have%[a,b,a2,la|lb]:=an _ O;have U:=(r _ O).2;rw[a2]at U;refine%[_,SqT.of U,rfl,_,_,rfl,_,_,rfl,rfl|aC λD4 k4 _=>?_];show j3 _ _ [!l,!L,some (.str q.2.1),some (.str (Str.join nl q.2.2)),some (.str (sgn a)),some (.str (sgn b))] n;lk;refine%[.inl %[_|SqL.of G],q.2.1,sgn a,rfl,⋯,(show 1<=100 by decide)|?_];refine%[q.2.1,sgn b,rfl,⋯,(show 1<=100 by decide)|?_];refine%[#[3]|λp hp=>?_];have sp:=af.upd (o:= .tup [V.str (lnS q.2.1 (sgn a)),V.str (lnS q.2.1 (sgn b)),V.str q.2.1]) hp;have gp:upd n p (.tup [V.str (lnS q.2.1 (sgn a)),V.str (lnS q.2.1 (sgn b)),V.str q.2.1]) p=_:=aa
    generalize upd n p _=H4 at sp gp
    have a3:=sp _ _ G;have y:∀b z,H4 b=some (.tup z)->upd H4 L (.lst (c.map (λt=>V.ref t.1) ++[V.ref p])) b=some (.tup z):=λb z e=>by
     have:b≠L:=λe2=>by rw[e2,a3]at e;cases e
     rw[ak this];exact e
    refine%[_,a3,by rw[Z5];exact Nat.lt_of_le_of_lt (show c.length<=10000 by lia) (by decide)|k4 _ _ %[_,_,rfl,af.set (ae.trans sp) hL,(ak as)▸sp _ _ a1,aU (aU r λb z e=>sp _ _ e) y,c++[(p,[lnS q.2.1 (sgn a),lnS q.2.1 (sgn b),q.2.1])],?_,?_,?_,?_|?_]]
    .rw[aa,Zc];rfl
    .exact aU (jt (aU u λb z e=>sp _ _ e) ∅ gp) y
    .intro t ht;rcases X9 ht with z|z
     .exact ag t z
     .rw[Xa z];exact%[%[_,_,_,rfl,mem_flatMap.mpr %[q,qm|xK la]|mem_flatMap.mpr %[q,qm|xK lb]]|GE (lN g.2.1 (wI g.2.2 la)) (lN g.2.1 (wI g.2.2 lb)) (uS g.2.1)]
    .rw[Z8,Ye];lia
    .rw[Zc,m,Zd,X0,Z4 hj,Zc,Zc];show _++(_++[_])=_++(_++[xM q.2.1 ss[j].2]);rw[a2];rfl
   .intro C n %[J,M,rfl,ae,a1,r,c,G,u,ag,v|m];rw[a0]at v m;rw[Zm (Zh _)]at m;refine k3 _ _ %[_,_,_,_,rfl,ae,c,G,u,ag,⋯|λk=>?_];rw[m,sM hq,Ym,Ym,d,mem_map,mem_map];exact or_congr Iff.rfl (exists_congr λz=>and_congr_left λ_=>all2 z)
  .intro C I %[o2,o3,J,M,rfl,sm,ts,hm,Y,ab,al|d];refine k2 _ _ ?_;lk;rw[ai]at al d;rw[Zm (Zh _)]at d;exact k L I ts sm hL hm Y ab ⋯ d
theorem kO(T:Txt K mg):↥1 "ties_of_sayings" ["sayings"] kM:=by
 refine T.bn.cal ck (λH vs Q E h=>?_)
 .have%[l,N,qs,rfl,hl,ab,r,al|k]:=h;refine%[rfl|λf aj A outer s hr=>?_];have G:(qs.map λq=>V.ref q.1).length=qs.length:=Z5 _;refine%[_,%["JCH1QBCT~TA0BfMK2MK3gDOLeU3EZDYpk1AlAU3EAU3EA~y~KZ~K~f2~zBBPDG1"|ck.nd]|?_]
  show bc _ _ _ [!l,none,none,none] H;refine ap λD1 k1 _=>?_
  lk;refine%[X2 _|λL O=>k1 _ _ (ap λD2 k2 _=>az λag hK=>?_)];lk;refine%[_,SqL.of (af.upd O _ _ hl)|hK _ _ (kg (λi U n=>∃o2 o3,U=[!l,!L,o2,o3]/\af H n/\∃ts:ZH,n L=some (.lst (ts.map λt=>V.ref t.1))/\aP n ts/\(∀t∈ts,zP N t.2)/\ts.length<=i/\ts.map (·.2)=dE qs i)
   %[none,none,rfl,af.upd O,[],aa,jc _,λt ht=>(nomatch ht),X2 _|rfl] (λi U n _ ⟨_,_,_,q,_⟩=>SqL.of (q _ _ hl)) ?_ ?_)]
  .intro i x TT U n hx %[o2,o3,rfl,sm,ts,hm,u,g,v|d] hT;have hi:i<qs.length:=by rw[<-G];exact(X8 hx).1
   obtain⟨q,Y,rfl⟩:∃q,qs[i]? =some q/\x=V.ref q.1:=by
    rw[Zk,Z4 hi]at hx;exact%[qs[i],Z4 hi|(Z9 hx).symm]
   have s0:=af.upd (o:= .tup [.int i,.ref q.1]) hT;have j:af H (upd n TT (.tup [.int i,.ref q.1])):=sm.trans s0;have I:upd n TT (.tup [.int i,.ref q.1]) TT=some (.tup [.int i,.ref q.1]):=aa;have m:=s0 _ _ hm;have c:=aU u λb z e=>s0 _ _ e
   generalize upd n TT (.tup [.int i,.ref q.1])=HT at j I m c
   have J:=ab q (Z7 Y);refine%[_,SqT.of I,rfl,_,_,rfl,_,_,rfl,rfl|?_];show j6 _ _ _ _ [!l,!L,some (.int i),some (.ref q.1)] HT;refine aC λD4 k4 _=>?_
   lk;have st:=SqT.of (K:=K) (j _ _ J.1);have ai:(Str.ofString (toString (i:Int))).length<=21:=by
    have e:=PySem.int_text_length_le10 (a:=(i:Int)) (k:=20) (by decide) (by have:(i:Int).natAbs=i:=rfl;lia);rw[PySem.ofString_length];lia
   have e1:(Str.empty++Str.ofString "#").length=1:=by decide +kernel
   have ea:∀a b:Str,(a++b).length=a.length+b.length:=λa b=>size_append
   have add:∀a b:Str,a∈N->b∈N->oG i q.2=some [a,b,Ec i]->∀p,HT p=none->∃x,upd HT p (.tup [.str a,.str b,V.str (Str.empty++Str.ofString "#"++Str.ofString (toString (i:Int)))]) L=some (.lst x)/\x.length<sizeLine/\D4.nx [!l,!L,some (.int i),some (.ref q.1)] (upd (upd HT p (.tup [.str a,.str b,V.str (Str.empty++Str.ofString "#"++Str.ofString (toString (i:Int)))])) L (.lst (x++[V.ref p]))):=by
    intro a b ma mb ae p hp;have tn:=iB Y;rw[ae,<-d]at tn;unfold Ec at tn
    generalize hz:Str.empty++Str.ofString "#"++Str.ofString (toString (i:Int))=z at tn ⊢
    have sp:=af.upd (o:= .tup [V.str a,V.str b,V.str z]) hp;have gp:upd HT p (.tup [V.str a,V.str b,V.str z]) p=_:=aa
    generalize upd HT p (.tup [V.str a,V.str b,V.str z])=H4 at sp gp
    have M:=sp _ _ m;have B:∀b z,H4 b=some (.tup z)->upd H4 L (.lst (ts.map (λt=>V.ref t.1) ++[V.ref p])) b=some (.tup z):=λb z e=>by
     have:b≠L:=λe2=>by rw[e2,M]at e;cases e
     rw[ak this];exact e
    refine%[_,M,by rw[Z5];exact aB ⋯|k4 _ _ %[_,_,rfl,af.set (j.trans sp) O,ts++[(p,[a,b,z])],?_,?_,?_,?_|?_]]
    .rw[aa,Zc];rfl
    .exact aU (jt (aU c λb z e=>sp _ _ e) ∅ gp) B
    .intro t ht;rcases X9 ht with z|z
     .exact g t z
     .rw[Xa z];exact%[%[_,_,_,rfl,ma|mb]|GE (r a ma) (r b mb) (hz▸Eb i ⋯)]
    .rw[Z8,Ye];lia
    .rw[tn,Zc];rfl
   rcases J.2 with⟨wd,a,b,e,hw,ma,mb,_⟩|⟨wd,a,y,e,hw,_⟩
   .rw[e]at st;refine%[_,st,_,rfl,rfl|bj (λC=>?_) λC=>?_]
    .refine%[.inl %[_|SqL.of m],_,st,_,rfl,_,st,_,rfl,cv ⋯,?_,cv (by rw[ea];lia),cv (by rw[ea];lia),#[3]|add a b ma mb (e▸if_pos (V.str.inj (Zn C)))];have:(i:Int).natAbs=i:=rfl
     lia
    .refine k4 _ _ %[_,_,rfl,j,ts,m,c,g,⋯|?_];rw[iB Y,e,show oG i [V.str wd,V.str a,V.str b]=none from if_neg λz=>C (Ze (by rw[z])),d];exact(Zw _).symm
   .rw[e]at st;refine%[_,st,_,rfl,rfl|?_];rw[if_neg (by rcases hw with rfl|rfl<;> decide)];refine k4 _ _ %[_,_,rfl,j,ts,m,c,g,⋯|?_];rw[iB Y,e,d];exact(Zw _).symm
  .intro U n %[o2,o3,rfl,sm,ts,hm,u,g,v|d];refine k2 _ _ ?_;lk;rw[G]at v d;exact k L n ts sm O hm u g v d
structure GrF (mg:ZC) (H:Hp) (g c2 c3 c4:Addr) (qs:ZN) (ls:ZB) (ts:ZH):Prop where
 at_:∃dx c1,H g=some (.ins (aH mg "Ground") dx [("kept_cuts",.ref c1),("kept_sayings",.ref c2),("kept_layers",.ref c3),("kept_ties",.ref c4)])
 a2:H c2=some (.lst (qs.map λq=>V.ref q.1))
 a3:H c3=some (.lst (ls.map V.str))
 a4:H c4=some (.lst (ts.map λt=>V.ref t.1))
 sa:cz H ls qs
 tu:aP H ts
theorem GrF.up(h:GrF mg H g a c d qs f ts)(s:af H i):GrF mg i g a c d qs f ts:=by
 have%[j,l|m]:=h.at_;exact%[%[j,l|s _ _ m],s _ _ h.a2,s _ _ h.a3,s _ _ h.a4,h.sa.up s|aU h.tu λb z e=>s _ _ e]
inductive qR (mg:ZC) (vs:ZM) (H:Hp) (Q:VK) (E0:XK):Prop
 | mk (g c2 c3 c4 qs ls ts):vs=[.ref g]->GrF mg H g c2 c3 c4 qs ls ts->(∀l,H l=none->Q (.ref l) (upd H l (.lst (ls.map V.str))))->qR mg vs H Q E0
inductive oK (mg:ZC) (vs:ZM) (H:Hp) (Q:VK) (E0:XK):Prop
 | mk (g c2 c3 c4 qs ls ts):vs=[.ref g]->GrF mg H g c2 c3 c4 qs ls ts->(∀l,H l=none->Q (.ref l) (upd H l (.lst (qs.map λq=>V.ref q.1))))->oK mg vs H Q E0
inductive xN (mg:ZC) (vs:ZM) (H:Hp) (Q:VK) (E0:XK):Prop
 | mk (g c2 c3 c4 qs ls ts):vs=[.ref g]->GrF mg H g c2 c3 c4 qs ls ts->(∀l,H l=none->Q (.ref l) (upd H l (.lst (ts.map λt=>V.ref t.1))))->xN mg vs H Q E0
inductive sN (mg:ZC) (vs:ZM) (H:Hp) (Q:VK) (E0:XK):Prop
 | mk (g l m dx cs qs):vs=[.ref g,.ref l,.ref m]->H g=some (.ins (aH mg "Ground") dx [])->H l=some (.lst (cq cs))->H m=some (.lst (qs.map λq=>V.ref q.1))->cc H cs->(cs.map λp=>p.2.1).Nodup->1<=cs.length->cs.length<=3->(∀p∈cs,zA p.2.2)->(cs.flatMap lyr).length<=60->(∀ls,ls.Perm (cs.flatMap lyr)->cz H ls qs)->qs.length<=20->(∀H' ls ts c2 c3 c4,(∀b o,b≠g->H b=some o->H' b=some o)->GrF mg H' g c2 c3 c4 qs ls ts->(∀t∈ts,zP ls t.2)->(∀z∈ls,Sml z)->(∀k,k∈ts.map (·.2)↔k∈iA cs\/k∈dE qs qs.length)->ts.length<=62->ls.Perm (cs.flatMap lyr)->ls.Pairwise (λa b=>bd b a=false)->Q .non H')->sN mg vs H Q E0
theorem uU(T:Txt K mg):DG P w K mg base 6 "Ground" ["self","cuts","sayings"] (sN mg):=by
 refine T.c7.cal fK (λH vs Q E h=>?_)
 .have%[g,l,m,d,u,qs,rfl,O,hl,hm,j,as,h1,h8,a0,a1,C,bm|k]:=h;refine%[rfl|λf bl A outer s hr=>?_];refine%[_,%["JCYF]VA1BCH3F]WA1BCYF]XA2A3BC~U0'*A1BC~U0'*A2BC~U03D~U0|]YAI+F]ZA1BF]aA2BB",fK.nd|hr]|?_]
  show bc _ _ _ [!g,!l,!m,none] H;refine ap λD1 k1 _=>?_
  lk;refine%[l,u,rfl,hl,j,as,h1,⋯|λH1 s1=>k1 _ _ (ap λD2 k2 _=>?_)];lk;refine%[l,u,rfl,s1 _ _ hl,j.up s1,h8,a1|λr H2 G s2 f2 h2 U q2=>k2 _ _ (ap λD3 k3 _=>?_)];have Y:=s1.trans s2;lk;refine%[m,r,G,qs,rfl,Y _ _ hm,h2,(C G U).up Y,⋯|λH3 s3=>k3 _ _ (ap λD4 k4 _=>?_)];have v:=Y.trans s3;have OC:=T.c2.cls;have ai:∀z∈G,Sml z:=λz hz=>by
   have%[p,y|hz]:=mem_flatMap.mp (U.mem_iff.mp hz);exact Ea (j p y).2.1 (j p y).2.2 z hz
  have gl:l≠g:=λe=>by rw[e,O]at hl;cases hl
  have gm:m≠g:=λe=>by rw[e,O]at hm;cases hm
  have gr:r≠g:=λe=>by rw[e,s1 _ _ O]at f2;cases f2
  lk;refine%[_,.inl (SqL.of (v _ _ hl))|λa I=>%[_,_,_,af.upd I _ _ (v _ _ O),OC,T.c3,(by show 0<1000;decide)|k4 _ _ (ap λD5 k5 _=>?_)]];have a2:a≠g:=λe=>by rw[e,v _ _ O]at I;cases I
  have a3:=af.upd (o:= .lst (cq u)) I;have b4:∀b o,b≠g->H3 b=some o->upd (upd H3 a (.lst (cq u))) g (.ins (aH mg "Ground") d (dJ (Str.ofString "kept_cuts") (V.ref a) [])) b=some o:=λb o c e=>by rw[ak c];exact a3 _ _ e
  have g4:upd (upd H3 a (.lst (cq u))) g (.ins (aH mg "Ground") d (dJ (Str.ofString "kept_cuts") (V.ref a) [])) g=some (.ins (aH mg "Ground") d [("kept_cuts",V.ref a)]):=aa;have a4:upd (upd H3 a (.lst (cq u))) g (.ins (aH mg "Ground") d (dJ (Str.ofString "kept_cuts") (V.ref a) [])) a=some (.lst (cq u)):=by rw[ak a2];exact aa
  generalize upd (upd H3 a (.lst (cq u))) g (.ins (aH mg "Ground") d (dJ (Str.ofString "kept_cuts") (V.ref a) []))=H4 at b4 g4 a4
  have n4:∀b,H4 b=none->b≠g:=λb c e=>by rw[e,g4]at c;cases c
  lk;refine%[_,.inl (SqL.of (b4 _ _ gm (v _ _ hm)))|λi ab=>%[_,_,_,af.upd ab _ _ g4,OC,T.c4,(by show 1<1000;decide)|k5 _ _ (ap λD6 k6 _=>?_)]];have ae:=n4 i ab;have a6:=af.upd (o:= .lst (qs.map λq=>V.ref q.1)) ab;have b5:∀b o,b≠g->H4 b=some o->upd (upd H4 i (.lst (qs.map λq=>V.ref q.1))) g (.ins (aH mg "Ground") d (dJ (Str.ofString "kept_sayings") (V.ref i) [("kept_cuts",V.ref a)])) b=some o:=λb o c e=>(ak c)▸a6 _ _ e
  have g5:upd (upd H4 i (.lst (qs.map λq=>V.ref q.1))) g (.ins (aH mg "Ground") d (dJ (Str.ofString "kept_sayings") (V.ref i) [("kept_cuts",V.ref a)])) g=some (.ins (aH mg "Ground") d [("kept_cuts",V.ref a),("kept_sayings",V.ref i)]):=by rw[aa];rfl
  have a5:upd (upd H4 i (.lst (qs.map λq=>V.ref q.1))) g (.ins (aH mg "Ground") d (dJ (Str.ofString "kept_sayings") (V.ref i) [("kept_cuts",V.ref a)])) i=some (.lst (qs.map λq=>V.ref q.1)):=(ak ae)▸aa
  generalize upd (upd H4 i (.lst (qs.map λq=>V.ref q.1))) g (.ins (aH mg "Ground") d (dJ (Str.ofString "kept_sayings") (V.ref i) [("kept_cuts",V.ref a)]))=H5 at b5 g5 a5
  lk;refine%[_,_,_,g5,OC,T.c5,(by show 2<1000;decide)|k6 _ _ (aC λD7 k7 _=>?_)];have b6:∀b o,b≠g->H5 b=some o->upd H5 g (.ins (aH mg "Ground") d (dJ (Str.ofString "kept_layers") (V.ref r) [("kept_cuts",V.ref a),("kept_sayings",V.ref i)])) b=some o:=λb o c e=>(ak c)▸e
  have g6:upd H5 g (.ins (aH mg "Ground") d (dJ (Str.ofString "kept_layers") (V.ref r) [("kept_cuts",V.ref a),("kept_sayings",V.ref i)])) g=some (.ins (aH mg "Ground") d [("kept_cuts",V.ref a),("kept_sayings",V.ref i),("kept_layers",V.ref r)]):=by rw[aa];rfl
  generalize upd H5 g (.ins (aH mg "Ground") d (dJ (Str.ofString "kept_layers") (V.ref r) [("kept_cuts",V.ref a),("kept_sayings",V.ref i)]))=H6 at b6 g6
  have aj:∀b o,b≠g->H3 b=some o->H6 b=some o:=λb o c e=>b6 b o c (b5 b o c (b4 b o c e))
  have B:∀b o,b≠g->H b=some o->H6 b=some o:=λb o c e=>aj b o c (v _ _ e)
  have al:cc H6 u:=λp y=>⟨B _ _ (λe=>by have:=(j p y).1;rw[e,O]at this;cases this) (j p y).1,(j p y).2⟩
  have n:cz H6 G qs:=λq hq=>⟨B _ _ (λe=>by have:=(C G U q hq).1;rw[e,O]at this;cases this) (C G U q hq).1,(C G U q hq).2⟩
  lk;refine%[l,u,rfl,B _ _ gl hl,al,a0,h8|λt1 H7 ts s7 f7 h7 a7 ag bn a8=>?_];lk;refine%[m,G,qs,rfl,s7 _ _ (B _ _ gm hm),n.up s7,ai,⋯|λt2 H8 us s8 f8 a9 bb an bp bf=>?_];lk;have N:aP H8 (ts++us):=uO (aU a7 λb z e=>s8 _ _ e) bb;have g8:=s8 _ _ (s7 _ _ g6);refine%[_,s8 _ _ h7,_,a9,by rw[Z5,Z5,PySem.sizeLine_eq];lia|λp y=>%[ts++us,Zc▸SqL.of aa,aU N λb z e=>af.upd y _ _ e,3,?_,by decide,by rw[Z8];lia|λc4 ss J L bt=>%[_,_,_,af.upd J _ _ (af.upd y _ _ g8),OC,T.c6,(by show 3<1000;decide)|k7 _ _ ?_]]]
  .intro t ht;rcases X9 ht with z|z
   .exact(ag t z).1.three
   .exact(an t z).1.three
  .have b9:∀b o,b≠g->H8 b=some o->upd (upd (upd H8 p (.lst (ts.map (λp=>V.ref p.1) ++us.map λp=>V.ref p.1))) c4 (.lst (ss.map λp=>V.ref p.1))) g (.ins (aH mg "Ground") d (dJ (Str.ofString "kept_ties") (V.ref c4) [("kept_cuts",V.ref a),("kept_sayings",V.ref i),("kept_layers",V.ref r)])) b=some o:=λb o c e=>(ak c)▸((af.upd (o:= .lst (ts.map (λp=>V.ref p.1) ++us.map λp=>V.ref p.1)) y).trans (af.upd (o:= .lst (ss.map λp=>V.ref p.1)) J)) _ _ e
   have M:∀b o,b≠g->H6 b=some o->_:=λb o c e=>b9 b o c (s8 _ _ (s7 _ _ e))
   refine k _ G ss i r c4 (λb o c e=>M b o c (B b o c e)) %[%[d,a|?_],?_,?_,?_,?_|?_] (λt ht=>?_) ai (λk=>by rw[(L.map _).mem_iff,Zc,Ym,a8,bf]) (by rw[L.length_eq,Z8];lia) U q2
   .rw[aa];rfl
   .exact M _ _ ae (b6 _ _ ae a5)
   .exact M _ _ gr (aj _ _ gr (s3 _ _ h2))
   .rw[ak (λe=>by rw[e,af.upd y _ _ g8]at J;cases J)];exact aa
   .exact λq hq=>⟨M _ _ (λe=>by have:=(n q hq).1;rw[e,g6]at this;cases this) (n q hq).1,(n q hq).2⟩
   .intro t ht;have:=N t (L.mem_iff.mp ht);exact%[this.1|b9 _ _ (λe=>by have q:=this.2;rw[e,g8]at q;cases q) this.2]
   .rcases X9 (L.mem_iff.mp ht)with z|z
    .exact%[(ag t z).1.mono λx=>U.mem_iff.mpr|(ag t z).2]
    .exact an t z
theorem eJ(T:Txt K mg):zd P w K mg base 1 "Ground" "layers" ["self"] (qR mg):=by
 refine T.c9.cal lL (λH vs Q E h=>?_)
 .have%[g,c,d,e,qs,i,ts,rfl,a|k]:=h;refine%[rfl|λf b A outer s n=>?_];have%[o,p|j]:=a.at_;refine%[_,%["JDG'*A~i0B"|0]|?_];show j5 _ _ [some _] H;lk;exact%[_,_,_,j,T.c2.cls,T.c5,_,rfl,_,rfl,_,.inl (SqL.of a.a3)|λl m=>k l m]
theorem lO(T:Txt K mg):zd P w K mg base 1 "Ground" "sayings" ["self"] (oK mg):=by
 refine T.c8.cal kE (λH vs Q E h=>?_)
 .have%[g,c,d,e,qs,i,ts,rfl,a|k]:=h;refine%[rfl|λf b A outer s n=>?_];have%[o,p|j]:=a.at_;refine%[_,%["JDG'*A~i0B"|0]|?_];show j5 _ _ [some _] H;lk;exact%[_,_,_,j,T.c2.cls,T.c4,_,rfl,_,rfl,_,.inl (SqL.of a.a2)|λl m=>k l m]
theorem pM(T:Txt K mg):zd P w K mg base 1 "Ground" "ties" ["self"] (xN mg):=by
 refine T.cc.cal oj (λH vs Q E h=>?_)
 .have%[g,c,d,e,qs,i,ts,rfl,a|k]:=h;refine%[rfl|λf b A outer s n=>?_];have%[o,p|j]:=a.at_;refine%[_,%["JDG'*A~i0B"|0]|?_];show j5 _ _ [some _] H;lk;exact%[_,_,_,j,T.c2.cls,T.c6,_,rfl,_,rfl,_,.inl (SqL.of a.a4)|λl m=>k l m]
def dU(H:Hp)(ys:List (Addr×Str×Int)):Prop:=∀p∈ys,H p.1=some (.tup [.str p.2.1,.int p.2.2])/\0<=p.2.2/\p.2.2<=7
theorem dU.up(h:dU H ys)(s:af H b):dU b ys:=λp a=>%[s _ _ (h p a).1|(h p a).2]
inductive qS (vs:ZM) (H:Hp) (Q:VK) (E0:XK):Prop
 | mk (one two l ys):vs=[.int one,.int two,.ref l]->H l=some (.lst (ys.map λp=>V.ref p.1))->dU H ys->1<=ys.length->ys.length<=100->0<=one->0<=two->(∀t H' xs,af H H'->H t=none->H' t=some (.tup xs)->qO (ys.map λp=>p.2.1) xs->Q (.ref t) H')->qS vs H Q E0
theorem sO(T:Txt K mg):↥1 "_law_saying" ["_law_one","_law_two","_law_layers"] qS:=by
 refine T.bu.cal bL (λH vs Q E h=>?_)
 .have%[one,d,l,ys,rfl,N,C,y1,ai,o0,t0|k]:=h;refine%[rfl|λf aj A outer s hr=>?_];have get:∀n:Int,0<=n->∃q,atI (ys.map λp=>V.ref p.1) (n%(ys.length:Int))=some (V.ref q.1)/\q∈ys:=λn hn=>by
   have h0:=Int.emod_nonneg n (show(ys.length:Int)≠0 by lia);have h1:=Int.emod_lt_of_pos n (show(0:Int)<(ys.length:Int) by lia)
   generalize n%(ys.length:Int)=i at h0 h1
   have%[j|rfl]:=X5 h0;have hj:j<ys.length:=by lia
   exact%[ys[j],cA (by simp[hj])|Y6 hj]
  have%[p,gp|mp]:=get one o0;have%[q,gq|mq]:=get d t0;have G:(ys.map λp=>V.ref p.1).length=ys.length:=Z5 _;have y:(0:Int)<(ys.length:Int):=by lia
  have pa:=C p mp;have qa:=C q mq;refine%[_,%["JC~MR2Ii0VWA2BfMK3MK4gC~MR2Ii1VWA2BfMK5MK6gCH7IiIr0EECH8meIiIr1EEECOazL^7EzLu35,aqLu46vh8COazL~C46,oh8DGlAZA5A3BPDGlAZA3A5BPCOazL_7lAEAEBzLu35,aqLe46vh8DGlAZA3A5BPCH9IxI~GEI~DE4RQAEA.EA.EAEAEA.EAEAEBIi1EDGlARQAZAZBIi7EA3A9B"|bL.nd]|?_]
  show bc _ _ _ [some (.int one),some (.int d),!l,none,none,none,none,none,none,none] H;refine ap λD1 k1 _=>?_
  lk;refine%[ys.length,.inl %[_,SqL.of N|G.symm],y,_,SqL.of N,_,gp,_,rfl,_,SqT.of pa.1,rfl,_,_,rfl,_,_,rfl,rfl|k1 _ _ (ap λD2 k2 _=>?_)];lk;refine%[ys.length,.inl %[_,SqL.of N|G.symm],y,_,SqL.of N,_,gq,_,rfl,_,SqT.of qa.1,rfl,_,_,rfl,_,_,rfl,rfl|k2 _ _ (ap λD3 k3 _=>?_)];lk;refine%[%[by decide|by decide],by decide|k3 _ _ (ap λD4 k4 _=>?_)];lk;refine%[%[by decide|by decide],by decide|k4 _ _ (ap λD5 k5 r5=>?_)];have b1:0<=one/64%8:=by lia
  have b2:one/64%8<8:=by lia
  generalize one/64%8=kind at b1 b2
  generalize decide (d/64%16=0)=I
  have%[al,pn|pi]:=p;have%[an,m|qi]:=q;dsimp only at pa qa gp gq;have mem:∀{r:Addr×Str×Int},r∈ys->r.2.1∈ys.map λp=>p.2.1:=λ{r} hr=>Xc %[r,hr|rfl]
  have fin:∀(z:Hp) (a b:Str),af H z->a∈(ys.map λp=>p.2.1)->b∈(ys.map λp=>p.2.1)->a≠b->∀w:Str,w="later"\/w="same"->∀t,z t=none->Q (.ref t) (upd z t (.tup [.str w,.str a,.str b])):=λz a b J ha hb ab w hw t u=>
   k t _ _ (J.trans (af.upd u)) (J.free u) aa (.inl %[w,a,b,rfl,hw,ha,hb|ab])
  have O:pn∈ys.map λp=>p.2.1:=mem mp
  have m2:m∈ys.map λp=>p.2.1:=mem mq
  have v:3<=sizeLine:=by decide
  have rest:D5.nx [some (.int one),some (.int d),!l,-pn,some (.int pi),-m,some (.int qi),some (.int kind),some (.bl I),none] H:=by
   refine k5 _ _ (ap λD6 k6 r6=>?_);have B:∀z,af H z->D6.nx [some (.int one),some (.int d),!l,-pn,some (.int pi),-m,some (.int qi),some (.int kind),some (.bl I),none] z:=by
    intro z J;refine k6 _ _ (ap λD7 k7 _=>?_);lk;refine%[.inl %[by decide|by decide],#[8]|λp U=>%[by decide,_,SqL.of aa|?_]];have%[c,hc|ae]:=kH [0,-20,-60,10,60,-200,110,0] (i:=d%8) ⋯ (by show d%8<8;lia);have as: -200<=c/\c<=110:=by
     simp only[Yp,Yx,or_false]at ae
     lia
    refine%[_,hc,c,rfl|k7 _ _ ?_];lk;obtain⟨wd,ag,hw⟩:∃wd:Str,atI [V.str (Str.ofString "since"),V.str (Str.ofString "by")] (kind%2)=some (V.str wd)/\(wd="since"\/wd="by"):=by
     rcases(show kind%2=0\/kind%2=1 by lia)with e|e<;> rw[e]
     .exact%[_,rfl|.inl rfl]
     .exact%[_,rfl|.inr rfl]
    refine%[#[2]|λp1 M=>%[by simp,_,SqL.of aa,_,ag,v|λt u=>?_]];exact k t _ _ (J.trans ((af.upd U).trans ((af.upd M).trans (af.upd u)))) (J.free ((af.upd U).free ((af.upd M).free u))) aa (.inr %[wd,pn,_,rfl,hw,O,⋯|⋯])
   lk;refine%[#[2]|λp U=>%[_,.inr (SqT.of aa),rfl,rfl|?_]];have sp:=af.upd (o:= .tup [V.int 2,V.int 3]) U
   generalize upd H p (.tup [V.int 2,V.int 3])=Y at sp
   have R:=B Y sp;refine bj (λ_=>bj (λg=>?_) λ_=>R) λ_=>R
   have g:pn≠m:=by simpa using g
   have L:3<=sizeLine/\∀p,Y p=none->D6.rt (.ref p) (upd Y p (.tup [V.str (Str.ofString "same"),V.str pn,V.str m])):=%[v|λt u=>r6 _ _ (fin Y pn m sp O m2 g _ (.inr rfl) t u)]
   exact bj (λ_=>L) λ_=>bj (λ_=>L) λ_=>R
  lk;refine bj (λ_=>bj (λg=>?_) λ_=>rest) λ_=>rest
  have g:pn≠m:=by simpa using g
  have L1:3<=sizeLine/\∀p,H p=none->D5.rt (.ref p) (upd H p (.tup [V.str (Str.ofString "later"),V.str m,V.str pn])):=%[v|λt u=>r5 _ _ (fin H m pn (af.refl H) m2 O (Ne.symm g) _ (.inl rfl) t u)]
  have L2:3<=sizeLine/\∀p,H p=none->D5.rt (.ref p) (upd H p (.tup [V.str (Str.ofString "later"),V.str pn,V.str m])):=%[v|λt u=>r5 _ _ (fin H pn m (af.refl H) O m2 g _ (.inl rfl) t u)]
  exact bj (λ_=>bj (λ_=>bj (λ_=>L1) λ_=>L2) λ_=>L2) λ_=>bj (λ_=>bj (λ_=>bj (λ_=>L1) λ_=>L2) λ_=>L2) λ_=>rest
structure Drn where
 name:Str
 cols:List ZL
 hi:Nat
 sh:Int
 wd:Bool
noncomputable def Drn.rows(d:Drn):ZB:=drawn d.cols d.hi d.sh
def mw(d:Drn):Prop:=f6 d.name=true/\1<=d.hi/\d.hi<=6/\1<=d.cols.length/\d.cols.length<=5/\∀c∈d.cols,c.length=d.hi/\kA d.wd c
theorem mw.cut(h:mw d):cf d.rows:=uH h.2.1 (by have:=h.2.2.1;lia) h.2.2.2.1 (by have:=h.2.2.2.2.1;lia) h.2.2.2.2.2
noncomputable def iD(d:Drn):List (Str×Int):=(there d.cols).map λa=>(dH d.name (sg a d.sh),a)
noncomputable def dcs(ds:List (Addr×Drn)):List (Addr×Str×ZB):=ds.map λp=>(p.1,p.2.name,p.2.rows)
noncomputable def nmK(k:Int):Str:=if k=0 then "north" else if k=1 then "a" else if k=2 then "wallwest" else "zz"
inductive qT (K:ZA) (vs:ZM) (H:Hp) (Q:VK) (E0:XK):Prop
 | mk (a:Addr) (xs:ZL):vs=[.ref a]->SqL K H a (xs.map V.int)->(∀H',af H H'->SqL K H' a (xs.map V.int))->xs.length=43->(∀x∈xs,0<=x/\x<9973)->(∀t l1 l2 l3 H' ds qs,af H H'->H t=none->H l1=none->H l2=none->H l3=none->l1≠l2->l1≠l3->l2≠l3->H' t=some (.tup [.ref l1,.ref l2,.ref l3])->H' l1=some (.lst (cq (dcs ds)))->H' l2=some (.lst (qs.map λq=>V.ref q.1))->H' l3=some (.lst ((ds.flatMap λp=>(iD p.2).map (·.1)).map V.str))->1<=ds.length->ds.length<=3->(∀p∈ds,mw p.2)->(ds.map λp=>p.2.name).Nodup->cc H' (dcs ds)->cz H' (ds.flatMap λp=>(iD p.2).map (·.1)) qs->qs.length<=12->(∀p∈ds,∃k:Int,p.2.name=nmK k)->1<=(ds.flatMap λp=>(iD p.2).map (·.1)).length/\(ds.flatMap λp=>(iD p.2).map (·.1)).length<=24->Q (.ref t) H')->qT K vs H Q E0
theorem mT(h:H M=some (.lst xs)):∀b z,H b=some (.tup z)->upd H M (.lst ys) b=some (.tup z):=λb z e=>by
 rw[ak (λa=>by lia)];exact e
theorem dU.keep(h:dU H ys)(t:∀b z,H b=some (.tup z)->c b=some (.tup z)):dU c ys:=λp a=>%[t _ _ (h p a).1|(h p a).2]
theorem cc.keep(h:cc H c)(t:∀b z,H b=some (.tup z)->d b=some (.tup z)):cc d c:=λp a=>%[t _ _ (h p a).1|(h p a).2]
theorem cz.keep(h:cz H c qs)(t:∀b z,H b=some (.tup z)->d b=some (.tup z)):cz d c qs:=λp a=>%[t _ _ (h p a).1|(h p a).2]
theorem cc.snoc(h:cc H a)(b:H q.1=some (.tup [.str q.2.1,.str (Str.join nl q.2.2)])/\f6 q.2.1=true/\cf q.2.2):cc H (a++[q]):=λp c=>by
 rcases X9 c with z|z
 .exact h p z
 .rw[Xa z];exact b
theorem dU.snoc(h:dU H ys)(a:H q.1=some (.tup [.str q.2.1,.int q.2.2])/\0<=q.2.2/\q.2.2<=7):dU H (ys++[q]):=λp b=>by
 rcases X9 b with z|z
 .exact h p z
 .rw[Xa z];exact a
theorem zQ(n:Str)(c:Nat):n++Str.ofString "."++sgn c=dH n c:=by
 refine jm ?_;show(n.cps++ ([46].toArray) ++ ([c].toArray)).toList=(n.cps.toList++[46,c]).toArray.toList;simp
theorem GF(k:Int):f6 (nmK k)=true:=by
 unfold nmK
 split
 .decide +kernel
 .split
  .decide +kernel
  .split<;> decide +kernel
theorem Ee(c:0<=j)(e:j<4)(d:0<=k)(f:k<4)(h:nmK j=nmK k):j=k:=by
 have all:∀a b:Fin 4,nmK (a.1)=nmK (b.1)->a=b:=by decide +kernel
 have%[a|rfl]:=X5 c;have%[b|rfl]:=X5 d;have:=all %[a|⋯] %[b|⋯] h
 simp_all
theorem sP(T:Txt K mg):↥3 "_law_ground" ["_law_row_here"] (qT K):=by
 refine T.bv.cal aR (λH vs Q E h=>?_)
 .have%[a,xs,rfl,hs,keep,b6,hb|kk]:=h;refine%[rfl|λf ek A outer s hr=>?_];have get:∀i:Int,0<=i->i<43->∃c,atI (xs.map V.int) i=some (V.int c)/\0<=c/\c<9973:=λi h0 h1=>by
   have%[c,e|hm]:=kH xs h0 ⋯;exact%[c,e|hb c hm]
  have%[c0,g0,l0|u0]:=get 0 (by decide) (by decide);refine%[_,%["JCH1QBCH2QBCT[AIxEIiR0EEBK3CH4RQAZAZAZAZBIiIx3IrR0EEECH5IxIrR0EEI~DE3C~MF]bA~W0~HIxEI~DE3~HIxEI~DE3A5BfMK6MK7gCYpk1AlA4A6BBDTS7K8DYpk2AlAI+I+4ZF~oA8A5BA8BBCH9IiIrR0EEECH:QBCT[A9BK3DYpk~!:AF]cAR0IxEI~DE3AR0IxEI~DE3A2BBDGlA1A~!:And?1S2fMX0?2MX1?2gt0B",aR.nd,(show bD (ah eT) ["_law_row_here","_law_cuts","_law_layers","_law_k","_law_name","_law_shift","_law_text","_law_there","_law_at","_law_many","_law_sayings"] _ ["_law_layer","_law_at"] []=true from by decide +kernel),(show(["_law_layer","_law_at"]:ZB).Nodup from by decide +kernel)|hr]|?_]
  show bc _ _ _ [!a,none,none,none,none,none,none,none,none,none,none] H;refine ap λD1 k1 _=>?_
  lk;refine%[X2 _|λu bl=>k1 _ _ (ap λD2 k2 _=>?_)];have s1:=af.upd (o:= .lst []) bl;lk;refine%[X2 _|λL3 a2=>k2 _ _ (ap λD3 k3 _=>az λas hK=>?_)];have s2:=s1.trans (af.upd (o:= .lst []) a2);have bm:u≠L3:=λe=>by rw[<-e,aa]at a2;cases a2
  lk;refine%[_,keep _ s2,_,g0,c0,rfl,by decide|?_];refine%[⋯,⋯|hK _ _ (eW (λi M l=>∃o3 o4 o5 o6 o7 o8,M=[!a,!u,!L3,o3,o4,o5,o6,o7,o8,none,none]/\af H l/\∃(ds:List (Addr×Drn)) (ys:List (Addr×Str×Int)),ds.length=i/\l u=some (.lst (cq (dcs ds)))/\l L3=some (.lst (ys.map λp=>V.ref p.1))/\dU l ys/\(ys.map (·.2))=(ds.flatMap λp=>iD p.2)/\
   cc l (dcs ds)/\(∀p∈ds,mw p.2)/\ds.map (λp=>p.2.name)=(List.range i).map λk:Nat=>nmK (((k:Int) +c0/3)%4))
   %[_,_,_,_,_,_,rfl,s2,[],[],rfl,by rw[ak bm];exact aa,aa,λp hp=>(nomatch hp),rfl,λp hp=>(nomatch hp),λp hp=>(nomatch hp)|rfl] ?_ ?_)]
  .intro i M H3 hi %[o3,o4,o5,o6,o7,o8,rfl,s3,ds,ys,bn,v,C,a3,Y,bp,a4|a5];have el:i<3:=by lia
   show bc _ _ _ [!a,!u,!L3,some (.int (0+i)),o4,o5,o6,o7,o8,none,none] H3;rw[Int.zero_add];refine ap λD4 k4 _=>?_
   lk;obtain⟨m,b7,b9⟩:∃m:Str,atI [V.str (Str.ofString "north"),V.str (Str.ofString "a"),V.str (Str.ofString "wallwest"),V.str (Str.ofString "zz")] (((i:Int) +c0/3)%4)=some (V.str m)/\m=nmK (((i:Int) +c0/3)%4):=by
    rcases(show((i:Int) +c0/3)%4=0\/((i:Int) +c0/3)%4=1\/((i:Int) +c0/3)%4=2\/((i:Int) +c0/3)%4=3 by lia)with e|e|e|e<;> rw[e]<;> exact%[_,rfl|rfl]
   have bt:f6 m=true:=by rw[b9];exact GF _
   refine%[#[4]|λp hp=>%[_,keep _ (s3.trans (af.upd hp)),_,g0,c0,rfl,%[by decide|by decide],by decide,_,SqL.of aa,_,b7|k4 _ _ (ap λD5 k5 _=>?_)]];have sp:=af.upd (o:= .lst [V.str (Str.ofString "north"),V.str (Str.ofString "a"),V.str (Str.ofString "wallwest"),V.str (Str.ofString "zz")]) hp
   generalize upd H3 p (.lst [V.str (Str.ofString "north"),V.str (Str.ofString "a"),V.str (Str.ofString "wallwest"),V.str (Str.ofString "zz")])=H4 at sp
   have O:=s3.trans sp;lk;refine%[_,keep _ O,_,g0,c0,rfl,%[by decide|by decide],.inl %[by decide|by decide]|k5 _ _ (ap λD6 k6 _=>?_)];have bU:0<=c0/12+3*(i:Int):=by lia
   generalize c0/12+3*(i:Int)=r at bU
   lk;refine%[.inl %[by decide|by decide],.inl %[by decide|by decide]|.inl %[_,keep _ O|λp2 ca=>?_]];rw[uM xs ⋯ ⋯ ⋯];have cd:((xs.drop (1+6*(i:Int)).toNat).take ((7+6*(i:Int)).toNat-(1+6*(i:Int)).toNat)).length=6:=by
    rw[Yf,Yb,b6];exact(by decide:∀i:Nat,i<3->min ((7+6*(i:Int)).toNat-(1+6*(i:Int)).toNat) (43-(1+6*(i:Int)).toNat)=6) i ⋯
   have ch:∀x∈(xs.drop (1+6*(i:Int)).toNat).take ((7+6*(i:Int)).toNat-(1+6*(i:Int)).toNat),0<=x/\x<9973:=λx hx=>hb x (List.mem_of_mem_drop (Yq hx))
   generalize (xs.drop (1+6*(i:Int)).toNat).take ((7+6*(i:Int)).toNat-(1+6*(i:Int)).toNat)=ws at cd ch
   refine%[p2,ws,r,rfl,SqL.of aa,λl sm=>SqL.of (sm _ _ aa),cd,ch,bU|λT5 th H5 d g ab U f5 da n5 dc dd de dk dn dp b0=>%[T5,rfl,_,SqT.of dc,rfl,_,_,rfl,_,_,rfl,rfl|k6 _ _ (ap λD7 k7 _=>?_)]];have b1:af H3 H5:=sp.trans ((af.upd ca).trans U);have a8:mw %[m,d,g,r|ab]:=%[bt,de,dk,dn,dp|b0]
   have ag:H3 th=none:=sp.free ((af.upd ca).free da);have dr:th≠u:=λe=>by rw[e,v]at ag;cases ag
   have dt:th≠L3:=λe=>by rw[e,C]at ag;cases ag
   lk;refine%[.inl %[_|SqL.of (b1 _ _ v)],#[2]|λI dx=>?_];have s6:=af.upd (o:= .tup [V.str m,V.str (nl.join (drawn d g r))]) dx;have g6:upd H5 I (.tup [V.str m,V.str (nl.join (drawn d g r))]) I=_:=aa;have an:=s6 _ _ (b1 _ _ v)
   generalize upd H5 I (.tup [V.str m,V.str (nl.join (drawn d g r))])=H6 at s6 g6 an
   have a6:=b1.trans s6;refine%[_,an,by rw[show(cq (dcs ds)).length=ds.length by unfold cq dcs;rw[Z5,Z5],bn];exact aB ⋯|k7 _ _ (aC λD8 k8 _=>az λas hK=>?_)];have tk:=mT (ys:=cq (dcs ds) ++[V.ref I]) an;have cl:af H (upd H6 u (.lst (cq (dcs ds) ++[V.ref I]))):=af.set (s3.trans a6) bl;have co:upd H6 u (.lst (cq (dcs ds) ++[V.ref I])) u=some (.lst (cq (dcs (ds++[(I,%[m,d,g,r|ab])])))):=by
    rw[aa];unfold cq dcs;rw[Zc,Zc];rfl
   have cp:upd H6 u (.lst (cq (dcs ds) ++[V.ref I])) L3=some (.lst (ys.map λp=>V.ref p.1)):=by rw[ak (Ne.symm bm)];exact a6 _ _ C
   have b2:upd H6 u (.lst (cq (dcs ds) ++[V.ref I])) th=some (.lst ((there d).map V.int)):=by rw[ak dr];exact s6 _ _ dd
   have cs:cc (upd H6 u (.lst (cq (dcs ds) ++[V.ref I]))) (dcs (ds++[(I,%[m,d,g,r|ab])])):=by
    rw[show dcs (ds++[(I,%[m,d,g,r|ab])])=dcs ds++[(I,m,drawn d g r)] by unfold dcs;rw[Zc];rfl];exact((bp.up a6).snoc %[g6,bt|a8.cut]).keep tk
   have ct:dU (upd H6 u (.lst (cq (dcs ds) ++[V.ref I]))) ys:=(a3.up a6).keep tk
   generalize upd H6 u (.lst (cq (dcs ds) ++[V.ref I]))=H7 at cl co cp b2 cs ct
   have ai:ys.length<=8*i:=by
    have e:=congrArg List.length Y;rw[Z5,List.length_flatMap]at e;have:=rN (f:=λp:Addr×Drn=>(iD p.2).length) (B:=8) (xs:=ds) λp _=>by
     unfold iD;rw[Z5];exact lB _
    lia
   lk;refine .inl %[%[_|SqL.of b2]|hK _ _ (bx (xs:=(there d).map V.int) (λj M l=>∃o8,M=[!a,!u,!L3,some (.int i),-m,some (.int r),some (.str (nl.join (drawn d g r))),!th,o8,none,none]/\af H l/\l u=some (.lst (cq (dcs (ds++[(I,%[m,d,g,r|ab])]))))/\l th=some (.lst ((there d).map V.int))/\cc l (dcs (ds++[(I,%[m,d,g,r|ab])]))/\
    ∃zs:List (Addr×Str×Int),l L3=some (.lst ((ys++zs).map λp=>V.ref p.1))/\dU l (ys++zs)/\zs.map (·.2)=((there d).take j).map λa=>(dH m (sg a r),a))
    %[_,rfl,cl,co,b2,cs,[],by rw[Zw];exact cp,by rw[Zw];exact ct|rfl] (λj M l _ ⟨_,_,_,_,q,_⟩=>SqL.of q) ?_ ?_)]
   .intro j x M H8 hx %[o8,rfl,s8,a0,a9,b3,zs,aj,b4|a1];have hj:j<(there d).length:=by have:=(X8 hx).1;rwa[Z5]at this
    rw[Zk,Z4 hj]at hx;obtain rfl:x=V.int (there d)[j]:=(Z9 hx).symm;have cx:=eY.mp (Y6 hj);show j3 _ _ [!a,!u,!L3,some (.int i),-m,some (.int r),some (.str (nl.join (drawn d g r))),!th,some (.int (there d)[j]),none,none] H8;refine aC λD9 k9 _=>?_
    lk;have ej:=oH bt;have ea:∀a b:Str,(a++b).length=a.length+b.length:=λa b=>size_append
    have e1:(Str.ofString ".").length=1:=rfl;have zl:zs.length<=j:=by
     have:=congrArg List.length a1;rw[Z5,Z5,Yf]at this
     lia
    have tl:=lB d;refine%[.inl %[_|SqL.of aj],cv ⋯,_,_,rfl,bU,_,rfl,cv (by rw[ea,show(sgn (sg (there d)[j] r)).length=1 from rfl];lia),#[2]|λp hp=>?_];rw[zQ];have s9:=af.upd (o:= .tup [V.str (dH m (sg (there d)[j] r)),V.int (there d)[j]]) hp;have g9:upd H8 p (.tup [V.str (dH m (sg (there d)[j] r)),V.int (there d)[j]]) p=_:=aa
    generalize upd H8 p (.tup [V.str (dH m (sg (there d)[j] r)),V.int (there d)[j]])=H9 at s9 g9
    have cy:=s9 _ _ aj;have cM:=mT (ys:=(ys++zs).map (λp=>V.ref p.1) ++[V.ref p]) cy;refine%[_,cy,by rw[Z5,Z8];exact aB ⋯|k9 _ _ %[_,rfl,af.set (s8.trans s9) (s1.free a2),by rw[ak bm];exact s9 _ _ a0,by rw[ak dt];exact s9 _ _ a9,(b3.up s9).keep cM,zs++[(p,dH m (sg (there d)[j] r),(there d)[j])],?_,?_|?_]]
    .rw[aa,<-Zd,Zc (l₂:=[(p,dH m (sg (there d)[j] r),(there d)[j])])];rfl
    .rw[<-Zd];exact((b4.up s9).snoc %[g9,cx.1|cx.2.1]).keep cM
    .rw[Zc,a1,X0,Z4 hj,Zc];rfl
   .intro M H8 %[o8,rfl,s8,a0,a9,b3,zs,aj,b4|a1];rw[Z5,Zm (Zh _)]at a1;refine k8 _ _ %[_,_,_,_,_,_,rfl,s8,ds++[(I,%[m,d,g,r|ab])],ys++zs,by rw[Z8,bn];rfl,a0,aj,b4,?_,b3,λp hp=>?_|?_]
    .rw[Zc,Y,a1,flatMap_append]
     congr 1
     rw[List.flatMap_singleton];rfl
    .rcases X9 hp with z|z
     .exact a4 p z
     .rw[Xa z];exact a8
    .rw[Zc,a5,range_succ,Zc];rw[b9];rfl
  .intro M H3 %[o3,o4,o5,o6,o7,o8,rfl,s3,ds,ys,bn,v,C,a3,Y,bp,a4|a5];refine k3 _ _ (ap λD4 k4 _=>?_);lk;refine%[_,keep _ s3,_,g0,c0,rfl,%[by decide|by decide],by decide|k4 _ _ (ap λD5 k5 _=>?_)];have m0:0<=c0/100%13:=by lia
   have dy:c0/100%13<=12:=by lia
   generalize c0/100%13=bb at m0 dy
   lk;refine%[X2 _|λL2 ae=>k5 _ _ (ap λD6 k6 _=>az λas hK=>?_)];have dK:L2≠u:=λe=>by rw[e,v]at ae;cases ae
   have en:L2≠L3:=λe=>by rw[e,C]at ae;cases ae
   have dT:=af.upd (o:= .lst []) ae;have dV:1<=ds.length:=by lia
   have d0:ds.length<=3:=by lia
   have ai:ys.length<=24/\1<=ys.length:=by
    have e:=congrArg List.length Y;rw[Z5,List.length_flatMap]at e;have:=rN (f:=λp:Addr×Drn=>(iD p.2).length) (B:=8) (xs:=ds) λp _=>by
     unfold iD;rw[Z5];exact lB _
    refine%[⋯|Nat.pos_of_ne_zero λz=>?_];have d1:ys=[]:=length_eq_zero_iff.mp z;rw[d1]at Y;have c1:0<ds.length:=by lia
    have hq:=a4 ds[0] (Y6 c1);have c2:=B1 hq.2.1 hq.2.2.2.1 hq.2.2.2.2.2;have%[a'|d2]:=List.exists_mem_of_ne_nil _ c2;have:(dH ds[0].2.name (sg a' ds[0].2.sh),a')∈ds.flatMap λp=>iD p.2:=mem_flatMap.mpr %[ds[0],Y6 c1|Xc %[a',d2|rfl]]
    rw[<-Y]at this;cases this
   have G:(ys.map λp=>p.2.1)=ds.flatMap λp=>(iD p.2).map (·.1):=by
    have e:=congrArg (List.map (·.1)) Y;rw[Yl,List.map_flatMap]at e;exact e
   lk;refine%[⋯,⋯|hK _ _ (eW (λi M l=>∃o3,M=[!a,!u,!L3,o3,o4,o5,o6,o7,o8,some (.int bb),!L2]/\af H3 l/\∃qs:ZN,l L2=some (.lst (qs.map λq=>V.ref q.1))/\qs.length=i/\cz l (ys.map λp=>p.2.1) qs)
    %[_,rfl,dT,[],aa,rfl|λq hq=>(nomatch hq)] ?_ ?_)]
   .intro i M H4 eo %[o3,rfl,O,qs,L,c3|a7];show j3 _ _ [!a,!u,!L3,some (.int (0+i)),o4,o5,o6,o7,o8,some (.int bb),!L2] H4;rw[Int.zero_add];have%[x1,d3,d4|ep]:=get (19+2*(i:Int)) ⋯ ⋯;have%[x2,d7,eb|eq]:=get (20+2*(i:Int)) ⋯ ⋯;refine aC λD7 k7 _=>?_
    lk;refine%[.inl %[_|SqL.of L],.inl %[by decide|by decide],_,keep _ (s3.trans O),_,d3,.inl %[by decide|by decide],_,keep _ (s3.trans O),_,d7|?_];refine%[x1,x2,L3,ys,rfl,O _ _ C,a3.up O,ai.2,⋯,d4,eb|λt H5 ec U f5 h5 ed=>?_];have an:=U _ _ L;have c4:=mT (ys:=qs.map (λq=>V.ref q.1) ++[V.ref t]) an;refine%[_,an,by rw[Z5];exact aB ⋯|k7 _ _ %[_,rfl,af.set (O.trans U) ae,qs++[(t,ec)],by rw[aa,Zc];rfl,by rw[Z8,c3];rfl|λq hq=>?_]];rcases X9 hq with z|z
    .exact(((a7.up U).keep c4) q z)
    .rw[Xa z];exact%[c4 _ _ h5|ed]
   .intro M H4 %[o3,rfl,O,qs,L,c3|a7];refine k6 _ _ ?_;lk;refine aF λas hK=>?_
    lk;have al:=O _ _ C;refine .inl %[%[_|SqL.of al]|hK _ _ λN hN=>?_];refine bw (J:=Itl K L3) (n:=ys.length) (D:=N) (λj ts M l=>(∃o1 o2,M=[o1,o2])/\af H4 l/\l N=some (.lst ts)/\ts=((ys.take j).map λp=>p.2.1).map V.str)
     %[%[none,none|rfl],af.upd hN,aa|rfl]
     (λj _ _ l hj b5=>%[_,V.ref ys[j].1,SqL.of (b5.2.1 _ _ al)|by simp[hj]]) (λ_ _ l b5=>%[_,SqL.of (b5.2.1 _ _ al)|by simp]) ?_ ?_
    .intro j ts M H5 hj %[%[o1,o2|rfl],U,eg|ht] x H6 %[e2|hx];subst e2;have c5:=hx _ (SqL.of (U _ _ al));rw[Zk,Z4 hj]at c5;obtain rfl:x=V.ref ys[j].1:=(Z9 c5).symm;refine%[_,SqT.of (U _ _ (O _ _ ((a3 ys[j] (Y6 hj)).1))),rfl,_,_,rfl,_,_,rfl,rfl|?_];show yG [some (.str ys[j].2.1),some (.int ys[j].2.2)] _ _;lk;refine CK.mk hj eg (by rw[ht,Z5,Z5,Yf];exact aB ⋯) %[%[_,_|rfl],af.set U hN,aa|?_];rw[ht,X0,Zc,Zc,Z4 hj];rfl
    intro ts M H5 %[_,U,eh|ht];rw[Zm (Zh _),G]at ht;refine%[#[3]|λt c7=>?_];have st:=af.upd (o:= .tup [V.ref u,V.ref L2,V.ref N]) c7;rw[G]at a7;have bf:=O _ _ v;refine kk t u L2 N _ ds qs (s3.trans (O.trans (U.trans st))) ((s3.trans (O.trans U)).free c7) bl (s3.free ae) ((s3.trans O).free hN) (Ne.symm dK) (λe=>by rw[<-e,bf]at hN;cases hN) (λe=>by rw[<-e,L]at hN;cases hN) aa (st _ _ (U _ _ bf)) (st _ _ (U _ _ L)) ?_ dV d0 a4 ?_ (bp.up (O.trans (U.trans st))) (a7.up (U.trans st)) ⋯ (λp hp=>?_) (by rw[<-G,Z5];exact%[ai.2|ai.1])
    .rw[st _ _ eh,ht]
    .rw[a5,Yu,Yz];refine X4 (λ{x y} hx hy c2 he=>?_) (nodup_iff_pairwise_ne.mp (nodup_range (n:=(1+c0%3).toNat)));rw[mem_range]at hx hy;have:=Ee ⋯ ⋯ ⋯ ⋯ he
     lia
    .have:p.2.name∈ds.map λp=>p.2.name:=Xc %[p,hp|rfl]
     rw[a5]at this;have%[k,_|e]:=Xb this;exact%[_|e.symm]
noncomputable def NmD(a:ZB)(f:Str->Str):List (Key×V):=a.map λz=>(Sum.inr z,V.str (f z))
theorem oM:∀{a:ZB},z∈a->bG (NmD a f) (Sum.inr z)=some (.str (f z))
 |[],h=>(nomatch h)
 | x::a,h=>by
   by_cases e:x=z
   .subst e;exact fh rfl
   .rw[show NmD _ f=(Sum.inr x,V.str _)::NmD a f from rfl,dq (λq=>e (Sum.inr.inj q))];exact oM (by rcases mem_cons.mp h with q|q;exact(e q.symm).elim;exact q)
theorem Ca:((NmD b f).any λa=>decide (a.1=(Sum.inr z:Key)))=true↔z∈b:=by
 rw[any_eq_true]
 constructor
 .rintro⟨a,c,d⟩;have%[x,e|rfl]:=Xb c
  simp_all
 .intro h;exact%[_,Xc %[z,h|rfl]|Ze rfl]
theorem Cb(h:z∈a):cQ (NmD a f) (Sum.inr z) (.str v)=NmD a (λx=>if x=z then v else f x):=by
 unfold cQ;rw[if_pos (Ca.mpr h)];unfold NmD;rw[Yl];refine Yj λx _=>?_
 show(if(Sum.inr x)=Sum.inr z then((Sum.inr x),V.str v)else(Sum.inr x,V.str _))=(Sum.inr x,V.str (if x=z then v else f x))
 by_cases e:x=z
 .rw[if_pos (congrArg _ e),if_pos e]
 .rw[if_neg (λq=>e (Sum.inr.inj q)),if_neg e]
theorem GG(h:z∉a):cQ (NmD a id) (Sum.inr z) (.str z)=NmD (a++[z]) id:=by
 unfold cQ;rw[if_neg (λq=>h (Ca.mp q))];unfold NmD;rw[Zc];rfl
noncomputable def xO(a:ZB)(z:Str):Nat:=gQ (a.map λu=>[u]) [z]
theorem uV(b:x∈a)(h:bd x y=true):xO a x<xO a y:=by
 have:=km (ks:=a.map λu=>[u]) (y:=[y]) (Xc %[x,b|rfl]);rw[nW,h]at this;exact Zn this.symm
def be(qs:ZN)(a b:Str):Prop:=∃q∈qs,q.2=[.str "same",.str a,.str b]
theorem ju{S R:Str->Str->Prop}(F:bI c f r S)(h:∀a b,S a b↔R a b):bI c f r R:=by
 rw[funext λa=>funext λb=>(propext (h a b)).symm];exact F
inductive Cc (vs:ZM) (H:Hp) (Q:VK) (E0:XK):Prop
 | mk (d z ls f r S):vs=[.ref d,.str z]->H d=some (.dK (NmD ls f))->bI ls f r S->z∈ls->Q (.str (r z)) H->Cc vs H Q E0
inductive xP (vs:ZM) (H:Hp) (Q:VK) (E0:XK):Prop
 | mk (d a b ls f r S):vs=[.ref d,.str a,.str b]->H d=some (.dK (NmD ls f))->bI ls f r S->a∈ls->b∈ls->ls.length<=5000->(∀f' r',bI ls f' r' (λx y=>S x y\/(x=a/\y=b))->Q .non (upd H d (.dK (NmD ls f'))))->xP vs H Q E0
theorem fM(T:Txt K mg):↥1 "least_pointed_to" ["names","layer"] Cc:=by
 refine T.aC.cal eL (λH vs Q E h=>?_)
 .have%[d,z,e,p,r,S,rfl,q,F,t|j]:=h;refine%[rfl|λf o A outer s i=>?_];refine%[_,%["JC<Luj011DH1j01DG1",eL.nd|i]|ap λv u _=>⟨λm l g=>∃y,l=[some _,-y]/\g=H/\y∈e/\r y=r z/\m=xO e y,%[_,z,rfl,rfl,t,rfl|rfl],?_⟩]
  intro m l g %[y,rfl,rfl,a,b|rfl];lk;have g1:=by
   have:=cD.k (k:=Sum.inr y) q;rw[oM a]at this;exact this
  refine%[_,g1,rfl|bj (λh=>?_) λh=>?_]
  .have h:=by simpa using h
   refine%[λc n=>c=[some _,some _]/\n=g,?_,_,g1,rfl|rfl];intro c n %[rfl|rfl];exact%[_,uV (F.fin y a) (F.dec y a h),p y,rfl,rfl,F.fin y a,(F.rf y a).trans b|rfl]
  .refine u _ _ ?_;rw[<-b,F.fix y a (by simpa using h)]at j;exact j
theorem mJ(T:Txt K mg):↥2 "join_deposits" ["names","one","other"] xP:=by
 refine T.aB.cal dO (λH vs Q E h=>?_)
 .have%[d,a,b,c,p,r,S,rfl,g,F,i,j,n|o]:=h;refine%[rfl|λf m A outer s e=>?_];refine%[_,%["JCH3F~$A0A1BCH4F~$A0A2BDw~S]dA3A4B0~n]eA3A4B",dO.nd|e]|?_]
  show bc _ _ _ [!d,-a,-b,none,none] H;refine ap λv q _=>?_
  lk;refine%[d,a,c,p,r,S,rfl,g,F,i|q _ _ (ap λy t _=>?_)];lk;refine%[d,b,c,p,r,S,rfl,g,F,j|t _ _ (aC λz u _=>?_)];lk;have J:=F.join i j rfl rfl;have l:(if bd (r a) (r b)=true then r b else r a)∈c:=by
   split
   .exact F.rin b j
   .exact F.rin a i
  generalize (if bd (r a) (r b)=true then r b else r a)=M at J l
  refine%[_,iQ.k (k:=Sum.inr M) g (by unfold NmD;rw[Z5,PySem.sizeLine_eq];lia)|u _ _ ?_];rw[Cb l];exact o _ _ J
theorem wJ{qs:ZN}{q:Addr×ZM}(c:qs[i]? =some q)(a b:Str):be (qs.take (i+1)) a b↔be (qs.take i) a b\/q.2=[.str "same",.str a,.str b]:=by
 unfold be;rw[X0,c]
 simp_all
theorem iE{c:ZB}(d:c.Pairwise (λa b=>bd b a=false)){i:Nat}{z w:Str}(f:c[i]? =some z)(hw:w∈c)(h:bd w z=true):w∈c.take i:=by
 rw[<-X1 i c]at hw;rcases X9 hw with e|e
 .exact e
 .have%[hi|g]:=X8 f;have%[j,l|rfl]:=getElem_of_mem e;rw[List.getElem_drop]at h;rw[Yb]at l;by_cases m:j=0
  .subst m;rw[<-g]at h;simp only[add_zero]at h;rw[fW]at h;cases h
  .have:=List.pairwise_iff_getElem.mp d i (i+j) hi ⋯ ⋯
   grind
inductive uW (mg:ZC) (vs:ZM) (H:Hp) (Q:VK) (E0:XK):Prop
 | mk (g c2 c3 c4 qs ls ts):vs=[.ref g]->GrF mg H g c2 c3 c4 qs ls ts->ls.Nodup->ls.Pairwise (λa b=>bd b a=false)->ls.length<=5000->(∀d H' r,af H H'->H d=none->H' d=some (.dK (NmD ls r))->(∀z∈ls,r z∈ls/\cg (be qs) z (r z))->Q (.ref d) H')->uW mg vs H Q E0
theorem oN{H:Hp}{g b c d:Addr}{qs:List _}{e:ZB}{ts:List _}{m:Str}{R:Prop}(h:GrF mg H g b c d qs e ts)(f:m="layers"\/m="sayings"\/m="ties")(k:R):∃a fs,H g=some (.ins (aH mg "Ground") a fs)/\List.lookup m fs=none/\R:=by
 have%[a,j|i]:=h.at_;exact⟨a,_,i,by rcases f with rfl|rfl|rfl<;> rfl,k⟩
theorem gY(T:Txt K mg):↥3 "names_by_layer" ["ground"] (uW mg):=by
 refine T.aA.cal br (λH vs Q E h=>?_)
 .have%[g,c2,c3,c4,qs,j,ts,rfl,hg,nd,so,an|kk]:=h;refine%[rfl|λf as A outer s J=>?_];have lm:(j.map V.str).length=j.length:=Z5 _;have qm:(qs.map λq=>V.ref q.1).length=qs.length:=Z5 _;refine%[_,%["JCH1yCTS~N~j0K2Dw212CTS~N]f0fMK3MK4MK5gDOLe3ZDYF]gA1A4A5BPCTS~N~j0K2Dwj1j1212DG1",br.nd|J]|?_]
  show bc _ _ _ [!g,none,none,none,none,none] H;refine ap λD1 k1 _=>?_
  lk;intro d hd;refine k1 _ _ (ap λD2 k2 _=>az λL hK=>?_);have s1:=af.upd (o:= .dK []) hd;have Y:upd H d (.dK []) d=some (.dK (NmD (j.take 0) id)):=aa
  generalize upd H d (.dK [])=H1 at s1 Y
  lk;have ab:=hg.up s1;refine oN ab (.inl rfl) %[g,c2,c3,c4,qs,j,ts,rfl,ab|λl1 N=> .inl %[l1,rfl,%[_|SqL.of aa]|hK _ _ ?_]];have s2:=af.upd (o:= .lst (j.map V.str)) N;have ae:upd H1 l1 (.lst (j.map V.str)) l1=_:=aa;have n1:l1≠d:=λe=>by rw[e,Y]at N;cases N
  have Y:=s2 _ _ Y
  generalize upd H1 l1 (.lst (j.map V.str))=H2 at s2 ae Y
  refine bx (xs:=j.map V.str) (λi n l=>(∃p t u v,n=[!g,!d,p,t,u,v])/\af H l/\l l1=some (.lst (j.map V.str))/\l d=some (.dK (NmD (j.take i) id)))
   %[%[_,_,_,_|rfl],s1.trans s2,ae|Y] (λi n l _ h=>SqL.of h.2.2.1) ?_ ?_
  .intro i x n l M %[%[p,t,u,v|rfl],m,I|c];rw[Zk]at M;have%[z,B|rfl]:=map_eq_some_iff.mp M;show m8 _ _ _ _ [!g,!d,-z,t,u,v] l;refine aC λD3 k3 _=>?_
   lk;have zn:z∉j.take i:=λhm=>by
    have h:=nd;rw[<-X1 i j,Yt]at h;exact h.2.2 z hm z (Z7 (i:=0) ((getElem?_drop)▸B)) rfl
   refine%[_,iQ.k (k:=Sum.inr z) c (by unfold NmD;rw[Z5,Yf,PySem.sizeLine_eq];lia)|k3 _ _ %[%[_,_,_,_|rfl],af.set m hd,(ak n1).trans I|?_]];rw[aa,GG zn,X0,B];rfl
  intro n H3 %[%[p,t,u,v|rfl],m,I|c];rw[lm,Zm (Zh _)]at c;refine k2 _ _ (ap λD4 k4 _=>az λL hK=>?_);lk;have ag:=hg.up m;refine oN ag (.inr (.inl rfl)) %[g,c2,c3,c4,qs,j,ts,rfl,ag|λl2 O=> .inl %[l2,rfl,%[_|SqL.of aa]|hK _ _ ?_]];have s4:=af.upd (o:= .lst (qs.map λq=>V.ref q.1)) O;have ai:upd H3 l2 (.lst (qs.map λq=>V.ref q.1)) l2=_:=aa;have n2:l2≠d:=λe=>by rw[e,c]at O;cases O
  have c:=s4 _ _ c;have aj:=m.trans s4
  generalize upd H3 l2 (.lst (qs.map λq=>V.ref q.1))=H4 at s4 ai c aj
  refine bx (xs:=qs.map λq=>V.ref q.1) (λi n l=>(∃p t u v,n=[!g,!d,p,t,u,v])/\af H l/\l l2=some (.lst (qs.map λq=>V.ref q.1))/\∃f r,l d=some (.dK (NmD j f))/\bI j f r (be (qs.take i)))
   %[%[_,_,_,_|rfl],aj,ai,id,id,c|ju (bI.start j) λa b=>%[λh=>h.elim|λ⟨q,hq,_⟩=>(nomatch hq)]] (λi n l _ h=>SqL.of h.2.2.1) ?_ ?_
  .intro i x n l M %[%[p,t,u,v|rfl],m,I,f,r,c|F];rw[Zk]at M;have%[q,hq|rfl]:=map_eq_some_iff.mp M;have%[q1|q2]:=hg.sa q (Z7 hq);have st:=m _ _ q1;have C:=wJ hq;rcases q2 with⟨wd,a,b,e,hw,ha,hb,_⟩|⟨wd,a,y,e,hw,_⟩
   .rw[e]at st C;refine%[_,SqT.of st,rfl,_,_,rfl,_,_,rfl,_,_,rfl,rfl|?_];show j6 _ _ _ _ [!g,!d,p,-wd,-a,-b] l;refine aC λD5 k5 _=>?_
    lk;refine bj (λh=>?_) λh=>?_
    .have h:wd=Str.ofString "same":=by simpa using h
     refine%[d,a,b,j,f,r,_,rfl,c,F,ha,hb,an|λf' r' F'=>k5 _ _ %[%[_,_,_,_|rfl],af.set m hd,(ak n2).trans I,f',r',aa|ju F' λx y=>?_]];rw[C,h];refine or_congr Iff.rfl %[λ⟨e1,e2⟩=>by rw[e1,e2]|λe=>?_];simp only[List.cons.injEq,V.str.injEq,and_true,true_and]at e;exact%[e.1.symm|e.2.symm]
    .have h:wd≠Str.ofString "same":=by simpa using h
     refine k5 _ _ %[%[_,_,_,_|rfl],m,I,f,r,c|ju F λx y=>?_];rw[C];refine%[.inl|λe=>e.resolve_right λe=>h ?_];simp only[List.cons.injEq,V.str.injEq]at e;exact e.1
   .rw[e]at st C;refine%[_,SqT.of st,rfl,_,_,rfl,_,_,rfl,_,_,rfl,rfl|?_];show j6 _ _ _ _ [!g,!d,p,-wd,-a,some (.int y)] l;refine aC λD5 k5 _=>?_
    lk;rw[if_neg (by rcases hw with rfl|rfl<;> decide)];refine k5 _ _ %[%[_,_,_,_|rfl],m,I,f,r,c|ju F λx z=>?_];rw[C];refine%[.inl|λe=>e.resolve_right λe=>?_];simp at e
  intro n H5 %[%[p,t,u,v|rfl],m,I,f,r,c|F];rw[qm,Zm (Zh _)]at F;refine k4 _ _ (ap λD6 k6 _=>az λL hK=>?_);lk;have al:=hg.up m;refine oN al (.inl rfl) %[g,c2,c3,c4,qs,j,ts,rfl,al|λl3 U=> .inl %[l3,rfl,%[_|SqL.of aa]|hK _ _ ?_]];have s6:=af.upd (o:= .lst (j.map V.str)) U;have n3:l3≠d:=λe=>by rw[e,c]at U;cases U
  have c:=s6 _ _ c;refine bx (xs:=j.map V.str) (λi n l=>(∃p t u v,n=[!g,!d,p,t,u,v])/\af H l/\l l3=some (.lst (j.map V.str))/\∃f,l d=some (.dK (NmD j f))/\bI j f r (be qs)/\∀z∈j.take i,f z=r z)
   %[%[_,_,_,_|rfl],(m.trans s6),aa,f,c,F|λz B=>(nomatch B)] (λi n l _ h=>SqL.of h.2.2.1) ?_ ?_
  .intro i x n l M %[%[p,t,u,v|rfl],m,I,f,c,F|G];rw[Zk]at M;have%[z,B|rfl]:=map_eq_some_iff.mp M;have zm:=Z7 B;show m8 _ _ _ _ [!g,!d,-z,t,u,v] l;refine aC λD7 k7 _=>?_
   lk;have get:=λy hy=>by
    have:=cD.k (k:=Sum.inr y) c;rw[oM hy]at this;exact this
   refine%[_,get z zm,_,get _ (F.fin z zm),_,iQ.k (k:=Sum.inr z) c (by unfold NmD;rw[Z5,PySem.sizeLine_eq];lia)|k7 _ _ %[%[_,_,_,_|rfl],af.set m hd,(ak n3).trans I,_,?_,F.short zm|λy hy=>?_]]
   .rw[aa,Cb zm]
   .rw[X0,B]at hy;by_cases e:y=z
    .rw[if_pos e,e];exact F.done zm λw hw h=>G w (iE so B hw h)
    .rw[if_neg e];rcases X9 hy with h|h
     .exact G y h
     .exact(e (Xa h)).elim
  intro n H7 %[%[p,t,u,v|rfl],m,I,f,c,F|G];rw[lm,Zm (Zh _)]at G;refine k6 _ _ ?_;lk;refine kk d H7 r m hd ?_ λz B=>%[F.rin z B|F.least B]
  rw[c];unfold NmD;rw[Yj λz B=>by rw[G z B]]
theorem GH{X:Cx}{K:ZA}{T id:String}(h:X.K=K)(m:PlainAttrs T)(slot:Slot T name id)(i:typeOf (.builtin id)=pure (.type "method_descriptor"))(n:MtQ X id r)
 (b:attributeBase o name X.env (eval o X.env)=eval o X.env) (a:(e::g).any aW=false) (j:Nat.blt (e::g).length 30=true) (c:(d.endLine==f.line)=true) (p:QE X o q) (s:QA X (e::g) t):
 QE X (.Call (.Attribute o name d) (e::g) [] f) (tBM K T r q t):=by
 have l:=a;rw[Zv,Yy]at l;refine⟨AX h m slot i n.h p.h s.h b ?_ c (aw l.1) (du l.2)⟩;rw[rE a];have:decide ((e::g).length+([]:List Keyword).length+(if([]:List Keyword).isEmpty then 0 else 1)<30)=true:=Ze ((Nat.blt_eq.mp j));rw[this];rfl
noncomputable def grp(r:Str->Str)(xs:ZB):List (Str×ZB):=(xs.filter λz=>decide (r z=z)).map λz=>(z,xs.filter λx=>decide (r x=z))
theorem zS(h:∀z∈xs,r z=b z):grp r xs=grp b xs:=by
 unfold grp;rw[List.filter_congr λz a=>by rw[h z a]];refine Yj λz a=>?_
 rw[List.filter_congr λx c=>by rw[h x c]]
theorem Ef(a:r z=z)(b:z∉xs)(c:∀x∈xs,r x∈xs):grp r (xs++[z])=grp r xs++[(z,[z])]:=by
 unfold grp;rw[Zz,Zc];refine congr (congrArg _ (Yj λw hw=>?_)) ?_
 .have:w≠z:=λe=>b (e▸(List.mem_filter.mp hw).1)
  rw[Zz,Y0 (by rw[a];simpa using this.symm),Y2,Zw]
 .rw[Y1 (by rw[a];simp),Y2];show [(z,_)]=_;rw[Zz,Y1 (by rw[a];simp),Y2,List.filter_eq_nil_iff.mpr λx d=>?_]
  .rfl
  .intro e;exact b ((Zn e)▸c x d)
theorem Eg(a:r z≠z):grp r (xs++[z])=(grp r xs).map λp=>if p.1=r z then(p.1,p.2++[z])else p:=by
 unfold grp;rw[Zz,Y0 (by simpa using a),Y2,Zw,Yl];refine Yj λw hw=>?_
 show(w,_)=if w=r z then(w,_)else(w,_)
 rw[Zz];by_cases e:w=r z
 .rw[if_pos e,Y1 (by simpa using e.symm),Y2]
 .rw[if_neg e,Y0 (by simpa using λq=>e q.symm),Y2,Zw]
theorem kP:y∈(grp r xs).map (·.1)↔y∈xs/\r y=y:=by
 unfold grp
 simp_all
theorem lP(h:xs.Nodup):((grp r xs).map (·.1)).Nodup:=by
 unfold grp;rw[Yl,show((λx=>x.1) ∘ λz=>(z,List.filter _ xs))=id from rfl,map_id];exact h.filter _
def xQ(S:Str->Str->Prop)(a:ZB)(ds:List ZB):Prop:=∃r:Str->Str,(∀z∈a,r z∈a/\cg S z (r z))/\ds=(grp r a).map (·.2)
theorem xQ.one{S:Str->Str->Prop}(h:xQ S b ds)(g:xQ S b c):ds=c:=by
 have%[r,d|rfl]:=h;have%[e,g1|rfl]:=g;rw[zS λz a=>(d z a).2.one (g1 z a).2]
noncomputable abbrev Gs(a:Type):=List (Str×Addr×List a)
noncomputable def gD{a:Type}(b:Gs a):List (Key×V):=b.map λg=>(Sum.inr g.1,V.ref g.2.1)
theorem sQ:∀{a:Gs b},y∉a.map (·.1)->bG (gD a) (Sum.inr y)=none
 |[],_=>rfl
 | g::a,h=>by
   rw[Yk,Yp,not_or]at h;rw[show gD _=(Sum.inr g.1,V.ref _)::gD a from rfl,dq (λq=>h.1 (Sum.inr.inj q).symm)];exact sQ h.2
theorem iF:∀{a:Gs d},bG (gD a) (Sum.inr y)=some v->∃g∈a,g.1=y/\v= .ref g.2.1
 |[],h=>(nomatch h)
 | g::a,h=>by
   rw[show gD _=(Sum.inr g.1,V.ref _)::gD a from rfl]at h;by_cases e:g.1=y
   .rw[fh (congrArg Sum.inr e)]at h;exact%[g,Zl,e|(Z9 h).symm]
   .rw[dq (λq=>e (Sum.inr.inj q))]at h;have%[g',b|c]:=iF h;exact%[g',Zj _ b|c]
theorem lQ:∀{a:Gs b},g∈a->bG (gD a) (Sum.inr g.1)≠none
 | x::a,h,c=>by
   rw[show gD _=(Sum.inr x.1,V.ref _)::gD a from rfl]at c;by_cases e:x.1=g.1
   .rw[fh (congrArg Sum.inr e)]at c;cases c
   .rw[dq (λq=>e (Sum.inr.inj q))]at c;rcases mem_cons.mp h with q|q
    .exact e (by rw[q])
    .exact lQ q c
def mU(H:Hp)(a:ZH):Prop:=∀g∈a,H g.1=some (.lst (g.2.map V.str))
theorem mU.up{H a:Hp}{b:List _}(h:mU H b)(s:af H a):mU a b:=λg c=>s _ _ (h g c)
structure jd {α:Type} (f:α->V) (H0 H:Hp) (d:Addr) (gs:Gs α):Prop where
 at_:H d=some (.dK (gD gs))
 la:∀g∈gs,H0 g.2.1=none/\H g.2.1=some (.lst (g.2.2.map f))
 nd:(gs.map (·.2.1)).Nodup
theorem Eh{f:Type}{c:Gs f}(d:(c.map (·.1)).Nodup){g h:Str×Addr×List f}(i:g∈c)(j:h∈c)(e:g.1=h.1):g=h:=by
 induction c with
 | nil=>cases i
 | cons x xs l=>
   rw[Yk,nodup_cons]at d;rcases mem_cons.mp i with a|a<;> rcases mem_cons.mp j with b|b
   .rw[a,b]
   .exact(d.1 (by rw[<-a,e];exact Xc %[_,b|rfl])).elim
   .exact(d.1 (by rw[<-b,<-e];exact Xc %[_,a|rfl])).elim
   .exact l d.2 a b
theorem Cd{f:Type}{c:Gs f}(d:(c.map (·.2.1)).Nodup){g h:Str×Addr×List f}(i:g∈c)(j:h∈c)(e:g.2.1=h.2.1):g=h:=by
 induction c with
 | nil=>cases i
 | cons x xs l=>
   rw[Yk,nodup_cons]at d;rcases mem_cons.mp i with a|a<;> rcases mem_cons.mp j with b|b
   .rw[a,b]
   .exact(d.1 (by rw[<-a,e];exact Xc %[_,b|rfl])).elim
   .exact(d.1 (by rw[<-b,<-e];exact Xc %[_,a|rfl])).elim
   .exact l d.2 a b
noncomputable def pN{a:Type}(y:Str)(z:a)(b:Gs a):Gs a:=b.map λg=>if g.1=y then(g.1,g.2.1,g.2.2++[z])else g
theorem GI(y:Str)(z:b)(a:Gs b):gD (pN y z a)=gD a:=by
 unfold pN gD;rw[Yl];refine Yj λg _=>?_
 show(Sum.inr (if g.1=y then(g.1,g.2.1,g.2.2++[z])else g).1,V.ref (if g.1=y then(g.1,g.2.1,g.2.2++[z])else g).2.1)=_
 split<;> rfl
theorem GJ(y:Str)(z:b)(a:Gs b):(pN y z a).map (·.2.1)=a.map (·.2.1):=by
 unfold pN;rw[Yl];refine Yj λg _=>?_
 show(if g.1=y then(g.1,g.2.1,g.2.2++[z])else g).2.1=_
 split<;> rfl
theorem GK(y:Str)(z:b)(a:Gs b):(pN y z a).map (λg=>(g.1,g.2.2))=(a.map λg=>(g.1,g.2.2)).map λp=>if p.1=y then(p.1,p.2++[z])else p:=by
 unfold pN;rw[Yl,Yl];refine Yj λg _=>?_
 show((if g.1=y then(g.1,g.2.1,g.2.2++[z])else g).1,(if g.1=y then(g.1,g.2.1,g.2.2++[z])else g).2.2)=if g.1=y then(g.1,g.2.2++[z])else(g.1,g.2.2)
 split<;> rfl
theorem jd.up{a:Type}{f:a->V}{b H c:Hp}{d:Addr}{e:Gs a}(h:jd f b H d e)(s:af H c):jd f b c d e:=%[s _ _ h.at_,λg i=>%[(h.la g i).1|s _ _ (h.la g i).2]|h.nd]
theorem jd.add{a:Type}{f:a->V}{l H:Hp}{d:Addr}{b:Gs a}(h:jd f l H d b)(m:(b.map (·.1)).Nodup){g:Str×Addr×List a}(c:g∈b)(z:a):jd f l (upd H g.2.1 (.lst (g.2.2.map f++[f z]))) d (pN g.1 z b):=by
 refine%[?_,λg' j=>?_|by rw[GJ];exact h.nd]
 .rw[GI,ak (λe=>by have:=(h.la g c).2;rw[<-e,h.at_]at this;cases this)];exact h.at_
 .have%[n,i|rfl]:=Xb j;by_cases e:n.1=g.1
  .rw[if_pos e];obtain rfl:=Eh m i c e;refine%[(h.la _ c).1|?_];rw[aa,Zc];rfl
  .rw[if_neg e];refine%[(h.la _ i).1|?_];rw[ak (λq=>e (by rw[Cd h.nd i c q]))];exact(h.la _ i).2
theorem jd.new{l:Gs n}(h:jd f m H d l)(s:af m H)(j:H e=none)(y:Str)(z:n)(o:y∉l.map (·.1)):jd f m (upd (upd (upd H e (.lst [])) d (.dK (cQ (gD l) (Sum.inr y) (.ref e)))) e (.lst [f z])) d (l++[(y,e,[z])]):=by
 refine%[?_,λg i=>?_|?_]
 .rw[ak (λq=>by rw[<-q,h.at_]at j;cases j),aa,fi _ (sQ o)];unfold gD;rw[Zc];rfl
 .rcases X9 i with i|i
  .refine%[(h.la g i).1|?_];have q:=(h.la g i).2;rw[ak (λc=>by rw[c,j]at q;cases q),ak (λc=>by rw[c,h.at_]at q;cases q),ak (λc=>by rw[c,j]at q;cases q)];exact q
  .rw[Xa i];exact%[s.free j|aa]
 .rw[Zc,Yt];refine%[h.nd,by simp|λa p b r c=>?_];have%[g,i|rfl]:=Xb p;have q:=(h.la g i).2
  simp_all
inductive xR (mg:ZC) (vs:ZM) (H:Hp) (Q:VK) (E0:XK):Prop
 | mk (g c2 c3 c4 qs ls ts):vs=[.ref g]->GrF mg H g c2 c3 c4 qs ls ts->ls.Nodup->ls.Pairwise (λa b=>bd b a=false)->ls.length<=5000->(∀l H' ss,af H H'->H l=none->H' l=some (.lst (ss.map λt=>V.ref t.1))->mU H' ss->(∀s∈ss,H s.1=none)->xQ (be qs) ls (ss.map (·.2))->ss.length<=5000->Q (.ref l) H')->xR mg vs H Q E0
inductive GL (mg:ZC) (vs:ZM) (H:Hp) (Q:VK) (E0:XK):Prop
 | mk (g c2 c3 c4 qs ls ts z):vs=[.ref g,.str z]->GrF mg H g c2 c3 c4 qs ls ts->ls.Nodup->ls.Pairwise (λa b=>bd b a=false)->ls.length<=5000->z∈ls->(∀H' m,af H H'->cg (be qs) z m->Q (.str m) H')->GL mg vs H Q E0
theorem wK(T:Txt K mg):↥4 "deposits" ["ground"] (xR mg):=by
 refine T.aE.cal fX (λH vs Q E h=>?_)
 .have%[g,c2,c3,c4,qs,n,ts,rfl,hg,nd,so,al|kk]:=h;refine%[rfl|λf a6 A outer s C=>?_];have lm:(n.map V.str).length=n.length:=Z5 _;refine%[_,%["JCH1F~%A0BCH2yCTS~N~j0K3DY~&k~'~(2Aj13AQBBA3BDG']hA]i]j2B",fX.nd|C]|?_]
  show bc _ _ _ [!g,none,none,none] H;refine ap λD1 k1 _=>?_
  lk;refine%[g,c2,c3,c4,qs,n,ts,rfl,hg,nd,so,al|λd H1 r s1 fd I C=>k1 _ _ (ap λD2 k2 _=>?_)];lk;intro e fe;refine k2 _ _ (ap λD3 k3 _=>az λa5 hK=>?_);have an:d≠e:=λc=>by rw[c,fe]at I;cases I
  have s2:=af.upd (o:= .dK []) fe;have ge:upd H1 e (.dK []) e=some (.dK (gD ([]:Gs Str))):=aa;have I:=s2 _ _ I;have fe:=s1.free fe;have U:=s1.trans s2
  generalize upd H1 e (.dK [])=H2 at s2 ge I U
  lk;have ab:=hg.up U;refine oN ab (.inl rfl) %[g,c2,c3,c4,qs,n,ts,rfl,ab|λl1 as=> .inl %[l1,rfl,%[_|SqL.of aa]|hK _ _ ?_]];have s3:=af.upd (o:= .lst (n.map V.str)) as;have J:upd H2 l1 (.lst (n.map V.str)) l1=_:=aa;have I:=s3 _ _ I;have ge:=s3 _ _ ge;have ae:=U.trans s3
  generalize upd H2 l1 (.lst (n.map V.str))=H3 at s3 J I ge ae
  have r2:∀z∈n,r (r z)=r z:=λz L=>by
   have h:=(C z L)
   have h2:=(C _ h.1).2;exact h2.one %[.refl _|λy c=>h.2.2 y (h.2.1.trans c)]
  have ag:∀z∈n,r z≠z->bd (r z) z=true:=λz L h=>gP ((C z L).2.2 z (.refl _)) h.symm
  obtain⟨M,a0,a1,a2,Y,s0⟩:∃M:Hp,M e=none/\M d=some (.dK (NmD n r))/\M l1=some (.lst (n.map V.str))/\af H M/\af M H3:=by
   refine%[λa=>if a=e then none else H3 a,if_pos rfl,?_,?_,λa o h=>?_|λa o h=>?_]
   .exact(if_neg (λc=>an c)).trans I
   .exact(if_neg (λc=>by rw[c,ge]at J;cases J)).trans J
   .exact(if_neg (λc=>by rw[c,fe]at h;cases h)).trans (ae _ _ h)
   .have h:(if a=e then none else H3 a)=some o:=h
    split at h
    .cases h
    .exact h
  refine bx (xs:=n.map V.str) (λi σ H'=>(∃o3,σ=[!g,!d,!e,o3])/\af M H'/\∃u,jd V.str M H' e u/\u.map (λg=>(g.1,g.2.2))=grp r (n.take i))
   %[%[_|rfl],s0,[],%[ge,λg hg=>(nomatch hg)|Yv]|rfl] (λi σ H' _ h=>SqL.of (h.2.1 _ _ a2)) ?_ ?_
  .intro i x σ H' hx %[%[o3|rfl],N,u,b|t];rw[Zk]at hx;have%[z,L|rfl]:=map_eq_some_iff.mp hx;have zm:=Z7 L;have i1:i<n.length:=(X8 L).1;show j3 _ _ [!g,!d,!e,-z] H';refine aC λD4 k4 _=>?_
   lk;have get:=cD.k (k:=Sum.inr z) (N _ _ a1);rw[oM zm]at get;have gk:u.map (·.1)=(grp r (n.take i)).map (·.1):=by rw[<-t,Yl];rfl
   have ai:(u.map (·.1)).Nodup:=by rw[gk];exact lP (nd.sublist (List.take_sublist _ _))
   have gl:u.length<=n.length:=by
    have:=STab.nodup_sub ai (m:=n) λy hy=>by rw[gk,kP]at hy;exact Yq hy.1
    rw[Z5]at this;exact this
   have zn:z∉n.take i:=λhm=>by
    have h:=nd;rw[<-X1 i n,Yt]at h;exact h.2.2 z hm z (Z7 (i:=0) (by rw[getElem?_drop];exact L)) rfl
   have tk:n.take (i+1)=n.take i++[z]:=by rw[X0,L];rfl
   refine%[.inr (.inr (.inl (.inl %[_|b.at_]))),_,get,#[0]|λp O=>%[Sum.inr (r z),rfl,gD u,?_,?_,λv hv=>?_|λhv=>?_]]
   .rw[ak (λc=>by rw[<-c,b.at_]at O;cases O)];exact b.at_
   .unfold gD;rw[Z5];exact aB ⋯
   .have%[q,B,e1|rfl]:=iF hv;have a3:q.1∈u.map (·.1):=Xc %[q,B|rfl];have aj:=a3;rw[gk,kP,e1]at aj;have rn:r z≠z:=λc=>zn (by exact c▸aj.1)
    have sp:=af.upd (o:= .lst []) O;have hl:=sp _ _ (b.la q B).2;have G:=(b.up sp).add ai B z;have ml:q.2.2.length<=n.length:=by
     have:(q.1,q.2.2)∈grp r (n.take i):=t▸Xc %[q,B|rfl];have%[y,hy|c]:=Xb this;exact((Prod.mk.inj c).2)▸Ya (Yc _ _) (by rw[Yf];lia)
    refine%[.inl %[_|SqL.of hl],_,rfl,_,hl,by rw[Z5];exact aB ⋯|k4 _ _ %[%[_|rfl],af.set (N.trans sp) (b.la q B).1,_,G|?_]];rw[GK,t,tk,Eg rn,e1]
   .have nk:r z∉u.map (·.1):=λh=>by
     have%[q,B|c]:=Xb h;have:=lQ B;rw[c,hv]at this;exact this rfl
    have rz:r z=z:=Decidable.byContradiction λc=>nk (by rw[gk,kP];exact%[iE so L (C z zm).1 (ag z zm c)|r2 z zm])
    have de:e≠p:=λq=>by rw[<-q,b.at_]at O;cases O
    rw[rz]at hv nk ⊢;have gp:upd (upd H' p (.lst [])) e (.dK (cQ (gD u) (Sum.inr z) (.ref p))) p=some (.lst []):=by rw[ak de.symm,aa]
    refine%[.inl %[_|SqL.of gp],[],gp,(show 0<sizeLine by decide)|k4 _ _ %[%[_|rfl],af.set (af.set (N.trans (af.upd O)) a0) (N.free O),_,b.new N O z z nk|?_]];rw[Zc,t,tk,Ef rz zn λx hx=>?_]
    .rfl
    .have%[j|hj]:=List.mem_iff_getElem?.mp hx;have xm:=Yq hx;by_cases c:r x=x
     .rw[c];exact hx
     .have ji:j<i:=by have:=(X8 hj).1;rw[Yf]at this;lia
      rw[Y5 ji]at hj;exact List.take_subset_take_left _ (Y8 ji) (iE so hj (C x xm).1 (ag x xm c))
  intro σ H' %[%[o3|rfl],N,u,b|t];rw[lm,Zm (Zh _)]at t;refine k3 _ _ ?_;lk;have gk:u.map (·.1)=(grp r n).map (·.1):=by rw[<-t,Yl];rfl
  have gl:u.length<=n.length:=by
   have:=STab.nodup_sub (l:=u.map (·.1)) (gk▸lP nd) (m:=n) λy hy=>by rw[gk,kP]at hy;exact hy.1
   rw[Z5]at this;exact this
  refine%[.inr (.inr (.inl (.inl %[_|b.at_]))),%[_|b.at_]|λv fv=>%[e,aa,_,af.upd fv _ _ b.at_|λl fl=>?_]];have sv:=af.upd (o:=ur v e) fv;have sl:=af.upd (o:= .lst ((gD u).map (·.2))) fl;have a4:=N.trans (sv.trans sl);refine kk l _ (u.map (·.2)) (Y.trans a4) ((Y.trans (N.trans sv)).free fl) ?_ (λs hs=>?_) (λs hs=>?_) %[r,C|?_] (by rw[Z5];lia)
  .rw[aa];unfold gD;rw[Yl,Yl];rfl
  .have%[q,B|rfl]:=Xb hs;exact sl _ _ (sv _ _ (b.la q B).2)
  .have%[q,B|rfl]:=Xb hs;exact Y.free (b.la q B).1
  .rw[<-t,Yl,Yl];rfl
structure aQ (S:Str->Str->Prop) (ks0 ks:List _):Prop where
 nd:ks.Nodup
 so:ks.Pairwise (λa b=>dF b a=false)
 mem:∀k,k∈ks↔∃a b z a' b',[a,b,z]∈ks0/\cg S a a'/\cg S b b'/\k=[a',b',z]
theorem aQ.one{S:Str->Str->Prop}(h:aQ S c ks)(g:aQ S c d):ks=d:=
 oa dF (λ_ _ a b=>lw a b) h.so g.so h.nd g.nd λx=>(h.mem x).trans (g.mem x).symm
noncomputable def wL(r:Str->Str):ZB->ZB
 |[a,b,z]=>[r a,r b,z]
 | k=>k
theorem wM{S:Str->Str->Prop}{c:List _}{l:ZB}{r:Str->Str}(m:∀k∈c,cL l k)(f:∀z∈l,cg S z (r z))(k:ZB):k∈c.map (wL r)↔∃a b z g h,[a,b,z]∈c/\cg S a g/\cg S b h/\k=[g,h,z]:=by
 rw[mem_map]
 constructor
 .rintro⟨t,d,rfl⟩;have%[a,b,z,rfl,i|j]:=m t d;exact%[a,b,z,r a,r b,d,f a i,f b j|rfl]
 .rintro⟨a,b,z,g,h,d,n,o,rfl⟩;have%[x,y,u,e,i|j]:=m _ d;simp only[List.cons.injEq,and_true]at e;have%[rfl,rfl|rfl]:=e;exact%[_,d|by rw[<-(f a i).one n,<-(f b j).one o];rfl]
inductive uX (mg:ZC) (vs:ZM) (H:Hp) (Q:VK) (E0:XK):Prop
 | mk (g c2 c3 c4 qs ls ts):vs=[.ref g]->GrF mg H g c2 c3 c4 qs ls ts->ls.Nodup->ls.Pairwise (λa b=>bd b a=false)->ls.length<=5000->ts.length<=62->(∀k∈ts.map (·.2),cL ls k)->(∀l H' ss,af H H'->H l=none->H' l=some (.lst (ss.map λt=>V.ref t.1))->aP H' ss->aQ (be qs) (ts.map (·.2)) (ss.map (·.2))->ss.length<=62->Q (.ref l) H')->uX mg vs H Q E0
theorem kQ(T:Txt K mg):↥4 "links" ["ground"] (uX mg):=by
 refine T.aG.cal uK (λH vs Q E h=>?_)
 .have%[g,c2,c3,c4,qs,ls,ts,rfl,hg,nd,so,ab,a2,h3|kk]:=h;refine%[rfl|λf a1 A outer s v=>?_];refine%[_,%["JC!1bcF~%A0BDG|~wA~J~xAnd?1S~N]k0fMX0?2MX1?2MX2?2gtlAjN30AjN31A2BBB",uK.nd,(show bD (ah mS) ["ground","names"] _ ["later","earlier","source","names"] [(3,1)]=true from by decide +kernel),(show(["later","earlier","source","names"]:ZB).Nodup from by decide +kernel)|v]|?_]
  show bc _ _ _ [!g,none] H;refine ap λD1 k1 _=>?_
  lk;refine%[g,c2,c3,c4,qs,ls,ts,rfl,hg,nd,so,ab|λd H1 r s1 fd hd v=>k1 _ _ ?_];lk;refine aF λa0 hK=>?_
  lk;have B:=hg.up s1;refine oN B (.inr (.inr rfl)) %[g,c2,c3,c4,qs,ls,ts,rfl,B|λL ae=> .inl %[L,rfl,%[_|SqL.of aa]|hK _ _ λF hF=>?_]];have s2:=af.upd (o:= .lst (ts.map λt=>V.ref t.1)) ae;have u:upd H1 L (.lst (ts.map λt=>V.ref t.1)) L=_:=aa
  generalize upd H1 L (.lst (ts.map λt=>V.ref t.1))=H2 at s2 u hF
  have ag:=s2 _ _ hd;have ai:=(B.up s2).tu;refine bw (J:=Itl K L) (n:=ts.length) (D:=F) (λj vs σ M=>(∃o1 o2 o3,σ=[o1,o2,o3,!d])/\af H2 M/\M F=some (.lst vs)/\∃ps:ZH,vs=ps.map (λp=>V.ref p.1)/\aP M ps/\ps.map (·.2)=((ts.take j).map (·.2)).map (wL r))
   %[%[none,none,none|rfl],af.upd hF,aa,[],rfl,jc _|rfl] (λj _ _ M G C=>%[_,V.ref ts[j].1,SqL.of (C.2.1 _ _ u)|by simp[G]]) (λ_ _ M C=>%[_,SqL.of (C.2.1 _ _ u)|by simp]) ?_ ?_
  .intro j vs σ H3 G %[%[o1,o2,o3|rfl],I,N,ps,hv,i|c] x H4 %[e2|hx];subst e2;have O:=hx _ (SqL.of (I _ _ u));rw[Zk,Z4 G]at O;obtain rfl:x=V.ref ts[j].1:=(Z9 O).symm;have tj:=Y6 G;have%[a,b,z,e,ha|hb]:=h3 _ (Xc %[_,tj|rfl]);have st:=I _ _ (ai _ tj).2;rw[e]at st;have get:∀y∈ls,cD H4 d (.str y) (some (.str (r y))):=λy hy=>by
    have:=cD.k (k:=Sum.inr y) (I _ _ ag);rw[oM hy]at this;exact this
   refine%[_,SqT.of st,rfl,_,_,rfl,_,_,rfl,_,_,rfl,rfl|?_];show yG [-a,-b,-z,!d] _ _;lk;refine%[_,get a ha,_,get b hb,#[3]|λp hp=>?_];have sp:=af.upd (o:= .tup [V.str (r a),V.str (r b),V.str z]) hp;have gp:upd H4 p (.tup [V.str (r a),V.str (r b),V.str z]) p=_:=aa;have pl:=congrArg List.length c;rw[Z5,Z5,Z5,Yf]at pl;refine CK.mk G (sp _ _ N) (by rw[hv,Z5];exact aB ⋯) %[%[_,_,_|rfl],af.set (I.trans sp) hF,aa,ps++[(p,[r a,r b,z])],by rw[hv,Zc];rfl,aU (jt (aU i λb z e=>sp _ _ e) ∅ gp) (mT (ys:=vs++[V.ref p]) (sp _ _ N))|?_];rw[Zc,c,X0,Z4 G,Zc,Zc];show _++[_]=_++[wL r ts[j].2];rw[e];rfl
  intro vs σ H3 %[_,I,aj,ps,hv,i|c];rw[Zm (Zh _)]at c;have pl:=congrArg List.length c;rw[Z5,Z5,Z5]at pl;have p3:∀q∈ps,q.2.length=3:=λq l=>by
   have:q.2∈ps.map (·.2):=Xc %[q,l|rfl];rw[c]at this;have%[k,hk|e]:=Xb this;have%[a,b,z,rfl|_]:=h3 k hk;rw[<-e];rfl
  refine%[F,rfl,ps,hv▸SqL.of aj,i,%[ps.map (·.2),by rw[Z5];lia|λq l=>Xc %[q,l|rfl]]|λl5 al=>?_];have s5:=af.upd (o:=nV P w l5 (bg ps)) al;have an:(bg ps).length<=62:=by
   have:=STab.nodup_sub (dY ps) (m:=ps.map (·.2)) λk hk=>by
    have%[q,l|rfl]:=Xb hk;exact Xc %[q,bv ps q l|rfl]
   rw[Z5,Z5]at this
   lia
  refine%[bg ps,aa,λq l=>%[(i q (bv ps q l)).1|s5 _ _ (i q (bv ps q l)).2],3,λq l=>p3 q (bv ps q l),by decide,⋯|λl6 ss U pm as=>?_];have s6:=af.upd (o:= .lst (ss.map λq=>V.ref q.1)) U;have Y:=s1.trans (s2.trans (I.trans s5));have pk:(ss.map (·.2)).Perm ((bg ps).map (·.2)):=pm.map _;refine kk l6 _ ss (Y.trans s6) (Y.free U) aa (λq l=>?_) %[pk.nodup_iff.mpr (dY ps),by rw[Yz];exact as|λk=>?_] (pm.length_eq▸an)
  .have:=i q (bv ps q (pm.mem_iff.mp l));exact%[this.1|s6 _ _ (s5 _ _ this.2)]
  .rw[pk.mem_iff,ic,c];exact wM h3 (λz hz=>(v z hz).2) k
theorem Ce{S:Str->Str->Prop}(d:c.Pairwise (λa b=>bd b a=false))(h:∀z∈c,r z∈c/\cg S z (r z))(i:p∈grp r c):p.2[0]? =some p.1:=by
 have%[z,j|rfl]:=Xb i;have%[l|m]:=List.mem_filter.mp j;have f:z∈c.filter (λx=>decide (r x=z)):=List.mem_filter.mpr %[l|m];have d:=d.sublist (List.filter_sublist (p:=λx=>decide (r x=z)));have all:∀x∈c.filter (λx=>decide (r x=z)),bd x z=false:=λx n=>by
  have%[o|s]:=List.mem_filter.mp n;exact(Zn s)▸(h x o).2.2 x (.refl _)
 show(c.filter _)[0]? =some z
 generalize c.filter _=g at all f d
 cases g with
 | nil=>cases f
 | cons y g=>
   rw[List.getElem?_cons_zero];rcases mem_cons.mp f with e|e
   .rw[e]
   .have a:=(List.pairwise_cons.mp d).1 z e;by_cases q:y=z
    .rw[q]
    .have:=gP (all y Zl) q
     grind
structure kR (S:Str->Str->Prop) (ls ns:ZB):Prop where
 nd:ns.Nodup
 mem:∀x,x∈ns↔x∈ls/\cg S x x
inductive qU (mg:ZC) (vs:ZM) (H:Hp) (Q:VK) (E0:XK):Prop
 | mk (g c2 c3 c4 qs ls ts):vs=[.ref g]->GrF mg H g c2 c3 c4 qs ls ts->ls.Nodup->ls.Pairwise (λa b=>bd b a=false)->ls.length<=5000->(∀l H' ns,af H H'->H l=none->H' l=some (.lst (ns.map V.str))->kR (be qs) ls ns->Q (.ref l) H')->qU mg vs H Q E0
theorem ba(T:Txt K mg):↥5 "deposit_names" ["ground"] (qU mg):=by
 refine T.aF.cal lD (λH vs Q E h=>?_)
 .have%[g,C,G,I,qs,b,ts,rfl,hg,nd,L,q|kk]:=h;refine%[rfl|λf ab A outer s d=>?_];refine%[_,%["JDGnd?1SF]lA0BX0?2tR0E",0,(show bD (ah cY) ["ground"] _ ["group"] []=true from by decide +kernel),(show(["group"]:ZB).Nodup from by simp)|d]|?_];show j5 _ _ [!g] H;lk;refine aF λM hK=>?_
  lk;refine%[g,C,G,I,qs,b,ts,rfl,hg,nd,L,q|λN H1 ss O f1 o la _ ⟨r,d,U⟩ ae=> .inl %[N,rfl,%[_|SqL.of o]|hK _ _ λF t=>?_]];have sg:ss.length=(grp r b).length:=by
   have:=congrArg List.length U;rwa[Z5,Z5]at this
  refine bw (J:=Itl K N) (n:=ss.length) (D:=F) (λj vs u p=>(∃Y,u=[Y])/\af H1 p/\p F=some (.lst vs)/\vs=(((grp r b).take j).map (·.1)).map V.str)
   %[%[none|rfl],af.upd t,aa|rfl] (λj _ _ p c a=>%[_,V.ref ss[j].1,SqL.of (a.2.1 _ _ o)|by simp[c]]) (λ_ _ p a=>%[_,SqL.of (a.2.1 _ _ o)|by simp]) ?_ ?_
  .intro j vs u H3 c %[%[Y|rfl],e,v|i] x H4 %[y|hx];subst y;have l:=hx _ (SqL.of (e _ _ o));rw[Zk,Z4 c]at l;obtain rfl:x=V.ref ss[j].1:=(Z9 l).symm;have B:j<(grp r b).length:=by lia
   have y:ss[j].2=(grp r b)[j].2:=by
    have:=congrArg (λz=>z[j]?) U;simpa [c,B]using this
   lk;refine%[_,SqL.of (e _ _ (la _ (Y6 c))),_,(show atI (ss[j].2.map V.str) ((0:Nat):Int)=some _ from cA (by rw[Zk,y,(Ce L d (Y6 B))];rfl))|?_];refine CK.mk c v (by rw[i,Z5,Z5,Yf];exact aB ⋯) %[%[_|rfl],af.set e t,aa|?_];rw[i,X0,Z4 B,Zc,Zc];rfl
  intro vs u H3 %[_,e,m|i];rw[Zm ⋯]at i;rw[i]at m;refine kk F H3 _ (O.trans e) (O.free t) m %[lP nd|λx=>?_];rw[kP];refine%[λh=>%[h.1|by have:=(d x h.1).2;rwa[h.2]at this]|λh=>%[h.1|(d x h.1).2.one h.2]]
def GrB(H:Hp)(d:Addr)(ss:ZH)(i:Nat):Prop:=∃a,H d=some (.dK a)/\∀n,(∃l,bG a (Sum.inr n)=some (.ref l)/\H l=some (.lst ((ss.filter λt=>decide (t.2[i]? =some n)).map λt=>V.ref t.1)))\/(bG a (Sum.inr n)=none/\∀t∈ss,t.2[i]? ≠some n)
theorem GrB.up(h:GrB H d ss i)(s:af H e):GrB e d ss i:=by
 have%[c,f|g]:=h;exact%[c,s _ _ f|λn=>(g n).imp_left λ⟨l,a,b⟩=>%[l,a|s _ _ b]]
def cI(H:Hp)(a:ZB)(ss:ZH):Prop:=∀t∈ss,H t.1=some (.tup (t.2.map V.str))/\cL a t.2
theorem cI.up(h:cI H b ss)(s:af H c):cI c b ss:=λt a=>%[s _ _ (h t a).1|(h t a).2]
theorem GM(h:cL c k)(hi:i<2):∃n,k[i]? =some n/\n∈c:=by
 have%[a,b,z,rfl,d|e]:=h
 match i,hi with
 | 0,_=>exact%[a,rfl|d]
 | 1,_=>exact%[b,rfl|e]
inductive oO (vs:ZM) (H:Hp) (Q:VK) (E0:XK):Prop
 | mk (l:Addr) (i:Nat) (ns:ZB) (ss:List _):vs=[.ref l,.int i]->i<2->H l=some (.lst (ss.map λt=>V.ref t.1))->cI H ns ss->ss.length<=62->(∀d H',af H H'->H d=none->GrB H' d ss i->Q (.ref d) H')->oO vs H Q E0
inductive Cf (i:Nat) (vs:ZM) (H:Hp) (Q:VK) (E0:XK):Prop
 | mk (l ns ss):vs=[.ref l]->H l=some (.lst (ss.map λt=>V.ref t.1))->cI H ns ss->ss.length<=62->(∀d H',af H H'->H d=none->GrB H' d ss i->Q (.ref d) H')->Cf i vs H Q E0
theorem qV(T:Txt K mg):↥1 "grouped" ["found","side"] oO:=by
 refine T.aK.cal jS (λH vs Q E h=>?_)
 .have%[l,i,ns,ss,rfl,hi,U,Y,aj|kk]:=h;refine%[rfl|λf ai A outer s hr=>?_];have ab:(ss.map λt=>V.ref t.1).length=ss.length:=Z5 _;refine%[_,%["JCH2yCTS0K3DY~&k~'~(2AU31AQBBA3BDG2"|jS.nd]|?_]
  show bc _ _ _ [!l,some (.int i),none,none] H;refine ap λD1 k1 _=>?_
  lk;intro e fe;refine k1 _ _ (ap λD2 k2 _=>az λag hK=>?_);lk;have se:=af.upd (o:= .dK []) fe;refine .inl %[%[_|SqL.of (se _ _ U)]|hK _ _ ?_];refine bx (xs:=ss.map λt=>V.ref t.1) (λj σ u=>(∃o3,σ=[!l,some (.int i),!e,o3])/\af H u/\∃m,jd (λt:Addr×ZB=>V.ref t.1) H u e m/\(m.map (·.1)).Nodup/\(∀g∈m,g.2.2=(ss.take j).filter λt=>decide (t.2[i]? =some g.1))/\∀n,n∈m.map (·.1)↔∃t∈ss.take j,t.2[i]? =some n)
   %[%[_|rfl],se,[],%[aa,λg B=>(nomatch B)|Yv],Yv,λg B=>(nomatch B)|by simp] (λj σ u _ h=>SqL.of (h.2.1 _ _ U)) ?_ ?_
  .intro j x σ u hx %[%[o3|rfl],G,m,d,gn,I|N];rw[Zk]at hx;have%[t,J|rfl]:=map_eq_some_iff.mp hx;have tm:=Z7 J;have j1:j<ss.length:=(X8 J).1;have%[n,L|_]:=GM (Y t tm).2 hi;have tk:ss.take (j+1)=ss.take j++[t]:=by rw[X0,J];rfl
   show j3 _ _ [!l,some (.int i),!e,some (.ref t.1)] u;refine aC λD4 k4 _=>?_
   lk;have gl:m.length<=ss.length:=by
    have:m.map (·.1) ⊆ ss.filterMap λt=>t.2[i]? :=λy hy=>by
     have%[t,J|e]:=(N y).mp hy;exact mem_filterMap.mpr %[t,Yq J|e]
    have:=STab.nodup_sub gn λx hx=>this hx
    rw[Z5]at this;exact Ya this (List.length_filterMap_le _ _)
   have st:=G _ _ (Y t tm).1;have keys:∀(M:Gs (Addr×ZB)),(∀y,y∈M.map (·.1)↔y∈m.map (·.1)\/y=n)->∀y,y∈M.map (·.1)↔∃t∈ss.take (j+1),t.2[i]? =some y:=λM h y=>by
    rw[h,N,tk]
    constructor
    .rintro(⟨t',h1,h2⟩|rfl)
     .exact%[t',Yn _ h1|h2]
     .exact%[t,Yo _ Zl|L]
    .rintro⟨t',h1,h2⟩;rcases X9 h1 with q|q
     .exact .inl %[t',q|h2]
     .rw[Xa q,L]at h2;exact .inr (Z9 h2).symm
   refine%[.inr (.inr (.inl (.inl %[_|d.at_]))),_,SqT.of st,_,cA (show(t.2.map V.str)[i]? =some (.str n) by rw[Zk,L];rfl),#[0]|λp C=>%[Sum.inr n,rfl,gD m,?_,?_,λv O=>?_|λO=>?_]]
   .rw[ak (λc=>by rw[<-c,d.at_]at C;cases C)];exact d.at_
   .unfold gD;rw[Z5];exact aB ⋯
   .have%[q,r,e1|rfl]:=iF O;have sp:=af.upd (o:= .lst []) C;have U:=sp _ _ (d.la q r).2;have ml:q.2.2.length<=ss.length:=by
     rw[I q r];exact Ya (Yc _ _) (by rw[Yf];lia)
    have ka:(pN q.1 t m).map (·.1)=m.map (·.1):=by
     unfold pN;rw[Yl];refine Yj λg _=>?_
     show(if g.1=q.1 then(g.1,g.2.1,g.2.2++[t])else g).1=_
     split<;> rfl
    refine%[.inl %[_|SqL.of U],_,rfl,_,U,by rw[Z5];exact aB ⋯|k4 _ _ %[%[_|rfl],af.set (G.trans sp) (d.la q r).1,_,((d.up sp).add gn r t),ka▸gn,λg B=>?_|keys _ λy=>?_]]
    .unfold pN at B;have%[g0,h0|rfl]:=Xb B;rw[tk,Zz];by_cases c:g0.1=q.1
     .rw[if_pos c];show g0.2.2++[t]=_++List.filter (λt=>decide (t.2[i]? =some g0.1)) [t];rw[I g0 h0,Y1 (by rw[L,c,e1];simp),Y2]
     .rw[if_neg c,I g0 h0,Y0 (by rw[L,<-e1];simpa using λz=>c z.symm),Y2,Zw]
    .rw[ka];exact%[.inl|λh=>h.elim id λh=>by rw[h,<-e1];exact Xc %[q,r|rfl]]
   .have nk:n∉m.map (·.1):=λh=>by
     have%[q,r|c]:=Xb h;have:=lQ r;rw[c,O]at this;exact this rfl
    have de:e≠p:=λq=>by rw[<-q,d.at_]at C;cases C
    have gp:upd (upd u p (.lst [])) e (.dK (cQ (gD m) (Sum.inr n) (.ref p))) p=some (.lst []):=by rw[ak de.symm,aa]
    refine%[.inl %[_|SqL.of gp],[],gp,(show 0<sizeLine by decide)|k4 _ _ %[%[_|rfl],af.set (af.set (G.trans (af.upd C)) fe) (G.free C),_,d.new G C n t nk,?_,λg B=>?_|keys _ λy=>?_]]
    .rw[Zc,Yt];exact%[gn,by simp|λa ha b hb c=>nk (by rw[<-show b=n from Xa hb,<-c];exact ha)]
    .rw[tk,Zz];rcases X9 B with q|q
     .have c:g.1≠n:=λc=>nk (c▸Xc %[g,q|rfl])
      rw[I g q,Y0 (by rw[L];simpa using λz=>c z.symm),Y2,Zw]
     .rw[Xa q];show [t]=_++List.filter (λt=>decide (t.2[i]? =some n)) [t];rw[Y1 (by rw[L];simp),Y2,List.filter_eq_nil_iff.mpr λt' ae c=>nk ((N n).mpr %[t',ae|Zn c])];rfl
    .rw[Zc,Ym,Yk,map_nil,Yr]
  .intro σ u %[%[o3|rfl],G,m,d,gn,I|N];rw[ab,Zm (Zh _)]at I N;refine k2 _ _ ?_;lk;refine kk e u G fe %[_,d.at_|λn=>?_];cases O:bG (gD m) (Sum.inr n)with
   | none=>
     refine .inr %[rfl|λt J c=>?_];have%[q,r|c]:=Xb ((N n).mpr %[t,J|c]);have:=lQ r;rw[c,O]at this;exact this rfl
   | some v=>
     have%[q,r,e1|rfl]:=iF O;refine .inl %[_,rfl|?_];rw[(d.la q r).2,I q r,e1]
theorem dW(T:Txt K mg):↥2 "links_by_later" ["found"] (Cf 0):=by
 refine T.aI.cal kB (λH vs Q E h=>?_)
 .have%[l,c,ss,rfl,g,a,b|i]:=h;refine%[rfl|λf d A outer s e=>?_];exact%[_,%["JDGF~)A0A}B",0|e],l,0,c,ss,rfl,by simp,g,a,b|i]
theorem jX(T:Txt K mg):↥2 "links_by_earlier" ["found"] (Cf 1):=by
 refine T.aJ.cal jw (λH vs Q E h=>?_)
 .have%[l,c,ss,rfl,g,a,b|i]:=h;refine%[rfl|λf d A outer s e=>?_];exact%[_,%["JDGF~)A0A~EB",0|e],l,1,c,ss,rfl,by simp,g,a,b|i]
structure ReB (ss:ZH) (rs:Gs Str):Prop where
 nd:(rs.map (·.1)).Nodup
 sub:∀r∈rs,r.2∈ss/\r.2.2[1]? =some r.1
theorem ReB.len(h:ReB ss rs):rs.length<=ss.length:=by
 have:=STab.nodup_sub h.nd (m:=ss.filterMap λt=>t.2[1]?) λx a=>by
  have%[r,b|rfl]:=Xb a;exact mem_filterMap.mpr %[r.2|h.sub r b]
 rw[Z5]at this;exact Ya this (List.length_filterMap_le _ _)
theorem ReB.snoc(h:ReB ss rs)(d:(a,[p,y,z])∈ss)(e:y∉rs.map (·.1)):ReB ss (rs++[(y,a,[p,y,z])]):=by
 refine%[?_|λr f=>?_]
 .rw[Zc,Yt];exact%[h.nd,by simp|λa g b i c=>e (by rw[<-show b=y from Xa i,<-c];exact g)]
 .rcases X9 f with q|q
  .exact h.sub r q
  .rw[Xa q];exact%[d|rfl]
def dh(d:Addr)(H a:Hp):Prop:=∀b o,b≠d->H b=some o->a b=some o
theorem dh.trans(h:dh d H c)(g:dh d c a):dh d H a:=λb o n e=>g b o n (h b o n e)
theorem dh.of(h:af H a):dh d H a:=λb o _ e=>h b o e
theorem GrB.x(h:GrB H b ss i)(s:dh d H f)(n:b≠d)(m:H d=some (.dK o)):GrB f b ss i:=by
 have%[e,g|j]:=h;exact%[e,s _ _ n g|λn=>(j n).imp_left λ⟨l,a,b⟩=>%[l,a|s _ _ (λc=>by lia) b]]
theorem cI.x(h:cI H e ss)(s:dh d H f)(g:H d=some (.dK i)):cI f e ss:=λt a=>%[s _ _ (λc=>by have b:=(h t a).1;grind) (h t a).1|(h t a).2]
theorem GrB.get(h:GrB f b ss i)(s:dh d f H)(nb:b≠d)(q:∀xs,f d≠some (.lst xs))(r:H p=none)(n:Str):∃e a,upd H p (.lst []) b=some (.dK e)/\(bG e (Sum.inr n)).getD (.ref p)= .ref a/\upd H p (.lst []) a=some (.lst ((ss.filter λt=>decide (t.2[i]? =some n)).map λt=>V.ref t.1))/\(a=p\/∃o,f a=some o):=by
 have%[e,m|u]:=h;have sp:=af.upd (o:= .lst []) r;rcases u n with⟨l,g,j⟩|⟨g,v⟩
 .exact%[e,l,sp _ _ (s _ _ nb m),by rw[g];rfl,sp _ _ (s _ _ (λc=>q _ (c▸j)) j)|.inr %[_|j]]
 .refine%[e,p,sp _ _ (s _ _ nb m),by rw[g];rfl,?_|.inl rfl];rw[List.filter_eq_nil_iff.mpr λt y c=>v t y (Zn c)];exact aa
inductive xS (vs:ZM) (H:Hp) (Q:VK) (E0:XK):Prop
 | mk (b e d:Addr) (ns F:ZB) (ss:List _) (rs:Gs Str):vs=[.ref b,.ref e,.ref d]->b≠d->GrB H b ss 0->cI H ns ss->ss.length<=62->H e=some (.lst (F.map V.str))->H d=some (.dK (gD rs))->ReB ss rs->(∀g H' new,dh d H H'->H g=none->H' g=some (.lst ((new.map (·.1)).map V.str))->H' d=some (.dK (gD (rs++new)))->ReB ss (rs++new)->(∀r∈new,∃p∈F,r.2.2[0]? =some p)->(∀x∈F,∀y,Ed (ss.map (·.2)) x y->y∈(rs++new).map (·.1))->Q (.ref g) H')->xS vs H Q E0
theorem uY(T:Txt K mg):↥1 "next_edge" ["beneath","edge","reached"] xS:=by
 refine T.aN.cal eP (λH vs Q E h=>?_)
 .have%[b,e,d,ns,F,ss,rs,rfl,aj,hb,al,bl,he,hd,a5|kk]:=h;refine%[rfl|λf bf A outer s hr=>?_];have Fm:(F.map V.str).length=F.length:=Z5 _;have ed:e≠d:=λc=>by rw[c,hd]at he;cases he
  refine%[_,%["JCH3QBCTS1K4DTS~O~P0A4AQBBK5DO;U5~E2Cw52U5~EDYpk3AU5~EBPDG3",eP.nd|hr]|?_]
  show bc _ _ _ [!b,!e,!d,none,none,none] H;refine ap λD1 k1 _=>?_
  lk;refine%[#[0]|λg fg=>k1 _ _ (ap λD2 k2 _=>az λan hK=>?_)];have gd:g≠d:=λc=>by rw[c,hd]at fg;cases fg
  have s1:=af.upd (o:= .lst []) fg;have gg:upd H g (.lst []) g=some (.lst ((([]:Gs Str).map (·.1)).map V.str)):=aa
  generalize upd H g (.lst [])=H1 at s1 gg
  lk;refine .inl %[%[_|SqL.of (s1 _ _ he)]|hK _ _ ?_];refine bx (xs:=F.map V.str) (λi Y H'=>(∃o4 o5,Y=[!b,!e,!d,!g,o4,o5])/\dh d H H'/\∃new:Gs Str,H' g=some (.lst ((new.map (·.1)).map V.str))/\H' d=some (.dK (gD (rs++new)))/\ReB ss (rs++new)/\(∀r∈new,∃p∈F,r.2.2[0]? =some p)/\∀x∈F.take i,∀y,Ed (ss.map (·.2)) x y->y∈(rs++new).map (·.1))
   %[%[_,_|rfl],dh.of s1,[],gg,by rw[Zw];exact s1 _ _ hd,by rw[Zw];exact a5,λr hr=>(nomatch hr)|λx C=>(nomatch C)] (λi Y H' _ h=>SqL.of (h.2.1 _ _ ed he)) ?_ ?_
  .intro i x Y H' C %[%[o4,o5|rfl],sm,new,hg,l,L,ai|m];rw[Zk]at C;have%[n,hn|rfl]:=map_eq_some_iff.mp C;have tk:F.take (i+1)=F.take i++[n]:=by rw[X0,hn];rfl
   show Ak _ _ _ _ [!b,!e,!d,!g,-n,o5] H';refine aC λD3 k3 _=>az λan hK=>?_
   lk;refine%[.inr (.inr (.inl (.inl %[_|sm _ _ aj hb.choose_spec.1]))),#[0]|λp hp=>?_];have%[a6,a,as,a7,M|a8]:=hb.get sm aj (λxs c=>by rw[hd]at c;cases c) hp n;have ag:a≠g:=by
    rcases a8 with rfl|⟨o,ho⟩
    .exact λc=>by rw[c,hg]at hp;cases hp
    .exact λc=>by rw[c,fg]at ho;cases ho
   have ad:a≠d:=λc=>by
    have:=M;rw[c,ak (λc=>by rw[c,hp]at l;cases l),l]at this;cases this
   have sp:=af.upd (o:= .lst []) hp;have hg:=sp _ _ hg;have l:=sp _ _ l;have sm:=sm.trans (dh.of sp)
   generalize upd H' p (.lst [])=H2 at as M sp hg l sm ⊢
   generalize a0:(ss.filter λt=>decide (t.2[0]? =some n))=ts at M
   have tm:(ts.map λt=>V.ref t.1).length=ts.length:=Z5 _;have a9:∀t∈ts,t∈ss/\∃y z,t.2=[n,y,z]:=λt ht=>by
    rw[<-a0]at ht;have%[h1|h2]:=List.mem_filter.mp ht;have%[x,y,z,e|_]:=(al t h1).2;have h2:=Zn h2;rw[e]at h2;exact%[h1,y,z|by rw[e,show x=n from Z9 h2]]
   refine%[Sum.inr n,rfl,a6,as|.inl %[a,a7,%[_|SqL.of M]|hK _ _ ?_]];refine bx (xs:=ts.map λt=>V.ref t.1) (λj Y U=>(∃o5,Y=[!b,!e,!d,!g,-n,o5])/\dh d H U/\U a=some (.lst (ts.map λt=>V.ref t.1))/\∃new:Gs Str,U g=some (.lst ((new.map (·.1)).map V.str))/\U d=some (.dK (gD (rs++new)))/\ReB ss (rs++new)/\(∀r∈new,∃p∈F,r.2.2[0]? =some p)/\(∀x∈F.take i,∀y,Ed (ss.map (·.2)) x y->y∈(rs++new).map (·.1))/\∀t∈ts.take j,∀y,t.2[1]? =some y->y∈(rs++new).map (·.1))
    %[%[_|rfl],sm,M,new,hg,l,L,ai,m|λt ht=>(nomatch ht)] (λj Y U _ h=>SqL.of h.2.2.1) ?_ ?_
   .intro j x Y U C %[%[o5|rfl],N,O,new,ab,I,B,G,u|ae];rw[Zk]at C;have%[t,ht|rfl]:=map_eq_some_iff.mp C;have%[a1,y,z|et]:=a9 t (Z7 ht);have J:=(al.x N hd t a1).1;rw[et]at J;have bb:ts.take (j+1)=ts.take j++[t]:=by rw[X0,ht];rfl
    show j6 _ _ _ _ [!b,!e,!d,!g,-n,some (.ref t.1)] U;refine aC λD4 k4 _=>?_
    lk;refine%[_,SqT.of J,_,rfl,_,cD.k (k:=Sum.inr y) I|?_];have a2:∀(nw:Gs Str),(∀x∈(rs++new).map (·.1),x∈(rs++nw).map (·.1))->y∈(rs++nw).map (·.1)->(∀x∈F.take i,∀y,Ed (ss.map (·.2)) x y->y∈(rs++nw).map (·.1))/\∀t∈ts.take (j+1),∀y,t.2[1]? =some y->y∈(rs++nw).map (·.1):=λnw mono hy=>by
     refine%[λx C y h=>mono y (u x C y h)|λt' a3 y' h=>?_];rw[bb]at a3;rcases X9 a3 with q|q
     .exact mono y' (ae t' q y' h)
     .rw[Xa q,et]at h;rw[<-show y=y' from Z9 h];exact hy
    cases hv:bG (gD (rs++new)) (Sum.inr y)with
    | some v=>
      rw[if_neg ∅];have%[q,hq,e1|_]:=iF hv;have%[n1|n2]:=a2 new (λ_ h=>h) (by rw[<-e1];exact Xc %[q,hq|rfl]);exact k4 _ _ %[%[_|rfl],N,O,new,ab,I,B,G,n1|n2]
    | none=>
      rw[if_pos (by rfl)];have hy:y∉(rs++new).map (·.1):=λh=>by
       have%[q,hq|c]:=Xb h;have:=lQ hq;rw[c,hv]at this;exact this rfl
      have ln:=B.len;have nl:new.length<=62:=by rw[Z8]at ln;lia
      refine%[_,SqT.of J,_,rfl,_,iQ.k (k:=Sum.inr y) I (by unfold gD;rw[Z5];exact aB ⋯)|?_];rw[fi _ hv];have e1:gD (rs++new) ++[(Sum.inr y,V.ref t.1)]=gD (rs++(new++[(y,t.1,[n,y,z])])):=by
       unfold gD;rw[<-Zd,Zc (l₂:=[_])];rfl
      rw[e1];have u1:∀c o,c≠d->U c=some o->upd U d (.dK (gD (rs++(new++[(y,t.1,[n,y,z])])))) c=some o:=λc o h e=>(ak h)▸e
      have a4:=u1 _ _ gd ab;have R:=B.snoc (p:=n) (y:=y) (z:=z) (a:=t.1) (et▸a1) hy;rw[Zd]at R;have%[n1|n2]:=a2 (new++[(y,t.1,[n,y,z])]) (λx C=>by rw[<-Zd,Zc];exact Yn _ C) (by rw[<-Zd,Zc];exact Yo _ Zl);refine%[.inl %[_|SqL.of a4],_,SqT.of (u1 _ _ (λc=>by rw[c,I]at J;cases J) J),_,rfl,_,a4,by rw[Z5,Z5];exact aB ⋯|k4 _ _ %[%[_|rfl],λc o h e=>?_,(ak ag).trans (u1 _ _ ad O),_,?_,(ak gd.symm).trans aa,R,?_,n1|n2]]
      .rw[ak (ar e fg)];exact u1 _ _ h (N _ _ h e)
      .rw[aa,Zc,Zc];rfl
      .intro r hr;rcases X9 hr with q|q
       .exact G r q
       .rw[Xa q];exact%[n,Z7 hn|rfl]
   .intro Y U %[%[o5|rfl],N,O,new,ab,I,B,G,u|ae];rw[tm,Zm (Zh _)]at ae;refine k3 _ _ %[%[_,_|rfl],N,new,ab,I,B,G|λx C y ⟨z,hy⟩=>?_];rw[tk]at C;rcases X9 C with q|q
    .exact u x q y %[z|hy]
    .rw[Xa q]at hy;have%[t,ht|et]:=Xb hy;exact ae t (a0▸List.mem_filter.mpr %[ht|by rw[et];simp]) y (by rw[et];rfl)
  .intro Y H' %[%[o4,o5|rfl],sm,new,hg,l,L,ai|m];rw[Fm,Zm (Zh _)]at m;refine k2 _ _ ?_;lk;exact kk g H' new sm fg hg l L ai m
theorem qW{b:Bool}(h: ¬ (not b)=true):b=true:=by
 cases b
 .exact absurd rfl h
 .rfl
theorem lR{rs:Gs Str}{y:Str}(h:y∈rs.map (·.1)):∃r∈rs,r.1=y/\bG (gD rs) (Sum.inr y)=some (.ref r.2.1):=by
 cases b:bG (gD rs) _ with
 | none=>
   have%[q,a|c]:=Xb h;have:=lQ a;rw[c,b]at this;exact(this rfl).elim
 | some v=>
   have%[q,a,e|rfl]:=iF b;exact%[q,a,e|rfl]
inductive Cg (vs:ZM) (H:Hp) (Q:VK) (E0:XK):Prop
 | mk (d st goal ns F ss rs dd k):vs=[.ref d,.str st,.str goal]->H d=some (.dK (gD rs))->ReB ss rs->Lev (ss.map (·.2)) st rs dd k F->k<=100->cI H ns ss->goal∈rs.map (·.1)->(∀l H' (ws:List _),af H H'->H l=none->H' l=some (.lst (ws.map λt=>V.ref t.1))->(∀t∈ws,t∈ss)->Wal (ws.map (·.2)) st goal->ws.length=dd goal->Q (.ref l) H')->Cg vs H Q E0
theorem Ch(T:Txt K mg):↥1 "way_to" ["reached","start","goal"] Cg:=by
 refine T.aO.cal qK (λH vs Q E h=>?_)
 .have%[d,st,a,ns,F,ss,rs,i,k,rfl,hd,C,l,hk,G,n|kk]:=h;refine%[rfl|λf ab A outer s j=>?_];refine%[_,%["JCH3QAj02BC<LuUR3.E}1DYpk3Aj0UR3.E}BDG]m3",qK.nd|j]|?_]
  show bc _ _ _ [!d,-st,-a,none] H;refine ap λD1 k1 _=>?_
  lk;have%[r,I,e1|hv]:=lR n;have get:=cD.k (k:=Sum.inr a) hd;rw[hv]at get;refine%[_,get,#[1]|λb fw=>k1 _ _ (ap λD2 k2 _=>?_)];have s1:=af.upd (o:= .lst [V.ref r.2.1]) fw;have gw:upd H b (.lst [V.ref r.2.1]) b=some (.lst (([]:ZH).reverse.map (λt=>V.ref t.1) ++[V.ref r.2.1])):=aa
  generalize upd H b (.lst [V.ref r.2.1])=H1 at s1 gw
  refine⟨λm σ u=>σ=[!d,-st,-a,!b]/\af H u/\∃(us:ZH) (r:Str×Addr×ZB),r∈rs/\m=i r.1/\u b=some (.lst (us.reverse.map (λt=>V.ref t.1) ++[.ref r.2.1]))/\(∀t∈us,t∈ss)/\Wal (us.map (·.2)) r.1 a/\us.length+m=i a,%[_,rfl,s1,[],r,I,rfl,gw,λt h=>(nomatch h),e1|by rw[e1];simp],?_⟩;intro m σ H2 %[rfl,v,us,r,j,rfl,hw,y,B|hl];have%[ae,p,z,J|hp]:=l.by_ r j;have e:=(C.sub r j).1;have g:=v _ _ (G _ e).1;rw[J]at g;have gl:=l.le a n;lk;refine%[_,SqL.of hw,_,iN _ _,_,rfl,_,SqT.of g,_,rfl,rfl|bj (λh=>?_) λh=>?_]
  .have h:p≠st:=by simpa using h
   have%[_,L|ag]:=hp.resolve_left λc=>h c.1
   have%[r',M,N|O]:=lR L;have get:=cD.k (k:=Sum.inr p) (v _ _ hd);rw[O]at get;refine⟨λU u=>∃Y,Y<i r.1/\U=[!d,-st,-a,!b]/\af H u/\∃(us:ZH) (r:Str×Addr×ZB),r∈rs/\Y=i r.1/\u b=some _/\(∀t∈us,t∈ss)/\Wal (us.map (·.2)) r.1 a/\us.length+Y=i a,λ_ _ h=>h,.inl %[_|SqL.of hw],_,SqL.of hw,_,iN _ _,_,rfl,_,SqT.of g,_,rfl,_,get,_,hw,by rw[Z8,Z5,List.length_reverse,Ye];exact aB ⋯,_,?_,rfl,af.set v fw,r.2::us,r',M,rfl,?_,?_,?_,?_⟩
   .rw[N];lia
   .rw[aa,List.reverse_cons,Zc];rfl
   .intro t ht;rcases mem_cons.mp ht with q|q
    .exact q▸e
    .exact y t q
   .exact%[r.1,z,J.trans (by rw[N])|B]
   .rw[Zq,N];lia
  .have h:p=st:=by simpa using h
   refine k2 _ _ ?_;lk;refine%[_,hw|λq fq=>kk q _ (r.2::us) (v.trans (af.upd fq)) (v.free fq) ?_ (λt ht=>?_) %[r.1,z,J.trans (by rw[h])|B] (by rw[Zq];lia)]
   .rw[aa,List.reverse_append,<-List.map_reverse,List.reverse_reverse];rfl
   .rcases mem_cons.mp ht with q|q
    .exact q▸e
    .exact y t q
inductive uZ (vs:ZM) (H:Hp) (Q:VK) (E0:XK):Prop
 | mk (b st goal ns ss):vs=[.ref b,.str st,.str goal]->GrB H b ss 0->cI H ns ss->ss.length<=62->(∀H',af H H'-> ¬ Rch (ss.map (·.2)) st goal->Q .non H')->(∀l H' (ws:List _),af H H'->H l=none->H' l=some (.lst (ws.map λt=>V.ref t.1))->(∀t∈ws,t∈ss)->Sho (ss.map (·.2)) st goal (ws.map (·.2))->ws.length<=100->Q (.ref l) H')->uZ vs H Q E0
def HK(H:Hp)(b d:Addr)(st a:Str)(ss:ZH)(m:Nat)(f:L2.St)(c:Hp):Prop:=∃e F rs g k,f=[!b,-st,-a,!d,!e]/\af H c/\c e=some (.lst (F.map V.str))/\c d=some (.dK (gD rs))/\ReB ss rs/\Lev (ss.map (·.2)) st rs g k F/\k<=rs.length+1/\(F≠[]->k<=rs.length)/\m=2*(62-rs.length) +F.length.min 1
theorem oP(T:Txt K mg):↥2 "shortest_way" ["beneath","start","goal"] uZ:=by
 refine T.aM.cal cZ (λH vs Q E h=>?_)
 .have%[b,st,i,ns,ss,rfl,hb,G,ae,kn|ky]:=h;refine%[rfl|λf a0 A outer s C=>?_];refine%[_,%["JCH3yCH4QA1BC<azL~CVWA4BE,;23DH4F]nA0A4A3BCO;23DG(PDGF]oA3A1A2B",cZ.nd|C]|?_]
  show bc _ _ _ [!b,-st,-i,none,none] H;refine ap λD1 k1 _=>?_
  lk;intro d fd;refine k1 _ _ (ap λD2 k2 _=>?_);have ag:b≠d:=λc=>by
   have%[a1,N|_]:=hb;rw[c,fd]at N;cases N
  have s1:=af.upd (o:= .dK []) fd;have B:upd H d (.dK []) d=some (.dK (gD ([]:Gs Str))):=aa
  generalize upd H d (.dK [])=H1 at s1 B
  lk;refine%[#[1]|λe fe=>k2 _ _ (ap λD3 k3 _=>?_)];have s2:=af.upd (o:= .lst [V.str st]) fe;have O:upd H1 e (.lst [V.str st]) e=some (.lst ([st].map V.str)):=aa;have B:=s2 _ _ B;have U:=s1.trans s2
  generalize upd H1 e (.lst [V.str st])=H2 at U O B
  refine%[HK H b d st i ss,%[_,e,[st],[],_,_,rfl,U,O,B,%[Yv|λ_ h=>(nomatch h)],.nil,by simp,λ_=>Zh _|rfl]|?_];intro m σ H3 %[e,F,rs,dd,k,rfl,I,O,B,J,j,hk,ai|rfl];have fm:(F.map V.str).length=F.length:=Z5 _;have get:=cD.k (k:=Sum.inr i) B;have rl:=J.len;have L:i∈rs.map (·.1)↔(bG (gD rs) (Sum.inr i)).isSome=true:=by
   refine%[λh=>?_|λh=>?_]
   .have%[r,_,_|e]:=lR h;rw[e];rfl
   .have%[v|hv]:=isSome_iff_exists.mp h;have%[q,hq,c|_]:=iF hv;exact c▸Xc %[q,hq|rfl]
  lk;have fin:(i∉rs.map (·.1)->F=[])->D3.nx [!b,-st,-i,!d,!e] H3:=λh=>by
   refine k3 _ _ (ap λD4 k4 r4=>?_);lk;refine%[_,get|bj (λq=>?_) λq=>?_]
   .have q:i∉rs.map (·.1):=λc=>by rw[L.mp c]at q;cases q
    refine r4 _ _ (kn H3 I λr=>q ?_);have%[n|hn]:=r.dst;rw[h q]at j;exact j.stop hn
   .have q:i∈rs.map (·.1):=L.mpr (qW q);refine k4 _ _ ?_;lk;refine%[d,st,i,ns,F,ss,rs,dd,k,rfl,B,J,j,⋯,G.up I,q|λl H' ws s' fl hl Y aj wl=>ky l H' ws (I.trans s') (I.free fl) hl Y %[λk hk=>?_,aj,?_|λn hn=>?_] (by rw[wl];have:=j.le _ q;lia)]
    .have%[t,ht|rfl]:=Xb hk;exact Xc %[t,Y t ht|rfl]
    .rw[Z5,wl];exact(j.dst q).1
    .rw[Z5,wl];exact j.min q hn
  refine%[_,.inl %[_,SqL.of O|rfl]|bj (λh=>?_) λh=>fin λ_=>?_]
  .have h:0<F.length:=by
    rw[fm]at h;have:=Zn h
    lia
   refine%[_,get|bj (λq=>⟨λal H'=>∃m',m'<2*(62-rs.length) +F.length.min 1/\HK H b d st i ss m' al H',λ_ _ h=>h,b,e,d,ns,F,ss,rs,rfl,ag,hb.up I,G.up I,ae,O,B,J,λg H4 new sx fg hg an u as M=>?_⟩) λq=>fin λc=>absurd (L.mpr (qW q)) c];have ln:=u.len;rw[Z8]at ln;have ab:F.length.min 1=1:=Nat.min_eq_right h;have kF:=ai λc=>by rw[c]at h;cases h
   refine%[_,?_,g,new.map (·.1),rs++new,_,_,rfl,(λc o ec=>sx c o (λz=>by rw[z,fd]at ec;cases ec) (I _ _ ec)),hg,an,u,j.step u.nd (λr C=>?_) M,?_,λnn=>?_|rfl]
   .rw[ab,Z8,Z5];cases new with
    | nil=>simp
    | cons a r=>
      rw[Zq]at ln ⊢;have:(r.length+1).min 1<=1:=Nat.min_le_right _ _
      lia
   .have%[N|h2]:=u.sub r (Yo _ C);have%[p,hp|h3]:=as r C;have%[x,y,z,e|_]:=(G r.2 N).2;rw[e]at h2 h3;exact%[Xc %[_,N|rfl],p,z,hp|by rw[e,show x=p from Z9 h3,show y=r.1 from Z9 h2]]
   .rw[Z8];lia
   .cases new with
    | nil=>exact absurd rfl nn
    | cons a r=>rw[Z8,Zq];lia
  .cases F with
   | nil=>rfl
   | cons x F=>exact absurd (Ze (by rw[fm,Zq];lia)) h
noncomputable def VD(a:ZB)(g:Str->V):List (Key×V):=a.map λz=>(Sum.inr z,g z)
theorem iG:∀{a:ZB},z∈a->bG (VD a g) (Sum.inr z)=some (g z)
 | x::a,h=>by
   by_cases e:x=z
   .subst e;exact fh rfl
   .rw[show VD _ g=(Sum.inr x,g x)::VD a g from rfl,dq (λq=>e (Sum.inr.inj q))];exact iG ((mem_cons.mp h).resolve_left λq=>e q.symm)
theorem eU:∀{a:ZB},z∉a->bG (VD a g) (Sum.inr z)=none
 |[],_=>rfl
 | x::a,h=>by
   rw[Yp,not_or]at h;rw[show VD _ g=(Sum.inr x,g x)::VD a g from rfl,dq (λq=>h.1 (Sum.inr.inj q).symm)];exact eU h.2
theorem wN(h:z∈a):cQ (VD a g) (Sum.inr z) v=VD a (λx=>if x=z then v else g x):=by
 unfold cQ;rw[if_pos (by rw[iP,iG h];rfl)];unfold VD;rw[Yl];refine Yj λx _=>?_
 show(if(Sum.inr x)=Sum.inr z then((Sum.inr x),v)else(Sum.inr x,g x))=(Sum.inr x,if x=z then v else g x)
 by_cases e:x=z
 .rw[if_pos (congrArg _ e),if_pos e]
 .rw[if_neg (λq=>e (Sum.inr.inj q)),if_neg e]
noncomputable def cnt(ss:ZH)(L:ZB)(n:Str):Nat:=ss.countP λt=>decide (t.2[0]? =some n)&&t.2[1]?.all λy=>decide (y∉L)
theorem Ei(ss:List _)(n:Str):cnt ss [] n=(ss.filter λt=>decide (t.2[0]? =some n)).length:=by
 unfold cnt;rw[<-List.countP_eq_length_filter]
 simp_all
theorem Ci(h:cnt ss L m=0)(e:Ed (ss.map (·.2)) m y):y∈L:=by
 have%[z|a]:=e;have%[t,b|c]:=Xb a;have:=List.countP_eq_zero.mp h t b
 simp_all
theorem u4(b:m∉L):∀ss:ZH,cnt ss L n=cnt ss (L++[m]) n+(ss.filter λt=>decide (t.2[1]? =some m)).countP λt=>decide (t.2[0]? =some n)
 |[]=>rfl
 | t::ss=>by
   have c:=u4 (n:=n) b ss;unfold cnt at c ⊢;rw[countP_cons,countP_cons,c];cases d:t.2[1]? with
   | none=>rw[Y0 ⋯];simp only[Option.all_none];lia
   | some y=>
     by_cases e:y=m
     .subst e;rw[Y1 (by rw[d];simp),countP_cons];by_cases a:t.2[0]? =some n
      .simp[a,b];lia
      .simp[a]
     .rw[Y0 (by rw[d];simpa using e)];by_cases a:t.2[0]? =some n
      .by_cases f:y∈L
       .simp[f]
       .simp[a,f,e];lia
      .simp[a]
structure HL (ss:ZH) (ns L R:ZB):Prop where
 nd:(L++R).Nodup
 mem:∀x,x∈L++R↔x∈ns/\cnt ss L x=0
 ord:∀i x,L[i]? =some x->∀y,Ed (ss.map (·.2)) x y->y∈L.take i
def HM(f:Hp)(l m b a w e ld:Addr)(d:ZB)(ss:ZH)(k:Nat)(g:L2.St)(c:Hp):Prop:=∃h i j L R,g=[!l,!m,!b,!a,!w,h,!e,!ld,i,j]/\af f c/\c w=some (.dK (VD d λn=> .int (cnt ss L n)))/\c e=some (.lst (R.map V.str))/\c ld=some (.lst (L.map V.str))/\HL ss d L R/\k=d.length-L.length
inductive xT (vs:ZM) (H:Hp) (Q:VK) (E0:XK):Prop
 | mk (l m ns ss):vs=[.ref l,.ref m]->H l=some (.lst (ns.map V.str))->ns.Nodup->ns.length<=60->H m=some (.lst (ss.map λt=>V.ref t.1))->cI H ns ss->ss.length<=62->(∀r H' (L:ZB),af H H'->H' r=some (.lst (L.map V.str))->L.Nodup->(∀x∈L,x∈ns)->(∀i x,L[i]? =some x->∀y,Ed (ss.map (·.2)) x y->y∈L.take i)->(∀x∈ns,x∉L->∃y,Ed (ss.map (·.2)) x y/\y∈ns/\y∉L)->Q (.ref r) H')->xT vs H Q E0
theorem je(T:Txt K mg):↥3 "laid_in_turn" ["names","found"] xT:=by
 refine T.aL.cal aZ (λH vs Q E h=>?_)
 .have%[l,m,d,ss,rfl,hl,nn,nl,hm,as,b5|kk]:=h;refine%[rfl|λf da A outer s hr=>?_];have nm:(d.map V.str).length=d.length:=Z5 _;refine%[_,%["JCH2F~kA1BCH3F]pA1BC!4bcyCTS0K5DwVWA~O~P2A5AQBBBN45C~A6cbd?1S0X0?2/LejN10E0CH7QBC<L~CVWA6BECH8~S]qA6BCY]r]s6A8BCYpk7A8BDTS~O~P3A8AQBBK9CwI~GjN4U9}EN4U9}DOLejN4U9}EDYpk6AU9}BPDG7",aZ.nd,(show bD (ah dA) ["names","found","beneath","above","waits","name","ready","laid","least","link"] _ ["name","waits"] [(1,4)]=true from by decide +kernel),(show(["name","waits"]:ZB).Nodup from by decide +kernel)|hr]|?_]
  show bc _ _ _ [!l,!m,none,none,none,none,none,none,none,none] H;refine ap λD1 k1 _=>?_
  lk;refine%[m,d,ss,rfl,hm,as,b5|λb H1 s1 fb hb=>k1 _ _ (ap λD2 k2 _=>?_)];lk;refine%[m,d,ss,rfl,s1 _ _ hm,as.up s1,b5|λa H2 s2 fa ha=>k2 _ _ (ap λD3 k3 _=>?_)];have ag:=s1.trans s2;have hb:=hb.up s2;lk;intro w fw;refine k3 _ _ (ap λD4 k4 _=>az λa9 hK=>?_);have s3:=af.upd (o:= .dK []) fw;have gw:upd H2 w (.dK []) w=some (.dK (VD (d.take 0) λn=> .int (cnt ss [] n))):=aa
  generalize upd H2 w (.dK [])=H3 at s3 gw
  have ct:=ag.trans s3;lk;refine .inl %[%[_|SqL.of (ct _ _ hl)]|hK _ _ ?_];have cx:b≠w:=λc=>by
   have%[ai,h1|_]:=hb;rw[c,fw]at h1;cases h1
  have cy:a≠w:=λc=>by
   have%[ai,h1|_]:=ha;rw[c,fw]at h1;cases h1
  have b6:∀xs,H2 w≠some (.lst xs):=λxs c=>by rw[fw]at c;cases c
  refine bx (xs:=d.map V.str) (λi O u=>(∃o5,O=[!l,!m,!b,!a,!w,o5,none,none,none,none])/\af H2 u/\u w=some (.dK (VD (d.take i) λn=> .int (cnt ss [] n))))
   %[%[_|rfl],s3|gw] (λi O u _ h=>SqL.of (h.2.1 _ _ (ag _ _ hl))) ?_ ?_
  .intro i x O u U %[%[o5|rfl],sm|hw];rw[Zk]at U;have%[n,hn|rfl]:=map_eq_some_iff.mp U;have i1:i<d.length:=(X8 hn).1;show m8 _ _ _ _ [!l,!m,!b,!a,!w,-n,none,none,none,none] u;refine aC λD5 k5 _=>?_
   lk;refine%[.inr (.inr (.inl (.inl %[_|sm _ _ hb.choose_spec.1]))),#[0]|λp hp=>?_];have%[ai,al,cM,a0,Y|b7]:=hb.get (dh.of sm) cx b6 hp n;have sp:=af.upd (o:= .lst []) hp;refine%[Sum.inr n,rfl,ai,cM,_,by rw[a0];exact .inl %[_,SqL.of Y|rfl],_,iQ.k (k:=Sum.inr n) (sp _ _ hw) (by unfold VD;rw[Z5,Yf];exact aB ⋯)|k5 _ _ %[%[_|rfl],af.set (sm.trans sp) fw|?_]];have zn:n∉d.take i:=λhm=>by
    have h:=nn;rw[<-X1 i d,Yt]at h;exact h.2.2 n hm n (Z7 (i:=0) (by rw[getElem?_drop];exact hn)) rfl
   rw[aa,fi _ (eU zn),Z5,<-Ei,X0,hn];unfold VD;rw[Zc];rfl
  .intro O u %[%[o5|rfl],sm|hw];rw[nm,Zm (Zh _)]at hw;refine k4 _ _ (ap λD5 k5 _=>aF λa9 hK=>?_);lk;have a1:=sm _ _ (ag _ _ hl);refine .inl %[%[_|SqL.of a1]|hK _ _ λM aj=>?_];refine bw (J:=Itl K l) (n:=d.length) (D:=M) (λj vs O H3=>(∃o1,O=[o1,!w])/\af u H3/\H3 M=some (.lst vs)/\vs=((d.take j).filter λn=>decide (cnt ss [] n=0)).map V.str)
    %[%[none|rfl],af.upd aj,aa|rfl] (λj _ _ H3 hj bf=>%[_,V.str d[j],SqL.of (bf.2.1 _ _ a1)|by simp[hj]]) (λ_ _ H3 bf=>%[_,SqL.of (bf.2.1 _ _ a1)|by simp]) ?_ ?_
   .intro j vs O H3 hj %[%[o1|rfl],C,b9|hv] x H4 %[e2|U];subst e2;have ca:=U _ (SqL.of (C _ _ a1));rw[Zk,Z4 hj]at ca;obtain rfl:x=V.str d[j]:=(Z9 ca).symm;have get:=cD.k (k:=Sum.inr d[j]) (C _ _ hw);rw[iG (Y6 hj)]at get;lk;refine%[_,get,rfl|bj (λh=>?_) λh=>?_]
    .have h:cnt ss [] d[j]=0:=by simpa using h
     refine CK.mk hj b9 (by rw[hv,Z5];have:=Yc (λn=>decide (cnt ss [] n=0)) (d.take j);rw[Yf]at this;exact aB ⋯) %[%[_|rfl],af.set C aj,aa|?_];rw[hv,X0,Z4 hj,Zz,Zc];show _=_++(List.filter _ [d[j]]).map V.str;rw[Y1 (by simpa using h)];rfl
    .have h:cnt ss [] d[j]≠0:=by simpa using h
     refine CN.mk hj %[%[_|rfl],C,b9|?_];rw[hv,X0,Z4 hj,Zz,Zc];show _=_++(List.filter _ [d[j]]).map V.str;rw[Y0 (by simpa using h)];simp
   intro vs O H3 %[_,C,a2|hv];rw[Zm (Zh _)]at hv;rw[hv]at a2;refine k5 _ _ (ap λD6 k6 _=>?_);have ab:=C _ _ hw;have bl:=sm.trans C;have bm:w≠M:=λc=>by rw[<-c,hw]at aj;cases aj
   have bn:=sm.free aj;lk;refine%[#[0]|λld fld=>k6 _ _ (ap λD7 k7 _=>?_)];have s4:=af.upd (o:= .lst []) fld;have bp:upd H3 ld (.lst []) ld=some (.lst (([]:ZB).map V.str)):=aa;have cd:w≠ld:=λc=>by rw[<-c,ab]at fld;cases fld
   have bt:M≠ld:=λc=>by rw[<-c,a2]at fld;cases fld
   have bU:=s4 _ _ ab;have b0:=s4 _ _ a2;have b1:=bl.trans s4;have fld:=bl.free fld
   generalize upd H3 ld (.lst [])=H4 at s4 bp bU b0 b1
   refine%[HM H2 l m b a w M ld d ss,%[_,o5,none,none,[],_,rfl,b1,bU,b0,bp,%[nn.filter _,λx=>by simp|λi x e=>by simp at e]|rfl]|?_];clear b1 bU b0 bp a2 ab hw hv C bl sm;intro k O H5 %[o5,o8,o9,L,R,rfl,sm,hw,hR,hL,B|rfl];have Rm:(R.map V.str).length=R.length:=Z5 _;have dc:L.length+R.length<=d.length:=by
    rw[<-Z8];exact STab.nodup_sub B.nd λx U=>((B.mem x).mp U).1
   lk;refine%[R.length,.inl %[_,SqL.of hR|Rm.symm]|bj (λh=>?_) λh=>?_]
   .have h:0<R.length:=by have:=Zn h;lia
    refine⟨λc0 u=>∃m',m'<d.length-L.length/\HM H2 l m b a w M ld d ss m' c0 u,λ_ _ h=>h,R,SqL.of hR,h,λx U _=>%[.inl %[_|SqL.of hR],R,hR,U|λR1 pm=>?_]⟩;have u1:=af.set (o:= .lst (R1.map V.str)) sm bn;have b2:upd H5 M (.lst (R1.map V.str)) M=_:=aa;have b3:upd H5 M (.lst (R1.map V.str)) w=_:=(ak bm).trans hw;have a3:upd H5 M (.lst (R1.map V.str)) ld=_:=(ak bt.symm).trans hL
    generalize upd H5 M (.lst (R1.map V.str))=H6 at u1 b2 b3 a3 ⊢
    refine%[.inl %[_|SqL.of a3],_,a3,by rw[Z5];exact aB ⋯|aC λdd c1 _=>az λa9 hK=>?_];have u2:=af.set (o:= .lst (L.map V.str++[.str x])) u1 fld;have a4:upd H6 ld (.lst (L.map V.str++[.str x])) ld=some (.lst ((L++[x]).map V.str)):=by rw[aa,Zc];rfl
    have a5:upd H6 ld (.lst (L.map V.str++[.str x])) w=_:=(ak cd).trans b3;have a6:upd H6 ld (.lst (L.map V.str++[.str x])) M=_:=(ak bt).trans b2
    generalize upd H6 ld (.lst (L.map V.str++[.str x]))=H7 at u2 a4 a5 a6 ⊢
    lk;refine%[.inr (.inr (.inl (.inl %[_|u2 _ _ ha.choose_spec.1]))),#[0]|λp hp=>?_];have%[ai,al,a0,c2,Y|b7]:=ha.get (dh.of u2) cy b6 hp x;have b4:∀{c:Addr} {o:HO},H7 c=some o->H2 c=none->al≠c:=λ{c o} h1 h2=>by
     rcases b7 with rfl|⟨o',ho⟩
     .exact λz=>by rw[z,h1]at hp;cases hp
     .exact λz=>by rw[z,h2]at ho;cases ho
    have c3:=b4 a5 fw;have c4:=b4 a6 bn;have all:=b4 a4 fld;have sp:=af.upd (o:= .lst []) hp;have ab:=sp _ _ a5;have ch:=sp _ _ a6;have cl:=sp _ _ a4;have u3:=u2.trans sp
    generalize upd H7 p (.lst [])=H8 at a0 Y ab ch cl u3 ⊢
    clear u1 u2 a5 a6 a4 b3 b2 a3 hp sp
    generalize co:(ss.filter λt=>decide (t.2[1]? =some x))=ts at Y
    have tm:(ts.map λt=>V.ref t.1).length=ts.length:=Z5 _;have xL:x∉L:=λc=>(nodup_append.mp B.nd).2.2 x c x U rfl
    have pr:(L++[x] ++R1).Perm (L++R):=by
     rw[Zd];exact pm.append_left L
    have f0:∀n,cnt ss L n=cnt ss (L++[x]) n+(ts.drop 0).countP λt=>decide (t.2[0]? =some n):=λn=>by rw[List.drop_zero,<-co];exact u4 xL ss
    have c5:∀t∈ts,∃n z,t.2=[n,x,z]/\n∈d/\H t.1=some (.tup ([n,x,z].map V.str)):=λt ht=>by
     rw[<-co]at ht;have%[h1|h2]:=List.mem_filter.mp ht;have%[h3,n,y,z,e,hn|_]:=as t h1;have h2:=Zn h2;rw[e]at h2 h3;obtain rfl:y=x:=Z9 h2;exact%[n,z,e,hn|h3]
    refine%[Sum.inr x,rfl,ai,a0|.inl %[al,c2,%[_|SqL.of Y]|hK _ _ ?_]];refine bx (xs:=ts.map λt=>V.ref t.1) (λj O u=>(∃o9,O=[!l,!m,!b,!a,!w,o5,!M,!ld,-x,o9])/\af H2 u/\u al=some (.lst (ts.map λt=>V.ref t.1))/\u w=some (.dK (VD d λn=> .int ((cnt ss (L++[x]) n+(ts.drop j).countP λt=>decide (t.2[0]? =some n):Nat):Int)))/\u ld=some (.lst ((L++[x]).map V.str))/\∃Rj:ZB,u M=some (.lst (Rj.map V.str))/\(L++[x] ++Rj).Nodup/\∀y,y∈L++[x] ++Rj↔y∈d/\cnt ss (L++[x]) y+((ts.drop j).countP λt=>decide (t.2[0]? =some y))=0)
     %[%[_|rfl],u3,Y,by rw[ab];exact congrArg (λg=>some (HO.dK (VD d g))) (funext λn=>by rw[f0 n]),cl,R1,ch,pr.nodup_iff.mpr B.nd|λy=>by rw[<-f0,pr.mem_iff];exact B.mem y] (λj O u _ h=>SqL.of h.2.2.1) ?_ ?_
    .intro j v O u hv %[%[o9|rfl],a7,G,N,ae,Rj,I,rn|rz];rw[Zk]at hv;have%[t,ht|rfl]:=map_eq_some_iff.mp hv;have jl:=(X8 ht).1;have%[n,z,et,hn|r]:=c5 t (Z7 ht);have r:=a7 _ _ (ag _ _ r);have dr:ts.drop j=t::ts.drop (j+1):=by rw[List.drop_eq_getElem_cons jl,(X8 ht).2]
     rw[dr]at N rz;have get:=cD.k (k:=Sum.inr n) N;rw[iG hn]at get;have de:=(nodup_append.mp rn)
     have rl:Rj.length<=d.length:=by
      have:=STab.nodup_sub rn λy hy=>((rz y).mp hy).1
      rw[Z8]at this
      lia
     show bc _ _ _ [!l,!m,!b,!a,!w,o5,!M,!ld,-x,some (.ref t.1)] u;refine ap λdk c7 _=>?_
     lk;have one:∀y,(t::ts.drop (j+1)).countP (λt=>decide (t.2[0]? =some y))=((ts.drop (j+1)).countP λt=>decide (t.2[0]? =some y)) +if y=n then 1 else 0:=λy=>by
      rw[countP_cons,et];by_cases c:y=n
      .rw[if_pos c,if_pos (by rw[c];simp)]
      .rw[if_neg c,if_neg (by simpa using λq=>c q.symm)]
     refine%[_,SqT.of r,_,rfl,_,get,_,rfl,_,SqT.of r,_,rfl,_,iQ.k (k:=Sum.inr n) N (by unfold VD;rw[Z5];exact aB ⋯)|c7 _ _ (aC λdn cp _=>?_)];rw[wN hn];have e1:(λy=>if y=n then V.int (((cnt ss (L++[x]) n+(t::ts.drop (j+1)).countP λt=>decide (t.2[0]? =some n):Nat):Int) -1)else V.int ((cnt ss (L++[x]) y+(t::ts.drop (j+1)).countP λt=>decide (t.2[0]? =some y):Nat):Int))=λy=>V.int ((cnt ss (L++[x]) y+(ts.drop (j+1)).countP λt=>decide (t.2[0]? =some y):Nat):Int):=funext λy=>by
      rw[one,one];by_cases c:y=n
      .rw[if_pos c,c,if_pos rfl]
       congr 1
       lia
      .rw[if_neg c,if_neg c];rfl
     rw[e1];have v1:=af.set (o:= .dK (VD d λy=>V.int ((cnt ss (L++[x]) y+(ts.drop (j+1)).countP λt=>decide (t.2[0]? =some y):Nat):Int))) a7 fw;have a8:upd u w (.dK (VD d λy=>V.int ((cnt ss (L++[x]) y+(ts.drop (j+1)).countP λt=>decide (t.2[0]? =some y):Nat):Int))) w=_:=aa;have an:∀c o,c≠w->u c=some o->upd u w (.dK (VD d λy=>V.int ((cnt ss (L++[x]) y+(ts.drop (j+1)).countP λt=>decide (t.2[0]? =some y):Nat):Int))) c=some o:=λc o h e=>(ak h)▸e
     generalize upd u w (.dK (VD d λy=>V.int ((cnt ss (L++[x]) y+(ts.drop (j+1)).countP λt=>decide (t.2[0]? =some y):Nat):Int)))=H9 at v1 a8 an
     have r:=an _ _ (λc=>by rw[c,N]at r;cases r) r;have G:=an _ _ c3 G;have ae:=an _ _ cd.symm ae;have I:=an _ _ bm.symm I;have get:=cD.k (k:=Sum.inr n) a8;rw[iG hn]at get;have cs:n∉L++[x] ++Rj:=λc=>by
      have:=((rz n).mp c).2;rw[one,if_pos rfl]at this
      lia
     have bb:∀y,y≠n->(y∈L++[x] ++Rj↔y∈d/\cnt ss (L++[x]) y+((ts.drop (j+1)).countP λt=>decide (t.2[0]? =some y))=0):=λy c=>by
      rw[rz y,one,if_neg c];rfl
     lk;refine%[_,SqT.of r,_,rfl,_,get,rfl|bj (λh=>?_) λh=>?_]
     .have h:cnt ss (L++[x]) n+((ts.drop (j+1)).countP λt=>decide (t.2[0]? =some n))=0:=by
       have:=V.int.inj (Zn h)
       lia
      have tr:t.1≠M:=λc=>by rw[c,I]at r;cases r
      refine%[.inl %[_|SqL.of I],_,SqT.of r,_,rfl,_,I,by rw[Z5];exact aB ⋯|cp _ _ %[%[_|rfl],af.set v1 bn,(ak c4).trans G,(ak bm).trans a8,(ak bt.symm).trans ae,Rj++[n],by rw[aa,Zc];rfl,?_|λy=>?_]]
      .rw[<-Zd,Yt];exact%[rn,by simp|λa ha b hb c=>cs (by rw[<-Xa hb,<-c];exact ha)]
      .rw[<-Zd,Ym,Yr];by_cases c:y=n
       .rw[c];exact%[λ_=>%[hn|h]|λ_=> .inr rfl]
       .rw[<-bb y c];exact%[λq=>q.resolve_right c|.inl]
     .refine cp _ _ %[%[_|rfl],v1,G,a8,ae,Rj,I,rn|λy=>?_];by_cases c:y=n
      .rw[c];exact%[λq=>absurd q cs|λq=>absurd (Ze (congrArg (λi:Nat=>V.int i) q.2)) h]
      .exact bb y c
    .intro O u %[%[o9|rfl],a7,G,N,ae,Rj,I,rn|rz];rw[tm,List.drop_length]at N rz;refine c1 _ _ %[_,?_,o5,_,o9,L++[x],Rj,rfl,a7,N,I,ae,%[rn,rz|λi y hi y' e=>?_]|rfl]
     .rw[Z8,Ye]
      lia
     .by_cases il:i<L.length
      .rw[Y3 il]at hi;rw[List.take_append_of_le_length (Y8 il)];exact B.ord i y hi y' e
      .have ie:i=L.length:=by
        have:=(X8 hi).1;rw[Z8,Ye]at this
        lia
       subst ie;rw[Y4 (Zh _),sub_self,List.getElem?_cons_zero]at hi;obtain rfl:=Z9 hi;rw[List.take_append_of_le_length (Zh _),List.take_length];exact Ci ((B.mem x).mp (Yo _ U)).2 e
   .refine k7 _ _ ?_;lk;have R0:R=[]:=by
     cases R with
     | nil=>rfl
     | cons x R=>exact absurd (Ze (by rw[Zq];lia)) h
    subst R0;have mem:=B.mem;have nd:=B.nd;rw[Zw]at mem nd;refine kk ld H5 L (ag.trans sm) hL nd (λx U=>((mem x).mp U).1) B.ord λx U nx=>?_
    have:cnt ss L x≠0:=λc=>nx ((mem x).mpr %[U|c])
    have%[t,ht|q]:=List.countP_pos_iff.mp (Nat.pos_of_ne_zero this);have%[a,b,z,e,_|hb]:=(as t ht).2;rw[e]at q;simp only[Zu]at q;exact%[b,%[z|by rw[<-(Z9 (Zn q.1)),<-e];exact Xc %[t,ht|rfl]],hb|Zn q.2]
inductive u5 (vs:ZM) (H:Hp) (Q:VK) (E0:XK):Prop
 | mk (l m ns ss):vs=[.ref l,.ref m]->H l=some (.lst (ns.map V.str))->ns.Nodup->ns.length<=60->H m=some (.lst (ss.map λt=>V.ref t.1))->cI H ns ss->ss.length<=62->(∀r H' (us:ZB),af H H'->H' r=some (.lst (us.map V.str))->(∀x∈ns,Rch (ss.map (·.2)) x x->x∈us)->Q (.ref r) H')->u5 vs H Q E0
structure oQ (H:Hp) (ks:List ZB) (ss:ZH) (r:Addr) (ws:ZH) (x:Str):Prop where
 at_:H r=some (.lst (ws.map λt=>V.ref t.1))
 sub:∀t∈ws,t∈ss
 sho:Sho ks x x (ws.map (·.2))
 len:ws.length<=100
theorem oQ.up(h:oQ H ks ss r ws x)(s:af H a):oQ a ks ss r ws x:=%[s _ _ h.at_,h.sub,h.sho|h.len]
inductive u9 (vs:ZM) (H:Hp) (Q:VK) (E0:XK):Prop
 | mk (l m ns ss):vs=[.ref l,.ref m]->H l=some (.lst (ns.map V.str))->ns.Nodup->ns.length<=60->H m=some (.lst (ss.map λt=>V.ref t.1))->cI H ns ss->ss.length<=62->(∀H',af H H'->(∀x,¬ Rch (ss.map (·.2)) x x)->Q .non H')->(∀r H' ws x,af H H'->oQ H' (ss.map (·.2)) ss r ws x->(∀y n,Dst (ss.map (·.2)) y (n+1) y->ws.length<=n+1)->Q (.ref r) H')->u9 vs H Q E0
theorem sR(T:Txt K mg):↥4 "never_laid" ["names","found"] u5:=by
 refine T.aX.cal pI (λH vs Q E h=>?_)
 .have%[l,m,a,ss,rfl,n,G,nl,I,g,i|J]:=h;refine%[rfl|λf B A outer s C=>?_];refine%[_,%["JDG|~rAI]t~J~eA0B~J~eAF~*A0A1BBB",0|C]|?_];show j5 _ _ [!l,!m] H;lk;refine%[a,SqL.of n,⋯|λp M=>?_];have b:=af.upd (o:=ke w p (aM a)) M;have t:upd H p (ke w p (aM a)) p=_:=aa
  generalize upd H p (ke w p (aM a))=H1 at b t ⊢
  refine%[l,m,a,ss,rfl,b _ _ n,G,nl,b _ _ I,g.up b,i|λr H2 L y N O U j _=>?_];have Ll:=STab.nodup_sub O U;refine%[r,rfl,L,SqL.of N,⋯|λq Y=>?_];have z:=af.upd (o:=ke w q (aM L)) Y;have fl:=STab.nodup_sub (fk a) λx d=>bB.mp d
  refine%[_,(z _ _ (y _ _ t)),_,aa,⋯|λu ms fu e mn=>%[ms,aa,?_|λv us fv pu _=>?_]]
  .have:=STab.nodup_sub mn λx d=>bB.mp ((e x).mp d).1
   lia
  .refine J v _ us (b.trans (y.trans (z.trans ((af.upd fu).trans (af.upd fv))))) aa λx d rx=>?_
   rw[pu.mem_iff,e];exact%[bB.mpr d|λc=>DW j (bB.mp c) rx]
theorem va{d:ZB}{ss:ZH}(h:∀t∈ss,cL d t.2){x y:Str}(r:Rch (ss.map (·.2)) x y):x∈d:=by
 induction r with
 | one e=>
   have%[z|g]:=e;have%[t,i|f]:=Xb g;have%[a,b,c,e,j|_]:=h t i;rw[e]at f;exact((List.cons.inj f).1)▸j
 | more _ _ l=>exact l
theorem eK(T:Txt K mg):↥5 "shortest_ring" ["names","found"] u9:=by
 refine T.aW.cal bM (λH vs Q E h=>?_)
 .have%[l,m,O,ss,rfl,hl,nn,nl,hm,c,u,kn|ky]:=h;refine%[rfl|λf ag A outer s hr=>?_];refine%[_,%["JCH2F~kA1BCH3(CTSF]uA0A1BK4CH5F]vA2A4A4BDOazL~Q5(,aqL~+3(vL^VWA5BVWA3BDH35PDG3",bM.nd|hr]|?_]
  show bc _ _ _ [!l,!m,none,none,none,none] H;refine ap λD1 k1 _=>?_
  lk;refine%[m,O,ss,rfl,hm,c,u|λb H1 U fb hb=>k1 _ _ (ap λD2 k2 _=>?_)];lk;refine k2 _ _ (ap λD3 k3 _=>az λae hK=>?_);lk;refine%[l,m,O,ss,rfl,U _ _ hl,nn,nl,U _ _ hm,c.up U,u|λr H2 us s2 I J=> .inl %[r,rfl,%[_|SqL.of I]|hK _ _ ?_]];have z:=U.trans s2;refine bx (xs:=us.map V.str) (λi Y g=>(∃v o4 o5,Y=[!l,!m,!b,some v,o4,o5]/\((v= .non/\∀x∈us.take i,¬ Rch (ss.map (·.2)) x x)\/∃q ws x,v= .ref q/\oQ g (ss.map (·.2)) ss q ws x/\∀y∈us.take i,∀n,Dst (ss.map (·.2)) y (n+1) y->ws.length<=n+1))/\af H2 g)
   %[%[_,_,_,rfl|.inl %[rfl|λx B=>(nomatch B)]]|λ_ _ e=>e] (λi Y g _ h=>SqL.of (h.2 _ _ I)) ?_ ?_
  .intro i x Y g B %[%[v,o4,o5,rfl|L]|j];rw[Zk]at B;have%[n,hn|rfl]:=map_eq_some_iff.mp B;have tk:us.take (i+1)=us.take i++[n]:=by rw[X0,hn];rfl
   show bc _ _ _ [!l,!m,!b,some v,-n,o5] g;refine ap λD4 k4 _=>?_
   lk;refine%[b,n,n,O,ss,rfl,hb.up (s2.trans j),c.up (z.trans j),u,λH3 C nr=>k4 _ _ (aC λD5 k5 _=>?_)|λq H3 ws C _ G sub rr rl=>k4 _ _ (aC λD5 k5 _=>?_)]
   .lk;rw[if_neg ∅];refine k5 _ _ %[%[v,_,_,rfl|L.imp (λh=>%[h.1|λx B=>?_]) λ⟨q,ws,x,e,G,o⟩=>%[q,ws,x,e,G.up C|λy a m d=>?_]]|j.trans C]
    .rw[tk]at B;rcases X9 B with h'|h'
     .exact h.2 x h'
     .rw[Xa h'];exact nr
    .rw[tk]at a;rcases X9 a with h'|h'
     .exact o y h' m d
     .rw[Xa h']at d;exact(nr d.rch).elim
   .lk;rw[if_pos ∅];have wl:∀zs:ZH,(zs.map λt=>V.ref t.1).length=zs.length:=λzs=>Z5 _
    have p:=λm d=>by
     have:=rr.min m d;rwa[Z5]at this
    have put:(∀y∈us.take i,∀m,Dst (ss.map (·.2)) y (m+1) y->ws.length<=m+1)->D5.nx [!l,!m,!b,!q,-n,!q] H3:=λo=>k5 _ _ ⟨%[_,_,_,rfl|.inr ⟨q,ws,n,rfl,%[G,sub,rr|rl],λy a m d=>by
     rw[tk]at a;rcases X9 a with h'|h'
     .exact o y h' m d
     .rw[Xa h']at d;exact p m d⟩],j.trans C⟩
    rcases L with⟨rfl,ab⟩|⟨q',M,x',rfl,N,o⟩
    .rw[if_pos ∅];exact put λy a m d=>(ab y a d.rch).elim
    .rw[if_neg ∅];refine%[_,.inl %[_,SqL.of G|(wl ws).symm],_,.inl %[_,SqL.of (C _ _ N.at_)|(wl M).symm]|bj (λlt=>put λy a m d=>?_) λlt=>k5 _ _ %[%[_,_,_,rfl|.inr %[q',M,x',rfl,N.up C|λy a m d=>?_]]|j.trans C]]
     .have:=o y a m d;have:=Zn lt
      lia
     .rw[tk]at a;rcases X9 a with h'|h'
      .exact o y h' m d
      .rw[Xa h']at d;have:=p m d
       lia
  .intro Y g %[%[v,o4,o5,rfl|L]|j];rw[(Z5 _),Zm (Zh _)]at L;refine k3 _ _ ?_;lk;rcases L with⟨rfl,h⟩|⟨q,ws,x,rfl,G,o⟩
   .exact kn g (z.trans j) λx rx=>h x (J x (va (λt ht=>(c t ht).2) rx) rx) rx
   .exact ky q g ws x (z.trans j) G λy n d=>o y (J y (va (λt ht=>(c t ht).2) d.rch) d.rch) n d
noncomputable def pO(ws:ZH):ZM:=ws.map λt=>V.ref t.1
def HN(ws:ZH):Prop:=∀p∈ws,p.2.length<=3/\∀z∈p.2,Sml z
inductive sS (C:Addr) (vs:ZM) (H:Hp) (Q:VK) (E0:XK):Prop
 | mk (a r ws):vs=[.ref a,.ref r]->H r=some (.lst (pO ws))->aP H ws->ws.length<=100->HN ws->H a=some (ExO a C none)->(∀l d,H l=none->H d=none->d≠l->Q .non (upd (upd (upd H l (.lst (pO ws))) a (ExO a C (some d))) d (.xd [("ring",.ref l)])))->sS C vs H Q E0
theorem C_Torn(T:Txt K mg):F4 P w K mg base 1 "Torn" ["self","ring"] (sS (aH mg "Torn")):=by
 refine T.bK.cal sG (by fin2) (λf m A outer s H vs Q E n g h=>?_)
 .have%[a,r,ws,rfl,i,o,p,t,j|q]:=h;refine%[_,(QSs.h (am (bJ rfl (F8 (C:=aH mg "Torn") n rfl T.bD T.bZ rfl rfl %[_|rfl] #[↑0,Bm (pjE eB (pjE (HD g.gd g.units ↑1) Bl))]))
   (aq (Ht (C:=aH mg "Torn") T.bL rfl ↑0 (ctO (fj (K:=K) rfl) T.a5 boot_list rfl #[↑1])))))|?_]
  show bc _ _ _ [some _,some _] H;lk;have v:(Str.empty++Str.ofString "torn by the ring ").length=17:=by decide +kernel
  refine%[by rw[PySem.sizeLine_eq];lia,r,ws,rfl,i,o,p,t|λz y=>%[z,rfl,by rw[strLen_append,PySem.sizeLine_eq];lia,by rw[strLen_append,PySem.sizeLine_eq];lia,by simp,%[_|j],r,rfl,_,.inl (SqL.of i)|λl b=>%[a,rfl,af.upd b _ _ j|λd c u=>?_]]];have dl:d≠l:=λe=>by rw[e,aa]at c;cases c
  rw[ak dl]at c;exact q l d b c dl
theorem wO{D:iL}{E:XK}(m:af H c)(I:c r=some (.lst (pO ws)))(J:aP c ws)(f:ws.length<=100)(L:HN ws)(M:∀Q:ZM->Hp->Prop,Q [.ref r] c->t N c Q)
 (k:∀d l g,af H g->af c g->H d=none->H l=none->d≠l->g d=some (.xd [("ring",.ref l)])->g l=some (.lst (pO ws))->E (.ref C) (some d) g):
 rS C (v7 C (sS C) t) (λa A=>∃d,A a=some (ExO a C (some d))/\H a=none/\E (.ref C) (some d) (drop A a)) D N c:=by
 refine M _ %[by simp|λx q=>?_];have B:=af.upd (o:=ExO x C none) q;refine%[x,r,ws,rfl,B _ _ I,aU J λb z e=>B _ _ e,f,L,aa|λl d f n h=>?_];have s:l≠x:=λe=>by rw[e,aa]at f;cases f
 have p:d≠x:=λe=>by rw[e,aa]at n;cases n
 have i:=by rw[ak s]at f;exact f
 have j:=by rw[ak p]at n;exact n
 have v:∀b,b≠x->b≠l->b≠d->drop (upd (upd (upd (upd c x (ExO x C none)) l (.lst (pO ws))) x (ExO x C (some d))) d (.xd [("ring",.ref l)])) x b=c b:=λb y O T=>by
  rw[bH y,ak T,ak y,ak O,ak y]
 have G:af c (drop _ x):=λb u e=>by
  rw[v b (ar e q) (ar e i) (ar e j)];exact e
 refine%[rfl,x,d,rfl,?_,d,?_,m.free q|k d l _ (m.trans G) G (m.free j) (m.free i) h ?_ ?_]
 .rw[ak p.symm,aa]
 .rw[ak p.symm,aa]
 .rw[bH p,aa]
 .rw[bH s,ak h.symm,ak s,aa]
theorem dX{S:Str->Str->Prop}(h:cg S z m)(c:dw S z x):cg S x m:=%[c.symm.trans h.1|λy d=>h.2 y (c.trans d)]
theorem f9(h:cz H c qs)(a b:Str)(s:be qs a b):a∈c/\b∈c:=by
 have%[q,d|e]:=s;rcases(h q d).2 with⟨wd,x,y,f,_,g,i,_⟩|⟨wd,x,y,f,_⟩
 .lia
 grind
structure iH (mg:ZC) (H:Hp) (g:Addr) (qs:ZN) (ls:ZB) (ts:ZH):Prop where
 gr:∃c2 c3 c4,GrF mg H g c2 c3 c4 qs ls ts
 nd:ls.Nodup
 so:ls.Pairwise (λa b=>bd b a=false)
 ll:ls.length<=60
 tl:ts.length<=62
 t3:∀k∈ts.map (·.2),cL ls k
 sm:∀k∈ts.map (·.2),∀z∈k,Sml z
 lm:∀z∈ls,Sml z
theorem iH.up(h:iH mg H g qs a ts)(s:af H b):iH mg b g qs a ts:=by
 have%[c,d,e|f]:=h.gr;exact%[%[c,d,e|f.up s],h.nd,h.so,h.ll,h.tl,h.t3,h.sm|h.lm]
theorem iH.ends(h:iH mg H g qs f ts)(i:aQ (be qs) (ts.map (·.2)) lk)(j:k∈lk):∃a b z,k=[a,b,z]/\(a∈f/\cg (be qs) a a)/\b∈f/\cg (be qs) b b:=by
 have%[r,s,t|l]:=h.gr;have%[a,b,z,m,n,o,c,d|rfl]:=(i.mem k).mp j;have%[x,y,u,e,p|q]:=h.t3 _ o;simp only[List.cons.injEq,and_true]at e;have%[rfl,rfl|rfl]:=e;have ws:=f9 l.sa;exact%[m,n,z,rfl,%[c.1.within ws p|dX c c.1],d.1.within ws q|dX d d.1]
theorem iH.short(h:iH mg H g qs o ts)(d:aQ (be qs) (ts.map (·.2)) lk)(f:k∈lk):k.length<=3/\∀z∈k,Sml z:=by
 have%[p,q,r|i]:=h.gr;have%[a,b,z,s,t,c,j,l|rfl]:=(d.mem k).mp f;have%[x,y,u,e,m|n]:=h.t3 _ c;simp only[List.cons.injEq,and_true]at e;have%[rfl,rfl|rfl]:=e;have ws:=f9 i.sa;exact%[Zh _|GE (h.lm _ (j.1.within ws m)) (h.lm _ (l.1.within ws n)) (h.sm _ c z ∅)]
theorem iH.names(h:iH mg H g qs d ts)(f:aQ (be qs) (ts.map (·.2)) lk)(c:kR (be qs) d i):∀k∈lk,cL i k:=λk j=>by
 have%[a,b,z,e,l|m]:=h.ends f j;exact%[a,b,z,e,(c.mem a).mpr l|(c.mem b).mpr m]
theorem iH.ties(h:iH mg H g qs c ts)(d:aQ (be qs) (ts.map (·.2)) lk):∀k∈lk,cL c k:=λk f=>by
 have%[a,b,z,e,i|j]:=h.ends d f;exact%[a,b,z,e,i.1|j.1]
theorem jf(a:aP H ss)(h:∀k∈ss.map (·.2),cL b k):cI H b ss:=λt q=>%[(a t q).2|h _ (Xc %[t,q|rfl])]
inductive xU (mg:ZC) (vs:ZM) (H:Hp) (Q:VK) (E0:XK):Prop
 | mk (g qs ls ts):vs=[.ref g]->iH mg H g qs ls ts->(∀H' lk,af H H'->aQ (be qs) (ts.map (·.2)) lk->((∀x,¬ Rch lk x x)->Q .non H')/\∀r x,Rch lk x x->Q (.ref r) H')->xU mg vs H Q E0
inductive qX (mg:ZC) (vs:ZM) (H:Hp) (Q:VK) (E0:XK):Prop
 | mk (g qs ls ts):vs=[.ref g]->iH mg H g qs ls ts->(∀lk,aQ (be qs) (ts.map (·.2)) lk->∀x,¬ Rch lk x x)->(∀l H' ns ss,af H H'->H' l=some (.lst (ss.map λt=>V.ref t.1))->cI H' ns ss->ss.length<=62->aQ (be qs) (ts.map (·.2)) (ss.map (·.2))->Q (.ref l) H')->qX mg vs H Q E0
structure Cj (H:Hp) (lk:List ZB) (d l:Addr) (ws:ZH) (x:Str):Prop where
 ad:H d=some (.xd [("ring",.ref l)])
 al:H l=some (.lst (pO ws))
 tu:aP H ws
 sho:Sho lk x x (ws.map (·.2))
 min:∀y n,Dst lk y (n+1) y->ws.length<=n+1
 len:ws.length<=100
inductive kS (mg:ZC) (vs:ZM) (H:Hp) (Q:VK) (E:XK):Prop
 | mk (g:Addr) (qs:List _) (ls:ZB) (ts:List _) (lk:List _) (us:ZM):vs=[.ref g]->iH mg H g qs ls ts->aQ (be qs) (ts.map (·.2)) lk->(∃x,Rch lk x x)->(∀d l H' ws x,af H H'->H d=none->H l=none->d≠l->Cj H' lk d l ws x->E (.ref (aH mg "Torn")) (some d) H')->kS mg vs H Q E
theorem GN(T:Txt K mg):↥6 "ring" ["ground"] (xU mg):=by
 refine T.aV.cal DY (λH vs Q E h=>?_)
 .have%[g,qs,e,ts,rfl,a|n]:=h;refine%[rfl|λf y A outer s d=>?_];have%[o,p,q|t]:=a.gr;have N:=a.ll;refine%[_,%["JDGF~lAF~FA0BAF~RA0BB",0|d],g,o,p,q,qs,e,ts,rfl,t,a.nd,a.so,⋯|λl O z u U B c=>%[g,o,p,q,qs,e,ts,rfl,t.up u,a.nd,a.so,⋯,a.tl,a.t3|λm Y ss v fm C G lk I=>?_]];have b:=u.trans v;refine%[l,m,z,ss,rfl,v _ _ B,c.nd,?_,C,jf G (a.names lk c),I,λi j J=>(n i _ (b.trans j) lk).1 J|λr i ws x j L _=>(n i _ (b.trans j) lk).2 r x L.sho.rch];have:=STab.nodup_sub c.nd λx M=>((c.mem x).mp M).1
  lia
theorem oR(T:Txt K mg):↥6 "untorn_links" ["ground"] (qX mg):=by
 refine T.aY.cal bT (λH vs Q E h=>?_)
 .have%[g,qs,e,ts,rfl,a,G|I]:=h;refine%[rfl|λf C A outer s d=>?_];have%[j,n,o|p]:=a.gr;have ll:=a.ll;refine%[_,%["JCH1F~RA0BCH2F~lAF~FA0BA1BCOL~Q2(D:PDG1",bT.nd|d]|?_]
  show bc _ _ _ [!g,none,none] H;refine ap λD1 J _=>?_
  lk;refine%[g,j,n,o,qs,e,ts,rfl,p,a.nd,a.so,⋯,a.tl,a.t3|λm H1 ss q fm t L lk u=>J _ _ (ap λD2 M _=>?_)];lk;refine%[g,j,n,o,qs,e,ts,rfl,p.up q,a.nd,a.so,⋯|λl H2 v i fl N c=>?_];have y:=jf L (a.names lk c);refine%[l,m,v,ss,rfl,N,c.nd,?_,i _ _ t,y.up i,u,λz B _=>M _ _ (ap λD3 O _=>?_)|λr z ws x B U _=>(G _ lk x U.sho.rch).elim]
  .have:=STab.nodup_sub c.nd λx Y=>((c.mem x).mp Y).1
   lia
  .lk;refine O _ _ ?_;have b:=i.trans B;exact I m z v ss (q.trans b) (b _ _ t) (y.up b) u lk
theorem fN(T:Txt K mg):v8 P w K mg base 7 "untorn_links" ["ground"] (kS mg):=by
 have%[_,_,b|_]:=T.bK.ini;refine T.aY.calX bT (λH vs Q E h=>?_)
 .have%[g,qs,v,ts,lk,us,rfl,a,y,%[x0|z]|kk]:=h;refine%[rfl|λf Y A outer s o=>?_];have%[J,L,M|N]:=a.gr;have ll:=a.ll;refine%[_,%["JCH1F~RA0BCH2F~lAF~FA0BA1BCOL~Q2(D]w]x]yA2BPDG1",bT.nd|o]|?_]
  show bc _ _ _ [!g,none,none] H;refine ap λD1 k1 _=>?_
  lk;refine%[g,J,L,M,qs,v,ts,rfl,N,a.nd,a.so,⋯,a.tl,a.t3|λm H1 ss O fm hm B i sl=>k1 _ _ (ap λD2 k2 _=>?_)];have e:=y.one i;subst e;lk;refine%[g,J,L,M,qs,v,ts,rfl,N.up O,a.nd,a.so,⋯|λl H2 ns p fl hl u=>%[l,m,ns,ss,rfl,hl,u.nd,?_,p _ _ hm,(jf B (a.names i u)).up p,sl,λU C nr=>(nr _ z).elim|λr U ws x C j mn=>k2 _ _ (ap λD3 k3 _=>?_)]]
  .have:=STab.nodup_sub u.nd λx G=>((u.mem x).mp G).1
   lia
  .lk;rw[if_pos ∅];have n:aP U ws:=λt c=>%[(B t (j.sub t c)).1|C _ _ (p _ _ (B t (j.sub t c)).2)]
   exact wO ((O.trans p).trans C) j.at_ n j.len (λt c=>a.short i ((λt c=>Xc %[t,j.sub t c|rfl]) t c)) (λQ q=>q) λd l H4 s4 s5 hd I dl G hL=>kk d l H4 ws x s4 hd I dl %[G,hL,λt c=>%[(n t c).1|s5 _ _ (n t c).2],j.sho,mn|j.len]
noncomputable def SD(M:ZB):List (Key×V):=VD M λ_=> .bl true
theorem Ck:∃M2,cQ (SD M) (Sum.inr x) (.bl true)=SD M2/\(M.Nodup->M2.Nodup)/\∀y,y∈M2↔y∈M\/y=x:=by
 by_cases c:x∈M
 .refine%[M,?_,λh=>h|λy=>%[.inl|λh=>h.elim (λh=>h) λe=>e▸c]];unfold SD;rw[wN c]
  simp_all
 .refine%[M++[x],?_,λh=>nodup_append.mpr %[h,by simp|λa d b f e=>c (by rw[<-Xa f,<-e];exact d)]|λy=>by simp];unfold SD;rw[fi _ (eU c)];unfold VD;rw[Zc];rfl
theorem vb:∀{R M:ZB},∃M2,kY (SD M) (SD R)=SD M2/\(M.Nodup->M2.Nodup)/\∀y,y∈M2↔y∈M\/y∈R
 |[],M=>%[M,rfl,λh=>h|λy=>by simp]
 | x::R,M=>by
   have%[M1,a,b|c]:=Ck;have%[M2,d,e|m2]:=vb (R:=R);refine%[M2,?_,λh=>e (b h)|λy=>by rw[m2,c,Yp,or_assoc]];show kY (cQ _ (Sum.inr x) (.bl true)) (SD R)=_;rw[a,d]
theorem zT(r:Rch ks a c):∃y,Ed ks a y/\(y=c\/Rch ks y c):=by
 induction r with
 | one e=>exact%[_,e|.inl rfl]
 | more _ e b=>
   have%[y,h|q]:=b;exact%[y,h|.inr (q.elim (λq=>q▸ .one e) λq=> .more q e)]
theorem GO{b:ZB}{ss:ZH}(h:∀t∈ss,cL b t.2){x y:Str}(r:Rch (ss.map (·.2)) x y):y∈b:=by
 have:∃a,Ed (ss.map (·.2)) a y:=by
  cases r with
  | one e=>exact%[_|e]
  | more _ e=>exact%[_|e]
 have%[a,z|d]:=this;have%[t,f|c]:=Xb d;have%[u,v,w,e,_|g]:=h t f;rw[e]at c;exact((List.cons.inj (List.cons.inj c).2).1)▸g
structure Rea (H:Hp) (ks:List ZB) (rs:Gs Str):Prop where
 nd:(rs.map (·.1)).Nodup
 ad:(rs.map (·.2.1)).Nodup
 at_:∀r∈rs,H r.2.1=some (.dK (SD r.2.2))/\r.2.2.Nodup/\∀y,y∈r.2.2↔Rch ks r.1 y
inductive xV (vs:ZM) (H:Hp) (Q:VK) (E0:XK):Prop
 | mk (l m ns ss):vs=[.ref l,.ref m]->H l=some (.lst (ns.map V.str))->ns.Nodup->ns.length<=60->H m=some (.lst (ss.map λt=>V.ref t.1))->cI H ns ss->ss.length<=62->(∀x,¬ Rch (ss.map (·.2)) x x)->(∀d H' rs,af H H'->H d=none->H' d=some (.dK (gD rs))->Rea H' (ss.map (·.2)) rs->(∀r∈rs,r.2.1≠d/\H r.2.1=none)->(∀x,x∈rs.map (·.1)↔x∈ns)->Q (.ref d) H')->xV vs H Q E0
theorem oS(T:Txt K mg):↥4 "all_beneath" ["names","found"] xV:=by
 refine T.aP.cal cG (λH vs Q E h=>?_)
 .have%[l,m,ns,ss,rfl,hl,nn,nl,hm,Y,bb,nr|kk]:=h;refine%[rfl|λf cs A outer s u=>?_];refine%[_,%["JCH2F~kA1BCH3yCTSF~*A0A1BK4Cwy34DTS~O~P2A4AQBBK5Cwsj34U5~EDY]z]!j34Aj3U5~EBDG3",cG.nd|u]|?_]
  show bc _ _ _ [!l,!m,none,none,none,none] H;refine ap λD1 k1 _=>?_
  lk;refine%[m,ns,ss,rfl,hm,Y,bb|λb H1 s1 fb hb=>k1 _ _ (ap λD2 k2 _=>?_)];lk;intro d fd;refine k2 _ _ (ap λD3 k3 _=>az λbf hK=>?_);have s2:=af.upd (o:= .dK []) fd;have hd:upd H1 d (.dK []) d=some (.dK (gD ([]:Gs Str))):=aa;have ab:=s1.trans s2;have bl:b≠d:=λc=>by
   have%[bm,I|_]:=hb;rw[c,fd]at I;cases I
  have bn:=s1.free fd;have bp:=hb.up s2
  generalize upd H1 d (.dK [])=H2 at s2 hd ab bp
  lk;refine%[l,m,ns,ss,rfl,ab _ _ hl,nn,nl,ab _ _ hm,Y.up ab,bb|λr H3 L s3 an Ln Ls ca rest=> .inl %[r,rfl,%[_|SqL.of an]|hK _ _ ?_]];have ct:=s2.trans s3;have bt:∀x∈ns,x∈L:=λx hx=>Decidable.byContradiction λc=>Gz (ks:=ss.map (·.2)) (U:=ns.filter λx=>decide (x∉L)) (λx hx=>by
   have%[I|N]:=List.mem_filter.mp hx;have%[y,e,yn|yl]:=rest x I (Zn N);exact%[y,List.mem_filter.mpr %[yn|Ze yl]|e]) nr (List.mem_filter.mpr %[hx|Ze c])
  have Lm:(L.map V.str).length=L.length:=Z5 _;have Ll:=STab.nodup_sub Ln Ls;have bU:=bp.up s3;have as:=ab.trans s3;refine bx (xs:=L.map V.str) (λi σ G=>(∃o4 o5,σ=[!l,!m,!b,!d,o4,o5])/\dh d H3 G/\∃rs:Gs Str,G d=some (.dK (gD rs))/\Rea G (ss.map (·.2)) rs/\(∀r∈rs,r.2.1≠d/\H3 r.2.1=none)/\rs.map (·.1)=L.take i)
   %[%[_,_|rfl],λ_ _ _ e=>e,[],s3 _ _ hd,%[Yv,Yv|λ_ h=>(nomatch h)],λ_ h=>(nomatch h)|rfl] (λi σ G _ h=>SqL.of (h.2.1 _ _ (λc=>by have:=s3 _ _ hd;rw[<-c,an]at this;cases this) an)) ?_ ?_
  .intro i v σ G hv %[%[o4,o5|rfl],sm,rs,ai,g,rn|rk];rw[Zk]at hv;have%[n,hn|rfl]:=map_eq_some_iff.mp hv;have tk:L.take (i+1)=L.take i++[n]:=by rw[X0,hn];rfl
   show bc _ _ _ [!l,!m,!b,!d,-n,o5] G;refine ap λD4 k4 _=>?_
   lk;intro e fe;have C:e≠d:=λc=>by rw[c,ai]at fe;cases fe
   have a0:n∉rs.map (·.1):=by
    rw[rk];intro c;have%[j|hj]:=X3 c;have jl:=(X8 hj).1;rw[Yf]at jl;rw[Y5 ⋯]at hj;have:=cP Ln hj hn
    lia
   have rl:rs.length<=60:=by
    have:(rs.map (·.1)).length<=L.length:=by rw[rk,Yf];lia
    rw[Z5]at this
    lia
   have e3:H3 e=none:=by
    cases q:H3 e with
    | none=>rfl
    | some o=>rw[sm e o C q]at fe;cases fe
   refine%[_,iQ.k (k:=Sum.inr n) (af.upd fe _ _ ai) (by unfold gD;rw[Z5];exact aB ⋯)|k4 _ _ ?_];rw[fi _ (sQ a0),show gD rs++[(Sum.inr n,V.ref e)]=gD (rs++[(n,e,[])]) by unfold gD;rw[Zc];rfl];have he:upd (upd G e (.dK [])) d (.dK (gD (rs++[(n,e,[])]))) e=some (.dK (SD [])):=by rw[ak C,aa];rfl
   have b0:upd (upd G e (.dK [])) d (.dK (gD (rs++[(n,e,[])]))) d=_:=aa;have o4:∀c o,c≠d->G c=some o->upd (upd G e (.dK [])) d (.dK (gD (rs++[(n,e,[])]))) c=some o:=λc o h q=>by rw[ak h,ak (ar q fe)];exact q
   generalize upd (upd G e (.dK [])) d (.dK (gD (rs++[(n,e,[])])))=H4 at he b0 o4
   have a1:dh d H3 H4:=λc o h q=>o4 c o h (sm c o h q)
   refine aC λD5 k5 _=>az λbf hK=>?_
   lk;refine%[.inr (.inr (.inl (.inl %[_|a1 _ _ bl bU.choose_spec.1]))),#[0]|λp hp=>?_];have%[bm,a,b1,cd,aj|ch]:=bU.get a1 bl (λxs c=>by rw[s3 _ _ hd]at c;cases c) hp n;have sp:=af.upd (o:= .lst []) hp;have he:=sp _ _ he;have a2:=sp _ _ b0;have a3:=a1.trans (dh.of sp);have a4:∀c o,c≠d->G c=some o->upd H4 p (.lst []) c=some o:=λc o h q=>sp _ _ (o4 c o h q)
   have ae:a≠e:=by
    rcases ch with rfl|⟨o,ho⟩
    .exact λc=>by rw[c]at hp;have:=he;rw[c,aa]at this;cases this
    .exact λc=>by rw[c,e3]at ho;cases ho
   generalize upd H4 p (.lst [])=H5 at b1 aj he a2 a3 a4 ⊢
   generalize b2:(ss.filter λt=>decide (t.2[0]? =some n))=ts at aj
   have tm:(ts.map λt=>V.ref t.1).length=ts.length:=Z5 _;have cl:∀t∈ts,t∈ss/\∃y z,t.2=[n,y,z]:=λt ht=>by
    rw[<-b2]at ht;have%[I|N]:=List.mem_filter.mp ht;have%[x,y,z,e|_]:=(Y t I).2;have N:=Zn N;rw[e]at N;exact%[I,y,z|by rw[e,show x=n from Z9 N]]
   refine%[Sum.inr n,rfl,bm,b1|.inl %[a,cd,%[_|SqL.of aj]|hK _ _ ?_]];refine bx (xs:=ts.map λt=>V.ref t.1) (λj σ O=>(∃o5,σ=[!l,!m,!b,!d,-n,o5])/\dh e H5 O/\∃M:ZB,O e=some (.dK (SD M))/\M.Nodup/\(∀y∈M,Rch (ss.map (·.2)) n y)/\∀t∈ts.take j,∀y,t.2[1]? =some y->y∈M/\∀z,Rch (ss.map (·.2)) y z->z∈M)
    %[%[_|rfl],λ_ _ _ q=>q,[],he,Yv,λ_ h=>(nomatch h)|λ_ h=>(nomatch h)] (λj σ O _ h=>SqL.of (h.2.1 _ _ ae aj)) ?_ ?_
   .intro j v σ O hv %[%[o5|rfl],B,M,hM,Mn,Mr|Md];rw[Zk]at hv;have%[t,ht|rfl]:=map_eq_some_iff.mp hv;have%[b3,y,z|et]:=cl t (Z7 ht);show bc _ _ _ [!l,!m,!b,!d,-n,some (.ref t.1)] O;refine ap λD6 k6 _=>?_
    lk;have a5:∀c o,c≠d->c≠e->H3 c=some o->O c=some o:=λc o I N q=>B c o N (a3 c o I q)
    have te:∀c zs,H3 c=some (.tup zs)->O c=some (.tup zs):=λc zs q=>a5 c _ (λz=>by rw[z,s3 _ _ hd]at q;cases q) (λz=>by rw[z,e3]at q;cases q) q
    have t6:=te _ _ (as _ _ (Y t b3).1);rw[et]at t6;have a6:=B d _ C.symm a2;have al:bG (gD (rs++[(n,e,([]:ZB))])) (Sum.inr n)=some (.ref e):=by
     have%[r,co,e1|hv]:=lR (rs:=rs++[(n,e,[])]) (y:=n) ∅;rcases X9 co with q|q
     .exact(a0 (by exact e1▸Xc %[r,q|rfl])).elim
     .rw[Xa q]at hv;exact hv
    have gn:=cD.k (k:=Sum.inr n) a6;rw[al]at gn;have ed:Ed (ss.map (·.2)) n y:=%[z|et▸Xc %[t,b3|rfl]]
    have yt:=ca i n hn y ed;rw[<-rk]at yt;have%[M1,e1,n1|m1]:=Ck (M:=M) (x:=y);have a7:∀U:ZB,U.Nodup->(∀x∈U,Rch (ss.map (·.2)) n x)->U.length<=60:=λU I N=>Ya (STab.nodup_sub I λx hx=>GO (λt ht=>(Y t ht).2) (N x hx)) nl
    have Ml:=a7 M Mn Mr;refine%[_,gn,_,SqT.of t6,_,rfl,e,rfl,_,iQ.k (k:=Sum.inr y) hM (by unfold SD VD;rw[Z5];exact aB ⋯)|k6 _ _ (aC λD7 k7 _=>?_)];rw[e1];have b4:∀x∈M1,Rch (ss.map (·.2)) n x:=λx hx=>((m1 x).mp hx).elim (Mr x) λq=>q▸ .one ed
    have a8:upd O e (.dK (SD M1)) e=some (.dK (SD M1)):=aa;have u7:∀c o,c≠e->O c=some o->upd O e (.dK (SD M1)) c=some o:=λc o h q=>(ak h)▸q
    generalize upd O e (.dK (SD M1))=H7 at a8 u7
    have b5:=cD.k (k:=Sum.inr n) (u7 _ _ C.symm a6);rw[al]at b5;have%[ry,J,ey|gy]:=lR (rs:=rs++[(n,e,[])]) (y:=y) (Zc▸Yn _ yt);have J:ry∈rs:=by
     rcases X9 J with q|q
     .exact q
     .rw[Xa q]at ey;exact(nr n (.one (by rw[<-show n=y from ey]at ed;exact ed))).elim
    have b6:=cD.k (k:=Sum.inr y) (u7 _ _ C.symm a6);rw[gy]at b6;have a9:ry.2.1≠e:=ar (g.at_ ry J).1 fe;have cp:=u7 _ _ a9 (B _ _ a9 (a4 _ _ (rn ry J).1 (g.at_ ry J).1));lk;have%[M2,e2,n2|m2]:=vb (R:=ry.2.2) (M:=M1);have ag:=(g.at_ ry J).2;rw[ey]at ag;have cx:=a7 M1 (n1 Mn) b4;have Rl:=a7 ry.2.2 ag.1 λx hx=>(Rch.one ed).trans ((ag.2 x).mp hx)
    refine%[_,b5,.inr (.inr (.inl (.inl %[_|a8]))),_,SqT.of (u7 _ _ (λc=>by rw[c,hM]at t6;cases t6) t6),_,rfl,_,b6,ry.2.1,rfl,_,_,a9.symm,a8,cp,by unfold SD VD;rw[Z5,Z5,PySem.sizeLine_eq];lia|?_];rw[e2];refine k7 _ _ %[%[_|rfl],λc o h q=>(ak h)▸u7 c o h (B c o h q),M2,aa,n2 (n1 Mn),λx hx=>?_|λt' b7 x ex=>?_]
    .rcases(m2 x).mp hx with q|q
     .exact b4 x q
     .exact(Rch.one ed).trans ((ag.2 x).mp q)
    .rw[X0,ht]at b7;rcases X9 b7 with q|q
     .have%[I|N]:=Md t' q x ex;exact%[(m2 x).mpr (.inl ((m1 x).mpr (.inl I)))|λz hz=>(m2 z).mpr (.inl ((m1 z).mpr (.inl (N z hz))))]
     .rw[show t'=t from Xa q,et]at ex;obtain rfl:y=x:=Z9 ex;exact%[(m2 y).mpr (.inl ((m1 y).mpr (.inr rfl)))|λz hz=>(m2 z).mpr (.inr ((ag.2 z).mpr hz))]
   .intro σ O %[%[o5|rfl],B,M,hM,Mn,Mr|Md];rw[tm,Zm (Zh _)]at Md;have all:∀y,y∈M↔Rch (ss.map (·.2)) n y:=λy=>%[Mr y|λr=>by
     have%[x,%[z|hz]|q]:=zT r;have%[t,ht|et]:=Xb hz;have h:=Md t (b2▸List.mem_filter.mpr %[ht|by rw[et];simp]) x (by rw[et];rfl);exact q.elim (λq=>q▸h.1) λq=>h.2 y q]
    have b9:∀r∈rs,r.2.1≠e:=λr u=>ar (g.at_ r u).1 fe
    refine k5 _ _ %[%[_,_|rfl],λc o h q=>B c o (ar q e3) (a3 c o h q),rs++[(n,e,M)],?_,%[?_,?_|λr u=>?_],λr u=>?_|by rw[Zc,rk,tk];rfl]
    .rw[B d _ C.symm a2];unfold gD;rw[Zc,Zc];rfl
    .rw[Zc,Yt];exact%[g.nd,by simp|λa ha b hb c=>a0 (by rw[<-show b=n from Xa hb,<-c];exact ha)]
    .rw[Zc,Yt];refine%[g.ad,by simp|λa ha b hb c=>?_];have%[r,u|rfl]:=Xb ha;exact b9 r u (c.trans (Xa hb))
    .rcases X9 u with q|q
     .exact%[B _ _ (b9 r q) (a4 _ _ (rn r q).1 (g.at_ r q).1)|(g.at_ r q).2]
     .rw[Xa q];exact%[hM,Mn|all]
    .rcases X9 u with q|q
     .exact rn r q
     .rw[Xa q];exact%[C|e3]
  .intro σ G %[%[o4,o5|rfl],sm,rs,ai,g,rn|rk];rw[Lm,Zm (Zh _)]at rk;refine k3 _ _ ?_;lk;exact kk d G rs (λc o e=>sm c o (ar e bn) (as _ _ e)) bn ai g (λr u=>%[(rn r u).1|as.free (rn r u).2]) λx=>rk▸%[Ls x|bt x]
structure ReF (H:Hp) (ks:List ZB) (d:Addr) (rs:Gs Str):Prop where
 at_:∃o,H d=some (.frz o (.dK (gD rs)))
 nd:(rs.map (·.1)).Nodup
 in_:∀r∈rs,(∃o,H r.2.1=some (.frz o (.dK (SD r.2.2))))/\r.2.2.Nodup/\∀y,y∈r.2.2↔Rch ks r.1 y
theorem ReF.up(h:ReF H ks d rs)(s:af H b):ReF b ks d rs:=
 %[h.at_.imp λo e=>s _ _ e,h.nd|λr a=>%[(h.in_ r a).1.imp λo e=>s _ _ e|(h.in_ r a).2]]
inductive xW (vs:ZM) (H:Hp) (Q:VK) (E0:XK):Prop
 | mk (l m ns ss):vs=[.ref l,.ref m]->H l=some (.lst (ns.map V.str))->ns.Nodup->ns.length<=60->H m=some (.lst (ss.map λt=>V.ref t.1))->cI H ns ss->ss.length<=62->(∀x,¬ Rch (ss.map (·.2)) x x)->(∀d H' rs,af H H'->ReF H' (ss.map (·.2)) d rs->(∀x,x∈rs.map (·.1)↔x∈ns)->Q (.ref d) H')->xW vs H Q E0
theorem jI(T:Txt K mg):↥4 "all_beneath" ["names","found"] xW:=by
 refine(oS T).freeze.imp λvs H Q E zqw=>?_;have%[l,m,f,ss,g,h,i,j,n,p,s,t|u]:=zqw;refine %[l,m,f,ss,g,h,i,j,n,p,s,t|λd B rs v C y a z A=>%[d::rs.map _|λG=>u d _ rs (λc o e=>?_) %[%[_|mR Zl y],a.nd|λr b=>%[%[_|mR (Zj _ (Xc %[r,b|rfl])) (a.at_ r b).1]|(a.at_ r b).2]] A]]
 rw[n8]
 .exact v c o e
 .intro q;rcases mem_cons.mp q with rfl|q
  .lia
  .have%[r,b|rfl]:=Xb q;rw[(z r b).2]at e;cases e
inductive xX (mg:ZC) (vs:ZM) (H:Hp) (Q:VK) (E0:XK):Prop
 | mk (g qs ls ts):vs=[.ref g]->iH mg H g qs ls ts->(∀lk,aQ (be qs) (ts.map (·.2)) lk->∀x,¬ Rch lk x x)->(∀d H' rs lk ns,af H H'->aQ (be qs) (ts.map (·.2)) lk->kR (be qs) ls ns->ReF H' lk d rs->(∀x,x∈rs.map (·.1)↔x∈ns)->Q (.ref d) H')->xX mg vs H Q E0
theorem jh(T:Txt K mg):↥7 "earlier_ones" ["ground"] (xX mg):=by
 refine T.aZ.cal c6 (λH vs Q E h=>?_)
 .have%[g,qs,e,ts,rfl,a,n|r]:=h;refine%[rfl|λf q A outer s c=>?_];have%[u,v,y|z]:=a.gr;have ll:=a.ll;refine%[_,%["JCH1F]$A0BDGF]%AF~FA0BA1B",c6.nd|c]|?_]
  show bc _ _ _ [some _,none] H;refine ap λD1 B _=>?_
  lk;refine%[g,qs,e,ts,rfl,a,n|λl H1 C ss o G I J lk=>B _ _ ?_];lk;refine%[g,u,v,y,qs,e,ts,rfl,z.up o,a.nd,a.so,⋯|λm H2 i j fm L b=>?_];have nl:i.length<=60:=by
   have:=STab.nodup_sub b.nd λx M=>((b.mem x).mp M).1
   lia
  refine%[m,l,i,ss,rfl,L,b.nd,nl,j _ _ G,λt p=>%[j _ _ (I t p).1|a.names lk b _ (Xc %[t,p|rfl])],J,n _ lk|λd N rs O U Y=>r d N rs _ i (o.trans (j.trans O)) lk b U Y]
theorem ce(T:Txt K mg):v8 P w K mg base 8 "earlier_ones" ["ground"] (kS mg):=by
 have fN:=fN (P:=P) (w:=w) (base:=base) T;refine T.aZ.calX c6 (λH vs Q E h=>?_)
 .have%[g,qs,b,ts,lk,us,rfl,h,d,e|i]:=h;refine%[rfl|λf c A outer s a=>?_];exact%[_,(QSs.h (am (aG 1 c6.nd rfl (Bk (rQ λ_ _ _ h=>h) fN a rfl rfl rfl rfl #[↑0]))
   (aq (aJ (aA (jI T) a rfl #[aA (ba T) a rfl #[↑0],↑1]))))),g,qs,b,ts,lk,us,rfl,h,d,e|i]
noncomputable def TD(L:ZB)(m:Str->Str):List (Key×V):=VD L λx=> .str (m x)
structure HP (ks:List _) (ns L:ZB) (m:Str->Str) (A0 Q:ZB) (g:Str->Str) (W:ZB):Prop where
 ask:Ask (Rch ks) L m A0 Q g
 ql:∀x∈Q,x∈L
 qn:∀x∈Q,x∈ns
 wn:∀b∈W,b∈ns/\(b∈A0\/∃y∈Q,y∈L/\m y=b)
 cl:∀b,(b∈A0\/∃y∈Q,y∈L/\m y=b)->b∈W\/∀p,Rch ks b p->p∈Q
structure Ej (ks:List _) (ns L:ZB) (m:Str->Str) (A0 Q:ZB) (g:Str->Str) (W:ZB) (b:Str):Prop where
 ask:Ask (Rch ks) L m A0 Q g
 ql:∀x∈Q,x∈L
 qn:∀x∈Q,x∈ns
 wn:∀b∈W,b∈ns/\(b∈A0\/∃y∈Q,y∈L/\m y=b)
 cl:∀c,(c∈A0\/∃y∈Q,y∈L/\m y=c)->c∈W\/c=b\/∀p,Rch ks c p->p∈Q
 by_:b∈A0\/∃y∈Q,y∈L/\m y=b
theorem xY(a:Ask E L m h Q g)(j:p∉Q)(e:E b p)(f:b∈h\/∃y∈Q,y∈L/\m y=b):Ask E L m h (Q++[p]) (λx=>if x=p then b else g x):=by
 refine%[nodup_append.mpr %[a.nd,by simp|λx d y o c=>j (by rw[<-Xa o,<-c];exact d)]|λi x d=>?_];by_cases c:i<Q.length
 .rw[Y3 c]at d;have n:x≠p:=λz=>j (z▸Z7 d)
  rw[if_neg n,List.take_append_of_le_length (Y8 c)];exact a.by_ i x d
 .have l:=(X8 d).1;rw[Z8,Ye]at l;obtain rfl:i=Q.length:=by lia
  rw[Y4 (Zh _),sub_self]at d;obtain rfl:p=x:=Z9 d;rw[if_pos rfl,List.take_left];exact%[e|f]
theorem Ej.add{i L d Q W:ZB}(a:Ej ks i L m d Q g W b)(n:p∉Q)(e:Rch ks b p)(pl:p∈L)(pn:p∈i)(o:m p∈i):Ej ks i L m d (Q++[p]) (λx=>if x=p then b else g x) (W++[m p]) b:=by
 have up:∀{c},(c∈d\/∃y∈Q,y∈L/\m y=c)->c∈d\/∃y∈Q++[p],y∈L/\m y=c:=λh=>h.imp_right λ⟨y,h,q⟩=>%[y,Yn _ h|q]
 refine%[xY a.ask n e a.by_,λx j=>?_,λx j=>?_,λc l=>?_,λc l=>?_|up a.by_]
 .exact(X9 j).elim (a.ql x) λh=>Xa h▸pl
 .exact(X9 j).elim (a.qn x) λh=>Xa h▸pn
 .rcases X9 l with h|h
  .exact%[(a.wn c h).1|up (a.wn c h).2]
  .rw[Xa h];exact%[o|.inr %[p,Yo _ Zl,pl|rfl]]
 .have f:(c∈d\/∃y∈Q,y∈L/\m y=c)->c∈W++[m p]\/c=b\/∀q,Rch ks c q->q∈Q++[p]:=λh=>(a.cl c h).imp (Yn _) λh=>h.imp_right λh q r=>Yn _ (h q r)
  rcases l with h|⟨y,s,t,rfl⟩
  .exact f (.inl h)
  .rcases X9 s with h|h
   .exact f (.inr %[y,h,t|rfl])
   .rw[Xa h];exact .inl (Yo _ Zl)
theorem cJ:((bG (TD L m) (Sum.inr x)).isSome=true↔x∈L)/\(x∈L->bG (TD L m) (Sum.inr x)=some (.str (m x))):=by
 refine%[?_|λh=>iG h];unfold TD;by_cases c:x∈L
 .rw[iG c];exact%[λ_=>c|λ_=>rfl]
 .rw[eU c];simp_all
theorem wP(h:x∉L):cQ (TD L m) (Sum.inr x) (.str y)=TD (L++[x]) (λz=>if z=x then y else m z):=by
 unfold TD;rw[fi _ (eU h)];unfold VD;rw[Zc];refine congr (congrArg _ (Yj λa b=>?_)) ∅;show(Sum.inr a,V.str _)=((Sum.inr a),V.str (if a=x then y else m a))
 rw[if_neg (λc:a=x=>h (c▸b))]
inductive xZ (vs:ZM) (H:Hp) (Q:VK) (E0:XK):Prop
 | mk (d hb al:Addr) (ks:List _) (rs:Gs Str) (ns L A0:ZB) (m:Str->Str):vs=[.ref d,.ref hb,.ref al]->ReF H ks d rs->(∀x,x∈rs.map (·.1)↔x∈ns)->(∀x y,Rch ks x y->y∈ns)->ns.length<=60->ns.Nodup->Rd H hb (.dK (TD L m))->(∀x∈L,m x∈ns)->H al=some (.lst (A0.map V.str))->(∀x∈A0,x∈ns)->A0.length<=60->(∀q H' U g,af H H'->H q=none->H' q=some (.dK (TD U g))->Ask (Rch ks) L m A0 U g->(∀x∈U,x∈ns)->((∃f∈U,f∉L)\/((∀x∈U,x∈L)/\∀b,(b∈A0\/∃y∈U,y∈L/\m y=b)->∀p,Rch ks b p->p∈U))->Q (.ref q) H')->xZ vs H Q E0
theorem pP(T:Txt K mg):↥1 "ask_around" ["partners","held_by","askers"] xZ:=by
 refine T.aR.cal cU (λH vs Q E h=>?_)
 .have%[d,u,al,ks,rs,ns,L,A0,m,rfl,re,rk,rn,nl,nn,hh,mn,ha,an,a9|kk]:=h;refine%[rfl|λf bf A outer s hr=>?_];refine%[_,%["JCH3yCH4'*A2BC<L~CVWA4BECH5]&]'4DT~Vj05K6DO;63Cw536CO;61DG3PDYpk4Aj16BPDG3",cU.nd|hr]|?_]
  show bc _ _ _ [!d,!u,!al,none,none,none,none] H;refine ap λD1 k1 _=>?_
  lk;intro q fq;refine k1 _ _ (ap λD2 k2 _=>?_);have s1:=af.upd (o:= .dK []) fq;have M:upd H q (.dK []) q=some (.dK (TD [] id)):=aa
  generalize upd H q (.dK [])=H1 at s1 M
  lk;refine%[_,.inl (SqL.of (s1 _ _ ha))|λj fw=>k2 _ _ (ap λD3 k3 r3=>?_)];have ae:j≠q:=λc=>by rw[c,M]at fw;cases fw
  have s2:=af.upd (o:= .lst (A0.map V.str)) fw;have hw:upd H1 j (.lst (A0.map V.str)) j=_:=aa;have M:=s2 _ _ M;have a0:=s1.trans s2;have a1:=s1.free fw
  generalize upd H1 j (.lst (A0.map V.str))=H2 at hw M a0
  refine⟨λn σ a=>∃(o5 J:Option V) (U W:ZB) (g:Str->Str),σ=[!d,!u,!al,!q,!j,o5,J]/\af H a/\a q=some (.dK (TD U g))/\a j=some (.lst (W.map V.str))/\HP ks ns L m A0 U g W/\n=2*(61-U.length) +W.length/\n<=200,%[_,none,none,[],A0,id,rfl,a0,M,hw,%[%[Yv|λi x e=>(nomatch e)],λ_ h=>(nomatch h),λ_ h=>(nomatch h),λb u=>%[an b u|.inl u]|λb u=> .inl (u.elim (λh=>h) λ⟨_,h,_⟩=>(nomatch h))],rfl|by rw[length_nil];lia],?_⟩;intro n σ H3 %[o5,J,U,W,g,rfl,sm,M,hw,B,rfl|ab];have wm:(W.map V.str).length=W.length:=Z5 _;lk;have Ul:=STab.nodup_sub B.ask.nd B.qn;refine%[W.length,.inl %[_,SqL.of hw|wm.symm]|bj (λc=>?_) λc=>?_]
  .have c:=Zn c;obtain⟨W1,b,rfl⟩:∃W1 b,W=W1++[b]:=%[W.dropLast,W.getLast (λe=>by rw[e]at c;simp at c)|(List.dropLast_concat_getLast _).symm]
   refine⟨λa2 a=>∃n',n'<2*(61-U.length) +(W1++[b]).length/\∃(o5 J:Option V) (U W:ZB) (g:Str->Str),a2=[!d,!u,!al,!q,!j,o5,J]/\af H a/\a q=some (.dK (TD U g))/\a j=some (.lst (W.map V.str))/\HP ks ns L m A0 U g W/\n'=2*(61-U.length) +W.length/\n'<=200,λa2 a ⟨n',h1,o5,J,U,W,g,h2,h3,h4,h5,h6,h7⟩=>%[n',h1,%[o5,J|h2],h3,U,W,g,h4,h5,h6|h7],.inl %[_|SqL.of hw],j,_,.str b,rfl,rfl,hw,by simp,az λbb hK=>?_⟩;have dl:((W1++[b]).map V.str).dropLast=W1.map V.str:=Zc▸List.dropLast_concat;rw[dl];have a3:upd H3 j (.lst (W1.map V.str)) j=_:=aa;have a4:upd H3 j (.lst (W1.map V.str)) q=some (.dK (TD U g)):=(ak ae.symm)▸M;have N:af H (upd H3 j (.lst (W1.map V.str))):=af.set sm a1
   generalize upd H3 j (.lst (W1.map V.str))=H4 at a3 a4 N ⊢
   have%[bn|a6]:=B.wn b ∅;have%[o|ed]:=re.at_;have%[r,a7,er|gv]:=lR (rs:=rs) (y:=b) ((rk b).mpr bn);have%[%[ro|a5],bl|C]:=re.in_ r a7;rw[er]at C;unfold qI;lk;have kl:(SD r.2.2).length=r.2.2.length:=Z5 _;refine%[_,(.inl %[_,Sum.inr b,.inr %[o|N _ _ ed],rfl|gv.symm]),_,rfl,_,_,N _ _ a5|hK _ _ (uF (λi σ a=>(∃J,σ=[!d,!u,!al,!q,!j,-b,J])/\af H a/\∃(l W2:ZB) (g1:Str->Str),a q=some (.dK (TD l g1))/\a j=some (.lst (W2.map V.str))/\Ej ks ns L m A0 l g1 W2 b/\(∀x∈r.2.2.take i,x∈l)/\2*(61-l.length) +W2.length<=2*(61-U.length) +W1.length)
    %[%[_|rfl],N,U,W1,g,a4,a3,%[B.ask,B.ql,B.qn,λc hc=>B.wn c (Yn _ hc),λc hc=>(B.cl c hc).elim (λh=>(X9 h).imp_right λh=> .inl (Xa h)) λh=> .inr (.inr h)|a6],λ_ h=>(nomatch h)|Zh _] (λi σ a _ h=>h.2.1 _ _ a5) ?_ ?_)]
   .intro i k v σ a hv %[%[J|rfl],O,l,W2,g1,G,Y,t,dn|le];unfold SD VD at hv;rw[Zk]at hv;have%[p,hp|ep]:=map_eq_some_iff.mp hv;obtain⟨rfl,rfl⟩:Sum.inr p=k/\V.bl true=v:=%[congrArg (·.1) ep|congrArg (·.2) ep]
    have tk:r.2.2.take (i+1)=r.2.2.take i++[p]:=by rw[X0,hp];rfl
    have bp:=(C p).mp (Z7 hp);have bm:=STab.nodup_sub t.ask.nd t.qn;show j6 _ _ _ _ [!d,!u,!al,!q,!j,-b,-p] a;refine aC λD4 k4 r4=>?_
    lk;refine%[_,cD.k (k:=Sum.inr p) G|bj (λc=>?_) λc=>?_]
    .have pn:p∉l:=λh=>by rw[cJ.1.mpr h]at c;cases c
     refine%[_,iQ.k (k:=Sum.inr p) G (by unfold TD VD;rw[Z5];exact aB ⋯)|?_];rw[wP pn];have I:=af.set (o:= .dK (TD (l++[p]) λz=>if z=p then b else g1 z)) O fq;have ag:upd a q (.dK (TD (l++[p]) λz=>if z=p then b else g1 z)) q=_:=aa;have as:upd a q (.dK (TD (l++[p]) λz=>if z=p then b else g1 z)) j=some (.lst (W2.map V.str)):=(ak ae)▸Y
     generalize upd a q (.dK (TD (l++[p]) λz=>if z=p then b else g1 z))=H6 at I ag as ⊢
     have gh:cD H6 u (.str p) (bG (TD L m) (Sum.inr p)):= .inl %[_,Sum.inr p,hh.imp (I _ _) λ⟨o,e⟩=>%[o|I _ _ e],rfl|rfl];refine%[_,gh|bj (λe=>?_) λe=>?_]
     .have pl:p∉L:=λh=>by rw[cJ.1.mpr h]at e;cases e
      exact r4 _ _ (r3 _ _ (kk q H6 _ _ I fq ag (xY t.ask pn bp t.by_) (λx hx=>(X9 hx).elim (t.qn x) λh=>Xa h▸rn _ _ bp) (.inl %[p,Yo _ Zl|pl])))
     .have pl:p∈L:=cJ.1.mp (by cases h:(bG (TD L m) (Sum.inr p)).isSome with
       | true=>rfl
       | false=>rw[h]at e;exact absurd rfl e)
      rw[cJ.2 pl]at gh;have bt:W2.length<=200:=by rw[Z8]at ab;lia
      refine%[.inl %[_|SqL.of as],_,gh,_,as,by rw[Z5];exact aB ⋯|k4 _ _ %[%[_|rfl],af.set I a1,l++[p],W2++[m p],_,(ak ae.symm).trans ag,by rw[aa,Zc];rfl,t.add pn bp pl (rn _ _ bp) (mn p pl),λx hx=>?_|?_]]
      .rw[tk]at hx;exact(X9 hx).elim (λh=>Yn _ (dn x h)) λh=>Yo _ h
      .have a8:=STab.nodup_sub (t.add pn bp pl (rn _ _ bp) (mn p pl)).ask.nd (t.add pn bp pl (rn _ _ bp) (mn p pl)).qn;rw[Z8,Ye]at a8 ⊢;rw[Z8,Ye]
       lia
    .have pu:p∈l:=cJ.1.mp (by cases h:(bG (TD l g1) (Sum.inr p)).isSome with
      | true=>rfl
      | false=>rw[h]at c;exact absurd rfl c)
     refine k4 _ _ %[%[_|rfl],O,l,W2,g1,G,Y,t,λx hx=>?_|le];rw[tk]at hx;exact(X9 hx).elim (dn x) λh=>Xa h▸pu
   .intro σ a %[%[J|rfl],O,l,W2,g1,G,Y,t,dn|le];rw[kl,Zm (Zh _)]at dn;rw[Z8,Ye]at ab;refine%[_,?_,_,_,l,W2,g1,rfl,O,G,Y,%[t.ask,t.ql,t.qn,t.wn|λc hc=>?_],rfl|⋯]
    .rw[Z8,Ye];lia
    .rcases t.cl c hc with h|rfl|h
     .exact .inl h
     .exact .inr λp hp=>dn p ((C p).mpr hp)
     .exact .inr h
  .refine k3 _ _ ?_;have e:W=[]:=by
    cases W with
    | nil=>rfl
    | cons x W=>exact absurd (Ze (by rw[Zq];lia)) c
   subst e;lk;exact kk q H3 U g sm fq M B.ask B.qn (.inr %[B.ql|λb u=>(B.cl b u).resolve_left λh=>(nomatch h)])
inductive Cl (vs:ZM) (H:Hp) (Q:VK) (E0:XK):Prop
 | mk (d hb al:Addr) (ks:List _) (rs:Gs Str) (ns L A0:ZB) (m:Str->Str):vs=[.ref d,.ref hb,.ref al]->ReF H ks d rs->(∀x,x∈rs.map (·.1)↔x∈ns)->(∀x y,Rch ks x y->y∈ns)->ns.length<=60->ns.Nodup->Rd H hb (.dK (TD L m))->(∀x∈L,m x∈ns)->H al=some (.lst (A0.map V.str))->(∀x∈A0,x∈ns)->A0.length<=60->(∀q o H' U g,af H H'->H' q=some (.frz o (.dK (TD U g)))->Ask (Rch ks) L m A0 U g->(∀x∈U,x∈ns)->((∃f∈U,f∉L)\/((∀x∈U,x∈L)/\∀b,(b∈A0\/∃y∈U,y∈L/\m y=b)->∀p,Rch ks b p->p∈U))->Q (.ref q) H')->Cl vs H Q E0
inductive x4 (vs:ZM) (H:Hp) (Q:VK) (E0:XK):Prop
 | mk (d o L m):vs=[.ref d]->H d=some (.frz o (.dK (TD L m)))->L.length<=60->L.Nodup->(∀x∈L,∀y∈L,m x=m y->x=y)->(∀t H' i,af H H'->H t=none->H' t=some (.dK (TD (L.map m) i))->(∀x∈L,i (m x)=x)->Q (.ref t) H')->x4 vs H Q E0
inductive Cm (vs:ZM) (H:Hp) (Q:VK) (E0:XK):Prop
 | mk (d L m):vs=[.ref d]->Rd H d (.dK (TD L m))->L.length<=60->L.Nodup->(∀x∈L,∀y∈L,m x=m y->x=y)->(∀t H' i,af H H'->H t=none->H' t=some (.dK (TD (L.map m) i))->(∀x∈L,i (m x)=x)->Q (.ref t) H')->Cm vs H Q E0
theorem kT(T:Txt K mg):↥1 "ask_around" ["partners","held_by","askers"] Cl:=by
 refine(pP T).freeze.imp λvs H Q E zqw=>?_;have%[d,i,j,ks,rs,l,L,n,m,p,r,s,t,u,v,y,z,A,f,h|B]:=zqw;refine %[d,i,j,ks,rs,l,L,n,m,p,r,s,t,u,v,y,z,A,f,h|λq I U g C J G a b c=>%[[q]|λM=>B q _ _ U g (λx o e=>?_) (mR Zl G) a b c]]
 rw[n8]
 .exact C x o e
 grind
theorem lS(T:Txt K mg):↥1 "keys_by_value" ["some"] x4:=by
 refine T.aT.cal cK (λH vs Q E h=>?_)
 .have%[d,o,L,m,rfl,hd,ag,nd,inj|kk]:=h;refine%[rfl|λf ae A outer s hr=>?_];refine%[_,%["JCH1yCT~,0fMK2MK3gDw213DG1",cK.nd|hr]|?_]
  show bc _ _ _ [!d,none,none,none] H;refine ap λD1 k1 _=>?_
  lk;intro t G;refine k1 _ _ (ap λD2 k2 _=>az λab hK=>?_);have I:=af.upd (o:= .dK []) G;have ht:upd H t (.dK []) t=some (.dK (TD (([]:ZB).map m) id)):=aa
  generalize upd H t (.dK [])=H1 at I ht
  unfold wz;lk;have ll:(TD L m).length=L.length:=Z5 _;refine%[_,_,I _ _ hd|hK _ _ (zx (λi u a=>(∃J M,u=[!d,!t,J,M])/\af H a/\∃l:Str->Str,a t=some (.dK (TD ((L.take i).map m) l))/\∀x∈L.take i,l (m x)=x)
   %[%[_,_|rfl],I,id,ht|λ_ h=>(nomatch h)] (λi u a _ h=>h.2.1 _ _ hd) ?_ ?_)]
  .intro i k v B u a N %[%[J,M|rfl],O,l,b|g] U;unfold TD VD at N;rw[Zk]at N;have%[x,Y|ex]:=map_eq_some_iff.mp N;obtain⟨rfl,rfl⟩:Sum.inr x=k/\V.str (m x)=v:=%[congrArg (·.1) ex|congrArg (·.2) ex]
   have s2:=af.upd (o:= .tup [.str x,.str (m x)]) U;have n:upd a B (.tup [.str x,.str (m x)]) B=_:=aa;have p:=s2 _ _ b;have q:=O.trans s2;show Ae _ _ _ _ _ (upd a B (.tup [.str x,.str (m x)])) _
   generalize upd a B (.tup [.str x,.str (m x)])=H2 at n p q ⊢
   have tk:L.take (i+1)=L.take i++[x]:=by rw[X0,Y];rfl
   have xn:m x∉(L.take i).map m:=λc=>by
    have%[y,C|e]:=Xb c;have%[j|r]:=X3 C;have jl:=(X8 r).1;rw[Yf]at jl;rw[Y5 ⋯]at r;rw[inj y (Z7 r) x (Z7 Y) e]at r;have:=cP nd r Y
    lia
   refine%[_,SqT.of n,rfl,_,_,rfl,_,_,rfl,rfl|?_];show m8 _ _ _ _ [!d,!t,-x,some (.str (m x))] H2;refine aC λD3 k3 _=>?_
   lk;have tl:(L.take i).length<=60:=by rw[Yf];lia
   refine%[_,iQ.k (k:=Sum.inr (m x)) p (by unfold TD VD;rw[Z5,Z5];exact aB ⋯)|k3 _ _ %[%[_,_|rfl],af.set q G,λz=>if z=m x then x else l z,?_|λy C=>?_]]
   .rw[aa,wP xn,tk,Zc];rfl
   .rw[tk]at C;rcases X9 C with h|h
    .show(if m y=m x then x else l (m y))=y;rw[if_neg (λe:m y=m x=>xn (e▸Xc %[y,h|rfl]))];exact g y h
    .rw[Xa h];show(if m x=m x then x else l (m x))=x;rw[if_pos rfl]
  .intro u a %[%[J,M|rfl],O,l,b|g];rw[ll,Zm (Zh _)]at b g;refine k2 _ _ ?_;lk;exact kk t a l O G b g
theorem c8(T:Txt K mg):↥1 "keys_by_value" ["some"] Cm:=by
 refine(lS T).frozen.imp λvs H Q E zqw=>?_;have%[d,L,m,f,a,g,h,j|l]:=zqw;refine a.elim (λa=> .inr %[d,_,by rw[f];rfl,a|λo=>%[d,o,L,m,f,aa,g,h,j|λt r i p b q hi=>?_]]) λ⟨o,a⟩=> .inl %[d,o,L,m,f,a,g,h,j|l]
 have n:t≠d:=λc=>by rw[c,aa]at b;cases b
 rw[ak n]at b;refine l t _ i (λc o e=>?_) b ((ak n)▸q) hi;by_cases z:c=d
 .rw[z]at e ⊢;rw[a]at e;rw[aa];exact e
 .rw[ak z];exact p c o ((ak z)▸e)
inductive x5 (vs:ZM) (H:Hp) (Q:VK) (E0:XK):Prop
 | mk (hb q o f a0 ks L U m g S T):vs=[.ref hb,.ref q,.str f]->H hb=some (.dK (TD L m))->H q=some (.frz o (.dK (TD U g)))->L.length<60->Mat (Rch ks) L m->Ask (Rch ks) L m [a0] U g->(∀x∈L,m x≠a0)->kz (Rch ks) L m S T->f∈U->f∉L->(∀H' L' m',(∀c o,c≠hb->H c=some o->H' c=some o)->H' hb=some (.dK (TD L' m'))->Mat (Rch ks) L' m'->kz (Rch ks) L' m' S T->(∀x,x∈L'↔x∈L\/x=f)->(∀x∈L',m' x=a0\/∃y∈L,m y=m' x)->(∀y,y=a0\/(∃x∈L,m x=y)->∃x∈L',m' x=y)->Q .non H')->x5 vs H Q E0
def HQ(s:Hp)(d q t:Addr)(f l:Str)(ks:List ZB)(L U:ZB)(m g:Str->Str)(S T:Str->Prop)(n:Nat)(r:L2.St)(e:Hp):Prop:=(∀c o,c≠d->s c=some o->e c=some o)/\∃C h,((∃p j i,r=[!d,!q,-f,!t,-p,i]/\n9 (Rch ks) L U m g T f C j p/\e d=some (.dK (TD h λx=>if x∈C then g x else m x))/\((C=[]/\h=L)\/(f∈C/\h=L++[f]))/\n=j+1)\/(∃i,r=[!d,!q,-f,!t,some .non,i])/\n=0/\∃a b,e d=some (.dK (TD a b))/\Mat (Rch ks) a b/\kz (Rch ks) a b S T/\(∀x,x∈a↔x∈L\/x=f)/\(∀x∈a,b x=l\/∃y∈L,m y=b x)/\∀y,y=l\/(∃x∈L,m x=y)->∃x∈a,b x=y)
theorem zU(T:Txt K mg):↥2 "pass_on" ["held_by","asked_by","free"] x5:=by
 refine T.aS.cal fD (λH vs Q E h=>?_)
 .have%[b,q,o,f,J,ks,L,U,m,g,S,N,rfl,B,O,a1,M,a,h0,Y,fU,G|kk]:=h;refine%[rfl|λ_ as A outer s I=>?_];refine%[_,%["JCH3F~mA0BCH42D<L~Q4(CH5j14Cw504DH4~O](3A5B",fD.nd|I]|?_]
  show bc _ _ _ [!b,!q,-f,none,none,none] H;refine ap λD1 k1 _=>?_
  lk;refine%[b,L,m,rfl,.inl B,⋯,M.nd,M.inj|λt H1 i s1 ft ht hi=>k1 _ _ (ap λD2 k2 _=>?_)];lk;refine k2 _ _ ?_;have ab:t≠b:=λc=>by rw[c,B]at ft;cases ft
  have ae:q≠b:=λc=>by rw[c,B]at O;cases O
  have%[i0|ag]:=X3 fU;refine%[HQ H1 b q t f J ks L U m g S N,
   %[_,λ_ _ _ e=>e,[],L|.inl %[f,i0,none,rfl,n9.start Y G ag,by rw[s1 _ _ B];rfl,.inl %[rfl|rfl]|rfl]]|?_]
  rintro n σ H2 ⟨sm,C,L1,⟨p,j,o5,rfl,bk,ai,r,rfl⟩|⟨⟨o5,rfl⟩,rfl,L',m',e1,e2,e3,e4,e5,e6⟩⟩
  .lk;rw[if_pos ∅];refine⟨λaj H'=>∃n',n'<j+1/\HQ H1 b q t f J ks L U m g S N n' aj H',λ_ _ h=>h,?_⟩;have pU:p∈U:=Z7 bk.at_;have a2:L1.length<=60:=by
    rcases r with⟨_,rfl⟩|⟨_,rfl⟩
    .lia
    .rw[Z8,Ye];lia
   have pC:p∉C:=λc=>by
    have%[k,kl|hk]:=bk.far p c;have:=cP a.nd bk.at_ hk
    lia
   have put:cQ (TD L1 λx=>if x∈C then g x else m x) (Sum.inr p) (.str (g p))=TD (L++[f]) λx=>if x∈C++[p]then g x else m x:=by
    have fe:(λz=>if z=p then g p else if z∈C then g z else m z)=λx=>if x∈C++[p]then g x else m x:=funext λz=>by
     by_cases e:z=p
     .rw[if_pos e,if_pos (by rw[e];simp),e]
     .have:z∈C++[p]↔z∈C:=by rw[Ym,Yr];exact or_iff_left e
      rw[if_neg e];simp only[this]
    rcases r with⟨rfl,rfl⟩|⟨fc,rfl⟩
    .obtain rfl:p=f:=bk.hf.resolve_left λh=>(nomatch h)
     rw[wP G,fe]
    .unfold TD;rw[wN (Yn _ (bk.own.resolve_left λe=>pC (e▸fc))),<-fe];exact congrArg (VD _) (funext λz=>by by_cases e:z=p<;> simp[e])
   refine%[_,(.inl %[_,Sum.inr p,.inr %[o|sm _ _ ae (s1 _ _ O)],rfl|(cJ.2 pU).symm]),_,iQ.k (k:=Sum.inr p) ai (by unfold TD VD;rw[Z5];exact aB ⋯)|?_];rw[put];have u:upd H2 b (.dK (TD (L++[f]) λx=>if x∈C++[p]then g x else m x)) b=_:=aa;have d:∀c o,c≠b->H1 c=some o->upd H2 b (.dK (TD (L++[f]) λx=>if x∈C++[p]then g x else m x)) c=some o:=λc o n e=>(ak n)▸sm c o n e
   have v:=d _ _ ab ht;have al:f∈C++[p]:=by rw[Ym,Yr];exact bk.hf.imp_right Eq.symm
   refine%[.inr (.inr (.inl (.inl %[_|v]))),Sum.inr (g p),rfl,_,v|?_];by_cases c:∃y∈L,m y=g p
   .have%[y,l|ym]:=c;have%[k,kl|an]:=bk.step M a h0 Y l ym;have iy:i (g p)=y:=ym▸hi y l;rw[cJ.2 (Xc %[y,l|ym]),iy];exact%[k+1,⋯,d,C++[p],L++[f]|.inl %[y,k,_,rfl,an,u,.inr %[al|rfl]|rfl]]
   .have no:∀y∈L,m y≠g p:=λy l e=>c %[y,l|e]
    have nn:bG (TD (L.map m) i) (Sum.inr (g p))=none:=eU λh=>by
     have%[y,l|e]:=Xb h;exact no y l e
    rw[nn];have nd:(L++[f]).Nodup:=nodup_append.mpr %[M.nd,by simp|λx hx y hy e=>G (by rw[<-Xa hy,<-e];exact hx)];have%[e2,e3,_,e5|e6]:=bk.fin M a Y G no nd λx=>by rw[Ym,Yr]
    exact%[0,⋯,d,[],[]|.inr %[%[_|rfl],rfl,L++[f],_,u,e2,e3,λx=>by rw[Ym,Yr],e5|e6]]
  .lk;rw[if_neg ∅];exact kk H2 L' m' (λc o n e=>sm c o n (s1 _ _ e)) e1 e2 e3 e4 e5 e6
structure eM (ks:List _) (ns L:ZB) (m:Str->Str) (N:ZB):Prop where
 mat:Mat (Rch ks) L m
 mn:∀x∈L,m x∈N
 ln:∀x∈L,x∈ns
 sh:∃S T,kz (Rch ks) L m S T/\∀a∈N,(∃x∈L,m x=a)\/S a
inductive x6 (vs:ZM) (H:Hp) (Q:VK) (E0:XK):Prop
 | mk (d ks rs ns):vs=[.ref d]->ReF H ks d rs->(∀x,x∈rs.map (·.1)↔x∈ns)->(∀x y,Rch ks x y->y∈ns)->ns.length<=60->ns.Nodup->(∀hb H' L m,af H H'->H hb=none->H' hb=some (.dK (TD L m))->eM ks ns L m ns->Q (.ref hb) H')->x6 vs H Q E0
theorem zV{L:ZB}{m:Str->Str}(nd:L.Nodup)(inj:∀x∈L,∀y∈L,m x=m y->x=y):(L.map m).Nodup:=by
 rw[Yu,Yz];exact X4 (λ{x y} a b n e=>n (inj x a y b e)) (nodup_iff_pairwise_ne.mp nd)
theorem eV(T:Txt K mg):↥3 "most_pairs" ["partners"] x6:=by
 refine T.aQ.cal cT (λH vs Q E h=>?_)
 .have%[d,ks,rs,ns,rfl,re,Y,rn,nl,nn|kk]:=h;refine%[rfl|λf bf A outer s hr=>?_];have%[o|hd]:=re.at_;have rl:rs.length<=60:=by
   have:=STab.nodup_sub re.nd λx b=>(Y x).mp b
   rw[Z5]at this
   lia
  refine%[_,%["JC!1bcyCT~V0K2CH3F~.A0AN1AQA2BBC~A4cbd?1~V3X0?2/;0N10DOL~CVWA4BEDYF])AN1A3AR4EBPDGN1",cT.nd,(show bD (ah eQ) ["partners","held_by","asker","asked_by","free"] _ ["partner","held_by"] [(1,1)]=true from by decide +kernel),(show(["partner","held_by"]:ZB).Nodup from by decide +kernel)|hr]|?_]
  show bc _ _ _ [!d,none,none,none,none] H;refine ap λD1 k1 _=>?_
  lk;intro z fb;refine k1 _ _ (ap λD2 k2 _=>az λab hK=>?_);have s1:=af.upd (o:= .dK []) fb;have hh:upd H z (.dK []) z=some (.dK (TD [] id)):=aa
  generalize upd H z (.dK [])=H1 at s1 hh
  unfold qI;lk;have gl:(gD rs).length=rs.length:=Z5 _;refine%[_,_,s1 _ _ hd|hK _ _ (uF (λi G B=>(∃o2 o3 o4,G=[!d,!z,o2,o3,o4])/\af H B/\∃(L:ZB) (m:Str->Str),B z=some (.dK (TD L m))/\eM ks ns L m ((rs.map (·.1)).take i))
   %[%[_,_,_|rfl],s1,[],id,hh,%[Yv,λ_ h=>(nomatch h)|λ_ h=>(nomatch h)],λ_ h=>(nomatch h),λ_ h=>(nomatch h),λ_=>False,λ_=>False,%[λ_ h=>h.elim|λ_ h=>h.elim]|λ_ h=>(nomatch h)] (λi G B _ h=>h.2.1 _ _ hd) ?_ ?_)]
  .intro i k v G B hv %[%[o2,o3,o4|rfl],sm,L,m,hh|l];unfold gD at hv;rw[Zk]at hv;have%[r,ae|er]:=map_eq_some_iff.mp hv;obtain⟨rfl,rfl⟩:Sum.inr r.1=k/\V.ref r.2.1=v:=%[congrArg (·.1) er|congrArg (·.2) er]
   generalize ea:r.1=t at*
   have hN:(rs.map (·.1))[i]? =some t:=by rw[Zk,ae,<-ea];rfl
   have tk:(rs.map (·.1)).take (i+1)=(rs.map (·.1)).take i++[t]:=by rw[X0,hN];rfl
   have a3:t∉(rs.map (·.1)).take i:=λc=>by
    have%[j|u]:=X3 c;have jl:=(X8 u).1;rw[Yf]at jl;rw[Y5 ⋯]at u;have:=cP re.nd u hN
    lia
   have a4:t∈ns:=(Y t).mp (Z7 hN);have ag:∀x∈(rs.map (·.1)).take i,x∈ns:=λx b=>(Y x).mp (Yq b)
   have Ll:L.length<=i:=by
    have:=STab.nodup_sub (zV l.mat.nd l.mat.inj) (m:=(rs.map (·.1)).take i) λy hy=>by
     have%[x,b|rfl]:=Xb hy;exact l.mn x b
    rw[Z5,Yf]at this
    lia
   have il:i<rs.length:=(X8 ae).1;show bc _ _ _ [!d,!z,-t,o3,o4] B;refine ap λD3 k3 _=>?_
   lk;refine%[#[1]|λal a5=>?_];have s2:=af.upd (o:= .lst [V.str t]) a5;have ai:upd B al (.lst [V.str t]) al=some (.lst ([t].map V.str)):=aa;have M:=s2 _ _ hh;have N:=sm.trans s2
   generalize upd B al (.lst [V.str t])=H2 at ai M N ⊢
   refine%[d,z,al,ks,rs,ns,L,[t],m,rfl,re.up N,Y,rn,nl,nn,.inl M,λx b=>ag _ (l.mn x b),ai,λx b=>Xa b▸a4,(show 1<=60 by decide)|λq oq H3 U g s3 hq ask un a6=>k3 _ _ (ap λD4 k4 _=>aF λab hK=>?_)];have a7:=N.trans s3;have aj:=s3 _ _ M;have Ul:=STab.nodup_sub ask.nd un;unfold qI;lk;refine%[_,_,hq|hK _ _ λF hF=>?_];have ql:(TD U g).length=U.length:=Z5 _;refine bw (J:=Itk q oq (TD U g)) (n:=U.length) (D:=F) (λj vs G H4=>(∃o1,G=[o1,!z])/\af H3 H4/\H4 F=some (.lst vs)/\vs=((U.take j).filter λx=>decide (x∉L)).map V.str)
    %[%[none|rfl],af.upd hF,aa|rfl] (λj _ _ H4 u O=>%[O.2.1 _ _ hq|by rw[ql];exact u]) (λ_ _ H4 O=>%[O.2.1 _ _ hq|by exact ql▸Zh _]) ?_ ?_
   .intro j vs G H4 u %[%[o1|rfl],p,an|rfl] x H5 %[e2,kx,vx,b|rfl];subst e2;unfold TD VD at b;rw[Zk,Z4 u]at b;obtain rfl:Sum.inr U[j]=kx:=congrArg (·.1) (Z9 b);lk;refine%[_,cD.k (k:=Sum.inr U[j]) (p _ _ aj)|bj (λc=>?_) λc=>?_]
    .have n:U[j]∉L:=λh=>by rw[cJ.1.mpr h]at c;cases c
     refine CK.mk u an (by rw[Z5];have:=Yc (λx=>decide (x∉L)) (U.take j);rw[Yf]at this;exact aB ⋯) %[%[_|rfl],af.set p hF,aa|?_];rw[X0,Z4 u,Zz,Zc];show _=_++(List.filter _ [U[j]]).map V.str;rw[Y1 (by simpa using n)];rfl
    .have n:U[j]∈L:=cJ.1.mp (by cases h:(bG (TD L m) (Sum.inr U[j])).isSome with
      | true=>rfl
      | false=>rw[h]at c;exact absurd rfl c)
     refine CN.mk u %[%[_|rfl],p,an|?_];rw[X0,Z4 u,Zz,Zc];show _=_++(List.filter _ [U[j]]).map V.str;rw[Y0 (by simpa using n)];simp
   intro vs G H4 %[_,p,C|rfl];rw[Zm (Zh _)]at C;refine k4 _ _ (aC λD5 k5 _=>?_);have I:=a7.trans p;have a1:=p _ _ aj;have%[S,T',sh|all]:=l.sh;lk;have h0:∀x∈L,m x≠t:=λx b e=>a3 (e▸l.mn x b)
   have mt:∀{a},a∈(rs.map (·.1)).take (i+1)↔a∈(rs.map (·.1)).take i\/a=t:=λ{a}=>by rw[tk,Ym,Yr]
   have fl:∀{x},x∈U.filter (λx=>decide (x∉L))↔x∈U/\x∉L:=λ{x}=>by rw[List.mem_filter,decide_eq_true_iff]
   generalize U.filter (λx=>decide (x∉L))=Fr at C fl
   have vl:(Fr.map V.str).length=Fr.length:=Z5 _;refine%[Fr.length,.inl %[_,SqL.of C|vl.symm]|bj (λc=>?_) λc=>?_]
   .have c:0<Fr.length:=by have:=Zn c;lia
    have%[fU|fL]:=fl.mp (Y6 c);refine%[_,SqL.of C,.str Fr[0],cA (by rw[Zk,Z4 c];rfl),z,q,oq,Fr[0],t,ks,L,U,m,g,S,T',rfl,a1,p _ _ hq,⋯,l.mat,ask,h0,sh,fU,fL|λH5 L' m' keep a8 a2 a9 bb e5 e6=>k5 _ _ %[%[_,_,_|rfl],λc o e=>keep c o (ar e fb) (I _ _ e),L',m',a8,a2,λx b=>?_,λx b=>?_,S,T',a9|λa ha=>?_]]
    .rcases e5 x b with e|⟨y,yl,e⟩
     .exact mt.mpr (.inr e)
     .exact mt.mpr (.inl (e▸l.mn y yl))
    .exact((bb x).mp b).elim (l.ln x) λe=>e▸un _ fU
    .rcases mt.mp ha with h|h
     .exact(all a h).imp_left λh=>e6 a (.inr h)
     .exact .inl (e6 a (.inl h))
   .have e:∀x∈U,x∈L:=λx b=>Decidable.byContradiction λn=>by
     have:=fl.mpr %[b|n];cases Fr with
     | nil=>cases this
     | cons y Fr=>exact c (Ze (by rw[Zq];lia))
    refine k5 _ _ %[%[_,_,_|rfl],I,L,m,a1,l.mat,λx b=>mt.mpr (.inl (l.mn x b)),l.ln,_,_,sh.or (Ask.closed e ((a6.resolve_left λ⟨f,h1,h2⟩=>h2 (e f h1)).2))|λa ha=>?_];rcases mt.mp ha with h|h
    .exact(all a h).imp_right .inl
    .exact .inr (.inr (.inl (h▸Zl)))
  .intro G B %[%[o2,o3,o4|rfl],sm,L,m,hh|l];rw[gl,<-Z5 (f:=(·.1)) (as:=rs),Zm (Zh _)]at l;refine k2 _ _ ?_;lk;have%[S,T',sh|all]:=l.sh;exact kk z B L m sm fb hh %[l.mat,λx b=>(Y _).mp (l.mn x b),l.ln,S,T',sh|λa ha=>all a ((Y a).mpr ha)]
inductive x8 (vs:ZM) (H:Hp) (Q:VK) (E0:XK):Prop
 | mk (d hb o ks rs ns L m):vs=[.ref d,.ref hb]->ReF H ks d rs->(∀x,x∈rs.map (·.1)↔x∈ns)->(∀x y,Rch ks x y->y∈ns)->ns.length<=60->ns.Nodup->H hb=some (.frz o (.dK (TD L m)))->eM ks ns L m ns->(∀l H' (lf:ZB),af H H'->H' l=some (.lst (lf.map V.str))->lf.length=L.length->(∀a b,a∈ns->Rch ks a b->a∈lf\/b∈lf)->Q (.ref l) H')->x8 vs H Q E0
theorem jy(T:Txt K mg):↥2 "one_of_each_pair" ["partners","held_by"] x8:=by
 refine T.aU.cal cO (λH vs Q E h=>?_)
 .have%[d,hb,o,ks,rs,ns,L,m,rfl,re,rk,rn,nl,nn,hh,pr|kk]:=h;refine%[rfl|λf a9 A outer s hr=>?_];have%[od|hd]:=re.at_;have rl:rs.length<=60:=by
   have:=STab.nodup_sub re.nd λx l=>(rk x).mp l
   rw[Z5]at this
   lia
  have Ll:=STab.nodup_sub pr.mat.nd pr.ln;refine%[_,%["JC!2bcF~mA1BC!3bcF~.A0A1And?1~V0X0?2/;0N10BDGnd?3~,1fMX0?4MX1?4gt]*~g0N201",cO.nd,(show bD (ah bP) ["partners","held_by","holds","asked_by"] _ ["asker","holds"] [(1,2)]=true from by decide +kernel),(show(["asker","holds"]:ZB).Nodup from by decide +kernel),(show bD (ah bP) ["partners","held_by","holds","asked_by"] _ ["partner","asker","asked_by"] [(2,3)]=true from by decide +kernel),(show(["partner","asker","asked_by"]:ZB).Nodup from by decide +kernel)|hr]|?_]
  show bc _ _ _ [!d,!hb,none,none] H;refine ap λD1 k1 _=>?_
  lk;refine%[hb,L,m,rfl,.inr %[o|hh],⋯,pr.mat.nd,pr.mat.inj|λt H1 i s1 ft ht hi=>k1 _ _ (ap λD2 k2 _=>?_)];lk;refine aF λaj hK=>?_
  unfold qI;lk;have M:=s1 _ _ hd;refine%[_,_,M|hK _ _ λF hF=>?_]
  generalize eN:rs.map (·.1)=N at rk
  have Nl:N.length=rs.length:=by rw[<-eN,Z5]
  have gl:(gD rs).length=N.length:=by rw[Nl];exact Z5 _
  have kN:∀(j:Nat) k v,(gD rs)[j]? =some (k,v)->∃x,N[j]? =some x/\k=Sum.inr x:=λj k v h=>by
   unfold gD at h;rw[Zk]at h;have%[r,h1|h2]:=map_eq_some_iff.mp h;exact%[r.1,by rw[<-eN,Zk,h1];rfl|(congrArg (·.1) h2).symm]
  refine bw (J:=Itk d od (gD rs)) (n:=N.length) (D:=F) (λj vs I H2=>(∃O,I=[O,!t])/\af H1 H2/\H2 F=some (.lst vs)/\vs=((N.take j).filter λx=>decide (x∉L.map m)).map V.str)
   %[%[none|rfl],af.upd hF,aa|rfl] (λj _ _ H2 C p=>%[p.2.1 _ _ M|by rw[gl];exact C]) (λ_ _ H2 p=>%[p.2.1 _ _ M|by exact gl▸Zh _]) ?_ ?_
  .intro j vs I H2 C %[%[O|rfl],B,al|rfl] x H3 %[e2,kx,vx,l|rfl];subst e2;have%[z,hz|rfl]:=kN j kx vx l;have tk:N.take (j+1)=N.take j++[z]:=by rw[X0,hz];rfl
   lk;refine%[_,cD.k (k:=Sum.inr z) (B _ _ ht)|bj (λc=>?_) λc=>?_]
   .have n:z∉L.map m:=λh=>by rw[cJ.1.mpr h]at c;cases c
    refine CK.mk C al (by rw[Z5];have:=Yc (λx=>decide (x∉L.map m)) (N.take j);rw[Yf]at this;exact aB ⋯) %[%[_|rfl],af.set B hF,aa|?_];rw[tk,Zz,Zc,Y1 (by simpa using n)];rfl
   .have n:z∈L.map m:=cJ.1.mp (by cases h:(bG (TD (L.map m) i) (Sum.inr z)).isSome with
     | true=>rfl
     | false=>rw[h]at c;exact absurd rfl c)
    refine CN.mk C %[%[_|rfl],B,al|?_];rw[tk,Zz,Zc,Y0 (by simpa using n)];simp
  intro vs I H2 %[_,B,Y|rfl];rw[Zm (Zh _)]at Y;have fl:∀{x},x∈N.filter (λx=>decide (x∉L.map m))↔x∈N/\x∉L.map m:=λ{x}=>by rw[List.mem_filter,decide_eq_true_iff]
  have a3:=Yc (λx=>decide (x∉L.map m)) N
  generalize N.filter (λx=>decide (x∉L.map m))=A0 at Y fl a3
  have ab:=s1.trans B;have%[S,T',sh|all]:=pr.sh;have a4:∀x∈A0,S x:=λx l=>(all x ((rk x).mp (fl.mp l).1)).resolve_left λ⟨y,yl,e⟩=>(fl.mp l).2 (Xc %[y,yl|e])
  refine%[d,hb,F,ks,rs,ns,L,A0,m,rfl,re.up ab,eN▸rk,rn,nl,nn,.inr %[o|ab _ _ hh],pr.mn,Y,λx l=>(rk x).mp (fl.mp l).1,⋯|λq oq H3 U g s3 hq ask un a5=>k2 _ _ ?_];have a6:=ask.shut sh a4;have cl:=(a5.resolve_left λ⟨f,h1,h2⟩=>h2 (sh.mt f (a6 f h1)).1)
  have as:=ab.trans s3;have ae:=as _ _ hh;refine aF λaj hK=>?_
  unfold wz;lk;refine%[_,_,ae|hK _ _ λG hG=>?_];have tl:(TD L m).length=L.length:=Z5 _;refine bw (J:=Iti hb o (TD L m)) (n:=L.length) (D:=G) (λj vs I u=>(∃O o2,I=[O,o2,!q])/\af H3 u/\u G=some (.lst vs)/\vs=((L.take j).map λx=>if x∈U then x else m x).map V.str)
   %[%[none,none|rfl],af.upd hG,aa|rfl] (λj _ _ u C p=>%[p.2.1 _ _ ae|tl▸C]) (λ_ _ u p=>%[p.2.1 _ _ ae|tl▸Zh _]) ?_ ?_
  .intro j vs I u C %[%[O,o2|rfl],ag,a7|rfl] x H5 %[kx,vx,tp,l,a8,rfl|rfl];unfold TD VD at l;rw[Zk,Z4 C]at l;obtain⟨rfl,rfl⟩:Sum.inr L[j]=kx/\V.str (m L[j])=vx:=%[congrArg (·.1) (Z9 l)|congrArg (·.2) (Z9 l)]
   have s5:=af.upd (o:= .tup [kV (Sum.inr L[j]),.str (m L[j])]) a8;have a0:upd u tp (.tup [kV (Sum.inr L[j]),.str (m L[j])]) tp=some (.tup [.str L[j],.str (m L[j])]):=aa;have ai:=ag.trans s5;have a1:=s5 _ _ a7
   generalize upd u tp (.tup [kV (Sum.inr L[j]),.str (m L[j])])=H5 at a0 ai a1 ⊢
   have tk:L.take (j+1)=L.take j++[L[j]]:=by rw[X0,Z4 C];rfl
   refine%[_,SqT.of a0,rfl,_,_,rfl,_,_,rfl,rfl|?_];show yG [some (.str L[j]),some (.str (m L[j])),!q] H5 _;lk;have put:∀y,(if L[j]∈U then L[j]else m L[j])=y->CK G L.length j (λj vs I u=>(∃O o2,I=[O,o2,!q])/\af H3 u/\u G=some (.lst vs)/\vs=((L.take j).map λx=>if x∈U then x else m x).map V.str) (((L.take j).map λx=>if x∈U then x else m x).map V.str) [some (.str L[j]),some (.str (m L[j])),!q] (.str y) H5:=λy e=>by
    refine CK.mk C a1 (by rw[Z5,Z5,Yf];exact aB ⋯) %[%[_,_|rfl],af.set ai hG,aa|?_];rw[tk,Zc,Zc,<-e];rfl
   refine%[_,(.inl %[_,Sum.inr L[j],.inr %[oq|ai _ _ hq],rfl|rfl])|bj (λc=>put _ (if_pos (cJ.1.mp c))) λc=>put _ (if_neg λh=>c (cJ.1.mpr h))]
  intro vs I u %[_,ag,a2|rfl];rw[Zm (Zh _)]at a2;refine kk G u _ (as.trans ag) a2 (Z5 _) λa b an r=>?_
  have mem:∀x∈L,(if x∈U then x else m x)∈L.map λx=>if x∈U then x else m x:=λx l=>Xc %[x,l|rfl]
  by_cases c:a∈A0\/∃y∈U,y∈L/\m y=a
  .have bU:=cl.2 a c b r;have:=mem b (cl.1 b bU);rw[if_pos bU]at this;exact .inr this
  .have%[y,yl|rfl]:=Xb (Decidable.byContradiction λn=>c (.inl (fl.mpr %[(rk a).mpr an|n])));have:=mem y yl;rw[if_neg (λh=>c (.inr %[y,h,yl|rfl]))]at this;exact .inl this
inductive Cn (vs:ZM) (H:Hp) (Q:VK) (E0:XK):Prop
 | mk (d hb ks rs ns L m):vs=[.ref d,.ref hb]->ReF H ks d rs->(∀x,x∈rs.map (·.1)↔x∈ns)->(∀x y,Rch ks x y->y∈ns)->ns.length<=60->ns.Nodup->H hb=some (.dK (TD L m))->eM ks ns L m ns->(∀l H' (lf:ZB),af H H'->H' l=some (.lst (lf.map V.str))->lf.length=L.length->(∀a b,a∈ns->Rch ks a b->a∈lf\/b∈lf)->Q (.ref l) H')->Cn vs H Q E0
theorem fO(T:Txt K mg):↥2 "one_of_each_pair" ["partners","held_by"] Cn:=by
 refine(jy T).frozen.imp λvs H Q E zqw=>?_;have%[d,a,ks,rs,n,L,m,g,b,p,q,s,t,h,v|y]:=zqw;refine  .inr %[a,_,by rw[g];rfl,h|λo=>?_]
 have ne:∀{c:Addr} {f:Obj} {u:HO},H c=some (.frz f u)->c≠a:=λe z=>by lia
 refine%[d,a,o,ks,rs,n,L,m,g,%[b.at_.imp λ_ e=>(ak (ne e))▸e,b.nd|λr i=>%[(b.in_ r i).1.imp λ_ e=>(ak (ne e))▸e|(b.in_ r i).2]],p,q,s,t,aa,v|λl I lf j A B C=>?_];have J:=j _ _ (aa);have G:l≠a:=λz=>by lia
 refine y l _ lf (λc f e=>?_) ((ak G)▸A) B C;by_cases z:c=a
 .rw[z]at e ⊢;rw[h]at e;rw[aa];exact e
 .rw[ak z];exact j c f ((ak z)▸e)
open Classical in
noncomputable def dep(ks:List ZB)(a:ZB)(x:Str):Nat:=(a.filter λy=>decide (Rch ks x y)).length
open Classical in
theorem GP(b:a.Nodup)(c:∀x,¬ Rch ks x x)(r:Rch ks x y)(d:y∈a):dep ks a y<dep ks a x:=by
 unfold dep;have:=STab.nodup_sub (l:=y::a.filter λz=>decide (Rch ks y z)) (m:=a.filter λz=>decide (Rch ks x z)) (nodup_cons.mpr %[λh=>c y (Zn (List.mem_filter.mp h).2)|b.filter _]) λz e=>by
  rcases mem_cons.mp e with rfl|h
  .exact List.mem_filter.mpr %[d|Ze r]
  .exact List.mem_filter.mpr %[(List.mem_filter.mp h).1|Ze (r.trans (Zn (List.mem_filter.mp h).2))]
 rw[Zq]at this
 lia
open Classical in
theorem GQ(x:Str):dep ks a x<=a.length:=Yc _ _
inductive x9 (vs:ZM) (H:Hp) (Q:VK) (E0:XK):Prop
 | mk (f:Str) (e:Addr) (ks:List _) (ns W:ZB) (i:Str->Str):vs=[.str f,.ref e]->H e=some (.dK (TD W i))->(∀a∈W,Rch ks a (i a)/\i a∈ns)->(∀x,¬ Rch ks x x)->ns.Nodup->ns.length<=60->(∀r H' (zs:ZB),af H H'->H r=none->H' r=some (.lst (zs.map V.str))->Q (.ref r) H')->x9 vs H Q E0
def HR(H:Hp)(f:Str)(e r:Addr)(ks:List ZB)(b:ZB)(n:Nat)(c:L2.St)(a:Hp):Prop:=c=[-f,!e,!r]/\af H a/\∃zs y,a r=some (.lst ((zs++[y]).map V.str))/\n=dep ks b y/\zs.length+n<=60
theorem eM.size(f:d.Nodup)(h:eM ks d L m d)(h':eM ks d l q d):(d.filter λx=>decide (x∉L)).length<=(d.filter λx=>decide (x∉l)).length:=by
 have%[S,T,g|all]:=h.sh
 let lf:=λx=>open Classical in if T x then x else m x
 refine Ya (uG f h.mat.nd h.ln (lf:=L.map lf) (Z5 _)) (xG (λa b c h k=>h.trans k) f h'.mat h'.mn (f.filter _) (λx n=>(List.mem_filter.mp n).1) λa i b o r=>?_);rcases Classical.em _ with s|s
 .have j:=g.nb a s b r;exact(Zn (List.mem_filter.mp o).2) (Xc %[b,(g.mt b j).1|if_pos j])
 .have%[x,p|e]:=(all a (List.mem_filter.mp i).1).resolve_right s;exact(Zn (List.mem_filter.mp i).2) (Xc %[x,p|(if_neg λt=>s (e▸(g.mt x t).2)).trans e])
theorem eM.of(h:eM ks c L m c)(e:∀x,x∈c↔x∈d):eM ks d L m d:=by
 have%[S,T,f|all]:=h.sh;exact%[h.mat,λx b=>(e _).mp (h.mn x b),λx b=>(e x).mp (h.ln x b),S,T,f|λa g=>all a ((e a).mpr g)]
theorem qY(d:∀k∈lk,cL c k)(e:Ed lk a b):a∈c/\b∈c:=by
 have%[z|f]:=e;have%[x,y,u,e,g|h]:=d _ f
 grind
theorem jY(c:∀k∈lk,cL d k)(r:Rch lk a b):a∈d/\b∈d:=by
 induction r with
 | one e=>exact qY c e
 | more _ e f=>exact%[f.1|(qY c e).2]
theorem Co{b c:ZB}(d:b.Nodup)(f:c.Nodup)(e:∀x,x∈b↔x∈c)(p:Str->Bool):(b.filter p).length=(c.filter p).length:=
 Nat.le_antisymm (STab.nodup_sub (d.filter _) λx a=>List.mem_filter.mpr %[(e x).mp (List.mem_filter.mp a).1|(List.mem_filter.mp a).2]) (STab.nodup_sub (f.filter _) λx a=>List.mem_filter.mpr %[(e x).mpr (List.mem_filter.mp a).1|(List.mem_filter.mp a).2])
inductive wQ (mg:ZC) (vs:ZM) (H:Hp) (Q:VK) (E0:XK):Prop
 | mk (g qs ls ts):vs=[.ref g]->iH mg H g qs ls ts->(∀lk,aQ (be qs) (ts.map (·.2)) lk->∀x,¬ Rch lk x x)->(∀l H' lk ns L m ys,af H H'->aQ (be qs) (ts.map (·.2)) lk->kR (be qs) ls ns->eM lk ns L m ns->H' l=some (.lst ys)->ys.length=(ns.filter λx=>decide (x∉L)).length->Q (.ref l) H')->wQ mg vs H Q E0
theorem oU(T:Txt K mg):↥1 "row_from" ["first","earlier_behind"] x9:=by
 refine T.b1.cal mj (λH vs Q E h=>?_)
 .have%[f,e,ks,b,W,i,rfl,q,hi,v,z,nl|B]:=h;refine%[rfl|λ_ u A outer s p=>?_];refine%[_,%["JCH2QA0BC<~gR2.E1DYpk2Aj1R2.EBDG2",mj.nd|p]|?_]
  show bc _ _ _ [-f,!e,none] H;refine ap λL C _=>?_
  lk;refine%[#[1]|λr j=>C _ _ (ap λM G _=>%[HR H f e r ks b,%[_,rfl,(af.upd (o:= .lst [V.str f]) j),[],f,aa,rfl|by rw[length_nil,zero_add];exact Ya (GQ f) nl]|?_])];intro n N I %[rfl,d,zs,y,a,rfl|O];rw[Zc]at a;lk;refine%[_,SqL.of a,_,iN _ _,_,cD.k (k:=Sum.inr y) (d _ _ q)|bj (λc=>?_) λc=>?_]
  .have l:=cJ.1.mp c;have g:=cD.k (k:=Sum.inr y) (d _ _ q);rw[cJ.2 l]at g;have lt:=GP z v (hi y l).1 (hi y l).2;refine⟨λm J=>∃t,t<dep ks b y/\HR H f e r ks b t m J,λ_ _ h=>h,.inl %[_|SqL.of a],_,SqL.of a,_,iN _ _,_,g,_,a,by rw[Z8,Z5,List.map_singleton,Ye];exact aB ⋯,_,lt,rfl,af.set d j,zs++[y],i y,by rw[aa,Zc,Zc];rfl,rfl,?_⟩;rw[Z8,Ye]
   lia
  .refine G _ _ ?_;lk;exact B r I (zs++[y]) d j (by rw[a,Zc])
theorem jJ(T:Txt K mg):↥8 "fewest_rows" ["ground"] (wQ mg):=by
 refine T.b0.cal b8 (λH vs Q E h=>?_)
 .have%[g,qs,ls,ts,rfl,G,nr|kk]:=h;refine%[rfl|λf an A outer s C=>?_];have%[c2,c3,c4|gr]:=G.gr;have ll:=G.ll;have e:∀{I:ZB},kR (be qs) ls I->I.length<=60:=λ{I} l=>by
   have:=STab.nodup_sub l.nd λx hx=>((l.mem x).mp hx).1
   lia
  refine%[_,%["JC!1bcF~/AF~:A0BBC!2bcF~mAN1BDGnd?1SF~FA0BX0?2/;0N2F]+A0AN1B",b8.nd,(show bD (ah cV) ["ground","later_ahead","earlier_behind"] _ ["name","earlier_behind","later_ahead"] [(1,2),(2,1)]=true from by decide +kernel),(show(["name","earlier_behind","later_ahead"]:ZB).Nodup from by decide +kernel)|C]|?_]
  show bc _ _ _ [!g,none,none] H;refine ap λD1 k1 _=>?_
  lk;refine%[g,qs,ls,ts,rfl,G,nr|λd H1 rs lk I s1 p l re rk=>%[d,lk,rs,I,rfl,re,rk,λx y r=>(jY (G.names p l) r).2,e l,l.nd|λhb H2 L m s2 fb hh q=>k1 _ _ (ap λD2 k2 _=>?_)]];have ab:=s1.trans s2;have Ll:=STab.nodup_sub q.mat.nd q.ln;have ae:=e l;lk;refine%[hb,L,m,rfl,.inl hh,⋯,q.mat.nd,q.mat.inj|λt H3 i s3 ft ht hi=>k2 _ _ ?_];have N:=ab.trans s3;refine aF λal hK=>?_
  lk;refine%[g,c2,c3,c4,qs,ls,ts,rfl,gr.up N,G.nd,G.so,⋯|λo H4 b s4 fm hm u=> .inl %[o,rfl,%[_|SqL.of hm]|hK _ _ λF hF=>?_]];have ag:=s4 _ _ (s3 _ _ hh);have ai:=s4 _ _ ht;have as:=e u;refine bw (J:=Itl K o) (n:=b.length) (D:=F) (λj vs σ v=>(∃o1,σ=[o1,!t,!hb])/\af H4 v/\v F=some (.lst vs)/\vs.length=((b.take j).filter λx=>decide (x∉L)).length)
   %[%[none|rfl],af.upd hF,aa|rfl] (λj _ _ v O z=>%[_,V.str b[j],SqL.of (z.2.1 _ _ hm)|by simp]) (λ_ _ v z=>%[_,SqL.of (z.2.1 _ _ hm)|by simp]) ?_ ?_
  .intro j vs σ v O %[%[o1|rfl],B,U|M] x H6 %[e2|hx];subst e2;have Y:=hx _ (SqL.of (B _ _ hm));rw[Zk,Z4 O]at Y;obtain rfl:x=V.str b[j]:=(Z9 Y).symm;have tk:b.take (j+1)=b.take j++[b[j]]:=by rw[X0,Z4 O];rfl
   lk;refine%[_,cD.k (k:=Sum.inr b[j]) (B _ _ ag)|bj (λc=>?_) λc=>?_]
   .have n:b[j]∉L:=λh=>by rw[cJ.1.mpr h]at c;cases c
    refine%[b[j],t,lk,I,L.map m,i,rfl,B _ _ ai,λa ha=>?_,nr _ p,l.nd,ae|λr H6 zs s6 fr a0=>?_]
    .have%[x,xl|rfl]:=Xb ha;rw[hi x xl];exact%[q.mat.ed x xl|q.ln x xl]
    .have:=Yc (λx=>decide (x∉L)) (b.take j);rw[Yf]at this;refine CK.mk O (s6 _ _ U) (M▸aB ⋯) %[%[_|rfl],af.set (B.trans s6) hF,aa|?_];rw[tk,Zz,Y1 (by simpa using n),Z8,Z8,M];rfl
   .have n:b[j]∈L:=cJ.1.mp (by cases h:(bG (TD L m) (Sum.inr b[j])).isSome with
     | true=>rfl
     | false=>rw[h]at c;exact absurd rfl c)
    refine CN.mk O %[%[_|rfl],B,U|?_];rw[tk,Zz,Y0 (by simpa using n),Z8,M];rfl
  intro vs σ v %[_,B,aj|M];rw[Zm (Zh _)]at M;have eq:=λx=>(l.mem x).trans (u.mem x).symm
  exact kk F v lk b L m vs (N.trans (s4.trans B)) p u (q.of eq) aj M
theorem Cp(T:Txt K mg):↥8 "widest" ["ground"] (wQ mg):=by
 refine T.b2.cal eZ (λH vs Q E h=>?_)
 .have%[g,qs,ls,ts,rfl,v,nr|kk]:=h;refine%[rfl|λf al A outer s Y=>?_];have%[c2,c3,c4|gr]:=v.gr;have ll:=v.ll;have l:∀{p:ZB},kR (be qs) ls p->p.length<=60:=λ{p} o=>by
   have:=STab.nodup_sub o.nd λx B=>((o.mem x).mp B).1
   lia
  refine%[_,%["JCH1F~:A0BC!2bcF],A1AF~/A1BBDGnd?1SF~FA0BX0?2/L~;0N10",eZ.nd,(show bD (ah i9) ["ground","reach","left_out"] _ ["name","left_out"] [(1,2)]=true from by decide +kernel),(show(["name","left_out"]:ZB).Nodup from by decide +kernel)|Y]|?_]
  show bc _ _ _ [!g,none,none] H;refine ap λD1 k1 _=>?_
  lk;refine%[g,qs,ls,ts,rfl,v,nr|λd H1 rs lk p s1 C o re rk=>k1 _ _ (ap λD2 k2 _=>?_)];have rn:∀x y,Rch lk x y->y∈p:=λx y r=>(jY (v.names C o) r).2
  lk;refine%[d,lk,rs,p,rfl,re,rk,rn,l o,o.nd|λhb H2 L m s2 fb hh pr=>?_];refine%[d,hb,lk,rs,p,L,m,rfl,re.up s2,rk,rn,l o,o.nd,hh,pr|λlo H3 lf s3 ab ae ag=>k2 _ _ ?_];have G:=s1.trans (s2.trans s3);refine aF λaj hK=>?_
  lk;refine%[g,c2,c3,c4,qs,ls,ts,rfl,gr.up G,v.nd,v.so,⋯|λq H4 i s4 fm hm e=> .inl %[q,rfl,%[_|SqL.of hm]|hK _ _ λF hF=>?_]];have an:=l e;refine bw (J:=Itl K q) (n:=i.length) (D:=F) (λj vs σ t=>(∃o1,σ=[o1,!lo])/\af H4 t/\t F=some (.lst vs)/\vs=((i.take j).filter λx=>decide (x∉lf)).map V.str)
   %[%[none|rfl],af.upd hF,aa|rfl] (λj _ _ t I u=>%[_,V.str i[j],SqL.of (u.2.1 _ _ hm)|by simp]) (λ_ _ t u=>%[_,SqL.of (u.2.1 _ _ hm)|by simp]) ?_ ?_
  .intro j vs σ t I %[%[o1|rfl],z,M|rfl] x H6 %[e2|B];subst e2;have N:=B _ (SqL.of (z _ _ hm));rw[Zk,Z4 I]at N;obtain rfl:x=V.str i[j]:=(Z9 N).symm;have tk:i.take (j+1)=i.take j++[i[j]]:=by rw[X0,Z4 I];rfl
   lk;refine%[_,.inl (SqL.of (z _ _ (s4 _ _ ab))),rfl,qP lf|?_];rw[sK];refine bj (λc=>?_) λc=>?_
   .have n:i[j]∉lf:=λh=>by rw[Ze h]at c;cases c
    refine CK.mk I M (by rw[Z5];have:=Yc (λx=>decide (x∉lf)) (i.take j);rw[Yf]at this;exact aB ⋯) %[%[_|rfl],af.set z hF,aa|?_];rw[tk,Zz,Zc,Y1 (by simpa using n)];rfl
   .have n:i[j]∈lf:=Decidable.byContradiction λh=>by rw[Zg h]at c;exact c rfl
    refine CN.mk I %[%[_|rfl],z,M|?_];rw[tk,Zz,Zc,Y0 (by simpa using n)];simp
  intro vs σ t %[_,z,O|rfl];rw[Zm (Zh _)]at O;have eq:∀x,x∈p↔x∈i:=λx=>(o.mem x).trans (e.mem x).symm
  have U:=pr.of eq;refine kk F t lk i L m _ (G.trans (s4.trans z)) C e U O ?_;rw[Z5];refine Nat.le_antisymm (xG (E:=Rch lk) (λa b c h k=>h.trans k) e.nd U.mat U.mn (e.nd.filter _) (λx B=>(List.mem_filter.mp B).1) λa ha b ai r=>?_) (uG e.nd U.mat.nd U.ln ae);have na:=Zn (List.mem_filter.mp ha).2;have nb:=Zn (List.mem_filter.mp ai).2;exact(ag a b ((eq a).mpr (List.mem_filter.mp ha).1) r).elim na nb
theorem pQ(T:Txt K mg):v8 P w K mg base 9 "fewest_rows" ["ground"] (kS mg):=by
 have ce:=ce (P:=P) (w:=w) (base:=base) T;refine T.b0.calX b8 (λH vs Q E h=>?_)
 .have%[g,qs,b,ts,lk,us,rfl,h,d,e|i]:=h;refine%[rfl|λf c A outer s a=>?_];exact%[_,(QSs.h (am (jN 1 b8.nd rfl Z1 Z0 rfl (aA (eV T) a rfl #[(Bk (rQ λ_ _ _ h=>h) ce a rfl rfl rfl rfl #[↑0])]))
   (am (jN 2 b8.nd rfl Z1 Z0 rfl (aA (c8 T) a rfl #[bO 1 rfl]))
   (aq (aJ (dG (ay.of (show bD (ah cV) ["ground","later_ahead","earlier_behind"] _ ["name","earlier_behind","later_ahead"] [(1,2),(2,1)]=true from by decide +kernel)) rfl rfl (cC (K:=K) rfl (aA (ba T) a rfl #[↑0])) (λ_ _ _=>(aL 0 (show(["name","earlier_behind","later_ahead"]:ZB).Nodup from by decide +kernel) rfl)) (λ_ _ _=>(iV (dZ a rfl ↑0 (bO 2 rfl)))) (λ_ _ _=>(aA (oU T) a rfl #[↑0,bO 1 rfl])))))))),g,qs,b,ts,lk,us,rfl,h,d,e|i]
theorem Cq(T:Txt K mg):v8 P w K mg base 9 "widest" ["ground"] (kS mg):=by
 have ce:=ce (P:=P) (w:=w) (base:=base) T;refine T.b2.calX eZ (λH vs Q E h=>?_)
 .have%[g,qs,b,ts,lk,us,rfl,h,d,e|i]:=h;refine%[rfl|λf c A outer s a=>?_];exact%[_,(QSs.h (am (aG 1 eZ.nd rfl (Bk (rQ λ_ _ _ h=>h) ce a rfl rfl rfl rfl #[↑0]))
   (am (jN 2 eZ.nd rfl Z1 Z0 rfl (aA (fO T) a rfl #[↑1,aA (eV T) a rfl #[↑1]]))
   (aq (aJ (dG (ay.of (show bD (ah i9) ["ground","reach","left_out"] _ ["name","left_out"] [(1,2)]=true from by decide +kernel)) rfl rfl (cC (K:=K) rfl (aA (ba T) a rfl #[↑0])) (λ_ _ _=>(aL 0 (show(["name","left_out"]:ZB).Nodup from by decide +kernel) rfl)) (λ_ _ _=>(iV (bz (rG (K:=K) rfl) rfl ↑0 (bO 1 rfl)))) (λ_ _ _=>↑0))))))),g,qs,b,ts,lk,us,rfl,h,d,e|i]
inductive ya (K:ZA) (mg:ZC) (vs:ZM) (H:Hp) (Q:VK) (E0:XK):Prop
 | mk (a:Addr):vs=[.ref a]->(∀H',af H H'->TyX K H' (.ref a) (.ref (aH mg "Torn")))->(∀H',af H H'->Q (.bl true) H')->ya K mg vs H Q E0
theorem mK(T:Txt K mg):↥1 "_law_only_torn" ["_law_e"] (ya K mg):=by
 refine T.bA.cal dS (λH vs Q E h=>?_)
 .have%[a,rfl,b|m]:=h;refine%[rfl|λf l A outer s z=>?_];have c:=b H (af.refl H);refine%[_,%["JCH1QA=>A0A].BA=>A0A]/BA=>A0A]:BA=>A0A];BBCH1I+1QA=>A0A]<BA=>A0A]=BBDG$=>A0A]>B$=>A0A?1B)m~;s1",dS.nd|(blE (v:= .ty "ValueError") rfl T.am PyProof.Rows.Boot.«ValueError» rfl rfl rfl)]|?_]
  show bc _ _ _ [!a,none] H;refine ap λB n _=>?_
  lk;refine%[_,c,_,.inl T.bQ,_,c,_,.inl T.bR,_,c,_,.inl T.bS,_,c,_,.inl T.bT,#[4]|λp t=>n _ _ (ap λC u _=>?_)];have d:=af.upd (o:= .lst [V.bl false,V.bl false,V.bl false,V.bl false]) t;have g1:upd H p (.lst [V.bl false,V.bl false,V.bl false,V.bl false]) p=_:=aa
  generalize upd H p (.lst [V.bl false,V.bl false,V.bl false,V.bl false])=y at d g1
  have i:=b y d;lk;refine%[_,i,_,.inl T.bW,_,i,_,.inl T.bY,(by decide)|λq j=>%[_,af.upd j _ _ g1,_,aa,(by decide)|λr e=>u _ _ ?_]];have g:=d.trans ((af.upd j).trans (af.upd (o:= .lst ([V.bl false,V.bl false,V.bl false,V.bl false] ++[V.bl false,V.bl false])) e));lk;refine%[_,b _ g,true,.inl T.bU|?_];rw[if_pos rfl];refine%[_,b _ g,true,T.bV|?_];rw[if_pos rfl];exact%[_,.inl (SqL.of aa),rfl,rfl|m _ g]
noncomputable def sT(k:Nat)(d:Str->Nat)(new:Gs Str)(x:Str):V:= .int ((if x∈new.map (·.1)then k+1 else d x:Nat))
def HS(H:Hp)(l d:Addr)(st:Str)(ss:ZH)(m:Nat)(c:L2.St)(a:Hp):Prop:=∃(e:Addr) (k:Nat) (f g h i:Option V) (F:ZB) (rs:Gs Str) (b:Str->Nat),c=[!l,-st,!d,!e,some (.int k),f,g,h,i]/\af H a/\a e=some (.lst (F.map V.str))/\a d=some (.dK (VD (rs.map (·.1)) λx=> .int (b x)))/\ReB ss rs/\Lev (ss.map (·.2)) st rs b k F/\m=2*(62-rs.length) +F.length.min 1
inductive vd (vs:ZM) (H:Hp) (Q:VK) (E0:XK):Prop
 | mk (l st ns ss):vs=[.ref l,.str st]->H l=some (.lst (ss.map λt=>V.ref t.1))->cI H ns ss->ss.length<=62->(∀d H' R (f:Str->Nat),af H H'->H' d=some (.dK (VD R λx=> .int (f x)))->R.Nodup->R.length<=62->(∀x,x∈R↔Rch (ss.map (·.2)) st x)->(∀x∈R,1<=f x/\Dst (ss.map (·.2)) st (f x) x/\∀n,Dst (ss.map (·.2)) st (n+1) x->f x<=n+1)->Q (.ref d) H')->vd vs H Q E0
theorem my(T:Txt K mg):↥1 "_law_steps" ["_law_some","_law_begin"] vd:=by
 refine T.bw.cal bC (λH vs Q E h=>?_)
 .have%[l,st,ns,ss,rfl,hl,as,a6|kk]:=h;refine%[rfl|λf a5 A outer s N=>?_];have a0:(ss.map λt=>V.ref t.1).length=ss.length:=Z5 _;refine%[_,%["JCH2yCH3QA1BCH4EC<L]^3QBCH4Ix4ECH5QBCTS0fMK6MK7MK8gDOazL_63,;72Cw427DYpk5A7BPDH35DG2",bC.nd|N]|?_]
  show bc _ _ _ [!l,-st,none,none,none,none,none,none,none] H;refine ap λD1 k1 _=>?_
  lk;intro d fd;refine k1 _ _ (ap λD2 k2 _=>?_);have s1:=af.upd (o:= .dK []) fd;have j:upd H d (.dK []) d=some (.dK (VD (([]:Gs Str).map (·.1)) λ_=> .int (0:Nat))):=aa
  generalize upd H d (.dK [])=H1 at s1 j
  lk;refine%[#[1]|λe fe=>k2 _ _ (ap λD3 k3 _=>?_)];have s2:=af.upd (o:= .lst [V.str st]) fe;have u:upd H1 e (.lst [V.str st]) e=some (.lst ([st].map V.str)):=aa;have j:=s2 _ _ j;have ae:=s1.trans s2
  generalize upd H1 e (.lst [V.str st])=H2 at ae u j
  lk;refine k3 _ _ (ap λD4 k4 _=>?_);refine%[HS H l d st ss,%[_,e,0,none,none,none,none,[st],[],_,rfl,ae,u,j,%[Yv|λ_ h=>(nomatch h)],.nil|rfl]|?_];intro m σ H3 %[e,k,o5,o6,o7,o8,F,rs,O,rfl,C,u,j,ab,I|rfl];have Rl:=ab.len;lk;refine%[#[0]|λp fp=>%[F.map V.str,af.upd fp _ _ u,aa|bj (λh=>?_) λh=>?_]]
  .have s3:=af.upd (o:= .lst []) fp;have u:=s3 _ _ u;have j:=s3 _ _ j;have C:=C.trans s3
   generalize upd H3 p (.lst [])=H4 at u j C ⊢
   refine⟨λa1 J=>∃m',m'<2*(62-rs.length) +F.length.min 1/\HS H l d st ss m' a1 J,λ_ _ h=>h,#[0],λU G=>az λa4 hK=>?_⟩;have s4:=af.upd (o:= .lst []) G;have ag:upd H4 U (.lst []) U=some (.lst ((([]:Gs Str).map (·.1)).map V.str)):=aa;have mod:U≠d:=λc=>by rw[c,j]at G;cases G
   have a2:U≠e:=λc=>by rw[c,u]at G;cases G
   have ed:e≠d:=λc=>by rw[c,j]at u;cases u
   have G:=C.free G;have u:=s4 _ _ u;have j:=s4 _ _ j;have C:=C.trans s4
   generalize upd H4 U (.lst [])=H5 at ag u j C ⊢
   lk;refine .inl %[%[_|SqL.of (C _ _ hl)]|hK _ _ ?_];refine bx (xs:=ss.map λt=>V.ref t.1) (λi σ J=>(∃o6 o7 o8,σ=[!l,-st,!d,!e,some (.int ((k:Int) +1)),!U,o6,o7,o8])/\af H J/\J e=some (.lst (F.map V.str))/\∃new:Gs Str,J U=some (.lst ((new.map (·.1)).map V.str))/\J d=some (.dK (VD ((rs++new).map (·.1)) (sT k O new)))/\ReB ss (rs++new)/\(∀r∈new,∃p z,p∈F/\r.2.2=[p,r.1,z])/\∀t∈ss.take i,∀x y,t.2[0]? =some x->t.2[1]? =some y->x∈F->y∈(rs++new).map (·.1))
    %[%[_,_,_|rfl],C,u,[],ag,by rw[Zw];exact j,by rw[Zw];exact ab,λr N=>(nomatch N)|λt ht=>(nomatch ht)] (λi σ J _ h=>SqL.of (h.2.1 _ _ hl)) ?_ ?_
   .intro i v σ J Y %[%[o6,o7,o8|rfl],C,u,new,hM,j,b,M|B];rw[Zk]at Y;have%[t,ht|rfl]:=map_eq_some_iff.mp Y;have ai:=Z7 ht;have%[aj,x,y,z,et|_]:=as t ai;rw[et]at aj;have tk:ss.take (i+1)=ss.take i++[t]:=by rw[X0,ht];rfl
    have a3:=b.len;rw[Z8]at a3;have go:∀M':Gs Str,(∀a∈(rs++new).map (·.1),a∈(rs++M').map (·.1))->(x∈F->y∈(rs++M').map (·.1))->∀t∈ss.take (i+1),∀x y,t.2[0]? =some x->t.2[1]? =some y->x∈F->y∈(rs++M').map (·.1):=λM' mono hy t' al x' y' e1 e2 an=>by
     rw[tk]at al;rcases X9 al with q|q
     .exact mono y' (B t' q x' y' e1 e2 an)
     .rw[Xa q,et]at e1 e2;obtain rfl:x=x':=Z9 e1;obtain rfl:y=y':=Z9 e2;exact hy an
    refine%[_,SqT.of (C _ _ aj),rfl,_,_,rfl,_,_,rfl,_,_,rfl,rfl|?_];show j6 _ _ _ _ [!l,-st,!d,!e,some (.int ((k:Int) +1)),!U,-x,-y,-z] J;refine aC λD5 k5 _=>?_
    lk;refine%[_,.inl (SqL.of u),rfl,by simp[fQ]|?_];rw[sK];refine bj (λL=>?_) λL=>?_
    .have L:=Zn L;refine%[_,cD.k (k:=Sum.inr y) j|bj (λY=>?_) λY=>?_]
     .have hy:y∉(rs++new).map (·.1):=λc=>by rw[iG c]at Y;cases Y
      refine%[_,iQ.k (k:=Sum.inr y) j (by unfold VD;rw[Z5,Z5,Z8];exact aB ⋯)|?_];rw[fi _ (eU hy)];have e1:VD ((rs++new).map (·.1)) (sT k O new) ++[(Sum.inr y,V.int ((k:Int) +1))]=VD ((rs++(new++[(y,t.1,[x,y,z])])).map (·.1)) (sT k O (new++[(y,t.1,[x,y,z])])):=by
       have e0:(rs++(new++[(y,t.1,[x,y,z])])).map (·.1)=(rs++new).map (·.1) ++[y]:=by simp
       unfold VD;rw[e0,Zc (l₂:=[y])];rw[List.map_singleton,show sT k O (new++[(y,t.1,[x,y,z])]) y= .int ((k:Int) +1) by unfold sT;rw[if_pos ∅];rfl];refine congrArg (λl=>l++[(Sum.inr y,V.int ((k:Int) +1))]) (Yj λa ha=>?_);have:a∈(new++[(y,t.1,[x,y,z])]).map (·.1)↔a∈new.map (·.1):=by
        rw[Zc,Ym];exact or_iff_left λc=>hy ((show a=y from Xa c)▸ha)
       unfold sT;simp only[this]
      rw[e1];have u1:∀c o,c≠d->J c=some o->upd J d (.dK (VD ((rs++(new++[(y,t.1,[x,y,z])])).map (·.1)) (sT k O (new++[(y,t.1,[x,y,z])])))) c=some o:=λc o h e=>(ak h)▸e
      have ud:upd J d (.dK (VD ((rs++(new++[(y,t.1,[x,y,z])])).map (·.1)) (sT k O (new++[(y,t.1,[x,y,z])])))) d=_:=aa;have hM:=u1 _ _ mod hM;have R:=b.snoc (p:=x) (y:=y) (z:=z) (a:=t.1) (et▸ai) hy;rw[Zd]at R;refine%[.inl %[_|SqL.of hM],_,hM,by rw[Z5,Z5];exact aB ⋯|k5 _ _ %[%[_,_,_|rfl],af.set (af.set (o:= .dK (VD ((rs++(new++[(y,t.1,[x,y,z])])).map (·.1)) (sT k O (new++[(y,t.1,[x,y,z])])))) C fd) G,(ak a2.symm).trans (u1 _ _ ed u),new++[(y,t.1,[x,y,z])],by rw[aa,Zc,Zc];rfl,(ak mod.symm).trans ud,R,λr N=>?_|go _ (λa ha=>?_) λ_=>?_]]
      .rcases X9 N with q|q
       .exact M r q
       .rw[Xa q];exact%[x,z,L|rfl]
      .rw[<-Zd,Zc];exact Yn _ ha
      .rw[<-Zd,Zc];exact Yo _ Zl
     .have hy:y∈(rs++new).map (·.1):=Decidable.byContradiction λc=>by rw[eU c]at Y;exact Y rfl
      exact k5 _ _ %[%[_,_,_|rfl],C,u,new,hM,j,b,M|go new (λ_ h=>h) λ_=>hy]
    .exact k5 _ _ %[%[_,_,_|rfl],C,u,new,hM,j,b,M|go new (λ_ h=>h) λc=>absurd (Ze c) L]
   .intro σ J %[%[o6,o7,o8|rfl],C,u,new,hM,j,b,M|B];rw[a0,Zm (Zh _)]at B;dsimp only;lk;have ln:=b.len;rw[Z8]at ln;have F1:F.length.min 1=1:=by
     cases F with
     | nil=>exact absurd h ∅
     | cons x F=>exact Nat.min_eq_right (by rw[Zq];lia)
    refine%[_,?_,U,k+1,_,_,_,_,new.map (·.1),rs++new,_,rfl,C,hM,j,b,I.step b.nd (λr N=>%[Xc %[_,(b.sub r (Yo _ N)).1|rfl]|M r N]) λx L y ⟨z,hz⟩=>?_|rfl]
    .rw[F1,Z8,Z5];cases new with
     | nil=>simp
     | cons a r=>
       rw[Zq]at ln ⊢;have:(r.length+1).min 1<=1:=Nat.min_le_right _ _
       lia
    .have%[t,ht|et]:=Xb hz;exact B t ht x y (by rw[et];rfl) (by rw[et];rfl) L
  .refine k4 _ _ ?_;lk;have h:F=[]:=by
    cases F with
    | nil=>rfl
    | cons x F=>exact absurd (Ze ∅) h
   subst h;refine kk d _ (rs.map (·.1)) O (C.trans (af.upd fp)) (af.upd fp _ _ j) ab.nd (by rw[Z5];lia) (λx=>%[λL=>?_|λr=>?_]) λx L=>%[(I.dst L).1,(I.dst L).2|λn g=>I.min L g]
   .have%[d1|d2]:=I.dst L;obtain⟨n,e⟩:∃n,O x=n+1:=%[O x-1|⋯]
    rw[e]at d2;exact d2.rch
   .have%[n|g]:=r.dst;exact I.stop g
theorem Cr{K:ZA}(h:SqL K H a xs)(s:af H b):SqL K b a xs:=h.imp_left λr=>r.imp (s _ _) λ⟨o,e⟩=>%[o|s _ _ e]
theorem Cs(f:d->V){xs:List d}(h:1<=xs.length)(c:Int):∃x∈xs,atI (xs.map f) (c%(xs.length:Int))=some (f x):=by
 have a:0<=c%xs.length:=Int.emod_nonneg _ ⋯;have e:c%xs.length<xs.length:=Int.emod_lt_of_pos _ ⋯
 generalize c%xs.length=i at a e
 have%[k|rfl]:=X5 a;have b:k<xs.length:=by lia
 exact%[xs[k],Y6 b|cA (by rw[Zk,Z4 b];rfl)]
theorem eA{S:Str->Str->Prop}{d:ZB}(ws:∀a b,S a b->a∈d/\b∈d){z:Str}(f:z∈d):∃m,cg S z m:=by
 have:∀n z,z∈d->xO d z<n->∃m,cg S z m:=λn=>by
  induction n with
  | zero=>exact λz _ h=>absurd h (Yw _)
  | succ n g=>
    intro z f h;by_cases q:∃y,dw S z y/\bd y z=true
    .have%[y,c|e]:=q;have l:=uV (c.within ws f) e;have%[m|i]:=g y (c.within ws f) ⋯;exact%[m|dX i c.symm]
    .exact%[z,.refl z|λy c=>eq_false_iff.mpr λe=>q %[y,c|e]]
 exact this _ z f (Yi _)
section
variable{S S':Str->Str->Prop}{ks ks' lk lk':List ZB}{ls:ZB}
theorem sU(c:aQ S' ks' lk')(h:[a,b,z]∈ks')(d:cg S' a u)(e:cg S' b v):Ed lk' u v:=%[z|(c.mem _).mpr %[a,b,z,u,v,h,d,e|rfl]]
theorem oV(f:aQ S ks lk)(c:aQ S' ks' lk')(d:∀a b,S a b->S' a b)(g:∀k∈ks,k∈ks')(e:Ed lk a b)(h:cg S' a u)(i:cg S' b v):Ed lk' u v:=by
 have%[z|j]:=e;have%[x,y,o,p,q,l,m,n|e]:=(f.mem _).mp j;simp only[List.cons.injEq,and_true]at e;have%[rfl,rfl|rfl]:=e;exact sU c (g _ l) (dX h (m.1.mono d).symm) (dX i (n.1.mono d).symm)
theorem qZ(g:aQ S ks lk)(c:aQ S' ks' lk')(h:∀a b,S a b->S' a b)(i:∀k∈ks,k∈ks')(l:∀k∈lk,cL ls k)(ws:∀a b,S' a b->a∈ls/\b∈ls){a b:Str}(r:Rch lk a b):∀{u v:Str},cg S' a u->cg S' b v->Rch lk' u v:=by
 induction r with
 | one e=>exact λd f=> .one (oV g c h i e d f)
 | more r e n=>
   intro u v d f;have%[m|j]:=eA ws (qY l e).1;exact .more (n d j) (oV g c h i e j f)
end
def mz(e:ZB)(ks:List ZB)(qs ex:ZN):Prop:=∀c d,(∀k∈ks,k∈c)->(∀k∈dE (qs++ex) (qs++ex).length,k∈c)->(∀a b,be (qs++ex) a b->a∈e/\b∈e)->aQ (be (qs++ex)) c d->∃x,Rch d x x
theorem sV(h:qs[j]? =some (p,[.str "later",.str a,.str b])):[a,b,Ec j]∈dE qs qs.length:=
 mem_filterMap.mpr %[j,mem_range.mpr (X8 h).1|h▸if_pos (c:=Str.ofString "later"=Str.ofString _) (e:=none) rfl]
theorem GR(h:k∈dE qs qs.length):k∈dE (qs++ex) (qs++ex).length:=by
 have%[j,a|e]:=mem_filterMap.mp h;have a:=mem_range.mp a;exact mem_filterMap.mpr %[j,mem_range.mpr (by rw[Z8];lia)|(Y3 a)▸e]
theorem Ct(qs:List a)(x:a)(r:List a):(qs++x::r)[qs.length]? =some x:=by simp
theorem sW(a b:Str)(h:be qs a b):be (qs++ex) a b:=by
 have%[q,c|e]:=h;exact%[q,Yn _ c|e]
theorem Cu{c:ZB}{ks:List _}{qs:List _}{p q:Addr}{a b:Str}(h:a∈c)(i:b∈c):mz c ks qs [(p,[.str "later",.str a,.str b]),(q,[.str "later",.str b,.str a])]:=λl m _ d ws e=>by
 have%[u|f]:=eA ws h;have%[v|g]:=eA ws i;have n:=sU e (d _ (sV (j:=qs.length+1) (p:=q) ∅)) g f;exact%[u|.more (.one (sU e (d _ (sV (Ct qs _ _))) f g)) n]
theorem wR{e:ZB}{ks lk:List _}{qs:List _}{p:Addr}{a b:Str}(h:aQ (be qs) ks lk)(d:∀k∈lk,cL e k)(r:Rch lk a b):mz e ks qs [(p,[.str "later",.str b,.str a])]:=λi j l m ws c=>by
 have%[u|f]:=eA ws (jY d r).1;have%[v|g]:=eA ws (jY d r).2;exact%[u|.more (qZ h c sW l d ws r f g) (sU c (m _ (sV (Ct qs _ _))) g f)]
theorem zW{d:ZB}{ks lk:List _}{qs:List _}{p:Addr}{a b:Str}(g:aQ (be qs) ks lk)(h:∀k∈lk,cL d k)(e:Ed lk a b):mz d ks qs [(p,[.str "same",.str b,.str a])]:=λi j l m ws c=>by
 have%[u|f]:=eA ws (qY h e).1;exact%[u|.one (oV g c sW l e f (dX f (dw.one (.inr %[_,Yo _ Zl|rfl]))))]
theorem GS{a b p q:Prop}[Decidable a][Decidable b](h:p)(k: ¬ b->q):if a then p else if b then p else q:=bj (λ_=>h) λ_=>bj (λ_=>h) k
inductive yb (mg:ZC) (vs:ZM) (H:Hp) (Q:VK) (E0:XK):Prop
 | mk (g l2 l3:Addr) (num:Int) (qs:List _) (ls N:ZB) (ts:List _):vs=[.ref g,.ref l2,.ref l3,.int num]->iH mg H g qs ls ts->H l2=some (.lst (qs.map λq=>V.ref q.1))->H l3=some (.lst (N.map V.str))->(∀x∈N,x∈ls)->N.Nodup->N.length<=24->qs.length<=12->(∀H' lk,af H H'->aQ (be qs) (ts.map (·.2)) lk->(∀x,Rch lk x x->Q (.ref l2) H')/\((∀x,¬ Rch lk x x)->(N.length<2->Q .non H')/\∀l ex,H l=none->H' l=some (.lst ((qs++ex).map λq=>V.ref q.1))->1<=ex.length->ex.length<=2->cz H' ls ex->mz ls (ts.map (·.2)) qs ex->Q (.ref l) H'))->yb mg vs H Q E0
theorem jZ(T:Txt K mg):↥7 "_law_torn_sayings" ["_law_ground_here","_law_sayings","_law_layers","_law_number"] (yb mg):=by
 refine T.bx.cal aX (λH vs Q E h=>?_)
 .have%[g,l2,l3,L,qs,O,N,ts,rfl,U,h2,h3,hN,nN,bb,bf|kk]:=h;refine%[rfl|λf a9 A outer s hr=>?_];have%[c2,c3,c4|gr]:=U.gr;have ll:=U.ll;have nl:(N.map V.str).length=N.length:=Z5 _;refine%[_,%["JC!4bcF~RA0BCOL~QF]_A0B(DG1PCOL^VWA2BEDG(PCOL~<N4QBDGI+1QAlAZAR2EAR2EBAlAZAR2EAR2EBBPC~MRN4IiN3VWAN4BfMK5M~X6bcMK7gCOLeIiIrN3VWAN4BEEDGI+1QAlAZAN6A5BBPCH8F~=AN4A5BC~A9cbd?1S|]|A8BX0?2/aqLeIiIrN2VWAN3BEEvLe0N10DGI+1QAlAZAR9IiIrIrN3VWAN4BEVWA9BA5BB",aX.nd,(show bD (ah cn) ["_law_ground_here","_law_sayings","_law_layers","_law_number","_law_some","_law_later","_law_earlier","_law_source","_law_steps_here","_law_far"] _ ["_law_name","_law_earlier","_law_number","_law_some"] [(1,6),(2,3),(3,4)]=true from by decide +kernel),(show(["_law_name","_law_earlier","_law_number","_law_some"]:ZB).Nodup from by decide +kernel)|hr]|?_]
  show bc _ _ _ [!g,!l2,!l3,some (.int L),none,none,none,none,none,none] H;refine ap λD1 k1 _=>?_
  lk;refine%[g,c2,c3,c4,qs,O,ts,rfl,gr,U.nd,U.so,⋯,U.tl,U.t3|λm H1 ss s1 fm hm tu lk sl=>k1 _ _ (ap λD2 k2 r2=>?_)];lk;refine%[g,qs,O,ts,rfl,U.up s1|λH2 bl s2 a4=>?_];have e:=a4.one lk;subst e;have Y:=s1.trans s2;refine%[λnr=>?_|λr x rx=>?_]
  .try dsimp only
   rw[if_neg ∅];refine k2 _ _ (ap λD3 k3 r3=>?_);lk;refine%[N.length,.inl %[_,SqL.of (Y _ _ h3)|nl.symm]|bj (λz=>r3 _ _ (((kk H2 _ Y lk).2 nr).1 (by have:=Zn z;lia))) λc=>k3 _ _ (ap λD4 k4 r4=>?_)];lk;have put:∀{B:Hp} {I:Addr} {ex:ZN} {R:VK},(∀v M,Q v M->R v M)->af H B->B I=some (.lst (ex.map λq=>V.ref q.1))->1<=ex.length->ex.length<=2->cz B O ex->mz O (ts.map (·.2)) qs ex->∃x,B l2=some (.lst x)/\∃x1,B I=some (.lst x1)/\x.length+x1.length<=sizeLine/\∀nl,B nl=none->R (.ref nl) (upd B nl (.lst (x++x1))):=λ{B I ex R} hR s a5 e1 e2 sa te=>
    %[_,s _ _ h2,_,a5,by rw[Z5,Z5,PySem.sizeLine_eq];lia|λnl aj=>hR _ _ (((kk _ _ (s.trans (af.upd aj)) lk).2 nr).2 nl ex (s.free aj) (by rw[aa,Zc]) e1 e2 (sa.up (af.upd aj)) te)]
   have add:∀{B:Hp} {R:VK} {wd a b:Str},(∀v M,Q v M->R v M)->af H B->(wd="later"\/wd="same")->a∈O->b∈O->a≠b->(∀p,mz O (ts.map (·.2)) qs [(p,[.str wd,.str a,.str b])])->∀p,B p=none->[V.ref p].length<=sizeLine/\∀I,upd B p (.tup [.str wd,.str a,.str b]) I=none->∃x,upd (upd B p (.tup [.str wd,.str a,.str b])) I (.lst [V.ref p]) l2=some (.lst x)/\∃x1,upd (upd B p (.tup [.str wd,.str a,.str b])) I (.lst [V.ref p]) I=some (.lst x1)/\x.length+x1.length<=sizeLine/\∀nl,upd (upd B p (.tup [.str wd,.str a,.str b])) I (.lst [V.ref p]) nl=none->R (.ref nl) (upd (upd (upd B p (.tup [.str wd,.str a,.str b])) I (.lst [V.ref p])) nl (.lst (x++x1))):=λ{B R wd a b} hR s hw ha hb ne te p fp=>%[#[1]|λI C=>put (ex:=[(p,[.str wd,.str a,.str b])]) hR (s.trans ((af.upd fp).trans (af.upd C))) aa (Zh 1) (show 1<=2 by decide) (λq hq=>by
    rw[Xa hq];exact%[af.upd C _ _ aa|.inl %[wd,a,b,rfl,hw,ha,hb|ne]]) (te p)]
   have n2:2<=N.length:=by
    have: ¬ ((N.length:Int)<2):=λz=>c (Ze z)
    lia
   refine%[#[0]|λp fp=>%[m,p,_,rfl,rfl,af.upd fp _ _ (s2 _ _ hm),aa|?_]];have s3:=Y.trans (af.upd (o:= .lst []) fp);have G:=af.upd (o:= .lst []) fp _ _ (s2 _ _ hm);have al:cI (upd H2 p (.lst [])) O ss:=(jf tu (U.ties lk)).up (s2.trans (af.upd fp))
   generalize upd H2 p (.lst [])=H3 at s3 G al ⊢
   have ab:∀(i:Nat) (h:i<N.length),atI (N.map V.str) i=some (.str N[i]):=λi h=>cA (by rw[Zk,Z4 h];rfl)
   have ae:=s3 _ _ h3;refine%[_,rfl|bj (λe=>?_) λe=>k4 _ _ (ap λD5 k5 r5=>?_)]
   .refine%[_,SqL.of ae,_,ab 0 ⋯,_,SqL.of ae,_,ab 1 ⋯,#[3]|λq1 f1=>%[_,SqL.of (af.upd f1 _ _ ae),_,ab 1 ⋯,_,SqL.of (af.upd f1 _ _ ae),_,ab 0 ⋯,#[3]|λq2 f2=>%[#[2]|λI C=>?_]]];have ne:N[0]≠N[1]:=λz=>absurd (cP nN (Z4 (show 0<N.length by lia)) ((Z4 (show 1<N.length by lia)).trans (congrArg some z.symm))) (by decide)
    have i0:=hN _ (Y6 (show 0<N.length by lia));have i1:=hN _ (Y6 (show 1<N.length by lia))
    generalize N[0]=a at ne i0 f2 C ⊢
    generalize N[1]=b at ne i1 f2 C ⊢
    have g1:upd H3 q1 (.tup [V.str "later",V.str a,V.str b]) q1=_:=aa;have t1:=s3.trans (af.upd (o:= .tup [V.str "later",V.str a,V.str b]) f1)
    generalize upd H3 q1 (.tup [V.str "later",V.str a,V.str b])=Ha at g1 t1 f2 C ⊢
    have g2:upd Ha q2 (.tup [V.str "later",V.str b,V.str a]) q2=_:=aa;have t2:=af.upd (o:= .tup [V.str "later",V.str b,V.str a]) f2
    generalize upd Ha q2 (.tup [V.str "later",V.str b,V.str a])=Hb at g2 t2 C ⊢
    have t3:=af.upd (o:= .lst [V.ref q1,V.ref q2]) C;refine put (ex:=[(q1,[.str "later",.str a,.str b]),(q2,[.str "later",.str b,.str a])]) r4 (t1.trans (t2.trans t3)) aa (show 1<=2 by decide) (Zh 2) (λq hq=>?_) (Cu i0 i1);rcases mem_cons.mp hq with rfl|hq
    .exact%[t3 _ _ (t2 _ _ g1)|.inl %[_,a,b,rfl,.inl rfl,i0,i1|ne]]
    .rw[Xa hq];exact%[t3 _ _ g2|.inl %[_,b,a,rfl,.inl rfl,i1,i0|ne.symm]]
   .lk;have ag:(ss.map λt=>V.ref t.1).length=ss.length:=Z5 _;have a6:1<=ss.length:=by
     cases ss with
     | nil=>exact absurd rfl e
     | cons t r=>rw[Zq];lia
    have%[t,ht|et]:=Cs (λt:Addr×ZB=>V.ref t.1) a6 L;have%[as,x,y,z,ek|_]:=al t ht;rw[ek]at as;refine%[ss.length,.inl %[_,SqL.of G|ag.symm],⋯,_,SqL.of G,_,et,_,rfl,_,SqT.of as,rfl,_,_,rfl,_,_,rfl,_,_,rfl,rfl|k5 _ _ (ap λD6 k6 r6=>?_)];have ed:Ed (ss.map (·.2)) x y:=%[z|by rw[<-ek];exact Xc %[t,ht|rfl]]
    have ti:=U.ties lk;lk;refine%[ss.length,.inl %[_,SqL.of G|ag.symm]|?_];have xy:x≠y:=λc=>nr x (.one (by rw[<-c]at ed;exact ed))
    refine%[%[⋯|⋯],by decide|bj (λ_=>%[#[3]|add r6 s3 (.inr rfl) (qY ti ed).2 (qY ti ed).1 xy.symm λp=>zW lk ti ed]) λ_=>k6 _ _ (ap λD7 k7 r7=>?_)];lk;refine%[m,x,O,ss,rfl,G,al,sl|λd H4 R f s4 hd nd Rl hR hf=>k7 _ _ (ap λD8 k8 r8=>aF λa8 hK=>?_)];lk;refine%[_,hd,R,by unfold VD;rw[Yl];rfl,⋯|λl rs fl pm _=> .inl %[%[_|SqL.of aa]|hK _ _ λF hF=>?_]];have s5:=s4.trans (af.upd (o:= .lst (rs.map V.str)) fl);have ai:upd H4 l (.lst (rs.map V.str)) l=_:=aa
    generalize upd H4 l (.lst (rs.map V.str))=H5 at s5 ai hF ⊢
    have rl:=pm.length_eq;refine bw (J:=Itl K l) (n:=rs.length) (D:=F) (λj vs σ M=>(∃o1,σ=[o1,-y,some (.int L),!m])/\af H5 M/\M F=some (.lst vs)/\∃zs:ZB,vs=zs.map V.str/\zs.length<=j/\(∀u∈zs,u∈R)/\(y∈rs.take j->y∈zs))
     %[%[none|rfl],af.upd hF,aa,[],rfl,Zh _,λ_ h=>(nomatch h)|λh=>(nomatch h)] (λj _ _ M hj an=>%[_,V.str rs[j],SqL.of (an.2.1 _ _ ai)|by simp[hj]]) (λ_ _ M an=>%[_,SqL.of (an.2.1 _ _ ai)|by simp]) ?_ ?_
    .intro j vs σ M hj %[%[o1|rfl],sm,a0,zs,rfl,zl,zR|zy] v H6 %[e2|hx];subst e2;have a1:=hx _ (SqL.of (sm _ _ ai));rw[Zk,Z4 hj]at a1;obtain rfl:v=V.str rs[j]:=(Z9 a1).symm;lk;have tk:rs.take (j+1)=rs.take j++[rs[j]]:=by rw[X0,Z4 hj];rfl
     have inR:rs[j]∈R:=pm.mem_iff.mp (Y6 hj);refine%[ss.length,.inl %[_,SqL.of (sm _ _ (s5 _ _ G))|ag.symm],%[⋯|⋯],by decide|GS (CK.mk hj a0 (by rw[Z5];exact aB ⋯) %[%[_|rfl],af.set sm hF,aa,zs++[rs[j]],by rw[Zc];rfl,by exact Z8▸Nat.succ_le_succ zl,λu hu=>?_|λh=>?_]) λc=>CN.mk hj %[%[_|rfl],sm,a0,zs,rfl,⋯,zR|λh=>?_]]
     .rcases X9 hu with q|q
      .exact zR u q
      .rw[Xa q];exact inR
     .rw[tk]at h;rcases X9 h with q|q
      .exact Yn _ (zy q)
      .exact Yo _ q
     .rw[tk]at h;rcases X9 h with q|q
      .exact zy q
      .exact absurd (Ze (Xa q).symm) c
    intro vs σ H6 %[_,s6,a2,zs,rfl,zl,zR|zy];rw[Zm (Zh _)]at zy;refine k8 _ _ ?_;have a3:=s5.trans s6;have a7:=a3 _ _ G;have z1:1<=zs.length:=List.length_pos_of_mem (zy (pm.mem_iff.mpr ((hR y).mpr (.one ed))));have%[u,hu|eu]:=Cs V.str z1 (L/(ss.length:Int)/3);have ru:=(hR u).mp (zR u hu);lk;have zm:(zs.map V.str).length=zs.length:=Z5 _;exact%[ss.length,.inl %[_,SqL.of a7|ag.symm],%[⋯|⋯],%[by decide|by simp],zs.length,.inl %[_,SqL.of a2|zm.symm],⋯,_,SqL.of a2,_,eu,#[3]|add (λ_ _ h=>h) (s3.trans a3) (.inl rfl) (jY ti ru).2 (jY ti ru).1 (λc=>nr x (by rw[c]at ru;exact ru)) λp=>wR lk ti ru]
  .try dsimp only
   rw[if_pos ∅];exact r2 _ _ ((kk H2 _ Y lk).1 x rx)
theorem oW{b:Str}:∀{us:List _} {a:Str},Wal us a b->∀i,i<us.length->∃p q z,us[i]? =some [p,q,z]/\(i=0->p=a)/\(∀k,us[i+1]? =some k->k[0]? =some q)/\(i+1=us.length->q=b)
 |[],_,_,_,h=>absurd h (Yw _)
 | k::r,a,⟨c,z,e,w⟩,0,_=>by
   refine%[a,c,z,by rw[e];rfl,λ_=>rfl,λm h'=>?_|λh'=>?_]
   .match r,w,h' with
    | n::o,⟨s,t,d,_⟩,h'=>
      rw[<-Z9 (h'),d];rfl
   .match r,w,h' with
    |[],w,_=>exact w
    | _::_,_,h'=>exact absurd h' ∅
 | k::r,a,⟨c,z,e,w⟩,i+1,h=>by
   have%[p,q,f,g,_,j|l]:=oW w i (by simpa using h);exact%[p,q,f,g,λh=>absurd h ⋯,j|λh=>l (by simpa using h)]
theorem zX{ws:ZH}{x:Str}(w:Wal (ws.map (·.2)) x x){k:Nat}(g:k<ws.length):∃t∈ws,∃p q z b d,ws[k].2=[p,q,z]/\t.2=[b,p,d]/\atI (ws.map λt=>V.ref t.1) ((k:Int) -1)=some (.ref t.1):=by
 have s:(ws.map (·.2)).length=ws.length:=Z5 _;have a:∀(i:Nat) (h:i<ws.length) l,(ws.map (·.2))[i]? =some l->ws[i].2=l:=λi h l e=>by
  rw[Zk,Z4 h]at e;exact Z9 e
 have%[p,q,z,j,n,_|_]:=oW w k ⋯;have m:=a k g _ j;cases k with
 | zero=>
   have%[b,o,d,g1,_,_|r]:=oW w (ws.length-1) ⋯;have f:=a (ws.length-1) ⋯ _ g1;rw[r ⋯,<-n rfl]at f;refine%[_,Y6 (show ws.length-1<ws.length by lia),p,q,z,b,d,m,f|?_];obtain⟨ys,y,rfl⟩:∃ys y,ws=ys++[y]:=%[ws.dropLast,ws.getLast (by intro c;rw[c]at g;exact absurd g (Yw _))|(List.dropLast_concat_getLast _).symm]
   rw[Zc,show((0:Nat):Int) -1= -1 from rfl,List.map_singleton,iN];simp
 | succ k=>
   have%[b,o,d,g1,_,g3|_]:=oW w k ⋯;have f:=a k ⋯ _ g1;rw[<-Z9 (g3 _ j)]at f;refine%[_,Y6 ⋯,p,q,z,b,d,m,f|?_];rw[show((k+1:Nat):Int) -1=k by lia];exact cA (by rw[Zk,Z4 ⋯];rfl)
inductive q0 (vs:ZM) (H:Hp) (Q:VK) (E0:XK):Prop
 | mk (l m ns ws ss x):vs=[.ref l,.ref m]->H l=some (.lst (pO ws))->aP H ws->ws.length<=100->H m=some (.lst (ss.map λt=>V.ref t.1))->cI H ns ss->ss.length<=62->Sho (ss.map (·.2)) x x (ws.map (·.2))->(∀y n,Dst (ss.map (·.2)) y (n+1) y->ws.length<=n+1)->(∀H',af H H'->Q (.bl true) H')->q0 vs H Q E0
theorem pR(T:Txt K mg):↥2 "_law_is_ring" ["_law_found","_law_some"] q0:=by
 refine T.bz.cal fJ (λH vs Q E h=>?_)
 .have%[l,m,ns,ws,ss,x,rfl,U,tw,a3,hm,Y,an,a,mn|kk]:=h;refine%[rfl|λf a4 A outer s hr=>?_];have wl:(pO ws).length=ws.length:=Z5 _;have sl:(ss.map λt=>V.ref t.1).length=ss.length:=Z5 _;have wp:0<ws.length:=by have:=a.pos;rwa[Z5]at this
  refine%[_,%["JCOaqoh%&A0A?1BvL~<0QBDGsPCT[AVWA0BBK2DOaqoh%&AR02A?2BqL]}R02N1vLuUR02EUR0I~G2EEDGsPC~A3cbd?3SN1X0?4t][~PF~=AN1AU0EBAU0EAEBDGmeVWA0B~S]0A3B",fJ.nd,(blE (v:= .ty "list") rfl T.a5 boot_list rfl rfl rfl),(blE (v:= .ty "tuple") rfl T.ag boot_tuple rfl rfl rfl),(show bD (ah d6) ["_law_found","_law_some","_law_k","_law_sizes"] _ ["_law_link","_law_some"] [(1,1)]=true from by decide +kernel),(show(["_law_link","_law_some"]:ZB).Nodup from by decide +kernel)|hr]|?_]
  show bc _ _ _ [!l,!m,none,none] H;refine ap λD1 k1 _=>?_
  lk;refine%[.type "list",.lst U,true,by rfl|tD %[#[0]|λp fp=>%[l,p,_,rfl,rfl,af.upd fp _ _ U,aa,_,rfl|bj (λe=>?_) λ_=>k1 _ _ (ap λD2 k2 _=>az λab hK=>?_)]]]
  .rw[Zn e]at wl;exact absurd wl (by rw[length_nil];lia)
  have g:=af.upd (o:= .lst []) fp
  generalize upd H p (.lst [])=H1 at g
  lk;refine%[ws.length,.inl %[_,SqL.of (g _ _ U)|wl.symm],⋯,⋯|hK _ _ ?_];rw[Int.toNat_natCast];refine eW (λi C H'=>(∃o2,C=[!l,!m,o2,none])/\H'=H1) %[%[_|rfl]|rfl] ?_ ?_
  .intro i C H' hi %[%[o2|rfl]|rfl];show j6 _ _ _ _ [!l,!m,some (.int (0+i)),none] H';rw[Int.zero_add];refine aC λD3 k3 _=>?_
   lk;have%[t',as,p,q,z,p',z',e1,e2|ea]:=zX a.wal hi;have r:=g _ _ U;have b:=Y6 hi;have ai:atI (pO ws) (i:Int)=some (.ref ws[i].1):=cA (by unfold pO;rw[Zk,Z4 hi];rfl);have t1:=g _ _ (tw _ b).2;have t2:=g _ _ (tw _ as).2;have ae:=a.sub _ (Xc %[_,b|rfl]);rw[e1]at t1 ae;rw[e2]at t2;refine%[_,SqL.of r,_,ai,.type "tuple",.tup t1,true,by rfl|tD %[_,SqL.of r,_,ai,_,_,_,ss,rfl,rfl,t1,g _ _ hm,λt M=>g _ _ (Y t M).1,ae,_,rfl|tD %[_,SqL.of r,_,ai,_,rfl,_,SqT.of t1,_,rfl,_,SqL.of r,_,ea,_,rfl,_,SqT.of t2,_,rfl|?_]]];exact%[rfl|by rw[if_neg ∅];exact k3 _ _ %[%[_|rfl]|rfl]]
  .intro C H' %[%[o2|rfl]|rfl];refine k2 _ _ (ap λD4 k4 _=>aF λab hK=>?_);lk;refine .inl %[%[_|SqL.of (g _ _ hm)]|hK _ _ λF hF=>?_];have u:=g _ _ hm;have ag:=Y.up g;refine bw (J:=Itl K m) (n:=ss.length) (D:=F) (λj vs C N=>(∃o1,C=[o1,!m])/\af H' N/\N F=some (.lst vs)/\∃is:ZL,vs=is.map V.int/\is.length=j/\(∀v∈is,(ws.length:Int)<=v)/\∀t∈ss.take j,t.2[0]? =some x->(ws.length:Int)∈is)
    %[%[none|rfl],af.upd hF,aa,[],rfl,rfl,λ_ h=>(nomatch h)|λ_ h=>(nomatch h)] (λj _ _ N O G=>%[_,V.ref ss[j].1,SqL.of (G.2.1 _ _ u)|by simp[O]]) (λ_ _ N G=>%[_,SqL.of (G.2.1 _ _ u)|by simp]) ?_ ?_
   .intro j vs C N O %[%[o1|rfl],B,a0,is,rfl,il,I|b] v H3 %[e2|hx];subst e2;have aj:=hx _ (SqL.of (B _ _ u));rw[Zk,Z4 O]at aj;obtain rfl:v=V.ref ss[j].1:=(Z9 aj).symm;have%[L,y,y2,z,ek|_]:=ag _ (Y6 O);rw[ek]at L;lk;refine%[_,SqT.of (B _ _ L),_,rfl,m,y,ns,ss,rfl,B _ _ u,ag.up B,an|λd H4 R f s4 hd _ _ hR hf=>%[.inr (.inr (.inl (.inl %[_|hd]))),_,SqT.of (s4 _ _ (B _ _ L)),_,rfl,d,rfl,Sum.inr y,rfl,_,hd|?_]];obtain⟨c,ec,a1,xc⟩:∃c:Int,(bG (VD R λx=>V.int (f x)) (Sum.inr y)).getD (.int 999)= .int c/\(ws.length:Int)<=c/\(y=x->c=ws.length):=by
     by_cases c:y∈R
     .have%[f1,f2|f3]:=hf y c;obtain⟨n,en⟩:∃n,f y=n+1:=%[f y-1|⋯]
      rw[en]at f2;have:=mn y n f2;refine%[f y,by rw[iG c];rfl,⋯|λe=>?_];have%[n',e'|d']:=a.dst;rw[Z5]at e';rw[<-e]at d';have:=f3 n' d'
      lia
     .exact%[999,by rw[eU c];rfl,⋯|λe=>absurd ((hR y).mpr (e▸a.rch)) c]
    rw[ec];refine CK.mk O (s4 _ _ a0) (by rw[Z5,il];exact aB ⋯) %[%[_|rfl],af.set (B.trans s4) hF,aa,is++[c],by rw[Zc];rfl,by rw[Z8,il];rfl,λv hv=>?_|λt M et=>?_]
    .rcases X9 hv with q|q
     .exact I v q
     .rw[Xa q];exact a1
    .rw[X0,Z4 O]at M;rcases X9 M with q|q
     .exact Yn _ (b t q et)
     .rw[show t=ss[j]from Xa q,ek]at et;rw[xc (Z9 et)];exact Yo _ Zl
   intro vs C N %[_,B,a2,is,rfl,il,I|b];rw[Zm (Zh _)]at b;refine k4 _ _ ?_;lk;have%[p,q,z,h1,h2|_]:=oW a.wal 0 a.pos;rw[h2 rfl]at h1;have%[t,M|et]:=Xb (a.sub _ (Z7 h1));have al:=b t M (by rw[et];rfl);refine%[ws.length,.inl %[_,SqL.of (B _ _ (g _ _ U))|wl.symm],is,SqL.of a2,List.length_pos_of_mem al|λv hv mv=>?_];have:=mv _ al;have:=I v hv;rw[show(ws.length:Int)=v by lia,Ze rfl];exact kk _ (g.trans B)
inductive oX (mg:ZC) (vs:ZM) (H:Hp) (Q:VK) (E0:XK):Prop
 | mk (way g m qs ls ns ts ss):vs=[.int way,.ref g,.ref m]->iH mg H g qs ls ts->aQ (be qs) (ts.map (·.2)) (ss.map (·.2))->(∃x,Rch (ss.map (·.2)) x x)->H m=some (.lst (ss.map λt=>V.ref t.1))->cI H ns ss->ss.length<=62->(∀H',af H H'->Q (.bl true) H')->oX mg vs H Q E0
theorem pS(T:Txt K mg):↥10 "_law_refused" ["_law_way","_law_ground_here","_law_some"] (oX mg):=by
 refine T.bB.cal dD (λH vs Q E h=>?_)
 .have%[way,g,m,qs,G,M,ts,ss,rfl,N,r,O,hm,la,sl|kk]:=h;refine%[rfl|λf ab A outer s B=>?_]
  let XE:L2.St->XK:=λu c d p=>u=[some (.int way),!g,!m,some .non,none]/\c= .ref (aH mg "Torn")/\∃e l ws x,d=some e/\af H p/\H e=none/\H l=none/\e≠l/\Cj p (ss.map (·.2)) e l ws x
  refine%[_,%["JCH3(C?1COaqohF]1A3BvohF]2A~>3A2BDGsPCY]3]4~>3DGs",dD.nd,(tryV (i:=4) XE rfl rfl dD.nd rfl rfl rfl rfl T.bD T.c1 rfl (λ_=>
   (aq (ifS (bz cE rfl ↑0 av)
    (aq (bJ rfl (EE qH (pQ (P:=P) (w:=w) (base:=base) T) B rfl rfl rfl rfl #[↑1])))
    (aq (bJ rfl (EE qH (Cq (P:=P) (w:=w) (base:=base) T) B rfl rfl rfl rfl #[↑1]))))))
   (λ_=>(aq (aG 3 dD.nd rfl ↑4))))|B]|?_]
  show bc _ _ _ [some (.int way),!g,!m,none,none] H;refine ap λD1 k1 r1=>?_
  lk;refine k1 _ _ (ap λD2 k2 r2=>%[?_|?_])
  .lk;unfold BU;lk;exact bj (λ_=>%[g,qs,G,ts,_,[],rfl,N,r,O|λd l p ws x s' I J dl b=>%[rfl,rfl,d,l,ws,x,rfl,s',I,J,dl|b]]) λ_=>%[g,qs,G,ts,_,[],rfl,N,r,O|λd l p ws x s' I J dl b=>%[rfl,rfl,d,l,ws,x,rfl,s',I,J,dl|b]]
  .intro u c d p %[rfl,rfl,e,l,ws,x,rfl,sm,ae,fl,ag|b];refine%[_,rfl,T.bO|λa _ ha=>?_];show pf _ _ _ [some (.int way),!g,!m,some .non,!a] _;lk;refine k2 [some (.int way),!g,!m,!a,none] _ ?_;have C:upd p a (ExH a (aH mg "Torn") (some e)) a=some _:=aa;have v:=af.upd (o:=ExH a (aH mg "Torn") (some e)) ha;have q:=sm.trans v
   generalize upd p a _=H1 at C v q
   have L:=v _ _ b.ad;have U:=v _ _ b.al;refine ap λD3 k3 r3=>?_
   lk;refine%[a,rfl,(λH2 j=> .ex %[_,j _ _ C|.inr %[e,_,rfl|j _ _ L]] T.bK.is)|λH2 j=>?_];have y:=q.trans j;lk;simp only[xq];lk;refine%[e,j _ _ C,_,j _ _ L,.ref l,by rfl,l,m,M,ws,ss,x,rfl,j _ _ U,λt Y=>%[(b.tu t Y).1|j _ _ (v _ _ (b.tu t Y).2)],b.len,y _ _ hm,la.up y,sl,b.sho,b.min|λH3 s3=>%[true,rfl|tD (k3 _ _ (ap λD4 k4 r4=>?_))]];have n:=j.trans s3;lk;simp only[xq];lk;have z:=n _ _ U;refine%[e,n _ _ C,_,n _ _ L,.ref l,by rfl,.inl %[_|SqL.of z],l,rfl,%[_|z]|k4 _ _ ?_];lk;exact kk _ (af.set (q.trans n) fl)
theorem mV(n:Str)(c:Nat):lnS n (sgn c)=dH n c:=by
 refine jm ?_;show(([].toArray) ++n.cps++ ([46].toArray) ++ ([c].toArray)).toList=(n.cps.toList++[46,c]).toArray.toList;simp
theorem sX:x∈lyr p↔∃c,Let p.2.2 c/\x=dH p.2.1 c:=by
 unfold lyr;rw[mem_map]
 constructor
 .rintro⟨z,b,rfl⟩;have%[c,a|rfl]:=iC b;exact%[c,gU.mp a|mV _ _]
 .rintro⟨c,a,rfl⟩;exact%[sgn c,bB.mpr (Xc %[c,gU.mpr a|rfl])|mV _ _]
theorem oY(h:mw d):x∈(iD d).map (·.1)↔∃c,Let d.rows c/\x=dH d.name c:=by
 unfold iD Drn.rows;rw[Yl,mem_map]
 constructor
 .rintro⟨a,i,rfl⟩;have%[e,f|g]:=eY.mp i;exact%[sg a d.sh,(uI h.2.2.2.2.2).mpr %[a,e,f,g|rfl]|rfl]
 .rintro⟨c,g,rfl⟩;have%[a,e,f,b|rfl]:=(uI h.2.2.2.2.2).mp g;exact%[a,eY.mpr %[e,f|b]|rfl]
theorem oZ:∀{xs:List t},(xs.map m).Nodup->(∀p∈xs,(f p).Nodup)->(∀p∈xs,∀x∈f p,∃c,x=dH (m p) c)->(xs.flatMap f).Nodup
 |[],_,_,_=>Yv
 | p::xs,h,l,i=>by
   rw[Yk,nodup_cons]at h;rw[List.flatMap_cons,Yt];refine%[l p Zl,oZ h.2 (λq g=>l q (Zj _ g)) (λq g=>i q (Zj _ g))|λa n b o e=>?_];have%[q,g|j]:=mem_flatMap.mp o;have%[c|r]:=i p Zl a n;have%[d|s]:=i q (Zj _ g) b j;have:=(lC (r.symm.trans (e.trans s))).1;exact h.1 (Xc %[q,g|this.symm])
theorem zY(p:Addr×Str×ZB):(lyr p).Nodup:=by
 unfold lyr;rw[Yu,Yz];refine X4 (λ{x y} e f a b=>?_) (nodup_iff_pairwise_ne.mp (fk _));have%[c,_|rfl]:=iC e;have%[d,_|rfl]:=iC f;rw[mV,mV]at b;exact a (by rw[(lC b).2])
theorem wS(d:Drn):((iD d).map (·.1)).Nodup:=by
 unfold iD;rw[Yl,Yu,Yz];refine X4 (λ{x y} b c a e=>?_) (nodup_iff_pairwise_ne.mp (uJ d.cols));have%[f,g|_]:=eY.mp b;have%[h,i|_]:=eY.mp c;exact a (GC f g h i (lC e).2)
theorem qO.mono(h:qO g xs)(s:∀x∈g,x∈i):qO i xs:=by
 rcases h with⟨w,a,b,e,c,d,f,j⟩|⟨w,a,y,e,c,d,f⟩
 .exact .inl %[w,a,b,e,c,s _ d,s _ f|j]
 .exact .inr %[w,a,y,e,c,s _ d|f]
theorem wU{d:List _}{e:ZB}(h:e.Perm (d.flatMap lyr)){x:Str}:x∈e↔∃p∈d,∃c,Let p.2.2 c/\x=dH p.2.1 c:=by
 rw[h.mem_iff,mem_flatMap]
 constructor
 .rintro⟨p,a,b⟩;exact%[p,a|sX.mp b]
 .rintro⟨p,a,b⟩;exact%[p,a|sX.mpr b]
theorem zZ(h:∀p∈ds,mw p.2):x∈(ds.flatMap λp=>(iD p.2).map (·.1))↔∃p∈dcs ds,∃c,Let p.2.2 c/\x=dH p.2.1 c:=by
 rw[mem_flatMap]
 constructor
 .rintro⟨p,a,b⟩;exact%[_,Xc %[p,a|rfl]|(oY (h p a)).mp b]
 .rintro⟨q,d,b⟩;have%[p,a|rfl]:=Xb d;exact%[p,a|(oY (h p a)).mpr b]
theorem ve{ds:List (Addr×Drn)}(h:∀p∈ds,mw p.2)(a:(ds.map λp=>p.2.name).Nodup):(ds.flatMap λp=>(iD p.2).map (·.1)).Nodup:=
 oZ a (λp _=>wS p.2) λp b x d=>by
  have%[c,_|e]:=(oY (h p b)).mp d;exact%[c|e]
theorem kU{a:List _}(d:(a.map λp=>p.2.1).Nodup){b:ZB}(h:b.Perm (a.flatMap lyr)):b.Nodup:=by
 rw[h.nodup_iff];exact oZ d (λp _=>zY p) λp g x f=>by
  have%[c,_|e]:=sX.mp f;exact%[c|e]
structure lT (H:Hp) (cs:List _) (qs:List _):Prop where
 ca:cc H cs
 nd:(cs.map λp=>p.2.1).Nodup
 p1:1<=cs.length
 p3:cs.length<=3
 few:∀p∈cs,zA p.2.2
 ly:(cs.flatMap lyr).length<=60
 sa:∀ls,ls.Perm (cs.flatMap lyr)->cz H ls qs
 q20:qs.length<=20
theorem lT.up(h:lT H a qs)(s:af H b):lT b a qs:=
 %[h.ca.up s,h.nd,h.p1,h.p3,h.few,h.ly,λc p=>(h.sa c p).up s|h.q20]
inductive pc (K:ZA) (vs:ZM) (H:Hp) (Q:VK) (E0:XK):Prop
 | mk (a:Addr) (ns:ZL):vs=[.ref a]->SqL K H a (ns.map V.int)->C8 H->ns.length<=63->(∀H',Q (.bl true) H')->pc K vs H Q E0
theorem yd{R:Hp->Prop}(l:H g=none)(j:H d=none)(r:H a=some (.lst (cq i)))(s:H b=some (.lst (qs.map λq=>V.ref q.1)))(p:lT H i qs)
 (k:∀f c ts,af H f->iH mg f g qs c ts->c.Perm (i.flatMap lyr)->(∀k,k∈ts.map (·.2)↔k∈iA i\/k∈dE qs qs.length)->R f):
 sN mg [.ref g,.ref a,.ref b] (upd (upd H d (.own g)) g (.ins (aH mg "Ground") d [])) (λv u=>v= .non/\R u) E0:=by
 have h:af H (upd (upd H d (.own g)) g (.ins (aH mg "Ground") d [])):=λb o e=>by
  rw[ak (ar e l),ak (ar e j)];exact e
 refine%[g,a,b,d,i,qs,rfl,aa,h _ _ r,h _ _ s,p.ca.up h,p.nd,p.p1,p.p3,p.few,p.ly,λc q=>(p.sa c q).up h,p.q20|λf c ts y z A B C tk E G I pl J=>%[rfl|k f c ts (λb o e=>B b o (ar e l) (h _ _ e)) %[%[y,z,A|C],kU p.nd pl,J,pl.length_eq▸p.ly,I,λk m=>?_,λk m=>?_|E] pl G]]<;> have%[t,n|rfl]:=Xb m
 .exact(tk t n).1
 .exact(tk t n).2
theorem Cv(d:aQ (be qs) ks lk)(b:∀k∈lk,cL e k)(r:Rch lk x x):mz e ks qs ex:=λf g h _ ws a=>by
 have%[u|c]:=eA ws (jY b r).1;exact%[u|qZ d a sW h b ws r c c]
theorem GT{S:Str->Str->Prop}(c:kR S f d)(b:kR S f a)(h:eM lk d L m d)(h':eM lk a i j a):(d.filter λx=>decide (x∉L)).length=(a.filter λx=>decide (x∉i)).length:=by
 have e:=λx=>(b.mem x).trans (c.mem x).symm
 have g:=h'.of e;rw[Co b.nd c.nd e];exact Nat.le_antisymm (eM.size c.nd h g) (eM.size c.nd g h)
theorem Ek{S:Str->Str->Prop}(d:kR S i a)(h:eM lk a L m a)(f:∀x,¬ Rch lk x x)(g:x∈a)(one:∀y∈a,y=x):(a.filter λx=>decide (x∉L)).length=1:=by
 have e:(a.filter λx=>decide (x∉L))=a:=List.filter_eq_self.mpr λy b=>Ze λc=>f x (by
  have:=h.mat.ed y c;rwa[one _ (h.mn y c),one y b]at this)
 rw[e];refine Nat.le_antisymm (STab.nodup_sub d.nd λy b=>mem_singleton.mpr (one y b)) (List.length_pos_of_mem g)
theorem GU(F:Fun K "law" "law" kD f fd)(T:Txt K mg):dj P w K mg base CX0 12 f fd ["_law_script"] (pc K):=by
 refine F.ok iw (by fin2) (λdr A outer s H vs Q E B h=>?_)
 .have%[a,ns,rfl,hs,ho,hn|kk]:=h;refine%[_,%["JC~MF]5AF]6A0AEBBfMK1MK2MK3gCH4~^~_A'*A1BA'*A2BBCH5F]7A4A2A3AF]8A0AEBBCOL~+5(DGmeVWAF~|A4BBEPCH6~^~_A'*A1BA'*A5BBCH7F~RA6BCTSQAEAEAEBK8DOohF]9A8A6A7BDGsPDG~dm`A52)meVWAF`BA4BBVWAF~|A4BB",iw.nd|B]|?_]
  show bc _ _ _ [!a,none,none,none,none,none,none,none,none] H;refine ap λD1 k1 _=>?_
  lk;refine%[a,ns,43,rfl,hs,⋯,by decide,by decide|λl0 H0 xs s0 f0 h0 O hb=>?_];refine%[l0,xs,rfl,SqL.of h0,λU C=>SqL.of (C _ _ h0),O,hb|λt l1 Y l3 H1 ds qs s1 ft f1 f2 f3 dt dy dK ht h1 h2 h3 d1 d3 ab a8 ca a9 hq dT cd=>?_];lk;refine%[_,SqT.of ht,rfl,_,_,rfl,_,_,rfl,_,_,rfl,rfl|k1 _ _ (ap λD3 k3 _=>?_)];have nm:((dcs ds).map λp=>p.2.1).Nodup:=by
   unfold dcs;rw[Yl];exact a8
  have dl:(dcs ds).length=ds.length:=by unfold dcs;rw[Z5]
  have sub:∀j:ZB,j.Perm ((dcs ds).flatMap lyr)->∀x,x∈j↔x∈(ds.flatMap λp=>(iD p.2).map (·.1)):=λj pl x=>by rw[wU pl,zZ ab]
  have ch:∀p∈dcs ds,zA p.2.2:=λp hp=>by
   unfold dcs at hp;have%[d,hd|rfl]:=Xb hp;exact B2 (ab d hd).2.2.2.2.2
  have ly:((dcs ds).flatMap lyr).length<=60:=by
   have:=STab.nodup_sub (kU nm (.refl _)) λx O=>(sub _ (.refl _) x).mp O
   lia
  have P1:lT H1 (dcs ds) qs:=%[ca,nm,⋯,⋯,ch,ly,λj p q L=>%[(a9 q L).1|(a9 q L).2.mono λx=>(sub j p x).mpr]|⋯]
  have nN:=ve ab a8
  generalize (ds.flatMap λp=>(iD p.2).map (·.1))=N at h3 sub cd nN
  lk;refine%[_,.inl (SqL.of h1)|λa1 bb=>%[_,.inl (SqL.of (af.upd bb _ _ h2))|λb1 ae=>?_]];have t1:=af.upd (o:= .lst (cq (dcs ds))) bb;have ag:upd H1 a1 (.lst (cq (dcs ds))) a1=some (.lst (cq (dcs ds))):=aa
  generalize upd H1 a1 (.lst (cq (dcs ds)))=H2 at t1 ag ae ⊢
  have t2:=af.upd (o:= .lst (qs.map λq=>V.ref q.1)) ae;have ai:upd H2 b1 (.lst (qs.map λq=>V.ref q.1)) b1=some (.lst (qs.map λq=>V.ref q.1)):=aa;have aj:=t2 _ _ ag
  generalize upd H2 b1 (.lst (qs.map λq=>V.ref q.1))=H3 at t2 ai aj ⊢
  have al:=t1.trans t2;refine λg dx fg cl dV=>yd fg cl aj ai (P1.up al) λH4 j ts t4 gr pl tm=>k3 _ _ (ap λD4 k4 r4=>?_)
  have G:=al.trans t4;have an:=sub j pl;have bf:=G _ _ h2;have bl:=G _ _ h3;have P4:=P1.up G;have bm:=s0.trans (s1.trans G);clear aj ai ae t1 t2 al ag;lk;refine%[a,ns,3,rfl,Cr hs bm,by decide,g,Y,l3,_,qs,j,N,ts,rfl,gr,bf,bl,λx O=>(an x).mpr O,nN,⋯,⋯|λH5 lk t5 M=>?_];have%[c2,c3,c4|co]:=gr.gr;have sw:=f9 co.sa;have ll:=gr.ll;have bn:=t5 _ _ bf;have d0:=t5 _ _ bl;have cp:=t5 _ _ (G _ _ h1);have P5:=P4.up t5;have d7:=bm.trans t5;have bp:=gr.up t5;have rest:∀(lt:Addr) (ex:ZN),H5 lt=some (.lst ((qs++ex).map λq=>V.ref q.1))->cz H5 j ex->ex.length<=2->(lt=Y\/(1<=ex.length/\∀x,¬ Rch lk x x))->mz j (ts.map (·.2)) qs ex->D4.nx [!a,!l1,!Y,!l3,!g,!lt,none,none,none] H5:=λlt ex bt sa e2 bU te=>by
   refine k4 _ _ (ap λD5 k5 r5=>?_);lk;rw[if_neg ∅];refine k5 _ _ (ap λD6 k6 r6=>?_);lk;refine%[_,.inl (SqL.of cp)|λa2 b0=>%[_,.inl (SqL.of (af.upd b0 _ _ bt))|λb2 b3=>?_]];have u1:=af.upd (o:= .lst (cq (dcs ds))) b0;have ga:upd H5 a2 (.lst (cq (dcs ds))) a2=_:=aa
   generalize upd H5 a2 (.lst (cq (dcs ds)))=Ha at u1 ga b3 ⊢
   have u2:=af.upd (o:= .lst ((qs++ex).map λq=>V.ref q.1)) b3;have gb:upd Ha b2 (.lst ((qs++ex).map λq=>V.ref q.1)) b2=_:=aa;have ga:=u2 _ _ ga
   generalize upd Ha b2 (.lst ((qs++ex).map λq=>V.ref q.1))=Hb at u2 gb ga ⊢
   have b4:=u1.trans u2;have P6:lT H5 (dcs ds) (qs++ex):=%[P5.ca,P5.nd,P5.p1,P5.p3,P5.few,P5.ly,λr p q' L=>(X9 L).elim (P5.sa r p q') λc=>%[(sa q' c).1|(sa q' c).2.mono λx O=>(sub r p x).mpr ((an x).mp O)]|by rw[Z8];lia]
   refine λg' ea cs b5 dn=>yd cs b5 ga gb (P6.up b4) λH6 r as u6 b eb b6=>k6 _ _ (ap λD7 k7 r7=>?_)
   have ct:=b4.trans u6;have%[d2,d3,d4|b7]:=b.gr;have ec:=b.ll;lk;refine%[g',d2,d3,d4,qs++ex,r,as,rfl,b7,b.nd,b.so,⋯,b.tl,b.t3|λso H7 ss u7 ed a0 tu I sl=>k7 _ _ (ap λD8 k8 r8=>az λdp hK=>?_)];have cx:=ct.trans u7;have cy:=te (as.map (·.2)) (ss.map (·.2)) (λk hk=>(b6 k).mpr (((tm k).mp hk).imp_right GR)) (λk hk=>(b6 k).mpr (.inr hk)) (f9 (P6.sa j pl)) I;have la:cI H7 r ss:=jf tu (b.ties I);have cM:=b.up u7;lk;refine%[#[3]|λpr fp=>?_];have u8:=af.upd (o:= .lst [V.int 0,V.int 1,V.int 0]) fp;have a3:upd H7 pr (.lst [V.int 0,V.int 1,V.int 0]) pr=_:=aa
   generalize upd H7 pr (.lst [V.int 0,V.int 1,V.int 0])=H8 at u8 a3 ⊢
   refine .inl %[%[_|SqL.of a3]|hK _ _ ?_];have a4:=cx.trans u8;have a0:=u8 _ _ a0;have la:=la.up u8;have c0:=cM.up u8;have b9:=bp.up a4;refine bx (xs:=[V.int 0,V.int 1,V.int 0]) (λi σ U=>(∃o8,σ=[!a,!l1,!Y,!l3,!g,!lt,!g',!so,o8])/\af H8 U)
    %[%[_|rfl]|λ_ _ e=>e] (λi σ U _ h=>SqL.of (h.2 _ _ a3)) ?_ ?_
   .intro i v σ U hv %[%[o8|rfl]|C];obtain⟨n,rfl⟩:∃n,v= .int n:=by
     have:=Z7 hv;simp only[Yp,Yx,or_false]at this;rcases this with rfl|rfl|rfl<;> exact%[_|rfl]
    show j6 _ _ _ _ [!a,!l1,!Y,!l3,!g,!lt,!g',!so,some (.int n)] U;refine aC λeg c1 _=>?_
    lk;exact%[_,g',so,qs++ex,r,r,as,ss,rfl,c0.up C,I,cy,C _ _ a0,la.up C,sl|λH3 s3=>%[true,rfl|tD (c1 _ _ %[%[_|rfl]|C.trans s3])]]
   .intro σ U %[%[o8|rfl]|C];refine k8 _ _ ?_;lk;refine%[lt,Y,_,_,rfl,rfl,C _ _ (a4 _ _ bt),C _ _ (a4 _ _ bn),bU.imp_right λ⟨e1,_⟩=>by rw[Z5,Z5,Z8];lia,_,rfl|bj (λ_=>kk U) λne=>?_];have nr:=(bU.resolve_left λc=>ne (Ze c)).2;have J:∀u,aQ (be qs) (ts.map (·.2)) u->∀x,¬ Rch u x x:=λu h'=>(h'.one M)▸nr
    refine%[g,qs,j,ts,rfl,b9.up C,J|λl H2 c5 c7 L1 m1 da s2 a5 n1 p1 a6 e1=>%[_,.inl %[_,SqL.of a6|rfl],g,qs,j,ts,rfl,b9.up (C.trans s2),J|λl' H3 eh ej L2 m2 ek s3 dc n2 p2 dd de=>%[_,.inl %[_,SqL.of dd|rfl]|?_]]];obtain rfl:=a5.one dc;rw[e1,de,GT n1 n2 p1 p2,Ze rfl];exact kk H3
  refine%[λx rx=>rest Y [] (by rw[Zw];exact bn) (λq hq=>(nomatch hq)) ∅ (.inl rfl) (Cv M (gr.ties M) rx)|λnr=>%[λel=>k4 _ _ (ap λD5 k5 r5=>?_)|λl ex fl hl e1 e2 sa te=>rest l ex hl sa e2 (.inr %[e1|nr]) te]];lk;rw[if_pos ∅];have n1:0<N.length:=by lia
  have J:∀u,aQ (be qs) (ts.map (·.2)) u->∀x,¬ Rch u x x:=λu h'=>(h'.one M)▸nr
  refine%[g,qs,j,ts,rfl,bp,J|λl H6 c5 c7 L1 m1 da s6 a5 a7 p1 a6 e1=>?_];obtain⟨z,hz⟩:∃z,N=[z]:=List.length_eq_one_iff.mp ⋯;have lz:∀x,x∈j↔x=z:=λx=>by rw[an,hz,Yr]
  have%[m|hm]:=eA sw ((lz z).mpr rfl);have dk:m=z:=(lz m).mp (dw.within (p:=(·∈j)) sw hm.1 ((lz z).mpr rfl));refine%[_,.inl %[_,SqL.of a6|rfl]|r5 _ _ ?_];rw[e1,Ek a7 p1 (J _ a5) ((a7.mem z).mpr %[(lz z).mpr rfl|dk▸hm]) λy hy=>(lz y).mp ((a7.mem y).mp hy).1];exact kk H6
end
def DI(K:ZA)(x:Str)(st:Stmt):Prop:=∃(f:Addr) (b:Value) (od c:ZI) (d:ZK) (kV e g a ct:Value),nsIn K mainGlobals x=some (some (.ref f))/\K.lookup f=some %[b,od,.func (fnOf x x (bZ st) (bi st) (ah st) .none kV e g c a ct)|d]/\codeIn K a x=true/\keepIn K (.ref f)=true
theorem di_mk{K:ZA}{x:Str}{st:Stmt}{f:Addr}{d:Value}{od e:ZI}{g:ZK}{kV h i b ct:Value}(a:nsIn K mainGlobals x=some (some (.ref f)))(l:K.lookup f=some %[d,od,.func (fnOf x x (bZ st) (bi st) (ah st) .none kV h i e b ct)|g])(c:codeIn K b x=true)(k:keepIn K (.ref f)=true):DI K x st:=%[f,d,od,e,g,kV,h,i,b,ct,a,l,c|k]
theorem ax{K:ZA}{h:Heap}{mg:ZC}{x:Str}{st:Stmt}{ps:ZB}(X:K.In h)(G:h.Ns mainGlobals mg)(d:DI K x st)(b:∀(kV e i:Value) (j:ZI) (g ct:Value) (us:ZG),us.length=ps.length->bindArgs (fnOf x x (bZ st) (bi st) (ah st) .none kV e i j g ct) %[us|[]]=pure (ps.zip us)):aD K mg x st ps:=by
 have%[f,m,od,j,n,kV,o,i,p,ct,a,l,c|k]:=d;exact FR X G a l c k b
theorem all_mk{l:PySem.W.OpenLaw}{w:World}{K:ZA}{h:Heap}{mg:ZC}{fa bq:Addr}(X:K.In h)(G:h.Ns mainGlobals mg)(hfa:mg "law"=some (.ref fa))
 {fw e0:ZI} {fx:ZK} {fy e1 e2 e3 br e4:Value}
 (fz:DI K "names_by_layer" dN)
 (f0:DI K "join_deposits" eC)
 (f1:DI K "least_pointed_to" df)
 (f2:DI K "deposits" jR)
 (f3:DI K "deposit_names" cY)
 (f4:DI K "links" mS)
 (f5:DI K "links_by_later" dP)
 (f6:DI K "links_by_earlier" dg)
 (f7:DI K "grouped" lE)
 (f8:DI K "laid_in_turn" dA)
 (f9:DI K "shortest_way" fC)
 (ga:DI K "next_edge" i8)
 (gb:DI K "way_to" og)
 (gc:DI K "all_beneath" gB)
 (gd:DI K "most_pairs" eQ)
 (ge:DI K "ask_around" ik)
 (gf:DI K "pass_on" lF)
 (gg:DI K "keys_by_value" eD)
 (gh:DI K "one_of_each_pair" bP)
 (gi:DI K "ring" wC)
 (gj:DI K "shortest_ring" eE)
 (gk:DI K "never_laid" im)
 (gl:DI K "untorn_links" fE)
 (gm:DI K "earlier_ones" fF)
 (gn:DI K "fewest_rows" cV)
 (go:DI K "row_from" jT)
 (gp:DI K "widest" i9)
 (gq:DI K "is_name" jq)
 (gr:DI K "rows_of" lG)
 (gs:DI K "is_row" kC)
 (gt:DI K "lies_beneath" dB)
 (gu:DI K "letters_in" eR)
 (gv:DI K "letters" lH)
 (gw:DI K "meetings" jU)
 (gx:DI K "meetings_between" cj)
 (gy:DI K "check_cuts" ip)
 (gz:DI K "is_named_cut" fG)
 (g0:DI K "is_cut" oh)
 (g1:DI K "check_sayings" eF)
 (g2:DI K "is_saying" ja)
 (g3:DI K "is_text_among" eG)
 (g4:DI K "is_year" lJ)
 (g5:DI K "layer_name" iq)
 (g6:DI K "layers_of" fY)
 (g7:DI K "ties_of_cuts" fH)
 (g8:DI K "ties_of_sayings" dC)
 (g9:DI K "_law_cell_at" gC)
 (ha:DI K "_law_row" lK)
 (hb:DI K "_law_column" ir)
 (hc:DI K "_law_sign" jV)
 (hd:DI K "_law_cut" dR)
 (he:DI K "_law_saying" iu)
 (hf:DI K "_law_ground" eT)
 (hg:DI K "_law_steps" jb)
 (hh:DI K "_law_torn_sayings" cn)
 (hi:DI K "_law_is_ring" d6)
 (hj:DI K "_law_only_torn" eI)
 (hk:DI K "_law_refused" gE)
 (bs:nsIn K mainGlobals "law"=some (some (.ref bq))) (bt:K.lookup bq=some %[fy,fw,.func (fnOf "law" "law" (bZ kD) (bi kD) (ah kD) .none e1 e2 e3 e0 br e4)|fx]) (bu:codeIn K br "law"=true) (bv:keepIn K (.ref bq)=true)
 {e5 e6 e7 e8 e9 fb fc fe ff fg fh:Value}
 (bw:nsIn K mainGlobals "min"=some none)
 (bx:nsIn K mainGlobals "max"=some none)
 (bz:nsIn K mainGlobals "list"=some none)
 (b0:nsIn K mainGlobals "set"=some none)
 (b1:nsIn K mainGlobals "sorted"=some none)
 (b2:nsIn K mainGlobals "len"=some none)
 (b3:nsIn K mainGlobals "reversed"=some none)
 (b4:nsIn K mainGlobals "all"=some none)
 (b5:nsIn K mainGlobals "str"=some none)
 (b6:nsIn K mainGlobals "isinstance"=some none)
 (b7:nsIn K mainGlobals "enumerate"=some none)
 (b8:nsIn K mainGlobals "zip"=some none)
 (b9:nsIn K mainGlobals "tuple"=some none)
 (ca:nsIn K mainGlobals "int"=some none)
 (cc:nsIn K mainGlobals "bool"=some none)
 (cd:nsIn K mainGlobals "range"=some none)
 (ce:nsIn K mainGlobals "abs"=some none)
 (cf:nsIn K mainGlobals "ValueError"=some none)
 (cg:nsIn K mainGlobals "LATER"=some (some e5)) (ch:aO (.int 0) e5)
 (ci:nsIn K mainGlobals "EARLIER"=some (some e6)) (ck:aO (.int 1) e6)
 (cl:nsIn K mainGlobals "LONGEST_NAME"=some (some e7)) (cm:aO (.int 8) e7)
 (co:nsIn K mainGlobals "LETTERS"=some (some e8)) (cp:aO (.str "abcdefghijklmnopqrstuvwxyz") e8)
 (cq:nsIn K mainGlobals "MOST_ROWS"=some (some e9)) (cr:aO (.int 40) e9)
 (cs:nsIn K mainGlobals "MOST_SIGNS"=some (some fb)) (ct:aO (.int 40) fb)
 (cv:nsIn K mainGlobals "AIR"=some (some fc)) (cw:aO (.str ".") fc)
 (cx:nsIn K mainGlobals "MOST_CUTS"=some (some fe)) (cy:aO (.int 8) fe)
 (cz:nsIn K mainGlobals "MOST_SAYINGS"=some (some ff)) (c0:aO (.int 60) ff)
 (c1:nsIn K mainGlobals "FIRST_YEAR"=some (some fg)) (c2:aO (.int (-9999)) fg)
 (c3:nsIn K mainGlobals "LAST_YEAR"=some (some fh)) (c4:aO (.int 9999) fh)
 {aa ac ad fi fj fk fl fm:Addr}
 {ae:Addr} {hm hn:ZI} {ho:ZK} {hp hq hr fo hs:Value}
 (af:nsIn K mainGlobals "Torn"=some (some (.ref aa)))
 (aq:nsIn K mainGlobals "DigError"=some (some (.ref ac)))
 (ar:nsIn K mainGlobals "NoCut"=some (some (.ref ad)))
 (au:nsIn K mainGlobals "NoLayer"=some (some (.ref fi)))
 (av:nsIn K mainGlobals "NoRow"=some (some (.ref fj)))
 (aw:nsIn K mainGlobals "NoDeed"=some (some (.ref fk)))
 (ay:nsIn K mainGlobals "NoSaying"=some (some (.ref fl)))
 (az:nsIn K mainGlobals "NoGround"=some (some (.ref fm)))
 (a0:findIn K (.ref aa) "__getattribute__"=some (some (.builtin "BaseException.__getattribute__")))
 (ba:findIn K (.ref aa) "__getattr__"=some none)
 (bb:subIn K (.ref aa) (.type "BaseException")=some true)
 (ag:hasDictIn K aa=true)
 (c5:findIn K (.ref aa) "__class__"=some (some (.builtin "object.__class__")))
 (c6:specialIn K (.builtin "object.__class__") "__get__"=some (some (.builtin "getset_descriptor.__get__")))
 (c7:takesIn K (.builtin "object.__class__")=some true)
 (c8:mroIn K aa (.type "object")=some true)
 (fp:findIn K (.ref aa) "__init__"=some (some (.ref ae)))
 (ai:K.lookup ae=some %[.type "function",hm,.func (fnOf "__init__" "Torn.__init__" (bZ ei) (bi ei) (ah ei) .none hp hq hr hn fo hs)|ho])
 (bc:codeIn K fo "Torn.__init__"=true)
 (bd:keepIn K (.ref ae)=true)
 (c9:exK K aa ae=true)
 (da:keepIn K (.ref aa)=true)
 (db:findIn K (.ref aa) "__setattr__"=some (some (.builtin "object.__setattr__")))
 (dc:rR K aa=true)
 (be:findIn K (.ref aa) "ring"=some none)






 (dd:subIn K (.ref aa) (.ref ad)=some false)
 (de:subIn K (.ref aa) (.ref ac)=some true)
 (dh:kitOne K (.ref aa) (.ref ad)=some false)
 (di:kitOne K (.ref aa) (.ref fm)=some false)
 (dk:kitOne K (.ref aa) (.ref fl)=some false)
 (dl:kitOne K (.ref aa) (.ref fk)=some false)
 (dm:kitOne K (.ref aa) (.ref aa)=some true)
 (dn:kitOne K (.ref aa) (.type "ValueError")=some true)
 (dp:kitOne K (.ref aa) (.ref fj)=some false)
 (dq:kitOne K (.ref aa) (.ref fi)=some false)
 (dr:specialIn K (.ref ac) "__getattribute__"=some (some (.builtin "type.__getattribute__")))
 (ds:readsIn K ac (.type "type")=true)
 (dt:findCls K (.ref ac) (.type "type") "__init__"=some (.val (.builtin "ValueError.__init__")))
 (du:typeIn K (.ref ad)=some (.type "type"))
 (dv:subIn K (.ref ad) (.type "BaseException")=some true)
 (dw:(K.lookup ad).any (λo=>match o.data with| .cls _=>true|_=>false)=true)
 (dx:typeIn K (.ref ac)=some (.type "type"))
 (dy:subIn K (.ref ac) (.type "BaseException")=some true)
 (dz:(K.lookup ac).any (λo=>match o.data with| .cls _=>true|_=>false)=true)
 {ab:Addr}
 (bf:nsIn K mainGlobals "Ground"=some (some (.ref ab)))
 (d0:plainGet K ab Str.empty=true)
 (d1:hasDictIn K ab=true)
 (d2:plainOver K ab=true)
 (d3:findIn K (.ref ab) "__setattr__"=some (some (.builtin "object.__setattr__")))
 (d4:findIn K (.ref ab) "kept_cuts"=some none)
 (d5:findIn K (.ref ab) "kept_sayings"=some none)
 (d7:findIn K (.ref ab) "kept_layers"=some none)
 (d8:findIn K (.ref ab) "kept_ties"=some none)
 {aj:Addr} {ht hu:ZI} {hv:ZK} {hx hy hz h0 fq h1:Value}
 (d9:findIn K (.ref ab) "__init__"=some (some (.ref aj)))
 (bg:K.lookup aj=some %[hx,ht,.func (fnOf "__init__" "Ground.__init__" (bZ bX) (bi bX) (ah bX) .none hy hz h0 hu fq h1)|hv])
 (bh:codeIn K fq "Ground.__init__"=true)
 (bj:keepIn K (.ref aj)=true)
 (ea:isFn K (.ref aj)=true)
 (eb:makesIn K ab=true)
 (ec:keepIn K (.ref ab)=true)
 {ak:Addr} {h2 h3:ZI} {h4:ZK} {h5 h6 h7 h8 fr h9:Value}
 (ed:findIn K (.ref ab) "sayings"=some (some (.ref ak)))
 (bk:K.lookup ak=some %[h5,h2,.func (fnOf "sayings" "Ground.sayings" (bZ cb) (bi cb) (ah cb) .none h6 h7 h8 h3 fr h9)|h4])
 (bl:codeIn K fr "Ground.sayings"=true)
 (al:keepIn K (.ref ak)=true)
 (ee:isFn K (.ref ak)=true)
 {am:Addr} {ia ib:ZI} {ic:ZK} {id ie ig ih fs ii:Value}
 (ef:findIn K (.ref ab) "layers"=some (some (.ref am)))
 (bm:K.lookup am=some %[id,ia,.func (fnOf "layers" "Ground.layers" (bZ cu) (bi cu) (ah cu) .none ie ig ih ib fs ii)|ic])
 (bn:codeIn K fs "Ground.layers"=true)
 (an:keepIn K (.ref am)=true)
 (eg:isFn K (.ref am)=true)
 {ao:Addr} {ij il:ZI} {io:ZK} {it iv iw ix ft iy:Value}
 (eh:findIn K (.ref ab) "ties"=some (some (.ref ao)))
 (bo:K.lookup ao=some %[it,ij,.func (fnOf "ties" "Ground.ties" (bZ cW) (bi cW) (ah cW) .none iv iw ix il ft iy)|io])
 (bp:codeIn K ft "Ground.ties"=true)
 (ap:keepIn K (.ref ao)=true)
 (ej:isFn K (.ref ao)=true)
 {fu:Addr} {ek:Obj} {el:ZJ} {iz:Nat}
 (em:nsIn K mainGlobals "YEAR_WORDS"=some (some (.ref fu)))
 (en:K.lookup fu=some ek)
 (eo:ek.cls= .type "tuple")
 (ep:ek.data= .seq el iz)
 (eq:el.size<=sizeLine)
 (er:aE [.str "since",.str "by"] el.toList)
 {fv:Addr} {es:Obj} {et:ZJ} {i0:Nat}
 (eu:nsIn K mainGlobals "LAYER_WORDS"=some (some (.ref fv)))
 (ev:K.lookup fv=some es)
 (ew:es.cls= .type "tuple")
 (ex:es.data= .seq et i0)
 (ey:et.size<=sizeLine)
 (ez:aE [.str "later",.str "same"] et.toList)
 :∃fd:FuncData,(∀(s:Shared) (v:Value),BindsTo s fd %[[v]|[]] [("_law_script",v)])/\∀base:Heap,K.In base->base.Ns mainGlobals mg->dj l.prog w K mg base CX0 12 fa fd ["_law_script"] (pc K):=by
 have e:=hfa.symm.trans (mg_of X G bs);cases e;have i1:=eO (mg_of X G af);subst i1;have i2:=eO (mg_of X G aq);subst i2;have i3:=eO (mg_of X G ar);subst i3;have i4:=eO (mg_of X G au);subst i4;have i5:=eO (mg_of X G av);subst i5;have i6:=eO (mg_of X G aw);subst i6;have i7:=eO (mg_of X G ay);subst i7;have jc:=eO (mg_of X G az);subst jc;have jd:=eO (mg_of X G bf);subst jd;have T:Txt K mg:=%[mg_none_of X G bw,
  mg_none_of X G bx,
  mg_none_of X G bz,
  mg_none_of X G b0,
  mg_none_of X G b1,
  mg_none_of X G b2,
  mg_none_of X G b3,
  mg_none_of X G b4,
  mg_none_of X G b5,
  mg_none_of X G b6,
  mg_none_of X G b7,
  mg_none_of X G b8,
  mg_none_of X G b9,
  mg_none_of X G ca,
  mg_none_of X G cc,
  mg_none_of X G cd,
  mg_none_of X G ce,
  mg_none_of X G cf,
  iR X G cg ch,
  iR X G ci ck,
  iR X G cl cm,
  iR X G co cp,
  iR X G cq cr,
  iR X G cs ct,
  iR X G cv cw,
  iR X G cx cy,
  iR X G cz c0,
  iR X G c1 c2,
  iR X G c3 c4,
  ax X G fz (by room),
  ax X G f0 (by room),
  ax X G f1 (by room),
  ax X G f2 (by room),
  ax X G f3 (by room),
  ax X G f4 (by room),
  ax X G f5 (by room),
  ax X G f6 (by room),
  ax X G f7 (by room),
  ax X G f8 (by room),
  ax X G f9 (by room),
  ax X G ga (by room),
  ax X G gb (by room),
  ax X G gc (by room),
  ax X G gd (by room),
  ax X G ge (by room),
  ax X G gf (by room),
  ax X G gg (by room),
  ax X G gh (by room),
  ax X G gi (by room),
  ax X G gj (by room),
  ax X G gk (by room),
  ax X G gl (by room),
  ax X G gm (by room),
  ax X G gn (by room),
  ax X G go (by room),
  ax X G gp (by room),
  ax X G gq (by room),
  ax X G gr (by room),
  ax X G gs (by room),
  ax X G gt (by room),
  ax X G gu (by room),
  ax X G gv (by room),
  ax X G gw (by room),
  ax X G gx (by room),
  ax X G gy (by room),
  ax X G gz (by room),
  ax X G g0 (by room),
  ax X G g1 (by room),
  ax X G g2 (by room),
  ax X G g3 (by room),
  ax X G g4 (by room),
  ax X G g5 (by room),
  ax X G g6 (by room),
  ax X G g7 (by room),
  ax X G g8 (by room),
  ax X G g9 (by room),
  ax X G ha (by room),
  ax X G hb (by room),
  ax X G hc (by room),
  ax X G hd (by room),
  ax X G he (by room),
  ax X G hf (by room),
  ax X G hg (by room),
  ax X G hh (by room),
  ax X G hi (by room),
  ax X G hj (by room),
  ax X G hk (by room),
  mg_of X G af,
  mg_of X G aq,
  mg_of X G ar,
  mg_of X G au,
  mg_of X G av,
  mg_of X G aw,
  mg_of X G ay,
  mg_of X G az,
  %[mg_of X G af,%[a0,ba,bb,ag,c5,c6,c7|c8],ae,_,%[c9,by rw[ai];rfl|da],dL ai bc bd|(dL ai bc bd).binds (by room)],
  %[db,dc,be|ag],
  %[a0,ba,bb,be|ag],
  dd,
  de,
  dh,
  di,
  dk,
  dl,
  dm,
  dn,
  dp,
  dq,
  %[dr,ds|dt],
  %[du,dv|dw],
  %[dx,dy|dz],
  %[mg_of X G bf,d0,d1,d2|d3],
  d4,
  d5,
  d7,
  d8,
  %[aj,_,%[eb,d9,ea|ec],dL bg bh bj|(dL bg bh bj).binds (by room)],
  %[ak,_,%[ed,ee|al],dL bk bl al|(dL bk bl al).binds (by room)],
  %[am,_,%[ef,eg|an],dL bm bn an|(dL bm bn an).binds (by room)],
  %[ao,_,%[eh,ej|ap],dL bo bp ap|(dL bo bp ap).binds (by room)],
  BE X G em en eo ep eq er|
  BE X G eu ev ew ex ey ez]
 exact%[fnOf "law" "law" (bZ kD) (bi kD) (ah kD) .none e1 e2 e3 e0 br e4,λs v=> .of_eq rfl|λbase _ _=>GU (dL (st:=kD) bt bu bv) T]
theorem walk{l:PySem.W.OpenLaw}{q:Program}{b:ZB}{j:(Str->Option Value)->Heap->Prop}{e:World->Heap->Prop}{d:DefRec}{K:Params->ZA}(m:l.most=some 63)(c:d.params.defaults=[])
 (o:∀(w:World) (h:Heap),e w h->(K w.params).In h)
 (F:∀(w:World) (mg:ZC) (g:Addr) (h:Heap),(K w.params).In h->h.Ns mainGlobals mg->mg d.name=some (.ref g)->
  ∃i:FuncData,(∀(s:Shared) (u:Value),BindsTo s i %[[u]|[]] [("_law_script",u)])/\∀base:Heap,(K w.params).In base->base.Ns mainGlobals mg->dj l.prog w (K w.params) mg base CX0 12 g i ["_law_script"] (pc (K w.params))):
 PySem.W.WalkO q b j e l.row.toRowW d [] (λf vs=>PySem.call f vs):=
 L2.walk_of (n:=63) (k:=12) (x:="_law_script") (CX:=λ_=>CX0) (sp:=λw=>pc (K w.params)) m (by decide) c %[rfl,by decide,by decide|rfl] o F (λ_ _ a p r t v=>%[a,p,rfl,v,t,r|λ_=>rfl]) λ_ _ _ _ _ z=>z
end K64
end
open PySem PySem.W PyProof.Rows
set_option maxRecDepth 100000 in
theorem PySem.Challenge.cw_digbook_k64_rows_torn_holds : PySem.Challenge.rw_digbook_k64_rows_torn.Holds := by
 w_on;o_law;k_head;(case hw=>w_witness2)
 k_fill
 refine K64.walk (l:=PySem.Challenge.rw_digbook_k64_rows_torn) rfl rfl (λw h Y=>PySem.W.kIn_of Y) ?F
 case F=>
  intro w mg fa h KX G hmg;refine' K64.all_mk KX G hmg ?_ ?_ ?_ ?_ ?_ ?_ ?_ ?_ ?_ ?_ ?_ ?_ ?_ ?_ ?_ ?_ ?_ ?_ ?_ ?_ ?_ ?_ ?_ ?_ ?_ ?_ ?_ ?_ ?_ ?_ ?_ ?_ ?_ ?_ ?_ ?_ ?_ ?_ ?_ ?_ ?_ ?_ ?_ ?_ ?_ ?_ ?_ ?_ ?_ ?_ ?_ ?_ ?_ ?_ ?_ ?_ ?_ ?_ ?bs ?bt ?bu ?bv ?bw ?bx ?bz ?b0 ?b1 ?b2 ?b3 ?b4 ?b5 ?b6 ?b7 ?b8 ?b9 ?ca ?cc ?cd ?ce ?cf ?cg ?ch ?ci ?ck ?cl ?cm ?co ?cp ?cq ?cr ?cs ?ct ?cv ?cw ?cx ?cy ?cz ?c0 ?c1 ?c2 ?c3 ?c4 ?af ?aq ?ar ?au ?av ?aw ?ay ?az ?a0 ?ba ?bb ?ag ?c5 ?c6 ?c7 ?c8 ?fp ?ai ?bc ?bd ?c9 ?da ?db ?dc ?be ?dd ?de ?dh ?di ?dk ?dl ?dm ?dn ?dp ?dq ?dr ?ds ?dt ?du ?dv ?dw ?dx ?dy ?dz ?bf ?d0 ?d1 ?d2 ?d3 ?d4 ?d5 ?d7 ?d8 ?d9 ?bg ?bh ?bj ?ea ?eb ?ec ?ed ?bk ?bl ?al ?ee ?ef ?bm ?bn ?an ?eg ?eh ?bo ?bp ?ap ?ej ?em ?en ?eo ?ep ?eq ?er ?eu ?ev ?ew ?ex ?ey ?ez
  any_goals (refine' K64.di_mk ?a ?l ?c ?k;(case a=>k_is);(case l=>k_is);(case c=>k_is);(case k=>k_is))
  (case bs|bt|bu|bv|bw|bx|bz|b0|b1|b2|b3|b4|b5|b6|b7|b8|b9|ca|cc|cd|ce|cf|cg=>k_is)
  (case ch=>exact⟨_,rfl⟩)
  (case ci=>k_is)
  (case ck=>exact⟨_,rfl⟩)
  (case cl=>k_is)
  (case cm=>exact⟨_,rfl⟩)
  (case co=>k_is)
  (case cp=>exact⟨_,rfl⟩)
  (case cq=>k_is)
  (case cr=>exact⟨_,rfl⟩)
  (case cs=>k_is)
  (case ct=>exact⟨_,rfl⟩)
  (case cv=>k_is)
  (case cw=>exact⟨_,rfl⟩)
  (case cx=>k_is)
  (case cy=>exact⟨_,rfl⟩)
  (case cz=>k_is)
  (case c0=>exact⟨_,rfl⟩)
  (case c1=>k_is)
  (case c2=>exact⟨_,rfl⟩)
  (case c3=>k_is)
  (case c4=>exact⟨_,rfl⟩)
  (case af|aq|ar|au|av|aw|ay|az|a0|ba|bb|ag|c5|c6|c7|c8|fp|ai|bc|bd=>k_is)
  (case c9=>kernel_rfl)
  (case da|db=>k_is)
  (case dc=>kernel_rfl)
  (case be|dd|de=>k_is)
  (case dh|di|dk|dl|dm|dn|dp|dq=>kit_is)
  (case dr|ds|dt|du|dv=>k_is)
  (case dw=>kernel_rfl)
  (case dx|dy=>k_is)
  (case dz=>kernel_rfl)
  (case bf|d0|d1|d2|d3|d4|d5|d7|d8|d9|bg|bh|bj|ea|eb|ec|ed|bk|bl|al|ee|ef|bm|bn|an|eg|eh|bo|bp|ap|ej|em|en=>k_is)
  (case eo|ep=>rfl)
  (case eq=>decide)
  (case er=>exact .cons ⟨_,rfl⟩ (.cons ⟨_,rfl⟩ (.nil)))
  (case eu|ev=>k_is)
  (case ew|ex=>rfl)
  (case ey=>decide)
  (case ez=>exact .cons ⟨_,rfl⟩ (.cons ⟨_,rfl⟩ (.nil)))
