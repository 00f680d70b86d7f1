import PyProof.Rows.All
import Wide.All
import OpenK.AllK
import Wide.FinOn
import Lean
import PyProof.EqAt
import PyProof.EqKinds
import PyProof.TupleCall
import PyProof.ExcInit
import PyProof.ExcClass2
import PyProof.InstStoreFacts
import OpenK.KOwn
import PyProof.RulesAs
import PyProof.ExcAttrAll.ValueError
import KE.KIsAll
import KE.KRevSl
import KE.KRevIter
import PyProof.Rows.SortRuns
import PySem.SetTable
import PySem.SetOps
import PyProof.TupleKey
import PyProof.SetKind
import PyProof.Rows.SetObj
import KE.KDictSum
import PyProof.WalkInts
import KE.KDictOf
import PyProof.AttrMissHeap
import PyProof.DictWalks
import KE.KDictLaws
import KE.KDictList
import PyProof.FString2
import PyProof.ReprRoads
import PyProof.ReprLen
import PySem.Challenge.RW_digbook_k44_chains_torn
set_option linter.all false
structure PySem.W.Fast:Prop where(tw10856202921358542546 tw5536639048567128528 tw18440291812736790914 tw13598217690815393874 tw1177712268686538452 tw11490643875745431850 tw9770347425799666613 tw8396787100632113023 tw10329582258200533305 tw2581830189789387459 tw9892189940156380683 tw6021609685562956490 tw10834282874999126728 tw5529220114765925119 tw357472812295678202 tw2746172641944595405 tw5921532466216653173 tw4283084606069170399 tw945201003802439013 tw5301422313595404039 tw4735328466223235752 tw697139428527998507 tw12476556745634478357 tw1492246799752473290 tw7191184146288060936 tw54594699113265917 tw13932548641305551312 tw13926398356322872900 tw16852728266731981276 tw8698676323675040110 tw11327788070823738041 tw12301144183691559926 tw16446474252573495120 tw3589009755960871938 tw3785871749463817037 tw10409821403143027841 tw3558650314369930622 tw4792603145025389313 tw8277267160059483930 tw930385157754644312 tw16300083085427905926 tw11432046268269487758 tw10694663900630839405 tw2809199058017258448 tw5868161068700767786 tw320089621689301801 tw13408320367060856633 tw11638894485290030317 tw12133534397553584792 tw14796525110962430800 tw14270539522309997031 tw17290783419833212081 tw9044581439151061102 tw9215085967761457418 tw82145165413002415 tw3892464993362890766 tw5865230228765260360 tw4282551190239334210 tw8211455258932039328 tw7913251045968951635 tw4382609891400736242 tw16976850511421019850 tw10920886237727759822 tw17656175551410292143 tw6767233987143653267 tw1413722792294361903 tw17585915557326329590 tw228341112909902178 tw11435404960449419234 tw7030843985467661203 tw17111981566541202851 tw8963345914903957082 tw1206497458229053409 tw3727170243342537070 tw3023029909354667928 tw11558011234254301653 tw14906320106229703648 tw14346835851144855044 tw7736665785214569027 tw10951224619746635824 tw17904830137102791037 tw2237061693264595027 tw6815510486234492148 tw17111753558453005403 tw1139601521999447437 tw8601604750505120368 tw18401197706222917845 tw11658606492725661880 tw4671585770795692978 tw3058022470306286447 tw11485145665322247598 tw6235974105072545425 tw10849100166238798228 tw4160044510311683412 tw11483965093990036722 tw7706254695990141975 tw10667816344007204176 tw17488505989581408311 tw10750421029660835046 tw9932231524089067334 tw6652166100349347860 tw14973922145071906665 tw17491893440387320636 tw8822102875230438080 tw4429926814737792437 tw1516189842552728007 tw8556785173757462899 tw2155135715527368629 tw8821783741573215059 tw18226350109705324691 tw9510705556660739742 tw16159301312399968068 tw13361704440343991351 tw15668976506583965610 tw13982975760759400083 tw17128811205202084525 tw5083564457548695151 tw883090750152440194 tw3770555848935554328 tw16807725269114931438 tw3638710846963005677 tw14291835081572840680 tw7552303934176005017 tw6471068072707670499 tw3499667506299628475 tw2949314899006971737 tw12584796592178291528 tw10811770531308330370 tw3704316561903372230 tw14212100172956375423 tw12689132917842851405 tw11970937916469050142 tw9603632914063610885 tw12906674721370331816 tw6560986146140254719 tw3665917872235523683 tw2964505840651867109 tw17697173174378613095 tw13624950865760028208 tw15067623863067234819 tw4723997936323857912 tw9031824576547557037 tw14851087058339017288 tw13063289303384435067 tw12018838798285710358 tw10866920832781722013 tw8483029515310042188 tw15657450306407747048 tw13282753861198873681 tw12811162819114204603 tw9401377572874926381 tw11472725013677525925 tw11524481358716891776 tw13824388226081576368 tw17490101946607862660 tw8550920650714261790 tw13062664812717913867 tw12819983509719600233 tw17301187852386193643 tw7686243566724017893 tw13500568401508888940 tw4475021219422627261 tw2012629932555668752 tw6669378433885341151 tw12381394263719840388 tw12193444076261998314 tw7583494009159262825 tw3224965623809446583 tw16180597389312150625 tw14909935969211435160 tw17114837943013323634 tw10482205456972325667 tw13265490196536598881 tw12096721453961563491 tw7158859848807214181 tw3434801993367977542 tw5748791384171656631 tw15191542664813723628 tw8038853655341240579 tw16966169151931001438 tw7759445943565558583 tw11325456273162450570 tw9968335684597982952 tw13277754479739083171 tw481082080872301669 tw4308463889254735431 tw7498137089070264809 tw9890940119745235814 tw17585685711051860223 tw3766602601092812544 tw17627539302552641188 tw7484487561822930150 tw10302984567740346258 tw14631369901412491189 tw3829341555715364566 tw17549098318432677061 tw15018487282156496628 tw17785036286757096348 tw9801214949115790873 tw6847948532827962279 tw2661940857955630848 tw2365734859585743931 tw7268543493936694015 tw1570531279368925096 tw12948229800053952145 tw6763656098320038117 tw11903637240506404366 tw9444751526885952676 tw4383941941321998607 tw5999737965461846133 tw3549531659707365631 tw3111121948123744112 tw9070067004365086041 tw17062049670191374627 tw17418071359066460540 tw7377692607566467620 tw7998469628727084274 tw12786739139173133153 tw4433388216034287648 tw14230076867454839196 tw13199651831993592404 tw7936657524638469999 tw2657007695722938036 tw18416459382921093347 tw15601161066793976008 tw6398981475625676387 tw5442008677942475214 tw2588582178397535421 tw8867919144043745899 tw4899892999643819249 tw1308899820757305557 tw14644300794367486985 tw13911499268026291258 tw7133442195297747699 tw3431857291426542766 tw2216969705142221998 tw16540063060056652776 tw6941708711017134686 tw10776010447533468486 tw8375608872433039888 tw18389720707628297735 tw16151709366252524445 tw17490097571424093994 tw13207115268230019492 tw14972506769998376212 tw7467568048307898140 tw17298414435411365117 tw13248199760633945781 tw3213875073521850738 tw1565556668619541567 tw8974536763942967562 tw17086541136383289069 tw14500249944369857640 tw5912279326537548999 tw11893513957081944988 tw17083296511544370043 tw12548815610446605232 tw9977245603700344999 tw16138240933675217837 tw7567708219054110677 tw2583544713744833190 tw6007207856828951040 tw5828380943457448460 tw1667712361711827961 tw13242870027103083015 tw11326661456473163790 tw10593178422275867710 tw8515472800954111629 tw15162973951766997175 tw8497015415785061947 tw4640784924754693145 tw11102633713746153406 tw12664820905412392532 tw12129965373322825938 tw15324966080181698508 tw8128660773304052764 tw941861720559737809 tw17713765318519046757 tw2293952060622170272 tw9026659866232925058 tw7575786493704957088 tw6607028150551248147 tw7722782663428464440 tw15759823333472784513 tw1374489432088861236 tw12936734914936079769 tw12898078644164039891 tw10036758207367528026 tw15058527036847656139 tw12645291809428178326 tw14420629736765704581 tw18406337938523009538 tw16357757746847724260 tw8406261275470356906 tw3735018430794213662 tw3297921982298086905 tw14317427435951415581 tw9861569236649024389 tw9518995358767130648 tw8984598537827773856 tw8412229310906315013 tw7458782060471677126 tw5938952077037614292 tw5917592776696763771 tw5165062198244997917 tw3252940290581525940 tw2978317811226000610 tw2806718760991544670 tw2738674200304490571 tw2509613379793588123 tw1757726981300864568 tw16383110068555676094 tw1593014988306180222 tw12540647200623117820 tw11534295878839518982 tw11162578847441910021 tw11102098958028630122 tw10813789028957214509 tw10297047498447623437 tw17421971194351620970 tw5492987842164456068 tw4459549733892470085 tw9922605692894086880 tw684155978571549635 tw2441503055955921872 tw12807700514980009452 tw7824923775649650171 tw6435970753738826287 tw5686011925572178777 tw4532432929582699857 tw3418453100404982219 tw16341037438369122127 tw14487865831518433392 tw12023833680942255175 tw10778684354365547498 tw2780533691757582765 tw1665895261417801774 tw14122696811588130602 tw7546356302356813208 tw17991830098164201990 tw11718192165605193533 tw5341803613168133306 tw1253686554995436828 tw13655389842656543421 tw5623556244069592028 tw533147956610857772 tw3199334608654631369 tw17297451097822268628 tw5953160276160035192 tw4060876355148601786 tw17596350703029427084 tw5034117288453851690 tw9248166837368671104 tw8450870412479729122 tw6736924821233209513 tw6572232332953533130 tw15463100843884394894 tw13998138000568174524 tw11945525423986415950 tw11549083832911485366 tw6672884592151138022 tw5334172734499885554 tw5070266504644952865 tw4538304067233211428 tw3159661086375031979 tw14272575469544708738 tw12669407042946514241 tw12638270899365456007 tw12381599494663281477 tw11051940611797307638:0=0)
theorem Z0{c:Sort _}{b:Prop}{a:c}:a=a∨b:=Or.inl rfl
theorem Z1{c:Sort _}{b:Prop}{a:c}:b∨a=a:=Or.inr rfl
def Z2:=@PySem.wpAny_bind
def Z3:=@PySem.wpAny_pure
def Z4:=@List.getElem?_eq_getElem
def Z5:=@List.length_map
def Z6:=@PySem.Heap.get?_push_of_some
def Z7:=@List.mem_of_getElem?
def Z8:=@List.length_append
def Z9:=@Option.some.inj
def Za:=@Array.length_toList
def Zb:=@List.getD_eq_getElem?_getD
def Zc:=@List.map_append
def Zd:=@List.append_assoc
def Ze:=@decide_eq_true
def Zf:=@Nat.lt_of_lt_of_le
def Zg:=@decide_eq_false
def Zh:=@Nat.le_refl
def Zi:=@PySem.Heap.get?_push_size
def Zj:=@List.mem_cons_of_mem
def Zk:=@List.getElem?_map
def Zl:=@List.mem_cons_self
def Zm:=@List.take_of_length_le
def Zn:=@of_decide_eq_true
def Zo:=@List.size_toArray
def Zp:=@PySem.Heap.size_push
def Zq:=@List.length_cons
def Zr:=@Nat.ne_of_lt
def Zs:=@Bool.false_ne_true
def Zt:=@PySem.Heap.lt_size
def Zu:=@Bool.and_eq_true
def Zv:=@List.any_cons
def Zw:=@List.append_nil
def Zx:=@Bool.false_eq_true
def Zy:=@List.filterMap_cons
def Zz:=@List.filter_append
def Y0:=@List.filter_cons_of_neg
def Y1:=@List.filter_cons_of_pos
def Y2:=@List.filter_nil
def Y3:=@List.getElem?_append_left
def Y4:=@List.getElem?_append_right
def Y5:=@List.getElem_mem
def Y6:=@Nat.le_of_ble_eq_true
def Y7:=@Nat.le_succ
def Y8:=@Nat.le_trans
def Y9:=@List.length_drop
def Ya:=@List.length_filter_le
def Yb:=@List.length_range
def Yc:=@List.length_singleton
def Yd:=@List.length_take
def Ye:=@List.lookup_cons
def Yf:=@Nat.lt_succ_of_lt
def Yg:=@Nat.lt_succ_self
def Yh:=@List.map_congr_left
def Yi:=@List.map_cons
def Yj:=@List.map_map
def Yk:=@List.mem_append
def Yl:=@List.mem_append_left
def Ym:=@List.mem_append_right
def Yn:=@List.mem_cons
def Yo:=@Nat.ne_of_gt
def Yp:=@List.nodup_append
def Yq:=@List.nodup_iff_pairwise_ne
def Yr:=@List.nodup_nil
def Ys:=@Nat.not_lt_zero
def Yt:=@List.not_mem_nil
def Yu:=@Bool.or_eq_false_iff
def Yv:=@List.pairwise_map
def Yw:=@List.take_add_one
def Yx:=@List.take_append_drop
def Yy:=@Nat.zero_le
def Yz:=@List.getElem?_of_mem
def X0:=@List.Pairwise.imp_of_mem
def X1:=@Int.eq_ofNat_of_zero_le
def X2:=@Nat.lt_irrefl
theorem X3{b:Type _}{l:List b}{i:Nat}{a:b}(h:l[i]?=some a):∃h:i<l.length,l[i]=a:=List.getElem?_eq_some_iff.mp h
theorem X4{b:Type _}{a:b}{s t:List b}(h:a∈s++t):a∈s∨a∈t:=List.mem_append.mp h
theorem X5{c:Type _}{a b:c}(h:a∈[b]):a=b:=List.mem_singleton.mp h
theorem X6{c d:Type _}{f:c->d}{l:List c}{b:d}(h:b∈l.map f):∃a,a∈l/\f a=b:=List.mem_map.mp h
theorem X7{c d:Type _}{f:c->d}{l:List c}{b:d}(h:∃a,a∈l/\f a=b):b∈l.map f:=List.mem_map.mpr h
open Array (forIn_toList getElem?_toList length_toList mem_toList_iff size_append size_map toList_append toList_extract toList_push)
open Bool (and_eq_true eq_false_iff false_eq_true or_eq_false_iff or_eq_true)
open List (all_eq_true all_map any_cons any_eq_true any_map append_nil countP_cons ext_getElem ext_getElem? filterMap_cons filter_append filter_cons filter_cons_of_neg filter_cons_of_pos filter_nil flatMap_append foldl_cons forIn_cons getD_eq_getElem?_getD getElem?_append_left getElem?_append_right getElem?_drop getElem?_map getElem_mem getElem_of_mem length_append length_cons length_drop length_eq_zero_iff length_filter_le length_map length_nil length_range length_singleton length_take length_zip lookup_cons map_append map_congr_left map_cons map_id map_map map_nil mem_append mem_append_left mem_append_right mem_cons mem_cons_of_mem mem_cons_self mem_filterMap mem_flatMap mem_map mem_of_mem_take mem_range mem_singleton nodup_append nodup_cons nodup_iff_pairwise_ne nodup_nil nodup_range not_mem_nil of_mem_zip pairwise_map range_succ size_toArray take_add_one take_append_drop take_of_length_le)
open Nat (add_mod add_zero le_add_right le_of_ble_eq_true le_of_lt le_refl le_succ le_trans le_zero lt_of_lt_of_le lt_succ_of_lt lt_succ_self mod_lt ne_of_gt ne_of_lt not_lt_zero pow_succ sub_self succ_pos zero_add zero_le)
open Option (bind_some getD_none isSome_iff_exists isSome_map map_eq_some_iff)
open PyProof.Rows (boot_abs boot_all boot_int boot_isinstance boot_list boot_max boot_min boot_set boot_sorted boot_str boot_tuple)
open PySem.F (called_set plainAttrs_dict plainAttrs_list plainAttrs_str slot_dict_get slot_str_join type_dict_get type_str_join)
open PySem.Heap (ExtBut SameBut get?_push_of_some get?_push_size get?_update_other get?_update_self lt_size)
open PySem.W (KatTups KitX Looks any_some callWith_K cellsFrom_some check_slot clsIn codeIn emptyDict findCls findIn findObj findObj_own fnOf handedIn hasDictIn hideAll hideAll_get instObj isFn keepIn kia_one kitAny kitOne kitx_dict kitx_list kitx_none lookIn looks_clsIn looks_find looks_findIn looks_hook looks_subIn makesIn mg_none_of mg_of mroIn nsIn of_hideAll plainGet plainGet_of plainOver readsIn set_plain specialIn subIn takerIn takesIn typeIn)
set_option maxHeartbeats 0
set_option Elab.async false
set_option compiler.extract_closed false
set_option maxRecDepth 100000
section
open PySem
local macro_rules|`(⋯)=>`(by lia)|`(∅)=>`(by simp)
local macro_rules|`(⇑$s:ident)=>`(Shared.heap $s|>.objs.size)
local macro_rules|`(~~~$x:ident)=>`(wpAny (model ($x).prog ($x).w) ($x).A)
local macro_rules|`($s:ident>>>$e)=>`({$s with heap:=$e})
local macro_rules|`(%[$x,*|$y])=>`(⟨$x,*,$y⟩)
set_option hygiene false in
local macro_rules|`(↥$a:ident)=>`(wpAny (model prog w) $a)
set_option hygiene false in
local macro_rules|`(command|#where)=>`(variable{prog:Program}{w:World}{A:Around}{E:ZD}{s:Shared})
set_option hygiene false in
local macro_rules|`(command|#version)=>`(variable{X:Cx}{pins:ZE}{σ:St}{H:Hp}{s:Shared})
abbrev ZA:=PySem.W.Frag
abbrev ZB:=List PySem.Str
abbrev ZC:=PySem.Str->Option PySem.Value
abbrev ZD:=PySem.Value->PySem.Shared->Prop
abbrev ZE:=List (PySem.Addr×PySem.Obj)
abbrev ZF:=List PySem.Value
abbrev ZG:=List (PySem.Addr×List PySem.Str)
abbrev ZH:=Option PySem.Addr
abbrev ZI:=Array PySem.Value
abbrev ZJ:=Array (Option PySem.Value)
abbrev ZK:=List Int
namespace L2
open PySem PySem.Spec PyProof.Rows
noncomputable abbrev Key:=Sum Int Str
noncomputable def jk:Key->Value->Bool
 | .inl k,v=>Value.isInt k v
 | .inr x,v=>Value.isStrOf x v
noncomputable def keyH(w:World):Key->Int
 | .inl k=>hashInt k
 | .inr x=>hashStr w x
theorem aZ:∀{k:Key} {v:Value},jk k v=true->(∃i t,k=Sum.inl i/\v=Value.int i t)\/(∃x t,k=Sum.inr x/\v=Value.str x t)
 | .inl i,v,h=>by
   obtain⟨t,e⟩:=Value.isInt_shape h;exact .inl %[i,t,rfl|e]
 | .inr x,v,h=>by
   obtain⟨t,e⟩:=Value.isStrOf_shape h;exact .inr %[x,t,rfl|e]
theorem vN(i:Int)(t:Tok):jk (.inl i) (.int i t)=true:=by simp[jk,Value.isInt]
theorem di(x:Str)(t:Tok):jk (.inr x) (.str x t)=true:=by simp[jk,Value.isStrOf]
theorem Cv(a b:Int):decide ((Sum.inl a:Key)=Sum.inl b)=(a==b):=by
 by_cases e:a=b
 .subst e;simp
 simp_all
theorem Cw(a b:Str):decide ((Sum.inr a:Key)=Sum.inr b)=decide (a=b):=by
 simp
noncomputable def aN(prog:Program)(w:World):PySem.KeyKind prog w Key where
 is:=jk
 hash:=keyH w
 inj:=λv a b ha hb=>by
  rcases aZ ha with⟨i,t,rfl,rfl⟩|⟨x,t,rfl,rfl⟩
  .rcases aZ hb with⟨j,u,rfl,e⟩|⟨y,u,rfl,e⟩
   .injection e with e1 _;rw[e1]
   .exact nomatch e
  .rcases aZ hb with⟨j,u,rfl,e⟩|⟨y,u,rfl,e⟩
   .exact nomatch e
   .injection e with e1 _;rw[e1]
 byValue:=λk v h=>by
  rcases aZ h with⟨i,t,rfl,rfl⟩|⟨x,t,rfl,rfl⟩<;> rfl
 pyHash:=λhv h=>by
  rcases aZ hv with⟨i,t,rfl,rfl⟩|⟨x,t,rfl,rfl⟩
  .exact wpAny_pyHash_int h
  .exact wpAny_pyHash_str h
 eqBool:=λhu hv h=>by
  rcases aZ hu with⟨i,t,rfl,rfl⟩|⟨x,t,rfl,rfl⟩
  .rcases aZ hv with⟨j,u,rfl,rfl⟩|⟨y,u,rfl,rfl⟩
   .rw[Cv]at h;exact wpAny_eqBool_int h
   .exact SeqAt.EqAt.int_str i t y u _ _ _ _ h
  .rcases aZ hv with⟨j,u,rfl,rfl⟩|⟨y,u,rfl,rfl⟩
   .exact SeqAt.EqAt.str_int x t j u _ _ _ _ h
   .rw[Cw]at h;exact wpAny_eqBool_str h
 «strs»:=λk x t v h=>by
  rcases aZ h with⟨i,u,rfl,e⟩|⟨y,u,rfl,e⟩
  .exact nomatch e
  .injection e with e1 _
   subst e1;cases v<;> rfl
theorem qH(prog:Program)(w:World)(i:Int)(t:Tok):(aN prog w).is (.inl i) (.int i t)=true:=vN i t
theorem qI(prog:Program)(w:World)(x:Str)(t:Tok):(aN prog w).is (.inr x) (.str x t)=true:=di x t
inductive V where
 | non|bl (b:Bool)|int (i:Int)|str (x:Str)|byt (b:Array UInt8)|flt (b:UInt64)|ref (a:Addr)|ty (n:String)
 deriving DecidableEq
def aK:V->Value->Prop
 | .non,u=>u=Value.none
 | .bl b,u=>u=Value.bool b
 | .int i,u=>∃t,u=Value.int i t
 | .str x,u=>∃t,u=Value.str x t
 | .byt b,u=>∃t,u=Value.bytes b t
 | .flt b,u=>∃t,u=Value.float b t
 | .ref a,u=>u=Value.ref a
 | .ty n,u=>u=Value.type n
abbrev aC:List V->ZF->Prop:=Paired aK
theorem aC.length{xs:List V}{us:ZF}(r:aC xs us):xs.length=us.length:=Paired.length r
theorem aC.get:∀{xs:List V} {us:ZF} {i:Nat} {x:V},aC xs us->xs[i]? =some x->∃u,us[i]? =some u/\aK x u
 | _,_,_,_,.nil,e=>by simp at e
 | _,_,0,_,.cons r _,e=>by simp at e;subst e;exact%[_,rfl|r]
 | _,_,i+1,x,.cons _ t,e=>by
   obtain⟨u,a,b⟩:=aC.get t (e);exact%[u,a|b]
theorem aC.append:∀{xs ys:List V} {us ws:ZF},aC xs us->aC ys ws->aC (xs++ys) (us++ws)
 | _,_,_,_,.nil,s=>s
 | _,_,_,_,.cons r t,s=> .cons r (aC.append t s)
theorem aC.take:∀{xs:List V} {us:ZF} n,aC xs us->aC (xs.take n) (us.take n)
 | _,_,0,_=> .nil
 | _,_,_+1,.nil=> .nil
 | _,_,n+1,.cons r t=> .cons r (aC.take n t)
theorem aC.drop:∀{xs:List V} {us:ZF} n,aC xs us->aC (xs.drop n) (us.drop n)
 | _,_,0,r=>r
 | _,_,_+1,.nil=> .nil
 | _,_,n+1,.cons _ t=>aC.drop n t
def fc:Option V->Option Value->Prop
 | some v,some u=>aK v u
 | none,none=>True
 | _,_=>False
noncomputable def KV{a:Type}:List (a×V)->List (a×Value)->Prop:=Paired λp q=>p.1=q.1/\aK p.2 q.2
noncomputable def kV:Key->V
 | .inl i=> .int i
 | .inr x=> .str x
inductive HO where
 | lst (xs:List V)
 | tup (xs:List V)
 | dK (kvs:List (Key×V))|dT (kvs:List (List Key×V))
 | set (S:Int->Bool) (n:Nat)
 | ins (C dx:Addr) (fs:List (Str×V))
 | own (x:Addr)
 | xd (fs:List (Str×V))
 | met (f x:Addr)
 | rng (lo hi:Int)
 | frz (o:Obj) (u:HO)
 | tbl (ps:ZI)
 | ext (φ:Heap->Prop)
noncomputable abbrev Hp:=Addr->Option HO
noncomputable def upd(H:Hp)(a:Addr)(o:HO):Hp:=λb=>if b=a then some o else H b
theorem aa:upd H a o a=some o:=by unfold upd;rw[if_pos rfl]
theorem aj{H:Hp}{a b:Addr}{o:HO}(h:b≠a):upd H a o b=H b:=by unfold upd;rw[if_neg h]
theorem lB{H:Hp}(h:H a=some o)(h':H b=some u)(d:o≠u):a≠b:=by
 intro e;subst e;rw[h]at h';exact d (Z9 h')
theorem ap{H:Hp}{a b:Addr}{o:HO}(h:H a=some o)(h':H b=none):a≠b:=by
 lia
section
variable(P:Program)(w:World)
def ci(H:Hp)(h:Heap)(a:Addr):HO->Prop
 | .lst xs=>xs.length<=sizeLine/\∃(its:ZF) (n:Nat),aC xs its/\h.get? a=some {cls:= .type "list",data:= .seq its.toArray n}
 | .tup xs=>xs.length<=sizeLine/\∃its:ZF,aC xs its/\IsTup h a its.toArray
 | .dK b=>b.length<=sizeLine/\(a==sysModules)=false/\∃vs,KV b vs/\h.DictOf (aN P w) a vs
 | .dT b=>b.length<=sizeLine/\(a==sysModules)=false/\∃xs:List (List Key×Addr×Value),
  Paired (λ(p:List Key×V) (q:List Key×Addr×Value)=>p.1=q.1/\H q.2.1=some (.tup (p.1.map kV))/\aK p.2 q.2.2) b xs/\
  ∃o g l,h.get? a=some o/\o.ExactDict/\o.data= .dict g l/\g.toList=xs.map (entryOfKey (tupleKind (aN P w)))/\(xs.map (·.1)).Nodup
 | .set S n=>h.SetOf (intKind P w) a S n
 | .ins C d fs=>H d=some (.own a)/\fs.length<=1000/\d≠a/\h.get? a=some (instObj C d)/\
  ∃c,h.Ns1 d c/\(∀f,fc (fs.lookup f) (c f))/\PySem.Within c (fs.map (·.1))
 | .own _=>∃o,h.get? a=some o
 | .xd fs=>∃c,h.Ns1 a c/\∀f,fc (fs.lookup f) (c f)
 | .rng lo hi=>∃t u v,h.get? a=some {cls:= .type "range",data:= .fields #[.int lo t,.int hi u,.int 1 v]}
 | .frz o u=>h.get? a=some o/\ci H h a u
 | .tbl ps=>h.get? a=some {cls:= .none,data:= .fields ps}
 | .met f x=>h.get? a=some (PySem.W.methodObj (.ref f) (.ref x))
 | .ext e=>e h/\(∃o,h.get? a=some o)/\∀i j,e i->(∀o,i.get? a=some o->j.get? a=some o)->e j
def HOk(H:Hp)(h:Heap):Prop:=∀a o,H a=some o->ci P w H h a o
end
section
variable{P:Program}{w:World}{H H':Hp}{h h':Heap}{a:Addr}{o:HO}
theorem ci.lt(x:ci P w H h a o):a<h.objs.size:=by
 cases o with
 | lst xs=>obtain⟨_,_,_,_,e⟩:=x;exact Zt e
 | tup xs=>obtain⟨_,_,_,p⟩:=x;exact p.lt
 | dK b=>obtain⟨_,_,_,_,o,_,_,e,_⟩:=x;exact Zt e
 | dT b=>obtain⟨_,_,_,_,o,_,_,e,_⟩:=x;exact Zt e
 | set S n=>obtain⟨o,_,_,_,e,_⟩:=x;exact Zt e
 | ins C c fs=>obtain⟨_,_,_,e,_⟩:=x;exact Zt e
 | own y=>obtain⟨_,e⟩:=x;exact Zt e
 | xd fs=>obtain⟨_,⟨_,_,_,e,_⟩,_⟩:=x;exact Zt e
 | rng lo hi=>obtain⟨_,_,_,e⟩:=x;exact Zt e
 | frz d u=>obtain⟨e,_⟩:=x;exact Zt e
 | tbl ps=>exact Zt (x)
 | met f y=>exact Zt (x)
 | ext g=>obtain⟨_,⟨_,e⟩,_⟩:=x;exact Zt e
theorem Paired.mapP{F G:c->d->Prop}:∀{l₁:List c} {l₂:List d},Paired F l₁ l₂->(∀a b,F a b->G a b)->Paired G l₁ l₂
 | _,_,.nil,_=> .nil
 | _,_,.cons r t,f=> .cons (f _ _ r) (Paired.mapP t f)
theorem ci.stay(x:ci P w H h a o)(k:∀b u,(b=a\/H b=some (.own a))->h.get? b=some u->h'.get? b=some u)
 (s:∀b,H b=some (.own a)->H' b=some (.own a)) (A:∀b xs,H b=some (.tup xs)->H' b=some (.tup xs)):ci P w H' h' a o:=by
 induction o with
 | lst xs=>obtain⟨z,its,n,r,e⟩:=x;exact%[z,its,n,r|k _ _ (.inl rfl) e]
 | tup xs=>obtain⟨z,its,r,g,e,c⟩:=x;exact%[z,its,r,g,k _ _ (.inl rfl) e|c]
 | dK l=>obtain⟨z,y,vs,r,g,i,j,e,c⟩:=x;exact%[z,y,vs,r,g,i,j,k _ _ (.inl rfl) e|c]
 | dT l=>
   obtain⟨z,y,xs,r,g,i,j,e,c⟩:=x;exact%[z,y,xs,Paired.mapP r λp q z=>%[z.1,A _ _ z.2.1|z.2.2],g,i,j,k _ _ (.inl rfl) e|c]
 | set S n=>obtain⟨g,i,j,t,e,c⟩:=x;exact%[g,i,j,t,k _ _ (.inl rfl) e|c]
 | ins C G fs=>
   obtain⟨d,z,ne,e,m,⟨od,i,j,B,c⟩,r⟩:=x;exact%[s _ d,z,ne,k _ _ (.inl rfl) e,m,%[od,i,j,k _ _ (.inr d) B|c]|r]
 | own y=>obtain⟨g,e⟩:=x;exact%[g|k _ _ (.inl rfl) e]
 | xd fs=>obtain⟨m,⟨od,i,j,e,c⟩,r⟩:=x;exact%[m,%[od,i,j,k _ _ (.inl rfl) e|c]|r]
 | rng lo hi=>obtain⟨t,u,v,e⟩:=x;exact%[t,u,v|k _ _ (.inl rfl) e]
 | frz g u E=>obtain⟨e,q⟩:=x;exact%[k _ _ (.inl rfl) e|E q]
 | tbl ps=>
   exact k a _ (.inl rfl) x
 | met f y=>
   exact k a _ (.inl rfl) x
 | ext I=>obtain⟨p,⟨o,e⟩,st⟩:=x;exact%[st _ _ p λo q=>k _ _ (.inl rfl) q,%[o|k _ _ (.inl rfl) e]|st]
theorem HOk.lt(x:HOk P w H h)(e:H a=some o):a<h.objs.size:=(x a o e).lt
theorem HOk.fresh(x:HOk P w H h)(e:h.objs.size<=a):H a=none:=by
 cases q:H a with
 | none=>rfl
 | some u=>exact absurd (Zf (x.lt q) e) (X2 _)
theorem HOk.kept(x:HOk P w H h)(k:∀b u,h.get? b=some u->h'.get? b=some u):HOk P w H h':=λa o e=>
 (x a o e).stay (λb u _ q=>k b u q) (λ_ q=>q) λ_ _ q=>q
theorem HOk.laid(x:HOk P w H h)(k:∀b u,h.get? b=some u->h'.get? b=some u)(g:h.objs.size<=a)(new:ci P w (upd H a o) h' a o):HOk P w (upd H a o) h':=λb u e=>by
 have d:=x.fresh g;by_cases f:b=a
 .subst f;rw[aa]at e;grind
 .rw[aj f]at e;exact(x b u e).stay (λc v _ q=>k c v q) (λc q=>(aj (ap q d))▸q) λc xs q=>(aj (ap q d))▸q
end
def Rd(H:Hp)(a:Addr)(u:HO):Prop:=H a=some u\/∃o,H a=some (.frz o u)
theorem Rd.ok{P:Program}{w:World}{H:Hp}{h:Heap}{a:Addr}{u:HO}(r:Rd H a u)(x:HOk P w H h):ci P w H h a u:=by
 rcases r with r|⟨o,r⟩
 .exact x a u r
 .obtain⟨_,q⟩:=x a _ r;exact q
def Mut:Option HO->Prop
 | some (.lst _)=>True
 | some (.dK _)=>True
 | some (.dT _)=>True
 | some (.set _ _)=>True
 | some (.ins _ _ _)=>True
 | some (.ext _)=>True
 | _=>False
section
variable{P:Program}{w:World}{H:Hp}{h h':Heap}{x e:Addr}{o':HO}
theorem HOk.write(ok:HOk P w H h)(g:Mut (H x))(m:e=x\/H e=some (.own x))(k:∀b u,b≠e->h.get? b=some u->h'.get? b=some u)(i:∃u,h'.get? e=some u)
 (new:ci P w (upd H x o') h' x o'):HOk P w (upd H x o') h':=λb u q=>by
 have d:∀c y,H c=some (.own y)->c≠x:=λc y r z=>by subst z;rw[r]at g;exact g
 have f:∀c xs,H c=some (.tup xs)->c≠x:=λc xs r z=>by subst z;rw[r]at g;exact g
 by_cases j:b=x
 .subst j;rw[aa]at q;grind
 .rw[aj j]at q;by_cases a:b=e
  .have l:H b=some (.own x):=by
    rcases m with z|z
    .exact absurd (a.trans z) j
    .exact a▸z
   rw[q]at l;cases l;obtain⟨v,n⟩:=i;exact%[v|a▸n]
  .refine(ok b u q).stay (λc v o r=>k c v ?_ r) (λc r=>(aj (d c b r))▸r) λc xs r=>(aj (f c xs r))▸r
   grind
end
structure Un (fs ex:List Addr) (H H':Hp) (h h':Heap):Prop where
 keep:∀b o,h.get? b=some o->H b=none->b∉fs->b∉ex->h'.get? b=some o
 slot:∀b o,h.get? b=some o->H b=none->b∈fs->b∉ex->∃sl,h'.get? b=some {o with slots:=sl}
 free:∀b o,h.get? b=some o->H b=none->b∉ex->H' b=none
 there:∀b o,h.get? b=some o->b∉ex->∃o',h'.get? b=some o'
 tups:∀b xs,H b=some (.tup xs)->H' b=some (.tup xs)
 frzs:∀b o u,H b=some (.frz o u)->H' b=some (.frz o u)
 tbls:∀b ps,H b=some (.tbl ps)->∃more,H' b=some (.tbl (ps++more))
section
variable{fs fs' ex ex':List Addr}{H H1 H2:Hp}{h h1 h2 h':Heap}{a x e:Addr}{o:HO}
theorem Un.any(u:Un fs ex H H1 h h1)(q:h.get? b=some c)(n:H b=none)(d:b∉ex):∃g,h1.get? b=some {c with slots:=g}:=by
 by_cases f:b∈fs
 .exact u.slot b c q n f d
 .exact%[c.slots|u.keep b c q n f d]
theorem Un.trans(a:Un fs ex H H1 h h1)(b:Un fs ex H1 H2 h1 h2):Un fs ex H H2 h h2 where
 keep:=λc ob q n hc hx=>b.keep c ob (a.keep c ob q n hc hx) (a.free c ob q n hx) hc hx
 slot:=λc ob q n hc hx=>by
  obtain⟨sl,e1⟩:=a.slot c ob q n hc hx;obtain⟨sl',e2⟩:=b.slot c _ e1 (a.free c ob q n hx) hc hx;exact%[sl'|e2]
 free:=λc ob q n hx=>by
  obtain⟨o',e1⟩:=a.there c ob q hx;exact b.free c o' e1 (a.free c ob q n hx) hx
 there:=λc ob q hx=>by
  obtain⟨o',e1⟩:=a.there c ob q hx;exact b.there c o' e1 hx
 tups:=λc xs q=>b.tups c xs (a.tups c xs q)
 frzs:=λc ob xs q=>b.frzs c ob xs (a.frzs c ob xs q)
 tbls:=λc ps q=>by
  obtain⟨m1,e1⟩:=a.tbls c ps q;obtain⟨m2,e2⟩:=b.tbls c _ e1;exact%[m1++m2|by rw[e2,Array.append_assoc]]
theorem Un.kept(k:∀b u,h.get? b=some u->h'.get? b=some u):Un fs ex H H h h':=
 %[λb c q _ _ _=>k b c q,λb c q _ _ _=>%[c.slots|k b c q],λ_ _ _ n _=>n,λb c q _=>%[c|k b c q],λ_ _ q=>q,λ_ _ _ q=>q|λ_ ps q=>%[#[]|by rw[q];simp]]
theorem Un.refl:Un fs ex H H h h:=Un.kept λ_ _ q=>q
theorem Un.laid(k:∀b u,h.get? b=some u->h'.get? b=some u)(hp:h.objs.size<=a)(hn:H a=none):Un fs ex H (upd H a o) h h' where
 keep:=λb u q _ _ _=>k b u q
 slot:=λb u q _ _ _=>%[u.slots|k b u q]
 free:=λb u q n _=>(aj (Zr (Zf (Zt q) hp)))▸n
 there:=λb u q _=>%[u|k b u q]
 tups:=λb xs q=>(aj (ap q hn))▸q
 frzs:=λb u xs q=>(aj (ap q hn))▸q
 tbls:=λb ps q=>%[#[]|by rw[aj (ap q hn),q];simp]
theorem Un.write(f:Mut (H x))(l:e=x\/H e=some (.own x))(k:∀b u,b≠e->h.get? b=some u->h'.get? b=some u)(i:∃u,h'.get? e=some u):Un fs ex H (upd H x o) h h':=by
 have j:∀b,H b=none->b≠x:=λb n z=>by subst z;rw[n]at f;exact f
 have g:∀b,H b=none->b≠e:=λb n z=>by
  simp_all
 have c:∀b u,H b=some u-> ¬ Mut (some u)->b≠x:=λb u q m z=>by simp_all
 refine%[λb u q n _ _=>k b u (g b n) q,λb u q n _ _=>%[u.slots|k b u (g b n) q],λb u q n _=>(aj (j b n))▸n,λb u q _=>?_,
  λb xs q=>(aj (c b _ q λz=>z))▸q,λb u xs q=>(aj (c b _ q λz=>z))▸q|λb ps q=>%[#[]|by rw[aj (c b _ q λz=>z),q];simp]]
 by_cases d:b=e
 .simp_all
 .exact%[u|k b u d q]
end
noncomputable def trk(h:Heap)(H:Hp):List Addr:=(List.range h.objs.size).filter λa=>(H a).isSome
noncomputable def vO(h:Heap)(H:Hp):Heap:=hideAll h (trk h H)
theorem vP(h:Heap)(H:Hp):(vO h H).objs.size=h.objs.size:=PySem.W.hideAll_size _ _
theorem xP(e:h.get? b=some o)(n:H b=none):(vO h H).get? b=some o:=
 hideAll_get _ e λa=>by
  have q:=(List.mem_filter.mp a).2;rw[n]at q;simp at q
theorem Aw(e:(vO h H).get? b=some o):h.get? b=some o/\H b=none:=by
 have a:=of_hideAll _ e;refine%[a|?_];cases q:H b with
 | none=>rfl
 | some x=>
   have z:(vO h H).get? b=none:=PySem.W.hideAll_none _ (List.mem_filter.mpr %[mem_range.mpr (Zt a)|by simp[q]])
   grind
noncomputable def Ax(g h:Heap)(L:Addr):ZE:=(List.range h.objs.size).filterMap λa=>if a=L\/(g.get? a).isSome=true then none else(h.get? a).map λo=>(a,o)
noncomputable def rest(g h:Heap)(L d:Addr):ZE:=(Ax g h L).filter λp=>decide (p.1≠d)
structure Mod (K:ZA) (mg:ZC) (base:Heap):Prop where
 kin:K.In base
 glob:base.Ns mainGlobals mg
 blt:∃mb,base.Ns builtinsNs mb/\∀x:Str,x≠"__name__"->mb x=bootBuiltins x
 nolimit:base.NoLimit
structure Cx where
 prog:Program
 w:World
 K:ZA
 mg:Str->Option Value
 base:Heap
 A:Around
 N:ZB
 s₀:Shared
 H₀:Hp
 env:Env
 outer:List Env
 stack:List Env
 ex:List Addr
 fn:Str->Bool
 calm:Bool
 pn:ZE
 xe:Value->Shared->Prop
noncomputable def frs(l:List Env):List Addr:=l.filterMap (·.frame)
noncomputable abbrev Cx.fs(X:Cx):List Addr:=frs X.outer
def Vis(a:Scope)(x:Str):Prop:=a.names.lookup x=some .local\/a.names.lookup x=some .cell\/a.names.lookup x=some .free
def Loc(a:Scope)(x:Str):Prop:=a.names.lookup x=some .local\/a.names.lookup x=some .cell
def Look(env:Env)(h:Heap)(m:ZC)(x:Str)(u:Value):Prop:=
 (env.kindOf x=some .local/\m x=some u)\/((env.kindOf x=some .cell\/env.kindOf x=some .free)/\∃c,env.cells.lookup x=some c/\h.IsCell c (some u))
structure Cx.Ok (X:Cx):Prop where
 mod:Mod X.K X.mg X.base
 kind:X.env.scope.kind= .function
 glob:X.env.globals=mainGlobals
 blt:X.env.builtins=builtinsNs
 above:X.s₀.heap.objs.size<=X.env.locals
 inj:∀x y c,X.env.cells.lookup x=some c->X.env.cells.lookup y=some c->x=y
 has:∀x,(X.env.kindOf x=some .cell\/X.env.kindOf x=some .free)->∃c,X.env.cells.lookup x=some c
 cab:∀x c,X.fn x=true->X.env.cells.lookup x=some c->X.s₀.heap.objs.size<=c
 hd:X.calm=true->X.A.handled=none
 frames:X.A.frames=some X.stack
 stk:X.stack=X.outer\/(X.stack=X.env::X.outer/\X.env.frame=some X.env.locals)
 exf:∀b∈X.ex,b≠X.env.locals/\∀x c,X.env.cells.lookup x=some c->c≠b
 bs:∀b o,X.base.get? b=some o->X.s₀.heap.get? b=some o/\X.H₀ b=none
 bsz:X.base.objs.size<=X.s₀.heap.objs.size
 noex:∀b o,X.base.get? b=some o->b∉X.ex
 exfs:∀b∈X.ex,b∉X.fs
 funs:X.s₀.heap.FunFrames X.base X.outer
 frf:∀b∈X.fs,X.H₀ b=none
structure Inv (X:Cx) (pins:List _) (σ:List _) (H:Hp) (s:Shared):Prop where
 ok:X.Ok
 os:s.os=X.s₀.os
 bare:AllBare s.gens
 base:Un X.fs X.ex X.H₀ H X.s₀.heap s.heap
 loc:∃m,s.heap.Ns X.env.locals m/\∀(i:Nat) x v,X.N[i]? =some x->σ[i]? =some (some v)->Vis X.env.scope x->∃u,aK v u/\Look X.env s.heap m x u
 cell:∀x c,X.env.cells.lookup x=some c->∃v,s.heap.IsCell c v
 free:H X.env.locals=none
 freeC:∀x c,X.env.cells.lookup x=some c->H c=none
 pin:∀p∈X.pn++pins,s.heap.get? p.1=some p.2/\H p.1=none/\p.1≠X.env.locals/\p.1∉X.fs/\∀v,p.2.data≠ .cell v
 hok:HOk X.prog X.w H s.heap
 len:σ.length=X.N.length
section
variable{X:Cx}{pins:ZE}{σ:List (Option V)}{H H':Hp}{s:Shared}{h':Heap}
theorem Cx.Ok.nofr(ok:X.Ok)(e:X.base.get? b=some o):b∉X.fs:=λa=>by
 have:=(ok.funs.mem a).1
 grind
theorem Inv.bs(I:Inv X pins σ H s):∀b o,X.base.get? b=some o->s.heap.get? b=some o/\H b=none:=λb o e=>
 %[I.base.keep b o (I.ok.bs b o e).1 (I.ok.bs b o e).2 (I.ok.nofr e) (I.ok.noex b o e)|I.base.free b o (I.ok.bs b o e).1 (I.ok.bs b o e).2 (I.ok.noex b o e)]
theorem Inv.bk(I:Inv X pins σ H s):∀b o,X.base.get? b=some o->s.heap.get? b=some o:=λb o e=>(I.bs b o e).1
theorem Inv.mod(I:Inv X pins σ H s):Mod X.K X.mg X.base:=I.ok.mod
theorem Inv.kIn(I:Inv X pins σ H s):X.K.In s.heap:=I.ok.mod.kin.keeps I.bk
theorem Inv.lt(I:Inv X pins σ H s):X.env.locals<⇑s:=let⟨_,a,_⟩:=I.loc;a.lt
theorem Inv.sz(I:Inv X pins σ H s):X.s₀.heap.objs.size<=⇑s:=Y8 I.ok.above (le_of_lt I.lt)
theorem Inv.nofs(I:Inv X pins σ H s)(h:⇑s<=a):a∉X.fs:=λb=>by
 obtain⟨_,o,c,_⟩:=I.ok.funs.mem b;exact absurd (Zf (Zt c) (Y8 I.sz h)) (X2 _)
theorem Inv.cne(I:Inv X pins σ H s):∀x c,X.env.cells.lookup x=some c->c≠X.env.locals:=λx c e z=>by
 obtain⟨v,o,d,f⟩:=I.cell x c e;obtain⟨m,⟨g,h,i,a,b,_⟩,_⟩:=I.loc
 grind
theorem Inv.funs(I:Inv X pins σ H s):s.heap.FunFrames X.base X.outer:=by
 have all:∀l,(∀b∈frs l,b∈X.fs)->X.s₀.heap.FunFrames X.base l->s.heap.FunFrames X.base l:=by
  intro l
  induction l with
  | nil=>intro _ _;trivial
  | cons env r g=>
    intro f h;obtain⟨i,⟨L,o,a,j,m,n⟩,p⟩:=h;have c:=f L (by unfold frs;rw[Zy,a];exact Zl);obtain⟨q,e⟩:=I.base.slot L o m (I.ok.frf L c) c λz=>I.ok.exfs L z c
    exact%[i,%[L,_,a,j,e|n]|g (λb d=>f b (by unfold frs;rw[Zy,a];exact Zj _ d)) p]
 exact all X.outer (λ_ d=>d) I.ok.funs
theorem Inv.stack(I:Inv X pins σ H s):s.heap.FunFrames X.base X.stack:=by
 rcases I.ok.stk with e|⟨e,a⟩
 .exact e▸I.funs
 .rw[e];obtain⟨m,b,_⟩:=I.loc;exact .cons (by rw[I.ok.kind];decide) a b (Heap.get?_none_of_le (Y8 I.ok.bsz I.ok.above)) I.funs
theorem Inv.stkSub(I:Inv X pins σ H s):∀b∈frs X.stack,b∈X.env.locals::X.fs:=λb a=>by
 rcases I.ok.stk with e|⟨e,c⟩
 .rw[e]at a;exact Zj _ a
 .rw[e]at a;unfold frs at a;rw[Zy,c]at a;exact a
theorem Inv.stkFree(I:Inv X pins σ H s):∀b∈frs X.stack,H b=none:=λb a=>by
 rcases mem_cons.mp (I.stkSub b a)with e|a
 .exact e▸I.free
 .obtain⟨_,o,c,_⟩:=I.ok.funs.mem a;exact I.base.free b o c (I.ok.frf b a) λz=>I.ok.exfs b z a
theorem Inv.step{d':Drawn}{ch:List Addr}(I:Inv X pins σ H s)
 (f:∀b∈ch,(b∈X.ex\/X.s₀.heap.objs.size<=b)/\b≠X.env.locals/\(∀x c,X.env.cells.lookup x=some c->c≠b)/\∀p∈X.pn++pins,p.1≠b)
 (keep:∀b o,b≠X.env.locals->b∉X.fs->b∉ch->s.heap.get? b=some o->H b=none->h'.get? b=some o)
 (slot:∀b o,b≠X.env.locals->b∈X.fs->b∉ch->s.heap.get? b=some o->H b=none->∃E,h'.get? b=some {o with slots:=E}) (free:∀b o,b∉ch->s.heap.get? b=some o->H b=none->H' b=none)
 (there:∀b o,b∉ch->s.heap.get? b=some o->∃A,h'.get? b=some A)
 (tups:∀b xs,H b=some (.tup xs)->H' b=some (.tup xs)) (frzs:∀b o u,H b=some (.frz o u)->H' b=some (.frz o u)) (tbls:∀b ps,H b=some (.tbl ps)->∃more,H' b=some (.tbl (ps++more)))
 (Q:∀m,s.heap.Ns X.env.locals m->h'.Ns X.env.locals m) (G:HOk X.prog X.w H' h') (T:AllBare g'):
 Inv X pins σ H' {s with heap:=h',gens:=g',drawn:=d',toks:=t'}:=by
 have B:∀b o,X.s₀.heap.get? b=some o->b≠X.env.locals:=λb o e=>Zr (Zf (Zt e) I.ok.above)
 have j:∀b o,X.s₀.heap.get? b=some o->b∉X.ex->b∉ch:=λb o e a w=>by
  rcases(f b w).1 with z|z
  .exact a z
  .exact absurd (Zf (Zt e) z) (X2 _)
 have g:∀x c,X.env.cells.lookup x=some c->∀v,s.heap.IsCell c v->h'.IsCell c v:=λx c e v ⟨o,y,J⟩=>by
  have h:=λz=>(f c z).2.2.1 x c e rfl
  by_cases M:c∈X.fs
  .obtain⟨E,q⟩:=slot c o (I.cne x c e) M h y (I.freeC x c e);exact%[_,q|J]
  .exact%[o,keep c o (I.cne x c e) M h y (I.freeC x c e)|J]
 refine%[I.ok,I.os,T,%[λb o e n w a=>?_,λb o e n w a=>?_,λb o e n a=>?_,λb o e a=>?_,λb xs e=>tups b xs (I.base.tups b xs e),λb o xs e=>frzs b o xs (I.base.frzs b o xs e)|λb ps e=>?_],?_,λx c e=>?_,?_,λx c e=>?_,λp N=>?_,G|I.len]
 .exact keep b o (B b o e) w (j b o e a) (I.base.keep b o e n w a) (I.base.free b o e n a)
 .obtain⟨E,t⟩:=I.base.slot b o e n w a;obtain⟨L,C⟩:=slot b _ (B b o e) w (j b o e a) t (I.base.free b o e n a);exact%[L|C]
 .obtain⟨A,t⟩:=I.base.there b o e a;exact free b A (j b o e a) t (I.base.free b o e n a)
 .obtain⟨A,t⟩:=I.base.there b o e a;exact there b A (j b o e a) t
 .obtain⟨U,t⟩:=I.base.tbls b ps e;obtain⟨m2,C⟩:=tbls b _ t;exact%[U++m2|by rw[C,Array.append_assoc]]
 .obtain⟨m,Y,hl⟩:=I.loc;refine%[m,Q m Y|λi x v t C e3=>?_];obtain⟨u,r,l⟩:=hl i x v t C e3;refine%[u,r|?_];rcases l with l|⟨k,c,e,z⟩
  .exact .inl l
  .exact .inr %[k,c,e|g x c e _ z]
 .obtain⟨v,z⟩:=I.cell x c e;exact%[v|g x c e v z]
 .obtain⟨m,⟨o,_,_,y,_⟩,_⟩:=I.loc;exact free _ o (λz=>(f _ z).2.1 rfl) y I.free
 .obtain⟨v,o,y,J⟩:=I.cell x c e;exact free c o (λz=>(f c z).2.2.1 x c e rfl) y (I.freeC x c e)
 .obtain⟨e,n,ne,O,d⟩:=I.pin p N;have h:=λz=>(f p.1 z).2.2.2 p N rfl
  exact%[keep p.1 p.2 ne O h e n,free p.1 p.2 h e n,ne,O|d]
theorem Inv.un{t':Nat}(I:Inv X pins σ H s)(u:Un X.fs [] H H' s.heap h')(c:HOk X.prog X.w H' h'):Inv X pins σ H' {s with heap:=h',toks:=t'}:=by
 obtain⟨m,⟨o,p,q,h,r⟩,_⟩:=id I.loc;obtain⟨t,i⟩:=u.any h I.free ∅;exact I.step (ch:=[]) (λ_ z=>nomatch z) (λb o _ d _ e n=>u.keep b o e n d ∅) (λb o _ d _ e n=>u.slot b o e n d ∅) (λb o _ e n=>u.free b o e n ∅) (λb o _ e=>u.there b o e ∅) u.tups u.frzs u.tbls (λv j=>by
  obtain⟨w,f,g,a,l⟩:=j;rw[h]at a;cases a;exact%[_,f,g,i|l]) c I.bare
theorem Inv.call{d':Drawn}{ch:List Addr}(I:Inv X pins σ H s)(u:Un (frs X.stack) ch H H' s.heap h')(g:HOk X.prog X.w H' h')(q:AllBare g')
 (d:∀b∈ch,(b∈X.ex\/X.s₀.heap.objs.size<=b)/\b≠X.env.locals/\(∀x c,X.env.cells.lookup x=some c->c≠b)/\∀p∈X.pn++pins,p.1≠b):
 Inv X pins σ H' {s with heap:=h',gens:=g',drawn:=d',toks:=t'}:=by
 obtain⟨m,⟨o,y,A,l,r⟩,_⟩:=id I.loc;obtain⟨B,h⟩:=u.any l I.free λz=>(d _ z).2.1 rfl
 exact I.step d (λb o h t a e n=>u.keep b o e n (λz=>(mem_cons.mp (I.stkSub b z)).elim h t) a) (λb o _ _ a e n=>u.any e n a) (λb o a e n=>u.free b o e n a) (λb o a e=>u.there b o e a) u.tups u.frzs u.tbls (λC v=>by
  obtain⟨E,i,j,f,w⟩:=v;rw[l]at f;cases f;exact%[_,i,j,h|w]) g q
theorem Inv.turned{it:Addr}(I:Inv X pins σ H s)(k:∀b o,b≠it->s.heap.get? b=some o->h'.get? b=some o)(A:H it=none)(f:it≠X.env.locals)
 (g:it∈X.ex\/X.s₀.heap.objs.size<=it) (h:∀x c,X.env.cells.lookup x=some c->c≠it) (i:∀p∈X.pn++pins,p.1≠it):Inv X pins σ H {s with heap:=h',toks:=t'}:=by
 have d:∀b u,H b=some u->b≠it:=λb u e z=>by lia
 refine I.step (ch:=[it]) (λb j=>?_) (λb o _ _ a e _=>k b o (λz=>a (by simp[z])) e) (λb o _ _ a e _=>%[o.slots|k b o (λz=>a (by simp[z])) e]) (λ_ _ _ _ n=>n)
  (λb o a e=>%[o|k b o (λz=>a (by simp[z])) e]) (λ_ _ e=>e) (λ_ _ _ e=>e) (λb ps e=>%[#[]|by rw[e];simp]) (λm l=>?_) (λb u e=>?_) I.bare
 .have e:=by simpa using j
  subst e;exact%[g,f,h|i]
 .obtain⟨o,t,w,y,r⟩:=l;exact%[o,t,w,k _ o (Ne.symm f) y|r]
 .refine(I.hok b u e).stay (λc v a q=>k c v ?_ q) (λ_ q=>q) λ_ _ q=>q
  rcases a with z|z
  .exact z▸d b u e
  .exact d c _ z
theorem Inv.tok(I:Inv X pins σ H s)(t:Nat):Inv X pins σ H {s with toks:=t}:=I.un Un.refl I.hok
theorem Inv.kept(I:Inv X pins σ H s)(k:∀b u,s.heap.get? b=some u->h'.get? b=some u):Inv X pins σ H {s with heap:=h',toks:=t'}:=I.un (Un.kept k) (I.hok.kept k)
theorem Inv.laid{a:Addr}{o:HO}{t':Nat}(I:Inv X pins σ H s)(k:∀b u,s.heap.get? b=some u->h'.get? b=some u)(c:⇑s<=a)(new:ci X.prog X.w (upd H a o) h' a o):
 Inv X pins σ (upd H a o) {s with heap:=h',toks:=t'}:=I.un (Un.laid k c (I.hok.fresh c)) (I.hok.laid k c new)
theorem Inv.write(I:Inv X pins σ H s)(c:Mut (H x))(d:e=x\/H e=some (.own x))(k:∀b u,b≠e->s.heap.get? b=some u->h'.get? b=some u)(a:∃u,h'.get? e=some u)
 (new:ci X.prog X.w (upd H x o) h' x o):Inv X pins σ (upd H x o) {s with heap:=h',toks:=t'}:=I.un (Un.write c d k a) (I.hok.write c d k a new)
theorem Inv.pins_of(I:Inv X pins σ H s)(h:∀p∈a,s.heap.get? p.1=some p.2/\H p.1=none/\p.1≠X.env.locals/\p.1∉X.fs/\∀v,p.2.data≠ .cell v):Inv X a σ H s:=
 %[I.ok,I.os,I.bare,I.base,I.loc,I.cell,I.free,I.freeC,λp b=>(X4 b).elim (λz=>I.pin p (Yl _ z)) (h p),I.hok|I.len]
theorem gY{N:ZB}(c:N.Nodup){i j:Nat}{x:Str}(a:N[i]? =some x)(b:N[j]? =some x):i=j:=by
 obtain⟨f,d⟩:=X3 a;obtain⟨g,e⟩:=X3 b;exact(List.getElem_inj c).mp (d.trans e.symm)
theorem vQ{A:Around}{E:ZD}{i:Nat}{x:Str}{v:V}{u:Value}{Q:Unit->Shared->Prop}(I:Inv X pins σ H s)(hN:X.N.Nodup)(hi:X.N[i]? =some x)(w:Loc X.env.scope x)(r:aK v u)
 (h:∀s',Inv X pins (σ.set i (some v)) H s'->(∃a,SameBut a s.heap s'.heap/\(a=X.env.locals\/X.env.cells.lookup x=some a))->Q () s') (hf:X.fn x=true\/X.env.scope.names.lookup x=some .local):wpAny M A (storeName X.env x u) Q E s:=by
 obtain⟨m,hn,hl⟩:=id I.loc;have G:i<σ.length:=I.len▸(X3 hi).1;have cne:=I.cne;have g:∀{a:Addr} {h':Heap},(∃o,s.heap.get? a=some o/\H a=none)->SameBut a s.heap h'->HOk X.prog X.w H h':=λ{a h'} ha f b ob e=>by
  obtain⟨_,_,B⟩:=ha;refine(I.hok b ob e).stay (λc w' t q=>(f.2 c ?_).trans q) (λ_ q=>q) λ_ _ q=>q
  rintro rfl;rcases t with rfl|t
  .rw[B]at e;cases e
  .rw[B]at t;cases t
 rcases w with J|J
 .refine wpAny_storeName_local J hn (λh' ag f=>?_) (by rw[I.ok.kind];rfl);obtain⟨oL,_,_,ai,_⟩:=id hn;refine h _ %[I.ok,I.os,I.bare,%[λb o e n L w=>?_,λb o e n L w=>?_,I.base.free,λb o e w=>?_,I.base.tups,I.base.frzs|I.base.tbls],%[_,ag|λj y v' l C e3=>?_],λy c e=>?_,I.free,I.freeC,λp hp=>?_,g %[oL,ai|I.free] f|by simpa using I.len] %[_,f|.inl rfl]
  .exact(f.2 b (Zr (Zf (Zt e) I.ok.above))).trans (I.base.keep b o e n L w)
  .obtain⟨sl,l⟩:=I.base.slot b o e n L w;exact%[sl|(f.2 b (Zr (Zf (Zt e) I.ok.above))).trans l]
  .obtain⟨o',l⟩:=I.base.there b o e w;exact%[o'|(f.2 b (Zr (Zf (Zt e) I.ok.above))).trans l]
  .by_cases N:j=i
   .subst N;rw[hi]at l;cases l;rw[List.getElem?_set_self G]at C;cases C;exact%[u,r|.inl %[J|by simp]]
   .rw[List.getElem?_set_ne (Ne.symm N)]at C;obtain⟨u',r',q⟩:=hl j y v' l C e3;refine%[u',r'|?_];rcases q with⟨k,e⟩|⟨k,c,e,z⟩
    .refine .inl %[k|?_];have:y≠x:=λe=>N (gY hN l (e▸hi))
     simp[this,e]
    .exact .inr %[k,c,e|z.sameBut f (cne y c e)]
  .obtain⟨w',z⟩:=I.cell y c e;exact%[w'|z.sameBut f (cne y c e)]
  .obtain⟨e,n,ne,nf,d⟩:=I.pin p hp;exact%[(f.2 p.1 ne).trans e,n,ne,nf|d]
 .have O:X.fn x=true:=by
   rcases hf with z|z
   .exact z
   .rw[z]at J;cases J
  obtain⟨c,t⟩:=I.ok.has x (.inl J);obtain⟨w',z⟩:=I.cell x c t;refine wpAny_storeName_cell I.ok.kind J t z (λh' T f=>?_);obtain⟨oc,U,Y⟩:=id z;refine h _ %[I.ok,I.os,I.bare,%[λb o e n L w=>?_,λb o e n L w=>?_,I.base.free,λb o e w=>?_,I.base.tups,I.base.frzs|I.base.tbls],%[m,hn.sameBut f (Ne.symm (cne x c t))|λj y v' l C e3=>?_],λy c' e=>?_,I.free,I.freeC,λp hp=>?_,g %[oc,U|I.freeC x c t] f|by simpa using I.len] %[c,f|.inr t]
  .exact(f.2 b (Zr (Zf (Zt e) (I.ok.cab x c O t)))).trans (I.base.keep b o e n L w)
  .obtain⟨sl,l⟩:=I.base.slot b o e n L w;exact%[sl|(f.2 b (Zr (Zf (Zt e) (I.ok.cab x c O t)))).trans l]
  .obtain⟨o',l⟩:=I.base.there b o e w;exact%[o'|(f.2 b (Zr (Zf (Zt e) (I.ok.cab x c O t)))).trans l]
  .by_cases N:j=i
   .subst N;rw[hi]at l;cases l;rw[List.getElem?_set_self G]at C;cases C;exact%[u,r|.inr %[.inl J,c,t|T]]
   .rw[List.getElem?_set_ne (Ne.symm N)]at C;obtain⟨u',r',q⟩:=hl j y v' l C e3;refine%[u',r'|?_];rcases q with q|⟨k,c',e,z'⟩
    .exact .inl q
    .refine .inr %[k,c',e|z'.sameBut f ?_];rintro rfl;exact N (gY hN l (I.ok.inj _ _ _ e t▸hi))
  .by_cases ab:c'=c
   .subst ab;exact%[_|T]
   .obtain⟨w2,z2⟩:=I.cell y c' e;exact%[w2|z2.sameBut f ab]
  .obtain⟨e,n,ne,nf,d⟩:=I.pin p hp;refine%[(f.2 p.1 ?_).trans e,n,ne,nf|d];intro q;rw[q,U]at e;exact d w' ((Z9 e)▸Y)
theorem jm(I:Inv X pins σ H s)(a:X.N.Nodup)(hi:X.N[i]? =some x)(b:Loc X.env.scope x)(r:aK v u)
 (h:∀s',Inv X pins (σ.set i (some v)) H s'->Q () s') (c:X.fn x=true\/X.env.scope.names.lookup x=some .local):wpAny M A (storeName X.env x u) Q E s:=
 vQ I a hi b r (λs' d _=>h s' d) c
theorem Inv.call'(I:Inv X pins σ H s)(e:s'.os=s.os)(u:Un (frs X.stack) ch H H' s.heap s'.heap)(a:HOk X.prog X.w H' s'.heap)(f:AllBare s'.gens)
 (d:∀b∈ch,(b∈X.ex\/X.s₀.heap.objs.size<=b)/\b≠X.env.locals/\(∀x c,X.env.cells.lookup x=some c->c≠b)/\∀p∈X.pn++pins,p.1≠b):Inv X pins σ H' s':=by
 obtain⟨h',g',d',t',g⟩:=s';subst e;exact I.call u a f d
end
noncomputable abbrev XK:=Value->ZH->Hp->Prop
noncomputable abbrev St:=List (Option V)
noncomputable abbrev VK:=V->Hp->Prop
noncomputable abbrev TE:=St->Hp->VK->Prop
noncomputable abbrev TT:=St->Hp->(Bool->Hp->Prop)->Prop
noncomputable abbrev TA:=St->Hp->(List V->Hp->Prop)->Prop
structure iL where
 nx:St->Hp->Prop
 rt:VK
 bk:St->Hp->Prop:=λ_ _=>False
 ct:St->Hp->Prop:=λ_ _=>False
noncomputable abbrev TS:=iL->St->Hp->Prop
def EP(X:Cx)(pins:ZE)(b:St)(Q:VK)(u:Value)(s':Shared):Prop:=∃v a,Inv X pins b a s'/\aK v u/\Q v a
def TP(X:Cx)(pins:ZE)(c:St)(Q:Bool->Hp->Prop)(b:Bool)(s':Shared):Prop:=∃a,Inv X pins c a s'/\Q b a
def AP(X:Cx)(pins:ZE)(b:St)(Q:List V->Hp->Prop)(us:ZF)(s':Shared):Prop:=∃vs a,Inv X pins b a s'/\aC vs us/\Q vs a
def SP(X:Cx)(pins:ZE)(D:iL)(f:Flow)(s':Shared):Prop:=
 match f with
 | .next=>∃a b,Inv X pins a b s'/\D.nx a b
 | .brk=>∃a b,Inv X pins a b s'/\D.bk a b
 | .cont=>∃a b,Inv X pins a b s'/\D.ct a b
 | .ret u=>∃v a b,Inv X pins a b s'/\aK v u/\D.rt v b
def PE(X:Cx)(e:Expr)(t:TE):Prop:=
 ∀pins s (a:St) H Q,Inv X pins a H s->t a H Q->(~~~X) (eval e X.env) (EP X pins a Q) X.xe s
def PT(X:Cx)(e:Expr)(t:TT):Prop:=
 ∀pins s (a:St) H Q,Inv X pins a H s->t a H Q->(~~~X) (isTrue e X.env (eval e X.env)) (TP X pins a Q) X.xe s
def PW(X:Cx)(e:Expr)(t:TT):Prop:=
 ∀a pins s (b:St) H Q,Inv X pins b H s->t b H Q->(~~~X) (isTrue e X.env a) (TP X pins b Q) X.xe s
theorem PW.pt{X:Cx}(h:PW X e t):PT X e t:=h _
def PA(X:Cx)(b:List Expr)(t:TA):Prop:=
 ∀pos pins s (a:St) H Q,Inv X pins a H s->t a H Q->(~~~X) (spliced (backTo pos (starEach b X.env))) (AP X pins a Q) X.xe s
def PS(X:Cx)(st:Stmt)(t:TS):Prop:=
 ∀pins s (a:St) H D,Inv X pins a H s->t D a H->(~~~X) (exec st X.env) (SP X pins D) X.xe s
def PSs(X:Cx)(st:List Stmt)(t:TS):Prop:=
 ∀pins s (a:St) H D,Inv X pins a H s->t D a H->(~~~X) (execs st X.env) (SP X pins D) X.xe s
theorem thn{b:Type}{t:Sem b}{Q c:b->Shared->Prop}{M:Model}{A:Around}{E:ZD}{s:Shared}(h:wpAny M A t Q E s)(d:∀a s,Q a s->c a s):wpAny M A t c E s:=wpAny_mono h d λ_ _ x=>x
section
variable{X:Cx}
def asI(x:V)(f:Int->Prop):Prop:=match x with| .int i=>f i|_=>False
def asB(x:V)(f:Bool->Prop):Prop:=match x with| .bl i=>f i|_=>False
def asR(x:V)(f:Addr->Prop):Prop:=match x with| .ref i=>f i|_=>False
theorem EI:asI (.int i) f=f i:=rfl
theorem EJ:asB (.bl i) f=f i:=rfl
theorem EK:asR (.ref i) f=f i:=rfl
theorem gZ{x:V}{f:Int->Prop}(h:asI x f):∃i,x= .int i/\f i:=by
 cases x<;> first|exact⟨_,rfl,h⟩|exact h.elim
theorem nO{x:V}{f:Bool->Prop}(h:asB x f):∃i,x= .bl i/\f i:=by
 cases x<;> first|exact⟨_,rfl,h⟩|exact h.elim
theorem fC{x:V}{f:Addr->Prop}(h:asR x f):∃i,x= .ref i/\f i:=by
 cases x<;> first|exact⟨_,rfl,h⟩|exact h.elim
theorem EM:asI x f=∃i,x= .int i/\f i:=propext %[gZ|λ⟨_,e,q⟩=>by subst e;exact q]
theorem EN:asB x f=∃i,x= .bl i/\f i:=propext %[nO|λ⟨_,e,q⟩=>by subst e;exact q]
theorem EO:asR x f=∃i,x= .ref i/\f i:=propext %[fC|λ⟨_,e,q⟩=>by subst e;exact q]
def mY:Nat->TE
 | 0,some v::_,H,Q=>Q v H
 | i+1,_::a,H,Q=>mY i a H Q
 | _,_,_,_=>False
theorem Cy:mY 0 (some v::a) H Q=Q v H:=rfl
theorem Cz:mY (i+1) (o::a) H Q=mY i a H Q:=rfl
theorem xQ:∀{i:Nat} {a:St},mY i a H Q->∃v,a[i]? =some (some v)/\Q v H
 | 0,some v::_,h=>%[v,rfl|h]
 | 0,none::_,h=>h.elim
 | 0,[],h=>h.elim
 | _+1,[],h=>h.elim
 | i+1,_::a,h=>xQ (i:=i) h
def tC(v:V):TE:=λ_ H Q=>Q v H
theorem xR(n:X.N[i]? =some x)(o:Vis X.env.scope x)(f:(x==("__debug__":Str))=false)(g:(x==("__classdict__":Str))=false):PE X (.Name x pos) (mY i):=by
 intro pins s p H Q I h;obtain⟨v,e,h⟩:=xQ h;obtain⟨m,q,t⟩:=I.loc;obtain⟨u,r,l⟩:=t i x v n e o;have b:EP X pins p Q u s:=%[v,H,I,r|h]
 rcases l with⟨d,w⟩|⟨d,c,j,a⟩
 .exact wpAny_Name (wpAny_loadName_local I.ok.kind d q w b) f
 .rcases d with d|d
  .exact wpAny_Name (wpAny_loadName_cell I.ok.kind d j a b) f
  .exact wpAny_Name (wpAny_loadName_free I.ok.kind d j a b g) f
theorem CA{i j pos}:PE X (.Constant (.int i) j pos) (tC (.int i)):=λ_ _ _ H _ I h=>wpAny_Constant_int %[.int i,H,I.tok _,%[_|rfl]|h]
theorem EQ{b j pos}:PE X (.Constant (.bool b) j pos) (tC (.bl b)):=λ_ _ _ H _ I h=>Constant_bool %[.bl b,H,I,rfl|h]
theorem CB{j pos}:PE X (.Constant .none j pos) (tC .non):=λ_ _ _ H _ I h=>Constant_none %[.non,H,I,rfl|h]
theorem CC{x j pos}:PE X (.Constant (.str x) j pos) (tC (.str x)):=λ_ _ _ H _ I h=>Calls.Constant_str %[.str x,H,I.tok _,%[_|rfl]|h]
def Gl(X:Cx)(x:Str):Prop:=X.env.kindOf x=some .globalImplicit
theorem eT(I:Inv X pins d H s)(a:Gl X x)(b:X.mg x=some u)(h:Q u s)
 (c:(x==("__debug__":Str))=false):(~~~X) (eval (.Name x pos) X.env) Q E s:=
 Calls.Name_function_global I.ok.kind a (Calls.loadGlobal_global (I.ok.glob▸I.mod.glob.keeps I.bk) b h) c
theorem iU(I:Inv X pins i H s)(a:Gl X x)(b:X.mg x=none)(c:bootBuiltins x=some u)(h:Q u s)
 (d:x≠"__name__":=by decide) (e:(x==("__debug__":Str))=false:=by decide):(~~~X) (eval (.Name x pos) X.env) Q E s:=by
 obtain⟨j,f,g⟩:=I.mod.blt;exact Calls.Name_function_global I.ok.kind a (Calls.loadGlobal_builtin (I.ok.glob▸I.mod.glob.keeps I.bk) b (I.ok.blt▸f.keeps I.bk) ((g x d).trans c) h) e
theorem Ay(a:Gl X x)(b:X.mg x=some u)(r:aK v u)(c:(x==("__debug__":Str))=false):PE X (.Name x pos) (tC v):=
 λ_ _ _ H _ I h=>eT I a b %[v,H,I,r|h] c
theorem Az(a:Gl X x)(b:X.mg x=none)(c:bootBuiltins x=some u)(r:aK v u)(d:x≠"__name__")(e:(x==("__debug__":Str))=false):PE X (.Name x pos) (tC v):=
 λ_ _ _ H _ I h=>iU I a b c %[v,H,I,r|h] d e
variable{a b:Expr}{ta tb:TE}{pos:Pos}
def PC(X:Cx)(op:CmpOp)(a b:Expr)(t:TE):Prop:=
 ∀pins s (e:St) H Q,Inv X pins e H s->t e H Q->
  (~~~X) (eval a X.env) (λv c=>(~~~X) (eval b X.env) (λu d=>(~~~X) (compareOp op v u) (EP X pins e Q) X.xe d) X.xe c) X.xe s
theorem ER(b:Expr)(h:op≠ .In)(e:op≠ .NotIn):behindInMarks op b=false:=by
 have c:(op==CmpOp.In)=false:=by lia
 have d:(op==CmpOp.NotIn)=false:=by lia
 cases b<;> simp[behindInMarks,c,d]
def tB(t:TE):TT:=λd H Q=>t d H λx e=>asB x λc=>Q c e
theorem xS{op:CmpOp}(h:PC X op a b t)(e:behindInMarks op b=false):PT X (.Compare a [op] [b] pos) (tB t):=by
 intro pins s f H Q I hw;refine wpAny_isTrue_Compare1 (thn (h pins s f H _ I hw) λv n e=>thn e λu o g=>thn g λc p ⟨x,i,j,l,m⟩=>?_) e;obtain⟨d,rfl,q⟩:=nO m;cases l;exact wpAny_truthy_bool %[i,j|q]
variable{tA tB':TT}{rest:List Expr}
def AA(t u:TT):TT:=λd H Q=>t d H λc e=>if c=true then u d e Q else Q false e
def tOr(t u:TT):TT:=λd H Q=>t d H λc e=>if c=true then Q true e else u d e Q
def CD(t:TT):TT:=λd H Q=>t d H λc e=>Q (!c) e
theorem AB(d:PT X a tA):PW X (.BoolOp .And [a] pos) tA:=by
 intro g pins s f H Q I h;refine isTrue_and (thn (d pins s f H Q I h) λc i e=>?_);cases c with
 | true=>exact isTrue_and_nil e
 | false=>exact e
theorem CF(d:PT X a tA):PW X (.BoolOp .Or [a] pos) tA:=by
 intro g pins s f H Q I h;refine isTrue_or (thn (d pins s f H Q I h) λc i e=>?_);cases c with
 | false=>exact isTrue_or_nil e
 | true=>exact e
theorem CG(i:PT X a tA)(j:PW X (.BoolOp .And (b::rest) pos) tB'):PW X (.BoolOp .And (a::b::rest) pos) (AA tA tB'):=by
 intro l pins s d H Q I h;refine isTrue_and (thn (i pins s d H _ I h) λc m ⟨e,f,g⟩=>?_);cases c with
 | true=>exact j l pins m d e Q f g
 | false=>exact%[e,f|g]
theorem ES(i:PT X a tA)(j:PW X (.BoolOp .Or (b::rest) pos) tB'):PW X (.BoolOp .Or (a::b::rest) pos) (tOr tA tB'):=by
 intro l pins s d H Q I h;refine isTrue_or (thn (i pins s d H _ I h) λc m ⟨e,f,g⟩=>?_);cases c with
 | true=>exact%[e,f|g]
 | false=>exact j l pins m d e Q f g
theorem CH(c:PT X a tA):PT X (.UnaryOp .Not a pos) (CD tA):=by
 intro pins s d H Q I h;exact isTrue_not (c pins s d H _ I h)
def xT(ta tb:TE):TE:=λd H Q=>ta d H λx e=>asB x λc=>if c=true then tb d e Q else Q (.bl false) e
def CI(ta tb:TE):TE:=λd H Q=>ta d H λx e=>asB x λc=>if c=true then Q (.bl true) e else tb d e Q
theorem CJ{op}(h:PE X a t):PE X (.BoolOp op [a] pos) t:=λpins s c H Q I hw=>BoolOp_one (h pins s c H Q I hw)
theorem CL(i:PE X a ta)(j:PE X (.BoolOp .And (b::rest) pos) tb):PE X (.BoolOp .And (a::b::rest) pos) (xT ta tb):=by
 intro pins s e H Q I h;refine BoolOp_and (thn (i pins s e H _ I h) λv l ⟨x,f,g,m,d⟩=>?_);obtain⟨c,rfl,d⟩:=nO d;cases m;refine wpAny_truthy_bool ?_;cases c with
 | true=>exact j pins l e f Q g d
 | false=>exact%[.bl false,f,g,rfl|d]
theorem ET(i:PE X a ta)(j:PE X (.BoolOp .Or (b::rest) pos) tb):PE X (.BoolOp .Or (a::b::rest) pos) (CI ta tb):=by
 intro pins s e H Q I h;refine BoolOp_or (thn (i pins s e H _ I h) λv l ⟨x,f,g,m,d⟩=>?_);obtain⟨c,rfl,d⟩:=nO d;cases m;refine wpAny_truthy_bool ?_;cases c with
 | false=>exact j pins l e f Q g d
 | true=>exact%[.bl true,f,g,rfl|d]
end
def SqL(K:ZA)(H:Hp)(a:Addr)(xs:List V):Prop:=
 Rd H a (.lst xs)\/
  ∃o its n,K.lookup a=some o/\o.cls= .type "list"/\o.dict=none/\o.data= .seq its n/\its.size<=sizeLine/\aC xs its.toList
def SqT(K:ZA)(H:Hp)(a:Addr)(xs:List V):Prop:=
 Rd H a (.tup xs)\/
  ∃o its n,K.lookup a=some o/\o.cls= .type "tuple"/\o.data= .seq its n/\its.size<=sizeLine/\aC xs its.toList
noncomputable def absV:Value->Option V
 | .none=>some .non
 | .bool b=>some (.bl b)
 | .int i _=>some (.int i)
 | .str x _=>some (.str x)
 | .bytes b _=>some (.byt b)
 | .float b _=>some (.flt b)
 | .ref a=>some (.ref a)
 | .type n=>some (.ty n)
 | _=>none
theorem aK.abs(r:aK x u):absV u=some x:=by
 cases x with
 | non=>cases r;rfl
 | bl _=>cases r;rfl
 | int _=>obtain⟨t,rfl⟩:=r;rfl
 | str _=>obtain⟨t,rfl⟩:=r;rfl
 | byt _=>obtain⟨t,rfl⟩:=r;rfl
 | flt _=>obtain⟨t,rfl⟩:=r;rfl
 | ref _=>cases r;rfl
 | ty _=>cases r;rfl
theorem aK.inj(r:aK x u)(q:aK y u):x=y:=Z9 (r.abs.symm.trans q.abs)
theorem aC.inj:∀{xs ys:List V} {us:ZF},aC xs us->aC ys us->xs=ys
 | _,_,_,.nil,.nil=>rfl
 | _,_,_,.cons r t,.cons a t'=>by rw[r.inj a,aC.inj t t']
section
#version
variable{a:Addr}{xs ys:List V}
theorem SqL.of{K:ZA}(h:H a=some (.lst xs)):SqL K H a xs:= .inl (.inl h)
theorem SqT.of{K:ZA}(h:H a=some (.tup xs)):SqT K H a xs:= .inl (.inl h)
theorem Inv.list(I:Inv X pins σ H s)(h:SqL X.K H a xs):∃its:ZF,aC xs its/\PlainL s.heap a its.toArray/\xs.length<=sizeLine:=by
 rcases h with h|⟨o,its,n,b,c,d,f,g,r⟩
 .obtain⟨z,its,n,r,e⟩:=h.ok I.hok;exact%[its,r,%[_,n,e,rfl,rfl|rfl]|z]
 .refine%[its.toList,r,%[o,n,I.kIn a o b,c,d|f]|?_];have e:=r.length
  simp_all
theorem Inv.tuple(I:Inv X pins σ H s)(h:SqT X.K H a xs):∃its:ZF,aC xs its/\IsTup s.heap a its.toArray/\xs.length<=sizeLine:=by
 rcases h with h|⟨o,its,n,b,c,d,f,r⟩
 .obtain⟨z,its,r,p⟩:=h.ok I.hok;exact%[its,r,p|z]
 .refine%[its.toList,r,%[o,I.kIn a o b,c,n|d]|?_];have e:=r.length;simp only[Za]at e
  lia
theorem Inv.list_inj(I:Inv X pins σ H s)(h:SqL X.K H a xs)(h':SqL X.K H a ys):xs=ys:=by
 obtain⟨its,r,⟨o,n,e,_,_,d⟩,_⟩:=I.list h;obtain⟨its',c,⟨g,i,b,_,_,d'⟩,_⟩:=I.list h';rw[e]at b;cases b;rw[d]at d';injection d' with f _
 have:=congrArg Array.toList f;subst this;exact r.inj c
theorem Inv.tuple_inj(I:Inv X pins σ H s)(h:SqT X.K H a xs)(h':SqT X.K H a ys):xs=ys:=by
 obtain⟨its,r,⟨o,e,_,n,d⟩,_⟩:=I.tuple h;obtain⟨its',c,⟨g,b,_,i,d'⟩,_⟩:=I.tuple h';rw[e]at b;cases b;rw[d]at d';injection d' with f _
 have:=congrArg Array.toList f;subst this;exact r.inj c
end
noncomputable abbrev Cx.wish(X:Cx)(E:ZD):Cx:={X with xe:=E}
noncomputable abbrev Cx.nox(X:Cx):Cx:=X.wish λ_ _=>False
theorem Cx.Ok.wish{X:Cx}(ok:X.Ok)(E:ZD):(X.wish E).Ok:=
 %[ok.mod,ok.kind,ok.glob,ok.blt,ok.above,ok.inj,ok.has,ok.cab,ok.hd,ok.frames,ok.stk,ok.exf,ok.bs,ok.bsz,ok.noex,ok.exfs,ok.funs|ok.frf]
theorem Cx.Ok.unwish{X:Cx}{E:ZD}(ok:(X.wish E).Ok):X.Ok:=
 %[ok.mod,ok.kind,ok.glob,ok.blt,ok.above,ok.inj,ok.has,ok.cab,ok.hd,ok.frames,ok.stk,ok.exf,ok.bs,ok.bsz,ok.noex,ok.exfs,ok.funs|ok.frf]
section
#version
variable{E:ZD}
theorem Inv.wish(I:Inv X pins σ H s)(E:ZD):Inv (X.wish E) pins σ H s:=%[I.ok.wish E,I.os,I.bare,I.base,I.loc,I.cell,I.free,I.freeC,I.pin,I.hok|I.len]
theorem Inv.unwish(I:Inv (X.wish E) pins σ H s):Inv X pins σ H s:=%[I.ok.unwish,I.os,I.bare,I.base,I.loc,I.cell,I.free,I.freeC,I.pin,I.hok|I.len]
theorem SP.unwish{D:iL}{f:Flow}{s':Shared}(h:SP (X.wish E) pins D f s'):SP X pins D f s':=by
 cases f with
 | next=>obtain⟨a,b,I,q⟩:=h;exact%[a,b,I.unwish|q]
 | brk=>obtain⟨a,b,I,q⟩:=h;exact%[a,b,I.unwish|q]
 | cont=>obtain⟨a,b,I,q⟩:=h;exact%[a,b,I.unwish|q]
 | ret u=>obtain⟨v,a,b,I,r,q⟩:=h;exact%[v,a,b,I.unwish,r|q]
theorem PSs.nox{st:List Stmt}(h:PSs X.nox st t):PSs X st t:=λpins s σ H D I hw=>
 wpAny_mono (h pins s σ H D (I.wish _) hw) (λ_ _ q=>q.unwish) λ_ _ z=>False.elim z
end
section
variable{X:Cx}{st:Stmt}{rest:List Stmt}{t u:TS}{e:Expr}{te:TE}{pos:Pos}
def xU:TS:=λD a H=>D.nx a H
def bh(t u:TS):TS:=λD a H=>t {D with nx:=u D} a H
theorem AC:PSs X [] xU:=λ_ _ a H _ I h=>wpAny_execs_nil %[a,H,I|h]
theorem xV(b:PS X st t)(c:PSs X rest u):PSs X (st::rest) (bh t u):=by
 intro pins s d H D I h;refine wpAny_execs_cons (thn (b pins s d H _ I h) λf g q=>?_);cases f with
 | next=>
   obtain⟨a,i,j,q⟩:=q;exact c pins g a i D j q
 | ret v=>exact q
 | brk=>exact q
 | cont=>exact q
theorem AD(a:PS X st t):PSs X [st] t:=by
 intro pins s b H D I h;refine wpAny_execs_cons (thn (a pins s b H D I h) λf c q=>?_);cases f with
 | next=>exact wpAny_execs_nil q
 | ret v=>exact q
 | brk=>exact q
 | cont=>exact q
theorem Inv.quiet{pins:List _}{a:St}{H:Hp}{s:Shared}(I:Inv X pins a H s):interactive X.env=false:=by simp[interactive,I.ok.kind]
def jn(te:TE):TS:=λD a H=>te a H λ_ b=>D.nx a b
theorem AE(b:PE X e te)(c:swapsWith e none pos.line X.env=pure false):PS X (.Expr e pos) (jn te):=by
 intro pins s a H D I h;exact wpAny_Expr_any (thn (b pins s a H _ I h) λv i ⟨x,d,f,j,g⟩=>%[a,d,f|g]) I.quiet c
def iV(te:TE):TS:=λD a H=>te a H D.rt
theorem CM(b:PE X e te):PS X (.Return (some e) pos) (iV te):=by
 intro pins s a H D I h;exact wpAny_Return_some (thn (b pins s a H _ I h) λv i ⟨x,c,d,f,g⟩=>%[x,a,c,d,f|g])
def jQ(c:TT)(t u:TS):TS:=λD a H=>c a H λb d=>if b=true then t D a d else u D a d
theorem EU{c:Expr}{a b:List Stmt}(m:PT X c n)(o:PSs X a t)(p:PSs X b u):PS X (.If c a b pos) (jQ n t u):=by
 intro pins s f H D I h;refine wpAny_If (thn (m pins s f H _ I h) λd g ⟨i,j,l⟩=>?_);cases d with
 | true=>exact o pins g f i D j l
 | false=>exact p pins g f i D j l
def xW:TS:=λ_ _ _=>False
theorem xX:PS X st xW:=λ_ _ _ _ _ _ h=>h.elim
end
noncomputable abbrev TG:=V->St->Hp->(St->Hp->Prop)->Prop
noncomputable abbrev TGs:=List V->St->Hp->(St->Hp->Prop)->Prop
def PG(X:Cx)(a:Expr)(t:TG):Prop:=
 ∀pins s (c:St) H v u Q,Inv X pins c H s->aK v u->t v c H Q->
  (~~~X) (assign a X.env u) (λ_ s'=>∃b d,Inv X pins b d s'/\Q b d) X.xe s
def PGs(X:Cx)(ts:List Expr)(t:TGs):Prop:=
 ∀pins s (b:St) H vs us Q,Inv X pins b H s->aC vs us->t vs b H Q->
  (~~~X) (assignInOrder ((assignEach ts X.env).map (·.2)) us) (λ_ s'=>∃a c,Inv X pins a c s'/\Q a c) X.xe s
section
variable{X:Cx}{pos:Pos}
def iP(i:Nat):TG:=λv a H Q=>Q (a.set i (some v)) H
theorem AF(a:X.N.Nodup)(hi:X.N[i]? =some x)(b:Loc X.env.scope x)(c:X.fn x=true\/X.env.scope.names.lookup x=some .local):PG X (.Name x pos) (iP i):=by
 intro pins s e H v u Q I r h;exact wpAny_assign_Name (jm I a hi b r (λs' d=>%[_,H,d|h]) c)
def CO:TGs:=λvs a H Q=>vs=[]/\Q a H
def xY(t:TG)(u:TGs):TGs:=λvs b H Q=>∃v r,vs=v::r/\t v b H λa c=>u r a c Q
theorem AG:PGs X [] CO:=by
 intro pins s a H vs us Q I r h;obtain⟨e,h⟩:=h;exact assignInOrder_nil %[a,H,I|h]
theorem xZ{e:Expr}{u:TGs}(c:PG X e t)(d:PGs X a u)
 (f:(assignEach (e::a) X.env).map (·.2)=assign e X.env::(assignEach a X.env).map (·.2)):PGs X (e::a) (xY t u):=by
 intro pins s g H vs us Q I r h;obtain⟨v,o,i,h⟩:=h;subst i;cases r with
 | cons r rr=>
   rw[f];exact assignInOrder_cons (thn (c pins s g H _ _ _ I r h) λ_ j ⟨b,l,m,n⟩=>d pins j b l _ _ Q m rr n)
def AH(K:ZA)(n:Nat)(t:TGs):TG:=λv b H Q=>asR v λa=>∃xs,SqT K H a xs/\xs.length=n/\t xs b H Q
theorem CP(g:X.calm=true)(h:PGs X c t)
 (i:(assignEach c X.env).length=n) (d:(assignEach c X.env).findIdx? (·.1)=none):PG X (.Tuple c k pos) (AH X.K n t):=by
 intro pins s j H v u Q I r hw;obtain⟨a,l,xs,m,p,hw⟩:=fC hw;clear ‹AH _ _ _ _ _ _ _›;subst l;cases r;obtain⟨its,f,q,y⟩:=I.tuple m;exact assign_Tuple_tuple (I.ok.hd g) q (by simp[i,<-p,f.length]) d λh' w=>h pins _ j H xs _ Q (I.kept λb o e=>w b o (Zr (Zt e)) e) (f) hw
def mZ(b:TE)(g:TG):TS:=λD a H=>b a H λx c=>g x a c D.nx
theorem CQ{a e:Expr}{g:TG}(c:PE X e d)(f:PG X a g)(i:swapsWithSole [a] e pos.line X.env=pure false)(hw:swappedStores [a] e X.env=pure none)
 (j:(assignEach [a] X.env).map (·.2)=[assign a X.env]):PS X (.Assign [a] e pos) (mZ d g):=by
 intro pins s b H D I h;refine wpAny_Assign_stores (thn (c pins s b H _ I h) λv l ⟨x,m,n,o,p⟩=>?_) i hw;rw[j];exact thn (f pins l b m x v _ n o p) λ_ r q=>q
theorem x4{i:Nat}{x:Str}{e:Expr}(b:X.N.Nodup)(hi:X.N[i]? =some x)(c:Loc X.env.scope x)(d:PE X e f)(g:swapsWith e (some (.Name x a)) pos.line X.env=pure false)(j:X.fn x=true\/X.env.scope.names.lookup x=some .local):
 PS X (.Assign [.Name x a] e pos) (mZ f (iP i)):=by
 intro pins s l H D I h;exact wpAny_Assign_Name (thn (d pins s l H _ I h) λv r ⟨y,m,n,o,p⟩=>jm n b hi c o (λt q=>%[_,m,q|p]) j) g
end
section
variable{X:Cx}{pos:Pos}
def x5(c:TT)(h:TS):TS:=λD a H=>∃W:Nat->St->Hp->Prop,(∃m,W m a H)/\∀m a H,W m a H->
 c a H λb e=>if b=true then∃N:St->Hp->Prop,(∀d f,N d f->∃g,g<m/\W g d f)/\h {D with nx:=N,ct:=N,bk:=D.nx} a e else D.nx a e
theorem x6(u:PassesOwn (model X.prog X.w) X.A X.env X.xe)(C:PT X c E)(G:PSs X e J):PS X (.While c e [] pos) (x5 E J):=by
 intro pins s L H D I h;obtain⟨W,⟨M,O⟩,g⟩:=h;refine wpAny_While (codeAny_whileLoop (λn s'=>∃i w,Inv X pins i w s'/\W n i w) ?_ M %[L,H,I|O]);rintro n Q ⟨d,y,T,U⟩;refine wpAny_passesOwn u (thn (C pins Q d y _ T (g n d y U)) λb Y ⟨z,A,l⟩=>?_);cases b with
 | true=>
   obtain⟨N,B,l⟩:=l;refine wpAny_passesOwn u (thn (G pins Y d z _ A l) λf s3 m=>?_);cases f with
   | next=>
     obtain⟨a,j,o,p⟩:=m;obtain⟨q,r,t⟩:=B a j p;exact%[q,r,a,j,o|t]
   | cont=>
     obtain⟨a,j,o,p⟩:=m;obtain⟨q,r,t⟩:=B a j p;exact%[q,r,a,j,o|t]
   | brk=>exact m
   | ret v=>exact m
 | false=>
   exact wpAny_execs_nil %[d,z,A|l]
end
structure It where
 go:Nat->Hp->Prop
 yld:Nat->Hp->V->Hp->Prop
 stop:Nat->Hp->Prop
def kQ(X:Cx)(pins:ZE)(H:Hp)(b:Addr):Prop:=
 H b=none/\b≠X.env.locals/\b∉X.fs/\(b∈X.ex\/X.s₀.heap.objs.size<=b)/\(∀x c,X.env.cells.lookup x=some c->c≠b)/\∀p∈X.pn++pins,p.1≠b
theorem Inv.fpOk{X:Cx}(I:Inv X pins h H s)(a:⇑s<=b)(d:f b=none):kQ X pins f b:=by
 refine%[d,Yo (Zf I.lt a),I.nofs a,.inr (Y8 I.sz a),λx c e z=>?_|λp g z=>?_]
 .obtain⟨v,q⟩:=I.cell x c e;exact absurd (Zf q.lt (z▸a)) (X2 _)
 .exact absurd (Zf (Zt (I.pin p g).1) (z▸a)) (X2 _)
structure oW (P:Program) (w:World) (K:ZA) (tg:Expr) (J:It) (fp:List Addr) (it:Addr) (tn:Nat->Heap->Prop):Prop where
 mem:it∈fp
 obj:∀i h,tn i h->∀b∈fp,∃o,h.get? b=some o/\∀v,o.data≠ .cell v
 keep:∀i h h',tn i h->(∀b∈fp,∀o,h.get? b=some o->h'.get? b=some o)->tn i h'
 item:∀(X:Cx),X.prog=P->X.w=w->X.K=K->X.calm=true->∀i (pins:ZE) s (σ:St) H (E:ZD),Inv X pins σ H s->(∀b∈fp,kQ X pins H b)->tn i s.heap->J.go i H->
  wpAny (model P w) X.A (pyNext (.ref it)) (λr s1=>∃u,r=some u/\
   wpAny (model P w) X.A (letOwnedTupleGo tg (.ref it) u) (λ_ s2=>∃x H',Inv X pins σ H' s2/\aK x u/\J.yld i H x H'/\tn (i+1) s2.heap/\∀b∈fp,H' b=none) E s1) E s
 done:∀X,X.prog=P->X.w=w->X.K=K->X.calm=true->∀i pins s (σ:St) H E,Inv X pins σ H s->(∀b∈fp,kQ X pins H b)->tn i s.heap->J.stop i H->
  wpAny (model P w) X.A (pyNext (.ref it)) (λr s1=>r=none/\Inv X pins σ H s1) E s
 self:∀A i s Q E,tn i s.heap->Q (.ref it) s->wpAny (model P w) A (pyIter (.ref it)) Q E s
noncomputable abbrev TI:=St->Hp->(It->Hp->Prop)->Prop
def PIE(X:Cx)(pins:ZE)(g:St)(h:Expr)(R:It->Hp->Prop)(a:Value)(d:Shared):Prop:=
 ∃it e f J c,a= .ref it/\Inv X pins g c d/\oW X.prog X.w X.K h J e it f/\f 0 d.heap/\(∀b∈e,kQ X pins c b)/\R J c
def PI(X:Cx)(b iter:Expr)(c:TI):Prop:=
 ∀pins s (a:St) H R,Inv X pins a H s->c a H R->
  (~~~X) (eval iter X.env) (λv d=>(~~~X) (pyIter v) (PIE X pins a b R) X.xe d) X.xe s
theorem qJ(b:s.heap.get? it=some o)(c:o.cls= .type n)(d:o.data= .fields vs)
 (e:["enumerate","zip","dict_itemiterator","dict_reverseitemiterator","odict_iterator","itertools.zip_longest","itertools.pairwise"].contains n=false) (a:Q () s):wpAny M A (letOwnedTupleGo f (.ref it) u) Q E s:=by
 cases f<;> first
  | exact Z3 a
  |(cases u<;> first
   | exact Z3 a
   |(refine Z2 (wpAny_load b ?_)
     rw[c,d];show wpAny M A (if(["enumerate","zip","dict_itemiterator","dict_reverseitemiterator","odict_iterator","itertools.zip_longest","itertools.pairwise"].contains n&&vs[0]? ==some _)=true then _ else _) Q E s;rw[if_neg (by intro h;rw[e,Bool.false_and]at h;cases h)];exact Z3 a))
noncomputable def Itl(K:ZA)(a:Addr):It:=
 ⟨λi H=>∃xs x,SqL K H a xs/\xs[i]? =some x,λi H x b=>b=H/\∀xs,SqL K H a xs->xs[i]? =some x,λi H=>∃xs,SqL K H a xs/\xs.length<=i⟩
noncomputable def Itt(K:ZA)(a:Addr):It:=
 ⟨λi H=>∃xs x,SqT K H a xs/\xs[i]? =some x,λi H x b=>b=H/\∀xs,SqT K H a xs->xs[i]? =some x,λi H=>∃xs,SqT K H a xs/\xs.length<=i⟩
noncomputable def Itr(lo:Int)(n:Nat):It:=%[λi _=>i<n,λi H x a=>a=H/\x= .int (lo+i)|λi _=>n<=i]
theorem vR{P:Program}{K:ZA}(a it:Addr):oW P w K tg (Itl K a) [it] it (λi h=>h.IsListIter it a i) where
 mem:=by simp
 obj:=λi h st b hb=>by
  have e:=by simpa using hb
  subst e;obtain⟨o,e,c,d⟩:=st;exact%[o,e|λv z=>by rw[d]at z;cases z]
 keep:=λi h h' st k=>st.at λo e=>k it ∅ o e
 item:=by
  intro X hP hw hK hc i pins s σ H E I hf st hg;subst hP hw hK;obtain⟨xs,x,hq,hx⟩:=hg;obtain⟨its,rv,p,hz⟩:=I.list hq;obtain⟨u,hu,ru⟩:=rv.get hx;obtain⟨f0,f1,f2,f3,f4,f5⟩:=hf it ∅;refine wpAny_pyNext_list_item st p.isList (by simpa using hu) λh' st' sb=>?_
  obtain⟨o,e,c,d⟩:=id st';exact%[u,rfl|qJ e c d (by decide) %[x,H,(I.turned (λb o hb e=>(sb.2 b hb).trans e) f0 f1 f3 f4 f5),ru,%[rfl|λys hy=>(I.list_inj hy hq)▸hx],st'|λb hb=>(hf b hb).1]]
 done:=by
  intro X hP hw hK hc i pins s σ H E I hf st hg;subst hP hw hK;obtain⟨xs,hq,hx⟩:=hg;obtain⟨its,rv,p,hz⟩:=I.list hq;obtain⟨f0,f1,f2,f3,f4,f5⟩:=hf it ∅;have hl:=rv.length;exact wpAny_pyNext_list_end (I.ok.hd hc) st p.isList (by simp;lia) λh' eb=>%[rfl|I.turned (λb o hb e=>eb b o hb e) f0 f1 f3 f4 f5]
 self:=λ_ _ _ _ _ st h=>wpAny_pyIter_listiter st h
theorem sM{P:Program}{K:ZA}(a it:Addr):oW P w K tg (Itt K a) [it] it (λi h=>h.IsTupleIter it a i) where
 mem:=by simp
 obj:=λi h st b hb=>by
  have e:=by simpa using hb
  subst e;obtain⟨o,e,c,d⟩:=st;exact%[o,e|λv z=>by rw[d]at z;cases z]
 keep:=λi h h' st k=>st.at λo e=>k it ∅ o e
 item:=by
  intro X hP hw hK hc i pins s σ H E I hf st hg;subst hP hw hK;obtain⟨xs,x,hq,hx⟩:=hg;obtain⟨its,rv,p,hz⟩:=I.tuple hq;obtain⟨u,hu,ru⟩:=rv.get hx;obtain⟨f0,f1,f2,f3,f4,f5⟩:=hf it ∅;refine wpAny_pyNext_tuple_item st (p) (by simpa using hu) λh' st' sb=>?_
  obtain⟨o,e,c,d⟩:=id st';exact%[u,rfl|qJ e c d (by decide) %[x,H,(I.turned (λb o hb e=>(sb.2 b hb).trans e) f0 f1 f3 f4 f5),ru,%[rfl|λys hy=>(I.tuple_inj hy hq)▸hx],st'|λb hb=>(hf b hb).1]]
 done:=by
  intro X hP hw hK hc i pins s σ H E I hf st hg;subst hP hw hK;obtain⟨xs,hq,hx⟩:=hg;obtain⟨its,rv,p,hz⟩:=I.tuple hq;obtain⟨f0,f1,f2,f3,f4,f5⟩:=hf it ∅;have hl:=rv.length;exact wpAny_pyNext_tuple_end (I.ok.hd hc) st (p) (by simp;lia) λh' eb=>%[rfl|I.turned (λb o hb e=>eb b o hb e) f0 f1 f3 f4 f5]
 self:=λ_ _ _ _ _ st h=>wpAny_pyIter_tupleiter st h
theorem sN{P:Program}{K:ZA}(it:Addr)(lo:Int)(n:Nat):oW P w K tg (Itr lo n) [it] it (λi h=>IsRangeIter h it (lo+(i:Nat)*1) ((n:Int) -(i:Nat)) 1) where
 mem:=by simp
 obj:=λi h st b hb=>by
  simp_all
 keep:=λi h h' st k=>k it ∅ _ st
 item:=by
  intro X hP hw hK hc i pins s σ H E I hf st hg;subst hP hw hK;obtain⟨f0,f1,f2,f3,f4,f5⟩:=hf it ∅;refine(Walks.range (prog:=X.prog) (w:=X.w) (I.ok.hd hc) it lo 1 n).item i s _ _ hg st λv h' tk hv st' kk=>?_
  obtain⟨t,rfl⟩:=hv;refine%[_,rfl|qJ st' rfl rfl (by decide) %[.int _,H,(I.turned (λb o hb e=>kk b o (by simpa using hb) e) f0 f1 f3 f4 f5),%[t|?_],%[rfl|rfl],st'|λb hb=>(hf b hb).1]];rw[Int.mul_one]
 done:=by
  intro X hP hw hK hc i pins s σ H E I hf st hg;obtain⟨f0,f1,f2,f3,f4,f5⟩:=hf it ∅;exact wpAny_pyNext_range_end (I.ok.hd hc) st (by have:n<=i:=hg;lia) λh' eb=>%[rfl|I.turned (λb o hb e=>eb b o hb e) f0 f1 f3 f4 f5]
 self:=λ_ _ _ _ _ st h=>wpAny_pyIter_rangeiter st h
section
variable{X:Cx}{tg:Expr}
theorem x8{R:It->Hp->Prop}{lo hi:Int}(I:Inv X pins c H s)(d: -(2^62)<=lo)(f:lo<2^62)(g: -(2^62)<=hi)(h:hi<2^62)
 (q:R (Itr lo (hi-lo).toNat) H):(~~~X) (pyIter (.ref ⇑s)) (PIE X pins c tg R) E {s with heap:=s.heap.push {cls:= .type "range",data:= .fields #[.int lo t,.int hi u,.int 1 v]},toks:=tk}:=by
 refine wpAny_pyIter_range (IsRange.new ..) (small_one d f g h) ?_;have a:Inv X pins c H {s with heap:=s.heap.push {cls:= .type "range",data:= .fields #[.int lo t,.int hi u,.int 1 v]},toks:=tk}:=I.kept λb o e=>Z6 _ e
 refine%[(s.heap.push _).objs.size,[(s.heap.push _).objs.size],_,_,H,rfl,
  a.kept λb o e=>Z6 _ e,sN _ lo _,?_,λb i=>?_|q]
 .have j:lo+((0:Nat))*1=lo:=by simp
  have l:(((hi-lo).toNat)) -((0:Nat))=Builtin.Range.rangeSize lo hi 1:=by rw[rangeSize_one];split<;> lia
  rw[j,l];exact Zi _ rfl
 .have e:b=(s.heap.push {cls:= .type "range",data:= .fields #[.int lo t,.int hi u,.int 1 v]}).objs.size:=by simpa using i
  subst e;exact a.fpOk (Zh _) (a.hok.fresh (Zh _))
def x9(a:TA):TI:=λb H R=>a b H λvs c=>∃j:Int,vs=[.int j]/\ -(2^62)<=j/\j<2^62/\R (Itr 0 j.toNat) c
theorem vS{a:Expr}(c:Gl X "range")(d:X.mg "range"=none)(f:PA X [a] g)(i:starEach [a] X.env=[(false,eval a X.env)]):PI X tg (.Call (.Name "range" p) [a] [] pos) (x9 g):=by
 intro pins s l H R I h;refine Call_ (iU I c d boot_range (PyProof.Rows.callWith_type1 (thn (f pos pins s l H _ I h) λus u ⟨vs,v,m,n,b⟩=>?_) i rfl));obtain⟨j,e,b,o,q⟩:=b;subst e;cases n with
 | cons r rr=>
   cases rr;obtain⟨t,rfl⟩:=r;exact call_range_1 (x8 m ⋯ ⋯ b o (by simpa using q))
def ya(f:TI)(g:TG)(h:TS):TS:=λD a H=>f a H λJ j=>∃W:Nat->Nat->St->Hp->Prop,(∃m,W 0 m a j)/\∀i m a H,W i m a H->
 (J.stop i H/\D.nx a H)\/(J.go i H/\∃N:St->Hp->Prop,(∀b c,N b c->∃e,e<m/\W (i+1) e b c)/\∀x c,J.yld i H x c->g x a c λd l=>h {D with nx:=N,ct:=N,bk:=D.nx} d l)
noncomputable def oX(a:List Addr)(h:Heap):ZE:=a.filterMap λb=>(h.get? b).map λo=>(b,o)
theorem eB(a:b∈c)(e:h.get? b=some o):(b,o)∈oX c h:=mem_filterMap.mpr %[b,a|by rw[e];rfl]
theorem vT(a:p∈oX c h):p.1∈c/\h.get? p.1=some p.2:=by
 obtain⟨b,d,e⟩:=mem_filterMap.mp a;cases q:h.get? b with
 | none=>simp_all
 | some o=>
   rw[q]at e;have f:=Z9 e;subst f;exact%[d|q]
theorem Inv.pinned(I:Inv X pins g H s)(h:∀b∈a,kQ X pins H b)(i:∀b∈a,∃o,s.heap.get? b=some o/\∀v,o.data≠ .cell v):Inv X (pins++oX a s.heap) g H s:=
 I.pins_of λp j=>(X4 j).elim (λz=>I.pin p (Ym _ z)) λz=>by
  obtain⟨c,e⟩:=vT z;obtain⟨l,m,n,_⟩:=h p.1 c;obtain⟨o,f,d⟩:=i p.1 c;rw[e]at f;cases f;exact%[e,l,m,n|d]
theorem Inv.unpinned(I:Inv X (pins++pl) a H s):Inv X pins a H s:=I.pins_of λp b=>I.pin p (Ym _ (Yl _ b))
theorem CS(A:PassesOwn (model X.prog X.w) X.A X.env X.xe)(hc:X.calm=true)(hi:PI X tg iter wi)(hg:PG X tg g)(c:PSs X B tb)
 (hs:∀x,foldedSetIterable iter X.env x=pure x):PS X (.For tg iter B [] pos) (ya wi g tb):=by
 intro pins s σ H D I h;refine wpAny_For (thn (hi pins s σ H _ I h) λv s1 h1=>thn h1 λag s2 h2=>?_) hs;obtain⟨it,M,tn,J,H2,e,I2,T,Q,f2,W,⟨m0,w0⟩,C⟩:=h2;subst e;have j:∀{w:Hp},(∀b∈M,w b=none)->∀b∈M,kQ X pins w b:=λhn b c=>%[hn b c|(f2 b c).2]
 refine codeAny_forLoop_any (λn s'=>∃i l w,Inv X pins l w s'/\tn i s'.heap/\(∀b∈M,w b=none)/\W i n l w) ?_ m0 %[0,σ,H2,I2,Q,λb c=>(f2 b c).1|w0];rintro n s3 ⟨i,p,O,I3,E,G,w3⟩;rcases C i n p O w3 with⟨stop,qn⟩|⟨go,N,hN,step⟩
 .refine wpAny_passesOwn A (thn (T.done X rfl rfl rfl hc i pins s3 p O X.xe I3 (j G) E stop) λr s4 ⟨U,I4⟩=>?_);subst U;exact wpAny_execs_nil %[p,O,I4|qn]
 .refine wpAny_passesOwn A (thn (T.item X rfl rfl rfl hc i pins s3 p O X.xe I3 (j G) E go) λr s4 ⟨u,U,h4⟩=>?_);subst U;refine wpAny_passesOwn A (thn h4 λ_ s5 ⟨x,H5,I5,r5,y5,z,Y⟩=>wpAny_passesOwn A (thn (hg _ s5 p H5 x u _ (I5.pinned (j Y) (T.obj _ _ z)) r5 (step x H5 y5)) λ_ s6 ⟨ab,H6,I6,q6⟩=>wpAny_passesOwn A (thn (c _ s6 ab H6 _ I6 q6) λf s7 y=>?_)));have again:∀{a:St} {q:Hp},Inv X _ a q s7->N a q->∃m,m<n/\∃i l w,Inv X pins l w s7/\tn i s7.heap/\(∀b∈M,w b=none)/\W i m l w:=λ{a q} t L=>by
   obtain⟨m',hm,w7⟩:=hN a q L;refine%[m',hm,i+1,a,q,t.unpinned,T.keep _ _ _ z λb c o e=>(t.pin _ (Ym _ (Ym _ (eB c e)))).1,λb c=>?_|w7];obtain⟨o,e,d⟩:=T.obj _ _ z b c;exact(t.pin _ (Ym _ (Ym _ (eB c e)))).2.1
  cases f with
  | next=>obtain⟨a,q,t,L⟩:=y;exact again t L
  | cont=>obtain⟨a,q,t,L⟩:=y;exact again t L
  | brk=>obtain⟨a,q,t,y⟩:=y;exact%[a,q,t.unpinned|y]
  | ret v=>obtain⟨x7,a,q,t,r7,y⟩:=y;exact%[x7,a,q,t.unpinned,r7|y]
end
theorem bw{K:ZA}{g:TG}{l:TS}{D:iL}(Pv:Nat->St->Hp->Prop)(o:Pv 0 b H)(r:∀i b H,i<=xs.length->Pv i b H->SqL K H a xs)
 (s:∀i x b H,xs[i]? =some x->Pv i b H->g x b H λc h=>l {D with nx:=Pv (i+1),ct:=Pv (i+1),bk:=D.nx} c h) (t:∀b H,Pv xs.length b H->D.nx b H):
 ∃W:Nat->Nat->St->Hp->Prop,(∃m,W 0 m b H)/\∀i m b H,W i m b H->
  ((Itl K a).stop i H/\D.nx b H)\/((Itl K a).go i H/\∃N:St->Hp->Prop,(∀d f,N d f->∃n,n<m/\W (i+1) n d f)/\∀x f,(Itl K a).yld i H x f->g x b f λc h=>l {D with nx:=N,ct:=N,bk:=D.nx} c h):=by
 refine%[λi m b H=>m=xs.length-i/\i<=xs.length/\Pv i b H,%[xs.length,by simp,Yy _|o]|?_];rintro i m b H ⟨rfl,hi,p⟩;have q:=r i b H hi p;by_cases j:i<xs.length
 .refine .inr %[%[xs,xs[i],q|by simp],Pv _,λd f u=>%[xs.length-(i+1),⋯,rfl,j|u]|λx f y=>?_];obtain⟨e,y⟩:=y;subst e;exact s i x b _ (y xs q) p
 .have e:i=xs.length:=by lia
  subst e;exact .inl %[%[xs,q|Zh _]|t b H p]
theorem cO{lo:Int}{g:TG}{j:TS}{D:iL}(Pv:Nat->St->Hp->Prop)(o:Pv 0 a H)
 (q:∀i a H,i<n->Pv i a H->g (.int (lo+i)) a H λb h=>j {D with nx:=Pv (i+1),ct:=Pv (i+1),bk:=D.nx} b h) (r:∀a H,Pv n a H->D.nx a H):
 ∃W:Nat->Nat->St->Hp->Prop,(∃m,W 0 m a H)/\∀i m a H,W i m a H->
  ((Itr lo n).stop i H/\D.nx a H)\/((Itr lo n).go i H/\∃N:St->Hp->Prop,(∀c d,N c d->∃l,l<m/\W (i+1) l c d)/\∀x d,(Itr lo n).yld i H x d->g x a d λb h=>j {D with nx:=N,ct:=N,bk:=D.nx} b h):=by
 refine%[λi m a H=>m=n-i/\i<=n/\Pv i a H,%[n,by simp,Yy _|o]|?_];rintro i m a H ⟨rfl,hi,p⟩;by_cases f:i<n
 .refine .inr %[f,Pv _,λc d s=>%[n-(i+1),⋯,rfl,f|s]|λx d y=>?_];obtain⟨e,y⟩:=y;subst e y;exact q i a _ f p
 .have e:i=n:=by lia
  subst e;exact .inl %[Zh _|r a H p]
noncomputable abbrev R2:=V->V->Hp->VK->Prop
def OpR(X:Cx)(f:Value->Value->Sem Value)(r:R2):Prop:=
 ∀pins s (a:St) H x y v u Q,Inv X pins a H s->aK x v->aK y u->r x y H Q->
  (~~~X) (f v u) (EP X pins a Q) X.xe s
def UnR(X:Cx)(f:Value->Sem Value)(r:V->Hp->VK->Prop):Prop:=
 ∀pins s (a:St) H x v Q,Inv X pins a H s->aK x v->r x H Q->
  (~~~X) (f v) (EP X pins a Q) X.xe s
def bK(X:Cx)(f:Value)(r:List V->Hp->VK->Prop):Prop:=
 ∀pins s (a:St) H xs us Q,Inv X pins a H s->aC xs us->r xs H Q->
  (~~~X) (call f us) (EP X pins a Q) X.xe s
def TruR(X:Cx)(r:V->Hp->(Bool->Hp->Prop)->Prop):Prop:=
 ∀pins s (a:St) H x v Q,Inv X pins a H s->aK x v->r x H Q->
  (~~~X) (truthy v) (TP X pins a Q) X.xe s
def tOp(r:R2)(b c:TE):TE:=λa H Q=>b a H λx d=>c a d λy e=>r x y e Q
def tUn(r:V->Hp->VK->Prop)(a:TE):TE:=λb H Q=>a b H λx c=>r x c Q
def rI(C:Int->Int->Prop)(g:Int->Int->V):R2:=λx y H Q=>asI x λi=>asI y λj=>C i j/\Q (g i j) H
def rI0(g:Int->Int->V):R2:=λx y H Q=>asI x λi=>asI y λj=>Q (g i j) H
def rU(g:Int->V):V->Hp->VK->Prop:=λx H Q=>asI x λi=>Q (g i) H
section
variable{X:Cx}{a b c:Expr}{ta tb tc:TE}{pos:Pos}
theorem CT(m:PE X a ta)(n:PE X b tb){pins:List _}{s:Shared}{d:St}{H:Hp}{R:V->V->Hp->Prop}(I:Inv X pins d H s)
 (h:ta d H λx l=>tb d l λy e=>R x y e) {Q:ZD} {f:Value->Value->Sem Value}
 (o:∀v u j x y e,Inv X pins d e j->aK x v->aK y u->R x y e->(~~~X) (f v u) Q X.xe j):
 (~~~X) (eval a X.env) (λv g=>(~~~X) (eval b X.env) (λu i=>(~~~X) (f v u) Q X.xe i) X.xe g) X.xe s:=by
 exact thn (m pins s d H _ I h) λv p ⟨x,l,q,r,t⟩=>thn (n pins p d l _ q t) λu j ⟨y,e,w,z,A⟩=>o v u j x y e w r z A
theorem EV{r:R2}(d:OpR X (binaryOp op) r)(e:PE X a ta)(f:PE X b tb):PE X (.BinOp a op b pos) (tOp r ta tb):=by
 intro pins s g H Q I h;exact wpAny_BinOp (CT e f I h λv u i x y j l m n q=>d pins i g j x y v u Q l m n q)
theorem EW(e:UnR X (unaryOp op) r)(f:PE X a ta):PE X (.UnaryOp op a pos) (tUn r ta):=by
 intro pins s d H Q I h;exact UnaryOp_ (thn (f pins s d H _ I h) λv g ⟨x,i,j,l,m⟩=>e pins g d i x v Q j l m)
theorem opI{f:Value->Value->Sem Value}{C:Int->Int->Prop}{g:Int->Int->Int}
 (rule:∀i j t u s Q E,C i j->Q (.int (g i j) s.toks) {s with toks:=s.toks+1}->(~~~X) (f (.int i t) (.int j u)) Q E s):
 OpR X f (rI C λi j=> .int (g i j)):=by
 intro pins s n H x y v u Q I d e h;obtain⟨i,rfl,l⟩:=gZ h;obtain⟨j,rfl,m,q⟩:=gZ l;obtain⟨t,rfl⟩:=d;obtain⟨t',rfl⟩:=e;exact rule i j t t' s _ _ m %[.int _,H,I.tok _,%[_|rfl]|q]
theorem EX{g:Int->Int->Int}
 (rule:∀(i j:Int) (t u:Tok) (s:Shared) (Q:ZD) (E:ZD),Q (.int (g i j) s.toks) {s with toks:=s.toks+1}->(~~~X) (f (.int i t) (.int j u)) Q E s):
 OpR X f (rI0 λi j=> .int (g i j)):=by
 intro pins s m H x y v u Q I d e h;obtain⟨i,rfl,l⟩:=gZ h;obtain⟨j,rfl,q⟩:=gZ l;obtain⟨t,rfl⟩:=d;obtain⟨t',rfl⟩:=e;exact rule i j t t' s _ _ %[.int _,H,I.tok _,%[_|rfl]|q]
theorem CU{g:Int->Int->Bool}
 (rule:∀(i j:Int) (t u:Tok) (s:Shared) (Q:ZD) (E:ZD),Q (.bool (g i j)) s->(~~~X) (f (.int i t) (.int j u)) Q E s):
 OpR X f (rI0 λi j=> .bl (g i j)):=by
 intro pins s m H x y v u Q I d e h;obtain⟨i,rfl,l⟩:=gZ h;obtain⟨j,rfl,q⟩:=gZ l;obtain⟨t,rfl⟩:=d;obtain⟨t',rfl⟩:=e;exact rule i j t t' s _ _ %[.bl _,H,I,rfl|q]
def EY(i j:Int):Prop:=0<j/\j<1073741824
def yb(i j:Int):Prop:=(-(2^64)<i/\i<2^64)\/(-(2^64)<j/\j<2^64)
theorem yb.ok{i j:Int}(h:yb i j):IntMulOk i j:=by
 rcases h with⟨d,e⟩|⟨d,e⟩
 .exact .of_left (intBits_le_64 d e)
 .exact .of_right (intBits_le_64 d e)
theorem yc:OpR X (binaryOp .Add) (rI0 λi j=> .int (i+j)):=EX λ_ _ _ _ _ _ _ q=>add_int q
theorem CV:OpR X (binaryOp .Sub) (rI0 λi j=> .int (i-j)):=EX λ_ _ _ _ _ _ _ q=>sub_int q
theorem yd:OpR X (binaryOp .Mult) (rI yb λi j=> .int (i*j)):=opI λ_ _ _ _ _ _ _ d q=>mul_int q d.ok
theorem AI:OpR X (binaryOp .FloorDiv) (rI EY λi j=> .int (i/j)):=opI λi j _ _ _ _ _ d q=>by
 have e:(0:Int)<j:=d.1;have f:j<1073741824:=d.2;exact floordiv_int ⋯ (by rw[Int.fdiv_eq_ediv_of_nonneg i ⋯];exact q) (.inl (PyProof.noPylong_small ⋯))
theorem CW:OpR X (binaryOp .Mod) (rI (λ_ j=>0<j) λi j=> .int (i%j)):=opI λi j _ _ _ _ _ d q=>by
 have e:(0:Int)<j:=d;exact mod_int' ⋯ (by rw[Int.fmod_eq_emod_of_nonneg i ⋯];exact q)
theorem unI{g:Int->Int}
 (rule:∀(i:Int) (t:Tok) (s:Shared) (Q:ZD) (E:ZD),Q (.int (g i) s.toks) {s with toks:=s.toks+1}->(~~~X) (f (.int i t)) Q E s):
 UnR X f (rU λi=> .int (g i)):=by
 intro pins s e H x v Q I d h;obtain⟨i,rfl,q⟩:=gZ h;obtain⟨t,rfl⟩:=d;exact rule i t s _ _ %[.int _,H,I.tok _,%[_|rfl]|q]
theorem CY:UnR X (unaryOp .USub) (rU λi=> .int (-i)):=unI λ_ _ _ _ _ q=>neg_int q
end
noncomputable def CZ:V->V->Bool
 | .non,.non=>true| .non,.int _=>true| .int _,.non=>true| .non,.bl _=>true| .bl _,.non=>true| .non,.str _=>true| .str _,.non=>true
 | .int _,.int _=>true| .bl _,.bl _=>true| .str _,.str _=>true| .byt _,.byt _=>true
 | .int _,.str _=>true| .str _,.int _=>true| .bl _,.str _=>true| .str _,.bl _=>true
 | _,_=>false
def rEq:R2:=λx y H Q=>CZ x y=true/\Q (.bl (decide (x=y))) H
def rNe:R2:=λx y H Q=>CZ x y=true/\Q (.bl (!decide (x=y))) H
theorem uZ:decide (V.int i=V.int j)=(i==j):=by
 rw[Bool.eq_iff_iff];simp
theorem ye:decide (V.bl i=V.bl j)=(i==j):=by
 rw[Bool.eq_iff_iff];simp
theorem u4:decide (V.str i=V.str j)=(i==j):=by
 rw[Bool.eq_iff_iff];simp
theorem u5:decide (V.byt i=V.byt j)=(i.toList==j.toList):=by
 rw[Bool.eq_iff_iff]
 simp_all
section
variable{X:Cx}{a b c:Expr}{ta tb tc:TE}{pos:Pos}
theorem aU(I:Inv X pins d H s)(q:Q (.bl k) H)(e:k=f):EP X pins d Q (.bool f) s:=by
 subst e;exact%[.bl k,H,I,rfl|q]
theorem EZ:OpR X (compareOp .Eq) rEq:=by
 intro pins s g H x y v u Q I f d h;obtain⟨e,q⟩:=h;cases x with
 | non=>
   cases f;cases y with
   | non=>cases d;exact PySem.EqNone.eq_none_none (aU I q ∅)
   | bl j=>cases d;exact PySem.EqNone.eq_none_bool (aU I q ∅)
   | int j=>obtain⟨t',rfl⟩:=d;exact PySem.EqNone.eq_none_int (aU I q ∅)
   | str j=>obtain⟨t',rfl⟩:=d;exact PySem.EqNone.eq_none_str (aU I q ∅)
   | _=>exact absurd (show false=true from e) Zs
 | bl i=>
   cases f;cases y with
   | non=>cases d;exact PySem.EqNone.eq_bool_none (aU I q ∅)
   | bl j=>cases d;exact eq_bool (aU I q ye)
   | str j=>obtain⟨t',rfl⟩:=d;exact PySem.EqMixed.eq_bool_str (aU I q ∅)
   | _=>exact absurd (show false=true from e) Zs
 | int i=>
   obtain⟨t,rfl⟩:=f;cases y with
   | non=>cases d;exact PySem.EqNone.eq_int_none (aU I q ∅)
   | int j=>obtain⟨t',rfl⟩:=d;exact eq_int (aU I q uZ)
   | str j=>obtain⟨t',rfl⟩:=d;exact PySem.EqMixed.eq_int_str (aU I q ∅)
   | _=>exact absurd (show false=true from e) Zs
 | str i=>
   obtain⟨t,rfl⟩:=f;cases y with
   | non=>cases d;exact PySem.EqNone.eq_str_none (aU I q ∅)
   | bl j=>cases d;exact PySem.EqMixed.eq_str_bool (aU I q ∅)
   | int j=>obtain⟨t',rfl⟩:=d;exact PySem.EqMixed.eq_str_int (aU I q ∅)
   | str j=>obtain⟨t',rfl⟩:=d;exact eq_str (aU I q u4)
   | _=>exact absurd (show false=true from e) Zs
 | byt i=>
   obtain⟨t,rfl⟩:=f;cases y with
   | byt j=>obtain⟨t',rfl⟩:=d;exact PySem.W.eq_bytes (aU I q u5)
   | _=>exact absurd (show false=true from e) Zs
 | _=>cases y<;> exact absurd (show false=true from e) Zs
theorem E3:OpR X (compareOp .NotEq) rNe:=by
 intro pins s g H x y v u Q I f d h;obtain⟨e,q⟩:=h;cases x with
 | non=>
   cases f;cases y with
   | non=>cases d;exact PySem.EqNone.ne_none_none (aU I q ∅)
   | bl j=>cases d;exact PySem.EqNone.ne_none_bool (aU I q ∅)
   | int j=>obtain⟨t',rfl⟩:=d;exact PySem.EqNone.ne_none_int (aU I q ∅)
   | str j=>obtain⟨t',rfl⟩:=d;exact PySem.EqNone.ne_none_str (aU I q ∅)
   | _=>exact absurd (show false=true from e) Zs
 | bl i=>
   cases f;cases y with
   | non=>cases d;exact PySem.EqNone.ne_bool_none (aU I q ∅)
   | bl j=>cases d;exact ne_bool (aU I q (congrArg not ye))
   | str j=>obtain⟨t',rfl⟩:=d;exact PySem.EqMixed.ne_bool_str (aU I q ∅)
   | _=>exact absurd (show false=true from e) Zs
 | int i=>
   obtain⟨t,rfl⟩:=f;cases y with
   | non=>cases d;exact PySem.EqNone.ne_int_none (aU I q ∅)
   | int j=>obtain⟨t',rfl⟩:=d;exact ne_int (aU I q (congrArg not uZ))
   | str j=>obtain⟨t',rfl⟩:=d;exact PySem.EqMixed.ne_int_str (aU I q ∅)
   | _=>exact absurd (show false=true from e) Zs
 | str i=>
   obtain⟨t,rfl⟩:=f;cases y with
   | non=>cases d;exact PySem.EqNone.ne_str_none (aU I q ∅)
   | bl j=>cases d;exact PySem.EqMixed.ne_str_bool (aU I q ∅)
   | int j=>obtain⟨t',rfl⟩:=d;exact PySem.EqMixed.ne_str_int (aU I q ∅)
   | str j=>obtain⟨t',rfl⟩:=d;exact ne_str (aU I q (congrArg not u4))
   | _=>exact absurd (show false=true from e) Zs
 | byt i=>
   obtain⟨t,rfl⟩:=f;cases y with
   | byt j=>obtain⟨t',rfl⟩:=d;exact PySem.W.ne_bytes (aU I q (congrArg not u5))
   | _=>exact absurd (show false=true from e) Zs
 | _=>cases y<;> exact absurd (show false=true from e) Zs
theorem E4:OpR X (compareOp .Lt) (rI0 λi j=> .bl (decide (i<j))):=CU λ_ _ _ _ _ _ _ q=>lt_int q
theorem E5:OpR X (compareOp .LtE) (rI0 λi j=> .bl (decide (i<=j))):=CU λ_ _ _ _ _ _ _ q=>le_int q
theorem E6:OpR X (compareOp .Gt) (rI0 λi j=> .bl (decide (j<i))):=CU λ_ _ _ _ _ _ _ q=>gt_int q
theorem vU:OpR X (compareOp .In) (λx y H Q=>∃i j,x= .str i/\y= .str j/\Q (.bl (!(Builtin.Str.occurrences j i 0 j.length 1).isEmpty)) H):=by
 intro pins s f H x y v u Q I d e h;obtain⟨i,j,rfl,rfl,q⟩:=h;obtain⟨t,rfl⟩:=d;obtain⟨t',rfl⟩:=e;exact in_str (aU I q rfl)
theorem C0:OpR X (compareOp .Is) (λx y H Q=>y= .non/\Q (.bl (decide (x= .non))) H):=by
 intro pins s f H x y v u Q I d e h;obtain⟨rfl,q⟩:=h;cases e;refine is_none_gen (aU I q ?_);cases x<;> first
  | lia
  |(obtain⟨t,rfl⟩:=d;rfl)
theorem AJ:OpR X (compareOp .IsNot) (λx y H Q=>y= .non/\Q (.bl (!decide (x= .non))) H):=by
 intro pins s f H x y v u Q I d e h;obtain⟨rfl,q⟩:=h;cases e;refine isnot_none_gen (aU I q ?_);cases x<;> first
  | lia
  |(obtain⟨t,rfl⟩:=d;rfl)
theorem OpR.or(h:OpR X f r)(h':OpR X f i):OpR X f (λx y H Q=>r x y H Q\/i x y H Q):=by
 intro pins s d H x y v u Q I e g q;rcases q with q|q
 .exact h pins s d H x y v u Q I e g q
 .exact h' pins s d H x y v u Q I e g q
theorem nomark(b:Expr)(h:op≠ .In)(f:op≠ .NotIn):behindInMarks op b=false:=by
 have d:(op==CmpOp.In)=false:=by lia
 have e:(op==CmpOp.NotIn)=false:=by lia
 cases b<;> simp[behindInMarks,d,e]
theorem AK{r:R2}(d:OpR X (compareOp op) r)(e:PE X a ta)(f:PE X b tb)(g:behindInMarks op b=false):PE X (.Compare a [op] [b] pos) (tOp r ta tb):=by
 intro pins s i H Q I h;exact wpAny_Compare1 (CT e f I h λv u j x y l m n o q=>d pins j i l x y v u Q m n o q) g
def yf(t:TE):TT:=λd H Q=>t d H λx e=>asB x λk=>Q k e
theorem AL(f:OpR X (compareOp op) r)(g:PE X a ta)(i:PE X b tb)(j:behindInMarks op b=false):PT X (.Compare a [op] [b] pos) (yf (tOp r ta tb)):=by
 intro pins s d H Q I h;refine wpAny_isTrue_Compare1 (thn (g pins s d H _ I h) λv l ⟨x,m,n,o,p⟩=>thn (i pins l d m _ n p) λu q ⟨y,t,w,A,B⟩=>
  thn (f pins q d t x y v u _ w o A B) λc J ⟨z,C,E,G,e⟩=>?_) j
 obtain⟨k,rfl,e⟩:=nO e;cases G;exact wpAny_truthy_bool %[C,E|e]
def sO(r f:R2)(ta tb tc:TE):TE:=λd H Q=>ta d H λx g=>tb d g λy h=>r x y h λz e=>asB z λk=>
 (if k=true then tc d e λi j=>f y i j Q else Q (.bl false) e)
theorem yg(n:OpR X (compareOp op) r)(i:OpR X (compareOp e) o)(p:PE X a ta)(q:PE X b tb)(t:PE X c tc)
 (w:lastMarks [op,e] [b,c]=false):PE X (.Compare a [op,e] [b,c] pos) (sO r o ta tb tc):=by
 intro pins s f H Q I h;refine Compare_chain (thn (p pins s f H _ I h) λv A ⟨x,B,C,E,G⟩=>chain_link (thn (q pins A f B _ C G) λu J ⟨y,L,M,j,N⟩=>
  thn (n pins J f L x y v u _ M E j N) λd O ⟨z,l,m,T,g⟩=>?_)) w
 obtain⟨k,rfl,g⟩:=nO g;cases T;refine wpAny_truthy_bool ?_;cases k with
 | false=>exact ite_ff %[.bl false,l,m,rfl|g]
 | true=>exact ite_tt (chain_last (thn (t pins O f l _ m g) λU Y ⟨z',H4,I4,r4,q4⟩=>i pins Y f H4 y z' u U Q I4 j r4 q4))
def yh(K:ZA)(x:V)(H:Hp)(k:Bool):Prop:=
 match x with
 | .non=>k=false
 | .bl b=>k=b
 | .int i=>k=(i != 0)
 | .str y=>y.length<=sizeLine/\k=((y.length:Int) != 0)
 | .byt y=>y.size<=sizeLine/\k=((y.size:Int) != 0)
 | .ref p=>(∃xs,SqL K H p xs/\k=!xs.isEmpty)\/(∃xs,SqT K H p xs/\k=!xs.isEmpty)\/∃d,H p=some (.dK d)/\k=!d.isEmpty
 | _=>False
theorem sP{e:Type}{d:List (e×V)}{vs:List _}(r:KV d vs):(!vs.isEmpty)=!d.isEmpty:=by
 cases r<;> rfl
theorem lC(r:aC xs its):(!its.toArray.isEmpty)=!xs.isEmpty:=by
 cases r<;> simp
theorem oY:sizeLine<2^63:=by decide
theorem C1:TruR X (λx H Q=>∃k,yh X.K x H k/\Q k H):=by
 intro pins s w H x v Q I j h;obtain⟨k,e,q⟩:=h;have z:=oY;have A:sizeLine=16777216:=sizeLine_eq;cases x with
 | non=>
   cases j;have d:k=false:=e;subst d;exact truthy_none %[H,I|q]
 | bl b=>
   cases j;have d:k=b:=e;subst d;exact wpAny_truthy_bool %[H,I|q]
 | int i=>
   obtain⟨t,rfl⟩:=j;have d:k=(i != 0):=e;subst d;exact PySem.P.truthy_int %[H,I|q]
 | str y=>
   obtain⟨t,rfl⟩:=j;obtain⟨o,d⟩:y.length<=sizeLine/\k=((y.length:Int) != 0):=e;subst d;exact PySem.P.truthy_str ⋯ %[H,I.tok _|q]
 | byt y=>
   obtain⟨t,rfl⟩:=j;obtain⟨o,d⟩:y.size<=sizeLine/\k=((y.size:Int) != 0):=e;subst d;exact PySem.W.truthy_bytes ⋯ %[H,I.tok _|q]
 | ref p=>
   cases j;have d:(∃xs,SqL X.K H p xs/\k=!xs.isEmpty)\/(∃xs,SqT X.K H p xs/\k=!xs.isEmpty)\/∃f,H p=some (.dK f)/\k=!f.isEmpty:=e;rcases d with⟨xs,l,d⟩|⟨xs,l,d⟩|⟨f,l,d⟩
   .subst d;obtain⟨its,r,pl,n⟩:=I.list l;have g:=r.length;exact wpAny_truthy_list pl.isList (by simp only[Zo];lia) %[H,I.tok _|(lC r)▸q]
   .subst d;obtain⟨its,r,pl,n⟩:=I.tuple l;have g:=r.length;exact truthy_tuple pl (by simp only[Zo];lia) %[H,I.tok _|(lC r)▸q]
   .subst d;obtain⟨n,u,vs,r,m⟩:f.length<=sizeLine/\(p==sysModules)=false/\∃vs,KV f vs/\s.heap.DictOf (aN X.prog X.w) p vs:=I.hok p _ l;have g:f.length=vs.length:=Paired.length r;exact wpAny_truthy_dict u m ⋯ %[H,I.tok _|(sP r)▸q]
 | _=>exact(show False from e).elim
theorem yi(g:PE X a ta)(i:∀d,isTrue a X.env d=(do let v<-d;standAt a.pos;holding [v] (truthy v))):
 PT X a (λe H Q=>ta e H λx f=>∃k,yh X.K x f k/\Q k f):=by
 intro pins s e H Q I h;exact isTrue_plain (thn (g pins s e H _ I h) λv j ⟨x,l,m,n,o⟩=>C1 pins j e l x v Q m n o) (i _)
theorem sQ:OpR X (binaryOp .Add) (λx y H Q=>∃i j,x= .str i/\y= .str j/\i.length+j.length<=sizeLine/\Q (.str (i++j)) H):=by
 intro pins s g H x y v u Q I d e h;obtain⟨i,j,rfl,rfl,f,q⟩:=h;obtain⟨t,rfl⟩:=d;obtain⟨t',rfl⟩:=e;exact add_str (λt' tk=>%[.str _,H,I.tok _,%[_|rfl]|q]) f
theorem cR(r:aC [x] us):∃u,us=[u]/\aK x u:=by
 cases r with
 | cons d e=>cases e;exact%[_,rfl|d]
theorem iQ(r:aC [x,y] us):∃u d,us=[u,d]/\aK x u/\aK y d:=by
 cases r with
 | cons e f=>
   cases f with
   | cons g h=>cases h;exact%[_,_,rfl,e|g]
theorem yj:bK X (.builtin "abs") (λxs H Q=>∃i,xs=[.int i]/\Q (.int (if i<0 then -i else i)) H):=by
 intro pins s d H xs us Q I r h;obtain⟨i,rfl,q⟩:=h;obtain⟨u,rfl,t,rfl⟩:=cR r;exact call_abs_int λu tk=>%[.int _,H,I.tok _,%[_|rfl]|q]
theorem vV(e:X.calm=true):bK X (.builtin "max") (λxs H Q=>∃i j,xs=[.int i,.int j]/\Q (.int (if j>i then j else i)) H):=by
 intro pins s f H xs us Q I r h;obtain⟨i,j,rfl,q⟩:=h;obtain⟨u,g,rfl,⟨t,rfl⟩,t',rfl⟩:=iQ r;refine max_two_ints (I.ok.hd e) λh' tk k=>%[_,H,I.kept k,?_|q]
 by_cases d:j>i
 .rw[if_pos d,if_pos d];exact%[_|rfl]
 .rw[if_neg d,if_neg d];exact%[_|rfl]
theorem vW(e:X.calm=true):bK X (.builtin "min") (λxs H Q=>∃i j,xs=[.int i,.int j]/\Q (.int (if j<i then j else i)) H):=by
 intro pins s f H xs us Q I r h;obtain⟨i,j,rfl,q⟩:=h;obtain⟨u,g,rfl,⟨t,rfl⟩,t',rfl⟩:=iQ r;refine min_two_ints (I.ok.hd e) λh' tk k=>%[_,H,I.kept k,?_|q]
 by_cases d:j<i
 .rw[if_pos d,if_pos d];exact%[_|rfl]
 .rw[if_neg d,if_neg d];exact%[_|rfl]
theorem vX:bK X (.type "int") (λxs H Q=>(∃i,xs=[.int i]/\Q (.int i) H)\/∃k,xs=[.bl k]/\Q (.int (if k then 1 else 0)) H):=by
 intro pins s e H xs us Q I r h;rcases h with⟨i,rfl,q⟩|⟨k,rfl,q⟩
 .obtain⟨u,rfl,t,rfl⟩:=cR r;exact call_int_int %[.int i,H,I,%[_|rfl]|q]
 .obtain⟨u,rfl,d⟩:=cR r;cases d;exact call_int_bool %[.int _,H,I.tok _,%[_|rfl]|q]
def AM(K:ZA)(x:V)(H:Hp)(n:Nat):Prop:=
 match x with
 | .str y=>y.length<=sizeLine/\n=y.length
 | .byt y=>y.size<=sizeLine/\n=y.size
 | .ref p=>(∃xs,SqL K H p xs/\n=xs.length)\/∃xs,SqT K H p xs/\n=xs.length
 | _=>False
theorem yk:bK X (.builtin "len") (λxs H Q=>∃x n,xs=[x]/\AM X.K x H n/\Q (.int n) H):=by
 intro pins s o H xs us Q I r h;obtain⟨x,n,rfl,e,q⟩:=h;obtain⟨u,rfl,g⟩:=cR r;have v:=sizeLine_eq;cases x with
 | str y=>
   obtain⟨t,rfl⟩:=g;obtain⟨l,f⟩:y.length<=sizeLine/\n=y.length:=e;subst f;exact len_str ⋯ %[.int _,H,I.tok _,%[_|rfl]|q]
 | byt y=>
   obtain⟨t,rfl⟩:=g;obtain⟨l,f⟩:y.size<=sizeLine/\n=y.size:=e;subst f;exact PySem.W.len_bytes ⋯ %[.int _,H,I.tok _,%[_|rfl]|q]
 | ref p=>
   cases g;have f:=e;rcases f with⟨xs,i,f⟩|⟨xs,i,f⟩
   .subst f;obtain⟨its,j,pl,m⟩:=I.list i;have d:=j.length;exact Calls.call_len_list pl.isList (by simp only[Zo];lia) %[.int xs.length,H,I.tok _,%[_|by simp only[Zo];rw[d]]|q]
   .subst f;obtain⟨its,j,pl,m⟩:=I.tuple i;have d:=j.length;exact len_tuple pl (by simp only[Zo];lia) %[.int xs.length,H,I.tok _,%[_|by simp only[Zo];rw[d]]|q]
 | _=>exact(e).elim
end
structure sR (h:Heap) (x dx C:Addr) (mA:ZC):Prop where
 obj:h.get? x=some (instObj C dx)
 ns:h.Ns1 dx mA
 ne:dx≠x
theorem nP{h:Heap}{c:ZC}(n:h.Ns1 d c):∃od,h.get? d=some od/\∀name,lookIn name od=some (c name):=by
 obtain⟨o,f,p,g,i,j,_,l⟩:=n;refine%[o,g|λname=>?_];have e:=l name;unfold nsFind findBy at e;rw[<-Array.find?_toList]at e;unfold lookIn;rw[i];dsimp only
 split
 .rename_i y q
  rw[q]at e;exact congrArg some e
 .rename_i q
  rw[q]at e;have a:f.toList.any (·.refKey)=false:=by
   rw[List.any_eq_false];intro y m;obtain⟨z,t,b⟩:=j y (mem_toList_iff.mp m);simp[DictEntry.refKey,b]
  rw[if_neg (a▸Zs)];exact congrArg some e
theorem sR.look(I:sR h x a C b):∃od,PySem.W.InstAt h x (instObj C a) C (some od)/\∀name,lookIn name od=some (b name):=
 let⟨od,c,d⟩:=nP I.ns
 %[od,%[I.obj,rfl,rfl|c]|d]
section
#where
variable{K:ZA}{x dx C f:Addr}{mA:ZC}{name:Str}{v:Value}
theorem AN(X:K.In s.heap)(I:sR s.heap x dx C mA)(c:plainGet K C name=true)(d:hasDictIn K C=true)
 (e:findIn K (.ref C) name=some none) (g:mA name=some v) (a:handedIn v=true) (h:Q v {s with toks:=s.toks+1}):
 ↥A (getAttr (.ref x) name b) Q E s:=by
 obtain⟨od,J,i⟩:=I.look;exact PySem.W.get_value X J (plainGet_of c).1 (findObj_own d e rfl (by rw[i,g])) a h
theorem yl(X:K.In s.heap)(I:sR s.heap x dx C mA)(a:plainGet K C name=true)
 (b:findIn K (.ref C) name=some (some (.ref f))) (c:isFn K (.ref f)=true) (d:mA name=none) (h:Q (.ref f,[.ref x]) s):
 ↥A (getMethod (.ref x) name pl) Q E s:=by
 obtain⟨od,J,e⟩:=I.look;exact PySem.W.method_fn X J (plainGet_of a).1 (plainGet_of a).2 b (beq_iff_eq.mp c) (by show(lookIn name od).map _=some false;rw[e,d];rfl) h
theorem AO(X:K.In s.heap)(I:sR s.heap x dx C mA)
 (j:findIn K (.ref C) "__setattr__"=some (some (.builtin "object.__setattr__"))) (l:plainOver K C=true) (m:takerIn K C name=some none) (n:hasDictIn K C=true)
 (hw:PySem.Within mA o) (p:o.length<=sizeLine)
 (h:∀h',sR h' x dx C (λy=>if y=name then some v else mA y)->SameBut dx s.heap h'->Q () {s with heap:=h',toks:=s.toks+2}):
 ↥A (setAttr (.ref x) name v) Q E s:=by
 obtain⟨od,J,u⟩:=I.look;refine set_plain X J j (PySem.W.osa_open X J l m λb=>?_);obtain⟨z,q,d⟩:=any_some n;refine Z2 (Z3 (Z2 (Z2 (wpAny_loadPart I.obj (Z2 (Looks.here (looks_clsIn X q) ?_))))));rw[d];refine Z3 (Z2 (Z3 (Z2 (wpAny_nsSet1 I.ns λh' a c=>?_))));obtain⟨B,r,t,e,g,i⟩:=a.count (PySem.Within.cons name v hw);exact Z2 (wpAny_lookBehind e (g▸pastItsLine_dict (Y8 i (by simp_all))) (Z3 (h _ %[(c.2 _ (Ne.symm I.ne)).trans I.obj,a|I.ne] c)))
theorem ym{R:Result->Shared->Prop}(X:K.In s.heap)(b:makesIn K C=true)
 (hi:findIn K (.ref C) "__init__"=some (some (.ref f))) (c:typeIn K (.ref f)=some (.type "function"))
 (h:codeAny (model prog w) (A.under (.builtin "type.__call__" %[.ref C::vs|a])) (.call (.ref f) %[.ref (⇑s+1)::vs|a]) (PySem.W.InitBack (⇑s+1) R)
  (s>>>(s.heap.push emptyDict).push (instObj C ⇑s))):
 codeAny (model prog w) A (.call (.ref C) %[vs|a]) R s:=by
 exact PySem.W.make_core (PySem.W.makes_of X b) (looks_findIn X hi) (λself=>PySem.W.bind_fn X self c) (.inl rfl) h
end
noncomputable def dj(f:Str)(v:V):List (Str×V)->List (Str×V)
 |[]=>[(f,v)]
 |(g,x)::r=>if g=f then(g,v)::r else(g,x)::dj f v r
theorem kz(f g:Str)(v:V):∀fs,(dj f v fs).lookup g=if g=f then some v else fs.lookup g
 |[]=>by
  show List.lookup g [(f,v)]=_;by_cases h:g=f
  .have a:=beq_iff_eq.mpr h;simp only[List.lookup,a,if_pos h]
  .have a:=beq_eq_false_iff_ne.mpr h;simp only[List.lookup,a,if_neg h]
 |(k,x)::r=>by
  rw[show dj f v _=(if k=f then(k,v)::r else(k,x)::dj f v r)from rfl];by_cases b:k=f
  .rw[if_pos b];by_cases h:g=k
   .have a:=beq_iff_eq.mpr h;simp only[List.lookup,a,if_pos (h.trans b)]
   .have a:=beq_eq_false_iff_ne.mpr h;simp only[List.lookup,a,if_neg (λe:g=f=>h (e.trans b.symm))]
  .rw[if_neg b];by_cases h:g=k
   .have a:=beq_iff_eq.mpr h;simp only[List.lookup,a,if_neg (λe=>b (h.symm.trans e))]
   .have a:=beq_eq_false_iff_ne.mpr h;simp only[List.lookup,a];exact(kz f g v r)
theorem jR(f:Str)(v:V):∀fs:List (Str×V),f∈(dj f v fs).map (·.1)/\∀g,g∈fs.map (·.1)->g∈(dj f v fs).map (·.1)
 |[]=>%[by simp[dj]|λg h=>by simp at h]
 |(k,x)::r=>by
  obtain⟨a,b⟩:=jR f v r;rw[show dj f v _=(if k=f then(k,v)::r else(k,x)::dj f v r)from rfl]
  grind
theorem kA(f:Str)(v:V):∀fs,(dj f v fs).length<=fs.length+1
 |[]=>by simp[dj]
 |(k,x)::r=>by
  have a:=kA f v r;rw[show dj f v _=(if k=f then(k,v)::r else(k,x)::dj f v r)from rfl];by_cases b:k=f
  .simp_all
  simp_all
theorem fc.some_of(r:fc (some v) o):∃u,o=some u/\aK v u:=by
 cases o with
 | none=>exact(r).elim
 | some u=>exact%[u,rfl|r]
theorem fc.none_of(r:fc none o):o=none:=by
 cases o with
 | none=>rfl
 | some u=>exact(r).elim
theorem nQ(r:aK v u):handedIn u=true:=by
 cases v with
 | non=>cases(r);rfl
 | bl b=>cases(r);rfl
 | int i=>obtain⟨t,e⟩:=(r);cases e;rfl
 | str x=>obtain⟨t,e⟩:=(r);cases e;rfl
 | byt b=>obtain⟨t,e⟩:=(r);cases e;rfl
 | flt b=>obtain⟨t,e⟩:=(r);cases e;rfl
 | ref a=>cases(r);rfl
 | ty n=>cases(r);rfl
section
variable{P:Program}{w:World}{H H':Hp}{h h':Heap}{a C dx:Addr}{fs fs':List (Str×V)}
theorem lj(c:HOk P w H h)(e:H a=some (.ins C dx fs)):∃b,sR h a dx C b/\(∀f,fc (fs.lookup f) (b f))/\PySem.Within b (fs.map (·.1))/\fs.length<=1000/\H dx=some (.own a):=by
 obtain⟨d,z,ne,g,b,n,r,q⟩:=(c a _ e)
 exact%[b,%[g,n|ne],r,q,z|d]
end
structure Cls (K:ZA) (C:Addr):Prop where
 pg:plainGet K C Str.empty=true
 hd:hasDictIn K C=true
 po:plainOver K C=true
 sa:findIn K (.ref C) "__setattr__"=some (some (.builtin "object.__setattr__"))
theorem Cls.get{K:ZA}{C:Addr}(c:Cls K C)(f:Str):plainGet K C f=true:=c.pg
def fh(K:ZA)(C:Addr)(f:Str):Prop:=findIn K (.ref C) f=some none
theorem fh.taker{K:ZA}{C:Addr}{f:Str}(n:fh K C f):takerIn K C f=some none:=by
 unfold takerIn;rw[n];rfl
structure AQ (K:ZA) (C:Addr) (m:Str) (f:Addr):Prop where
 at_:findIn K (.ref C) m=some (some (.ref f))
 fn:isFn K (.ref f)=true
 kp:keepIn K (.ref f)=true
section
#version
variable{a C dx:Addr}{fs:List (Str×V)}{f:Str}{v:V}{A:Around}{E:ZD}
theorem sS(I:Inv X pins σ H s)(e:H a=some (.ins C dx fs))(c:Cls X.K C)(n:fh X.K C f)(l:fs.lookup f=some v)
 (h:∀u s',Inv X pins σ H s'->aK v u->Q u s'):wpAny (model X.prog X.w) A (getAttr (.ref a) f b) Q E s:=by
 obtain⟨i,O,r,_,_,_⟩:=lj I.hok e;obtain⟨u,g,d⟩:=fc.some_of (l▸r f);exact AN I.kIn O (c.get f) c.hd n g (nQ d) (h u _ (I.tok _) d)
theorem sT(I:Inv X pins σ H s)(e:H a=some (.ins C dx fs))(c:Cls X.K C)(k:AQ X.K C m g)(l:fs.lookup m=none)
 (h:Q (.ref g,[.ref a]) s):wpAny (model X.prog X.w) A (getMethod (.ref a) m pl) Q E s:=by
 obtain⟨b,O,r,_,_,_⟩:=lj I.hok e;exact yl I.kIn O (c.get m) k.at_ k.fn (fc.none_of (l▸r m)) h
theorem sU(I:Inv X pins σ H s)(e:H a=some (.ins C dx fs))(c:Cls X.K C)(n:fh X.K C f)(G:fs.length<1000)(l:aK y u)
 (h:∀s',Inv X pins σ (upd H a (.ins C dx (dj f y fs))) s'->Q () s'):wpAny (model X.prog X.w) A (setAttr (.ref a) f u) Q E s:=by
 obtain⟨m,O,r,i,_,j⟩:=lj I.hok e;refine AO I.kIn O c.sa c.po n.taker c.hd i (by rw[Z5,sizeLine_eq];lia) λh' d p=>h _ (I.write (e▸True.intro) (.inr j) (λb q t z=>(p.2 b t).trans z) (let⟨o,_,_,w,_⟩:=d.ns;%[o|w]) %[(aj O.ne)▸j,?_,O.ne,d.obj,_,d.ns,λg=>?_|λg B=>?_])
 .have:=kA f y fs;lia
 .rw[kz];by_cases q:g=f
  .rw[if_pos q,if_pos q];exact l
  .rw[if_neg q,if_neg q];exact r g
 .by_cases q:g=f
  .exact q▸(jR f y fs).1
  .refine(jR f y fs).2 g (i g λz=>B ?_);show(if g=f then some u else m g)=none;rw[if_neg q];exact z
theorem Inv.made(I:Inv X pins σ H s):Inv X pins σ (upd (upd H ⇑s (.own (⇑s+1))) (⇑s+1) (.ins C ⇑s []))
 (s>>>(s.heap.push emptyDict).push (instObj C ⇑s)):=by
 have c:(s.heap.push emptyDict).get? ⇑s=some emptyDict:=Zi s.heap rfl;have d:=by
  have:=Zi (s.heap.push emptyDict) (o:=instObj C ⇑s) rfl;rwa[Zp]at this
 refine(I.laid (o:= .own (⇑s+1)) (t':=s.toks) (λb u q=>Z6 _ q) (Zh _) %[_|c]).laid (λb u q=>Z6 _ q) (Nat.le_of_eq (Zp _ _)) ?_;have ne:⇑s≠⇑s+1:=Zr (Yg _);refine%[by rw[aj ne,aa],Yy _,ne,d,λ_=>none,(Heap.Ns1.of_empty %[emptyDict,#[],_,c,rfl,(λe g=>absurd g ∅)|λ_=>rfl]).at λo q=>Z6 _ q,λ_=>True.intro|λy h=>absurd rfl h]
theorem u9(c:attributeBase e f env (eval e env)=eval e env)
 (h:↥A (eval e env) (λo b=>↥A (getAttr o f true) Q E b) E s):↥A (eval (.Attribute e f pos) env) Q E s:=
 Attribute_any_ h (by rw[arm_eval_Attribute,c])
end
def C2(K:ZA)(c:TE)(f:Str):TE:=λd H Q=>c d H λx b=>∃a C e fs v,x= .ref a/\b a=some (.ins C e fs)/\Cls K C/\fh K C f/\fs.lookup f=some v/\Q v b
def C3(K:ZA)(e g:TE)(f:Str):TS:=λD b H=>g b H λy h=>e b h λx c=>∃a C d fs,x= .ref a/\c a=some (.ins C d fs)/\Cls K C/\fh K C f/\fs.length<1000/\
 D.nx b (upd c a (.ins C d (dj f y fs)))
section
variable{X:Cx}{o e value:Expr}{f:Str}{pos pos' tpos:Pos}{ta tv:TE}
theorem C4(b:PE X e ta)(d:attributeBase e f X.env (eval e X.env)=eval e X.env):PE X (.Attribute e f pos) (C2 X.K ta f):=by
 intro pins s g H Q I h;refine u9 d (thn (b pins s g H _ I h) λu w ⟨x,i,j,m,a,C,y,fs,v,ex,p,c,n,l,q⟩=>?_);subst ex;obtain rfl:u=Value.ref a:=m;exact sS j p c n l λz A r t=>%[v,i,r,t|q]
theorem C5(d:PE X o ta)(g:PE X value tv)(i:swapsWith value (some (.Attribute o f pos')) pos.line X.env=pure false):PS X (.Assign [.Attribute o f pos'] value pos) (C3 X.K ta tv f):=by
 intro pins s b H D I h;refine plainObj_wpAny_Assign_Attribute (thn (g pins s b H _ I h) λu j ⟨y,m,p,r,q⟩=>thn (d pins j b m _ p q) λt E ⟨x,G,v,w,a,C,J,fs,ex,z,c,n,l,A⟩=>?_) i;subst ex;obtain rfl:t=Value.ref a:=w;exact sU v z c n l r λL B=>%[b,_,B|A]
end
section
#version
variable{A:Around}{E:ZD}{Q:ZD}{c:Value}{b:Bool}
inductive iW (K:ZA) (H:Hp):V->Value->Prop where
 | non:iW K H .non (.type "NoneType")
 | bl (x:Bool):iW K H (.bl x) (.type "bool")
 | int (i:Int):iW K H (.int i) (.type "int")
 | str (x:Str):iW K H (.str x) (.type "str")
 | flt (x:UInt64):iW K H (.flt x) (.type "float")
 | lst {a:Addr} {xs:List V} (e:H a=some (.lst xs)):iW K H (.ref a) (.type "list")
 | frz {a:Addr} {o:Obj} {xs:List V} (e:H a=some (.frz o (.lst xs))):iW K H (.ref a) (.type "list")
 | tup {a:Addr} {xs:List V} (e:H a=some (.tup xs)):iW K H (.ref a) (.type "tuple")
 | dK {a:Addr} {kvs:List _} (e:H a=some (.dK kvs)):iW K H (.ref a) (.type "dict")
 | dT {a:Addr} {kvs:List _} (e:H a=some (.dT kvs)):iW K H (.ref a) (.type "dict")
 | ins {a C dx:Addr} {fs:List _} (e:H a=some (.ins C dx fs)) (cl:Cls K C) (ha:findIn K (.ref C) "__class__"=some (some (.builtin "object.__class__")))
  (hn:specialIn K (.builtin "object.__class__") "__get__"=some (some (.builtin "getset_descriptor.__get__"))) (htk:takesIn K (.builtin "object.__class__")=some true)
  (hm:mroIn K C (.type "object")=some true):iW K H (.ref a) (.ref C)
theorem vY(I:Inv X pins σ H s)(d:aK x u)(ty:iW X.K H x t)(e:kitOne X.K t c=some b)(h:∀tk,Q (.bool b) {s with toks:=tk}):
 wpAny (model X.prog X.w) A (call (.builtin "isinstance") [u,c]) Q E s:=by
 cases ty with
 | non=>cases(d);exact kia_one kitx_none I.kIn True.intro e (λz=>nomatch z) h
 | bl y=>cases(d);exact kia_one PySem.W.kitx_bool I.kIn True.intro e (λz=>nomatch z) h
 | int i=>obtain⟨t,q⟩:=(d);cases q;exact kia_one PySem.W.kitx_int I.kIn True.intro e (λz=>nomatch z) h
 | str y=>obtain⟨t,q⟩:=(d);cases q;exact kia_one PySem.W.kitx_str I.kIn True.intro e (λz=>nomatch z) h
 | flt y=>obtain⟨t,q⟩:=(d);cases q;exact kia_one PySem.W.kitx_float I.kIn True.intro e (λz=>nomatch z) h
 | @lst a xs f=>
   cases(d);obtain⟨_,_,n,_,g⟩:=(I.hok a _ f)
   exact kia_one kitx_list I.kIn %[_,g|rfl] e (λz=>nomatch z) h
 | @frz a M xs f=>
   cases(d);obtain⟨_,_,_,n,_,g⟩:=(I.hok a _ f)
   exact kia_one kitx_list I.kIn %[_,g|rfl] e (λz=>nomatch z) h
 | @tup a xs f=>
   cases(d);obtain⟨_,_,_,p⟩:=(I.hok a _ f)
   obtain⟨o,g,j,_⟩:=p;exact kia_one PySem.W.kitx_tuple I.kIn %[o,g|j] e (λz=>nomatch z) h
 | @dK a l f=>
   cases(show u=Value.ref a from d);obtain⟨_,_,vs,_,p⟩:=(I.hok a _ f)
   obtain⟨o,v,w,g,j,_⟩:=p;exact kia_one kitx_dict I.kIn %[o,g|j.1] e (λz=>nomatch z) h
 | @dT a l f=>
   cases(show u=Value.ref a from d);obtain⟨_,_,xs,_,o,v,w,g,j,_⟩:=(I.hok a _ f)
   exact kia_one kitx_dict I.kIn %[o,g|j.1] e (λz=>nomatch z) h
 | @ins a C N fs f r B G m L=>
   cases(d);obtain⟨T,O,_⟩:=lj I.hok f;obtain⟨od,J,_⟩:=O.look;exact kia_one (PySem.W.kitx_own (r.get _) r.hd B G m L) I.kIn J e (λz=>nomatch z) h
end
structure bC (k:Nat) (A:Around):Prop where
 hd:A.handled=none
 dp:A.depth+3*k+5<recursionLimit
 un:A.units+16*k+200<cLine
 gd:A.guards=some []
theorem bC.mono(r:bC k A)(h:j<=k):bC j A:=%[r.hd,by have:=r.dp;lia,by have:=r.un;lia|r.gd]
theorem bC.deeper(r:bC (k+1) A)(env:Env):bC k (A.deeper env):=
 %[r.hd,by have:=r.dp;show A.depth+1+3*k+5<_;lia,by have:=r.un;show A.units+3+16*k+200<_;lia|r.gd]
theorem sV{A:Around}:(A.under (.builtin "type.__call__" %[.ref C::us|a])).depth=A.depth+1:=by
 first|rfl|lia
theorem sW{A:Around}:(A.under (.builtin "type.__call__" %[.ref C::us|a])).units=A.units+1:=by
 first|rfl|lia
theorem bC.make(r:bC (k+1) A)(C:Addr)(us:ZF)(a:List (Str×Value)):bC k (A.under (.builtin "type.__call__" %[.ref C::us|a])):=
 %[r.hd,by have:=r.dp;rw[sV];lia,by have:=r.un;rw[sW];lia|r.gd]
theorem bC.depth(r:bC k A):A.depth<recursionLimit:=by have:=r.dp;lia
theorem bC.units(r:bC k A):A.units+64<cLine:=by have:=r.un;lia
def yo:TA:=λ_ H Q=>Q [] H
def yp(b:TE)(c:TA):TA:=λa H Q=>b a H λx d=>c a d λxs e=>Q (x::xs) e
section
variable{X:Cx}{e:Expr}{es:List Expr}{te:TE}{t:TA}{pos:Pos}
theorem C6:PA X [] yo:=λ_ _ _ _ H Q I h=>Calls.spliced_nil %[[],H,I,.nil|h]
theorem AR(b:PE X e te)(c:PA X es t)(d:starEach (e::es) X.env=(false,eval e X.env)::starEach es X.env):PA X (e::es) (yp te t):=by
 intro pos pins s a H Q I h;rw[d];show wpAny _ _ (spliced ((false,eval e X.env)::backTo pos _)) _ _ s;exact Calls.spliced_cons (thn (b pins s a H _ I h) λu f ⟨x,g,i,j,l⟩=>thn (c pos pins f a g _ i l) λus q ⟨xs,m,n,o,p⟩=>%[x::xs,m,n,.cons j o|p])
def C7(t:TA):TE:=λb H Q=>t b H λxs a=>xs.length<=sizeLine/\∀p,a p=none->Q (.ref p) (upd a p (.tup xs))
def C8(t:TA):TE:=λb H Q=>t b H λxs a=>xs.length<=sizeLine/\∀p,a p=none->Q (.ref p) (upd a p (.lst xs))
theorem C9{x1}(h:PA X es t):PE X (.Tuple es x1 pos) (C7 t):=by
 intro pins s d H Q I f;refine wpAny_Tuple_spliced (thn (h pos pins s d H _ I f) λus a ⟨xs,g,c,r,z,q⟩=>%[r.length▸z|?_]);have i:=c.hok.fresh (Zh _);refine%[.ref ⇑a,upd g ⇑a _,c.laid (λb u e=>Z6 _ e) (Zh _) ?_,rfl|q _ i];exact%[z,us,r,_,Zi _ rfl,rfl,_|rfl]
theorem Da(h:PA X es t):PE X (.List es pos) (C8 t):=by
 intro pins s d H Q I f;refine wpAny_List_spliced (thn (h pos pins s d H _ I f) λus a ⟨xs,g,c,r,z,q⟩=>%[r.length▸z|?_]);have i:=c.hok.fresh (Zh _);refine%[.ref ⇑a,upd g ⇑a _,c.laid (λb u e=>Z6 _ e) (Zh _) ?_,rfl|q _ i];exact%[z,us,0,r|Zi _ rfl]
end
noncomputable abbrev Sp:=List V->Hp->VK->XK->Prop
noncomputable abbrev CXT:=List Env->Hp->Shared->XK->Value->Shared->Prop
structure vZ (P:Program) (w:World) (K:ZA) (mg:ZC) (base:Heap) (A:Around) (outer:List Env) (s:Shared) (H:Hp):Prop where
 frames:A.frames=some outer
 mod:Mod K mg base
 bs:∀b o,base.get? b=some o->s.heap.get? b=some o/\H b=none
 bsz:base.objs.size<=⇑s
 funs:s.heap.FunFrames base outer
 frf:∀b∈frs outer,H b=none
 hok:HOk P w H s.heap
 bare:AllBare s.gens
def CE(outer:List Env)(P:Program)(w:World)(H:Hp)(s:Shared)(Q:VK)(u:Value)(s':Shared):Prop:=
 ∃v a,s'.os=s.os/\AllBare s'.gens/\Un (frs outer) [] H a s.heap s'.heap/\HOk P w a s'.heap/\aK v u/\Q v a
def CR(CX:CXT)(outer:List Env)(P:Program)(w:World)(H:Hp)(s:Shared)(Q:VK)(E:XK)(r:Result)(s':Shared):Prop:=
 match r with
 | .ok (.ret u)=>CE outer P w H s Q u s'
 | .ok _=>False
 | .error e=>CX outer H s E e s'
structure fD (P:Program) (w:World) (K:ZA) (mg:ZC) (base:Heap) (CX:CXT) (k:Nat) (f:Addr) (fd:FuncData) (ps:ZB) (sp:Sp):Prop where
 len:∀vs H Q E,sp vs H Q E->vs.length=ps.length
 run:∀A outer s H args us vs Q E,bC k A->vZ P w K mg base A outer s H->BindsTo s fd args (ps.zip us)->aC vs us->sp vs H Q E->
  codeAny (model P w) A (.call (.ref f) args) (CR CX outer P w H s Q E) s
theorem vZ.make{P:Program}{K:ZA}(e:vZ P w K mg base A outer s H)(C:Addr)(us:ZF)(a:List (Str×Value)):
 vZ P w K mg base (A.under (.builtin "type.__call__" %[.ref C::us|a])) outer s H:=⟨by first|exact e.frames|lia,e.mod,e.bs,e.bsz,e.funs,e.frf,e.hok,e.bare⟩
section
variable{X:Cx}{pins:ZE}{σ:St}{H:Hp}{s s':Shared}
theorem Inv.env0(I:Inv X pins σ H s):vZ X.prog X.w X.K X.mg X.base X.A X.stack s H:=
 %[I.ok.frames,I.ok.mod,I.bs,Y8 I.ok.bsz I.sz,I.stack,I.stkFree,I.hok|I.bare]
theorem Inv.after(I:Inv X pins σ H s)(h:CE X.stack X.prog X.w H s Q u s'):EP X pins σ Q u s':=by
 obtain⟨v,f,os,a,un,c,r,q⟩:=h;obtain⟨i,g,d,t,e⟩:=s';obtain rfl:e=s.os:=os;exact%[v,f,I.call un c a (λb z=>absurd z ∅),r|q]
end
def nR(sp:Sp)(dvs:List V)(E:XK)(t:TA):TE:=λa H Q=>t a H λvs b=>sp (vs++dvs) b Q E
def yq(C:Addr)(m:Str)(sp:Sp)(dvs:List V)(E:XK)(d:TE)(t:TA):TE:=λb H Q=>d b H λx c=>∃a e fs,x= .ref a/\c a=some (.ins C e fs)/\fs.lookup m=none/\
 t b c λvs f=>sp (x::(vs++dvs)) f Q E
def yr(C:Addr)(sp:Sp)(dvs:List V)(E:XK)(t:TA):TE:=λc H Q=>t c H λvs b=>∀x a,b x=none->b a=none->a≠x->
 sp (.ref x::(vs++dvs)) (upd (upd b a (.own x)) x (.ins C a [])) (λv d=>v= .non/\Q (.ref x) d) E
def cS(K:ZA)(a:FuncData)(ps:ZB)(ds:ZF):Prop:=
 ∀s us,K.In s.heap->(us++ds).length=ps.length->BindsTo s a %[us|[]] (ps.zip (us++ds))
theorem cS.all{K:ZA}(h:∀us:ZF,us.length=ps.length->bindArgs b %[us|[]]=pure (ps.zip us)):cS K b ps []:=λs us _ a=>by
 rw[Zw]at a ⊢;exact .of_eq (h us a)
def fU(CX:CXT)(X:Cx)(E:XK):Prop:=∀pins (a:St) H s e s',Inv X pins a H s->CX X.stack H s E e s'->X.xe e s'
section
variable{X:Cx}{CX:CXT}{k:Nat}{f C:Addr}{fd:FuncData}{ps:ZB}{sp:Sp}{dvs:List V}{ds:ZF}{E:XK}{x m:Str}{p pos apos:Pos}{e o:Expr}{es:List Expr}{ta:TE}{t:TA}
theorem yt(F:fD X.prog X.w X.K X.mg X.base CX k f fd ps sp)(d:bC k X.A)(g:cS X.K fd ps ds)(i:aC dvs ds)(j:fU CX X E)
 (I:Inv X pins b H s) (r:aC vs us) (h:sp (vs++dvs) H Q E):(~~~X) (call (.ref f) us) (EP X pins b Q) X.xe s:=by
 have c:=r.append i;refine wpAny_call (codeAny_mono (F.run X.A X.stack s H _ _ _ Q E d I.env0 (g s us I.kIn (c.length▸F.len _ _ _ _ h)) c h) λr s' a=>?_);cases r with
 | error e=>exact j pins b H s e s' I a
 | ok l=>
   cases l with
   | ret u=>exact I.after a
   | next=>exact False.elim a
   | brk=>exact False.elim a
   | cont=>exact False.elim a
theorem va(F:fD X.prog X.w X.K X.mg X.base CX k f fd ps sp)(d:bC k X.A)(g:Gl X x)(i:X.mg x=some (.ref f))(j:keepIn X.K (.ref f)=true)(l:cS X.K fd ps ds)(n:aC dvs ds)(u:fU CX X E)
 (v:PA X (e::es) t) (a:(x==("__debug__":Str))=false) (w:starEach (e::es) X.env=(false,eval e X.env)::starEach es X.env) (b:(backTo pos (starEach es X.env)).any (·.1)=false):
 PE X (.Call (.Name x p) (e::es) [] pos) (nR sp dvs E t):=by
 intro pins s y H Q I h;exact wpAny_Call_Name_kw (eT I g i (callWith_K I.ok.mod.kin j (thn (v pos pins s y H _ I h) λus z ⟨vs,A,c,r,q⟩=>%[c.kIn|yt F d l n u c r q]) w b) a)
theorem yv(i:PE X o ta)(c:Cls X.K C)(d:AQ X.K C m f)(F:fD X.prog X.w X.K X.mg X.base CX k f fd ps sp)(j:bC k X.A)(n:cS X.K fd ps ds)(r:aC dvs ds)(v:fU CX X E)
 (w:eval (.Call (.Attribute o m apos) [] [] pos) X.env=(do
  let g<-eval o X.env
  standAt apos.atName
  let(f,first)<-holding [g] (getMethod g m pl)
  callWith pos f first (backTo pos (starEach [] X.env)) (backToKw pos (keywordEach [] X.env)))):
 PE X (.Call (.Attribute o m apos) [] [] pos) (yq C m sp dvs E ta yo):=by
 intro pins s y H Q I h;refine PySem.W.methodCall_KW (thn (i pins s y H _ I h) λu B ⟨x,G,b,z,a,J,fs,ex,A,l,q⟩=>?_) w;subst ex;obtain rfl:u=Value.ref a:=z;exact sT b A c d l (PySem.W.callWith_K0 b.kIn d.kp (yt (us:=[.ref a]) (vs:=[.ref a]) F j n r v b (.cons rfl .nil) q))
structure Mk (K:ZA) (C f:Addr):Prop where
 makes:makesIn K C=true
 init:findIn K (.ref C) "__init__"=some (some (.ref f))
 fn:isFn K (.ref f)=true
 kp:keepIn K (.ref C)=true
theorem yw(M:Mk X.K C f)(F:fD X.prog X.w X.K X.mg X.base CX k f fd ps sp)(j:bC (k+1) X.A)(l:cS X.K fd ps ds)(n:aC dvs ds)
 (q:fU CX X E) (I:Inv X pins d H s) (r:aC vs us)
 (h:∀x b,H x=none->H b=none->b≠x->sp (.ref x::(vs++dvs)) (upd (upd H b (.own x)) x (.ins C b [])) (λv w=>v= .non/\Q (.ref x) w) E):
 (~~~X) (call (.ref C) us) (EP X pins d Q) X.xe s:=by
 have g:=h (⇑s+1) ⇑s (I.hok.fresh (Y7 _)) (I.hok.fresh (Zh _)) (Zr (Yg _));have c:=Inv.made (C:=C) I;have i:aC (V.ref (⇑s+1)::(vs++dvs)) _:= .cons rfl (r.append n);have y:=by
  have e:=i.length;rw[F.len _ _ _ _ g]at e;exact e.symm
 refine wpAny_call (ym I.kIn M.makes M.init (beq_iff_eq.mp M.fn) (codeAny_mono (F.run _ X.stack _ _ _ _ _ _ E (j.make C us [])
  (c.env0.make C us []) (l _ _ c.kIn y) i g) λr s' a=>?_))
 cases r with
 | error e=>exact q pins d _ _ e s' c a
 | ok z=>
   cases z with
   | ret u=>
     obtain⟨v,A,B,G,J,L⟩:=c.after a;subst J;exact%[G,V.ref _,A,B,rfl|L]
   | next=>exact False.elim a
   | brk=>exact False.elim a
   | cont=>exact False.elim a
theorem AS(M:Mk X.K C f)(F:fD X.prog X.w X.K X.mg X.base CX k f fd ps sp)(d:bC (k+1) X.A)(g:Gl X x)(i:X.mg x=some (.ref C))(j:cS X.K fd ps ds)(l:aC dvs ds)(n:fU CX X E)
 (u:PA X (e::es) t) (a:(x==("__debug__":Str))=false) (v:starEach (e::es) X.env=(false,eval e X.env)::starEach es X.env) (b:(backTo pos (starEach es X.env)).any (·.1)=false):
 PE X (.Call (.Name x p) (e::es) [] pos) (yr C sp dvs E t):=by
 intro pins s w H Q I h;exact wpAny_Call_Name_kw (eT I g i (callWith_K I.ok.mod.kin M.kp (thn (u pos pins s w H _ I h) λus y ⟨vs,z,c,r,q⟩=>%[c.kIn|yw M F d j l n c r q]) v b) a)
end
section
variable{X:Cx}{CX:CXT}{k:Nat}{f C:Addr}{fd:FuncData}{ps ks:ZB}{sp:Sp}{E:XK}{x m:Str}{p pos apos kpos:Pos}{e o:Expr}{es:List Expr}{kws:List Keyword}{te ta:TE}{t tk:TA}{nm:Option Str}
variable{g:ZF->ZF->ZF}{gV:List V->List V->List V}
end
structure aq (N P:ZB) (sc:Scope):Prop where
 kind:sc.kind= .function
 co:sc.isCoroutine=false
 gen:sc.isGenerator=false
 nd:N.Nodup
 pre:N.take P.length=P
 par:∀x∈P,sc.names.lookup x=some .local\/sc.names.lookup x=some .cell
 nofree:∀y∈sc.names,y.2≠ .free
theorem nS{kindOf:Str->Option NameKind}:∀{binds:List (Str×Value)} {m:ZC},(∀v,(x,v)∉binds)->bindL kindOf binds m x=m x
 |[],_,_=>rfl
 |(n,v)::r,m,h=>by
  unfold bindL;rw[nS λw hw=>h w (Zj _ hw)]
  split
  .have:x≠n:=by rintro rfl;exact h v Zl
   simp[this]
  .rfl
theorem nT{kindOf:Str->Option NameKind}:∀{binds:List (Str×Value)} {m:ZC},(∀v,(x,v)∉binds)->bindC kindOf binds m x=m x
 |[],_,_=>rfl
 |(n,v)::r,m,h=>by
  unfold bindC;rw[nT λw hw=>h w (Zj _ hw)]
  split
  .rfl
  .have:x≠n:=by rintro rfl;exact h v Zl
   simp[this]
theorem nU{kindOf:Str->Option NameKind}{x:Str}:∀{P:ZB} {vs:ZF} {i:Nat} {m:ZC},P.Nodup->P[i]? =some x->vs[i]? =some v->kindOf x=some .local->
 bindL kindOf (P.zip vs) m x=some v
 |[],_,_,_,_,h,_,_=>by simp at h
 | _::_,[],_,_,_,_,h,_=>by simp at h
 | p::P,w::vs,0,m,nd,a,b,c=>by
   simp at a b;subst a;subst b;show bindL kindOf ((p,w)::P.zip vs) m p=_;unfold bindL;rw[nS λv d=>(nodup_cons.mp nd).1 (of_mem_zip d).1,if_pos c];simp
 | p::P,w::vs,i+1,m,nd,a,b,c=>by
   show bindL kindOf ((p,w)::P.zip vs) m x=_;exact nU (nodup_cons.mp nd).2 (a) (b) c
theorem nV{kindOf:Str->Option NameKind}{x:Str}:∀{P:ZB} {vs:ZF} {i:Nat} {m:ZC},P.Nodup->P[i]? =some x->vs[i]? =some v->kindOf x≠some .local->
 bindC kindOf (P.zip vs) m x=some v
 |[],_,_,_,_,h,_,_=>by simp at h
 | _::_,[],_,_,_,_,h,_=>by simp at h
 | p::P,w::vs,0,m,nd,a,b,c=>by
   simp at a b;subst a;subst b;show bindC kindOf ((p,w)::P.zip vs) m p=_;unfold bindC;rw[nT λv d=>(nodup_cons.mp nd).1 (of_mem_zip d).1,if_neg c];simp
 | p::P,w::vs,i+1,m,nd,a,b,c=>by
   show bindC kindOf ((p,w)::P.zip vs) m x=_;exact nV (nodup_cons.mp nd).2 (a) (b) c
noncomputable def start(N:ZB)(vs:List V):St:=vs.map some++List.replicate (N.length-vs.length) none
noncomputable def eC(CX:CXT)(P:Program)(w:World)(K:ZA)(mg:ZC)(base:Heap)(N:ZB)(qual:Str)(scope:Scope)(f:Addr)(cd:Value)(A:Around)(outer:List Env)(s:Shared)(H:Hp)(E:XK):Cx where
 prog:=P
 w:=w
 K:=K
 mg:=mg
 base:=base
 A:=A.deeper (envOfC qual scope ⇑s f cd)
 N:=N
 s₀:=s
 H₀:=H
 env:=envOfC qual scope ⇑s f cd
 outer:=outer
 stack:=envOfC qual scope ⇑s f cd::outer
 ex:=[]
 calm:=true
 fn:=λ_=>true
 pn:=[]
 xe:=λe s'=>wpAny (model P w) (A.deeper (envOfC qual scope ⇑s f cd)) (leaving (envOfC qual scope ⇑s f cd) e) (λ_ s''=>CX outer H s E e s'') (λe' s''=>CX outer H s E e' s'') s'
theorem qK{a:Scope}{n:Nat}{x:Str}(h:a.names.lookup x=some .cell):∃c,(cellsFrom n a.names []).lookup x=some c:=by
 exact isSome_iff_exists.mp (cellsFrom_some a.names n [] (.inl h))
theorem v4{P:Program}{K:ZA}
 (S:aq N ps a) (I:A.handled=none) (g:vZ P w K mg base A outer s H) (Q:vs.length=ps.length) (r:aC vs us)
 (x:InCallC s ⇑s (bindL (envOfC d a ⇑s f B).kindOf (ps.zip us) λ_=>none) (cellsFrom (⇑s+1) a.names []) (bindC (envOfC d a ⇑s f B).kindOf (ps.zip us) λ_=>none) J):
 Inv (eC CX P w K mg base N d a f B A outer s H E) [] (start N vs) H J:=by
 have L:ps.length<=N.length:=by have:=congrArg List.length S.pre;rw[Yd]at this;lia
 obtain⟨t,tk,rfl,C⟩:=x.done;have l:∀b,b∉(eC CX P w K mg base N d a f B A outer s H E).ex:=λb z=>absurd (show b∈([])from z) ∅
 refine%[%[g.mod,S.kind,rfl,rfl,Zh _,λy z c t j=>?_,λy m=>?_,λy c _ h=>?_,λ_=>I,Around.frames_deeper g.frames,.inr %[rfl|rfl],λb z=>absurd z (l b),g.bs,g.bsz,λb _ _=>l b,λb z=>absurd z (l b),g.funs|g.frf],
  rfl,g.bare,Un.kept C,%[_,x.toInCall.ns|λi y v t j T=>?_],λy c h=>%[_|x.cell y c h],g.hok.fresh (Zh _),λy c h=>?_,λp n=>absurd (show p∈([])from n) ∅,g.hok.kept C|?_]
 .exact name_of_addr x.apart (PySem.mem_of_lookup t) (PySem.mem_of_lookup j)
 .rcases m with m|m
  .exact qK m
  .exact absurd rfl (S.nofree _ (PySem.mem_of_lookup m))
 .exact le_of_lt (x.above y c (PySem.mem_of_lookup h))
 .have hi:i<vs.length:=by
   unfold start at j;by_cases hi:i<vs.length
   .exact hi
   .rw[Y4 (by simpa using hi)]at j;rw[List.getElem?_replicate]at j
    split at j<;> cases j
  have M:vs[i]? =some v:=by
   unfold start at j;rw[Y3 (by simpa using hi),Zk]at j
   simp_all
  obtain⟨u,G,O⟩:=r.get M;have n:ps[i]? =some y:=by
   rw[<-S.pre,List.getElem?_take_of_lt ⋯];exact t
  have o:ps.Nodup:=S.pre▸S.nd.sublist (List.take_sublist _ _);refine%[u,O|?_];rcases S.par y (Z7 n)with k|k
  .exact .inl %[k|nU o n G k]
  .obtain⟨c,e⟩:=qK k;refine .inr %[.inl k,c,e|?_];have q:=x.cell y c e;rw[nV o n G (by show a.names.lookup y≠_;rw[k];decide)]at q;exact q
 .exact g.hok.fresh (le_of_lt (x.above y c (PySem.mem_of_lookup h)))
 .unfold start;show _=N.length;rw[Z8,Z5,List.length_replicate]
  lia
theorem Ca{P:Program}{K:ZA}{U kV z Y d ct oc:Value}
 (lk:K.lookup f=some %[oc,od,.func (fnOf name c g i a U kV z Y an d ct)|ab]) (L:codeIn K d c=true) (S:aq N ps a)
 (len:∀vs H Q E,sp vs H Q E->vs.length=ps.length)
 (l:∀(A:Around) (outer:List Env) (s:Shared) (H:Hp) (vs:List V) (Q:VK) (E:XK),bC k (A.deeper (envOfC c a ⇑s f d))->sp vs H Q E->
  ∃t,PSs (eC CX P w K mg base N c a f d A outer s H E) i t/\t {nx:=λ_ j=>Q .non j,rt:=Q} (start N vs) H):
 fD P w K mg base CX (k+1) f (fnOf name c g i a U kV z Y an d ct) ps sp:=by
 refine%[len|λA outer s H args us vs Q E M B hb r C=>?_];have KX:=B.mod.kin.keeps λb o e=>(B.bs b o e).1
 have O:=B.mod.nolimit.keeps λb o e=>(B.bs b o e).1
 have m:∀y∈ps.zip us,a.names.lookup y.1=some _\/(a.names.lookup y.1=some _/\((cellsFrom (⇑s+1) a.names []).lookup y.1).isSome=true):=λ⟨n,v⟩ hy=>by
  rcases S.par n (of_mem_zip hy).1 with q|q
  .exact .inl q
  .exact .inr %[q|cellsFrom_some _ _ _ (.inl q)]
 refine codeAny_call_function M.depth (KX _ _ lk) rfl S.co S.gen rfl (PySem.W.codeRec_of KX L) (hb _ _ _ _ (wpAny_newFunctionEnv_cells S.kind m λenv he s1 x=>?_));subst he;refine%[O.keeps x.toInCall.keep|codeAny_func ?_];obtain⟨t,ht,hq⟩:=l A outer s H vs Q E (M.deeper _) C;have I:Inv (eC CX P w K mg base N c a f d A outer s H E) [] _ H s1:=v4 S M.hd B (len _ _ _ _ C) r x;refine wpAny_mono (ht [] s1 _ H _ I hq) (λfl s' p=>?_) λe s' p=>p
 have G:∀{h:St} {j:Hp} {v:V} {u:Value},Inv (eC CX P w K mg base N c a f d A outer s H E) [] h j s'->aK v u->Q v j->CE outer P w H s Q u s':=
  λ{h j v u} J T q=>%[v,j,J.os,J.bare,J.base,J.hok,T|q]
 cases fl with
 | ret u=>
   obtain⟨v,h,j,J,T,q⟩:=p;exact G J T q
 | next=>
   obtain⟨h,j,J,q⟩:=p;exact G (v:=V.non) J rfl q
 | brk=>
   obtain⟨_,_,_,q⟩:=p
   simp_all
 | cont=>
   obtain⟨_,_,_,q⟩:=p;exact False.elim q
section
variable{X:Cx}{x:Str}{p pos:Pos}{e:Expr}{es:List Expr}{t:TA}{id T:String}{r:List V->Hp->VK->Prop}
def tCB(r:List V->Hp->VK->Prop)(t:TA):TE:=λa H Q=>t a H λvs b=>r vs b Q
theorem yx(d:bK X (.builtin id) r)(f:Gl X x)(g:X.mg x=none)(i:bootBuiltins x=some (.builtin id))(j:PA X (e::es) t)(l:x≠"__name__")(a:(x==("__debug__":Str))=false)
 (m:starEach (e::es) X.env=(false,eval e X.env)::starEach es X.env) (b:(backTo pos (starEach es X.env)).any (·.1)=false):PE X (.Call (.Name x p) (e::es) [] pos) (tCB r t):=by
 intro pins s c H Q I h;exact wpAny_Call_Name_kw (iU I f g i (PyProof.Rows.callWith_builtin1 (thn (j pos pins s c H _ I h) λus n ⟨vs,o,q,u,v⟩=>d pins n c o vs us Q q u v) m b) l a)
theorem v5(d:bK X (.type T) r)(f:Gl X x)(g:X.mg x=none)(i:bootBuiltins x=some (.type T))(j:PA X (e::es) t)(l:x≠"__name__")(a:(x==("__debug__":Str))=false)
 (m:starEach (e::es) X.env=(false,eval e X.env)::starEach es X.env) (b:(backTo pos (starEach es X.env)).any (·.1)=false):PE X (.Call (.Name x p) (e::es) [] pos) (tCB r t):=by
 intro pins s c H Q I h;exact wpAny_Call_Name_kw (iU I f g i (PyProof.Rows.callWith_type1 (thn (j pos pins s c H _ I h) λus n ⟨vs,o,q,u,v⟩=>d pins n c o vs us Q q u v) m b) l a)
end
end L2
namespace HT
open PySem PyProof.Rows
section
open PySem.SeqAt
open PySem.AutoSeq1 (wpAny_loadPart')
open PySem.MeetsSeq PySem.MeetsSeq2 PySem.MeetsSeq3
end
section
#where
noncomputable def sIx(n d:Nat):Option Int->Nat
 | none=>d
 | some v=>if v<0 then(v+n).toNat else min v.toNat n
theorem sIx_none(n d:Nat):sIx n d none=d:=rfl
theorem sIx_nat(n d k:Nat):sIx n d (some k)=min k n:=by
 show(if k<0 then((k:Int) +n).toNat else min _ n)=min k n;rw[if_neg ⋯,Int.toNat_natCast]
theorem vb(v:Int)(n d:Nat):(if v<0 then max (v+n) 0 else min v n)=((sIx n d (some v))):=by
 show(if v<0 then max _ 0 else min v n)=(((if v<0 then(v+n).toNat else min v.toNat n):Nat))
 grind
theorem sX(lo hi:Option Int)(n:Nat):Builtin.Slice.sliceAdjust lo hi 1 n=(((sIx n 0 lo):Int),((sIx n n hi):Int)):=by
 refine Prod.ext ?_ ?_
 .cases lo with
  | none=>rfl
  | some v=>exact vb v n 0
 .cases hi with
  | none=>rfl
  | some v=>exact vb v n n
theorem sY(i j:Nat):Builtin.Slice.slicePlaces i j 1=j-i:=by
 unfold Builtin.Slice.slicePlaces;have a:(1:Int)>0:=by lia
 simp only[a,if_true,Int.ediv_one]
 split<;> lia
theorem lD(p:IsPart v o)(h:Q o s):↥A (Builtin.Slice.slicePartIndex v) Q E s:=by
 cases p with
 | none=>exact slicePart_none h
 | int i t=>exact slicePart_int h
theorem jS{lo hi:Option Int}{n:Nat}(c:s.heap.IsSliceOf d e f .none)(pl:IsPart e lo)(g:IsPart f hi)
 (h:Q (((sIx n 0 lo:Nat):Int),1,sIx n n hi-sIx n 0 lo) s):↥A (Builtin.Slice.sliceApplied (.ref d) (pure (n:Int))) Q E s:=by
 obtain⟨os,a,i,b⟩:=id c;refine Z2 (Z2 (wpAny_field a b rfl (Z2 (wpAny_field a b rfl (Z2 (wpAny_field a b rfl (Z3 (Z2 (slicePart_none (Z2 (lD pl (Z2 (lD g (Z2 (Z3 ?_)))))))))))))));show wpAny _ _ (match Builtin.Slice.sliceAdjust lo hi 1 n with|(lo,hi)=>pure (lo,(1:Int),Builtin.Slice.slicePlaces lo hi 1)) _ _ s;rw[sX lo hi n];show wpAny _ _ (pure _) _ _ s;rw[sY];exact Z3 h
theorem yy(xs:ZI)(i k:Nat):((List.range k).filterMap λ(m:Nat)=>xs[((i:Int) +m*1).toNat]?).toArray=((xs.toList.drop i).take k).toArray:=by
 have e:(λ(m:Nat)=>xs[((i:Int) +m*1).toNat]?)=λm=>xs[i+m]? :=by
  funext m;have:((i:Int) +m*1).toNat=i+m:=by lia
  rw[this]
 rw[e];have:=pick_run xs i k;rw[List.filterMap_map]at this;have a:((λx=>xs[x]?) ∘ λx=>i+x)=λm=>xs[i+m]? :=rfl
 rw[a]at this;rw[this]
theorem getItem_tuple_cut{lo hi:Option Int}(c:IsTup s.heap t a)(g:s.heap.IsSliceOf i j l .none)(pl:IsPart j lo)(m:IsPart l hi)
 (hw: ¬ (sIx a.size 0 lo=0/\sIx a.size a.size hi=a.size))
 (h:Q (.ref ⇑s) {s with heap:=s.heap.push {cls:= .type "tuple",data:= .seq ((a.toList.drop (sIx a.size 0 lo)).take (sIx a.size a.size hi-sIx a.size 0 lo)).toArray}})
 (n:a.size<=sizeLine):↥A (getItem (.ref t) (.ref i)) Q E s:=by
 have b:sizeOk (.seq ((a.toList.drop (sIx a.size 0 lo)).take (sIx a.size a.size hi-sIx a.size 0 lo)).toArray):=by
  show((a.toList.drop _).take _).toArray.size<=sizeLine;rw[Zo,Yd,Y9,Za]
  lia
 obtain⟨os,d,e,o⟩:=id g;unfold getItem
 try with_reducible refine wpAny_holding ?_
 refine Z2 (wpAny_sequenceKey c.typeIs (by decide) ?_);refine Z2 (wpAny_callSpecial?_slot c.typeIs PyProof.Rows.slot_tuple_getitem
  (wpAny_call_entry PyProof.Rows.slot_tuple_getitem c.typeIs entry_tuple_getitem ?_ (args_tuple_getitem _ _)))
 show wpAny _ _ (Builtin.Tuple.tupleItemsOf _>>= _) _ _ s;refine Z2 (tupleItemsOf_ c (Z2 (wpAny_typeOf %[os,d|e] (Z2 (jS g pl m ?_)))));have f: ¬ ((((sIx a.size 0 lo):Int)==0&&(1:Int)==1&&(sIx a.size a.size hi-sIx a.size 0 lo)==a.size)=true):=by
  lia
 show wpAny _ _ (if(((sIx a.size 0 lo):Int)==0&&(1)==1&&(sIx a.size a.size hi-sIx a.size 0 lo)==a.size)=true then _ else _) _ _ s;rw[if_neg f,yy]
 first
  | exact Z2 (wpAny_newObj_type (Z3 ⟨_,rfl,Z3 h⟩) b)
  | lia
  | lia
  | lia
end
end HT
namespace L2
open PySem PySem.Spec PyProof.Rows
noncomputable abbrev TO:=St->Hp->(Option Int->Hp->Prop)->Prop
def PO(X:Cx)(e:Option Expr)(t:TO):Prop:=
 ∀pins s (a:St) H Q,Inv X pins a H s->t a H Q->
  (~~~X) (evalPart e X.env) (λu s'=>∃o b,Inv X pins a b s'/\IsPart u o/\Q o b) X.xe s
def oZ:TO:=λ_ H Q=>Q none H
def yz(t:TE):TO:=λa H Q=>t a H λx b=>asI x λi=>Q (some i) b
section
variable{X:Cx}{e:Expr}{te:TE}{lo hi:Option Expr}{tl th:TO}{pos p2:Pos}
theorem AT:PO X none oZ:=by
 intro pins s a H Q I h;exact Z3 %[none,H,I,.none|h]
theorem AU(h:PE X e te):PO X (some e) (yz te):=by
 intro pins s a H Q I hw;refine thn (h pins s a H _ I hw) λu g ⟨x,b,c,d,f⟩=>?_
 obtain⟨i,rfl,q⟩:=gZ f;obtain⟨t,rfl⟩:=d;exact%[some i,b,c,.int i t|q]
def SlR(X:Cx)(r:V->Option Int->Option Int->Hp->VK->Prop):Prop:=
 ∀pins s (a:St) H x v b c lo hi d Q,Inv X pins a H s->aK x v->s.heap.IsSliceOf d b c .none->IsPart b lo->IsPart c hi->r x lo hi H Q->
  ∃T id,typeLookup (.type T) "__getitem__"=pure (some (.builtin id))/\s.TypeIs v T/\(~~~X) (getItem v (.ref d)) (EP X pins a Q) X.xe s
theorem SlR.or(h:SlR X r)(h':SlR X j):SlR X (λx lo hi H Q=>r x lo hi H Q\/j x lo hi H Q):=by
 intro pins s a H x v b c lo hi d Q I f g pl i q;rcases q with q|q
 .exact h pins s a H x v b c lo hi d Q I f g pl i q
 .exact h' pins s a H x v b c lo hi d Q I f g pl i q
def tSl(r:V->Option Int->Option Int->Hp->VK->Prop)(te:TE)(tl th:TO):TE:=λa H Q=>te a H λx b=>tl a b λl c=>th a c λu d=>r x l u d Q
theorem yA(c:SlR X r)(d:PE X e te)(f:PO X lo tl)(g:PO X hi th):PE X (.Subscript e (.Slice lo hi none p2) pos) (tSl r te tl th):=by
 intro pins s a H Q I h;refine Subscript_ (thn (d pins s a H _ I h) λv i ⟨x,j,m,n,o⟩=>wpAny_Slice (thn (f pins i a j _ m o) λp t ⟨l,w,y,pl,z⟩=>thn (g pins t a w _ y z) λA B ⟨u,C,E,G,J⟩=>Z3 ?_));obtain⟨T,id,L,M,N⟩:=c pins _ a C x v p A l u ⇑B Q (E.kept λb O q=>Z6 _ q) n (Heap.IsSliceOf.new ..) pl G J;exact tail_any M L N (by with_unfolding_all rfl)
noncomputable def qL(xs:List V)(lo hi:Option Int):List V:=(xs.drop (HT.sIx xs.length 0 lo)).take (HT.sIx xs.length xs.length hi-HT.sIx xs.length 0 lo)
theorem kB(xs:List V)(lo hi:Option Int):(qL xs lo hi).length<=xs.length:=by
 unfold qL;rw[Yd,Y9]
 lia
def Db(K:ZA):V->Option Int->Option Int->Hp->VK->Prop:=λx lo hi H Q=>∃a xs,x= .ref a/\SqT K H a xs/\
 ¬ (HT.sIx xs.length 0 lo=0/\HT.sIx xs.length xs.length hi=xs.length)/\∀p,H p=none->Q (.ref p) (upd H p (.tup (qL xs lo hi)))
theorem Dc:SlR X (Db X.K):=by
 intro pins s m H x v n o lo hi p Q I g i pl j h;obtain⟨a,xs,rfl,l,hw,q⟩:=h;cases g;obtain⟨its,r,d,f⟩:=I.tuple l;have c:its.toArray.size=xs.length:=r.length.symm;refine%["tuple",_,PyProof.Rows.slot_tuple_getitem.lookup,d.typeIs|HT.getItem_tuple_cut d i pl j (c▸hw) ?_ (c▸f)];rw[c];refine%[.ref ⇑s,_,I.laid (λb t q=>Z6 _ q) (Zh _) ?_,rfl|q _ (I.hok.fresh (Zh _))];exact%[Y8 (kB xs lo hi) f,_,(r.drop _).take _|IsTup.new _ _]
end
noncomputable def ixN(n:Nat)(i:Int):Option Nat:=if 0<=i then(if i<n then some i.toNat else none)else if -n<=i then some (i+n).toNat else none
noncomputable def atI{a:Type}(xs:List a)(i:Int):Option a:=(ixN xs.length i).bind λj=>xs[j]?
theorem AV(h:ixN n i=some j):seqIndex? i n=some j/\j<n/\ -(n:Int)<=i/\i<n:=by
 unfold ixN at h;by_cases b:0<=i
 .rw[if_pos b]at h;by_cases a:i<n
  .rw[if_pos a]at h;exact%[by rw[seqIndex_of b a,(Z9 h)],⋯,⋯|a]
  simp_all
 .rw[if_neg b]at h;by_cases a: -n<=i
  .rw[if_pos a]at h;exact%[by rw[seqIndex_neg ⋯ a,(Z9 h)],⋯,a|⋯]
  .rw[if_neg a]at h;cases h
theorem pc{a:Type}{xs:List a}{i:Int}{v:a}(h:atI xs i=some v):∃j,seqIndex? i xs.length=some j/\xs[j]? =some v/\j<xs.length/\ -xs.length<=i/\i<xs.length:=by
 unfold atI at h;cases e:ixN xs.length i with
 | none=>simp_all
 | some j=>
   rw[e]at h;obtain⟨b,c,d,f⟩:=AV e;exact%[j,b,h,c,d|f]
theorem cu{a:Type}{xs:List a}{j:Nat}{v:a}(h:xs[j]? =some v):atI xs j=some v:=by
 have b:=(X3 h).1;have e:ixN xs.length j=some j:=by
  unfold ixN
  simp_all
 unfold atI;exact e▸h
theorem lE(xs:List a)(v:a):atI (xs++[v]) (-1)=some v:=by
 have b:(xs++[v]).length=xs.length+1:=by simp
 have e:ixN (xs++[v]).length (-1)=some xs.length:=by
  unfold ixN;rw[b,if_neg (by decide),if_pos ⋯]
  congr 1
  lia
 unfold atI
 simp_all
def lq(b:Expr):Prop:=∀o i,subscripted b false o i=operate [o,i] (getItem o i)
def IxR(X:Cx)(r:R2):Prop:=
 ∀b a pins s (c:St) H x y v u Q,Inv X pins c H s->aK x v->aK y u->r x y H Q->
  subscripted a false v u=operate [v,u] (getItem v u)->(~~~X) (subscriptTail b a v u) (EP X pins c Q) X.xe s
def MtR(X:Cx)(id:String)(r:V->List V->Hp->VK->Prop):Prop:=
 ∀pins s (a:St) H x xs v us Q,Inv X pins a H s->aK x v->aC xs us->r x xs H Q->
  (~~~X) (call (.builtin id) (v::us)) (EP X pins a Q) X.xe s
section
variable{X:Cx}{a b:Expr}{ta tb:TE}{pos:Pos}
theorem yB(c:IxR X r)(d:PE X a ta)(e:PE X b tb)(f:lq b):PE X (.Subscript a b pos) (tOp r ta tb):=by
 intro pins s g H Q I h;exact Subscript_ (CT d e I h λv u i x y j l m n q=>c a b pins i g j x y v u Q l m n q (f _ _))
def Dd(K:ZA):R2:=λx y H Q=>asR x λp=>asI y λi=>∃xs,SqL K H p xs/\∃v,atI xs i=some v/\Q v H
def De(K:ZA):R2:=λx y H Q=>asR x λp=>asI y λi=>∃xs,SqT K H p xs/\∃v,atI xs i=some v/\Q v H
def Df:R2:=λx y H Q=>∃z i c,x= .str z/\y= .int i/\z.length<=sizeLine/\atI z.cps.toList i=some c/\Q (.str ⟨#[c]⟩) H
theorem AW:IxR X (Dd X.K):=by
 intro e f pins s B H x y v u Q I C E h n;obtain⟨p,rfl,g⟩:=fC h;obtain⟨i,rfl,xs,G,z,J,q⟩:=gZ g;cases C;obtain⟨t,rfl⟩:=E;obtain⟨its,r,pl,O⟩:=I.list G;obtain⟨j,d,g,T,L,M⟩:=pc J;obtain⟨w,o,l⟩:=r.get g;have N:=r.length;have U:=oY;have c:EP X pins B Q w s:=%[z,H,I,l|q]
 by_cases A:0<=i
 .have m:=by
   rw[seqIndex_of A M]at d;exact Z9 d
  exact item_listR pl.isList A ⋯ (by rw[m];simpa using o) c n
 .have m:(i+its.toArray.size).toNat=j:=by
   rw[seqIndex_neg ⋯ L]at d;rw[Zo,<-N];exact Z9 d
  exact subscriptTail_builtinR pl.isList.typeIs slot_list_getitem.lookup
   (wpAny_getItem_list_neg pl.isList ⋯ (by simp_all) ⋯ (by rw[m];simpa using o) %[rfl|c]) n
theorem Dg:IxR X (De X.K):=by
 intro c d pins s l H x y v u Q I m n h o;obtain⟨p,rfl,e⟩:=fC h;obtain⟨i,rfl,xs,A,z,B,q⟩:=gZ e;cases m;obtain⟨t,rfl⟩:=n;obtain⟨its,r,pl,G⟩:=I.tuple A;obtain⟨j,C,e,J,L,M⟩:=pc B;obtain⟨w,E,f⟩:=r.get e;have N:=oY;have g:EP X pins l Q w s:=%[z,H,I,f|q]
 exact subscriptTail_builtinR pl.typeIs slot_tuple_getitem.lookup
  (getItem_tuple pl ⋯ ⋯ (by rw[Zo,<-r.length];exact C) (by simpa using E) %[rfl|g]) o
theorem Dh:IxR X Df:=by
 intro d e pins s A H x y v u Q I g l h m;obtain⟨z,i,c,rfl,rfl,B,n,q⟩:=h;obtain⟨t,rfl⟩:=g;obtain⟨t',rfl⟩:=l;obtain⟨j,f,o,C,p,r⟩:=pc n;have w:z.cps.toList.length=z.length:=by simp[Str.length]
 rw[w]at f p r;have E:=oY;exact tail_any (typeIs_str s z t) slot_str_getitem.lookup (getItem_str (by
  lia) (by rw[f];simpa using o) %[.str _,H,I.tok _,%[_|rfl]|q]) m
theorem pd(lo hi:Option Int)(n:Nat):(sliceBounds lo hi none n).1=((HT.sIx n 0 lo:Nat):Int)/\(sliceBounds lo hi none n).2.1=((HT.sIx n n hi:Nat):Int)/\(sliceBounds lo hi none n).2.2=1:=by
 refine%[?_,?_|rfl]
 .cases lo with
  | none=>simp[sliceBounds,HT.sIx]
  | some i=>
    simp only[sliceBounds,HT.sIx,getD_none,show(1:Int)>0 by decide,if_true];by_cases h:i<0
    .simp only[h,if_true]<;> lia
    .simp only[h,if_false]<;> lia
 .cases hi with
  | none=>simp[sliceBounds,HT.sIx]
  | some i=>
    simp only[sliceBounds,HT.sIx,getD_none,show(1:Int)>0 by decide,if_true];by_cases h:i<0
    .simp only[h,if_true]<;> lia
    .simp only[h,if_false]<;> lia
theorem m4(its:ZF)(lo hi:Option Int):slicePick its.toArray lo hi none=((its.drop (HT.sIx its.length 0 lo)).take (HT.sIx its.length its.length hi-HT.sIx its.length 0 lo)).toArray:=by
 obtain⟨c,d,e⟩:=pd lo hi its.toArray.size;unfold slicePick;rw[c,d,e];simp only[sliceRange_one,pick_run]<;> rfl
def Di(K:ZA):V->Option Int->Option Int->Hp->VK->Prop:=λx lo hi H Q=>∃a xs,x= .ref a/\SqL K H a xs/\∀p,H p=none->Q (.ref p) (upd H p (.lst (qL xs lo hi)))
theorem AX:SlR X (Di X.K):=by
 intro pins s l H x v m n lo hi o Q I e f pl g h;obtain⟨a,xs,rfl,i,q⟩:=h;cases e;obtain⟨its,r,d,j⟩:=I.list i;have c:=r.length;refine%["list",_,slot_list_getitem.lookup,d.isList.typeIs|wpAny_getItem_list_slice d.isList f pl g .none ∅ ?_ (by simp_all)];rw[m4,<-c];refine%[.ref ⇑s,_,I.laid (λb p q=>Z6 _ q) (Zh _) ?_,rfl|q _ (I.hok.fresh (Zh _))];exact%[Y8 (kB xs lo hi) j,_,0,(r.drop _).take _|Zi _ rfl]
noncomputable def eD:V->Bool
 | .non=>true
 | .bl _=>true
 | .int _=>true
 | .str _=>true
 | _=>false
noncomputable def eqV:V->V->Bool
 | .non,.non=>true
 | .bl a,.bl b=>a==b
 | .bl a,.int b=>(if a then 1 else 0)==b
 | .int a,.bl b=>a==(if b then 1 else 0)
 | .int a,.int b=>a==b
 | .str a,.str b=>a==b
 | _,_=>false
theorem yC(d:aK y u)(c:aK x v)(f:eD y=true)(e:eD x=true):SeqAt.EqAt A s u v (eqV y x):=by
 cases y with
 | non=>
   cases d;cases x with
   | non=>cases c;exact SeqAt.EqAt.same _
   | bl b=>cases c;exact SeqAt.EqAt.none_bool b
   | int b=>obtain⟨t,rfl⟩:=c;exact SeqAt.EqAt.none_int b t
   | str b=>obtain⟨t,rfl⟩:=c;exact SeqAt.EqAt.none_str b t
   | _=>exact absurd (show false=true from e) Zs
 | bl a=>
   cases d;cases x with
   | non=>cases c;exact SeqAt.EqAt.bool_none a
   | bl b=>cases c;exact SeqAt.EqAt.bool_bool a b
   | int b=>obtain⟨t,rfl⟩:=c;exact SeqAt.EqAt.bool_int a b t
   | str b=>obtain⟨t,rfl⟩:=c;exact SeqAt.EqAt.bool_str a b t
   | _=>exact absurd (show false=true from e) Zs
 | int a=>
   obtain⟨t',rfl⟩:=d;cases x with
   | non=>cases c;exact SeqAt.EqAt.int_none a t'
   | bl b=>cases c;exact SeqAt.EqAt.int_bool a t' b
   | int b=>obtain⟨t,rfl⟩:=c;exact SeqAt.EqAt.int_int a t' b t
   | str b=>obtain⟨t,rfl⟩:=c;exact SeqAt.EqAt.int_str a t' b t
   | _=>exact absurd (show false=true from e) Zs
 | str a=>
   obtain⟨t',rfl⟩:=d;cases x with
   | non=>cases c;exact SeqAt.EqAt.str_none a t'
   | bl b=>cases c;exact SeqAt.EqAt.str_bool a t' b
   | int b=>obtain⟨t,rfl⟩:=c;exact SeqAt.EqAt.str_int a t' b t
   | str b=>obtain⟨t,rfl⟩:=c;exact SeqAt.EqAt.str_str a t' b t
   | _=>exact absurd (show false=true from e) Zs
 | _=>exact absurd (show false=true from f) Zs
noncomputable def eqU(x:V)(u:Value):Bool:=match u with
 | .none=>eqV .non x
 | .bool b=>eqV (.bl b) x
 | .int i _=>eqV (.int i) x
 | .str z _=>eqV (.str z) x
 | _=>false
theorem yD(r:aK y u)(f:eD y=true):eqU x u=eqV y x:=by
 cases y with
 | non=>cases r;rfl
 | bl b=>cases r;rfl
 | int i=>obtain⟨t,rfl⟩:=r;rfl
 | str z=>obtain⟨t,rfl⟩:=r;rfl
 | _=>exact absurd (show false=true from f) Zs
theorem jo:∀{xs:List V} {us:ZF},aC xs us->xs.all eD=true->us.any (eqU x)=xs.any λy=>eqV y x
 | _,_,.nil,_=>rfl
 | y::xs,u::us,.cons r t,f=>by
   rw[List.all_cons,Zu]at f;rw[Zv,Zv,yD r f.1,jo t f.2]
theorem hJ(d:aK x v)(e:eD x=true):∀{xs:List V} {us:ZF},aC xs us->xs.all eD=true->∀u∈us,SeqAt.EqAt A s u v (eqU x u)
 | _,_,.nil,_=>λu c=>by cases c
 | y::xs,u::us,.cons r t,f=>λg c=>by
   rw[List.all_cons,Zu]at f;rcases mem_cons.mp c with rfl|c
   .rw[yD r f.1];exact yC r d f.1 e
   .exact hJ d e t f.2 g c
noncomputable def inV(x:V)(xs:List V):Bool:=xs.any λy=>eqV y x
def rIn(K:ZA)(c:Bool):R2:=λx y H Q=>∃p xs,y= .ref p/\(SqL K H p xs\/SqT K H p xs)/\eD x=true/\xs.all eD=true/\Q (.bl (if c then !inV x xs else inV x xs)) H
theorem v6:OpR X (compareOp .In) (rIn X.K false):=by
 intro pins s i H x y v u Q I d f h;obtain⟨p,xs,rfl,c,e,fs,q⟩:=h;cases f;rcases c with c|c
 .obtain⟨its,r,pl,g⟩:=I.list c;refine SeqAt.in_listAt _ pl.isList (λw hw=>hJ d e r fs w (by simpa using hw)) %[.bl _,H,I,rfl|?_];rw[show its.toArray.any _=its.any (eqU x) by simp,jo r fs];exact q
 .obtain⟨its,r,pl,g⟩:=I.tuple c;refine SeqAt.in_tupleAt _ pl (λw hw=>hJ d e r fs w (by simpa using hw)) %[.bl _,H,I,rfl|?_];rw[show its.toArray.any _=its.any (eqU x) by simp,jo r fs];exact q
theorem pf:OpR X (compareOp .NotIn) (rIn X.K true):=by
 intro pins s i H x y v u Q I d f h;obtain⟨p,xs,rfl,c,e,fs,q⟩:=h;cases f;rcases c with c|c
 .obtain⟨its,r,pl,g⟩:=I.list c;refine SeqAt.notIn_listAt _ pl.isList (λw hw=>hJ d e r fs w (by simpa using hw)) %[.bl _,H,I,rfl|?_];rw[show its.toArray.any _=its.any (eqU x) by simp,jo r fs];exact q
 .obtain⟨its,r,pl,g⟩:=I.tuple c;refine SeqAt.notIn_tupleAt _ pl (λw hw=>hJ d e r fs w (by simpa using hw)) %[.bl _,H,I,rfl|?_];rw[show its.toArray.any _=its.any (eqU x) by simp,jo r fs];exact q
theorem ph:OpR X (compareOp .NotIn) (λx y H Q=>∃i j,x= .str i/\y= .str j/\Q (.bl (!(!(Builtin.Str.occurrences j i 0 j.length 1).isEmpty))) H):=by
 intro pins s e H x y v u Q I c d h;obtain⟨i,j,rfl,rfl,q⟩:=h;obtain⟨t,rfl⟩:=c;obtain⟨t',rfl⟩:=d;exact notIn_str %[.bl _,H,I,rfl|q]
theorem pj:bK X (.type "list") (λxs H Q=>∃p ys,xs=[.ref p]/\(SqL X.K H p ys\/SqT X.K H p ys)/\∀l,H l=none->Q (.ref l) (upd H l (.lst ys))):=by
 intro pins s z H xs us Q I r h;obtain⟨p,ys,rfl,f,q⟩:=h;obtain⟨u,rfl,A⟩:=cR r;cases A;have g:∀its,aC ys its->ys.length<=sizeLine->∀h' d,(∀b y,s.heap.get? b=some y->h'.get? b=some y)->
  h'.get? ⇑s=some _->EP X pins z Q _ (s>>>h'):=λits c i h' d j e=>
  %[.ref ⇑s,_,I.laid j (Zh _) (show ci X.prog X.w _ h' _ (.lst ys)from%[i,its,d,c|e]),rfl|q _ (I.hok.fresh (Zh _))]
 rcases f with f|f
 .obtain⟨its,c,pl,i⟩:=I.list f;have m:=c.length;obtain⟨o,t,v,n,w⟩:=pl.isList;exact call_list_seq p (.inl rfl) t v w (λh' d j e=>g its c i h' d j e) (by simp only[Zo]<;> lia)
 .obtain⟨its,c,pl,i⟩:=I.tuple f;have m:=c.length;obtain⟨o,t,v,n,w⟩:=pl;exact call_list_seq p (.inr rfl) t v w (λh' d j e=>g its c i h' d j e) (by simp only[Zo]<;> lia)
def tyV(K:ZA)(T:String)(x:V)(H:Hp):Prop:=match x with
 | .str _=>T="str"
 | .int _=>T="int"
 | .ref p=>(T="list"/\∃xs,SqL K H p xs)\/(T="tuple"/\∃o,K.lookup p=some o/\o.cls= .type "tuple"/\o.dict=none)\/
  (T="dict"/\((∃c,H p=some (.dK c))\/∃c,H p=some (.dT c)))\/(T="set"/\∃S n,H p=some (.set S n))
 | _=>False
theorem yE(I:Inv X pins q H s)(r:aK x v)(ty:tyV X.K T x H):
 s.TypeIs v T/\∀a,v= .ref a->∃j,s.heap.get? a=some j/\j.dict=none:=by
 cases x with
 | str z=>
   obtain⟨t,rfl⟩:=r;cases(show T="str" from ty);exact%[typeIs_str s z t|λ_ e=>nomatch e]
 | int i=>
   obtain⟨t,rfl⟩:=r;cases(show T="int" from ty);exact%[typeIs_int s i t|λ_ e=>nomatch e]
 | ref p=>
   cases r;rcases ty with⟨rfl,xs,l⟩|⟨rfl,o,d,m,f⟩|⟨rfl,d⟩|⟨rfl,S,n,d⟩
   .obtain⟨its,_,pl,_⟩:=I.list l;refine%[pl.isList.typeIs|λa e=>?_];cases e;obtain⟨o,n,e,c,f,_⟩:=pl;exact%[o,e|f]
   .refine%[%[o,I.kIn p o d|m]|λa e=>?_];cases e;exact%[o,I.kIn _ o d|f]
   .have z:∃o,s.heap.get? p=some o/\o.ExactDict:=by
     rcases d with⟨g,d⟩|⟨g,d⟩
     .obtain⟨_,_,_,_,o,_,_,e,ex,_⟩:=I.hok p _ d;exact%[o,e|ex]
     .obtain⟨_,_,_,_,o,_,_,e,ex,_⟩:=I.hok p _ d;exact%[o,e|ex]
    obtain⟨o,e,ex⟩:=z;refine%[%[o,e|ex.1]|λa h=>?_];cases h;exact%[o,e|ex.2.1]
   .obtain⟨o,_,_,_,e,ex,_⟩:=I.hok p _ d;refine%[%[o,e|ex.1]|λa h=>?_];cases h;exact%[o,e|ex.2.1]
 | _=>exact False.elim ty
def AY(K:ZA)(T:String)(r:V->List V->Hp->VK->Prop)(d:TE):TE:=λe H Q=>d e H λx c=>tyV K T x c/\r x [] c Q
def tBM(K:ZA)(T:String)(r:V->List V->Hp->VK->Prop)(e:TE)(t:TA):TE:=λc H Q=>e c H λx d=>tyV K T x d/\t c d λxs f=>r x xs f Q
variable{o e:Expr}{es:List Expr}{to:TE}{t:TA}{name:Str}{apos cpos:Pos}{T id:String}{r:V->List V->Hp->VK->Prop}
theorem Dj(l:PlainAttrs T)(slot:Slot T name id)(f:typeOf (.builtin id)=pure (.type "method_descriptor"))(m:MtR X id r)(n:PE X o to)
 (c:attributeBase o name X.env (eval o X.env)=eval o X.env) (d:(apos.endLine==cpos.line)=true):PE X (.Call (.Attribute o name apos) [] [] cpos) (AY X.K T r to):=by
 intro pins s g H Q I h;refine wpAny_Call_method0_late c d (thn (n pins s g H _ I h) λv p ⟨x,q,i,j,ty,u⟩=>?_);obtain⟨w,y⟩:=yE i j ty;exact%[T,id,l,slot,f,w,y|Calls.callWith_builtin rfl (PySem.evalArgs_none (m pins p g q x [] v [] Q i j .nil u))]
theorem E7(p:PlainAttrs T)(slot:Slot T name id)(i:typeOf (.builtin id)=pure (.type "method_descriptor"))(q:MtR X id r)(u:PE X o to)(w:PA X (e::es) t)
 (d:attributeBase o name X.env (eval o X.env)=eval o X.env)
 (g:((backTo cpos (starEach (e::es) X.env)).all (λx=>!x.1)&&(backToKw cpos (keywordEach [] X.env)).all (λx=>x.1.isSome)
  && decide ((e::es).length+([]:List Keyword).length+(if([]:List Keyword).isEmpty then 0 else 1)<30))=true)
 (f:(apos.endLine==cpos.line)=true) (y:starEach (e::es) X.env=(false,eval e X.env)::starEach es X.env) (c:(backTo cpos (starEach es X.env)).any (·.1)=false):
 PE X (.Call (.Attribute o name apos) (e::es) [] cpos) (tBM X.K T r to t):=by
 intro pins s j H Q I h;refine wpAny_Call_method_late d g f rfl (thn (u pins s j H _ I h) λv z ⟨x,A,l,m,ty,B⟩=>?_);obtain⟨C,E⟩:=yE l m ty;refine%[T,id,p,slot,i,C,E|?_];have n:=w cpos pins z j A _ l B;rw[y]at n ⊢;exact Calls.callWith_builtin (by show(false||(backTo cpos _).any _)=false;rw[c]<;> rfl) (Calls.evalArgs_plain (thn n λus G ⟨vs,J,L,M,N⟩=>q pins G j J x vs v us Q L m M N))
end
def MtM(X:Cx)(id:String)(r:V->List V->Hp->VK->Prop):Prop:=
 ∀pins s (a:St) H x xs v us Q,Inv X pins a H s->aK x v->aC xs us->r x xs H Q->
  (~~~X) (call (.builtin id) (v::us)) (EP X pins a Q) X.xe s
theorem aC.one:∀{x:V} {us:ZF},aC [x] us->∃u,us=[u]/\aK x u
 | _,_,.cons r .nil=>%[_,rfl|r]
theorem aC.zero:∀{us:ZF},aC [] us->us=[]
 | _,.nil=>rfl
theorem aC.eraseIdx:∀{xs:List V} {us:ZF} i,aC xs us->aC (xs.eraseIdx i) (us.eraseIdx i)
 | _,_,_,.nil=> .nil
 | _,_,0,.cons _ t=>t
 | _,_,i+1,.cons r t=> .cons r (aC.eraseIdx i t)
theorem aC.reverse(h:aC xs us):aC xs.reverse us.reverse:=by
 induction h with
 | nil=>exact .nil
 | cons r t a=>rw[List.reverse_cons,List.reverse_cons];exact aC.append a (.cons r .nil)
theorem aC.rep(h:aC xs us):∀k:Nat,aC (List.replicate k xs).flatten (List.replicate k us).flatten
 | 0=> .nil
 | k+1=>by
   exact aC.append h (aC.rep h k)
theorem nW:∀(l:List a) (i:Nat),(l.eraseIdx i).length<=l.length
 |[],_=>Zh _
 | _::_,0=>Y7 _
 | _::r,i+1=>Nat.succ_le_succ (nW r i)
theorem nX(its:ZF):∀k acc,
 List.foldl (λx1 x2=>x1++x2) acc.toArray (List.replicate k its.toArray)=(acc++(List.replicate k its).flatten).toArray
 | 0,acc=>by simp
 | k+1,acc=>by
   have e:acc.toArray++its.toArray=(acc++its).toArray:=by simp
   have a:(acc++its) ++(List.replicate k its).flatten=acc++(List.replicate (k+1) its).flatten:=by
    rw[List.replicate_succ,List.flatten_cons,Zd]
   rw[<-a,<-nX its k _,<-e,List.replicate_succ,foldl_cons]
section
#version
variable{l b:Addr}{xs ys zs:List V}
theorem Inv.lset{its its':ZF}{n:Nat}{f:ZI->ZI}{t':Nat}(I:Inv X pins σ H s)(a:H l=some (.lst xs))
 (e:s.heap.get? l=some {cls:= .type "list",data:= .seq its.toArray n}) (c:f its.toArray=its'.toArray) (d:aC ys its') (g:ys.length<=sizeLine):
 Inv X pins σ (upd H l (.lst ys)) {s with heap:=s.heap.update l (Obj.mapSeq f),toks:=t'}:=by
 have q:=PySem.IsL.update e f;rw[c]at q;refine I.write (a▸trivial) (.inl rfl) (λj u h i=>(get?_update_other s.heap _ (Ne.symm h)).trans i) %[_|q] ?_;exact%[g,its',_,d|q]
theorem Inv.lnew(I:Inv X pins σ H s)(a:aC ys its)(c:ys.length<=sizeLine):
 Inv X pins σ (upd H ⇑s (.lst ys)) {s with heap:=s.heap.push {cls:= .type "list",data:= .seq its.toArray},toks:=t'}:=
 I.laid (λ_ _ q=>Z6 _ q) (Zh _) %[c,its,0,a|Zi _ rfl]
theorem Inv.fresh(I:Inv X pins σ H s):H ⇑s=none:=I.hok.fresh (Zh _)
theorem Inv.lstM(I:Inv X pins σ H s)(a:H l=some (.lst xs)):xs.length<=sizeLine/\∃its n,aC xs its/\xs.length=its.length/\s.heap.get? l=some {cls:= .type "list",data:= .seq its.toArray n}:=by
 obtain⟨z,its,n,r,e⟩:=I.hok l _ a;exact%[z,its,n,r,r.length|e]
theorem qM{n:Nat}(h:n<=sizeLine):Builtin.List.listTooLong n=false:=by
 unfold Builtin.List.listTooLong
 simp_all
end
section
variable{X:Cx}
def pq:V->List V->Hp->VK->Prop:=λx vs H Q=>asR x λl=>∃y,vs=[y]/\∃xs,H l=some (.lst xs)/\xs.length<sizeLine/\Q .non (upd H l (.lst (xs++[y])))
theorem nY:MtM X "list.append" pq:=by
 intro pins s f H x vs v us Q I b c h;obtain⟨l,rfl,y,rfl,xs,a,g,q⟩:=fC h;cases b;obtain⟨u,rfl,d⟩:=c.one;obtain⟨z,its,n,r,i,e⟩:=I.lstM a;refine call_meets F.slot_list_append %[_,e|rfl] F.entry_list_append (F.args_list_append_2 _ _) (PySem.list_append l its.toArray n u (by simp_all)) %[e,.non,_,I.lset a e ∅ (r.append (.cons d .nil)) ?_,rfl|q];rw[Z8,Yc]
 lia
def pw:V->List V->Hp->VK->Prop:=λx vs H Q=>∃l b xs zs,x= .ref l/\vs=[.ref b]/\H l=some (.lst xs)/\H b=some (.lst zs)/\xs.length+zs.length<=sizeLine/\Q .non (upd H l (.lst (xs++zs)))
theorem v7:MtM X "list.extend" pw:=by
 intro pins s w H x vs v us Q I f g h;obtain⟨l,b,xs,zs,rfl,rfl,d,i,y,q⟩:=h;cases f;obtain⟨u,rfl,j⟩:=g.one;cases j;obtain⟨z,its,n,r,A,e⟩:=I.lstM d;obtain⟨B,its2,m,o,p,t⟩:=I.lstM i;have c:its.toArray.size+its2.toArray.size<=sizeLine:=by simp_all
 have a: ¬ (!its.toArray.isEmpty&&Builtin.List.listTooLong (its.toArray.size+its2.toArray.size))=true:=by
  rw[qM c,Bool.and_false];exact Zs
 refine call_meets F.slot_list_extend %[_,e|rfl] F.entry_list_extend (F.args_list_extend_2 _ _)
  (AutoSeq1.list_extend_list_list_0 l its.toArray n b its2.toArray m a ⋯ ⋯) %[e,t,.non,_,I.lset d e ∅ (r.append o) ?_,rfl|q]
 simp_all
def sZ:V->List V->Hp->VK->Prop:=λx vs H Q=>∃l xs,x= .ref l/\vs=[]/\H l=some (.lst xs)/\Q .non (upd H l (.lst []))
theorem yF:MtM X "list.clear" sZ:=by
 intro pins s f H x vs v us Q I c d h;obtain⟨l,xs,rfl,rfl,b,q⟩:=h;cases c;have a:=d.zero;subst a;obtain⟨z,its,n,r,g,e⟩:=I.lstM b;exact call_meets F.slot_list_clear %[_,e|rfl] F.entry_list_clear (F.args_list_clear_1 _) (AutoSeq1.list_clear_list_0 l its.toArray n (by rw[Zo];lia)) %[e,.non,_,I.lset b e rfl .nil (Yy _),rfl|q]
def Dk:R2:=λx y H Q=>∃l b xs zs,x= .ref l/\y= .ref b/\H l=some (.lst xs)/\H b=some (.lst zs)/\xs.length+zs.length<=sizeLine/\∀p,H p=none->Q (.ref p) (upd H p (.lst (xs++zs)))
theorem Dl:OpR X (binaryOp .Add) Dk:=by
 intro pins s o H x y v u Q I a c h;obtain⟨l,b,xs,zs,rfl,rfl,d,f,p,q⟩:=h;cases a;cases c;obtain⟨z,its,n,r,t,e⟩:=I.lstM d;obtain⟨w,its2,A,g,i,j⟩:=I.lstM f;refine PySem.P.add_list e j ?_ (by rw[Zo,Zo];lia);have m:its.toArray++its2.toArray=(its++its2).toArray:=by simp
 rw[m];exact%[.ref _,_,I.lnew (r.append g) (by rw[Z8];lia),rfl|q _ I.fresh]
def Dm:R2:=λx y H Q=>∃l k xs,x= .ref l/\y= .int k/\H l=some (.lst xs)/\ -(2^63)<=k/\k<2^63/\xs.length*k.toNat<=sizeLine/\
 ∀p,H p=none->Q (.ref p) (upd H p (.lst (List.replicate k.toNat xs).flatten))
theorem AZ(xs:List a)(k:Nat):(List.replicate k xs).flatten.length=k*xs.length:=by
 simp
theorem Do:OpR X (binaryOp .Mult) Dm:=by
 intro pins s C H x y v u Q I j o h;obtain⟨l,k,xs,rfl,rfl,p,w,A,i,q⟩:=h;cases j;obtain⟨t,rfl⟩:=o;obtain⟨z,its,n,r,B,e⟩:=I.lstM p;have c:its.toArray.size*k.toNat<=sizeLine:=by rw[Zo,<-B];exact i
 have d: ¬ its.toArray.size*k.toNat>(2^63-1)/8:=by
  have:sizeLine<=(2^63-1)/8:=by decide
  lia
 have f: ¬ (!Builtin.List.listFitsIndex k)=true:=by
  rw[fitsIndex_both w A];exact Zs
 have b: ¬ Builtin.List.listTooLong (its.toArray.size*k.toNat)=true:=by
  rw[qM c];exact Zs
 have g:List.foldl (λx1 x2=>x1++x2) #[] (List.replicate (if its.toArray.isEmpty=true then 0 else k.toNat) its.toArray)=(List.replicate k.toNat its).flatten.toArray:=by
  have E:∀m,List.foldl (λx1 x2=>x1++x2) #[] (List.replicate m its.toArray)=(List.replicate m its).flatten.toArray:=λm=>by
   have:=nX its m []
   simp_all
  cases its with
  | nil=>simp
  | cons a G=>simp_all
 refine wpAny_binaryOp_repeat_ref (by decide) %[_,e|rfl] (λs'=>typeIs_int s' k t) noFill_list_mul F.fills_int_mul F.slot_int_rmul repeat_list F.slot_int_index.lookup
  (call_meets F.slot_int_rmul (typeIs_int s k t) F.entry_int_rmul (F.args_int_rmul_2 _ _) (int___rmul___int_list k t l its.toArray n)
   %[e,rfl,%[_,e|rfl]|call_meets F.slot_list_mul %[_,e|rfl] F.entry_list_mul (F.args_list_mul_2 _ _) (AutoListH.list___mul___list_int_3 l its.toArray n k t f d b) %[e|?_]])
 rw[g];exact%[.ref _,_,I.lnew (r.rep k.toNat) (by rw[AZ,Nat.mul_comm];exact i),rfl|q _ I.fresh]
end
section
#where
end
section
variable{X:Cx}
end
section
variable{κ:Type}[DecidableEq κ]
noncomputable def cp(a:List (κ×V))(k:κ):Option V:=(a.find? λb=>decide (b.1=k)).map (·.2)
noncomputable def dM(a:List (κ×V))(k:κ)(v:V):List (κ×V):=
 if(a.any λb=>decide (b.1=k))=true then a.map (λb=>if b.1=k then(b.1,v)else b)else a++[(k,v)]
theorem eE{p:κ×V}{r:List _}{k:κ}(e:p.1=k):cp (p::r) k=some p.2:=by simp[cp,e]
theorem cT{p:κ×V}{r:List _}{k:κ}(e: ¬ p.1=k):cp (p::r) k=cp r k:=by simp[cp,e]
theorem hV(k:κ):∀a,(a.any λb=>decide (b.1=k))=(cp a k).isSome
 |[]=>rfl
 | p::r=>by
   rw[Zv];by_cases e:p.1=k
   .simp only[eE e,Ze e,Bool.true_or,Option.isSome_some]
   .rw[cT e,Zg e,Bool.false_or];exact hV k r
theorem hX(a:List _)(k:κ)(v:V):(dM a k v).length<=a.length+1:=by
 unfold dM
 split
 .simp
 simp_all
theorem jp{k:κ}(v:V)(h:cp a k=none):dM a k v=a++[(k,v)]:=by
 unfold dM;rw[hV,h];exact if_neg (by decide)
theorem fc.isSome_eq(r:fc o u):o.isSome=u.isSome:=by
 cases o with
 | none=>cases u with
   | none=>rfl
   | some _=>exact(r).elim
 | some _=>cases u with
   | none=>exact(r).elim
   | some _=>rfl
theorem fc.getD{o:Option V}{u:Option Value}{d:V}{d':Value}(r:fc o u)(a:aK d d'):aK (o.getD d) (u.getD d'):=by
 cases o with
 | none=>cases u with
   | none=>exact a
   | some _=>exact(r).elim
 | some _=>cases u with
   | none=>exact(r).elim
   | some _=>exact r
theorem KV.val{vs:List (κ×Value)}(r:KV a vs)(k:κ):fc (cp a k) (valueAt vs k):=by
 induction r with
 | nil=>exact True.intro
 | @cons p q ps qs h t f=>
   obtain⟨d,g⟩:=h;by_cases e:p.1=k
   .have c:=d.symm.trans e;have b:valueAt (q::qs) k=some q.2:=by simp[valueAt,c]
    rw[eE e,b];exact g
   .have c: ¬ q.1=k:=λz=>e (d.trans z)
    have b:valueAt (q::qs) k=valueAt qs k:=by simp[valueAt,c]
    rw[cT e,b];exact f
theorem KV.any(r:KV a vs)(k:κ):(a.any λb=>decide (b.1=k))=vs.any λb=>decide (b.1=k):=by
 induction r with
 | nil=>rfl
 | cons h t c=>simp_all
theorem KV.repl(r:KV c vs)(k:κ)(d:aK y u):
 KV (c.map λa=>if a.1=k then(a.1,y)else a) (vs.map λa=>if a.1=k then(a.1,u)else a):=by
 induction r with
 | nil=>exact .nil
 | @cons p q ps qs h t f=>
   rw[Yi,Yi];refine .cons ?_ f;obtain⟨b,g⟩:=h;by_cases e:p.1=k
   .rw[if_pos e,if_pos (b.symm.trans e)];exact%[b|d]
   .rw[if_neg e,if_neg (λz=>e (b.trans z))];exact%[b|g]
theorem KV.put(r:KV a vs)(k:κ)(b:aK y u):KV (dM a k y) (stored vs k u):=by
 unfold dM stored;rw[r.any k];by_cases e:(vs.any λc=>decide (c.1=k))=true
 .rw[if_pos e,if_pos e];exact r.repl k b
 .rw[if_neg e,if_neg e];exact Paired.snoc r %[rfl|b]
theorem KV.keys{a:List (κ×V)}{vs:List (κ×Value)}(r:KV a vs):a.map (·.1)=vs.map (·.1):=by
 induction r with
 | nil=>rfl
 | cons h t b=>simp_all
theorem KV.length{a:List (κ×V)}{vs:List _}(r:KV a vs):a.length=vs.length:=Paired.length r
end
theorem lF{P:Program}(r:aK (kV k) u):(aN P w).is k u=true:=by
 cases k with
 | inl i=>obtain⟨t,e⟩:=(r);subst e;exact qH P w i t
 | inr x=>obtain⟨t,e⟩:=(r);subst e;exact qI P w x t
theorem nZ{P:Program}:∀{ks:List Key} {us:ZF},aC (ks.map kV) us->ItemsAre (aN P w) ks us
 |[],_,r=>by cases r;exact .nil
 | k::ks,_,r=>by
   cases r with
   | cons h t=>exact .cons (lF h) (nZ t)
noncomputable abbrev KT(H:Hp):List (List Key×V)->List (List Key×Addr×Value)->Prop:=Paired λp q=>p.1=q.1/\H q.2.1=some (.tup (p.1.map kV))/\aK p.2 q.2.2
theorem KT.val{a:List (List Key×V)}{xs:List (List Key×Addr×Value)}(r:KT H a xs)(k:List Key):fc (cp a k) ((atKey xs k).map (·.2)):=by
 induction r with
 | nil=>exact True.intro
 | @cons p q ps qs h t f=>
   obtain⟨d,_,g⟩:=h;by_cases e:p.1=k
   .have c:=d.symm.trans e;have b:atKey (q::qs) k=some q.2:=by simp[atKey,c]
    rw[eE e,b];exact g
   .have c: ¬ q.1=k:=λz=>e (d.trans z)
    have b:atKey (q::qs) k=atKey qs k:=by simp[atKey,c]
    rw[cT e,b];exact f
theorem KT.repl(r:KT H b xs)(k:List Key)(f:aK y u):
 KT H (b.map λc=>if c.1=k then(c.1,y)else c) (xs.map (putAt k u)):=by
 induction r with
 | nil=>exact .nil
 | @cons p q ps qs h t g=>
   rw[Yi,Yi];refine .cons ?_ g;obtain⟨a,d,i⟩:=h;unfold putAt;by_cases e:p.1=k
   .rw[if_pos e,if_pos (a.symm.trans e)];exact%[a,d|f]
   .rw[if_neg e,if_neg (λz=>e (a.trans z))];exact%[a,d|i]
theorem KT.put(r:KT H a xs)(k:List Key)(d:H b=some (.tup (k.map kV)))(c:aK y u):
 KT H (dM a k y) (storedH xs k b u):=by
 have e:(a.any λf=>decide (f.1=k))=(atKey xs k).isSome:=by
  rw[hV,(r.val k).isSome_eq,isSome_map]
 unfold dM storedH;rw[e];by_cases q:(atKey xs k).isSome=true
 .rw[if_pos q,if_pos q];exact r.repl k c
 .rw[if_neg q,if_neg q];exact Paired.snoc r %[rfl,d|c]
theorem KT.keeps(r:KT H a xs)(c:∀b ys,H b=some (.tup ys)->d b=some (.tup ys)):KT d a xs:=
 Paired.mapP r λ_ _ z=>%[z.1,c _ _ z.2.1|z.2.2]
section
variable{P:Program}{w:World}{H:Hp}{h:Heap}{a:Addr}
theorem Cb(ok:HOk P w H h)(e:Rd H a u):ci P w H h a u:=e.ok ok
theorem qN(ok:HOk P w H h)(e:Rd H a (.dK b)):b.length<=sizeLine/\(a==sysModules)=false/\∃vs,KV b vs/\h.DictOf (aN P w) a vs:=
 Cb ok e
theorem n6(ok:HOk P w H h)(e:H a=some (.dK b)):b.length<=sizeLine/\(a==sysModules)=false/\∃vs,KV b vs/\h.DictOf (aN P w) a vs:=qN ok (.inl e)
theorem lG(ok:HOk P w H h)(e:H a=some (.tup (ks.map kV))):(tupleKind (aN P w)).is h ks a:=by
 obtain⟨_,its,r,o,b,c,n,d⟩:=(ok a _ e)
 exact%[o,its.toArray,n,b,c,d|nZ r]
theorem qO(ok:HOk P w H h)(e:Rd H a (.dT b)):b.length<=sizeLine/\(a==sysModules)=false/\
 ∃xs,KT H b xs/\h.DictOfH (tupleKind (aN P w)) a xs:=by
 obtain⟨z,y,xs,r,o,d,f,g,i,j,n,s⟩:=(Cb ok e)
 refine%[z,y,xs,r,o,d,f,g,i,j,n,λx c=>?_|s];have all:∀{l:List _} {m:List _},KT H l m->∀x∈m,(tupleKind (aN P w)).is h x.1 x.2.1:=by
  intro l m q
  induction q with
  | nil=>simp
  | @cons p q ps qs v t u=>
    intro x c;rcases mem_cons.mp c with e|c
    .exact lG ok (by simp_all)
    .exact u x c
 exact all r x c
theorem E8(ok:HOk P w H h)(e:H a=some (.dT b)):b.length<=sizeLine/\(a==sysModules)=false/\
 ∃xs,KT H b xs/\h.DictOfH (tupleKind (aN P w)) a xs:=qO ok (.inl e)
end
def dZ(H:Hp)(a:Addr)(y:V)(r:Option V):Prop:=
 (∃c k,Rd H a (.dK c)/\y=kV k/\r=cp c k)\/∃c k b,Rd H a (.dT c)/\y= .ref b/\H b=some (.tup (k.map kV))/\r=cp c k
def kR(H:Hp)(a:Addr)(y v:V)(d:Hp):Prop:=
 (∃c k,H a=some (.dK c)/\y=kV k/\c.length<sizeLine/\d=upd H a (.dK (dM c k v)))\/
 ∃c k b,H a=some (.dT c)/\y= .ref b/\H b=some (.tup (k.map kV))/\c.length<sizeLine/\d=upd H a (.dT (dM c k v))
theorem dZ.k{k:Key}(e:H a=some (.dK b)):dZ H a (kV k) (cp b k):= .inl %[b,k,.inl e,rfl|rfl]
theorem kR.k{k:Key}(e:H a=some (.dK b))(c:b.length<sizeLine):kR H a (kV k) v (upd H a (.dK (dM b k v))):= .inl %[b,k,e,rfl,c|rfl]
section
#version
variable{a:Addr}{y v:V}{u r:Value}{o:Option V}{A:Around}{E:ZD}
theorem Inv.big(I:Inv X pins σ H s):sysModules<⇑s:=by
 exact Nat.lt_trans (by decide) ((I.mod.glob.keeps I.bk).lt)
theorem v8(t:A.units+1<cLine)(I:Inv X pins σ H s)(g:dZ H a y (some v))(q:aK y u)(h:∀f s',Inv X pins σ H s'->aK v f->Q f s'):
 wpAny (model X.prog X.w) A (getItem (.ref a) u) Q E s:=by
 rcases g with⟨i,k,e,j,l⟩|⟨i,k,b,e,j,w,l⟩
 .subst j;obtain⟨z,B,vs,c,m⟩:=qN I.hok e;obtain⟨f,hw,d⟩:=fc.some_of (l▸c.val k);exact wpAny_getItem_of (lF q) m.mapOf hw (h f _ (I.tok _) d)
 .subst j;cases(q);obtain⟨z,B,xs,c,m⟩:=qO I.hok e;obtain⟨f,hw,d⟩:=fc.some_of (l▸c.val k);obtain⟨p,C,n⟩:=map_eq_some_iff.mp hw;refine wpAny_getItem_heap (tupleKind_room_in1 t) (lG I.hok w) m C ?_;rw[n];exact h f _ (I.tok _) d
theorem d_in(n:A.units+1<cLine)(I:Inv X pins σ H s)(g:dZ H a y o)(m:aK y u)(h:∀s',Inv X pins σ H s'->Q (.bool o.isSome) s'):
 wpAny (model X.prog X.w) A (compareOp .In u (.ref a)) Q E s:=by
 rcases g with⟨d,k,e,f,l⟩|⟨d,k,b,e,f,p,l⟩
 .subst f;obtain⟨z,i,vs,c,j⟩:=qN I.hok e;refine wpAny_in_of (lF m) i j.mapOf ?_;rw[<-(c.val k).isSome_eq,<-l];exact h _ (I.tok _)
 .subst f;cases(m);obtain⟨z,i,xs,c,j⟩:=qO I.hok e;refine wpAny_in_heap (tupleKind_room_in1 n) (lG I.hok p) i j ?_;have q:=(c.val k).isSome_eq;rw[isSome_map]at q;rw[<-q,<-l];exact h _ (I.tok _)
theorem A0(n:A.units+1<cLine)(I:Inv X pins σ H s)(g:dZ H a y o)(m:aK y u)(h:∀s',Inv X pins σ H s'->Q (.bool (!o.isSome)) s'):
 wpAny (model X.prog X.w) A (compareOp .NotIn u (.ref a)) Q E s:=by
 rcases g with⟨d,k,e,f,l⟩|⟨d,k,b,e,f,p,l⟩
 .subst f;obtain⟨z,i,vs,c,j⟩:=qN I.hok e;refine wpAny_notIn_of (lF m) i j.mapOf ?_;rw[<-(c.val k).isSome_eq,<-l];exact h _ (I.tok _)
 .subst f;cases(m);obtain⟨z,i,xs,c,j⟩:=qO I.hok e;refine wpAny_notIn_heap (tupleKind_room_in1 n) (lG I.hok p) i j ?_;have q:=(c.val k).isSome_eq;rw[isSome_map]at q;rw[<-q,<-l];exact h _ (I.tok _)
theorem pA(I:Inv X pins σ H s)(d:Mut (H a))(e:SameBut a s.heap h')(f:∃q,h'.get? a=some q)(new:ci X.prog X.w (upd H a c) h' a c):
 Inv X pins σ (upd H a c) {s with heap:=h',toks:=t'}:=
 I.write d (.inl rfl) (λb q g z=>(e.2 b g).trans z) f new
theorem yG{P:Program}(z:b.length<=sizeLine)(d:(a==sysModules)=false)(c:KV b vs)(e:h'.DictOf (aN P w) a vs):
 ci P w f h' a (.dK b):=%[z,d,vs,c|e]
theorem v9(M:A.units+1<cLine)(I:Inv X pins σ H s)(g:kR H a y v N)(C:aK y u)(G:aK v r)(h:∀s',Inv X pins σ N s'->Q () s'):
 wpAny (model X.prog X.w) A (setItem (.ref a) u r) Q E s:=by
 rcases g with⟨d,k,e,m,l,n⟩|⟨d,k,b,e,m,J,l,n⟩
 .subst m n;obtain⟨z,p,vs,f,t⟩:=n6 I.hok e;have O:vs.length<=sizeLine:=f.length▸z;have w:(dM d k v).length<=sizeLine:=by have:=hX d k v;lia
  exact wpAny_setItem_pairs (lF C) t λh' i B=>h _ (pA I (e▸True.intro) B (let⟨q,_,_,j,_⟩:=i;%[q|j]) (yG w p (f.put k G) i))
 .subst m n;cases(C);obtain⟨z,p,xs,f,t⟩:=E8 I.hok e;have O:xs.length<=sizeLine:=(Paired.length f)▸z;have w:(dM d k v).length<=sizeLine:=by have:=hX d k v;lia
  refine wpAny_setItem_heap (tupleKind_room_in1 M) (lG I.hok J) t λh' i B=>h _ ?_
  obtain⟨q,T,U,j,Y,h3,h4,_,h5⟩:=i;refine pA I (e▸True.intro) B %[q|j] %[w,p,_,(f.put k J G).keeps λc ys L=>?_,q,T,U,j,Y,h3,h4|h5];rw[aj (lB L e (λz=>nomatch z))];exact L
end
section
#version
variable{a:Addr}{kvs:List (Key×V)}{k:Key}{u:Value}{A:Around}{E:ZD}
end
def Dp(i:Expr):Prop:=∀a b,subscripted i false a b=operate [a,b] (getItem a b)
theorem A1{T id:String}
 (m:typeLookup (.type T) "__getitem__"=pure (some (.builtin id))) (n:Dp a)
 (h:↥A (eval c env) (λo e=>↥A (eval a env) (λi b=>b.TypeIs o T/\↥A (getItem o i) Q E b) E e) E s):
 ↥A (eval (.Subscript c a pos) env) Q E s:=by
 refine Subscript_ (wpAny_mono h (λo e g=>wpAny_mono g (λi b d=>?_) λ_ _ x=>x) λ_ _ x=>x);obtain⟨p,d⟩:=d;refine Z2 (Z2 (wpAny_specialOf p m ?_));have l:↥A (subscripted a false o i) (λr f=>↥A (letTemporaryGo c o r>>= λ_=>pure r) Q E f) E b:=by
  rw[n o i];exact wpAny_operating (wpAny_mono d (λr f j=>Z2 (wpAny_letTemporaryGo (Z3 j))) λ_ _ x=>x)
 first
  | exact Z3 (Z2 l)
  | lia
  | lia
theorem qP{X:Cx}(I:Inv X pins f H s)(g:dZ H a y o):s.TypeIs (.ref a) "dict":=by
 rcases g with⟨c,k,e,_,_⟩|⟨c,k,b,e,_,_,_⟩
 .obtain⟨_,_,vs,_,d⟩:=qN I.hok e;exact d.typeIs
 .obtain⟨_,_,xs,_,d⟩:=qO I.hok e;exact d.typeIs
def yH(d ty:TE):TE:=λb H Q=>d b H λx e=>ty b e λy c=>∃a v,x= .ref a/\dZ c a y (some v)/\Q v c
def Dq(ty d:TE):TE:=λb H Q=>ty b H λy e=>d b e λx c=>∃a o,x= .ref a/\dZ c a y o/\Q (.bl o.isSome) c
def pB(ty d:TE):TE:=λb H Q=>ty b H λy e=>d b e λx c=>∃a o,x= .ref a/\dZ c a y o/\Q (.bl (!o.isSome)) c
def n8(d ty e:TE):TS:=λD b H=>e b H λv f=>d b f λx g=>ty b g λy h=>∃a c,x= .ref a/\kR h a y v c/\D.nx b c
section
variable{X:Cx}{o i e value:Expr}{pos pos' tpos:Pos}{td ty tv:TE}
theorem A2(f:X.A.units+1<cLine)(j:PE X o td)(hi:PE X i ty)(l:Dp i):PE X (.Subscript o i pos) (yH td ty):=by
 intro pins s c H Q I h;refine A1 PySem.F.slot_dict_getitem.lookup l (thn (j pins s c H _ I h) λu m ⟨x,n,p,q,r⟩=>thn (hi pins m c n _ p r) λB C ⟨y,t,d,w,a,v,ex,g,z⟩=>?_);subst ex;obtain rfl:u=Value.ref a:=q;exact%[qP d g|v8 f d g w λE G A b=>%[v,t,A,b|z]]
theorem Dr(c:X.A.units+1<cLine)(hi:PE X i ty)(d:PE X o td):PC X .In i o (Dq ty td):=by
 intro pins s b H Q I h;refine thn (hi pins s b H _ I h) λz f ⟨y,j,l,m,n⟩=>thn (d pins f b j _ l n) λu A ⟨x,p,q,r,a,t,ex,g,v⟩=>?_
 subst ex;obtain rfl:u=Value.ref a:=r;exact d_in c q g m λB w=>%[.bl t.isSome,p,w,rfl|v]
theorem wa(c:X.A.units+1<cLine)(hi:PE X i ty)(d:PE X o td):PC X .NotIn i o (pB ty td):=by
 intro pins s b H Q I h;refine thn (hi pins s b H _ I h) λw f ⟨y,j,l,m,n⟩=>thn (d pins f b j _ l n) λu z ⟨x,p,q,r,a,A,ex,g,t⟩=>?_
 subst ex;obtain rfl:u=Value.ref a:=r;exact A0 c q g m λB v=>%[.bl _,p,v,rfl|t]
theorem A3(c:X.A.units+1<cLine)(d:PE X o td)(hi:PE X i ty)(f:PE X value tv)(j:swapsWith value (some (.Subscript o i pos')) pos.line X.env=pure false):
 PS X (.Assign [.Subscript o i pos'] value pos) (n8 td ty tv):=by
 intro pins s b H D I h;refine wpAny_Assign_Subscript (thn (f pins s b H _ I h) λr l ⟨v,m,n,p,q⟩=>thn (d pins l b m _ n q) λu t ⟨x,w,z,A,B⟩=>thn (hi pins t b w _ z B) λM N ⟨y,O,C,E,a,G,ex,g,J⟩=>?_) j;subst ex;obtain rfl:u=Value.ref a:=A;exact v9 c C g E p λQ L=>%[b,G,L|J]
end
theorem yI{P:Program}(h:Heap)(a:sysModules<h.objs.size):ci P w H (h.push {cls:= .type "dict",data:= .dict #[]}) h.objs.size (.dK []):=
 %[Yy _,beq_eq_false_iff_ne.mpr (Ne.symm (Zr a)),[],.nil|Heap.DictOf.new h]
def tf:TE:=λ_ H Q=>∀p,H p=none->Q (.ref p) (upd H p (.dK []))
section
variable{X:Cx}{pos:Pos}
theorem yJ:PE X (.Dict [] [] pos) tf:=λpins s a H Q I h=>
 wpAny_Dict_empty %[.ref ⇑s,_,I.laid (λ_ _ q=>Z6 _ q) (Zh _) (yI s.heap I.big),rfl|h _ (I.hok.fresh (Zh _))]
end
structure M2 (X:Cx) (o:Expr) (m:Str) (apos:Pos) (e f:Expr) (cpos:Pos):Prop where
 base:attributeBase o m X.env (eval o X.env)=eval o X.env
 few:((backTo cpos (starEach [e,f] X.env)).all (λx=>!x.1)&&(backToKw cpos (keywordEach [] X.env)).all (λx=>x.1.isSome)
  && decide (([e,f]).length+([]:List Keyword).length+(if([]:List Keyword).isEmpty then 0 else 1)<30))=true
 line:(apos.endLine==cpos.line)=true
 trees:backTo cpos (starEach [e,f] X.env)=[(false,eval e X.env),(false,eval f X.env)]
section
#version
variable{a:Addr}{y d:V}{u r:Value}{o:Option V}{A:Around}{E:ZD}
end
section
variable{X:Cx}{o e f:Expr}{apos cpos:Pos}{td ty tx:TE}
end
section
#version
variable{a:Addr}{kvs:List (Key×V)}{A:Around}{E:ZD}
end
section
#version
variable{a:Addr}{y:V}{u:Value}{A:Around}{E:ZD}
end
end L2
namespace Att
open PySem PySem.W PySem.Calls PyProof.Rows
theorem kS{P:Params}:∀(c:ZK) (vs:ZF),WellAll P h vs (c.map WData.int)->IntsAre vs c:=by
 intro c
 induction c with
 | nil=>
   intro vs w;cases w;exact .nil
 | cons n c d=>
   intro vs w;cases w with
   | cons a b=>
     cases a;exact .cons _ _ (d _ b)
theorem wb{l:OpenLaw}(o:l.most=some n){P:Params}
 (b:l.row.toRowW.claim.pre args=true) (j:WellAll P h e args):
 ∃a vs c,e=[Value.ref a]/\args=[WData.list (c.map WData.int)]/\h.get? a=some {cls:= .type "list",data:= .seq vs.toArray}/\IntsAre vs c/\c.length<=n:=by
 have m:l.pre.holds [] _=true:=(pre_splitW b).2;obtain⟨d,r,rfl,p,q⟩:=hasAllW_cons ((pre_splitW b).1);obtain rfl:=hasAllW_nil q;obtain⟨xs,rfl,s⟩:=hasW_list p;obtain⟨c,rfl⟩:=items_int s;have f:c.length<=n:=by
  unfold OpenLaw.pre at m;have i:=by
   have i:=(holds_andW m).1;rw[o]at i;exact i
  have w:=condW_of i (w_not (w_lt w_lit (w_len_list (w_arg rfl))))
  grind
 cases j with
 | cons t u=>
   cases u;cases t with
   | list v g=>exact%[_,_,c,rfl,rfl,v,kS c _ g|f]
theorem wc(l:OpenLaw)(args:List WData):l.row.toRowW.claim.post args (.bool true) args=true:=
 postW_of
  (by first|rfl|simp|lia)
  (w_eq_bool (w_res rfl) w_lit) rfl
theorem attach_call{l:OpenLaw}{n:Nat}{q:Program}
 (H:l.most=some n) (t:d.params.defaults=[])
 (call:∀(w:World) (s₀ b:Shared) (mg u:ZC) (h:Addr) (o:Obj) (v p c:Value) (a:Addr) (vs:ZF) (s:ZK),
  Ground q e [] I w s₀ mg u b.heap->J w b.heap->
  b.heap.get? h=some o->o.data= .func (docDef d.name d.params d.body d.scope v p c)->b.heap.CodeRec p d.name->mg d.name=some (.ref h)->
  b.heap.get? a=some {cls:= .type "list",data:= .seq vs.toArray}->IntsAre vs s->s.length<=n->b.gens= #[]->
  codeAny (model l.prog w) callerA (.call (.ref h) %[[.ref a]|[]]) (λr s'=>r= .ok (.ret (.bool true))/\OldK b.heap s'.heap/\s'.os=b.os/\AllBare s'.gens) b):
 WalkO q e I J l.row.toRowW d [] (λf vs=>PySem.call f vs):=by
 intro w s₀ b mg u G Y h o v p c L kV M N y B z O args C as i E Q A T;obtain rfl:L= .none:=Dflts.none B t;obtain rfl:kV= .none:=Dflts.noKw B;obtain⟨a,vs,s,rfl,rfl,j,g,m⟩:=wb H i A;refine enter_call (codeAny_mono (call w s₀ b mg u h o v p c a vs s G Y M (fd_plain N) y z j g m O) λr s' U=>?_);obtain⟨rfl,h2,h3,h4⟩:=U;exact%[.inl %[.bool true,.bool true,[],rfl,λ_=>rfl,.bool true,wc l _|λ_=>%[List.Pairwise.nil|λ_ hm=>(nomatch hm)]],h2,h3|h4]
section
#where
variable{K:Frag}
end
end Att
namespace L2
open PySem PySem.Spec PyProof.Rows
theorem n9:∀{vs:ZF} {a:ZK},IntsAre vs a->aC (a.map V.int) vs
 | _,_,.nil=> .nil
 | _,_,.cons n t h=> .cons %[t|rfl] (n9 h)
def A4(H:Hp):Prop:=∀b,H b=none\/∃o xs,H b=some (.frz o (.lst xs))
theorem law_call{P:Program}{K:ZA}{mg I:ZC}{vs:ZF}
 (U:K.In c.heap) (p:c.heap.Ns mainGlobals mg) (g:c.heap.Ns builtinsNs I) (J:∀x:Str,x≠"__name__"->I x=bootBuiltins x) (t:c.heap.NoLimit) (hg:c.gens= #[])
 (L:c.heap.get? a=some {cls:= .type "list",data:= .seq vs.toArray}) (hi:IntsAre vs M) (Y:M.length<=sizeLine) (hr:bC k callerA)
 (F:∀base:Heap,K.In base->base.Ns mainGlobals mg->fD P w K mg base CX k fa fd [x] sp) (l:∀(s:Shared) (u:Value),BindsTo s fd %[[u]|[]] [(x,u)])
 (N:∀H:Hp,A4 H->SqL K H a (M.map V.int)->sp [.ref a] H (λv _=>v= .bl true) λ_ _ _=>False)
 (O:∀H e s',CX [] H c (λ_ _ _=>False) e s'->False):
 codeAny (model P w) callerA (.call (.ref fa) %[[.ref a]|[]]) (λr s'=>r= .ok (.ret (.bool true))/\OldK c.heap s'.heap/\s'.os=c.os/\AllBare s'.gens) c:=by
 have rv:=n9 hi;have j:∀H,A4 H->SqL K H a (M.map V.int)->HOk P w H c.heap->(∀b,H b≠none->b=a)->(H a≠none->K.lookup a=none)->
  codeAny (model P w) callerA (.call (.ref fa) %[[.ref a]|[]]) (λr s'=>r= .ok (.ret (.bool true))/\OldK c.heap s'.heap/\s'.os=c.os/\AllBare s'.gens) c:=by
  intro H hO hS y hA hK;have f:∀{b:Addr} {o:Obj},c.heap.get? b=some o->H b=none->(vO c.heap H).get? b=some o:=λe n=>xP e n
  have Q:∀{b:Addr} {o:Obj} {E:Array DictEntry} {G:Nat},c.heap.get? b=some o->o.data= .dict E G->H b=none:=λ{b o E G} e d=>by
   grind
  have i:∀{b:Addr} {m:ZC},c.heap.Ns b m->(vO c.heap H).Ns b m:=λ{b m} ⟨o,E,G,e,d,r⟩=>%[o,E,G,f e (Q e d),d|r]
  have A:=λb o e=>f (U b o e) (by
   grind)
  refine codeAny_mono ((F _ A (i p)).run callerA [] c H _ _ [.ref a] _ _ hr %[rfl,%[A,i p,%[I,i g|J]|let⟨mc,h1,h2⟩:=t;%[mc,i h1|h2]],λb o e=>Aw e,Nat.le_of_eq (vP _ _),trivial,λb g=>absurd (show b∈([])from g) ∅,y|.of_eq hg] (l c _) (.cons rfl .nil) (N H hO hS)) λr s' h=>?_
  cases r with
  | error e=>exact(O H e s' h).elim
  | ok fl=>
    cases fl with
    | next=>exact False.elim h
    | brk=>exact False.elim h
    | cont=>exact False.elim h
    | ret u=>
      obtain⟨v,H',os,B,un,C,r',q⟩:=h;subst q;obtain rfl:u=Value.bool true:=r';refine%[rfl,OldK.of_keep λb o e=>?_,os|B];cases q:H b with
      | none=>exact un.keep b o e q (by intro z;exact absurd (show b∈([])from z) ∅) ∅
      | some u=>
        rcases hO b with z|⟨ob,xs,z⟩
        .rw[q]at z;cases z
        .obtain⟨e1,_⟩:=y b _ z;obtain⟨e2,_⟩:=C b _ (un.frzs b ob _ z);rw[e]at e1;cases e1;exact e2
 cases T:K.lookup a with
 | some o=>
   have e:=U a o T;rw[L]at e;cases e;refine j _ (λ_=> .inl rfl) (.inr %[_,vs.toArray,_,T,rfl,rfl,rfl,by rw[Zo,hi.length];exact Y|rv]) (λb u z=>by simp_all) (λb z=>absurd rfl z) λz=>absurd rfl z
 | none=>
   refine j (λb=>if b=a then some (.frz {cls:= .type "list",data:= .seq vs.toArray} _)else none) (λb=>?_) (.inl (.inr %[{cls:= .type _,data:= .seq vs.toArray}|if_pos rfl])) (λb u z=>?_) (λb z=>?_) λ_=>T
   .by_cases g:b=a
    .exact .inr %[_,_|if_pos g]
    .exact .inl (if_neg g)
   .by_cases g:b=a
    .have z':=(if_pos g).symm.trans z;cases z';subst g;exact%[L,by rw[Z5];exact Y,vs,_,rv|L]
    simp_all
   .by_cases g:b=a
    .exact g
    .exact absurd (if_neg g) z
theorem walk_of{l:PySem.W.OpenLaw}{I:(Str->Option Value)->Heap->Prop}{C:World->Heap->Prop}{d:DefRec}{K:Params->ZA}{CX:World->CXT}{sp:World->Sp}{x:Str}
 (J:l.most=some n) (p:n<=sizeLine) (r:d.params.defaults=[]) (L:bC k callerA)
 (M:∀(w:World) (h:Heap),C w h->(K w.params).In h)
 (F:∀(w:World) (mg:ZC) (j:Addr) (h:Heap),(K w.params).In h->h.Ns mainGlobals mg->mg d.name=some (.ref j)->
  ∃t:FuncData,(∀(s:Shared) (u:Value),BindsTo s t %[[u]|[]] [(x,u)])/\
   ∀base:Heap,(K w.params).In base->base.Ns mainGlobals mg->fD l.prog w (K w.params) mg base (CX w) k j t [x] (sp w))
 (y:∀(w:World) (H:Hp) (a:Addr) (m:ZK),m.length<=n->A4 H->SqL (K w.params) H a (m.map V.int)->sp w [.ref a] H (λv _=>v= .bl true) λ_ _ _=>False)
 (z:∀(w:World) (H:Hp) (s:Shared) (e:Value) (s':Shared),CX w [] H s (λ_ _ _=>False) e s'->False):
 PySem.W.WalkO q A I C l.row.toRowW d [] (λf vs=>PySem.call f vs):=by
 refine Att.attach_call J r λw s₀ g mg mb j o pm cd N a vs m G Y ho hd O B i c b Q=>?_
 have E:=M w _ Y;obtain⟨t,T,U⟩:=F w mg j _ E G.T.g B;exact law_call E G.T.g G.T.b G.T.builtins G.T.nolimit Q i c (Y8 b p) L U T (λH hO hS=>y w H a m b hO hS) λH e s'=>z w H g e s'
noncomputable def iB(s:Stmt)(j:Nat):Stmt:=match s with
 | .ClassDef _ _ _ a _ _ _ _ _ _ _=>a.getD j (.Pass %[0,0,0|0])
 | _=> .Pass %[0,0,0|0]
noncomputable def bQ(s:Stmt):Arguments:=match s with
 | .FunctionDef _ a _ _ _ _ _ _ _ _=>a
 | _=>{posonlyargs:=[],args:=[],vararg:=none,kwonlyargs:=[],kw_defaults:=[],kwarg:=none,defaults:=[]}
noncomputable def be(s:Stmt):List Stmt:=match s with
 | .FunctionDef _ _ b _ _ _ _ _ _ _=>b
 | _=>[]
noncomputable def af(s:Stmt):Scope:=match s with
 | .FunctionDef _ _ _ _ _ _ a _ _ _=>a
 | _=>{kind:= .function,names:=[],isGenerator:=false,isCoroutine:=false}
noncomputable abbrev CX0:CXT:=λ_ _ _ _ _ _=>False
noncomputable abbrev E0:XK:=λ_ _ _=>False
theorem yK{X:Cx}:fU CX0 X E0:=λ_ _ _ _ _ _ _ h=>h.elim
structure Fun (K:ZA) (x qual:Str) (st:Stmt) (f:Addr) (fd:FuncData):Prop where
 ex:∃oc od kV doc pm an cdv ct osl,
  fd=fnOf x qual (bQ st) (be st) (af st) .none kV doc pm an cdv ct/\K.lookup f=some %[oc,od,.func fd|osl]/\codeIn K cdv qual=true
 kp:keepIn K (.ref f)=true
section
variable{P:Program}{w:World}{K:ZA}{mg:ZC}{base:Heap}
theorem Fun.ok{x a:Str}{st:Stmt}{f:Addr}{g:FuncData}{N ps:ZB}{k:Nat}{sp:Sp}(F:Fun K x a st f g)(S:aq N ps (af st))(len:∀vs H Q E,sp vs H Q E->vs.length=ps.length)
 (c:∀b (A:Around) (outer:List Env) s H (vs:List V) Q E,bC k (A.deeper (envOfC a (af st) ⇑s f b))->sp vs H Q E->
  ∃t,PSs (eC CX0 P w K mg base N a (af st) f b A outer s H E).nox (be st) t/\t {nx:=λ_ i=>Q .non i,rt:=Q} (start N vs) H):fD P w K mg base CX0 (k+1) f g ps sp:=by
 obtain⟨n,od,kV,j,o,p,b,ct,l,rfl,lk,d⟩:=F.ex;refine Ca lk d S len λA outer s H vs Q E m e=>?_
 obtain⟨t,h,q⟩:=c b A outer s H vs Q E m e;exact%[t,h.nox|q]
theorem Fun.binds{st:Stmt}(F:Fun K x c st f g)
 (h:∀(kV a d:Value) (e:ZH) (b ct:Value) (us:ZF),us.length=ps.length->bindArgs (fnOf x c (bQ st) (be st) (af st) .none kV a d e b ct) %[us|[]]=pure (ps.zip us)):cS K g ps []:=by
 obtain⟨l,od,kV,a,d,e,b,ct,i,rfl,lk,j⟩:=F.ex;exact .all (h kV a d e b ct)
theorem dm{st:Stmt}{kV d e b ct:Value}(l:K.lookup f=some %[i,od,.func (fnOf x a (bQ st) (be st) (af st) .none kV d e h b ct)|g])
 (c:codeIn K b a=true) (k:keepIn K (.ref f)=true):Fun K x a st f (fnOf x a (bQ st) (be st) (af st) .none kV d e h b ct):=%[%[i,od,kV,d,e,h,b,ct,g,rfl,l|c]|k]
end
section
variable{X:Cx}
theorem pv(i:Nat)(b:X.N[i]? =some x)(c:Vis X.env.scope x)(d:(x==("__debug__":Str))=false)
 (a:(x==("__classdict__":Str))=false):PE X (.Name x pos) (mY i):=xR b c d a
end
theorem qQ{A B:Prop}(h:B):if false=true then A else B:=by
 simp_all
theorem bv{c A B:Prop}[Decidable c](a:c->A)(b: ¬ c->B):if c then A else B:=by
 simp_all
def ae(H a:Hp):Prop:=∀b o,H b=some o->a b=some o
theorem ae.refl(H:Hp):ae H H:=λ_ _ h=>h
theorem ae.trans{H d e:Hp}(a:ae H d)(b:ae d e):ae H e:=λc o h=>b c o (a c o h)
theorem ae.free{H a:Hp}(e:ae H a){l:Addr}(h:a l=Option.none):H l=Option.none:=by
 cases q:H l with
 | none=>rfl
 | some o=>
   rw[e l o q]at h;cases h
theorem ae.seq{K:ZA}(e:ae H b)(h:SqL K H a xs):SqL K b a xs:=by
 rcases h with(h|⟨o,h⟩)|h
 .exact .inl (.inl (e _ _ h))
 .exact .inl (.inr %[o|e _ _ h])
 .exact .inr h
section
variable{X:Cx}
end
section
variable{κ:Type}[DecidableEq κ]
theorem A5{a:List (κ×V)}(h:cp a k=some v):k∈a.map (·.1):=by
 have q:(a.any λb=>decide (b.1=k))=true:=by
  rw[hV,h]
  all_goals rfl
 simp_all
theorem lr:∀{l:List κ} {k:κ},l.Nodup-> ¬ k∈l->(l++[k]).Nodup
 |[],k,_,_=>by simp
 | a::r,k,h,b=>by
   obtain⟨c,d⟩:=nodup_cons.mp h;refine nodup_cons.mpr %[λm=>?_|lr d λm=>b (mem_cons.mpr (Or.inr m))];rcases X4 m with q|q
   .exact c q
   .exact b (mem_cons.mpr (Or.inl (X5 q).symm))
end
noncomputable def lH(env:Env):List (Str×NameKind)->List (Str×Addr)->List (Str×Addr)
 |[],acc=>acc
 |(n,k)::r,acc=>lH env r (if k= .free then(n,(env.cells.lookup n).getD 0)::acc else acc)
theorem lI:∀(names:List (Str×NameKind)) (acc:List (Str×Addr)),(∀y∈names,y.2= .free->∃c,env.cells.lookup y.1=some c)->
 (forIn names acc λx r=>match x with
  |(name,kind)=>if(kind==NameKind.free)=true then do let a<-cellOf env name;pure (ForInStep.yield ((name,a)::r))else pure (ForInStep.yield r):Sem (List (Str×Addr)))=pure (lH env names acc)
 |[],acc,_=>rfl
 |(n,k)::r,acc,h=>by
  have d:=λacc=>lI r acc λy f=>h y (Zj _ f)
  rw[forIn_cons];by_cases b:k= .free
  .subst b;obtain⟨c,e⟩:=h _ Zl rfl;have g:cellOf env n=pure c:=by unfold cellOf;rw[e]
   simp only[beq_self_eq_true,if_true,g,pure_bind];rw[d];show _=pure (lH env r _);rw[if_pos rfl,e]
   all_goals rfl
  .have i:(k==NameKind.free)=false:=by simpa using b
   simp only[i,Zx,if_false,pure_bind];rw[d];show _=pure (lH env r _);rw[if_neg b]
theorem A6(h:∀y∈a.names,y.2= .free->∃c,env.cells.lookup y.1=some c):closureFor a env=pure (lH env a.names []):=by
 unfold closureFor;simp only[bind_pure];exact(lI a.names [] h)
theorem qR:∀(names:List (Str×NameKind)) (acc:List (Str×Addr)),(∀y∈names,y.2= .free->∃c,env.cells.lookup y.1=some c)->
 (∀y d,acc.lookup y=some d->env.cells.lookup y=some d)->(lH env names acc).lookup x=some c->env.cells.lookup x=some c
 |[],acc,_,a,e=>a x c e
 |(n,k)::r,acc,h,a,e=>by
  refine qR r _ (λy b=>h y (Zj _ b)) (λy d q=>?_) e;by_cases f:k= .free
  .rw[if_pos f,Ye]at q;obtain⟨g,i⟩:=h _ Zl f;cases b:y==n with
   | true=>
     simp_all
   | false=>rw[b]at q;exact a y d q
  .rw[if_neg f]at q;exact a y d q
theorem lJ:∀(names:List (Str×NameKind)) (acc:List (Str×Addr)),(∃c,acc.lookup x=some c)->∃c,(lH env names acc).lookup x=some c
 |[],_,h=>h
 |(n,k)::r,acc,h=>by
  refine lJ r _ ?_;by_cases a:k= .free
  .rw[if_pos a,Ye];cases b:x==n with
   | true=>exact%[_|rfl]
   | false=>exact h
  .rw[if_neg a];exact h
theorem lK:∀(names:List (Str×NameKind)) (acc:List (Str×Addr)),(x,NameKind.free)∈names->∃c,(lH env names acc).lookup x=some c
 |[],_,h=>by simp at h
 |(n,k)::r,acc,h=>by
  rcases mem_cons.mp h with e|h
  .refine lJ r _ ?_
   simp_all
  .exact lK r _ h
noncomputable def bG(X:Cx)(a:Scope)(d:ZB)(b:Shared)(c:Hp)(e:List Addr):Cx:=
 {X with
  N:=d
  s₀:=b
  H₀:=c
  env:=compEnvC a (cellsFrom (⇑b+1) a.names (lH X.env a.names [])) ⇑b X.env
  outer:=X.stack
  stack:=X.stack
  ex:=e
  fn:=λx=>decide (a.names.lookup x=some .cell)
  pn:=[]
  xe:=λ_ _=>False}
structure aD (X:Cx) (scope:Scope) (N':ZB) (cap:List (Nat×Nat)):Prop where
 kind:scope.kind= .function
 cell:∀y∈scope.names,y.2= .cell->scope.names.lookup y.1=some .cell
 loc:∀y∈scope.names,y.2= .local->scope.names.lookup y.1=some .local
 free:∀y∈scope.names,y.2= .free->X.env.kindOf y.1=some .cell\/X.env.kindOf y.1=some .free
 capt:∀p∈cap,∃x,N'[p.1]? =some x/\X.N[p.2]? =some x/\scope.names.lookup x=some .free
noncomputable def oa(n:Nat)(a:List (Nat×Nat))(b:St):St:=(List.range n).map λj=>(a.lookup j).bind λi=>(b[i]?).join
theorem kC:∀{l:List _} {j i:Nat},l.lookup j=some i->(j,i)∈l
 |[],_,_,h=>by simp at h
 |(a,b)::r,j,i,h=>by
  rw[Ye]at h;cases c:j==a with
  | true=>
    simp_all
  | false=>rw[c]at h;exact Zj _ (kC h)
theorem kD{env:Env}{names:List (Str×NameKind)}{x:Str}{k:NameKind}(h:(names.map λ(n,k)=>if(k==NameKind.free&&env.scope.kind== .function&&env.kindOf n==some .cell)then(n,NameKind.cell)else(n,k)).lookup x=some k)
 (a:k= .cell\/k= .free):(x,NameKind.free)∈names\/(x,NameKind.cell)∈names:=by
 have m:=PySem.mem_of_lookup h
 grind
theorem ei:∀names n acc,cellsFrom n names acc=cellsFrom n names [] ++acc
 |[],_,_=>rfl
 |(x,k)::r,n,acc=>by
  unfold cellsFrom
  split
  .rw[ei r _ _,ei r _ [(x,n)],Zd];rfl
  .exact ei r n acc
theorem jT:∀{names:List (Str×NameKind)} {n:Nat},(x,c)∈cellsFrom n names []->(x,NameKind.cell)∈names
 |[],_,h=>nomatch h
 |(y,k)::r,n,h=>by
  unfold cellsFrom at h
  split at h
  .rw[ei]at h;rcases X4 h with q|q
   .exact Zj _ (jT q)
   grind
  .exact Zj _ (jT h)
theorem kE(h:(cellsFrom n names acc).lookup x=some c):(x,c)∈cellsFrom n names []\/((cellsFrom n names []).lookup x=none/\acc.lookup x=some c):=by
 rw[ei,List.lookup_append]at h;cases e:(cellsFrom n names []).lookup x with
 | none=>rw[e]at h;exact .inr %[rfl|h]
 | some d=>
   rw[e]at h;have:=by simpa using h
   exact this▸ .inl (PySem.mem_of_lookup e)
theorem jq{env:Env}:∀{names:List (Str×NameKind)} {x:Str},names.lookup x=some .free->
 (names.map λ(n,k)=>if(k==NameKind.free&&env.scope.kind== .function&&env.kindOf n==some .cell)then(n,NameKind.cell)else(n,k)).lookup x=some .cell\/
 (names.map λ(n,k)=>if(k==NameKind.free&&env.scope.kind== .function&&env.kindOf n==some .cell)then(n,NameKind.cell)else(n,k)).lookup x=some .free
 |[],_,h=>by simp at h
 |(n,k)::r,x,h=>by
  have c:= @jq env r x;simp only[Yi];cases a:x==n with
  | true=>
    rw[Ye,a]at h;have d:=Z9 h;subst d;by_cases b:((NameKind.free==NameKind.free)&&env.scope.kind== .function&&env.kindOf n==some .cell)=true
    .rw[if_pos b,Ye,a];exact .inl rfl
    .rw[if_neg b,Ye,a];exact .inr rfl
  | false=>
    rw[Ye,a]at h;by_cases b:(k==NameKind.free&&env.scope.kind== .function&&env.kindOf n==some .cell)=true
    .rw[if_pos b,Ye,a];exact(c h)
    .rw[if_neg b,Ye,a];exact(c h)
section
#version
theorem Inv.kindL(I:Inv X pins σ H s)(h:X.env.kindOf x=some .cell\/X.env.kindOf x=some .free):∃c,X.env.cells.lookup x=some c:=I.ok.has x h
theorem Inv.block{a:Scope}{C:ZB}{fp:List Addr}{f:Heap}{tk:Nat}(S:aD X a C n)(I:Inv X pins σ H s)(O:∀b∈fp,kQ X pins H b)(J:∀b∈fp,b<⇑s)
 (hn:f.Ns ⇑s (λ_=>none)) (A:∀b u,s.heap.get? b=some u->f.get? b=some u) (nc:CellsOk f (⇑s+1) (cellsFrom (⇑s+1) a.names [])):
 Inv (bG X a C s H fp) [] (oa C.length n σ) H {s with heap:=f,toks:=tk}:=by
 have h:∀x c,(lH X.env a.names []).lookup x=some c->X.env.cells.lookup x=some c:=λx c e=>qR a.names [] (λy hy hk=>I.kindL (S.free y hy hk)) (λ_ _ q=>by simp at q) e
 have o:∀x c,(cellsFrom (⇑s+1) a.names (lH X.env a.names [])).lookup x=some c->((x,c)∈cellsFrom (⇑s+1) a.names []/\f.IsCell c none/\⇑s+1<=c)\/(X.env.cells.lookup x=some c/\c<⇑s):=λx c e=>by
  rcases kE e with q|⟨_,q⟩
  .exact .inl %[q|nc.empty x c q]
  .have q':=h x c q;obtain⟨v,G,L,_⟩:=I.cell x c q';exact .inr %[q'|Zt L]
 refine%[%[I.ok.mod,S.kind,I.ok.glob,I.ok.blt,Zh _,λx y c h1 h2=>?_,λx hx=>?_,λx c hq e=>?_,I.ok.hd,I.ok.frames,.inl rfl,λb g=>%[?_|λx c e=>?_],I.bs,
  Y8 I.ok.bsz I.sz,λb u e g=>?_,λb g Q=>?_,I.stack|I.stkFree],rfl,I.bare,Un.kept A,%[_,hn|λj x v e1 e2 e3=>?_],λx c e=>?_,I.hok.fresh (Zh _),λx c e=>?_,λp hp=>?_,I.hok.kept A|?_]
 .rcases o x c h1 with⟨q1,_,q2⟩|⟨q1,q2⟩<;> rcases o y c h2 with⟨r1,_,r2⟩|⟨r1,r2⟩
  .exact name_of_addr nc.apart q1 r1
  .exact absurd r2 (Nat.not_lt_of_le (Y8 (Y7 _) q2))
  .exact absurd q2 (Nat.not_lt_of_le (Y8 (Y7 _) r2))
  .exact I.ok.inj x y c q1 r1
 .have:(x,NameKind.free)∈a.names\/(x,NameKind.cell)∈a.names:=by
   rcases hx with q|q
   .exact kD q (.inl rfl)
   .exact kD q (.inr rfl)
  refine isSome_iff_exists.mp (cellsFrom_some a.names _ _ ?_);rcases this with q|q
  .exact .inr (isSome_iff_exists.mpr (lK a.names [] q))
  .exact .inl (S.cell _ q rfl)
 .rcases kE e with q|⟨q,_⟩
  .have:=(nc.empty x c q).2;show ⇑s<=c
   lia
  .have:=cellsFrom_some a.names (⇑s+1) [] (.inl (Zn hq));rw[q]at this;cases this
 .exact Zr (J b g)
 .rcases o x c e with⟨_,_,q⟩|⟨q,_⟩
  .exact λz=>absurd (J b g) (Nat.not_lt_of_le (Y8 (Y7 _) (z▸q)))
  .exact(O b g).2.2.2.2.1 x c q
 .rcases(O b g).2.2.2.1 with z|z
  .exact I.ok.noex b u e z
  .exact absurd (Zf (Zt e) (Y8 I.ok.bsz z)) (X2 _)
 .rcases mem_cons.mp (I.stkSub b Q)with z|z
  .exact(O b g).2.1 z
  .exact(O b g).2.2.1 z
 ·
  have hj:∃i,n.lookup j=some i/\σ[i]? =some (some v):=by
   have t:((List.range C.length).map _)[j]? =some _:=e2;rw[Zk]at t;cases hr:(List.range C.length)[j]? with
   | none=>rw[hr]at t;cases t
   | some j'=>
     rw[hr]at t;have ab:j'=j:=by
      have:=X3 hr;obtain⟨h1,h2⟩:=this;simpa using h2.symm
     subst ab;have B:((n.lookup j').bind _)=some v:=Z9 t;cases T:n.lookup j' with
     | none=>rw[T]at B;cases B
     | some i=>
       rw[T]at B;refine%[i,rfl|?_];have U:(σ[i]?).join=some v:=B;cases Q:σ[i]? with
       | none=>rw[Q]at U;cases U
       | some w=>rw[Q]at U;have:w=some v:=U;rw[this]
  obtain⟨i,T,hi⟩:=hj;obtain⟨y,n1,n2,Y⟩:=S.capt _ (kC T);have ag:=Z9 (n1.symm.trans e1);subst ag;have M:=S.free _ (PySem.mem_of_lookup Y) rfl;obtain⟨m,hm,hl⟩:=I.loc;obtain⟨u,r,l⟩:=hl i y v n2 hi (by rcases M with q|q;exact .inr (.inl q);exact .inr (.inr q));refine%[u,r|.inr %[?_|?_]]
  .exact jq Y
  .rcases l with⟨k,_⟩|⟨_,c,E,hv⟩
   .rcases M with q|q
    .rw[k]at q;cases q
    .rw[k]at q;cases q
   .obtain⟨c',N⟩:=lK a.names [] (PySem.mem_of_lookup Y);have:=h y c' N;rw[E]at this;have e5:=Z9 this;subst e5;obtain⟨G,L,hd⟩:=hv;refine%[c,?_,G,A c G L|hd];show(cellsFrom _ _ _).lookup y=some c;rw[ei,List.lookup_append];cases e6:(cellsFrom _ a.names []).lookup y with
    | none=>simpa using N
    | some d=>
      have:=S.cell _ (jT (PySem.mem_of_lookup e6)) rfl;rw[Y]at this;cases this
 .rcases o x c e with⟨_,q,_⟩|⟨q,_⟩
  .exact%[none|q]
  .obtain⟨v,G,L,hd⟩:=I.cell x c q;exact%[v,G,A c G L|hd]
 .rcases o x c e with⟨_,_,q⟩|⟨q,_⟩
  .exact I.hok.fresh ⋯
  .exact I.freeC x c q
 .exact absurd (show p∈([])from hp) ∅
 .show(oa C.length n σ).length=C.length;unfold oa;rw[Z5,Yb]
end
def PTs(X:Cx)(a:List Expr)(t:TT):Prop:=
 ∀pins s (b:St) H Q,Inv X pins b H s->t b H Q->
  (~~~X) (forIn a true λc r=>if r=true then do let ok<-isTrue c X.env (eval c X.env);pure (ForInStep.yield ok)else pure (ForInStep.yield r)) (TP X pins b Q) X.xe s
def yL:TT:=λ_ H Q=>Q true H
theorem A7{X:Cx}:PTs X [] yL:=λ_ _ _ H _ I h=>wpAny_tests_nil %[H,I|h]
theorem A8{X:Cx}(h:PT X c t):PTs X [c] t:=λpins s a H Q I q=>wpAny_tests_one (h pins s a H Q I q)
def og(q:TI)(n:Nat)(f:List (Nat×Nat))(g:TG)(r:TT)(s:TE):TE:=λh H Q=>q h H λJ j=>∀D,j D=none->∃W:Nat->Nat->List V->St->Hp->Prop,
 (∃m,W 0 m [] (oa n f h) (upd j D (.lst [])))/\∀i m ys c d,W i m ys c d->(J.stop i d/\Q (.ref D) d)\/
  (J.go i d/\∀x l,J.yld i d x l->g x c l λa t=>r a t λb o=>if b=true then s a o λy p=>∃zs e,p D=some (.lst zs)/\zs.length<sizeLine/\e<m/\W (i+1) e (ys++[y]) a (upd p D (.lst (zs++[y])))
   else∃e,e<m/\W (i+1) e ys a o)
theorem A9{code:Value}
 (j:∀h',h'.Ns ⇑s (λ_=>none)->(∀b u,s.heap.get? b=some u->h'.get? b=some u)->CellsOk h' (⇑s+1) (cellsFrom (⇑s+1) a.names [])->
  Q (newEnv a ⇑s d (cellsFrom (⇑s+1) a.names f) g h code (some env) c) (s>>>h')):wpAny M A (newFunctionEnv a d f [] g h code (some env) c) Q E s:=by
 refine Z2 (wpAny_alloc (Z2 (wpAny_layCells _ (λname kind i=>by lia) _ _ _ _ ?_)));have ok:=cellsFrom_ok a.names (s.heap.push {cls:= .type "dict",data:= .dict #[]}) (⇑s+1) [] %[λ_ _ l=>(nomatch l)|List.Pairwise.nil] ∅;rw[Zp]at ok;rw[Zp ..];exact Z2 (Z3 (Z3 (j _ ((Heap.Ns.new s.heap _).keeps (pushCells_keeps _ _)) (λb u e=>pushCells_keeps _ _ b u (Z6 _ e)) ok)))
theorem oh{X:Cx}{a:Scope}(S:aD X a N' a5)(hc:X.calm=true)(hi:PI X tg iter wi)
 (hg:∀L M A,PG (bG X a N' L M A) tg g) (ht:∀L M A,PTs (bG X a N' L M A) a6 tc) (he:∀L M A,PE (bG X a N' L M A) a7 te)
 (hs:∀x,foldedSetIterable iter X.env x=pure x) (I:Inv X pins σ H s) (h:og wi N'.length a5 g tc te σ H Q)
 (a8:∀(D C:Addr) (O:Hp) (s6:Shared) (fl:Flow) (m:ZC),s6.heap.Ns C m->kQ X pins O C->(∀h',SameBut C s6.heap h'->Inv X pins σ O (s6>>>h'))->Q (.ref D) O->compPost (model X.prog X.w) X.A X.xe use QQ (.ref D) C (.ok fl) s6):
 (~~~X) (comprehension (.ListComp a7 [%[tg,iter,a6|0]] a pos) a X.env cs (newList []) false (eval iter X.env) use) QQ X.xe s:=by
 refine wpAny_comprehension_free (use:=use) rfl hs (A6 (λy hy hk=>I.kindL (S.free y hy hk))) S.kind S.loc (thn (hi pins s σ H _ I h) λv s1 h1=>thn h1 λct l h2=>?_);obtain⟨it,A,tn,J,H2,e,I2,T,a9,f2,R⟩:=h2;subst e;refine wpAny_newObj_type (A9 λU Y N ab=>?_);dsimp only at Y N ab ⊢;have I3:Inv X pins σ (upd H2 ⇑l (.lst [])) {l with heap:=l.heap.push {cls:= .type "list",data:= .seq ([]:ZF).toArray}}:=I2.lnew (its:=[]) (t':=l.toks) .nil (Yy _);have hD:H2 ⇑l=none:=I2.fresh;have as:∀b∈A,b<⇑l:=λb j=>by obtain⟨o,ho,_⟩:=T.obj 0 _ a9 b j;exact Zt ho
 generalize a2:({l with heap:=l.heap.push {cls:= .type "list",data:= .seq ([]:ZF).toArray}}:Shared)=B at I3
 have G:B.heap=l.heap.push {cls:= .type "list",data:= .seq ([]:ZF).toArray}:=by rw[<-a2]
 have bb:⇑B=⇑l+1:=by rw[G,Zp]
 have f3:∀b∈A,kQ X pins (upd H2 ⇑l (.lst [])) b:=λb j=>%[(aj (Zr (as b j)))▸(f2 b j).1|(f2 b j).2]
 obtain⟨W,⟨m0,w0⟩,bf⟩:=R _ hD;have ai:∀b u,B.heap.get? b=some u->U.get? b=some u:=G▸N;have I4:Inv (bG X a N' B (upd H2 ⇑l (.lst [])) A) [] (oa N'.length a5 σ) (upd H2 ⇑l (.lst [])) {B with heap:=U,toks:=B.toks}:=I3.block S f3 (λb j=>bb▸Yf (as b j)) (G▸Y) ai (G▸ab);have bl:tn 0 U:=T.keep _ _ _ a9 λb j o e=>ai b o (G▸Z6 _ e)
 have cM:(bG X a N' B (upd H2 ⇑l (.lst [])) A).env=compEnvC a _ ⇑B X.env:=rfl;have al:∀{H':Hp},(∀b∈A,H' b=none)->∀b∈A,kQ _ [] H' b:=λhn b j=>
  %[hn b j,(I4.ok.exf b j).1,I4.ok.exfs b j,.inl j,(I4.ok.exf b j).2|λp hp=>absurd (show p∈([]:ZE)from hp) ∅]
 have a0:codeAny (model X.prog X.w) X.A (.compLoop (.ListComp a7 [%[tg,iter,a6|0]] a pos) 0 (.ref it) (.ref ⇑l) (bG X a N' B (upd H2 ⇑l (.lst [])) A).env)
  (compPost (model X.prog X.w) X.A X.xe use QQ (.ref ⇑l) ⇑B) {B with heap:=U,toks:=B.toks}:=by
  refine codeAny_loop rfl (λn s'=>∃i ys bm H',Inv _ [] bm H' s'/\tn i s'.heap/\(∀b∈A,H' b=none)/\W i n ys bm H') ?_ m0 %[0,[],_,_,I4,bl,λb j=>(f3 b j).1|w0];rintro n s5 ⟨i,ys,an,O,I5,bt,b0,w5⟩;show wpAny _ X.A _ _ _ s5;refine wpAny_noted ?_;rw[compTurn_list];refine Z2 (wpAny_standAt (Z2 ?_));rcases bf i n ys an O w5 with⟨stop,q⟩|⟨go,step⟩
  .refine thn (T.done (bG X a N' B (upd H2 ⇑l (.lst [])) A) rfl rfl rfl hc i [] s5 an O _ I5 (al b0) bt stop) λr s6 ⟨hr,I6⟩=>?_
   subst hr;refine Z3 ?_;obtain⟨m6,b3,_⟩:=I6.loc;refine a8 ⇑l ⇑B O s6 _ m6 b3 (I2.fpOk (bb▸Y7 _) I6.free) (λh' sb=>?_) q;have u6:Un (frs X.stack) A (upd H2 ⇑l (.lst [])) O B.heap s6.heap:=I6.base;have a3:∀b u,B.heap.get? b=some u->b≠⇑B:=λb u e=>Zr (Zt e)
   have u7:Un (frs X.stack) A (upd H2 ⇑l (.lst [])) O B.heap h':=%[λb u e n j hx=>(sb.2 b (a3 b u e)).trans (u6.keep b u e n j hx),λb u e n j hx=>by
    obtain⟨sl,q⟩:=u6.slot b u e n j hx;exact%[sl|(sb.2 b (a3 b u e)).trans q],u6.free,λb u e hx=>by
    obtain⟨o',q⟩:=u6.there b u e hx;exact%[o'|(sb.2 b (a3 b u e)).trans q],u6.tups,u6.frzs|u6.tbls]
   have b4:HOk X.prog X.w O h':=λb u e=>by
    have b1:∀c w,O c=some w->c≠⇑B:=λc w q z=>by
     have:O ⇑B=none:=I6.free;rw[z,this]at q;cases q
    refine(I6.hok b u e).stay (λc w b5 q=>(sb.2 c ?_).trans q) (λ_ q=>q) λ_ _ q=>q
    rcases b5 with z|z
    .exact z▸b1 b u e
    .exact b1 c _ z
   exact I2.call' (s':=(s6>>>h')) (ch:=A) (by show s6.os=l.os;rw[I6.os,<-a2];rfl) ((Un.laid (λb u e=>G▸Z6 _ e) (Zh _) hD).trans u7) b4 I6.bare λb j=>%[(f2 b j).2.2.2.1,(f2 b j).2.1,(f2 b j).2.2.2.2.1|(f2 b j).2.2.2.2.2]
  .refine thn (T.item (bG X a N' B (upd H2 ⇑l (.lst [])) A) rfl rfl rfl hc i [] s5 an O _ I5 (al b0) bt go) λr s6 ⟨u,hr,h6⟩=>?_
   subst hr;refine Z2 (thn h6 λ_ s7 ⟨x,H7,I7,r7,y7,a4,b6⟩=>?_);have ag:∀{α:Type} {t:Sem α} {Q1:α->Shared->Prop} {E2:ZD} {s':Shared},(~~~X) t Q1 (λ_ _=>False) s'->(~~~X) t Q1 E2 s':=λh=>wpAny_mono h (λ_ _ q=>q) λ_ _ f=>f.elim
   have a1:∀{E:St} {H8:Hp} {s8:Shared},Inv (bG X a N' B (upd H2 ⇑l (.lst [])) A) ([] ++oX A s7.heap) E H8 s8->
    Inv _ [] E H8 s8/\tn (i+1) s8.heap/\∀b∈A,H8 b=none:=λ{E H8 s8} I8=>by
    refine%[I8.unpinned,T.keep _ _ _ a4 λb j o e=>(I8.pin (b,o) (Ym _ (Ym _ (eB j e)))).1|λb j=>?_];obtain⟨o,e,d⟩:=T.obj _ _ a4 b j;exact(I8.pin (b,o) (Ym _ (Ym _ (eB j e)))).2.1
   refine Z2 (ag (thn (hg B _ A _ s7 an H7 x u _ (I7.pinned (al b6) (T.obj _ _ a4)) r7 (step x H7 y7)) λ_ s8 ⟨E,H8,I8,q8⟩=>Z2 (ag (thn (ht B _ A _ s8 E H8 _ I8 q8) λb s9 ⟨H9,I9,q9⟩=>?_))));cases b with
   | false=>
     obtain⟨m',hm,w9⟩:=(q9)
     obtain⟨J1,J2,J3⟩:=a1 I9;exact Z3 %[rfl,m',hm,i+1,ys,E,H9,J1,J2,J3|w9]
   | true=>
     have q9:=(q9:te E H9 λy O=>∃zs m',O ⇑l=some (.lst zs)/\zs.length<sizeLine/\m'<n/\W (i+1) m' (ys++[y]) E _)
     refine Z2 (Z2 (ag (thn (he B _ A _ s9 E H9 _ I9 q9) λu2 b7 ⟨y,b2,b9,ca,zs,m',hz,hl,hm,cd⟩=>Z2 (ag (thn (nY _ b7 E b2 (.ref ⇑l) [y] (.ref ⇑l) [u2] (λv H'=>v= .non/\H'=upd b2 ⇑l (.lst (zs++[y]))) b9 rfl (.cons ca .nil) %[_,rfl,_,hz,hl,rfl|rfl]) λu3 c0 ⟨v3,c1,cl,c2,c3,co⟩=>?_)))));subst co;obtain⟨J1,J2,J3⟩:=a1 cl;exact Z3 (Z3 %[rfl,m',hm,i+1,ys++[y],E,_,J1,J2,J3|cd])
 subst a2;exact(codeAny_compStart_list a0 (T.self _ 0 _ _ _ bl a0))
theorem Ba{X:Cx}(S:aD X a e f)(n:X.calm=true)(hi:PI X l iter o)
 (p:∀b c d,PG (bG X a e b c d) l g) (r:∀b c d,PTs (bG X a e b c d) i t) (u:∀b c d,PE (bG X a e b c d) j v)
 (w:∀x,foldedSetIterable iter X.env x=pure x):
 PE X (.ListComp j [%[l,iter,i|0]] a pos) (og o e.length f g t v):=by
 intro pins s B H Q I h;exact oh S n hi p r u w I h λD C y E G m z _ k q=>%[m,z|λh' A=>%[.ref D,y,k h' A,rfl|q]]
noncomputable def Its(z:Str):It:=⟨λi _=>i<z.cps.size,λi H x a=>a=H/\∃c,z.cps[i]? =some c/\x= .str ⟨#[c]⟩,λi _=>z.cps.size<=i⟩
theorem tq{P:Program}{K:ZA}(it:Addr)(z:Str)(t:Tok):oW P w K tg (Its z) [it] it (λi h=>h.IsStrIter it "str_ascii_iterator" z t i) where
 mem:=by simp
 obj:=λi h st b hb=>by
  have e:=by simpa using hb
  subst e;obtain⟨o,e,c,d⟩:=st;exact%[o,e|λv z=>by lia]
 keep:=λi h h' st k=>by
  obtain⟨o,e,r⟩:=st;exact%[o,k it ∅ o e|r]
 item:=by
  intro X hP hw hK hc i pins s σ H E I hf st hg;have hlt:i<z.cps.size:=hg;obtain⟨f0,f1,f2,f3,f4,f5⟩:=hf it ∅;refine wpAny_pyNext_ascii_item st (c:=z.cps[i]) ∅ λh' st' sb=>?_
  obtain⟨o,e,c,d⟩:=id st';exact%[_,rfl|qJ e c d (by decide) %[.str _,H,(I.turned (λb o hb e=>(sb.2 b hb).trans e) f0 f1 f3 f4 f5),%[_|rfl],%[rfl,_,by simp|rfl],st'|λb hb=>(hf b hb).1]]
 done:=by
  intro X hP hw hK hc i pins s σ H E I hf st hg;have hle:z.cps.size<=i:=hg;obtain⟨f0,f1,f2,f3,f4,f5⟩:=hf it ∅;exact wpAny_pyNext_ascii_end (I.ok.hd hc) st (by simp[hle]) λh' eb=>%[rfl|I.turned (λb o hb e=>eb b o hb e) f0 f1 f3 f4 f5]
 self:=λ_ _ _ _ _ st h=>wpAny_pyIter_striter_ascii st h
theorem we{P:Program}{K:ZA}(it:Addr)(z:Str)(t:Tok):oW P w K tg (Its z) [it] it (λi h=>h.IsStrIter it "str_iterator" z t i) where
 mem:=by simp
 obj:=λi h st b hb=>by
  have e:=by simpa using hb
  subst e;obtain⟨o,e,c,d⟩:=st;exact%[o,e|λv z=>by rw[d]at z;cases z]
 keep:=λi h h' st k=>by
  obtain⟨o,e,r⟩:=st;exact%[o,k it ∅ o e|r]
 item:=by
  intro X hP hw hK hc i pins s σ H E I hf st hg;have hlt:i<z.cps.size:=hg;obtain⟨f0,f1,f2,f3,f4,f5⟩:=hf it ∅;refine wpAny_pyNext_wide_item st (c:=z.cps[i]) ∅ λh' st' sb=>?_
  obtain⟨o,e,c,d⟩:=id st';exact%[_,rfl|qJ e c d (by decide) %[.str _,H,(I.turned (λb o hb e=>(sb.2 b hb).trans e) f0 f1 f3 f4 f5),%[_|rfl],%[rfl,_,by simp|rfl],st'|λb hb=>(hf b hb).1]]
 done:=by
  intro X hP hw hK hc i pins s σ H E I hf st hg;have hle:z.cps.size<=i:=hg;obtain⟨f0,f1,f2,f3,f4,f5⟩:=hf it ∅;exact wpAny_pyNext_wide_end (I.ok.hd hc) st (by simp[hle]) λh' eb=>%[rfl|I.turned (λb o hb e=>eb b o hb e) f0 f1 f3 f4 f5]
 self:=λ_ _ _ _ _ st h=>wpAny_pyIter_striter_wide st h
def CK(D:Addr)(n i:Nat)(Pv:Nat->List V->St->Hp->Prop)(ys:List V)(b:St)(y:V)(H:Hp):Prop:=
 ∃zs a,H D=some (.lst zs)/\zs.length<sizeLine/\a<n-i/\(a=n-(i+1)/\i+1<=n/\Pv (i+1) (ys++[y]) b (upd H D (.lst (zs++[y]))))
def CN(n i:Nat)(Pv:Nat->List V->St->Hp->Prop)(ys:List V)(b:St)(H:Hp):Prop:=∃a,a<n-i/\(a=n-(i+1)/\i+1<=n/\Pv (i+1) ys b H)
theorem CK.mk{Pv:Nat->List V->St->Hp->Prop}(hi:i<n)(a:H D=some (.lst zs))(b:zs.length<sizeLine)(p:Pv (i+1) (ys++[y]) c (upd H D (.lst (zs++[y])))):CK D n i Pv ys c y H:=
 %[zs,n-(i+1),a,b,⋯,rfl,hi|p]
theorem CN.mk{Pv:Nat->List V->St->Hp->Prop}(hi:i<n)(p:Pv (i+1) ys a H):CN n i Pv ys a H:=%[n-(i+1),⋯,rfl,hi|p]
theorem bL{J:It}{g:TG}{u:TT}{v:TE}{w:Hp->Prop}(Pv:Nat->List V->St->Hp->Prop)(z:Pv 0 [] c H)(s:∀i ys c H,i<n->Pv i ys c H->J.go i H)(d:∀ys c H,Pv n ys c H->J.stop n H)
 (A:∀i ys c H,i<n->Pv i ys c H->∀x f,J.yld i H x f->g x c f λa t=>u a t λb h=>if b=true then v a h λy r=>CK D n i Pv ys a y r else CN n i Pv ys a h) (B:∀ys c H,Pv n ys c H->w H):
 ∃W:Nat->Nat->List V->St->Hp->Prop,(∃m,W 0 m [] c H)/\∀i m ys j l,W i m ys j l->(J.stop i l/\w l)\/
  (J.go i l/\∀x f,J.yld i l x f->g x j f λa t=>u a t λb h=>if b=true then v a h λy r=>∃zs o,r D=some (.lst zs)/\zs.length<sizeLine/\o<m/\W (i+1) o (ys++[y]) a (upd r D (.lst (zs++[y])))
   else∃o,o<m/\W (i+1) o ys a h):=by
 refine%[λi m ys c H=>m=n-i/\i<=n/\Pv i ys c H,%[n,by simp,Yy _|z]|?_];rintro i m ys c H ⟨rfl,hi,p⟩;by_cases q:i<n
 .exact .inr %[s i ys c H q p|λx f y=>A i ys c H q p x f y]
 .have e:i=n:=by lia
  subst e;exact .inl %[d ys c H p|B ys c H p]
theorem vd:∀{bs:List Bool} {us:ZF} {i:Nat} {v:Value},aC (bs.map V.bl) us->us[i]? =some v->∃b,bs[i]? =some b/\v= .bool b
 |[],_,_,_,r,e=>by cases r;simp at e
 | b::bs,_,i,v,r,e=>by
   cases r with
   | cons a c=>
     cases(a);cases i with
     | zero=>simp at e;exact%[b,rfl|e.symm]
     | succ i=>
       obtain⟨d,f,g⟩:=vd c (e);exact%[d,f|g]
theorem lL(bs:List Bool):(List.range bs.length).all (λi=>bs.getD i false)=bs.all id:=by
 have e:(List.range bs.length).map (λi=>bs.getD i false)=bs:=by
  apply ext_getElem
  .simp
  .intro i a b
   simp_all
 have:(List.range bs.length).all (λi=>bs.getD i false)=((List.range bs.length).map λi=>bs.getD i false).all id:=by rw[all_map];rfl
 rw[this,e]
theorem yM{X:Cx}(g:X.calm=true):bK X (.builtin "all") (λxs H Q=>∃(p:Addr) (bs:List Bool),xs=[.ref p]/\SqL X.K H p (bs.map V.bl)/\Q (.bl (bs.all id)) H):=by
 intro pins s z H xs us Q I r h;obtain⟨p,bs,rfl,j,q⟩:=h;obtain⟨u,rfl,l⟩:=cR r;cases l;obtain⟨its,d,pl,A⟩:=I.list j;have m:X.A.in1.handled=none:=I.ok.hd g;have a:bs.length=its.toArray.size:=by rw[Zo,<-d.length,Z5]
 refine call_all_walk (wpAny_pyIter_list pl.isList %[⇑s,[⇑s,p],[⇑s],its.toArray.size,_,_,λi=>bs.getD i false,rfl,Walks.list m _ p (Zr (by obtain⟨o,n,_⟩:=pl.isList;exact Zt n)) its.toArray,%[%[_,Zi _ rfl,rfl|rfl]|pl.isList.push _],?_|?_])
 .intro i v s' t B w c;obtain⟨b,f,rfl⟩:=vd d (by simpa using w);have e:bs.getD i false=b:=by simp_all
  have c:t (bs.getD i false) s':=c;rw[e]at c;exact wpAny_truthy_bool c
 .intro h' tk y;rw[<-a,lL];refine%[.bl _,H,I.kept λb o e=>y b o ?_ (Z6 _ e),rfl|q];have:=Zt e;intro f;exact absurd (X5 f) (Zr this)
def Dt:V->Option Int->Option Int->Hp->VK->Prop:=λx lo hi H Q=>∃z,x= .str z/\z.length<=sizeLine/\Q (.str (Txt.slice z lo hi)) H
theorem Du{X:Cx}:SlR X Dt:=by
 intro pins s m H x v n o lo hi p Q I f b pl d h;obtain⟨z,rfl,g,q⟩:=h;obtain⟨t,rfl⟩:=f;refine%["str",_,F.slot_str_getitem.lookup,typeIs_str _ _ _|?_];have a:∀l u,(Txt.slice z l u).length<=sizeLine:=λl u=>Y8 (Txt.slice_le z _ _) g
 cases pl with
 | none=>
   cases d with
   | none=>exact wpAny_getItem_str_slice (l:=none) (u:=none) (st:=none) b rfl (post_val_or_str %[a _ _|λt' k=>%[.str (Txt.slice z _ _),H,I.tok k,%[_|rfl]|q]])
   | int j c=>exact wpAny_getItem_str_slice (l:=none) (u:=some (j,c)) (st:=none) b rfl (post_val_or_str %[a _ _|λt' k=>%[.str (Txt.slice z _ _),H,I.tok k,%[_|rfl]|q]])
 | int i e=>
   cases d with
   | none=>exact wpAny_getItem_str_slice (l:=some (i,e)) (u:=none) (st:=none) b rfl (post_val_or_str %[a _ _|λt' k=>%[.str (Txt.slice z _ _),H,I.tok k,%[_|rfl]|q]])
   | int j c=>exact wpAny_getItem_str_slice (l:=some (i,e)) (u:=some (j,c)) (st:=none) b rfl (post_val_or_str %[a _ _|λt' k=>%[.str (Txt.slice z _ _),H,I.tok k,%[_|rfl]|q]])
theorem fV:∀{ss:ZB} {us:ZF},aC (ss.map V.str) us->StrsAre us ss
 |[],_,r=>by cases r;exact .nil
 | x::ss,_,r=>by
   cases r with
   | cons a b=>
     obtain⟨t,e⟩:=a;subst e;exact .cons x t (fV b)
theorem oi:∀{ss:ZB} {us:ZF},StrsAre us ss->aC (ss.map V.str) us
 | _,_,.nil=> .nil
 | _,_,.cons x t h=> .cons %[t|rfl] (oi h)
def ve(K:ZA):V->List V->Hp->VK->Prop:=λx vs H Q=>∃z l ss,x= .str z/\vs=[.ref l]/\SqL K H l (ss.map V.str)/\(ss.map (·.length)).sum+ss.length*z.length<=16777216/\Q (.str (Txt.join z ss)) H
theorem Bb{X:Cx}:MtM X "str.join" (ve X.K):=by
 intro pins s e H x vs v us Q I a b h;obtain⟨z,l,ss,rfl,rfl,c,hw,q⟩:=h;obtain⟨t,rfl⟩:=a;obtain⟨u,rfl,d⟩:=b.one;cases d;obtain⟨its,r,pl,f⟩:=I.list c;exact PyProof.Rows.join_list pl.isList (fV r) hw λt' k=>%[.str _,H,I.tok k,%[_|rfl]|q]
theorem yN{X:Cx}:bK X (.builtin "isinstance") (λxs H Q=>∃x n t b,xs=[x,.ty n]/\iW X.K H x t/\kitOne X.K t (.type n)=some b/\Q (.bl b) H):=by
 intro pins s d H xs us Q I r h;obtain⟨x,n,t,b,rfl,ty,e,q⟩:=h;obtain⟨u,f,rfl,c,a⟩:=iQ r;cases(a);exact vY I c ty e λtk=>%[.bl b,H,I.tok tk,rfl|q]
theorem oj(z:Str)(c i:Nat):Builtin.Str.subAt z ⟨#[c]⟩ i=decide (z.cps[i]? =some c):=by
 unfold Builtin.Str.subAt;have b:(⟨#[c]⟩:Str).length=1:=rfl;rw[b];by_cases hi:i<z.cps.size
 .have e:z.cps.extract i (i+1)= #[z.cps[i]]:=by
   apply Array.ext
   .simp;lia
   .intro j d a;simp at a;subst a;simp
  rw[e,Array.getElem?_eq_getElem hi];by_cases f:z.cps[i]=c
  .subst f;simp
  simp_all
 .have e:z.cps.extract i (i+1)= #[]:=by
   apply Array.ext
   .simp;lia
   .intro j d a;simp at a
  rw[e,Array.getElem?_eq_none ⋯];simp
theorem yO(z:Str)(c:Nat):(!(Builtin.Str.occurrences z ⟨#[c]⟩ 0 z.length 1).isEmpty)=decide (c∈z.cps.toList):=by
 rcases StrLaws.occ_head z _ 1 (Zh _)with⟨e,d⟩|⟨i,r,e,f,_⟩
 .rw[e];refine(Zg λg=>?_).symm;obtain⟨j,h,l⟩:=List.mem_iff_getElem.mp g;have a:=by simpa using h
  refine d j %[?_|?_]
  .show j+1<=z.cps.size;lia
  .rw[oj];exact Ze (by rw[Array.getElem?_eq_getElem a];simpa using l)
 .rw[e];refine(Ze ?_).symm;have b:=f.2;rw[oj]at b;have:=Array.mem_of_getElem? (Zn b);simpa using this
section
variable{X:Cx}
abbrev Cc:R2:=λx y H Q=>∃i j,x= .str i/\y= .str j/\i.length+j.length<=sizeLine/\Q (.str (i++j)) H
abbrev yP:R2:=λx y H Q=>rI0 (λi j=> .int (i+j)) x y H Q\/(Cc x y H Q\/Dk x y H Q)
theorem Bc:OpR X (binaryOp .Add) yP:=yc.or (sQ.or Dl)
abbrev yQ:R2:=λx y H Q=>rI yb (λi j=> .int (i*j)) x y H Q\/Dm x y H Q
theorem Bd:OpR X (binaryOp .Mult) yQ:=yd.or Do
abbrev Dv:R2:=rEq
theorem Dw:OpR X (compareOp .Eq) Dv:=EZ
abbrev Dx:R2:=rNe
theorem Dy:OpR X (compareOp .NotEq) Dx:=E3
abbrev E9:R2:=λx y H Q=>∃i j,x= .str i/\y= .str j/\Q (.bl (!(Builtin.Str.occurrences j i 0 j.length 1).isEmpty)) H
abbrev Be(K:ZA):R2:=λx y H Q=>E9 x y H Q\/rIn K false x y H Q
theorem Dz:OpR X (compareOp .In) (Be X.K):=vU.or v6
abbrev Bf(K:ZA):V->Option Int->Option Int->Hp->VK->Prop:=λx lo hi H Q=>Di K x lo hi H Q\/(Db K x lo hi H Q\/Dt x lo hi H Q)
theorem DA:SlR X (Bf X.K):=AX.or (Dc.or Du)
def Bg(K:ZA)(c:TE):TI:=λd H R=>c d H λx b=>(∃a,x= .ref a/\(∃xs,SqL K b a xs)/\R (Itl K a) b)\/(∃a,x= .ref a/\(∃xs,SqT K b a xs)/\R (Itt K a) b)\/∃z,x= .str z/\R (Its z) b
theorem DB(n:PE X l r):PI X C l (Bg X.K r):=by
 intro pins s u H R I h;refine thn (n pins s u H _ I h) λv d ⟨x,g,f,i,w⟩=>?_
 have c:∀b∈[⇑d],kQ X pins g b:=λb y=>by
  have e:b=⇑d:=by simpa using y
  subst e;exact f.fpOk (Zh _) (f.hok.fresh (Zh _))
 rcases w with⟨a,e,⟨xs,j⟩,q⟩|⟨a,e,⟨xs,j⟩,q⟩|⟨z,e,q⟩
 .subst e;cases i;obtain⟨its,A,p,B⟩:=f.list j;exact wpAny_pyIter_list p.isList %[⇑d,[⇑d],_,_,g,rfl,f.kept (t':=d.toks) λb o e=>Z6 _ e,vR a _,%[_,Zi _ rfl,rfl|rfl],c|q]
 .subst e;cases i;obtain⟨its,A,p,B⟩:=f.tuple j;exact wpAny_pyIter_tuple (p) %[⇑d,[⇑d],_,_,g,rfl,f.kept λb o e=>Z6 _ e,sM a _,%[_,Zi _ rfl,rfl|rfl],c|q]
 .subst e;obtain⟨t,rfl⟩:=i;cases m:z.cps.all _ with
  | true=>
    exact wpAny_pyIter_ascii m %[⇑d,[⇑d],_,_,g,rfl,f.kept λb o e=>Z6 _ e,tq _ z t,%[_,Zi _ rfl,rfl|rfl],c|q]
  | false=>
    exact wpAny_pyIter_wide m %[⇑d,[⇑d],_,_,g,rfl,f.kept λb o e=>Z6 _ e,we _ z t,%[_,Zi _ rfl,rfl|rfl],c|q]
end
noncomputable def bZ(c:Scope)(N:ZB)(a:Scope)(d:ZB)(b:List (Nat×Nat)):Bool:=
 decide (a.kind= .function)&&a.names.all (λy=>(decide (y.2≠ .cell)||decide (a.names.lookup y.1=some .cell))&&(decide (y.2≠ .local)||decide (a.names.lookup y.1=some .local))&&(decide (y.2≠ .free)||decide (c.names.lookup y.1=some .cell)||decide (c.names.lookup y.1=some .free)))&&
  b.all λp=>match d[p.1]? with
   | some x=>decide (N[p.2]? =some x)&&decide (a.names.lookup x=some .free)
   | none=>false
theorem aD.of{X:Cx}(h:bZ X.env.scope X.N a g c=true):aD X a g c:=by
 unfold bZ at h;rw[Zu,Zu,all_eq_true,all_eq_true]at h;obtain⟨⟨i,d⟩,j⟩:=h;refine%[Zn i,λy b f=>?_,λy b f=>?_,λy b l=>?_|λp m=>?_]
 .have:=d y b;simp only[Zu,or_eq_true,decide_eq_true_eq]at this;exact this.1.1.resolve_left λq=>q f
 .have:=d y b;simp only[Zu,or_eq_true,decide_eq_true_eq]at this;exact this.1.2.resolve_left λq=>q f
 .have:=d y b;simp only[Zu,or_eq_true,decide_eq_true_eq]at this;rcases this.2 with(q|q)|q
  .exact absurd l q
  .exact .inl q
  .exact .inr q
 .have:=j p m;cases e:g[p.1]? with
  | none=>simp_all
  | some x=>
    rw[e]at this;simp only[Zu,decide_eq_true_eq]at this;exact%[x,rfl,this.1|this.2]
structure Gv (mg:ZC) (x:Str) (v:V):Prop where
 ex:∃u,mg x=some u/\aK v u
theorem Cd{X:Cx}(g:Gv X.mg x v)(a:Gl X x)(b:(x==("__debug__":Str))=false):PE X (.Name x pos) (tC v):=by
 obtain⟨u,h,r⟩:=g.ex;exact Ay a h r b
structure Cal (P:Program) (w:World) (K:ZA) (mg:ZC) (base:Heap) (k:Nat) (x:Str) (ps:ZB) (sp:Sp):Prop where
 ex:∃f fd,fD P w K mg base CX0 k f fd ps sp/\mg x=some (.ref f)/\keepIn K (.ref f)=true/\cS K fd ps []
structure aA (K:ZA) (mg:ZC) (x:Str) (st:Stmt) (ps:ZB):Prop where
 ex:∃f fd,Fun K x x st f fd/\mg x=some (.ref f)/\cS K fd ps []
theorem aA.cal{P:Program}{K:ZA}{st:Stmt}(D:aA K mg x st ps)(S:aq N ps (af st))
 (a:∀(H:Hp) (vs:List V) (Q:VK) (E:XK),sp vs H Q E->vs.length=ps.length/\∀(f:Addr) (b:Value) (A:Around) (outer:List Env) (s:Shared),bC k (A.deeper (envOfC x (af st) ⇑s f b))->
  ∃t,PSs (eC CX0 P w K mg base N x (af st) f b A outer s H E).nox (be st) t/\t {nx:=λ_ c=>Q .non c,rt:=Q} (start N vs) H):Cal P w K mg base (k+1) x ps sp:=by
 obtain⟨f,d,F,e,g⟩:=D.ex;exact%[f,d,F.ok S (λv H Q E h=>(a H v Q E h).1) (λb A o s H v Q E r h=>(a H v Q E h).2 f b A o s r),e,F.kp|g]
theorem DC{X:Cx}(C:Cal X.prog X.w X.K X.mg X.base j x ps sp)(g:bC k X.A)(h:Gl X x)(i:fU CX0 X E0)(l:PA X (e::a) t)(b:j<=k)
 (c:(x==("__debug__":Str))=false) (m:starEach (e::a) X.env=(false,eval e X.env)::starEach a X.env) (d:(backTo pos (starEach a X.env)).any (·.1)=false):
 PE X (.Call (.Name x p) (e::a) [] pos) (nR sp [] E0 t):=by
 obtain⟨f,r,F,n,o,q⟩:=C.ex;exact va F (g.mono b) h n o q .nil i l c m d
theorem DD{K:ZA}{h:Heap}{st:Stmt}{kV e g d ct:Value}(X:K.In h)(G:h.Ns mainGlobals mg)
 (a:nsIn K mainGlobals x=some (some (.ref f))) (l:K.lookup f=some %[m,od,.func (fnOf x x (bQ st) (be st) (af st) .none kV e g i d ct)|j]) (c:codeIn K d x=true) (k:keepIn K (.ref f)=true)
 (b:∀(kV e g:Value) (i:ZH) (d ct:Value) (us:ZF),us.length=ps.length->bindArgs (fnOf x x (bQ st) (be st) (af st) .none kV e g i d ct) %[us|[]]=pure (ps.zip us)):aA K mg x st ps:=
 %[f,_,dm l c k,mg_of X G a|(dm l c k).binds b]
theorem gT{K:ZA}{h:Heap}(X:K.In h)(G:h.Ns mainGlobals mg)(a:nsIn K mainGlobals x=some (some u))(r:aK v u):Gv mg x v:=%[u,mg_of X G a|r]
theorem jU(h:∀nx:St->Hp->Prop,(∀a b,u D a b->nx a b)->t {D with nx:=nx} c H):bh t u D c H:=h _ λ_ _ x=>x
theorem ax(h:∀a:It->Hp->Prop,(∀J f,(∃W:Nat->Nat->St->Hp->Prop,(∃m,W 0 m b f)/\∀i m b H,W i m b H->
 (J.stop i H/\D.nx b H)\/(J.go i H/\∃N:St->Hp->Prop,(∀c d,N c d->∃j,j<m/\W (i+1) j c d)/\∀x d,J.yld i H x d->g x b d λe l=>n {D with nx:=N,ct:=N,bk:=D.nx} e l))->a J f)->o b H a):ya o g n D b H:=h _ λ_ _ x=>x
theorem aO(h:∀c:It->Hp->Prop,(∀J j,(∀D,j D=none->∃W:Nat->Nat->List V->St->Hp->Prop,
 (∃m,W 0 m [] (oa n l o) (upd j D (.lst [])))/\∀i m ys d e,W i m ys d e->(J.stop i e/\Q (.ref D) e)\/
  (J.go i e/\∀x p,J.yld i e x p->g x d p λa s=>t a s λb q=>if b=true then u a q λy r=>∃zs f,r D=some (.lst zs)/\zs.length<sizeLine/\f<m/\W (i+1) f (ys++[y]) a (upd r D (.lst (zs++[y])))
   else∃f,f<m/\W (i+1) f ys a q))->c J j)->v o H c):og v n l g t u o H Q:=h _ λ_ _ x=>x
section
variable{X:Cx}{K:ZA}
theorem DE(h:X.K=K):OpR X (compareOp .In) (Be K):=by subst h;exact Dz
theorem slK(h:X.K=K):SlR X (Bf K):=by subst h;exact DA
theorem wg(h:X.K=K):bK X (.builtin "len") (λxs H Q=>∃x n,xs=[x]/\AM K x H n/\Q (.int n) H):=by subst h;exact yk
theorem wj(h:X.K=K)(a:X.calm=true):bK X (.builtin "all") (λxs H Q=>∃(p:Addr) (bs:List Bool),xs=[.ref p]/\SqL K H p (bs.map V.bl)/\Q (.bl (bs.all id)) H):=by subst h;exact yM a
theorem wk(h:X.K=K):bK X (.builtin "isinstance") (λxs H Q=>∃x n t b,xs=[x,.ty n]/\iW K H x t/\kitOne K t (.type n)=some b/\Q (.bl b) H):=by subst h;exact yN
theorem tt(h:X.K=K):bK X (.type "list") (λxs H Q=>∃p ys,xs=[.ref p]/\(SqL K H p ys\/SqT K H p ys)/\∀l,H l=none->Q (.ref l) (upd H l (.lst ys))):=by subst h;exact pj
theorem yR(h:X.K=K):MtR X "str.join" (ve K):=by subst h;exact Bb
theorem wn(h:X.K=K)(d:PE X a e)(f:∀b,isTrue a X.env b=(do let v<-b;standAt a.pos;holding [v] (truthy v))):PT X a (λg H Q=>e g H λx c=>∃k,yh K x c k/\Q k c):=by subst h;exact yi d f
theorem Bh(h:X.K=K)(a:PE X l b):PI X c l (Bg K b):=by subst h;exact DB a
variable{o e:Expr}{es:List Expr}{to:TE}{t:TA}{name:Str}{apos cpos:Pos}{T id:String}{r:V->List V->Hp->VK->Prop}
theorem Bi(h:X.K=K)(d:PlainAttrs T)(slot:Slot T name id)(c:typeOf (.builtin id)=pure (.type "method_descriptor"))(f:MtR X id r)(g:PE X o to)
 (a:attributeBase o name X.env (eval o X.env)=eval o X.env) (b:(apos.endLine==cpos.line)=true):PE X (.Call (.Attribute o name apos) [] [] cpos) (AY K T r to):=by
 subst h;exact Dj d slot c f g a b
theorem yS(h:X.K=K)(g:PlainAttrs T)(slot:Slot T name id)(f:typeOf (.builtin id)=pure (.type "method_descriptor"))(i:MtR X id r)(j:PE X o to)(l:PA X (e::es) t)
 (b:attributeBase o name X.env (eval o X.env)=eval o X.env)
 (d:((backTo cpos (starEach (e::es) X.env)).all (λx=>!x.1)&&(backToKw cpos (keywordEach [] X.env)).all (λx=>x.1.isSome)
  && decide ((e::es).length+([]:List Keyword).length+(if([]:List Keyword).isEmpty then 0 else 1)<30))=true)
 (c:(apos.endLine==cpos.line)=true) (m:starEach (e::es) X.env=(false,eval e X.env)::starEach es X.env) (a:(backTo cpos (starEach es X.env)).any (·.1)=false):
 PE X (.Call (.Attribute o name apos) (e::es) [] cpos) (tBM K T r to t):=by
 subst h;exact E7 g slot f i j l b d c m a
end
structure tz (z TI TO i1 i2:Addr):Prop where
 TIz:TI≠z
 TOz:TO≠z
 i1z:i1≠z
 i2z:i2≠z
 TITO:TI≠TO
 TIi1:TI≠i1
 TIi2:TI≠i2
 TOi1:TO≠i1
 TOi2:TO≠i2
 i12:i1≠i2
section
#where
variable{z TI TO i1 i2:Addr}{fp1 fp2:List Addr}{n1 n2 i:Nat}{P1 P2:Nat->Value->Prop}{St1 St2:Nat->Heap->Prop}
theorem yT{Q:ZD}(D1:Draws prog w A i1 fp1 n1 P1 St1)(D2:Draws prog w A i2 fp2 n2 P2 St2)(D:tz z TI TO i1 i2)(O:∀b∈fp1,b≠z/\b≠TO/\b≠i2)(m2:∀b∈fp2,b≠z/\b≠TO/\b≠i1)
 (T:IsZip s.heap z TI TO .none) (ag:IsPair s.heap TI (.ref i1) (.ref i2)) (ai:IsPair s.heap TO a b) (h1:St1 i s.heap) (h2:St2 i s.heap) (l1:i<n1) (l2:i<n2)
 (hQ:∀x y h' tk,P1 i x->P2 i y->IsZip h' z TI TO (rawInt ⇑s)->IsPair h' TO x y->St1 (i+1) h'->St2 (i+1) h'->IsPair h' ⇑s x y->
  (∀c o,c≠z->c≠TO->c≠i1->c≠i2->s.heap.get? c=some o->h'.get? c=some o)->Q (.ref ⇑s) {s with heap:=h',toks:=tk}):
 ↥A (Builtin.«zip.__next__» %[[.ref z]|[]]) (λal s'=>∃v,al= .done (.ret v)/\Q v s') E s:=by
 have r:∀{k h h' c},(∀b∈fp1,b≠c)->SameBut c h h'->St1 k h->St1 k h':=λhc sb st=>D1.frame _ _ _ st λb d o e=>(sb.2 b (hc b d)).trans e
 have t:∀{k h h' c},(∀b∈fp2,b≠c)->SameBut c h h'->St2 k h->St2 k h':=λhc sb st=>D2.frame _ _ _ st λb d o e=>(sb.2 b (hc b d)).trans e
 show wpAny _ _ (field (.ref z) 2>>= _) _ _ _;refine Z2 (wpAny_field T rfl (x:= .bool false) rfl ?_);show wpAny _ _ (field (.ref z) 3>>= _) _ _ _;refine Z2 (wpAny_field T rfl (x:= .ref TI) rfl (Z2 (wpAny_seqItems ag rfl ?_)));show wpAny _ _ (Builtin.SmallTypes.ownedTupleIsFree (.ref z)>>= _) _ _ _;refine Z2 ?_;unfold Builtin.SmallTypes.ownedTupleIsFree;refine Z2 (wpAny_field T rfl (x:= .none) rfl (Z3 ?_));simp only[if_true];refine Z2 (wpAny_rule (Z2 (wpAny_field T rfl (x:= .ref TO) rfl (Z2 (wpAny_setField_rec T ∅ λg1 L n=>?_)))));replace L:IsZip g1 z TI TO .ellipsis:=L;refine Z2 ?_;simp only[List.zipIdx_cons,List.zipIdx_nil,forIn_cons,List.forIn_nil];refine Z2 (Z2 (wpAny_onRaise ?_));show wpAny _ _ (Builtin.SmallTypes.nextOf (.ref i1)>>= _) _ _ _;refine Z2 (D1.item i _ _ _ l1 (r (λb d=>(O b d).1) n h1) λx g2 an px as f=>Z3 ?_);replace f:SameBut i1 g1 g2:=f;have H:IsPair g2 TO a b:=(f.2 _ D.TOi1).trans ((n.2 _ D.TOz).trans ai);refine Z2 (wpAny_seqItems H rfl (Z2 (wpAny_updateSeq_pair (s:={s with heap:=g2,toks:=an}) H λg3 p g=>?_)));replace p:IsPair g3 TO x b:=p;replace g:SameBut TO g2 g3:=g;refine Z2 (wpAny_letGo (Z3 (Z2 (Z2 (wpAny_onRaise ?_)))));show wpAny _ _ (Builtin.SmallTypes.nextOf (.ref i2)>>= _) _ _ _;refine Z2 (D2.item i _ _ _ l2 (t (λb d=>(m2 b d).2.1) g (t (λb d=>(m2 b d).2.2) f (t (λb d=>(m2 b d).1) n h2))) λy g4 u py a0 j=>Z3 ?_);replace j:SameBut i2 g3 g4:=j;have I:IsPair g4 TO x b:=(j.2 _ D.TOi2).trans p;refine Z2 (wpAny_seqItems I rfl (Z2 (wpAny_updateSeq_pair (s:={s with heap:=g4,toks:=u}) I λq m l=>?_)));replace m:IsPair q TO x y:=m;replace l:SameBut TO g4 q:=l;refine Z2 (wpAny_letGo (Z3 (Z3 (Z2 (wpAny_seqItems m rfl (Z2 (wpAny_newTuple ?_)))))));have U:q.objs.size=⇑s:=by rw[l.1,j.1,g.1,f.1,n.1]
 have Y:IsZip q z TI TO .ellipsis:=(l.2 _ D.TOz.symm).trans ((j.2 _ D.i2z.symm).trans ((g.2 _ D.TOz.symm).trans ((f.2 _ D.i1z.symm).trans L)));have a1:∀c o,c≠z->c≠TO->c≠i1->c≠i2->s.heap.get? c=some o->q.get? c=some o:=λc o M c2 c3 c4 e=>
  (l.2 c c2).trans ((j.2 c c4).trans ((g.2 c c2).trans ((f.2 c c3).trans ((n.2 c M).trans e))))
 have J:z<q.objs.size:=Zt Y;refine Z2 (Z2 (wpAny_setField_rec (s:={s with heap:=q.push {cls:= .type "tuple",data:= .seq #[x,y]},toks:=u}) (Z6 _ Y) ∅ λg7 N B=>?_));replace N:IsZip g7 z TI TO (rawInt q.objs.size):=N;replace B:SameBut z (q.push _) g7:=B;refine wpAny_setField_rec (s:={s with heap:=g7,toks:=u}) N ∅ λg8 C G=>?_
 replace C:IsZip g8 z TI TO (rawInt q.objs.size):=C;replace G:SameBut z g7 g8:=G;have up:∀c o,c≠z->q.get? c=some o->g8.get? c=some o:=λc o M e=>(G.2 c M).trans ((B.2 c M).trans (Z6 _ e))
 have ab:=(G.2 _ (Yo J)).trans ((B.2 _ (Yo J)).trans (Zi _ rfl));rw[U]at C ab;refine Z3 %[_,rfl|?_];rw[U];exact hQ x y g8 u px py C (up _ _ D.TOz m) (D1.frame _ _ _ (r (λb d=>(O b d).2.1) l (r (λb d=>(O b d).2.2) j (r (λb d=>(O b d).2.1) g as))) λb d o e=>up b o (O b d).1 e) (D2.frame _ _ _ (t (λb d=>(m2 b d).2.1) l a0) λb d o e=>up b o (m2 b d).1 e) ab λc o M c2 c3 c4 e=>up c o M (a1 c o M c2 c3 c4 e)
theorem yU(J:Draws prog w A i1 fp1 n1 P1 St1)(D2:Draws prog w A i2 fp2 n2 P2 St2)(D:tz z TI TO i1 i2)(m1:∀b∈fp1,b≠z/\b≠TO/\b≠i2)(m2:∀b∈fp2,b≠z/\b≠TO/\b≠i1)
 (y:IsZip s.heap z TI TO .none) (L:IsPair s.heap TI (.ref i1) (.ref i2)) (M:IsPair s.heap TO a b) (h1:St1 i s.heap) (h2:St2 i s.heap) (l1:i<=n1) (l2:i<=n2) (ab:i=n1\/i=n2)
 (hE:∀h' e tk,(∀c o,c≠z->c≠TO->c≠i1->c≠i2->s.heap.get? c=some o->h'.get? c=some o)->(∃o,h'.get? e=some o/\o.cls= .type "StopIteration")->E (.ref e) {s with heap:=h',toks:=tk}):
 ↥A (Builtin.«zip.__next__» %[[.ref z]|[]]) Q E s:=by
 have N:∀{k h h' c},(∀b∈fp1,b≠c)->SameBut c h h'->St1 k h->St1 k h':=λO T st=>J.frame _ _ _ st λb j o e=>(T.2 b (O b j)).trans e
 have t:∀{k h h' c},(∀b∈fp2,b≠c)->SameBut c h h'->St2 k h->St2 k h':=λO T st=>D2.frame _ _ _ st λb j o e=>(T.2 b (O b j)).trans e
 show wpAny _ _ (field (.ref z) 2>>= _) _ _ _;refine Z2 (wpAny_field y rfl (x:= .bool false) rfl ?_);show wpAny _ _ (field (.ref z) 3>>= _) _ _ _;refine Z2 (wpAny_field y rfl (x:= .ref TI) rfl (Z2 (wpAny_seqItems L rfl ?_)));show wpAny _ _ (Builtin.SmallTypes.ownedTupleIsFree (.ref z)>>= _) _ _ _;refine Z2 ?_;unfold Builtin.SmallTypes.ownedTupleIsFree;refine Z2 (wpAny_field y rfl (x:= .none) rfl (Z3 ?_));simp only[if_true];refine Z2 (wpAny_rule (Z2 (wpAny_field y rfl (x:= .ref TO) rfl (Z2 (wpAny_setField_rec y ∅ λg1 n l=>?_)))));replace n:IsZip g1 z TI TO .ellipsis:=n;refine Z2 ?_;simp only[List.zipIdx_cons,List.zipIdx_nil,forIn_cons,List.forIn_nil];refine Z2 (Z2 (wpAny_onRaise ?_));show wpAny _ _ (Builtin.SmallTypes.nextOf (.ref i1)>>= _) _ _ _;have B:St1 i g1:=N (λb j=>(m1 b j).1) l h1;by_cases c1:i<n1
 .have e2:i=n2:=by lia
  refine Z2 (J.item i _ _ _ c1 B λx g2 u px ai d=>Z3 ?_);replace d:SameBut i1 g1 g2:=d;have r:IsPair g2 TO a b:=(d.2 _ D.TOi1).trans ((l.2 _ D.TOz).trans M);refine Z2 (wpAny_seqItems r rfl (Z2 (wpAny_updateSeq_pair (s:={s with heap:=g2,toks:=u}) r λg3 ag f=>?_)));replace f:SameBut TO g2 g3:=f;refine Z2 (wpAny_letGo (Z3 (Z2 (Z2 (wpAny_onRaise ?_)))));show wpAny _ _ (Builtin.SmallTypes.nextOf (.ref i2)>>= _) _ _ _;refine Z2 (D2.done _ _ _ (e2▸t (λb j=>(m2 b j).2.1) f (t (λb j=>(m2 b j).2.2) d (t (λb j=>(m2 b j).1) l h2))) λI e p U=>?_);replace p:ExtBut i2 g3 I:=p;obtain⟨Y,g,m⟩:=U;have C:IsZip I z TI TO .ellipsis:=p _ _ D.i2z.symm ((f.2 _ D.TOz.symm).trans ((d.2 _ D.i1z.symm).trans n));have v:e≠z:=λx=>by subst x;rw[C]at g;cases g;simp at m
  refine wpAny_setField_rec (s:={s with heap:=I,toks:=u}) C ∅ λg5 _ q=>?_
  replace q:SameBut z I g5:=q;exact hE g5 e u (λc o G d2 d3 d4 x=>(q.2 c G).trans (p c o d4 ((f.2 c d2).trans ((d.2 c d3).trans ((l.2 c G).trans x))))) %[Y,(q.2 e v).trans g|m]
 .have e1:i=n1:=by lia
  refine Z2 (J.done _ _ _ (e1▸B) λg2 e d U=>?_);replace d:ExtBut i1 g1 g2:=d;obtain⟨Y,g,m⟩:=U;have H:=d _ _ D.i1z.symm n;have v:e≠z:=λx=>by subst x;rw[H]at g;cases g;simp at m
  refine wpAny_setField_rec (s:=(s>>>g2)) H ∅ λg3 _ f=>?_
  replace f:SameBut z g2 g3:=f;exact hE g3 e s.toks (λc o G _ d3 _ x=>(f.2 c G).trans (d c o d3 ((l.2 c G).trans x))) %[Y,(f.2 e v).trans g|m]
end
noncomputable def Itz(x y:Str):It:=⟨λi _=>i<x.cps.size/\i<y.cps.size,λi H v a=>∃c d T,x.cps[i]? =some c/\y.cps[i]? =some d/\H T=none/\v= .ref T/\a=upd H T (.tup [.str ⟨#[c]⟩,.str ⟨#[d]⟩]),
 λi _=>i<=x.cps.size/\i<=y.cps.size/\(i=x.cps.size\/i=y.cps.size)⟩
def ZSt(z TI TO c d:Addr)(e f:Nat->Heap->Prop)(i:Nat)(h:Heap):Prop:=IsZip h z TI TO .none/\IsPair h TI (.ref c) (.ref d)/\(∃a b,IsPair h TO a b)/\e i h/\f i h
theorem iC(prog:Program)(w:World)(x:Str)(t:Tok)(it:Addr):∀A,A.handled=none->
 Draws prog w A it [it] x.cps.size (λi v=>∃c u,x.cps[i]? =some c/\v= .str ⟨#[c]⟩ u) (λi h=>h.IsStrIter it (strIterType x) x t i):=by
 intro A a;unfold strIterType;cases b:x.cps.all _ with
 | true=>exact Draws.strAscii a it x t
 | false=>exact Draws.strWide a it x t
theorem yV{P:Program}{K:ZA}(z TI TO i1 i2:Addr)(x y:Str)(t u:Tok)(D:tz z TI TO i1 i2):
 oW P w K (.Tuple elts kt tp) (Itz x y) [z,TI,TO,i1,i2] z (ZSt z TI TO i1 i2 (λi h=>h.IsStrIter i1 (strIterType x) x t i) (λi h=>h.IsStrIter i2 (strIterType y) y u i)) where
 mem:=by simp
 obj:=λi h st b hb=>by
  obtain⟨hz,hTI,⟨a,c,hTO⟩,⟨o1,e1,_,d1⟩,o2,e2,_,d2⟩:=st
  grind
 keep:=λi h h' st k=>by
  obtain⟨hz,hTI,⟨a,c,hTO⟩,⟨o1,e1,r1⟩,o2,e2,r2⟩:=st;exact%[k z ∅ _ hz,k TI ∅ _ hTI,%[a,c|k TO ∅ _ hTO],%[o1,k i1 ∅ _ e1|r1],o2,k i2 ∅ _ e2|r2]
 item:=by
  intro X hP hw hK hc i pins s σ H E I hf st hg;subst hP hw hK;obtain⟨hz,hTI,⟨a,c,hTO⟩,h1,h2⟩:=st;obtain⟨g1,g2⟩:i<x.cps.size/\i<y.cps.size:=hg;have hT:s.TypeIs (.ref z) "zip":=%[_,hz|rfl]
  have hh:X.A.in1.handled=none:=I.ok.hd hc;unfold pyNext;refine Z2 (wpAny_attempt (wpAny_callSpecial?_slot (name:=Str.ofString "__next__") hT F.slot_zip_next (wpAny_call_entry F.slot_zip_next hT F.entry_zip_next
   (yT (iC _ _ x t i1 _ hh) (iC _ _ y u i2 _ hh) D (λb hb=>(show b=i1 by simpa using hb)▸%[D.i1z,Ne.symm D.TOi1|D.i12]) (λb hb=>(show b=i2 by simpa using hb)▸%[D.i2z,Ne.symm D.TOi2|Ne.symm D.i12]) hz hTI hTO h1 h2 g1 g2 λv1 v2 h' tk p1 p2 a1 a2 a3 a4 a5 hk=>Z3 ?_) (F.args_zip_next_1 _))))
  obtain⟨c1,u1,e1,rfl⟩:=p1;obtain⟨c2,u2,e2,rfl⟩:=p2;refine%[_,rfl|wpAny_letOwnedTupleGo_zip (s:={s with heap:=h',toks:=tk}) a1 λh'' hz'' sb=>?_];replace sb:SameBut z h' h'':=sb;have turn1:Inv X pins σ H {s with heap:=h'',toks:=tk}:=by
   have nit:∀b v,H b=some v->b∉[z,TI,TO,i1,i2]:=λb v e hb=>by rw[(hf b hb).1]at e;cases e
   have kk:∀b o,b∉[z,TI,TO,i1,i2]->s.heap.get? b=some o->h''.get? b=some o:=λb o hb e=>by
    simp only[Yn,Yt,or_false,not_or]at hb;exact(sb.2 b hb.1).trans (hk b o hb.1 hb.2.2.1 hb.2.2.2.1 hb.2.2.2.2 e)
   refine I.step (g':=s.gens) (d':=s.drawn) (ch:=[z,TI,TO,i1,i2]) (λb hb=>%[(hf b hb).2.2.2.1,(hf b hb).2.1,(hf b hb).2.2.2.2.1|(hf b hb).2.2.2.2.2]) (λb o _ _ hc e _=>kk b o hc e) (λb o _ _ hc e _=>%[o.slots|kk b o hc e]) (λ_ _ _ _ n=>n)
    (λb o hc e=>%[o|kk b o hc e]) (λ_ _ e=>e) (λ_ _ _ e=>e) (λb ps e=>%[#[]|by rw[e];simp]) (λm hm=>?_) (λb v e=>?_) I.bare
   .obtain⟨o,es,ep,ho,r⟩:=hm;exact%[o,es,ep,kk _ o (λhb=>(hf _ hb).2.1 rfl) ho|r]
   .refine(I.hok b v e).stay (λc' v' hc' q=>kk c' v' ?_ q) (λ_ q=>q) λ_ _ q=>q
    rcases hc' with q'|q'
    .exact q'▸nit b v e
    .exact nit c' _ q'
  have Hn:H ⇑s=none:=I.fresh;have I2:Inv X pins σ (upd H ⇑s (.tup [.str ⟨#[c1]⟩,.str ⟨#[c2]⟩])) {s with heap:=h'',toks:=tk}:=by
   have nf:⇑s∉X.fs:=I.nofs (Zh _);refine%[turn1.ok,turn1.os,turn1.bare,?_,turn1.loc,turn1.cell,?_,?_,?_,?_|turn1.len]
   .refine%[turn1.base.keep,turn1.base.slot,λb o e n hx=>?_,turn1.base.there,λb xs e=>?_,λb o v e=>?_|λb ps e=>?_]
    .rw[aj ((λb o e=>Zr (Zf (Zt e) I.sz)) b o e)];exact turn1.base.free b o e n hx
    .rw[aj (ap (turn1.base.tups b xs e) Hn)];exact turn1.base.tups b xs e
    .rw[aj (ap (turn1.base.frzs b o v e) Hn)];exact turn1.base.frzs b o v e
    .obtain⟨m,q⟩:=turn1.base.tbls b ps e;exact%[m|(aj (ap q Hn))▸q]
   .rw[aj (Zr I.lt)];exact turn1.free
   .intro x' c' e;obtain⟨v',q⟩:=I.cell x' c' e;rw[aj (Zr q.lt)];exact turn1.freeC x' c' e
   .intro p hp;obtain⟨e,n,r⟩:=turn1.pin p hp;refine%[e,?_|r];rw[aj (Zr (Zt (I.pin p hp).1))];exact n
   .intro b v e;by_cases hb:b=⇑s
    .subst hb;rw[aa]at e;cases e;exact%[by show 2<=sizeLine;decide,[.str _ u1,.str _ u2],.cons %[_|rfl] (.cons %[_|rfl] .nil),_,((sb.2 _ (Yo (Zt hz))).trans a5),rfl,_|rfl]
    .rw[aj hb]at e;refine(turn1.hok b v e).stay (λ_ _ _ q=>q) (λc' q=>?_) λc' xs q=>?_
     .rw[aj (ap q Hn)];exact q
     .rw[aj (ap q Hn)];exact q
  refine%[.ref ⇑s,_,I2,rfl,%[c1,c2,_,e1,e2,Hn,rfl|rfl],%[hz'',(sb.2 _ D.TIz).trans (hk _ _ D.TIz D.TITO D.TIi1 D.TIi2 hTI),%[_,_|(sb.2 _ D.TOz).trans a2],?_|?_]|λb hb=>?_]
  .obtain⟨o,e,r⟩:=a3;exact%[o,(sb.2 _ D.i1z).trans e|r]
  .obtain⟨o,e,r⟩:=a4;exact%[o,(sb.2 _ D.i2z).trans e|r]
  .have:b<⇑s:=by
    simp only[Yn,Yt,or_false]at hb;obtain⟨o1,q1,_⟩:=h1;obtain⟨o2,q2,_⟩:=h2;rcases hb with rfl|rfl|rfl|rfl|rfl
    .exact Zt hz
    .exact Zt hTI
    .exact Zt hTO
    .exact Zt q1
    .exact Zt q2
   rw[aj (Zr this)];exact(hf b hb).1
 done:=by
  intro X hP hw hK hc i pins s σ H E I hf st hg;obtain⟨hz,hTI,⟨a,c,hTO⟩,h1,h2⟩:=st;obtain⟨g1,g2,g3⟩:i<=x.cps.size/\i<=y.cps.size/\(i=x.cps.size\/i=y.cps.size):=hg;have hT:s.TypeIs (.ref z) "zip":=%[_,hz|rfl]
  have hh:=I.ok.hd hc;refine Z2 (wpAny_attempt (wpAny_callSpecial?_slot hT F.slot_zip_next (wpAny_call_entry F.slot_zip_next hT F.entry_zip_next
   (yU (iC _ _ x t i1 _ hh) (iC _ _ y u i2 _ hh) D (λb hb=>(show b=i1 by simpa using hb)▸%[D.i1z,Ne.symm D.TOi1|D.i12]) (λb hb=>(show b=i2 by simpa using hb)▸%[D.i2z,Ne.symm D.TOi2|Ne.symm D.i12]) hz hTI hTO h1 h2 g1 g2 g3 λh' e tk hk he=>?_) (F.args_zip_next_1 _))))
  obtain⟨o,ho,hco⟩:=he;refine Z2 (wpAny_isInstance %[o,ho|hco] isSubtype_stop (Z3 %[rfl|?_]));have nit:∀b v,H b=some v->b∉[z,TI,TO,i1,i2]:=λb v e hb=>by rw[(hf b hb).1]at e;cases e
  have kk:∀b o,b∉[z,TI,TO,i1,i2]->s.heap.get? b=some o->h'.get? b=some o:=λb o hb e=>by
   simp only[Yn,Yt,or_false,not_or]at hb;exact hk b o hb.1 hb.2.2.1 hb.2.2.2.1 hb.2.2.2.2 e
  refine I.step (λb hb=>%[(hf b hb).2.2.2.1,(hf b hb).2.1,(hf b hb).2.2.2.2.1|(hf b hb).2.2.2.2.2]) (λb o _ _ hc e _=>kk b o hc e) (λb o _ _ hc e _=>%[o.slots|kk b o hc e]) (λ_ _ _ _ n=>n)
   (λb o hc e=>%[o|kk b o hc e]) (λ_ _ e=>e) (λ_ _ _ e=>e) (λb ps e=>%[#[]|by rw[e];simp]) (λm hm=>?_) (λb v e=>?_) I.bare
  .obtain⟨o',es,ep,ho',r⟩:=hm;exact%[o',es,ep,kk _ o' (λhb=>(hf _ hb).2.1 rfl) ho'|r]
  .refine(I.hok b v e).stay (λc' v' hc' q=>kk c' v' ?_ q) (λ_ q=>q) λ_ _ q=>q
   rcases hc' with q'|q'
   .exact q'▸nit b v e
   .exact nit c' _ q'
 self:=λ_ _ _ _ _ st h=>wpAny_pyIter_zip st.1 h
noncomputable def aW:Expr->Bool
 | .Starred _ _=>true
 | _=>false
theorem av(h:aW e=false):starEach (e::a) env=(false,eval e env)::starEach a env:=by
 cases e<;> first|rfl|exact absurd h (by simp[aW])
theorem dn(h:aW e=false):assignEach (e::a) env=(false,assign e env)::assignEach a env:=by
 cases e<;> first|rfl|exact absurd h (by simp[aW])
theorem cU:∀{a:List Expr},a.any aW=false->(backTo pos (starEach a env)).any (·.1)=false
 |[],_=>rfl
 | e::a,h=>by
   rw[Zv,Yu]at h;rw[av h.1];have:=cU (pos:=pos) (env:=env) h.2;cases a with
   | nil=>rfl
   | cons c b=>
     simp only[backTo]at this ⊢;simpa using this
theorem pC:∀{a:List Expr},a.any aW=false->(backTo pos (starEach a env)).all (λx=>!x.1)=true
 |[],_=>rfl
 | e::a,h=>by
   rw[Zv,Yu]at h;rw[av h.1];have:=pC (pos:=pos) (env:=env) h.2;cases a with
   | nil=>rfl
   | cons c b=>
     simp only[backTo]at this ⊢;simpa using this
theorem iX:∀{a:List Expr},a.any aW=false->(assignEach a env).length=a.length/\(assignEach a env).findIdx? (·.1)=none
 |[],_=>%[rfl|rfl]
 | e::a,h=>by
   rw[Zv,Yu]at h;rw[dn h.1];have b:=iX (env:=env) h.2;refine%[by rw[Zq,Zq,b.1]|?_];rw[List.findIdx?_cons,b.2];rfl
noncomputable def eU:Expr->Bool
 | .ListComp _ _ _ _=>true
 | .SetComp _ _ _ _=>true
 | .DictComp _ _ _ _ _=>true
 | _=>false
theorem hZ(h:eU e=false):swapsWith e t l env=pure false:=by
 cases e<;> first|rfl|exact absurd h (by simp[eU])
noncomputable def tD:Expr->Bool
 | .Tuple _ _ _=>true
 | _=>false
theorem tE(h:tD e=false):swappedStores [t] e env=pure none:=by
 cases e with
 | Tuple _ _ _=>exact absurd h (by simp[tD])
 | _=>cases t<;> rfl
noncomputable def fW:Expr->Bool
 | .Call _ _ _ _=>true
 | _=>false
theorem eV(h:fW o=false):attributeBase o a env w=w:=by
 cases o<;> first|rfl|exact absurd h (by simp[fW])
noncomputable def lM:Expr->Bool
 | .Set _ _ _=>true
 | _=>false
theorem jV(h:lM e=false)(x:Value):foldedSetIterable e env x=pure x:=by
 cases e<;> first|rfl|exact absurd h (by simp[lM])
structure QE (X:Cx) (e:Expr) (t:TE):Prop where
 h:PE X e t
structure QT (X:Cx) (e:Expr) (t:TT):Prop where
 h:PT X e t
structure QW (X:Cx) (e:Expr) (t:TT):Prop where
 h:PW X e t
structure QA (X:Cx) (es:List Expr) (t:TA):Prop where
 h:PA X es t
structure QS (X:Cx) (st:Stmt) (t:TS):Prop where
 h:PS X st t
structure QSs (X:Cx) (st:List Stmt) (t:TS):Prop where
 h:PSs X st t
structure QG (X:Cx) (e:Expr) (t:TG):Prop where
 h:PG X e t
structure QGs (X:Cx) (es:List Expr) (t:TGs):Prop where
 h:PGs X es t
structure QI (X:Cx) (tg iter:Expr) (wi:TI):Prop where
 h:PI X tg iter wi
structure QO (X:Cx) (e:Option Expr) (t:TO):Prop where
 h:PO X e t
structure QTs (X:Cx) (ifs:List Expr) (t:TT):Prop where
 h:PTs X ifs t
structure OpQ (X:Cx) (f:Value->Value->Sem Value) (r:R2):Prop where
 h:OpR X f r
structure cv (X:Cx) (f:Value) (r:List V->Hp->VK->Prop):Prop where
 h:bK X f r
structure MtQ (X:Cx) (id:String) (r:V->List V->Hp->VK->Prop):Prop where
 h:MtR X id r
section
variable{X:Cx}{K:ZA}{pos:Pos}
theorem ar{i j}:QE X (.Constant (.int i) j pos) (tC (.int i)):=⟨CA⟩
theorem eBl{b j}:QE X (.Constant (.bool b) j pos) (tC (.bl b)):=⟨EQ⟩
theorem iY{j}:QE X (.Constant .none j pos) (tC .non):=⟨CB⟩
theorem b8{x j}:QE X (.Constant (.str x) j pos) (tC (.str x)):=⟨CC⟩
theorem vn(i:Nat)(b:X.N[i]? =some x)(c:Vis X.env.scope x)(d:(x==("__debug__":Str))=false)(a:(x==("__classdict__":Str))=false):QE X (.Name x pos) (mY i):=⟨xR b c d a⟩
theorem gvE(g:Gv X.mg x v)(a:Gl X x)(b:(x==("__debug__":Str))=false):QE X (.Name x pos) (tC v):=⟨Cd g a b⟩
theorem blE(a:Gl X x)(b:X.mg x=none)(c:bootBuiltins x=some u)(r:aK v u)(f:(x==("__name__":Str))=false)(d:(x==("__debug__":Str))=false):QE X (.Name x pos) (tC v):=
 ⟨Az a b c r (λe=>by lia) d⟩
theorem ak:QA X [] yo:=⟨C6⟩
theorem paE(a:aW e=false)(b:QE X e c)(d:QA X f t):QA X (e::f) (yp c t):=⟨AR b.h d.h (av a)⟩
theorem calE(C:Cal X.prog X.w X.K X.mg X.base j x ps sp)(f:bC k X.A)(g:Gl X x)(a:Nat.ble j k=true)
 (b:(x==("__debug__":Str))=false) (c:(e::d).any aW=false) (h:QA X (e::d) t):
 QE X (.Call (.Name x p) (e::d) [] pos) (nR sp [] E0 t):=by
 rw[Zv,Yu]at c;exact⟨DC C f g yK h.h (Y6 a) b (av c.1) (cU c.2)⟩
theorem cbE{id:String}(d:cv X (.builtin id) r)(f:Gl X x)(g:X.mg x=none)(h:bootBuiltins x=some (.builtin id))(j:(x==("__name__":Str))=false)(a:(x==("__debug__":Str))=false)
 (b:(e::c).any aW=false) (i:QA X (e::c) t):QE X (.Call (.Name x p) (e::c) [] pos) (tCB r t):=by
 rw[Zv,Yu]at b;exact⟨yx d.h f g h i.h (λe=>by lia) a (av b.1) (cU b.2)⟩
theorem ctE(d:cv X (.type T) r)(f:Gl X x)(g:X.mg x=none)(h:bootBuiltins x=some (.type T))(j:(x==("__name__":Str))=false)(a:(x==("__debug__":Str))=false)
 (b:(e::c).any aW=false) (i:QA X (e::c) t):QE X (.Call (.Name x p) (e::c) [] pos) (tCB r t):=by
 rw[Zv,Yu]at b;exact⟨v5 d.h f g h i.h (λe=>by lia) a (av b.1) (cU b.2)⟩
theorem bmE{T id:String}(h:X.K=K)(m:PlainAttrs T)(slot:Slot T name id)(i:typeOf (.builtin id)=pure (.type "method_descriptor"))(n:MtQ X id r)
 (b:fW o=false) (a:(e::g).any aW=false) (j:Nat.blt (e::g).length 30=true) (c:(d.endLine==f.line)=true) (p:QE X o q) (s:QA X (e::g) t):
 QE X (.Call (.Attribute o name d) (e::g) [] f) (tBM K T r q t):=by
 have l:=a;rw[Zv,Yu]at l;refine⟨yS h m slot i n.h p.h s.h (eV b) ?_ c (av l.1) (cU l.2)⟩;rw[pC a];have:decide ((e::g).length+([]:List Keyword).length+(if([]:List Keyword).isEmpty then 0 else 1)<30)=true:=Ze ((Nat.blt_eq.mp j));rw[this];rfl
theorem Fa{T id:String}(h:X.K=K)(f:PlainAttrs T)(slot:Slot T name id)(e:typeOf (.builtin id)=pure (.type "method_descriptor"))(g:MtQ X id r)
 (a:fW o=false) (b:(c.endLine==d.line)=true) (i:QE X o j):QE X (.Call (.Attribute o name c) [] [] d) (AY K T r j):=⟨Bi h f slot e g.h i.h (eV a) b⟩
theorem jr(b:Gl X "range")(c:X.mg "range"=none)(d:aW a=false)(e:QA X [a] f):QI X g (.Call (.Name "range" p) [a] [] pos) (x9 f):=⟨vS b c e.h (av d)⟩
theorem cQ(h:X.K=K)(a:QE X l b):QI X c l (Bg K b):=⟨Bh h a.h⟩
section
variable{a b c:Expr}{ta tb tc:TE}{op op':CmpOp}{r r':R2}
theorem tF(e:OpQ X (compareOp op) r)(d:OpQ X (compareOp op') r')(f:lastMarks [op,op'] [b,c]=false)(g:QE X a ta)(h:QE X b tb)(i:QE X c tc):QE X (.Compare a [op,op'] [b,c] pos) (sO r r' ta tb tc):=⟨yg e.h d.h g.h h.h i.h f⟩
theorem iZ(d:OpQ X (compareOp op) r)(e:behindInMarks op b=false)(f:QE X a ta)(g:QE X b tb):QE X (.Compare a [op] [b] pos) (tOp r ta tb):=⟨AK d.h f.h g.h e⟩
theorem bd(d:OpQ X (compareOp op) r)(e:behindInMarks op b=false)(f:QE X a ta)(g:QE X b tb):QT X (.Compare a [op] [b] pos) (yf (tOp r ta tb)):=⟨AL d.h f.h g.h e⟩
theorem opE{op:Operator}(d:OpQ X (binaryOp op) r)(e:QE X a ta)(f:QE X b tb):QE X (.BinOp a op b pos) (tOp r ta tb):=⟨EV d.h e.h f.h⟩
theorem tG(d:QE X a ta):QE X (.UnaryOp .USub a pos) (tUn (rU λi=> .int (-i)) ta):=⟨EW CY d.h⟩
theorem slE{lo hi:Option Expr}(h:X.K=K)(d:QE X a ta)(e:QO X lo f)(g:QO X hi i):QE X (.Subscript a (.Slice lo hi none j) pos) (tSl (Bf K) ta f i):=⟨yA (slK h) d.h e.h g.h⟩
theorem noO:QO X none oZ:=⟨AT⟩
theorem qS(h:QE X a ta):QO X (some a) (yz ta):=⟨AU h.h⟩
theorem pD{op}(h:QE X a ta):QE X (.BoolOp op [a] pos) ta:=⟨CJ h.h⟩
theorem lN{rest:List Expr}(d:QE X a ta)(e:QE X (.BoolOp .And (b::rest) pos) tb):QE X (.BoolOp .And (a::b::rest) pos) (xT ta tb):=⟨CL d.h e.h⟩
theorem orV{rest:List Expr}(d:QE X a ta)(e:QE X (.BoolOp .Or (b::rest) pos) tb):QE X (.BoolOp .Or (a::b::rest) pos) (CI ta tb):=⟨ET d.h e.h⟩
theorem cx(h:QA X d t):QE X (.List d pos) (C8 t):=⟨Da h.h⟩
theorem fE{x1}(h:QA X d t):QE X (.Tuple d x1 pos) (C7 t):=⟨C9 h.h⟩
theorem lO:QE X (.Dict [] [] pos) tf:=⟨yJ⟩
variable{tA tB':TT}{rest:List Expr}
theorem iM(d:QT X a tA):QT X (.UnaryOp .Not a pos) (CD tA):=⟨CH d.h⟩
theorem iR(d:QT X a tA):QW X (.BoolOp .And [a] pos) tA:=⟨AB d.h⟩
theorem jW(d:QT X a tA):QW X (.BoolOp .Or [a] pos) tA:=⟨CF d.h⟩
theorem kT(d:QT X a tA)(e:QW X (.BoolOp .And (b::rest) pos) tB'):QW X (.BoolOp .And (a::b::rest) pos) (AA tA tB'):=⟨CG d.h e.h⟩
theorem orW(d:QT X a tA)(e:QW X (.BoolOp .Or (b::rest) pos) tB'):QW X (.BoolOp .Or (a::b::rest) pos) (tOr tA tB'):=⟨ES d.h e.h⟩
theorem wT(h:QW X a tA):QT X a tA:=⟨PW.pt h.h⟩
theorem fi(h:X.K=K)(f:∀d,isTrue a X.env d=(do let v<-d;standAt a.pos;holding [v] (truthy v)))(g:QE X a ta):QT X a (λi H Q=>ta i H λx e=>∃k,yh K x e k/\Q k e):=⟨wn h g.h f⟩
theorem kU:QTs X [] yL:=⟨A7⟩
theorem qT(h:QT X c tA):QTs X [c] tA:=⟨A8 h.h⟩
end
theorem gU(S:aD X c e f)(l:X.calm=true)(m:lM iter=false)(hi:QI X j iter n)
 (o:∀a b d,QG (bG X c e a b d) j g) (p:∀a b d,QTs (bG X c e a b d) h q) (r:∀a b d,QE (bG X c e a b d) i s):
 QE X (.ListComp i [%[j,iter,h|0]] c pos) (og n e.length f g q s):=⟨Ba S l hi.h (λa b d=>(o a b d).h) (λa b d=>(p a b d).h) (λa b d=>(r a b d).h) (jV m)⟩
theorem aP:QSs X [] xU:=⟨AC⟩
theorem ah{st:Stmt}{rest:List Stmt}(a:QS X st t)(b:QSs X rest u):QSs X (st::rest) (bh t u):=⟨xV a.h b.h⟩
theorem ao{st:Stmt}(a:QS X st t):QSs X [st] t:=⟨AD a.h⟩
theorem ifS(d:QT X c e)(f:QSs X a t)(g:QSs X b u):QS X (.If c a b pos) (jQ e t u):=⟨EU d.h f.h g.h⟩
theorem aE(a:QE X e b):QS X (.Return (some e) pos) (iV b):=⟨CM a.h⟩
theorem fX{st:Stmt}:QS X st xW:=⟨xX⟩
theorem cV(c:PassesOwn (model X.prog X.w) X.A X.env X.xe)(d:X.calm=true)(e:lM iter=false)(hi:QI X b iter f)(h:QG X b g)(i:QSs X a j):
 QS X (.For b iter a [] pos) (ya f g j):=⟨CS c d hi.h h.h i.h (jV e)⟩
theorem wo(i:Nat)(b:X.N.Nodup)(hi:X.N[i]? =some x)(c:Loc X.env.scope x)(d:X.fn x=true\/X.env.scope.names.lookup x=some .local)(f:eU e=false)(g:QE X e h):
 QS X (.Assign [.Name x a] e pos) (mZ h (iP i)):=⟨x4 b hi c g.h (hZ f) d⟩
theorem bO(a:eU e=false)(b:QE X e c):QS X (.Expr e pos) (jn c):=⟨AE b.h (hZ a)⟩
theorem yW(c:eU e=false)(hw:tD e=false)(a:aW b=false)(d:QE X e f)(h:QG X b g):QS X (.Assign [b] e pos) (mZ f g):=
 ⟨CQ d.h h.h (hZ c) (tE hw) (by rw[dn a];rfl)⟩
theorem qU(i:Nat)(a:X.N.Nodup)(hi:X.N[i]? =some x)(b:Loc X.env.scope x)(c:X.fn x=true\/X.env.scope.names.lookup x=some .local):QG X (.Name x pos) (iP i):=⟨AF a hi b c⟩
theorem cP:QGs X [] CO:=⟨AG⟩
theorem gsE(a:aW e=false)(b:QG X e t)(c:QGs X d u):QGs X (e::d) (xY t u):=⟨xZ b.h c.h (by rw[dn a];rfl)⟩
theorem fF(c:X.K=K)(d:X.calm=true)(b:a.any aW=false)(h:QGs X a t):QG X (.Tuple a k pos) (AH K a.length t):=by
 subst c;exact⟨CP d h.h (iX b).1 (iX b).2⟩
theorem fj:OpQ X (binaryOp .Add) yP:=⟨Bc⟩
theorem om:OpQ X (binaryOp .Sub) (rI0 λi j=> .int (i-j)):=⟨CV⟩
theorem tH:OpQ X (binaryOp .Mult) yQ:=⟨Bd⟩
theorem bE:OpQ X (binaryOp .Mod) (rI (λ_ j=>0<j) λi j=> .int (i%j)):=⟨CW⟩
theorem cq:OpQ X (binaryOp .FloorDiv) (rI EY λi j=> .int (i/j)):=⟨AI⟩
theorem cj:OpQ X (compareOp .Eq) Dv:=⟨Dw⟩
theorem eW:OpQ X (compareOp .NotEq) Dx:=⟨Dy⟩
theorem tJ:OpQ X (compareOp .Lt) (rI0 λi j=> .bl (decide (i<j))):=⟨E4⟩
theorem wq:OpQ X (compareOp .LtE) (rI0 λi j=> .bl (decide (i<=j))):=⟨E5⟩
theorem yX:OpQ X (compareOp .Gt) (rI0 λi j=> .bl (decide (j<i))):=⟨E6⟩
theorem Ce:OpQ X (compareOp .Is) (λx y H Q=>y= .non/\Q (.bl (decide (x= .non))) H):=⟨C0⟩
theorem h9:OpQ X (compareOp .IsNot) (λx y H Q=>y= .non/\Q (.bl (!decide (x= .non))) H):=⟨AJ⟩
theorem tK(h:X.K=K):OpQ X (compareOp .In) (Be K):=⟨DE h⟩
abbrev vf:R2:=λx y H Q=>∃i j,x= .str i/\y= .str j/\Q (.bl (!(!(Builtin.Str.occurrences j i 0 j.length 1).isEmpty))) H
abbrev vg(K:ZA):R2:=λx y H Q=>vf x y H Q\/rIn K true x y H Q
theorem vh(h:X.K=K):OpQ X (compareOp .NotIn) (vg K):=by subst h;exact⟨ph.or pf⟩
theorem bF(h:X.K=K):cv X (.builtin "len") (λxs H Q=>∃x n,xs=[x]/\AM K x H n/\Q (.int n) H):=⟨wg h⟩
theorem yY(h:X.K=K)(a:X.calm=true):cv X (.builtin "all") (λxs H Q=>∃(p:Addr) (bs:List Bool),xs=[.ref p]/\SqL K H p (bs.map V.bl)/\Q (.bl (bs.all id)) H):=⟨wj h a⟩
theorem Cf(a:X.calm=true):cv X (.builtin "max") (λxs H Q=>∃i j,xs=[.int i,.int j]/\Q (.int (if j>i then j else i)) H):=⟨vV a⟩
theorem Fb(a:X.calm=true):cv X (.builtin "min") (λxs H Q=>∃i j,xs=[.int i,.int j]/\Q (.int (if j<i then j else i)) H):=⟨vW a⟩
theorem ia(h:X.K=K):cv X (.builtin "isinstance") (λxs H Q=>∃x n t b,xs=[x,.ty n]/\iW K H x t/\kitOne K t (.type n)=some b/\Q (.bl b) H):=⟨wk h⟩
theorem Cg:cv X (.type "int") (λxs H Q=>(∃i,xs=[.int i]/\Q (.int i) H)\/∃k,xs=[.bl k]/\Q (.int (if k then 1 else 0)) H):=⟨vX⟩
theorem fk(h:X.K=K):cv X (.type "list") (λxs H Q=>∃p ys,xs=[.ref p]/\(SqL K H p ys\/SqT K H p ys)/\∀l,H l=none->Q (.ref l) (upd H l (.lst ys))):=⟨tt h⟩
theorem bn:MtQ X "list.append" pq:=⟨nY⟩
theorem qV:MtQ X "list.extend" pw:=⟨v7⟩
theorem Bj:MtQ X "list.clear" sZ:=⟨yF⟩
theorem tL(h:X.K=K):MtQ X "str.join" (ve K):=⟨yR h⟩
end
open PySem PySem.Spec PyProof.Rows PySem.SeqAt
section
#version
variable{h':Heap}{tk:Nat}{fp:List Addr}
theorem Inv.moved(I:Inv X pins σ H s)(c:∀b∈fp,kQ X pins H b)(d:∀b o,b∉fp->s.heap.get? b=some o->h'.get? b=some o):Inv X pins σ H {s with heap:=h',toks:=tk}:=by
 have f:∀b v,H b=some v->b∉fp:=λb v e a=>by rw[(c b a).1]at e;cases e
 refine I.step (λb a=>%[(c b a).2.2.2.1,(c b a).2.1,(c b a).2.2.2.2.1|(c b a).2.2.2.2.2]) (λb o _ _ g e _=>d b o g e) (λb o _ _ g e _=>%[o.slots|d b o g e]) (λ_ _ _ _ n=>n)
  (λb o g e=>%[o|d b o g e]) (λ_ _ e=>e) (λ_ _ _ e=>e) (λb ps e=>%[#[]|by rw[e];simp]) (λm l=>?_) (λb v e=>?_) I.bare
 .obtain⟨o,p,t,u,r⟩:=l;exact%[o,p,t,d _ o (λa=>(c _ a).2.1 rfl) u|r]
 .refine(I.hok b v e).stay (λj w h q=>d j w ?_ q) (λ_ q=>q) λ_ _ q=>q
  rcases h with i|i
  .exact i▸f b v e
  .exact f j _ i
theorem Inv.stood(I:Inv X pins σ H s)(J:Inv X pins σ H {s with heap:=h',toks:=tk})(c:⇑s<=a)(new:ci X.prog X.w (upd H a o) h' a o):Inv X pins σ (upd H a o) {s with heap:=h',toks:=tk}:=by
 have d:=I.hok.fresh c;refine%[J.ok,J.os,J.bare,?_,J.loc,J.cell,?_,?_,?_,?_|J.len]
 .refine%[J.base.keep,J.base.slot,λb o e n j=>?_,J.base.there,λb xs e=>?_,λb o v e=>?_|λb ps e=>?_]
  .rw[aj ((λb o e=>Zr (Zf (Zf (Zt e) I.sz) c)) b o e)];exact J.base.free b o e n j
  .rw[aj (ap (J.base.tups b xs e) d)];exact J.base.tups b xs e
  .rw[aj (ap (J.base.frzs b o v e) d)];exact J.base.frzs b o v e
  .obtain⟨m,q⟩:=J.base.tbls b ps e;exact%[m|(aj (ap q d))▸q]
 .rw[aj (Zr (Zf I.lt c))];exact J.free
 .intro g f e;obtain⟨l,q⟩:=I.cell g f e;rw[aj (Zr (Zf q.lt c))];exact J.freeC g f e
 .intro p h;obtain⟨e,n,r⟩:=J.pin p h;refine%[e,?_|r];rw[aj (Zr (Zf (Zt (I.pin p h).1) c))];exact n
 .intro b v e;by_cases i:b=a
  .subst i;rw[aa]at e;cases e;exact new
  .rw[aj i]at e;refine(J.hok b v e).stay (λ_ _ _ q=>q) (λf q=>?_) λf xs q=>?_
   .rw[aj (ap q d)];exact q
   .rw[aj (ap q d)];exact q
end
def tM:V->List V->Hp->VK->Prop:=λx vs H Q=>∃z y,x= .str z/\vs=[.str y]/\1<=y.length/\z.length+2<=sizeLine/\∀l,H l=none->Q (.ref l) (upd H l (.lst ((Txt.split z y).map V.str)))
theorem oo:∀ss k,aC (ss.map V.str) (strsFrom k ss)
 |[],_=> .nil
 | _::r,k=> .cons %[_|rfl] (oo r _)
theorem yZ{X:Cx}:MtM X "str.split" tM:=by
 intro pins s m H x vs v us Q I g i h;obtain⟨z,y,rfl,rfl,n,o,q⟩:=h;obtain⟨t,rfl⟩:=g;obtain⟨p,rfl,j⟩:=i.one;obtain⟨u,rfl⟩:=j;have b:(y.length==0)=false:=by simp;lia
 have l:=split_le z y;by_cases c:(decide (z.length<y.length)||decide (Builtin.Str.strKind z<Builtin.Str.strKind y))=true
 .have e:Txt.split z y=[z]:=if_pos c;rw[e]at q;exact call_meets F.slot_str_split (typeIs_str _ _ _) F.entry_str_split (F.args_str_split_2 _ _) (meets_str_split_cannot_occur z y t u c) %[.ref _,_,I.lnew (ys:=[.str z]) (.cons %[_|rfl] .nil) (by show 1<=sizeLine;decide),rfl|q _ I.fresh]
 .have d:=eq_false_iff.mpr c;by_cases f:(Builtin.Str.occurrences z y 0 z.length (z.length+1)).isEmpty=true
  .have e:Txt.split z y=[z]:=(if_neg c).trans (if_pos f);rw[e]at q;exact call_meets F.slot_str_split (typeIs_str _ _ _) F.entry_str_split (F.args_str_split_2 _ _) (meets_str_split_not_found z y t u d b f) %[.ref _,_,I.lnew (ys:=[.str z]) (.cons %[_|rfl] .nil) (by show 1<=sizeLine;decide),rfl|q _ I.fresh]
  .have e:Txt.split z y=Builtin.Str.partsBetween z _ y.length:=(if_neg c).trans (if_neg f);have a:(Builtin.Str.partsBetween z (Builtin.Str.occurrences z y 0 z.length (z.length+1)) y.length).length<=sizeLine:=by rw[<-e];lia
   refine call_meets F.slot_str_split (typeIs_str _ _ _) F.entry_str_split (F.args_str_split_2 _ _) (meets_str_split_sep z y t u d b (eq_false_iff.mpr f) ⋯ a) ?_;rw[<-e]at a ⊢;exact%[.ref _,_,I.lnew (oo _ _) (by rw[Z5];exact a),rfl|q _ I.fresh]
theorem Bk{X:Cx}:MtQ X "str.split" tM:=⟨yZ⟩
noncomputable def Ite(K:ZA)(a:Addr)(xs:List V):It:=⟨λi H=>SqL K H a xs/\i<xs.length,λi H v b=>∃x T,xs[i]? =some x/\H T=none/\v= .ref T/\b=upd H T (.tup [.int i,x]),λi H=>SqL K H a xs/\xs.length<=i⟩
def ESt(e it a:Addr)(i:Nat)(h:Heap):Prop:=(∃b,IsEnum h e it i b)/\h.IsListIter it a i
theorem wt{P:Program}{K:ZA}(e it a:Addr)(xs:List V)(hne:e≠it):oW P w K (.Tuple elts kt tp) (Ite K a xs) [e,it] e (ESt e it a) where
 mem:=by simp
 obj:=λi h st b hb=>by
  obtain⟨⟨old,he⟩,o1,e1,_,d1⟩:=st;simp only[Yn,Yt,or_false]at hb;rcases hb with rfl|rfl
  .exact%[_,he|λv q=>nomatch q]
  .exact%[o1,e1|λv q=>by rw[d1]at q;cases q]
 keep:=λi h h' st k=>by
  obtain⟨⟨old,he⟩,o1,e1,r1⟩:=st;exact%[%[old|k e ∅ _ he],o1,k it ∅ _ e1|r1]
 item:=by
  intro X hP hw hK hc i pins s σ H E I hf st hg;subst hP hw hK;obtain⟨⟨old,he⟩,hit⟩:=st;obtain⟨hq,hi⟩:SqL X.K H a xs/\i<xs.length:=hg;obtain⟨its,rv,p,hz⟩:=I.list hq;obtain⟨u,hu,ru⟩:=rv.get (i:=i) (x:=xs[i]) ∅;refine wpAny_pyNext_enum_item he hit p.isList (by simpa using hu) hne λh1 he1 hit1 ht1 hz1 hk1=>%[_,rfl|wpAny_letOwnedTupleGo_enum he1 λh2 he2 sb2=>?_]
  replace sb2:SameBut e h1 h2:=sb2;have elt:=Zt he;have kk:∀b o,b∉[e,it]->s.heap.get? b=some o->h2.get? b=some o:=λb o hb q=>by
   simp only[Yn,Yt,or_false,not_or]at hb;exact(sb2.2 b hb.1).trans (hk1 b o hb.1 hb.2 q)
  have J:Inv X pins σ H {s with heap:=h2,toks:=s.toks+1}:=I.moved hf kk;have I2:Inv X pins σ (upd H ⇑s (.tup [.int i,xs[i]])) _:=
   I.stood J (Zh _) %[by show 2<=sizeLine;decide,[.int i s.toks,u],.cons %[_|rfl] (.cons ru .nil),_,((sb2.2 _ (Yo elt)).trans ht1),rfl,_|rfl]
  refine%[.ref ⇑s,_,I2,rfl,%[xs[i],_,by simp,I.fresh,rfl|rfl],%[%[u|he2]|?_]|λb hb=>?_]
  .obtain⟨o,q,r⟩:=hit1;exact%[o,(sb2.2 _ (Ne.symm hne)).trans q|r]
  .have:b<⇑s:=by
    simp only[Yn,Yt,or_false]at hb;rcases hb with rfl|rfl
    .exact elt
    .exact(by obtain⟨o,q,_⟩:=hit;exact Zt q)
   rw[aj (Zr this)];exact(hf b hb).1
 done:=by
  intro X hP hw hK hc i pins s σ H E I hf st hg;subst hP hw hK;obtain⟨⟨old,he⟩,hit⟩:=st;obtain⟨hq,hi⟩:SqL X.K H a xs/\xs.length<=i:=hg;obtain⟨its,rv,p,hz⟩:=I.list hq;have hl:=rv.length;refine wpAny_pyNext_enum_end (I.ok.hd hc) he hit p.isList (by simp;lia) λh1 xb=>%[rfl|I.moved hf λb o hb q=>?_]
  simp only[Yn,Yt,or_false,not_or]at hb;exact xb b o hb.2 q
 self:=λA i s Q E st h=>by
  obtain⟨⟨old,he⟩,hit⟩:=st;exact wpAny_pyIter_enum he h
def Ch(K:ZA)(c:TA):TI:=λd H R=>c d H λvs b=>∃a xs,vs=[.ref a]/\SqL K b a xs/\R (Ite K a xs) b
section
variable{X:Cx}{K:ZA}{pos:Pos}
theorem vk(m:X.K=K)(n:Gl X "enumerate")(o:X.mg "enumerate"=none)(r:aW a=false)(t:QA X [a] v):
 QI X (.Tuple g J L) (.Call (.Name "enumerate" p) [a] [] pos) (Ch K v):=by
 subst m
 constructor
 intro pins s w H R I h;refine Call_ (iU I n o boot_enumerate (PyProof.Rows.callWith_type1 (thn (t.h pos pins s w H _ I h) λus d ⟨vs,y,c,z,A⟩=>?_) (av r) rfl));obtain⟨l,xs,e,B,q⟩:=A;subst e;obtain⟨u,rfl,C⟩:=cR z;cases C;obtain⟨its,M,p,N⟩:=c.list B;refine call_enumerate_list p.isList λO i f E G=>wpAny_pyIter_enum i %[⇑d+1,[⇑d+1,⇑d],ESt _ ⇑d l,Ite X.K l xs,y,rfl,(c.kept G),wt _ _ _ _ (Nat.succ_ne_self _),%[%[_|i]|f],λb j=>?_|q]
 simp only[Yn,Yt,or_false]at j;rcases j with rfl|rfl
 .exact c.fpOk (Y7 _) (c.hok.fresh (Y7 _))
 .exact c.fpOk (Zh _) (c.hok.fresh (Zh _))
end
section
variable(h:Heap)(x y:Str)(t u:Tok)
noncomputable abbrev zs1:Heap:=h.push {cls:= .type (strIterType x),data:= .fields #[.str x t,.int 0 0]}
noncomputable abbrev zs2:Heap:=(zs1 h x t).push {cls:= .type (strIterType y),data:= .fields #[.str y u,.int 0 0]}
noncomputable abbrev zs3:Heap:=(zs2 h x y t u).push {cls:= .type "tuple",data:= .seq #[.ref h.objs.size,.ref (zs1 h x t).objs.size]}
noncomputable abbrev zs4:Heap:=(zs3 h x y t u).push {cls:= .type "tuple",data:= .seq #[.none,.none]}
noncomputable abbrev zs5:Heap:=(zs4 h x y t u).push {cls:= .type "zip",data:= .fields #[.none,.bool false,.bool false,.ref (zs2 h x y t u).objs.size,.ref (zs3 h x y t u).objs.size]}
end
theorem kW(x y:Str)(t u:Tok):
 Meets (Builtin.«zip.__new__» %[[.type "zip",.str x t,.str y u]|[]]) (λ_ R s=>R (.ok (.ret (.ref (zs4 s.heap x y t u).objs.size))) (s>>>zs5 s.heap x y t u)):=
 .of_wp λprog w A R s b=>by
  obtain⟨c,g,d,tk,os⟩:=s;have a:=PySem.sub_zip
  wp_walk using wpAny_pyIter_strU (x:=x) (t:=t),wpAny_pyIter_strU (x:=y) (t:=u)
  exact%[_,rfl|b]
section
#where
theorem lP
 (h:∀h',IsZip h' (⇑s+4) (⇑s+2) (⇑s+3) .none->IsPair h' (⇑s+2) (.ref ⇑s) (.ref (⇑s+1))->IsPair h' (⇑s+3) .none .none->
  h'.IsStrIter ⇑s (strIterType x) x t 0->h'.IsStrIter (⇑s+1) (strIterType y) y u 0->(∀c o,s.heap.get? c=some o->h'.get? c=some o)->Q (.ref (⇑s+4)) (s>>>h')):
 ↥A (call (.type "zip") [.str x t,.str y u]) Q E s:=by
 refine callType_new F.called_zip (by decide) (F.typeCall_zip_2 _ _) (F.newCall_zip_2 _ _) (λobj=>F.args_object_init_3 obj _ _) F.entry_zip_new (kW x y t u) ?_;have a:(zs1 s.heap x t).objs.size=⇑s+1:=Zp ..;have b:(zs2 s.heap x y t u).objs.size=⇑s+2:=by rw[Zp,a]
 have d:(zs3 s.heap x y t u).objs.size=⇑s+3:=by rw[Zp,b]
 have f:(zs4 s.heap x y t u).objs.size=⇑s+4:=by rw[Zp,d]
 have g:∀c o,(zs4 s.heap x y t u).get? c=some o->(zs5 s.heap x y t u).get? c=some o:=λ_ _ q=>Z6 _ q
 have i:∀c o,(zs3 s.heap x y t u).get? c=some o->(zs5 s.heap x y t u).get? c=some o:=λc o q=>g c o (Z6 _ q)
 have j:∀c o,(zs2 s.heap x y t u).get? c=some o->(zs5 s.heap x y t u).get? c=some o:=λc o q=>i c o (Z6 _ q)
 have l:∀c o,(zs1 s.heap x t).get? c=some o->(zs5 s.heap x y t u).get? c=some o:=λc o q=>j c o (Z6 _ q)
 have r:∀c o,s.heap.get? c=some o->(zs5 s.heap x y t u).get? c=some o:=λc o q=>l c o (Z6 _ q)
 have e:(zs5 s.heap x y t u).get? (zs4 s.heap x y t u).objs.size=some _:=Zi _ rfl;have m:(zs5 s.heap x y t u).get? (zs3 s.heap x y t u).objs.size=some _:=g _ _ (Zi _ rfl);have n:(zs5 s.heap x y t u).get? (zs2 s.heap x y t u).objs.size=some _:=i _ _ (Zi _ rfl);have p:=j _ _ (Zi _ rfl);show _/\_;rw[b,d,f]at e;rw[a,b]at n;rw[d]at m;rw[a]at p;rw[f];exact%[%[_,e|rfl]|h _ e n m %[_,(l _ _ (Zi _ rfl)),rfl|rfl] %[_,p,rfl|rfl] r]
end
def Ci(a:TA):TI:=λb H R=>a b H λvs c=>∃x y,vs=[.str x,.str y]/\R (Itz x y) c
section
variable{X:Cx}{K:ZA}{pos:Pos}
theorem Cj(z:Gl X "zip")(A:X.mg "zip"=none)(B:aW a=false)(f:aW b=false)(C:QA X [a,b] E):
 QI X (.Tuple r O Q) (.Call (.Name "zip" p) [a,b] [] pos) (Ci E):=by
 constructor
 intro pins s G H R I h;refine Call_ (iU I z A boot_zip (PyProof.Rows.callWith_type1 (thn (C.h pos pins s G H _ I h) λus c ⟨vs,J,g,L,M⟩=>?_) (av B) (by rw[av f];rfl)));obtain⟨x,y,e,q⟩:=M;subst e;obtain⟨T,U,rfl,⟨t,rfl⟩,u,rfl⟩:=iQ L;refine lP λY v l m n o N=>wpAny_pyIter_zip v ?_
 have ne:∀i j,i≠j->⇑c+i≠⇑c+j:=λi j h e=>h (Nat.add_left_cancel e)
 refine%[⇑c+4,[⇑c+4,⇑c+2,⇑c+3,⇑c+0,⇑c+1],_,Itz x y,J,rfl,(g.kept N),
  yV _ _ _ _ _ x y t u %[ne 2 4 (by decide),ne 3 4 (by decide),ne 0 4 (by decide),ne 1 4 (by decide),ne 2 3 (by decide),ne 2 0 (by decide),ne 2 1 (by decide),ne 3 0 (by decide),ne 3 1 (by decide)|ne 0 1 (by decide)],
  %[v,l,%[_,_|m],n|o],λb w=>?_|q]
 have d:⇑c<=b:=by
  simp only[Yn,Yt,or_false]at w;rcases w with rfl|rfl|rfl|rfl|rfl<;> exact le_add_right _ _
 exact g.fpOk d (g.hok.fresh d)
end
inductive D where
 | non|bl (b:Bool)|int (i:Int)|str (x:Str)|lst (ds:List D)|tup (ds:List D)
section
variable{K:ZA}{H H':Hp}
theorem ae.seqT(e:ae H H')(h:SqT K H a xs):SqT K H' a xs:=by
 rcases h with(h|⟨o,h⟩)|h
 .exact .inl (.inl (e _ _ h))
 .exact .inl (.inr %[o|e _ _ h])
 .exact .inr h
end
section
#version
end
theorem tN{X:Cx}(G:X.N.Nodup)(t:X.N[i]? =some x)(J:Loc X.env.scope x)(L:X.fn x=true\/X.env.scope.names.lookup x=some .local)
 (u:swapsWith (.ListComp l [%[w,iter,p|0]] a pos) (some (.Name x A)) f.line X.env=pure true) (S:aD X a r y) (M:X.calm=true) (N:∀x,foldedSetIterable iter X.env x=pure x) (hi:PI X w iter O)
 (Q:∀c d j,PG (bG X a r c d j) w g) (T:∀c d j,PTs (bG X a r c d j) p U) (Y:∀c d j,PE (bG X a r c d j) l te):
 PS X (.Assign [.Name x A] (.ListComp l [%[w,iter,p|0]] a pos) f) (mZ (og O r.length y g U te) (iP i)):=by
 intro pins s σ H D I h;refine Z2 (wpAny_standAt ?_);show wpAny _ _ (swapsWith (.ListComp l _ a pos) (some (.Name x A)) f.line X.env>>= _) _ _ _;rw[u];refine Z2 (Z3 (Z2 (Z2 (oh S M hi Q T Y N I h λD' C H5 s6 fl m hn j k q=>?_))));obtain⟨o,es,ep,B,hd,hr⟩:=id hn;have I7:=(k s6.heap (SameBut.refl _ _)).pinned (λb n=>(X5 n)▸j) λb n=>by
  rw[X5 n];exact%[o,B|λv z=>by lia]
 refine wpAny_assign_Name (jm I7 G t J (v:= .ref D') rfl (λs8 E=>%[m,%[o,es,ep,((E.pin _ (Ym _ (Ym _ (eB (mem_singleton.mpr rfl) B)))).1),hd|hr]|λh' sb=>Z3 (Z3 %[_,H5,(E.unpinned).moved (λb n=>(X5 n)▸j) λb o' n e=>(sb.2 b (λz=>n (mem_singleton.mpr z))).trans e|q])]) L)
theorem wu(h:(env.blockKind== .function&&env.kindOf x==some .local&&b.line==pos.line&&!(a.names.any λ(n,k)=>n==x&&(k== .local||k== .cell)))=true):
 swapsWith (.ListComp c gens a pos) (some (.Name x b)) l env=pure true:=by
 show(pure (env.blockKind== .function&&env.kindOf x==some _&&b.line==pos.line&&!(a.names.any _)))=pure true;rw[h]
theorem ib{X:Cx}(i:Nat)(q:X.N.Nodup)(f:X.N[i]? =some x)(r:Loc X.env.scope x)(s:X.fn x=true\/X.env.scope.names.lookup x=some .local)
 (h:(X.env.blockKind== .function&&X.env.kindOf x==some .local&&t.line==pos.line&&!(c.names.any λ(n,k)=>n==x&&(k== .local||k== .cell)))=true) (S:aD X c e j) (u:X.calm=true) (v:lM iter=false) (hi:QI X o iter w)
 (y:∀a b d,QG (bG X c e a b d) o g) (z:∀a b d,QTs (bG X c e a b d) l A) (B:∀a b d,QE (bG X c e a b d) m C):
 QS X (.Assign [.Name x t] (.ListComp m [%[o,iter,l|0]] c pos) p) (mZ (og w e.length j g A C) (iP i)):=
 ⟨tN q f r s (wu h) S u (jV v) hi.h (λa b d=>(y a b d).h) (λa b d=>(z a b d).h) (λa b d=>(B a b d).h)⟩
section
#version
end
section
variable{X:Cx}{K:ZA}
end
theorem bH:Slot "set_iterator" "__next__" "set_iterator.__next__":=
 .of (owner:="set_iterator") (n:="__next__") (by rw[typeLookup_type,builtinLookup_eq_fast];kernel_rfl) (by decide +kernel) (by decide +kernel) (by decide +kernel) (by first|exact .inl (by decide +kernel)|exact .inr ∅) (by kernel_rfl)
theorem fG:entryFor table "set_iterator.__next__"=some Builtin.«set_iterator.__next__»:=entryFor_of_tree (by kernel_rfl)
theorem gW(a:Value):argsOk "set_iterator.__next__" %[[a]|[]]:=by kernel_rfl
theorem m7:entryFor table "set.__iter__"=some Builtin.«frozenset.__iter__»:=entryFor_alias (id':="frozenset.__iter__") (by kernel_rfl) rfl (by decide +kernel) (by kernel_rfl)
theorem m8(t:SetTable)(n:Nat):(t.orStandIn n).led=t.led:=by unfold SetTable.orStandIn;split<;> rfl
theorem tO(t:SetTable)(a:Array _)(h:Int)(x:Value):(layNew t a h x).2.1.led=t.led:=by
 unfold layNew;cases t.freeSlot h with
 | none=>rfl
 | some p=>
   exact m8 _ _
theorem pE(t:SetTable)(c:Array _)(n:Nat):(relayAll t c n).2.1.led=t.led:=by
 unfold relayAll;cases a:t.relaid _ n with
 | none=>rfl
 | some p=>
   obtain⟨t',d⟩:=p;simp only
   split
   .simp only[SetTable.relaid,SetTable.laid]at a;cases b:SetTable.layClean _ _ with
    | none=>rw[b]at a;cases a
    | some f=>rw[b]at a;injection a with a;injection a with e g;rw[<-e]
   .rfl
theorem lQ(t:SetTable)(c:Array _)(n:Nat)(d:t.plain=false):(relayAll t c n).2.1.plain=false:=by
 unfold relayAll;cases a:t.relaid _ n with
 | none=>rfl
 | some p=>
   obtain⟨t',e⟩:=p;simp only
   split
   .simp only[SetTable.relaid,SetTable.laid]at a;cases b:SetTable.layClean _ _ with
    | none=>rw[b]at a;cases a
    | some g=>rw[b]at a;injection a with a;injection a with f h;exact f▸d
   .rfl
noncomputable def aR(w:World):Bool:=w.params.followText "set-order"
def bi(w:World)(a:Addr)(ks:ZB)(h:Heap):Prop:=
 ∃o b c t ss,h.get? a=some o/\o.ExactSet/\o.data= .set b c t/\StrsAre (b.toList.map (·.2)) ss/\ss.Perm ks/\ks.Nodup/\(∀e∈b.toList,∃z u,e=(hashStr w z,.str z u))/\b.size<scanBound/\t.fits b.size=true/\(b.size≠0->t.plain=false)/\t.led=!aR w
theorem oq(h:∀e∈l,∃z u,e=(hashStr w z,.str z u)):ElemsOf (aN prog w) l:=λe a=>by
 obtain⟨z,u,rfl⟩:=h e a;exact%[%[Sum.inr z,di z u|rfl]|rfl]
theorem dI:∀{vs:ZF} {ss:ZB} {z:Str},StrsAre vs ss->((∃u,Value.str z u∈vs)↔z∈ss)
 | _,_,z,.nil=>by simp
 | _,_,z,.cons x t h=>by
   have b:=dI (z:=z) h
   constructor
   .rintro⟨u,a⟩;rcases mem_cons.mp a with e|e
    .injection e with c _;exact c▸Zl
    .exact Zj _ (b.mp %[u|e])
   .intro d;rcases mem_cons.mp d with e|e
    .exact e▸%[t|Zl]
    .obtain⟨u,a⟩:=b.mpr e;exact%[u|Zj _ a]
theorem ic:∀{vs ws:ZF} {ss ts:ZB},StrsAre vs ss->StrsAre ws ts->StrsAre (vs++ws) (ss++ts)
 | _,_,_,_,.nil,h=>h
 | _,_,_,_,.cons x t h,h'=> .cons x t (ic h h')
theorem br:∀{vs:ZF} {ss:ZB},StrsAre vs ss->vs.length=ss.length
 | _,_,.nil=>rfl
 | _,_,.cons x t h=>by rw[Zq,Zq,br h]
theorem cb(h:StrsAre vs ss)(p:ws.Perm vs):∃ts,StrsAre ws ts/\ts.Perm ss:=by
 refine%[ws.map strOf,strsAre_map ws λv a=>h.all v (p.mem_iff.mp a)|?_];have:=p.map strOf;rwa[h.strs]at this
section
#where
variable{a:Addr}
theorem bi.stored{h:Heap}{o:Obj}{i b:Array (Int×Value)}{t t':SetTable}(j:h.get? a=some o)(c:o.ExactSet)(d:o.data= .set i f t)(l:StrsAre (b.toList.map (·.2)) ss)(m:ss.Perm ks)(n:ks.Nodup)
 (p:∀e∈b.toList,∃z u,e=(hashStr w z,.str z u)) (r:b.size<scanBound) (v:t'.fits b.size=true) (y:t'.plain=false) (B:t'.led=!aR w):
 (h.update a (Obj.putSet b t')).get? a=some {o with data:= .set b (f+1) t'}/\bi w a ks (h.update a (Obj.putSet b t')):=by
 have g:=by
  have q:=get?_update_self (Obj.putSet b t') j (by rw[putSet_of b t' d];rfl);rwa[putSet_of b t' d]at q
 exact%[g,_,b,f+1,t',ss,g,c,rfl,l,m,n,p,r,v,λ_=>y|B]
theorem qW{g:Bool->Sem Unit}(N:∀(b:Bool) (h:Shared) (q:Unit->Shared->Prop),q () h->↥A (g b) q E h){m:Bool}{R:Option Bool->Shared->Prop}(r:s.heap.get? a=some o)(i:o.ExactSet)(v:o.data= .set es ep t)
 (y:StrsAre (c.toList.map (·.2)) ss) (B:ss.Perm ks) (C:ks.Nodup) (G:∀e∈c.toList,∃z u,e=(hashStr w z,.str z u)) (j:c.size<scanBound) (O:d.fits c.size=true) (H:d.plain=false) (I:d.led=!aR w)
 (J:∀h',SameBut a s.heap h'->bi w a ks h'->R (some true) (s>>>h')):
 ↥A (do
  storeSet a c d
  if(!m&&d.tooFull)=true then do
   g (relayAll d c (SetTable.grown c.size)).2.2
   storeSet a (relayAll d c (SetTable.grown c.size)).1 (relayAll d c (SetTable.grown c.size)).2.1
   pure (some true)
  else pure (some true)) R E s:=by
 obtain⟨g1,Q⟩:=bi.stored r i v y B C G j O H I;have M:=SameBut.update s.heap a (Obj.putSet c d);refine Z2 (wpAny_storeSet_of r v ?_ (fits_of_scanBound j))
 split
 .have p:=relayAll_perm d c (SetTable.grown c.size);have f:=relayAll_fits d c (SetTable.grown c.size);have l:=pE d c (SetTable.grown c.size);have pl:=lQ d c (SetTable.grown c.size) H
  generalize relayAll d c _=L at p f l pl ⊢
  obtain⟨n,t3,gv⟩:=L;have z:n.size=c.size:=by rw[<-Za,p.length_eq,Za]
  obtain⟨ts,T,U⟩:=cb y (p.map _);exact Z2 (N _ _ _ (Z2 (wpAny_storeSet_of g1 rfl (Z3 (J _ (M.trans (SameBut.update _ a _)) (bi.stored g1 i rfl T (U.trans B) C (λe Y=>G e (p.mem_iff.mp Y)) (by rw[z];exact j) f pl (l.trans I)).2)) (fits_of_scanBound (by rw[z];exact j)))))
 .exact Z3 (J _ M Q)
theorem jt{ks:ZB}(hS:bi w a ks s.heap)(r:ks.length+1<scanBound)
 (hQ:∀h' b,SameBut a s.heap h'->bi w a (if z∈ks then ks else ks++[z]) h'->Q b (s>>>h')):↥A (setAddHashed a (.str z tk) (hashStr w z)) Q E s:=by
 obtain⟨o,c,ep,t,ss,C,v,G,g,hp,H,h,hb,hf,ag,d⟩:=hS;have hn:c.size=ks.length:=by
  have q:=br g;rw[Z5,Za,hp.length_eq]at q;exact q
 have hE:ElemsOf (aN prog w) c.toList:=oq h;have I:(aN prog w).is (Sum.inr z) (.str z tk)=true:=di z tk;unfold setAddHashed setAddHashedIn;refine wpAny_holding (Z2 (wpAny_setState_of C G hf ?_));dsimp only;rw[byScan_of (knd:=aN prog w) rfl hb hE];simp only[↓reduceIte];unfold setAddByScan;refine Z2 (Z2 (wpAny_rule (Z2 (wpAny_setScan_of I C G hf hE ?_))));have J:(∃e∈c.toList,(aN prog w).is (Sum.inr z) e.2=true)↔z∈ks:=by
  rw[<-hp.mem_iff,<-dI g]
  constructor
  .rintro⟨e,l,q⟩;obtain⟨y,u,rfl⟩:=h e l;have q:jk (Sum.inr z) (Value.str y u)=true:=q;rcases aZ q with⟨i,t',q1,m⟩|⟨y',t',q1,m⟩
   .cases m
   .cases q1;exact%[u|X7 ⟨_,l,by injection m with e1 _;rw[e1]⟩]
  .rintro⟨u,hu⟩;obtain⟨e,l,q⟩:=X6 hu;exact%[e,l|q▸di z u]
 cases hr:List.findIdx? _ c.toList with
 | some j=>
   obtain⟨hj,ai,_⟩:=List.findIdx?_eq_some_iff_getElem.mp hr;have hz:=J.mp %[c.toList[j],Y5 hj|ai];have q:=hQ s.heap false (SameBut.refl a s.heap) ((if_pos hz)▸%[o,c,ep,t,ss,C,v,G,g,hp,H,h,hb,hf,ag|d]);exact Z3 (Z3 q)
 | none=>
   have hz:z∉ks:=λq=>by
    obtain⟨e,l,m⟩:=J.mpr q;have:=List.findIdx?_eq_none_iff.mp hr e l;rw[m]at this;cases this
   rw[if_neg hz]at hQ;have M:=layNew_perm t c (hashStr w z) (.str z tk);have lf:=layNew_fits t c (hashStr w z) (.str z tk);have ll:=tO t c (hashStr w z) (.str z tk)
   generalize hL:layNew t c _ _=L at M lf ll
   obtain⟨B,t1,as,an⟩:=L;rw[toList_push]at M;have gone:∀b f Q',Q' () f->↥A (match b with|true=>rule "set.scan.the-table-gave-way"|false=>pure ()) Q' E f:=λb f Q' q=>by
    cases b
    .exact Z3 q
    .exact wpAny_rule q
   have n:∀e∈B.toList,∃z u,e=(hashStr w z,.str z u):=λe l=>by
    rcases X4 (M.mem_iff.mp l)with q|q
    .exact h e q
    .rw[X5 q];exact%[z,tk|rfl]
   have q1:StrsAre ((c.toList++[(hashStr w z,Value.str z tk)]).map (·.2)) (ss++[z]):=by
    rw[Zc];exact ic g (.cons z tk .nil)
   obtain⟨ts,m,q3⟩:=cb q1 (M.map _);have N:=q3.trans (hp.append_right _);have p:=lr H hz;have al:B.size=c.size+1:=by rw[<-Za,M.length_eq,Z8,Za];rfl
   have O:B.size<scanBound:=by rw[al,hn];exact r
   have T:∀h',SameBut a s.heap h'->bi w a _ h'->↥A _ Q E _:=λh' U Y=>Z3 (hQ h' true U Y)
   refine Z2 (gone _ _ _ ?_);cases ab:t1.plain with
   | true=>
     exact Z2 (Z3 (qW gone C v G m N p n O (SetTable.fits_plain_off lf) rfl (ll.trans d) λh' U Y=>T h' U Y))
   | false=>
     exact qW gone C v G m N p n O lf ab (ll.trans d) λh' U Y=>T h' U Y
theorem qX(d:bi w a ks s.heap)(c:ks.length+1<scanBound)
 (e:∀h' b,SameBut a s.heap h'->bi w a (if z∈ks then ks else ks++[z]) h'->Q b {s with heap:=h',toks:=s.toks+1}):↥A (setAdd a (.str z tk)) Q E s:=by
 exact wpAny_holding (Z2 (wpAny_pyHash_str (jt d c e)))
end
noncomputable def kX(ks:ZB)(z:Str):ZB:=if z∈ks then ks else ks++[z]
noncomputable def aH(ss:ZB):ZB:=ss.foldl kX []
theorem y3(ks:ZB)(z:Str):(kX ks z).length<=ks.length+1:=by
 unfold kX;split
 .lia
 .exact Z8▸Zh _
theorem y4:y∈kX ks z↔y∈ks\/y=z:=by
 unfold kX;by_cases h:z∈ks
 .rw[if_pos h]
  simp_all
 .rw[if_neg h,Yk,mem_singleton]
theorem tP(h:ks.Nodup):(kX ks z).Nodup:=by
 unfold kX;by_cases a:z∈ks
 .rw[if_pos a];exact h
 .rw[if_neg a];exact lr h a
theorem qY:∀{ss ks:ZB} {y:Str},y∈ss.foldl kX ks↔y∈ks\/y∈ss
 |[],ks,y=>by simp
 | z::r,ks,y=>by
   rw[foldl_cons,qY,y4,Yn]
   grind
theorem lR:∀{ss ks:ZB},ks.Nodup->(ss.foldl kX ks).Nodup
 |[],_,h=>h
 | z::r,ks,h=>by
   rw[foldl_cons];exact lR (tP h)
theorem bp:y∈aH ss↔y∈ss:=by unfold aH;rw[qY];simp
theorem eF(ss:ZB):(aH ss).Nodup:=lR Yr
theorem qZ:∀(ss ks:ZB),(ss.foldl kX ks).length<=ks.length+ss.length
 |[],ks=>by simp
 | z::r,ks=>by
   have a:=qZ r (kX ks z);have b:=y3 ks z;rw[foldl_cons,Zq]
   lia
theorem bi.keep(S:bi w a ks h)(k:∀o,h.get? a=some o->h'.get? a=some o):bi w a ks h':=by
 obtain⟨o,b,c,t,ss,d,r⟩:=S;exact%[o,b,c,t,ss,k o d|r]
theorem q0(val:Nat->Str)(i:Nat):aH ((List.range (i+1)).map val)=kX (aH ((List.range i).map val)) (val i):=by
 unfold aH;rw[range_succ,Zc,List.foldl_append];rfl
section
variable{prog:Program}{w:World}{A:Around}{R:Result->Shared->Prop}{I:Addr}{fp wr:List Addr}{G:Array GenState->Array GenState->Prop}{n:Nat}{P:Nat->Value->Prop}{St:Nat->Shared->Prop}
theorem m9(W:WalksS prog w A.in1 I fp wr G n P St)(S:Addr)(d:S∉fp)(val:Nat->Str)(f:∀i v,P i v->∃t,v= .str (val i) t)(c:n+1<scanBound):
 ∀(k i:Nat) (s:Shared),n-i=k->i<=n->St i s->bi w S (aH ((List.range i).map val)) s.heap->
  (∀s',Moved (S::wr) G s s'->bi w S (aH ((List.range n).map val)) s'.heap->R (.ok (.ret .none)) s')->codeAny (model prog w) A (.builtin "set.update.loop" %[[.ref S,.ref I]|[]]) R s:=by
 have g:S∉wr:=λh=>d (W.sub _ h)
 have more:∀b∈wr,b∈S::wr:=λb c=>Zj _ c
 intro k
 induction k with
 | zero=>
   intro i s z hi st m a;have e:i=n:=by lia
   subst e;refine codeAny_builtin F.entry_set_update_loop ?_;rw[Around.under_plainId F.plain_set_update_loop _];show wpAny _ A.in1 (pyNext (.ref I)>>= _) _ _ s;refine Z2 (W.done s _ _ st λj l=>?_);show wpAny _ A.in1 (ret Value.none) _ _ j;exact Z3 (a j (l.mono more) (m.keep λo e=>l.heap S o g e))
 | succ k B=>
   intro i s z hi st m a;have lt:i<n:=by lia
   refine codeAny_builtin F.entry_set_update_loop ?_;rw[Around.under_plainId F.plain_set_update_loop _];show wpAny _ A.in1 (pyNext (.ref I)>>= _) _ _ s;refine Z2 (W.item i s _ _ lt st λv j pv p l=>?_);obtain⟨t,rfl⟩:=f i v pv;have room:(aH ((List.range i).map val)).length+1<scanBound:=by
    have q:=qZ ((List.range i).map val) [];rw[Z5,Yb]at q;unfold aH;simp only[length_nil,zero_add]at q
    lia
   refine Z2 (wpAny_holding (qX (m.keep (h':=j.heap) λo e=>l.heap S o g e) room λH b y r=>Z3 %[plainId_quiet F.plain_set_update_loop _|B (i+1) _ ⋯ lt (W.frame _ j _ _ p (Y7 _) λb c o e=>?_) (by rw[q0];exact r) λC E u=>?_]))
   .rw[y.2 b (λq:b=S=>d (q▸c))];exact e
   .refine a C (Moved.trans W.gtrans ((l.mono more).then_heap (Y7 _) λb o c e=>?_) E) u;rw[y.2 b (λq:b=S=>c (q▸Zl))];exact e
end
section
#where
noncomputable abbrev aS(w:World):Obj:={cls:= .type "set",dict:=none,data:= .set #[] 0 (.fresh 0 0 (!aR w))}
theorem rc(a:Value)(h:Q₁ (.ref ⇑s) (s>>>s.heap.push (aS w))):
 codeAny (model prog w) A (.call (.builtin "set.__new__") %[[.type "set",a]|[]]) (wants Q₁ E) s:=by
 refine codeAny_of_tree ?_;show wpAny _ A.in1 _ _ _ s;refine Z2 (wpAny_of_eq (PySem.F.newCall_set_1 a) (Z3 %[plainId_quiet PySem.F.plain_set_new _|codeAny_builtin PySem.F.entry_set_new ?_]));unfold Builtin.«set.__new__» Builtin.Frozenset.newClass;have b:=sub_set_self;obtain⟨c,g,d,tk,os⟩:=s;dsimp only
 wp_walk
 refine wpAny_askSetting (Z3 ?_);dsimp only;simp only[newObj];exact Z2 (wpAny_alloc (Z3 (Z3 h)))
theorem bi.empty(e:h.get? a=some (aS w)):bi w a [] h:=
 %[_,#[],0,_,[],e,%[rfl,rfl|rfl],rfl,.nil,.nil,Yr,λe b=>by simp at b,by decide,rfl,λq=>absurd rfl q|rfl]
theorem re:∀{vs:ZF} {ss:ZB},StrsAre vs ss->∀(i:Nat) v,vs[i]? =some v->∃t,v= .str (ss.getD i (Str.ofString "")) t
 | _,_,.nil,i,v,h=>by simp at h
 | _,_,.cons x t a,0,v,h=>by simp at h;exact%[t|by rw[<-h];rfl]
 | _,_,.cons x t a,i+1,v,h=>by
   obtain⟨u,e⟩:=re a i v (h);exact%[u|by rw[e];rfl]
theorem tQ(ss:ZB):(List.range ss.length).map (λi=>ss.getD i (Str.ofString ""))=ss:=by
 apply ext_getElem
 .simp
 .intro i a b
  simp_all
theorem ng(hh:A.handled=none)(hl:s.heap.IsList l a)(hi:StrsAre a.toList ss)(hb:a.size+1<scanBound)
 (hQ:∀(h':Heap) (tk:Nat),bi w ⇑s (aH ss) h'->(∀b o,s.heap.get? b=some o->h'.get? b=some o)->Q (.ref ⇑s) {s with heap:=h',toks:=tk}):
 ↥A (call (.type "set") [.ref l]) Q E s:=by
 obtain⟨c,tl,T⟩:=called_set.mro;have B:=called_set.made;have U:=called_set.sub;refine wpAny_call (codeAny_of_tree ?_);show wpAny _ _ (callAny (.type "set") _) _ _ _;refine Z3 %[Code.quiet_builtin _ (by decide +kernel)|codeAny_builtin F.entry_type_call ?_];rw[Around.under_plain (weight_type_call_type "set" [.ref l] []) rfl];have ag:=called_set.notType;have ai:=called_set.canCreate;have al:=PySem.F.typeCall_set_1 (.ref l)
 repeat any_goals first|assumption|wp_step
 refine codeAny_mono (rc (.ref l) (E:=E) (Q₁:=λobj g=>obj= .ref ⇑s/\g=(s>>>s.heap.push (aS w))) %[rfl|rfl]) λr g C=>?_
 cases r with
 | error e=>exact C
 | ok fl=>
   cases fl with
   | ret obj=>
     obtain⟨rfl,rfl⟩:=C;have Y:(s.heap.push (aS w)).get? ⇑s=some (aS w):=Zi _ rfl;have tS:Shared.TypeIs (s>>>s.heap.push (aS w)) (.ref ⇑s) "set":=%[_,Y|rfl]
     have an:=called_set.init.lookup;have as:=called_set.init.bind (.ref ⇑s)
     repeat any_goals first|assumption|wp_step
     refine codeAny_mono (codeAny_call_builtin (R:=wants (λr h=>r= .none/\∃h' tk,h={s with heap:=h',toks:=tk}/\bi w ⇑s (aH ss) h'/\(∀b o,s.heap.get? b=some o->h'.get? b=some o)) E) called_set.init.plain F.entry_set_init (check_set_init_1 tS ?_)) λn h d=>?_
     .obtain⟨ol,gl,cl,nl,dl⟩:=hl;obtain⟨ab,j,G,f⟩:=ol;simp only at cl dl;subst cl;subst dl;have H:(s.heap.push (aS w)).get? l=some {cls:= .type "list",dict:=j,data:= .seq a nl,slots:=f}:=Z6 _ gl;have a0:=PySem.F.sub_list_set;have a1:=PySem.F.sub_list_frozenset;have a2:(Value.type "list"==Value.type "dict")=false:=by decide
      have p:(s.heap.push (aS w)).IsList l a:=%[_,H,rfl,nl|rfl]
      unfold Builtin.«set.__init__»;unfold noKeywords;unfold Builtin.Frozenset.updateFrom
      generalize I:pyIter=PI
      wp_walk
      subst I;refine wpAny_pyIter_list p (Z2 (wpAny_runValue ?_));have q:l<⇑s:=Zt gl;have h3:A.in1.in1.in1.handled=none:=by simp[hh]
      have J:(s.heap.push (aS w)).objs.size=⇑s+1:=Zp ..;have L:l≠(s.heap.push (aS w)).objs.size:=by rw[J];exact Zr (Yf q)
      have M:⇑s∉[(s.heap.push (aS w)).objs.size,l]:=by
       rw[J];simp only[Yn,Yt,or_false,not_or];exact%[Zr (Yg _)|Yo q]
      have t:a.size=ss.length:=by rw[<-Za];exact br hi
      refine m9 ((Walks.list h3 _ l L a).toS) ⇑s M (λi=>ss.getD i (Str.ofString "")) (λi v hv=>re hi i v (by rw[getElem?_toList];exact hv)) hb (a.size-0) 0 _ ⋯ (Yy _)
       %[%[_,Zi _ rfl,rfl|rfl]|p.push _] (bi.empty (Z6 _ Y)) ?_
      intro s3 y z;rw[t,tQ]at z;obtain⟨h',g',d',N,O⟩:=s3;have eg:g'=s.gens:=y.gens;have ed:d'=s.drawn:=y.drawn;have eo:O=s.os:=y.os;subst eg;subst ed;subst eo;refine Z3 ?_;show wpAny _ _ (ret Value.none) _ _ _;refine Z3 %[rfl,h',N,rfl,z|λb o e=>?_];have u:=Zt e;refine y.heap b o ?_ (Z6 _ (Z6 _ e));simp only[Yn,Yt,or_false,not_or,J];exact%[Zr u|Zr (Yf u)]
     .cases n with
      | error e=>exact d
      | ok m=>
        cases m with
        | ret r=>
          obtain⟨rfl,h',tk,rfl,z,k3⟩:=d
          repeat any_goals first|assumption|wp_step
          exact hQ _ _ z k3
        | _=>exact d.elim
   | _=>exact C.elim
end
section
variable{X:Cx}{K:ZA}
noncomputable def i4(w:World)(a:Addr)(ks:ZB):HO:= .ext (bi w a ks)
theorem y6(b:X.calm=true):bK X (.type "set") (λxs H Q=>∃p ss,xs=[.ref p]/\SqL X.K H p (ss.map V.str)/\ss.length<=4000/\∀l,H l=none->Q (.ref l) (upd H l (i4 X.w l (aH ss)))):=by
 intro pins s m H xs us Q I r h;obtain⟨p,ss,rfl,c,n,q⟩:=h;obtain⟨u,rfl,d⟩:=cR r;cases d;obtain⟨its,e,pl,t⟩:=I.list c;have a:=fV e;have f:its.toArray.size=ss.length:=br a;refine ng (I.ok.hd b) pl.isList (a) (by rw[f];show ss.length+1<4096;lia) λh' tk S k=>%[.ref ⇑s,_,I.laid (o:=i4 X.w ⇑s _) k (Zh _) %[S,?_|λv w g i=>g.keep i],rfl|q _ I.fresh]
 obtain⟨o,_,_,_,_,j,_⟩:=S;exact%[o|j]
theorem y8(h:X.K=K)(hw:X.w=w)(a:X.calm=true):cv X (.type "set") (λxs H Q=>∃p ss,xs=[.ref p]/\SqL K H p (ss.map V.str)/\ss.length<=4000/\∀l,H l=none->Q (.ref l) (upd H l (i4 w l (aH ss)))):=by subst h;subst hw;exact⟨y6 a⟩
end
theorem fY:∀{xs:List a} {i:Nat} (h:i<xs.length),(xs[i]::xs.eraseIdx i).Perm xs
 | x::r,0,_=>by simp
 | x::r,i+1,h=>by
   exact(List.Perm.swap _ _ _).trans (.cons _ (fY (by simpa using h)))
section
#where
theorem wv(a:n≠0)(h:∀i d,i<n->Q i {s with drawn:=d}):↥A (choose b n) Q E s:=by
 intro c p _;exact%[a|h _ _ (mod_lt _ (Nat.pos_of_ne_zero a))]
theorem pF:∀(n:Nat) (xs:List b) (s:Shared) (Q:List b->Shared->Prop),xs.length<=n->(∀ys d,ys.Perm xs->Q ys {s with drawn:=d})->↥A (drawOrder n xs) Q E s
 | 0,xs,s,Q,a,h=>by
   have e:=length_eq_zero_iff.mp (le_zero.mp a);subst e;exact Z3 (h [] s.drawn .nil)
 | n+1,[],s,Q,a,h=>Z3 (h [] s.drawn .nil)
 | n+1,x::r,s,Q,a,h=>by
   unfold drawOrder;refine Z2 (wv ∅ λi d hi=>?_);rw[(Z4 hi)];exact Z2 (pF n _ _ _ (by rw[List.length_eraseIdx];simp only[hi];simp_all) λys c p=>Z3 (h _ c ((List.Perm.cons _ p).trans (fY hi))))
end
theorem vm(next:Nat->Nat):∀(fuel k:Nat) (left:List b) (a:Array b),left.length<=fuel->(pickOrder.go next fuel k left a).toList.Perm (a.toList++left)
 | 0,k,left,a,h=>by
   have e:=length_eq_zero_iff.mp (le_zero.mp h);subst e;rw[Zw];exact .refl _
 | fuel+1,k,[],a,h=>by
   unfold pickOrder.go;simp
 | fuel+1,k,x::r,a,h=>by
   unfold pickOrder.go;have hi:next k%(x::r).length<(x::r).length:=mod_lt _ ∅;rw[Z4 hi];refine(vm next fuel _ _ _ (by rw[List.length_eraseIdx];simp_all)).trans ?_;rw[toList_push,Zd];exact(List.Perm.refl _).append (fY hi)
theorem ot(next:Nat->Nat)(xs:Array a):(pickOrder next xs).toList.Perm xs.toList:=by
 have:=vm next xs.size 0 xs.toList #[] ∅;simpa [pickOrder]using this
theorem ou(p j:Nat):SetTable.below #[p] j=if p<j then 1 else 0:=by
 unfold SetTable.below;simp only[Zo,Zq];unfold SetTable.below.go;simp
 split<;>(rfl)
theorem tR(j:Nat):SetTable.below #[] j=0:=rfl
theorem oz{a:Type}{xs:Array a}(h:xs.size=1):∃p,xs= #[p]:=by
 obtain⟨l⟩:=xs
 match l,h with
 |[p],_=>exact%[p|rfl]
def SIt(w:World)(I S T:Addr)(o:Obj)(b:Array (Int×Value))(c:Nat)(t:SetTable)(a:ZF)(i:Nat)(h:Heap):Prop:=
 h.get? S=some o/\∃first,h.get? I=some {cls:= .type "set_iterator",dict:=none,data:= .fields #[first,rawInt i,.ref S,rawInt b.size,rawInt c],slots:= #[]}/\
  ((aR w=true/\first=rawInt 0/\a=(pickOrder (w.params.setOrder S c) b).toList.map (·.2))\/
   (aR w=false/\first= .ref T/\T≠I/\∃ps:List Nat,h.get? T=some {cls:= .type "tuple",data:= .seq (ps.map λ(i:Nat)=>rawInt i).toArray}/\ps.length=a.length/\∀(j p:Nat),ps[j]? =some p->∃e,b[p]? =some e/\a[j]? =some e.2)\/
   (aR w=false/\b.size<=1/\a=b.toList.map (·.2)/\(i=0->first=rawInt 0)/\(i=1->∃p:Nat,t.place[0]? =some p/\first=rawInt (p+1))))
theorem SIt.is{w:World}{I S T:Addr}{o:Obj}{b:Array _}{c:Nat}{t:SetTable}{a:ZF}{i:Nat}{s:Shared}(h:SIt w I S T o b c t a i s.heap):s.TypeIs (.ref I) "set_iterator":=by
 obtain⟨_,f,d,_⟩:=h;exact%[_,d|rfl]
section
#where
variable{I S T:Addr}{o:Obj}{es:Array (Int×Value)}{ep:Nat}{t:SetTable}{ord:ZF}
theorem tT{i:Nat}{v:Value}{Q:Option Value->Shared->Prop}(y:o.data= .set es ep t)(h:t.fits es.size=true)(z:t.led=!aR w)(j:S≠I)(st:SIt w I S T o es ep t ord i s.heap)(f:ord[i]? =some v)(hn:ord.length=es.size)
 (U:∀h',SIt w I S T o es ep t ord (i+1) h'->SameBut I s.heap h'->Q (some v) (s>>>h')):↥A (pyNext (.ref I)) Q E s:=by
 have hT:=st.is;obtain⟨g,first,N,m⟩:=st;unfold pyNext;refine Z2 (wpAny_attempt (wpAny_callSpecial?_slot (name:=Str.ofString "__next__") hT bH (wpAny_call_entry bH hT fG ?_ (gW _))));unfold Builtin.«set_iterator.__next__»;refine Z2 (m:=slotArgs _ _ _) (Z3 ?_);refine Z2 (wpAny_fieldsOf N rfl ?_);show wpAny _ _ (setEntries S>>= _) _ _ _;refine Z2 (wpAny_setEntries_of g y h ?_);rw[if_neg ∅];rcases m with⟨c,rfl,B⟩|⟨c,rfl,C,ps,G,Y,H⟩|⟨c,h1,B,f0,f1⟩
 .show wpAny _ _ (setNext S 0 i ep>>= _) _ _ _;refine Z2 ?_;unfold setNext;refine Z2 (wpAny_setState_of g y h ?_);refine Z2 (Z2 (wpAny_askSetting (Z3 ?_)));show wpAny _ _ (if aR w=true then _ else _) _ _ _;rw[if_pos c];dsimp only;rw[if_neg (show ¬ ((ep != ep)=true) by simp)];refine Z2 ?_;unfold setWalk;refine Z2 (wpAny_setState_of g y h ?_);refine Z2 (Z2 (wpAny_askSetting (Z3 ?_)));show wpAny _ _ (if aR w=true then _ else _) _ _ _;rw[if_pos c];refine Z2 (wpAny_askSetting (Z3 (Z3 ?_)));have d:(pickOrder (w.params.setOrder S ep) es)[i]?.map (·.2)=some v:=by
   rw[B]at f;simpa using f
  cases u:(pickOrder (w.params.setOrder S ep) es)[i]? with
  | none=>rw[u]at d;cases d
  | some e=>
    rw[u]at d;have J:e.2=v:=by simpa using d
    show wpAny _ _ (match((pickOrder (w.params.setOrder S ep) es)[i]?).map λe=>(e.2,0)with|some (x,next)=>_|none=>_) _ _ _;rw[u];refine Z2 (wpAny_setField_rec N ∅ λg1 b a=>?_);refine Z2 (wpAny_setField_rec (s:=(s>>>g1)) b ∅ λg2 l n=>?_);rw[J];have L:SameBut I s.heap g2:=a.trans n;refine Z3 %[v,rfl|Z3 (U g2 %[(L.2 S j).trans g,_,l|.inl %[c,rfl|B]] L)]
 .refine Z2 (wpAny_seqItems G rfl ?_);have hi:i<ord.length:=(X3 f).1;have ab:i<ps.length:=by lia
  obtain⟨e,O,ag⟩:=H i ps[i] ∅;have J:e.2=v:=by rw[ag]at f;exact Z9 f
  have M:(ps.map λ(i:Nat)=>rawInt i).toArray[(i:Int).toNat]? =some (rawInt ps[i]):=by simp[ab]
  dsimp only;rw[M];show wpAny _ _ (setNextDrawn S ps[i] ep>>= _) _ _ _;refine Z2 ?_;unfold setNextDrawn;refine Z2 (wpAny_setState_of g y h ?_);dsimp only;rw[if_neg (show ¬ ((ep != ep)=true) by simp),O];refine Z3 ?_;refine Z2 (wpAny_setField_rec N ∅ λg1 b a=>?_);rw[J];exact Z3 %[v,rfl|Z3 (U g1 %[(a.2 S j).trans g,_,b|.inr (.inl %[c,rfl,C,ps,(a.2 T C).trans G,Y|H])] a)]
 .have hi:i<ord.length:=(X3 f).1;have i0:i=0:=by lia
  subst i0;have f0:=f0 rfl;subst f0;have e1:es.size=1:=by lia
  have pz:t.place.size=1:=by
   simp only[SetTable.fits,Zu,beq_iff_eq,decide_eq_true_eq]at h;rw[h.1,e1]
  obtain⟨p,u⟩:=oz pz;obtain⟨e,O⟩:∃e,es[0]? =some e:=%[es[0]|by simp]
  have J:e.2=v:=by
   rw[B]at f;have:(es[0]?).map (·.2)=some v:=by simpa using f
   rw[O]at this;simpa using this
  show wpAny _ _ (setNext S 0 0 ep>>= _) _ _ _;refine Z2 ?_;unfold setNext;refine Z2 (wpAny_setState_of g y h ?_);show wpAny _ _ (if aR w=true then _ else _) _ _ _;rw[if_neg (by rw[c];decide)];dsimp only
  split
  .rename_i r
   change (!t.plain&&decide (es.size>1))=true at r;rw[e1]at r;simp at r
  .refine Z2 (m:=(if(!t.led&&!es.isEmpty)=true then unsupported "set:maker-not-led" else pure ())) ?_;rw[z,c];refine Z3 ?_;rw[u,ou];simp only[Ys,↓reduceIte,O];refine Z3 ?_;show wpAny _ _ (setField (.ref I) 0 (rawInt ((p+1:Nat):Int))>>= _) _ _ _;refine Z2 (wpAny_setField_rec N ∅ λg1 b a=>Z2 (wpAny_setField_rec (s:=(s>>>g1)) b ∅ λg2 l n=>?_));rw[J];have L:SameBut I s.heap g2:=a.trans n;exact Z3 %[v,rfl|Z3 (U g2 %[(L.2 S j).trans g,_,l|.inr (.inr %[c,⋯,B,λq=>by lia|λ_=>%[p,by rw[u];rfl|rfl]])] L)]
theorem rg{c:Type}{Q:c->Shared->Prop}(d:A.handled=none)(f:∀h' e,(∀b o,s.heap.get? b=some o->h'.get? b=some o)->(∃o,h'.get? e=some o/\o.cls= .type "StopIteration")->E (.ref e) (s>>>h')):
 ↥A (newExc (.type "StopIteration") []>>= λe=>(raiseNew e)) Q E s:=by
 refine Z2 ?_;refine Z2 (wpAny_newObj_type ?_ (by size_fits));refine Z2 (wpAny_of_eq (a:=Value.none) (by first|rfl|lia) (wpAny_newObj_type (wpAny_raiseNew_none d (f _ _ (λb o e=>Z6 _ (Z6 _ e)) %[_,Zi _ rfl|rfl])) (by size_fits)))
theorem ww{i:Nat}{Q:Option Value->Shared->Prop}(hh:A.handled=none)(y:o.data= .set es ep t)(j:t.fits es.size=true)(n:t.led=!aR w)(st:SIt w I S T o es ep t ord i s.heap)(hi:i=ord.length)(hn:ord.length=es.size)
 (hQ:∀h',(∀b o,b≠I->s.heap.get? b=some o->h'.get? b=some o)->Q none (s>>>h')):↥A (pyNext (.ref I)) Q E s:=by
 have Y:=st.is;obtain⟨z,first,B,m⟩:=st;have H:A.in1.handled=none:=hh;have c:∀(g:Heap) (Q':Fin->Shared->Prop),SameBut I s.heap g->↥A.in1 (newExc (.type "StopIteration") []>>= λe=>(raiseNew e:Sem Fin)) Q' (λe s'=>↥A (do
  if(<-isInstance e (.type "StopIteration"))then pure none else throw e) Q E s') (s>>>g):=λg Q' sb=>by
  refine rg H λh' e k ⟨oe,he,hc⟩=>?_
  refine Z2 (wpAny_isInstance (T:="StopIteration") (b:=true) %[oe,he|hc] isSubtype_stop (Z3 (hQ h' λb o r q=>k b o ((sb.2 b r).trans q))))
 unfold pyNext;refine Z2 (wpAny_attempt (wpAny_callSpecial?_slot (name:=Str.ofString "__next__") Y bH (wpAny_call_entry bH Y fG ?_ (gW _))));unfold Builtin.«set_iterator.__next__»;refine Z2 (m:=slotArgs _ _ _) (Z3 ?_);refine Z2 (wpAny_fieldsOf B rfl ?_);show wpAny _ _ (setEntries S>>= _) _ _ _;refine Z2 (wpAny_setEntries_of z y j ?_);rw[if_neg ∅];rcases m with⟨l,rfl,eo⟩|⟨l,rfl,ab,ps,J,ag,ai⟩|⟨l,h1,eo,L,M⟩
 .show wpAny _ _ (setNext S 0 i ep>>= _) _ _ _;refine Z2 ?_;unfold setNext;refine Z2 (wpAny_setState_of z y j ?_);refine Z2 (Z2 (wpAny_askSetting (Z3 ?_)));show wpAny _ _ (if aR w=true then _ else _) _ _ _;rw[if_pos l];dsimp only;rw[if_neg (show ¬ ((ep != ep)=true) by simp)];refine Z2 ?_;unfold setWalk;refine Z2 (wpAny_setState_of z y j (Z2 (Z2 (wpAny_askSetting (Z3 ?_)))));show wpAny _ _ (if aR w=true then _ else _) _ _ _;rw[if_pos l];refine Z2 (wpAny_askSetting (Z3 (Z3 ?_)));have C:(pickOrder (w.params.setOrder S ep) es)[i]? =none:=by
   rw[Array.getElem?_eq_none_iff,hi,eo,Z5,Za];exact Zh _
  show wpAny _ _ (match((pickOrder (w.params.setOrder S ep) es)[i]?).map λe=>(e.2,0)with|some (x,next)=>_|none=>_) _ _ _;rw[C];show wpAny _ _ (setField (.ref I) 2 .none>>= _) _ _ _;exact Z2 (wpAny_setField_rec B ∅ λg1 _ d=>c g1 _ d)
 .show wpAny _ _ (seqItems? (.ref T)>>= _) _ _ _;refine Z2 (wpAny_seqItems J rfl ?_);have u:(ps.map λ(i:Nat)=>rawInt i).toArray[(i:Int).toNat]? =none:=by simp;lia
  dsimp only;rw[u];exact Z2 (wpAny_setField_rec B ∅ λg1 N d=>Z2 (wpAny_setField_rec N ∅ λg2 _ O=>c g2 _ (d.trans O)))
 .have done:∀slot:Nat,first=rawInt slot->SetTable.below t.place slot=es.size->↥A.in1 (setNext S slot i ep) (λa s'=>a=none/\s'=s) (λ_ _=>False) s:=by
   intro slot _ r;unfold setNext;refine Z2 (wpAny_setState_of z y j ?_);show wpAny _ _ (if aR w=true then _ else _) _ _ _;rw[if_neg (by rw[l];decide)];dsimp only
   split
   .rename_i h
    change (!t.plain&&decide (es.size>1))=true at h;have:decide (es.size>1)=false:=Zg ⋯;rw[this,Bool.and_false]at h;cases h
   .refine Z2 (m:=(if(!t.led&&!es.isEmpty)=true then unsupported "set:maker-not-led" else pure ())) ?_;rw[n,l];refine Z3 ?_;rw[r,show es[es.size]? =none by simp];exact Z3 %[rfl|rfl]
  have go:∀slot:Nat,first=rawInt slot->SetTable.below t.place slot=es.size->↥A.in1 (setNext S slot i ep>>= λa=>match a with
   | some (x,next)=>(do
     setField (.ref I) 0 (rawInt ↑next)
     setField (.ref I) 1 (rawInt (↑i+1))
     ret x)
   | none=>(do
     setField (.ref I) 2 .none
     let e<-newExc (.type "StopIteration") []
     raiseNew e)) (λc s'=>∃v,c=Fin.done (Flow.ret v)/\↥A (pure (some v)) Q E s') (λe s'=>↥A (do
   if(<-isInstance e (.type "StopIteration"))then pure none else throw e) Q E s') s:=by
   intro slot e r;refine Z2 (wpAny_mono (done slot e r) (λa s' ⟨G,e2⟩=>?_) λ_ _ f=>f.elim);subst G;subst e2;exact Z2 (wpAny_setField_rec B ∅ λg1 _ d=>c g1 _ d)
  have pz:=by
   simp only[SetTable.fits,Zu,beq_iff_eq,decide_eq_true_eq]at j;exact j.1
  by_cases e0:es.size=0
  .have i0:i=0:=by lia
   subst i0;have L:=L rfl;subst L;refine go 0 rfl ?_;have:t.place= #[]:=Array.eq_empty_of_size_eq_zero ⋯;rw[this,tR,e0]
  .have G:es.size=1:=by lia
   have i1:i=1:=by lia
   subst i1;obtain⟨p,C,M⟩:=M rfl;subst M;refine go (p+1) rfl ?_;obtain⟨p',U⟩:=oz (by rw[pz,G]:t.place.size=1);rw[U]at C ⊢;have:p'=p:=by simpa using C
   subst this;rw[ou,if_pos (Yg _),G]
end
theorem gX:Slot "set_iterator" "__iter__" "set_iterator.__iter__":=
 .of (owner:="set_iterator") (n:="__iter__") (by rw[typeLookup_type,builtinLookup_eq_fast];kernel_rfl) (by decide +kernel) (by decide +kernel) (by decide +kernel) (by first|exact .inl (by decide +kernel)|exact .inr ∅) (by kernel_rfl)
theorem jX:entryFor table "set_iterator.__iter__"=some Builtin.«dict_keyiterator.__iter__»:=entryFor_alias (id':="dict_keyiterator.__iter__") (by kernel_rfl) rfl (by decide +kernel) (by kernel_rfl)
theorem kY(a:Value):argsOk "set_iterator.__iter__" %[[a]|[]]:=by kernel_rfl
theorem pG:typeLookup (.type "set") "__len__"=pure (some (.builtin "set.__len__")):=by kernel_rfl
section
#where
variable{I S T:Addr}{o:Obj}{es:Array (Int×Value)}{ep:Nat}{t:SetTable}{ord:ZF}
theorem wx(hh:A.handled=none)(hd:o.data= .set es ep t)(hf:t.fits es.size=true)(hled:t.led=!aR w)(hSI:S≠I)(hn:ord.length=es.size):
 Walks prog w A I [I,S,T] [I] ord.length (λi v=>ord[i]? =some v) (λi h=>SIt w I S T o es ep t ord i h) where
 sub:=by simp
 frame:=λi h h' st k=>by
  obtain⟨hS,first,hI,m⟩:=st;refine⟨k S ∅ _ hS,first,k I ∅ _ hI,?_⟩;rcases m with m|⟨bt,e,hTI,ps,hTt,r⟩|m
  .exact .inl m
  .exact .inr (.inl %[bt,e,hTI,ps,k T ∅ _ hTt|r])
  .exact .inr (.inr m)
 item:=λi s Q E hi st hQ=>tT (v:=ord[i]) hd hf hled hSI st ∅ hn λh' st' sb=>hQ _ h' s.toks ∅ st' λb o' hb e=>(sb.2 b (λq=>hb (by simp[q]))).trans e
 done:=λs Q E st hQ=>ww hh hd hf hled st rfl hn λh' k=>hQ h' s.toks λb o' hb e=>k b o' (λq=>hb (by simp[q])) e
 self:=λi s Q E st hQ=>by
  have hT:=st.is;exact wpAny_pyIter_slot hT gX (wpAny_call_entry gX hT jX (Z3 %[_,rfl,"set_iterator",_,hT,bH.lookup|hQ]) (kY _))
theorem wz(g:s.heap.get? S=some o)(B:o.ExactSet)(C:o.data= .set es ep t)(hb:es.size<scanBound)(G:t.fits es.size=true)(H:es.size≠0->t.plain=false)(O:t.led=!aR w)
 (hQ:∀(I T:Addr) (ord:ZF) (h':Heap) d,(∀b o,s.heap.get? b=some o->h'.get? b=some o)->⇑s<=I->S≠I->(T=S\/⇑s<=T)->T<h'.objs.size->I<h'.objs.size->ord.length=es.size->
  SIt w I S T o es ep t ord 0 h'->ord.Perm (es.toList.map (·.2))->Q (.ref I) {s with heap:=h',drawn:=d}):↥A (pyIter (.ref S)) Q E s:=by
 have U:s.TypeIs (.ref S) "set":=%[o,g|B.1]
 have n:S<⇑s:=Zt g;refine wpAny_pyIter_slot U F.slot_set_iter (wpAny_call_entry F.slot_set_iter U m7 ?_ (F.args_set_iter_1 _));unfold Builtin.«frozenset.__iter__»;refine Z2 (m:=Builtin.Frozenset.slot0 _ _) (Z2 (m:=slotArgs _ _ _) (Z3 (Z3 ?_)));refine Z2 (m:=Builtin.Frozenset.sizeOf S) (Z2 (wpAny_setEntries_of g C G (Z3 ?_)));refine Z2 (m:=setDrawn S) ?_;unfold setDrawn;refine Z2 (wpAny_setState_of g C G (Z2 (Z2 (wpAny_askSetting (Z3 (Z3 ?_))))));have a:∀(first:Value) (c:Shared) (T:Addr) (ord:ZF),c.heap.get? S=some o->(∃d f,c={s with heap:=f,drawn:=d})->(∀b o,s.heap.get? b=some o->c.heap.get? b=some o)->T<⇑c->⇑s<=⇑c->(T=S\/⇑s<=T)->ord.Perm (es.toList.map (·.2))->
  ((aR w=true/\first=rawInt 0/\ord=(pickOrder (w.params.setOrder S ep) es).toList.map (·.2))\/(aR w=false/\first= .ref T/\∃ps:List Nat,c.heap.get? T=some {cls:= .type "tuple",data:= .seq (ps.map λ(i:Nat)=>rawInt i).toArray}/\ps.length=ord.length/\∀(j p:Nat),ps[j]? =some p->∃e,es[p]? =some e/\ord[j]? =some e.2)\/(aR w=false/\es.size<=1/\ord=es.toList.map (·.2)/\first=rawInt 0))->ord.length=es.size->
  ↥A.in1 (do ret (<-newFields "set_iterator" [first,rawInt 0,.ref S,rawInt es.size,rawInt (<-setEpoch S)])) (λa s'=>∃v,a=Fin.done (Flow.ret v)/\∃Y r,s'.TypeIs v Y/\typeLookup (.type Y) "__next__"=pure (some r)/\Q v s') (λe s'=>E e s') c:=by
  intro first c T ord f %[d,g1|e1] k1 tl sl J y m hn
  subst e1;refine Z2 (wpAny_setEpoch_of f C G (Z2 (wpAny_newObj_type ?_)));have gI:(g1.push {cls:= .type "set_iterator",data:= .fields #[first,rawInt 0,.ref S,rawInt es.size,rawInt ep]}).get? g1.objs.size=some _:=Zi _ rfl;refine Z3 %[_,rfl,"set_iterator",_,%[_,gI|rfl],bH.lookup|hQ g1.objs.size T ord _ d (λb o' e=>Z6 _ (k1 b o' e)) sl (Zr (Zt f)) J (by rw[Zp];exact Yf tl) (by rw[Zp];exact Yg _) hn ?_ y];refine⟨Z6 _ f,first,gI,?_⟩;rcases m with m|⟨h,e,ps,L,r⟩|⟨h,M,eo,e⟩
  .exact .inl m
  .exact .inr (.inl %[h,e,Zr tl,ps,Z6 _ L|r])
  .exact .inr (.inr %[h,M,eo,λ_=>e|λq=>absurd q ∅])
 have lst:(es.toList.map (·.2)).length=es.size:=by rw[Z5,Za]
 by_cases h:aR w=true
 .show wpAny _ _ (if(!aR w&&_)=true then _ else _) _ _ _;rw[h,Bool.not_true,Bool.false_and,if_neg ∅];refine Z2 (Z3 ?_);have u:=(ot (w.params.setOrder S ep) es).map (·.2);exact a (rawInt 0) s S _ g %[s.drawn,s.heap|rfl] (λ_ _ e=>e) n (Zh _) (.inl rfl) u (.inl %[h,rfl|rfl]) (by rw[u.length_eq,lst])
 .have z:aR w=false:=by simpa using h
  show wpAny _ _ (if(!aR w&&(!t.plain&&decide (es.size>1)))=true then _ else _) _ _ _;by_cases f:es.size>1
  .rw[z,H ⋯,Ze f];refine Z2 (pF es.size _ _ _ ∅ λps d l=>Z2 (wpAny_newTuple ?_ (by rw[Z5,l.length_eq,Yb];exact fits_of_scanBound hb)));have lt:∀p∈ps,p<es.size:=λp q=>mem_range.mp (l.mem_iff.mp q)
   have er:(List.range es.size).map (λp=>((es[p]?).map (·.2)).getD .none)=es.toList.map (·.2):=by
    apply ext_getElem
    .simp
    .intro i y q2;simp at y;simp[y]
   have u:(ps.map (λp=>((es[p]?).map (·.2)).getD .none)).Perm (es.toList.map (·.2)):=er▸l.map _;refine a _ _ ⇑s _ (Z6 _ g) %[d,_|rfl] (λb o' e=>Z6 _ e) (by rw[Zp];exact Yg _) (by rw[Zp];exact Y7 _) (.inr (Zh _)) u
    (.inr (.inl %[z,rfl,ps,Zi _ rfl,by rw[Z5]|λj p q=>?_])) (by rw[u.length_eq,lst])
   have N:=lt p (Z7 q);exact%[es[p],by simp|by simp[q,N]]
  .rw[z,Zg f];simp only[Bool.and_false,Zx];exact a (rawInt 0) s S _ g %[s.drawn,s.heap|rfl] (λ_ _ e=>e) n (Zh _) (.inl rfl) (List.Perm.refl _) (.inr (.inr %[z,⋯,rfl|rfl])) lst
theorem ju(hh:A.handled=none)(u:s.heap.get? S=some r)(a:r.ExactSet)(v:r.data= .set g a2 t0)(y:g.size<scanBound)(z:t0.fits g.size=true)(B:g.size≠0->t0.plain=false)(c:t0.led=!aR w)
 (hQ:∀s' vs,vs.Perm (g.toList.map (·.2))->(∀b o,s.heap.get? b=some o->s'.heap.get? b=some o)->s'.gens=s.gens->s'.os=s.os->⇑s<=⇑s'->Q vs s'):↥A (collect (.ref S)) Q E s:=by
 unfold collect;refine Z2 (wpAny_runValue (codeAny_builtin F.entry_proto_collect ?_));rw[Around.under_plainId F.plain_proto_collect _];show wpAny _ A.in1 (newList []>>= λl=>again (.builtin "list.__iadd__" %[[l,.ref S]|[]])) _ _ s;refine Z2 (wpAny_newObj_type (Z3 %[plainId_quiet F.plain_list_iadd _|codeAny_builtin F.entry_list_iadd ?_]));rw[Around.under_plainId F.plain_list_iadd _];have i:S<⇑s:=Zt u;show wpAny _ A.in1 (Builtin.List.listExtendWith (.ref ⇑s) (.ref S) (.ref ⇑s)) _ _ _;unfold Builtin.List.listExtendWith
 generalize U:s.heap.push {cls:= .type "list",data:= .seq ([]:ZF).toArray}=G
 have gS:G.get? S=some r:=by rw[<-U];exact Z6 _ u
 have gz:G.objs.size=⇑s+1:=by rw[<-U,Zp]
 have gL:G.get? ⇑s=some {cls:= .type "list",data:= .seq ([]:ZF).toArray}:=U▸Zi _ rfl;have tS:Shared.TypeIs (s>>>G) (.ref S) "set":=%[r,gS|a.1]
 refine Z2 (wpAny_typeOf (T:="set") tS ?_);have n1:Builtin.List.listSameRef (.ref ⇑s) (.ref S)=false:=by
  show(⇑s==S)=false;exact beq_eq_false_iff_ne.mpr (Yo i)
 have n2:(Value.type "set"==Value.type "list")=false:=by decide
 have n3:(Value.type "set"==Value.type "tuple")=false:=by decide
 simp only[n1,n2,n3,Bool.or_false,Zx,if_false];refine Z2 (wz (s:=(s>>>G)) gS a v y z B c λI T ord h d C Y ab ag a3 a4 hn st q1=>?_);replace C:∀b o,G.get? b=some o->h.get? b=some o:=C;replace Y:G.objs.size<=I:=Y;have ai:h.get? S=some r:=C _ _ gS;refine Z2 (wpAny_holding ?_);unfold Builtin.List.listLengthHint;have m:Shared.TypeIs {s with heap:=h,drawn:=d} (.ref S) "set":=%[r,ai|a.1]
 refine Z2 (wpAny_specialOf (T:="set") m pG ?_)
 wp_delta
 refine Z2 (wpAny_isInstance (T:="set") (b:=true) m (by rw[isSubtype_type];kernel_rfl) ?_);show wpAny _ A.in1 (typeOf (.ref S)>>= _) _ _ _;refine Z2 (wpAny_typeOf (T:="set") m (Z3 ?_));rw[if_pos (by decide)];refine Z2 (wpAny_rule ?_);have H:h.get? ⇑s=some {cls:= .type "list",data:= .seq ([]:ZF).toArray}:=C _ _ gL;refine Z2 ?_;unfold Builtin.List.listTouch;refine Z2 (listUpdate_at (s:={s with heap:=h,drawn:=d}) H rfl ?_ (Yy _) (by show 1<=sizeLine+1;lia));have J:=get?_update_self (Obj.mapSeq (·.push Value.none)) H rfl;refine listUpdate_at (xs:= #[Value.none]) (n:=1) (s:={s with heap:=h.update ⇑s (Obj.mapSeq _),drawn:=d}) J rfl ?_ (by decide) (by show 0<=sizeLine+1;lia);have al:=get?_update_self (Obj.mapSeq (·.pop)) J rfl;have L:∀b o,b≠⇑s->h.get? b=some o->((h.update ⇑s (Obj.mapSeq (·.push Value.none))).update ⇑s (Obj.mapSeq (·.pop))).get? b=some o:=λb o hb e=>(get?_update_other _ _ (Ne.symm hb)).trans ((get?_update_other _ _ (Ne.symm hb)).trans e)
 have an:=Zr (Zf (by rw[gz];exact Yg _) Y);have neT:⇑s≠T:=by
  rcases ag with e|e
  .exact e▸Yo i
  .exact Zr (Zf (gz▸Yg _) e)
 have M:⇑s∉[I,S,T]:=by
  simp only[Yn,Yt,or_false,not_or];exact%[an,Yo i|neT]
 have as:ord.length<=sizeLine:=hn▸fits_of_scanBound y;have W:=wx (prog:=prog) (A:=A.in1) (T:=T) (hh) v z c ab hn;have a0:=W.frame 0 h _ st λb hb N e=>L b N (λq=>M (q▸hb)) e
 refine Z3 %[plainId_quiet F.plain_extend_loop _|codeAny_extend_loopS W.toS as _ M _ ord.length 0 _ _ _ rfl (Yy _) a0 al (ItemsOf.nil _) λs5 acc c5 m5 O f=>?_];refine Z2 (wpAny_load O (Z3 ?_));have ea:acc.toList=ord:=by
  apply ext_getElem?;intro j;by_cases hj:j<ord.length
  .have a1:j<acc.size:=f.1▸hj;have:=f.2 j acc[j] ∅;rw[this];simp[a1]
  .have l1:acc.toList.length=ord.length:=f.1;rw[List.getElem?_eq_none ⋯,List.getElem?_eq_none (l:=ord) ⋯]
 rw[ea];refine hQ s5 ord q1 (λb N e=>?_) m5.gens m5.os (le_of_lt (Zt O));have p:=Zt e;refine m5.heap b N ?_ (L b N (Zr p) (C b N (U▸Z6 _ e)));simp only[Yn,Yt,or_false,not_or];exact%[Zr p|Zr (Zf p (Y8 (gz▸Y7 _) Y))]
theorem rh(f:A.handled=none)(h:bi w S ks s.heap)
 (i:∀s' vs ss,StrsAre vs ss->ss.Perm ks->(∀b o,s.heap.get? b=some o->s'.heap.get? b=some o)->s'.gens=s.gens->s'.os=s.os->⇑s<=⇑s'->Q vs s'):↥A (collect (.ref S)) Q E s:=by
 obtain⟨o,es,ep,t,ss,j,c,l,d,m,n,p,q,r,e,a⟩:=h;refine ju f j c l q r e a λs' vs pv k g os sz=>?_
 obtain⟨ts,u,v⟩:=cb d pv;exact i s' vs ts u (v.trans m) k g os sz
end
section
variable{X:Cx}{pins:ZE}{σ:St}{H:Hp}{s s':Shared}
theorem Inv.keptS(I:Inv X pins σ H s)(k:∀b o,s.heap.get? b=some o->s'.heap.get? b=some o)(c:s'.gens=s.gens)(a:s'.os=s.os):Inv X pins σ H s':=by
 obtain⟨h',g',d',t',d⟩:=s';replace a:d=s.os:=a;subst c;subst a;refine I.step (ch:=[]) (λb f=>absurd f ∅) (λb o _ _ _ e _=>k b o e) (λb o _ _ _ e _=>%[o.slots|k b o e]) (λ_ _ _ _ n=>n) (λb o _ e=>%[o|k b o e]) (λ_ _ e=>e) (λ_ _ _ e=>e) (λb ps e=>%[#[]|by rw[e];simp]) (λm g=>?_) (λb v e=>?_) I.bare
 .obtain⟨o,h,i,a,r⟩:=g;exact%[o,h,i,k _ o a|r]
 .exact(I.hok b v e).stay (λj l _ q=>k j l q) (λ_ q=>q) λ_ _ q=>q
theorem Inv.stoodS(I:Inv X pins σ H s)(J:Inv X pins σ H s')(c:⇑s<=a)(new:ci X.prog X.w (upd H a o) s'.heap a o):Inv X pins σ (upd H a o) s':=by
 have d:=I.hok.fresh c;refine%[J.ok,J.os,J.bare,?_,J.loc,J.cell,?_,?_,?_,?_|J.len]
 .refine%[J.base.keep,J.base.slot,λb o e n j=>?_,J.base.there,λb xs e=>?_,λb o v e=>?_|λb ps e=>?_]
  .rw[aj ((λb o e=>Zr (Zf (Zf (Zt e) I.sz) c)) b o e)];exact J.base.free b o e n j
  .rw[aj (ap (J.base.tups b xs e) d)];exact J.base.tups b xs e
  .rw[aj (ap (J.base.frzs b o v e) d)];exact J.base.frzs b o v e
  .obtain⟨m,q⟩:=J.base.tbls b ps e;exact%[m|(aj (ap q d))▸q]
 .rw[aj (Zr (Zf I.lt c))];exact J.free
 .intro g f e;obtain⟨l,q⟩:=I.cell g f e;rw[aj (Zr (Zf q.lt c))];exact J.freeC g f e
 .intro p h;obtain⟨e,n,r⟩:=J.pin p h;refine%[e,?_|r];rw[aj (Zr (Zf (Zt (I.pin p h).1) c))];exact n
 .intro b v e;by_cases i:b=a
  .subst i;rw[aa]at e;cases e;exact new
  .rw[aj i]at e;refine(J.hok b v e).stay (λ_ _ _ q=>q) (λf q=>?_) λf xs q=>?_
   .rw[aj (ap q d)];exact q
   .rw[aj (ap q d)];exact q
end
section
#where
variable{S:Addr}
theorem tU(t:A.handled=none)(u:bi w S ks s.heap)(g:ks.length<64)
 (v:∀(s':Shared) (l:Addr) (vs:ZF) (ss:ZB) (n:Nat),StrsAre vs ss->ss.Perm ks->sortedS ss=true->(∀b o,s.heap.get? b=some o->s'.heap.get? b=some o)->s'.gens=s.gens->s'.os=s.os->⇑s<=l->s'.heap.get? l=some {cls:= .type "list",data:= .seq vs.toArray n}->Q (.ref l) s'):
 ↥A (call (.builtin "sorted") [.ref S]) Q E s:=by
 refine Calls.call_function_entry kind_sorted plain_sorted entry_sorted (args_sorted1 _) ?_;unfold Builtin.«sorted»;refine Z2 (m:=checkCount "sorted" 1 1 _) (Z3 ?_);refine Z2 (rh (show A.in1.handled=none from t) u λc vs ss f j y g1 z h=>?_);have B:vs.length<64:=by rw[br f,j.length_eq];exact g
 refine Z2 (wpAny_newList ?_ (by rw[sizeLine_eq];lia));have i:(c.heap.push (seqObj "list" vs.toArray 0)).get? ⇑c=some (seqObj "list" vs.toArray 0):=Zi _ rfl;refine Z2 (wpAny_holding (wpAny_call_entry slot_list_sort %[_,i|rfl] entry_list_sort (list_sort_treeK (s:=(c>>>c.heap.push (seqObj "list" vs.toArray 0))) strKind_oneLt i f.keysOf (λp q rest e=>keyKind_strs (by rw[<-e];exact f)) B λa C G=>%[_,rfl|?_]) (args_list_sort _)));obtain⟨ts,H,I,J⟩:=sorted_out_str f C G;obtain⟨n,L⟩:∃n,(sortedHeap (c.heap.push (seqObj "list" vs.toArray 0)) ⇑c vs ((arrOf a).map (·.2))).get? ⇑c=some (seqObj "list" ((arrOf a).map (·.2)) n):=sortedHeap_at i;refine Z3 %[_,rfl|v _ ⇑c ((arrOf a).map (·.2)).toList ts n H (I.trans j) J (λb M e=>?_) g1 z h ?_]
 rotate_left
 .show _=some (seqObj "list" ((arrOf a).map (·.2)).toList.toArray n);rw[Array.toArray_toList];exact L
 have r:=y b M e;have d:=Zt r;show(sortedHeap _ _ _ _).get? b=_;rw[sortedHeap_old (Zr d) (by rw[Zp];exact Yf d)];exact Z6 _ r
end
section
variable{X:Cx}{K:ZA}
theorem pH(d:X.calm=true):bK X (.builtin "sorted") (λxs H Q=>∃a ks,xs=[.ref a]/\H a=some (i4 X.w a ks)/\ks.length<64/\∀l ss,H l=none->ss.Perm ks->sortedS ss=true->Q (.ref l) (upd H l (.lst (ss.map V.str)))):=by
 intro pins s t H xs us Q I r h;obtain⟨a,ks,rfl,e,f,q⟩:=h;obtain⟨u,rfl,i⟩:=cR r;cases i;obtain⟨S,_,_⟩:=(I.hok a _ e)
 refine tU (I.ok.hd d) S f λs' l vs ss n j c m k g o b p=>%[.ref l,_,I.stoodS (o:= .lst _) (I.keptS k g o) b %[?_,vs,n,oi j|p],rfl|q l ss (I.hok.fresh b) c m]
 rw[Z5,c.length_eq,sizeLine_eq]
 lia
theorem oA(h:X.w=w)(b:X.calm=true):cv X (.builtin "sorted") (λxs H Q=>∃a ks,xs=[.ref a]/\H a=some (i4 w a ks)/\ks.length<64/\∀l ss,H l=none->ss.Perm ks->sortedS ss=true->Q (.ref l) (upd H l (.lst (ss.map V.str)))):=by subst h;exact⟨pH b⟩
end
theorem am{D:iL}(h:∀c:iL,(∀a b,u D a b->c.nx a b)->(∀v b,D.rt v b->c.rt v b)->t c d H):bh t u D d H:=h _ (λ_ _ x=>x) λ_ _ x=>x
theorem aB{t:TS}{D:iL}(h:∀c:iL,(∀a b,D.nx a b->c.nx a b)->(∀v b,D.rt v b->c.rt v b)->t c d H):t D d H:=h _ (λ_ _ x=>x) λ_ _ x=>x
theorem jv{K:ZA}{xs:List V}{g:TG}{j:TS}{D:iL}(Pv:Nat->St->Hp->Prop)(n:Pv 0 b H)(o:∀i b H,i<=xs.length->Pv i b H->SqL K H a xs)
 (r:∀i x T b H,xs[i]? =some x->Pv i b H->H T=none->g (.ref T) b (upd H T (.tup [.int i,x])) λc h=>j {D with nx:=Pv (i+1),ct:=Pv (i+1),bk:=D.nx} c h) (s:∀b H,Pv xs.length b H->D.nx b H):
 ∃W:Nat->Nat->St->Hp->Prop,(∃m,W 0 m b H)/\∀i m b H,W i m b H->
  ((Ite K a xs).stop i H/\D.nx b H)\/((Ite K a xs).go i H/\∃N:St->Hp->Prop,(∀d f,N d f->∃l,l<m/\W (i+1) l d f)/\∀x f,(Ite K a xs).yld i H x f->g x b f λc h=>j {D with nx:=N,ct:=N,bk:=D.nx} c h):=by
 refine%[λi m b H=>m=xs.length-i/\i<=xs.length/\Pv i b H,%[xs.length,by simp,Yy _|n]|?_];rintro i m b H ⟨rfl,hi,p⟩;have q:=o i b H hi p;by_cases lt:i<xs.length
 .refine .inr %[%[q|lt],Pv _,λd f t=>%[xs.length-(i+1),⋯,rfl,lt|t]|λv f y=>?_];obtain⟨x,T,e,u,rfl,rfl⟩:=y;exact r i x T b _ e p u
 .have e:i=xs.length:=by lia
  subst e;exact .inl %[%[q|Zh _]|s b H p]
section
variable{X:Cx}{K:ZA}{pos:Pos}{a b:Expr}{ta tb:TE}
theorem cA:OpQ X (binaryOp .Add) (rI0 λi j=> .int (i+j)):=⟨yc⟩
theorem fo:OpQ X (binaryOp .Mult) (rI yb λi j=> .int (i*j)):=⟨yd⟩
theorem cw(h:X.K=K)(c:lq b)(d:QE X a ta)(e:QE X b tb):QE X (.Subscript a b pos) (tOp (Dd K) ta tb):=by subst h;exact⟨yB AW d.h e.h c⟩
theorem ixSE(c:lq b)(d:QE X a ta)(e:QE X b tb):QE X (.Subscript a b pos) (tOp Df ta tb):=⟨yB Dh d.h e.h c⟩
end
end L2
namespace Cut
open PySem L2 PyProof.Rows
noncomputable def fZ:Str:="abcdefghijklmnopqrstuvwxyz"
noncomputable def ig(c:Nat):Bool:=decide (c∈fZ.cps.toList)
noncomputable def okc(c:Nat):Bool:=decide (c=46)||ig c
noncomputable def nl:Str:="\n"
theorem Fc:nl=⟨#[10]⟩:=rfl
theorem jY:ig c=true↔97<=c/\c<=122:=by
 have e:fZ.cps.toList=(List.range 26).map (·+97):=by decide +kernel
 unfold ig;rw[decide_eq_true_iff,e,mem_map]
 constructor
 .rintro⟨i,h,rfl⟩;have:=mem_range.mp h
  lia
 .rintro⟨a,b⟩;exact%[c-97,mem_range.mpr ⋯|⋯]
theorem DF(h:okc c=true):c≠10:=by
 intro e;subst e
 revert h
 decide +kernel
structure bX (rows:ZB):Prop where
 pos:1<=rows.length
 high:rows.length<=40
 wide:∃wd,1<=wd/\wd<=40/\∀r∈rows,r.cps.size=wd
 sign:∀r∈rows,r.cps.toList.all okc=true
 fall:∀i r r',rows[i]? =some r->rows[i+1]? =some r'->∀(j c c':Nat),r.cps[j]? =some c->r'.cps[j]? =some c'->c'=46->c=46
 some':∃r∈rows,∃c∈r.cps.toList,c≠46
theorem iD{x y:Str}(h:x.cps.toList=y.cps.toList):x=y:=by
 obtain⟨⟨l⟩⟩:=x
 simp_all
theorem fH(sep x y:Str)(r:ZB):(Str.join sep (x::y::r)).cps.toList=x.cps.toList++sep.cps.toList++(Str.join sep (y::r)).cps.toList:=by
 show((x.cps++sep.cps) ++(Str.join sep _).cps).toList=_;rw[toList_append,toList_append]
theorem y9 [DecidableEq f]:∀{a b x y:List f},c∉a->c∉b->a++c::x=b++c::y->a=b/\x=y
 |[],[],_,_,_,_,h=>%[rfl|(List.cons.inj h).2]
 |[],b::bs,_,_,_,d,h=>absurd (((List.cons.inj h).1)▸Zl) d
 | a::g,[],_,_,e,_,h=>absurd (((List.cons.inj h).1)▸Zl) e
 | a::g,b::bs,x,y,e,d,h=>by
   obtain⟨i,j⟩:=List.cons.inj h;obtain⟨l,m⟩:=y9 (λq=>e (Zj _ q)) (λq=>d (Zj _ q)) j;exact%[by rw[i,l]|m]
theorem ri{c:Nat}:∀{ps qs:ZB},ps≠[]->qs≠[]->(∀p∈ps,c∉p.cps.toList)->(∀q∈qs,c∉q.cps.toList)->(Str.join ⟨#[c]⟩ ps).cps.toList=(Str.join ⟨#[c]⟩ qs).cps.toList->ps=qs
 |[],_,h,_,_,_,_=>absurd rfl h
 | _,[],_,h,_,_,_=>absurd rfl h
 |[p],[q],_,_,_,_,e=>by rw[iD (show p.cps.toList=q.cps.toList from e)]
 |[p],q::f::qs,_,_,a,_,e=>by
  rw[fH]at e;refine absurd ?_ (a p Zl);rw[show p.cps.toList=(Str.join _ [p]).cps.toList from rfl,e];simp
 | p::g::ps,[q],_,_,_,b,e=>by
   rw[fH]at e;refine absurd ?_ (b q Zl);rw[show q.cps.toList=(Str.join _ [q]).cps.toList from rfl,<-e];simp
 | p::g::ps,q::f::qs,_,_,a,b,e=>by
   rw[fH,fH,Zd,Zd]at e;obtain⟨i,j⟩:=y9 (a p Zl) (b q Zl) e;rw[iD i,ri ∅ ∅ (λx d=>a x (Zj _ d)) (λx d=>b x (Zj _ d)) j]
theorem tV(a:rows≠[])(h:∀r∈rows,10∉r.cps.toList):Txt.split (Str.join nl rows) nl=rows:=by
 have e:=StrLaws.join_split (Str.join nl rows) nl;rw[Fc]at e ⊢;refine ri ?_ a (StrLaws.split_free _ 10) h (by rw[e]);intro q;have:=split_pos (Str.join ⟨#[10]⟩ rows) ⟨#[10]⟩
 simp_all
theorem bX.nonl(h:bX rows):∀r∈rows,10∉r.cps.toList:=λr a b=>by
 have:=all_eq_true.mp (h.sign r a) 10 b;exact DF this rfl
theorem bX.split(h:bX rows):Txt.split (Str.join nl rows) nl=rows:=
 tV (λe=>by have:=h.pos;simp_all) h.nonl
theorem pI:∀{xs:List b},(∀x∈xs,f x<=B)->(xs.map f).sum<=xs.length*B
 |[],_=>by simp
 | x::r,h=>by
   have c:=pI λy a=>h y (Zj _ a)
   have d:=h x Zl;rw[Yi,List.sum_cons,Zq,Nat.succ_mul]
   lia
theorem bX.sum(h:bX rows):(rows.map (·.length)).sum<=1600:=by
 obtain⟨wd,_,c,a⟩:=h.wide;have:=pI (f:=λr:Str=>r.length) λr b=>by have:=a r b;show r.cps.size<=40;lia
 have:=h.high
 grind
theorem bX.text(h:bX rows):(Str.join nl rows).length<=2000:=by
 have a:=StrLaws.join_length_le nl rows;have b:=h.sum;have c:=h.high;have d:nl.length=1:=rfl
 lia
noncomputable def sgn(c:Nat):Str:=⟨#[c]⟩
theorem lS{a:List Nat}(h:∀c∈a,ig c=true):(aH (a.map sgn)).length<=26:=by
 have b:∀x∈aH _,x∈fZ.cps.toList.map sgn:=λx d=>by
  obtain⟨c,f,e⟩:=X6 (bp.mp d);exact X7 %[c,Zn (h c f)|e]
 have:=List.Nodup.length_le_of_subset (eF _) b;rw[Z5]at this;have e:fZ.cps.toList.length=26:=by decide +kernel
 lia
noncomputable def cH(rows:ZB):List Nat:=(Str.join (Str.ofString "") rows).cps.toList.filter (λc=>decide (c≠46))
theorem rj:∀(rows:ZB),(Str.join (Str.ofString "") rows).cps.toList=(rows.map (·.cps.toList)).flatten
 |[]=>rfl
 |[x]=>by simp[Str.join]
 | x::y::r=>by
   have e:(Str.ofString "").cps.toList=[]:=rfl;rw[fH,rj _,e,Zw];simp
theorem jZ(h:∀r∈rows,r.cps.toList.all okc=true):∀c∈cH rows,ig c=true:=λc a=>by
 unfold cH at a;rw[List.mem_filter,rj]at a;obtain⟨b,d⟩:=a;obtain⟨l,e,f⟩:=List.mem_flatten.mp b;obtain⟨r,g,rfl⟩:=X6 e;have:=all_eq_true.mp (h r g) c f;unfold okc at this;rw[or_eq_true]at this;rcases this with q|q
 .exact absurd (Zn q) (Zn d)
 .exact q
theorem bX.signs_ne(h:bX rows):cH rows≠[]:=by
 obtain⟨r,b,c,d,a⟩:=h.some';have:c∈cH rows:=by
  unfold cH;rw[List.mem_filter,rj];exact%[List.mem_flatten.mpr %[_,X7 %[r,b|rfl]|d]|Ze a]
 grind
noncomputable def pJ(z:Str):Bool:=(decide (1<=(z.length:Int))&&decide ((z.length:Int)<=40))&&z.cps.toList.all okc
noncomputable def eG(row a:Str):Bool:=decide (row.length=a.length)&&(List.zip a.cps.toList row.cps.toList).all λp=>!decide (p.2=46)||decide (p.1=46)
theorem bX.row(h:bX rows)(a:r∈rows):pJ r=true:=by
 obtain⟨wd,c,d,b⟩:=h.wide;have e:r.length=wd:=b r a;unfold pJ;rw[h.sign r a,e,Ze ⋯,Ze ⋯];rfl
theorem bX.beneath(h:bX rows)(c:rows[i]? =some r)(d:rows[i+1]? =some a):eG a r=true:=by
 obtain⟨wd,m,n,e⟩:=h.wide;have f:r.length=wd:=e r (Z7 c);have g:a.length=wd:=e a (Z7 d);unfold eG;rw[Ze (g.trans f.symm),Bool.true_and,all_eq_true];intro p l;obtain⟨j,b⟩:=Yz l;rw[List.getElem?_zip_eq_some]at b;have:=h.fall i r a c d j p.1 p.2 (by simpa using b.1) (by simpa using b.2)
 grind
theorem tW(a:List Nat):(Str.join (Str.ofString "") (a.map sgn))=⟨a.toArray⟩:=by
 refine iD ?_;rw[rj,Yj];show((a.map (λc=>[c])).flatten)=a
 induction a with
 | nil=>rfl
 | cons c r b=>simp_all
theorem vo:∀a:List Nat,((a.map sgn).map (λx=>x.length)).sum=a.length
 |[]=>rfl
 | c::r=>by
   rw[Yi,Yi,List.sum_cons,vo r,Zq];show 1+r.length=r.length+1
   lia
end Cut
namespace Cut
open PySem L2
end Cut
namespace L2
open PySem PySem.Spec PyProof.Rows
def Up(B:Heap)(l:List Env)(e:Addr)(cls:Value)(b:ZH)(d:Option Value)(h:Heap):Prop:=
 B.StaysIn h/\B.get? e=none/\h.FunFrames B l/\∃a vs,h.get? e=some a/\a.cls=cls/\a.dict=b/\a.data= .fields vs/\1<vs.size/\
  match d with
  | none=>vs[1]? =some .none
  | some f=>∃T c ts,vs[1]? =some (.ref T)/\B.get? T=none/\T≠e/\h.get? T=some c/\c.data= .fields ts/\ts[3]? =some f
theorem oB(o:Obj)(f:ZI->ZI):(o.mapFields f).dict=o.dict:=by
 obtain⟨c,d,a,b⟩:=o;cases a<;> rfl
section
variable{M:Model}{A:Around}{E:ZD}{s:Shared}{B:Heap}{env:Env}{outer:List Env}{L e:Addr}{cls:Value}{dct:ZH}{Q:Unit->Shared->Prop}
theorem ro(w:A.frames=some (env::outer))(Y:env.frame=some L)(st:B.StaysIn s.heap)(y:B.get? e=none)(p:s.heap.FunFrames B (env::outer))
 (he:s.heap.get? e=some t) (J:t.data= .fields vs) (d:1<vs.size)
 (k:∀h',Up B (env::outer) e t.cls t.dict (some (rawInt L)) h'->s.heap.UpToSlots h'->Q () (s>>>h')):
 wpAny M A (do let a<-frameOf env;let pl<-entryPlaceOf L i;let b<-EntryCells.newEntry N a .none (rawInt L) .none pl;setField (.ref e) 1 b) Q E s:=by
 have C:e∉(env::outer).filterMap _:=λG=>by
  obtain⟨_,o,ho,ab⟩:=p.mem G
  simp_all
 refine Z2 (wpAny_frameOf_fun w p Y λc u=>Z2 (wpAny_entryPlaceOf λpl H=>Z2 (wpAny_newObj_type ?_ (H.sizeOk5 _ _ _ _ _))))
 generalize j:({cls:= .type _,dict:=none,data:= .fields _}:Obj)=h
 have O:=(u.2.1 e C).trans he;have T:(c.push h).get? e=some t:=Z6 _ O;refine wpAny_setField T J d ?_;have ne:=Zr (Zt O);have l:=Obj.data_mapFields J (·.setIfInBounds 1 (Value.ref c.objs.size));have f:∀b o,b≠e->c.get? b=some o->((c.push h).update e (Obj.mapFields (·.setIfInBounds 1 (Value.ref c.objs.size)))).get? b=some o:=λb o n q=>by
  rw[get?_update_other _ _ (Ne.symm n)];exact Z6 _ q
 have m:B.StaysIn c:=λb o q=>(u.2.1 b λG=>by rw[(p.mem G).1]at q;cases q).trans (st b o q)
 have nb:∀b o,s.heap.get? b=some o->(∀ws,o.data≠ .fields ws)->b≠e:=λb o q v z=>by
  simp_all
 have t3:((c.push h).update e (Obj.mapFields (·.setIfInBounds 1 (Value.ref c.objs.size)))).get? c.objs.size=some h:=by
  rw[get?_update_other _ _ ne];exact Zi c (by subst j;rfl)
 have g:∃ts,h.data= .fields ts/\ts[3]? =some (rawInt L):=by
  subst j;exact%[_,rfl|by simp]
 obtain⟨ts,g,I⟩:=g;refine k _ %[λb o q=>f b o (λz=>by lia) (m b o q),y,p.of_keeps λb o q v=>?_,_,_,(get?_update_self _ T (Obj.isFreed_of_fields l)),Obj.cls_mapFields _ _,oB _ _,l,by simpa using d,c.objs.size,h,ts,?_,m.fresh,Ne.symm ne,t3,g|I] λb o q v=>?_
 .obtain⟨U,r⟩:=u.2.2 b o q;exact%[_,f b _ (nb b o q v) r|rfl]
 .simp[d]
 .obtain⟨U,r⟩:=u.2.2 b o q;exact%[U|f b _ (nb b o q v) r]
theorem vp(st:B.StaysIn s.heap)(r:B.get? e=none)(w:s.heap.FunFrames B l)
 (y:s.heap.get? e=some c) (C:c.data= .fields vs) (t:1<vs.size) (G:vs[1]? =some (.ref T)) (u:B.get? T=none) (d:T≠e) (v:s.heap.get? T=some H) (h:H.data= .fields ts) (I:ts[3]? =some f)
 (k:∀h',Up B l e c.cls c.dict (some g) h'->h'.get? e=some c->s.heap.UpToSlots h'->Q () (s>>>h')):wpAny M A (setField (.ref T) 3 g) Q E s:=by
 have i:=(Array.getElem?_eq_some_iff.mp I).1;refine wpAny_setField v h i ?_;have a:∀b,b≠T->(s.heap.update T (Obj.mapFields (·.setIfInBounds 3 g))).get? b=s.heap.get? b:=λb n=>get?_update_other _ _ (Ne.symm n)
 have nb:∀b o,s.heap.get? b=some o->(∀ws,o.data≠ .fields ws)->b≠T:=λb o q p z=>by
  simp_all
 have j:=Obj.data_mapFields h (·.setIfInBounds 3 g);have m:=(a e (Ne.symm d)).trans y;refine k _ %[λb o q=>(a b λz=>by lia).trans (st b o q),r,w.of_keeps λb o q p=>%[o,(a b (nb b o q p)).trans q|rfl],c,vs,m,rfl,rfl,C,t,T,_,_,G,u,d,
  get?_update_self _ v (Obj.isFreed_of_fields j),j|by simp[i]] m λb o q p=>%[o.slots|(a b (nb b o q p)).trans q]
theorem vq(i:t=none\/t=some .none)(b:A.frames=some (env::outer))(j:env.frame=some L)(u:Up B (env::outer) e cls dct t s.heap)
 (k:∀h',Up B (env::outer) e cls dct (some (rawInt L)) h'->s.heap.UpToSlots h'->Q () (s>>>h')):wpAny M A (noteFrame (.ref e) env) Q E s:=by
 obtain⟨st,c,v,J,vs,h,rfl,rfl,d,a,r⟩:=u;unfold noteFrame;simp only[j];rcases i with rfl|rfl
 .exact Z2 (wpAny_field h d r (ro b j st c v h d a k))
 .obtain⟨T,N,ts,w,l,m,y,f,z⟩:=r;refine Z2 (wpAny_field h d w (Z2 (wpAny_field y f z (Z2 (vp st c v h d a w l m y f z λh' C n G=>?_)))));obtain⟨o,g,p,_⟩:=C;exact ro b j o g p n d a λH I q=>k H I (G.trans q)
theorem pK(u:Up B l e cls dct (some f) s.heap)(k:∀h',Up B l e cls dct (some .none) h'->s.heap.UpToSlots h'->Q () (s>>>h')):
 wpAny M A (setFlight (.ref e) none) Q E s:=by
 obtain⟨st,a,m,r,vs,h,rfl,rfl,i,b,T,t,ts,j,c,d,n,g,o⟩:=u;exact Z2 (wpAny_field h i j (vp st a m h i b j c d n g o λh' p _ q=>k h' p q))
theorem rp(a:g=none\/g=some .none)(b:A.frames=some (env::outer))(h:env.frame=some L)(u:Up B (env::outer) e cls dct g s.heap)
 (k:∀h',Up B outer e cls dct (some .none) h'->s.heap.UpToSlots h'->Q () (s>>>h')):wpAny M A (leaving env (.ref e)) Q E s:=by
 refine Z2 (vq a b h u λn i c=>pK i λj l d=>?_);obtain⟨st,f,⟨_,_,m⟩,r⟩:=l;exact k j %[st,f,m|r] (c.trans d)
end
section
variable{P:Program}{w:World}{H:Hp}{h:Heap}{a:Addr}{o:HO}
theorem ci.there(x:ci P w H h a o):∃b,h.get? a=some b:=by
 cases o with
 | lst xs=>obtain⟨_,_,_,_,e⟩:=x;exact%[_|e]
 | tup xs=>obtain⟨_,_,_,b,e,_⟩:=x;exact%[_|e]
 | dK c=>obtain⟨_,_,_,_,o,_,_,e,_⟩:=x;exact%[_|e]
 | dT c=>obtain⟨_,_,_,_,o,_,_,e,_⟩:=x;exact%[_|e]
 | set S n=>obtain⟨o,_,_,_,e,_⟩:=x;exact%[_|e]
 | ins C d fs=>obtain⟨_,_,_,e,_⟩:=x;exact%[_|e]
 | own y=>obtain⟨_,e⟩:=x;exact%[_|e]
 | xd fs=>obtain⟨_,⟨_,_,_,e,_⟩,_⟩:=x;exact%[_|e]
 | rng lo hi=>obtain⟨_,_,_,e⟩:=x;exact%[_|e]
 | frz b u=>obtain⟨e,_⟩:=x;exact%[_|e]
 | tbl ps=>exact%[_|(x)]
 | met f y=>exact%[_|(x)]
 | ext g=>obtain⟨_,⟨_,e⟩,_⟩:=x;exact%[_|e]
end
structure Fl (P:Program) (w:World) (l:List Env) (H:Hp) (s:Shared) (ea:Addr) (B:Heap) (cls:Value) (dx:ZH) (fl:Option Value) (H':Hp) (s':Shared):Prop where
 os:s'.os=s.os
 bare:AllBare s'.gens
 un:Un (frs l) [] H H' s.heap s'.heap
 hok:HOk P w H' s'.heap
 up:Up B l ea cls dx fl s'.heap
 free:H' ea=none
 new:s.heap.get? ea=none
 inB:∀b ob,s'.heap.get? b=some ob->((∃o,s.heap.get? b=some o)\/∃o,H' b=some o)->b∉frs l->B.get? b=some ob
 frf:∀b∈frs l,H' b=none
noncomputable def CXO(P:Program)(w:World):CXT:=λl H s E e s'=>∃a B cls b c,e= .ref a/\Fl P w l H s a B cls b (some .none) c s'/\E cls b c
section
variable{P:Program}{w:World}{l:List Env}{H H':Hp}{s s':Shared}{ea:Addr}{B h':Heap}{cls:Value}{dx:ZH}{fl fl':Option Value}
theorem Fl.fly(F:Fl P w l H s ea B cls dx fl H' s')(st:B.StaysIn h')(y:s'.heap.UpToSlots h'):Un (frs l) [] H H' s.heap h'/\HOk P w H' h':=by
 have p:∀b g,s'.heap.get? b=some g->b∈frs l->∃r,h'.get? b=some _:=λb g q a=>by
  obtain⟨_,d,t,z⟩:=F.up.2.2.1.mem a;rw[q]at t;cases t;exact y b g q z
 refine%[%[λb o q n a f=>?_,λb o q n a f=>?_,F.un.free,λb o q f=>?_,F.un.tups,F.un.frzs|F.un.tbls]|λb o q=>?_]
 .exact st b o (F.inB b o (F.un.keep b o q n a f) (.inl %[o|q]) a)
 .obtain⟨r,e⟩:=F.un.slot b o q n a f;obtain⟨h,i⟩:=p b _ e a;exact%[h|i]
 .obtain⟨d,e⟩:=F.un.there b o q f;by_cases a:b∈frs l
  .obtain⟨r,i⟩:=p b d e a;exact%[_|i]
  .exact%[d|st b d (F.inB b d e (.inl %[o|q]) a)]
 .refine(F.hok b o q).stay (λc u j e=>?_) (λ_ e=>e) λ_ _ e=>e
  have A:∃v,H' c=some v:=by
   rcases j with rfl|j
   .exact%[_|q]
   .exact%[_|j]
  obtain⟨v,m⟩:=A;exact st c u (F.inB c u e (.inr %[v|m]) λa=>by rw[F.frf c a]at m;cases m)
end
section
variable{P:Program}{w:World}{K:ZA}{mg:ZC}{base:Heap}{N:ZB}{qual:Str}{scope:Scope}{f:Addr}{cd:Value}{A:Around}{outer:List Env}{s₀:Shared}{H₀:Hp}{E:XK}
theorem za(i:t=none\/t=some .none)
 (I:Inv (eC (CXO P w) P w K mg base N qual scope f cd A outer s₀ H₀ E) pins G H s) (F:Fl P w (envOfC qual scope ⇑s₀ f cd::outer) H s d B cls v t g s') (q:E cls v g):
 (eC (CXO P w) P w K mg base N qual scope f cd A outer s₀ H₀ E).xe (.ref d) s':=by
 refine rp i I.ok.frames rfl F.up λh' u L=>?_
 obtain⟨un,j⟩:=F.fly u.1 L;have J:Inv _ pins G g (s'>>>h'):=I.call' F.os un j F.bare λb z=>absurd z ∅
 refine%[d,B,cls,v,g,rfl,%[J.os,J.bare,J.base,J.hok,u,F.free,?_,λb ob e h M=>?_|λb h=>F.frf b (mem_filterMap.mpr ?_)]|q]
 .cases z:s₀.heap.get? d with
  | none=>rfl
  | some o=>
    obtain⟨o',e⟩:=I.base.there d o z (by simp[eC]);rw[F.new]at e;cases e
 .have O:b∉frs (envOfC qual scope ⇑s₀ f cd::outer):=λQ=>by
   rcases mem_cons.mp (Q)with z|z
   .rcases h with⟨o,c⟩|⟨o,c⟩
    .exact absurd (Zt c) (z▸X2 _)
    .have:=J.free;rw[show(eC _ P w K mg base N qual scope f cd A outer s₀ H₀ E).env.locals=b from z.symm,c]at this;cases this
   .exact M z
  have l:∃a,s'.heap.get? b=some a/\((∃o,s.heap.get? b=some o)\/∃o,g b=some o):=by
   rcases h with⟨o,c⟩|⟨o,c⟩
   .obtain⟨y,C⟩:=I.base.there b o c (by simp[eC]);obtain⟨n,p⟩:=F.un.there b y C ∅;exact%[n,p|.inl %[y|C]]
   .obtain⟨n,p⟩:=(F.hok b o c).there;exact%[n,p|.inr %[o|c]]
  obtain⟨a,T,r⟩:=l;have U:=F.inB b a T r O;have:=u.1 b a U
  grind
 .obtain⟨Y,m,q⟩:=mem_filterMap.mp h;exact%[Y,mem_cons.mpr (.inr m)|q]
theorem iE(a:∀c d H,b c d H->E c d H):fU (CXO P w) (eC (CXO P w) P w K mg base N qual scope f cd A outer s₀ H₀ E) b:=by
 rintro pins g H s e s' I ⟨h,B,cls,i,j,rfl,F,q⟩;exact za (.inr rfl) I F (a _ _ _ q)
end
noncomputable abbrev DG(vs:ZF):Obj:={cls:= .type "tuple",data:= .seq vs.toArray}
noncomputable abbrev Fd(C t:Addr):Obj:={cls:= .ref C,data:= .fields #[.ref t,.none,.none,.none,.bool false,.none]}
noncomputable abbrev tX(h:Heap)(C:Addr)(vs:ZF):Heap:=(h.push (DG vs)).push (Fd C h.objs.size)
theorem rq(h:Heap)(C:Addr)(vs:ZF):(tX h C vs).get? (h.objs.size+1)=some (Fd C h.objs.size):=by
 heap_get
theorem fJ(b:Addr)(o:Obj)(e:h.get? b=some o):(tX h C vs).get? b=some o:=
 Z6 _ (Z6 _ e)
section
variable{prog:Program}{w:World}{A:Around}{E:ZD}{h:Heap}{g:Array GenState}{d:Drawn}{t:Nat}{os:OsState}
variable{nm q:Str}{C N:Addr}{bs bm bmB:ZF}{hdct:Bool}{sn:ZB}{sub:ZF}{ab:Bool}{col:Option Bool}{dd:ZH}{k0 k1 k2 k3 k5:Option Value}{B newId initId:String}
theorem wA(F:ExcBaseFacts B newId initId bmB)(T:OwnTail h bmB bm){rest:ZF}
 (b:h.get? C=some (excClassObj nm q C N bs bm hdct sn sub ab col dd k0 k1 k2 k3 k5 newId)) (m:h.Ns N i) (hi:i "__init__"=some (.ref j)) (c:h.get? j=some n) (e:n.cls= .type "function") (a:rest.length<=sizeLine)
 (o:↥A (call (.ref j) (.ref (h.objs.size+1)::rest)) (λr s'=>r= .none/\Q (.done (.ret (.ref (h.objs.size+1)))) s') E %[tX h C rest,g,d,t|os]):
 ↥A (Builtin.«type.__call__» %[.ref C::rest|[]]) Q E %[h,g,d,t|os]:=by
 repeat (first|with_reducible refine wpAny_loadPart_at b ?_|with_reducible refine wpAny_madeBy_exc b ?_|wp_step)
 refine codeAny_call_builtin_code (Code.quiet_builtin _ F.quiet) (wpAny_check_new_subT F T b ?_);refine codeAny_exc_new_subT F T b ?_ a;have l:=fJ (C:=C) (vs:=rest) _ _ b;have p:=fJ (C:=C) (vs:=rest) _ _ c;have s:(tX h C rest).Ns N i:=m.keeps fJ;have u:=rq h C rest;have f:(Value.ref C::bm).contains (.ref C)=true:=by simp
 unfold isInstance
 repeat (first|with_reducible refine wpAny_loadPart_at u ?_|(with_reducible refine wpAny_isSubtype_exc l ?_;rw[f])|wp_step)
 show wpAny _ _ (typeLookup (.ref C) _) _ _ _;refine wpAny_typeLookup_tail l s (T.keeps (h':=tX h C rest) fJ) F.mroIs F.init.lookup ?_;rw[hi];refine wpAny_holding (Z2 ?_);unfold bindSpecial;refine Z2 (wpAny_typeOf (T:="function") %[_,p|e] ?_);rw[if_pos (by decide)];refine Z3 (Z2 (wpAny_mono o (λr s' v=>?_) λ_ _ x=>x));obtain⟨rfl,y⟩:=v
 wp_walk
 exact y
theorem wB(F:ExcBaseFacts B newId initId bmB)(T:OwnTail h bmB bm){rest:ZF}
 (b:h.get? C=some (excClassObj nm q C N bs bm hdct sn sub ab col dd k0 k1 k2 k3 k5 newId)) (i:h.Ns N j) (hi:j "__init__"=some (.ref f)) (c:h.get? f=some l) (e:l.cls= .type "function") (a:rest.length<=sizeLine)
 (m:wpAny (model prog w) (A.under (.builtin "type.__call__" %[.ref C::rest|[]])) (call (.ref f) (.ref (h.objs.size+1)::rest)) (λr s'=>r= .none/\Q (.ref (h.objs.size+1)) s') E %[tX h C rest,g,d,t|os]):
 ↥A (call (.ref C) rest) Q E %[h,g,d,t|os]:=by
 have n:=tc_lookup;have o:=tc_bind (.ref C);have p:(%[h,g,d,t|os]:Shared).TypeIs (.ref C) "type":=%[_,b|rfl]
 refine wpAny_call (codeAny_of_tree ?_);show wpAny _ _ (callAny (.ref C) _) _ _ _
 repeat (any_goals (first|assumption|with_reducible refine wpAny_loadPart_at b ?_|wp_step))
 refine%[rfl|?_];exact codeAny_call_builtin_at (Code.quiet_builtin _ (by decide +kernel)) entry_typeCall (wpAny_check_type_call_sub b (wA F T b i hi c e a m))
end
noncomputable abbrev veB:ZF:=[.type "ValueError",.type "Exception",.type "BaseException",.type "object"]
noncomputable def bo:ZF->Bool
 | .ref c::r=>bo r
 | l=>l==veB
theorem iS(self:Value):∀{l:ZF},bo l=true->refuseLoop self "__setattr__" l=pure ()
 | .ref c::r,e=>by rw[refuseLoop_ref];exact iS self e
 | .type n::r,e=>by
   have a:(Value.type n::r)=veB:=by simpa [bo]using e
   exact a▸PySem.F.store_ValueError.passes self
 |[],e=>by simp[bo]at e
 | .none::r,e=>by simp[bo]at e
 | .bool _::r,e=>by simp[bo]at e
 | .int _ _::r,e=>by simp[bo]at e
 | .str _ _::r,e=>by simp[bo]at e
 | .builtin _::r,e=>by simp[bo]at e
 | .float _ _::r,e=>by simp[bo]at e
 | .bytes _ _::r,e=>by simp[bo]at e
 | .ellipsis::r,e=>by simp[bo]at e
 | .notImplemented::r,e=>by simp[bo]at e
theorem lT(n:String)(a:veB.contains (.type n)=true):∀{l:ZF},bo l=true->l.contains (.type n)=true
 | .ref c::r,e=>by rw[List.contains_cons,lT n a (l:=r) e,Bool.or_true]
 | .type m::r,e=>by
   have b:(Value.type m::r)=veB:=by simpa [bo]using e
   exact b▸a
 |[],e=>by simp[bo]at e
 | .none::r,e=>by simp[bo]at e
 | .bool _::r,e=>by simp[bo]at e
 | .int _ _::r,e=>by simp[bo]at e
 | .str _ _::r,e=>by simp[bo]at e
 | .builtin _::r,e=>by simp[bo]at e
 | .float _ _::r,e=>by simp[bo]at e
 | .bytes _ _::r,e=>by simp[bo]at e
 | .ellipsis::r,e=>by simp[bo]at e
 | .notImplemented::r,e=>by simp[bo]at e
noncomputable def pL(K:ZA)(C:Addr):Bool:=(clsIn K C).any λa=>bo a.mro
section
#where
variable{K:ZA}{x C:Addr}{name:Str}{v:Value}{ox:Obj}{od:Option Obj}
theorem DH{R:Result->Shared->Prop}(X:K.In s.heap)(I:PySem.W.InstAt s.heap x ox C od)(j:pL K C=true)(l:findIn K (.ref C) name=some none)
 (h:↥A.in1 (Builtin.ObjectAttr.storeInOwnDict (.ref x) (.ref C) (.str name tk) name v false)
  (λc s'=>match c with| .done f=>R (.ok f) s'| .again g=>g.quiet=true/\codeAny (model prog w) A g R s') (λe s'=>R (.error e) s') s):
 codeAny (model prog w) A (.call (.builtin "object.__setattr__") %[[.ref x,.str name tk,v]|[]]) R s:=by
 have a:=PySem.F.store_object;obtain⟨d,i,b⟩:=any_some j;have ne:d.mro.isEmpty=false:=by cases q:d.mro with|nil=>rw[q]at b;simp[bo]at b|cons _ _=>rfl
 refine codeAny_call_builtin a.slot.plain a.entry (@check_slot _ _ _ s _ _ _ _ _ [] _ a.kind a.split (I.type.andThen (PySem.W.looks_mroIn X (by unfold mroIn;rw[i,bind_some,if_neg (by rw[ne];decide),(lT _ (by decide) b)]))) (a.args _ _ v) ?_);have m:Looks (model prog w) s.heap (mroOf (.ref C)) d.mro:=(looks_clsIn X i).andThen .now;rw[PySem.W.osa_eq,refuse_eq];refine Z2 (Z2 (I.type.here (Z2 (m.here ?_))));rw[iS _ b];exact Z3 (Z2 (I.type.here (Z2 ((looks_findIn X l).here (Z2 (Z3 h))))))
theorem Bl(X:K.In s.heap)(g:s.heap.get? x=some ox)(i:ox.cls= .ref C)(j:ox.data= .fields vs)(l:ox.dict=none)
 (u:findIn K (.ref C) "__setattr__"=some (some (.builtin "object.__setattr__"))) (z:pL K C=true) (B:findIn K (.ref C) name=some none) (G:hasDictIn K C=true)
 (h:∀h',h'.get? x=some {ox with dict:=some ⇑s}->h'.Ns1 ⇑s (λy=>if y=name then some v else none)->(∀b o,b≠x->s.heap.get? b=some o->h'.get? b=some o)->Q () {s with heap:=h',toks:=s.toks+2}):
 ↥A (setAttr (.ref x) name v) Q E s:=by
 obtain⟨Y,H,I,L⟩:=ox;subst i j l;have J:PySem.W.InstAt s.heap x _ C none:=%[g,rfl,rfl|trivial]
 refine set_plain X J u (DH X J z B ?_);obtain⟨cd,M,m⟩:=any_some G;refine Z2 (Z3 (Z2 (Z2 (wpAny_loadPart g (Z2 (Looks.here (looks_clsIn X M) ?_))))));rw[m];have a:(s.heap.push {cls:= .type "dict",data:= .dict #[]}).get? x=some _:=Z6 _ g;have c:=Zr (Zt g);refine Z2 (wpAny_alloc' (Z2 (wpAny_update' a (Z3 ?_))));have n:((s.heap.push {cls:= .type "dict",data:= .dict #[]}).update x λo=>{o with dict:=some ⇑s}).get? ⇑s=some _:=
  (get?_update_other _ _ c).trans (Heap.get?_push_at rfl rfl)
 have p:((s.heap.push _).update x _).Ns ⇑s _:=
  %[_,#[],_,n,rfl,λe N=>absurd N ∅|λ_=>rfl]
 refine Z2 (Z3 (Z2 (wpAny_nsSet1 (Heap.Ns1.of_empty p) λh' d f=>?_)));obtain⟨oD,O,T,q,r,t⟩:=d.count (PySem.Within.cons name v PySem.Within.nil);refine Z2 (wpAny_lookBehind q (r▸pastItsLine_dict (Y8 t ∅)) (Z3 (h h' ?_ d λb o U e=>?_)))
 .exact(f.2 x c).trans (get?_update_self _ a rfl)
 .exact(f.2 b (Zr (Zt e))).trans ((get?_update_other _ _ (Ne.symm U)).trans (Z6 _ e))
end
noncomputable def ExO(a C:Addr)(d:ZH):HO:= .ext λh=>∃o vs,h.get? a=some o/\o.cls= .ref C/\o.dict=d/\o.data= .fields vs/\1<vs.size/\vs[1]? =some .none
theorem ExO.ok{P:Program}(e:h.get? a=some o)(c:o.cls= .ref C)(f:o.dict=d)(g:o.data= .fields vs)(i:1<vs.size)(b:vs[1]? =some .none):
 ci P w H h a (ExO a C d):=
 %[%[o,vs,e,c,f,g,i|b],%[o|e]|λb j ⟨o,vs,e,r⟩ k=>%[o,vs,k o e|r]]
theorem zb(h:H a=some o):upd H a o=H:=by
 funext b;unfold upd;simp_all
noncomputable def exK(K:ZA)(C f:Addr):Bool:=match K.lookup C with
 | some ⟨.type "type",_,.cls a,b⟩=>(match a.mro,b.toList with
   | .ref c::d,[_,_,_,_,some (.builtin n),_]=>c==C&&n=="ValueError.__new__"&&!a.hasDel&&PySem.W.tailIn K veB d&&PySem.W.nsOkIn K a.ns&&nsIn K a.ns "__init__"==some (some (.ref f))
   | _,_=>false)
 | _=>false
theorem tY{K:ZA}{h:Heap}{mg:ZC}(X:K.In h)(G:h.Ns N mg)(e:nsIn K N n=some (some v)):mg n=some v:=by
 obtain⟨o,j,l,a,b,_,f⟩:=G;unfold nsIn at e
 split at e
 .rename_i c d g m p q
  have:=X _ _ q;rw[a]at this;cases this;cases b
  split at e
  .rename_i r i
   cases e;rw[<-f];unfold nsFind findBy;rw[<-Array.find?_toList,i];rfl
  simp_all
 .cases e
theorem tZ{K:ZA}(X:K.In h)(q:exK K C f=true):∃r s N bs g b t sub u c v i j l m o w,
 h.get? C=some (excClassObj r s C N bs g b t sub u c v i j l m o "ValueError.__new__")/\h.Ns N w/\w "__init__"=some (.ref f)/\OwnTail h veB g:=by
 unfold exK at q
 split at q
 .rename_i v z A B
  split at q
  .rename_i L g i j l m n o y E
   simp only[Zu,beq_iff_eq,Bool.not_eq_true']at q;obtain⟨⟨⟨⟨⟨rfl,rfl⟩,a⟩,H⟩,d⟩,e⟩:=q;obtain⟨r,bs,I,M,s,O,t,sub,u,c,J⟩:=z;dsimp only at y a d e;subst y a;have p:A= #[i,j,l,m,some (.builtin "ValueError.__new__"),o]:=by
    rw[<-E]
   subst p;have G:=PySem.Heap.Ns.of_isNs (PySem.W.isNs_of_in X d);exact%[_,_,_,_,_,_,_,_,_,_,_,_,_,_,_,_,_,X _ _ B,G,tY X G e|PySem.W.tail_of_in X H]
  .lia
 .lia
section
variable{X:Cx}{C f:Addr}
theorem t6(y:exK X.K C f=true):bK X (.builtin "ValueError.__init__") (λxs H Q=>∃a d ys,xs=V.ref a::ys/\ys.length<=9/\H a=some (ExO a C d)/\Q .non H):=by
 intro pins s A H xs us Q I r h;obtain⟨a,d,ys,rfl,Y,g,q⟩:=h;cases r with
 | cons B E=>
   rename_i u ws
   obtain rfl:u=Value.ref a:=B;obtain⟨⟨o,vs,e,t,G,i,L,M⟩,_⟩:=I.hok a _ g;obtain⟨nm,qn,N,bs,bm,v,sn,sub,ab,O,dd,k0,k1,k2,k3,k5,mN,U,hN,hi,T⟩:=tZ I.kIn y;have F:=PySem.F.excBase_ValueError;have j:ws.length<=sizeLine:=by rw[<-E.length,sizeLine_eq];lia
   refine wpAny_call (codeAny_call_builtin F.init.plain F.initEntry (wpAny_check_init_subT F T U e t ?_));have l:∃m,vs[0]? =some m:=%[vs[0]'⋯|Array.getElem?_eq_getElem ⋯]
   obtain⟨m,l⟩:=l;have p:(s.heap.push (DG ws)).get? a=some o:=Z6 _ e;have c:=Obj.data_mapFields i (·.setIfInBounds 0 (Value.ref ⇑s));have w:=get?_update_self (Obj.mapFields (·.setIfInBounds 0 (Value.ref ⇑s))) p (Obj.isFreed_of_fields c);have J:Inv X pins A H (s>>>((s.heap.push (DG ws)).update a (Obj.mapFields (·.setIfInBounds 0 (Value.ref ⇑s))))):=by
    have:=I.write (x:=a) (e:=a) (o:=ExO a C d) (t':=s.toks) (g▸True.intro) (.inl rfl)
     (λb u n z=>by rw[get?_update_other _ _ (Ne.symm n)];exact Z6 _ z) %[_|w]
     (ExO.ok w ((Obj.cls_mapFields _ _).trans t) ((oB _ _).trans G) c (by simpa using L) (by rw[Array.getElem?_setIfInBounds_ne ∅];exact M))
    rw[zb g]at this;exact this
   refine Z2 (wpAny_newTuple (Z2 (Z2 (wpAny_field p i l (Z2 (wpAny_setField p i ⋯ ?_))))) j);cases m with
   | ref b=>exact wpAny_letGo (Z3 %[.non,H,J,rfl|q])
   | _=>exact Z3 (Z3 %[.non,H,J,rfl|q])
end
section
variable{X:Cx}{pins:ZE}{σ:St}{H:Hp}{s s':Shared}
theorem Inv.stood2(I:Inv X pins σ l s)(J:Inv X pins σ H s')(c:H a=none)(d:⇑s<=a)(new:ci X.prog X.w (upd H a o) s'.heap a o):Inv X pins σ (upd H a o) s':=by
 refine%[J.ok,J.os,J.bare,?_,J.loc,J.cell,?_,?_,?_,?_|J.len]
 .refine%[J.base.keep,J.base.slot,λb o e n j=>?_,J.base.there,λb xs e=>?_,λb o v e=>?_|λb ps e=>?_]
  .rw[aj ((λb o e=>Zr (Zf (Zf (Zt e) I.sz) d)) b o e)];exact J.base.free b o e n j
  .rw[aj (ap (J.base.tups b xs e) c)];exact J.base.tups b xs e
  .rw[aj (ap (J.base.frzs b o v e) c)];exact J.base.frzs b o v e
  .obtain⟨m,q⟩:=J.base.tbls b ps e;exact%[m|(aj (ap q c))▸q]
 .rw[aj (Zr (Zf I.lt d))];exact J.free
 .intro g f e;obtain⟨t,q⟩:=I.cell g f e;rw[aj (Zr (Zf q.lt d))];exact J.freeC g f e
 .intro p h;obtain⟨e,n,r⟩:=J.pin p h;refine%[e,?_|r];rw[aj (Zr (Zf (Zt (I.pin p h).1) d))];exact n
 .intro b v e;by_cases i:b=a
  .subst i;rw[aa]at e;cases e;exact new
  .rw[aj i]at e;refine(J.hok b v e).stay (λ_ _ _ q=>q) (λf q=>?_) λf xs q=>?_
   .rw[aj (ap q c)];exact q
   .rw[aj (ap q c)];exact q
end
structure zc (K:ZA) (D:Addr):Prop where
 ga:specialIn K (.ref D) "__getattribute__"=some (some (.builtin "type.__getattribute__"))
 rd:readsIn K D (.type "type")=true
 at_:findCls K (.ref D) (.type "type") "__init__"=some (.val (.builtin "ValueError.__init__"))
structure DJ (K:ZA) (C:Addr) (f:Str):Prop where
 sa:findIn K (.ref C) "__setattr__"=some (some (.builtin "object.__setattr__"))
 ov:pL K C=true
 no:findIn K (.ref C) f=some none
 hd:hasDictIn K C=true
section
variable{X:Cx}{C D f:Addr}{x nm:Str}{p pos pos' apos:Pos}{e o value:Expr}{es:List Expr}{t:TA}{ta tv:TE}{r:List V->Hp->VK->Prop}
theorem zd(g:Gl X x)(i:X.mg x=some (.ref D))(B:zc X.K D)(j:bK X (.builtin "ValueError.__init__") r)(l:PA X (e::es) t)(a:(x==("__debug__":Str))=false)
 (m:starEach (e::es) X.env=(false,eval e X.env)::starEach es X.env) (b:(backTo pos (starEach es X.env)).any (·.1)=false)
 (n:eval (.Call (.Attribute (.Name x p) "__init__" apos) (e::es) [] pos) X.env=(do
  let c<-eval (.Name x p) X.env
  standAt apos.atName
  let(f,first)<-holding [c] (getMethod c "__init__" pl)
  callWith pos f first (backTo pos (starEach (e::es) X.env)) (backToKw pos (keywordEach [] X.env)))):
 PE X (.Call (.Attribute (.Name x p) "__init__" apos) (e::es) [] pos) (tCB r t):=by
 intro pins s d H Q I h;exact PySem.W.methodCall_KW (eT I g i (PySem.W.method_cls I.kIn B.ga (PySem.W.cls_value I.kIn B.rd B.at_ (by decide) (PyProof.Rows.callWith_builtin1 (thn (l pos pins _ d H _ (I.tok _) h) λus q ⟨vs,u,v,w,y⟩=>j pins q d u vs us Q v w y) m b))) a) n
def Ck(K:ZA)(C:Addr)(ta tv:TE)(f:Str):TS:=λD b H=>tv b H λy g=>ta b g λx c=>∃a,x= .ref a/\c a=some (ExO a C none)/\
 ∀d,c d=none->d≠a->D.nx b (upd (upd c a (ExO a C (some d))) d (.xd [(f,y)]))
theorem Bm(c:DJ X.K C nm)(E:PE X o ta)(G:PE X value tv)(J:swapsWith value (some (.Attribute o nm pos')) pos.line X.env=pure false):PS X (.Assign [.Attribute o nm pos'] value pos) (Ck X.K C ta tv nm):=by
 intro pins s j H D I h;refine plainObj_wpAny_Assign_Attribute (thn (G pins s j H _ I h) λu L ⟨y,M,N,O,q⟩=>thn (E pins L j M _ N q) λQ l ⟨x,H2,d,T,a,ex,m,U⟩=>?_) J;subst ex;obtain rfl:Q=Value.ref a:=T;obtain⟨⟨ob,vs,e,v,Y,w,hz,h1⟩,_⟩:=d.hok a _ m;have i:=Yo (Zt e);have A:=d.hok.fresh (Zh _);refine Bl d.kIn e v w Y c.sa c.ov c.no c.hd λh' B n' k=>%[j,_,?_|U ⇑l A i]
 refine Inv.stood2 d (d.write (t':=l.toks+2) (m▸True.intro) (.inl rfl) (λb u n z=>k b u n z) %[_|B] (ExO.ok B v rfl w hz h1)) ((aj i)▸A) (Zh _) %[_,n'|λg=>?_];by_cases z:g=nm
 .rw[if_pos z,z];simp only[List.lookup,beq_self_eq_true];exact O
 .rw[if_neg z];have z':(g==nm)=false:=by simpa using z
  simp only[List.lookup,z'];exact True.intro
end
def DK(b:TE):TE:=λc H Q=>b c H λv a=>(∃i:Int,v= .int i/\i.natAbs<2^64/\Q (.str (toString i)) a)\/∃y:Str,v= .str y/\y.length<=sizeLine/\Q (.str y) a
def lU:List TE->Str->TE
 |[],a=>λb H Q=>a.length<=sizeLine/\Q (.str a) H
 | t::ts,a=>λb H Q=>t b H λv c=>∃y:Str,v= .str y/\(a++y).length<=sizeLine/\lU ts (a++y) b c Q
inductive PJ (X:Cx):List Expr->List TE->Prop
 | nil:PJ X [] []
 | cons {e:Expr} {es:List Expr} {t:TE} {ts:List TE}:PE X e t->PJ X es ts->PJ X (e::es) (t::ts)
section
variable{X:Cx}{e v1 v2:Expr}{rest:List Expr}{te t1 t2:TE}{ts:List TE}{pos:Pos}
theorem DL(c:PE X e te):PE X (.FormattedValue e (-1) none pos) (DK te):=by
 intro pins s d H Q I h;refine FormattedValue_plain (thn (c pins s d H _ I h) λu j ⟨v,a,b,r,q⟩=>?_);rcases q with⟨i,rfl,hi,q⟩|⟨y,rfl,f,q⟩
 .obtain⟨t,rfl⟩:=(show∃t,u=Value.int i t from r)
  have g:i.natAbs.log2<1920:=by
   by_cases z:i.natAbs=0
   .rw[z];decide
   .exact(Nat.log2_lt z).mpr (Zf hi (Nat.pow_le_pow_right (by decide) ∅))
  exact formatField_int_small g %[V.str (toString i),a,b.tok _,%[_|rfl]|q]
 .obtain⟨t,rfl⟩:=(r)
  exact formatField_str (λt' tk=>%[.str y,a,b.tok _,%[_|rfl]|q]) f
theorem ze(h:PJ X d ts):∀(a:Str) (pins:ZE) (s:Shared) (b:St) (H:Hp) (Q:VK),Inv X pins b H s->lU ts a b H Q->
 (~~~X) (joinParts a (evalEach d X.env)) (EP X pins b Q) X.xe s:=by
 induction h with
 | nil=>exact λa pins s b H Q I ⟨c,q⟩=>joinParts_nil %[.str a,H,I.tok _,%[_|rfl]|q] c
 | cons f _ g=>
   intro a pins s b H Q I q;refine joinParts_cons (thn (f pins s b H _ I q) λu i ⟨v,j,l,r,y,m,c,n⟩=>?_);subst m;obtain⟨t,rfl⟩:=(r)
   exact%[c|g _ pins i b j Q l n]
theorem Bn(h:PJ X (v1::v2::rest) ts):PE X (.JoinedStr (v1::v2::rest) pos) (lU ts Str.empty):=λpins s a H Q I q=>
 JoinedStr_many (ze h _ pins s a H Q I q)
end
def t7(C:Addr)(sp:Sp)(t:TA):TE:=λb H Q=>t b H λvs a=>vs.length<=9/\∀x,a x=none->sp (.ref x::vs) (upd a x (ExO x C none)) (λv c=>v= .non/\Q (.ref x) c) E0
structure MkX (K:ZA) (C f:Addr):Prop where
 ex:exK K C f=true
 fn:(K.lookup f).map (·.cls)=some (.type "function")
 kp:keepIn K (.ref C)=true
section
variable{X:Cx}{k:Nat}{f C:Addr}{fd:FuncData}{ps:ZB}{sp:Sp}{x:Str}{p pos cpos:Pos}{e:Expr}{es:List Expr}{te:TE}{t:TA}
theorem wC(M:MkX X.K C f)(F:fD X.prog X.w X.K X.mg X.base CX0 k f fd ps sp)(w:bC (k+1) X.A)(y:cS X.K fd ps [])
 (I:Inv X pins j H s) (r:aC vs us) (hv:vs.length<=9)
 (h:∀x,H x=none->sp (.ref x::vs) (upd H x (ExO x C none)) (λv z=>v= .non/\Q (.ref x) z) E0):
 (~~~X) (call (.ref C) us) (EP X pins j Q) X.xe s:=by
 obtain⟨i,g,d,tk,os⟩:=s;obtain⟨nm,qn,N,bs,bm,n,sn,sub,ab,A,dd,k0,k1,k2,k3,k5,mN,B,E,hi,T⟩:=tZ I.kIn M.ex;obtain⟨oI,G,l⟩:=map_eq_some_iff.mp M.fn;refine wB PySem.F.excBase_ValueError T B E hi (I.kIn _ _ G) l (by rw[<-r.length,sizeLine_eq];lia) ?_;have J:Inv X pins j H %[tX i C us,g,d,tk|os]:=I.keptS fJ rfl rfl;have m:Inv X pins j (upd H _ (ExO _ C none)) _:=
  I.stoodS J (Y7 _) (ExO.ok (rq i C us) rfl rfl rfl ∅ rfl)
 have o:=h _ (I.hok.fresh (Y7 _));have q:aC (V.ref (i.objs.size+1)::vs) _:= .cons rfl r;have b:(Value.ref (i.objs.size+1)::us++[]).length=ps.length:=by
  rw[Zw,<-q.length];exact F.len _ _ _ _ o
 have c:=y _ _ m.kIn b;rw[Zw]at c;refine wpAny_call (codeAny_mono (F.run _ X.stack _ _ _ _ _ _ E0 (w.make C us []) (m.env0.make C us []) c q o) λr s' a=>?_);cases r with
 | error e=>exact False.elim a
 | ok L=>
   cases L with
   | ret u=>
     obtain⟨v,O,U,Y,ev,q3⟩:=m.after a;subst ev;exact%[Y,V.ref _,O,U,rfl|q3]
   | next=>exact False.elim a
   | brk=>exact False.elim a
   | cont=>exact False.elim a
theorem zf(M:MkX X.K C f)(F:fD X.prog X.w X.K X.mg X.base CX0 k f fd ps sp)(d:bC (k+1) X.A)(g:Gl X x)(i:X.mg x=some (.ref C))(j:cS X.K fd ps [])
 (l:PA X (e::es) t) (a:(x==("__debug__":Str))=false) (m:starEach (e::es) X.env=(false,eval e X.env)::starEach es X.env) (b:(backTo pos (starEach es X.env)).any (·.1)=false):
 PE X (.Call (.Name x p) (e::es) [] pos) (t7 C sp t):=by
 intro pins s n H Q I h;exact wpAny_Call_Name_kw (eT I g i (callWith_K I.ok.mod.kin M.kp (thn (l pos pins s n H _ I h) λus u ⟨vs,v,c,r,o,q⟩=>%[c.kIn|wC M F d j c r o q]) m b) a)
def pM(C:Addr)(te:TE)(W:Addr->Hp->Prop):TS:=λ_ c H=>te c H λv b=>∃a d,v= .ref a/\b a=some (ExO a C (some d))/\W a b
theorem zg{W:Addr->Hp->Prop}(A:exK X.K C f=true)(B:X.calm=true)(E:PE X e te)
 (G:∀(pins:ZE) (i:St) (H:Hp) (s:Shared) (a d:Addr),Inv X pins i H s->H a=some (ExO a C (some d))->W a H->X.xe (.ref a) s):PS X (.Raise (some e) none pos) (pM C te W):=by
 intro pins s i H D I h;show wpAny _ X.A (do standAt pos;raiseStmt X.env (some (do let v<-eval e X.env;standAt pos;pure v)) none) _ _ s;refine Z2 (wpAny_standAt ?_);unfold raiseStmt;refine Z2 (Z2 (thn (E pins s i H _ I h) λu m ⟨v,J,j,r,a,d,L,n,q⟩=>Z2 (wpAny_standAt (Z3 ?_))));subst L;obtain rfl:u=Value.ref a:=r;obtain⟨⟨M,vs,O,c,o,w,hz,Q⟩,_⟩:=j.hok a _ n;obtain⟨nm,qn,N,bs,U,y,sn,sub,ab,Y,dd,k0,k1,k2,k3,k5,mN,z,hN,hi,T⟩:=tZ j.kIn A;have l:(Value.ref C::U).contains (.type "BaseException")=true:=by rw[List.contains_cons,T.hasType (b:=true) (by decide),Bool.or_true]
 have hE:=G pins i J m a d j n q;obtain⟨hp,g,dr,tk,os⟩:=m;obtain⟨oc,od,ag,ai⟩:=M;dsimp only at c o w;subst c o w;have hh:X.A.handled=none:=j.ok.hd B
 repeat (first|with_reducible refine wpAny_loadPart_at O ?_|with_reducible refine wpAny_loadPart_at z ?_|(with_reducible refine wpAny_isSubtype_exc z ?_;rw[l])|wp_step)
 rw[Q];refine Z3 ?_;rw[if_neg (by decide)];exact Z3 (wpAny_raiseNew_none hh hE)
end
noncomputable def drop(H:Hp)(a:Addr):Hp:=λb=>if b=a then none else H b
theorem fK:drop H a a=none:=by unfold drop;rw[if_pos rfl]
theorem bx(h:b≠a):drop H a b=H b:=by unfold drop;rw[if_neg h]
theorem wD{P:Program}{K:ZA}
 (hk:exK K C f=true) (he:PE (eC (CXO P w) P w K mg base N h g p r A outer s₀ H₀ E) e te):
 PS (eC (CXO P w) P w K mg base N h g p r A outer s₀ H₀ E) (.Raise (some e) none pos) (pM C te λa H=>∃d,H a=some (ExO a C (some d))/\H₀ a=none/\E (.ref C) (some d) (drop H a)):=by
 refine zg hk rfl he λpins σ H s a al I _ ⟨d,G,hn,q⟩=>?_
 obtain⟨⟨oe,vs,ea,U,hd,hf,hz,h1⟩,_⟩:=I.hok a _ G;have ST:=I.stack;have Y:=I.stkFree;have L0:⇑s₀<=(envOfC h g ⇑s₀ p r).locals:=Zh _;show wpAny (model P w) (A.deeper (envOfC h g ⇑s₀ p r)) (leaving (envOfC h g ⇑s₀ p r) (.ref a)) _ _ s;have ab:a∉frs (envOfC h g ⇑s₀ p r::outer):=λz=>by
  have:=Y a z;rw[G]at this;cases this
 refine rp (.inl rfl) I.ok.frames rfl %[λb o z=>of_hideAll _ z,PySem.W.hideAll_none _ (mem_cons.mpr (.inl rfl)),PySem.W.funFrames_hide ST λen ag b i=>mem_cons.mpr (.inr (mem_filterMap.mpr %[en,ag|i])),oe,vs,ea,U,hd,hf,hz|h1] λh' u sm=>?_
 have B:∀b o,s.heap.get? b=some o->b≠a->b∉frs (envOfC h g ⇑s₀ p r::outer)->h'.get? b=some o/\(hideAll s.heap (a::frs (envOfC h g ⇑s₀ p r::outer))).get? b=some o:=λb o z n1 n2=>by
  have hB:=hideAll_get (a::frs (envOfC h g ⇑s₀ p r::outer)) z λm=>(mem_cons.mp m).elim n1 n2
  exact%[u.1 b o hB|hB]
 have Q:∀b o,s.heap.get? b=some o->b∈frs (envOfC h g ⇑s₀ p r::outer)->∃sl,h'.get? b=some {o with slots:=sl}:=λb o z i=>by
  obtain⟨_,o',z',L⟩:=ST.mem i;rw[z]at z';cases z';exact sm b o z L
 have nL:∀b o,s₀.heap.get? b=some o->b∉frs outer->b∉frs (envOfC h g ⇑s₀ p r::outer):=λb o z n m=>by
  rcases mem_cons.mp (show b∈⇑s₀::frs outer from m)with y|y
  .exact absurd (Zt z) (y▸X2 _)
  .exact n y
 have sub:∀b,b∈frs outer->b∈frs (envOfC h g ⇑s₀ p r::outer):=λb i=>mem_cons.mpr (.inr i)
 have j:∀b,b∉(eC (CXO P w) P w K mg base N h g p r A outer s₀ H₀ E).ex:=λb z=>absurd (show b∈([]:List Addr)from z) ∅
 have new:s₀.heap.get? a=none:=by
  cases z:s₀.heap.get? a with
  | none=>rfl
  | some o=>
    have:=I.base.free a o z hn (j a);rw[G]at this;cases this
 have trk:∀b o,H b=some o->b∉frs (envOfC h g ⇑s₀ p r::outer):=λb o z m=>by
  rw[Y b m]at z;cases z
 refine%[a,_,.ref C,some d,drop H a,rfl,%[I.os,I.bare,%[λb o z n i hx=>?_,λb o z n i hx=>?_,λb o z n hx=>?_,λb o z hx=>?_,λb xs z=>?_,λb o v z=>?_|λb ps z=>?_],λb o z=>?_,u,fK,new,λb ob z i L=>?_|λb i=>?_]|q]
 .have l:=I.base.keep b o z n i (j b);refine(B b o l (λy=>?_) (nL b o z i)).1;subst y;rw[new]at z;cases z
 .obtain⟨sl,l⟩:=I.base.slot b o z n i (j b);obtain⟨ai,O⟩:=Q b _ l (sub b i);exact%[ai|O]
 .by_cases y:b=a
  .exact y▸fK
  .rw[bx y];exact I.base.free b o z n (j b)
 .obtain⟨M,l⟩:=I.base.there b o z (j b);by_cases i:b∈frs (envOfC h g ⇑s₀ p r::outer)
  .obtain⟨sl,O⟩:=Q b M l i;exact%[_|O]
  .refine%[M|(B b M l (λy=>?_) i).1];subst y;rw[new]at z;cases z
 .have l:=I.base.tups b xs z;rw[bx (lB l G (by simp[ExO]))];exact l
 .have l:=I.base.frzs b o v z;rw[bx (lB l G (by simp[ExO]))];exact l
 .obtain⟨m,l⟩:=I.base.tbls b ps z;refine%[m|?_];rw[bx (lB l G (by simp[ExO]))];exact l
 .have y:b≠a:=λy=>by rw[y,fK]at z;cases z
  rw[bx y]at z;refine(I.hok b o z).stay (λc u' T J=>?_) (λc J=>?_) λc xs J=>?_
  .rcases T with rfl|T
   .exact(B c u' J y (trk c o z)).1
   .exact(B c u' J (lB T G (by simp[ExO])) (trk c _ T)).1
  .rw[bx (lB J G (by simp[ExO]))];exact J
  .rw[bx (lB J G (by simp[ExO]))];exact J
 .have y:b≠a:=λy=>by
   rcases i with⟨o,t⟩|⟨o,t⟩
   .rw[y,new]at t;cases t
   .rw[y,fK]at t;cases t
  have nf:b∉frs (envOfC h g ⇑s₀ p r::outer):=by
   rcases i with⟨o,t⟩|⟨o,t⟩
   .exact nL b o t L
   .rw[bx y]at t;exact trk b o t
  have ex:∃M,s.heap.get? b=some M:=by
   rcases i with⟨o,t⟩|⟨o,t⟩
   .exact I.base.there b o t (j b)
   .rw[bx y]at t;exact(I.hok b o t).there
  obtain⟨M,l⟩:=ex;obtain⟨O,e3⟩:=B b M l y nf;rw[show h'.get? b=some ob from z]at O;cases O;exact e3
 .have y:b≠a:=λy=>ab (y▸sub b i)
  rw[bx y];exact Y b (sub b i)
noncomputable def ExH(a C:Addr)(d:ZH):HO:= .ext λh=>∃o vs,h.get? a=some o/\o.cls= .ref C/\o.dict=d/\o.data= .fields vs
theorem ExH.ok{P:Program}(e:h.get? a=some o)(b:o.cls= .ref C)(c:o.dict=d)(f:o.data= .fields vs):
 ci P w H h a (ExH a C d):=
 %[%[o,vs,e,b,c|f],%[o|e]|λg i ⟨o,vs,e,r⟩ k=>%[o,vs,k o e|r]]
section
variable{X:Cx}{pins:ZE}{σ:St}{H:Hp}{s s':Shared}
theorem Bo(I:Inv X pins σ H s)(J:X.N.Nodup)(hi:X.N[i]? =some n)(L:X.env.kindOf n=some .local)
 (h:∀s',Inv X pins (σ.set i none) H s'->Q () s'):wpAny M A (do bindName X.env n .none;unbindBehindTheSuite X.env n pos) Q E s:=by
 obtain⟨m,N,O⟩:=id I.loc;have w:i<σ.length:=I.len▸(X3 hi).1;refine wpAny_nameGoes_keeps L N (by rw[I.ok.kind];rfl) λh' v t a=>h _ ?_
 have f:∀b o,X.s₀.heap.get? b=some o->b≠X.env.locals:=λb o e=>Zr (Zf (Zt e) I.ok.above)
 refine%[I.ok,I.os,I.bare,%[λb o e n u l=>?_,λb o e n u l=>?_,I.base.free,λb o e l=>?_,I.base.tups,I.base.frzs|I.base.tbls],%[_,t|λj y T g B U=>?_],λy c e=>?_,I.free,I.freeC,λp Y=>?_,λb ob e=>?_|by simpa using I.len]
 .exact(a.2 b (f b o e)).trans (I.base.keep b o e n u l)
 .obtain⟨sl,g⟩:=I.base.slot b o e n u l;exact%[sl|(a.2 b (f b o e)).trans g]
 .obtain⟨o',g⟩:=I.base.there b o e l;exact%[o'|(a.2 b (f b o e)).trans g]
 .have C:j≠i:=λz=>by
   simp_all
  rw[List.getElem?_set_ne (Ne.symm C)]at B;obtain⟨u',r',q⟩:=O j y T g B U;refine%[u',r'|?_];rcases q with⟨k,e⟩|⟨k,c,e,z⟩
  .refine .inl %[k|?_];have:y≠n:=λe=>C (gY J g (e▸hi))
   simp[this,e]
  .exact .inr %[k,c,e|z.sameBut a (I.cne y c e)]
 .obtain⟨G,z⟩:=I.cell y c e;exact%[G|z.sameBut a (I.cne y c e)]
 .obtain⟨e,n,ne,nf,d⟩:=I.pin p Y;exact%[(a.2 p.1 ne).trans e,n,ne,nf|d]
 .refine(I.hok b ob e).stay (λc G r q=>(a.2 c ?_).trans q) (λ_ q=>q) λ_ _ q=>q
  rintro rfl;rcases r with rfl|r
  .rw[I.free]at e;cases e
  .rw[I.free]at r;cases r
theorem Inv.stood3(I:Inv X c w A s)(g:∀p∈pins,p∈c)(J:Inv X pins σ H s')(d:H a=none)(B:s.heap.get? a=none)(new:ci X.prog X.w (upd H a o) s'.heap a o):Inv X pins σ (upd H a o) s':=by
 have ne:∀{b:Addr} {o:Obj},s.heap.get? b=some o->b≠a:=λe z=>by lia
 refine%[J.ok,J.os,J.bare,?_,J.loc,J.cell,?_,?_,?_,?_|J.len]
 .refine%[J.base.keep,J.base.slot,λb o e n j=>?_,J.base.there,λb xs e=>?_,λb o v e=>?_|λb ps e=>?_]
  .obtain⟨C,y⟩:=I.base.there b o e j;rw[aj (ne y)];exact J.base.free b o e n j
  .rw[aj (ap (J.base.tups b xs e) d)];exact J.base.tups b xs e
  .rw[aj (ap (J.base.frzs b o v e) d)];exact J.base.frzs b o v e
  .obtain⟨m,q⟩:=J.base.tbls b ps e;exact%[m|(aj (ap q d))▸q]
 .obtain⟨m,⟨E,_,_,h,_⟩,_⟩:=I.loc;rw[aj (ne h)];exact J.free
 .intro l f e;obtain⟨G,L,i,_⟩:=I.cell l f e;rw[aj (ne i)];exact J.freeC l f e
 .intro p t;obtain⟨e,n,r⟩:=J.pin p t;refine%[e,?_|r];have:=(I.pin p ((X4 t).elim (λz=>Yl _ z) λz=>Ym _ (g p z))).1;rw[aj (ne this)];exact n
 .intro b v e;by_cases u:b=a
  .subst u;rw[aa]at e;cases e;exact new
  .rw[aj u]at e;refine(J.hok b v e).stay (λ_ _ _ q=>q) (λf q=>?_) λf xs q=>?_
   .rw[aj (ap q d)];exact q
   .rw[aj (ap q d)];exact q
end
section
variable{M:Model}{A:Around}{E:ZD}{s:Shared}{K:ZA}{D C e:Addr}{oe:Obj}{b:Bool}{Q:Bool->Shared->Prop}
theorem zh(X:K.In s.heap)(i:typeIn K (.ref D)=some (.type "type"))(j:subIn K (.ref D) (.type "BaseException")=some true)(d:(K.lookup D).any (λo=>match o.data with| .cls _=>true|_=>false)=true)
 (l:s.heap.get? e=some oe) (m:oe.cls= .ref C) (n:subIn K (.ref C) (.ref D)=some b) (f:Q b s):wpAny M A (excMatches (.ref e) (.ref D)) Q E s:=by
 obtain⟨g,p,c⟩:=any_some d;refine Z2 (Z2 ((PySem.W.looks_typeIn X i).here ?_));rw[tc_notTuple];refine Z3 (Z2 (Z3 ?_));have a:∃h,g.data= .cls h:=by
  revert c
  cases g.data<;> intro c<;> first|exact⟨_,rfl⟩|cases c
 obtain⟨h,a⟩:=a;have LT:Looks M s.heap (typeOf (.ref e)) _:=λq t u s' k r=>by
  exact Z2 (wpAny_loadPart (k _ _ l) (Z3 (m▸r)))
 refine Z2 (Z2 (Z2 (Z2 (Z2 (wpAny_loadPart (X _ _ p) (Z3 ?_))))));rw[a,if_pos rfl];refine(looks_subIn X j).here (Z3 (Z3 (Z2 (LT.here (Z2 (Z2 (Z2 ((looks_subIn X n).here ?_))))))));cases b with
 | true=>
   exact Z3 (Z3 (Z3 f))
 | false=>
   exact Z3 (Z3 (Z3 f))
end
noncomputable abbrev Cx.suiteX(X:Cx)(a:Addr):Cx:={X with A:=X.A.mark (some (.ref a)),calm:=false,xe:=λ_ _=>False}
section
variable{X:Cx}{pins pins' pn:ZE}{σ:St}{H:Hp}{s:Shared}{E:ZD}
theorem Fe(ok:X.Ok)(pn:List _)(E:ZD):({X with pn:=pn,xe:=E}).Ok:=
 %[ok.mod,ok.kind,ok.glob,ok.blt,ok.above,ok.inj,ok.has,ok.cab,ok.hd,ok.frames,ok.stk,ok.exf,ok.bs,ok.bsz,ok.noex,ok.exfs,ok.funs|ok.frf]
theorem unPn(ok:({X with pn:=pn,xe:=E}).Ok):X.Ok:=
 %[ok.mod,ok.kind,ok.glob,ok.blt,ok.above,ok.inj,ok.has,ok.cab,ok.hd,ok.frames,ok.stk,ok.exf,ok.bs,ok.bsz,ok.noex,ok.exfs,ok.funs|ok.frf]
theorem Inv.toPn(I:Inv X pins σ H s)(E:ZD):Inv ({X with pn:=X.pn++pins,xe:=E}) [] σ H s:=
 %[Fe I.ok _ E,I.os,I.bare,I.base,I.loc,I.cell,I.free,I.freeC,λp a=>I.pin p (by simpa using a),I.hok|I.len]
theorem Inv.ofPn(I:Inv ({X with pn:=X.pn++pins,xe:=E}) pins' σ H s):Inv X pins σ H s:=
 %[unPn I.ok,I.os,I.bare,I.base,I.loc,I.cell,I.free,I.freeC,λp a=>I.pin p (Yl _ a),I.hok|I.len]
theorem Inv.toSuite(I:Inv X pins σ H s)(a:Addr):Inv (X.suiteX a) pins σ H s:=
 %[%[I.ok.mod,I.ok.kind,I.ok.glob,I.ok.blt,I.ok.above,I.ok.inj,I.ok.has,I.ok.cab,(λz=>Bool.noConfusion z),I.ok.frames,I.ok.stk,I.ok.exf,I.ok.bs,I.ok.bsz,I.ok.noex,I.ok.exfs,I.ok.funs|I.ok.frf],I.os,I.bare,I.base,I.loc,I.cell,I.free,I.freeC,I.pin,I.hok|I.len]
theorem Inv.ofSuite(I:Inv (X.suiteX a) pins σ H s)(ok:X.Ok):Inv X pins σ H s:=%[ok,I.os,I.bare,I.base,I.loc,I.cell,I.free,I.freeC,I.pin,I.hok|I.len]
theorem SP.ofPn{D:iL}(h:SP ({X with pn:=X.pn++pins,xe:=E}:Cx) [] D f s):SP X pins D f s:=by
 cases f with
 | next=>obtain⟨a,b,I,q⟩:=h;exact%[a,b,I.ofPn|q]
 | brk=>obtain⟨a,b,I,q⟩:=h;exact%[a,b,I.ofPn|q]
 | cont=>obtain⟨a,b,I,q⟩:=h;exact%[a,b,I.ofPn|q]
 | ret u=>obtain⟨v,a,b,I,r,q⟩:=h;exact%[v,a,b,I.ofPn,r|q]
end
noncomputable def iL.gone(D:iL)(i:Nat):iL:={nx:=λa H=>D.nx (a.set i none) H,rt:=D.rt,bk:=λa H=>D.bk (a.set i none) H,ct:=λa H=>D.ct (a.set i none) H}
structure Cat (K:ZA) (D:Addr):Prop where
 ty:typeIn K (.ref D)=some (.type "type")
 ex:subIn K (.ref D) (.type "BaseException")=some true
 cd:(K.lookup D).any (λo=>match o.data with| .cls _=>true|_=>false)=true
structure Bp (K:ZA) (C:Addr) (f:Str):Prop where
 ga:findIn K (.ref C) "__getattribute__"=some (some (.builtin "BaseException.__getattribute__"))
 hk:findIn K (.ref C) "__getattr__"=some none
 sub:subIn K (.ref C) (.type "BaseException")=some true
 no:findIn K (.ref C) f=some none
 hd:hasDictIn K C=true
section
#where
variable{K:ZA}{x C:Addr}{name:Str}{v:Value}{ox:Obj}{od:Option Obj}
theorem DM(X:K.In s.heap)(I:PySem.W.InstAt s.heap x ox C od)(c:Bp K C name)(d:findObj K C od name=some (.value v))(f:handedIn v=true)
 (h:Q v {s with toks:=s.toks+1}):↥A (getAttr (.ref x) name a) Q E s:=by
 have b:Looks (model prog w) s.heap (typeOf (.ref x)) (.ref C):=I.type;have sub:Looks (model prog w) s.heap (isInstance (.ref x) (.type "BaseException")) true:=b.andThen (looks_subIn X c.sub);have g:=looks_find (M:=model prog w) X I d;have S:=PySem.F.excAttr_ValueError.ga;refine Z2 (wpAny_mkText (wpAny_holding (Z2 (b _ _ _ _ (λ_ _ e=>e) (Z2 (looks_findIn X c.ga _ _ _ _ (λ_ _ e=>e) ?_))))));dsimp only;rw[show(onTheHeap (Value.ref C)&&Value.builtin "BaseException.__getattribute__"==Value.builtin "object.__getattribute__")=false from by rw[show(Value.builtin "BaseException.__getattribute__"==Value.builtin "object.__getattribute__")=false from by decide +kernel,Bool.and_false],if_neg (by decide)];refine Z2 (looks_hook X (mc:= .ref C) (r:=none) (c.hk) _ _ _ _ (λ_ _ e=>e) (Z2 (wpAny_attempt (wpAny_holding ?_))));unfold callGetattribute;rw[show(a&&onTheHeap (Value.builtin _))=false from Bool.and_false _,if_neg (by decide)];unfold boundAndCalled;rw[S.bind];refine wpAny_call ?_;refine codeAny_call_builtin S.plain PySem.F.entry_bexc_ga ?_;refine @check_slot _ _ _ _ _ _ "__getattribute__" _ _ [] _ (by decide +kernel) (by decide +kernel) sub (PySem.F.args_bexc_ga _ _) ?_;refine Z2 (Z3 (Z2 (Z3 (Z2 (Looks.here b (Z2 (Looks.here g (Z3 ?_))))))));show wpAny _ _ (handedOut v) _ _ _;rw[PySem.W.handedOut_of f];exact Z3 h
end
def vt(C:Addr)(c:TE)(f:Str):TE:=λe H Q=>c e H λx b=>∃a d fs v,x= .ref a/\b a=some (ExH a C (some d))/\b d=some (.xd fs)/\fs.lookup f=some v/\Q v b
theorem Bq{X:Cx}(c:Bp X.K C f)(n:PE X e p)(t:attributeBase e f X.env (eval e X.env)=eval e X.env):PE X (.Attribute e f pos) (vt C p f):=by
 intro pins s w H Q I h;refine u9 t (thn (n pins s w H _ I h) λu U ⟨x,y,b,z,a,d,fs,v,ex,A,B,l,q⟩=>?_);subst ex;obtain rfl:u=Value.ref a:=z;obtain⟨⟨o,vs,E,g,i,j⟩,_⟩:=b.hok a _ A;obtain⟨Y,G,r⟩:=b.hok d _ B;obtain⟨uv,J,m⟩:=fc.some_of (l▸r f);obtain⟨od,L,M⟩:=nP G;obtain⟨oc,N,O,T⟩:=o;dsimp only at g i j;subst g i j;exact DM b.kIn %[E,rfl,rfl|L] c (findObj_own c.hd c.no rfl (by rw[M,J])) (nQ m) %[v,y,b.tok _,m|q]
structure XIs (K:ZA) (C:Addr):Prop where
 ga:findIn K (.ref C) "__getattribute__"=some (some (.builtin "BaseException.__getattribute__"))
 hk:findIn K (.ref C) "__getattr__"=some none
 sub:subIn K (.ref C) (.type "BaseException")=some true
 hd:hasDictIn K C=true
 cl:findIn K (.ref C) "__class__"=some (some (.builtin "object.__class__"))
 gt:specialIn K (.builtin "object.__class__") "__get__"=some (some (.builtin "getset_descriptor.__get__"))
 tk:takesIn K (.builtin "object.__class__")=some true
 ob:mroIn K C (.type "object")=some true
section
#where
variable{K:ZA}{x C:Addr}{ox:Obj}{od:Option Obj}
theorem DN(X:K.In s.heap)(I:PySem.W.InstAt s.heap x ox C od)(c:XIs K C)(h:Q (some (.ref C)) {s with toks:=s.toks+1}):↥A (getAttr? (.ref x) "__class__") Q E s:=by
 have a:Looks (model prog w) s.heap (typeOf (.ref x)) (.ref C):=I.type;have sub:Looks (model prog w) s.heap (isInstance (.ref x) (.type "BaseException")) true:=a.andThen (looks_subIn X c.sub);have b:findObj K C od "__class__"=some (.bind (.builtin "getset_descriptor.__get__") (.builtin "object.__class__")):=by
  obtain⟨g,d,_⟩:=any_some c.hd;unfold findObj;rw[d,bind_some,c.cl,bind_some];dsimp only;rw[c.gt,bind_some];dsimp only;rw[c.tk,bind_some]
 have f:=looks_find (M:=model prog w) X I b;have S:=PySem.F.excAttr_ValueError.ga;unfold getAttr? getAttrBy? getAttrBy;refine Z2 (wpAny_mkText (Z2 (wpAny_attempt (wpAny_holding (Z2 (a _ _ _ _ (λ_ _ e=>e) (Z2 (looks_findIn X c.ga _ _ _ _ (λ_ _ e=>e) ?_))))))));dsimp only;rw[show(onTheHeap (Value.ref C)&&Value.builtin "BaseException.__getattribute__"==Value.builtin "object.__getattribute__")=false from by rw[show(Value.builtin "BaseException.__getattribute__"==Value.builtin "object.__getattribute__")=false from by decide +kernel,Bool.and_false],if_neg (by decide)];refine Z2 (looks_hook X (mc:= .ref C) (r:=none) (c.hk) _ _ _ _ (λ_ _ e=>e) (Z2 (wpAny_attempt (wpAny_holding ?_))));unfold callGetattribute;rw[show(false&&onTheHeap (Value.builtin "BaseException.__getattribute__"))=false from rfl,if_neg (by decide)];unfold boundAndCalled;rw[S.bind];refine Z2 (Z3 ?_);show wpAny _ _ (call (.builtin "BaseException.__getattribute__") _) _ _ _;refine wpAny_call ?_;refine codeAny_call_builtin S.plain PySem.F.entry_bexc_ga ?_;refine @check_slot (model prog w) _ _ {s with toks:=s.toks+1} _ "BaseException" "__getattribute__" (.ref x) [.str "__class__" s.toks] [] _ (by decide +kernel) (by decide +kernel) sub (PySem.F.args_bexc_ga (.ref x) (.str "__class__" s.toks)) ?_;exact Z2 (Z3 (Z2 (Z3 (Z2 (Looks.here a (Z2 (Looks.here f (Z2 (wpAny_holding (wpAny_call (PySem.W.class_get (ox:=ox) (od:=od) X I c.ob (Z3 (Z3 (Z3 h))))))))))))))
theorem Br(c:XIs K C):KitX K (.ref x) (.ref C) (λh=>∃ox od,PySem.W.InstAt h x ox C od) where
 ty:=λ_ _ _ ⟨_,_,I⟩=>I.type
 it:=λ_ _ X _=>by
  obtain⟨cdD,hcD,_⟩:=any_some c.hd;unfold clsIn at hcD
  split at hcD
  .rename_i c' d' cd' sl' ho
   intro A' Q' E' s' k q;exact Z2 (wpAny_loadPart (k _ _ (X _ _ ho)) (Z3 q))
  .cases hcD
 ne:=λh tp dd its n sl X htp=>by
  obtain⟨cdD,hcD,_⟩:=any_some c.hd;refine eq_false_iff.mpr λq=>?_
  have e:=Value.ref.inj (beq_iff_eq.mp q);subst e;unfold clsIn at hcD
  split at hcD
  .rename_i c' d' cd' sl' ho
   have z:=(X _ _ ho).symm.trans htp;cases z
  .cases hcD
 ca:=λX ⟨_,_,I⟩ k=>DN X I c k
end
def Held(H:Hp)(a C:Addr):Prop:=∃d,H a=some (ExH a C d)/\(d=none\/∃b fs,d=some b/\H b=some (.xd fs))
inductive TyX (K:ZA) (H:Hp):V->Value->Prop where
 | non:TyX K H .non (.type "NoneType")
 | ex {a C:Addr} (h:Held H a C) (c:XIs K C):TyX K H (.ref a) (.ref C)
section
#version
theorem TyX.kit(ty:TyX X.K H x t)(I:Inv X pins σ H s)(r:aK x u):∃f:Heap->Prop,KitX X.K u t f/\f s.heap/\u≠ .builtin "__main__.__loader__#opaque":=by
 cases ty with
 | non=>
   cases(r);exact%[_,kitx_none,True.intro|λz=>nomatch z]
 | @ex a C h c=>
   cases(r);obtain⟨d,j,l⟩:=h;obtain⟨⟨o,vs,e,g,b,i⟩,_⟩:=I.hok a _ j;obtain⟨y,m,n,p⟩:=o;dsimp only at g b i;subst g b i;refine%[_,Br c,?_|λz=>nomatch z];rcases l with rfl|⟨q,fs,rfl,v⟩
   .exact%[_,none,e,rfl,rfl|trivial]
   .obtain⟨od,w⟩:=(I.hok q _ v).there;exact%[_,some od,e,rfl,rfl|w]
end
theorem oC:∀{a:List Addr} {us:ZF},aC (a.map V.ref) us->us=a.map Value.ref
 |[],_,.nil=>rfl
 | _::_,_,.cons r t=>by
   cases r;rw[oC t];rfl
theorem zi{X:Cx}:bK X (.builtin "isinstance") (λxs H Q=>∃x y t b,xs=[x,y]/\TyX X.K H x t/\
 ((∃n,y= .ty n/\kitOne X.K t (.type n)=some b)\/(∃D,y= .ref D/\kitOne X.K t (.ref D)=some b)\/∃c d,y= .ref c/\H c=some (.tup (List.map V.ref d))/\kitAny X.K t (d.map Value.ref)=some b)/\Q (.bl b) H):=by
 intro pins s B H xs us Q I r h;obtain⟨x,y,t,b,rfl,ty,f,q⟩:=h;obtain⟨u,C,rfl,g,a⟩:=iQ r;obtain⟨E,Z,p,nb⟩:=ty.kit I g;rcases f with⟨n,rfl,e⟩|⟨D,rfl,e⟩|⟨c,d,rfl,i,e⟩
 .cases(a);exact kia_one Z I.kIn p e nb λtk=>%[.bl b,H,I.tok tk,rfl|q]
 .cases(a);exact kia_one Z I.kIn p e nb λtk=>%[.bl b,H,I.tok tk,rfl|q]
 .cases(a);obtain⟨_,its,j,o,l,m,n,v⟩:=I.hok c _ i;have:=oC j;subst this;obtain⟨G,w,z,A⟩:=o;subst m v;exact PySem.W.kia_tup Z I.kIn p l e nb λtk=>%[.bl b,H,I.tok tk,rfl|q]
theorem DO{X:Cx}{D:Addr}(b:Gl X x)(c:X.mg x=some (.ref D))(a:(x==("__debug__":Str))=false):PE X (.Name x p) (λd H Q=>Q (.ref D) H):=λpins s d H Q I h=>
 eT I b c %[.ref D,H,I,rfl|h] a
theorem Fun.okX{P:Program}{K:ZA}{st:Stmt}(F:Fun K x b st f g)(S:aq N ps (af st))(len:∀vs H Q E,sp vs H Q E->vs.length=ps.length)
 (c:∀(a:Value) (A:Around) (outer:List Env) (s:Shared) (H:Hp) (vs:List V) (Q:VK) (E:XK),bC k (A.deeper (envOfC b (af st) ⇑s f a))->sp vs H Q E->
  ∃t,PSs (eC (CXO P w) P w K mg base N b (af st) f a A outer s H E) (be st) t/\t {nx:=λ_ h=>Q .non h,rt:=Q} (start N vs) H):fD P w K mg base (CXO P w) (k+1) f g ps sp:=by
 obtain⟨m,od,kV,i,n,o,a,ct,j,rfl,lk,d⟩:=F.ex;exact Ca lk d S len λA outer s H vs Q E l e=>c a A outer s H vs Q E l e
noncomputable def aF(mg:ZC)(x:Str):Addr:=match mg x with
 | some (.ref C)=>C
 | _=>0
theorem d5(h:mg x=some (.ref C)):aF mg x=C:=by unfold aF;rw[h]
structure zj (K:ZA) (mg:ZC) (x qual:Str) (st:Stmt) (ps:ZB):Prop where
 at_:mg x=some (.ref (aF mg x))
 is:XIs K (aF mg x)
 ini:∃f fd,MkX K (aF mg x) f/\Fun K "__init__" qual st f fd/\cS K fd ps []
structure rA (P:Program) (w:World) (K:ZA) (mg:ZC) (base:Heap) (k:Nat) (x:Str) (ps:ZB) (sp:Sp):Prop where
 ex:∃f fd,fD P w K mg base (CXO P w) k f fd ps sp/\mg x=some (.ref f)/\keepIn K (.ref f)=true/\cS K fd ps []
structure DP (P:Program) (w:World) (K:ZA) (mg:ZC) (base:Heap) (k:Nat) (x:Str) (ps:ZB) (sp:Sp):Prop where
 ex:∃f fd,fD P w K mg base CX0 k f fd ps sp/\MkX K (aF mg x) f/\mg x=some (.ref (aF mg x))/\cS K fd ps []
section
variable{P:Program}{w:World}{K:ZA}{mg:ZC}{base:Heap}{x qual:Str}{st:Stmt}{N ps:ZB}{k:Nat}{sp:Sp}
theorem aA.calX(D:aA K mg x st ps)(S:aq N ps (af st))
 (a:∀(H:Hp) (vs:List V) (Q:VK) (E:XK),sp vs H Q E->vs.length=ps.length/\∀(f:Addr) (b:Value) (A:Around) (outer:List Env) (s:Shared),bC k (A.deeper (envOfC x (af st) ⇑s f b))->
  ∃t,PSs (eC (CXO P w) P w K mg base N x (af st) f b A outer s H E) (be st) t/\t {nx:=λ_ c=>Q .non c,rt:=Q} (start N vs) H):rA P w K mg base (k+1) x ps sp:=by
 obtain⟨f,d,F,e,g⟩:=D.ex;exact%[f,d,F.okX S (λv H Q E h=>(a H v Q E h).1) (λb A o s H v Q E r h=>(a H v Q E h).2 f b A o s r),e,F.kp|g]
theorem zj.cal(D:zj K mg x qual st ps)(S:aq N ps (af st))(len:∀vs H Q E,sp vs H Q E->vs.length=ps.length)
 (b:∀(f:Addr) (a:Value) (A:Around) (outer:List Env) (s:Shared) (H:Hp) (vs:List V) (Q:VK) (E:XK),exK K (aF mg x) f=true->bC k (A.deeper (envOfC qual (af st) ⇑s f a))->sp vs H Q E->
  ∃t,PSs (eC CX0 P w K mg base N qual (af st) f a A outer s H E).nox (be st) t/\t {nx:=λ_ c=>Q .non c,rt:=Q} (start N vs) H):DP P w K mg base (k+1) x ps sp:=by
 obtain⟨f,d,M,F,e⟩:=D.ini;exact%[f,d,F.ok S len λa A outer s H vs Q E=>b f a A outer s H vs Q E M.ex,M,D.at_|e]
end
section
variable{X:Cx}{K:ZA}{pos:Pos}
theorem oE(g:fU (CXO X.prog X.w) X E)(C:rA X.prog X.w X.K X.mg X.base j x ps sp)(h:bC k X.A)(i:Gl X x)(a:Nat.ble j k=true)
 (b:(x==("__debug__":Str))=false) (c:(e::d).any aW=false) (l:QA X (e::d) t):QE X (.Call (.Name x p) (e::d) [] pos) (nR sp [] E t):=by
 rw[Zv,Yu]at c;obtain⟨f,q,F,m,n,o⟩:=C.ex;exact⟨va F (h.mono (Y6 a)) i m n o .nil g l.h b (av c.1) (cU c.2)⟩
theorem DQ(C:DP X.prog X.w X.K X.mg X.base j x ps sp)(g:bC k X.A)(h:Gl X x)(a:Nat.ble (j+1) k=true)
 (b:(x==("__debug__":Str))=false) (c:(e::d).any aW=false) (i:QA X (e::d) t):QE X (.Call (.Name x p) (e::d) [] pos) (t7 (aF X.mg x) sp t):=by
 rw[Zv,Yu]at c;obtain⟨f,n,F,M,l,m⟩:=C.ex;exact⟨zf M F (g.mono (Y6 a)) h l m i.h b (av c.1) (cU c.2)⟩
theorem t8(b:Gl X x)(c:X.mg x=some (.ref (aF X.mg x)))(a:(x==("__debug__":Str))=false):QE X (.Name x p) (tC (.ref (aF X.mg x))):=⟨DO b c a⟩
theorem DR(a:QE X e b):QE X (.FormattedValue e (-1) none pos) (DK b):=⟨DL a.h⟩
theorem zk:PJ X [] []:= .nil
theorem pjE(a:QE X e t)(h:PJ X b ts):PJ X (e::b) (t::ts):= .cons a.h h
theorem zo{rest:List Expr}(h:PJ X (v1::a::rest) ts):QE X (.JoinedStr (v1::a::rest) pos) (lU ts Str.empty):=⟨Bn h⟩
theorem Cl(c:Bp X.K C f)(a:fW e=false)(b:QE X e d):QE X (.Attribute e f pos) (vt C d f):=⟨Bq c b.h (eV a)⟩
theorem Ff(c:DJ X.K C f)(b:eU e=false)(d:QE X o g)(h:QE X e i):QS X (.Assign [.Attribute o f a] e pos) (Ck X.K C g i f):=⟨Bm c d.h h.h (hZ b)⟩
theorem kH(h:X.K=K):cv X (.builtin "isinstance") (λxs H Q=>∃x y t b,xs=[x,y]/\TyX K H x t/\
 ((∃n,y= .ty n/\kitOne K t (.type n)=some b)\/(∃D,y= .ref D/\kitOne K t (.ref D)=some b)\/∃a c,y= .ref a/\H a=some (.tup (List.map V.ref c))/\kitAny K t (c.map Value.ref)=some b)/\Q (.bl b) H):=by
 subst h;exact⟨zi⟩
end
theorem DS{P:Program}{K:ZA}
 (g:exK K C f=true) (h:QE (eC (CXO P w) P w K mg base N c b i j A outer s₀ H₀ E) e l):
 QS (eC (CXO P w) P w K mg base N c b i j A outer s₀ H₀ E) (.Raise (some e) none pos) (pM C l λa H=>∃d,H a=some (ExO a C (some d))/\H₀ a=none/\E (.ref C) (some d) (drop H a)):=⟨wD g h.h⟩
theorem DT{X:Cx}{C D f:Addr}(l:exK X.K C f=true)(m:Gl X x)(n:X.mg x=some (.ref D))(B:zc X.K D)(g:(x==("__debug__":Str))=false)(h:(e::c).any aW=false)
 (i:∃pl:Sem Bool,eval (.Call (.Attribute (.Name x p) "__init__" b) (e::c) [] pos) X.env=(do
  let j<-eval (.Name x p) X.env
  standAt b.atName
  let(f,first)<-holding [j] (getMethod j "__init__" pl)
  callWith pos f first (backTo pos (starEach (e::c) X.env)) (backToKw pos (keywordEach [] X.env)))) (o:QA X (e::c) t):
 QE X (.Call (.Attribute (.Name x p) "__init__" b) (e::c) [] pos) (tCB (λxs H Q=>∃a d ys,xs=V.ref a::ys/\ys.length<=9/\H a=some (ExO a C d)/\Q .non H) t):=by
 rw[Zv,Yu]at h;obtain⟨pl,i⟩:=i;exact⟨zd m n B (t6 l) o.h g (av h.1) (cU h.2) i⟩
section
#where
end
section
#where
end
section
#where
end
section
#where
end
def clo(c:TE):TE:=λd H Q=>∃a:VK,c d H a/\∀v b,a v b->Q v b
theorem DU{X:Cx}(h:PE X e b):PE X e (clo b):=λpins s c H Q I ⟨d,q,k⟩=>
 thn (h pins s c H d I q) λ_ _ ⟨v,a,f,r,z⟩=>%[v,a,f,r|k v a z]
theorem DV{X:Cx}(h:PE X e t)(k:∀a H Q,t' a H Q->t a H Q):PE X e t':=λpins s a H Q I q=>h pins s a H Q I (k a H Q q)
theorem zq(h:H r=none):drop (upd H r o) r=H:=by
 funext b;unfold drop upd
 simp_all
section
variable{X:Cx}{K:ZA}{pos:Pos}
end
end L2
namespace SBig
open PySem PyProof.Rows
section
variable(prog:Program)(w:World)(A:Around)(SI:Shared->Prop)
def SC{a:Type}(m:StateT SortSt Sem a)(Q:a->SortSt->Prop)(st:SortSt):Prop:=
 ∀s,SI s->↥A (m.run st) (λr s'=>SI s'/\Q r.1 r.2) (λ_ _=>False) s
def Cmp(a:SortKind)(D:Keyed->Prop)(N:Keyed->Nat):Prop:=
 ∀x y s,D x->D y->SI s->↥A (keyLt' a x.1 y.1) (λb s'=>b=decide (N x<N y)/\SI s') (λ_ _=>False) s
end
section
variable{prog:Program}{w:World}{A:Around}{SI:Shared->Prop}{α β:Type}
theorem az{st:SortSt}(h:Q a st):(SC prog w A SI) (pure a) Q st:=λs b=>by
 exact Z3 %[b|h]
theorem au{st:SortSt}(h:(SC prog w A SI) m (λa b=>(SC prog w A SI) (f a) Q b) st):(SC prog w A SI) (m>>= f) Q st:=λs c=>by
 exact Z2 (wpAny_mono (h s c) (λr s' h'=>h'.2 s' h'.1) λ_ _ e=>e)
theorem cI{st:SortSt}(h:(SC prog w A SI) m Q st)(c:∀a b,Q a b->d a b):(SC prog w A SI) m d st:=λs f=>
 wpAny_mono (h s f) (λr s' h'=>%[h'.1|c _ _ h'.2]) λ_ _ e=>e
theorem j2{st:SortSt}(h:Q st st):(SC prog w A SI) get Q st:=λs a=>by
 exact Z3 %[a|h]
theorem iF{st:SortSt}(h:Q ⟨⟩ (f st)):(SC prog w A SI) (modify f) Q st:=λs a=>by
 exact Z3 %[a|h]
theorem vv{st:SortSt}(h:∀s,SI s->↥A m (λa s'=>SI s'/\Q a st) (λ_ _=>False) s):(SC prog w A SI) (liftM m:StateT SortSt Sem α) Q st:=λs b=>by
 exact Z2 (wpAny_mono (h s b) (λa s' h'=>Z3 h') λ_ _ e=>e)
theorem pN{st:SortSt}(h:Q () st):(SC prog w A SI) (liftM (rule t):StateT SortSt Sem Unit) Q st:=vv λs a=>wpAny_rule %[a|h]
theorem cy{st:SortSt}(I:Nat->β->SortSt->Prop)(j:a<=b)(l:I a c st)
 (m:∀i x st,a<=i->i<b->I i x st->(SC prog w A SI) (f i x) (λr g=>match r with| .done y=>Q y g| .yield y=>I (i+1) y g) st) (n:∀x st,I b x st->Q x st):(SC prog w A SI) (forIn [a:b] c f) Q st:=by
 rw[Std.Legacy.Range.forIn_eq_forIn_range'];have o:([a:b]).size=b-a:=by simp[Std.Legacy.Range.size]
 have p:∀d i x st,i+d=b->a<=i->I i x st->(SC prog w A SI) (forIn (List.range' i d 1) x f) Q st:=by
  intro d
  induction d with
  | zero=>
    intro i x st e _ h;subst e;exact az (n x st h)
  | succ d q=>
    intro i x st e s h;rw[List.range'_succ,forIn_cons];refine au (cI (m i x st s ⋯ h) λr g h'=>?_);cases r with
    | done y=>exact az h'
    | yield y=>exact q _ y g ⋯ ⋯ h'
 exact p _ a c st ⋯ (Zh _) l
theorem vw{st:SortSt}(a:xs[i]? =some x)(h:Q x st):(SC prog w A SI) (elem' xs i) Q st:=by
 rw[elem'_eq,a];exact az h
theorem Fg{st:SortSt}(c:Cmp prog w A SI (kindOf st) D N)(d:D x)(f:D y)(h:Q (some (decide (N x<N y))) st):(SC prog w A SI) (lt' x y) Q st:=by
 refine au (j2 (au (vv (λs g=>wpAny_attempt (wpAny_mono (c x y s d f g) (λb s' ⟨i,a⟩=>?_) λ_ _ e=>e.elim)))));subst i;exact%[a|az h]
theorem Bs{st:SortSt}(c:Cmp prog w A SI (kindOf st) D N)(hi:(arrOf st)[i]? =some x)(a:(arrOf st)[j]? =some y)(b:D x)(d:D y)
 (h:Q (some (decide (N x<N y))) st):(SC prog w A SI) (ltAt' i j) Q st:=by
 exact au (j2 (au (vw hi (au (vw a (Fg c b d h))))))
end
end SBig
namespace SBig
open PySem PyProof.Rows
section
variable{prog:Program}{w:World}{A:Around}{SI:Shared->Prop}{α β:Type}
noncomputable def ahead(N:Keyed->Nat)(left:Bool)(a x:Keyed):Bool:=if left then decide (N x<N a)else !decide (N a<N x)
end
end SBig
namespace SBig
open PySem PyProof.Rows
def Srt(N:Keyed->Nat)(l:List Keyed):Prop:=l.Pairwise λx y=>N x<=N y
end SBig
namespace SBig
open PySem PyProof.Rows
section
variable{prog:Program}{w:World}{A:Around}{SI:Shared->Prop}{α β:Type}
theorem vx{a:Array Keyed}{i:Nat}(h:i<a.size):a[i]? =some a[i]/\a.toList[i]? =some a[i]:=%[by simp|by simp]
end
end SBig
namespace SBig
open PySem PyProof.Rows
section
variable{prog:Program}{w:World}{A:Around}{SI:Shared->Prop}{α β:Type}
end
end SBig
namespace SBig
open PySem PyProof.Rows
section
variable{prog:Program}{w:World}{A:Around}{SI:Shared->Prop}{α β:Type}
end
end SBig
namespace SBig
open PySem PyProof.Rows
noncomputable def ky(N:Keyed->Nat)(a:Array Keyed)(i:Nat):Nat:=N (a.getD i (Value.none,Value.none))
theorem zt(h:a[i]? =some x):ky N a i=N x:=by
 unfold ky
 simp_all
theorem rB(h:a[i]? =b[j]?):ky N a i=ky N b j:=by
 unfold ky
 simp_all
structure CR (st0 st:SortSt) (lo:Nat):Prop where
 kind:kindOf st=kindOf st0
 pend:pendingOf st=pendingOf st0
 fail:failedOf st=failedOf st0
 perm:(arrOf st).Perm (arrOf st0)
 same:∀i,i<lo->(arrOf st)[i]? =(arrOf st0)[i]?
theorem CR.refl(st:SortSt)(lo:Nat):CR st st lo:=%[rfl,rfl,rfl,Array.Perm.refl _|λ_ _=>rfl]
theorem CR.size{a st:SortSt}{lo:Nat}(h:CR a st lo):(arrOf st).size=(arrOf a).size:=h.perm.size_eq
theorem CR.rev{a st:SortSt}{lo i j:Nat}(h:CR a st lo)(hi:lo<=i)(b:j<=(arrOf st).size):CR a (setArr st (mirror (arrOf st) i j ((j-i)/2))) lo:=
 %[h.kind,h.pend,h.fail,(mirror_perm _ _ _ _).trans h.perm|λk c=>by
  rw[getElem?_mirror_all b,if_neg ⋯];exact h.same k c]
theorem t9(b:j<=a.size)(k:Nat):ky N (mirror a i j ((j-i)/2)) k=if i<=k/\k<j then ky N a (i+j-1-k)else ky N a k:=by
 split
 .rename_i h
  exact rB (by rw[getElem?_mirror_all b,if_pos h])
 .rename_i h
  exact rB (by rw[getElem?_mirror_all b,if_neg h])
def Up(N:Keyed->Nat)(a:Array Keyed)(lo n:Nat):Prop:=∀i j,i<=j->j<n->ky N a (lo+i)<=ky N a (lo+j)
def Dn(N:Keyed->Nat)(a:Array Keyed)(lo n:Nat):Prop:=∀i j,i<=j->j<n->ky N a (lo+j)<=ky N a (lo+i)
theorem Up.one(N:Keyed->Nat)(a:Array Keyed)(lo:Nat):Up N a lo 1:=λi j b c=>by
 simp_all
theorem Up.step{lo n:Nat}(h:Up N a lo n)(d:1<=n)(f: ¬ ky N a (lo+n)<ky N a (lo+n-1)):Up N a lo (n+1):=λi j b g=>by
 by_cases e:j=n
 .subst e;by_cases c:i=j
  .exact c▸Zh _
  .have:=h i (j-1) ⋯ ⋯;rw[show lo+(j-1)=lo+j-1 by lia]at this
   lia
 .exact h i j b ⋯
theorem Dn.step{lo n:Nat}(h:Dn N a lo n)(d:1<=n)(f:ky N a (lo+n)<=ky N a (lo+n-1)):Dn N a lo (n+1):=λi j b g=>by
 by_cases e:j=n
 .subst e;by_cases c:i=j
  .exact c▸Zh _
  .have:=h i (j-1) ⋯ ⋯;rw[show lo+(j-1)=lo+j-1 by lia]at this
   lia
 .exact h i j b ⋯
theorem Dn.rev{lo n:Nat}(h:Dn N a lo n)(b:lo+n<=a.size):Up N (mirror a lo (lo+n) ((lo+n-lo)/2)) lo n:=λi j c d=>by
 rw[t9 b,t9 b,if_pos ⋯,if_pos ⋯];have:=h (n-1-j) (n-1-i) ⋯ ⋯
 grind
theorem Dn.same{lo n i j:Nat}(h:Dn N a lo n)(d:j<=a.size)(g:∀k b,i<=k->k<j->i<=b->b<j->ky N a k=ky N a b):Dn N (mirror a i j ((j-i)/2)) lo n:=by
 have e:∀k,ky N (mirror a i j _) k=ky N a k:=λk=>by
  rw[t9 d]
  grind
 intro p q c f;rw[e,e];exact h p q c f
section
variable{prog:Program}{w:World}{A:Around}{SI:Shared->Prop}{α β:Type}
theorem eI{i j lo:Nat}{a st:SortSt}(c:Cmp prog w A SI (kindOf a) D N)(d:∀x∈(arrOf a).toList,D x)(r:CR a st lo)(hi:i<(arrOf a).size)(m:j<(arrOf a).size)
 (h:Q (some (decide (ky N (arrOf st) i<ky N (arrOf st) j))) st):(SC prog w A SI) (ltAt' i j) Q st:=by
 have f:=λx n=>d x ((Array.perm_iff_toList_perm.mp r.perm).mem_iff.mp n)
 have b:i<(arrOf st).size:=r.size▸hi;have e:j<(arrOf st).size:=r.size▸m;obtain⟨g,o⟩:=vx b;obtain⟨l,p⟩:=vx e;refine Bs (r.kind▸c) g l (f _ ∅) (f _ ∅) ?_;rw[zt g,zt l]at h;exact h
theorem f6{st:SortSt}(h:Q () (setArr st (mirror (arrOf st) i j ((j-i)/2)))):(SC prog w A SI) (reverseSlice' i j) Q st:=by
 exact iF h
theorem rC{lo nrem:Nat}{st:SortSt}(c:Cmp prog w A SI (kindOf st) D N)(d:∀x∈(arrOf st).toList,D x)(T:1<=nrem)(U:lo+nrem<=(arrOf st).size)
 (h:∀n a,CR st a lo->1<=n->n<=nrem->Up N (arrOf a) lo n->Q (some n) a):(SC prog w A SI) (countRun' lo nrem) Q st:=by
 rw[countRun'_eq];refine au (cI (cy (Q:=λx a=>a=st/\∃n,x=(none,n)/\1<=n/\n<=nrem/\Up N (arrOf st) lo n/\(n=nrem\/ky N (arrOf st) (lo+n)<ky N (arrOf st) (lo+n-1)))
  (λj x a=>a=st/\x=(none,j)/\Up N (arrOf st) lo j) T %[rfl,rfl|Up.one _ _ _] ?_ ?_) ?_)
 .rintro j x a v H ⟨rfl,rfl,up⟩;dsimp only;refine au (eI c d (CR.refl _ lo) ⋯ ⋯ ?_);dsimp only;by_cases q:ky N (arrOf a) (lo+j)<ky N (arrOf a) (lo+j-1)
  .rw[Ze q,if_pos rfl];exact az %[rfl,j,rfl,v,⋯,up|.inr q]
  .rw[Zg q,if_neg ∅];exact az %[rfl,rfl|up.step v q]
 .rintro x a ⟨rfl,rfl,up⟩;exact%[rfl,nrem,rfl,T,Zh _,up|.inl rfl]
 .rintro x f ⟨e1,n,rfl,n1,n2,up,hq⟩;subst e1;dsimp only;by_cases q1:n=nrem
  .rw[if_pos (by simp[q1])];exact az (h n f (CR.refl _ _) n1 n2 up)
  rw[if_neg (by simp[q1])];have hq:ky N (arrOf f) (lo+n)<ky N (arrOf f) (lo+n-1):=hq.resolve_left q1;have n3:n<nrem:=by lia
  by_cases q2:n>1
  .rw[if_pos q2];refine au (eI c d (CR.refl _ lo) ⋯ ⋯ ?_);dsimp only;by_cases q3:ky N (arrOf f) lo<ky N (arrOf f) (lo+n-1)
   .rw[Ze q3,if_pos rfl];exact az (h n f (CR.refl _ _) n1 n2 up)
   .rw[Zg q3,if_neg ∅];refine au (f6 ?_);have r2:=(CR.refl f lo).rev (i:=lo) (j:=lo+n) (Zh _) ⋯;have all:∀i,i<n->ky N (arrOf f) (lo+i)=ky N (arrOf f) lo:=λi hi=>by
     have B:=up 0 i (Yy _) hi;have C:=up i (n-1) ⋯ ⋯;rw[show lo+(n-1)=lo+n-1 by lia]at C;rw[add_zero]at B
     lia
    have ab:Dn N (arrOf f) lo n:=λi j ag H=>by rw[all i ⋯,all j H];exact Zh _
    have ai:Dn N (arrOf f) lo (n+1):=ab.step n1 ⋯;have J:=ai.same (i:=lo) (j:=lo+n) ⋯ (λk p B C I G=>by
     have b1:=all (k-lo) ⋯;have b2:=all (p-lo) ⋯;rw[show lo+(k-lo)=k by lia]at b1;rw[show lo+(p-lo)=p by lia]at b2;rw[b1,b2])
    refine au (pN ?_);refine au (cI (cy (Q:=λx a=>CR f a lo/\∃m q,x=(none,m,q)/\q+1<=m/\m<=nrem/\Dn N (arrOf a) lo m/\(∀k p,lo+m-(q+1)<=k->k<lo+m->lo+m-(q+1)<=p->p<lo+m->ky N (arrOf a) k=ky N (arrOf a) p))
     (λj x a=>CR f a lo/\∃q,x=(none,j,q)/\q+1<=j/\Dn N (arrOf a) lo j/\(∀k p,lo+j-(q+1)<=k->k<lo+j->lo+j-(q+1)<=p->p<lo+j->ky N (arrOf a) k=ky N (arrOf a) p)) ⋯ %[r2,0,rfl,⋯,J|λk p B C I G=>by rw[show k=p by lia]] ?_ ?_) ?_)
    .rintro j x g v H ⟨r,q,rfl,y,o,s⟩;dsimp only;refine au (eI c d r ⋯ ⋯ ?_);dsimp only;by_cases U:ky N (arrOf g) (lo+j)<ky N (arrOf g) (lo+j-1)
     .rw[Ze U,if_pos rfl];by_cases u:q>0
      .rw[if_pos u];refine au (f6 (az %[r.rev ⋯ (by rw[r.size];lia),0,rfl,⋯,?_|λk p B C I G=>by rw[show k=p by lia]]));have E:Dn N (arrOf g) lo (j+1):=o.step ⋯ ⋯;exact E.same (by rw[r.size];lia) s
      .rw[if_neg u];exact az %[r,0,rfl,⋯,o.step ⋯ ⋯|λk p B C I G=>by rw[show k=p by lia]]
     .rw[Zg U,if_neg ∅];refine au (eI c d r ⋯ ⋯ ?_);dsimp only;by_cases Y:ky N (arrOf g) (lo+j-1)<ky N (arrOf g) (lo+j)
      .rw[Ze Y,if_pos rfl];exact az %[r,j,q,rfl,y,⋯,o|s]
      .rw[Zg Y,if_neg ∅];have ee:ky N (arrOf g) (lo+j)=ky N (arrOf g) (lo+j-1):=by lia
       have all:∀k,lo+j-(q+1)<=k->k<lo+(j+1)->ky N (arrOf g) k=ky N (arrOf g) (lo+j-1):=λk B C=>by
        by_cases e:k=lo+j
        .rw[e];exact ee
        .exact s _ _ B ⋯ ⋯ ⋯
       exact az %[r,q+1,rfl,⋯,o.step ⋯ ⋯|λk p B C I G=>(all k ⋯ C).trans (all p ⋯ G).symm]
    .rintro x g ⟨r,q,rfl,y,o,s⟩;exact%[r,nrem,q,rfl,y,Zh _,o|s]
    .rintro x g ⟨r,m,q,rfl,al,hm,o,s⟩;dsimp only;by_cases u:q>0
     .rw[if_pos u];refine au (f6 ?_);have L:=r.rev (i:=lo+m-(q+1)) (j:=lo+m) ⋯ (by rw[r.size];lia);have E:=o.same (i:=lo+m-(q+1)) (j:=lo+m) (by rw[r.size];lia) s;refine au (f6 ?_);have M:=(L).rev (i:=lo) (j:=lo+m) (Zh _) (by rw[(L).size];lia);have z:=(E).rev (by rw[(L).size];lia);refine au (cI (cy (Q:=λx a=>CR f a lo/\∃n,x=(none,n)/\1<=n/\n<=nrem/\Up N (arrOf a) lo n)
       (λj x a=>CR f a lo/\x=(none,j)/\Up N (arrOf a) lo j) ⋯ %[M,rfl|z] ?_ ?_) ?_)
      .rintro j x l v H ⟨t,rfl,b⟩;dsimp only;refine au (eI c d t ⋯ ⋯ ?_);dsimp only;by_cases q:ky N (arrOf l) (lo+j)<ky N (arrOf l) (lo+j-1)
       .rw[Ze q,if_pos rfl];exact az %[t,j,rfl,⋯,⋯|b]
       .rw[Zg q,if_neg ∅];exact az %[t,rfl|b.step ⋯ q]
      .rintro x l ⟨t,rfl,b⟩;exact%[t,nrem,rfl,T,Zh _|b]
      .rintro x l ⟨t,m,rfl,O,m2,b⟩;exact az (h m l t O m2 b)
     .rw[if_neg u];refine au (f6 ?_);have M:=(r).rev (i:=lo) (j:=lo+m) (Zh _) (by rw[(r).size];lia);have z:=(o).rev (by rw[(r).size];lia);refine au (cI (cy (Q:=λx a=>CR f a lo/\∃n,x=(none,n)/\1<=n/\n<=nrem/\Up N (arrOf a) lo n)
       (λj x a=>CR f a lo/\x=(none,j)/\Up N (arrOf a) lo j) ⋯ %[M,rfl|z] ?_ ?_) ?_)
      .rintro j x l v H ⟨t,rfl,b⟩;dsimp only;refine au (eI c d t ⋯ ⋯ ?_);dsimp only;by_cases q:ky N (arrOf l) (lo+j)<ky N (arrOf l) (lo+j-1)
       .rw[Ze q,if_pos rfl];exact az %[t,j,rfl,⋯,⋯|b]
       .rw[Zg q,if_neg ∅];exact az %[t,rfl|b.step ⋯ q]
      .rintro x l ⟨t,rfl,b⟩;exact%[t,nrem,rfl,T,Zh _|b]
      .rintro x l ⟨t,m,rfl,O,m2,b⟩;exact az (h m l t O m2 b)
  .rw[if_neg q2];have e1:n=1:=by lia
   have r2:=CR.refl f lo;have J:Dn N (arrOf f) lo (n+1):=by
    refine Dn.step (λi j ag H=>?_) n1 ⋯;rw[show i=j by lia];exact Zh _
   refine au (pN ?_);refine au (cI (cy (Q:=λx a=>CR f a lo/\∃m q,x=(none,m,q)/\q+1<=m/\m<=nrem/\Dn N (arrOf a) lo m/\(∀k p,lo+m-(q+1)<=k->k<lo+m->lo+m-(q+1)<=p->p<lo+m->ky N (arrOf a) k=ky N (arrOf a) p))
    (λj x a=>CR f a lo/\∃q,x=(none,j,q)/\q+1<=j/\Dn N (arrOf a) lo j/\(∀k p,lo+j-(q+1)<=k->k<lo+j->lo+j-(q+1)<=p->p<lo+j->ky N (arrOf a) k=ky N (arrOf a) p)) ⋯ %[r2,0,rfl,⋯,J|λk p B C I G=>by rw[show k=p by lia]] ?_ ?_) ?_)
   .rintro j x g v H ⟨r,q,rfl,y,o,s⟩;dsimp only;refine au (eI c d r ⋯ ⋯ ?_);dsimp only;by_cases U:ky N (arrOf g) (lo+j)<ky N (arrOf g) (lo+j-1)
    .rw[Ze U,if_pos rfl];by_cases u:q>0
     .rw[if_pos u];refine au (f6 (az %[r.rev ⋯ (by rw[r.size];lia),0,rfl,⋯,?_|λk p B C I G=>by rw[show k=p by lia]]));have E:Dn N (arrOf g) lo (j+1):=o.step ⋯ ⋯;exact E.same (by rw[r.size];lia) s
     .rw[if_neg u];exact az %[r,0,rfl,⋯,o.step ⋯ ⋯|λk p B C I G=>by rw[show k=p by lia]]
    .rw[Zg U,if_neg ∅];refine au (eI c d r ⋯ ⋯ ?_);dsimp only;by_cases Y:ky N (arrOf g) (lo+j-1)<ky N (arrOf g) (lo+j)
     .rw[Ze Y,if_pos rfl];exact az %[r,j,q,rfl,y,⋯,o|s]
     .rw[Zg Y,if_neg ∅];have ee:ky N (arrOf g) (lo+j)=ky N (arrOf g) (lo+j-1):=by lia
      have all:∀k,lo+j-(q+1)<=k->k<lo+(j+1)->ky N (arrOf g) k=ky N (arrOf g) (lo+j-1):=λk B C=>by
       by_cases e:k=lo+j
       .exact e▸ee
       .exact s _ _ B ⋯ ⋯ ⋯
      exact az %[r,q+1,rfl,⋯,o.step ⋯ ⋯|λk p B C I G=>(all k ⋯ C).trans (all p ⋯ G).symm]
   .rintro x g ⟨r,q,rfl,y,o,s⟩;exact%[r,nrem,q,rfl,y,Zh _,o|s]
   .rintro x g ⟨r,m,q,rfl,al,hm,o,s⟩;dsimp only;by_cases u:q>0
    .rw[if_pos u];refine au (f6 ?_);have L:=r.rev (i:=lo+m-(q+1)) (j:=lo+m) ⋯ (by rw[r.size];lia);refine au (f6 ?_);have M:=(L).rev (i:=lo) (j:=lo+m) (Zh _) (by rw[(L).size];lia);have z:=((o.same (i:=lo+m-(q+1)) (j:=lo+m) (by rw[r.size];lia) s)).rev (by rw[(L).size];lia);refine au (cI (cy (Q:=λx a=>CR f a lo/\∃n,x=(none,n)/\1<=n/\n<=nrem/\Up N (arrOf a) lo n)
      (λj x a=>CR f a lo/\x=(none,j)/\Up N (arrOf a) lo j) ⋯ %[M,rfl|z] ?_ ?_) ?_)
     .rintro j x l v H ⟨t,rfl,b⟩;dsimp only;refine au (eI c d t ⋯ ⋯ ?_);dsimp only;by_cases q:ky N (arrOf l) (lo+j)<ky N (arrOf l) (lo+j-1)
      .rw[Ze q,if_pos rfl];exact az %[t,j,rfl,⋯,⋯|b]
      .rw[Zg q,if_neg ∅];exact az %[t,rfl|b.step ⋯ q]
     .rintro x l ⟨t,rfl,b⟩;exact%[t,nrem,rfl,T,Zh _|b]
     .rintro x l ⟨t,m,rfl,O,m2,b⟩;exact az (h m l t O m2 b)
    .rw[if_neg u];refine au (f6 ?_);have M:=(r).rev (i:=lo) (j:=lo+m) (Zh _) (by rw[(r).size];lia);have z:=(o).rev (by rw[(r).size];lia);refine au (cI (cy (Q:=λx a=>CR f a lo/\∃n,x=(none,n)/\1<=n/\n<=nrem/\Up N (arrOf a) lo n)
      (λj x a=>CR f a lo/\x=(none,j)/\Up N (arrOf a) lo j) ⋯ %[M,rfl|z] ?_ ?_) ?_)
     .rintro j x l v H ⟨t,rfl,b⟩;dsimp only;refine au (eI c d t ⋯ ⋯ ?_);dsimp only;by_cases q:ky N (arrOf l) (lo+j)<ky N (arrOf l) (lo+j-1)
      .rw[Ze q,if_pos rfl];exact az %[t,j,rfl,⋯,⋯|b]
      .rw[Zg q,if_neg ∅];exact az %[t,rfl|b.step ⋯ q]
     .rintro x l ⟨t,rfl,b⟩;exact%[t,nrem,rfl,T,Zh _|b]
     .rintro x l ⟨t,m,rfl,O,m2,b⟩;exact az (h m l t O m2 b)
end
end SBig
namespace SBig
open PySem PyProof.Rows
section
variable{prog:Program}{w:World}{A:Around}{SI:Shared->Prop}{α β:Type}
theorem CR.move{a st:SortSt}{lo k l:Nat}(h:CR a st lo)(b:lo+k<(arrOf st).size)(c:l<=k):CR a (setArr st (bubble (arrOf st) (lo+k) (lo+k-(lo+l)))) lo:=
 %[h.kind,h.pend,h.fail,(bubble_perm _ _ _).trans h.perm|λi hi=>by
  rw[getElem?_bubble b _ ⋯,if_neg ⋯,if_neg ⋯];exact h.same i hi]
theorem vy(f:b<a.size)(g:d<=b)(k:Nat):ky N (bubble a b d) k=if k=b-d then ky N a b else if b-d<k/\k<=b then ky N a (k-1)else ky N a k:=by
 by_cases c:k=b-d
 .rw[if_pos c];exact rB (by rw[getElem?_bubble f d g,if_pos c])
 .rw[if_neg c];by_cases e:b-d<k/\k<=b
  .rw[if_pos e];exact rB (by rw[getElem?_bubble f d g,if_neg c,if_pos e])
  .rw[if_neg e];exact rB (by rw[getElem?_bubble f d g,if_neg c,if_neg e])
theorem wE{lo n ok:Nat}{f st:SortSt}(c:Cmp prog w A SI (kindOf f) D N)(d:∀x∈(arrOf f).toList,D x)(r:CR f st lo)(M:1<=ok)(O:ok<=n)(hs:lo+n<=(arrOf f).size)(up:Up N (arrOf st) lo ok)
 (h:∀a,CR f a lo->Up N (arrOf a) lo n->Q true a):(SC prog w A SI) (binarySort' lo n ok) Q st:=by
 rw[binarySort'_eq];rw[show max ok 1=ok by lia];refine au (cI (cy (Q:=λx a=>x=(none,())/\CR f a lo/\Up N (arrOf a) lo n) (λk x a=>x=(none,())/\CR f a lo/\Up N (arrOf a) lo k) O %[rfl,r|up] ?_ ?_) ?_)
 .rintro k x b T hk ⟨rfl,m,up1⟩;dsimp only;have pv:∀i,i<k->lo+i<(arrOf f).size:=λi hi=>by lia
  refine au (cI (cy (Q:=λx a=>a=b/\∃l,x.1=none/\x.2.1=l/\l<=k/\(∀i,i<l->ky N (arrOf b) (lo+i)<=ky N (arrOf b) (lo+k))/\(∀i,l<=i->i<k->ky N (arrOf b) (lo+k)<ky N (arrOf b) (lo+i)))
   (λj x a=>a=b/\∃l q,x=(none,l,q)/\l<=q/\q<=k/\q-l<=k-j/\(∀i,i<l->ky N (arrOf b) (lo+i)<=ky N (arrOf b) (lo+k))/\(∀i,q<=i->i<k->ky N (arrOf b) (lo+k)<ky N (arrOf b) (lo+i))) (Yy _)
   %[rfl,0,k,rfl,⋯,⋯,⋯,λi hi=>absurd hi (Ys _)|λi M h2=>by lia] ?_ ?_) ?_)
  .rintro j x g _ U ⟨rfl,l,q,rfl,B,o,Y,s,t⟩;dsimp only;by_cases u:l>=q
   .rw[if_pos u];have e:l=q:=by lia
    subst e;exact az %[rfl,l,rfl,rfl,o,s|t]
   .rw[if_neg u];refine au (eI c d m ⋯ ⋯ ?_);dsimp only;by_cases p:ky N (arrOf g) (lo+k)<ky N (arrOf g) (lo+(l+q)/2)
    .rw[Ze p,if_pos rfl];exact az %[rfl,l,_,rfl,⋯,⋯,⋯,s|λi v z=>Zf p (up1 _ _ v z)]
    .rw[Zg p,if_neg ∅];exact az %[rfl,_,q,rfl,⋯,⋯,⋯,λi v=>Y8 (up1 i ((l+q)/2) ⋯ ⋯) ⋯|t]
  .rintro x g ⟨rfl,l,q,rfl,B,o,Y,s,t⟩;have e:l=q:=by lia
   subst e;exact%[rfl,l,rfl,rfl,o,s|t]
  .rintro⟨x1,x2,x3⟩ g ⟨e2,l,G,H,C,s,t⟩;subst e2;dsimp only at G H;subst G H;dsimp only;rw[moveDown'_eq];refine au (iF (az %[rfl,m.move (by rw[m.size];lia) C|?_]));have y:lo+k<(arrOf g).size:=by rw[m.size];lia
   intro i j E U;rw[vy y ⋯,vy y ⋯];have ed:lo+k-(lo+k-(lo+x2))=lo+x2:=by lia
   rw[ed];by_cases v:lo+i=lo+x2
   .rw[if_pos v];by_cases z:lo+j=lo+x2
    .rw[if_pos z];exact Zh _
    .rw[if_neg z,if_pos ⋯];have:=t (j-1) ⋯ ⋯;rw[show lo+(j-1)=lo+j-1 by lia]at this
     lia
   .rw[if_neg v];by_cases I:lo+x2<lo+i/\lo+i<=lo+k
    .rw[if_pos I,if_neg ⋯,if_pos ⋯];have:=up1 (i-1) (j-1) ⋯ ⋯;rw[show lo+(j-1)=lo+j-1 by lia,show lo+(i-1)=lo+i-1 by lia]at this;exact this
    .rw[if_neg I];by_cases J:lo+j=lo+x2
     .rw[if_pos J];exact s i ⋯
     .rw[if_neg J];by_cases L:lo+x2<lo+j/\lo+j<=lo+k
      .rw[if_pos L];have:=up1 i (j-1) ⋯ ⋯;rw[show lo+(j-1)=lo+j-1 by lia]at this;exact this
      .rw[if_neg L];exact up1 i j E ⋯
 .rintro x b ⟨rfl,m,up1⟩;exact%[rfl,m|up1]
 .rintro x b ⟨rfl,m,up1⟩;exact az (h b m up1)
end
end SBig
namespace SBig
open PySem PyProof.Rows
section
variable{prog:Program}{w:World}{A:Around}{SI:Shared->Prop}
theorem Bt(h:Up N a 0 a.size):Srt N a.toList:=by
 refine List.pairwise_iff_getElem.mpr λi j hi b c=>?_
 have g:∀i hi,N a.toList[i]=ky N a (0+i):=λi hi=>(zt ∅).symm
 rw[g,g];exact h i j ⋯ (b)
theorem sc_sortFew{st:SortSt}(c:Cmp prog w A SI (kindOf st) D N)(d:∀x∈(arrOf st).toList,D x)(E:1<=(arrOf st).size)(l:(arrOf st).size<64)(z:pendingOf st= #[])(G:failedOf st=none)
 (h:∀a,(arrOf a).toList.Perm (arrOf st).toList->Srt N (arrOf a).toList->failedOf a=none->Q () a):(SC prog w A SI) sortRuns' Q st:=by
 rw[sortRuns'_eq];refine au (j2 ?_);dsimp only;have H:minRun' (arrOf st).size (arrOf st).size 0=(arrOf st).size:=by
  obtain⟨m,e⟩:∃m,(arrOf st).size=m+1:=%[_|(Nat.sub_add_cancel E).symm]
  rw[e]at l ⊢;rw[minRun'_succ,if_pos l,add_zero]
 rw[H];refine au (cI (cy (Q:=λx a=>x=(none,(arrOf st).size)/\(arrOf a).toList.Perm (arrOf st).toList/\Srt N (arrOf a).toList/\failedOf a=none/\(pendingOf a).size=1)
  (λj x a=>(j=0/\x=(none,0)/\a=st)\/(x=(none,(arrOf st).size)/\(arrOf a).toList.Perm (arrOf st).toList/\Srt N (arrOf a).toList/\failedOf a=none/\(pendingOf a).size=1)) (Yy _) (.inl %[rfl,rfl|rfl]) ?_ ?_) ?_)
 .rintro j x f _ I (⟨rfl,rfl,rfl⟩|⟨rfl,ok⟩)
  .dsimp only;rw[if_neg ⋯];refine au (rC c d ⋯ ⋯ λn g B J U o=>?_);dsimp only;have C:∀(b:SortSt) (n:Nat),n=(arrOf f).size->CR f b 0->Up N (arrOf b) 0 n->(pendingOf b).back? =none/\(arrOf b).toList.Perm (arrOf f).toList/\Srt N (arrOf b).toList/\failedOf b=none/\(pendingOf b).size=0:=λb n e r u=>by
    refine%[by rw[r.pend,z];rfl,Array.perm_iff_toList_perm.mp r.perm,Bt (by rw[r.size,<-e];exact u),r.fail.trans G|by rw[r.pend,z];rfl]
   by_cases i:n<(arrOf f).size
   .rw[if_pos i];refine au (pN (au (wE c d B J ⋯ ⋯ o λb L p=>?_)));rw[if_neg ∅];refine au (j2 ?_);obtain⟨q,s,t,v,y⟩:=C b _ ⋯ L p;rw[q];dsimp only;refine au (iF (az (.inr %[?_,s,t,v|?_])))
    .rw[zero_add,Nat.sub_zero,Nat.min_self]
    .show((pendingOf b).push _).size=1;rw[Array.size_push,y]
   .rw[if_neg i];refine au (j2 ?_);obtain⟨q,s,t,v,y⟩:=C g _ ⋯ B o;rw[q];dsimp only;refine au (iF (az (.inr %[?_,s,t,v|?_])))
    .rw[zero_add,show n=(arrOf f).size by lia]
    .rw[Array.size_push,y]
  .dsimp only;rw[if_pos (Zh _)];exact az %[rfl|ok]
 .rintro x f (⟨e,_⟩|ok)
  .lia
  .exact ok
 .rintro x f ⟨rfl,M,O,T,Y⟩;dsimp only;refine au (cI (cy (Q:=λx a=>x=(none,())/\a=f) (λj x a=>x=(none,())/\a=f) (Yy _) %[rfl|rfl] ?_ ?_) ?_)
  .rintro j x g _ I ⟨rfl,rfl⟩;refine au (j2 ?_);rw[if_pos ⋯];exact az %[rfl|rfl]
  .rintro x g e;exact e
  .rintro x g ⟨rfl,rfl⟩;exact az (h g M O T)
end
end SBig
namespace STab
open PySem PySem.SetTable
theorem rD:∀k,∃q,5^(2^k)=1+2^(k+2)*(2*q+1)
 | 0=>%[0|rfl]
 | k+1=>by
   obtain⟨q,e⟩:=rD k;refine%[q+2^k*(2*q+1)*(2*q+1)|?_];rw[pow_succ 2 k,Nat.pow_mul,e]
   grind
noncomputable def step(M i:Nat):Nat:=(i*5+1)%M
noncomputable def iter(M:Nat):Nat->Nat->Nat
 | 0,i=>i
 | n+1,i=>step M (iter M n i)
noncomputable def geo:Nat->Nat
 | 0=>0
 | n+1=>geo n*5+1
theorem pO:∀n,4*geo n+1=5^n
 | 0=>rfl
 | n+1=>by
   have:=pO n;rw[pow_succ,<-this,geo]
   lia
theorem jw(M:Nat)(i:Nat):∀n,iter M n i%M=(5^n*i+geo n)%M
 | 0=>by simp[iter,geo]
 | n+1=>by
   rw[iter,step,Nat.mod_mod,geo,pow_succ];rw[add_mod,Nat.mul_mod,(jw M i n),<-Nat.mul_mod,<-add_mod]
   congr 1
   grind
theorem lV:∀(k i e:Nat),e<2^k->∃n,n<2^k/\iter (2^k) n i%2^k=e
 | 0,i,e,c=>%[0,by simp|by simp at c;subst c;simp[Nat.mod_one]]
 | k+1,i,e,c=>by
   obtain⟨n,M,t⟩:=lV k i (e%2^k) (mod_lt _ (Nat.two_pow_pos k));have d:∀n,iter (2^(k+1)) n i%2^(k+1)%2^k=iter (2^k) n i%2^k:=λn=>by
    rw[Nat.mod_mod_of_dvd _ (Nat.pow_dvd_pow 2 (Y7 k)),<-Nat.mod_mod_of_dvd _ (Nat.pow_dvd_pow 2 (Y7 k)),jw,Nat.mod_mod_of_dvd _ (Nat.pow_dvd_pow 2 (Y7 k)),jw]
   obtain⟨q,b⟩:=rD k;have w:geo (2^k)=2^k*(2*q+1):=by
    have g:=pO (2^k);rw[b,Nat.pow_add]at g;have:2^k*2^2*(2*q+1)=4*(2^k*(2*q+1)):=by
     rw[Nat.mul_right_comm];lia
    lia
   have f:∀n,iter (2^(k+1)) (n+2^k) i%2^(k+1)=(iter (2^(k+1)) n i+2^k)%2^(k+1):=λn=>by
    rw[jw];have y:5^(n+2^k)*i+geo (n+2^k)=5^(2^k)*(5^n*i+geo n) +geo (2^k):=by
     have g1:=pO (n+2^k);have g2:=pO n
     grind
    rw[y,b,w];have z:2^(k+1)=2*2^k:=by rw[pow_succ];lia
    have j:2^(k+2)=2*2^(k+1):=by rw[pow_succ];lia
    have p:=jw (2^(k+1)) i n
    generalize 5^n*i+geo n=v at p ⊢
    have A:(1+2^(k+2)*(2*q+1))*v+2^k*(2*q+1)=v+2^k+2^(k+1)*(2*((2*q+1)*v) +q):=by
     rw[Nat.add_mul,Nat.one_mul,j];have B:2*2^(k+1)*(2*q+1)*v=2^(k+1)*(2*((2*q+1)*v)):=by
      simp only[Nat.mul_assoc,Nat.mul_left_comm]
     have C:2^k*(2*q+1)=2^k+2^(k+1)*q:=by
      rw[z,Nat.mul_add,Nat.mul_one]
      lia
     rw[B,C,Nat.mul_add]
     lia
    rw[A,Nat.add_mul_mod_self_left,add_mod,<-p,<-add_mod]
   have l:=d n;rw[t]at l;have E:iter (2^(k+1)) n i%2^(k+1)<2^(k+1):=mod_lt _ (Nat.two_pow_pos _);have m:=f n;rw[add_mod,Nat.mod_eq_of_lt (by lia:2^k<2^(k+1))]at m;obtain⟨a,r⟩:∃a,a=iter (2^(k+1)) n i%2^(k+1):=%[_|rfl]
   rw[<-r]at l E m;have o:a=e\/(a+2^k)%2^(k+1)=e:=by
    have s:=Nat.div_add_mod a (2^k);have G:=Nat.div_add_mod e (2^k);have H:a/2^k<2:=Nat.div_lt_of_lt_mul ⋯;have I:e/2^k<2:=Nat.div_lt_of_lt_mul ⋯;rw[l]at s
    generalize a/2^k=u at s H
    generalize e/2^k=v at G I
    have J:u=0\/u=1:=by lia
    have L:v=0\/v=1:=by lia
    rcases J with rfl|rfl<;> rcases L with rfl|rfl
    .left;lia
    .right
     rw[Nat.mod_eq_of_lt ⋯]
     lia
    .right
     rw[show a+2^k=e+2^(k+1) by lia,Nat.add_mod_right,Nat.mod_eq_of_lt c]
    .left;lia
   rcases o with h|h
   .exact%[n,⋯|by rw[<-r,h]]
   .exact%[n+2^k,⋯|by rw[m,h]]
end STab
namespace STab
open PySem PySem.SetTable
noncomputable def stand(t:SetTable)(h:Int):Nat->Probe
 | 0=>t.probeStart h
 | n+1=>t.advance (stand t h n)
noncomputable def way(t:SetTable)(h:Int)(n:Nat):Nat:=(stand t h n).j
noncomputable def aG(t:SetTable)(h:Int):Nat->Nat×Nat
 | 0=>(bits h%(t.mask+1),bits h)
 | r+1=>leap t.mask (aG t h r).1 (aG t h r).2
theorem kI(t:SetTable)(h:Int):∀n,(stand t h n).dummy=none
 | 0=>rfl
 | n+1=>by
   have:=kI t h n;show(t.advance _).dummy=none;unfold advance
   split
   .exact this
   .exact this
theorem Bu(m i:Nat):runEnd m i-i<=9:=by
 unfold runEnd
 split<;> lia
theorem wF(t:SetTable)(h:Int):∀r,∃n,n<=10*r/\∀d,d<=runEnd t.mask (aG t h r).1-(aG t h r).1->
 stand t h (n+d)=%[(aG t h r).1+d,runEnd t.mask (aG t h r).1-(aG t h r).1-d,(aG t h r).1,(aG t h r).2|none]:=by
 have a:∀n i b,stand t h n=%[i,runEnd t.mask i-i,i,b|none]->∀d,d<=runEnd t.mask i-i->stand t h (n+d)=%[i+d,runEnd t.mask i-i-d,i,b|none]:=by
  intro n i b e d
  induction d with
  | zero=>intro _;rw[add_zero,e];rfl
  | succ d c=>
    intro f;show t.advance (stand t h (n+d))=_;rw[c ⋯];unfold advance;rw[if_pos ⋯]
    grind
 intro r
 induction r with
 | zero=>exact%[0,Yy _|a 0 _ _ rfl]
 | succ r c=>
   obtain⟨n,g,e⟩:=c;have j:=Bu t.mask (aG t h r).1;refine%[n+(runEnd t.mask (aG t h r).1-(aG t h r).1) +1,⋯|a _ _ _ ?_];show t.advance _=_;rw[e _ (Zh _)];unfold advance;rw[if_neg ⋯];rfl
theorem Bv(h:Int):bits h<2^64:=by
 unfold bits
 grind
theorem lW(t:SetTable)(h:Int):∀r,(aG t h r).2=bits h/32^r
 | 0=>by simp[aG]
 | r+1=>by
   show(aG t h r).2/32=_;rw[lW t h r,Nat.div_div_eq_div_mul,pow_succ]
theorem zu(t:SetTable)(h:Int):∀r,(aG t h r).1<t.mask+1
 | 0=>mod_lt _ (succ_pos _)
 | r+1=>mod_lt _ (succ_pos _)
theorem i5(t:SetTable)(h:Int):∀m,(aG t h (12+m)).1=iter (t.mask+1) m (aG t h 12).1
 | 0=>rfl
 | m+1=>by
   show((aG t h (12+m)).1*5+1+(aG t h (12+m)).2/32)%(t.mask+1)=step _ _;rw[i5 t h m,lW,Nat.div_div_eq_div_mul,<-pow_succ];have a:bits h/32^(12+m+1)=0:=by
    exact Nat.div_eq_of_lt (Zf (Bv h) (Y8 (by decide:2^64<=32^13) (Nat.pow_le_pow_right (by decide) ⋯)))
   rw[a,add_zero];rfl
theorem lX(a:t.mask+1=2^k)(h:Int)(e:Nat)(c:e<=t.mask):∃r,r<turns t.mask/\(aG t h r).1=e:=by
 obtain⟨n,d,b⟩:=lV k _ e ⋯;refine%[12+n,by unfold turns;lia|?_];rw[i5,a];rw[<-a]at b;have:iter (t.mask+1) n (aG t h 12).1<t.mask+1:=by rw[<-i5];exact zu t h _
 rw[Nat.mod_eq_of_lt this]at b;exact a▸b
theorem ue(a:t.mask+1=2^k)(h:Int)(e:Nat)(b:e<=t.mask):∃n,n+10<=10*turns t.mask/\way t h n=e:=by
 obtain⟨r,f,c⟩:=lX a h e b;obtain⟨n,g,d⟩:=wF t h r;refine%[n,⋯|?_];have:=d 0 (Yy _);unfold way;rw[add_zero]at this;rw[this];exact c
theorem rE(o:t.dummies= #[]){hashAt:Nat->Int}:∀(fuel n m:Nat),n<=m->m<n+fuel->t.slot (way t h m)= .empty->
 ∃q,n<=q/\q<=m/\(∀j,n<=j->j<q->∃i,t.slot (way t h j)= .live i/\hashAt i≠h)/\
  ((t.slot (way t h q)= .empty/\probe.go t hashAt h fuel (stand t h n)=some (.empty (way t h q) none))\/
   ∃i,t.slot (way t h q)= .live i/\hashAt i=h/\probe.go t hashAt h fuel (stand t h n)=some (.candidate (way t h q) i (stand t h (q+1))))
 | 0,n,m,g,r,_=>by lia
 | fuel+1,n,m,g,r,p=>by
   have d:probe.go t hashAt h (fuel+1) (stand t h n)=(match t.slot (stand t h n).j with
    | .empty=>some _
    | .dummy=>probe.go t hashAt h fuel (t.advance {stand t h n with dummy:=some _})
    | .live i=>if hashAt i==h then some _ else probe.go t hashAt h fuel _):=rfl
   have l:(stand t h n).j=way t h n:=rfl;cases c:t.slot _ with
   | empty=>
     refine%[n,Zh _,g,λj a b=>by lia|.inl %[c|?_]];rw[d,l,c,kI]
   | dummy=>
     exfalso;unfold slot at c;dsimp only at c
     split at c
     .lia
     .split at c
      .rename_i q
       rw[o]at q;simp[has]at q
      .lia
   | live i=>
     by_cases f:hashAt i=h
     .refine%[n,Zh _,g,λj a b=>by lia|.inr %[i,c,f|?_]];rw[d,l,c];dsimp only;rw[if_pos (by simp[f])];rfl
     .have s:n≠m:=λq=>by rw[q,p]at c;cases c
      obtain⟨q,z,u,v,w⟩:=rE o fuel (n+1) m ⋯ ⋯ p;have y:probe.go t hashAt h (fuel+1) (stand t h n)=probe.go t hashAt h fuel (stand t h (n+1)):=by
       rw[d,l,c];dsimp only;rw[if_neg (by simp[f])];rfl
      refine%[q,⋯,u,λj a b=>?_|?_]
      .by_cases e:j=n
       .exact e▸%[i,c|f]
       .exact v j ⋯ b
      .exact y▸w
end STab
namespace STab
open PySem PySem.SetTable
theorem lY(xs:Array Nat)(j:Nat)(d:∀a b (s:a<xs.size) (t:b<xs.size),a<b->xs[a]<xs[b]):∀(fuel lo hi:Nat),hi-lo<=fuel->lo<=hi->hi<=xs.size->(∀i (h:i<xs.size),i<lo->xs[i]<j)->(∀i (h:i<xs.size),hi<=i->j<=xs[i])->
 below.go xs j fuel lo hi<=xs.size/\(∀i (h:i<xs.size),i<below.go xs j fuel lo hi->xs[i]<j)/\(∀i (h:i<xs.size),below.go xs j fuel lo hi<=i->j<=xs[i])
 | 0,lo,hi,p,q,f,g,l=>by
   have e:lo=hi:=by lia
   subst e;exact%[f,g|l]
 | fuel+1,lo,hi,p,q,f,g,l=>by
   rw[below.go];by_cases c:lo<hi
   .rw[if_pos c];dsimp only;have n:(lo+hi)/2<xs.size:=by lia
    have r:xs.getD ((lo+hi)/2) j=xs[(lo+hi)/2]:=by simp[Array.getD,n]
    rw[r];by_cases m:xs[(lo+hi)/2]<j
    .rw[if_pos m];refine lY xs j d fuel _ hi ⋯ ⋯ f (λi h o=>?_) l;by_cases e:i=(lo+hi)/2
     .subst e;exact m
     .exact Nat.lt_trans (d i _ h n ⋯) m
    .rw[if_neg m];refine lY xs j d fuel lo _ ⋯ ⋯ ⋯ g (λi h o=>?_);by_cases e:i=(lo+hi)/2
     .subst e;lia
     .have:=d _ i n h ⋯
      lia
   .rw[if_neg c];have e:lo=hi:=by lia
    subst e;exact%[f,g|l]
def zv(xs:Array Nat):Prop:=∀a b c (d:b<xs.size),a<b->xs[a]<xs[b]
theorem i7(a:zv xs)(j:Nat):below xs j<=xs.size/\(∀i (h:i<xs.size),i<below xs j->xs[i]<j)/\(∀i (h:i<xs.size),below xs j<=i->j<=xs[i]):=
 lY xs j a xs.size 0 xs.size ⋯ (Yy _) (Zh _) (λi h q=>absurd q (Ys _)) (λi h q=>by lia)
theorem zw(a:zv xs)(h:xs[i]? =some j):below xs j=i:=by
 obtain⟨f,c,d⟩:=i7 a j;obtain⟨hi,e⟩:=Array.getElem?_eq_some_iff.mp h;rcases Nat.lt_trichotomy i _ with q|q|q
 .have:=c i hi q
  lia
 .exact q.symm
 .have b:below xs j<xs.size:=by lia
  have:=d _ b (Zh _);have:=a _ i b hi q
  lia
theorem oF{t:SetTable}(a:zv t.place)(h:t.place[i]? =some j):t.slot j= .live i:=by
 unfold slot;dsimp only;rw[zw a h,h];simp
theorem i8{t:SetTable}(a:zv t.place)(b:t.dummies= #[])(j:Nat):(∃i,t.place[i]? =some j/\t.slot j= .live i)\/(j∉t.place.toList/\t.slot j= .empty):=by
 by_cases h:j∈t.place.toList
 .obtain⟨i,hi⟩:=Yz h;have hi:=by simpa using hi
  exact .inl %[i,hi|oF a hi]
 .refine .inr %[h|?_];unfold slot;rw[if_neg,if_neg]
  .rw[b];simp[has]
  .intro q;exact h (mem_toList_iff.mpr (Array.mem_of_getElem? (by simpa using q)))
theorem rF(h:t.mask=t'.mask)(x:Int):∀n,stand t x n=stand t' x n
 | 0=>by
   show t.probeStart x=t'.probeStart x;unfold probeStart;rw[h]
 | n+1=>by
   show t.advance _=t'.advance _;rw[rF h x n];unfold advance;rw[h]
theorem oG(h:t.mask=t'.mask)(x:Int)(n:Nat):way t x n=way t' x n:=by unfold way;rw[rF h]
structure WF (t:SetTable) (es:Array (Int×Value)):Prop where
 pow:∃k,t.mask+1=2^k
 big:7<=t.mask
 dum:t.dummies= #[]
 rise:zv t.place
 inb:∀j∈t.place.toList,j<=t.mask
 size:t.place.size=es.size
 chain:∀(i j:Nat) h x,t.place[i]? =some j->es[i]? =some (h,x)->∃n,way t h n=j/\∀m,m<n->way t h m∈t.place.toList
theorem nodup_sub [DecidableEq c]:∀{l m:List c},l.Nodup->(∀x∈l,x∈m)->l.length<=m.length
 |[],_,_,_=>Yy _
 | x::l,m,d,a=>by
   obtain⟨f,g⟩:=nodup_cons.mp d;have b:=a x Zl;have h:=nodup_sub (m:=m.erase x) g λy i=>(List.mem_erase_of_ne (λe=>f (by simp_all))).mpr (a y (Zj _ i))
   rw[List.length_erase_of_mem b]at h;have:=List.length_pos_of_mem b;rw[Zq]
   lia
theorem uf(W:WF t v)(R:t.place.size<=t.mask)(h:Int):∃m,m+10<=10*turns t.mask/\way t h m∉t.place.toList/\(∀q,q<m->way t h q∈t.place.toList):=by
 obtain⟨k,l⟩:=W.pow;have ex:∃e,e<=t.mask/\e∉t.place.toList:=by
  refine Classical.byContradiction λb=>?_
  have:(List.range (t.mask+1)).length<=t.place.toList.length:=nodup_sub nodup_range λx o=>(λe c=>Classical.byContradiction λq=>b %[e,c|q]) x (by have:=mem_range.mp o;lia)
  rw[Yb,Za]at this
  lia
 obtain⟨e,c,f⟩:=ex;obtain⟨n,p,hw⟩:=ue l h e c;have:∀d,∀n,n<=d->n+10<=10*turns t.mask->way t h n∉t.place.toList->∃m,m+10<=10*turns t.mask/\way t h m∉t.place.toList/\(∀q,q<m->way t h q∈t.place.toList):=by
  intro d
  induction d with
  | zero=>
    intro n r g i;have:n=0:=by lia
    subst this;exact%[0,g,i|λq j=>absurd j (Ys _)]
  | succ d s=>
    intro n r g i;by_cases a:∀q,q<n->way t h q∈t.place.toList
    .exact%[n,g,i|a]
    .obtain⟨q,j⟩:=Classical.not_forall.mp a;obtain⟨w,u⟩:=Classical.not_imp.mp j;exact s q ⋯ ⋯ u
 exact this n n (Zh _) p (hw▸f)
end STab
namespace STab
open PySem PySem.SetTable
theorem jx(xs:Array a)(p:Nat)(x:a)(b:p<=xs.size):(insertAt xs p x).toList=xs.toList.take p++x::xs.toList.drop p:=by
 unfold insertAt;rw[toList_append,toList_push,toList_extract,toList_extract,List.extract_eq_take_drop,List.extract_eq_take_drop];rw[List.drop_zero,Nat.sub_zero,Zm (l:=xs.toList.drop p) ∅];simp
theorem ug(xs:Array c)(x:c)(f:p<=xs.size)(i:Nat):(insertAt xs p x)[i]? =if i<p then xs[i]? else if i=p then some x else xs[i-1]? :=by
 have e:(insertAt xs p x)[i]? =(insertAt xs p x).toList[i]? :=by simp
 rw[e,jx xs p x f];have g:(xs.toList.take p).length=p:=by simp_all
 by_cases a:i<p
 .rw[if_pos a,Y3 ⋯,List.getElem?_take,if_pos a];simp
 .rw[if_neg a,Y4 ⋯,g];by_cases b:i=p
  .rw[if_pos b,b,sub_self];rfl
  .rw[if_neg b];obtain⟨d,h⟩:∃d,i-p=d+1:=%[i-p-1|⋯]
   rw[h,List.getElem?_cons_succ,getElem?_drop];rw[show p+d=i-1 by lia];simp
theorem ii(xs:Array a)(p:Nat)(x:a)(b:p<=xs.size):(insertAt xs p x).size=xs.size+1:=by
 rw[<-Za,jx xs p x b,Z8,Zq,Yd,Y9,Za]
 lia
theorem zx(t:SetTable)(h:Int):∀n,(stand t h n).j+(stand t h n).more<=t.mask
 | 0=>by
   show bits h%(t.mask+1) +(runEnd t.mask _-bits h%(t.mask+1))<=t.mask;have:=mod_lt (bits h) (show 0<t.mask+1 from succ_pos _);unfold runEnd
   split<;> lia
 | n+1=>by
   have a:=zx t h n;show(t.advance _).j+(t.advance _).more<=t.mask;unfold advance
   split
   .lia
   .dsimp only[leap];have:=mod_lt ((stand t h n).i*5+1+(stand t h n).perturb/32) (show 0<t.mask+1 from succ_pos _);unfold runEnd
    split<;> lia
theorem pP(t:SetTable)(h:Int)(n:Nat):way t h n<=t.mask:=by
 have:=zx t h n;unfold way
 lia
theorem WF.put(W:WF t J)(U:way t h m∉t.place.toList)(Y:∀q,q<m->way t h q∈t.place.toList)(r f:Bool):
 (t.put (way t h m)).2=below t.place (way t h m)/\(t.put (way t h m)).1.mask=t.mask/\(t.put (way t h m)).1.place.size=t.place.size+1/\(t.put (way t h m)).1.led=t.led/\(t.put (way t h m)).1.plain=t.plain/\(t.put (way t h m)).1.moves=t.moves/\
  WF {(t.put (way t h m)).1 with led:=r,plain:=f} (insertAt J (t.put (way t h m)).2 (h,x)):=by
 have hd:has t.dummies (way t h m)=false:=by rw[W.dum];simp[has]
 have ep:t.put (way t h m)=({t with place:=insertAt t.place (below t.place (way t h m)) (way t h m)},below t.place (way t h m)):=by
  unfold SetTable.put;dsimp only;rw[hd];rfl
 rw[ep];obtain⟨g,L,M⟩:=i7 W.rise (way t h m)
 generalize hp:below t.place (way t h m)=p at g L M
 have w:p<=J.size:=by rw[<-W.size];exact g
 have s3:∀i (hi:i<t.place.size),p<=i->way t h m<t.place[i]:=λi hi q=>by
  have:=M i hi q;rcases Nat.eq_or_lt_of_le this with e|e
  .exact absurd (by rw[e];simp) U
  .exact e
 have c:∀y,y∈(insertAt t.place p (way t h m)).toList↔y=way t h m\/y∈t.place.toList:=λy=>by
  rw[jx _ _ _ g,Yk,Yn];have:=Yx p t.place.toList
  constructor
  .rintro(q|q|q)
   .exact .inr (mem_of_mem_take q)
   .exact .inl q
   .exact .inr (List.mem_of_mem_drop q)
  .rintro(q|q)
   .exact .inr (.inl q)
   .rw[<-this]at q;rcases X4 q with q|q
    .exact .inl q
    .exact .inr (.inr q)
 refine%[rfl,rfl,ii _ _ _ g,rfl,rfl,rfl,W.pow,W.big,W.dum,?_,?_,?_|?_]
 .intro a b ha B C;have l:(insertAt t.place p (way t h m))[a]? =some (insertAt t.place p (way t h m))[a]:=by simp
  have d:(insertAt t.place p (way t h m))[b]? =some (insertAt t.place p (way t h m))[b]:=by simp
  show(insertAt t.place p (way t h m))[a]<(insertAt t.place p (way t h m))[b];rw[ug _ _ g]at l d;have ab:b<t.place.size+1:=(ii t.place p (way t h m) g)▸B;by_cases E:a<p
  .rw[if_pos E]at l;obtain⟨u,G⟩:=Array.getElem?_eq_some_iff.mp l;rw[<-G];by_cases r:b<p
   .rw[if_pos r]at d;obtain⟨f,v⟩:=Array.getElem?_eq_some_iff.mp d;exact v▸W.rise a b u f C
   .rw[if_neg r]at d;by_cases f:b=p
    .rw[if_pos f]at d;exact(Z9 d)▸L a u E
    .rw[if_neg f]at d;obtain⟨v,H⟩:=Array.getElem?_eq_some_iff.mp d;exact H▸W.rise a (b-1) u v ⋯
  .rw[if_neg E]at l;have r: ¬ b<p:=by lia
   have f: ¬ b=p:=by lia
   rw[if_neg r,if_neg f]at d;obtain⟨v,H⟩:=Array.getElem?_eq_some_iff.mp d;rw[<-H];by_cases u:a=p
   .rw[if_pos u]at l;exact(Z9 l)▸s3 (b-1) v ⋯
   .rw[if_neg u]at l;obtain⟨G,a4⟩:=Array.getElem?_eq_some_iff.mp l;exact a4▸W.rise (a-1) (b-1) G v ⋯
 .intro y hy;rcases(c y).mp hy with q|q
  .rw[q];exact pP t h m
  .exact W.inb y q
 .rw[ii _ _ _ g,ii _ _ _ w,W.size]
 .intro i j h' N hi o;have O:∀n,way {t with place:=insertAt t.place p (way t h m),led:=r,plain:=f} h' n=way t h' n:=λn=>oG (t':=t) (by rfl) h' n
  have I:∃n,way t h' n=j/\∀q,q<n->way t h' q∈(insertAt t.place p (way t h m)).toList:=by
   rw[ug _ _ g]at hi;rw[ug _ _ w]at o;by_cases Q:i<p
   .rw[if_pos Q]at hi o;obtain⟨n,z,A⟩:=W.chain i j h' N hi o;exact%[n,z|λq s=>(c _).mpr (.inr (A q s))]
   .rw[if_neg Q]at hi o;by_cases T:i=p
    .rw[if_pos T]at hi o;cases hi;cases o;exact%[m,rfl|λq s=>(c _).mpr (.inr (Y q s))]
    .rw[if_neg T]at hi o;obtain⟨n,z,A⟩:=W.chain (i-1) j h' N hi o;exact%[n,z|λq s=>(c _).mpr (.inr (A q s))]
  obtain⟨n,z,A⟩:=I;exact%[n,by rw[O];exact z|λq s=>by rw[O];exact A q s]
end STab
namespace STab
open PySem PySem.SetTable
noncomputable def nb(t:SetTable)(h:Int):Nat->Nat
 | 0=>0
 | r+1=>nb t h r+(runEnd t.mask (aG t h r).1-(aG t h r).1) +1
theorem zA(t:SetTable)(h:Int):∀r d,d<=runEnd t.mask (aG t h r).1-(aG t h r).1->
 stand t h (nb t h r+d)=%[(aG t h r).1+d,runEnd t.mask (aG t h r).1-(aG t h r).1-d,(aG t h r).1,(aG t h r).2|none]:=by
 have a:∀n i b,stand t h n=%[i,runEnd t.mask i-i,i,b|none]->∀d,d<=runEnd t.mask i-i->stand t h (n+d)=%[i+d,runEnd t.mask i-i-d,i,b|none]:=by
  intro n i b e d
  induction d with
  | zero=>intro _;rw[add_zero,e];rfl
  | succ d c=>
    intro f;show t.advance (stand t h (n+d))=_;rw[c ⋯];unfold advance;rw[if_pos ⋯]
    grind
 intro r
 induction r with
 | zero=>exact a 0 _ _ rfl
 | succ r c=>
   refine a _ _ _ ?_;show t.advance _=_;rw[c _ (Zh _)];unfold advance;rw[if_neg ⋯];rfl
theorem uh(t:SetTable)(h:Int)(r d:Nat)(a:d<=runEnd t.mask (aG t h r).1-(aG t h r).1):way t h (nb t h r+d)=(aG t h r).1+d:=by
 unfold way;rw[zA t h r d a]
noncomputable def eJ(owner:Array (Option Nat))(j:Nat):Bool:=(owner.getD j (some 0)).isSome
theorem oH(t:SetTable)(h:Int)(owner:Array (Option Nat)):∀(fuel r:Nat),(∃a,r<=a/\a<r+fuel/\eJ owner (aG t h a).1=false)->(∀m,m<nb t h r->eJ owner (way t h m)=true)->
 ∃j n,layClean.free t.mask owner fuel (aG t h r).1 (aG t h r).2=some j/\way t h n=j/\eJ owner j=false/\∀m,m<n->eJ owner (way t h m)=true
 | 0,r,⟨a,p,s,_⟩,_=>by lia
 | fuel+1,r,⟨a,p,s,g⟩,i=>by
   rw[layClean.free];have u:runEnd t.mask (aG t h r).1>=(aG t h r).1:=by unfold runEnd;split<;> lia
   have tk:∀k,(owner.getD ((aG t h r).1+k) (some 0)).isNone=!eJ owner ((aG t h r).1+k):=λk=>by
    unfold eJ;cases owner.getD ((aG t h r).1+k) (some 0)<;> rfl
   cases l:(List.range (runEnd t.mask (aG t h r).1+1-(aG t h r).1)).find? λk=>(owner.getD ((aG t h r).1+k) (some 0)).isNone with
   | some k=>
     obtain⟨o,b,bs,c,v⟩:=List.find?_eq_some_iff_append.mp l;have d:k∈List.range (runEnd t.mask (aG t h r).1+1-(aG t h r).1):=by rw[c];simp
     have d:=mem_range.mp d;have w:b=List.range k:=by
      have y:b.length=k:=by
       have:(List.range (runEnd t.mask (aG t h r).1+1-(aG t h r).1))[b.length]? =some k:=by rw[c];simp
       rw[List.getElem?_range (by have:=(X3 this).1;simpa using this)]at this;exact Z9 this
      have z:b=(List.range (runEnd t.mask (aG t h r).1+1-(aG t h r).1)).take k:=by
       rw[c,<-y];simp
      rw[z,List.take_range,Nat.min_eq_left ⋯]
     dsimp only;refine%[_,nb t h r+k,rfl,uh t h r k ⋯,?_|λm f=>?_]
     .rw[tk]at o;simpa using o
     .by_cases q:m<nb t h r
      .exact i m q
      .have:=v (m-nb t h r) (w▸mem_range.mpr ⋯);rw[tk]at this;rw[show m=nb t h r+(m-nb t h r) by lia,uh t h r _ ⋯];simpa using this
   | none=>
     have all:∀k,k<=runEnd t.mask (aG t h r).1-(aG t h r).1->eJ owner ((aG t h r).1+k)=true:=λk d=>by
      have:=(List.find?_eq_none.mp l) k (mem_range.mpr ⋯);rw[tk]at this;simpa using this
     have A:r≠a:=λe=>by
      have:=all 0 (Yy _);rw[add_zero,e,g]at this;cases this
     dsimp only;exact oH t h owner fuel (r+1) %[a,⋯,⋯|g] λm f=>by
      by_cases q:m<nb t h r
      .exact i m q
      .have f:m<nb t h r+(runEnd t.mask (aG t h r).1-(aG t h r).1) +1:=f;rw[show m=nb t h r+(m-nb t h r) by lia,uh t h r _ ⋯];exact all _ ⋯
structure LO (t:SetTable) (hs:ZK) (owner:Array _):Prop where
 size:owner.size=t.mask+1
 own:∀j q,owner[j]? =some (some q)->∃h,hs[q]? =some h/\∃n,way t h n=j/\∀m,m<n->eJ owner (way t h m)=true
 all:∀q,q<hs.length->∃j:Nat,owner[j]? =some (some q)
 one:∀(j j' q:Nat),owner[j]? =some (some q)->owner[j']? =some (some q)->j=j'
theorem fM(b:j<owner.size):eJ owner j=true↔∃q,owner[j]? =some (some q):=by
 unfold eJ;have e:owner.getD j (some 0)=owner[j]:=by simp_all
 rw[e];have a:owner[j]? =some owner[j]:=by simp
 rw[a];cases owner[j]with
 | none=>simp
 | some q=>simp
theorem LO.step(L:LO t f owner)(J:t.mask+1=2^k)(room:f.length<=t.mask)(h:Int):
 ∃j,layClean.free t.mask owner (turns t.mask) (bits h%(t.mask+1)) (bits h)=some j/\LO t (f++[h]) (owner.setIfInBounds j (some f.length)):=by
 have d:∀h n,way t h n<owner.size:=λh n=>by rw[L.size];have:=pP t h n;lia
 have ex:∃e,e<=t.mask/\eJ owner e=false:=by
  refine Classical.byContradiction λv=>?_
  have all:∀e,e<t.mask+1->eJ owner e=true:=λe c=>by
   cases q:eJ owner e with
   | true=>rfl
   | false=>exact absurd %[e,⋯|q] v
  let g:Nat->Nat:=λe=>((owner[e]?).getD none).getD 0
  have w:∀e,e<t.mask+1->owner[e]? =some (some (g e)):=λe c=>by
   obtain⟨q,o⟩:=(λe c=>(fM (L.size▸c)).mp (all e c)) e c;show owner[e]? =some (some (((owner[e]?).getD none).getD 0));rw[o];rfl
  have nd:((List.range (t.mask+1)).map g).Nodup:=by
   rw[Yq,Yv];refine X0 (λ{a b} M N A q=>A ?_) (nodup_iff_pairwise_ne.mp nodup_range);have E:=w b (mem_range.mp N);rw[<-q]at E;exact L.one a b _ (w a (mem_range.mp M)) E
  have:=nodup_sub nd λy O=>by
   obtain⟨e,c,rfl⟩:=X6 O;obtain⟨h',l,_⟩:=L.own e _ (w e (mem_range.mp c));exact mem_range.mpr (X3 l).1
  rw[Z5,Yb,Yb]at this
  lia
 obtain⟨e,c,B⟩:=ex;obtain⟨r,hr,o⟩:=lX J h e c;obtain⟨j,n,Q,G,T,U⟩:=oH t h owner (turns t.mask) 0 %[r,Yy _,⋯|o▸B] (λm p=>absurd p (Ys _));refine%[j,Q|?_];have Y:j<owner.size:=G▸d h n;have nj:∀q,owner[j]? ≠some _:=λq e=>by
  have:=(fM Y).mpr %[q|e];rw[T]at this;cases this
 have get:∀i,(owner.setIfInBounds j (some f.length))[i]? =if j=i then some _ else owner[i]? :=λi=>by
  rw[Array.getElem?_setIfInBounds]
  split
  .first|rfl|simp
  .rfl
 have keep:∀i,eJ owner i=true->i<owner.size->eJ (owner.setIfInBounds j _) i=true:=λi hi H=>by
  obtain⟨q,e⟩:=(fM H).mp hi;refine(fM (Array.size_setIfInBounds▸H)).mpr ?_;rw[get]
  split
  .exact%[_|rfl]
  .exact%[q|e]
 refine%[by rw[Array.size_setIfInBounds];exact L.size,λi q e=>?_,λq o=>?_|λi I q e s=>?_]
 .rw[get]at e
  split at e
  .rename_i C
   cases e;refine%[h,by simp,n,by rw[G,C]|λm p=>keep _ (U m p) (d h m)]
  .obtain⟨h',l,n',e2,e3⟩:=L.own i q e;exact%[h',(Y3 (X3 l).1)▸l,n',e2|λm p=>keep _ (e3 m p) (d h' m)]
 .rw[Z8,Yc]at o;by_cases e:q=f.length
  .exact%[j|by rw[get,if_pos rfl,e]]
  .obtain⟨i,hi⟩:=L.all q ⋯;refine%[i|?_];rw[get,if_neg]
   .exact hi
   .intro C;rw[<-C]at hi;exact nj q hi
 .have u:∀i,owner[i]? =some (some f.length)->False:=λi e=>by
   obtain⟨h',l,_⟩:=L.own i _ e;have:=(X3 l).1
   lia
  rw[get]at e s
  split at e<;> split at s
  .lia
  .cases e;exact absurd s (λz=>u I z)
  .cases s;exact absurd e (λz=>u i z)
  .exact L.one i I q e s
theorem rG(c:t.mask+1=2^k)(a:Array Int)(room:a.size<=t.mask+1):∃owner,layClean t.mask a=some owner/\LO t a.toList owner:=by
 have d:∀rest done owner,LO t done owner->(done++rest).length<=t.mask+1->
  ∃b,rest.foldl (λacc h=>do
   let(owner,k)<-acc
   let j<-layClean.free t.mask owner (turns t.mask) (bits h%(t.mask+1)) (bits h)
   pure (owner.setIfInBounds j (some k),k+1)) (some (owner,done.length))=some (b,(done++rest).length)/\LO t (done++rest) b:=by
  intro rest
  induction rest with
  | nil=>intro done owner L _;exact%[owner,by simp|by simpa using L]
  | cons h rest g=>
    intro done owner L i;simp only[Z8,Zq]at i;obtain⟨j,f,l⟩:=L.step c ⋯ h;obtain⟨b,e,L2⟩:=g _ _ l (by simp_all);refine%[b,?_|by simpa using L2];rw[foldl_cons];have m:(do
     let(owner,k)<-(some (owner,done.length))
     let j<-layClean.free t.mask owner (turns t.mask) (bits h%(t.mask+1)) (bits h)
     pure (owner.setIfInBounds j (some k),k+1))=some (owner.setIfInBounds j (some done.length),(done++[h]).length):=by
     show(layClean.free t.mask owner _ _ _).bind _=_;rw[f];simp
    rw[m,e];simp
 have n:LO t [] (Array.replicate (t.mask+1) none):=%[by simp,λj q e=>by
  rw[Array.getElem?_replicate]at e
  split at e<;> simp at e,λq o=>absurd o (Ys _)|λj p q e _=>by
  rw[Array.getElem?_replicate]at e
  split at e<;> simp at e]
 obtain⟨owner,e,L⟩:=d a.toList [] _ n (room);refine%[owner,?_|L];unfold layClean;rw[<-Array.foldl_toList];rw[show(0)=([]).length from rfl,e];rfl
end STab
namespace STab
open PySem PySem.SetTable
theorem rH(n:Nat):∀fuel k,3<=k->n<2^(k+fuel)->(2^k<=2*n\/k=3)->∃a,3<=a/\sizeAbove.go n fuel (2^k)=2^a/\n<2^a/\(2^a<=2*n\/a=3)
 | 0,k,b,c,d=>%[k,b,rfl,c|d]
 | fuel+1,k,b,c,d=>by
   rw[sizeAbove.go];by_cases h:2^k<=n
   .rw[if_pos h];have e:2^k*2=2^(k+1):=by rw[pow_succ]
    rw[e];exact rH n fuel _ ⋯ ((show k+1+fuel=k+(fuel+1) by lia)▸c) (.inl ⋯)
   .rw[if_neg h];exact%[k,b,rfl,⋯|d]
theorem uk(a:n<2^60):∃k,3<=k/\sizeAbove n=2^k/\n<2^k/\(2^k<=2*n\/k=3):=
 rH n 64 3 (Zh _) (Zf a (Nat.pow_le_pow_right (by decide) ∅)) (.inr rfl)
theorem lZ [DecidableEq c]:∀{l m:List c},l.Nodup->m.Nodup->(∀x,x∈l↔x∈m)->l.Perm m
 |[],m,_,_,h=>by
  cases m with
  | nil=>simp
  | cons x m=>exact absurd ((h x).mpr Zl) ∅
 | x::l,m,d,b,h=>by
   obtain⟨f,g⟩:=nodup_cons.mp d;refine List.Perm.trans (List.Perm.cons x (lZ g (b.erase x) λy=>?_)) (List.perm_cons_erase ((h x).mp Zl)).symm
   constructor
   .intro a;exact(List.mem_erase_of_ne (λe=>f (by simp_all))).mpr ((h y).mp (Zj _ a))
   .intro a;rcases mem_cons.mp ((h y).mpr (List.mem_of_mem_erase a))with q|q
    .exact absurd q (λe=>by rw[e]at a;exact b.not_mem_erase a)
    .exact q
theorem laid_ok{t:SetTable}(hp:t.mask+1=2^k)(E:7<=t.mask)(c:Array (Int×Value))(room:c.size<=t.mask)(finger moves:Nat)(led plain:Bool):
 ∃t' d,laid t.mask finger moves led plain (c.map (·.1))=some (t',d)/\t'.mask=t.mask/\t'.led=led/\t'.plain=plain/\t'.moves=moves/\WF t' (d.filterMap (c[·]?))/\(d.filterMap (c[·]?)).toList.Perm c.toList:=by
 obtain⟨owner,e,L⟩:=rG hp (c.map (·.1)) (by rw[size_map];lia);have G:(c.map (·.1)).toList.length=c.size:=by simp
 obtain⟨live,v⟩:∃live,(List.range (t.mask+1)).filterMap (λj=>(owner.getD j none).map (λq=>(j,q)))=live:=%[_|rfl]
 refine%[%[t.mask,(live.map (·.1)).toArray,#[],finger,led,moves|plain],(live.map (·.2)).toArray,by unfold laid;rw[e,<-v];rfl,rfl,rfl,rfl,rfl|?_];have gd:∀j q,owner.getD j none=some q↔owner[j]? =some (some q):=λj q=>by
  rw[Array.getD_eq_getD_getElem?];cases owner[j]? with
  | none=>simp
  | some o=>simp
 have mem:∀j q,(j,q)∈live↔owner[j]? =some (some q):=λj q=>by
  rw[<-v,mem_filterMap]
  constructor
  .rintro⟨H,ag,I⟩;obtain⟨z,s,J⟩:=map_eq_some_iff.mp I;cases J;exact(gd j q).mp s
  .intro ho;have:j<owner.size:=by
    obtain⟨f,_⟩:=Array.getElem?_eq_some_iff.mp ho;exact f
   refine%[j,mem_range.mpr (by rw[L.size]at this;exact this)|?_];rw[(gd j q).mpr ho];rfl
 have r:(live.map (·.1)).Pairwise (·<·):=by
  rw[<-v,Yv,List.pairwise_filterMap];refine List.Pairwise.imp (λ{a b} u x hx y M=>?_) List.pairwise_lt_range;obtain⟨_,_,rfl⟩:=map_eq_some_iff.mp hx;obtain⟨_,_,rfl⟩:=map_eq_some_iff.mp M;exact u
 have w:∀j q,(j,q)∈live->q<c.size:=λj q h=>by
  obtain⟨h',s,_⟩:=L.own j q ((mem j q).mp h);have:=(X3 s).1
  lia
 have B:(live.map (·.2)).Nodup:=by
  rw[Yq,Yv];refine X0 (λ{a b} N E u g=>?_) (by rw[Yv]at r;exact r);have f:=(mem a.1 a.2).mp N;have O:=(mem b.1 b.2).mp E;rw[<-g]at O;have:=L.one _ _ _ f O
  lia
 have C:(live.map (·.2)).Perm (List.range c.size):=lZ B nodup_range λq=>by
  constructor
  .intro g;obtain⟨⟨j,z⟩,f,rfl⟩:=X6 g;exact mem_range.mpr (w j z f)
  .intro g;obtain⟨j,Q⟩:=L.all q (G▸mem_range.mp g);exact X7 %[(j,q),(mem j q).mpr Q|rfl]
 have fm:∀(l:List Nat),(∀q∈l,q<c.size)->l.filterMap (c[·]?)=l.map (λq=>c.getD q (0,Value.none)):=by
  intro l
  induction l with
  | nil=>intro _;rfl
  | cons q l ih=>
    intro g;have f:=g q Zl;have s:c[q]? =some (c.getD q (0,Value.none)):=by simp[Array.getD,f]
    rw[Zy,s,Yi,ih λy M=>g y (Zj _ M)]
 have T:((live.map (·.2)).toArray.filterMap (c[·]?)).toList=(live.map (·.2)).map (λq=>c.getD q (0,Value.none)):=by
  rw[Array.toList_filterMap,List.toList_toArray];exact fm _ λq g=>by
   obtain⟨⟨j,z⟩,f,rfl⟩:=X6 g;exact w j z f
 have er:c.toList=(List.range c.size).map (λq=>c.getD q (0,Value.none)):=by
  apply ext_getElem
  .simp
  .intro i f O;have f:=by simpa using f
   simp[Array.getD,f]
 refine%[%[%[k|hp],E,rfl,?_,λj Q=>?_,?_|λi j h x hi A=>?_]|?_]
 .intro a b N U u;have:=List.pairwise_iff_getElem.mp r a b (N) (U) u;simpa using this
 .obtain⟨⟨H,q⟩,f,rfl⟩:=X6 Q;have:=(Array.getElem?_eq_some_iff.mp ((mem H q).mp f)).1;rw[L.size]at this
  lia
 .rw[<-Za (xs:=Array.filterMap _ _),T];simp
 .have hi:(live.map (·.1))[i]? =some j:=by simpa using hi
  have A:((live.map (·.2)).toArray.filterMap (c[·]?)).toList[i]? =some (h,x):=by simpa using A
  rw[T,Yj,Zk]at A;rw[Zk]at hi;cases Y:live[i]? with
  | none=>rw[Y]at hi;cases hi
  | some p=>
    obtain⟨H,q⟩:=p;rw[Y]at hi A;cases hi;have hm:=Z7 Y;obtain⟨h',s,n,n1,n2⟩:=L.own _ q ((mem _ q).mp hm);have g:=w _ q hm;have eh:h'=h:=by
     have J:(c.map (·.1)).toList[q]? =some (c[q]).1:=by simp[g]
     rw[J]at s;have e3:c.getD q (0,Value.none)=c[q]:=by simp[Array.getD,g]
     simp only[Function.comp,Option.map_some,e3,Option.some.injEq]at A;rw[A]at s;exact(Z9 s).symm
    subst eh;have wm:∀n,way {mask:=t.mask,place:=(live.map (·.1)).toArray,dummies:= #[],finger:=finger,led:=led,moves:=moves,plain:=plain} h' n=way t h' n:=λn=>oG (t':=t) (by rfl) h' n
    refine%[n,by rw[wm];exact n1|λm ab=>?_];rw[wm];obtain⟨z,I⟩:=(fM (by rw[L.size];have:=pP t h' m;lia)).mp (n2 m ab);exact X7 %[(way t h' m,z),(mem _ _).mpr I|rfl]
 .rw[T,er];exact C.map _
end STab
namespace STab
open PySem PySem.SetTable
section
variable{prog:Program}{w:World}{K:Type}[DecidableEq K]{knd:KeyKind prog w K}{A:Around}{E:ZD}{s:Shared}
def EL(knd:KeyKind prog w K)(h:Heap)(a:Array (Int×Value)):Prop:=∀(i:Nat) e,a[i]? =some e->∃r k,e=(tupleKeyHash knd k,Value.ref r)/\IsTupleKey knd h k r
theorem kJ(g:IsTupleKey knd s.heap ks r)(h:Q false s):↥A (ofAClassStatement 8 (.ref r)) Q E s:=by
 have l:=g.typeIs;obtain⟨o,c,n,m,_,p,hi⟩:=g;unfold ofAClassStatement;refine Z2 (wpAny_typeOf l (Z2 (Z3 (Z2 (wpAny_seqItems m p (Z2 ?_))))));rw[<-forIn_toList];refine wpAny_forIn_list _ (λrest r s'=>r=(none,())/\s'=s/\∃i,ItemsAre knd i rest) _ ?_ ?_ _ _ %[rfl,rfl,ks|hi]
 .rintro x rest r s' ⟨rfl,rfl,i,d⟩;cases d with
  | @cons u v f j q b=>
    have t:=knd.byValue _ _ q;have e:ofAClassStatement 7 x=pure false:=by
     cases x with
     | ref a=>simp[carriedByValue]at t
     | _=>first|rfl|lia|lia
    refine Z2 ?_;rw[e];exact Z3 (Z3 %[rfl,rfl,f|b])
 .rintro r s' ⟨rfl,rfl,_⟩;exact Z3 h
theorem uo(d:IsTupleKey knd s.heap ks r):∀(l:ZF),(∀y∈l,∃a c,y=Value.ref a/\IsTupleKey knd s.heap c a)->∀{Q:Bool->Shared->Prop},Q false s->↥A (searchCouldBeSeen (.ref r) l) Q E s:=by
 intro l g Q h;refine Z2 (wpAny_forIn_list _ (λrest x s'=>x=(none,())/\s'=s/\∀y∈rest,∃a c,y=Value.ref a/\IsTupleKey knd s.heap c a) _ ?_ ?_ _ _ %[rfl,rfl|g])
 .rintro y rest x s' ⟨rfl,rfl,e⟩;obtain⟨a,c,rfl,b⟩:=e y Zl;have f:=λy i=>e y (Zj _ i)
  dsimp only
  split
  .exact Z3 %[rfl,rfl|f]
  .exact Z2 (wpAny_eqIsQuiet_tuple d (Z2 (wpAny_eqIsQuiet_tuple b (Z2 (kJ d (Z2 (kJ b (Z3 %[rfl,rfl|f]))))))))
 .rintro x s' ⟨rfl,rfl,_⟩;exact Z3 h
theorem pQ(hu:A.units<cLine)(ho:s.heap.get? a=some o)(hd:o.data= .set u ep t)(W:WF t u)(room:t.place.size<=t.mask)(ai:t.mask<=9000)
 (el:EL knd s.heap u) (hk:IsTupleKey knd s.heap k r)
 (h1:(∃(i:Nat) (g:Addr),u[i]? =some (tupleKeyHash knd k,Value.ref g)/\IsTupleKey knd s.heap k g)->Q (.there none) s)
 (h2:∀m,way t (tupleKeyHash knd k) m∉t.place.toList->(∀q,q<m->way t (tupleKeyHash knd k) q∈t.place.toList)->(∀(i:Nat) g v,u[i]? =some (tupleKeyHash knd v,Value.ref g)->IsTupleKey knd s.heap v g->v≠k)->Q (.free (way t (tupleKeyHash knd k) m) false) s):
 ↥A (setSearch a (.ref r) (tupleKeyHash knd k) true) Q E s:=by
 generalize hh:tupleKeyHash knd k=h at h1 h2
 have hf:t.fits u.size=true:=by
  unfold fits fill;rw[W.dum];simp[W.size];exact W.size▸room
 obtain⟨N,m1,m2,m3⟩:=uf W room h;have me:t.slot (way t h N)= .empty:=by
  rcases i8 W.rise W.dum (way t h N)with⟨i,e,_⟩|⟨_,e⟩
  .exact absurd (mem_toList_iff.mpr (Array.mem_of_getElem? e)) m2
  .exact e
 have al:t.gaveWay=false:=by
  obtain⟨c,hc⟩:=W.pow;have hb:=W.big;have c0:c≠0:=λq=>by rw[q]at hc;lia
  obtain⟨c',rfl⟩:=Nat.exists_eq_succ_of_ne_zero c0;rw[pow_succ]at hc;unfold gaveWay;have:t.mask%2=1:=by lia
  simp[this]
 have O:∀(fuel n:Nat) (st:Option Probe),st.getD (t.probeStart h)=stand t h n->n<=N->N<n+fuel->(∀j,j<n->∀(i:Nat) g v,t.slot (way t h j)= .live i->u[i]? =some (tupleKeyHash knd v,Value.ref g)->IsTupleKey knd s.heap v g->v≠k)->
  ↥A (setSearchFrom a (.ref r) h true fuel st) Q E s:=by
  intro fuel
  induction fuel with
  | zero=>intro n st _ a1 a2;lia
  | succ fuel ih=>
    intro n st an hn a9 T;unfold setSearchFrom;refine Z2 (wpAny_setState_of ho hd hf ?_);dsimp only;rw[al];simp only[Zx,if_false];rw[an]
    generalize as:SetTable.probe t _ h (stand t h n)=pr
    have l:SetTable.probe.go t (λi=>((u[i]?).map (·.1)).getD 0) h (10*turns t.mask) (stand t h n)=pr:=as;obtain⟨q,q1,q2,q3,q4⟩:=rE (t:=t) W.dum (hashAt:=λi=>((u[i]?).map (·.1)).getD 0) (h:=h) (10*turns t.mask) n N hn ⋯ me;rcases q4 with⟨J,e2⟩|⟨i,J,e2,e3⟩
    .rw[e2]at l;subst l;have hq:q=N:=by
      rcases Nat.eq_or_lt_of_le q2 with z|z
      .exact z
      .have:=m3 q z;rcases i8 W.rise W.dum (way t h q)with⟨i,_,U⟩|⟨z2,_⟩
       .rw[J]at U;cases U
       .exact absurd this z2
     subst hq;dsimp only;refine Z3 (h2 q m2 m3 λi g v p B C=>?_);subst C;rw[hh]at p;have hi:i<u.size:=(Array.getElem?_eq_some_iff.mp p).1;have hp:t.place[i]? =some (t.place[i]'(W.size▸hi)):=by simp
     obtain⟨Y,c1,c2⟩:=W.chain i _ h _ hp p;have G:=oF W.rise hp;have a0:Y<q:=by
      rcases Nat.lt_trichotomy Y q with z|z|z
      .exact z
      .rw[z,]at c1;rw[<-c1,me]at G;cases G
      .exact absurd (c2 q z) m2
     rw[<-c1]at G;by_cases ab:Y<n
     .exact T Y ab i g v G (hh▸p) B rfl
     .obtain⟨H,U,ag⟩:=q3 Y ⋯ a0;rw[G]at U;cases U;rw[p]at ag;exact ag rfl
    .rw[e3]at l;subst l;obtain⟨x0,p⟩:∃e,u[i]? =some e:=by
      have a3:t.place[i]? =some (way t h q):=by
       rcases i8 W.rise W.dum (way t h q)with⟨H,p1,I⟩|⟨_,I⟩
       .rw[J]at I;cases I;exact p1
       .rw[J]at I;cases I
      have:=(Array.getElem?_eq_some_iff.mp a3).1;exact%[u[i]'(W.size▸this)|by simp[<-W.size,this]]
     obtain⟨g,v,rfl,B⟩:=el i x0 p;have bb:q<N:=Nat.lt_of_le_of_ne q2 λz=>by rw[z,me]at J;cases J
     have L:↥A (do
      let f<-holding [Value.ref g] (eqBool (Value.ref g) (Value.ref r))
      let x<-setState a
      if(true&&f)=true then pure (SetFound.there none)
      else match x.2.snd.sameMemory t.moves t.mask with
       | some same=>
         match if same=true then x.2.snd.slot (way t h q)else Slot.empty with
         | Slot.live H=>
           match x.fst[H]? with
           | some (_,y')=>do
             let b<-isSame y' (Value.ref g)
             let d<-pure (if b=true then some H else none)
             match d with
              | none=>do
                rule "set.search.anew"
                setSearchFrom a (Value.ref r) h true fuel none
              | some H=>
                if f=true then pure (SetFound.there (some H))
                else setSearchFrom a (Value.ref r) h true fuel (some (stand t h (q+1)))
           | none=>do
             let d<-pure none
             match d with
              | none=>do
                rule "set.search.anew"
                setSearchFrom a (Value.ref r) h true fuel none
              | some H=>
                if f=true then pure (SetFound.there (some H))
                else setSearchFrom a (Value.ref r) h true fuel (some (stand t h (q+1)))
         | x=>do
           let d<-pure none
           match d with
            | none=>do
              rule "set.search.anew"
              setSearchFrom a (Value.ref r) h true fuel none
            | some H=>
              if f=true then pure (SetFound.there (some H))
              else setSearchFrom a (Value.ref r) h true fuel (some (stand t h (q+1)))
       | x=>unsupported "set.changed-during-lookup:is-the-new-block-at-the-old-address") Q E s:=by
      refine Z2 (wpAny_holding (wpAny_eqBool_tuple hu B hk (Z2 (wpAny_setState_of ho hd hf ?_))));dsimp only;by_cases C:v=k
      .subst C;rw[Ze rfl];exact Z3 (h1 %[i,g,(by rw[p]at e2;exact e2)▸p|B])
      .rw[Zg C];have sm:t.sameMemory t.moves t.mask=some true:=by unfold sameMemory;rw[if_pos ∅]
       rw[sm];simp only[if_true];rw[J];dsimp only;rw[p];dsimp only;have same:isSame (Value.ref g) (Value.ref g)=pure true:=by
        unfold isSame;simp
       refine Z2 ?_;rw[same];refine Z3 ?_;simp only[if_true];refine Z2 (Z3 ?_);dsimp only;refine ih (q+1) _ rfl ⋯ ⋯ λj hj i2 r2 k2 s2 g2 t2=>?_
       by_cases a4:j<n
       .exact T j a4 i2 r2 k2 s2 g2 t2
       .by_cases a5:j=q
        .subst a5;rw[J]at s2;cases s2;rw[p]at g2;have:g=r2:=by
          have:=Z9 g2;injection this with _ z
          injection z
         subst this;exact(B.inj t2)▸C
        .obtain⟨i3,p1,I⟩:=q3 j ⋯ ⋯;rw[s2]at p1;cases p1;rw[g2]at I;intro z;rw[z]at I;exact I hh
     dsimp only;rw[p];dsimp only;by_cases M:(!t.led)=true
     .rw[if_pos M];refine Z2 (uo hk _ (λy hy=>?_) ?_)
      .obtain⟨e,a6,rfl⟩:=X6 hy;obtain⟨i2,a7⟩:=Array.getElem?_of_mem ((Array.mem_filter.mp (mem_toList_iff.mp a6)).1);obtain⟨r2,k2,rfl,a8⟩:=el i2 e a7;exact%[r2,k2,rfl|a8]
      .exact L
     .rw[if_neg M];exact L
 exact O 100000 0 none rfl (Yy _) (by unfold turns at m1;lia) (λj hj=>absurd hj (Ys _))
end
end STab
namespace STab
open PySem PySem.SetTable
structure IN (es:Array _) (t:SetTable) (led:Bool):Prop where
 wf:WF t es
 roomy:t.place.size*5<t.mask*3
 small:t.mask<=7\/t.mask+1<=8*es.size
 led:t.led=led
 plain:es.size≠0->t.plain=false
theorem IN.fits{a:Array _}{t:SetTable}{led:Bool}(I:IN a t led):t.fits a.size=true:=by
 unfold SetTable.fits fill;rw[I.wf.dum];have:=I.roomy;simp[I.wf.size];rw[<-I.wf.size]
 lia
theorem IN.fresh(finger moves:Nat)(led:Bool):IN #[] (SetTable.fresh finger moves led) led:=
 %[%[%[3|rfl],Zh _,rfl,λa b c=>absurd c (by simp[SetTable.fresh]),λj d=>by simp[SetTable.fresh]at d,rfl|λi j h x hi=>by simp[SetTable.fresh]at hi],show 0*5<7*3 from by decide,.inl (Zh _),rfl|λq=>absurd rfl q]
section
variable{prog:Program}{w:World}{K:Type}[DecidableEq K]{knd:KeyKind prog w K}{A:Around}{E:ZD}{s:Shared}
theorem relay_w(e:s.heap.get? a=some o)(f:o.data= .set c B t)(j:t.fits c.size=true)(C:c.size<=n)(hw:n<=4000)
 (h:∀d t',d.toList.Perm c.toList->WF t' d->t'.led=t.led->t'.plain=t.plain->n<=t'.mask->t'.mask+1<=2*n\/t'.mask<=7->Q () (s>>>s.heap.update a (Obj.putSet d t'))):
 ↥A (setRelay a n) Q E s:=by
 obtain⟨k,l,g,lt,m⟩:=uk (n:=n) ⋯;have G:8<=2^k:=Y8 (by simp:8<=2^3) (Nat.pow_le_pow_right ∅ l);have i:2^k<=2*n\/2^k=8:=by
  rcases m with q|q
  .exact .inl q
  .exact .inr (by rw[q])
 have p:2^k<=8000:=by rcases i with q|q<;> lia
 let r:SetTable:={t with mask:=2^k-1}
 obtain⟨t',b,u,H,v,y,I,W,P⟩:=laid_ok (t:=r) (k:=k) (by show 2^k-1+1=2^k;lia) (by show 7<=2^k-1;lia) c (by show c.size<=2^k-1;lia) t.finger _ t.led t.plain;have z:t.relaid (c.map (·.1)) n=some (t',b):=by
  unfold relaid;rw[g];exact u
 have sz:(b.filterMap (c[·]?)).size=c.size:=by rw[<-Za,P.length_eq,Za]
 refine Z2 (wpAny_setState_of e f j ?_);dsimp only;rw[g,if_neg (by rw[PySem.sizeLine_eq];lia)];rw[z];refine Z2 ?_;show wpAny _ A (if((b.filterMap _).size != c.size)=true then _ else pure _) _ E s;rw[if_neg (by simp[sz])];exact Z3 (wpAny_storeSet_of e f (h _ t' P W v y ⋯ (by rcases i with q|q<;> lia)) (by rw[sz,PySem.sizeLine_eq];lia))
theorem zB(e:s.heap.get? a=some o)(f:o.data= .set c j t)(g:t.fits c.size=true)(m:c.size<=1000)(n:c.size≠0)(d:t.plain=false)
 (h:∀b t',b.toList.Perm c.toList->IN b t' t.led->t'.plain=false->Q () (s>>>s.heap.update a (Obj.putSet b t'))):
 ↥A (setRelay a (grown c.size)) Q E s:=by
 have i:grown c.size=c.size*4:=by unfold grown;rw[if_neg ⋯]
 rw[i];refine relay_w e f g ⋯ ⋯ λb t' P W l p q m2=>?_
 have sz:b.size=c.size:=by rw[<-Za,P.length_eq,Za]
 exact h b t' P %[W,by rw[W.size,sz];lia,⋯,l|λ_=>p▸d] (p▸d)
theorem wG{led:Bool}(M:A.units<cLine)(p:s.heap.get? a=some o)(n:o.data= .set d ep t)(I:IN d t led)(hn:d.size+1<=1000)
 (el:EL knd s.heap d) (C:IsTupleKey knd s.heap k r) (hv:∀(s':Shared) (N:Bool->Shared->Prop),IsTupleKey knd s'.heap k r->N false s'->↥A (hashByValue 8 (.ref r)) N E s')
 (h1:(∃(i:Nat) (u:Addr),d[i]? =some (tupleKeyHash knd k,Value.ref u)/\IsTupleKey knd s.heap k u)->Q false {s with toks:=s.toks+(k.length+1)})
 (O:(∀(i:Nat) (u:Addr) (G:List K),d[i]? =some (tupleKeyHash knd G,Value.ref u)->IsTupleKey knd s.heap G u->G≠k)->∀g t' H h',h'.get? a=some {o with data:= .set g H t'}->SameBut a s.heap h'->g.toList.Perm (d.toList++[(tupleKeyHash knd k,Value.ref r)])->IN g t' led->Q true {s with heap:=h',toks:=s.toks+(k.length+1)}):
 ↥A (setAdd a (.ref r)) Q E s:=by
 unfold setAdd;refine wpAny_holding (Z2 (wpAny_pyHash_tuple M C ?_));unfold setAddHashed;refine wpAny_holding ?_;unfold setAddHashedIn;refine Z2 (wpAny_setState_of (s:={s with toks:=s.toks+(k.length+1)}) p n I.fits ?_);dsimp only;have ns:byScan (Value.ref r) d=false:=by unfold byScan;simp[Value.scannable]
 rw[ns];simp only[Zx,if_false];have rm:=I.roomy;refine Z2 (pQ (s:={s with toks:=s.toks+(k.length+1)}) M p n I.wf ⋯ (by rcases I.small with q|q<;> lia) el C (λq=>?_) λm T m2 U=>?_)
 .exact Z3 (h1 q)
 .dsimp only;refine Z2 (wpAny_setState_of (s:={s with toks:=s.toks+(k.length+1)}) p n I.fits ?_);dsimp only;have v:=I.wf;obtain⟨p1,Y,p3,p4,p5,p6,Wp⟩:=v.put (x:=Value.ref r) T m2 t.led false;obtain⟨_,_,_,_,_,_,Wq⟩:=v.put (x:=Value.ref r) T m2 (t.put (way t (tupleKeyHash knd k) m)).1.led (t.put (way t (tupleKeyHash knd k) m)).1.plain;have y:(t.put (way t (tupleKeyHash knd k) m)).2<=d.size:=by
   rw[p1,<-v.size];exact(i7 v.rise _).1
  have e:(insertAt d (t.put (way t (tupleKeyHash knd k) m)).2 (tupleKeyHash knd k,Value.ref r)).size=d.size+1:=ii _ _ _ y;have h:(insertAt d (t.put (way t (tupleKeyHash knd k) m)).2 (tupleKeyHash knd k,Value.ref r)).toList.Perm (d.toList++[(tupleKeyHash knd k,Value.ref r)]):=by
   rw[jx _ _ _ y];have q:=Yx (t.put (way t (tupleKeyHash knd k) m)).2 d.toList;refine List.Perm.trans List.perm_middle ?_;rw[q];exact List.perm_append_comm (l₁:=[_])
  generalize ab:insertAt d _ _=c at Wp Wq e h
  have f:∀b:SetTable,WF b c->b.mask=t.mask->b.place.size=t.place.size+1->b.led=led->b.plain=false->
   ↥A (do storeSet a c b;if(!false&&b.tooFull)=true then do setRelay a (grown (d.size+1));pure true else pure true) Q E {s with toks:=s.toks+(k.length+1)}:=λb z e1 e2 e3 e4=>by
   have g1:=by
    have q:=get?_update_self (Obj.putSet c b) p (by rw[putSet_of c b n];rfl);rwa[putSet_of c b n]at q
   have b1:=SameBut.update s.heap a (Obj.putSet c b);refine Z2 (wpAny_storeSet_of p n ?_ (e▸Y8 hn (by decide)));have J:b.tooFull=true↔b.mask*3<=b.place.size*5:=by
    unfold tooFull fill;rw[z.dum];simp
   by_cases hf:b.tooFull=true
   .rw[if_pos (by simp[hf])];have B:b.fits c.size=true:=by
     unfold SetTable.fits fill;rw[z.dum];simp[z.size];exact z.size▸(by rw[e1,e2];have:=v.big;lia)
    rw[<-e];refine Z2 (zB g1 rfl B ⋯ ⋯ e4 λj L P3 I3 _=>Z3 ?_);have g2:=by
     have q:=get?_update_self (Obj.putSet j L) g1 (by rfl);rwa[putSet_of j L rfl]at q
    exact O U j L _ _ g2 (b1.trans (SameBut.update _ a _)) (P3.trans h) (by rw[e3]at I3;exact I3)
   .rw[if_neg (by simp[hf])];refine Z3 (O U c b _ _ g1 b1 h %[z,⋯,?_,e3|λ_=>e4]);rw[e1,e];rcases I.small with q|q
    .exact .inl q
    .exact .inr ⋯
  by_cases l:(t.put (way t (tupleKeyHash knd k) m)).1.plain=true
  .rw[if_pos l];exact Z2 (hv _ _ C (f _ Wp Y p3 I.led rfl))
  .rw[if_neg l];exact f _ Wq Y p3 (p4.trans I.led) (by simpa using l)
end
end STab
namespace L2
open PySem PySem.Spec PyProof.Rows STab
noncomputable def f9{a:Type}[DecidableEq a](ps:List (Addr×a))(p:Addr×a):List (Addr×a):=if p.2∈ps.map (·.2)then ps else ps++[p]
noncomputable def bc{a:Type}[DecidableEq a](l:List (Addr×a)):List (Addr×a):=l.foldl f9 []
section
variable{κ:Type}[DecidableEq κ]
theorem zC{ps:List _}{p q:Addr×κ}(h:q∈f9 ps p):q∈ps\/q=p:=by
 unfold f9 at h
 split at h
 .exact .inl h
 simp_all
theorem wH{ps:List (Addr×κ)}{p:Addr×κ}{k:κ}:k∈(f9 ps p).map (·.2)↔k∈ps.map (·.2)\/k=p.2:=by
 unfold f9;by_cases h:p.2∈ps.map (·.2)
 .rw[if_pos h];exact%[.inl|λq=>q.elim id λe=>e▸h]
 .rw[if_neg h,Zc,Yk];simp
theorem uq{ps:List (Addr×κ)}{p:Addr×κ}(h:(ps.map (·.2)).Nodup):((f9 ps p).map (·.2)).Nodup:=by
 unfold f9
 split
 .exact h
 .rename_i a
  rw[Zc];exact lr h a
theorem vz:∀(l ps:List (Addr×κ)),(ps.map (·.2)).Nodup->((l.foldl f9 ps).map (·.2)).Nodup/\(∀k,k∈(l.foldl f9 ps).map (·.2)↔k∈ps.map (·.2)\/k∈l.map (·.2))/\(∀q∈l.foldl f9 ps,q∈ps\/q∈l)
 |[],ps,h=>%[h,λk=>by simp|λq a=> .inl a]
 | p::l,ps,h=>by
   obtain⟨b,c,d⟩:=vz l _ (uq h);rw[foldl_cons];refine%[b,λk=>?_|λq a=>?_]
   .rw[c,wH,Yi,Yn]
    grind
   .rcases d q a with z|z
    .rcases zC z with z|z
     .exact .inl z
     .exact .inr (z▸Zl)
    .exact .inr (Zj _ z)
theorem dF(l:List (Addr×κ)):((bc l).map (·.2)).Nodup:=(vz l [] Yr).1
theorem gc(l:List (Addr×κ))(k:κ):k∈(bc l).map (·.2)↔k∈l.map (·.2):=by
 have:=(vz l [] Yr).2.1 k;simpa [bc]using this
theorem bj(l:List (Addr×κ)):∀q∈bc l,q∈l:=λq a=>by
 rcases(vz l [] Yr).2.2 q a with z|z
 .cases z
 .exact z
theorem pR(val:Nat->Addr×κ)(i:Nat):bc ((List.range (i+1)).map val)=f9 (bc ((List.range i).map val)) (val i):=by
 unfold bc;rw[range_succ,Zc,List.foldl_append];rfl
end
section
variable{prog:Program}{w:World}{κ:Type}[DecidableEq κ]{knd:PySem.KeyKind prog w κ}{A:Around}{E:ZD}{s:Shared}{a:Addr}
def l7(w:World)(knd:PySem.KeyKind prog w κ)(a:Addr)(ps:List (Addr×List κ))(h:Heap):Prop:=
 ∃o b c t,h.get? a=some o/\o.ExactSet/\o.data= .set b c t/\IN b t (!aR w)/\b.toList.Perm (ps.map λp=>(tupleKeyHash knd p.2,Value.ref p.1))
theorem l7.keep(S:l7 w knd a ps h)(k:∀o,h.get? a=some o->h'.get? a=some o):l7 w knd a ps h':=by
 obtain⟨o,b,c,t,d,r⟩:=S;exact%[o,b,c,t,k o d|r]
theorem lu(x:IsTupleKey knd h k r)(q:∀o,h.get? r=some o->h'.get? r=some o):IsTupleKey knd h' k r:=by
 obtain⟨o,b,n,c,z⟩:=x;exact%[o,b,n,q o c|z]
theorem zD(v:A.units<cLine)(y:l7 w knd a ps s.heap)(tk:∀q∈ps,IsTupleKey knd s.heap q.2 q.1)(B:IsTupleKey knd s.heap p.2 p.1)(room:ps.length+1<=1000)
 (C:∀(s':Shared) (m:Bool->Shared->Prop),IsTupleKey knd s'.heap p.2 p.1->m false s'->↥A (hashByValue 8 (.ref p.1)) m E s')
 (n:∀h' b tk,SameBut a s.heap h'->l7 w knd a (f9 ps p) h'->s.toks<=tk->Q b {s with heap:=h',toks:=tk}):↥A (setAdd a (.ref p.1)) Q E s:=by
 obtain⟨o,g,G,t,r,f,u,I,P⟩:=y;have hn:=by
  have:=P.length_eq;rw[Z5,Za]at this;exact this
 have mem:∀i e,g[i]? =some e->∃q∈ps,e=(tupleKeyHash knd q.2,Value.ref q.1):=λi e h=>by
  have:=mem_toList_iff.mpr (Array.mem_of_getElem? h);obtain⟨q,c,rfl⟩:=X6 (P.mem_iff.mp this);exact%[q,c|rfl]
 have H:EL knd s.heap g:=λi e h=>by
  obtain⟨q,c,rfl⟩:=mem i e h;exact%[q.1,q.2,rfl|tk q c]
 refine wG v r u I ⋯ H B C (λ⟨i,J,e,L⟩=>?_) λd j t' l h' g' M N O=>?_
 .obtain⟨q,c,T⟩:=mem i _ e;have U:J=q.1:=by injection T with _ z;injection z
  subst U;refine n s.heap false _ (SameBut.refl a s.heap) ?_ (le_add_right _ _);unfold f9;rw[if_pos (X7 %[q,c|(L.inj (tk q c)).symm])];exact%[o,g,G,t,r,f,u,I|P]
 .refine n h' true _ M ?_ (le_add_right _ _);unfold f9;rw[if_neg]
  .refine%[_,j,l,t',g',f,rfl,O|N.trans ?_];rw[Zc];exact P.append_right _
  .intro Y;obtain⟨q,c,e⟩:=X6 Y;have:=P.mem_iff.mpr (X7 %[q,c|rfl]);obtain⟨i,hi⟩:=Yz this;exact d i q.1 q.2 (by simpa using hi) (tk q c) e
end
section
variable{prog:Program}{w:World}{κ:Type}[DecidableEq κ]{knd:PySem.KeyKind prog w κ}{A:Around}{R:Result->Shared->Prop}{I:Addr}{fp wr:List Addr}{G:Array GenState->Array GenState->Prop}{n:Nat}{P:Nat->Value->Prop}{St:Nat->Shared->Prop}
theorem nh(W:WalksS prog w A.in1 I fp wr G n P St)(S:Addr)(r:S∉fp)(Q:A.in1.units<cLine)(val:Nat->Addr×List κ)(t:∀i v,i<n->P i v->v= .ref (val i).1)(U:List (List κ))(hU:U.length<=999)(C:∀i,i<n->(val i).2∈U)(c:∀i,i<n->(val i).1≠S/\(val i).1∉wr)
 (T:∀i,i<n->∀(s':Shared) (B:Bool->Shared->Prop) (Y:ZD),IsTupleKey knd s'.heap (val i).2 (val i).1->B false s'->↥A.in1 (hashByValue 8 (.ref (val i).1)) B Y s'):
 ∀(k i:Nat) (s:Shared),n-i=k->i<=n->St i s->l7 w knd S (bc ((List.range i).map val)) s.heap->(∀j,j<n->IsTupleKey knd s.heap (val j).2 (val j).1)->
  (∀s',Moved (S::wr) G s s'->l7 w knd S (bc ((List.range n).map val)) s'.heap->R (.ok (.ret .none)) s')->codeAny (model prog w) A (.builtin "set.update.loop" %[[.ref S,.ref I]|[]]) R s:=by
 have u:S∉wr:=λh=>r (W.sub _ h)
 have more:∀b∈wr,b∈S::wr:=λb y=>Zj _ y
 intro k
 induction k with
 | zero=>
   intro i s E hi st H tk d;have e:i=n:=by lia
   subst e;refine codeAny_builtin F.entry_set_update_loop ?_;rw[Around.under_plainId F.plain_set_update_loop _];show wpAny _ A.in1 (pyNext (.ref I)>>= _) _ _ s;refine Z2 (W.done s _ _ st λf l=>?_);show wpAny _ A.in1 (ret Value.none) _ _ f;exact Z3 (d f (l.mono more) (H.keep λo e=>l.heap S o u e))
 | succ k ih=>
   intro i s E hi st H tk d;have lt:i<n:=by lia
   refine codeAny_builtin F.entry_set_update_loop ?_;rw[Around.under_plainId F.plain_set_update_loop _];show wpAny _ A.in1 (pyNext (.ref I)>>= _) _ _ s;refine Z2 (W.item i s _ _ lt st λv f pv J l=>?_);obtain rfl:=t i v lt pv;have g:∀j,j<n->IsTupleKey knd f.heap (val j).2 (val j).1:=λj a=>lu (tk j a) λo e=>l.heap _ o (c j a).2 e
   have L:∀q∈bc ((List.range i).map val),IsTupleKey knd f.heap q.2 q.1:=λq hq=>by
    obtain⟨j,a,rfl⟩:=X6 (bj _ q hq);exact g j (by have:=mem_range.mp a;lia)
   have room:(bc ((List.range i).map val)).length+1<=1000:=by
    have q:=nodup_sub (dF ((List.range i).map val)) (m:=U) λk E=>by
     obtain⟨p,hp,rfl⟩:=X6 ((gc _ k).mp E);obtain⟨j,a,rfl⟩:=X6 hp;exact C j (by have:=mem_range.mp a;lia)
    rw[Z5]at q
    lia
   refine Z2 (wpAny_holding (zD (p:=val i) Q (H.keep (h':=f.heap) λo e=>l.heap S o u e) L (g i lt) room (λs' B=>T i lt s' B _) λh2 b ab M N z=>Z3 %[plainId_quiet F.plain_set_update_loop _|ih (i+1) _ ⋯ lt (W.frame _ f _ _ J z λb y o e=>?_) (by rw[pR];exact N) (λj a=>lu (g j a) λo e=>(M.2 _ (c j a).1)▸e) λs3 m3 O=>?_]))
   .rw[M.2 b (λq:b=S=>r (q▸y))];exact e
   .refine d s3 (Moved.trans W.gtrans ((l.mono more).then_heap z λb o y e=>?_) m3) O;rw[M.2 b (λq:b=S=>y (q▸Zl))];exact e
end
section
variable{prog:Program}{w:World}{κ:Type}[DecidableEq κ]{knd:PySem.KeyKind prog w κ}{A:Around}{E:ZD}{s:Shared}
theorem ni(hh:A.handled=none)(hu:A.units+16<cLine)(hl:s.heap.IsList l a)(hi:a.toList=ps.map λp=>Value.ref p.1)(tk:∀p∈ps,IsTupleKey knd s.heap p.2 p.1)(U:List (List κ))(hU:U.length<=999)(ab:∀p∈ps,p.2∈U)
 (hv:∀p∈ps,∀(B:Around) (s':Shared) (O:Bool->Shared->Prop) (E':ZD),IsTupleKey knd s'.heap p.2 p.1->O false s'->↥B (hashByValue 8 (.ref p.1)) O E' s')
 (hQ:∀(h':Heap) (tk:Nat),l7 w knd ⇑s (bc ps) h'->(∀b o,s.heap.get? b=some o->h'.get? b=some o)->Q (.ref ⇑s) {s with heap:=h',toks:=tk}):
 ↥A (call (.type "set") [.ref l]) Q E s:=by
 obtain⟨c,tl,a5⟩:=called_set.mro;have ag:=called_set.made;have a6:=called_set.sub;refine wpAny_call (codeAny_of_tree ?_);show wpAny _ _ (callAny (.type "set") _) _ _ _;refine Z3 %[Code.quiet_builtin _ (by decide +kernel)|codeAny_builtin F.entry_type_call ?_];rw[Around.under_plain (weight_type_call_type "set" [.ref l] []) rfl];have a8:=called_set.notType;have a9:=called_set.canCreate;have bb:=PySem.F.typeCall_set_1 (.ref l)
 repeat any_goals first|assumption|wp_step
 refine codeAny_mono (rc (.ref l) (E:=E) (Q₁:=λobj q=>obj= .ref ⇑s/\q=(s>>>s.heap.push (aS w))) %[rfl|rfl]) λr q C=>?_
 cases r with
 | error e=>exact C
 | ok fl=>
   cases fl with
   | ret obj=>
     obtain⟨rfl,rfl⟩:=C;have gS:(s.heap.push (aS w)).get? ⇑s=some (aS w):=Zi _ rfl;have tS:Shared.TypeIs (s>>>s.heap.push (aS w)) (.ref ⇑s) "set":=%[_,gS|rfl]
     have bf:=called_set.init.lookup;have bl:=called_set.init.bind (.ref ⇑s)
     repeat any_goals first|assumption|wp_step
     refine codeAny_mono (codeAny_call_builtin (R:=wants (λr t=>r= .none/\∃h' tk,t={s with heap:=h',toks:=tk}/\l7 w knd ⇑s (bc ps) h'/\(∀b o,s.heap.get? b=some o->h'.get? b=some o)) E) called_set.init.plain F.entry_set_init (check_set_init_1 tS ?_)) λG t f=>?_
     .obtain⟨ol,gl,cl,nl,dl⟩:=hl;obtain⟨a7,y,ai,m⟩:=ol;simp only at cl dl;subst cl;subst dl;have al:(s.heap.push (aS w)).get? l=some {cls:= .type "list",dict:=y,data:= .seq a nl,slots:=m}:=Z6 _ gl;have bm:=PySem.F.sub_list_set;have bt:=PySem.F.sub_list_frozenset;have b0:(Value.type "list"==Value.type "dict")=false:=by decide
      have H:(s.heap.push (aS w)).IsList l a:=%[_,al,rfl,nl|rfl]
      unfold Builtin.«set.__init__»;unfold noKeywords;unfold Builtin.Frozenset.updateFrom
      generalize an:pyIter=PI
      wp_walk
      subst an;refine wpAny_pyIter_list H (Z2 (wpAny_runValue ?_));have I:l<⇑s:=Zt gl;have h3:A.in1.in1.in1.handled=none:=by simp[hh]
      have T:(s.heap.push (aS w)).objs.size=⇑s+1:=Zp ..;have as:l≠(s.heap.push (aS w)).objs.size:=by rw[T];exact Zr (Yf I)
      have a0:⇑s∉[(s.heap.push (aS w)).objs.size,l]:=by
       rw[T];simp only[Yn,Yt,or_false,not_or];exact%[Zr (Yg _)|Yo I]
      have J:a.size=ps.length:=by rw[<-Za,hi,Z5]
      have a1:A.in1.in1.in1.units<cLine:=by simp only[Around.in1];lia
      have g:∀i,i<a.size->∃p∈ps,ps[i]? =some p/\ps.getD i (0,[])=p:=λi h=>by
       have h':i<ps.length:=by lia
       exact%[ps[i],Y5 h',by simp[h']|by simp[Zb,h']]
      refine nh (knd:=knd) ((Walks.list h3 _ l as a).toS) ⇑s a0 a1 (λi=>ps.getD i (0,[])) (λi v d a2=>?_) U hU (λi d=>?_) (λi d=>?_) (λi d=>?_) (a.size-0) 0 _ ⋯ (Yy _)
       %[%[_,Zi _ rfl,rfl|rfl]|H.push _] %[_,#[],0,_,Z6 _ gS,%[rfl,rfl|rfl],rfl,IN.fresh 0 0 _|List.Perm.refl _] (λj d=>?_) ?_
      .obtain⟨p,u,L,n⟩:=g i d;have:a.toList[i]? =some v:=by rw[getElem?_toList];exact a2
       rw[hi,Zk,L]at this;show v= .ref (ps.getD i (0,[])).1;rw[n];exact(Z9 this).symm
      .obtain⟨p,u,L,n⟩:=g i d;show(ps.getD i (0,[])).2∈U;rw[n];exact ab p u
      .obtain⟨p,u,L,n⟩:=g i d;obtain⟨po,_,_,pg,_⟩:=tk p u;have M:=Zt pg;show(ps.getD i (0,[])).1≠_/\(ps.getD i (0,[])).1∉_;rw[n];refine%[Zr M|?_];simp only[Yn,Yt,or_false,T];exact Zr (Yf M)
      .obtain⟨p,u,L,n⟩:=g i d;intro s' O E';show IsTupleKey knd s'.heap (ps.getD i (0,[])).2 (ps.getD i (0,[])).1->_->wpAny _ _ (hashByValue 8 (.ref (ps.getD i (0,[])).1)) _ _ _;rw[n];exact hv p u _ s' O E'
      .obtain⟨p,u,L,n⟩:=g j d;show IsTupleKey knd _ (ps.getD j (0,[])).2 (ps.getD j (0,[])).1;rw[n];exact lu (tk p u) λo e=>Z6 _ (Z6 _ e)
      intro s3 Y S3;have C:(List.range a.size).map (λi=>ps.getD i (0,[]))=ps:=by
       rw[J];apply ext_getElem
       .simp
       .intro i h1 h2;simp[Zb,h2]
      rw[C]at S3;obtain⟨h',g',d',a3,a4⟩:=s3;have eg:g'=s.gens:=Y.gens;have ed:d'=s.drawn:=Y.drawn;have eo:a4=s.os:=Y.os;subst eg;subst ed;subst eo;refine Z3 ?_;show wpAny _ _ (ret Value.none) _ _ _;refine Z3 %[rfl,h',a3,rfl,S3|λb o e=>?_];have N:=Zt e;refine Y.heap b o ?_ (Z6 _ (Z6 _ e));simp only[Yn,Yt,or_false,not_or,T];exact%[Zr N|Zr (Yf N)]
     .cases G with
      | error e=>exact f
      | ok z=>
        cases z with
        | ret r=>
          obtain⟨rfl,h',tk,rfl,S3,k3⟩:=f
          repeat any_goals first|assumption|wp_step
          exact hQ _ _ S3 k3
        | _=>exact f.elim
   | _=>exact C.elim
end
open PySem PySem.Spec PyProof.Rows
section
variable{prog:Program}{w:World}{A:Around}{s:Shared}
theorem iT{Nv:Value->Nat}{P:Fin->Shared->Prop}(G:s.heap.get? a=some (seqObj "list" vs.toArray n))(z:vs.length<64)
 (f:∀l:Heap,(∀b o,b≠a->s.heap.get? b=some o->l.get? b=some o)->2<=vs.length->∀Q:SortKind->Shared->Prop,Q kd (s>>>l)->↥A (keyKind' vs.toArray) Q E (s>>>l))
 (I:∀l:Heap,(∀b o,b≠a->s.heap.get? b=some o->l.get? b=some o)->SBig.Cmp prog w A (λs'=>s'=(s>>>l)) kd (λx=>x.1∈vs) (λx=>Nv x.1))
 (h:∀g:ZF,g.Perm vs->g.Pairwise (λx y=>Nv x<=Nv y)->P (.done (.ret .none)) (s>>>sortedHeap s.heap a vs g.toArray)):
 ↥A (Builtin.«list.sort» %[[.ref a]|[]]) P E s:=by
 rw[list_sort_plain];have M:a<⇑s:=Zt G;have j:vs.length<=sizeLine:=Y8 (le_of_lt z) (by decide);refine Z2 (listItems_at G rfl ?_);refine Z2 (listUpdate_at G rfl ?_ (j));obtain⟨J,B⟩:∃J,(s.heap.update a (Obj.mapSeq λ_=> #[])).get? a=some (seqObj "list" #[] J):=%[_|get?_update_seq G (λ_=> #[])]
 refine Z2 (seqEpoch_at B rfl ?_);refine Z2 (wpAny_newTuple ?_ (j));refine Z2 (wpAny_newList ?_);refine wpAny_holding ?_;have keep:∀b o,b≠a->s.heap.get? b=some o->(((s.heap.update a (Obj.mapSeq λ_=> #[])).push (seqObj "tuple" vs.toArray 0)).push (seqObj "list" #[] 0)).get? b=some o:=λb o T e=>
  Z6 _ (Z6 _ ((get?_update_other _ _ (Ne.symm T)).trans e))
 have d:(((s.heap.update a (Obj.mapSeq λ_=> #[])).push (seqObj "tuple" vs.toArray 0)).push (seqObj "list" #[] 0)).get? a=some (seqObj "list" #[] J):=by
  rw[Heap.get?_push_ne _ _ _ (by rw[size_push',Heap.size_update];exact Zr (Yf M)),Heap.get?_push_ne _ _ _ (by rw[Heap.size_update];exact Zr M)];exact B
 have f:=f _ keep;have I:=I _ keep;show ↥A _ P E {s with heap:=((s.heap.update a (Obj.mapSeq λ_=> #[])).push (seqObj "tuple" vs.toArray 0)).push (seqObj "list" #[] 0)};dsimp only;have L:vs.toArray.size=vs.length:=by simp
 have m:(vs.toArray.zip vs.toArray).toList=vs.map λv=>(v,v):=by
  rw[Array.toList_zip,List.toList_toArray];apply ext_getElem
  .simp
  .intro i h1 p;simp
 have C:∀c:SortSt,(arrOf c).toList.Perm (vs.map λv=>(v,v))->SBig.Srt (λx=>Nv x.1) (arrOf c).toList->P (.done (.ret .none)) (s>>>(sortedHeap s.heap a vs ((arrOf c).map (·.2)))):=by
  intro c t H;have N:∀x∈(arrOf c).toList,x.1=x.2:=λx u=>by
   obtain⟨v,_,rfl⟩:=X6 (t.mem_iff.mp u);rfl
  have e:(arrOf c).map (·.2)=((arrOf c).toList.map (·.2)).toArray:=by
   apply Array.ext';simp
  rw[e];refine h _ ?_ ?_
  .have:=t.map (·.2);rwa[Yj,show((λx:Keyed=>x.2) ∘ λv:Value=>(v,v))=id from rfl,map_id]at this
  .rw[Yv];exact X0 (λ{x y} u U q=>by rw[<-N x u,<-N y U];exact q) H
 by_cases p:vs.toArray.size<2
 .rw[if_pos p,if_pos p];refine Z2 (Z3 ?_);rw[StateT.run_pure];refine Z2 (Z3 ?_);dsimp only;refine Z2 (seqEpoch_at d rfl (Z2 (listUpdate_at d rfl ?_ (hsz2:=by rw[size_map];show(pairsOf vs).size<=_;rw[pairsOf_size,sizeLine_eq];lia))));simp only[bne_self_eq_false,Zx,if_false];refine Z3 (C _ (by rw[m]) ?_);rw[m]
  match vs,L,p with
  |[],_,_=>exact List.Pairwise.nil
  |[v],_,_=>exact List.pairwise_singleton _ _
  | v1::v2::r,h3,Y=>simp at Y;lia
 .rw[if_neg p,if_neg p];refine Z2 (f ⋯ _ ?_);refine Z2 (wpAny_mono (SBig.sc_sortFew (D:=λx=>x.1∈vs) (st:=SortSt.mk' kd (vs.toArray.zip vs.toArray) #[] 7 none) I (λx u=>?_) ?_ ?_ rfl rfl
   (Q:=λ_ c=>(arrOf c).toList.Perm (vs.map λv=>(v,v))/\failedOf c=none/\SBig.Srt (λx=>Nv x.1) (arrOf c).toList) (λc a1 a2 a3=>%[?_,a3|a2]) _ rfl) ?_ λ_ _ e=>e.elim)
  .rw[m]at u;obtain⟨v,hv,rfl⟩:=X6 u;exact hv
  .rw[<-Za,m,Z5]
   lia
  .show(vs.toArray.zip vs.toArray).size<64;rw[<-Za,m,Z5];exact z
  .rwa[m]at a1
  .rintro⟨⟨⟩,c⟩ s' ⟨rfl,t,O,H⟩;dsimp only at t O H ⊢;refine Z2 (seqEpoch_at d rfl (Z2 (listUpdate_at d rfl ?_ (hsz2:=?_))))
   .rw[O];simp only[bne_self_eq_false,Zx,if_false];exact Z3 (C c t H)
   .rw[size_map,<-Za,t.length_eq,Z5];exact Nat.le_succ_of_le j
end
noncomputable def ba(x y:Str):Bool:=decide (x.cps.toList<y.cps.toList)
noncomputable def df:ZB->ZB->Bool
 |[],[]=>false
 |[],_::_=>true
 | _::_,[]=>false
 | x::xs,y::ys=>if x=y then df xs ys else ba x y
theorem eX(x:Str):ba x x=false:=Zg (List.lt_irrefl _)
theorem DW{x y:Str}(h:x.cps.toList=y.cps.toList):x=y:=by
 obtain⟨⟨l⟩⟩:=x
 simp_all
theorem fN(a:ba x y=true)(b:ba y z=true):ba x z=true:=Ze (List.lt_trans (Zn a) (Zn b))
theorem fO{x y:Str}(h:ba x y=false)(a:x≠y):ba y x=true:=by
 exact Ze (Classical.byContradiction λb=>a (DW (List.le_antisymm b (of_decide_eq_false h))))
theorem vA:∀x,df x x=false
 |[]=>rfl
 | x::xs=>by rw[df,if_pos rfl];exact vA xs
theorem iG:∀{x y z:ZB},df x y=true->df y z=true->df x z=true
 |[],[],z,b,a=>by cases b
 |[],y::ys,[],b,a=>by cases a
 |[],y::ys,z::zs,b,a=>rfl
 | x::xs,[],z,b,a=>by cases b
 | x::xs,y::ys,[],b,a=>by cases a
 | x::xs,y::ys,z::zs,b,a=>by
   rw[df]at b a ⊢;by_cases d:x=y
   .rw[if_pos d]at b;subst d;by_cases c:x=z
    .rw[if_pos c]at a ⊢;exact iG b a
    .rw[if_neg c]at a ⊢;exact a
   .rw[if_neg d]at b;by_cases c:y=z
    .rw[if_pos c]at a;subst c;rw[if_neg d];exact b
    .rw[if_neg c]at a;have f:=fN b a;rw[if_neg (λe=>by rw[e,eX]at f;cases f)];exact f
theorem j3:∀{x y:ZB},df x y=false->x≠y->df y x=true
 |[],[],a,c=>absurd rfl c
 |[],y::ys,a,c=>by cases a
 | x::xs,[],a,c=>rfl
 | x::xs,y::ys,a,c=>by
   rw[df]at a ⊢;by_cases b:x=y
   .rw[if_pos b]at a;rw[if_pos b.symm];exact j3 a λe=>c (by rw[b,e])
   .rw[if_neg b]at a;rw[if_neg (Ne.symm b)];exact fO a b
noncomputable def fP(ks:List ZB)(k:ZB):Nat:=ks.countP λu=>df u k
theorem jy(b:x∈ks):df x y=decide (fP ks x<fP ks y):=by
 have up:∀(l:List ZB) p q,(∀u∈l,p u=true->q u=true)->l.countP p<=l.countP q:=λl p q h=>List.countP_mono_left h
 cases h:df x y with
 | true=>
   symm
   refine Ze ?_;have c:∀l:List _,x∈l->l.countP (λu=>df u x)<l.countP (λu=>df u y):=by
    intro l
    induction l with
    | nil=>simp
    | cons u l d=>
      intro b;rw[countP_cons,countP_cons];have f:=up l (λu=>df u x) _ λu _ a=>iG a h
      rcases mem_cons.mp b with e|e
      .subst e;rw[if_neg (by rw[vA];simp),if_pos h]
       lia
      .by_cases a:df u x=true
       .rw[if_pos a,if_pos (iG a h)]
        lia
       .rw[if_neg a]
        split<;> lia
   exact c ks b
 | false=>
   symm
   refine Zg (Nat.not_lt.mpr (up ks _ _ λu _ a=>?_));by_cases e:x=y
   .exact e▸a
   .exact iG a (j3 h e)
section
variable{prog:Program}{w:World}{A:Around}{s:Shared}{E:ZD}
abbrev wI(prog:Program)(w:World)(h:Heap)(zs:ZB)(r:Addr):Prop:=IsTupleKey (aN prog w) h (zs.map Sum.inr) r
theorem fQ:∀{zs:ZB} {vs:ZF},ItemsAre (aN prog w) (zs.map Sum.inr) vs->StrsAre vs zs
 |[],_,h=>by cases h;exact .nil
 | z::zs,_,h=>by
   cases h with
   | cons a d=>
     have a:jk (Sum.inr z) _=true:=a;rcases aZ a with⟨i,t,b,c⟩|⟨y,t,b,c⟩
     .cases b
     .cases b;subst c;exact .cons z t (fQ d)
theorem Cm:∀(x y:ZB) (vs us:ZF) (i:Nat),StrsAre vs x->StrsAre us y->(x.length=y.length)->a=false->Q (df x y) s->PySem.W.KatLex prog w A b a Q (vs.zip us) i s
 |[],[],_,_,i,.nil,.nil,_,c,h=>c▸h
 | x::xs,y::ys,_,_,i,.cons _ t d,.cons _ u f,g,c,h=>by
   rw[List.zip_cons_cons];refine PySem.W.kat_cons (eqBool_str ?_);rw[df]at h;by_cases e:x=y
   .subst e;rw[if_pos rfl]at h;rw[beq_self_eq_true];exact PySem.W.kat_yes (Cm xs ys _ _ _ d f (by simpa using g) c h)
   .rw[if_neg e]at h;rw[beq_eq_false_iff_ne.mpr e];refine PySem.W.kat_no ?_;cases j:(b&&i==0)with
    | true=>exact oneLt_str h
    | false=>exact PySem.W.kat_one _ _ (lt_str h)
theorem Bw(d:wI prog w s.heap x r)(e:wI prog w s.heap y q)(f:x.length=y.length)(h:Q (df x y) s):↥A (keyLt' (tuples' b) (.ref r) (.ref q)) Q E s:=by
 obtain⟨ox,xs,nx,g,_,i,j⟩:=d;obtain⟨o,ys,p,l,_,m,n⟩:=e;have a:=fQ j;have c:=fQ n;refine PySem.W.kat_lt g i l m (Cm x y _ _ 0 a c f ?_ h);have t:=br a;have u:=br c
 simp_all
end
theorem rJ [DecidableEq d][DecidableEq i](g:d->i)(j:∀a b,g a=g b->a=b)(l:List (Addr×d)):bc (l.map λp=>(p.1,g p.2))=(bc l).map λp=>(p.1,g p.2):=by
 have m:∀(l ps:List _),(l.map λp=>(p.1,g p.2)).foldl f9 (ps.map λp=>(p.1,g p.2))=(l.foldl f9 ps).map λp=>(p.1,g p.2):=by
  intro l
  induction l with
  | nil=>intro ps;rfl
  | cons p l n=>
    intro ps;rw[Yi,foldl_cons,foldl_cons];have e:f9 (ps.map λp=>(p.1,g p.2)) (p.1,g p.2)=(f9 ps p).map λp=>(p.1,g p.2):=by
     unfold f9;have f:(g p.2∈(ps.map λp=>(p.1,g p.2)).map (·.2))↔p.2∈ps.map (·.2):=by
      rw[Yj]
      constructor
      .intro h;obtain⟨q,c,e⟩:=X6 h;exact X7 %[q,c|j _ _ e]
      .intro h;obtain⟨q,c,e⟩:=X6 h;exact X7 %[q,c|by show g q.2=g p.2;rw[e]]
     by_cases h:p.2∈ps.map (·.2)
     .rw[if_pos h,if_pos (f.mpr h)]
     .rw[if_neg h,if_neg (λz=>h (f.mp z)),Zc];rfl
    rw[e];exact n _
 exact m l []
noncomputable abbrev Fh(p:Addr×ZB):Addr×List Key:=(p.1,p.2.map Sum.inr)
theorem pS:∀a b:ZB,a.map (Sum.inr:Str->Key)=b.map Sum.inr->a=b
 |[],[],_=>rfl
 |[],_::_,h=>by cases h
 | _::_,[],h=>by cases h
 | x::xs,y::ys,h=>by
   injection h with c d
   injection c with e
   rw[e,pS xs ys d]
section
#where
variable{S:Addr}
theorem l8:∀{vs:ZF} {zs:ZB},StrsAre vs zs->ItemsAre (aN prog w) (zs.map Sum.inr) vs
 | _,_,.nil=> .nil
 | _,_,.cons x t h=> .cons (di x t) (l8 h)
theorem Bx(c:zs≠[])(b:wI prog w s.heap zs r)(h:Q false s):↥A (hashByValue 8 (.ref r)) Q E s:=by
 have d:=b.typeIs;obtain⟨o,a,n,e,_,f,hi⟩:=b;refine Z2 (wpAny_specialOf d F.slot_tuple_hash.lookup (Z2 (wpAny_seqItems e f (Z2 ?_))));rw[<-forIn_toList]
 match zs,a.toList,(fQ hi),c with
 | z::zs,_,.cons _ t g,_=>
   exact Z2 (Z2 (Z3 (Z3 (Z3 (Z3 h)))))
noncomputable def kOf(ps:ZG):Value->ZB
 | .ref r=>((ps.find? λp=>p.1==r).map (·.2)).getD []
 | _=>[]
noncomputable def aOf:Value->Addr
 | .ref r=>r
 | _=>0
theorem l9(L:∀(E1:ZD) (R:ZF->Shared->Prop),(∀c vs,vs.Perm (ps.map λp=>Value.ref p.1)->(∀b o,s.heap.get? b=some o->c.heap.get? b=some o)->c.gens=s.gens->c.os=s.os->R vs c)->↥A.in1 (collect (.ref S)) R E1 s)(tk:∀p∈ps,wI prog w s.heap p.2 p.1)(Y:∀p∈ps,p.2.length=m)(m0:m≠0)(as:ps.length<64)
 (hQ:∀(c s':Shared) (l:Addr) (ss:ZG) (n:Nat),ss.Perm ps->ss.Pairwise (λa b=>df b.2 a.2=false)->(∀b o,s.heap.get? b=some o->c.heap.get? b=some o)->c.gens=s.gens->c.os=s.os->(∀b o,c.heap.get? b=some o->s'.heap.get? b=some o)->s'.gens=c.gens->s'.os=c.os->⇑c<=l->s'.heap.get? l=some {cls:= .type "list",data:= .seq (ss.map λp=>Value.ref p.1).toArray n}->Q (.ref l) s'):
 ↥A (call (.builtin "sorted") [.ref S]) Q E s:=by
 have r:∀p∈ps,kOf ps (.ref p.1)=p.2:=λp d=>by
  show((ps.find? λq=>q.1==p.1).map (·.2)).getD []=p.2;cases B:ps.find? λq=>q.1==p.1 with
  | none=>
    have:=List.find?_eq_none.mp B p d;simp at this
  | some q=>
    have C:=List.mem_of_find?_eq_some B;have e:q.1=p.1:=by have:=List.find?_some B;simpa using this
    show q.2=p.2;have t1:=tk q C;rw[e]at t1;exact pS _ _ (t1.inj (tk p d))
 refine Calls.call_function_entry kind_sorted plain_sorted entry_sorted (args_sorted1 _) ?_;unfold Builtin.«sorted»;refine Z2 (m:=checkCount "sorted" 1 1 _) (Z3 ?_);refine Z2 (L _ _ λc vs q2 k1 g1 o1=>?_);have hl:vs.length=ps.length:=by rw[q2.length_eq,Z5]
 have mem:∀v∈vs,∃p∈ps,v=Value.ref p.1:=λv G=>by
  obtain⟨p,d,rfl⟩:=X6 (q2.mem_iff.mp G);exact%[p,d|rfl]
 refine Z2 (wpAny_newList ?_ (by rw[sizeLine_eq];lia));have gL:(c.heap.push (seqObj "list" vs.toArray 0)).get? ⇑c=some (seqObj "list" vs.toArray 0):=Zi _ rfl;have H:∀p∈ps,∀j:Heap,(∀b o,b≠⇑c->(c.heap.push (seqObj "list" vs.toArray 0)).get? b=some o->j.get? b=some o)->wI prog w j p.2 p.1:=λp d j J=>by
  refine lu (tk p d) λo e=>?_
  have M:=k1 _ _ e;exact J _ _ (Zr (Zt M)) (Z6 _ M)
 refine Z2 (wpAny_holding (wpAny_call_entry slot_list_sort %[_,gL|rfl] entry_list_sort (iT (s:=(c>>>c.heap.push (seqObj "list" vs.toArray 0))) (kd:=tuples' true) (Nv:=λv=>fP (ps.map (·.2)) (kOf ps v)) gL ⋯ (λj J a0 Q6 ab=>?_) (λj J=>?_) λg p1 p2=>%[_,rfl|?_]) (args_list_sort _)))
 .have tups:∀l:ZF,(∀v∈l,∃p∈ps,v=Value.ref p.1)->∃fs:ZF,KatTups j l fs/\fs.length=l.length/\∀f∈fs,∃z t,f=Value.str z t:=by
   intro l
   induction l with
   | nil=>intro _;exact%[[],KatTups.nil,rfl|λf B=>by cases B]
   | cons v l ih=>
     intro G;obtain⟨fs,f1,f2,f3⟩:=ih λu hu=>G u (Zj _ hu)
     obtain⟨p,d,rfl⟩:=G v Zl;obtain⟨o',h,n',g',c',d',i'⟩:=H p d j J;have i:=fQ i';have ag:p.2≠[]:=λe=>by have:=Y p d;rw[e]at this;exact m0 this.symm
     obtain⟨z,zs,ez⟩:∃z zs,p.2=z::zs:=by
      cases ai:p.2 with
      | nil=>exact absurd ai ag
      | cons z zs=>exact%[z,zs|rfl]
     rw[ez]at i;obtain⟨t',vr,ev⟩:∃t' vr,h.toList=Value.str z t'::vr:=by
      cases N:h.toList with
      | nil=>rw[N]at i;cases i
      | cons a b=>
        rw[N]at i;cases i with
        | cons _ t' _=>exact%[t',b|rfl]
     have e0:h[0]? =some (Value.str z t'):=by
      have:h.toList[0]? =some (Value.str z t'):=by rw[ev];rfl
      simpa using this
     exact⟨Value.str z t'::fs,KatTups.cons g' c' d' e0 f1,by simp[f2],λf B=>by
      rcases mem_cons.mp B with e|e
      .exact%[z,t'|e]
      .exact f3 f e⟩
  obtain⟨fs,f1,f2,f3⟩:=tups vs mem;refine PySem.W.kat_kind (T:= .type "str") f1 ⋯ (λf B=>?_) (by decide) ab;obtain⟨z,t',rfl⟩:=f3 f B;exact Looks.of_pure rfl
 .intro x y s' hx hy i;subst i;obtain⟨p,d,al⟩:=mem _ hx;obtain⟨q,C,an⟩:=mem _ hy;obtain⟨x1,x2⟩:=x;obtain⟨y1,y2⟩:=y;obtain rfl:x1=Value.ref p.1:=al;obtain rfl:y1=Value.ref q.1:=an;show ↥A.in1.in1 (keyLt' (tuples' true) (Value.ref p.1) (Value.ref q.1)) (λb s'=>b=decide (fP (ps.map (·.2)) (kOf ps (Value.ref p.1))<fP (ps.map (·.2)) (kOf ps (Value.ref q.1)))/\s'=(c>>>j)) (λ_ _=>False) (c>>>j);rw[r p d,r q C];refine Bw (s:=(c>>>j)) (H p d j J) (H q C j J) (by rw[Y p d,Y q C]) %[?_|rfl];exact jy (X7 %[p,d|rfl])
 .have U:g.Perm (ps.map λp=>Value.ref p.1):=p1.trans q2;have oe:g=(g.map λv=>(aOf v,kOf ps v)).map λp=>Value.ref p.1:=by
   rw[Yj];refine(map_id g).symm.trans (Yh λv G=>?_);obtain⟨p,d,rfl⟩:=X6 (U.mem_iff.mp G);rfl
  obtain⟨n,gl⟩:∃n,(sortedHeap (c.heap.push (seqObj "list" vs.toArray 0)) ⇑c vs g.toArray).get? ⇑c=some (seqObj "list" g.toArray n):=sortedHeap_at gL;refine Z3 %[_,rfl|hQ c _ ⇑c (g.map λv=>(aOf v,kOf ps v)) n ?_ ?_ k1 g1 o1 (λb o' M=>?_) rfl rfl (Zh _) ?_]
  .have:=U.map λv=>(aOf v,kOf ps v)
   rw[Yj]at this;refine this.trans ?_;have:(ps.map ((λv=>(aOf v,kOf ps v)) ∘ λp=>Value.ref p.1))=ps:=by
    refine(Yh λp d=>?_).trans (map_id ps);show(p.1,kOf ps (.ref p.1))=p;rw[r p d]
   rw[this]
  .rw[Yv];refine X0 (λ{u v} hu G I=>?_) p2;obtain⟨p,d,rfl⟩:=X6 (U.mem_iff.mp hu);obtain⟨q,C,rfl⟩:=X6 (U.mem_iff.mp G);show df (kOf ps (.ref q.1)) (kOf ps (.ref p.1))=false;have I:fP (ps.map (·.2)) (kOf ps (.ref p.1))<=fP (ps.map (·.2)) (kOf ps (.ref q.1)):=I;rw[r p d,r q C]at I ⊢;rw[jy (ks:=ps.map (·.2)) (X7 %[q,C|rfl])];exact Zg ⋯
  .have O:=Zt M;show(sortedHeap _ _ _ _).get? b=_;rw[sortedHeap_old (Zr O) (by rw[Zp];exact Yf O)];exact Z6 _ M
  .have e3:(seqObj "list" g.toArray n)=({cls:= .type "list",data:= .seq ((g.map λv=>(aOf v,kOf ps v)).map λp=>Value.ref p.1).toArray n}:Obj):=by
    rw[(congrArg List.toArray oe.symm)]
   exact gl.trans (congrArg some e3)
end
section
variable{X:Cx}{K:ZA}
noncomputable def md(P:Program)(w:World)(a:Addr)(ps:ZG):HO:= .ext (l7 w (aN P w) a (ps.map Fh))
def aL(H:Hp)(ps:ZG):Prop:=∀p∈ps,p.2≠[]/\H p.1=some (.tup (p.2.map V.str))
theorem pT(I:Inv X pins f H s)(h:aL H ps):∀p∈ps,wI X.prog X.w s.heap p.2 p.1:=λp a=>by
 obtain⟨_,its,b,o,c,d,n,e⟩:=I.hok p.1 _ (h p a).2;exact%[o,its.toArray,n,c,d,e|l8 (fV b)]
theorem pU:∀{ps:ZG} {us:ZF},aC (ps.map λp=>V.ref p.1) us->us=ps.map λp=>Value.ref p.1
 |[],_,.nil=>rfl
 | _::_,_,.cons r t=>by
   cases r;rw[pU t];rfl
theorem pV:∀(ps:ZG),aC (ps.map λp=>V.ref p.1) (ps.map λp=>Value.ref p.1)
 |[]=> .nil
 | _::ps=> .cons rfl (pV ps)
theorem wJ(j:X.calm=true)(E:X.A.units+64<cLine):bK X (.type "set") (λxs H Q=>∃p ps,xs=[.ref p]/\SqL X.K H p (ps.map λq=>V.ref q.1)/\aL H ps/\(∃U:List _,U.length<=999/\∀q∈ps,q.2∈U)/\∀l,H l=none->Q (.ref l) (upd H l (md X.prog X.w l (bc ps)))):=by
 intro pins s G H xs us Q I r h;obtain⟨p,ps,rfl,m,g,⟨U,J,d⟩,q⟩:=h;obtain⟨u,rfl,n⟩:=cR r;cases n;obtain⟨its,t,pl,L⟩:=I.list m;have v:=pU t;refine ni (knd:=aN X.prog X.w) (I.ok.hd j) ⋯ pl.isList (ps:=ps.map Fh) (by simp_all) (λi a=>?_) (U.map λz=>z.map Sum.inr) (by simp_all) (λi a=>?_) (λi a B s' M N e f=>?_) λh' w S k=>?_
 .obtain⟨b,c,rfl⟩:=X6 a;exact(pT I g) b c
 .obtain⟨b,c,rfl⟩:=X6 a;exact X7 %[b.2,d b c|rfl]
 .obtain⟨b,c,rfl⟩:=X6 a;exact Bx (g b c).1 e f
 .rw[(rJ _ pS ps)]at S;refine%[.ref ⇑s,_,I.laid (o:=md X.prog X.w ⇑s _) k (Zh _) %[S,?_|λO T y A=>l7.keep y A],rfl|q _ I.fresh];obtain⟨o,_,_,_,C,_⟩:=S;exact%[o|C]
theorem pW(y:X.calm=true):bK X (.builtin "sorted") (λxs H Q=>∃a ps m,xs=[.ref a]/\H a=some (md X.prog X.w a ps)/\aL H ps/\(∀p∈ps,p.2.length=m)/\m≠0/\ps.length<64/\
 ∀l (ss:List _),H l=none->ss.Perm ps->ss.Pairwise (λa b=>df b.2 a.2=false)->Q (.ref l) (upd H l (.lst (ss.map λp=>V.ref p.1)))):=by
 intro pins s U H xs us Q I r h;obtain⟨a,ps,m,rfl,z,A,B,C,d,q⟩:=h;obtain⟨u,rfl,E⟩:=cR r;cases E;obtain⟨⟨o,e,Y,t,G,f,L,J,P⟩,_,_⟩:=(I.hok a _ z)
 have hn:e.size=ps.length:=by
  have:=P.length_eq
  simp_all
 have pv:(e.toList.map (·.2)).Perm (ps.map λp=>Value.ref p.1):=by
  have:=P.map (·.2);rw[Yj,Yj]at this;exact this
 refine l9 (λE1 R M=>ju (I.ok.hd y) G f L (by show e.size<4096;lia) J.fits J.plain J.led λv vs N i g1 j _=>M v vs (N.trans pv) i g1 j) (pT I A) B C d λv s' l ss n w O i g1 j k g o c T=>?_
 have I:=I.keptS i g1 j;refine%[.ref l,_,I.stoodS (o:= .lst _) (I.keptS k g o) c %[?_,ss.map _,n,pV ss|T],rfl|q l ss (I.hok.fresh c) w O];rw[Z5,w.length_eq,sizeLine_eq]
 lia
theorem zE{P:Program}(h:X.K=K)(c:X.prog=P)(hw:X.w=w)(a:X.calm=true)(b:bC k X.A):cv X (.type "set") (λxs H Q=>∃p ps,xs=[.ref p]/\SqL K H p (ps.map λq=>V.ref q.1)/\aL H ps/\(∃U:List ZB,U.length<=999/\∀q∈ps,q.2∈U)/\∀l,H l=none->Q (.ref l) (upd H l (md P w l (bc ps)))):=by
 subst h;subst hw;exact⟨wJ a b.units⟩
theorem oJ{P:Program}(d:X.prog=P)(hw:X.w=w)(c:X.calm=true):cv X (.builtin "sorted") (λxs H Q=>∃a ps m,xs=[.ref a]/\H a=some (md P w a ps)/\aL H ps/\(∀p∈ps,p.2.length=m)/\m≠0/\ps.length<64/\
 ∀(l:Addr) (ss:ZG),H l=none->ss.Perm ps->ss.Pairwise (λa b=>df b.2 a.2=false)->Q (.ref l) (upd H l (.lst (ss.map λp=>V.ref p.1)))):=by
 subst hw;exact⟨pW c⟩
end
noncomputable def wK(K:ZA)(a b:Addr):It:=⟨λi H=>∃xs ys x y,SqL K H a xs/\SqL K H b ys/\xs[i]? =some x/\ys[i]? =some y,
 λi H v c=>∃T x y,H T=none/\v= .ref T/\c=upd H T (.tup [x,y])/\(∀xs,SqL K H a xs->xs[i]? =some x)/\(∀ys,SqL K H b ys->ys[i]? =some y),
 λi H=>∃xs ys,SqL K H a xs/\SqL K H b ys/\i<=xs.length/\i<=ys.length/\(i=xs.length\/i=ys.length)⟩
theorem wL{P:Program}{K:ZA}(z TI TO i1 i2 l1 l2:Addr)(D:ZipApart z TI TO i1 i2 l1 l2):
 oW P w K (.Tuple elts kt tp) (wK K l1 l2) [z,TI,TO,i1,i2] z (ZSt z TI TO i1 i2 (λi h=>h.IsListIter i1 l1 i) (λi h=>h.IsListIter i2 l2 i)) where
 mem:=by simp
 obj:=λi h st b hb=>by
  obtain⟨hz,hTI,⟨a,c,hTO⟩,⟨o1,e1,_,d1⟩,o2,e2,_,d2⟩:=st
  grind
 keep:=λi h h' st k=>by
  obtain⟨hz,hTI,⟨a,c,hTO⟩,⟨o1,e1,r1⟩,o2,e2,r2⟩:=st;exact%[k z ∅ _ hz,k TI ∅ _ hTI,%[a,c|k TO ∅ _ hTO],%[o1,k i1 ∅ _ e1|r1],o2,k i2 ∅ _ e2|r2]
 item:=by
  intro X hP hw hK hc i pins s σ H E I hf st hg;subst hP hw hK;obtain⟨hz,hTI,⟨a,c,hTO⟩,h1,h2⟩:=st;obtain⟨xs,ys,x,y,hq1,hq2,hx,hy⟩:=hg;obtain⟨its1,rv1,pl1,hz1⟩:=I.list hq1;obtain⟨its2,rv2,pl2,hz2⟩:=I.list hq2;obtain⟨u1,hu1,ru1⟩:=rv1.get hx;obtain⟨u2,hu2,ru2⟩:=rv2.get hy;refine wpAny_pyNext_zip_item D hz hTI hTO h1 h2 pl1.isList pl2.isList (x:=u1) (y:=u2) (by simpa using hu1) (by simpa using hu2) λh' a1 a2 a3 a4 a5 a6 hk=>%[_,rfl|wpAny_letOwnedTupleGo_zip (s:=(s>>>h')) a1 λh'' hz'' sb=>?_]
  replace sb:SameBut z h' h'':=sb;have turn1:Inv X pins σ H (s>>>h''):=by
   have nit:∀b v,H b=some v->b∉[z,TI,TO,i1,i2]:=λb v e hb=>by rw[(hf b hb).1]at e;cases e
   have kk:∀b o,b∉[z,TI,TO,i1,i2]->s.heap.get? b=some o->h''.get? b=some o:=λb o hb e=>by
    simp only[Yn,Yt,or_false,not_or]at hb;exact(sb.2 b hb.1).trans (hk b o hb.1 hb.2.2.1 hb.2.2.2.1 hb.2.2.2.2 e)
   refine I.step (g':=s.gens) (d':=s.drawn) (ch:=[z,TI,TO,i1,i2]) (λb hb=>%[(hf b hb).2.2.2.1,(hf b hb).2.1,(hf b hb).2.2.2.2.1|(hf b hb).2.2.2.2.2]) (λb o _ _ hc e _=>kk b o hc e) (λb o _ _ hc e _=>%[o.slots|kk b o hc e]) (λ_ _ _ _ n=>n)
    (λb o hc e=>%[o|kk b o hc e]) (λ_ _ e=>e) (λ_ _ _ e=>e) (λb ps e=>%[#[]|by rw[e];simp]) (λm hm=>?_) (λb v e=>?_) I.bare
   .obtain⟨o,es,ep,ho,r⟩:=hm;exact%[o,es,ep,kk _ o (λhb=>(hf _ hb).2.1 rfl) ho|r]
   .refine(I.hok b v e).stay (λc' v' hc' q=>kk c' v' ?_ q) (λ_ q=>q) λ_ _ q=>q
    rcases hc' with q'|q'
    .exact q'▸nit b v e
    .exact nit c' _ q'
  have Hn:H ⇑s=none:=I.fresh;have I2:Inv X pins σ (upd H ⇑s (.tup [x,y])) (s>>>h''):=by
   have nf:⇑s∉X.fs:=I.nofs (Zh _);refine%[turn1.ok,turn1.os,turn1.bare,?_,turn1.loc,turn1.cell,?_,?_,?_,?_|turn1.len]
   .refine%[turn1.base.keep,turn1.base.slot,λb o e n hx=>?_,turn1.base.there,λb xs e=>?_,λb o v e=>?_|λb ps e=>?_]
    .rw[aj ((λb o e=>Zr (Zf (Zt e) I.sz)) b o e)];exact turn1.base.free b o e n hx
    .rw[aj (ap (turn1.base.tups b xs e) Hn)];exact turn1.base.tups b xs e
    .rw[aj (ap (turn1.base.frzs b o v e) Hn)];exact turn1.base.frzs b o v e
    .obtain⟨m,q⟩:=turn1.base.tbls b ps e;exact%[m|(aj (ap q Hn))▸q]
   .rw[aj (Zr I.lt)];exact turn1.free
   .intro x' c' e;obtain⟨v',q⟩:=I.cell x' c' e;rw[aj (Zr q.lt)];exact turn1.freeC x' c' e
   .intro p hp;obtain⟨e,n,r⟩:=turn1.pin p hp;refine%[e,?_|r];rw[aj (Zr (Zt (I.pin p hp).1))];exact n
   .intro b v e;by_cases hb:b=⇑s
    .subst hb;rw[aa]at e;cases e;exact%[by show 2<=sizeLine;decide,[u1,u2],.cons ru1 (.cons ru2 .nil),_,((sb.2 _ (Yo (Zt hz))).trans a5),rfl,_|rfl]
    .rw[aj hb]at e;refine(turn1.hok b v e).stay (λ_ _ _ q=>q) (λc' q=>?_) λc' xs q=>?_
     .rw[aj (ap q Hn)];exact q
     .rw[aj (ap q Hn)];exact q
  refine%[.ref ⇑s,_,I2,rfl,%[_,x,y,Hn,rfl,rfl,λzs hzs=>(I.list_inj hzs hq1)▸hx|λzs hzs=>(I.list_inj hzs hq2)▸hy],%[hz'',(sb.2 _ D.TIz).trans (hk _ _ D.TIz D.TITO D.TIi1 D.TIi2 hTI),%[_,_|(sb.2 _ D.TOz).trans a2],?_|?_]|λb hb=>?_]
  .obtain⟨o,e,r⟩:=a3;exact%[o,(sb.2 _ D.i1z).trans e|r]
  .obtain⟨o,e,r⟩:=a4;exact%[o,(sb.2 _ D.i2z).trans e|r]
  .have:b<⇑s:=by
    simp only[Yn,Yt,or_false]at hb;obtain⟨o1,q1,_⟩:=h1;obtain⟨o2,q2,_⟩:=h2;rcases hb with rfl|rfl|rfl|rfl|rfl
    .exact Zt hz
    .exact Zt hTI
    .exact Zt hTO
    .exact Zt q1
    .exact Zt q2
   rw[aj (Zr this)];exact(hf b hb).1
 done:=by
  intro X hP hw hK hc i pins s σ H E I hf st hg;subst hP hw hK;obtain⟨hz,hTI,⟨a,c,hTO⟩,h1,h2⟩:=st;obtain⟨xs,ys,hq1,hq2,g1,g2,g3⟩:=hg;obtain⟨its1,rv1,pl1,hz1⟩:=I.list hq1;obtain⟨its2,rv2,pl2,hz2⟩:=I.list hq2;have n1:=rv1.length;have n2:=rv2.length;refine wpAny_pyNext_zip_end (I.ok.hd hc) D hz hTI hTO h1 h2 pl1.isList pl2.isList (by
   rcases g3 with q|q
   .exact .inl (by simp;lia)
   .exact .inr (by simp;lia)) λh' hk=>%[rfl|?_]
  have nit:∀b v,H b=some v->b∉[z,TI,TO,i1,i2]:=λb v e hb=>by rw[(hf b hb).1]at e;cases e
  have kk:∀b o,b∉[z,TI,TO,i1,i2]->s.heap.get? b=some o->h'.get? b=some o:=λb o hb e=>by
   simp only[Yn,Yt,or_false,not_or]at hb;exact hk b o hb.1 hb.2.2.1 hb.2.2.2.1 hb.2.2.2.2 e
  refine I.step (λb hb=>%[(hf b hb).2.2.2.1,(hf b hb).2.1,(hf b hb).2.2.2.2.1|(hf b hb).2.2.2.2.2]) (λb o _ _ hc e _=>kk b o hc e) (λb o _ _ hc e _=>%[o.slots|kk b o hc e]) (λ_ _ _ _ n=>n)
   (λb o hc e=>%[o|kk b o hc e]) (λ_ _ e=>e) (λ_ _ _ e=>e) (λb ps e=>%[#[]|by rw[e];simp]) (λm hm=>?_) (λb v e=>?_) I.bare
  .obtain⟨o',es,ep,ho',r⟩:=hm;exact%[o',es,ep,kk _ o' (λhb=>(hf _ hb).2.1 rfl) ho'|r]
  .refine(I.hok b v e).stay (λc' v' hc' q=>kk c' v' ?_ q) (λ_ q=>q) λ_ _ q=>q
   rcases hc' with q'|q'
   .exact q'▸nit b v e
   .exact nit c' _ q'
 self:=λ_ _ _ _ _ st h=>wpAny_pyIter_zip st.1 h
def Cn(K:ZA)(d:TA):TI:=λe H R=>d e H λvs c=>∃a b,vs=[.ref a,.ref b]/\(∃xs,SqL K c a xs)/\(∃ys,SqL K c b ys)/\R (wK K a b) c
section
variable{X:Cx}{K:ZA}{pos:Pos}
theorem Fi(M:X.K=K){N p:Pos}{a b:Expr}{C:TA}(O:Gl X "zip")(Q:X.mg "zip"=none)(T:aW a=false)(n:aW b=false)(U:QA X [a,b] C):
 QI X (.Tuple E kt N) (.Call (.Name "zip" p) [a,b] [] pos) (Cn K C):=by
 subst M
 constructor
 intro pins s Y H R I h;refine Call_ (iU I O Q boot_zip (PyProof.Rows.callWith_type1 (thn (U.h pos pins s Y H _ I h) λus c ⟨vs,H1,d,r1,q1⟩=>?_) (av T) (by rw[av n];rfl)));obtain⟨r,t,e,⟨xs,u⟩,⟨ys,v⟩,q⟩:=q1;subst e;obtain⟨u1,u2,rfl,e1,e2⟩:=iQ r1;cases e1;cases e2;obtain⟨G,ab,f,ag⟩:=d.list u;obtain⟨its2,ai,g,al⟩:=d.list v;refine call_zip_2 f.isList g.isList λh1 J w y z A _ hk=>wpAny_pyIter_zip J ?_
 have ne:∀i j,i≠j->⇑c+i≠⇑c+j:=λi j h e=>h (Nat.add_left_cancel e)
 have m:∀i,r≠⇑c+i:=λi=>Zr (Zf (by obtain⟨o,B,_⟩:=f.isList;exact Zt B) (le_add_right _ _))
 have nb:∀i,t≠⇑c+i:=λi=>Zr (Zf (by obtain⟨o,B,_⟩:=g.isList;exact Zt B) (le_add_right _ _))
 refine%[⇑c+4,[⇑c+4,⇑c+2,⇑c+3,⇑c+0,⇑c+1],_,wK X.K r t,H1,rfl,(d.kept hk),
  wL _ _ _ _ _ r t %[ne 2 4 (by decide),ne 3 4 (by decide),ne 0 4 (by decide),ne 1 4 (by decide),ne 2 3 (by decide),ne 2 0 (by decide),ne 2 1 (by decide),ne 3 0 (by decide),ne 3 1 (by decide),ne 0 1 (by decide),m 4,m 3,m 0,m 1,nb 4,nb 3,nb 0|nb 1],
  %[J,w,%[_,_|y],z|A],λb L=>?_|q]
 have l:⇑c<=b:=by
  simp only[Yn,Yt,or_false]at L;rcases L with rfl|rfl|rfl|rfl|rfl<;> exact le_add_right _ _
 exact d.fpOk l (d.hok.fresh l)
end
open PySem PySem.Spec PySem.Calls PyProof.Rows PyProof.V PySem.W
def Raw(h:Heap)(d:Addr)(a:Array DictEntry)(b:Nat):Prop:=∃o,h.get? d=some o/\o.ExactDict/\o.data= .dict a b
section
#where
variable{d it:Addr}{es:Array DictEntry}{ep i:Nat}
theorem Raw.ty(h:Raw s.heap d es ep):s.TypeIs (.ref d) "dict":=%[h.choose,h.choose_spec.1|h.choose_spec.2.1.1]
theorem Raw.lt(r:Raw h d es ep):d<h.objs.size:=Zt r.choose_spec.1
theorem Raw.up(r:Raw h d es ep)(e:∀o,h.get? d=some o->h'.get? d=some o):Raw h' d es ep:=%[r.choose,e _ r.choose_spec.1|r.choose_spec.2]
theorem zF(lo:(d==sysModules)=false)(r:Raw s.heap d es ep)
 (h:Q (.ref ⇑s) {s with heap:=s.heap.push {cls:= .type "dict_keyiterator",data:= .fields #[.ref d,.int 0 0,.int es.size 0,.int ep 0]}}):↥A (pyIter (.ref d)) Q E s:=by
 have ty:=r.ty;obtain⟨o,g,_,a⟩:=r;refine wpAny_pyIter_slot ty F.slot_dict_iter (wpAny_call_entry F.slot_dict_iter ty F.entry_dict_iter (Z2 (Z2 (wpAny_notOrdered_dict ty (Z3 ?_)))) (F.args_dict_iter_1 _));show wpAny _ _ (Builtin.Dict.showsAll d>>= _) _ _ s;unfold Builtin.Dict.showsAll;rw[if_neg (lo▸Zs)];refine Z2 (Z3 (Z2 (wpAny_dictEntries g a (Z2 (wpAny_dictEpoch g a (Z2 (wpAny_newObj_type (Z3 %[_,rfl,"dict_keyiterator",_,%[_,Zi _ rfl|rfl],F.slot_dict_keyiterator_next.lookup|?_]))))))));simpa [rawInt]using h
theorem zG(k:s.heap.IsKeyIter it d i es.size ep)(r:Raw s.heap d es ep)(hi:i<es.size)
 (h:∀h',h'.IsKeyIter it d (i+1) es.size ep->SameBut it s.heap h'->Q (some es[i].key) (s>>>h')):↥A (pyNext (.ref it)) Q E s:=by
 obtain⟨o,b,g,a⟩:=id k;obtain⟨od,c,_,e⟩:=r;unfold pyNext;refine Z2 (wpAny_attempt (wpAny_callSpecial?_slot (name:=Str.ofString "__next__") k.typeIs F.slot_dict_keyiterator_next (wpAny_call_entry F.slot_dict_keyiterator_next k.typeIs F.entry_dict_keyiterator_next ?_ (F.args_dict_keyiterator_next_1 _))));refine Z2 (Z3 (Z2 (Z2 (Z2 (wpAny_typeNameOfWhole_keyiter k.typeIs (Z3 (Z2 (wpAny_fieldsOf b a ?_))))))));simp only[show Builtin.Dict_items.ownsTuple "dict_keyiterator"=false by decide,Zx,if_false];show wpAny _ _ (if(Value.ref d==Value.none)=true then _ else _) _ _ s;rw[if_neg (by exact Zs)];refine Z2 (Z3 (Z2 (wpAny_dictEntries c e ?_)));rw[if_neg ∅];refine Z2 (Z3 (Z2 (wpAny_dictEpoch c e ?_)));rw[if_neg ∅];refine Z3 ?_;simp only[if_false,Int.toNat_natCast,Array.getElem?_eq_getElem hi];refine Z2 (Z2 (wpAny_typeNameOfWhole_keyiter k.typeIs (Z3 (Z2 (wpAny_isOneOf_keyiter k.typeIs ?_)))));show wpAny _ _ (setField (.ref it) 1 (rawInt ((i:Int) +1))>>= _) _ _ s;refine Z2 (wpAny_setField b a ∅ ?_);have f:(s.heap.update it (Obj.mapFields (·.setIfInBounds 1 (rawInt ((i:Int) +1))))).IsKeyIter it d (i+1) es.size ep:=
  %[_,get?_update_self _ b (Obj.isFreed_of_fields (Obj.data_mapFields a _)),(Obj.cls_mapFields ..).trans g|by rw[Obj.data_mapFields a];simp[rawInt]]
 exact Z2 (wpAny_holding (Z2 (wpAny_isOneOf_keyiter f.typeIs (Z3 (Z3 %[_,rfl|Z3 (h _ f (SameBut.update ..))])))))
theorem By(j:A.handled=none)(k:s.heap.IsKeyIter it d i es.size ep)(r:Raw s.heap d es ep)(hi:es.size<=i)
 (h:∀h',ExtBut it s.heap h'->Q none (s>>>h')):↥A (pyNext (.ref it)) Q E s:=by
 obtain⟨o,c,l,e⟩:=id k;obtain⟨od,f,_,g⟩:=r;unfold pyNext;refine Z2 (wpAny_attempt (wpAny_callSpecial?_slot (name:=Str.ofString "__next__") k.typeIs F.slot_dict_keyiterator_next (wpAny_call_entry F.slot_dict_keyiterator_next k.typeIs F.entry_dict_keyiterator_next ?_ (F.args_dict_keyiterator_next_1 _))));refine Z2 (Z3 (Z2 (Z2 ?_)));refine Z2 (wpAny_typeNameOfWhole_keyiter k.typeIs (Z3 (Z2 (wpAny_fieldsOf c e ?_))));simp only[show Builtin.Dict_items.ownsTuple "dict_keyiterator"=false by decide,Zx,if_false];show wpAny _ _ (if(Value.ref d==Value.none)=true then _ else _) _ _ s;rw[if_neg (by exact Zs)];refine Z2 (Z3 (Z2 (wpAny_dictEntries f g ?_)));rw[if_neg ∅];refine Z2 (Z3 (Z2 (wpAny_dictEpoch f g ?_)));rw[if_neg ∅];refine Z3 ?_;simp only[show ¬ ((i:Int)<0)from by lia,if_false,Int.toNat_natCast,Array.getElem?_eq_none hi];refine Z2 (Z2 (wpAny_typeNameOfWhole_keyiter k.typeIs (Z3 ?_)));show wpAny _ _ (setField (.ref it) 0 .none>>= _) _ _ s;refine Z2 (wpAny_setField c e ∅ (Z2 ?_));simp only[newExc,newTuple];refine Z2 (m:=firstArgMember _ _) (wpAny_of_eq (a:=Value.none) (by first|rfl|(simp only[firstArgMember];rfl)) (wpAny_newObj_type ?_ (by size_fits)));simp only[raiseNew];refine Z2 (wpAny_handled ?_);rw[show A.in1.handled=none from j];refine Z2 (Z3 (wpAny_throw ?_));refine Z2 (wpAny_isInstance (T:="StopIteration") (b:=true) %[_,Zi _ rfl|rfl] isSubtype_stop ?_);exact Z3 (h _ (((SameBut.update ..).extBut.push _).push _))
theorem Bz(lo:(d==sysModules)=false):KdlSrc prog w "dict" d d es.size (λi v=>∃h:i<es.size,v=es[i].key) (λh=>Raw h d es ep) where
 type:=λ_ r=>r.ty
 there:=λ_ r=>%[r.lt|r.lt]
 keep:=λ_ _ r hk=>r.up λo e=>hk d (.inl rfl) o e
 notList:=by decide
 notTuple:=by decide
 hint:=λ_ _ _ _ r hq=>kdl_hint_dict r.ty hq
 iter:=λA s hh r=>%[_,λi h=>h.IsKeyIter ⇑s d i es.size ep/\Raw h d es ep,(λ_ _ hq=>zF lo r hq),{
  sub:=λb hb=>by simp_all
  frame:=λ_ _ _ st hk=>%[st.1.at λo e=>hk _ ∅ o e|st.2.up λo e=>hk d ∅ o e]
  item:=λi s' Q E hi st hQ=>zG st.1 st.2 hi λh' k' hs'=>hQ _ h' s'.toks %[hi|rfl] %[k'|st.2.up λo e=>hs'.extBut d o (Zr r.lt) e] λb o hb e=>hs'.extBut b o (λh=>hb (by simp[h])) e
  done:=λs' Q E st hQ=>By hh st.1 st.2 (Zh _) λh' he'=>hQ h' s'.toks λb o hb e=>he' b o (λh=>hb (by simp[h])) e
  self:=λ_ _ _ _ st hQ=>wpAny_pyIter_keyiter st.1 hQ},%[_,Zi _ rfl,rfl|rfl]|r.up λo e=>Z6 _ e]
theorem rK{P:Nat->Value->Prop}{R:ZF->Shared->Prop}(K:KdlSrc prog w T r d n P l)(m:A.handled=none)(ok:l s.heap)(p:n<=sizeLine)
 (h:∀(h':Heap) (tk:Nat) (acc:ZI),(∀b o,s.heap.get? b=some o->h'.get? b=some o)->⇑s<=h'.objs.size->ItemsOf P acc n->R acc.toList {s with heap:=h',toks:=tk}):↥A (collect (.ref r)) R E s:=by
 have lt:=K.there _ ok;refine Z2 (wpAny_runValue (codeAny_builtin entry_proto_collect' (Z2 (wpAny_newObj_type (Z3 %[plainId_quiet F.plain_list_iadd _|codeAny_builtin entry_list_iadd' ?_])))));rw[Around.under_plainId F.plain_list_iadd _];have a:=kdl_extend (s:=(s>>>s.heap.push _))
  (R:=λq s'=>∃h' tk acc c,q= .ok (.ret (.ref ⇑s))/\s'={s with heap:=h',toks:=tk}/\(∀b o,s.heap.get? b=some o->h'.get? b=some o)/\h'.get? ⇑s=some {cls:= .type _,dict:=none,data:= .seq acc c,slots:= #[]}/\ItemsOf P acc n)
  K m (K.keep _ _ ok λb _ o e=>Z6 _ e) ⇑s (Yo lt.1) (Yo lt.2) _ 0 (Zi _ rfl)
  (λh' tk acc c g g' it=>%[h',tk,acc,c,rfl,rfl,λb o e=>g b o (Zr (Zt e)) (Z6 _ e),g'|it]) p
 refine wpAny_mono a (λj s' x=>?_) λe s' x=>?_
 .cases j with
  | done f=>
    obtain⟨h',tk,acc,c,e,rfl,g,g',it⟩:=x;cases e;exact Z2 (wpAny_load g' (Z3 (h h' tk acc g (le_of_lt (Zt g')) it)))
  | again t=>
    refine%[x.1|codeAny_mono x.2 λq u y=>?_];obtain⟨h',tk,acc,c,rfl,rfl,g,g',it⟩:=y;exact Z2 (wpAny_load g' (Z3 (h h' tk acc g (le_of_lt (Zt g')) it)))
 simp_all
theorem rL{R:ZF->Shared->Prop}(lo:(d==sysModules)=false)(f:A.handled=none)(r:Raw s.heap d es ep)(g:es.size<=sizeLine)
 (h:∀(h':Heap) (tk:Nat),(∀b o,s.heap.get? b=some o->h'.get? b=some o)->⇑s<=h'.objs.size->R (es.toList.map (·.key)) {s with heap:=h',toks:=tk}):↥A (collect (.ref d)) R E s:=by
 refine rK (Bz lo) f r g λh' tk acc l c a=>?_
 have e:acc.toList=es.toList.map (·.key):=by
  apply ext_getElem?;intro j;rw[Zk,getElem?_toList,getElem?_toList];by_cases m:j<es.size
  .have n:j<acc.size:=a.1▸m;obtain⟨_,q⟩:=a.2 j acc[j] ∅
   simp_all
  .rw[Array.getElem?_eq_none (by rw[a.1];lia),Array.getElem?_eq_none ⋯];rfl
 rw[e];exact h h' tk l c
end
section
#where
variable{S:Addr}
end
section
variable{X:Cx}{K:ZA}
end
section
variable{X:Cx}
theorem kK(c:bC k X.A)(d:swapsWith a (some (.Subscript o i b)) pos.line X.env=pure false)(e:QE X a f)(g:QE X o h)(hi:QE X i ty):QS X (.Assign [.Subscript o i b] a pos) (n8 h ty f):=
 ⟨A3 (by have:=c.units;lia) g.h hi.h e.h d⟩
theorem wM [DecidableEq c](a:List (c×V))(k:c)(v:V):(dM a k v).map (·.1)=if k∈a.map (·.1)then a.map (·.1)else a.map (·.1) ++[k]:=by
 unfold dM;have e:(a.any λb=>decide (b.1=k))=true↔k∈a.map (·.1):=by
  grind
 by_cases h:k∈a.map (·.1)
 .rw[if_pos (e.mpr h),if_pos h,Yj];refine Yh λb _=>?_
  show(if b.1=k then(b.1,v)else b).1=b.1
  split<;> rfl
 .rw[if_neg (λz=>h (e.mp z)),if_neg h,Zc];rfl
end
structure zH (K:ZA) (mg:ZC) (x:Str):Prop where
 at_:mg x=some (.ref (aF mg x))
 cls:Cls K (aF mg x)
structure rN (K:ZA) (mg:ZC) (x m qual:Str) (st:Stmt) (ps:ZB):Prop where
 ex:∃f fd,AQ K (aF mg x) m f/\Fun K m qual st f fd/\cS K fd ps []
structure zI (K:ZA) (mg:ZC) (x qual:Str) (st:Stmt) (ps:ZB):Prop where
 ex:∃f fd,Mk K (aF mg x) f/\Fun K "__init__" qual st f fd/\cS K fd ps []
structure zJ (P:Program) (w:World) (K:ZA) (mg:ZC) (base:Heap) (k:Nat) (x m:Str) (ps:ZB) (sp:Sp):Prop where
 ex:∃f fd,fD P w K mg base CX0 k f fd ps sp/\AQ K (aF mg x) m f/\cS K fd ps []
structure DX (P:Program) (w:World) (K:ZA) (mg:ZC) (base:Heap) (k:Nat) (x:Str) (ps:ZB) (sp:Sp):Prop where
 ex:∃f fd,fD P w K mg base CX0 k f fd ps sp/\Mk K (aF mg x) f/\cS K fd ps []
section
variable{P:Program}{w:World}{K:ZA}{mg:ZC}{base:Heap}{x m qual:Str}{st:Stmt}{N ps:ZB}{k:Nat}{sp:Sp}
theorem rN.cal(D:rN K mg x m qual st ps)(S:aq N ps (af st))
 (a:∀(H:Hp) (vs:List V) (Q:VK) (E:XK),sp vs H Q E->vs.length=ps.length/\∀(f:Addr) (b:Value) (A:Around) (outer:List Env) (s:Shared),bC k (A.deeper (envOfC qual (af st) ⇑s f b))->
  ∃t,PSs (eC CX0 P w K mg base N qual (af st) f b A outer s H E).nox (be st) t/\t {nx:=λ_ c=>Q .non c,rt:=Q} (start N vs) H):zJ P w K mg base (k+1) x m ps sp:=by
 obtain⟨f,d,e,F,g⟩:=D.ex;exact%[f,d,F.ok S (λv H Q E h=>(a H v Q E h).1) (λb A o s H v Q E r h=>(a H v Q E h).2 f b A o s r),e|g]
theorem zI.cal(D:zI K mg x qual st ps)(S:aq N ps (af st))
 (a:∀(H:Hp) (vs:List V) (Q:VK) (E:XK),sp vs H Q E->vs.length=ps.length/\∀(f:Addr) (b:Value) (A:Around) (outer:List Env) (s:Shared),bC k (A.deeper (envOfC qual (af st) ⇑s f b))->
  ∃t,PSs (eC CX0 P w K mg base N qual (af st) f b A outer s H E).nox (be st) t/\t {nx:=λ_ c=>Q .non c,rt:=Q} (start N vs) H):DX P w K mg base (k+1) x ps sp:=by
 obtain⟨f,d,e,F,g⟩:=D.ex;exact%[f,d,F.ok S (λv H Q E h=>(a H v Q E h).1) (λb A o s H v Q E r h=>(a H v Q E h).2 f b A o s r),e|g]
end
section
variable{X:Cx}{K:ZA}{j k:Nat}{x m:Str}{ps:ZB}{sp:Sp}{p pos apos:Pos}{o e:Expr}{es:List Expr}{to te:TE}{t:TA}
theorem mf(C:zJ X.prog X.w X.K X.mg X.base j x m ps sp)(c:zH X.K X.mg x)(d:bC k X.A)(a:Nat.ble j k=true)
 (g:eval (.Call (.Attribute o m apos) [] [] pos) X.env=(do
  let b<-eval o X.env
  standAt apos.atName
  let(f,first)<-holding [b] (getMethod b m pl)
  callWith pos f first (backTo pos (starEach [] X.env)) (backToKw pos (keywordEach [] X.env)))) (h:QE X o to):QE X (.Call (.Attribute o m apos) [] [] pos) (yq (aF X.mg x) m sp [] E0 to yo):=by
 obtain⟨f,n,F,i,l⟩:=C.ex;exact⟨yv h.h c.cls i F (d.mono (Y6 a)) l .nil yK g⟩
theorem Co(C:DX X.prog X.w X.K X.mg X.base j x ps sp)(c:zH X.K X.mg x)(g:bC k X.A)(h:Gl X x)(a:Nat.ble (j+1) k=true)(b:(x==("__debug__"))=false)(d:(e::es).any aW=false)(i:QA X (e::es) t):
 QE X (.Call (.Name x p) (e::es) [] pos) (yr (aF X.mg x) sp [] E0 t):=by
 obtain⟨f,q,F,l,n⟩:=C.ex;rw[Zv,Yu]at d;exact⟨AS l F (g.mono (Y6 a)) h c.at_ n .nil yK i.h b (av d.1) (cU d.2)⟩
theorem DY(h:X.K=K)(a:fW o=false)(b:QE X o to):QE X (.Attribute o f pos) (C2 K to f):=by
 subst h;exact⟨C4 b.h (eV a)⟩
theorem BA(h:X.K=K)(c:eU a=false)(d:QE X o to)(g:QE X a i):QS X (.Assign [.Attribute o f b] a pos) (C3 K to i f):=by
 subst h;exact⟨C5 d.h g.h (hZ c)⟩
end
structure GvT (K:ZA) (mg:ZC) (x:Str) (xs:List V):Prop where
 ex:∃a,mg x=some (.ref a)/\∀H,SqT K H a xs
theorem zK{K:ZA}{h:Heap}{o:Obj}{its:ZI}{n:Nat}(X:K.In h)(G:h.Ns mainGlobals mg)(z:nsIn K mainGlobals x=some (some (.ref a)))
 (b:K.lookup a=some o) (c:o.cls= .type "tuple") (d:o.data= .seq its n) (e:its.size<=sizeLine) (r:aC xs its.toList):GvT K mg x xs:=
 %[a,mg_of X G z|λ_=> .inr %[o,its,n,b,c,d,e|r]]
theorem Fj{X:Cx}{K:ZA}{x:Str}(h:X.K=K)(g:GvT K X.mg x xs)(b:Gl X x)(c:(x==("__debug__":Str))=false):QE X (.Name x pos) (λ_ H Q=>∀a,(∀d,SqT K d a xs)->Q (.ref a) H):=by
 obtain⟨a,e,f⟩:=g.ex;refine⟨λpins s i H Q I q=>Cd (v:= .ref a) %[.ref a,e|rfl] b c pins s i H Q I (q a f)⟩
theorem tryN{X:Cx}(c:∀e s,X.xe e s->False)(d:QSs X a g):QS X (.Try a [h] [] [] pos) g:=by
 refine⟨λpins s i H D I q=>wpAny_Try_except (wpAny_mono (d.h pins s i H D I q) (λf b q=>?_) λe b q=>(c e b q).elim)⟩;cases f with
 | next=>exact wpAny_execs_nil q
 | brk=>exact q
 | cont=>exact q
 | ret u=>exact q
section
variable{X:Cx}{K:ZA}
end
theorem mh(x y:Str):df [x] [y]=ba x y:=by
 show(if x=y then false else ba x y)=ba x y
 split
 .rename_i e;rw[e,eX]
 .rfl
section
#where
variable{S:Addr}
theorem kL(h:∀(O:ZD) (R:ZF->Shared->Prop),(∀c,(∀b o,s.heap.get? b=some o->c.heap.get? b=some o)->c.gens=s.gens->c.os=s.os->R us c)->↥A.in1 (collect (.ref S)) R O s)(e:StrsAre us ks)(T:us.length<64)
 (U:∀(c s':Shared) (l:Addr) (vs:ZF) (ss:ZB) (n:Nat),StrsAre vs ss->ss.Perm ks->ss.Pairwise (λa b=>ba b a=false)->(∀b o,s.heap.get? b=some o->c.heap.get? b=some o)->c.gens=s.gens->c.os=s.os->(∀b o,c.heap.get? b=some o->s'.heap.get? b=some o)->s'.gens=c.gens->s'.os=c.os->⇑c<=l->s'.heap.get? l=some {cls:= .type "list",data:= .seq vs.toArray n}->Q (.ref l) s'):
 ↥A (call (.builtin "sorted") [.ref S]) Q E s:=by
 refine Calls.call_function_entry kind_sorted plain_sorted entry_sorted (args_sorted1 _) ?_;unfold Builtin.«sorted»;refine Z2 (m:=checkCount "sorted" 1 1 _) (Z3 ?_);refine Z2 (h _ _ λc Y g1 o1=>?_);refine Z2 (wpAny_newList ?_ (by rw[sizeLine_eq];lia));have C:(c.heap.push (seqObj "list" us.toArray 0)).get? ⇑c=some (seqObj "list" us.toArray 0):=Zi _ rfl;have f:∀v∈us,∃x t,v=Value.str x t/\[x]∈ks.map λz=>[z]:=λv g=>by
  obtain⟨x,t,rfl⟩:=e.all v g;refine%[x,t,rfl|X7 %[x,?_|rfl]];rw[<-e.strs];exact X7 %[_,g|rfl]
 refine Z2 (wpAny_holding (wpAny_call_entry slot_list_sort %[_,C|rfl] entry_list_sort (iT (s:=(c>>>c.heap.push (seqObj "list" us.toArray 0))) (kd:=oneType') (Nv:=λv=>fP (ks.map λz=>[z]) [strOf v]) C ⋯ (λG k6 H Q6 I=>?_) (λG k6=>?_) λd q p2=>%[_,rfl|?_]) (args_list_sort _)))
 .obtain⟨v1,B,r,rfl⟩:∃v1 B r,us=v1::B::r:=by
   match us,H with
   | v1::B::r,_=>exact%[v1,B,r|rfl]
  rw[keyKind_strs e];exact Z3 I
 .intro x y s' hx hy J;subst J;obtain⟨x1,x2⟩:=x;obtain⟨y1,y2⟩:=y;obtain⟨a,t,rfl,L⟩:=f _ hx;obtain⟨b,u,rfl,M⟩:=f _ hy;show ↥A.in1.in1 (keyLt' oneType' (.str a t) (.str b u)) (λr s'=>r=decide (fP (ks.map λz=>[z]) [a]<fP (ks.map λz=>[z]) [b])/\s'=(c>>>G)) (λ_ _=>False) (c>>>G);rw[keyLt'_oneType];refine oneLt_str %[?_|rfl];rw[<-jy L,mh];rfl
 .have i:∀v∈d,∃x t,v=Value.str x t:=λv g=>e.all v (q.mem_iff.mp g)
  obtain⟨n,gl⟩:∃n,(sortedHeap (c.heap.push (seqObj "list" us.toArray 0)) ⇑c us d.toArray).get? ⇑c=some (seqObj "list" d.toArray n):=sortedHeap_at C;refine Z3 %[_,rfl|U c _ ⇑c d (d.map strOf) n (strsAre_map d i) ?_ ?_ Y g1 o1 (λb o' N=>?_) rfl rfl (Zh _) gl]
  .exact e.strs▸q.map _
  .rw[Yv];refine X0 (λ{u v} hu g j=>?_) p2;obtain⟨a,t,rfl,L⟩:=f _ (q.mem_iff.mp hu);obtain⟨b,t',rfl,M⟩:=f _ (q.mem_iff.mp g);show ba b a=false;rw[<-mh,jy M];have j:fP (ks.map λz=>[z]) [a]<=fP (ks.map λz=>[z]) [b]:=j;exact Zg ⋯
  .have p:=Zt N;show(sortedHeap _ _ _ _).get? b=_;rw[sortedHeap_old (Zr p) (by rw[Zp];exact Yf p)];exact Z6 _ N
end
theorem jz:∀{ks:ZB} {us:ZF},aC (ks.map V.str) us->StrsAre us ks
 |[],_,.nil=> .nil
 | _::_,_,.cons r t=>by
   obtain⟨t',rfl⟩:=r;exact .cons _ _ (jz t)
theorem gh:∀{ks:ZB} {us:ZF},StrsAre us ks->aC (ks.map V.str) us
 | _,_,.nil=> .nil
 | _,_,.cons _ t h=> .cons %[t|rfl] (gh h)
section
variable{X:Cx}{K:ZA}
theorem wN(h:X.K=K):cv X (.builtin "sorted") (λxs H Q=>∃a ks,xs=[.ref a]/\SqL K H a (ks.map V.str)/\ks.length<64/\∀l (ss:ZB),H l=none->ss.Perm ks->ss.Pairwise (λa b=>ba b a=false)->Q (.ref l) (upd H l (.lst (ss.map V.str)))):=by
 subst h;refine⟨λpins s E H xs us Q I r h=>?_⟩;obtain⟨a,ks,rfl,j,m,q⟩:=h;obtain⟨u,rfl,p⟩:=cR r;cases p;obtain⟨its,f,⟨o,n,t,v,G,d⟩,J⟩:=I.list j;have L:its.length=ks.length:=by rw[<-f.length,Z5]
 refine kL (λM R w=>wpAny_collect_seq a (.inl rfl) t v d (λh' k=>?_) (by simp_all)) (jz f) ⋯ λN s' l vs ss n y i z A g1 B k g o c C=>?_
 .exact w _ k rfl rfl
 .have e:=I.keptS A g1 B;refine%[.ref l,_,e.stoodS (o:= .lst _) (e.keptS k g o) c %[?_,vs,n,gh y|C],rfl|q l ss (e.hok.fresh c) i z];rw[Z5,i.length_eq,sizeLine_eq]
  lia
theorem mj{P:Program}:∀{a:List DictEntry} {vs:List (Key×Value)} {ks:ZB},Pairs (aN P w) a vs->vs.map (·.1)=ks.map Sum.inr->StrsAre (a.map (·.key)) ks
 | _,_,[],h,e=>by
   cases h with
   | nil=>exact .nil
   | cons _ _ _=>cases e
 | _,_,k::ks,h,e=>by
   cases h with
   | nil=>cases e
   | @cons m n b c d o f=>
     rw[Yi,Yi]at e;injection e with g j
     rcases aZ (d)with⟨i,t,q,_⟩|⟨x,t,q,l⟩
     .simp_all
     .rw[g]at q;cases q;rw[Yi,l];exact .cons _ _ (mj f j)
theorem wO(m:X.calm=true):cv X (.builtin "sorted") (λxs H Q=>∃(a:Addr) (c:List (Key×V)) (ks:ZB),xs=[.ref a]/\H a=some (.dK c)/\c.map (·.1)=ks.map Sum.inr/\ks.length<64/\
 ∀l (ss:ZB),H l=none->ss.Perm ks->ss.Pairwise (λa b=>ba b a=false)->Q (.ref l) (upd H l (.lst (ss.map V.str)))):=by
 refine⟨λpins s N H xs us Q I r h=>?_⟩;obtain⟨a,c,ks,rfl,p,e,t,q⟩:=h;obtain⟨u,rfl,v⟩:=cR r;cases v;obtain⟨_,lo,vs,w,o,y,O,g,ex,z,_,A,_⟩:=n6 I.hok p;have i:=mj A (e▸w.keys.symm);have T:y.size=ks.length:=by
  have:=br i
  grind
 refine kL (λU R B=>rL lo (I.ok.hd m) %[o,g,ex|z] (by rw[sizeLine_eq];lia) λh' tk k C=>B _ k rfl rfl) i (by simp_all) λY s' l vs ss n E j G J g1 L k g o d M=>?_
 have f:=I.keptS J g1 L;refine%[.ref l,_,f.stoodS (o:= .lst _) (f.keptS k g o) d %[?_,vs,n,gh E|M],rfl|q l ss (f.hok.fresh d) j G];rw[Z5,j.length_eq,sizeLine_eq]
 lia
theorem wP(h:X.K=K):cv X (.builtin "sorted") (λxs H Q=>∃a ps m,xs=[.ref a]/\SqL K H a (ps.map λp=>V.ref p.1)/\aL H ps/\(∀p∈ps,p.2.length=m)/\m≠0/\ps.length<64/\
 ∀l (ss:List _),H l=none->ss.Perm ps->ss.Pairwise (λa b=>df b.2 a.2=false)->Q (.ref l) (upd H l (.lst (ss.map λp=>V.ref p.1)))):=by
 subst h;refine⟨λpins s M H xs us Q I r h=>?_⟩;obtain⟨a,ps,m,rfl,j,t,v,w,d,q⟩:=h;obtain⟨u,rfl,y⟩:=cR r;cases y;obtain⟨its,z,⟨o,n,A,B,N,e⟩,O⟩:=I.list j;have:=pU z;subst this;refine l9 (λT R C=>wpAny_collect_seq a (.inl rfl) A B e (λh' k=>?_) (by simp_all)) (pT I t) v w d λU s' l ss n i E G g1 J k g o c L=>?_
 .exact C _ _ (List.Perm.refl _) k rfl rfl
 .have f:=I.keptS G g1 J;refine%[.ref l,_,f.stoodS (o:= .lst _) (f.keptS k g o) c %[?_,ss.map _,n,pV ss|L],rfl|q l ss (f.hok.fresh c) i E];rw[Z5,i.length_eq,sizeLine_eq]
  lia
theorem dinT(a:bC k X.A)(b:behindInMarks .In o=false)(hi:QE X i ty)(c:QE X o d):QT X (.Compare i [.In] [o] pos) (tB (Dq ty d)):=
 ⟨xS (Dr (by have:=a.units;lia) hi.h c.h) b⟩
end
theorem cW{X:Cx}{K:ZA}(h:X.K=K)(c:lq b)(d:QE X a e)(f:QE X b g):QE X (.Subscript a b pos) (tOp (De K) e g):=by subst h;exact⟨yB Dg d.h f.h c⟩
theorem ur(h:(env.blockKind== .function&&env.kindOf x==some .local&&b.line==pos.line&&!(a.names.any λ(n,k)=>n==x&&(k== .local||k== .cell)))=false):
 swapsWith (.ListComp c gens a pos) (some (.Name x b)) l env=pure false:=by
 show(pure (env.blockKind== .function&&env.kindOf x==some _&&b.line==pos.line&&!(a.names.any _)))=pure false;rw[h]
theorem zL{X:Cx}(i:Nat)(e:X.N.Nodup)(hi:X.N[i]? =some x)(f:Loc X.env.scope x)(g:X.fn x=true\/X.env.scope.names.lookup x=some .local)
 (b:(X.env.blockKind== .function&&X.env.kindOf x==some .local&&h.line==pos.line&&!(a.names.any λ(n,k)=>n==x&&(k== .local||k== .cell)))=false) (j:QE X (.ListComp c gens a pos) l):
 QS X (.Assign [.Name x h] (.ListComp c gens a pos) d) (mZ l (iP i)):=⟨x4 e hi f j.h (ur b) g⟩
section
#where
end
section
variable(h:Heap)(l1 l2:Addr)
end
section
#where
end
section
variable{X:Cx}{K:ZA}{pos:Pos}
end
section
variable{X:Cx}{pos:Pos}
theorem mr(b:PassesOwn (model X.prog X.w) X.A X.env X.xe)(d:QT X c e)(f:QSs X a g):QS X (.While c a [] pos) (x5 e g):=⟨x6 b d.h f.h⟩
theorem fR(a:bC k X.A)(b:Dp i)(c:QE X o d)(hi:QE X i ty):QE X (.Subscript o i pos) (yH d ty):=⟨A2 (by have:=a.units;lia) c.h hi.h b⟩
end
section
#where
theorem BB{P:Nat->Value->Prop}(val:Nat->Str)(a:∀i v,P i v->∃t,v= .str (val i) t):CmpOf prog w A .Gt P (λi j=>decide ((val j).cps.toList<(val i).cps.toList)):=λi j b c s Q E hi d h=>by
 obtain⟨t,rfl⟩:=a i b hi;obtain⟨u,rfl⟩:=a j c d;exact richCompare_gives (typeIs_str s _ t) (typeIs_str s _ u) PySem.F.slot_str_gt PySem.F.entry_str_gt (PySem.F.args_str_gt_2 _ _) (gives_str_gt _ _ t u) (λx=>nomatch x) h
theorem vB{P:Nat->Value->Prop}(val:Nat->Str)(a:∀i v,P i v->∃t,v= .str (val i) t):CmpOf prog w A .Lt P (λi j=>decide ((val i).cps.toList<(val j).cps.toList)):=λi j b c s Q E hi d h=>by
 obtain⟨t,rfl⟩:=a i b hi;obtain⟨u,rfl⟩:=a j c d;exact richCompare_gives (typeIs_str s _ t) (typeIs_str s _ u) PySem.F.slot_str_lt PySem.F.entry_str_lt (PySem.F.args_str_lt_2 _ _) (gives_str_lt _ _ t u) (λx=>nomatch x) h
theorem zM{i:Nat}{v:Value}(h:(#[Value.str x t,Value.str y u]:ZI)[i]? =some v):∃t,v= .str (if i=0 then x else y) t:=by
 match i,h with
 | 0,h=>exact%[t|by simpa using h.symm]
 | 1,h=>exact%[u|by simpa using h.symm]
 | i+2,h=>simp at h
theorem rO(a:Nat->Nat->Bool):argBest a 1=if a 1 0=true then 1 else 0:=by simp[argBest]
theorem pX{x y:Str}(l:A.handled=none)
 (h:∀h' tk,(∀c o,s.heap.get? c=some o->h'.get? c=some o)->Q (if x.cps.toList<y.cps.toList then .str y u else .str x t) {s with heap:=h',toks:=tk}):
 ↥A (call (.builtin "max") [.str x t,.str y u]) Q E s:=by
 have j:(s.heap.push {cls:= .type _,data:= .seq #[.str x t,.str y u]}).IsTuple ⇑s _:=%[_,Zi _ rfl,rfl,0|rfl]
 refine call_max_two (wpAny_pyIter_tuple j ?_);have b:(s.heap.push {cls:= .type "tuple",data:= .seq #[.str x t,.str y u]}).objs.size=⇑s+1:=Zp ..;refine%[_,[_,⇑s],[_],_,_,_,_,rfl,Walks.tuple (A:=A.in1) l _ ⇑s (b▸Zr (Yg _)) _,
  %[%[_,Zi _ rfl,rfl|rfl]|j.push _],λc d=>?_,by simp,BB _ (λ_ _=>zM)|λv h' tk m n=>?_]
 .rw[Zp,b];rcases mem_cons.mp d with rfl|d
  .simp
  .rcases mem_cons.mp d with rfl|d
   .exact Yf (Yg _)
   .cases d
 .have f:=λc o e=>by
   refine n c o (λi=>?_) (Z6 _ (Z6 _ e));rcases mem_cons.mp i with p|i
   .have:=Zt e;rw[p,b]at this;exact X2 _ (Nat.lt_of_succ_lt this)
   .cases i
  have q:=h h' tk f;have a:(#[Value.str x t,Value.str y u])[argBest _ 1]? =some v:=m;rw[rO]at a;by_cases g:x.cps.toList<y.cps.toList
  .rw[if_pos (by simp[g])]at a;rw[if_pos g]at q;exact(show Value.str y u=v by simpa using a)▸q
  .rw[if_neg (by simp[g])]at a;rw[if_neg g]at q;exact(show Value.str x t=v by simpa using a)▸q
theorem pY{x y:Str}(l:A.handled=none)
 (h:∀h' tk,(∀c o,s.heap.get? c=some o->h'.get? c=some o)->Q (if y.cps.toList<x.cps.toList then .str y u else .str x t) {s with heap:=h',toks:=tk}):
 ↥A (call (.builtin "min") [.str x t,.str y u]) Q E s:=by
 have j:(s.heap.push {cls:= .type _,data:= .seq #[.str x t,.str y u]}).IsTuple ⇑s _:=%[_,Zi _ rfl,rfl,0|rfl]
 refine call_min_two (wpAny_pyIter_tuple j ?_);have b:(s.heap.push {cls:= .type "tuple",data:= .seq #[.str x t,.str y u]}).objs.size=⇑s+1:=Zp ..;refine%[_,[_,⇑s],[_],_,_,_,_,rfl,Walks.tuple (A:=A.in1) l _ ⇑s (b▸Zr (Yg _)) _,
  %[%[_,Zi _ rfl,rfl|rfl]|j.push _],λc d=>?_,by simp,vB _ (λ_ _=>zM)|λv h' tk m n=>?_]
 .rw[Zp,b];rcases mem_cons.mp d with rfl|d
  .simp
  .rcases mem_cons.mp d with rfl|d
   .exact Yf (Yg _)
   .cases d
 .have f:=λc o e=>by
   refine n c o (λi=>?_) (Z6 _ (Z6 _ e));rcases mem_cons.mp i with p|i
   .have:=Zt e;rw[p,b]at this;exact X2 _ (Nat.lt_of_succ_lt this)
   .cases i
  have q:=h h' tk f;have a:(#[Value.str x t,Value.str y u])[argBest _ 1]? =some v:=m;rw[rO]at a;by_cases g:y.cps.toList<x.cps.toList
  .rw[if_pos (by simp[g])]at a;rw[if_pos g]at q;exact(show Value.str y u=v by simpa using a)▸q
  .rw[if_neg (by simp[g])]at a;rw[if_neg g]at q;exact(show Value.str x t=v by simpa using a)▸q
theorem np{l:Addr}{its:ZI}{val:Nat->Str}{Q:ZD}(n:A.handled=none)(f:s.heap.IsList l its)(g:0<its.size)(a:∀(i:Nat) v,its[i]? =some v->∃t,v= .str (val i) t)
 (h:∀v h' tk,its[argBest (λi j=>decide ((val i).cps.toList<(val j).cps.toList)) (its.size-1)]? =some v->(∀b o,s.heap.get? b=some o->h'.get? b=some o)->Q v {s with heap:=h',toks:=tk}):
 ↥A (call (.builtin "min") [.ref l]) Q E s:=by
 have c:l<⇑s:=by obtain⟨_,e,_⟩:=f;exact Zt e
 refine call_min_walk (wpAny_pyIter_list f %[_,[⇑s,l],[⇑s],_,_,_,_,rfl,Walks.list (A:=A.in1) n _ l (Zr c) its,%[%[_,Zi _ rfl,rfl|rfl]|f.push _],λb d=>?_,g,vB val a|λv h' tk p q=>?_])
 .rw[Zp];rcases mem_cons.mp d with rfl|d
  .simp
  .rcases mem_cons.mp d with rfl|d
   .exact Yf c
   .cases d
 .refine h v h' tk p λb o e=>q b o (λm=>?_) (Z6 _ e)
  rcases mem_cons.mp m with r|m
  .exact absurd (r▸Zt e) (X2 _)
  .cases m
theorem mt(val:Nat->Str):∀k,argBest (λi j=>decide ((val i).cps.toList<(val j).cps.toList)) k<=k/\∀j,j<=k->ba (val j) (val (argBest (λi j=>decide ((val i).cps.toList<(val j).cps.toList)) k))=false
 | 0=>%[Zh _|λj b=>by rw[le_zero.mp b];exact eX _]
 | k+1=>by
   obtain⟨g,d⟩:=mt val k;rw[argBest];by_cases c:ba (val (k+1)) (val (argBest (λi j=>decide ((val i).cps.toList<(val j).cps.toList)) k))=true
   .have a:=c;unfold ba at a;rw[if_pos a];refine%[Zh _|λj b=>?_];by_cases e:j=k+1
    .exact e▸eX _
    .cases f:ba _ _ with
     | false=>rfl
     | true=>have:=fN f c;rw[d j ⋯]at this;cases this
   .have a:=c;unfold ba at a;rw[if_neg a];refine%[⋯|λj b=>?_];by_cases e:j=k+1
    .lia
    .exact d j ⋯
end
section
variable{X:Cx}
theorem wQ(b:X.calm=true):bK X (.builtin "max") (λxs H Q=>∃x y,xs=[.str x,.str y]/\Q (.str (if ba x y=true then y else x)) H):=by
 intro pins s c H xs us Q I r h;obtain⟨x,y,rfl,q⟩:=h;obtain⟨u,d,rfl,⟨t,rfl⟩,t',rfl⟩:=iQ r;refine pX (I.ok.hd b) λh' tk k=>%[_,H,I.kept k,?_|q]
 by_cases a:x.cps.toList<y.cps.toList
 .rw[if_pos a,if_pos (show ba x y=true from Ze a)];exact%[_|rfl]
 .rw[if_neg a,if_neg (show ¬ ba x y=true from λe=>a (Zn e))];exact%[_|rfl]
theorem wR(b:X.calm=true):bK X (.builtin "min") (λxs H Q=>∃x y,xs=[.str x,.str y]/\Q (.str (if ba y x=true then y else x)) H):=by
 intro pins s c H xs us Q I r h;obtain⟨x,y,rfl,q⟩:=h;obtain⟨u,d,rfl,⟨t,rfl⟩,t',rfl⟩:=iQ r;refine pY (I.ok.hd b) λh' tk k=>%[_,H,I.kept k,?_|q]
 by_cases a:y.cps.toList<x.cps.toList
 .rw[if_pos a,if_pos (show ba y x=true from Ze a)];exact%[_|rfl]
 .rw[if_neg a,if_neg (show ¬ ba y x=true from λe=>a (Zn e))];exact%[_|rfl]
theorem wS(z:X.calm=true):bK X (.builtin "min") (λxs H Q=>∃(p:Addr) (ss:ZB),xs=[.ref p]/\SqL X.K H p (ss.map V.str)/\0<ss.length/\∀m∈ss,(∀y∈ss,ba y m=false)->Q (.str m) H):=by
 intro pins s M H xs us Q I r h;obtain⟨p,ss,rfl,A,N,q⟩:=h;obtain⟨u,rfl,f⟩:=cR r;cases f;obtain⟨its,g,B,O⟩:=I.list A;have a:=g.length;rw[Z5]at a;have C:its.toArray.size=ss.length:=by rw[Zo,a]
 have c:∀i v,its.toArray[i]? =some v->∃t,v=Value.str (ss.getD i Str.empty) t:=λi v e=>by
  have e:=by simpa using e
  have hi:i<ss.length:=a▸(X3 e).1;obtain⟨u,l,f⟩:=g.get (by rw[Zk,Z4 hi];rfl);rw[e]at l;obtain⟨t,d⟩:=f;exact%[t|by rw[Z9 l,d,Zb,Z4 hi];rfl]
 refine np (I.ok.hd z) B.isList ⋯ c λv h' tk n k=>?_
 obtain⟨E,o⟩:=mt _ _;obtain⟨t,d⟩:=c _ _ n
 generalize argBest _ _=b at E o n d
 have w:b<ss.length:=by lia
 have G:ss.getD b Str.empty=ss[b]:=by rw[Zb,Z4 w];rfl
 refine%[.str _,H,I.kept k,%[t|d]|q _ (G▸Y5 w) λy J=>?_];obtain⟨j,L,rfl⟩:=getElem_of_mem J;have:=o j ⋯;rwa[show ss.getD j Str.empty=ss[j] by rw[Zb,Z4 L];rfl]at this
theorem DZ(a:X.calm=true):cv X (.builtin "max") (λxs H Q=>∃x y,xs=[.str x,.str y]/\Q (.str (if ba x y=true then y else x)) H):=⟨wQ a⟩
theorem D0(a:X.calm=true):cv X (.builtin "min") (λxs H Q=>∃x y,xs=[.str x,.str y]/\Q (.str (if ba y x=true then y else x)) H):=⟨wR a⟩
theorem Ea{K:ZA}(h:X.K=K)(a:X.calm=true):cv X (.builtin "min") (λxs H Q=>∃(p:Addr) (ss:ZB),xs=[.ref p]/\SqL K H p (ss.map V.str)/\0<ss.length/\∀m∈ss,(∀y∈ss,ba y m=false)->Q (.str m) H):=by subst h;exact⟨wS a⟩
end
section
#where
end
section
variable{prog:Program}{w:World}{A:Around}{R:Result->Shared->Prop}{I:Addr}{fp wr:List Addr}{G:Array GenState->Array GenState->Prop}{n:Nat}{P:Nat->Value->Prop}{St:Nat->Shared->Prop}
end
section
#where
end
section
variable{X:Cx}{K:ZA}
end
theorem BC{b:Type}{a:List (b×V)}{vs:List (b×Value)}(r:KV a vs):aC (a.map (·.2)) (vs.map (·.2)):=by
 induction r with
 | nil=>exact .nil
 | cons h _ c=>exact .cons h.2 c
section
variable{X:Cx}{K:ZA}
def zN:V->List V->Hp->VK->Prop:=λx vs H Q=>asR x λa=>∃k y,vs=[kV k,y]/\∃b,H a=some (.dK b)/\b.length<sizeLine/\(∀v,cp b k=some v->Q v H)/\(cp b k=none->Q y (upd H a (.dK (dM b k y))))
theorem BD:MtM X "dict.setdefault" zN:=by
 intro pins s G H x vs v us Q I p r h;obtain⟨a,rfl,k,y,rfl,b,e,J,t,u⟩:=fC h;cases p;obtain⟨L,w,rfl,A,l⟩:=iQ r;obtain⟨z,m,vs,c,n⟩:=n6 I.hok e;refine call_meetsIn PySem.F.slot_dict_setdefault n.typeIs PySem.F.entry_dict_setdefault (PySem.F.args_dict_setdefault_3 _ _ _) (kt_meets_setdefault _ a (lF A) m w) %[vs,n,c.length▸z,λM hw=>?_|λN h' f B=>?_]
 .have q:=c.val k;cases d:cp b k with
  | none=>
    rw[fc.none_of (o:=valueAt vs k) (d▸q)]at hw;cases hw
  | some i=>
    obtain⟨C,g,j⟩:=fc.some_of (d▸q);rw[g]at hw;exact(Z9 hw)▸%[i,H,I.tok _,j|t i d]
 .have d:cp b k=none:=by
   cases d:cp b k with
   | none=>rfl
   | some i=>
     obtain⟨C,g,_⟩:=fc.some_of (d▸c.val k)
     grind
  exact%[y,_,pA I (e▸True.intro) B (let⟨q,_,_,E,_⟩:=f;%[q|E]) (yG (by have:=hX b k y;lia) m (c.put k l) f),l|u d]
theorem jA:MtQ X "dict.setdefault" zN:=⟨BD⟩
noncomputable def rP(v a:Addr):HO:= .ext λh=>h.IsValuesView v a
def zO:V->List V->Hp->VK->Prop:=λx vs H Q=>asR x λa=>vs=[]/\∃b,H a=some (.dK b)/\∀v,H v=none->Q (.ref v) (upd H v (rP v a))
theorem BE:MtM X "dict.values" zO:=by
 intro pins s w H x vs v us Q I i j h;obtain⟨a,rfl,rfl,l,e,q⟩:=fC h;cases i;have c:=j.zero;subst c;obtain⟨z,m,vs,n,f⟩:=n6 I.hok e;refine call_meetsIn PySem.F.slot_dict_values f.typeIs PySem.F.entry_dict_values (PySem.F.args_dict_values_1 _) (meets_dict_values _ a m) %[%[vs|f]|?_];have g:(s.heap.push {cls:= .type _,data:= .fields _}).IsValuesView ⇑s a:=%[_,Zi _ rfl,rfl|rfl]
 refine%[.ref ⇑s,_,I.laid (o:=rP ⇑s a) (λb u e=>Z6 _ e) (Zh _) %[g,?_|λy A p t=>?_],rfl|q _ I.fresh]
 .obtain⟨o,d,_⟩:=g;exact%[o|d]
 .obtain⟨o,d,r⟩:=p;exact%[o,t _ d|r]
theorem zP:MtQ X "dict.values" zO:=⟨BE⟩
theorem ut(j:X.calm=true):bK X (.type "list") (λxs H Q=>∃(v a:Addr) (b:List (Key×V)),xs=[.ref v]/\H v=some (rP v a)/\H a=some (.dK b)/\∀l,H l=none->Q (.ref l) (upd H l (.lst (b.map (·.2))))):=by
 intro pins s M H xs us Q I r h;obtain⟨v,a,b,rfl,m,n,q⟩:=h;obtain⟨u,rfl,p⟩:=cR r;cases p;obtain⟨z,N,vs,f,t⟩:=n6 I.hok n;have g:=(I.hok _ _ m).1;obtain⟨o,w,y,A,B⟩:=t;have C:s.heap.DictAt _ a vs y:=%[o,w,A|B]
 have E:=f.length;refine PySem.W.kdl_call (PySem.W.kdl_values) (I.ok.hd j) %[g|C] ⋯ λh' tk acc c keep G d=>?_
 have O:acc.toList.length=b.length:=by rw[Za,d.1,E]
 refine%[.ref ⇑s,_,I.laid keep (Zh _) ?_,rfl|q _ I.fresh];have e:acc.toList=vs.map (·.2):=by
  refine ext_getElem (by simp_all) λi J T=>?_
  obtain⟨k,L⟩:=d.2 i _ (Array.getElem?_eq_getElem J);obtain⟨U,Y⟩:=X3 L
  simp_all
 exact%[by rw[Z5];exact z,acc.toList,c,e▸BC f|G]
theorem BF(c:X.calm=true):cv X (.type "list") (λxs H Q=>∃(v a:Addr) (b:List (Key×V)),xs=[.ref v]/\H v=some (rP v a)/\H a=some (.dK b)/\∀l,H l=none->Q (.ref l) (upd H l (.lst (b.map (·.2))))):=⟨ut c⟩
end
theorem rQ:∀{ss:ZB},z∈ss->∃j,ss[j]? =some z/\(∀m,m<j->∀y,ss[m]? =some y->y≠z)/\(z::ss.eraseIdx j).Perm ss
 | x::ss,h=>by
   by_cases e:x=z
   .exact%[0,by simp[e],λm b=>absurd b ⋯|by simp[e]]
   .obtain⟨j,c,d,f⟩:=rQ ((mem_cons.mp h).resolve_left λq=>e q.symm);refine%[j+1,c,λm b y a=>?_|?_]
    .cases m with
     | zero=>simp at a;exact a▸e
     | succ m=>exact d m ⋯ y (a)
    .exact(List.Perm.swap _ _ _).trans (f.cons _)
section
variable{X:Cx}{K:ZA}
def Eb:V->List V->Hp->VK->Prop:=λx vs H Q=>asR x λa=>∃k y,vs=[kV k,y]/\∃b,H a=some (.dK b)/\Q ((cp b k).getD y) H
theorem Ec:MtM X "dict.get" Eb:=by
 intro pins s n H x vs v us Q I f g h;obtain⟨a,rfl,k,y,rfl,b,e,q⟩:=fC h;cases f;obtain⟨o,i,rfl,j,l⟩:=iQ g;obtain⟨z,m,vs,c,d⟩:=n6 I.hok e;exact call_meetsIn slot_dict_get d.typeIs PySem.F.entry_dict_get (PySem.F.args_dict_get_3 _ _ _) (meets_dict_get_default _ a (lF j) m i) %[_,d.mapOf,(cp b k).getD y,H,I.tok _,(c.val k).getD l|q]
theorem vC:MtQ X "dict.get" Eb:=⟨Ec⟩
noncomputable def isZ(z:Str):Value->Bool
 | .str x _=>x==z
 | _=>false
theorem wU(t:Tok)(r:aC (ss.map V.str) its)(h:ss.length=its.length)(l:z∈ss):∃(j:Nat) (e:j<its.toArray.size),ss[j]? =some z/\(z::ss.eraseIdx j).Perm ss/\(∀y,y∈its.toArray->MeetsSeq.EqGives y (.str z t) (isZ z y))/\isZ z its.toArray[j]=true/\∀m (a:m<its.toArray.size),m<j->isZ z its.toArray[m]=false:=by
 obtain⟨j,f,n,o⟩:=rQ l;have b:∀m y,its[m]? =some y->∃x t,y=Value.str x t/\ss[m]? =some x:=λm y c=>by
  have a:m<ss.length:=h▸(X3 c).1;obtain⟨u,i,p⟩:=r.get (by rw[Zk,Z4 a];rfl);rw[c]at i;obtain⟨t,q⟩:=p;exact%[_,t,(Z9 i).trans q|Z4 a]
 have e:j<its.length:=h▸(X3 f).1;refine%[j,e,f,o,λy c=>?_,?_|λm a g=>?_]
 .obtain⟨m,a⟩:=Yz (by simpa using c);obtain⟨x,t',rfl,_⟩:=b m y a;exact eqGives_str x z t' t
 .obtain⟨x,t',ex,d⟩:=b j _ (Z4 e);rw[f]at d;show isZ z its[j]=true;rw[ex,<-Z9 d];exact beq_self_eq_true z
 .obtain⟨x,t',ex,d⟩:=b m _ (Z4 a);show isZ z its[m]=false;rw[ex];exact beq_eq_false_iff_ne.mpr (n m g x d)
def pZ:V->List V->Hp->VK->Prop:=λx vs H Q=>asR x λl=>∃z,vs=[.str z]/\∃ss:ZB,H l=some (.lst (ss.map V.str))/\z∈ss/\∀a,(z::a).Perm ss->Q .non (upd H l (.lst (a.map V.str)))
theorem wV:MtM X "list.remove" pZ:=by
 intro pins s A H x vs v us Q I c d h;obtain⟨l,rfl,z,rfl,ss,a,f,q⟩:=fC h;cases c;obtain⟨u,rfl,g⟩:=d.one;obtain⟨t,rfl⟩:=g;obtain⟨i,its,n,r,b,e⟩:=I.lstM a;rw[Z5]at b i;obtain⟨j,m,_,o,p,w,y⟩:=wU t r b f;refine call_meets F.slot_list_remove %[_,e|rfl] F.entry_list_remove (F.args_list_remove_2 _ _) (MeetsSeq.list_remove l its.toArray n _ _ p j m w y (by simp_all)) %[e,.non,_,I.lset (its':=its.eraseIdx j) a e ?_ ?_ ?_,rfl|q _ o]
 .simp
 .rw[List.eraseIdx_eq_take_drop_succ,Zc,List.map_take,List.map_drop,<-List.eraseIdx_eq_take_drop_succ];exact r.eraseIdx j
 .have:=nW ss j;rw[Z5]
  lia
theorem zQ:MtQ X "list.remove" pZ:=⟨wV⟩
end
theorem wW:typeLookup (.type "list_reverseiterator") "__len__"=pure none:=by kernel_rfl
theorem zS:typeLookup (.type "list_reverseiterator") "__length_hint__"=pure (some (.builtin "list_reverseiterator.__length_hint__")):=by kernel_rfl
section
#where
theorem nq(hh:A.handled=none)(N:s.heap.IsRevIter I l ((a.size:Int) -1))(O:s.heap.IsList l a)(ne:l≠I)(hz:a.size<=sizeLine)
 (hQ:∀s' acc c,(∀b o,b≠I->s.heap.get? b=some o->s'.heap.get? b=some o)->s'.gens=s.gens->s'.os=s.os->s'.heap.get? ⇑s=some {cls:= .type "list",data:= .seq acc c}->acc.toList=a.toList.reverse->Q (.ref ⇑s) s'):
 ↥A (call (.type "list") [.ref I]) Q E s:=by
 have u:I<⇑s:=let⟨_,i,_⟩:=N;Zt i;have v:l<⇑s:=let⟨_,i,_⟩:=O;Zt i
 generalize p:s.heap.push {cls:=Value.type "list",data:=Data.seq #[]}=G
 have gz:G.objs.size=⇑s+1:=by rw[<-p,Zp]
 have y:∀b o,s.heap.get? b=some o->G.get? b=some o:=λb o e=>by rw[<-p];exact Z6 _ e
 have q:G.get? ⇑s=some {cls:=Value.type "list",data:=Data.seq #[]}:=by rw[<-p];exact Zi _ rfl
 refine callType_codes (Q₁:=λobj g=>obj= .ref ⇑s/\g=(s>>>G)) F.called_list (F.typeCall_list_1 (Value.ref I)) F.entry_list_init (code_list_new (Value.ref I) %[rfl|by rw[p]]) λobj g j=>?_
 obtain⟨rfl,rfl⟩:=j;refine%[%[_,q|rfl],F.args_list_init_2 _ _|?_];show ↥A.in1.in1 (Builtin.«list.__init__» %[[.ref ⇑s,.ref I]|[]]) _ _ _;unfold Builtin.«list.__init__»;refine Z2 ?_;refine listItems_at (s:=(s>>>G)) q rfl ?_;refine Z2 (listUpdate_at (s:=(s>>>G)) q rfl ?_ (Yy _));have U:=get?_update_self (Obj.mapSeq λ_=> #[]) q rfl;have f:∀b o,b≠⇑s->G.get? b=some o->(G.update ⇑s (Obj.mapSeq λ_=> #[])).get? b=some o:=λb o z e=>(get?_update_other _ _ (Ne.symm z)).trans e
 refine Z2 (wpAny_letGo ?_)
 generalize G.update ⇑s (Obj.mapSeq λ_=> #[])=h at U f
 have B:I≠⇑s:=Zr u;have nl:l≠⇑s:=Zr v;have m:h.IsRevIter I l ((a.size:Int) -1):=N.at λo e=>f _ _ B (y _ _ e)
 have C:h.IsList l a:=let⟨o,i,r⟩:=O;%[o,f _ _ nl (y _ _ i)|r];have W:=Walks.listRev (prog:=prog) (w:=w) (A:=A.in1.in1) hh I l ne a;have n:(0<=a.size/\h.IsRevIter I l (↑a.size-1-((0:Nat):Int))/\h.IsList l a):=%[Yy _,by simpa using m|C]
 show ↥A.in1.in1 (Builtin.List.listExtendWith (.ref ⇑s) (.ref I) .none) _ _ (s>>>h);unfold Builtin.List.listExtendWith;have t:Shared.TypeIs (s>>>h) (.ref I) "list_reverseiterator":=m.typeIs;refine Z2 (wpAny_typeOf (T:="list_reverseiterator") t ?_);have n1:Builtin.List.listSameRef (.ref ⇑s) (.ref I)=false:=beq_eq_false_iff_ne.mpr (Ne.symm B);have n2:(Value.type "list_reverseiterator"==Value.type "list")=false:=by decide
 have n3:(Value.type "list_reverseiterator"==Value.type "tuple")=false:=by decide
 simp only[n1,n2,n3,Bool.or_false,Zx,if_false];refine Z2 (W.self 0 (s>>>h) _ _ n ?_);refine Z2 (wpAny_holding ?_);unfold Builtin.List.listLengthHint;refine Z2 (wpAny_specialOf (T:="list_reverseiterator") t wW ?_);show wpAny _ _ (specialOf (.ref I) (Str.ofString "__length_hint__")>>= _) _ _ _;refine Z2 (wpAny_specialOf t zS ?_)
 wp_delta
 refine Z2 (wpAny_isInstance (T:="list_reverseiterator") (b:=true) t (by rw[isSubtype_type];kernel_rfl) ?_);simp only[Bool.not_true,Zx,if_false];rw[if_pos (by decide +kernel)];rw[if_neg (by decide)];refine Z3 ?_;rw[if_neg (by decide +kernel)];have H:⇑s∉[I,l]:=by
  simp only[Yn,Yt,or_false,not_or];exact%[Ne.symm B|Ne.symm nl]
 refine Z3 %[plainId_quiet F.plain_extend_loop _|codeAny_extend_loopS W.toS hz _ H _ a.size 0 _ _ _ rfl (Yy _) n U (ItemsOf.nil _) λs5 acc c5 J L d=>?_];refine%[rfl|hQ s5 acc c5 (λb o z e=>?_) J.gens J.os L ?_]
 .have nb:b≠⇑s:=Zr (Zt e);refine J.heap b o ?_ (f _ _ nb (y _ _ e));simp only[Yn,Yt,or_false,not_or];exact%[nb|z]
 .apply ext_getElem?;intro k;have al:acc.toList.length=a.size:=Za▸d.1;by_cases Y:k<a.size
  .have M:k<acc.size:=d.1▸Y;have:=d.2 k acc[k] ∅;rw[List.getElem?_reverse (Y),Za,getElem?_toList,getElem?_toList,this];simp[M]
  .rw[List.getElem?_eq_none ⋯,List.getElem?_eq_none (by simp;lia)]
end
noncomputable def Ee(n:Nat)(a l:Addr)(m:Nat):HO:= .ext λh=>n<=a/\h.IsRevIter a l (m-1)
theorem wX{X:Cx}:bK X (.type "reversed") (λxs H Q=>∃(l:Addr) (ys:List V),xs=[.ref l]/\SqL X.K H l ys/\∀r,H r=none->Q (.ref r) (upd H r (Ee X.s₀.heap.objs.size r l ys.length))):=by
 intro pins s a H xs us Q I r h;obtain⟨l,ys,rfl,c,q⟩:=h;obtain⟨u,rfl,d⟩:=cR r;cases d;obtain⟨its,f,pl,j⟩:=I.list c;refine call_reversed_list pl.isList ?_;have g:=I.hok.fresh (Zh _);have J:Inv X pins a H (s>>>(s.heap.push (revObj l (its.toArray.size-1)))):=I.keptS (λb o e=>Z6 _ e) rfl rfl;refine%[.ref ⇑s,_,I.stoodS (o:=Ee X.s₀.heap.objs.size ⇑s l ys.length) J (Zh _) %[%[I.sz|?_],%[_|Zi _ rfl]|λ_ _ ⟨i,x⟩ k=>%[i|x.at λo e=>k o e]],rfl|q _ g];rw[f.length,<-Zo];exact%[_,Zi _ rfl,rfl|rfl]
theorem Inv.dropped{X:Cx}(I:Inv X pins j H s)(l:H a=some (.ext i))(m:X.s₀.heap.objs.size<=a)(f:∀b o,b≠a->s.heap.get? b=some o->s'.heap.get? b=some o)(r:s'.gens=s.gens)(t:s'.os=s.os):Inv X pins j (drop H a) s':=by
 have ne:∀{b:Addr} {o:HO},H b=some o->(∀i,o≠ .ext i)->b≠a:=λe n z=>by
  grind
 have un:Un (frs X.stack) [a] H (drop H a) s.heap s'.heap:=by
  refine%[λb o e _ _ d=>f b o (by simpa using d) e,λb o e _ _ d=>%[o.slots|f b o (by simpa using d) e],λb o _ n _=>?_,λb o e d=>%[o|f b o (by simpa using d) e],λb xs e=>?_,λb o u e=>?_|λb ps e=>%[#[]|?_]]
  .unfold drop;split
   .rfl
   .exact n
  .rw[bx (ne e ∅)];exact e
  .rw[bx (ne e ∅)];exact e
  .rw[bx (ne e ∅)];simpa using e
 have g:HOk X.prog X.w (drop H a) s'.heap:=λb o e=>by
  have nb:b≠a:=λz=>by rw[z,fK]at e;cases e
  rw[bx nb]at e;refine(I.hok b o e).stay (λc u h q=>f c u ?_ q) (λc q=>?_) λc xs q=>?_
  .rcases h with rfl|h
   .exact nb
   .exact ne h ∅
  .rw[bx (ne q ∅)];exact q
  .rw[bx (ne q ∅)];exact q
 exact I.call' t un g (by rw[r];exact I.bare) λb v=>by
  obtain rfl:b=a:=by simpa using v
  refine%[.inr m,λz=>?_,λx c e z=>?_|λp w z=>?_]
  .have:=I.free;grind
  .have:=I.freeC x c e;grind
  .have:=(I.pin p w).2.1;rw[z,l]at this;cases this
theorem rR{X:Cx}(w:X.calm=true):bK X (.type "list") (λxs H Q=>∃(r l:Addr) (ys:List V),xs=[.ref r]/\H l=some (.lst ys)/\H r=some (Ee X.s₀.heap.objs.size r l ys.length)/\∀p,drop H r p=none->p≠r->Q (.ref p) (upd (drop H r) p (.lst ys.reverse))):=by
 intro pins s J H xs us Q I r h;obtain⟨a,l,ys,rfl,g,f,q⟩:=h;obtain⟨u,rfl,y⟩:=cR r;cases y;obtain⟨z,its,n,A,m,e⟩:=I.lstM g;obtain⟨⟨t,b⟩,_⟩:=I.hok a _ f;have i:l≠a:=λz=>by rw[z,f]at g;cases g
 have sz:its.toArray.size=ys.length:=by simp_all
 refine nq (I.ok.hd w) (by rw[sz];exact b) %[_,e,rfl,n|rfl] i (by rw[sz];exact z) λs' acc c B C j E d=>?_
 have v:=I.dropped f t (λ_ _ _ e=>e) rfl rfl;have G:=I.dropped f t B C j;have lt:=let⟨_,j,_⟩:=b;Zt j;refine%[.ref ⇑s,_,v.stoodS (o:= .lst ys.reverse) G (Zh _) %[?_,acc.toList,c,?_|?_],rfl|q _ (v.hok.fresh (Zh _)) (Yo lt)]
 .rw[List.length_reverse];exact z
 .rw[d];exact A.reverse
 .exact E
def rS(b:TE):TE:=λc H Q=>b c H λv a=>∃l ys,v= .ref l/\a l=some (.lst ys)/\∀p,a p=none->Q (.ref p) (upd a p (.lst ys.reverse))
theorem zT{X:Cx}(h:X.calm=true)(i:Gl X "reversed")(j:X.mg "reversed"=none)(a:Gl X "list")(b:X.mg "list"=none)(d:aW e=false)(m:QE X e n):
 QE X (.Call (.Name "list" o) [.Call (.Name "reversed" s) [e] [] t] [] u) (rS n):=by
 have w:QE X (.Call (.Name _ s) [e] [] t) _:=ctE ⟨wX⟩ i j PyProof.Rows.boot_reversed rfl rfl (by simp[d]) (paE d (⟨DU m.h⟩) ak);have y:=ctE (p:=o) (pos:=u) ⟨rR h⟩ a b boot_list rfl rfl rfl (paE rfl w ak);refine⟨DV y.h λA H Q q=>?_⟩;refine%[_,q|λv B ⟨l,ys,z,c,q⟩=>%[l,ys,by rw[z],SqL.of c|λr f=>?_]];refine%[r,l,ys,rfl,by rw[aj (ap c f)];exact c,aa|λp g _=>?_];rw[zq f]at g ⊢;exact q p g
section
variable{X:Cx}
def Ef:R2:=λx y H Q=>asR x λa=>asR y λb=>∃xs,H a=some (.lst xs)/\H b=some (.lst [])/\Q (.bl (decide (xs≠[]))) H
theorem Eg(A:X.A.units+64<cLine):OpR X (compareOp .NotEq) Ef:=by
 intro pins s B H x y v u Q I l m h;obtain⟨a,rfl,o⟩:=fC h;obtain⟨b,rfl,xs,p,t,q⟩:=fC o;cases l;cases m;obtain⟨z,its,n,r,g,e⟩:=I.lstM p;obtain⟨C,its2,i,E,d,c⟩:=I.lstM t;obtain rfl:its2=[]:=length_eq_zero_iff.mp d.symm;by_cases f:xs=[]
 .subst f;obtain rfl:its=[]:=length_eq_zero_iff.mp g.symm;exact richCompare_meets_room (op:= .NotEq) %[_,e|rfl] %[_,c|rfl] PySem.F.slot_list_ne PySem.F.entry_list_ne (PySem.F.args_list_ne_2 _ _) (SeqAt.list_neAt a b #[] #[] n i none none #[] #[] rfl λ_=>true) %[e,c,λj h=>absurd h (Ys j),by simp,.bl _,H,I,rfl|q] ⋯
 .have w:its.toArray.size≠0:=by
   rw[Zo,<-g];exact λq=>f (length_eq_zero_iff.mp q)
  rw[Ze f]at q;exact richCompare_meets_room (op:= .NotEq) %[_,e|rfl] %[_,c|rfl] PySem.F.slot_list_ne PySem.F.entry_list_ne (PySem.F.args_list_ne_2 _ _) (SeqAt.list_ne_lengthsAt a b its.toArray #[] n i none none #[] #[] (by simpa using w)) %[e,c,by simp,.bl true,H,I,rfl|q] ⋯
theorem Fk(a:bC k X.A):OpQ X (compareOp .NotEq) Ef:=⟨Eg a.units⟩
end
section
#where
theorem eK(I:List i->j->Shared->Prop):∀(xs:List i) (b:j) (s:Shared),I xs b s->
 (∀x r b s,I (x::r) b s->↥A (f x b) (λy s'=>match y with| .done c=>Q c s'| .yield c=>I r c s') E s)->(∀b s,I [] b s->Q b s)->↥A (forIn xs b f) Q E s
 |[],b,s,h,_,a=>by
  exact Z3 (a b s h)
 | x::r,b,s,h,d,a=>by
   rw[forIn_cons];refine Z2 (wpAny_mono (d x r b s h) (λy s' g=>?_) λ_ _ e=>e);cases y with
   | done c=>exact Z3 g
   | yield c=>exact eK I r c s' g d a
theorem zU:∀c {Q:Bool->Shared->Prop},(∀b∈c,∃d,bi w b d s.heap)->Q true s->↥A (setsQuiet c) Q E s:=by
 intro c Q h l;refine Z2 (eK (λr b s'=>(∀b∈r,∃d,bi w b d s.heap)/\b=(none,())/\s'=s) c _ s %[h,rfl|rfl] ?_ ?_)
 .rintro x r b s' ⟨g,rfl,rfl⟩;obtain⟨d,o,m,G,t,ss,n,p,q,v,H,y,f,I,B,C,i⟩:=g x Zl;refine Z2 (wpAny_setEntries_of n q B (Z2 ?_));rw[<-forIn_toList];refine eK (λr b a=>(∀e∈r,∃z u,e=(hashStr w z,Value.str z u))/\b=(none,())/\a=s') m.toList _ _ %[f,rfl|rfl] ?_ ?_
  .rintro e r b a ⟨j,rfl,rfl⟩;obtain⟨z,u,rfl⟩:=j e Zl;exact Z3 %[λe h=>j e (Zj _ h),rfl|rfl]
  .rintro b a ⟨_,rfl,rfl⟩;exact Z3 %[λe h=>g e (Zj _ h),rfl|rfl]
 .rintro b s' ⟨_,rfl,rfl⟩;exact Z3 l
noncomputable def hsE(w:World)(p:Str×Tok):Int×Value:=(hashStr w p.1,.str p.1 p.2)
theorem bi.texts{a:Addr}{h:Heap}{o:Obj}{c:Array (Int×Value)}(d:StrsAre (c.toList.map (·.2)) ss)(g:ss.Perm ks)(f:∀e∈c.toList,∃z u,e=(hashStr w z,Value.str z u))(xs:List (Int×Value))(b:xs.Perm c.toList):∃zs:List (Str×Tok),xs=zs.map (hsE w)/\(zs.map (·.1)).Perm ks:=by
 have all:∀l,(∀e∈l,∃z u,e=(hashStr w z,Value.str z u))->∃zs:List _,l=zs.map (hsE w):=λl=>by
  induction l with
  | nil=>exact λ_=>%[[]|rfl]
  | cons e l i=>
    intro h;obtain⟨z,u,rfl⟩:=h e Zl;obtain⟨zs,rfl⟩:=i λx b=>h x (Zj _ b)
    exact%[(z,u)::zs|rfl]
 obtain⟨zs,rfl⟩:=all xs λe j=>f e (b.mem_iff.mp j)
 refine%[zs,rfl|?_];obtain⟨ts,m,n⟩:=cb d (b.map _);have e:ts=zs.map (·.1):=by
  rw[<-m.strs,Yj,Yj];rfl
 exact e▸n.trans g
theorem oK{f:List Addr}{c:ZH}{Q:Array (Int×Value)->Shared->Prop}(Y:bi w a ks s.heap)(hO:∀b∈f,∃js,bi w b js s.heap)(q:∀r,c=some r->r≠a/\bi w r [] s.heap)
 (hQ:∀(zs:List (Str×Tok)) (d:Drawn) (h':Heap),(zs.map (·.1)).Perm ks->(∀b o,c≠some b->s.heap.get? b=some o->h'.get? b=some o)->(∀r,c=some r->bi w r [] h')->Q (zs.map (hsE w)).toArray {s with heap:=h',drawn:=d}):
 ↥A (setWalkUnseen a f c) Q E s:=by
 obtain⟨o,i,ep,t,ss,ho,ag,hd,L,hp,ai,M,J,hf,N,j⟩:=id Y;have g:∀(xs:List _) d h',xs.Perm i.toList->(∀b o,c≠some b->s.heap.get? b=some o->h'.get? b=some o)->(∀r,c=some r->bi w r [] h')->Q xs.toArray {s with heap:=h',drawn:=d}:=λxs d h' hx v h2=>by
  obtain⟨zs,rfl,hz⟩:=bi.texts (a:=a) (h:=h') (o:=o) L hp M xs hx;exact hQ zs d h' hz v h2
 have walk:↥A (setWalk a) Q E s:=by
  refine Z2 (wpAny_setState_of ho hd hf ?_);show wpAny _ _ (if aR w=true then _ else _) _ _ _;by_cases O:aR w=true
  .rw[if_pos O];refine Z2 (wpAny_askSetting (Z3 ?_));have:=g (pickOrder (w.params.setOrder a ep) i).toList s.drawn s.heap (ot _ _) (λ_ _ _ e=>e) λr e=>(q r e).2
   exact this
  .rw[if_neg O]
   split
   .exact Z2 (pF i.size i.toList _ _ ∅ λys d p=>Z3 (g ys d s.heap p (λ_ _ _ e=>e) λr e=>(q r e).2))
   .refine Z2 ?_;show wpAny _ _ (if(!t.led&&decide _)=true then unsupported _ else pure ()) _ _ _;rw[j,show aR w=false by simpa using O];refine Z3 (Z3 ?_);have:=g i.toList s.drawn s.heap (.refl _) (λ_ _ _ e=>e) λr e=>(q r e).2
    exact this
 refine Z2 (wpAny_setState_of ho hd hf ?_);show wpAny _ _ (if(aR w||t.led&&t.plain||decide _)=true then _ else _) _ _ _;by_cases v:(aR w||t.led&&t.plain||decide (i.size<=1))=true
 .rw[if_pos v];exact walk
 .rw[if_neg v];refine Z2 (zU _ (λb J=>?_) ?_)
  .rcases mem_cons.mp J with e|e
   .exact e▸%[_|Y]
   .exact hO b e
  refine Z2 (wpAny_rule ?_);cases c with
  | none=>
    have:=g i.toList s.drawn s.heap (.refl _) (λ_ _ _ e=>e) λr e=>(q r e).2
    exact Z3 this
  | some r=>
    obtain⟨ne,o2,T,al,u,an,l,y,m,B,U,C,G,H,I,ab,n⟩:=q r rfl;dsimp only;refine Z2 (wpAny_setState_of l m I ?_)
    split
    .refine Z2 (wpAny_storeSet_of l m ?_ (fits_of_scanBound H));have:=g i.toList s.drawn _ (.refl _) (λb o J e=>((SameBut.update s.heap r (Obj.putSet T {u with led:=u.led&&t.led,plain:=u.plain&&t.plain})).2 b λz=>J (by rw[z])).trans e) λr' e=>?_
     .exact Z3 this
     .cases e;exact(bi.stored (t':={u with led:=u.led&&t.led,plain:=u.plain&&t.plain}) l y m B U C G H I (by rw[(N λz=>v (by rw[z];simp)),Bool.and_false]) (by rw[n,j,Bool.and_self])).2
    .have:=g i.toList s.drawn s.heap (.refl _) (λ_ _ _ e=>e) λr e=>(q r e).2
     exact Z3 this
end
section
#where
theorem BG(h:jk (Sum.inr z) (Value.str y u)=true):y=z:=by
 rcases aZ h with⟨i,t',a,b⟩|⟨c,t',a,b⟩
 .lia
 grind
theorem rT{ks:ZB}(i:s.heap.get? a=some o)(l:o.data= .set b H t)(c:∀e∈b.toList,∃z u,e=(hashStr w z,Value.str z u))(C:b.size<scanBound)(m:t.fits b.size=true)
 (n:∀r,(r=none->∀e∈b.toList,∀u,e.2≠ .str z u)->(∀j,r=some j->∃u,b.toList[j]? =some (hashStr w z,.str z u))->Q r s):↥A (setFind a (.str z tk) (hashStr w z)) Q E s:=by
 have p:ElemsOf (aN prog w) b.toList:=oq c;have d:(aN prog w).is (Sum.inr z) (.str z tk)=true:=di z tk;refine Z2 (wpAny_setState_of i l m ?_);dsimp only;rw[byScan_of rfl C p];refine Z2 (wpAny_rule (Z2 (wpAny_setScan_of d i l m p ?_)));cases v:List.findIdx? _ b.toList with
 | some j=>
   obtain⟨B,f,_⟩:=List.findIdx?_eq_some_iff_getElem.mp v;dsimp only;rw[zero_add];refine Z3 (n _ (λh=>(nomatch h)) λI e=>?_);cases e;obtain⟨y,u,g⟩:=c _ (Y5 B);rw[g]at f;rw[BG (u:=u) f]at g;exact%[u|by rw[Z4 B,g]]
 | none=>
   refine Z3 (n none (λ_ e G u q=>?_) λj e=>(nomatch e));have:=List.findIdx?_eq_none_iff.mp v e G;rw[q,show(aN prog w).is (Sum.inr z) (Value.str z u)=true from di z u]at this;cases this
theorem wY{t:SetTable}(h:t.fits n=true)(hi:i<n):(t.drop i).fits (n-1)=true/\(t.drop i).led=t.led/\(t.drop i).plain=t.plain:=by
 unfold SetTable.fits at h ⊢;rw[Zu,beq_iff_eq,decide_eq_true_eq]at h;unfold SetTable.drop;have:t.place[i]? =some t.place[i]:=by simp
 rw[this];refine%[?_,rfl|rfl];rw[Zu,beq_iff_eq,decide_eq_true_eq];unfold SetTable.fill at h ⊢;simp only[SetTable.eraseAt,SetTable.insertAt,size_append,Array.size_extract,Array.size_push]
 lia
theorem uu(h:i<a.size):(SetTable.eraseAt a i).toList=a.toList.eraseIdx i:=by
 rw[List.eraseIdx_eq_take_drop_succ,SetTable.eraseAt,toList_append,toList_extract,toList_extract,List.extract_eq_take_drop,List.extract_eq_take_drop];simp;exact Zm ∅
theorem rV{ks:ZB}(I:bi w a ks s.heap)(m:∀h' b,SameBut a s.heap h'->bi w a (ks.erase z) h'->Q b (s>>>h')):↥A (setDiscardHashed a (.str z tk) (hashStr w z)) Q E s:=by
 obtain⟨o,c,ep,t,ss,h,n,j,d,J,p,f,L,v,y,g⟩:=id I;refine Z2 (rT (ks:=ks) h j f L v λr M N=>?_);cases r with
 | none=>
   have O:z∉ks:=λq=>by
    obtain⟨u,l⟩:=(dI d).mpr (J.mem_iff.mpr q);obtain⟨e,B,T⟩:=X6 l;exact M rfl e B u T
   rw[List.erase_of_not_mem O]at m;exact Z3 (m s.heap false (SameBut.refl a s.heap) I)
 | some i=>
   obtain⟨u,l⟩:=N i rfl;have hi:i<c.size:=(X3 l).1;have C:((hashStr w z,Value.str z u)::(SetTable.eraseAt c i).toList).Perm c.toList:=by
    rw[uu hi];have:=fY (xs:=c.toList) (hi);rwa[(X3 l).2]at this
   obtain⟨ts,G,U⟩:=cb d (C.map _);cases G with
   | cons _ _ G=>
   obtain⟨Y,d2,d3⟩:=wY v hi;have H:(SetTable.eraseAt c i).size=c.size-1:=by
    rw[<-Za,<-Za,<-C.length_eq];simp
   refine Z2 (wpAny_setState_of h j v ?_);dsimp only;refine Z2 (wpAny_storeSet_of h j (Z2 (wpAny_point (Z3 (m _ true (SameBut.update s.heap a _) (bi.stored h n j G ((List.cons_perm_iff_perm_erase.mp (U.trans J)).2) (p.erase z) (λe B=>f e (C.mem_iff.mp (Zj _ B))) ?_ ?_ ?_ ?_).2)))) (fits_of_scanBound ?_))
   .lia
   .exact H▸Y
   .exact d3▸y ⋯
   .exact d2▸g
   .lia
end
theorem vD(h:STab.WF t a)(b:a.size<=t.mask):t.fits a.size=true:=by
 unfold SetTable.fits SetTable.fill;rw[h.size,h.dum];simpa using b
section
#where
def p7(w:World)(a:Addr)(n:Nat)(h:Heap):Prop:=∃o b t,h.get? a=some o/\o.ExactSet/\o.data= .set #[] b t/\t.place= #[]/\t.dummies= #[]/\t.led=(!aR w)/\(∃k,t.mask+1=2^k)/\7<=t.mask/\n<=t.mask
theorem p7.fits{t:SetTable}(a:t.place= #[])(b:t.dummies= #[]):t.fits (#[]:Array (Int×Value)).size=true:=by
 unfold SetTable.fits SetTable.fill;rw[a,b];simp
theorem BH{n:Nat}{Q:Unit->Shared->Prop}(a:s.heap.get? r=some (aS w))(f:n<=1000)(c:∀h',SameBut r s.heap h'->p7 w r n h'->Q () (s>>>h')):↥A (setRoomFor r n) Q E s:=by
 have d:(SetTable.fresh 0 0 (!aR w)).fits _=true:=p7.fits rfl rfl;refine Z2 (wpAny_setState_of a rfl d ?_);show wpAny _ _ (match(if(0+n)*5>=7*3 then some ((0+n)*2)else none)with|some x=>setRelay r x|_=>pure ()) _ _ _;by_cases h:(0+n)*5>=7*3
 .rw[if_pos h];refine STab.relay_w a rfl d ∅ ⋯ λb t' P W l p g m2=>c _ (SameBut.update s.heap r _) ?_
  obtain rfl:b= #[]:=by
   have:=P.length_eq;simpa using this
  have e:=by
   have q:=get?_update_self (Obj.putSet #[] t') a (by rfl);rwa[putSet_of #[] t' rfl]at q
  exact%[_,_,t',e,%[rfl,rfl|rfl],rfl,Array.eq_empty_of_size_eq_zero W.size,W.dum,l,W.pow,W.big|⋯]
 .rw[if_neg h];exact Z3 (c s.heap (SameBut.refl r s.heap) %[_,_,_,a,%[rfl,rfl|rfl],rfl,rfl,rfl,rfl,%[3|rfl],Zh 7|by show n<=7;lia])
theorem zV{ks:ZB}(M:bi w a ks s.heap)(N:s.heap.get? r=some (aS w))(ne:r≠a)(h1:1<=ks.length)(h2:ks.length<=1000)(O:∀h',SameBut r s.heap h'->bi w r ks h'->Q () (s>>>h')):↥A (setMerge r a) Q E s:=by
 obtain⟨o,d,ep,t,ss,T,U,Y,n,G,z,B,hb,H,C,g⟩:=id M;have hn:d.size=ks.length:=by
  have q:=br n;rw[Z5,Za,G.length_eq]at q;exact q
 have pl:t.plain=false:=C ⋯;unfold setMerge;rw[if_neg (by simpa using ne)];refine Z2 (wpAny_setState_of T Y H ?_);dsimp only;rw[if_neg (λh:d.isEmpty=true=>by have:=Zn h;lia)];refine Z2 (BH N ⋯ λh' sb ⟨o2,ab,u,i,v,j,I,J,L,k2,b2,m2⟩=>Z2 (wpAny_setState_of (s:=(s>>>h')) i j (p7.fits I J) ?_));dsimp only;have m:u.fill=0:=by unfold SetTable.fill;rw[I,J];rfl
 have put:∀(b:Array (Int×Value)) (t':SetTable),b.toList.Perm d.toList->t'.fits b.size=true->t'.plain=false->t'.led=(!aR w)->↥A (storeSet r b t') Q E (s>>>h'):=λb t' P f p l=>by
  have sz:b.size=d.size:=by rw[<-Za,P.length_eq,Za]
  obtain⟨ts,r1,r2⟩:=cb n (P.map (·.2));exact wpAny_storeSet_of (s:=(s>>>h')) i j (O _ (sb.trans (SameBut.update h' r _)) (bi.stored (w:=w) i v j r1 (r2.trans G) z (λe he=>B e (P.mem_iff.mp he)) ⋯ f p l).2) (fits_of_scanBound ⋯)
 unfold SetTable.road;rw[m,if_neg (by decide)]
 split
 .exact put d _ (.refl _) H (by show(u.plain&&t.plain)=false;rw[pl,Bool.and_false]) (by show(u.led&&t.led)=_;rw[L,g,Bool.and_self])
 .obtain⟨k,hk⟩:=k2;obtain⟨t',c,e1,e2,e3,e4,e5,W,P⟩:=STab.laid_ok hk b2 d ⋯ u.finger u.moves _ _;have sz:(c.filterMap (d[·]?)).size=d.size:=by rw[<-Za,P.length_eq,Za]
  rw[e1];refine Z2 ?_;show wpAny _ A (if((c.filterMap _).size != d.size)=true then _ else pure _) _ E _;rw[if_neg (by simp[sz])];exact Z3 (put _ t' P (show t'.fits _=true from vD W (by rw[sz,e2];lia)) (by rw[e4,pl,Bool.and_false]) (by rw[e3,L,g,Bool.and_self]))
 .rename_i y
  split at y<;> cases y
end
theorem bi.nd(S:bi w a ks h):ks.Nodup:=by
 obtain⟨_,_,_,_,_,_,_,_,_,_,h,_⟩:=S;exact h
section
#where
theorem p8(c:bi w b f s.heap)(d:Q true s):↥A (Builtin.Frozenset.isAnySet (.ref b)) Q E s:=by
 obtain⟨o,g,h,t,ss,e,a,_⟩:=c;exact Z2 (wpAny_isInstance (b:=true) %[o,e|a.1] (by kernel_rfl) (Z3 d))
theorem jB(d:bi w b e s.heap)(f:Q e.length s):↥A (Builtin.Frozenset.sizeOf b) Q E s:=by
 obtain⟨o,u,v,t,ss,g,h,i,a,j,l,m,y,n,p,c⟩:=d;have r:=by
  have q:=br a;rw[Z5,Za,j.length_eq]at q;exact q
 exact Z2 (wpAny_setEntries_of g i n (Z3 (r▸f)))
theorem zW(N:bi w r ks s.heap)(O:bi w b T s.heap)(ne:r≠b)(big:T.length<ks.length)(as:ks.length<=900)
 (hQ:∀h' d f,(∀c o,c≠r->s.heap.get? c=some o->h'.get? c=some o)->(∀x,x∈f↔x∈ks/\x∉T)->bi w r f h'->Q () {s with heap:=h',drawn:=d}):↥A (Builtin.Frozenset.differenceUpdate nm r (.ref b)) Q E s:=by
 unfold Builtin.Frozenset.differenceUpdate;rw[if_neg (by simpa using ne.symm)];refine Z2 (p8 O ?_);rw[if_pos rfl];refine Z2 (Z3 (Z2 (jB O (Z2 (jB N ?_)))));rw[if_neg ⋯];obtain⟨o,es,ep,t,ss,ho,a0,hd,a1,hp,a2,a3,hb,hf,a4,an⟩:=id O;have B:∀(s':Shared) (Q':Nat->Shared->Prop),s'.heap.get? b=some o->Q' ep s'->↥A (setEpoch b) Q' E s':=λs' Q' e q=>by
  unfold setEpoch;exact Z2 (wpAny_setState_of e hd hf (Z3 q))
 refine Z2 (B s _ ho (Z2 (wpAny_holding (Z2 (oK O (λc j=>%[ks|(X5 j)▸N]) (λ_ e=>(nomatch e)) λzs d h1 pz k1 _=>Z2 ?_)))));rw[<-forIn_toList];refine eK (λxs _ s'=>∃g rest h',zs=g++rest/\xs=rest.map (hsE w)/\s'={s with heap:=h',drawn:=d}/\(∀c o,c≠r->s.heap.get? c=some o->h'.get? c=some o)/\∃f,bi w r f h'/\∀x,x∈f↔x∈ks/\x∉g.map (·.1)) _ _ _
  %[[],zs,h1,rfl,rfl,rfl,λc o _ e=>k1 c o ∅ e,ks,N.keep λo e=>k1 r o ∅ e|by simp] ?_ ?_
 .rintro x xs _ s' ⟨g,rest,h',U,ex,rfl,Y,f,S,h⟩;cases rest with
  | nil=>cases ex
  | cons p rest=>
  rw[Yi]at ex;injection ex with ab ag
  subst ab;refine Z2 (wpAny_holding (rV (z:=p.1) (tk:=p.2) (s:={s with heap:=h',drawn:=d}) S λh2 bb sb S2=>Z2 ?_));unfold Builtin.Frozenset.unchanged;have C:∀c o,c≠r->s.heap.get? c=some o->h2.get? c=some o:=λc o j e=>(sb.2 c j).trans (Y c o j e)
  refine Z2 (B {s with heap:=h2,drawn:=d} _ (C b o ne.symm ho) ?_);rw[if_neg ∅];refine Z3 (Z3 %[g++[p],rest,h2,by rw[U,Zd];rfl,ag,rfl,C,_,S2|λx=>?_]);rw[S.nd.mem_erase_iff,h,Zc,Yk,Yi,map_nil,mem_singleton,not_or]
  constructor
  .exact λ⟨a,b,c⟩=>%[b,c|a]
  .exact λ⟨b,c,a⟩=>%[a,b|c]
 .rintro _ s' ⟨g,rest,h',U,ex,rfl,Y,f,S,h⟩;obtain rfl:rest=[]:=by
   cases rest with
   | nil=>rfl
   | cons p rest=>cases ex
  rw[Zw]at U;have h:∀x,x∈f↔x∈ks/\x∉T:=λx=>by rw[h,<-U,pz.mem_iff]
  have ai:f.length≠0:=λe=>by
   have:=STab.nodup_sub N.nd (m:=T) λx hx=>Decidable.byContradiction λq=>by
    have:=(h x).mpr %[hx|q];rw[length_eq_zero_iff.mp e]at this;cases this
   lia
  have sub:=STab.nodup_sub S.nd λx hx=>((h x).mp hx).1
  refine Z3 ?_;obtain⟨o2,n,a5,t2,a6,u,G,v,i,H,I,J,a7,L,M,y⟩:=id S;have hn:=by
   have q:=br i;rw[Z5,Za,H.length_eq]at q;exact q
  refine Z2 (wpAny_setState_of u v L ?_);dsimp only
  split
  .rw[show SetTable.grown n.size=n.size*4 by unfold SetTable.grown;rw[if_neg ⋯]];refine STab.relay_w u v L ⋯ ⋯ λal t' P W l p m1 m2=>?_
   have sz:al.size=n.size:=by rw[<-Za,P.length_eq,Za]
   obtain⟨ts,r1,r2⟩:=cb i (P.map (·.2));exact hQ _ d f (λc o j e=>((SameBut.update h' r _).2 c j).trans (Y c o j e)) h (bi.stored u G v r1 (r2.trans H) I (λe he=>J e (P.mem_iff.mp he)) ⋯ (vD W ⋯) (p▸M ⋯) (l▸y)).2
  .exact Z3 (hQ h' d f Y h S)
end
section
#where
theorem rW(a:Q (.ref ⇑s) (s>>>s.heap.push (aS w))):↥A (newSet (.type "set")) Q E s:=by
 exact Z2 (Z2 (wpAny_askSetting (Z3 (wpAny_newObj_type a))))
theorem rX(d:bi w a ks s.heap)(e:Q (.type "set") s):↥A (Builtin.Frozenset.baseOf a) Q E s:=by
 obtain⟨o,g,h,t,ss,f,c,_⟩:=d;exact Z2 (wpAny_isInstance (b:=true) %[o,f|c.1] (by kernel_rfl) (Z3 e))
theorem BI(v:bi w a ks s.heap)(C:bi w b J s.heap)(ab:ks.length<=900)
 (hQ:∀h' d i,(∀c o,s.heap.get? c=some o->h'.get? c=some o)->(∀x,x∈i↔x∈ks/\x∉J)->bi w ⇑s i h'->Q (.ref ⇑s) {s with heap:=h',drawn:=d}):↥A (Builtin.Frozenset.difference nm a (.ref b)) Q E s:=by
 have lt:∀{c:Addr} {ls:ZB},bi w c ls s.heap->c≠⇑s:=λ{c ls} h=>by
  obtain⟨o,_,_,_,_,Y,_⟩:=h;exact Zr (Zt Y)
 have L:∀c o,s.heap.get? c=some o->(s.heap.push (aS w)).get? c=some o:=λc o e=>Z6 _ e
 have hr:(s.heap.push (aS w)).get? ⇑s=some (aS w):=Zi _ rfl;have S1:=v.keep λo e=>L a o e
 have O1:=C.keep λo e=>L b o e
 unfold Builtin.Frozenset.difference;dsimp only;refine Z2 (p8 C ?_);rw[if_neg (by decide)];refine Z2 (Z3 ?_);rw[if_neg ∅,if_pos rfl];refine Z2 (jB C (Z2 (jB v ?_)))
 generalize hG:s.heap.push (aS w)=G at L hr S1 O1
 split
 .refine Z2 (wpAny_rule (Z2 ?_));unfold Builtin.Frozenset.copyOf;refine Z2 (rX v (Z2 (rW ?_)));rw[hG];refine Z2 (Z3 (Z2 (zV (s:=(s>>>G)) S1 hr (Ne.symm (lt v)) ⋯ ⋯ λh1 sb R1=>Z3 ?_)));have k1:∀c o,s.heap.get? c=some o->h1.get? c=some o:=λc o e=>(sb.2 c (Zr (Zt e))).trans (L c o e)
  exact Z2 (Z3 (Z2 (wpAny_holding (zW (s:=(s>>>h1)) R1 (C.keep λo e=>k1 b o e) (Ne.symm (lt C)) ⋯ ab λl d i H y M=>Z3 (hQ l d i (λc o e=>H c o (Zr (Zt e)) (k1 c o e)) y M)))))
 .refine Z2 (rX v (Z2 (rW ?_)));rw[hG];refine Z2 (Z3 ?_);obtain⟨o,es,ep,t,ss,Y,a5,hd,a6,hp,a7,a8,hb,hf,a9,a1⟩:=id S1;have N:∀(s':Shared) (Q':Nat->Shared->Prop),s'.heap.get? a=some o->Q' ep s'->↥A (setEpoch a) Q' E s':=λs' Q' e q=>by
   unfold setEpoch;exact Z2 (wpAny_setState_of e hd hf (Z3 q))
  refine Z2 (N (s>>>G) _ Y ?_);rw[if_pos rfl];refine Z2 (wpAny_holding (Z2 (oK (s:=(s>>>G)) S1 (λc B=>?_) (λr e=>⟨by cases e;exact Ne.symm (lt v),by cases e;exact bi.empty hr⟩) λzs d h1 pz k1 r1=>Z2 ?_)))
  .simp only[Yn,Yt,or_false]at B;rcases B with rfl|rfl
   .exact%[_|O1]
   .exact%[_|bi.empty hr]
  rw[<-forIn_toList];refine eK (λxs _ s'=>∃f rest h',zs=f++rest/\xs=rest.map (hsE w)/\s'={s with heap:=h',drawn:=d}/\(∀c o,c≠⇑s->G.get? c=some o->h'.get? c=some o)/\∃i,bi w ⇑s i h'/\i.length<=f.length/\∀x,x∈i↔x∈f.map (·.1)/\x∉J) _ _ _
   %[[],zs,h1,rfl,rfl,rfl,(λc o B e=>k1 c o (λq=>B (Z9 q).symm) e),[],r1 _ rfl,Zh _|by simp] ?_ ?_
  .rintro x xs _ s' ⟨f,rest,h',I,ex,rfl,g,i,M,ml,y⟩;cases rest with
   | nil=>cases ex
   | cons p rest=>
   rw[Yi]at ex;injection ex with ag O
   subst ag;have zl:zs.length=ks.length:=by rw[<-pz.length_eq,Z5]
   have pl:f.length<ks.length:=by rw[<-zl,I,Z8,Zq];lia
   rw[if_pos rfl];have m:∀(l:Heap) Qx,(∀c o,c≠⇑s->G.get? c=some o->l.get? c=some o)->Qx (.yield ⟨⟩) {s with heap:=l,drawn:=d}->↥A (Builtin.Frozenset.unchanged nm a ep>>= λ_=>pure (ForInStep.yield PUnit.unit)) Qx E {s with heap:=l,drawn:=d}:=λl Qx H q=>by
    refine Z2 ?_;unfold Builtin.Frozenset.unchanged;refine Z2 (N {s with heap:=l,drawn:=d} _ (H a o (lt v) Y) ?_);rw[if_neg ∅];exact Z3 (Z3 q)
   have mem:∀x,x∈(f++[p]).map (·.1)↔x∈f.map (·.1)\/x=p.1:=λx=>by rw[Zc,Yk,Yi,map_nil,mem_singleton]
   obtain⟨o2,bf,bl,t2,bm,ai,a2,al,n,T,a3,U,an,as,a4,a0⟩:=id O1;refine Z2 (wpAny_holding (Z2 (rT (ks:=J) (z:=p.1) (tk:=p.2) (g b o2 (lt C) ai) al U an as λq q1 q2=>Z2 (Z3 ?_))));cases q with
   | none=>
     have hz:p.1∉J:=λz=>by
      obtain⟨u,hu⟩:=(dI n).mpr (T.mem_iff.mpr z);obtain⟨e,he,q3⟩:=X6 hu;exact q1 rfl e he u q3
     rw[if_pos (by rfl)];refine Z2 (jt (z:=p.1) (tk:=p.2) M (by rw[show scanBound=4096 from rfl];lia) λl bb sb M2=>Z3 ?_);have H:=λc o B e=>(sb.2 c B).trans (g c o B e)
     refine m l _ H %[f++[p],rest,l,by rw[I,Zd];rfl,O,rfl,H,_,M2,?_|λx=>?_]
     .rw[Z8,Yc]
      split
      .lia
      .rw[Z8,Yc];lia
     .rw[mem];by_cases hx:x=p.1
      .subst hx;refine%[λ_=>%[.inr rfl|hz]|λ_=>?_]
       split
       .rename_i h;exact h
       .exact Ym _ Zl
      .split
       .rw[y];exact%[λh=>%[.inl h.1|h.2]|λh=>%[h.1.resolve_right hx|h.2]]
       .rw[Yk,mem_singleton,y];exact%[λh=>let h:=h.resolve_right hx;%[.inl h.1|h.2]|λh=> .inl %[h.1.resolve_right hx|h.2]]
   | some j=>
     have hz:p.1∈J:=by
      obtain⟨u,hu⟩:=q2 j rfl;exact T.mem_iff.mp ((dI n).mp %[u|X7 %[_,Z7 hu|rfl]])
     rw[if_neg ∅];refine Z3 (m h' _ g %[f++[p],rest,h',by rw[I,Zd];rfl,O,rfl,g,i,M,by rw[Z8];lia|λx=>?_]);rw[y,mem];refine%[λh=>%[.inl h.1|h.2]|λh=>%[h.1.resolve_right λe=>h.2 (e▸hz)|h.2]]
  .rintro _ s' ⟨f,rest,h',I,ex,rfl,g,i,M,ml,y⟩;obtain rfl:rest=[]:=by
    cases rest with
    | nil=>rfl
    | cons p rest=>cases ex
   rw[Zw]at I;exact Z3 (Z3 (hQ h' d i (λc o e=>g c o (Zr (Zt e)) (L c o e)) (λx=>by rw[y,<-I,pz.mem_iff]) M))
end
theorem p9:entryFor table "set.__sub__"=some Builtin.«frozenset.__sub__»:=entryFor_alias (id':="frozenset.__sub__") (by kernel_rfl) rfl (by decide +kernel) (by kernel_rfl)
section
variable{X:Cx}
def zX(w:World):R2:=λx y H Q=>asR x λa=>asR y λb=>∃ks d,H a=some (i4 w a ks)/\H b=some (i4 w b d)/\ks.length<=900/\∀l c,H l=none->(∀x,x∈c↔x∈ks/\x∉d)->c.Nodup->Q (.ref l) (upd H l (i4 w l c))
theorem BJ:OpR X (binaryOp .Sub) (zX X.w):=by
 intro pins s C H x y v u Q I m n h;obtain⟨a,rfl,p⟩:=fC h;obtain⟨b,rfl,ks,E,r,w,e,q⟩:=fC p;cases m;cases n;obtain⟨S,_,_⟩:=(I.hok a _ r)
 obtain⟨O,_,_⟩:=(I.hok b _ w)
 have f:∀{c:Addr} {j:ZB},bi X.w c j s.heap->s.TypeIs (.ref c) _:=λ{c j} h=>by
  obtain⟨o,G,J,t,ss,g,i,_⟩:=h;exact%[o,g|i.1]
 refine wpAny_binaryOp_same (f S) (f O) F.fills_set_sub F.slot_set_sub (wpAny_call_entry F.slot_set_sub (f S) p9 (Z2 (Z2 (Z3 (Z3 (Z2 (Z2 (p8 S (p8 O (Z2 (Z3 (Z2 (BI S O e λh' d l k z M=>Z3 %[_,rfl,by simp,.ref ⇑s,_,I.stoodS (o:=i4 X.w ⇑s l) (I.keptS k rfl rfl) (Zh _) %[M,?_|λ_ _ A B=>bi.keep A B],rfl|q _ l (I.hok.fresh (Zh _)) z M.nd])))))))))))) (F.args_set_sub_2 _ _));obtain⟨o,_,_,_,_,g,_⟩:=M;exact%[o|g]
theorem Eh(h:X.w=w):OpQ X (binaryOp .Sub) (zX w):=by subst h;exact⟨BJ⟩
end
theorem lv{X:Cx}(a:bC k X.A)(b:behindInMarks .NotIn o=false)(hi:QE X i ty)(c:QE X o d):QT X (.Compare i [.NotIn] [o] pos) (tB (pB ty d)):=
 ⟨xS (wa (by have:=a.units;lia) hi.h c.h) b⟩
open PySem PySem.Spec PyProof.Rows PySem.SeqAt
section
variable{X:Cx}
end
section
variable{X:Cx}{K:ZA}{pos:Pos}
theorem ac(i:Nat)(h:(X.N[i]?,X.env.scope.names.lookup x,x==("__debug__":Str),x==("__classdict__":Str))=(some x,some .local,false,false)):QE X (.Name x pos) (mY i):=by
 simp only[Prod.mk.injEq]at h;exact vn i h.1 (.inl h.2.1) h.2.2.1 h.2.2.2
theorem cB(i:Nat)(h:(X.N[i]?,X.env.scope.names.lookup x,x==("__debug__":Str),x==("__classdict__":Str))=(some x,some .cell,false,false)):QE X (.Name x pos) (mY i):=by
 simp only[Prod.mk.injEq]at h;exact vn i h.1 (.inr (.inl h.2.1)) h.2.2.1 h.2.2.2
theorem ay(C:Cal X.prog X.w X.K X.mg X.base j x ps sp)(b:bC k X.A)(h:(X.env.kindOf x,Nat.ble j k,x==("__debug__":Str),(e::a).any aW)=(some .globalImplicit,true,false,false))(c:QA X (e::a) t):QE X (.Call (.Name x p) (e::a) [] pos) (nR sp [] E0 t):=by
 simp only[Prod.mk.injEq]at h;exact calE C b h.1 h.2.1 h.2.2.1 h.2.2.2 c
theorem cbO{id:String}(b:cv X (.builtin id) r)(c:X.mg x=none)(d:bootBuiltins x=some (.builtin id))(h:(X.env.kindOf x,x==("__name__":Str),x==("__debug__":Str),(e::a).any aW)=(some .globalImplicit,false,false,false))(f:QA X (e::a) t):QE X (.Call (.Name x p) (e::a) [] pos) (tCB r t):=by
 simp only[Prod.mk.injEq]at h;exact cbE b h.1 c d h.2.1 h.2.2.1 h.2.2.2 f
theorem ctO(b:cv X (.type T) r)(c:X.mg x=none)(d:bootBuiltins x=some (.type T))(h:(X.env.kindOf x,x==("__name__":Str),x==("__debug__":Str),(e::a).any aW)=(some .globalImplicit,false,false,false))(f:QA X (e::a) t):QE X (.Call (.Name x p) (e::a) [] pos) (tCB r t):=by
 simp only[Prod.mk.injEq]at h;exact ctE b h.1 c d h.2.1 h.2.2.1 h.2.2.2 f
theorem bmO{T id:String}(f:PlainAttrs T)(slot:Slot T name id)(c:typeOf (.builtin id)=pure (.type "method_descriptor"))(g:MtQ X id r)
 (h:(fW o,(e::d).any aW,Nat.blt (e::d).length 30,a.endLine==b.line)=(false,false,true,true)) (i:QE X o j) (l:QA X (e::d) t):QE X (.Call (.Attribute o name a) (e::d) [] b) (tBM X.K T r j t):=by
 simp only[Prod.mk.injEq]at h;exact bmE rfl f slot c g h.1 h.2.1 h.2.2.1 h.2.2.2 i l
theorem aI(i:Nat)(b:X.N.Nodup)(h:(X.N[i]?,X.env.scope.names.lookup x,eU e)=(some x,some .local,false))(c:QE X e d):QS X (.Assign [.Name x a] e pos) (mZ d (iP i)):=by
 simp only[Prod.mk.injEq]at h;exact wo i b h.1 (.inl h.2.1) (.inr h.2.1) h.2.2 c
theorem aM(i:Nat)(a:X.N.Nodup)(h:(X.N[i]?,X.env.scope.names.lookup x)=(some x,some .local)):QG X (.Name x pos) (iP i):=by
 simp only[Prod.mk.injEq]at h;exact qU i a h.1 (.inl h.2) (.inr h.2)
end
section
#where
variable{K:ZA}{x C:Addr}{name:Str}{v:Value}{ox:Obj}
end
section
variable{X:Cx}{o value:Expr}{nm:Str}{ta tv:TE}{C:Addr}{pos pos':Pos}
end
section
variable{P:Program}{w:World}{K:ZA}{mg:ZC}{base:Heap}{x qual:Str}{st:Stmt}{N ps:ZB}{k:Nat}{sp:Sp}
end
theorem qb(r:aC xs us)(h:j<us.toArray.size):∃x,xs[j]? =some x/\aK x us.toArray[j]:=by
 have l:=h;have a:j<xs.length:=r.length▸l;obtain⟨u,b,c⟩:=r.get (i:=j) (x:=xs[j]) ∅
 simp_all
section
#version
end
section
variable{X:Cx}
abbrev Fn:R2:=λx y H Q=>∃a b xs,x= .ref a/\y= .ref b/\H a=some (.lst xs)/\H b=some (.lst [])/\Q (.bl (decide (xs=[]))) H
theorem Ei(p:X.A.units+64<cLine):OpR X (compareOp .Eq) Fn:=by
 intro pins s r H x y v u Q I d f h;obtain⟨a,b,xs,rfl,rfl,m,n,q⟩:=h;cases d;cases f;obtain⟨us,d,i,_⟩:=I.list (SqL.of m);obtain⟨vs,f,l,_⟩:=I.list (SqL.of n);obtain rfl:vs=[]:=length_eq_zero_iff.mp f.length.symm;by_cases g:xs=[]
 .subst g;obtain rfl:us=[]:=length_eq_zero_iff.mp d.length.symm;have c:=RcAt.lists (A:=X.A) (e:=λ_=>true) i.isList l.isList rfl ⋯ λj o t=>absurd o (Ys _)
  exact c _ _ _ _ %[.bl _,H,I,rfl|q]
 .rw[Zg g]at q;have c:=RcAt.lists_lengths (A:=X.A) i.isList l.isList (by
   have:us.length≠0:=d.length▸λq=>g (length_eq_zero_iff.mp q)
   simpa using this) ⋯
  exact c _ _ _ _ %[.bl _,H,I,rfl|q]
theorem Cp(a:bC k X.A):OpQ X (compareOp .Eq) Fn:=⟨Ei a.units⟩
end
def Fo(d:TE):TE:=λe H Q=>d e H λv b=>∃a ss,v= .ref a/\b a=some (.lst (ss.map λp=>V.ref p.1))/\aL b ss/\ss.length<=100/\(∀p∈ss,p.2.length<=3/\∀z∈p.2,z.length<=30/\∀c∈z.cps.toList,c<16^8)/\∀z,z.length<=100000->Q (.str z) b
theorem mw:∀{zs:ZB} {its:ZF},aC (zs.map V.str) its->ReadsAll h its (zs.map PyData.str) []
 |[],_,.nil=> .nil
 | z::zs,_,.cons r v=>by
   obtain⟨t,rfl⟩:=r;exact .cons (.str _ _) (mw v)
noncomputable def rY(p:Addr×ZB):PyData:= .tuple (p.2.map PyData.str)
theorem my{X:Cx}(I:Inv X pins h H s):∀{ss:ZG} {its:ZF},aL H ss->aC (ss.map λp=>V.ref p.1) its->∃a,ReadsAll s.heap its (ss.map rY) a
 |[],_,_,.nil=>%[_|.nil]
 | p::ss,_,t,.cons r v=>by
   cases r;obtain⟨us,b,⟨⟨cls,i,data,j⟩,c,d,n,e⟩,_⟩:=I.tuple (SqT.of (t p (Zl ..)).2);obtain⟨bs,f⟩:=my I (λq g=>t q (Zj _ g)) v;exact%[_|.cons (.tuple c d e (mw b)) f]
theorem uw(zs:ZB):PyData.showableAll (zs.map PyData.str)=true/\PyData.hasDictAll (zs.map PyData.str)=false/\PyData.depthAll (zs.map PyData.str)=0:=by
 induction zs with
 | nil=>exact%[rfl,rfl|rfl]
 | cons z zs a=>simp only[Yi,PyData.showableAll,PyData.hasDictAll,PyData.depthAll,a.1,a.2.1,a.2.2];exact%[rfl,rfl|rfl]
theorem ux{zs:ZB}(h:∀z∈zs,z.length<=30/\∀c∈z.cps.toList,c<16^8):PyData.leavesShortAll 8 (zs.map PyData.str)=true/\PyData.weightAll (zs.map PyData.str)<=31*zs.length:=by
 induction zs with
 | nil=>exact%[rfl|Zh _]
 | cons z zs d=>
   obtain⟨a,b⟩:=d λy e=>h y (Zj _ e)
   obtain⟨l,c⟩:=h z (Zl ..);simp only[Yi,PyData.leavesShortAll,PyData.weightAll,PyData.weight,a,Zq,Bool.and_true];have:z.length=z.cps.size:=rfl;exact%[all_eq_true.mpr λx f=>Ze (c x f)|⋯]
theorem uy{ss:List _}(h:∀p∈ss,p.2.length<=3/\∀z∈p.2,z.length<=30/\∀c∈z.cps.toList,c<16^8):PyData.showableAll (ss.map rY)=true/\PyData.hasDictAll (ss.map rY)=false/\PyData.depthAll (ss.map rY)<=1/\PyData.leavesShortAll 8 (ss.map rY)=true/\PyData.weightAll (ss.map rY)<=94*ss.length:=by
 induction ss with
 | nil=>exact%[rfl,rfl,Yy _,rfl|Zh _]
 | cons p ss f=>
   obtain⟨a,b,c,d,e⟩:=f λy g=>h y (Zj _ g)
   obtain⟨l,z⟩:=h p (Zl ..);obtain⟨i,j,m⟩:=uw p.2;obtain⟨g1,g2⟩:=ux z;simp only[Yi,rY,PyData.showableAll,PyData.showable,PyData.hasDictAll,PyData.hasDict,PyData.depthAll,PyData.depth,PyData.leavesShortAll,PyData.leavesShort,PyData.weightAll,PyData.weight,i,j,m,g1,Zq];exact%[a,b,⋯,d|⋯]
theorem Fp{X:Cx}(f:X.A.guards=some [])(M:X.A.units+64<cLine)(g:QE X e i):QE X (.FormattedValue e 114 none pos) (Fo i):=by
 refine⟨λpins s j H Q I h=>wpAny_FormattedValue_repr (thn (g.h pins s j H _ I h) λu N ⟨v,l,b,r,a,ss,m,o,p,O,w,q⟩=>?_)⟩;subst m;cases r;obtain⟨us,y,pl,_⟩:=b.list (SqL.of o);obtain⟨⟨cls,T,data,U⟩,z,A,n,B⟩:=pl.isList;obtain⟨Y,C⟩:=my b p y;obtain⟨E,G,f3,J,f5⟩:=uy w;have len:=PyData.shown_le 8 ∅ (.list _) (by simpa only[PyData.leavesShort]using J);simp only[PyData.weight]at len;have c:(PyData.shown (.list (ss.map rY))).length<=100000:=by lia
 have d:(PyData.shown _).length<=sizeLine:=Y8 c (by decide);exact pyReprObj_of_reads (.list z A B C) (by simpa only[PyData.showable]using E) (λx=>by simp only[PyData.hasDict,G]at x;cases x) f (by simp only[PyData.depth];lia) (λ_ _ x=>x) (λh' t tk k=>formatField_str (λt' L=>%[.str _,l,(b.kept k).tok _,%[_|rfl]|q _ c]) d) d
section
#version
theorem zY{k:ZB}{x:V}{j:Nat}(h:(k.map V.str)[j]? =some x):∃z,k[j]? =some z/\x= .str z:=by
 rw[Zk]at h;obtain⟨z,e,rfl⟩:=map_eq_some_iff.mp h;exact%[z,e|rfl]
theorem rZ{k l:ZB}(h:k.map V.str=l.map V.str):k=l:=(List.map_inj_right λ_ _=>V.str.inj).mp h
theorem zZ(I:Inv X pins σ H s){A:Around}{a b:Addr}{k l:ZB}(g:H a=some (.tup (k.map V.str)))(f:H b=some (.tup (l.map V.str)))(q:A.units<cLine):EqAt A s (.ref a) (.ref b) (decide (k=l)):=by
 by_cases e:a=b
 .subst e;rw[g]at f;rw[Ze (rZ (HO.tup.inj (Z9 f)))];exact EqAt.same _
 .obtain⟨us,m,r,_⟩:=I.tuple (SqT.of g);obtain⟨vs,n,t,_⟩:=I.tuple (SqT.of f);have d:=RcAt.tuples r t q λj o p=>by
   obtain⟨x,ex,v⟩:=qb m o;obtain⟨y,w,B⟩:=qb n p;obtain⟨z,C,rfl⟩:=zY ex;obtain⟨u,E,rfl⟩:=zY w;have:=yC (A:=A.in1) (s:=s) v B rfl rfl;rw[show eqV _ _=decide (k[j]? =l[j]?) by rw[C,E];by_cases c:z=u<;> simp[eqV,c]]at this;exact this
  rw[show((List.range _).all _&&us.toArray.size==vs.toArray.size)=decide (k=l) by
   rw[Zo,Zo,<-m.length,<-n.length,Bool.eq_iff_iff,Zu,all_eq_true,decide_eq_true_iff];refine%[λ⟨o,p⟩=>ext_getElem? λi=>?_|λh=>by lia]
   grind]at d
  exact EqAt.of_refs e d
end
section
variable{X:Cx}
abbrev vE:R2:=λx y H Q=>∃(a p:Addr) (k:ZB) (ws:ZG),x= .ref a/\y= .ref p/\H a=some (.tup (k.map V.str))/\H p=some (.lst (ws.map λt=>V.ref t.1))/\(∀t∈ws,H t.1=some (.tup (t.2.map V.str)))/\k∈ws.map (·.2)/\Q (.bl false) H
open Classical in
theorem wZ(f:X.A.units+64<cLine):OpR X (compareOp .NotIn) vE:=by
 intro pins s C H x y v u Q I g i h;obtain⟨a,p,k,ws,rfl,rfl,l,m,hw,n,q⟩:=h;cases g;cases i;obtain⟨us,r,pl,_⟩:=I.list (SqL.of m);have of:∀y∈us,∃t∈ws,y= .ref t.1:=λy c=>by
  obtain⟨j,d,rfl⟩:=getElem_of_mem c;obtain⟨x,ex,rr⟩:=qb r (d);rw[Zk]at ex;obtain⟨t,b,rfl⟩:=map_eq_some_iff.mp ex;exact%[t,Z7 b|(rr)]
 refine notIn_listAt (λv=>decide (∃t∈ws,v= .ref t.1/\t.2=k)) pl.isList (λy c=>?_) %[.bl false,H,I,?_|q]
 .obtain⟨t,b,rfl⟩:=of y (by simpa using c);have:=zZ I (A:=X.A.in1) (hw t b) l ⋯;rw[show decide _=decide (t.2=k)from ?_]
  .exact this
  .rw[Bool.eq_iff_iff,decide_eq_true_iff,decide_eq_true_iff];refine%[λ⟨t',o,w,z⟩=>?_|λh=>%[t,b,rfl|h]];have e:=hw t' o;rw[<-Value.ref.inj w,hw t b]at e;rw[<-z,rZ (HO.tup.inj (Z9 e))]
 .obtain⟨t,b,e⟩:=X6 n;obtain⟨j,d⟩:=Yz b;obtain⟨u,f,B⟩:=r.get (by rw[Zk,d];rfl);cases B;rw[show us.toArray.any _=true from ?_]
  .rfl
  .rw[List.any_toArray,any_eq_true];exact%[_,Z7 f|Ze %[t,b,rfl|e]]
theorem z0(a:bC k X.A):OpQ X (compareOp .NotIn) vE:=⟨wZ a.units⟩
abbrev Fq:R2:=λx y H Q=>∃a b xs ys,x= .ref a/\y= .ref b/\H a=some (.lst xs)/\H b=some (.lst ys)/\(a=b\/xs.length≠ys.length)/\Q (.bl (decide (a≠b))) H
theorem Ej(n:X.A.units+64<cLine):OpR X (compareOp .NotEq) Fq:=by
 intro pins s o H x y v u Q I d f h;obtain⟨a,b,xs,ys,rfl,rfl,i,l,h,q⟩:=h;cases d;cases f;obtain⟨us,d,g,_⟩:=I.list (SqL.of i);obtain⟨vs,f,m,_⟩:=I.list (SqL.of l);by_cases e:a=b
 .subst e;rw[Zg ∅]at q;have c:=RcNeAt.lists (A:=X.A) (s:=s) (e:=λ_=>true) g.isList g.isList rfl ⋯ λj p r=>EqAt.same _
  rw[show(List.range us.toArray.size).all (λ_=>true)=true by simp]at c;exact c _ _ _ _ %[.bl _,H,I,rfl|q]
 .rw[Ze e]at q;have c:=RcNeAt.lists_lengths (A:=X.A) (s:=s) g.isList m.isList (by
   have:=h.resolve_left e;rw[d.length,f.length]at this;simpa using this) ⋯
  exact c _ _ _ _ %[.bl _,H,I,rfl|q]
theorem Fr(a:bC k X.A):OpQ X (compareOp .NotEq) Fq:=⟨Ej a.units⟩
theorem oM:∀{a:ZK} {us:ZF},aC (a.map V.int) us->∃ps:List (Int×Tok),ps.map (·.1)=a/\us=ps.map λp=>Value.int p.1 p.2
 |[],_,.nil=>%[[],rfl|rfl]
 | n::a,_,.cons r v=>by
   obtain⟨t,rfl⟩:=r;obtain⟨ps,rfl,rfl⟩:=oM v;exact%[(n,t)::ps,rfl|rfl]
theorem w4(l:X.calm=true):bK X (.builtin "min") (λxs H Q=>∃(p:Addr) (a:ZK),xs=[.ref p]/\SqL X.K H p (a.map V.int)/\0<a.length/\∀m∈a,(∀y∈a,m<=y)->Q (.int m) H):=by
 intro pins s C H xs us Q I r h;obtain⟨p,a,rfl,c,d,q⟩:=h;obtain⟨u,rfl,n⟩:=cR r;cases n;obtain⟨its,o,t,E⟩:=I.list c;obtain⟨ps,rfl,rfl⟩:=oM o;rw[Z5]at d;obtain⟨w,e⟩:=argBest_lt _ (ps.length-1);refine min_intList (I.ok.hd l) ((show intItems ps.toArray=(ps.map λp=>Value.int p.1 p.2).toArray by simp[intItems])▸t.isList) d λv h' tk f k=>?_
 generalize argBest _ _=b at w e f
 have z:∀i h,numAt ps.toArray i=ps[i].1:=λi h=>by simp[numAt,h]
 have g:b<ps.length:=by lia
 have A:v= .int ps[b].1 ps[b].2:=by simpa [intItems,g,eq_comm]using f
 refine%[.int _,H,I.kept k,%[_|A]|q _ (X7 %[_,Y5 g|rfl]) λy B=>?_];obtain⟨p,c,rfl⟩:=X6 B;obtain⟨j,G,rfl⟩:=getElem_of_mem c;have:=e j ⋯
 simp_all
theorem Ek{K:ZA}(h:X.K=K)(b:X.calm=true):cv X (.builtin "min") (λxs H Q=>∃(p:Addr) (a:ZK),xs=[.ref p]/\SqL K H p (a.map V.int)/\0<a.length/\∀m∈a,(∀y∈a,m<=y)->Q (.int m) H):=by subst h;exact⟨w4 b⟩
end
noncomputable abbrev Cx.tryV(X:Cx)(pn:ZE)(E:St->XK):Cx:={X with pn:=pn,xe:=λe s'=>∃pins a H s,Inv ({X with pn:=pn}) pins a H s/\CXO X.prog X.w X.stack H s (E a) e s'}
def Cq(CX:CXT)(X:Cx)(E:St->XK):Prop:=∀pins (a:St) H s e s',Inv X pins a H s->CX X.stack H s (E a) e s'->X.xe e s'
theorem w6{X:Cx}:Cq (CXO X.prog X.w) (X.tryV pn E) E:=by
 rintro pins a H s e s' I ⟨b,B,cls,c,d,rfl,F,q⟩;exact%[pins,a,H,s,%[Fe I.ok _ _,I.os,I.bare,I.base,I.loc,I.cell,I.free,I.freeC,I.pin,I.hok|I.len],b,B,cls,c,d,rfl,F|q]
def Cr(K:ZA)(D:Addr)(E:St->XK)(len i:Nat)(e ts:TS):TS:=λDn f H=>e Dn f H/\∀b cls d c,E b cls d c->∃C,cls= .ref C/\subIn K (.ref C) (.ref D)=some true/\
 ∀a,b.length=len->c a=none->ts (Dn.gone i) (b.set i (some (.ref a))) (upd c a (ExH a C d))
theorem BK{X:Cx}{D:Addr}(l:X.stack=X.env::X.outer)(hf:X.env.frame=some X.env.locals)(hN:X.N.Nodup)(hi:X.N[i]? =some n)
 (hk:X.env.kindOf n=some .local) (hl:X.env.scope.names.lookup n=some .local) (hg:Gl X x) (hm:X.mg x=some (.ref D)) (c:Cat X.K D) (m:∀pn,PSs (X.tryV pn E) G tb) (h:∀a,PSs (X.suiteX a) (L::o) ts)
 (ab:(x==("__debug__":Str))=false):
 PS X (.Try G [.ExceptHandler (some (.Name x p)) (some n) (L::o) M] [] [] pos) (Cr X.K D E X.N.length i tb ts):=by
 intro pins s σ H Dn I %[h1|h2];refine wpAny_Try_except (wpAny_mono (m _ [] s σ H Dn (I.toPn _) h1) (λf s1 q=>?_) λe s1 q=>?_)
 .have q':=SP.ofPn q;cases f with
  | next=>exact wpAny_execs_nil q'
  | brk=>exact q'
  | cont=>exact q'
  | ret u=>exact q'
 .obtain⟨ag,ai,H1,s2,I1,y,B,cls,dx,H',rfl,F,qE⟩:=q;obtain⟨C,rfl,N,al⟩:=h2 ai cls dx H' qE;refine vq (.inr rfl) (l▸I.ok.frames) hf (l▸F).up λha ua O=>pK ua λhb ub T=>?_
  obtain⟨un,an⟩:=F.fly ub.1 (O.trans T);have J:=(I1.call' (s':=(s1>>>hb)) F.os un an F.bare λb z=>absurd z ∅).ofPn;obtain⟨_,_,_,oe,vs,eb,as,a5,a6,_⟩:=id ub;refine wpAny_handleBy_cons (codeAny_handlers_test (eT (J.toSuite y) hg hm (zh J.kIn c.ty c.ex c.cd eb as N (codeAny_handlers_suite_as (pK ub λhc uc a0=>?_))) ab)) (by intro q;cases q);obtain⟨a1,U⟩:=F.fly uc.1 ((O.trans T).trans a0);obtain⟨_,_,_,oc,vc,ec,a2,a3,a4,_⟩:=id uc;have Y:=I1.ofPn;refine jm (v:= .ref y) (Y.stood3 (λ_ z=>z) ((I1.call' (s':=(s1>>>hc)) F.os a1 U F.bare λb z=>absurd z ∅).ofPn) F.free F.new (ExH.ok ec a2 a3 a4)) hN hi (.inl hl) rfl (λs4 J4=>wpAny_mono (h y pins s4 _ _ _ (J4.toSuite y) (al y Y.len F.free)) (λf s5 q5=>?_) λ_ _ z=>z.elim) (.inr hl);have d:∀{g:St} {A:Hp} {Q:Unit->Shared->Prop},Inv (X.suiteX y) pins g A s5->(∀s',Inv X pins _ A s'->Q () s')->
   (~~~X) (do bindName X.env n _;unbindBehindTheSuite X.env n M) Q X.xe s5:=λj h5=>Bo (j.ofSuite I.ok) hN hi hk h5
  cases f with
  | next=>
    obtain⟨g,A,j,t⟩:=q5;exact d j λs' w=>%[_,_,w|t]
  | brk=>
    obtain⟨g,A,j,t⟩:=q5;exact d j λs' w=>%[_,_,w|t]
  | cont=>
    obtain⟨g,A,j,t⟩:=q5;exact d j λs' w=>%[_,_,w|t]
  | ret u=>
    obtain⟨v,g,A,j,r,t⟩:=q5;exact d j λs' w=>%[v,_,_,w,r|t]
theorem tryV{X:Cx}{D:Addr}(E:St->XK)(f:X.stack=X.env::X.outer)(m:X.env.frame=some X.env.locals)(o:X.N.Nodup)(hi:X.N[i]? =some n)
 (q:X.env.kindOf n=some .local) (r:X.env.scope.names.lookup n=some .local) (s:Gl X x) (t:X.mg x=some (.ref D)) (c:Cat X.K D) (j:(x==("__debug__":Str))=false) (d:∀pn,QSs (X.tryV pn E) g u) (b:∀a,QSs (X.suiteX a) (h::e) ts):
 QS X (.Try g [.ExceptHandler (some (.Name x p)) (some n) (h::e) l] [] [] pos) (Cr X.K D E X.N.length i u ts):=
 ⟨BK f m o hi q r s t c (λpn=>(d pn).h) (λa=>(b a).h) j⟩
def z3(sp:Sp)(E:St->XK)(t:TA):TE:=λa H Q=>t a H λvs b=>sp vs b Q (E a)
theorem Fs{X:Cx}(w:Cq (CXO X.prog X.w) X E)(C:rA X.prog X.w X.K X.mg X.base j x ps sp)(y:bC k X.A)(z:Gl X x)(c:Nat.ble j k=true)
 (d:(x==("__debug__":Str))=false) (g:(e::n).any aW=false) (A:QA X (e::n) t):QE X (.Call (.Name x p) (e::n) [] pos) (z3 sp E t):=by
 rw[Zv,Yu]at g;obtain⟨f,M,F,B,G,J⟩:=C.ex;refine⟨λpins s i H Q I h=>wpAny_Call_Name_kw (eT I z B (callWith_K I.ok.mod.kin G (thn (A.h pos pins s i H _ I h) λus l ⟨vs,m,a,r,q⟩=>%[a.kIn|?_]) (av g.1) (cU g.2)) d)⟩;have o:=r.append .nil;have v:sp (vs++[]) m Q (E i):=by rw[Zw];exact q
 refine wpAny_call (codeAny_mono (F.run X.A X.stack l m _ _ _ Q _ (y.mono (Y6 c)) a.env0 (J l us a.kIn (o.length▸F.len _ _ _ _ v)) o v) λr s' b=>?_);cases r with
 | error e=>exact w pins i m l e s' a b
 | ok L=>
   cases L with
   | ret u=>exact a.after b
   | next=>exact False.elim b
   | brk=>exact False.elim b
   | cont=>exact False.elim b
end L2
namespace Cut
open PySem L2
inductive dg (S:Str->Str->Prop):Str->Str->Prop
 | refl (x:Str):dg S x x
 | step {x y z:Str}:dg S x y->(S y z\/S z y)->dg S x z
theorem dg.trans{S:Str->Str->Prop}(h:dg S x y)(g:dg S y z):dg S x z:=by
 induction g with
 | refl=>exact h
 | step _ s a=>exact .step a s
theorem dg.one{S:Str->Str->Prop}(h:S x y\/S y x):dg S x y:= .step (.refl x) h
theorem dg.symm{S:Str->Str->Prop}(h:dg S x y):dg S y x:=by
 induction h with
 | refl=>exact .refl _
 | step _ s a=>exact(dg.one s.symm).trans a
theorem dg.mono{S R:Str->Str->Prop}(m:∀a b,S a b->R a b)(h:dg S x y):dg R x y:=by
 induction h with
 | refl=>exact .refl _
 | step _ s c=>exact .step c (s.imp (m _ _) (m _ _))
theorem dg.within{S:Str->Str->Prop}{p:Str->Prop}(w:∀a b,S a b->p a/\p b)(h:dg S x y)(c:p x):p y:=by
 induction h with
 | refl=>exact c
 | step _ s _=>
   rcases s with s|s
   .exact(w _ _ s).2
   .exact(w _ _ s).1
def bP(S:Str->Str->Prop)(z r:Str):Prop:=dg S z r/\∀y,dg S z y->ba y r=false
theorem bP.one{S:Str->Str->Prop}(h:bP S z r)(g:bP S z a):r=a:=by
 by_cases e:r=a
 .exact e
 .have:=fO (g.2 _ h.1) e;rw[h.2 _ g.1]at this;cases this
structure bz (ls:ZB) (f r:Str->Str) (S:Str->Str->Prop):Prop where
 ws:∀a b,S a b->a∈ls/\b∈ls
 fin:∀z∈ls,f z∈ls
 rin:∀z∈ls,r z∈ls
 rf:∀z∈ls,r (f z)=r z
 fr:∀z∈ls,f (r z)=r z
 fix:∀z∈ls,f z=z->r z=z
 dec:∀z∈ls,f z≠z->ba (f z) z=true
 le:∀z∈ls,ba z (r z)=false
 cl:∀x∈ls,∀y∈ls,r x=r y↔dg S x y
theorem bz.rr{S:Str->Str->Prop}(F:bz a f r S)(h:z∈a):r (r z)=r z:=F.fix _ (F.rin z h) (F.fr z h)
theorem bz.conn{S:Str->Str->Prop}(F:bz a f r S)(h:z∈a):dg S z (r z):=(F.cl z h _ (F.rin z h)).mp (F.rr h).symm
theorem bz.least{S:Str->Str->Prop}(F:bz b f r S){z:Str}(h:z∈b):bP S z (r z):=by
 refine%[F.conn h|λy c=>?_];have a:=c.within F.ws h;rw[(F.cl z h y a).mpr c];exact F.le y a
theorem bz.start(a:ZB):bz a id id (λ_ _=>False):=by
 refine%[λ_ _ h=>h.elim,λz h=>h,λz h=>h,λ_ _=>rfl,λ_ _=>rfl,λ_ _ _=>rfl,λz _ h=>(h rfl).elim,λz _=>eX z|λx b y d=>%[λe=>?_|λc=>?_]]
 .rw[show x=y from e];exact .refl _
 .induction c with
  | refl=>rfl
  | step _ s _=>simp_all
theorem bz.join{S:Str->Str->Prop}(F:bz j f r S){a b M m:Str}(q:a∈j)(t:b∈j)(A:M=if ba (r a) (r b)=true then r b else r a)(B:m=if ba (r b) (r a)=true then r b else r a):
 bz j (λx=>if x=M then m else f x) (λx=>if r x=M then m else r x) (λx y=>S x y\/(x=a/\y=b)):=by
 have g:(M=r a/\m=r b)\/(M=r b/\m=r a):=by
  rw[A,B];cases e:ba _ _ with
  | true=>
    have:ba (r b) (r a)=false:=by
     cases i:ba _ _ with
     | false=>rfl
     | true=>have:=fN e i;rw[eX]at this;cases this
    exact this▸ .inr %[rfl|rfl]
  | false=>
    cases i:ba _ _ with
    | true=>exact .inl %[rfl|rfl]
    | false=>
      have:r a=r b:=by
       by_cases h:r a=r b
       .exact h
       .have:=fO e h;rw[i]at this;cases this
      exact this▸ .inl %[rfl|rfl]
 have lt:m≠M->ba m M=true:=by
  rw[A,B];cases e:ba _ _ with
  | true=>
    cases i:ba _ _ with
    | true=>intro h;exact(h rfl).elim
    | false=>intro _;exact e
  | false=>
    cases i:ba _ _ with
    | true=>intro _;exact i
    | false=>intro h;exact(h rfl).elim
 have Q:=F.rin a q;have T:=F.rin b t;have C:m∈j:=by rcases g with⟨_,h⟩|⟨_,h⟩<;> rw[h]<;> assumption
 have E:r M=M:=by rcases g with⟨h,_⟩|⟨h,_⟩<;> rw[h]<;> apply F.rr<;> assumption
 have L:r m=m:=by rcases g with⟨_,h⟩|⟨_,h⟩<;> rw[h]<;> apply F.rr<;> assumption
 have N:dg (λx y=>S x y\/(x=a/\y=b)) M m:=by
  have G:dg (λx y=>S x y\/(x=a/\y=b)) _ _:=(((F.conn q).mono λ_ _=> .inl).symm.trans (.one (.inl (.inr %[rfl|rfl])))).trans ((F.conn t).mono λ_ _=> .inl);rcases g with⟨l,n⟩|⟨l,n⟩
  .rw[l,n];exact G
  .rw[l,n];exact G.symm
 have p:∀x∈j,dg _ x (if r x=M then m else r x):=λx w=>by
  have c:=(F.conn w).mono (R:=λx y=>S x y\/(x=a/\y=b)) λ_ _=> .inl
  by_cases e:r x=M
  .rw[if_pos e];rw[e]at c;exact c.trans N
  .rw[if_neg e];exact c
 have H:(if r a=M then m else r a)=(if r b=M then m else r b):=by
  rcases g with⟨l,n⟩|⟨l,n⟩
  .rw[if_pos l.symm];by_cases e:r b=M
   .rw[if_pos e]
   .rw[if_neg e];exact n
  .rw[if_pos l.symm];by_cases e:r a=M
   .rw[if_pos e]
   .rw[if_neg e];exact n.symm
 refine%[λx y h=>?_,λz d=>?_,λz d=>?_,λz d=>?_,λz d=>?_,λz d h=>?_,λz d h=>?_,λz d=>?_|λx w y I=>%[λe=>?_|λc=>?_]]
 .rcases h with h|⟨rfl,rfl⟩
  .exact F.ws x y h
  .exact%[q|t]
 .split
  .exact C
  .exact F.fin z d
 .split
  .exact C
  .exact F.rin z d
 .by_cases e:z=M
  .rw[if_pos e,e,E,if_pos rfl,L]
   split<;> rfl
  .rw[if_neg e,F.rf z d]
 .by_cases e:r z=M
  .rw[if_pos e]
   split
   .rfl
   .exact(by rcases g with⟨_,h⟩|⟨_,h⟩<;> rw[h]<;> apply F.fr<;> assumption)
  .rw[if_neg e,if_neg e];exact F.fr z d
 .by_cases e:z=M
  .rw[if_pos e]at h;rw[e,E,if_pos rfl,<-e];exact h
  .rw[if_neg e]at h;rw[F.fix z d h,if_neg e]
 .by_cases e:z=M
  .rw[if_pos e]at h ⊢;rw[e]at h ⊢;exact lt h
  .rw[if_neg e]at h ⊢;exact F.dec z d h
 .by_cases e:r z=M
  .rw[if_pos e];cases i:ba z m with
   | false=>rfl
   | true=>
     have o:=F.le z d;rw[e]at o;by_cases em:m=M
     .rw[em]at i;rw[o]at i;cases i
     .have:=fN i (lt em);rw[o]at this;cases this
  .rw[if_neg e];exact F.le z d
 .have c:=(p x w)
  rw[e]at c;exact c.trans (p y I).symm
 .have ws:∀x y,(S x y\/(x=a/\y=b))->x∈j/\y∈j:=λx y h=>by
   rcases h with h|⟨rfl,rfl⟩
   .exact F.ws x y h
   .exact%[q|t]
  clear I
  induction c with
  | refl=>rfl
  | step c s O=>
    rename_i u v
    have J:=c.within ws w;rw[O];rcases s with(s|⟨rfl,rfl⟩)|(s|⟨rfl,rfl⟩)
    .rw[(F.cl u J v (F.ws u v s).2).mpr (.one (.inl s))]
    .exact H
    .rw[(F.cl u J v (F.ws v u s).1).mpr (.one (.inr s))]
    .exact H.symm
theorem bz.short{S:Str->Str->Prop}(F:bz d f r S)(b:z∈d):bz d (λx=>if x=z then f (f z)else f x) r S:=by
 have g:f z≠z->ba (f _) z=true:=λh=>by
  have i:=F.dec z b h;by_cases e:f (f z)=f z
  .exact e▸i
  .exact fN (F.dec _ (F.fin z b) e) i
 refine%[F.ws,λx a=>?_,F.rin,λx a=>?_,λx a=>?_,λx a h=>?_,λx a h=>?_,F.le|F.cl]
 .split
  .exact F.fin _ (F.fin z b)
  .exact F.fin x a
 .by_cases e:x=z
  .rw[if_pos e,F.rf _ (F.fin z b),F.rf z b,e]
  .rw[if_neg e];exact F.rf x a
 .by_cases e:r x=z
  .rw[if_pos e];have:=F.fr x a
   simp_all
  .rw[if_neg e];exact F.fr x a
 .by_cases e:x=z
  .rw[if_pos e]at h;rw[e]at h ⊢;by_cases c:f z=z
   .exact F.fix z b c
   .have:=g c;rw[h,eX]at this;cases this
  .rw[if_neg e]at h;exact F.fix x a h
 .by_cases e:x=z
  .rw[if_pos e]at h ⊢;rw[e]at h ⊢;refine g λc=>h ?_
   rw[c,c]
  .rw[if_neg e]at h ⊢;exact F.dec x a h
theorem bz.done{S:Str->Str->Prop}(F:bz b f r S)(a:z∈b)(h:∀w∈b,ba w z=true->f w=r w):f (f z)=r z:=by
 by_cases e:f z=z
 .rw[e,e];exact(F.fix z a e).symm
 .rw[h _ (F.fin z a) (F.dec z a e),F.rf z a]
end Cut
namespace Cut
open PySem L2
def Ed(ks:List ZB)(a b:Str):Prop:=∃z,[a,b,z]∈ks
inductive Rch (ks:List ZB):Str->Str->Prop
 | one {a b:Str}:Ed ks a b->Rch ks a b
 | more {a b c:Str}:Rch ks a b->Ed ks b c->Rch ks a c
theorem Rch.closed{R:Str->Prop}(a:∀y,Ed ks s y->R y)(h:∀x y,R x->Ed ks x y->R y)(r:Rch ks s y):R y:=by
 induction r with
 | one e=>exact a _ e
 | more _ e b=>exact h _ _ b e
theorem oN{ks:List _}{laid:ZB}(h:∀i x,laid[i]? =some x->∀y,Ed ks x y->y∈laid.take i){i:Nat}{x y:Str}(hi:laid[i]? =some x)(r:Rch ks x y):∃j,j<i/\laid[j]? =some y:=by
 have b:∀i y,y∈laid.take i->∃j,j<i/\laid[j]? =some y:=λi y d=>by
  obtain⟨j,c⟩:=Yz d;have f:=(X3 c).1;rw[Yd]at f;exact%[j,⋯|by rwa[List.getElem?_take_of_lt ⋯]at c]
 refine r.closed (λy e=>b i y (h i x hi y e)) λa y ⟨j,m,c⟩ e=>?_
 obtain⟨g,n,l⟩:=b j y (h j a c y e);exact%[g,⋯|l]
theorem BL{laid:ZB}(h:∀(i:Nat) x,laid[i]? =some x->∀y,Ed ks x y->y∈laid.take i){x:Str}(a:x∈laid): ¬ Rch ks x x:=by
 intro r;obtain⟨i,hi⟩:=Yz a;have:∀n i:Nat,i<=n->laid[i]? ≠some x:=λn=>by
  induction n with
  | zero=>
    intro i hi e;obtain⟨j,b,_⟩:=oN h e r
    lia
  | succ n c=>
    intro i hi e;obtain⟨j,b,d⟩:=oN h e r;exact c j ⋯ d
 exact this i i (Zh _) hi
noncomputable def Wal:List ZB->Str->Str->Prop
 |[],a,b=>a=b
 | k::r,a,b=>∃c z,k=[a,c,z]/\Wal r c b
theorem Wal.app:∀{us vs:List ZB} {a:Str},Wal us a b->Wal vs b c->Wal (us++vs) a c
 |[],_,_,h,g=>h▸g
 | _::_,_,_,⟨d,z,e,h⟩,g=>%[d,z,e|h.app g]
def Dst(ks:List ZB)(s:Str)(n:Nat)(x:Str):Prop:=∃us:List _,us.length=n/\(∀k∈us,k∈ks)/\Wal us s x
theorem Dst.nil:Dst ks s 0 s:=%[[],rfl,λ_ h=>(nomatch h)|rfl]
theorem Dst.app(h:Dst ks s n x)(g:Dst ks x m y):Dst ks s (n+m) y:=by
 obtain⟨us,d,a,b⟩:=h;obtain⟨vs,g1,g2,g3⟩:=g;exact%[us++vs,by simp_all,λk c=>(X4 c).elim (a k) (g2 k)|b.app g3]
theorem Ed.dst(e:Ed ks s x):Dst ks s 1 x:=by
 obtain⟨z,e⟩:=e;exact%[[[s,x,z]],rfl,λk a=>(X5 a)▸e,x,z,rfl|rfl]
theorem Dst.last:∀{n:Nat} {s:Str},Dst ks s (n+1) x->∃y,Dst ks s n y/\Ed ks y x
 | n,s,⟨[],a,_,_⟩=>(nomatch a)
 | 0,s,⟨[k],_,b,c,z,e,h⟩=>%[s,.nil,z|by rw[<-h,<-e];exact b k Zl]
 | 0,s,⟨_::_::_,a,_,_⟩=>absurd a ∅
 | n+1,s,⟨k::r,a,b,c,z,e,h⟩=>by
   obtain⟨y,d,f⟩:=Dst.last %[r,by simpa using a,λk g=>b k (Zj _ g)|h];have:Ed ks s c:=%[z|e▸b k Zl]
   exact%[y,Nat.add_comm 1 n▸this.dst.app d|f]
theorem Rch.dst(h:Rch ks a b):∃n,Dst ks a (n+1) b:=by
 induction h with
 | one e=>exact%[0|e.dst]
 | more _ e c=>
   obtain⟨n,h⟩:=c;exact%[n+1|h.app e.dst]
theorem Dst.rch:∀{n:Nat} {b:Str},Dst ks a (n+1) b->Rch ks a b
 | 0,b,h=>by
   obtain⟨y,⟨us,d,_,c⟩,e⟩:=h.last;rw[length_eq_zero_iff.mp d]at c;rw[c];exact .one e
 | n+1,b,h=>by
   obtain⟨y,h,e⟩:=h.last;exact .more h.rch e
structure Lev (ks:List ZB) (st:Str) (rs:List (Str×Addr×ZB)) (d:Str->Nat) (k:Nat) (F:ZB):Prop where
 nd:(rs.map (·.1)).Nodup
 by_:∀r∈rs,r.2.2∈ks/\∃p z,r.2.2=[p,r.1,z]/\((p=st/\d r.1=1)\/(p≠st/\p∈rs.map (·.1)/\d r.1=d p+1))
 le:∀x∈rs.map (·.1),d x<=k
 edge:∀x,x∈F↔(k=0/\x=st)\/(1<=k/\x∈rs.map (·.1)/\d x=k)
 all:∀n x,1<=n->n<=k->Dst ks st n x->x∈rs.map (·.1)/\d x<=n
section
variable{ks:List ZB}{st:Str}{rs:List (Str×Addr×ZB)}{d:Str->Nat}{k:Nat}{F:ZB}
theorem Lev.nil:Lev ks st [] (λ_=>0) 0 [st]:=
 %[Yr,λ_ h=>(nomatch h),λ_ h=>(nomatch h),λx=>by simp|λn x a b=>by lia]
theorem Lev.dst(h:Lev ks st rs d k F)(a:x∈rs.map (·.1)):1<=d x/\Dst ks st (d x) x:=by
 have:∀m x,x∈rs.map (·.1)->d x<=m->1<=d x/\Dst ks st (d x) x:=λm=>by
  induction m with
  | zero=>
    intro x a l;obtain⟨r,b,rfl⟩:=X6 a;obtain⟨_,p,z,_,⟨_,e⟩|⟨_,_,e⟩⟩:=h.by_ r b<;> lia
  | succ m g=>
    intro x a l;obtain⟨r,b,rfl⟩:=X6 a;obtain⟨c,p,z,i,q⟩:=h.by_ r b;rw[i]at c;have f:Ed ks p r.1:=%[z|c]
    rcases q with⟨rfl,e⟩|⟨_,j,e⟩
    .rw[e];exact%[Zh _|f.dst]
    .exact e▸%[⋯|(g p j ⋯).2.app f.dst]
 exact this _ x a (Zh _)
theorem Lev.min(h:Lev ks st rs d k F)(a:x∈rs.map (·.1))(g:Dst ks st (n+1) x):d x<=n+1:=by
 by_cases c:n+1<=k
 .exact(h.all _ x ⋯ c g).2
 .have:=h.le x a
  lia
theorem Lev.stop(h:Lev ks st rs d k []):∀{n:Nat},Dst ks st (n+1) x->x∈rs.map (·.1):=by
 have a:=Nat.pos_of_ne_zero λc=>(nomatch (h.edge st).mpr (.inl %[c|rfl]))
 have:∀n x,Dst ks st (n+1) x->x∈rs.map _:=λn=>by
  induction n with
  | zero=>exact λx g=>(h.all 1 x (Zh _) a g).1
  | succ n b=>
    intro x g;obtain⟨y,f,e⟩:=g.last;have q:=b y f;have l:=h.le y q;have ne:d y≠k:=λc=>(nomatch (h.edge y).mpr (.inr %[a,q|c]))
    exact(h.all _ x ⋯ ⋯ ((h.dst q).2.app e.dst)).1
 exact λ{n}=>this n x
theorem Lev.step(h:Lev ks st rs d k F)(nd:((rs++new).map (·.1)).Nodup)(E:∀r∈new,r.2.2∈ks/\∃p z,p∈F/\r.2.2=[p,r.1,z])
 (u:∀x∈F,∀y,Ed ks x y->y∈(rs++new).map (·.1)):Lev ks st (rs++new) (λx=>if x∈new.map (·.1)then k+1 else d x) (k+1) (new.map (·.1)):=by
 have o:=nd;rw[Zc,Yp]at o;have f:∀{x},x∈rs.map (·.1)->x∉new.map (·.1):=λ{x} a b=>o.2.2 x a x b rfl
 have mem:∀{x},x∈(rs++new).map (·.1)↔x∈rs.map (·.1)\/x∈new.map (·.1):=λ{x}=>by rw[Zc,Yk]
 have v:∀x∈(rs++new).map (·.1),(if x∈new.map (·.1)then k+1 else d x)<=k+1:=λx l=>by
  by_cases c:x∈new.map (·.1)
  .rw[if_pos c];exact Zh _
  .rw[if_neg c];have:=h.le x ((mem.mp l).resolve_right c);lia
 refine%[nd,λr G=>?_,v,λx=>?_|λn x H O g=>?_]
 .rcases X4 G with q|q
  .obtain⟨t,p,z,e,g⟩:=h.by_ r q;refine%[t,p,z,e|?_];rw[if_neg (f (X7 %[r,q|rfl]))];refine g.imp_right λ⟨a,b,c⟩=>%[a,mem.mpr (.inl b)|?_]
   rw[if_neg (f b)];exact c
  .obtain⟨t,p,z,I,e⟩:=E r q;have w:r.1∈new.map (·.1):=X7 %[r,q|rfl];refine%[t,p,z,e|?_];rw[if_pos w];rcases(h.edge p).mp I with⟨rfl,rfl⟩|⟨J,b,c⟩
   .exact .inl %[rfl|rfl]
   .refine .inr %[λps=>?_,mem.mpr (.inl b)|by rw[if_neg (f b),c]];have:Ed ks st r.1:=%[z|by rw[<-ps,<-e];exact t]
    exact f (h.all 1 _ (Zh _) J this.dst).1 w
 .refine%[λl=> .inr %[⋯,mem.mpr (.inr l)|if_pos l]|λl=>?_];rcases l with⟨a,_⟩|⟨_,a,b⟩
  .lia
  .refine(mem.mp a).resolve_left λc=>?_
   rw[if_neg (f c)]at b;have:=h.le x c
   lia
 .have i:∀{m},1<=m->m<=k->Dst ks st m x->x∈(rs++new).map _/\(if x∈new.map _ then k+1 else d x)<=m:=λa b g=>by
   obtain⟨s,A⟩:=h.all _ x a b g;exact%[mem.mpr (.inl s)|by rw[if_neg (f s)];exact A]
  by_cases c:n<=k
  .exact i H c g
  .obtain rfl:n=k+1:=by lia
   have j:x∈(rs++new).map _->x∈(rs++new).map _/\(if x∈new.map _ then k+1 else d x)<=k+1:=λa=>%[a|v x a]
   obtain⟨y,B,e⟩:=g.last;by_cases L:k=0
   .subst L;obtain⟨us,M,_,C⟩:=B;rw[length_eq_zero_iff.mp M]at C;exact j (u y ((h.edge y).mpr (.inl %[rfl|(C).symm])) x e)
   .obtain⟨s,A⟩:=h.all k y ⋯ (Zh _) B;by_cases N:d y=k
    .exact j (u y ((h.edge y).mpr (.inr %[⋯,s|N])) x e)
    .exact j (i ⋯ ⋯ ((h.dst s).2.app e.dst)).1
end
structure Sho (ks:List _) (a b:Str) (us:List _):Prop where
 sub:∀k∈us,k∈ks
 wal:Wal us a b
 pos:0<us.length
 min:∀n,Dst ks a (n+1) b->us.length<=n+1
theorem Sho.dst(h:Sho ks a b us):∃n,us.length=n+1/\Dst ks a (n+1) b:=
 %[us.length-1,by have:=h.pos;lia,us,by have:=h.pos;lia,h.sub|h.wal]
theorem Sho.rch(h:Sho ks a b us):Rch ks a b:=by
 obtain⟨n,_,d⟩:=h.dst;exact d.rch
end Cut
namespace Cut
open PySem L2
theorem mz(lt:q->q->Bool)(c:∀x y,lt x y=false->x≠y->lt y x=true):∀{l m:List q},l.Pairwise (λa b=>lt b a=false)->m.Pairwise (λa b=>lt b a=false)->l.Nodup->m.Nodup->(∀x,x∈l↔x∈m)->l=m
 |[],[],_,_,_,_,_=>rfl
 |[],y::m,_,_,_,_,h=>absurd ((h y).mpr Zl) ∅
 | x::l,[],_,_,_,_,h=>absurd ((h x).mp Zl) ∅
 | x::l,y::m,s,t,nl,u,h=>by
   obtain⟨f,g⟩:=List.pairwise_cons.mp s;obtain⟨i,j⟩:=List.pairwise_cons.mp t;obtain⟨v,n⟩:=nodup_cons.mp nl;obtain⟨w,o⟩:=nodup_cons.mp u;have e:=Classical.byContradiction λd=>by
    have A:=(mem_cons.mp ((h x).mp Zl)).resolve_left d;have r:=f y ((mem_cons.mp ((h y).mpr Zl)).resolve_left (Ne.symm d));rw[c x y (i x A) d]at r;cases r
   subst e;rw[mz lt c g j n o λz=>?_]
   constructor
   .intro p;rcases mem_cons.mp ((h z).mp (Zj _ p))with e|e
    .simp_all
    .exact e
   .intro p;rcases mem_cons.mp ((h z).mpr (Zj _ p))with e|e
    .simp_all
    .exact e
def Let(rows:ZB)(c:Nat):Prop:=c≠46/\∃r∈rows,c∈r.cps.toList
def BM(rows:ZB)(a b:Nat):Prop:=a≠46/\a≠b/\∃(i j:Nat) (r c:Str),rows[i]? =some r/\rows[i+1]? =some c/\r.cps[j]? =some a/\c.cps[j]? =some b
theorem fS:c∈cH rows↔Let rows c:=by
 unfold cH Let;rw[List.mem_filter,rj,List.mem_flatten,decide_eq_true_eq]
 constructor
 .rintro⟨⟨l,e,b⟩,a⟩;obtain⟨r,d,rfl⟩:=X6 e;exact%[a,r,d|b]
 .rintro⟨a,r,d,b⟩;exact%[%[_,X7 %[r,d|rfl]|b]|a]
end Cut
namespace Cut
open PySem L2
def St(wd:Bool)(c d:Int):Prop:=c<=d+(if wd=true then 1 else 0)/\d<=c+(if wd=true then 1 else 2)
def jC(wd:Bool)(b:ZK):Prop:=∃a:Nat,a<b.length/\(∀k c,b[k]? =some c->(k<a->c= -1)/\(a<=k->0<=c/\c<=7))/\∀k c d,b[k]? =some c->b[k+1]? =some d->a<=k->St wd c d
noncomputable def sg(a s:Int):Nat:=if a<0 then 46 else 97+((a*5+s)%26).toNat
theorem El(h:0<=a):ig (sg a s)=true:=by
 unfold sg;rw[if_neg ⋯,jY]
 lia
theorem Em(h:a<0):sg a s=46:=if_pos h
theorem z4(h:0<=a):sg a s≠46:=by
 unfold sg;rw[if_neg ⋯]
 lia
theorem En(e:0<=a)(c:a<=7)(f:0<=b)(d:b<=7)(h:sg a s=sg b s):a=b:=by
 unfold sg at h;rw[if_neg ⋯,if_neg ⋯]at h;omega
noncomputable def ik(a:List ZK)(b:Int)(k:Nat):Str:=⟨(a.map λc=>sg (c.getD k 0) b).toArray⟩
noncomputable def drawn(a:List ZK)(hi:Nat)(b:Int):ZB:=(List.range hi).map (ik a b)
theorem fT(h:(drawn a hi c)[k]? =some z):k<hi/\z=ik a c k:=by
 unfold drawn at h;rw[Zk]at h;by_cases b:k<hi
 .rw[List.getElem?_range b]at h;exact%[b|(Z9 h).symm]
 simp_all
theorem j5{a:List ZK}{k j c:Nat}(h:(ik a d k).cps[j]? =some c):∃b,a[j]? =some b/\c=sg (b.getD k 0) d:=by
 have h:(a.map λc=>sg (c.getD k 0) d)[j]? =some c:=by simpa [ik]using h
 rw[Zk]at h;cases e:a[j]? with
 | none=>simp_all
 | some b=>rw[e]at h;exact%[b,rfl|(Z9 h).symm]
theorem cX{a:ZK}(b:a.length=hi)(c:k<hi):a[k]? =some (a.getD k 0):=by
 simp_all
theorem r0{a:List ZK}{d:Int}{wd:Bool}(J:1<=hi)(L:hi<=40)(y:1<=a.length)(A:a.length<=40)(v:∀c∈a,c.length=hi/\jC wd c):bX (drawn a hi d):=by
 have len:(drawn a hi d).length=hi:=by unfold drawn;rw[Z5,Yb]
 have f:∀z∈drawn a hi d,∃k,k<hi/\z=ik a d k:=λz g=>by
  obtain⟨k,e⟩:=Yz g;exact%[k|fT e]
 refine%[⋯,⋯,%[a.length,y,A|λz g=>?_],λz g=>?_,λi r M B C j c N g1 g2 p=>?_|?_]
 .obtain⟨k,_,rfl⟩:=f z g;simp[ik]
 .obtain⟨k,h,rfl⟩:=f z g;rw[all_eq_true];intro c q;obtain⟨j,E⟩:=Yz q;obtain⟨b,s,rfl⟩:=j5 (j:=j) (by simpa using E);by_cases G:b.getD k 0<0
  .rw[Em G];decide +kernel
  .unfold okc;rw[El ⋯,Bool.or_true]
 .obtain⟨t,rfl⟩:=fT B;obtain⟨u,rfl⟩:=fT C;obtain⟨b,s,rfl⟩:=j5 g1;obtain⟨w,l,rfl⟩:=j5 g2;rw[s]at l;cases l;obtain⟨o,m,H,h,_⟩:=v b (Z7 s);by_cases I:i+1<m
  .rw[(h i _ (cX o t)).1 ⋯];rfl
  .exact absurd p (z4 ((h _ _ (cX o u)).2 ⋯).1)
 .have n:0<a.length:=by lia
  obtain⟨o,m,H,h,_⟩:=(v _ (Y5 n))
  exact%[ik a d _,X7 %[hi-1,by rw[mem_range];lia|rfl],sg (a[0].getD (hi-1) 0) d,X7 %[a[0],Y5 n|rfl]|z4 ((h _ _ (cX o ⋯)).2 ⋯).1]
theorem sd{i:Int}{wd:Bool}(s:∀c∈d,c.length=hi/\jC wd c){c:Nat}:Let (drawn d hi i) c↔∃a:Int,0<=a/\a<=7/\(∃b∈d,a∈b)/\c=sg a i:=by
 constructor
 .rintro⟨l,r,t,m⟩;obtain⟨k,e⟩:=Yz t;obtain⟨h,rfl⟩:=fT e;obtain⟨j,u⟩:=Yz m;obtain⟨b,v,rfl⟩:=j5 (by simpa using u);have f:=Z7 v;obtain⟨n,o,A,w,_⟩:=s b f;have g:=cX n h;have q:=w k _ g;have:o<=k:=by
   refine Nat.le_of_not_lt λz=>l ?_
   rw[q.1 z];rfl
  exact%[_,(q.2 this).1,(q.2 this).2,%[b,f|Z7 g]|rfl]
 .rintro⟨a,y,B,⟨b,f,p⟩,rfl⟩;obtain⟨n,_⟩:=s b f;obtain⟨k,h⟩:=Yz p;refine%[z4 y,ik d i k,X7 %[k,by rw[mem_range];exact(n▸(X3 h).1)|rfl]|X7 %[b,f|?_]];rw[Zb,h];rfl
noncomputable def there(b:List ZK):ZK:=((List.range 8).filter λa:Nat=>b.any λc=>decide ((a:Int)∈c)).map λa:Nat=>a
theorem eA:a∈there c↔0<=a/\a<=7/\∃b∈c,a∈b:=by
 unfold there;rw[mem_map]
 constructor
 .rintro⟨n,f,rfl⟩;rw[List.mem_filter,mem_range,any_eq_true]at f;obtain⟨g,b,d,e⟩:=f;exact%[⋯,⋯,b,d|Zn e]
 .rintro⟨h,i,b,d,e⟩;refine%[a.toNat,?_|⋯];rw[List.mem_filter,mem_range,any_eq_true];refine%[⋯,b,d|Ze ?_];rw[show a.toNat=a by lia];exact e
theorem sf(a:List _):(there a).Nodup:=by
 unfold there;rw[Yq,Yv];refine(List.Pairwise.filter _ (nodup_iff_pairwise_ne.mp nodup_range)).imp λh e=>h ⋯
theorem z5{a:List ZK}{hi:Nat}(i:1<=hi)(j:1<=a.length)(d:∀c∈a,c.length=hi/\jC wd c):there a≠[]:=by
 have b:0<a.length:=by lia
 obtain⟨e,f,l,h,_⟩:=d _ (Y5 b);have g:=cX e (show hi-1<hi by lia);have q:=(h _ _ g).2 ⋯;exact List.ne_nil_of_mem (eA.mpr %[q.1,q.2,_,Y5 b|Z7 g])
theorem j6(a:List _):(there a).length<=8:=by
 unfold there;rw[Z5];exact Y8 (Ya _ _) (Zh _)
noncomputable def dh(n:Str)(c:Nat):Str:=⟨(n.cps.toList++[46,c]).toArray⟩
theorem j7(h:dh n c=dh m d):n=m/\c=d:=by
 have e:=by
  have:=congrArg (λz=>z.cps.toList) h;simpa [dh]using this
 have q:=List.append_inj' e rfl;refine%[iD q.1|?_];have:=q.2;simpa using this
def w8(rows:ZB):Prop:=∃m:List _,m.length<=14/\∀a b,BM rows a b->[sgn a,sgn b]∈m
noncomputable def uz(wd:Bool):List (Int×Int):=((List.range 7).map λi:Nat=>((i:Int),(i:Int) +1)) ++if wd=true then(List.range 7).map λi:Nat=>((i:Int) +1,(i:Int))else(List.range 6).map λi:Nat=>(i,i+2)
theorem xa(h:St wd c d)(c0:0<=c)(a:c<=7)(b:0<=d)(f:d<=7)(ne:c≠d):(c,d)∈uz wd:=by
 unfold St at h;unfold uz;rw[Yk];by_cases e:d=c+1
 .exact .inl (X7 %[c.toNat,mem_range.mpr ⋯|by rw[show c.toNat=c by lia,e]])
 .refine .inr ?_;cases wd
  .exact X7 %[c.toNat,mem_range.mpr ⋯|by rw[show c.toNat=c by lia,show d=c+2 by lia]]
  .exact X7 %[d.toNat,mem_range.mpr ⋯|by grind]
theorem z6{hi:Nat}{m:Int}{wd:Bool}(w:∀c∈f,c.length=hi/\jC wd c):w8 (drawn f hi m):=by
 refine%[(uz wd).map λp=>[sgn (sg p.1 m),sgn (sg p.2 m)],?_|?_]
 .rw[Z5];cases wd<;> decide
 .rintro a b ⟨y,A,i,j,r,H,B,C,g1,g2⟩;obtain⟨d,rfl⟩:=fT B;obtain⟨g,rfl⟩:=fT C;obtain⟨n,q,rfl⟩:=j5 g1;obtain⟨s,h,rfl⟩:=j5 g2;rw[q]at h;cases h;obtain⟨l,E,I,o,G⟩:=w n (Z7 q);have t:=Nat.le_of_not_lt λz=>y (by rw[(o i _ (cX l d)).1 z];rfl)
  have u:=(o i _ (cX l d)).2 t;have v:=(o _ _ (cX l g)).2 ⋯;exact X7 %[(_,_),xa (G i _ _ (cX l d) (cX l g) t) u.1 u.2 v.1 v.2 (λe=>A (by rw[e]))|rfl]
end Cut
namespace K44
open PySem L2 Cut
abbrev ZqS:=Lean.Syntax
def zqn:Lean.Name->Array ZqS->ZqS:= .node .none
def zqa:String->ZqS:= .atom .none
def zqi(s:String):ZqS:=Lean.mkIdent s.toName
def zqh:ZqS:=zqn `Lean.Parser.Term.hole #[zqa "_"]
def zqf(k:Nat)(b:ZqS):ZqS:=zqn `Lean.Parser.Term.fun #[zqa "fun",zqn `Lean.Parser.Term.basicFun #[zqn `null (Array.replicate k zqh),zqn `null #[],zqa "=>",b]]
def zqd(c:Char):ZqS:=Lean.Syntax.mkNumLit (toString (c.toNat-48))
def zqe(a:Array ZqS)(x:String):ZqS:=if x="r"then zqi "rfl"else if x="n"then a[0]! else if x="h"then a.back! else if x="_"then zqh else if x="f"then zqf 2 (zqi "rfl") else if x="g"then zqf 1 (zqi "rfl") else if x.length>1 then zqi x else zqn `Lean.Parser.Term.namedArgument #[zqa "(",zqi x,zqa ":=",zqi x,zqa ")"]
def zqx(r:Array ZqS):ZqS:=if r[0]!.isAtom then(if r[0]!.getAtomVal=""then zqf 3 r[1]! else r[1]!)else if r.size<2 then r[0]! else zqn `Lean.Parser.Term.app #[r[0]!,zqn `null (r.extract 1 r.size)]
def zqp(s t:String):Nat:=(s.splitOn t).head!.length
def zqs(t:String)(a:Array ZqS)(l:List Char)(k:List (List String×Array ZqS)):List Char×List (List String×Array ZqS):=
 let f:=k.head!
 let k:=k.tail
 let x:=f.1.headD ""
 let w:=f.1.tail
 let c:=l.headD ' '
 if f.1.isEmpty then(l,(k.head!.1,k.head!.2.push (zqx f.2))::k.tail)
 else if x="#"then(l.tail,(w,f.2.push (zqd c))::k)
 else if x="L"then(l,(["*"],#[zqa ""])::(w,f.2)::k)
 else if x="*"then
  if c.isDigit then(l.tail,(["r"],#[zqi "ac",zqd c])::(w,f.2)::k)
  else if c='?'then(l.drop 2,(w,f.2.push a[l[1]!.toNat-48]!)::k)
  else
   let p:=zqp "~]`" c.toString
   let q:=if p<3 then 1 else 0
   let s:=((t.splitOn "|")[(74+84*p)*q+zqp "ABCDEFGHIJKLMNOPQRSTUVWXYZabcdefghijklmnopqrstuvwxyz!$%&'()*+,./:;<=>^_|}[0123456789" l[q]!.toString]!).splitOn " "
   (l.drop (q+1),(s.tail,#[zqi s.head!])::(w,f.2)::k)
 else(l,(w,f.2.push (zqe a x))::k)
def zqt(t:String)(a:Array ZqS)(l:List Char):Nat->ZqS
 |n=>(n.fold (λ_ _ s=>if s.2.length=1&&s.2.head!.1.isEmpty then s else zqs t a s.1 s.2) (l,[(["*"],#[zqa "1"])])).2.head!.2[1]!
def zqm(s:Lean.StrLit)(a:Array Lean.Term):Lean.MacroM Lean.Term:=
 return⟨zqt "paE r * *|ak|ah * *|ao *|ar|ay * h r *|aE *|opE * * *|aI # n r *|QSs.h *|bd * r * *|aM # n r|gsE r * *|ifS * * *|aP|cw K r f * *|cx *|b8|cB # r|cQ K r *|cbO * T.a8 PySem.boot_len r *|bF K r|cW K r f * *|cV PassesOwn.never r r * * *|wT *|bO r *|bE|cj|aM # * r|fi K r g *|fF K r r r *|cP|fE *|cq|aD.of *|bn|iM *|Z1|Z0|eBl|orW * *|bmO plainAttrs_list PySem.F.slot_list_append PySem.F.type_list_append * r * *|iZ * r * *|eW|jW *|fR h f * *|kT * *|cA|gU * r r * L L L|kU|iY|lN * *|cbO * T.ac boot_isinstance r *|ia K r|fj|iR *|ctO * T.a5 boot_list r *|pD *|fX|fk K r|jr r T.aj r *|kK h r * * *|cbE * r T.ac boot_isinstance r r r *|kH K r|tJ|tG *|tK K r|cbO * T.a7 boot_sorted r *|lO|gvE T.an r r|wq|fo|h9|om|wo # n r * * r *|qS *|ib # n r * * r * r r * L L L|qT *|gvE T.av r r|ctO * T.a6 boot_set r *|pjE * *|cn T|yW r r r * *|mr PassesOwn.never * *|mf * T.c0 h r r *|jM T|cbO * T.a0 boot_min r *|vk K r r T.ae r *|yX|BA K r r * *|gvE T.ao r r|vC|lv h r * *|slE K r * * *|qU # n r * *|bmO plainAttrs_str slot_str_join type_str_join * r * *|tL K r|tF * * r * * *|cbO * T.aa boot_all r *|yY K r r|y8 K w r r r|DR *|gH T|DY K r r *|ac # r|dS T|dC T|bmO plainAttrs_dict slot_dict_get type_dict_get * r * *|bT T|bU T|dW T|dU T|cbO * T.a1 boot_max r *|mF T|orV * *|gvE T.aq r r|Cj r T.af r r *|oA w r r|jI T|ki T|bmO plainAttrs_list PySem.F.slot_list_extend PySem.F.type_list_extend * r * *|qV|oJ P w r r r|zE K P w r r r r h|zo *|zk|eS T|Ew K r plainAttrs_list PySem.F.slot_list_append PySem.F.type_list_append * r r r r * *|bmO plainAttrs_dict PySem.F.slot_dict_setdefault PySem.F.type_dict_setdefault * r * *|jA|oR T|Ce|bN T|vh K r|cD T|Cp h|kO T|Cl T.bK r *|Co * T.c0 h r r r r *|sE T|mS T|ixSE f * *|tH|Cf r|Fb r|ctO * T.ah boot_int r *|Cg|zL # n r * * r *|qh T|qU # * r * *|gvE T.au r r|bmO plainAttrs_str PySem.F.slot_str_split PySem.F.type_str_split * r * *|Bk|gvE T.ar r r|z9 T|mH T|Fi K r r T.af r r *|noO|je T|gvE T.ap r r|gvE T.ay r r|gvE T.az r r|Fj K r T.ce r r|Fj K r T.cb r r|xz T|xx T|Ad T|gvE T.aw r r|mJ T|dinT h r * *|gvE T.ax r r|sB T|xq T|wN K r|uI T|qp T|sD T|lg T|wP K r|mM T|jJ T|xn T|qv T|D0 r|DZ r|km T|lh T|BF r|Fa K r plainAttrs_dict PySem.F.slot_dict_values PySem.F.type_dict_values * r r *|zP|nG T|uO T|zT r r T.a9 r T.a5 r *|sG T|Ak T|jf T|Ea K r r|bmO plainAttrs_list PySem.F.slot_list_remove PySem.F.type_list_remove * r * *|zQ|Eh w r|mP T|qx T|mR T|DS b.ex *|DQ * h r r r r *|C_Torn T|t8 r T.bC r|t8 r T.bH r|t8 r T.bG r|t8 r T.bF r|t8 r T.bE r|t8 r T.bD r|t8 r T.bA r|Fk h|EE T|wO r|z0 h|Ew K r plainAttrs_dict slot_dict_get type_dict_get * r r r r * *|Ek K r r|li T|nK T|Fa K r plainAttrs_list PySem.F.slot_list_clear PySem.F.type_list_clear * r r *|Bj|qw T|xi T|jj T|sK T|nM T|Fr h" (a.map (·.raw)) s.getString.toList 9999⟩
set_option hygiene false in
abbrev ZL:=List V
abbrev ZM:=List (Addr×List V)
local macro_rules|`(%[$s:str,$x,*|$y])=>zqm s (x.getElems.push y)|`(%[$s:str|$y])=>zqm s #[y]
local macro_rules|`(tactic|lk)=>do
 let x<-("bh xU jQ iV jn mZ iP yf tB AA tOr CD xT CI tOp tUn tC Cy Cz tCB nR yo yp C7 C8 sO tBM AY tSl yz oZ yL rI rI0 rU Dv Dx rEq rNe yP Cc yQ Dk Dm Dd De Df Be E9 vg vf tM sZ pw AH xY CO Ch Ci Cn yq yr C2 C3 DK n8 Dq pB tf yH zN zO Eb pZ Ef zX rS rIn Bf Di Db Dt pq ve x9 Bg EI EJ EK".splitOn " ").toArray.mapM λs=>`(Lean.Parser.Tactic.simpLemma|↓$(Lean.mkIdent s.toName):ident)
 let y<-("lU AM yh CZ tyV EM EN EO List.getElem?_cons_zero List.getElem?_cons_succ List.set_cons_zero List.set_cons_succ Option.some.injEq V.int.injEq V.str.injEq V.bl.injEq V.ref.injEq V.ty.injEq List.cons.injEq reduceCtorEq and_true true_and and_false false_and or_false false_or or_true true_or exists_false exists_eq_left' exists_eq_left exists_eq_right exists_eq_right' exists_and_left exists_and_right exists_eq List.cons_append List.nil_append Zw exists_const and_assoc Int.zero_add Bool.not_true Bool.not_false Zx if_true if_false eq_self".splitOn " ").toArray.mapM λs=>`(Lean.Parser.Tactic.simpLemma|$(Lean.mkIdent s.toName):ident)
 `(tactic|simp only[$(x++y),*])
local macro_rules|`(!$n:ident)=>`(some (V.ref $n))
local macro_rules|`(-$n:ident)=>`(some (V.str $n))
local macro_rules|`(#[$n:num])=>`((show $n≤sizeLine by decide))|`(#[$x])=>`(paE rfl $x ak)|`(#[$x,$y,*])=>`(paE rfl $x #[$y,*])
local macro_rules|`(tactic|walk)=>`(tactic|refine⟨rfl,rfl,rfl,?_,rfl,?_,?_⟩<;>decide +kernel)
theorem zq0{P:List Value->Prop}(h:P []):∀u,u.length=0->P u:=λu e=>by rw[List.length_eq_zero_iff.mp e];exact h
theorem zq1{n:Nat}{P:List Value->Prop}(h:∀a,∀u,u.length=n->P (a::u)):∀u,u.length=n+1->P u:=λu e=>by
 cases u with
 |nil=>cases e
 |cons a u=>exact h a u (Nat.succ.inj e)
local macro_rules|`(tactic|room)=>`(tactic|(intro _ _ _ _ _ _;(repeat(refine zq1 λ_=>?_));exact zq0 rfl))
set_option hygiene false in
local macro_rules|`(tactic|fin2)=>`(tactic|(intro a b c d h;repeat(first|(obtain⟨rfl,_⟩:=h;rfl)|obtain⟨_,h⟩:=h)))
set_option hygiene false in
local macro_rules|`($a<*$b)=>`(bmO plainAttrs_list PySem.F.slot_list_append PySem.F.type_list_append bn rfl $a (paE rfl $b ak))
set_option hygiene false in
local macro_rules|`(↑$n:num)=>`(ac $n rfl)
set_option hygiene false in
local macro_rules|`(↥$n:num)=>`(Cal P w K mg base $n)
noncomputable def top(i:Nat):Stmt:=PySem.Challenge.pw_digbook_k44_chains_torn.main.body.getD i (.Pass %[0,0,0|0])
noncomputable section
abbrev dq:Stmt:=top 1
theorem bg:aq ["ground","names","layer","word","one","other"] ["ground"] (af dq):=by walk
abbrev dN:Stmt:=top 2
theorem du:aq ["names","one","other","first","second"] ["names","one","other"] (af dN):=by walk
abbrev cL:Stmt:=top 3
theorem dX:aq ["names","layer"] ["names","layer"] (af cL):=by walk
abbrev i9:Stmt:=top 4
theorem eY:aq ["ground","names","groups","layer"] ["ground"] (af i9):=by walk
abbrev gi:Stmt:=top 5
theorem nt:aq ["ground","layer"] ["ground","layer"] (af gi):=by walk
abbrev cJ:Stmt:=top 6
theorem j8:aq ["ground"] ["ground"] (af cJ):=by walk
abbrev lw:Stmt:=top 7
theorem si:aq ["ground","names"] ["ground"] (af lw):=by walk
abbrev dv:Stmt:=top 20
theorem jD:aq ["found"] ["found"] (af dv):=by walk
abbrev cN:Stmt:=top 21
theorem iN:aq ["found"] ["found"] (af cN):=by walk
abbrev j9:Stmt:=top 22
theorem ja:aq ["found","side","groups","link"] ["found","side"] (af j9):=by walk
abbrev cY:Stmt:=top 23
theorem aX:aq ["names","found","beneath","above","waits","name","ready","laid","least","link"] ["names","found"] (af cY):=by walk
abbrev eL:Stmt:=top 24
theorem cK:aq ["beneath","start","goal","reached","edge"] ["beneath","start","goal"] (af eL):=by walk
abbrev im:Stmt:=top 25
theorem d6:aq ["beneath","edge","reached","further","name","link"] ["beneath","edge","reached"] (af im):=by walk
abbrev mB:Stmt:=top 26
theorem oO:aq ["reached","start","goal","way"] ["reached","start","goal"] (af mB):=by walk
abbrev uA:Stmt:=top 28
theorem BN:aq ["ground"] ["ground"] (af uA):=by walk
abbrev dO:Stmt:=top 29
theorem bD:aq ["names","found","beneath","shortest","name","way"] ["names","found"] (af dO):=by walk
abbrev gj:Stmt:=top 30
theorem nu:aq ["names","found"] ["names","found"] (af gj):=by walk
abbrev eM:Stmt:=top 31
theorem bI:aq ["ground","found","torn_by"] ["ground"] (af eM):=by walk
abbrev qc:Stmt:=top 33
theorem sj:aq ["ground","one","other","beneath"] ["ground","one","other"] (af qc):=by walk
abbrev jb:Stmt:=top 34
theorem bY:aq ["ground","one","other","beneath","first","second"] ["ground","one","other"] (af jb):=by walk
abbrev iH:Stmt:=top 41
theorem uB:aq ["thing"] ["thing"] (af iH):=by walk
abbrev kb:Stmt:=top 42
theorem gu:aq ["text","rows","number","row"] ["text"] (af kb):=by walk
abbrev jE:Stmt:=top 43
theorem xf:aq ["row"] ["row"] (af jE):=by walk
abbrev cZ:Stmt:=top 44
theorem kZ:aq ["row","above"] ["row","above"] (af cZ):=by walk
abbrev d8:Stmt:=top 45
theorem nv:aq ["rows"] ["rows"] (af d8):=by walk
abbrev kc:Stmt:=top 46
theorem uC:aq ["text"] ["text"] (af kc):=by walk
abbrev jc:Stmt:=top 47
theorem dJ:aq ["text","rows","pairs","above","row"] ["text"] (af jc):=by walk
abbrev cc:Stmt:=top 48
theorem iO:aq ["above","row"] ["above","row"] (af cc):=by walk
abbrev gA:Stmt:=top 57
theorem dG:aq ["cuts","names","number","thing"] ["cuts"] (af gA):=by walk
abbrev eN:Stmt:=top 58
theorem lc:aq ["thing"] ["thing"] (af eN):=by walk
abbrev mC:Stmt:=top 59
theorem xg:aq ["thing"] ["thing"] (af mC):=by walk
abbrev dP:Stmt:=top 60
theorem dw:aq ["sayings","layers","number","thing"] ["sayings","layers"] (af dP):=by walk
abbrev io:Stmt:=top 61
theorem qd:aq ["thing","layers"] ["thing","layers"] (af io):=by walk
abbrev dQ:Stmt:=top 62
theorem ke:aq ["thing","texts"] ["thing","texts"] (af dQ):=by walk
abbrev kf:Stmt:=top 63
theorem uD:aq ["thing"] ["thing"] (af kf):=by walk
abbrev gB:Stmt:=top 64
theorem nA:aq ["name","letter"] ["name","letter"] (af gB):=by walk
abbrev eZ:Stmt:=top 65
theorem d9:aq ["cuts","layers","name","text"] ["cuts"] (af eZ):=by walk
abbrev eO:Stmt:=top 66
theorem bJ:aq ["cuts","ties","name","text","upper","lower"] ["cuts"] (af eO):=by walk
abbrev c6:Stmt:=top 67
theorem ce:aq ["sayings","ties","number","saying"] ["sayings"] (af c6):=by walk
abbrev gC:Stmt:=top 70
theorem fz:aq ["ground","one","other","first","second"] ["ground","one","other"] (af gC):=by walk
abbrev gE:Stmt:=top 71
theorem nB:aq ["ground","later","earlier"] ["ground","later","earlier"] (af gE):=by walk
abbrev fA:Stmt:=top 73
theorem mD:aq ["_law_script","_law_k"] ["_law_script","_law_k"] (af fA):=by walk
abbrev kg:Stmt:=top 74
theorem cz:aq ["_law_script","_law_many","_law_found","_law_number","_law_k","_law_cell","_law_one","_law_two"] ["_law_script","_law_many"] (af kg):=by walk
abbrev gF:Stmt:=top 75
theorem bA:aq ["_law_number","_law_high","_law_wild","_law_air","_law_at","_law_signs","_law_k"] ["_law_number","_law_high","_law_wild"] (af gF):=by walk
abbrev jd:Stmt:=top 76
theorem sk:aq ["_law_at","_law_shift"] ["_law_at","_law_shift"] (af jd):=by walk
abbrev dz:Stmt:=top 77
theorem cf:aq ["_law_row_here","_law_shift","_law_wide","_law_high","_law_wild","_law_columns","_law_rows","_law_k","_law_signs","_law_there"] ["_law_row_here","_law_shift"] (af dz):=by walk
abbrev gG:Stmt:=top 78
theorem bB:aq ["_law_one","_law_two","_law_layers","_law_layer","_law_at","_law_other","_law_there","_law_kind","_law_odd","_law_year"] ["_law_one","_law_two","_law_layers"] (af gG):=by walk
abbrev ef:Stmt:=top 79
theorem aQ:aq ["_law_row_here","_law_cuts","_law_layers","_law_k","_law_name","_law_shift","_law_text","_law_there","_law_at","_law_many","_law_sayings"] ["_law_row_here"] (af ef):=by walk
abbrev ip:Stmt:=top 80
theorem bq:aq ["_law_some","_law_begin","_law_steps_here","_law_edge","_law_far","_law_more","_law_later","_law_earlier","_law_source"] ["_law_some","_law_begin"] (af ip):=by walk
abbrev iq:Stmt:=top 81
theorem c8:aq ["_law_script","_law_layers","_law_many","_law_number","_law_pairs_here","_law_k"] ["_law_script","_law_layers","_law_many"] (af iq):=by walk
abbrev cg:Stmt:=top 82
theorem aV:aq ["_law_ground_here","_law_sayings","_law_layers","_law_number","_law_some","_law_later","_law_earlier","_law_source","_law_steps_here","_law_far"] ["_law_ground_here","_law_sayings","_law_layers","_law_number"] (af cg):=by walk
abbrev dH:Stmt:=top 83
theorem eP:aq ["_law_found","_law_some","_law_k","_law_sizes"] ["_law_found","_law_some"] (af dH):=by walk
abbrev dR:Stmt:=top 84
theorem dA:aq ["_law_e","_law_some"] ["_law_e"] (af dR):=by walk
abbrev ir:Stmt:=top 85
theorem qe:aq ["_law_way","_law_ground_here","_law_one","_law_other"] ["_law_way","_law_ground_here","_law_one","_law_other"] (af ir):=by walk
abbrev fB:Stmt:=top 86
theorem c9:aq ["_law_way","_law_ground_here","_law_one","_law_other","_law_some","_law_kept","_law_e"] ["_law_way","_law_ground_here","_law_one","_law_other","_law_some"] (af fB):=by walk
abbrev jF:Stmt:=top 87
theorem eQ:aq ["_law_script","_law_cuts","_law_sayings","_law_layers","_law_ground_here","_law_torn_ones","_law_other_ground","_law_some","_law_one","_law_other","_law_way"] ["_law_script"] (af jF):=by walk
abbrev bM:Stmt:=iB (top 56) 0
theorem eR:aq ["self","cuts","sayings","layers"] ["self","cuts","sayings"] (af bM):=by walk
abbrev nC:Stmt:=iB (top 56) 1
theorem z7:aq ["self"] ["self"] (af nC):=by walk
abbrev bR:Stmt:=iB (top 56) 2
theorem jG:aq ["self"] ["self"] (af bR):=by walk
abbrev ck:Stmt:=iB (top 56) 3
theorem kh:aq ["self"] ["self"] (af ck):=by walk
abbrev cC:Stmt:=iB (top 56) 4
theorem mE:aq ["self"] ["self"] (af cC):=by walk
abbrev dL:Stmt:=iB (top 12) 0
end
theorem qf:aq ["self","ring"] ["self","ring"] (af dL):=by walk
def uE(K:ZA):Sp:=λvs H Q _=>∃(a:Addr) (b:ZK) (k:Int),vs=[.ref a,.int k]/\SqL K H a (b.map V.int)/\0<=k/\Q (.int (b.getD k.toNat 0)) H
def Eo(K:ZA):Sp:=λvs H Q _=>∃(a:Addr) (c:ZK) (m:Int),vs=[.ref a,.int m]/\SqL K H a (c.map V.int)/\c.length<=1000/\0<=m/\m<=100/\∀l b (xs:ZK),ae H b->H l=none->b l=some (.lst (xs.map V.int))->xs.length=m.toNat->(∀x∈xs,0<=x/\x<9973)->Q (.ref l) b
def xh:Sp:=λvs H Q _=>∃n hi a,vs=[.int n,.int hi,.bl a]/\0<=n/\1<=hi/\hi<=6/\∀l b c,ae H b->H l=none->b l=some (.lst (c.map V.int))->c.length=hi.toNat->jC a c->Q (.ref l) b
def BO:Sp:=λvs H Q _=>∃a s:Int,vs=[.int a,.int s]/\0<=s/\Q (.str (sgn (sg a s))) H
def qg(H:Hp)(a:List (Addr×ZK)):Prop:=∀p∈a,H p.1=some (.lst (p.2.map V.int))
theorem qg.up(h:qg H a)(s:ae H b):qg b a:=λp c=>s _ _ (h p c)
def Ep(K:ZA):Sp:=λvs H Q _=>∃(a:Addr) (xs:ZK) (f:Int),vs=[.ref a,.int f]/\SqL K H a (xs.map V.int)/\(∀d,ae H d->SqL K d a (xs.map V.int))/\xs.length=6/\(∀x∈xs,0<=x/\x<9973)/\0<=f/\
 ∀T e d b hi wd,ae H d->H T=none->H e=none->T≠e->d T=some (.tup [.str (Str.join nl (drawn b hi f)),.ref e])->d e=some (.lst ((there b).map V.int))->
  1<=hi->hi<=6->1<=b.length->b.length<=5->(∀c∈b,c.length=hi/\jC wd c)->Q (.ref T) d
structure Txt (K:ZA) (mg:ZC):Prop where
 a0:mg "min"=none
 a1:mg "max"=none
 a5:mg "list"=none
 a6:mg "set"=none
 a7:mg "sorted"=none
 a8:mg "len"=none
 a9:mg "reversed"=none
 aa:mg "all"=none
 ab:mg "str"=none
 ac:mg "isinstance"=none
 ae:mg "enumerate"=none
 af:mg "zip"=none
 ag:mg "tuple"=none
 ah:mg "int"=none
 ai:mg "bool"=none
 aj:mg "range"=none
 ak:mg "abs"=none
 am:mg "ValueError"=none
 an:Gv mg "LATER" (.int 0)
 ao:Gv mg "EARLIER" (.int 1)
 ap:Gv mg "LONGEST_NAME" (.int 8)
 aq:Gv mg "LETTERS" (.str "abcdefghijklmnopqrstuvwxyz")
 ar:Gv mg "MOST_ROWS" (.int 40)
 au:Gv mg "MOST_SIGNS" (.int 40)
 av:Gv mg "AIR" (.str ".")
 aw:Gv mg "MOST_CUTS" (.int 8)
 ax:Gv mg "MOST_SAYINGS" (.int 60)
 ay:Gv mg "FIRST_YEAR" (.int (-9999))
 az:Gv mg "LAST_YEAR" (.int 9999)
 aB:Gv mg "SUPPOSED" (.str "supposed")
 aC:aA K mg "names_by_layer" dq ["ground"]
 aD:aA K mg "join_deposits" dN ["names","one","other"]
 aE:aA K mg "least_pointed_to" cL ["names","layer"]
 aG:aA K mg "deposits" i9 ["ground"]
 aH:aA K mg "deposit_of" gi ["ground","layer"]
 aI:aA K mg "deposit_names" cJ ["ground"]
 aJ:aA K mg "links" lw ["ground"]
 aK:aA K mg "links_by_later" dv ["found"]
 aL:aA K mg "links_by_earlier" cN ["found"]
 aM:aA K mg "grouped" j9 ["found","side"]
 aN:aA K mg "laid_in_turn" cY ["names","found"]
 aO:aA K mg "shortest_way" eL ["beneath","start","goal"]
 aP:aA K mg "next_edge" im ["beneath","edge","reached"]
 aQ:aA K mg "way_to" mB ["reached","start","goal"]
 aR:aA K mg "ring" uA ["ground"]
 aS:aA K mg "shortest_ring" dO ["names","found"]
 aT:aA K mg "never_laid" gj ["names","found"]
 aU:aA K mg "untorn_links" eM ["ground"]
 aV:aA K mg "chain" qc ["ground","one","other"]
 aW:aA K mg "standing" jb ["ground","one","other"]
 aX:aA K mg "is_name" iH ["thing"]
 aY:aA K mg "rows_of" kb ["text"]
 aZ:aA K mg "is_row" jE ["row"]
 b0:aA K mg "lies_beneath" cZ ["row","above"]
 b1:aA K mg "letters_in" d8 ["rows"]
 b2:aA K mg "letters" kc ["text"]
 b3:aA K mg "meetings" jc ["text"]
 b4:aA K mg "meetings_between" cc ["above","row"]
 b5:aA K mg "check_cuts" gA ["cuts"]
 b6:aA K mg "is_named_cut" eN ["thing"]
 b7:aA K mg "is_cut" mC ["thing"]
 b8:aA K mg "check_sayings" dP ["sayings","layers"]
 b9:aA K mg "is_saying" io ["thing","layers"]
 ba:aA K mg "is_text_among" dQ ["thing","texts"]
 bb:aA K mg "is_year" kf ["thing"]
 bc:aA K mg "layer_name" gB ["name","letter"]
 bd:aA K mg "layers_of" eZ ["cuts"]
 be:aA K mg "ties_of_cuts" eO ["cuts"]
 bf:aA K mg "ties_of_sayings" c6 ["sayings"]
 bg:aA K mg "two_orders" gC ["ground","one","other"]
 bh:aA K mg "order_with" gE ["ground","later","earlier"]
 bi:aA K mg "_law_cell_at" fA ["_law_script","_law_k"]
 bj:aA K mg "_law_row" kg ["_law_script","_law_many"]
 bm:aA K mg "_law_column" gF ["_law_number","_law_high","_law_wild"]
 bn:aA K mg "_law_sign" jd ["_law_at","_law_shift"]
 bo:aA K mg "_law_cut" dz ["_law_row_here","_law_shift"]
 bp:aA K mg "_law_saying" gG ["_law_one","_law_two","_law_layers"]
 bq:aA K mg "_law_ground" ef ["_law_row_here"]
 br:aA K mg "_law_steps" ip ["_law_some","_law_begin"]
 bt:aA K mg "_law_pairs" iq ["_law_script","_law_layers","_law_many"]
 bu:aA K mg "_law_torn_sayings" cg ["_law_ground_here","_law_sayings","_law_layers","_law_number"]
 bv:aA K mg "_law_is_ring" dH ["_law_found","_law_some"]
 bw:aA K mg "_law_only_torn" dR ["_law_e"]
 bx:aA K mg "_law_asked" ir ["_law_way","_law_ground_here","_law_one","_law_other"]
 bz:aA K mg "_law_refused" fB ["_law_way","_law_ground_here","_law_one","_law_other","_law_some"]
 bA:mg "Torn"=some (.ref (aF mg "Torn"))
 bB:mg "DigError"=some (.ref (aF mg "DigError"))
 bC:mg "NoCut"=some (.ref (aF mg "NoCut"))
 bD:mg "NoLayer"=some (.ref (aF mg "NoLayer"))
 bE:mg "NoRow"=some (.ref (aF mg "NoRow"))
 bF:mg "NoDeed"=some (.ref (aF mg "NoDeed"))
 bG:mg "NoSaying"=some (.ref (aF mg "NoSaying"))
 bH:mg "NoGround"=some (.ref (aF mg "NoGround"))
 bI:zj K mg "Torn" "Torn.__init__" dL ["self","ring"]
 bJ:DJ K (aF mg "Torn") "ring"
 bK:Bp K (aF mg "Torn") "ring"
 bL:subIn K (.ref (aF mg "Torn")) (.ref (aF mg "NoCut"))=some false
 bN:subIn K (.ref (aF mg "Torn")) (.ref (aF mg "DigError"))=some true
 bO:kitOne K (.ref (aF mg "Torn")) (.ref (aF mg "NoCut"))=some false
 bP:kitOne K (.ref (aF mg "Torn")) (.ref (aF mg "NoGround"))=some false
 bQ:kitOne K (.ref (aF mg "Torn")) (.ref (aF mg "NoSaying"))=some false
 bS:kitOne K (.ref (aF mg "Torn")) (.ref (aF mg "NoDeed"))=some false
 bT:kitOne K (.ref (aF mg "Torn")) (.ref (aF mg "Torn"))=some true
 bU:kitOne K (.ref (aF mg "Torn")) (.type "ValueError")=some true
 bV:kitOne K (.ref (aF mg "Torn")) (.ref (aF mg "NoRow"))=some false
 bW:kitOne K (.ref (aF mg "Torn")) (.ref (aF mg "NoLayer"))=some false
 bX:zc K (aF mg "DigError")
 bY:Cat K (aF mg "NoCut")
 bZ:Cat K (aF mg "DigError")
 c0:zH K mg "Ground"
 c1:fh K (aF mg "Ground") "kept_cuts"
 c2:fh K (aF mg "Ground") "kept_sayings"
 c3:fh K (aF mg "Ground") "kept_layers"
 c4:fh K (aF mg "Ground") "kept_ties"
 c5:zI K mg "Ground" "Ground.__init__" bM ["self","cuts","sayings"]
 c7:rN K mg "Ground" "sayings" "Ground.sayings" bR ["self"]
 c8:rN K mg "Ground" "layers" "Ground.layers" ck ["self"]
 c9:rN K mg "Ground" "ties" "Ground.ties" cC ["self"]
 cb:GvT K mg "YEAR_WORDS" [.str "since",.str "by"]
 ce:GvT K mg "LAYER_WORDS" [.str "later",.str "same"]
section
variable{P:Program}{w:World}{K:ZA}{mg:ZC}{base:Heap}
theorem cm(h:n<=5000):n<=sizeLine:=Y8 h (by decide)
theorem aJ(h:n<=5000):n<sizeLine:=Nat.lt_of_le_of_lt h (by decide)
theorem ae.upd(h:H p=none):ae H (upd H p o):=λb u e=>(aj (ap e h))▸e
theorem ae.set(a:ae H c)(h:H p=none):ae H (L2.upd c p o):=λb u e=>(aj (ap e h))▸a b u e
theorem Ft(xs:List d)(a:0<=i)(e:i<(xs.length:Int)):∃c,atI xs i=some c/\c∈xs:=by
 obtain⟨j,rfl⟩:=X1 a;have b:j<xs.length:=by lia
 exact%[xs[j],cu ∅|Y5 b]
theorem jH(xs:ZK)(b:0<=i)(d:i<(xs.length:Int)):∃c,atI (xs.map V.int) i=some (V.int c)/\c∈xs:=by
 obtain⟨j,rfl⟩:=X1 b;have a:j<xs.length:=by lia
 exact%[xs[j],cu (by simp[a])|Y5 a]
theorem Cs:(fZ.cps.toList.length:Int)=26:=by decide +kernel
theorem cD(T:Txt K mg):↥1 "_law_cell_at" ["_law_script","_law_k"] (uE K):=by
 refine T.bi.cal mD (λH vs Q E h=>?_)
 .obtain⟨a,b,k,rfl,c,g,q⟩:=h;refine%[rfl|λf e A outer s l=>?_];refine%[_,%["JCNK:1UVA0BDGP01ODGE"|0]|?_]
  show bh _ _ _ [some _,some _] H;lk;refine%[_,.inl %[_,c|rfl]|bv (λd=>?_) λd=>?_]
  .rw[Z5]at d;refine%[_,c,.int _,?_|q];obtain⟨j,rfl⟩:=X1 g;have i:j<b.length:=by lia
   exact cu (by simp[i])
  simp_all
theorem xi(T:Txt K mg):↥2 "_law_row" ["_law_script","_law_many"] (Eo K):=by
 refine T.bj.cal cz (λH vs Q E h=>?_)
 .obtain⟨a,p,m,rfl,J,hn,h0,h1,q⟩:=h;refine%[rfl|λf ag A outer s I=>?_];refine%[_,(QSs.h (ah (aI 2 cz.nd rfl (cx ak))
   (ah (aI 3 cz.nd rfl (opE fo (cbO ⟨yj⟩ T.ak boot_abs rfl #[ay (cD T) I rfl #[↑0,ar]]) (ctO Cg T.ah boot_int rfl #[iZ cj rfl (opE bE (ay (cD T) I rfl #[↑0,ar]) ar) ar])))
   (ah (cV PassesOwn.never rfl rfl (jr rfl T.aj rfl #[↑1]) (aM 4 cz.nd rfl)
   (ao (ifS (bd yX rfl ↑3 ar)
    (ah (bO rfl (↑2<*(opE bE ↑3 ar)))
     (ao (aI 3 cz.nd rfl (opE cq ↑3 ar))))
    (ah (aI 5 cz.nd rfl (ay (cD T) I rfl #[↑0,(opE cA ar (opE bE ↑4 (cbO (Cf rfl) T.a1 boot_max rfl #[ar,(opE om (cbO (bF (K:=K) rfl) T.a8 PySem.boot_len rfl #[↑0]) ar)])))]))
     (ah (aI 6 cz.nd rfl (opE bE (opE fo (opE cA (opE cA (opE bE ↑5 ar) (opE fo ar ↑4)) ar) ar) ar))
     (ah (aI 7 cz.nd rfl (opE bE (opE cA (opE tH ↑6 ↑6) (opE fo ar ↑4)) ar))
     (ao (bO rfl (↑2<*(opE bE (opE bE (opE tH ↑7 ↑7) ar) ar))))))))))
   (ao (aE ↑2))))))|?_]
  show bh _ _ _ [!a,some (.int m),none,none,none,none,none,none] H;refine jU λn1 c1=>?_
  lk;refine%[Yy _|λl L=>c1 _ _ (jU λn2 c2=>?_)];have j:ae H (upd H l (.lst [])):=ae.upd L;lk;refine%[a,p,1,rfl,j.seq J,by decide,_,rfl,a,p,0,rfl,j.seq J,by decide,_,rfl,by decide|?_];refine%[.inr (by split<;> exact%[by decide|by decide])|c2 _ _ (jU λn3 c3=>ax λab hK=>?_)];lk;refine%[⋯,⋯|hK _ _ (cO (λi M g=>∃(n:Int) (o u z B:Option V) (xs:ZK),M=[!a,some (.int m),!l,some (.int n),o,u,z,B]/\ae H g/\g l=some (.lst (xs.map V.int))/\xs.length=i/\∀x∈xs,0<=x/\x<9973)
   %[_,none,none,none,none,[],rfl,j,aa,rfl|λ_ h=>nomatch h] ?_ ?_)]
  .rintro i M g hi ⟨n,o,u,z,B,xs,rfl,C,d,G,e⟩;have ai:i<100:=by lia
   have r:=C.seq J;show jQ _ _ _ _ [!a,some (.int m),!l,some (.int n),some (.int (0+i)),u,z,B] g;rw[Int.zero_add];have put:∀v:Int,0<=v->v<9973->ae H (upd g l (.lst (xs.map V.int++[.int v])))/\∃b:ZK,upd g l (.lst (xs.map V.int++[.int v])) l=some (.lst (b.map V.int))/\b.length=i+1/\∀x∈b,0<=x/\x<9973:=λv v0 v1=>
    ⟨ae.set C L,xs++[v],by rw[aa,Zc];rfl,by rw[Z8,G];rfl,λy hy=>by
     rcases X4 hy with q|q
     .exact e y q
     .rw[X5 q];exact%[v0|v1]⟩
   have len:(xs.map V.int).length<sizeLine:=by rw[Z5,G];exact aJ ⋯
   have mx:∀x:Nat,(0:Int)<(if(x:Int) -1>1 then(x:Int) -1 else 1):=λx=>by split<;> lia
   refine aB λD1 k1 _=>?_
   lk;refine bv (λ_=>?_) λ_=>?_
   .refine%[.inl %[_|SqL.of d],by decide,_,d,len,%[by decide|by decide]|k1 _ _ ?_];obtain⟨N,b,O,U,Y⟩:=put (n%9973) ⋯ ⋯;exact%[_,_,_,_,_,b,rfl,N,O,U|Y]
   .refine%[_,.inl %[_,r|rfl],mx _,a,p,_,rfl,r,?_|?_]
    .have:=Int.emod_nonneg (i:Int) (Int.ne_of_gt (mx (p.map V.int).length))
     lia
    generalize p.getD _ 0=c
    lk;refine%[by decide,.inl %[by decide|by decide],.inr %[by decide|by decide],by decide|?_];have b1:=Int.emod_nonneg ((c%1000003+7919*i+1)*48271) (by decide:(2147483629:Int)≠0);have b2:=Int.emod_lt_of_pos ((c%1000003+7919*i+1)*48271) (by decide:(0:Int)<2147483629)
    generalize (c%1000003+7919*i+1)*48271%2147483629=one at b1 b2
    refine%[.inl %[⋯|⋯],.inl %[by decide|by simp],by decide|?_];have b3:=Int.emod_nonneg (one*one+104729*i) (by decide:(2147483587:Int)≠0);have b4:=Int.emod_lt_of_pos (one*one+104729*i) (by decide:(0:Int)<2147483587)
    generalize (one*one+104729*i)%2147483587=t at b3 b4
    refine%[.inl %[_|SqL.of d],.inl %[⋯|⋯],by simp,by decide,_,d,len|k1 _ _ ?_];obtain⟨N,b,O,U,Y⟩:=put (t*t%2147483563%9973) ⋯ ⋯;exact%[_,_,_,_,_,b,rfl,N,O,U|Y]
  .rintro M g ⟨n,o,u,z,B,xs,rfl,C,d,G,e⟩;refine c3 _ _ ?_;lk;exact q l g xs C L d G e
theorem Er(a:0<=i)(c:i<26):atI fZ.cps.toList i=some (97+i.toNat):=by
 obtain⟨j,rfl⟩:=X1 a;have b:j<26:=by omega
 have all:∀j:Fin 26,fZ.cps.toList[j.1]? =some (97+j.1):=by decide +kernel
 exact cu (all %[j|b])
theorem mF(T:Txt K mg):↥1 "_law_sign" ["_law_at","_law_shift"] BO:=by
 refine T.bn.cal sk (λH vs Q E h=>?_)
 .obtain⟨a,g,rfl,i,c⟩:=h;refine%[rfl|λf d A outer s e=>?_];refine%[_,%["JCNK:0EDGRODG~=RHaH%H~>0E1E"|0]|?_]
  show bh _ _ _ [some (.int a),some _] H;lk;unfold sg at c;refine bv (λb=>?_) λb=>?_
  .have b:=Zn b;rw[if_pos b]at c;exact c
  .have b: ¬ a<0:=by simpa using b
   rw[if_neg b]at c;refine%[.inr %[by decide|by decide],by decide,(by decide),_,Er (by omega) (by omega)|c]
theorem qh(T:Txt K mg):↥1 "_law_column" ["_law_number","_law_high","_law_wild"] xh:=by
 refine T.bm.cal bA (λH vs Q E h=>?_)
 .obtain⟨n,hi,wd,rfl,n0,h1,h6,kk⟩:=h;refine%[rfl|λf an A outer s hr=>?_];refine%[_,%["JCI3Ha0ECI4HaHh0EECI0Hh0ECI5QBCX+A1BL6DNYuK:63&K:6H[1EDZpj5A;EBCZpj5A4BCI4~m~^AEA~M~_AEAH%4PQAEAEAPQAEA;EB~|~}A2BBHa0EBBDI0Hh0EDG5"|bA.nd]|?_]
  show bh _ _ _ [some (.int n),some (.int hi),some (.bl wd),none,none,none,none] H;refine am λD1 k1 _=>?_
  lk;refine%[by decide|k1 _ _ (am λD2 k2 _=>?_)];lk;refine%[%[by decide|by decide],by decide|k2 _ _ (am λD3 k3 _=>?_)];lk;refine%[%[by decide|by decide]|k3 _ _ (am λD4 k4 _=>?_)];lk;refine%[Yy _|λL O=>k4 _ _ (am λD5 k5 r5=>ax λal hK=>?_)];lk;have I:∃a:Nat,(a:Int)=(if n%3<hi-1 then n%3 else hi-1):=by
   split
   .exact%[(n%3).toNat|by omega]
   .exact%[(hi-1).toNat|by omega]
  obtain⟨a,ea⟩:=I;refine%[by omega,by omega|hK _ _ (cO (λi σ y=>∃(m b:Int) (o:Option V) (g:ZK),σ=[some (.int m),some (.int hi),some (.bl wd),some (.int (n%3)),some (.int b),!L,o]/\0<=b/\b<=7/\ae H y/\y L=some (.lst (g.map V.int))/\g.length=i/\
   (∀(k:Nat) (c:Int),g[k]? =some c->(k<a->c= -1)/\(a<=k->0<=c/\c<=7))/\∀(k:Nat) (c d:Int),g[k]? =some c->(g++[b])[k+1]? =some d->a<=k->St wd c d)
   %[_,_,none,[],rfl,by omega,by omega,ae.upd O,aa,rfl,(λk c e=>by simp at e)|λk c d e=>by simp at e] ?_ ?_)]
  .rintro i σ y as ⟨m,b,o,g,rfl,a0,a7,U,l,B,r,C⟩;show jQ _ _ _ _ [some (.int m),some (.int hi),some (.bl wd),some (.int (n%3)),some (.int b),!L,some (.int (0+i))] y;rw[Int.zero_add];have len:(g.map V.int).length<sizeLine:=by rw[Z5,B];exact aJ (by omega)
   have put:∀v:Int,(i<a->v= -1)->(a<=i->0<=v/\v<=7)->∀(k:Nat) (c:Int),(g++[v])[k]? =some c->(k<a->c= -1)/\(a<=k->0<=c/\c<=7):=λv v1 v2 k c e=>by
    by_cases Y:k<g.length
    .rw[Y3 Y]at e;exact r k c e
    .have ek:k=i:=by
      have:=(X3 e).1;rw[Z8]at this;simp only[Zq,length_nil]at this;omega
     subst ek;rw[Y4 (by omega),B,sub_self]at e;cases e;exact%[v1|v2]
   refine aB λD6 k6 _=>?_
   lk;have J:∀v u:Int,(a<=i->v=b/\St wd v u)->∀(k:Nat) (c d:Int),(g++[v])[k]? =some c->(g++[v] ++[u])[k+1]? =some d->a<=k->St wd c d:=λv u q k c d G t Y=>by
    have a1:k+1<=g.length+1:=by
     have:=(X3 t).1;simp only[Z8,Zq,length_nil]at this;omega
    by_cases h:k+1<g.length+1
    .rw[Y3 (by omega)]at G;rw[Y3 (by simpa using h)]at t;by_cases h':a<=i
     .rw[(q h').1]at t;exact C k c d G t Y
     .omega
    .have ek:k=i:=by omega
     subst ek;rw[Y4 (by omega),B,sub_self]at G;rw[Y4 (by simp;omega)]at t;simp[B]at G t;rw[<-G,<-t];exact(q Y).2
   have ab:∀_v:Int,¬ i<a->∀(m2 j:Int) (HH:Hp),0<=j->j<=7->St wd b j->ae (upd y L (.lst (g.map V.int++[.int b]))) HH->D6.nx [some (.int m2),some (.int hi),some (.bl wd),some (.int (n%3)),some (.int j),!L,some (.int i)] HH:=λv hv m2 j HH b0 b7 st sh=>
    k6 _ _ %[m2,j,_,g++[b],rfl,b0,b7,(ae.set U O).trans sh,by rw[sh L _ aa,Zc];rfl,by rw[Z8,B];rfl,put b (λz=>absurd z hv) λ_=>%[a0|a7]|J b j λ_=>%[rfl|st]]
   refine bv (λhA=>bv (λhB=>?g1) λhB=>?g2) λhA=>?g3
   case g1=>
    simp only[decide_eq_true_eq]at hA hB;have M:i<a:=by split at ea<;> omega
    exact%[.inl %[_|SqL.of l],_,l,len|k6 _ _ %[m,b,_,g++[-1],rfl,a0,a7,ae.set U O,by rw[aa,Zc];rfl,by rw[Z8,B];rfl,put (-1) (λ_=>rfl) λz=>absurd M (by omega)|J (-1) b λz=>absurd M (by omega)]]
   all_goals
    have ag: ¬ i<a:=by
     simp only[decide_eq_true_eq]at*
     split at ea<;> omega
    refine%[.inl %[_|SqL.of l],_,l,len,#[2]|λp hp=>%[_,SqL.of aa,.int (if wd=true then -1 else 2),by cases wd<;> rfl,#[3]|λp1 ai=>%[by decide,_,SqL.of aa|?_]]];obtain⟨c,hc,N⟩:=jH [0,1,if wd=true then -1 else 2] (i:=m%3) (by omega) (by show m%3<3;omega);refine%[_,hc,c,rfl,%[by decide|by decide]|ab 0 ag _ _ _ ?_ ?_ ?_ ((ae.upd hp).trans (ae.upd ai))]
    rotate_left 2
    .unfold Cut.St;simp only[Yn,Yt,or_false]at N;cases wd<;> rcases N with rfl|rfl|rfl<;> simp<;>(split<;>(try split)<;> omega)
    all_goals(split<;>(try split)<;> omega)
  .rintro σ y ⟨m,b,o,g,rfl,a0,a7,U,l,B,r,C⟩;refine k5 _ _ ?_;lk;exact kk L y g U O l (by omega) %[a,by omega,r|λk c d G t=>C k c d G (by rw[Y3 (X3 t).1];exact t)]
theorem sq(xs:ZK){lo hi:Int}(a:0<=lo)(b:lo<=hi)(c:hi<=xs.length):qL (xs.map V.int) (some lo) (some hi)=((xs.drop lo.toNat).take (hi.toNat-lo.toNat)).map V.int:=by
 unfold qL;have d:HT.sIx xs.length 0 (some lo)=lo.toNat:=by
  show(if lo<0 then _ else min lo.toNat xs.length)=_
  grind
 have e:HT.sIx xs.length xs.length (some hi)=hi.toNat:=by
  show(if hi<0 then _ else min hi.toNat xs.length)=_;rw[if_neg ⋯]
  lia
 simp_all
theorem FA(p:Nat->Bool)(n:Nat):inV (V.bl true) ((List.range n).map λr=>V.bl (p r))=(List.range n).any p:=by
 unfold inV;rw[any_map]
 congr 1
 funext r;show eqV (V.bl _) (V.bl true)=p r;cases p r<;> rfl
theorem xj{a:Type}(p:a->Bool)(xs:List a):inV (V.bl true) (xs.map λr=>V.bl (p r))=xs.any p:=by
 unfold inV;rw[any_map]
 congr 1
 funext r;show eqV (V.bl _) (V.bl true)=p r;cases p r<;> rfl
theorem BP(a:Int)(b:ZK):inV (V.int a) (b.map V.int)=decide (a∈b):=by
 unfold inV
 induction b with
 | nil=>rfl
 | cons c r d=>
   show((c==a)||_)=_
   grind
theorem xk(a:ZK):(a.map V.int).all eD=true:=by simp[eD]
theorem xn(T:Txt K mg):↥2 "_law_cut" ["_law_row_here","_law_shift"] (Ep K):=by
 refine T.bo.cal cf (λH vs Q E h=>?_)
 .obtain⟨a,xs,y,rfl,hs,keep,b7,hb,s0,kk⟩:=h;refine%[rfl|λf c2 A outer s hr=>?_];have get:∀i:Int,0<=i->i<6->∃c,atI (xs.map V.int) i=some (V.int c)/\0<=c/\c<9973:=λi h0 h1=>by
   obtain⟨c,e,hm⟩:=jH xs h0 ⋯;exact%[c,e|hb c hm]
  obtain⟨c0,g0,l0,u0⟩:=get 0 (by decide) (by decide);refine%[_,%["JCI2HvEHaP0EEC~A3lmHvEHaHhP0EEEC~A4lmqbHaHhP0EEEEC~[5lmwi?1T~T0~BE~BHvE2c0?2xF~0A0AS1AS2BCI6QBCX+AS3B~U7lmC~C8mli?3TS5c0?4xP0S1DZpj6A~V~WRAwi?5T8c0?6xF~nA0AS1BBBC~C9mli?7+AEB~10?8lm~DK<nwi?9TS1c0?:xq<S10S0DGgA~V~WRA6BA9B",cf.nd,(show bZ (af dz) ["_law_row_here","_law_shift","_law_wide","_law_high","_law_wild","_law_columns","_law_rows","_law_k","_law_signs","_law_there"] _ ["_law_number","_law_high","_law_wild"] [(1,3),(2,4)]=true from by decide +kernel),(show(["_law_number","_law_high","_law_wild"]:ZB).Nodup from by decide +kernel),(show bZ (af dz) ["_law_row_here","_law_shift","_law_wide","_law_high","_law_wild","_law_columns","_law_rows","_law_k","_law_signs","_law_there"] _ ["_law_column_here","_law_k"] [(1,7)]=true from by decide +kernel),(show(["_law_column_here","_law_k"]:ZB).Nodup from by decide +kernel),(show bZ (af dz) ["_law_row_here","_law_shift","_law_wide","_law_high","_law_wild","_law_columns","_law_rows","_law_k","_law_signs","_law_there"] _ ["_law_at","_law_shift"] [(1,1)]=true from by decide +kernel),(show(["_law_at","_law_shift"]:ZB).Nodup from by decide +kernel),(show bZ (af dz) ["_law_row_here","_law_shift","_law_wide","_law_high","_law_wild","_law_columns","_law_rows","_law_k","_law_signs","_law_there"] _ ["_law_at","_law_columns"] [(1,5)]=true from by decide +kernel),(show(["_law_at","_law_columns"]:ZB).Nodup from by decide +kernel),(show bZ _ ["_law_at","_law_columns"] _ ["_law_column_here","_law_at"] [(1,0)]=true from rfl),(show(["_law_column_here","_law_at"]:ZB).Nodup from by decide +kernel)|hr]|?_]
  show bh _ _ _ [!a,some (.int y),none,none,none,none,none,none,none,none] H;refine am λD1 k1 _=>?_
  lk;refine%[_,hs,_,g0,c0,rfl,by decide|k1 _ _ (am λD2 k2 _=>?_)];lk;refine%[_,hs,_,g0,c0,rfl,%[by decide|by decide],by decide|k2 _ _ (am λD3 k3 _=>?_)];lk;refine%[_,hs,_,g0,c0,rfl,%[by decide|by decide],by decide|k3 _ _ (am λD4 k4 _=>?_)];have w1:1<=1+c0%5:=by lia
  have w5:1+c0%5<=5:=by lia
  have i1:1<=1+c0/5%6:=by lia
  have i6:1+c0/5%6<=6:=by lia
  generalize c3:1+c0%5=wd at w1 w5
  generalize 1+c0/5%6=hi at i1 i6
  generalize decide (c0/30%8=0)=v
  refine aO λC N=>?_
  lk;refine .inl %[_,hs|λp hp=> .inl %[%[_|SqL.of aa]|N _ _ λD hD=>?_]];rw[sq xs (by decide) ⋯ ⋯]at hD ⊢;have a4:((xs.drop (Int.toNat 1)).take ((1+wd).toNat-Int.toNat 1)).length=wd.toNat:=by
   rw[Yd,Y9,b7];rw[show(1+wd).toNat=wd.toNat+1 by lia];exact Nat.min_eq_left ⋯
  have a5:∀x∈(xs.drop (Int.toNat 1)).take ((1+wd).toNat-Int.toNat 1),0<=x/\x<9973:=λx hx=>hb x (List.mem_of_mem_drop (mem_of_mem_take hx))
  generalize (xs.drop (Int.toNat 1)).take ((1+wd).toNat-Int.toNat 1)=ys at a4 a5 hD ⊢
  have a6:ae H (upd H p (.lst (ys.map V.int))):=ae.upd hp;have ag:upd H p (.lst (ys.map V.int)) p=some (.lst (ys.map V.int)):=aa
  generalize upd H p (.lst (ys.map V.int))=b9 at a6 ag hD ⊢
  refine bL (J:=Itl K p) (n:=wd.toNat) (D:=D) (λi zs m g=>(∃o,m=[o,some (.int hi),some (.bl v)])/\ae b9 g/\g D=some (.lst zs)/\∃b:List (Addr×ZK),zs=b.map (λq=>V.ref q.1)/\b.length=i/\qg g b/\∀q∈b,q.1≠D/\q.2.length=hi.toNat/\jC v q.2)
   %[%[none|rfl],ae.upd hD,aa,[],rfl,rfl,λq B=>(nomatch B)|λq B=>(nomatch B)]
   (λi _ _ g a7 ⟨_,d,_⟩=>%[_,V.int (ys[i]'⋯),SqL.of (d _ _ ag)|by simp[show i<ys.length by lia]]) (λ_ _ g ⟨_,d,_⟩=>%[_,SqL.of (d _ _ ag)|by simp[a4]]) ?_ ?_
  .rintro i zs m g a7 ⟨⟨o,rfl⟩,d,a8,b,rfl,I,ai,O⟩ x H2 ⟨e2,hx⟩;subst e2;have a9:i<ys.length:=by lia
   have t:=hx _ (SqL.of (d _ _ ag));rw[Zk,Z4 a9]at t;obtain rfl:x=V.int ys[i]:=(Z9 t).symm;lk;refine%[_,_,_,rfl,(a5 _ (Y5 a9)).1,i1,i6|λl H3 ca a1 bb bf bl cd=>?_];have bm:l≠D:=λe=>by rw[e,a8]at bb;cases bb
   refine CK.mk a7 (a1 _ _ a8) (by rw[Z5,I];exact aJ ⋯) %[%[_|rfl],ae.set (d.trans a1) hD,aa,b++[(l,ca)],by rw[Zc];rfl,by rw[Z8,I];rfl,λq B=>?_|λq B=>?_]
   .rcases X4 B with z|z
    .rw[aj (O q z).1];exact a1 _ _ (ai q z)
    .rw[X5 z,aj bm];exact bf
   .rcases X4 B with z|z
    .exact O q z
    .rw[X5 z];exact%[bm,bl|cd]
  rintro zs m H4 ⟨_,ch,U,b,rfl,I,ai,O⟩;have a2:ae H H4:=a6.trans ch;refine k4 _ _ (am λD5 k5 _=>?_);lk;refine%[Yy _|λR hR=>k5 _ _ (am λD6 k6 _=>ax λC N=>?_)];lk;have c1:(b.map (·.2)).length=wd.toNat:=by rw[Z5];exact I
  refine%[⋯,⋯|N _ _ (cO (λi m g=>∃o7 o8,m=[!a,some (.int y),some (.int wd),some (.int hi),some (.bl v),!D,!R,o7,o8,none]/\ae H4 g/\g R=some (.lst (((List.range i).map (ik (b.map (·.2)) y)).map V.str)))
   %[_,_,rfl,ae.upd hR|aa] ?_ ?_)]
  .rintro i m H5 c4 ⟨o7,o8,rfl,j,al⟩;show bh _ _ _ [!a,some (.int y),some (.int wd),some (.int hi),some (.bl v),!D,!R,some (.int (0+i)),o8,none] H5;rw[Int.zero_add];refine am λD7 k7 _=>aO λC N=>?_
   lk;refine .inl %[%[_|SqL.of (j _ _ U)]|N _ _ λE hE=>?_];refine bL (J:=Itl K D) (n:=wd.toNat) (D:=E) (λq zs m g=>(∃o,m=[o,some (.int i)])/\ae H5 g/\g E=some (.lst zs)/\zs=((b.take q).map (λp=>p.2.getD i 0)).map V.int)
    %[%[none|rfl],ae.upd hE,aa|rfl]
    (λq _ _ g B ⟨_,d,_⟩=>%[_,V.ref (b[q]'⋯).1,SqL.of (d _ _ (j _ _ U))|by simp[show q<b.length by lia]]) (λ_ _ g ⟨_,d,_⟩=>%[_,SqL.of (d _ _ (j _ _ U))|by simp[I]]) ?_ ?_
   .rintro q zs m g B ⟨⟨o,rfl⟩,d,cl,M⟩ x H2 ⟨e2,hx⟩;subst e2;have u:q<b.length:=by lia
    have t:=hx _ (SqL.of (d _ _ (j _ _ U)));rw[Zk,Z4 u]at t;obtain rfl:x=V.ref b[q].1:=(Z9 t).symm;lk;have hm:=Y5 u;refine%[_,SqL.of (d _ _ (j _ _ (ai _ hm))),V.int (b[q].2.getD i 0),?_|?_]
    .refine cu ?_;rw[Zk,cX (O _ hm).2.1 ⋯];rfl
    .refine CK.mk B cl (by rw[M,Z5,Z5,Yd];exact aJ ⋯) %[%[_|rfl],ae.set d hE,aa|?_];rw[M,Yw,Zc,Zc,Z4 u];rfl
   rintro zs m H6 ⟨_,L,an,M⟩;rw[Zm ⋯]at M;refine k7 _ _ (aB λD8 k8 _=>?_);have bt:=j.trans L;lk;refine%[.inl %[_|SqL.of (L _ _ al)]|aO λC N=>?_];lk;refine .inl %[%[_|SqL.of an]|N _ _ λF hF=>?_];refine bL (J:=Itl K E) (n:=wd.toNat) (D:=F) (λq ts m g=>(∃o,m=[o,some (.int y)])/\ae H6 g/\g F=some (.lst ts)/\ts=(((b.take q).map (λp=>sg (p.2.getD i 0) y)).map sgn).map V.str)
    %[%[none|rfl],ae.upd hF,aa|rfl]
    (λq _ _ g B ⟨_,d,_⟩=>%[_,V.int ((b[q]'⋯).2.getD i 0),SqL.of (d _ _ an)|by rw[M];simp[show q<b.length by lia]]) (λ_ _ g ⟨_,d,_⟩=>%[_,SqL.of (d _ _ an)|by rw[M];simp[I]]) ?_ ?_
   .rintro q ts m g B ⟨⟨o,rfl⟩,d,a3,Y⟩ x H2 ⟨e2,hx⟩;subst e2;have u:q<b.length:=by lia
    have t:=hx _ (SqL.of (d _ _ an));rw[M,Zk,Zk,Z4 u]at t;obtain rfl:x=V.int (b[q].2.getD i 0):=(Z9 t).symm;lk;refine%[_,_,rfl,s0|?_];refine CK.mk B a3 (by rw[Y,Z5,Z5,Z5,Yd];exact aJ ⋯) %[%[_|rfl],ae.set d hF,aa|?_];rw[Y,Yw,Zc,Zc,Zc,Z4 u];rfl
   rintro ts m H7 ⟨_,b0,co,Y⟩;rw[Zm ⋯]at Y;lk;refine%[(b.map λp=>sg (p.2.getD i 0) y).map sgn,by rw[<-Y];exact SqL.of co,?_,_,b0 _ _ (L _ _ al),by rw[Z5,Z5,Yb];exact aJ ⋯|k8 _ _ %[_,_,rfl,ae.set (bt.trans b0) hR|?_]]
   .rw[vo,Z5,Z5,show(Str.ofString "").length=0 from rfl]
    lia
   .rw[aa,range_succ,Zc,Zc,show Txt.join (Str.ofString "") ((b.map λp=>sg (p.2.getD i 0) y).map sgn)=Str.join (Str.ofString "") ((b.map λp=>sg (p.2.getD i 0) y).map sgn)from StrLaws.glued_eq_join _ _,tW];have e:ik (b.map (·.2)) y i=⟨(b.map λp=>sg (p.2.getD i 0) y).toArray⟩:=by
     unfold ik;rw[Yj];rfl
    rw[<-e];rfl
  .rintro m H5 ⟨o7,o8,rfl,j,al⟩;refine k6 _ _ (am λD7 k7 _=>aO λC N=>?_);lk;refine%[by decide,by decide|N _ _ λF hF=>?_];refine bL (J:=Itr 0 8) (n:=8) (D:=F) (λq ts m g=>(∃o,m=[o,!D])/\ae H5 g/\g F=some (.lst ts)/\ts=(((List.range q).filter λa:Nat=>(b.map (·.2)).any λc=>decide ((a:Int)∈c)).map λa:Nat=>(a:Int)).map V.int)
    %[%[none|rfl],ae.upd hF,aa|rfl] (λq _ _ g B ⟨_,d,_⟩=>B) (λ_ _ g ⟨_,d,_⟩=>Zh _) ?_ ?_
   .rintro q ts m g B ⟨⟨o,rfl⟩,d,a3,Y⟩ x H2 ⟨e2,e3⟩;subst e2 e3;lk;refine aO λC N=>?_
    lk;have as:=d _ _ (j _ _ U);refine .inl %[%[_|SqL.of as]|N _ _ λG hG=>?_];refine bL (J:=Itl K D) (n:=wd.toNat) (D:=G) (λr zs m H3=>(∃o,m=[o,some (.int q)])/\ae H2 H3/\H3 G=some (.lst zs)/\zs=(b.take r).map (λp=>V.bl (decide ((q:Int)∈p.2))))
     %[%[none|rfl],ae.upd hG,aa|rfl]
     (λr _ _ H3 b1 ⟨_,s3,_⟩=>%[_,V.ref (b[r]'⋯).1,SqL.of (s3 _ _ as)|by simp[show r<b.length by lia]]) (λ_ _ H3 ⟨_,s3,_⟩=>%[_,SqL.of (s3 _ _ as)|by simp[I]]) ?_ ?_
    .rintro r zs m H3 b1 ⟨⟨o,rfl⟩,s3,ct,M⟩ x c5 ⟨e2,hx⟩;subst e2;have u:r<b.length:=by lia
     have t:=hx _ (SqL.of (s3 _ _ as));rw[Zk,Z4 u]at t;obtain rfl:x=V.ref b[r].1:=(Z9 t).symm;have hm:=Y5 u;lk;refine%[_,.inl (SqL.of (s3 _ _ (d _ _ (j _ _ (ai _ hm))))),rfl,xk _|?_];rw[BP];refine CK.mk b1 ct (by rw[M,Z5,Yd];exact aJ ⋯) %[%[_|rfl],ae.set s3 hG,aa|?_];rw[M,Yw,Zc,Z4 u];rfl
    rintro zs m H3 ⟨_,s3,cM,M⟩;rw[Zm ⋯]at M;have b2:=s3 _ _ a3;lk;refine%[_,.inl (SqL.of cM),rfl,by rw[M];simp[eD]|?_];rw[M,xj];have any:(b.any λp=>decide ((q:Int)∈p.2))=(b.map (·.2)).any λc=>decide ((q:Int)∈c):=by rw[any_map];rfl
    rw[any];have b3:ts.length<sizeLine:=by
     rw[Y,Z5,Z5];have:=Ya (λa:Nat=>(b.map (·.2)).any λc=>decide ((a:Int)∈c)) (List.range q);rw[Yb]at this;exact aJ ⋯
    refine bv (λhb=>?_) λhb=>?_
    .refine CK.mk B b2 b3 %[%[_|rfl],ae.set (d.trans s3) hF,aa|?_];rw[Y,range_succ,Zz,Zc,Zc];rw[show List.filter (λa:Nat=>(b.map (·.2)).any λc=>decide ((a:Int)∈c)) [q]=[q]from by rw[filter_cons,if_pos hb];rfl];rfl
    .refine CN.mk B %[%[_|rfl],d.trans s3,b2|?_];rw[Y,range_succ,Zz,Zc,Zc];rw[show List.filter (λa:Nat=>(b.map (·.2)).any λc=>decide ((a:Int)∈c)) [q]=[]from by rw[filter_cons,if_neg hb];rfl];simp
   rintro ts m H6 ⟨_,L,b4,Y⟩;refine k7 _ _ ?_;lk;have ab:∀c∈b.map (·.2),c.length=hi.toNat/\jC v c:=λc hc=>by
    obtain⟨p,hp,rfl⟩:=X6 hc;exact(O p hp).2
   have a0:bX (drawn (b.map (·.2)) hi.toNat y):=r0 ⋯ ⋯ ⋯ ⋯ ab;have b5:H5 R=some (.lst ((drawn (b.map (·.2)) hi.toNat y).map V.str)):=al;refine%[drawn (b.map (·.2)) hi.toNat y,SqL.of (L _ _ b5),?_,#[2]|λp hp=>?_]
   .have:=a0.sum;have:=a0.high;rw[show(Str.ofString "\n").length=1 from rfl]
    lia
   .have b6:ae H (upd H6 p (.tup [V.str (Txt.join (Str.ofString "\n") (drawn (b.map (·.2)) hi.toNat y)),V.ref F])):=(a2.trans (j.trans L)).trans (ae.upd hp);refine kk p F _ (b.map (·.2)) hi.toNat v b6 ((a2.trans (j.trans L)).free hp) ((a2.trans j).free hF) (λe=>by rw[e,b4]at hp;cases hp) ?_ ?_ ⋯ ⋯ ⋯ ⋯ ab
    .rw[aa,show Txt.join (Str.ofString "\n") (drawn (b.map (·.2)) hi.toNat y)=Str.join (Str.ofString "\n") (drawn (b.map (·.2)) hi.toNat y)from StrLaws.glued_eq_join _ _];rfl
    .rw[ae.upd hp F _ b4,Y];rfl
def xo:Sp:=λvs H Q _=>∃z:Str,vs=[.str z]/\z.length<=1000/\∀a,ae H a->Q (.bl (pJ z)) a
def uF:Sp:=λvs H Q _=>∃row a:Str,vs=[.str row,.str a]/\row.length<=1000/\a.length<=1000/\∀b,ae H b->Q (.bl (eG row a)) b
def nD(K:ZA):Sp:=λvs H Q _=>∃a rows,vs=[.ref a]/\SqL K H a (rows.map V.str)/\(rows.map (·.length)).sum<=3000/\(∀r∈rows,r.cps.toList.all okc=true)/\
 ∀l b ss,ae H b->H l=none->b l=some (.lst (ss.map V.str))->ss.Perm (aH ((cH rows).map sgn))->PyProof.Rows.sortedS ss=true->Q (.ref l) b
def uG:Sp:=λvs H Q _=>∃rows:ZB,vs=[.str (Str.join nl rows)]/\bX rows/\∀l a,ae H a->H l=none->a l=some (.lst (rows.map V.str))->Q (.ref l) a
theorem iI(z:Str)(i:Nat)(c:Nat)(h:z.cps[i]? =some c):(z.cps.toList.take i++[c])=z.cps.toList.take (i+1):=by
 have h':z.cps.toList[i]? =some c:=by simpa using h
 obtain⟨a,e⟩:=X3 h';rw[List.take_succ_eq_append_getElem a,e]
theorem z8(c d:Nat):((⟨([c].toArray)⟩:Str)=⟨([d].toArray)⟩)↔c=d:=by
 simp_all
theorem mG(c:Nat):((⟨([c].toArray)⟩)=Str.ofString ".")↔c=46:=z8 c 46
theorem z9(T:Txt K mg):↥1 "is_row" ["row"] xo:=by
 refine T.aZ.cal xf (λH vs Q E h=>?_)
 .obtain⟨z,rfl,N,k⟩:=h;refine%[rfl|λf v A outer s M=>?_];refine%[_,%["JDGz~X__EUVA0B~2(~Y~ZAwi?1T0c0?2x~oqb0~E(q<0~pB",0,(show bZ (af jE) ["row"] _ ["sign"] []=true from by decide +kernel)|(show(["sign"]:ZB).Nodup from by decide +kernel)]|?_];show iV _ _ [-z] H;lk;refine%[cm ⋯|bv (λm=>bv (λp=>?_) λp=>?_) λm=>?_]
  .refine aO λt y=>?_
   lk;refine y _ _ λD u=>?_
   refine bL (J:=Its z) (n:=z.cps.size) (D:=D) (λi ys d a=>(∃o,d=[o])/\ae H a/\a D=some (.lst ys)/\ys=(z.cps.toList.take i).map (λc=>V.bl (okc c))) %[%[none|rfl],ae.upd u,aa|rfl]
    (λi _ _ _ hi _=>hi) (λ_ _ _ _=>Zh _) ?_ ?_
   .rintro i ys d a hi ⟨⟨o,rfl⟩,q,r,g⟩ x B ⟨C,c,G,rfl⟩;subst C;have j:ys.length=i:=by
     rw[g,Z5,Yd];have:z.cps.toList.length=z.cps.size:=by simp
     lia
    have I:i<1000:=by
     have:z.length=z.cps.size:=rfl
     lia
    have put:∀b:Bool,b=okc c->CK D z.cps.size i (λi ys d a=>(∃o,d=[o])/\ae H a/\a D=some (.lst ys)/\ys=(z.cps.toList.take i).map (λc=>V.bl (okc c))) ys [some (.str ⟨([c].toArray)⟩)] (.bl b) B:=λb L=>
     CK.mk hi r (by rw[j];exact aJ ⋯) %[%[_|rfl],ae.set q u,aa|by rw[L,g,<-iI z i c G,Zc];rfl]
    lk;refine bv (λl=>put true ?_) λl=>put _ ?_
    .have:=(mG c).mp (Zn l);unfold okc;rw[Ze this,Bool.true_or]
    .have l:=λe=>l (Ze e)
     have: ¬ c=46:=λe=>l ((mG c).mpr e)
     unfold okc;rw[Zg this,Bool.false_or,yO];rfl
   .rintro ys d a ⟨_,q,r,g⟩;lk;refine%[z.cps.toList.map okc,?_|?_]
    .have e:z.cps.toList.take z.cps.size=z.cps.toList:=by
      apply Zm;simp
     rw[e]at g;have:(z.cps.toList.map okc).map V.bl=ys:=by rw[g,Yj];rfl
     rw[this];exact SqL.of r
    .have e:pJ z=(z.cps.toList.map okc).all id:=by
      unfold pJ;rw[m,p,all_map]
      all_goals rfl
     rw[<-e];exact k a q
  .rw[Bool.not_eq_true]at p;have e:pJ z=false:=by unfold pJ;rw[p,Bool.and_false,Bool.false_and]
   rw[e]at k;exact k H (ae.refl H)
  .rw[Bool.not_eq_true]at m;have e:pJ z=false:=by unfold pJ;rw[m,Bool.false_and,Bool.false_and]
   rw[e]at k;exact k H (ae.refl H)
noncomputable def kM(p:Nat×Nat):Bool:=!decide (p.2=46)||decide (p.1=46)
theorem sr(x y:Str)(i c d:Nat)(b:x.cps[i]? =some c)(f:y.cps[i]? =some d):((List.zip x.cps.toList y.cps.toList).take i++[(c,d)])=(List.zip x.cps.toList y.cps.toList).take (i+1):=by
 have h:(List.zip x.cps.toList y.cps.toList)[i]? =some (c,d):=List.getElem?_zip_eq_some.mpr %[by simpa using b|by simpa using f];obtain⟨a,e⟩:=X3 h;rw[List.take_succ_eq_append_getElem a,e]
theorem mH(T:Txt K mg):↥1 "lies_beneath" ["row","above"] uF:=by
 refine T.b0.cal kZ (λH vs Q E h=>?_)
 .obtain⟨row,a,rfl,M,N,k⟩:=h;refine%[rfl|λf L A outer s hr=>?_];refine%[_,%["JCNKrUVA0BUVA1BDGnODG~Y~ZAwi?1~qA1A0BeMc0?2Mc1?2fx~oqr1~E(qb0~EB",0,(show bZ (af cZ) ["row","above"] _ ["high","low"] []=true from by decide +kernel)|(show(["high","low"]:ZB).Nodup from by decide +kernel)]|?_]
  show bh _ _ _ [-row,-a] H;refine am λD1 O U=>?_
  lk;refine%[cm ⋯,cm ⋯|bv (λj=>?_) λj=>?_]
  .have j: ¬ ((row.length:Int)=a.length):=by simpa using j
   have e:eG row a=false:=by
    unfold eG;rw[Zg ⋯,Bool.false_and]
   rw[e]at k;exact U _ _ (k H (ae.refl H))
  .have j:row.length=a.length:=by
    have:(row.length:Int)=a.length:=by simpa using j
    lia
   refine O _ _ ?_;have t:row.cps.size=a.cps.size:=j;have u:(List.zip a.cps.toList row.cps.toList).length=a.cps.size:=by rw[length_zip];simp[t]
   lk;refine aO λC Y=>?_
   lk;refine Y _ _ λD G=>?_
   refine bL (J:=Itz a row) (n:=a.cps.size) (D:=D) (λi ys l g=>(∃q r,l=[q,r])/\ae H g/\g D=some (.lst ys)/\ys=((List.zip a.cps.toList row.cps.toList).take i).map (λp=>V.bl (kM p))) %[%[none,none|rfl],ae.upd G,aa|rfl]
    (λi _ _ _ hi _=>%[hi|⋯]) (λ_ _ _ _=>%[Zh _,⋯|.inl rfl]) ?_ ?_
   .rintro i ys l g hi ⟨⟨q,r,rfl⟩,v,y,m⟩ x H2 ⟨c,d,TT,hc,hd,I,rfl,rfl⟩;have o:ys.length=i:=by rw[m,Z5,Yd,u];lia
    have ab:i<1000:=by
     have:a.length=a.cps.size:=rfl
     lia
    have z:ae H (upd g TT (.tup [.str ⟨([c].toArray)⟩,.str ⟨([d].toArray)⟩])):=v.trans (ae.upd I);have B:upd g TT (.tup [.str ⟨([c].toArray)⟩,.str ⟨([d].toArray)⟩]) D=some (.lst ys):=ae.upd I _ _ y;have put:∀b:Bool,b=kM (c,d)->CK D a.cps.size i (λi ys l g=>(∃q r,l=[q,r])/\ae H g/\g D=some (.lst ys)/\ys=((List.zip a.cps.toList row.cps.toList).take i).map (λp=>V.bl (kM p))) ys [some (.str ⟨([c].toArray)⟩),some (.str ⟨([d].toArray)⟩)] (.bl b) (upd g TT (.tup [.str ⟨([c].toArray)⟩,.str ⟨([d].toArray)⟩])):=λb eb=>
     CK.mk hi B (by rw[o];exact aJ ⋯) %[%[_,_|rfl],ae.set z G,aa|by rw[eb,m,<-sr a row i c d hc hd,Zc];rfl]
    lk;refine%[_,SqT.of aa,rfl,_,_,rfl,_,_,rfl,rfl,rfl|?_];simp only[V.str.injEq,mG];refine bv (λh=>put true ?_) λh=>%[trivial|put _ ?_]
    .unfold kM;rw[h,Bool.true_or]
    .unfold kM;rw[Bool.not_eq_true]at h;rw[h,Bool.false_or]
   .rintro ys l g ⟨_,v,y,m⟩;lk;refine%[(List.zip a.cps.toList row.cps.toList).map kM,?_|?_]
    .have e:(List.zip a.cps.toList row.cps.toList).take a.cps.size=List.zip a.cps.toList row.cps.toList:=Zm ⋯;rw[e]at m;have:((List.zip a.cps.toList row.cps.toList).map kM).map V.bl=ys:=by rw[m,Yj];rfl
     rw[this];exact SqL.of y
    .have e:eG row a=((List.zip a.cps.toList row.cps.toList).map kM).all id:=by
      unfold eG;rw[Ze j,all_map,Bool.true_and];rfl
     rw[<-e];exact k g v
theorem xp(h:(rows.map (·.length)).sum<=3000):(Str.join (Str.ofString "") rows).length<=3000:=by
 have:=StrLaws.join_length_le (Str.ofString "") rows;rw[show(Str.ofString "").length=0 from rfl]at this
 lia
theorem jI(T:Txt K mg):↥1 "letters_in" ["rows"] (nD K):=by
 refine T.b1.cal nv (λH vs Q E h=>?_)
 .obtain⟨a,rows,rfl,N,g,u,k⟩:=h;refine%[rfl|λf M A outer s hr=>?_];refine%[_,%["JDG=~rA~F~aAwi?1T~V~WRA0Bc0?2~DKr0~E0BB",0,(show bZ (af d8) ["rows"] _ ["sign"] []=true from by decide +kernel)|(show(["sign"]:ZB).Nodup from by decide +kernel)]|?_];show iV _ _ [!a] H;lk;refine aO λC O=>?_
  lk;refine%[rows,N,by rw[show(Str.ofString "").length=0 from rfl];lia|?_];rw[show Txt.join (Str.ofString "") rows=Str.join (Str.ofString "") rows from StrLaws.glued_eq_join _ _];have j:=xp g;have b:=jZ u;unfold cH at b k
  generalize Str.join (Str.ofString "") rows=z at j b k ⊢
  refine O _ _ λD G=>?_
  refine bL (J:=Its z) (n:=z.cps.size) (D:=D) (λi ys v m=>(∃o,v=[o])/\ae H m/\m D=some (.lst ys)/\ys=((z.cps.toList.take i).filter (λc=>decide (c≠46))).map (λc=>V.str (sgn c))) %[%[none|rfl],ae.upd G,aa|rfl]
   (λi _ _ _ hi _=>hi) (λ_ _ _ _=>Zh _) ?_ ?_
  .rintro i ys v m hi ⟨⟨o,rfl⟩,r,t,d⟩ x H2 ⟨U,c,I,rfl⟩;subst U;have L:ys.length<=i:=by
    rw[d,Z5];have:=Ya (λc=>decide (c≠46)) (z.cps.toList.take i);rw[Yd]at this
    lia
   have Y:i<3000:=by
    have:z.length=z.cps.size:=rfl
    lia
   lk;simp only[mG];refine bv (λy=>?_) λy=>?_
   .refine CK.mk hi t (aJ ⋯) %[%[_|rfl],ae.set r G,aa|?_];rw[<-iI z i c I,Zz,Zc,d];have:decide (c≠46)=true:=by simpa using y
    rw[filter_cons,this];rfl
   .refine CN.mk hi %[%[_|rfl],r,t|?_];rw[<-iI z i c I,Zz,Zc,d];have:decide (c≠46)=false:=by simpa using y
    rw[filter_cons,this];simp
  .rintro ys v m ⟨_,r,t,d⟩;have e:z.cps.toList.take z.cps.size=z.cps.toList:=by
    apply Zm;simp
   rw[e]at d;lk;have ab:=Ya (λc=>decide (c≠46)) z.cps.toList;have ag:z.cps.toList.length=z.length:=by simp[Str.length]
   refine%[(z.cps.toList.filter (λc=>decide (c≠46))).map sgn,?_,by rw[Z5];lia|λS hS=>%[_,aa,?_|λl ss p hp B=>?_]]
   .rw[Yj];have:(z.cps.toList.filter (λc=>decide (c≠46))).map (V.str ∘ sgn)=ys:=by rw[d];rfl
    rw[this];exact SqL.of t
   .have:=lS b
    lia
   .have q:ae H (upd m S (i4 w S (aH ((z.cps.toList.filter (λc=>decide (c≠46))).map sgn)))):=r.trans (ae.upd hS);exact k l _ ss (q.trans (ae.upd p)) (q.free p) aa hp B
theorem ki(T:Txt K mg):↥2 "rows_of" ["text"] uG:=by
 refine T.aY.cal gu (λH vs Q E h=>?_)
 .obtain⟨rows,rfl,a,k⟩:=h;refine%[rfl|λf as A outer s N=>?_];obtain⟨wd,w1,w2,hw⟩:=a.wide;have O:=a.text;have u:=a.split;refine%[_,%["JCNkd!$A0A?1BD)OCI1~3~40ARBCX~NA1BeML2ML3fCNYoKb2~5skdF~6A3BD)ODNYuK~O2E&kdF~7A3AP1H[2EBD)OCNKbUVAF~sA1BBED)ODG1",gu.nd,(blE (v:= .ty "str") rfl T.ab boot_str rfl rfl rfl)|N]|?_]
  generalize Str.join nl rows=z at O u
  show bh _ _ _ [-z,none,none,none] H;refine am λD1 k1 _=>?_
  lk;refine%[.type "str",.str z,true,by rfl|qQ (k1 _ _ (am λD2 k2 _=>?_))];lk;refine%[by decide,Y8 (by lia:z.length+2<=5000) (by decide)|λl hl=>k2 _ _ ?_];rw[show(Str.ofString "\n")=nl from rfl,u];refine am λD3 k3 _=>ax λai hK=>?_
  lk;have U:ae H (upd H l (.lst (rows.map V.str))):=ae.upd hl;refine%[_,SqL.of aa|hK _ _ (jv (λi L g=>∃Y o3,L=[-z,!l,Y,o3]/\ae H g/\g l=some (.lst (rows.map V.str))) %[none,none,rfl,U|aa] (λi L g _ ⟨_,_,_,_,q⟩=>SqL.of q) ?_ ?_)]
  .rintro i x TT L g y ⟨Y,o3,rfl,sm,j⟩ hT;obtain⟨r,m,rfl⟩:∃r,rows[i]? =some r/\x=V.str r:=by
    rw[Zk]at y;cases e:rows[i]? with
    | none=>rw[e]at y;cases y
    | some r=>rw[e]at y;exact%[r,rfl|(Z9 y).symm]
   have al:i<rows.length:=(X3 m).1;have an:=a.high;have B:ae H (upd g TT (.tup [.int i,.str r])):=sm.trans (ae.upd hT);have o:upd g TT (.tup [.int i,.str r]) l=some (.lst (rows.map V.str)):=ae.upd hT _ _ j;have C:upd g TT (.tup [.int i,.str r]) TT=some (.tup [.int i,.str r]):=aa
   generalize upd g TT (.tup [.int i,.str r])=HT at B o C
   have G:r.length<=1000:=by
    have:r.length=wd:=hw r (Z7 m)
    lia
   refine%[_,SqT.of C,rfl,_,_,rfl,_,_,rfl,rfl|?_];show bh _ _ _ [-z,!l,some (.int i),-r] HT;refine am λD4 k4 _=>?_
   have go:∀p,ae HT p->D4.nx [-z,!l,some (.int i),-r] p:=by
    intro p b;refine k4 _ _ (aB λD5 k5 _=>?_);have I:∀M,ae HT M->D5.nx [-z,!l,some (.int i),-r] M:=λM n=>k5 _ _ %[_,_,rfl,B.trans n|n l _ o]
    lk;refine bv (λJ=>?_) λ_=>I _ b
    have J:0<(i:Int):=Zn J;obtain⟨d,rfl⟩:∃d,i=d+1:=%[i-1|⋯]
    have t:d<rows.length:=by lia
    have ab:rows[d]? =some rows[d]:=by simp[t]
    have e1:(((d+1:Nat):Int) -1)=(d:Int):=by lia
    refine%[_,SqL.of (b l _ o),.str rows[d],by rw[e1];exact cu (by simp[t]),r,rows[d],rfl,G,?_|λM n=>%[_,rfl|?_]]
    .have:rows[d].length=wd:=hw _ (Y5 t)
     lia
    .rw[a.beneath ab m];exact qQ (I _ (b.trans n))
   lk;rw[if_neg (by simp;lia)];refine%[r,rfl,G|λp b=>%[_,rfl|?_]];rw[a.row (Z7 m)];exact qQ (go p b)
  .rintro L g ⟨Y,o3,rfl,sm,j⟩;refine k3 _ _ ?_;lk;refine%[l,rows,rfl,SqL.of j,by have:=a.sum;lia,a.sign|λl2 p ss b a0 ag J a1=>%[_,.inl %[_,SqL.of ag|rfl]|?_]];rw[if_neg]
   .exact k l p (sm.trans b) hl (b l _ j)
   .intro h0;have h0:=Zn h0;rw[Z5]at h0;have:ss=[]:=length_eq_zero_iff.mp ⋯;rw[this]at J;have hm:=J.symm.eq_nil;obtain⟨c,hc⟩:=List.exists_mem_of_ne_nil _ a.signs_ne;have:sgn c∈aH ((cH rows).map sgn):=bp.mpr (X7 %[c,hc|rfl]);rw[hm]at this;cases this
noncomputable def oP(p:Nat×Nat):Option ZB:=if p.1≠46/\p.1≠p.2 then some [sgn p.1,sgn p.2]else none
noncomputable def mI(u r:Str):List ZB:=(List.zip u.cps.toList r.cps.toList).filterMap oP
theorem iu(H:Hp):aL H []:=λp a=>by cases a
theorem aT(h:aL H ps)(s:∀b z,H b=some (.tup z)->c b=some (.tup z)):aL c ps:=λp a=>%[(h p a).1|s _ _ (h p a).2]
theorem iJ(h:aL H ps)(a:q.2≠[])(b:H q.1=some (.tup (q.2.map V.str))):aL H (ps++[q]):=λp c=>by
 rcases X4 c with z|z
 .exact h p z
 .rw[X5 z];exact%[a|b]
theorem sA(a:aL H ps)(b:aL H qs):aL H (ps++qs):=λp c=>(X4 c).elim (a p) (b p)
def Fu:Sp:=λvs H Q _=>∃u r:Str,vs=[.str u,.str r]/\u.length<=40/\r.length=u.length/\∀l a ps,ae H a->H l=none->a l=some (.lst (ps.map λp=>V.ref p.1))->aL a ps->ps.map (·.2)=mI u r->Q (.ref l) a
def BQ:Sp:=λvs H Q _=>∃rows:ZB,vs=[.str (Str.join nl rows)]/\bX rows/\∀l a ss,ae H a->H l=none->a l=some (.lst (ss.map V.str))->ss.Perm (aH ((cH rows).map sgn))->PyProof.Rows.sortedS ss=true->Q (.ref l) a
theorem xq(T:Txt K mg):↥3 "letters" ["text"] BQ:=by
 refine T.b2.cal uC (λH vs Q E h=>?_)
 .obtain⟨rows,rfl,a,e⟩:=h;refine%[rfl|λf d A outer s b=>?_];refine%[_,%["JDGF~sAF~tA0BB",0|b]|?_];refine%[rows,rfl,a|λl r c t g=>%[l,rows,rfl,SqL.of g,by have:=a.sum;lia,a.sign|λi j ss m n o p q=>e i j ss (c.trans m) (c.free n) o p q]]
theorem je(T:Txt K mg):↥1 "meetings_between" ["above","row"] Fu:=by
 refine T.b4.cal iO (λH vs Q E h=>?_)
 .obtain⟨u,r,rfl,hu,ai,kk⟩:=h;refine%[rfl|λf ag A outer s hr=>?_];have al:u.length=u.cps.size:=rfl;have an:r.length=r.cps.size:=rfl;refine%[_,%["JDGwi?1~qA0A1BeMc0?2Mc1?2f~DYuKr0~E&Kr01gA0A1B",0,(show bZ (af cc) ["above","row"] _ ["high","low"] []=true from by decide +kernel)|(show(["high","low"]:ZB).Nodup from by decide +kernel)]|?_];show iV _ _ [-u,-r] H;lk;refine aO λab hK=>?_
  lk;refine hK _ _ λD N=>?_
  refine bL (J:=Itz u r) (n:=u.cps.size) (D:=D) (λi ys O l=>(∃o1 o2,O=[o1,o2])/\ae H l/\l D=some (.lst ys)/\ys.length<=i/\∃ps:ZG,ys=ps.map (λp=>V.ref p.1)/\aL l ps/\ps.map (·.2)=((List.zip u.cps.toList r.cps.toList).take i).filterMap oP)
   %[%[none,none|rfl],ae.upd N,aa,Zh _,[],rfl,iu _|rfl] (λi _ _ _ hi _=>%[hi|⋯]) (λ_ _ _ _=>%[Zh _,⋯|.inl rfl]) ?_ ?_
  .rintro i ys O l hi ⟨⟨o1,o2,rfl⟩,U,Y,L,ps,M,m,j⟩ x H2 ⟨c,d,TT,hc,hd,hT,rfl,rfl⟩;have t:=ae.upd (o:= .tup [.str ⟨([c].toArray)⟩,.str ⟨([d].toArray)⟩]) hT;have nx:=sr u r i c d hc hd;have a:=t _ _ Y;have B:upd l TT (.tup [.str ⟨([c].toArray)⟩,.str ⟨([d].toArray)⟩]) TT=some (.tup [.str ⟨([c].toArray)⟩,.str ⟨([d].toArray)⟩]):=aa;have g:aL (upd l TT (.tup [.str ⟨([c].toArray)⟩,.str ⟨([d].toArray)⟩])) ps:=λp I=>%[(m p I).1|t _ _ (m p I).2]
   have v:=U.trans t
   generalize upd l TT (.tup [.str ⟨([c].toArray)⟩,.str ⟨([d].toArray)⟩])=HT at t a B g v
   refine%[_,SqT.of B,rfl,_,_,rfl,_,_,rfl,rfl|?_];show AA _ _ [some (.str ⟨([c].toArray)⟩),some (.str ⟨([d].toArray)⟩)] HT _;lk;simp only[mG,z8];have as:D≠TT:=λe=>by rw[e,B]at a;cases a
   refine bv (λC=>bv (λG=>?_) λG=>?_) λC=>?_
   .have C:c≠46:=by simpa using C
    have G:c≠d:=by simpa using G
    refine%[show 2<=sizeLine from by decide|λp I=>?_];have y:=ae.upd (o:= .tup [V.str ⟨([c].toArray)⟩,V.str ⟨([d].toArray)⟩]) I;have a0:p≠D:=λe=>by rw[e,a]at I;cases I
    refine CK.mk hi (y _ _ a) (aJ ⋯) %[%[_,_|rfl],ae.set (v.trans y) N,aa,by rw[Z8,Yc];lia,ps++[(p,[sgn c,sgn d])],by rw[M,Zc];rfl,?_|?_]
    .have keep:∀b z,upd HT p _ b=some (.tup z)->upd _ D (.lst (ys++[V.ref p])) b=some (.tup z):=λb z e=>by
      have:b≠D:=λe2=>by rw[e2,y _ _ a]at e;cases e
      rw[aj this];exact e
     exact aT (iJ (aT g λb z e=>y _ _ e) ∅ (by rw[aa];rfl)) keep
    .rw[Zc,j,<-nx,List.filterMap_append];have:oP (c,d)=some [sgn c,sgn d]:=if_pos %[C|G];rw[Zy,this];rfl
   .have G:c=d:=by simpa using G
    refine CN.mk hi %[%[_,_|rfl],v,a,⋯,ps,M,g|?_];rw[j,<-nx,List.filterMap_append];have:oP (c,d)=none:=if_neg λq=>q.2 G
    rw[Zy,this];simp
   .have C:c=46:=by simpa using C
    refine CN.mk hi %[%[_,_|rfl],v,a,⋯,ps,M,g|?_];rw[j,<-nx,List.filterMap_append];have:oP (c,d)=none:=if_neg λq=>q.1 C
    rw[Zy,this];simp
  .rintro ys O l ⟨_,U,Y,L,ps,M,m,j⟩;rw[Zm (by rw[length_zip];simp;lia)]at j;exact kk D l ps U N (by rw[Y,M]) m j
theorem Aa{K:ZA}{xs ys:ZL}{g:TG}{s:TS}{D:iL}(Pv:Nat->St->Hp->Prop)(u:Pv 0 c H)(z:ys.length<=xs.length)(A:∀i c H,i<=ys.length->Pv i c H->SqL K H a xs/\SqL K H b ys)
 (B:∀i x y T c H,xs[i]? =some x->ys[i]? =some y->Pv i c H->H T=none->g (.ref T) c (upd H T (.tup [x,y])) λd l=>s {D with nx:=Pv (i+1),ct:=Pv (i+1),bk:=D.nx} d l) (C:∀c H,Pv ys.length c H->D.nx c H):
 ∃W:Nat->Nat->St->Hp->Prop,(∃m,W 0 m c H)/\∀i m c H,W i m c H->
  ((wK K a b).stop i H/\D.nx c H)\/((wK K a b).go i H/\∃N:St->Hp->Prop,(∀f h,N f h->∃t,t<m/\W (i+1) t f h)/\∀x h,(wK K a b).yld i H x h->g x c h λd l=>s {D with nx:=N,ct:=N,bk:=D.nx} d l):=by
 refine%[λi m c H=>m=ys.length-i/\i<=ys.length/\Pv i c H,%[ys.length,by simp,Yy _|u]|?_];rintro i m c H ⟨rfl,hi,p⟩;obtain⟨n,o⟩:=A i c H hi p;by_cases j:i<ys.length
 .have E:xs[i]? =some xs[i]:=by simp[show i<xs.length by lia]
  have G:ys[i]? =some ys[i]:=by simp[j]
  refine .inr %[%[xs,ys,_,_,n,o,E|G],Pv _,λf h I=>%[ys.length-(i+1),⋯,rfl,j|I]|λv h y=>?_];obtain⟨T,J,L,M,rfl,rfl,q,r⟩:=y;have q:=q xs n;have r:=r ys o;exact B i J L T c H q r p M
 .have e:i=ys.length:=by lia
  subst e;exact .inl %[%[xs,ys,n,o,⋯,Zh _|.inr rfl]|C c H p]
noncomputable def e7(rows:ZB)(i:Nat):List ZB:=(List.range i).flatMap λj=>mI (rows.getD j ⟨([].toArray)⟩) (rows.getD (j+1) ⟨([].toArray)⟩)
theorem qj(rows:ZB)(i:Nat):e7 rows (i+1)=e7 rows i++mI (rows.getD i ⟨([].toArray)⟩) (rows.getD (i+1) ⟨([].toArray)⟩):=by
 unfold e7;rw[range_succ,flatMap_append];simp
theorem uH(u r:Str):(mI u r).length<=u.length:=by
 refine Y8 (List.length_filterMap_le _ _) ?_;rw[length_zip];have:u.cps.toList.length=u.length:=by simp[Str.length]
 lia
theorem xt(h:k∈e7 rows (rows.length-1)):∃a b,k=[sgn a,sgn b]/\BM rows a b:=by
 obtain⟨j,d,g⟩:=mem_flatMap.mp h;have f:∀j h,rows.getD j ⟨([].toArray)⟩=rows[j]:=λj h=>by simp[h]
 have d:=mem_range.mp d;obtain⟨⟨a,b⟩,i,e⟩:=mem_filterMap.mp g;unfold oP at e
 split at e
 .rename_i h
  obtain⟨q,c⟩:=Yz i;rw[List.getElem?_zip_eq_some,f j ⋯,f _ ⋯]at c;exact%[a,b,(Z9 e).symm,h.1,h.2,j,q,rows[j],rows[j+1],Z4 _,Z4 _,by simpa using c.1|by simpa using c.2]
 .cases e
theorem xu(l:bX rows)(h:BM rows a b):Let rows a/\Let rows b:=by
 obtain⟨c,m,i,j,r,d,f,g,g1,g2⟩:=h;refine%[%[c,r,Z7 f|Z7 (by simpa using g1)],λe=>c (l.fall i r d f g j a b g1 g2 e),d,Z7 g|Z7 (by simpa using g2)]
theorem xv(rows:ZB)(h:rows≠[]):qL (rows.map V.str) (some 1) none=(rows.drop 1).map V.str:=by
 unfold qL;have a:=List.length_pos_iff.mpr h;rw[HT.sIx_none,show(some (1))=some ((1:Nat):Int)from rfl,HT.sIx_nat,Z5,Nat.min_eq_left a,<-List.map_drop,<-List.map_take];rw[Zm (by rw[Y9];exact Zh _)]
def BR:Sp:=λvs H Q _=>∃rows:ZB,vs=[.str (Str.join nl rows)]/\bX rows/\w8 rows/\∀l c ss,ae H c->H l=none->c l=some (.lst (ss.map λp=>V.ref p.1))->aL c ss->ss.length<=14->
 (∀t∈ss,∃a b,t.2=[sgn a,sgn b]/\Let rows a/\Let rows b)->(∀k,k∈ss.map (·.2)↔k∈e7 rows (rows.length-1))->Q (.ref l) c
theorem uI(T:Txt K mg):↥3 "meetings" ["text"] BR:=by
 refine T.b3.cal dJ (λH vs Q E h=>?_)
 .obtain⟨rows,rfl,c,⟨mm,ml,a7⟩,kk⟩:=h;refine%[rfl|λf b2 A outer s hr=>?_];obtain⟨wd,w1,w2,Y⟩:=c.wide;have hp:1<=rows.length:=c.pos;have bt:=c.high;have a8:rows≠[]:=List.length_pos_iff.mp hp;refine%[_,%["JCI1F~tA0BCI2QBCX~8A1A~T1~BE~9BeML3ML4fDZ~u~v2AF]AA3A4BBDG=~wA~F~xA2BB",dJ.nd|hr]|?_]
  show bh _ _ _ [some (.str (Str.join nl rows)),none,none,none,none] H;refine am λD1 k1 r1=>?_
  lk;refine%[rows,rfl,c|λR H1 s1 f1 hR=>k1 _ _ (am λD2 k2 r2=>?_)];lk;refine%[Yy _|λL hL=>k2 _ _ (am λD3 k3 r3=>ax λb0 hK=>?_)];have s2:=ae.upd (o:= .lst []) hL;have C:=s2 _ _ hR;have G:upd H1 L (.lst []) L=some (.lst []):=aa;have fL:H L=none:=s1.free hL;have ab:=s1.trans s2
  generalize upd H1 L (.lst [])=H2 at s2 C G ab
  lk;refine .inl %[_,SqL.of C|λp hp=>?_];rw[xv rows a8];have s3:=ae.upd (o:= .lst ((rows.drop 1).map V.str)) hp;have I:=s3 _ _ C;have ag:=s3 _ _ G;have J:upd H2 p (.lst ((rows.drop 1).map V.str)) p=some (.lst ((rows.drop 1).map V.str)):=aa;have ai:=ab.trans s3;have a9:L≠R:=λe=>by rw[e,hR]at hL;cases hL
  have bb:p≠L:=λe=>by rw[e,G]at hp;cases hp
  generalize upd H2 p (.lst ((rows.drop 1).map V.str))=H3 at s3 I ag J ai
  refine%[%[_|SqL.of I],%[_|SqL.of J]|hK _ _ (Aa (xs:=rows.map V.str) (ys:=(rows.drop 1).map V.str) (λi σ l=>(∃o3 o4,σ=[some (.str (Str.join nl rows)),!R,!L,o3,o4])/\ae H l/\l R=some (.lst (rows.map V.str))/\l p=some (.lst ((rows.drop 1).map V.str))/\
   ∃ps:ZG,l L=some (.lst (ps.map λq=>V.ref q.1))/\aL l ps/\ps.map (·.2)=e7 rows i/\ps.length<=40*i) %[%[none,none|rfl],ai,I,J,[],ag,iu _,rfl|Yy _] (by rw[Z5,Z5,Y9];lia) (λi σ l _ q=>%[SqL.of q.2.2.1|SqL.of q.2.2.2.1]) ?_ ?_)]
  .rintro i x y TT σ l hx hy ⟨⟨o3,o4,rfl⟩,sm,al,an,ps,M,g,n,as⟩ hT;rw[Zk]at hx hy;obtain⟨u,hu,rfl⟩:=map_eq_some_iff.mp hx;obtain⟨r,v,rfl⟩:=map_eq_some_iff.mp hy;rw[getElem?_drop,Nat.add_comm]at v;have b3:i+1<rows.length:=(X3 v).1;have ul:u.length=wd:=Y u (Z7 hu);have rl:r.length=wd:=Y r (Z7 v);have j:=ae.upd (o:= .tup [V.str u,V.str r]) hT;have a0:upd l TT (.tup [V.str u,V.str r]) TT=some (.tup [V.str u,V.str r]):=aa;have a1:=j _ _ al;have a2:=j _ _ an;have t:=j _ _ M;have B:aL (upd l TT (.tup [V.str u,V.str r])) ps:=aT g λb z e=>j _ _ e
   have a3:=sm.trans j
   generalize upd l TT (.tup [V.str u,V.str r])=HT at j a0 a1 a2 t B a3
   refine%[_,SqT.of a0,rfl,_,_,rfl,_,_,rfl,rfl|?_];refine aB λD4 k4 r4=>?_
   lk;refine%[.inl %[_|SqL.of t],u,r,rfl,⋯,⋯|λl4 H4 ps4 U f4 h4 a4 e4=>?_];have b4:l4≠L:=λe=>by rw[e,t]at f4;cases f4
   have b1:ps4.length<=40:=by
    have:(ps4.map (·.2)).length=(mI u r).length:=by rw[e4]
    rw[Z5]at this;have:=uH u r
    lia
   refine%[_,rfl,_,U _ _ t,_,h4,by rw[Z5,Z5];exact cm ⋯|k4 _ _ ?_];have N:∀b z,H4 b=some (.tup z)->upd H4 L (.lst ((ps.map λq=>V.ref q.1) ++ps4.map λq=>V.ref q.1)) b=some (.tup z):=λb z e=>by
    have:b≠L:=λe2=>by rw[e2,U _ _ t]at e;cases e
    rw[aj this];exact e
   have bf:R≠L:=Ne.symm a9;refine%[%[_,_|rfl],λb u' e=>?_,by rw[aj bf];exact U _ _ a1,by rw[aj bb];exact U _ _ a2,ps++ps4,by rw[aa,Zc],aT (sA (aT B λb z e=>U _ _ e) a4) N,?_|by rw[Z8];lia]
   .rw[aj (ap e fL)];exact U _ _ (a3 _ _ e)
   .rw[Zc,n,e4,qj];have g1:rows.getD i ⟨([].toArray)⟩=u:=by rw[Zb,hu];rfl
    have g2:rows.getD (i+1) ⟨([].toArray)⟩=r:=by rw[Zb,v];rfl
    rw[g1,g2]
  .rintro σ l ⟨⟨o3,o4,rfl⟩,sm,al,an,ps,M,g,n,as⟩;rw[Z5,Y9]at n;refine k3 _ _ ?_;lk;have O:∀q∈ps,∃a b,q.2=[sgn a,sgn b]/\BM rows a b:=λq d=>xt (by rw[<-n];exact X7 %[q,d|rfl])
   have a5:∀q∈ps,q.2∈mm:=λq d=>by
    obtain⟨a,b,e,h⟩:=O q d;rw[e];exact a7 a b h
   refine%[ps,SqL.of M,g,%[mm,⋯|a5]|λl5 bl=>?_];have s5:=ae.upd (o:=md P w l5 (bc ps)) bl;have bm:(bc ps).length<=14:=by
    have:=STab.nodup_sub (dF ps) (m:=mm) λk hk=>by
     obtain⟨q,d,rfl⟩:=X6 hk;exact a5 q (bj ps q d)
    rw[Z5]at this
    lia
   refine%[bc ps,aa,λq d=>%[(g q (bj ps q d)).1|s5 _ _ (g q (bj ps q d)).2],2,λq d=>?_,by decide,⋯|λl6 ss a6 pm so=>?_]
   .obtain⟨a,b,e,_⟩:=O q (bj ps q d);rw[e];rfl
   have s6:=ae.upd (o:= .lst (ss.map λq=>V.ref q.1)) a6;refine kk l6 _ ss ((sm.trans s5).trans s6) ((sm.trans s5).free a6) aa (λq d=>?_) (by rw[pm.length_eq];exact bm) (λq d=>?_) λk=>?_
   .have:=g q (bj ps q (pm.mem_iff.mp d));exact%[this.1|s6 _ _ (s5 _ _ this.2)]
   .obtain⟨a,b,e,h⟩:=O q (bj ps q (pm.mem_iff.mp d));exact%[a,b,e|xu c h]
   .rw[(pm.map _).mem_iff,gc,n]
noncomputable def e8(z:Str):Bool:=(decide (1<=(z.length:Int))&&decide ((z.length:Int)<=8))&&z.cps.toList.all ig
def uJ:Sp:=λvs H Q _=>∃z:Str,vs=[.str z]/\e8 z=true/\∀a,ae H a->Q (.bl true) a
def Ab(K:ZA):Sp:=λvs H Q _=>∃(z:Str) (p:Addr) (ts:ZB),vs=[.str z,.ref p]/\(SqL K H p (ts.map V.str)\/SqT K H p (ts.map V.str))/\Q (.bl (decide (z∈ts))) H
def uK:Sp:=λvs H Q _=>∃i:Int,vs=[.int i]/\ -9999<=i/\i<=9999/\Q (.bl true) H
def oQ(c:ZB)(vs:ZL):Prop:=
 (∃w a b:Str,vs=[.str w,.str a,.str b]/\(w="later"\/w="same")/\a∈c/\b∈c/\a≠b)\/
 ∃w a y,vs=[.str w,.str a,.int y]/\(w="since"\/w="by")/\a∈c/\ -9999<=y/\y<=9999
def qk(K:ZA):Sp:=λvs H Q _=>∃t p xs a,vs=[.ref t,.ref p]/\H t=some (.tup xs)/\SqL K H p (a.map V.str)/\oQ a xs/\Q (.bl true) H
noncomputable def lnS(n z:Str):Str:=Str.empty++n++Str.ofString "."++z
def nE:Sp:=λvs H Q _=>∃n z:Str,vs=[.str n,.str z]/\n.length<=100/\z.length<=100/\Q (.str (lnS n z)) H
theorem qo(z:Str)(ts:ZB):inV (V.str z) (ts.map V.str)=decide (z∈ts):=by
 unfold inV
 induction ts with
 | nil=>rfl
 | cons c r a=>
   show((c==z)||_)=_
   grind
theorem xw(ts:ZB):(ts.map V.str).all eD=true:=by simp[eD]
theorem xx(T:Txt K mg):↥1 "is_name" ["thing"] uJ:=by
 refine T.aX.cal uB (λH vs Q E h=>?_)
 .obtain⟨z,rfl,y,k⟩:=h;refine%[rfl|λf u A outer s M=>?_];refine%[_,%["JCNkd!$A0A?1BDGnODGz~X__EUVA0B]B(~Y~ZAwi?2T0c0?3xq<0~pB",0,(blE (v:= .ty "str") rfl T.ab boot_str rfl rfl rfl),(show bZ (af iH) ["thing"] _ ["sign"] []=true from by decide +kernel)|(show(["sign"]:ZB).Nodup from by decide +kernel)]|?_]
  show bh _ _ _ [-z] H;have a:=y;unfold e8 at a;rw[Zu,Zu]at a;obtain⟨⟨B,q⟩,b⟩:=a;have N:z.length<=8:=by have:=Zn q;lia
  lk;refine%[.type "str",.str z,true,by rfl|?_];lk;refine%[cm ⋯|?_];rw[if_pos B,if_pos q];refine aO λr C=>?_
  lk;refine C _ _ λD t=>?_
  refine bL (J:=Its z) (n:=z.cps.size) (D:=D) (λi ys l d=>(∃o,l=[o])/\ae H d/\d D=some (.lst ys)/\ys=(z.cps.toList.take i).map (λc=>V.bl (ig c))) %[%[none|rfl],ae.upd t,aa|rfl]
   (λi _ _ _ hi _=>hi) (λ_ _ _ _=>Zh _) ?_ ?_
  .rintro i ys l d hi ⟨⟨o,rfl⟩,m,p,g⟩ x O ⟨G,c,I,rfl⟩;subst G;lk;have j:ys.length=i:=by
    rw[g,Z5,Yd];have:z.cps.toList.length=z.cps.size:=by simp
    lia
   have L:i<1000:=by
    have:z.length=z.cps.size:=rfl
    lia
   refine CK.mk hi p (by rw[j];exact aJ ⋯) %[%[_|rfl],ae.set m t,aa|?_];rw[yO,g,<-iI z i c I,Zc]
   all_goals rfl
  .rintro ys l d ⟨_,m,p,g⟩;refine%[D,rfl,(z.cps.toList.map ig),?_|?_]
   .have e:z.cps.toList.take z.cps.size=z.cps.toList:=by
     apply Zm;simp
    rw[e]at g;have:(z.cps.toList.map ig).map V.bl=ys:=by rw[g,Yj];rfl
    rw[this];exact SqL.of p
   .have e:(z.cps.toList.map ig).all id=true:=by
     rw[all_map];exact b
    rw[e];exact k d m
theorem cn(T:Txt K mg):↥1 "is_text_among" ["thing","texts"] (Ab K):=by
 refine T.ba.cal ke (λH vs Q E h=>?_)
 .obtain⟨z,p,ts,rfl,b,k⟩:=h;refine%[rfl|λf a A outer s c=>?_];refine%[_,%["JDGz!$A0A?1B(q<01",0|(blE (v:= .ty "str") rfl T.ab boot_str rfl rfl rfl)]|?_];show iV _ _ [some _,some _] H;lk;refine%[.type _,.str z,true,by rfl|?_];rw[<-qo]at k;exact%[_,b,rfl,xw ts|k]
theorem xz(T:Txt K mg):↥1 "is_year" ["thing"] uK:=by
 refine T.bb.cal uD (λH vs Q E h=>?_)
 .obtain⟨i,rfl,b,c,k⟩:=h;refine%[rfl|λf a A outer s d=>?_];refine%[_,%["JCNYokd!$A0A?1Bsd!$A0A?2BDGnODG~X__]C0]D",0,(blE (v:= .ty "int") rfl T.ah boot_int rfl rfl rfl)|(blE (v:= .ty "bool") rfl T.ai PyProof.Rows.boot_bool rfl rfl rfl)]|?_]
  show bh _ _ _ [some (.int i)] H;lk;refine%[.type _,.int i,true,by rfl|?_];refine%[.type _,.int i,false,by rfl|?_];rw[if_pos (Ze b),Ze c];exact k
theorem gH(T:Txt K mg):↥1 "layer_name" ["name","letter"] nE:=by
 refine T.bc.cal nA (λH vs Q E h=>?_)
 .obtain⟨n,z,rfl,l,m,k⟩:=h;refine%[rfl|λf d A outer s j=>?_];refine%[_,%["JDG~y~G~b0~GR~G~b1~z"|0]|?_];show iV _ _ [-n,some _] H;lk;have e:∀a b:Str,(a++b).length=a.length+b.length:=λa b=>size_append
  have g:Str.empty.length=0:=rfl;have i:(Str.ofString ".").length=1:=rfl;have c:∀k,k<=1000->k<=sizeLine:=λk o=>cm ⋯
  refine%[c _ ⋯,c _ ?_,c _ ?_,c _ ⋯,c _ ?_,c _ ?_|k]<;> simp only[e,g,i]<;> lia
theorem sB(T:Txt K mg):↥2 "is_saying" ["thing","layers"] (qk K):=by
 refine T.b9.cal qd (λH vs Q E h=>?_)
 .obtain⟨t,p,xs,e,rfl,m,g,ok,k⟩:=h;refine%[rfl|λf n A outer s c=>?_];refine%[_,%["JCNYokd!$A0A?1BsKrUVA0BEDGnOCNdF~HAW0EA]EBDGzF~HAW0EA1BzF~HAW0EA1B(qrW0EW0EOCNdF~HAW0EA]FBDGzF~HAW0EA1B(F]GAW0EBODGn",0,(blE (v:= .ty "tuple") rfl T.ag boot_tuple rfl rfl rfl)|c]|?_]
  show bh _ _ _ [!t,!p] H;lk;refine%[.type "tuple",.tup m,true,by rfl|?_];have st:=SqT.of (K:=K) m;rcases ok with⟨wd,a,b,rfl,hw,i,o,j⟩|⟨wd,a,y,rfl,hw,i,r,u⟩
  .have l:decide (wd∈([Str.ofString "later",Str.ofString "same"]:ZB))=true:=by rcases hw with rfl|rfl<;> decide
   lk;refine%[3,.inr %[_,st|rfl]|?_];rw[if_neg (by decide)];refine%[_,st,_,rfl|λq d=>%[wd,q,[Str.ofString "later",Str.ofString "same"],rfl,.inr (d H),_,rfl|?_]];rw[l];lk;refine%[_,st,_,rfl,a,p,e,rfl,.inl g,_,rfl|?_];rw[Ze i];lk;refine%[_,st,_,rfl,b,p,e,rfl,.inl g,_,rfl|?_];rw[Ze o];lk;refine%[_,st,_,rfl,_,st,_,rfl,rfl|?_];rw[show(!decide (V.str a=V.str b))=true from by simp[j]];exact k
  .have l:decide (wd∈([Str.ofString "later",Str.ofString "same"]:ZB))=false:=by rcases hw with rfl|rfl<;> decide
   have z:decide (wd∈([Str.ofString "since",Str.ofString "by"]:ZB))=true:=by rcases hw with rfl|rfl<;> decide
   lk;refine%[3,.inr %[_,st|rfl]|?_];rw[if_neg (by decide)];refine%[_,st,_,rfl|λq d=>%[wd,q,[Str.ofString "later",Str.ofString "same"],rfl,.inr (d H),_,rfl|?_]];rw[l];lk;refine%[_,st,_,rfl|λq d=>%[wd,q,[Str.ofString "since",Str.ofString "by"],rfl,.inr (d H),_,rfl|?_]];rw[z];lk;refine%[_,st,_,rfl,a,p,e,rfl,.inl g,_,rfl|?_];rw[Ze i];lk;exact%[_,st,_,rfl,y,rfl,r,u|k]
def bS(H:Hp)(a:List (Addr×Str×ZB)):Prop:=∀p∈a,H p.1=some (.tup [.str p.2.1,.str (Str.join nl p.2.2)])/\e8 p.2.1=true/\bX p.2.2
theorem bS.up(h:bS H b)(s:ae H c):bS c b:=λp a=>%[s _ _ (h p a).1|(h p a).2]
def xA:Sp:=λvs H Q _=>∃rows:ZB,vs=[.str (Str.join nl rows)]/\bX rows/\∀a,ae H a->Q (.bl true) a
def Ac:Sp:=λvs H Q _=>∃p:Addr×Str×ZB,vs=[.ref p.1]/\bS H [p]/\∀a,ae H a->Q (.bl true) a
noncomputable def bW(a:List (Addr×Str×ZB)):ZL:=a.map λp=>V.ref p.1
def nF:Sp:=λvs H Q _=>∃l a,vs=[.ref l]/\H l=some (.lst (bW a))/\bS H a/\(a.map λp=>p.2.1).Nodup/\1<=a.length/\a.length<=8/\∀b,ae H b->Q .non b
def cr(H:Hp)(a:ZB)(qs:ZM):Prop:=∀q∈qs,H q.1=some (.tup q.2)/\oQ a q.2
theorem cr.up(h:cr H b qs)(s:ae H c):cr c b qs:=λp a=>%[s _ _ (h p a).1|(h p a).2]
def kj(K:ZA):Sp:=λvs H Q _=>∃l r a qs,vs=[.ref l,.ref r]/\H l=some (.lst (qs.map λq=>V.ref q.1))/\H r=some (.lst (a.map V.str))/\cr H a qs/\qs.length<=60/\∀b,ae H b->Q .non b
theorem Ad(T:Txt K mg):↥3 "is_cut" ["thing"] xA:=by
 refine T.b7.cal xg (λH vs Q E h=>?_)
 .obtain⟨rows,rfl,a,k⟩:=h;refine%[rfl|λf b A outer s c=>?_];refine%[_,(QSs.h (ah (tryN (λ_ _ h=>h) (ao (bO rfl (ay (ki T) c rfl #[↑0]))))
   (ao (aE eBl))))|?_]
  show bh _ _ _ [some (.str (Str.join nl rows))] H;lk;exact%[rows,rfl,a|λl d e g i=>k d e]
theorem mJ(T:Txt K mg):↥4 "is_named_cut" ["thing"] Ac:=by
 refine T.b6.cal lc (λH vs Q E h=>?_)
 .obtain⟨p,rfl,g,k⟩:=h;refine%[rfl|λf e A outer s c=>?_];obtain⟨b,i,a⟩:=g p (mem_singleton.mpr rfl);refine%[_,%["JDGz!$A0A?1BzqbUVA0BEzF]HAW0EB(F]IAW0EB",0,(blE (v:= .ty "tuple") rfl T.ag boot_tuple rfl rfl rfl)|c]|?_];show iV _ _ [some _] H;lk;refine%[.type _,.tup b,true,by rfl|?_];have st:=SqT.of (K:=K) b;refine%[2,.inr %[_,st|rfl]|?_];refine%[_,st,_,rfl,p.2.1,rfl,i|λm d=>?_];lk;exact%[_,SqT.of (d _ _ b),_,rfl,p.2.2,rfl,a|λj l=>k j (d.trans l)]
theorem qp(T:Txt K mg):↥5 "check_cuts" ["cuts"] nF:=by
 refine T.b5.cal dG (λH vs Q E h=>?_)
 .obtain⟨l,b,rfl,C,L,M,h1,h8,k⟩:=h;refine%[rfl|λf as A outer s J=>?_];have u:(bW b).length=b.length:=Z5 _;refine%[_,%["JCNYokd!$A0A?1BsKbUVA0BED)OCI1>DX~NA0BeML2ML3fCNYoKb2]JokdF]KA3Bs]LW3E1D)OD,n1W3E",dG.nd,(blE (v:= .ty "list") rfl T.a5 boot_list rfl rfl rfl)|J]|?_]
  show bh _ _ _ [!l,none,none,none] H;refine am λD1 k1 _=>?_
  lk;refine%[.type "list",.lst C,true,by rfl|?_];lk;refine%[b.length,.inl %[_,SqL.of C|u.symm]|?_];rw[if_neg (by simp only[decide_eq_true_eq];lia)];refine k1 _ _ (am λD2 k2 _=>?_);lk;refine λd N=>k2 _ _ (aB λD3 k3 _=>ax λan hK=>?_)
  lk;have O:upd H d (.dK []) l=some (.lst (bW b)):=ae.upd N _ _ C;refine%[_,SqL.of O|hK _ _ (jv (λi G g=>∃U Y a,G=[!l,!d,U,Y]/\ae H g/\g d=some (.dK a)/\a.map (·.1)=(b.take i).map λp=>Sum.inr p.2.1) %[none,none,[],rfl,ae.upd N,aa|rfl] (λi G g _ ⟨_,_,_,_,q,_⟩=>SqL.of (q _ _ C)) ?_ ?_)]
  .rintro i x TT G g I ⟨U,Y,a,rfl,sm,y,m⟩ hT;have hi:i<b.length:=by rw[<-u];exact(X3 I).1
   obtain⟨q,hq,rfl⟩:∃q,b[i]? =some q/\x=V.ref q.1:=by
    unfold bW at I;rw[Zk,Z4 hi]at I;exact%[b[i],Z4 hi|(Z9 I).symm]
   have c:ae H (upd g TT (.tup [.int i,.ref q.1])):=sm.trans (ae.upd hT);have z:upd g TT (.tup [.int i,.ref q.1]) TT=some (.tup [.int i,.ref q.1]):=aa;have t:=ae.upd (o:= .tup [.int i,.ref q.1]) hT _ _ y
   generalize upd g TT (.tup [.int i,.ref q.1])=HT at c t z
   have ab:=Z7 hq;have n:=L q ab;refine%[_,SqT.of z,rfl,_,_,rfl,_,_,rfl,rfl|?_];show bh _ _ _ [!l,!d,some (.int i),some (.ref q.1)] HT;refine am λD4 k4 _=>?_
   lk;rw[if_neg (by simp only[decide_eq_true_eq];lia)];refine%[q,rfl,λp hp=>by rw[X5 hp];exact%[c _ _ n.1|n.2]|λH2 B=>%[true,rfl|?_]];rw[if_neg (by decide)];have r:(Sum.inr q.2.1:Key)∉a.map (·.1):=by
    rw[m];intro hm;obtain⟨q',ag,e⟩:=X6 hm;have e:q'.2.1=q.2.1:=Sum.inr.inj e;obtain⟨j,hj⟩:=Yz ag;have ai:j<i:=by
     have:=(X3 hj).1;rw[Yd]at this
     lia
    rw[List.getElem?_take_of_lt ai]at hj;have n1:(b.map λp=>p.2.1)[j]? =some q.2.1:=by rw[Zk,hj,<-e];rfl
    have n2:(b.map λp=>p.2.1)[i]? =some q.2.1:=by rw[Zk,hq];rfl
    have:=gY M n1 n2
    lia
   refine%[_,SqT.of (B _ _ (c _ _ n.1)),_,rfl,_,dZ.k (k:=Sum.inr q.2.1) (B _ _ t)|?_];have hv:cp a (Sum.inr q.2.1:Key)=none:=by
    cases e:cp a (Sum.inr q.2.1:Key)with
    | none=>rfl
    | some v=>exact absurd (A5 e) r
   rw[hv,if_neg (by decide)];refine k4 _ _ (aB λD5 k5 _=>?_);lk;have al:a.length=i:=by
    have:=congrArg List.length m;rw[Z5,Z5,Yd]at this
    lia
   refine%[_,SqT.of (B _ _ (c _ _ n.1)),_,rfl,_,kR.k (k:=Sum.inr q.2.1) (B _ _ t) (by rw[al];exact aJ ⋯)|k5 _ _ %[_,_,_,rfl,ae.set (c.trans B) N,aa|?_]];rw[wM,if_neg r,m,Yw,Zc,hq];rfl
  .rintro G g ⟨U,Y,a,rfl,sm,y,m⟩;exact k3 _ _ (k g sm)
theorem lg(T:Txt K mg):↥3 "check_sayings" ["sayings","layers"] (kj K):=by
 refine T.b8.cal dw (λH vs Q E h=>?_)
 .obtain⟨l,r,z,qs,rfl,g,j,m,I,k⟩:=h;refine%[rfl|λf C A outer s G=>?_];refine%[_,%["JCNkd!$A0A?1BD)ODX~NA0BeML2ML3fDNYoKb2]MskdF]NA3A1BD)O",dw.nd,(blE (v:= .ty "list") rfl T.a5 boot_list rfl rfl rfl)|G]|?_]
  show bh _ _ _ [!l,!r,none,none] H;refine am λY J _=>?_
  lk;refine%[.type "list",.lst g,true,by rfl|?_];lk;refine J _ _ (aB λD3 L _=>ax λB M=>?_);lk;have n:(qs.map λq=>V.ref q.1).length=qs.length:=Z5 _;refine%[_,SqL.of g|M _ _ (jv (λi e b=>∃o p,e=[!l,!r,o,p]/\ae H b) %[none,none,rfl|ae.refl H] (λi e b _ ⟨_,_,_,q⟩=>SqL.of (q _ _ g)) ?_ ?_)]
  .rintro i x TT e b t ⟨o,p,rfl,u⟩ N;have hi:i<qs.length:=by rw[<-n];exact(X3 t).1
   obtain⟨q,O,rfl⟩:∃q,qs[i]? =some q/\x=V.ref q.1:=by
    rw[Zk,Z4 hi]at t;exact%[qs[i],Z4 hi|(Z9 t).symm]
   have a:ae H (upd b TT (.tup [.int i,.ref q.1])):=u.trans (ae.upd N);have c:upd b TT (.tup [.int i,.ref q.1]) TT=some (.tup [.int i,.ref q.1]):=aa
   generalize upd b TT (.tup [.int i,.ref q.1])=HT at a c
   have y:=Z7 O;have d:=m q y;refine%[_,SqT.of c,rfl,_,_,rfl,_,_,rfl,rfl|?_];show jQ _ _ _ _ [!l,!r,some (.int i),some (.ref q.1)] HT;refine aB λD4 U _=>?_
   lk;rw[if_neg ⋯];refine%[q.1,r,q.2,z,rfl,a _ _ d.1,SqL.of (a _ _ j),d.2,true,rfl|?_];rw[if_neg (by decide)];exact U _ _ %[_,_,rfl|a]
  .rintro e b ⟨o,p,rfl,u⟩;exact L _ _ (k b u)
noncomputable def lyr(p:Addr×Str×ZB):ZB:=(aH ((cH p.2.2).map sgn)).map (lnS p.2.1)
def qq:Sp:=λvs H Q _=>∃l c,vs=[.ref l]/\H l=some (.lst (bW c))/\bS H c/\c.length<=3/\(c.flatMap lyr).length<=60/\∀r d (e:ZB),ae H d->H r=none->d r=some (.lst (e.map V.str))->e.Perm (c.flatMap lyr)->e.Pairwise (λa b=>ba b a=false)->Q (.ref r) d
def cE(c:ZB)(k:ZB):Prop:=∃a b z,k=[a,b,z]/\a∈c/\b∈c
def Sml(z:Str):Prop:=z.length<=30/\∀c∈z.cps.toList,c<16^8
def xB(a:ZB)(k:ZB):Prop:=cE a k/\∀z∈k,Sml z
theorem sC(h:e8 z=true):Sml z:=by
 unfold e8 at h;rw[Zu,Zu]at h;refine%[⋯|λc a=>?_];have:=(jY.mp (all_eq_true.mp h.2 c a)).2
 lia
theorem Sml.app{a b:Str}(f:∀c∈a.cps.toList,c<16^8)(g:∀c∈b.cps.toList,c<16^8):∀c∈(a++b).cps.toList,c<16^8:=λc d=>by
 have e:(a++b).cps.toList=a.cps.toList++b.cps.toList:=toList_append;rw[e]at d;exact(X4 d).elim (f c) (g c)
theorem BS(h:c<1000):∀x∈(sgn c).cps.toList,x<16^8:=λx a=>by
 have e:=by simpa [sgn]using a
 lia
theorem kl{c:Nat}(h:e8 n=true)(d:c<1000):Sml (lnS n (sgn c)):=by
 have e:∀a b:Str,(a++b).length=a.length+b.length:=λa b=>size_append
 have l:n.length<=8:=by
  unfold e8 at h
  grind
 refine%[?_|Sml.app (Sml.app (Sml.app (λc d=>(nomatch d)) (sC h).2) (by decide +kernel)) (BS d)];unfold lnS;rw[e,e,e,show Str.empty.length=0 from rfl,show(Str.ofString ".").length=1 from rfl,show(sgn c).length=1 from rfl]
 lia
theorem uL(h:bX rows)(l:Let rows c):c<1000:=by
 have:=(jY.mp (jZ h.sign c (fS.mpr l))).2
 lia
theorem BT(b:e8 p.2.1=true)(d:bX p.2.2):∀z∈lyr p,Sml z:=λz e=>by
 obtain⟨y,f,rfl⟩:=X6 e;obtain⟨c,a,rfl⟩:=X6 (bp.mp f);exact kl b (uL d (fS.mp a))
theorem Es(e:Sml a)(f:Sml b)(g:Sml c):∀z∈[a,b,c],Sml z:=λz d=>by
 simp only[Yn,Yt,or_false]at d;rcases d with rfl|rfl|rfl
 .exact e
 .exact f
 .exact g
theorem BU(i:Nat)(h:i<=100):Sml (Str.empty++Str.ofString "#"++Str.ofString (toString (i:Int))):=by
 have all:∀j:Fin 101,Sml (Str.empty++Str.ofString "#"++Str.ofString (toString ((j.1)))):=by
  unfold Sml;decide +kernel
 exact all %[i|⋯]
theorem cE.three(h:cE c k):k.length=3:=by
 obtain⟨a,b,z,rfl,_⟩:=h;rfl
theorem cE.mono(h:cE c k)(s:∀x∈c,x∈d):cE d k:=by
 obtain⟨a,b,z,e,f,g⟩:=h;exact%[a,b,z,e,s a f|s b g]
theorem vF(h:Let p.2.2 a):lnS p.2.1 (sgn a)∈lyr p:=
 X7 %[_,bp.mpr (X7 %[a,fS.mpr h|rfl])|rfl]
noncomputable def vG(n:Str)(k:ZB):ZB:=k.map (lnS n) ++[n]
noncomputable def BV(i:Nat):Str:=Str.empty++Str.ofString "#"++Str.ofString (toString (i:Int))
noncomputable def gJ(a:List (Addr×Str×ZB)):List ZB:=a.flatMap λp=>(e7 p.2.2 (p.2.2.length-1)).map (vG p.2.1)
noncomputable def mK(i:Nat):ZL->Option ZB
 |[.str w,.str a,.str b]=>if w=Str.ofString "later" then some [a,b,BV i]else none
 | _=>none
noncomputable def db(qs:ZM)(n:Nat):List ZB:=(List.range n).filterMap λj=>qs[j]?.bind λq=>mK j q.2
theorem qr{a:List _}{i:Nat}{q:Addr×Str×ZB}(b:a[i]? =some q):gJ (a.take (i+1))=gJ (a.take i) ++(e7 q.2.2 (q.2.2.length-1)).map (vG q.2.1):=by
 unfold gJ;rw[Yw,b,flatMap_append];show _++([q].flatMap _)=_;rw[List.flatMap_singleton]
theorem gK(a:qs[i]? =some q):db qs (i+1)=db qs i++(mK i q.2).toList:=by
 unfold db;rw[range_succ,List.filterMap_append];refine congrArg _ ?_;rw[Zy,a];rw[bind_some];cases mK i q.2<;> rfl
def qt:Sp:=λvs H Q _=>∃l a,vs=[.ref l]/\H l=some (.lst (bW a))/\bS H a/\(∀p∈a,w8 p.2.2)/\a.length<=3/\∀r b ts,ae H b->H r=none->b r=some (.lst (ts.map λt=>V.ref t.1))->aL b ts->(∀t∈ts,xB (a.flatMap lyr) t.2)->ts.length<=42->(∀k,k∈ts.map (·.2)↔k∈gJ a)->Q (.ref r) b
def qu:Sp:=λvs H Q _=>∃l b qs,vs=[.ref l]/\H l=some (.lst (qs.map λq=>V.ref q.1))/\cr H b qs/\(∀z∈b,Sml z)/\qs.length<=60/\∀r a ts,ae H a->H r=none->a r=some (.lst (ts.map λt=>V.ref t.1))->aL a ts->(∀t∈ts,xB b t.2)->ts.length<=qs.length->ts.map (·.2)=db qs qs.length->Q (.ref r) a
theorem mL{z:Str}(h:e8 z=true):z.length<=8:=by
 unfold e8 at h;rw[Zu,Zu]at h;have:=Zn h.1.2
 lia
theorem gM{a:List Nat}{z:Str}(h:z∈aH (a.map sgn)):∃c∈a,z=sgn c:=by
 have:=bp.mp h;obtain⟨c,b,rfl⟩:=X6 this;exact%[c,b|rfl]
theorem sD(T:Txt K mg):↥4 "layers_of" ["cuts"] qq:=by
 refine T.bd.cal d9 (λH vs Q E h=>?_)
 .obtain⟨l,g,rfl,hl,O,h8,an,k⟩:=h;refine%[rfl|λf al A outer s hr=>?_];have u:(bW g).length=g.length:=Z5 _;refine%[_,%["JCI1QBCXT0eM~U2lmML3fDZ~u~v1Awi?1TF]OA3Bc0?2xF~cAS1A0BBDG=]PA1B",d9.nd,(show bZ (af eZ) ["cuts","layers","name","text"] _ ["letter","name"] [(1,2)]=true from by decide +kernel),(show(["letter","name"]:ZB).Nodup from by decide +kernel)|hr]|?_]
  show bh _ _ _ [!l,none,none,none] H;refine am λD1 k1 _=>?_
  lk;refine%[Yy _|λL U=>k1 _ _ (am λD2 k2 _=>ax λv Y=>?_)];lk;refine .inl %[%[_|SqL.of (ae.upd U _ _ hl)]|Y _ _ (bw (λi e a=>∃o2 o3,e=[!l,!L,o2,o3]/\ae H a/\∃m:ZB,a L=some (.lst (m.map V.str))/\m.Perm ((g.take i).flatMap lyr)/\m.length<=26*i)
   %[none,none,rfl,ae.upd U,[],aa,List.Perm.refl _|Yy _] (λi e a _ ⟨_,_,_,q,_⟩=>SqL.of (q _ _ hl)) ?_ ?_)]
  .rintro i x e a p ⟨o2,o3,rfl,b,m,M,y,ab⟩;have hi:i<g.length:=u▸(X3 p).1;obtain⟨q,hq,rfl⟩:∃q,g[i]? =some q/\x=V.ref q.1:=by
    unfold bW at p;rw[Zk,Z4 hi]at p;exact%[g[i],Z4 hi|(Z9 p).symm]
   have d:=O q (Z7 hq);refine%[_,SqT.of (b _ _ d.1),rfl,_,_,rfl,_,_,rfl,rfl|aB λD3 k3 _=>?_];show jn _ _ [!l,!L,some (.str q.2.1),some (.str (Str.join nl q.2.2))] a;lk;refine%[.inl %[_|SqL.of M]|aO λv Y=>?_];lk;refine%[q.2.2,rfl,d.2.2|λl2 H2 ss s2 f2 N p2 q2=>?_];lk;refine .inl %[%[_|SqL.of N]|Y _ _ λF hF=>?_];have as:ss.length<=26:=p2.length_eq▸lS λc hc=>jZ d.2.2.sign c hc
   have one:∀z∈ss,z.length=1:=λz hz=>by
    obtain⟨c,_,rfl⟩:=gM (p2.mem_iff.mp hz);rfl
   refine bL (J:=Itl K l2) (n:=ss.length) (D:=F) (λj ts e a=>(∃o,e=[o,some (.str q.2.1)])/\ae H2 a/\a F=some (.lst ts)/\ts=((ss.take j).map (lnS q.2.1)).map V.str)
    %[%[none|rfl],ae.upd hF,aa|rfl]
    (λj _ _ a B ⟨_,b,_⟩=>%[_,V.str ss[j],SqL.of (b _ _ N)|by simp]) (λ_ _ a ⟨_,b,_⟩=>%[_,SqL.of (b _ _ N)|by simp]) ?_ ?_
   .rintro j ts e H3 B ⟨⟨o,rfl⟩,C,ag,t⟩ x H4 ⟨e2,p⟩;subst e2;have G:=p _ (SqL.of (C _ _ N));rw[Zk,Z4 B]at G;obtain rfl:x=V.str ss[j]:=(Z9 G).symm;lk;refine%[_,_,rfl,by have:=mL d.2.1;lia,by rw[one _ (Y5 B)];decide|CK.mk B ag (by rw[t,Z5,Z5,Yd];exact aJ ⋯) %[%[_|rfl],ae.set C hF,aa|?_]];rw[t,Yw,Zc,Zc,Z4 B];rfl
   rintro ts e H3 ⟨_,C,ai,t⟩;rw[Zm (Zh _)]at t;lk;refine%[_,C _ _ (s2 _ _ M),_,ai,(by rw[t,Z5,Z5,Z5];exact cm ⋯)|k3 _ _ %[_,_,rfl,ae.set (b.trans (s2.trans C)) U,m++ss.map (lnS q.2.1),?_,?_|?_]]
   .rw[aa,t,Zc]
   .rw[Yw,hq,flatMap_append];refine y.append ?_;show List.Perm _ ([q].flatMap lyr);rw[List.flatMap_singleton];exact p2.map _
   .rw[Z8,Z5]
    lia
  .rintro e a ⟨o2,o3,rfl,b,m,M,y,ab⟩;refine k2 _ _ ?_;lk;rw[u,Zm (Zh _)]at y;exact%[m,SqL.of M,by rw[y.length_eq];lia|λr ss I p' q'=>k r _ ss (b.trans (ae.upd I)) (b.free I) aa (p'.trans y) q']
theorem mM(T:Txt K mg):↥4 "ties_of_cuts" ["cuts"] qt:=by
 refine T.be.cal bJ (λH vs Q E h=>?_)
 .obtain⟨l,B,rfl,hl,a6,a7,h8,k⟩:=h;refine%[rfl|λf a9 A outer s hr=>?_];have al:(bW B).length=B.length:=Z5 _;refine%[_,%["JCI1QBCXT0eML2ML3fDXTF]QA3BeML4ML5fDZpj1AgAF~cA2A4BAF~cA2A5BA2BBDG1",bJ.nd|hr]|?_]
  show bh _ _ _ [!l,none,none,none,none,none] H;refine am λD1 k1 _=>?_
  lk;refine%[Yy _|λL hL=>k1 _ _ (am λD2 k2 _=>ax λan hK=>?_)];lk;refine .inl %[%[_|SqL.of (ae.upd hL _ _ hl)]|hK _ _ (bw (λi C I=>∃o2 o3 J M,C=[!l,!L,o2,o3,J,M]/\ae H I/\∃ts:ZG,I L=some (.lst (ts.map λt=>V.ref t.1))/\aL I ts/\(∀t∈ts,xB (B.flatMap lyr) t.2)/\ts.length<=14*i/\∀k,k∈ts.map (·.2)↔k∈gJ (B.take i))
   %[none,none,none,none,rfl,ae.upd hL,[],aa,iu _,λt ht=>(nomatch ht),Yy _|λk=>Iff.rfl] (λi C I _ ⟨_,_,_,_,_,q,_⟩=>SqL.of (q _ _ hl)) ?_ ?_)]
  .rintro i x C I N ⟨o2,o3,J,M,rfl,sm,ts,hm,Y,ab,as,d⟩;have hi:i<B.length:=by rw[<-al];exact(X3 N).1
   obtain⟨q,hq,rfl⟩:∃q,B[i]? =some q/\x=V.ref q.1:=by
    unfold bW at N;rw[Zk,Z4 hi]at N;exact%[B[i],Z4 hi|(Z9 N).symm]
   have g:=a6 q (Z7 hq);refine%[_,SqT.of (sm _ _ g.1),rfl,_,_,rfl,_,_,rfl,rfl|?_];refine aB λD3 k3 _=>?_
   show ya _ _ _ _ [!l,!L,some (.str q.2.1),some (.str (Str.join nl q.2.2)),J,M] I;refine ax λan hK=>?_
   lk;have qm:=Z7 hq;refine%[q.2.2,rfl,g.2.2,a7 q qm|?_];intro l2 H2 ss s2 f2 h2 t2 bb a0 all2;have a8:=mL g.2.1;have a1:l2≠L:=λe=>by rw[e,hm]at f2;cases f2
   have a2:(ss.map λp=>V.ref p.1).length=ss.length:=Z5 _;refine .inl %[l2,rfl,%[_|SqL.of h2]|hK _ _ (bw (xs:=ss.map λp=>V.ref p.1) (λj C n=>∃J M,C=[!l,!L,some (.str q.2.1),some (.str (Str.join nl q.2.2)),J,M]/\ae H n/\n l2=some (.lst (ss.map λp=>V.ref p.1))/\aL n ss/\∃c:ZG,n L=some (.lst (c.map λt=>V.ref t.1))/\aL n c/\(∀t∈c,xB (B.flatMap lyr) t.2)/\c.length<=14*i+j/\c.map (·.2)=ts.map (·.2) ++((ss.take j).map (·.2)).map (vG q.2.1))
    %[_,_,rfl,sm.trans s2,h2,t2,ts,s2 _ _ hm,aT Y λb z e=>s2 _ _ e,ab,⋯|(Zw _).symm] (λj C n _ ⟨_,_,_,_,q,_⟩=>SqL.of q) ?_ ?_)]
   .rintro j x C n N ⟨J,M,rfl,ag,a3,r,c,G,u,ai,v,m⟩;have hj:j<ss.length:=a2▸(X3 N).1;rw[Zk,Z4 hj]at N;obtain rfl:x=V.ref ss[j].1:=(Z9 N).symm;have O:=Y5 hj;obtain⟨a,b,a4,la,lb⟩:=a0 _ O;have U:=(r _ O).2;rw[a4]at U;refine%[_,SqT.of U,rfl,_,_,rfl,_,_,rfl,rfl|aB λD4 k4 _=>?_];show jn _ _ [!l,!L,some (.str q.2.1),some (.str (Str.join nl q.2.2)),some (.str (sgn a)),some (.str (sgn b))] n;lk;refine%[.inl %[_|SqL.of G],q.2.1,sgn a,rfl,⋯,(show 1<=100 by decide)|?_];lk;refine%[q.2.1,sgn b,rfl,⋯,(show 1<=100 by decide)|?_];lk;refine%[#[3]|λp hp=>?_];have sp:=ae.upd (o:= .tup [V.str (lnS q.2.1 (sgn a)),V.str (lnS q.2.1 (sgn b)),V.str q.2.1]) hp;have gp:upd n p (.tup [V.str (lnS q.2.1 (sgn a)),V.str (lnS q.2.1 (sgn b)),V.str q.2.1]) p=_:=aa
    generalize upd n p _=H4 at sp gp
    have a5:=sp _ _ G;have y:∀b z,H4 b=some (.tup z)->upd H4 L (.lst (c.map (λt=>V.ref t.1) ++[V.ref p])) b=some (.tup z):=λb z e=>by
     have:b≠L:=λe2=>by rw[e2,a5]at e;cases e
     rw[aj this];exact e
    refine%[_,a5,by rw[Z5];exact Nat.lt_of_le_of_lt (show c.length<=10000 by lia) (by decide)|k4 _ _ %[_,_,rfl,ae.set (ag.trans sp) hL,(aj a1)▸sp _ _ a3,aT (aT r λb z e=>sp _ _ e) y,c++[(p,[lnS q.2.1 (sgn a),lnS q.2.1 (sgn b),q.2.1])],?_,?_,?_,?_|?_]]
    .rw[aa,Zc];rfl
    .exact aT (iJ (aT u λb z e=>sp _ _ e) ∅ gp) y
    .intro t ht;rcases X4 ht with z|z
     .exact ai t z
     .rw[X5 z];exact%[%[_,_,_,rfl,mem_flatMap.mpr %[q,qm|vF la]|mem_flatMap.mpr %[q,qm|vF lb]]|Es (kl g.2.1 (uL g.2.2 la)) (kl g.2.1 (uL g.2.2 lb)) (sC g.2.1)]
    .rw[Z8,Yc];lia
    .rw[Zc,m,Zd,Yw,Z4 hj,Zc,Zc];show _++(_++[_])=_++(_++[vG q.2.1 ss[j].2]);rw[a4];rfl
   .rintro C n ⟨J,M,rfl,ag,a3,r,c,G,u,ai,v,m⟩;rw[a2]at v m;rw[Zm (Zh _)]at m;refine k3 _ _ %[_,_,_,_,rfl,ag,c,G,u,ai,⋯|λk=>?_];rw[m,qr hq,Yk,Yk,d,mem_map,mem_map];exact or_congr Iff.rfl (exists_congr λz=>and_congr_left λ_=>all2 z)
  .rintro C I ⟨o2,o3,J,M,rfl,sm,ts,hm,Y,ab,as,d⟩;refine k2 _ _ ?_;lk;rw[al]at as d;rw[Zm (Zh _)]at d;exact k L I ts sm hL hm Y ab ⋯ d
theorem jJ(T:Txt K mg):↥1 "ties_of_sayings" ["sayings"] qu:=by
 refine T.bf.cal ce (λH vs Q E h=>?_)
 .obtain⟨l,N,qs,rfl,hl,ab,r,as,k⟩:=h;refine%[rfl|λf an A outer s hr=>?_];have G:(qs.map λq=>V.ref q.1).length=qs.length:=Z5 _;refine%[_,%["JCI1QBCX~NA0BeML2ML3fDNKbW3ERDZpj1AgAW3EAW3EA~y~GR~G~b2~zBBODG1"|ce.nd]|?_]
  show bh _ _ _ [!l,none,none,none] H;refine am λD1 k1 _=>?_
  lk;refine%[Yy _|λL O=>k1 _ _ (am λD2 k2 _=>ax λai hK=>?_)];lk;refine%[_,SqL.of (ae.upd O _ _ hl)|hK _ _ (jv (λi U n=>∃o2 o3,U=[!l,!L,o2,o3]/\ae H n/\∃ts:ZG,n L=some (.lst (ts.map λt=>V.ref t.1))/\aL n ts/\(∀t∈ts,xB N t.2)/\ts.length<=i/\ts.map (·.2)=db qs i)
   %[none,none,rfl,ae.upd O,[],aa,iu _,λt ht=>(nomatch ht),Yy _|rfl] (λi U n _ ⟨_,_,_,q,_⟩=>SqL.of (q _ _ hl)) ?_ ?_)]
  .rintro i x TT U n hx ⟨o2,o3,rfl,sm,ts,hm,u,g,v,d⟩ hT;have hi:i<qs.length:=by rw[<-G];exact(X3 hx).1
   obtain⟨q,Y,rfl⟩:∃q,qs[i]? =some q/\x=V.ref q.1:=by
    rw[Zk,Z4 hi]at hx;exact%[qs[i],Z4 hi|(Z9 hx).symm]
   have s0:=ae.upd (o:= .tup [.int i,.ref q.1]) hT;have j:ae H (upd n TT (.tup [.int i,.ref q.1])):=sm.trans s0;have I:upd n TT (.tup [.int i,.ref q.1]) TT=some (.tup [.int i,.ref q.1]):=aa;have m:=s0 _ _ hm;have c:=aT u λb z e=>s0 _ _ e
   generalize upd n TT (.tup [.int i,.ref q.1])=HT at j I m c
   have J:=ab q (Z7 Y);refine%[_,SqT.of I,rfl,_,_,rfl,_,_,rfl,rfl|?_];show jQ _ _ _ _ [!l,!L,some (.int i),some (.ref q.1)] HT;refine aB λD4 k4 _=>?_
   lk;have st:=SqT.of (K:=K) (j _ _ J.1);have al:(Str.ofString (toString (i:Int))).length<=21:=by
    have e:=PySem.int_text_length_le10 (a:=(i:Int)) (k:=20) (by decide) (by have:(i:Int).natAbs=i:=rfl;lia);rw[PySem.ofString_length];lia
   have e1:(Str.empty++Str.ofString "#").length=1:=by decide +kernel
   have ea:∀a b:Str,(a++b).length=a.length+b.length:=λa b=>size_append
   have add:∀a b:Str,a∈N->b∈N->mK i q.2=some [a,b,BV i]->∀p,HT p=none->∃x,upd HT p (.tup [.str a,.str b,V.str (Str.empty++Str.ofString "#"++Str.ofString (toString (i:Int)))]) L=some (.lst x)/\x.length<sizeLine/\D4.nx [!l,!L,some (.int i),some (.ref q.1)] (upd (upd HT p (.tup [.str a,.str b,V.str (Str.empty++Str.ofString "#"++Str.ofString (toString (i:Int)))])) L (.lst (x++[V.ref p]))):=by
    intro a b ma mb ag p hp;have tn:=gK Y;rw[ag,<-d]at tn;unfold BV at tn
    generalize hz:Str.empty++Str.ofString "#"++Str.ofString (toString (i:Int))=z at tn ⊢
    have sp:=ae.upd (o:= .tup [V.str a,V.str b,V.str z]) hp;have gp:upd HT p (.tup [V.str a,V.str b,V.str z]) p=_:=aa
    generalize upd HT p (.tup [V.str a,V.str b,V.str z])=H4 at sp gp
    have M:=sp _ _ m;have B:∀b z,H4 b=some (.tup z)->upd H4 L (.lst (ts.map (λt=>V.ref t.1) ++[V.ref p])) b=some (.tup z):=λb z e=>by
     have:b≠L:=λe2=>by rw[e2,M]at e;cases e
     rw[aj this];exact e
    refine%[_,M,by rw[Z5];exact aJ ⋯|k4 _ _ %[_,_,rfl,ae.set (j.trans sp) O,ts++[(p,[a,b,z])],?_,?_,?_,?_|?_]]
    .rw[aa,Zc];rfl
    .exact aT (iJ (aT c λb z e=>sp _ _ e) ∅ gp) B
    .intro t ht;rcases X4 ht with z|z
     .exact g t z
     .rw[X5 z];exact%[%[_,_,_,rfl,ma|mb]|Es (r a ma) (r b mb) (hz▸BU i ⋯)]
    .rw[Z8,Yc];lia
    .rw[tn,Zc];rfl
   rcases J.2 with⟨wd,a,b,e,hw,ma,mb,_⟩|⟨wd,a,y,e,hw,_⟩
   .rw[e]at st;refine%[_,st,_,rfl,rfl|bv (λC=>?_) λC=>?_]
    .refine%[.inl %[_|SqL.of m],_,st,_,rfl,_,st,_,rfl,cm ⋯,?_,cm (by rw[ea];lia),cm (by rw[ea];lia),#[3]|add a b ma mb (e▸if_pos (V.str.inj (Zn C)))];have:(i:Int).natAbs=i:=rfl
     lia
    .refine k4 _ _ %[_,_,rfl,j,ts,m,c,g,⋯|?_];rw[gK Y,e,show mK i [V.str wd,V.str a,V.str b]=none from if_neg λz=>C (Ze (by rw[z])),d];exact(Zw _).symm
   .rw[e]at st;refine%[_,st,_,rfl,rfl|?_];rw[if_neg (by rcases hw with rfl|rfl<;> decide)];refine k4 _ _ %[_,_,rfl,j,ts,m,c,g,⋯|?_];rw[gK Y,e,d];exact(Zw _).symm
  .rintro U n ⟨o2,o3,rfl,sm,ts,hm,u,g,v,d⟩;refine k2 _ _ ?_;lk;rw[G]at v d;exact k L n ts sm O hm u g v d
structure GrF (mg:ZC) (H:Hp) (g c2 c3 c4:Addr) (qs:ZM) (ls:ZB) (ts:ZG):Prop where
 at_:∃dx c1,H g=some (.ins (aF mg "Ground") dx [("kept_cuts",.ref c1),("kept_sayings",.ref c2),("kept_layers",.ref c3),("kept_ties",.ref c4)])
 a2:H c2=some (.lst (qs.map λq=>V.ref q.1))
 a3:H c3=some (.lst (ls.map V.str))
 a4:H c4=some (.lst (ts.map λt=>V.ref t.1))
 sa:cr H ls qs
 tu:aL H ts
theorem GrF.up(h:GrF mg H g a c d qs f ts)(s:ae H i):GrF mg i g a c d qs f ts:=by
 obtain⟨j,l,m⟩:=h.at_;exact%[%[j,l|s _ _ m],s _ _ h.a2,s _ _ h.a3,s _ _ h.a4,h.sa.up s|aT h.tu λb z e=>s _ _ e]
def xC(mg:ZC):Sp:=λvs H Q _=>∃g b c d qs a ts,vs=[.ref g]/\GrF mg H g b c d qs a ts/\∀l,H l=none->Q (.ref l) (upd H l (.lst (a.map V.str)))
def uM(mg:ZC):Sp:=λvs H Q _=>∃g a b c qs d ts,vs=[.ref g]/\GrF mg H g a b c qs d ts/\∀l,H l=none->Q (.ref l) (upd H l (.lst (qs.map λq=>V.ref q.1)))
def BW(mg:ZC):Sp:=λvs H Q _=>∃g a b c qs d ts,vs=[.ref g]/\GrF mg H g a b c qs d ts/\∀l,H l=none->Q (.ref l) (upd H l (.lst (ts.map λt=>V.ref t.1)))
def vH(mg:ZC):Sp:=λvs H Q _=>∃g l m f c qs,vs=[.ref g,.ref l,.ref m]/\H g=some (.ins (aF mg "Ground") f [])/\H l=some (.lst (bW c))/\H m=some (.lst (qs.map λq=>V.ref q.1))/\
 bS H c/\(c.map λp=>p.2.1).Nodup/\1<=c.length/\c.length<=3/\(∀p∈c,w8 p.2.2)/\(c.flatMap lyr).length<=60/\(∀d,d.Perm (c.flatMap lyr)->cr H d qs)/\qs.length<=20/\
 ∀e d ts h i j,(∀b o,b≠g->H b=some o->e b=some o)->GrF mg e g h i j qs d ts->(∀t∈ts,xB d t.2)->(∀z∈d,Sml z)->(∀k,k∈ts.map (·.2)↔k∈gJ c\/k∈db qs qs.length)->ts.length<=62->d.Perm (c.flatMap lyr)->d.Pairwise (λa b=>ba b a=false)->Q .non e
theorem sE(T:Txt K mg):DX P w K mg base 6 "Ground" ["self","cuts","sayings"] (vH mg):=by
 refine T.c5.cal eR (λH vs Q E h=>?_)
 .obtain⟨g,l,m,d,u,qs,rfl,O,hl,hm,j,a1,h1,h8,a2,a3,C,b1,k⟩:=h;refine%[rfl|λf b0 A outer s hr=>?_];refine%[_,%["JCZF]RA1BCI3F]SA1BCZF]TA2A3BC~P0'*A1BC~P0'*A2BC~P03D~P0=]UAH%F]VA1BF]WA2BB",eR.nd|hr]|?_]
  show bh _ _ _ [!g,!l,!m,none] H;refine am λD1 k1 _=>?_
  lk;refine%[l,u,rfl,hl,j,a1,h1,⋯|λH1 s1=>k1 _ _ (am λD2 k2 _=>?_)];lk;refine%[l,u,rfl,s1 _ _ hl,j.up s1,h8,a3|λr H2 G s2 f2 h2 U q2=>k2 _ _ (am λD3 k3 _=>?_)];have Y:=s1.trans s2;lk;refine%[m,r,G,qs,rfl,Y _ _ hm,h2,(C G U).up Y,⋯|λH3 s3=>k3 _ _ (am λD4 k4 _=>?_)];have v:=Y.trans s3;have OC:=T.c0.cls;have al:∀z∈G,Sml z:=λz hz=>by
   obtain⟨p,y,hz⟩:=mem_flatMap.mp (U.mem_iff.mp hz);exact BT (j p y).2.1 (j p y).2.2 z hz
  have gl:l≠g:=λe=>by rw[e,O]at hl;cases hl
  have gm:m≠g:=λe=>by rw[e,O]at hm;cases hm
  have gr:r≠g:=λe=>by rw[e,s1 _ _ O]at f2;cases f2
  lk;refine%[_,.inl (SqL.of (v _ _ hl))|λa I=>%[_,_,_,ae.upd I _ _ (v _ _ O),OC,T.c1,(by show 0<1000;decide)|k4 _ _ (am λD5 k5 _=>?_)]];have a6:a≠g:=λe=>by rw[e,v _ _ O]at I;cases I
  have a7:=ae.upd (o:= .lst (bW u)) I;have b4:∀b o,b≠g->H3 b=some o->upd (upd H3 a (.lst (bW u))) g (.ins (aF mg "Ground") d (dj (Str.ofString "kept_cuts") (V.ref a) [])) b=some o:=λb o c e=>by rw[aj c];exact a7 _ _ e
  have g4:upd (upd H3 a (.lst (bW u))) g (.ins (aF mg "Ground") d (dj (Str.ofString "kept_cuts") (V.ref a) [])) g=some (.ins (aF mg "Ground") d [("kept_cuts",V.ref a)]):=aa;have a4:upd (upd H3 a (.lst (bW u))) g (.ins (aF mg "Ground") d (dj (Str.ofString "kept_cuts") (V.ref a) [])) a=some (.lst (bW u)):=by rw[aj a6];exact aa
  generalize upd (upd H3 a (.lst (bW u))) g (.ins (aF mg "Ground") d (dj (Str.ofString "kept_cuts") (V.ref a) []))=H4 at b4 g4 a4
  have n4:∀b,H4 b=none->b≠g:=λb c e=>by rw[e,g4]at c;cases c
  lk;refine%[_,.inl (SqL.of (b4 _ _ gm (v _ _ hm)))|λi ab=>%[_,_,_,ae.upd ab _ _ g4,OC,T.c2,(by show 1<1000;decide)|k5 _ _ (am λD6 k6 _=>?_)]];have ag:=n4 i ab;have a8:=ae.upd (o:= .lst (qs.map λq=>V.ref q.1)) ab;have b5:∀b o,b≠g->H4 b=some o->upd (upd H4 i (.lst (qs.map λq=>V.ref q.1))) g (.ins (aF mg "Ground") d (dj (Str.ofString "kept_sayings") (V.ref i) [("kept_cuts",V.ref a)])) b=some o:=λb o c e=>by rw[aj c];exact a8 _ _ e
  have g5:upd (upd H4 i (.lst (qs.map λq=>V.ref q.1))) g (.ins (aF mg "Ground") d (dj (Str.ofString "kept_sayings") (V.ref i) [("kept_cuts",V.ref a)])) g=some (.ins (aF mg "Ground") d [("kept_cuts",V.ref a),("kept_sayings",V.ref i)]):=by rw[aa];rfl
  have a5:upd (upd H4 i (.lst (qs.map λq=>V.ref q.1))) g (.ins (aF mg "Ground") d (dj (Str.ofString "kept_sayings") (V.ref i) [("kept_cuts",V.ref a)])) i=some (.lst (qs.map λq=>V.ref q.1)):=by rw[aj ag];exact aa
  generalize upd (upd H4 i (.lst (qs.map λq=>V.ref q.1))) g (.ins (aF mg "Ground") d (dj (Str.ofString "kept_sayings") (V.ref i) [("kept_cuts",V.ref a)]))=H5 at b5 g5 a5
  lk;refine%[_,_,_,g5,OC,T.c3,(by show 2<1000;decide)|k6 _ _ (aB λD7 k7 _=>?_)];have b6:∀b o,b≠g->H5 b=some o->upd H5 g (.ins (aF mg "Ground") d (dj (Str.ofString "kept_layers") (V.ref r) [("kept_cuts",V.ref a),("kept_sayings",V.ref i)])) b=some o:=λb o c e=>by rw[aj c];exact e
  have g6:upd H5 g (.ins (aF mg "Ground") d (dj (Str.ofString "kept_layers") (V.ref r) [("kept_cuts",V.ref a),("kept_sayings",V.ref i)])) g=some (.ins (aF mg "Ground") d [("kept_cuts",V.ref a),("kept_sayings",V.ref i),("kept_layers",V.ref r)]):=by rw[aa];rfl
  generalize upd H5 g (.ins (aF mg "Ground") d (dj (Str.ofString "kept_layers") (V.ref r) [("kept_cuts",V.ref a),("kept_sayings",V.ref i)]))=H6 at b6 g6
  have an:∀b o,b≠g->H3 b=some o->H6 b=some o:=λb o c e=>b6 b o c (b5 b o c (b4 b o c e))
  have B:∀b o,b≠g->H b=some o->H6 b=some o:=λb o c e=>an b o c (v _ _ e)
  have as:bS H6 u:=λp y=>⟨B _ _ (λe=>by have:=(j p y).1;rw[e,O]at this;cases this) (j p y).1,(j p y).2⟩
  have n:cr H6 G qs:=λq hq=>⟨B _ _ (λe=>by have:=(C G U q hq).1;rw[e,O]at this;cases this) (C G U q hq).1,(C G U q hq).2⟩
  lk;refine%[l,u,rfl,B _ _ gl hl,as,a2,h8|λt1 H7 ts s7 f7 h7 a9 ai b2 bb=>?_];lk;refine%[m,G,qs,rfl,s7 _ _ (B _ _ gm hm),n.up s7,al,⋯|λt2 H8 us s8 f8 bf bl a0 b3 bm=>?_];lk;have N:aL H8 (ts++us):=sA (aT a9 λb z e=>s8 _ _ e) bl;have g8:=s8 _ _ (s7 _ _ g6);refine%[_,s8 _ _ h7,_,bf,by rw[Z5,Z5,PySem.sizeLine_eq];lia|λp y=>%[ts++us,by rw[Zc];exact SqL.of aa,aT N λb z e=>ae.upd y _ _ e,3,?_,by decide,by rw[Z8];lia|λc4 ss J L b7=>%[_,_,_,ae.upd J _ _ (ae.upd y _ _ g8),OC,T.c4,(by show 3<1000;decide)|k7 _ _ ?_]]]
  .intro t ht;rcases X4 ht with z|z
   .exact(ai t z).1.three
   .exact(a0 t z).1.three
  .have bt:c4≠g:=λe=>by rw[e,ae.upd y _ _ g8]at J;cases J
   have sp:=(ae.upd (o:= .lst (ts.map (λp=>V.ref p.1) ++us.map λp=>V.ref p.1)) y).trans (ae.upd (o:= .lst (ss.map λp=>V.ref p.1)) J);have b9:∀b o,b≠g->H8 b=some o->upd (upd (upd H8 p (.lst (ts.map (λp=>V.ref p.1) ++us.map λp=>V.ref p.1))) c4 (.lst (ss.map λp=>V.ref p.1))) g (.ins (aF mg "Ground") d (dj (Str.ofString "kept_ties") (V.ref c4) [("kept_cuts",V.ref a),("kept_sayings",V.ref i),("kept_layers",V.ref r)])) b=some o:=λb o c e=>by rw[aj c];exact sp _ _ e
   have M:∀b o,b≠g->H6 b=some o->_:=λb o c e=>b9 b o c (s8 _ _ (s7 _ _ e))
   refine k _ G ss i r c4 (λb o c e=>M b o c (B b o c e)) %[%[d,a|?_],?_,?_,?_,?_|?_] (λt ht=>?_) al (λk=>by rw[(L.map _).mem_iff,Zc,Yk,bb,bm]) (by rw[L.length_eq,Z8];lia) U q2
   .rw[aa];rfl
   .exact M _ _ ag (b6 _ _ ag a5)
   .exact M _ _ gr (an _ _ gr (s3 _ _ h2))
   .rw[aj bt];exact aa
   .exact λq hq=>⟨M _ _ (λe=>by have:=(n q hq).1;rw[e,g6]at this;cases this) (n q hq).1,(n q hq).2⟩
   .intro t ht;have:=N t (L.mem_iff.mp ht);exact%[this.1|b9 _ _ (λe=>by have q:=this.2;rw[e,g8]at q;cases q) this.2]
   .rcases X4 (L.mem_iff.mp ht)with z|z
    .exact%[(ai t z).1.mono λx=>U.mem_iff.mpr|(ai t z).2]
    .exact a0 t z
theorem dS(T:Txt K mg):zJ P w K mg base 1 "Ground" "layers" ["self"] (xC mg):=by
 refine T.c8.cal kh (λH vs Q E h=>?_)
 .obtain⟨g,c,d,e,qs,i,ts,rfl,a,k⟩:=h;refine%[rfl|λf b A outer s n=>?_];obtain⟨o,p,j⟩:=a.at_;refine%[_,%["JDG'*A~d0B"|0]|?_];show iV _ _ [some _] H;lk;refine%[_,_,_,j,T.c0.cls,T.c3|?_];exact%[_,rfl,_,rfl,_,.inl (SqL.of a.a3)|λl m=>k l m]
theorem km(T:Txt K mg):zJ P w K mg base 1 "Ground" "sayings" ["self"] (uM mg):=by
 refine T.c7.cal jG (λH vs Q E h=>?_)
 .obtain⟨g,c,d,e,qs,i,ts,rfl,a,k⟩:=h;refine%[rfl|λf b A outer s n=>?_];obtain⟨o,p,j⟩:=a.at_;refine%[_,%["JDG'*A~d0B"|0]|?_];show iV _ _ [some _] H;lk;refine%[_,_,_,j,T.c0.cls,T.c2|?_];exact%[_,rfl,_,rfl,_,.inl (SqL.of a.a2)|λl m=>k l m]
theorem nG(T:Txt K mg):zJ P w K mg base 1 "Ground" "ties" ["self"] (BW mg):=by
 refine T.c9.cal mE (λH vs Q E h=>?_)
 .obtain⟨g,c,d,e,qs,i,ts,rfl,a,k⟩:=h;refine%[rfl|λf b A outer s n=>?_];obtain⟨o,p,j⟩:=a.at_;refine%[_,%["JDG'*A~d0B"|0]|?_];show iV _ _ [some _] H;lk;refine%[_,_,_,j,T.c0.cls,T.c4|?_];exact%[_,rfl,_,rfl,_,.inl (SqL.of a.a4)|λl m=>k l m]
def dB(H:Hp)(ys:List (Addr×Str×Int)):Prop:=∀p∈ys,H p.1=some (.tup [.str p.2.1,.int p.2.2])/\0<=p.2.2/\p.2.2<=7
theorem dB.up(h:dB H ys)(s:ae H b):dB b ys:=λp a=>%[s _ _ (h p a).1|(h p a).2]
def xD:Sp:=λvs H Q _=>∃one a l ys,vs=[.int one,.int a,.ref l]/\H l=some (.lst (ys.map λp=>V.ref p.1))/\dB H ys/\1<=ys.length/\ys.length<=100/\0<=one/\0<=a/\
 ∀t b xs,ae H b->H t=none->b t=some (.tup xs)->oQ (ys.map λp=>p.2.1) xs->Q (.ref t) b
theorem qv(T:Txt K mg):↥1 "_law_saying" ["_law_one","_law_two","_law_layers"] xD:=by
 refine T.bp.cal bB (λH vs Q E h=>?_)
 .obtain⟨one,d,l,ys,rfl,O,G,y1,al,o0,t0,k⟩:=h;refine%[rfl|λf an A outer s hr=>?_];have get:∀n:Int,0<=n->∃q,atI (ys.map λp=>V.ref p.1) (n%(ys.length:Int))=some (V.ref q.1)/\q∈ys:=λn hn=>by
   have h0:=Int.emod_nonneg n (show(ys.length:Int)≠0 by lia);have h1:=Int.emod_lt_of_pos n (show(0:Int)<(ys.length:Int) by lia)
   generalize n%(ys.length:Int)=i at h0 h1
   obtain⟨j,rfl⟩:=X1 h0;have hj:j<ys.length:=by lia
   exact%[ys[j],cu (by simp[hj])|Y5 hj]
  obtain⟨p,gp,mp⟩:=get one o0;obtain⟨q,gq,mq⟩:=get d t0;have I:(ys.map λp=>V.ref p.1).length=ys.length:=Z5 _;have y:(0:Int)<(ys.length:Int):=by lia
  have pa:=G p mp;have qa:=G q mq;refine%[_,%["JC~IP2Ha0UVA2BeML3ML4fC~IP2Ha1UVA2BeML5ML6fCI7HaHh0EECI8qbHaHh1EEECNYuK:7EuKr35&YoKr46sd8CNYuK~O46&kd8DGgARA5A3BODGgARA3A5BOCNYuK<7gAEAEBuKr35&YoKb46sd8DGgARA3A5BOCI9HvH[EH|E4PQAEA;EA;EAEAEA;EAEAEBHa1EDGgAPQARARBHa7EA3A9B"|bB.nd]|?_]
  show bh _ _ _ [some (.int one),some (.int d),!l,none,none,none,none,none,none,none] H;refine am λD1 k1 _=>?_
  lk;refine%[ys.length,.inl %[_,SqL.of O|I.symm],y,_,SqL.of O,_,gp,_,rfl,_,SqT.of pa.1,rfl,_,_,rfl,_,_,rfl,rfl|k1 _ _ (am λD2 k2 _=>?_)];lk;refine%[ys.length,.inl %[_,SqL.of O|I.symm],y,_,SqL.of O,_,gq,_,rfl,_,SqT.of qa.1,rfl,_,_,rfl,_,_,rfl,rfl|k2 _ _ (am λD3 k3 _=>?_)];lk;refine%[%[by decide|by decide],by decide|k3 _ _ (am λD4 k4 _=>?_)];lk;refine%[%[by decide|by decide],by decide|k4 _ _ (am λD5 k5 r5=>?_)];have b1:0<=one/64%8:=by lia
  have b2:one/64%8<8:=by lia
  generalize one/64%8=kind at b1 b2
  generalize decide (d/64%16=0)=J
  obtain⟨as,pn,pi⟩:=p;obtain⟨a0,m,qi⟩:=q;dsimp only at pa qa gp gq;have mem:∀{r:Addr×Str×Int},r∈ys->r.2.1∈ys.map λp=>p.2.1:=λ{r} hr=>X7 %[r,hr|rfl]
  have B:∀(z:Hp) (a b:Str),ae H z->a∈(ys.map λp=>p.2.1)->b∈(ys.map λp=>p.2.1)->a≠b->∀w:Str,w="later"\/w="same"->∀t,z t=none->Q (.ref t) (upd z t (.tup [.str w,.str a,.str b])):=λz a b M ha hb ab w hw t u=>
   k t _ _ (M.trans (ae.upd u)) (M.free u) aa (.inl %[w,a,b,rfl,hw,ha,hb|ab])
  have U:pn∈ys.map λp=>p.2.1:=mem mp
  have m2:m∈ys.map λp=>p.2.1:=mem mq
  have v:3<=sizeLine:=by decide
  have rest:D5.nx [some (.int one),some (.int d),!l,-pn,some (.int pi),-m,some (.int qi),some (.int kind),some (.bl J),none] H:=by
   refine k5 _ _ (am λD6 k6 r6=>?_);have C:∀z,ae H z->D6.nx [some (.int one),some (.int d),!l,-pn,some (.int pi),-m,some (.int qi),some (.int kind),some (.bl J),none] z:=by
    intro z M;refine k6 _ _ (am λD7 k7 _=>?_);lk;refine%[.inl %[by decide|by decide],#[8]|λp Y=>%[by decide,_,SqL.of aa|?_]];obtain⟨c,hc,ag⟩:=jH [0,-20,-60,10,60,-200,110,0] (i:=d%8) ⋯ (by show d%8<8;lia);have a1: -200<=c/\c<=110:=by
     simp only[Yn,Yt,or_false]at ag
     lia
    refine%[_,hc,c,rfl|k7 _ _ ?_];lk;obtain⟨wd,ai,hw⟩:∃wd:Str,atI [V.str (Str.ofString "since"),V.str (Str.ofString "by")] (kind%2)=some (V.str wd)/\(wd="since"\/wd="by"):=by
     rcases(show kind%2=0\/kind%2=1 by lia)with e|e<;> rw[e]
     .exact%[_,rfl|.inl rfl]
     .exact%[_,rfl|.inr rfl]
    refine%[#[2]|λp1 N=>%[by decide,_,SqL.of aa,_,ai,v|λt u=>?_]];exact k t _ _ (M.trans ((ae.upd Y).trans ((ae.upd N).trans (ae.upd u)))) (M.free ((ae.upd Y).free ((ae.upd N).free u))) aa (.inr %[wd,pn,_,rfl,hw,U,⋯|⋯])
   lk;refine%[#[2]|λp Y=>%[_,.inr (SqT.of aa),rfl,rfl|?_]];have sp:=ae.upd (o:= .tup [V.int 2,V.int 3]) Y
   generalize upd H p (.tup [V.int 2,V.int 3])=H6 at sp
   have R:=C H6 sp;refine bv (λ_=>bv (λg=>?_) λ_=>R) λ_=>R
   have g:pn≠m:=by simpa using g
   have L:3<=sizeLine/\∀p,H6 p=none->D6.rt (.ref p) (upd H6 p (.tup [V.str (Str.ofString "same"),V.str pn,V.str m])):=%[v|λt u=>r6 _ _ (B H6 pn m sp U m2 g _ (.inr rfl) t u)]
   exact bv (λ_=>L) λ_=>bv (λ_=>L) λ_=>R
  lk;refine bv (λ_=>bv (λg=>?_) λ_=>rest) λ_=>rest
  have g:pn≠m:=by simpa using g
  have L1:3<=sizeLine/\∀p,H p=none->D5.rt (.ref p) (upd H p (.tup [V.str (Str.ofString "later"),V.str m,V.str pn])):=%[v|λt u=>r5 _ _ (B H m pn (ae.refl H) m2 U (Ne.symm g) _ (.inl rfl) t u)]
  have L2:3<=sizeLine/\∀p,H p=none->D5.rt (.ref p) (upd H p (.tup [V.str (Str.ofString "later"),V.str pn,V.str m])):=%[v|λt u=>r5 _ _ (B H pn m (ae.refl H) U m2 g _ (.inl rfl) t u)]
  exact bv (λ_=>bv (λ_=>bv (λ_=>L1) λ_=>L2) λ_=>L2) λ_=>bv (λ_=>bv (λ_=>bv (λ_=>L1) λ_=>L2) λ_=>L2) λ_=>rest
structure Drn where
 name:Str
 cols:List ZK
 hi:Nat
 sh:Int
 wd:Bool
noncomputable def Drn.rows(d:Drn):ZB:=drawn d.cols d.hi d.sh
def kN(d:Drn):Prop:=e8 d.name=true/\1<=d.hi/\d.hi<=6/\1<=d.cols.length/\d.cols.length<=5/\∀c∈d.cols,c.length=d.hi/\jC d.wd c
theorem kN.cut(h:kN d):bX d.rows:=r0 h.2.1 (by have:=h.2.2.1;lia) h.2.2.2.1 (by have:=h.2.2.2.2.1;lia) h.2.2.2.2.2
noncomputable def gN(d:Drn):List (Str×Int):=(there d.cols).map λa=>(dh d.name (sg a d.sh),a)
noncomputable def dcs(ds:List (Addr×Drn)):List (Addr×Str×ZB):=ds.map λp=>(p.1,p.2.name,p.2.rows)
noncomputable def nmK(k:Int):Str:=if k=0 then "north" else if k=1 then "a" else if k=2 then "wallwest" else "zz"
def xE(K:ZA):Sp:=λvs H Q _=>∃(a:Addr) (xs:ZK),vs=[.ref a]/\SqL K H a (xs.map V.int)/\(∀b,ae H b->SqL K b a (xs.map V.int))/\xs.length=43/\(∀x∈xs,0<=x/\x<9973)/\
 ∀t c d e b ds qs,ae H b->H t=none->H c=none->H d=none->H e=none->c≠d->c≠e->d≠e->
  b t=some (.tup [.ref c,.ref d,.ref e])->b c=some (.lst (bW (dcs ds)))->b d=some (.lst (qs.map λq=>V.ref q.1))->b e=some (.lst ((ds.flatMap λp=>(gN p.2).map (·.1)).map V.str))->
  1<=ds.length->ds.length<=3->(∀p∈ds,kN p.2)->(ds.map λp=>p.2.name).Nodup->bS b (dcs ds)->cr b (ds.flatMap λp=>(gN p.2).map (·.1)) qs->qs.length<=12->(∀p∈ds,∃k:Int,p.2.name=nmK k)->1<=(ds.flatMap λp=>(gN p.2).map (·.1)).length/\(ds.flatMap λp=>(gN p.2).map (·.1)).length<=24->Q (.ref t) b
theorem jK(h:H M=some (.lst xs)):∀b z,H b=some (.tup z)->upd H M (.lst ys) b=some (.tup z):=λb z e=>by
 rw[aj (λa=>by lia)];exact e
theorem dB.keep(h:dB H ys)(t:∀b z,H b=some (.tup z)->c b=some (.tup z)):dB c ys:=λp a=>%[t _ _ (h p a).1|(h p a).2]
theorem bS.keep(h:bS H c)(t:∀b z,H b=some (.tup z)->d b=some (.tup z)):bS d c:=λp a=>%[t _ _ (h p a).1|(h p a).2]
theorem cr.keep(h:cr H c qs)(t:∀b z,H b=some (.tup z)->d b=some (.tup z)):cr d c qs:=λp a=>%[t _ _ (h p a).1|(h p a).2]
theorem bS.snoc(h:bS H a)(b:H q.1=some (.tup [.str q.2.1,.str (Str.join nl q.2.2)])/\e8 q.2.1=true/\bX q.2.2):bS H (a++[q]):=λp c=>by
 rcases X4 c with z|z
 .exact h p z
 .rw[X5 z];exact b
theorem dB.snoc(h:dB H ys)(a:H q.1=some (.tup [.str q.2.1,.int q.2.2])/\0<=q.2.2/\q.2.2<=7):dB H (ys++[q]):=λp b=>by
 rcases X4 b with z|z
 .exact h p z
 .rw[X5 z];exact a
theorem xF(n:Str)(c:Nat):n++Str.ofString "."++sgn c=dh n c:=by
 refine iD ?_;show(n.cps++ ([46].toArray) ++ ([c].toArray)).toList=(n.cps.toList++[46,c]).toArray.toList;simp
theorem Et(k:Int):e8 (nmK k)=true:=by
 unfold nmK
 split
 .decide +kernel
 .split
  .decide +kernel
  .split<;> decide +kernel
theorem BX(c:0<=j)(e:j<4)(d:0<=k)(f:k<4)(h:nmK j=nmK k):j=k:=by
 have all:∀a b:Fin 4,nmK (a.1)=nmK (b.1)->a=b:=by decide +kernel
 obtain⟨a,rfl⟩:=X1 c;obtain⟨b,rfl⟩:=X1 d;have:=all %[a|⋯] %[b|⋯] h
 simp_all
theorem qw(T:Txt K mg):↥3 "_law_ground" ["_law_row_here"] (xE K):=by
 refine T.bq.cal aQ (λH vs Q E h=>?_)
 .obtain⟨a,xs,rfl,hs,keep,cd,hb,kk⟩:=h;refine%[rfl|λf eu A outer s hr=>?_];have get:∀i:Int,0<=i->i<43->∃c,atI (xs.map V.int) i=some (V.int c)/\0<=c/\c<9973:=λi h0 h1=>by
   obtain⟨c,e,hm⟩:=jH xs h0 ⋯;exact%[c,e|hb c hm]
  obtain⟨c0,g0,l0,u0⟩:=get 0 (by decide) (by decide);refine%[_,%["JCI1QBCI2QBCX+AHvEHaP0EEBL3CI4PQARARARARBHaHv3HhP0EEECI5HvHhP0EEH|E3C~IF]XA~T0~BHvEH|E3~BHvEH|E3A5BeML6ML7fCZpj1AgA4A6BBDXT7L8DZpj2AgAH%H%4RF~nA8A5BA8BBCI9HaHhP0EEECI:QBCX+A9BL3DZpj~e:AF]YAP0HvEH|E3AP0HvEH|E3A2BBDGgA1A~e:Awi?1T2eMc0?2Mc1?2fx0B",aQ.nd,(show bZ (af ef) ["_law_row_here","_law_cuts","_law_layers","_law_k","_law_name","_law_shift","_law_text","_law_there","_law_at","_law_many","_law_sayings"] _ ["_law_layer","_law_at"] []=true from by decide +kernel),(show(["_law_layer","_law_at"]:ZB).Nodup from by decide +kernel)|hr]|?_]
  show bh _ _ _ [!a,none,none,none,none,none,none,none,none,none,none] H;refine am λD1 k1 _=>?_
  lk;refine%[Yy _|λu bt=>k1 _ _ (am λD2 k2 _=>?_)];have s1:=ae.upd (o:= .lst []) bt;lk;refine%[Yy _|λL3 a4=>k2 _ _ (am λD3 k3 _=>ax λa1 hK=>?_)];have s2:=s1.trans (ae.upd (o:= .lst []) a4);have b0:u≠L3:=λe=>by rw[<-e,aa]at a4;cases a4
  lk;refine%[_,keep _ s2,_,g0,c0,rfl,by decide|?_];refine%[⋯,⋯|hK _ _ (cO (λi M l=>∃o3 o4 o5 o6 o7 o8,M=[!a,!u,!L3,o3,o4,o5,o6,o7,o8,none,none]/\ae H l/\∃(ds:List (Addr×Drn)) (ys:List (Addr×Str×Int)),ds.length=i/\l u=some (.lst (bW (dcs ds)))/\l L3=some (.lst (ys.map λp=>V.ref p.1))/\dB l ys/\(ys.map (·.2))=(ds.flatMap λp=>gN p.2)/\
   bS l (dcs ds)/\(∀p∈ds,kN p.2)/\ds.map (λp=>p.2.name)=(List.range i).map λk:Nat=>nmK (((k:Int) +c0/3)%4))
   %[_,_,_,_,_,_,rfl,s2,[],[],rfl,by rw[aj b0];exact aa,aa,λp hp=>(nomatch hp),rfl,λp hp=>(nomatch hp),λp hp=>(nomatch hp)|rfl] ?_ ?_)]
  .rintro i M H3 hi ⟨o3,o4,o5,o6,o7,o8,rfl,s3,ds,ys,b1,v,C,a5,Y,b2,a6,a7⟩;have ev:i<3:=by lia
   show bh _ _ _ [!a,!u,!L3,some (.int (0+i)),o4,o5,o6,o7,o8,none,none] H3;rw[Int.zero_add];refine am λD4 k4 _=>?_
   lk;obtain⟨m,ch,cl⟩:∃m:Str,atI [V.str (Str.ofString "north"),V.str (Str.ofString "a"),V.str (Str.ofString "wallwest"),V.str (Str.ofString "zz")] (((i:Int) +c0/3)%4)=some (V.str m)/\m=nmK (((i:Int) +c0/3)%4):=by
    rcases(show((i:Int) +c0/3)%4=0\/((i:Int) +c0/3)%4=1\/((i:Int) +c0/3)%4=2\/((i:Int) +c0/3)%4=3 by lia)with e|e|e|e<;> rw[e]<;> exact%[_,rfl|rfl]
   have b3:e8 m=true:=by rw[cl];exact Et _
   refine%[#[4]|λp hp=>%[_,keep _ (s3.trans (ae.upd hp)),_,g0,c0,rfl,%[by decide|by decide],by decide,_,SqL.of aa,_,ch|k4 _ _ (am λD5 k5 _=>?_)]];have sp:=ae.upd (o:= .lst [V.str (Str.ofString "north"),V.str (Str.ofString "a"),V.str (Str.ofString "wallwest"),V.str (Str.ofString "zz")]) hp
   generalize upd H3 p (.lst [V.str (Str.ofString "north"),V.str (Str.ofString "a"),V.str (Str.ofString "wallwest"),V.str (Str.ofString "zz")])=H4 at sp
   have O:=s3.trans sp;lk;refine%[_,keep _ O,_,g0,c0,rfl,%[by decide|by decide],.inl %[by decide|by decide]|k5 _ _ (am λD6 k6 _=>?_)];have b4:0<=c0/12+3*(i:Int):=by lia
   generalize c0/12+3*(i:Int)=r at b4
   lk;refine%[.inl %[by decide|by decide],.inl %[by decide|by decide]|.inl %[_,keep _ O|λp2 co=>?_]];rw[sq xs ⋯ ⋯ ⋯];have cs:((xs.drop (1+6*(i:Int)).toNat).take ((7+6*(i:Int)).toNat-(1+6*(i:Int)).toNat)).length=6:=by
    rw[Yd,Y9,cd];exact(by decide:∀i:Nat,i<3->min ((7+6*(i:Int)).toNat-(1+6*(i:Int)).toNat) (43-(1+6*(i:Int)).toNat)=6) i ⋯
   have ct:∀x∈(xs.drop (1+6*(i:Int)).toNat).take ((7+6*(i:Int)).toNat-(1+6*(i:Int)).toNat),0<=x/\x<9973:=λx hx=>hb x (List.mem_of_mem_drop (mem_of_mem_take hx))
   generalize (xs.drop (1+6*(i:Int)).toNat).take ((7+6*(i:Int)).toNat-(1+6*(i:Int)).toNat)=ws at cs ct
   refine%[p2,ws,r,rfl,SqL.of aa,λl sm=>SqL.of (sm _ _ aa),cs,ct,b4|λT5 th H5 d g ab U f5 dx n5 dy dK dT dV d0 d1 b5=>%[T5,rfl,_,SqT.of dy,rfl,_,_,rfl,_,_,rfl,rfl|k6 _ _ (am λD7 k7 _=>?_)]];have b6:ae H3 H5:=sp.trans ((ae.upd co).trans U);have bb:kN %[m,d,g,r|ab]:=%[b3,dT,dV,d0,d1|b5]
   have ai:H3 th=none:=sp.free ((ae.upd co).free dx);have d2:th≠u:=λe=>by rw[e,v]at ai;cases ai
   have d3:th≠L3:=λe=>by rw[e,C]at ai;cases ai
   lk;refine%[.inl %[_|SqL.of (b6 _ _ v)],#[2]|λI d4=>?_];have s6:=ae.upd (o:= .tup [V.str m,V.str (nl.join (drawn d g r))]) d4;have g6:upd H5 I (.tup [V.str m,V.str (nl.join (drawn d g r))]) I=_:=aa;have a0:=s6 _ _ (b6 _ _ v)
   generalize upd H5 I (.tup [V.str m,V.str (nl.join (drawn d g r))])=H6 at s6 g6 a0
   have a8:=b6.trans s6;refine%[_,a0,by rw[show(bW (dcs ds)).length=ds.length by unfold bW dcs;rw[Z5,Z5],b1];exact aJ ⋯|k7 _ _ (aB λD8 k8 _=>ax λa1 hK=>?_)];have tk:=jK (ys:=bW (dcs ds) ++[V.ref I]) a0;have cM:ae H (upd H6 u (.lst (bW (dcs ds) ++[V.ref I]))):=ae.set (s3.trans a8) bt;have c1:upd H6 u (.lst (bW (dcs ds) ++[V.ref I])) u=some (.lst (bW (dcs (ds++[(I,%[m,d,g,r|ab])])))):=by
    rw[aa];unfold bW dcs;rw[Zc,Zc];rfl
   have c2:upd H6 u (.lst (bW (dcs ds) ++[V.ref I])) L3=some (.lst (ys.map λp=>V.ref p.1)):=by rw[aj (Ne.symm b0)];exact a8 _ _ C
   have b7:upd H6 u (.lst (bW (dcs ds) ++[V.ref I])) th=some (.lst ((there d).map V.int)):=by rw[aj d2];exact s6 _ _ dK
   have c3:bS (upd H6 u (.lst (bW (dcs ds) ++[V.ref I]))) (dcs (ds++[(I,%[m,d,g,r|ab])])):=by
    rw[show dcs (ds++[(I,%[m,d,g,r|ab])])=dcs ds++[(I,m,drawn d g r)] by unfold dcs;rw[Zc];rfl];exact((b2.up a8).snoc %[g6,b3|bb.cut]).keep tk
   have c4:dB (upd H6 u (.lst (bW (dcs ds) ++[V.ref I]))) ys:=(a5.up a8).keep tk
   generalize upd H6 u (.lst (bW (dcs ds) ++[V.ref I]))=H7 at cM c1 c2 b7 c3 c4
   have al:ys.length<=8*i:=by
    have e:=congrArg List.length Y;rw[Z5,List.length_flatMap]at e;have:=pI (f:=λp:Addr×Drn=>(gN p.2).length) (B:=8) (xs:=ds) λp _=>by
     unfold gN;rw[Z5];exact j6 _
    lia
   lk;refine .inl %[%[_|SqL.of b7]|hK _ _ (bw (xs:=(there d).map V.int) (λj M l=>∃o8,M=[!a,!u,!L3,some (.int i),-m,some (.int r),some (.str (nl.join (drawn d g r))),!th,o8,none,none]/\ae H l/\l u=some (.lst (bW (dcs (ds++[(I,%[m,d,g,r|ab])]))))/\l th=some (.lst ((there d).map V.int))/\bS l (dcs (ds++[(I,%[m,d,g,r|ab])]))/\
    ∃zs:List (Addr×Str×Int),l L3=some (.lst ((ys++zs).map λp=>V.ref p.1))/\dB l (ys++zs)/\zs.map (·.2)=((there d).take j).map λa=>(dh m (sg a r),a))
    %[_,rfl,cM,c1,b7,c3,[],by rw[Zw];exact c2,by rw[Zw];exact c4|rfl] (λj M l _ ⟨_,_,_,_,q,_⟩=>SqL.of q) ?_ ?_)]
   .rintro j x M H8 hx ⟨o8,rfl,s8,a2,bf,b9,zs,an,ca,a3⟩;have hj:j<(there d).length:=by have:=(X3 hx).1;rwa[Z5]at this
    rw[Zk,Z4 hj]at hx;obtain rfl:x=V.int (there d)[j]:=(Z9 hx).symm;have c5:=eA.mp (Y5 hj);show jn _ _ [!a,!u,!L3,some (.int i),-m,some (.int r),some (.str (nl.join (drawn d g r))),!th,some (.int (there d)[j]),none,none] H8;refine aB λD9 k9 _=>?_
    lk;have et:=mL b3;have ea:∀a b:Str,(a++b).length=a.length+b.length:=λa b=>size_append
    have e1:(Str.ofString ".").length=1:=rfl;have zl:zs.length<=j:=by
     have:=congrArg List.length a3;rw[Z5,Z5,Yd]at this
     lia
    have tl:=j6 d;refine%[.inl %[_|SqL.of an],cm ⋯,_,_,rfl,b4,_,rfl,cm (by rw[ea,show(sgn (sg (there d)[j] r)).length=1 from rfl];lia),#[2]|λp hp=>?_];rw[xF];have s9:=ae.upd (o:= .tup [V.str (dh m (sg (there d)[j] r)),V.int (there d)[j]]) hp;have g9:upd H8 p (.tup [V.str (dh m (sg (there d)[j] r)),V.int (there d)[j]]) p=_:=aa
    generalize upd H8 p (.tup [V.str (dh m (sg (there d)[j] r)),V.int (there d)[j]])=H9 at s9 g9
    have c7:=s9 _ _ an;have da:=jK (ys:=(ys++zs).map (λp=>V.ref p.1) ++[V.ref p]) c7;refine%[_,c7,by rw[Z5,Z8];exact aJ ⋯|k9 _ _ %[_,rfl,ae.set (s8.trans s9) (s1.free a4),by rw[aj b0];exact s9 _ _ a2,by rw[aj d3];exact s9 _ _ bf,(b9.up s9).keep da,zs++[(p,dh m (sg (there d)[j] r),(there d)[j])],?_,?_|?_]]
    .rw[aa,<-Zd,Zc (l₂:=[(p,dh m (sg (there d)[j] r),(there d)[j])])];rfl
    .rw[<-Zd];exact((ca.up s9).snoc %[g9,c5.1|c5.2.1]).keep da
    .rw[Zc,a3,Yw,Z4 hj,Zc];rfl
   .rintro M H8 ⟨o8,rfl,s8,a2,bf,b9,zs,an,ca,a3⟩;rw[Z5,Zm (Zh _)]at a3;refine k8 _ _ %[_,_,_,_,_,_,rfl,s8,ds++[(I,%[m,d,g,r|ab])],ys++zs,by rw[Z8,b1];rfl,a2,an,ca,?_,b9,λp hp=>?_|?_]
    .rw[Zc,Y,a3,flatMap_append]
     congr 1
     rw[List.flatMap_singleton];rfl
    .rcases X4 hp with z|z
     .exact a6 p z
     .rw[X5 z];exact bb
    .rw[Zc,a7,range_succ,Zc];rw[cl];rfl
  .rintro M H3 ⟨o3,o4,o5,o6,o7,o8,rfl,s3,ds,ys,b1,v,C,a5,Y,b2,a6,a7⟩;refine k3 _ _ (am λD4 k4 _=>?_);lk;refine%[_,keep _ s3,_,g0,c0,rfl,%[by decide|by decide],by decide|k4 _ _ (am λD5 k5 _=>?_)];have m0:0<=c0/100%13:=by lia
   have d7:c0/100%13<=12:=by lia
   generalize c0/100%13=bl at m0 d7
   lk;refine%[Yy _|λL2 ag=>k5 _ _ (am λD6 k6 _=>ax λa1 hK=>?_)];have eb:L2≠u:=λe=>by rw[e,v]at ag;cases ag
   have ew:L2≠L3:=λe=>by rw[e,C]at ag;cases ag
   have ec:=ae.upd (o:= .lst []) ag;have ed:1<=ds.length:=by lia
   have ee:ds.length<=3:=by lia
   have al:ys.length<=24/\1<=ys.length:=by
    have e:=congrArg List.length Y;rw[Z5,List.length_flatMap]at e;have:=pI (f:=λp:Addr×Drn=>(gN p.2).length) (B:=8) (xs:=ds) λp _=>by
     unfold gN;rw[Z5];exact j6 _
    refine%[⋯|Nat.pos_of_ne_zero λz=>?_];have eg:ys=[]:=length_eq_zero_iff.mp z;rw[eg]at Y;have dc:0<ds.length:=by lia
    have hq:=a6 ds[0] (Y5 dc);have dd:=z5 hq.2.1 hq.2.2.2.1 hq.2.2.2.2.2;obtain⟨a',eh⟩:=List.exists_mem_of_ne_nil _ dd;have:(dh ds[0].2.name (sg a' ds[0].2.sh),a')∈ds.flatMap λp=>gN p.2:=mem_flatMap.mpr %[ds[0],Y5 dc|X7 %[a',eh|rfl]]
    rw[<-Y]at this;cases this
   have G:(ys.map λp=>p.2.1)=ds.flatMap λp=>(gN p.2).map (·.1):=by
    have e:=congrArg (List.map (·.1)) Y;rw[Yj,List.map_flatMap]at e;exact e
   lk;refine%[⋯,⋯|hK _ _ (cO (λi M l=>∃o3,M=[!a,!u,!L3,o3,o4,o5,o6,o7,o8,some (.int bl),!L2]/\ae H3 l/\∃qs:ZM,l L2=some (.lst (qs.map λq=>V.ref q.1))/\qs.length=i/\cr l (ys.map λp=>p.2.1) qs)
    %[_,rfl,ec,[],aa,rfl|λq hq=>(nomatch hq)] ?_ ?_)]
   .rintro i M H4 ex ⟨o3,rfl,O,qs,L,de,a9⟩;show jn _ _ [!a,!u,!L3,some (.int (0+i)),o4,o5,o6,o7,o8,some (.int bl),!L2] H4;rw[Int.zero_add];obtain⟨x1,ej,ek,ey⟩:=get (19+2*(i:Int)) ⋯ ⋯;obtain⟨x2,el,en,ez⟩:=get (20+2*(i:Int)) ⋯ ⋯;refine aB λD7 k7 _=>?_
    lk;refine%[.inl %[_|SqL.of L],.inl %[by decide|by decide],_,keep _ (s3.trans O),_,ej,.inl %[by decide|by decide],_,keep _ (s3.trans O),_,el|?_];refine%[x1,x2,L3,ys,rfl,O _ _ C,a5.up O,al.2,⋯,ek,en|λt H5 eo U f5 h5 ep=>?_];have a0:=U _ _ L;have dk:=jK (ys:=qs.map (λq=>V.ref q.1) ++[V.ref t]) a0;lk;refine%[_,a0,by rw[Z5];exact aJ ⋯|k7 _ _ %[_,rfl,ae.set (O.trans U) ag,qs++[(t,eo)],by rw[aa,Zc];rfl,by rw[Z8,de];rfl|λq hq=>?_]];rcases X4 hq with z|z
    .exact(((a9.up U).keep dk) q z)
    .rw[X5 z];exact%[dk _ _ h5|ep]
   .rintro M H4 ⟨o3,rfl,O,qs,L,de,a9⟩;refine k6 _ _ ?_;lk;refine aO λa1 hK=>?_
    lk;have as:=O _ _ C;refine .inl %[%[_|SqL.of as]|hK _ _ λN hN=>?_];refine bL (J:=Itl K L3) (n:=ys.length) (D:=N) (λj ts M l=>(∃o1 o2,M=[o1,o2])/\ae H4 l/\l N=some (.lst ts)/\ts=((ys.take j).map λp=>p.2.1).map V.str)
     %[%[none,none|rfl],ae.upd hN,aa|rfl]
     (λj _ _ l hj ⟨_,sm,_⟩=>%[_,V.ref ys[j].1,SqL.of (sm _ _ as)|by simp[hj]]) (λ_ _ l ⟨_,sm,_⟩=>%[_,SqL.of (sm _ _ as)|by simp]) ?_ ?_
    .rintro j ts M H5 hj ⟨⟨o1,o2,rfl⟩,U,eq,ht⟩ x H6 ⟨e2,hx⟩;subst e2;have dp:=hx _ (SqL.of (U _ _ as));rw[Zk,Z4 hj]at dp;obtain rfl:x=V.ref ys[j].1:=(Z9 dp).symm;have er:=(a5 ys[j] (Y5 hj)).1;refine%[_,SqT.of (U _ _ (O _ _ er)),rfl,_,_,rfl,_,_,rfl,rfl|?_];show yL [some (.str ys[j].2.1),some (.int ys[j].2.2)] _ _;lk;refine CK.mk hj eq (by rw[ht,Z5,Z5,Yd];exact aJ ⋯) %[%[_,_|rfl],ae.set U hN,aa|?_];rw[ht,Yw,Zc,Zc,Z4 hj];rfl
    rintro ts M H5 ⟨_,U,es,ht⟩;rw[Zm (Zh _),G]at ht;refine%[#[3]|λt dr=>?_];have st:=ae.upd (o:= .tup [V.ref u,V.ref L2,V.ref N]) dr;have dt:=s3.trans (O.trans (U.trans st));rw[G]at a9;have bm:=O _ _ v;refine kk t u L2 N _ ds qs dt ((s3.trans (O.trans U)).free dr) bt (s3.free ag) ((s3.trans O).free hN) (Ne.symm eb) (λe=>by rw[<-e,bm]at hN;cases hN) (λe=>by rw[<-e,L]at hN;cases hN) aa (st _ _ (U _ _ bm)) (st _ _ (U _ _ L)) ?_ ed ee a6 ?_ (b2.up (O.trans (U.trans st))) (a9.up (U.trans st)) ⋯ (λp hp=>?_) (by rw[<-G,Z5];exact%[al.2|al.1])
    .rw[st _ _ es,ht]
    .rw[a7,Yq,Yv];refine X0 (λ{x y} hx hy dd he=>?_) (nodup_iff_pairwise_ne.mp (nodup_range (n:=(1+c0%3).toNat)));rw[mem_range]at hx hy;have:=BX ⋯ ⋯ ⋯ ⋯ he
     lia
    .have:p.2.name∈ds.map λp=>p.2.name:=X7 %[p,hp|rfl]
     rw[a7]at this;obtain⟨k,_,e⟩:=X6 this;exact%[_|e.symm]
noncomputable def NmD(a:ZB)(f:Str->Str):List (Key×V):=a.map λz=>(Sum.inr z,V.str (f z))
theorem ko:∀{a:ZB},z∈a->cp (NmD a f) (Sum.inr z)=some (.str (f z))
 |[],h=>(nomatch h)
 | x::a,h=>by
   by_cases e:x=z
   .subst e;exact eE rfl
   .rw[show NmD _ f=(Sum.inr x,V.str _)::NmD a f from rfl,cT (λq=>e (Sum.inr.inj q))];exact ko (by rcases mem_cons.mp h with q|q;exact(e q.symm).elim;exact q)
theorem Ae:((NmD b f).any λa=>decide (a.1=(Sum.inr z:Key)))=true↔z∈b:=by
 rw[any_eq_true]
 constructor
 .rintro⟨a,c,d⟩;obtain⟨x,e,rfl⟩:=X6 c
  simp_all
 .intro h;exact%[_,X7 %[z,h|rfl]|Ze rfl]
theorem Af(h:z∈a):dM (NmD a f) (Sum.inr z) (.str v)=NmD a (λx=>if x=z then v else f x):=by
 unfold dM;rw[if_pos (Ae.mpr h)];unfold NmD;rw[Yj];refine Yh λx _=>?_
 show(if(Sum.inr x)=Sum.inr z then((Sum.inr x),V.str v)else(Sum.inr x,V.str _))=(Sum.inr x,V.str (if x=z then v else f x))
 by_cases e:x=z
 .rw[if_pos (congrArg _ e),if_pos e]
 .rw[if_neg (λq=>e (Sum.inr.inj q)),if_neg e]
theorem Eu(h:z∉a):dM (NmD a id) (Sum.inr z) (.str z)=NmD (a++[z]) id:=by
 unfold dM;rw[if_neg (λq=>h (Ae.mp q))];unfold NmD;rw[Zc];rfl
noncomputable def vI(a:ZB)(z:Str):Nat:=fP (a.map λu=>[u]) [z]
theorem sF(b:x∈a)(h:ba x y=true):vI a x<vI a y:=by
 have:=jy (ks:=a.map λu=>[u]) (y:=[y]) (X7 %[x,b|rfl]);rw[mh,h]at this;exact Zn this.symm
def bu(qs:ZM)(a b:Str):Prop:=∃q∈qs,q.2=[.str "same",.str a,.str b]
theorem iK{S R:Str->Str->Prop}(F:bz c f r S)(h:∀a b,S a b↔R a b):bz c f r R:=by
 rw[funext λa=>funext λb=>(propext (h a b)).symm];exact F
def Ev:Sp:=λvs H Q _=>∃d z a f r S,vs=[.ref d,.str z]/\H d=some (.dK (NmD a f))/\bz a f r S/\z∈a/\Q (.str (r z)) H
def BY:Sp:=λvs H Q _=>∃d a b c f r S,vs=[.ref d,.str a,.str b]/\H d=some (.dK (NmD c f))/\bz c f r S/\a∈c/\b∈c/\c.length<=5000/\
 ∀e g,bz c e g (λx y=>S x y\/(x=a/\y=b))->Q .non (upd H d (.dK (NmD c e)))
theorem eS(T:Txt K mg):↥1 "least_pointed_to" ["names","layer"] Ev:=by
 refine T.aE.cal dX (λH vs Q E h=>?_)
 .obtain⟨d,z,e,p,r,S,rfl,q,F,t,j⟩:=h;refine%[rfl|λf o A outer s i=>?_];refine%[_,%["JC~JKrt011DI1t01DG1",dX.nd|i]|?_]
  refine am λv u _=>?_
  refine⟨λm l g=>∃y,l=[some _,-y]/\g=H/\y∈e/\r y=r z/\m=vI e y,%[_,z,rfl,rfl,t,rfl|rfl],?_⟩;rintro m l g ⟨y,rfl,rfl,a,b,rfl⟩;lk;have g1:=by
   have:=dZ.k (k:=Sum.inr y) q;rw[ko a]at this;exact this
  refine%[_,g1,rfl|bv (λh=>?_) λh=>?_]
  .have h:=by simpa using h
   refine%[λc n=>c=[some _,some _]/\n=g,?_,_,g1,rfl|rfl];rintro c n ⟨rfl,rfl⟩;exact%[_,sF (F.fin y a) (F.dec y a h),p y,rfl,rfl,F.fin y a,(F.rf y a).trans b|rfl]
  .have h:=by simpa using h
   refine u _ _ ?_;rw[<-b,F.fix y a h]at j;exact j
theorem lh(T:Txt K mg):↥2 "join_deposits" ["names","one","other"] BY:=by
 refine T.aD.cal du (λH vs Q E h=>?_)
 .obtain⟨d,a,b,c,p,r,S,rfl,g,F,i,j,n,o⟩:=h;refine%[rfl|λf m A outer s e=>?_];refine%[_,%["JCI3F~!A0A1BCI4F~!A0A2BD,~M]ZA3A4B0~m]aA3A4B",du.nd|e]|?_]
  show bh _ _ _ [!d,-a,-b,none,none] H;refine am λv q _=>?_
  lk;refine%[d,a,c,p,r,S,rfl,g,F,i|q _ _ (am λy t _=>?_)];lk;refine%[d,b,c,p,r,S,rfl,g,F,j|t _ _ (aB λz u _=>?_)];lk;have J:=F.join i j rfl rfl;have l:(if ba (r a) (r b)=true then r b else r a)∈c:=by
   split
   .exact F.rin b j
   .exact F.rin a i
  generalize (if ba (r a) (r b)=true then r b else r a)=M at J l
  refine%[_,kR.k (k:=Sum.inr M) g (by unfold NmD;rw[Z5,PySem.sizeLine_eq];lia)|u _ _ ?_];rw[Af l];exact o _ _ J
theorem uN{qs:ZM}{q:Addr×ZL}(c:qs[i]? =some q)(a b:Str):bu (qs.take (i+1)) a b↔bu (qs.take i) a b\/q.2=[.str "same",.str a,.str b]:=by
 unfold bu;rw[Yw,c]
 simp_all
theorem gO{c:ZB}(d:c.Pairwise (λa b=>ba b a=false)){i:Nat}{z w:Str}(f:c[i]? =some z)(hw:w∈c)(h:ba w z=true):w∈c.take i:=by
 rw[<-Yx i c]at hw;rcases X4 hw with e|e
 .exact e
 .obtain⟨hi,g⟩:=X3 f;obtain⟨j,l,rfl⟩:=getElem_of_mem e;rw[List.getElem_drop]at h;rw[Y9]at l;by_cases m:j=0
  .subst m;rw[<-g]at h;simp only[add_zero]at h;rw[eX]at h;cases h
  .have:=List.pairwise_iff_getElem.mp d i (i+j) hi ⋯ ⋯
   grind
def Ag(mg:ZC):Sp:=λvs H Q _=>∃g f h i qs c ts,vs=[.ref g]/\GrF mg H g f h i qs c ts/\c.Nodup/\c.Pairwise (λa b=>ba b a=false)/\c.length<=5000/\
 ∀d e r,ae H e->H d=none->e d=some (.dK (NmD c r))->(∀z∈c,r z∈c/\bP (bu qs) z (r z))->Q (.ref d) e
theorem mO{H:Hp}{g b c d:Addr}{qs:List _}{e:ZB}{ts:List _}{m:Str}{R:Prop}(h:GrF mg H g b c d qs e ts)(f:m="layers"\/m="sayings"\/m="ties")(k:R):∃a fs,H g=some (.ins (aF mg "Ground") a fs)/\List.lookup m fs=none/\R:=by
 obtain⟨a,j,i⟩:=h.at_;exact⟨a,_,i,by rcases f with rfl|rfl|rfl<;> rfl,k⟩
theorem dC(T:Txt K mg):↥3 "names_by_layer" ["ground"] (Ag mg):=by
 refine T.aC.cal bg (λH vs Q E h=>?_)
 .obtain⟨g,c2,c3,c4,qs,j,ts,rfl,hg,nd,so,a0,kk⟩:=h;refine%[rfl|λf a3 A outer s J=>?_];have lm:(j.map V.str).length=j.length:=Z5 _;have qm:(qs.map λq=>V.ref q.1).length=qs.length:=Z5 _;refine%[_,%["JCI1>CXT~K~f0L2D,212CXT~K]b0eML3ML4ML5fDNKb3RDZF]cA1A4A5BOCXT~K~f0L2D,t1t1212DG1",bg.nd|J]|?_]
  show bh _ _ _ [!g,none,none,none,none,none] H;refine am λD1 k1 _=>?_
  lk;intro d hd;refine k1 _ _ (am λD2 k2 _=>ax λL hK=>?_);have s1:=ae.upd (o:= .dK []) hd;have Y:upd H d (.dK []) d=some (.dK (NmD (j.take 0) id)):=aa
  generalize upd H d (.dK [])=H1 at s1 Y
  lk;have ab:=hg.up s1;refine mO ab (.inl rfl) %[g,c2,c3,c4,qs,j,ts,rfl,ab|λl1 N=> .inl %[l1,rfl,%[_|SqL.of aa]|hK _ _ ?_]];have s2:=ae.upd (o:= .lst (j.map V.str)) N;have ag:upd H1 l1 (.lst (j.map V.str)) l1=_:=aa;have n1:l1≠d:=λe=>by rw[e,Y]at N;cases N
  have Y:=s2 _ _ Y
  generalize upd H1 l1 (.lst (j.map V.str))=H2 at s2 ag Y
  refine bw (xs:=j.map V.str) (λi n l=>(∃p t u v,n=[!g,!d,p,t,u,v])/\ae H l/\l l1=some (.lst (j.map V.str))/\l d=some (.dK (NmD (j.take i) id)))
   %[%[_,_,_,_|rfl],s1.trans s2,ag|Y] (λi n l _ h=>SqL.of h.2.2.1) ?_ ?_
  .rintro i x n l M ⟨⟨p,t,u,v,rfl⟩,m,I,c⟩;rw[Zk]at M;obtain⟨z,B,rfl⟩:=map_eq_some_iff.mp M;show n8 _ _ _ _ [!g,!d,-z,t,u,v] l;refine aB λD3 k3 _=>?_
   lk;have zn:z∉j.take i:=λhm=>by
    have h:=nd;rw[<-Yx i j,Yp]at h;exact h.2.2 z hm z (Z7 (i:=0) (by rw[getElem?_drop];exact B)) rfl
   refine%[_,kR.k (k:=Sum.inr z) c (by unfold NmD;rw[Z5,Yd,PySem.sizeLine_eq];lia)|k3 _ _ %[%[_,_,_,_|rfl],ae.set m hd,(aj n1).trans I|?_]];rw[aa,Eu zn,Yw,B];rfl
  rintro n H3 ⟨⟨p,t,u,v,rfl⟩,m,I,c⟩;rw[lm,Zm (Zh _)]at c;refine k2 _ _ (am λD4 k4 _=>ax λL hK=>?_);lk;have ai:=hg.up m;refine mO ai (.inr (.inl rfl)) %[g,c2,c3,c4,qs,j,ts,rfl,ai|λl2 O=> .inl %[l2,rfl,%[_|SqL.of aa]|hK _ _ ?_]];have s4:=ae.upd (o:= .lst (qs.map λq=>V.ref q.1)) O;have al:upd H3 l2 (.lst (qs.map λq=>V.ref q.1)) l2=_:=aa;have n2:l2≠d:=λe=>by rw[e,c]at O;cases O
  have c:=s4 _ _ c;have an:=m.trans s4
  generalize upd H3 l2 (.lst (qs.map λq=>V.ref q.1))=H4 at s4 al c an
  refine bw (xs:=qs.map λq=>V.ref q.1) (λi n l=>(∃p t u v,n=[!g,!d,p,t,u,v])/\ae H l/\l l2=some (.lst (qs.map λq=>V.ref q.1))/\∃f r,l d=some (.dK (NmD j f))/\bz j f r (bu (qs.take i)))
   %[%[_,_,_,_|rfl],an,al,id,id,c|iK (bz.start j) λa b=>%[λh=>h.elim|λ⟨q,hq,_⟩=>(nomatch hq)]] (λi n l _ h=>SqL.of h.2.2.1) ?_ ?_
  .rintro i x n l M ⟨⟨p,t,u,v,rfl⟩,m,I,f,r,c,F⟩;rw[Zk]at M;obtain⟨q,hq,rfl⟩:=map_eq_some_iff.mp M;obtain⟨q1,q2⟩:=hg.sa q (Z7 hq);have st:=m _ _ q1;have C:=uN hq;rcases q2 with⟨wd,a,b,e,hw,ha,hb,_⟩|⟨wd,a,y,e,hw,_⟩
   .rw[e]at st C;refine%[_,SqT.of st,rfl,_,_,rfl,_,_,rfl,_,_,rfl,rfl|?_];show jQ _ _ _ _ [!g,!d,p,-wd,-a,-b] l;refine aB λD5 k5 _=>?_
    lk;refine bv (λh=>?_) λh=>?_
    .have h:wd=Str.ofString "same":=by simpa using h
     refine%[d,a,b,j,f,r,_,rfl,c,F,ha,hb,a0|λf' r' F'=>k5 _ _ %[%[_,_,_,_|rfl],ae.set m hd,(aj n2).trans I,f',r',aa|iK F' λx y=>?_]];rw[C,h];refine or_congr Iff.rfl %[λ⟨e1,e2⟩=>by rw[e1,e2]|λe=>?_];simp only[List.cons.injEq,V.str.injEq,and_true,true_and]at e;exact%[e.1.symm|e.2.symm]
    .have h:wd≠Str.ofString "same":=by simpa using h
     refine k5 _ _ %[%[_,_,_,_|rfl],m,I,f,r,c|iK F λx y=>?_];rw[C];refine%[.inl|λe=>e.resolve_right λe=>h ?_];simp only[List.cons.injEq,V.str.injEq]at e;exact e.1
   .rw[e]at st C;refine%[_,SqT.of st,rfl,_,_,rfl,_,_,rfl,_,_,rfl,rfl|?_];show jQ _ _ _ _ [!g,!d,p,-wd,-a,some (.int y)] l;refine aB λD5 k5 _=>?_
    lk;rw[if_neg (by rcases hw with rfl|rfl<;> decide)];refine k5 _ _ %[%[_,_,_,_|rfl],m,I,f,r,c|iK F λx z=>?_];rw[C];refine%[.inl|λe=>e.resolve_right λe=>?_];simp at e
  rintro n H5 ⟨⟨p,t,u,v,rfl⟩,m,I,f,r,c,F⟩;rw[qm,Zm (Zh _)]at F;refine k4 _ _ (am λD6 k6 _=>ax λL hK=>?_);lk;have as:=hg.up m;refine mO as (.inl rfl) %[g,c2,c3,c4,qs,j,ts,rfl,as|λl3 U=> .inl %[l3,rfl,%[_|SqL.of aa]|hK _ _ ?_]];have s6:=ae.upd (o:= .lst (j.map V.str)) U;have a1:upd H5 l3 (.lst (j.map V.str)) l3=_:=aa;have n3:l3≠d:=λe=>by rw[e,c]at U;cases U
  have c:=s6 _ _ c;have a2:=m.trans s6;refine bw (xs:=j.map V.str) (λi n l=>(∃p t u v,n=[!g,!d,p,t,u,v])/\ae H l/\l l3=some (.lst (j.map V.str))/\∃f,l d=some (.dK (NmD j f))/\bz j f r (bu qs)/\∀z∈j.take i,f z=r z)
   %[%[_,_,_,_|rfl],a2,a1,f,c,F|λz B=>(nomatch B)] (λi n l _ h=>SqL.of h.2.2.1) ?_ ?_
  .rintro i x n l M ⟨⟨p,t,u,v,rfl⟩,m,I,f,c,F,G⟩;rw[Zk]at M;obtain⟨z,B,rfl⟩:=map_eq_some_iff.mp M;have zm:=Z7 B;show n8 _ _ _ _ [!g,!d,-z,t,u,v] l;refine aB λD7 k7 _=>?_
   lk;have get:=λy hy=>by
    have:=dZ.k (k:=Sum.inr y) c;rw[ko hy]at this;exact this
   refine%[_,get z zm,_,get _ (F.fin z zm),_,kR.k (k:=Sum.inr z) c (by unfold NmD;rw[Z5,PySem.sizeLine_eq];lia)|k7 _ _ %[%[_,_,_,_|rfl],ae.set m hd,(aj n3).trans I,_,?_,F.short zm|λy hy=>?_]]
   .rw[aa,Af zm]
   .rw[Yw,B]at hy;by_cases e:y=z
    .rw[if_pos e,e];exact F.done zm λw hw h=>G w (gO so B hw h)
    .rw[if_neg e];rcases X4 hy with h|h
     .exact G y h
     .exact(e (X5 h)).elim
  rintro n H7 ⟨⟨p,t,u,v,rfl⟩,m,I,f,c,F,G⟩;rw[lm,Zm (Zh _)]at G;refine k6 _ _ ?_;lk;refine kk d H7 r m hd ?_ λz B=>%[F.rin z B|F.least B]
  rw[c];unfold NmD;rw[Yh λz B=>by rw[G z B]]
theorem Ew{X:Cx}{K:ZA}{T id:String}(h:X.K=K)(m:PlainAttrs T)(slot:Slot T name id)(i:typeOf (.builtin id)=pure (.type "method_descriptor"))(n:MtQ X id r)
 (b:attributeBase o name X.env (eval o X.env)=eval o X.env) (a:(e::g).any aW=false) (j:Nat.blt (e::g).length 30=true) (c:(d.endLine==f.line)=true) (p:QE X o q) (s:QA X (e::g) t):
 QE X (.Call (.Attribute o name d) (e::g) [] f) (tBM K T r q t):=by
 have l:=a;rw[Zv,Yu]at l;refine⟨yS h m slot i n.h p.h s.h b ?_ c (av l.1) (cU l.2)⟩;rw[pC a];have:decide ((e::g).length+([]:List Keyword).length+(if([]:List Keyword).isEmpty then 0 else 1)<30)=true:=Ze ((Nat.blt_eq.mp j));rw[this];rfl
noncomputable def grp(r:Str->Str)(xs:ZB):List (Str×ZB):=(xs.filter λz=>decide (r z=z)).map λz=>(z,xs.filter λx=>decide (r x=z))
theorem xG(h:∀z∈xs,r z=b z):grp r xs=grp b xs:=by
 unfold grp;rw[List.filter_congr λz a=>by rw[h z a]];refine Yh λz a=>?_
 rw[List.filter_congr λx c=>by rw[h x c]]
theorem BZ(a:r z=z)(b:z∉xs)(c:∀x∈xs,r x∈xs):grp r (xs++[z])=grp r xs++[(z,[z])]:=by
 unfold grp;rw[Zz,Zc];refine congr (congrArg _ (Yh λw hw=>?_)) ?_
 .have:w≠z:=λe=>b (e▸(List.mem_filter.mp hw).1)
  rw[Zz,Y0 (by rw[a];simpa using this.symm),Y2,Zw]
 .rw[Y1 (by rw[a];simp),Y2];show [(z,_)]=_;rw[Zz,Y1 (by rw[a];simp),Y2,List.filter_eq_nil_iff.mpr λx d=>?_]
  .rfl
  .intro e;exact b ((Zn e)▸c x d)
theorem B0(a:r z≠z):grp r (xs++[z])=(grp r xs).map λp=>if p.1=r z then(p.1,p.2++[z])else p:=by
 unfold grp;rw[Zz,Y0 (by simpa using a),Y2,Zw,Yj];refine Yh λw hw=>?_
 show(w,_)=if w=r z then(w,_)else(w,_)
 rw[Zz];by_cases e:w=r z
 .rw[if_pos e,Y1 (by simpa using e.symm),Y2]
 .rw[if_neg e,Y0 (by simpa using λq=>e q.symm),Y2,Zw]
theorem jL:y∈(grp r xs).map (·.1)↔y∈xs/\r y=y:=by
 unfold grp
 simp_all
theorem kq(h:xs.Nodup):((grp r xs).map (·.1)).Nodup:=by
 unfold grp;rw[Yj,show((λx=>x.1) ∘ λz=>(z,List.filter _ xs))=id from rfl,map_id];exact h.filter _
def vJ(S:Str->Str->Prop)(a:ZB)(ds:List ZB):Prop:=∃r:Str->Str,(∀z∈a,r z∈a/\bP S z (r z))/\ds=(grp r a).map (·.2)
theorem vJ.one{S:Str->Str->Prop}(h:vJ S b ds)(g:vJ S b c):ds=c:=by
 obtain⟨r,d,rfl⟩:=h;obtain⟨e,g1,rfl⟩:=g;rw[xG λz a=>(d z a).2.one (g1 z a).2]
noncomputable abbrev Gs(a:Type):=List (Str×Addr×List a)
noncomputable def gD{a:Type}(b:Gs a):List (Key×V):=b.map λg=>(Sum.inr g.1,V.ref g.2.1)
theorem vK:∀{a:Gs b},y∉a.map (·.1)->cp (gD a) (Sum.inr y)=none
 |[],_=>rfl
 | g::a,h=>by
   rw[Yi,Yn,not_or]at h;rw[show gD _=(Sum.inr g.1,V.ref _)::gD a from rfl,cT (λq=>h.1 (Sum.inr.inj q).symm)];exact vK h.2
theorem gP:∀{a:Gs d},cp (gD a) (Sum.inr y)=some v->∃g∈a,g.1=y/\v= .ref g.2.1
 |[],h=>(nomatch h)
 | g::a,h=>by
   rw[show gD _=(Sum.inr g.1,V.ref _)::gD a from rfl]at h;by_cases e:g.1=y
   .rw[eE (congrArg Sum.inr e)]at h;exact%[g,Zl,e|(Z9 h).symm]
   .rw[cT (λq=>e (Sum.inr.inj q))]at h;obtain⟨g',b,c⟩:=gP h;exact%[g',Zj _ b|c]
theorem kr:∀{a:Gs b},g∈a->cp (gD a) (Sum.inr g.1)≠none
 | x::a,h,c=>by
   rw[show gD _=(Sum.inr x.1,V.ref _)::gD a from rfl]at c;by_cases e:x.1=g.1
   .rw[eE (congrArg Sum.inr e)]at c;cases c
   .rw[cT (λq=>e (Sum.inr.inj q))]at c;rcases mem_cons.mp h with q|q
    .exact e (by rw[q])
    .exact kr q c
def lz(H:Hp)(a:ZG):Prop:=∀g∈a,H g.1=some (.lst (g.2.map V.str))
theorem lz.up{H a:Hp}{b:List _}(h:lz H b)(s:ae H a):lz a b:=λg c=>s _ _ (h g c)
structure iw {α:Type} (f:α->V) (H0 H:Hp) (d:Addr) (gs:Gs α):Prop where
 at_:H d=some (.dK (gD gs))
 la:∀g∈gs,H0 g.2.1=none/\H g.2.1=some (.lst (g.2.2.map f))
 nd:(gs.map (·.2.1)).Nodup
theorem B1{f:Type}{c:Gs f}(d:(c.map (·.1)).Nodup){g h:Str×Addr×List f}(i:g∈c)(j:h∈c)(e:g.1=h.1):g=h:=by
 induction c with
 | nil=>cases i
 | cons x xs l=>
   rw[Yi,nodup_cons]at d;rcases mem_cons.mp i with a|a<;> rcases mem_cons.mp j with b|b
   .rw[a,b]
   .exact(d.1 (by rw[<-a,e];exact X7 %[_,b|rfl])).elim
   .exact(d.1 (by rw[<-b,<-e];exact X7 %[_,a|rfl])).elim
   .exact l d.2 a b
theorem Ah{f:Type}{c:Gs f}(d:(c.map (·.2.1)).Nodup){g h:Str×Addr×List f}(i:g∈c)(j:h∈c)(e:g.2.1=h.2.1):g=h:=by
 induction c with
 | nil=>cases i
 | cons x xs l=>
   rw[Yi,nodup_cons]at d;rcases mem_cons.mp i with a|a<;> rcases mem_cons.mp j with b|b
   .rw[a,b]
   .exact(d.1 (by rw[<-a,e];exact X7 %[_,b|rfl])).elim
   .exact(d.1 (by rw[<-b,<-e];exact X7 %[_,a|rfl])).elim
   .exact l d.2 a b
noncomputable def nH{a:Type}(y:Str)(z:a)(b:Gs a):Gs a:=b.map λg=>if g.1=y then(g.1,g.2.1,g.2.2++[z])else g
theorem Ex(y:Str)(z:b)(a:Gs b):gD (nH y z a)=gD a:=by
 unfold nH gD;rw[Yj];refine Yh λg _=>?_
 show(Sum.inr (if g.1=y then(g.1,g.2.1,g.2.2++[z])else g).1,V.ref (if g.1=y then(g.1,g.2.1,g.2.2++[z])else g).2.1)=_
 split<;> rfl
theorem Ey(y:Str)(z:b)(a:Gs b):(nH y z a).map (·.2.1)=a.map (·.2.1):=by
 unfold nH;rw[Yj];refine Yh λg _=>?_
 show(if g.1=y then(g.1,g.2.1,g.2.2++[z])else g).2.1=_
 split<;> rfl
theorem Ez(y:Str)(z:b)(a:Gs b):(nH y z a).map (λg=>(g.1,g.2.2))=(a.map λg=>(g.1,g.2.2)).map λp=>if p.1=y then(p.1,p.2++[z])else p:=by
 unfold nH;rw[Yj,Yj];refine Yh λg _=>?_
 show((if g.1=y then(g.1,g.2.1,g.2.2++[z])else g).1,(if g.1=y then(g.1,g.2.1,g.2.2++[z])else g).2.2)=if g.1=y then(g.1,g.2.2++[z])else(g.1,g.2.2)
 split<;> rfl
theorem iw.up{a:Type}{f:a->V}{b H c:Hp}{d:Addr}{e:Gs a}(h:iw f b H d e)(s:ae H c):iw f b c d e:=%[s _ _ h.at_,λg i=>%[(h.la g i).1|s _ _ (h.la g i).2]|h.nd]
theorem iw.add{a:Type}{f:a->V}{l H:Hp}{d:Addr}{b:Gs a}(h:iw f l H d b)(m:(b.map (·.1)).Nodup){g:Str×Addr×List a}(c:g∈b)(z:a):iw f l (upd H g.2.1 (.lst (g.2.2.map f++[f z]))) d (nH g.1 z b):=by
 refine%[?_,λg' j=>?_|by rw[Ey];exact h.nd]
 .rw[Ex,aj (λe=>by have:=(h.la g c).2;rw[<-e,h.at_]at this;cases this)];exact h.at_
 .obtain⟨n,i,rfl⟩:=X6 j;by_cases e:n.1=g.1
  .rw[if_pos e];obtain rfl:=B1 m i c e;refine%[(h.la _ c).1|?_];rw[aa,Zc];rfl
  .rw[if_neg e];refine%[(h.la _ i).1|?_];rw[aj (λq=>e (by rw[Ah h.nd i c q]))];exact(h.la _ i).2
theorem iw.new{l:Gs n}(h:iw f m H d l)(s:ae m H)(j:H e=none)(y:Str)(z:n)(o:y∉l.map (·.1)):iw f m (upd (upd (upd H e (.lst [])) d (.dK (dM (gD l) (Sum.inr y) (.ref e)))) e (.lst [f z])) d (l++[(y,e,[z])]):=by
 refine%[?_,λg i=>?_|?_]
 .rw[aj (λq=>by rw[<-q,h.at_]at j;cases j),aa,jp _ (vK o)];unfold gD;rw[Zc];rfl
 .rcases X4 i with i|i
  .refine%[(h.la g i).1|?_];have q:=(h.la g i).2;rw[aj (λc=>by rw[c,j]at q;cases q),aj (λc=>by rw[c,h.at_]at q;cases q),aj (λc=>by rw[c,j]at q;cases q)];exact q
  .rw[X5 i];exact%[s.free j|aa]
 .rw[Zc,Yp];refine%[h.nd,by simp|λa p b r c=>?_];obtain⟨g,i,rfl⟩:=X6 p;have q:=(h.la g i).2
  simp_all
def B2(mg:ZC):Sp:=λvs H Q _=>∃g e f h qs c ts,vs=[.ref g]/\GrF mg H g e f h qs c ts/\c.Nodup/\c.Pairwise (λa b=>ba b a=false)/\c.length<=5000/\
 ∀l d ss,ae H d->H l=none->d l=some (.lst (ss.map λt=>V.ref t.1))->lz d ss->(∀s∈ss,H s.1=none)->vJ (bu qs) c (ss.map (·.2))->ss.length<=5000->Q (.ref l) d
def EA(mg:ZC):Sp:=λvs H Q _=>∃g e f h qs c ts z,vs=[.ref g,.str z]/\GrF mg H g e f h qs c ts/\c.Nodup/\c.Pairwise (λa b=>ba b a=false)/\c.length<=5000/\z∈c/\
 ∀d m,ae H d->bP (bu qs) z m->Q (.str m) d
theorem bN(T:Txt K mg):↥4 "deposit_of" ["ground","layer"] (EA mg):=by
 refine T.aH.cal nt (λH vs Q E h=>?_)
 .obtain⟨g,c,e,i,qs,j,ts,z,rfl,n,nd,o,b,l,p⟩:=h;refine%[rfl|λf m A outer s a=>?_];refine%[_,%["JDGtF~gA0B1",0|a]|?_];show iV _ _ [!g,-z] H;lk;refine%[g,c,e,i,qs,j,ts,rfl,n,nd,o,b|λd q r t v u a=>?_];have:=dZ.k (k:=Sum.inr z) u;rw[ko l]at this;exact%[d,rfl,_,this|p q (r z) t (a z l).2]
theorem uO(T:Txt K mg):↥4 "deposits" ["ground"] (B2 mg):=by
 refine T.aG.cal eY (λH vs Q E h=>?_)
 .obtain⟨g,c2,c3,c4,qs,n,ts,rfl,hg,nd,so,as,kk⟩:=h;refine%[rfl|λf a8 A outer s C=>?_];have lm:(n.map V.str).length=n.length:=Z5 _;refine%[_,%["JCI1F~gA0BCI2>CXT~K~f0L3DZ~$j~%~&2At13AQBBA3BDG']dA]e]f2B",eY.nd|C]|?_]
  show bh _ _ _ [!g,none,none,none] H;refine am λD1 k1 _=>?_
  lk;refine%[g,c2,c3,c4,qs,n,ts,rfl,hg,nd,so,as|λd H1 r s1 fd I C=>k1 _ _ (am λD2 k2 _=>?_)];lk;intro e fe;refine k2 _ _ (am λD3 k3 _=>ax λa7 hK=>?_);have a0:d≠e:=λc=>by rw[c,fe]at I;cases I
  have s2:=ae.upd (o:= .dK []) fe;have ge:upd H1 e (.dK []) e=some (.dK (gD ([]:Gs Str))):=aa;have I:=s2 _ _ I;have fe:=s1.free fe;have U:=s1.trans s2
  generalize upd H1 e (.dK [])=H2 at s2 ge I U
  lk;have ab:=hg.up U;refine mO ab (.inl rfl) %[g,c2,c3,c4,qs,n,ts,rfl,ab|λl1 a1=> .inl %[l1,rfl,%[_|SqL.of aa]|hK _ _ ?_]];have s3:=ae.upd (o:= .lst (n.map V.str)) a1;have J:upd H2 l1 (.lst (n.map V.str)) l1=_:=aa;have I:=s3 _ _ I;have ge:=s3 _ _ ge;have ag:=U.trans s3
  generalize upd H2 l1 (.lst (n.map V.str))=H3 at s3 J I ge ag
  have r2:∀z∈n,r (r z)=r z:=λz L=>by
   have h:=(C z L)
   have h2:=(C _ h.1).2;exact h2.one %[.refl _|λy c=>h.2.2 y (h.2.1.trans c)]
  have ai:∀z∈n,r z≠z->ba (r z) z=true:=λz L h=>fO ((C z L).2.2 z (.refl _)) h.symm
  obtain⟨M,a2,a3,a4,Y,s0⟩:∃M:Hp,M e=none/\M d=some (.dK (NmD n r))/\M l1=some (.lst (n.map V.str))/\ae H M/\ae M H3:=by
   refine%[λa=>if a=e then none else H3 a,if_pos rfl,?_,?_,λa o h=>?_|λa o h=>?_]
   .exact(if_neg (λc=>a0 c)).trans I
   .exact(if_neg (λc=>by rw[c,ge]at J;cases J)).trans J
   .exact(if_neg (λc=>by rw[c,fe]at h;cases h)).trans (ag _ _ h)
   .have h:(if a=e then none else H3 a)=some o:=h
    split at h
    .cases h
    .exact h
  refine bw (xs:=n.map V.str) (λi σ H'=>(∃o3,σ=[!g,!d,!e,o3])/\ae M H'/\∃u,iw V.str M H' e u/\u.map (λg=>(g.1,g.2.2))=grp r (n.take i))
   %[%[_|rfl],s0,[],%[ge,λg hg=>(nomatch hg)|Yr]|rfl] (λi σ H' _ h=>SqL.of (h.2.1 _ _ a4)) ?_ ?_
  .rintro i x σ H' hx ⟨⟨o3,rfl⟩,N,u,b,t⟩;rw[Zk]at hx;obtain⟨z,L,rfl⟩:=map_eq_some_iff.mp hx;have zm:=Z7 L;have i1:i<n.length:=(X3 L).1;show jn _ _ [!g,!d,!e,-z] H';refine aB λD4 k4 _=>?_
   lk;have get:=dZ.k (k:=Sum.inr z) (N _ _ a3);rw[ko zm]at get;have gk:u.map (·.1)=(grp r (n.take i)).map (·.1):=by rw[<-t,Yj];rfl
   have al:(u.map (·.1)).Nodup:=by rw[gk];exact kq (nd.sublist (List.take_sublist _ _))
   have gl:u.length<=n.length:=by
    have:=STab.nodup_sub al (m:=n) λy hy=>by rw[gk,jL]at hy;exact mem_of_mem_take hy.1
    rw[Z5]at this;exact this
   have zn:z∉n.take i:=λhm=>by
    have h:=nd;rw[<-Yx i n,Yp]at h;exact h.2.2 z hm z (Z7 (i:=0) (by rw[getElem?_drop];exact L)) rfl
   have tk:n.take (i+1)=n.take i++[z]:=by rw[Yw,L];rfl
   refine%[.inr (.inr (.inl (.inl %[_|b.at_]))),_,get,#[0]|λp O=>%[Sum.inr (r z),rfl,gD u,?_,?_,λv hv=>?_|λhv=>?_]]
   .rw[aj (λc=>by rw[<-c,b.at_]at O;cases O)];exact b.at_
   .unfold gD;rw[Z5];exact aJ ⋯
   .obtain⟨q,B,e1,rfl⟩:=gP hv;have a5:q.1∈u.map (·.1):=X7 %[q,B|rfl];have an:=a5;rw[gk,jL,e1]at an;have rn:r z≠z:=λc=>zn (by rw[<-c];exact an.1)
    have sp:=ae.upd (o:= .lst []) O;have hl:=sp _ _ (b.la q B).2;have G:=(b.up sp).add al B z;have ml:q.2.2.length<=n.length:=by
     have:(q.1,q.2.2)∈grp r (n.take i):=by rw[<-t];exact X7 %[q,B|rfl]
     obtain⟨y,hy,c⟩:=X6 this;rw[<-(Prod.mk.inj c).2];exact Y8 (Ya _ _) (by rw[Yd];lia)
    refine%[.inl %[_|SqL.of hl],_,rfl,_,hl,by rw[Z5];exact aJ ⋯|k4 _ _ %[%[_|rfl],ae.set (N.trans sp) (b.la q B).1,_,G|?_]];rw[Ez,t,tk,B0 rn,e1]
   .have nk:r z∉u.map (·.1):=λh=>by
     obtain⟨q,B,c⟩:=X6 h;have:=kr B;rw[c,hv]at this;exact this rfl
    have rz:r z=z:=Decidable.byContradiction λc=>nk (by rw[gk,jL];exact%[gO so L (C z zm).1 (ai z zm c)|r2 z zm])
    have de:e≠p:=λq=>by rw[<-q,b.at_]at O;cases O
    rw[rz]at hv nk ⊢;have gp:upd (upd H' p (.lst [])) e (.dK (dM (gD u) (Sum.inr z) (.ref p))) p=some (.lst []):=by rw[aj de.symm,aa]
    refine%[.inl %[_|SqL.of gp],[],gp,(show 0<sizeLine by decide)|k4 _ _ %[%[_|rfl],ae.set (ae.set (N.trans (ae.upd O)) a2) (N.free O),_,b.new N O z z nk|?_]];rw[Zc,t,tk,BZ rz zn λx hx=>?_]
    .rfl
    .obtain⟨j,hj⟩:=List.mem_iff_getElem?.mp hx;have xm:=mem_of_mem_take hx;by_cases c:r x=x
     .rw[c];exact hx
     .have ji:j<i:=by have:=(X3 hj).1;rw[Yd]at this;lia
      rw[List.getElem?_take_of_lt ji]at hj;exact List.take_subset_take_left _ (le_of_lt ji) (gO so hj (C x xm).1 (ai x xm c))
  rintro σ H' ⟨⟨o3,rfl⟩,N,u,b,t⟩;rw[lm,Zm (Zh _)]at t;refine k3 _ _ ?_;lk;have gk:u.map (·.1)=(grp r n).map (·.1):=by rw[<-t,Yj];rfl
  have gl:u.length<=n.length:=by
   have:=STab.nodup_sub (l:=u.map (·.1)) (by rw[gk];exact kq nd) (m:=n) λy hy=>by rw[gk,jL]at hy;exact hy.1
   rw[Z5]at this;exact this
  refine%[.inr (.inr (.inl (.inl %[_|b.at_]))),%[_|b.at_]|λv fv=>%[e,aa,_,ae.upd fv _ _ b.at_|λl fl=>?_]];have sv:=ae.upd (o:=rP v e) fv;have sl:=ae.upd (o:= .lst ((gD u).map (·.2))) fl;have a6:=N.trans (sv.trans sl);refine kk l _ (u.map (·.2)) (Y.trans a6) ((Y.trans (N.trans sv)).free fl) ?_ (λs hs=>?_) (λs hs=>?_) %[r,C|?_] (by rw[Z5];lia)
  .rw[aa];unfold gD;rw[Yj,Yj];rfl
  .obtain⟨q,B,rfl⟩:=X6 hs;exact sl _ _ (sv _ _ (b.la q B).2)
  .obtain⟨q,B,rfl⟩:=X6 hs;exact Y.free (b.la q B).1
  .rw[<-t,Yj,Yj];rfl
structure aY (S:Str->Str->Prop) (ks0 ks:List _):Prop where
 nd:ks.Nodup
 so:ks.Pairwise (λa b=>df b a=false)
 mem:∀k,k∈ks↔∃a b z a' b',[a,b,z]∈ks0/\bP S a a'/\bP S b b'/\k=[a',b',z]
theorem aY.one{S:Str->Str->Prop}(h:aY S c ks)(g:aY S c d):ks=d:=
 mz df (λ_ _ a b=>j3 a b) h.so g.so h.nd g.nd λx=>(h.mem x).trans (g.mem x).symm
noncomputable def uP(r:Str->Str):ZB->ZB
 |[a,b,z]=>[r a,r b,z]
 | k=>k
theorem uQ{S:Str->Str->Prop}{c:List _}{l:ZB}{r:Str->Str}(m:∀k∈c,cE l k)(f:∀z∈l,bP S z (r z))(k:ZB):k∈c.map (uP r)↔∃a b z g h,[a,b,z]∈c/\bP S a g/\bP S b h/\k=[g,h,z]:=by
 rw[mem_map]
 constructor
 .rintro⟨t,d,rfl⟩;obtain⟨a,b,z,rfl,i,j⟩:=m t d;exact%[a,b,z,r a,r b,d,f a i,f b j|rfl]
 .rintro⟨a,b,z,g,h,d,n,o,rfl⟩;obtain⟨x,y,u,e,i,j⟩:=m _ d;simp only[List.cons.injEq,and_true]at e;obtain⟨rfl,rfl,rfl⟩:=e;exact%[_,d|by rw[<-(f a i).one n,<-(f b j).one o];rfl]
def Ai(mg:ZC):Sp:=λvs H Q _=>∃g e f h qs c ts,vs=[.ref g]/\GrF mg H g e f h qs c ts/\c.Nodup/\c.Pairwise (λa b=>ba b a=false)/\c.length<=5000/\ts.length<=62/\(∀k∈ts.map (·.2),cE c k)/\
 ∀l d ss,ae H d->H l=none->d l=some (.lst (ss.map λt=>V.ref t.1))->aL d ss->aY (bu qs) (ts.map (·.2)) (ss.map (·.2))->ss.length<=62->Q (.ref l) d
theorem jM(T:Txt K mg):↥4 "links" ["ground"] (Ai mg):=by
 refine T.aJ.cal si (λH vs Q E h=>?_)
 .obtain⟨g,c2,c3,c4,qs,Y,ts,rfl,hg,nd,so,ab,a5,h3,kk⟩:=h;refine%[rfl|λf a4 A outer s v=>?_];refine%[_,%["JC~A1lmF~gA0BDG=~wA~F~xAwi?1T~K]g0eMc0?2Mc1?2Mc2?2fxgAtS30AtS31A2BBB",si.nd,(show bZ (af lw) ["ground","names"] _ ["later","earlier","source","names"] [(3,1)]=true from by decide +kernel),(show(["later","earlier","source","names"]:ZB).Nodup from by decide +kernel)|v]|?_]
  show bh _ _ _ [!g,none] H;refine am λD1 k1 _=>?_
  lk;refine%[g,c2,c3,c4,qs,Y,ts,rfl,hg,nd,so,ab|λd H1 r s1 fd hd v=>k1 _ _ ?_];lk;refine aO λa3 hK=>?_
  lk;have B:=hg.up s1;refine mO B (.inr (.inr rfl)) %[g,c2,c3,c4,qs,Y,ts,rfl,B|λI ag=> .inl %[I,rfl,%[_|SqL.of aa]|hK _ _ λF hF=>?_]];have s2:=ae.upd (o:= .lst (ts.map λt=>V.ref t.1)) ag;have u:upd H1 I (.lst (ts.map λt=>V.ref t.1)) I=_:=aa
  generalize upd H1 I (.lst (ts.map λt=>V.ref t.1))=H2 at s2 u hF
  have ai:=s2 _ _ hd;have al:=(B.up s2).tu;refine bL (J:=Itl K I) (n:=ts.length) (D:=F) (λj vs σ L=>(∃o1 o2 o3,σ=[o1,o2,o3,!d])/\ae H2 L/\L F=some (.lst vs)/\∃ps:ZG,vs=ps.map (λp=>V.ref p.1)/\aL L ps/\ps.map (·.2)=((ts.take j).map (·.2)).map (uP r))
   %[%[none,none,none|rfl],ae.upd hF,aa,[],rfl,iu _|rfl] (λj _ _ L C ⟨_,sm,_⟩=>%[_,V.ref ts[j].1,SqL.of (sm _ _ u)|by simp[C]]) (λ_ _ L ⟨_,sm,_⟩=>%[_,SqL.of (sm _ _ u)|by simp]) ?_ ?_
  .rintro j vs σ H3 C ⟨⟨o1,o2,o3,rfl⟩,G,M,ps,hv,i,c⟩ x H4 ⟨e2,hx⟩;subst e2;have N:=hx _ (SqL.of (G _ _ u));rw[Zk,Z4 C]at N;obtain rfl:x=V.ref ts[j].1:=(Z9 N).symm;have tj:=Y5 C;obtain⟨a,b,z,e,ha,hb⟩:=h3 _ (X7 %[_,tj|rfl]);have st:=G _ _ (al _ tj).2;rw[e]at st;have get:∀y∈Y,dZ H4 d (.str y) (some (.str (r y))):=λy hy=>by
    have:=dZ.k (k:=Sum.inr y) (G _ _ ai);rw[ko hy]at this;exact this
   refine%[_,SqT.of st,rfl,_,_,rfl,_,_,rfl,_,_,rfl,rfl|?_];show yL [-a,-b,-z,!d] _ _;lk;refine%[_,get a ha,_,get b hb,#[3]|λp hp=>?_];have sp:=ae.upd (o:= .tup [V.str (r a),V.str (r b),V.str z]) hp;have gp:upd H4 p (.tup [V.str (r a),V.str (r b),V.str z]) p=_:=aa;have keep:=jK (ys:=vs++[V.ref p]) (sp _ _ M);have pl:=congrArg List.length c;rw[Z5,Z5,Z5,Yd]at pl;refine CK.mk C (sp _ _ M) (by rw[hv,Z5];exact aJ ⋯) %[%[_,_,_|rfl],ae.set (G.trans sp) hF,aa,ps++[(p,[r a,r b,z])],by rw[hv,Zc];rfl,aT (iJ (aT i λb z e=>sp _ _ e) ∅ gp) keep|?_];rw[Zc,c,Yw,Z4 C,Zc,Zc];show _++[_]=_++[uP r ts[j].2];rw[e];rfl
  rintro vs σ H3 ⟨_,G,an,ps,hv,i,c⟩;rw[Zm (Zh _)]at c;have pl:=congrArg List.length c;rw[Z5,Z5,Z5]at pl;have p3:∀q∈ps,q.2.length=3:=λq l=>by
   have:q.2∈ps.map (·.2):=X7 %[q,l|rfl];rw[c]at this;obtain⟨k,hk,e⟩:=X6 this;obtain⟨a,b,z,rfl,_⟩:=h3 k hk;rw[<-e];rfl
  refine%[F,rfl,ps,by rw[<-hv];exact SqL.of an,i,%[ps.map (·.2),by rw[Z5];lia|λq l=>X7 %[q,l|rfl]]|λl5 as=>?_];have s5:=ae.upd (o:=md P w l5 (bc ps)) as;have a0:(bc ps).length<=62:=by
   have:=STab.nodup_sub (dF ps) (m:=ps.map (·.2)) λk hk=>by
    obtain⟨q,l,rfl⟩:=X6 hk;exact X7 %[q,bj ps q l|rfl]
   rw[Z5,Z5]at this
   lia
  refine%[bc ps,aa,λq l=>%[(i q (bj ps q l)).1|s5 _ _ (i q (bj ps q l)).2],3,λq l=>p3 q (bj ps q l),by decide,⋯|λl6 ss O pm a1=>?_];have s6:=ae.upd (o:= .lst (ss.map λq=>V.ref q.1)) O;have U:=s1.trans (s2.trans (G.trans s5));have pk:(ss.map (·.2)).Perm ((bc ps).map (·.2)):=pm.map _;refine kk l6 _ ss (U.trans s6) (U.free O) aa (λq l=>?_) %[pk.nodup_iff.mpr (dF ps),by rw[Yv];exact a1|λk=>?_] (by rw[pm.length_eq];exact a0)
  .have a2:=pm.mem_iff.mp l;have:=i q (bj ps q a2);exact%[this.1|s6 _ _ (s5 _ _ this.2)]
  .rw[pk.mem_iff,gc,c];exact uQ h3 (λz hz=>(v z hz).2) k
theorem Aj{S:Str->Str->Prop}(d:c.Pairwise (λa b=>ba b a=false))(h:∀z∈c,r z∈c/\bP S z (r z))(i:p∈grp r c):p.2[0]? =some p.1:=by
 obtain⟨z,j,rfl⟩:=X6 i;obtain⟨l,m⟩:=List.mem_filter.mp j;have f:z∈c.filter (λx=>decide (r x=z)):=List.mem_filter.mpr %[l|m];have d:=d.sublist (List.filter_sublist (p:=λx=>decide (r x=z)));have all:∀x∈c.filter (λx=>decide (r x=z)),ba x z=false:=λx n=>by
  obtain⟨o,s⟩:=List.mem_filter.mp n;rw[<-Zn s];exact(h x o).2.2 x (.refl _)
 show(c.filter _)[0]? =some z
 generalize c.filter _=g at all f d
 cases g with
 | nil=>cases f
 | cons y g=>
   rw[List.getElem?_cons_zero];rcases mem_cons.mp f with e|e
   .rw[e]
   .have a:=(List.pairwise_cons.mp d).1 z e;by_cases q:y=z
    .rw[q]
    .have:=fO (all y Zl) q
     grind
structure Ct (S:Str->Str->Prop) (ls ns:ZB):Prop where
 nd:ns.Nodup
 mem:∀x,x∈ns↔x∈ls/\bP S x x
def xH(mg:ZC):Sp:=λvs H Q _=>∃g f h i qs c ts,vs=[.ref g]/\GrF mg H g f h i qs c ts/\c.Nodup/\c.Pairwise (λa b=>ba b a=false)/\c.length<=5000/\
 ∀l d e,ae H d->H l=none->d l=some (.lst (e.map V.str))->Ct (bu qs) c e->Q (.ref l) d
theorem dU(T:Txt K mg):↥5 "deposit_names" ["ground"] (xH mg):=by
 refine T.aI.cal j8 (λH vs Q E h=>?_)
 .obtain⟨g,C,G,I,qs,a,ts,rfl,hg,nd,L,p,kk⟩:=h;refine%[rfl|λf ab A outer s c=>?_];refine%[_,%["JDGwi?1TF]hA0Bc0?2xP0E",0,(show bZ (af cJ) ["ground"] _ ["group"] []=true from by decide +kernel),(show(["group"]:ZB).Nodup from by decide +kernel)|c]|?_];show iV _ _ [!g] H;lk;refine aO λM hK=>?_
  lk;refine%[g,C,G,I,qs,a,ts,rfl,hg,nd,L,p|λN H1 ss O f1 m la _ ⟨r,c,U⟩ ag=> .inl %[N,rfl,%[_|SqL.of m]|hK _ _ λF q=>?_]];have sg:ss.length=(grp r a).length:=by
   have:=congrArg List.length U;rwa[Z5,Z5]at this
  refine bL (J:=Itl K N) (n:=ss.length) (D:=F) (λj vs t o=>(∃Y,t=[Y])/\ae H1 o/\o F=some (.lst vs)/\vs=(((grp r a).take j).map (·.1)).map V.str)
   %[%[none|rfl],ae.upd q,aa|rfl] (λj _ _ o b ⟨_,u,_⟩=>%[_,V.ref ss[j].1,SqL.of (u _ _ m)|by simp[b]]) (λ_ _ o ⟨_,u,_⟩=>%[_,SqL.of (u _ _ m)|by simp]) ?_ ?_
  .rintro j vs t H3 b ⟨⟨Y,rfl⟩,d,v,e⟩ x H4 ⟨y,hx⟩;subst y;have i:=hx _ (SqL.of (d _ _ m));rw[Zk,Z4 b]at i;obtain rfl:x=V.ref ss[j].1:=(Z9 i).symm;have B:j<(grp r a).length:=by lia
   have y:ss[j].2=(grp r a)[j].2:=by
    have:=congrArg (λz=>z[j]?) U;simpa [b,B]using this
   have hd:=Aj L c (Y5 B);lk;refine%[_,SqL.of (d _ _ (la _ (Y5 b))),_,(show atI (ss[j].2.map V.str) ((0:Nat):Int)=some _ from cu (by rw[Zk,y,hd];rfl))|?_];refine CK.mk b v (by rw[e,Z5,Z5,Yd];exact aJ ⋯) %[%[_|rfl],ae.set d q,aa|?_];rw[e,Yw,Z4 B,Zc,Zc];rfl
  rintro vs t H3 ⟨_,d,l,e⟩;rw[Zm ⋯]at e;rw[e]at l;refine kk F H3 _ (O.trans d) (O.free q) l %[kq nd|λx=>?_];rw[jL];refine%[λh=>%[h.1|by have:=(c x h.1).2;rwa[h.2]at this]|λh=>%[h.1|(c x h.1).2.one h.2]]
def GrB(H:Hp)(d:Addr)(ss:ZG)(i:Nat):Prop:=∃a,H d=some (.dK a)/\∀n,(∃l,cp a (Sum.inr n)=some (.ref l)/\H l=some (.lst ((ss.filter λt=>decide (t.2[i]? =some n)).map λt=>V.ref t.1)))\/(cp a (Sum.inr n)=none/\∀t∈ss,t.2[i]? ≠some n)
theorem GrB.up(h:GrB H d ss i)(s:ae H e):GrB e d ss i:=by
 obtain⟨c,f,g⟩:=h;exact%[c,s _ _ f|λn=>(g n).imp_left λ⟨l,a,b⟩=>%[l,a|s _ _ b]]
def cF(H:Hp)(a:ZB)(ss:ZG):Prop:=∀t∈ss,H t.1=some (.tup (t.2.map V.str))/\cE a t.2
theorem cF.up(h:cF H b ss)(s:ae H c):cF c b ss:=λt a=>%[s _ _ (h t a).1|(h t a).2]
theorem EB(h:cE c k)(hi:i<2):∃n,k[i]? =some n/\n∈c:=by
 obtain⟨a,b,z,rfl,d,e⟩:=h
 match i,hi with
 | 0,_=>exact%[a,rfl|d]
 | 1,_=>exact%[b,rfl|e]
def uR:Sp:=λvs H Q _=>∃(l:Addr) (i:Nat) (b:ZB) (ss:List _),vs=[.ref l,.int i]/\i<2/\H l=some (.lst (ss.map λt=>V.ref t.1))/\cF H b ss/\ss.length<=62/\∀d a,ae H a->H d=none->GrB a d ss i->Q (.ref d) a
def Cu(i:Nat):Sp:=λvs H Q _=>∃l b ss,vs=[.ref l]/\H l=some (.lst (ss.map λt=>V.ref t.1))/\cF H b ss/\ss.length<=62/\∀d a,ae H a->H d=none->GrB a d ss i->Q (.ref d) a
theorem oR(T:Txt K mg):↥1 "grouped" ["found","side"] uR:=by
 refine T.aM.cal ja (λH vs Q E h=>?_)
 .obtain⟨l,i,ns,ss,rfl,hi,Y,ab,as,kk⟩:=h;refine%[rfl|λf an A outer s hr=>?_];have ag:(ss.map λt=>V.ref t.1).length=ss.length:=Z5 _;refine%[_,%["JCI2>CXT0L3DZ~$j~%~&2AW31AQBBA3BDG2"|ja.nd]|?_]
  show bh _ _ _ [!l,some (.int i),none,none] H;refine am λD1 k1 _=>?_
  lk;intro e fe;refine k1 _ _ (am λD2 k2 _=>ax λal hK=>?_);lk;have se:=ae.upd (o:= .dK []) fe;refine .inl %[%[_|SqL.of (se _ _ Y)]|hK _ _ ?_];refine bw (xs:=ss.map λt=>V.ref t.1) (λj σ u=>(∃o3,σ=[!l,some (.int i),!e,o3])/\ae H u/\∃m,iw (λt:Addr×ZB=>V.ref t.1) H u e m/\(m.map (·.1)).Nodup/\(∀g∈m,g.2.2=(ss.take j).filter λt=>decide (t.2[i]? =some g.1))/\∀n,n∈m.map (·.1)↔∃t∈ss.take j,t.2[i]? =some n)
   %[%[_|rfl],se,[],%[aa,λg B=>(nomatch B)|Yr],Yr,λg B=>(nomatch B)|by simp] (λj σ u _ h=>SqL.of (h.2.1 _ _ Y)) ?_ ?_
  .rintro j x σ u hx ⟨⟨o3,rfl⟩,I,m,d,gn,J,O⟩;rw[Zk]at hx;obtain⟨t,L,rfl⟩:=map_eq_some_iff.mp hx;have tm:=Z7 L;have j1:j<ss.length:=(X3 L).1;obtain⟨n,M,_⟩:=EB (ab t tm).2 hi;have tk:ss.take (j+1)=ss.take j++[t]:=by rw[Yw,L];rfl
   show jn _ _ [!l,some (.int i),!e,some (.ref t.1)] u;refine aB λD4 k4 _=>?_
   lk;have gl:m.length<=ss.length:=by
    have:m.map (·.1) ⊆ ss.filterMap λt=>t.2[i]? :=λy hy=>by
     obtain⟨t,L,e⟩:=(O y).mp hy;exact mem_filterMap.mpr %[t,mem_of_mem_take L|e]
    have:=STab.nodup_sub gn λx hx=>this hx
    rw[Z5]at this;exact Y8 this (List.length_filterMap_le _ _)
   have st:=I _ _ (ab t tm).1;have keys:∀(N:Gs (Addr×ZB)),(∀y,y∈N.map (·.1)↔y∈m.map (·.1)\/y=n)->∀y,y∈N.map (·.1)↔∃t∈ss.take (j+1),t.2[i]? =some y:=λN h y=>by
    rw[h,O,tk]
    constructor
    .rintro(⟨t',h1,h2⟩|rfl)
     .exact%[t',Yl _ h1|h2]
     .exact%[t,Ym _ Zl|M]
    .rintro⟨t',h1,h2⟩;rcases X4 h1 with q|q
     .exact .inl %[t',q|h2]
     .rw[X5 q,M]at h2;exact .inr (Z9 h2).symm
   refine%[.inr (.inr (.inl (.inl %[_|d.at_]))),_,SqT.of st,_,cu (show(t.2.map V.str)[i]? =some (.str n) by rw[Zk,M];rfl),#[0]|λp C=>%[Sum.inr n,rfl,gD m,?_,?_,λv U=>?_|λU=>?_]]
   .rw[aj (λc=>by rw[<-c,d.at_]at C;cases C)];exact d.at_
   .unfold gD;rw[Z5];exact aJ ⋯
   .obtain⟨q,r,e1,rfl⟩:=gP U;have sp:=ae.upd (o:= .lst []) C;have Y:=sp _ _ (d.la q r).2;have G:=(d.up sp).add gn r t;have ml:q.2.2.length<=ss.length:=by
     rw[J q r];exact Y8 (Ya _ _) (by rw[Yd];lia)
    have ka:(nH q.1 t m).map (·.1)=m.map (·.1):=by
     unfold nH;rw[Yj];refine Yh λg _=>?_
     show(if g.1=q.1 then(g.1,g.2.1,g.2.2++[t])else g).1=_
     split<;> rfl
    refine%[.inl %[_|SqL.of Y],_,rfl,_,Y,by rw[Z5];exact aJ ⋯|k4 _ _ %[%[_|rfl],ae.set (I.trans sp) (d.la q r).1,_,G,by rw[ka];exact gn,λg B=>?_|keys _ λy=>?_]]
    .unfold nH at B;obtain⟨g0,h0,rfl⟩:=X6 B;rw[tk,Zz];by_cases c:g0.1=q.1
     .rw[if_pos c];show g0.2.2++[t]=_++List.filter (λt=>decide (t.2[i]? =some g0.1)) [t];rw[J g0 h0,Y1 (by rw[M,c,e1];simp),Y2]
     .rw[if_neg c,J g0 h0,Y0 (by rw[M,<-e1];simpa using λz=>c z.symm),Y2,Zw]
    .rw[ka];exact%[.inl|λh=>h.elim id λh=>by rw[h,<-e1];exact X7 %[q,r|rfl]]
   .have nk:n∉m.map (·.1):=λh=>by
     obtain⟨q,r,c⟩:=X6 h;have:=kr r;rw[c,U]at this;exact this rfl
    have de:e≠p:=λq=>by rw[<-q,d.at_]at C;cases C
    have gp:upd (upd u p (.lst [])) e (.dK (dM (gD m) (Sum.inr n) (.ref p))) p=some (.lst []):=by rw[aj de.symm,aa]
    refine%[.inl %[_|SqL.of gp],[],gp,(show 0<sizeLine by decide)|k4 _ _ %[%[_|rfl],ae.set (ae.set (I.trans (ae.upd C)) fe) (I.free C),_,d.new I C n t nk,?_,λg B=>?_|keys _ λy=>?_]]
    .rw[Zc,Yp];exact%[gn,by simp|λa ha b hb c=>nk (by rw[<-show b=n from X5 hb,<-c];exact ha)]
    .rw[tk,Zz];rcases X4 B with q|q
     .have c:g.1≠n:=λc=>nk (by rw[<-c];exact X7 %[g,q|rfl])
      rw[J g q,Y0 (by rw[M];simpa using λz=>c z.symm),Y2,Zw]
     .rw[X5 q];show [t]=_++List.filter (λt=>decide (t.2[i]? =some n)) [t];rw[Y1 (by rw[M];simp),Y2,List.filter_eq_nil_iff.mpr λt' ai c=>nk ((O n).mpr %[t',ai|Zn c])];rfl
    .rw[Zc,Yk,Yi,map_nil,mem_singleton]
  .rintro σ u ⟨⟨o3,rfl⟩,I,m,d,gn,J,O⟩;rw[ag,Zm (Zh _)]at J O;refine k2 _ _ ?_;lk;refine kk e u I fe %[_,d.at_|λn=>?_];cases U:cp (gD m) (Sum.inr n)with
   | none=>
     refine .inr %[rfl|λt L c=>?_];obtain⟨q,r,c⟩:=X6 ((O n).mpr %[t,L|c]);have:=kr r;rw[c,U]at this;exact this rfl
   | some v=>
     obtain⟨q,r,e1,rfl⟩:=gP U;refine .inl %[_,rfl|?_];rw[(d.la q r).2,J q r,e1]
theorem bT(T:Txt K mg):↥2 "links_by_later" ["found"] (Cu 0):=by
 refine T.aK.cal jD (λH vs Q E h=>?_)
 .obtain⟨l,c,ss,rfl,g,a,b,i⟩:=h;refine%[rfl|λf d A outer s e=>?_];refine%[_,%["JDGF~'A0A^B",0|e]|?_];exact%[l,0,c,ss,rfl,by decide,g,a,b|i]
theorem jf(T:Txt K mg):↥2 "links_by_earlier" ["found"] (Cu 1):=by
 refine T.aL.cal iN (λH vs Q E h=>?_)
 .obtain⟨l,c,ss,rfl,g,a,b,i⟩:=h;refine%[rfl|λf d A outer s e=>?_];refine%[_,%["JDGF~'A0A~QB",0|e]|?_];exact%[l,1,c,ss,rfl,by decide,g,a,b|i]
structure ReB (ss:ZG) (rs:Gs Str):Prop where
 nd:(rs.map (·.1)).Nodup
 sub:∀r∈rs,r.2∈ss/\r.2.2[1]? =some r.1
theorem ReB.len(h:ReB ss a):a.length<=ss.length:=by
 have:=STab.nodup_sub h.nd (m:=ss.filterMap λt=>t.2[1]?) λx b=>by
  obtain⟨r,c,rfl⟩:=X6 b;exact mem_filterMap.mpr %[r.2|h.sub r c]
 rw[Z5]at this;exact Y8 this (List.length_filterMap_le _ _)
theorem ReB.snoc(h:ReB ss d)(e:(a,[p,y,z])∈ss)(f:y∉d.map (·.1)):ReB ss (d++[(y,a,[p,y,z])]):=by
 refine%[?_|λr g=>?_]
 .rw[Zc,Yp];exact%[h.nd,by simp|λa i b j c=>f (by rw[<-show b=y from X5 j,<-c];exact i)]
 .rcases X4 g with q|q
  .exact h.sub r q
  .rw[X5 q];exact%[e|rfl]
def dY(d:Addr)(H a:Hp):Prop:=∀b o,b≠d->H b=some o->a b=some o
theorem dY.trans(h:dY d H c)(g:dY d c a):dY d H a:=λb o n e=>g b o n (h b o n e)
theorem dY.of(h:ae H a):dY d H a:=λb o _ e=>h b o e
theorem GrB.x(h:GrB H b ss i)(s:dY d H f)(n:b≠d)(m:H d=some (.dK o)):GrB f b ss i:=by
 obtain⟨e,g,j⟩:=h;exact%[e,s _ _ n g|λn=>(j n).imp_left λ⟨l,a,b⟩=>%[l,a|s _ _ (λc=>by grind) b]]
theorem cF.x(h:cF H e ss)(s:dY d H f)(g:H d=some (.dK i)):cF f e ss:=λt a=>%[s _ _ (λc=>by have b:=(h t a).1;grind) (h t a).1|(h t a).2]
theorem GrB.get(h:GrB f b ss i)(s:dY d f H)(nb:b≠d)(q:∀xs,f d≠some (.lst xs))(r:H p=none)(n:Str):∃e a,upd H p (.lst []) b=some (.dK e)/\(cp e (Sum.inr n)).getD (.ref p)= .ref a/\upd H p (.lst []) a=some (.lst ((ss.filter λt=>decide (t.2[i]? =some n)).map λt=>V.ref t.1))/\(a=p\/∃o,f a=some o):=by
 obtain⟨e,m,u⟩:=h;have sp:=ae.upd (o:= .lst []) r;rcases u n with⟨l,g,j⟩|⟨g,v⟩
 .exact%[e,l,sp _ _ (s _ _ nb m),by rw[g];rfl,sp _ _ (s _ _ (λc=>q _ (by rw[<-c];exact j)) j)|.inr %[_|j]]
 .refine%[e,p,sp _ _ (s _ _ nb m),by rw[g];rfl,?_|.inl rfl];rw[List.filter_eq_nil_iff.mpr λt y c=>v t y (Zn c)];exact aa
def B3:Sp:=λvs H Q _=>∃(b e d:Addr) (f F:ZB) (ss:List _) (a:Gs Str),vs=[.ref b,.ref e,.ref d]/\b≠d/\GrB H b ss 0/\cF H f ss/\ss.length<=62/\H e=some (.lst (F.map V.str))/\H d=some (.dK (gD a))/\ReB ss a/\
 ∀g c new,dY d H c->H g=none->c g=some (.lst ((new.map (·.1)).map V.str))->c d=some (.dK (gD (a++new)))->ReB ss (a++new)->(∀r∈new,∃p∈F,r.2.2[0]? =some p)->(∀x∈F,∀y,Ed (ss.map (·.2)) x y->y∈(a++new).map (·.1))->Q (.ref g) c
theorem sG(T:Txt K mg):↥1 "next_edge" ["beneath","edge","reached"] B3:=by
 refine T.aP.cal d6 (λH vs Q E h=>?_)
 .obtain⟨b,e,d,ns,F,ss,l,rfl,an,hb,as,bt,he,hd,a7,kk⟩:=h;refine%[rfl|λf bm A outer s hr=>?_];have Fm:(F.map V.str).length=F.length:=Z5 _;have ed:e≠d:=λc=>by rw[c,hd]at he;cases he
  refine%[_,%["JCI3QBCXT1L4DXT~h~R0A4AQBBL5DN~SW5~Q2C,52W5~QDZpj3AW5~QBODG3",d6.nd|hr]|?_]
  show bh _ _ _ [!b,!e,!d,none,none,none] H;refine am λD1 k1 _=>?_
  lk;refine%[#[0]|λg fg=>k1 _ _ (am λD2 k2 _=>ax λa0 hK=>?_)];have gd:g≠d:=λc=>by rw[c,hd]at fg;cases fg
  have s1:=ae.upd (o:= .lst []) fg;have gg:upd H g (.lst []) g=some (.lst ((([]:Gs Str).map (·.1)).map V.str)):=aa
  generalize upd H g (.lst [])=H1 at s1 gg
  lk;refine .inl %[%[_|SqL.of (s1 _ _ he)]|hK _ _ ?_];refine bw (xs:=F.map V.str) (λi σ H'=>(∃o4 o5,σ=[!b,!e,!d,!g,o4,o5])/\dY d H H'/\∃new:Gs Str,H' g=some (.lst ((new.map (·.1)).map V.str))/\H' d=some (.dK (gD (l++new)))/\ReB ss (l++new)/\(∀r∈new,∃p∈F,r.2.2[0]? =some p)/\∀x∈F.take i,∀y,Ed (ss.map (·.2)) x y->y∈(l++new).map (·.1))
   %[%[_,_|rfl],dY.of s1,[],gg,by rw[Zw];exact s1 _ _ hd,by rw[Zw];exact a7,λr hr=>(nomatch hr)|λx G=>(nomatch G)] (λi σ H' _ h=>SqL.of (h.2.1 _ _ ed he)) ?_ ?_
  .rintro i x σ H' G ⟨⟨o4,o5,rfl⟩,sm,new,hg,m,M,al,u⟩;rw[Zk]at G;obtain⟨n,hn,rfl⟩:=map_eq_some_iff.mp G;have tk:F.take (i+1)=F.take i++[n]:=by rw[Yw,hn];rfl
   show ya _ _ _ _ [!b,!e,!d,!g,-n,o5] H';refine aB λD3 k3 _=>ax λa0 hK=>?_
   lk;refine%[.inr (.inr (.inl (.inl %[_|sm _ _ an hb.choose_spec.1]))),#[0]|λp hp=>?_];obtain⟨a8,a,a1,a9,N,bb⟩:=hb.get sm an (λxs c=>by rw[hd]at c;cases c) hp n;have ag:a≠g:=by
    rcases bb with rfl|⟨o,ho⟩
    .exact λc=>by rw[c,hg]at hp;cases hp
    .exact λc=>by rw[c,fg]at ho;cases ho
   have ad:a≠d:=λc=>by
    have:=N;rw[c,aj (λc=>by rw[c,hp]at m;cases m),m]at this;cases this
   have sp:=ae.upd (o:= .lst []) hp;have hg:=sp _ _ hg;have m:=sp _ _ m;have sm:=sm.trans (dY.of sp)
   generalize upd H' p (.lst [])=H2 at a1 N sp hg m sm ⊢
   generalize a2:(ss.filter λt=>decide (t.2[0]? =some n))=ts at N
   have tm:(ts.map λt=>V.ref t.1).length=ts.length:=Z5 _;have bf:∀t∈ts,t∈ss/\∃y z,t.2=[n,y,z]:=λt ht=>by
    rw[<-a2]at ht;obtain⟨h1,h2⟩:=List.mem_filter.mp ht;obtain⟨x,y,z,e,_⟩:=(as t h1).2;have h2:=Zn h2;rw[e]at h2;exact%[h1,y,z|by rw[e,show x=n from Z9 h2]]
   refine%[Sum.inr n,rfl,a8,a1|.inl %[a,a9,%[_|SqL.of N]|hK _ _ ?_]];refine bw (xs:=ts.map λt=>V.ref t.1) (λj σ O=>(∃o5,σ=[!b,!e,!d,!g,-n,o5])/\dY d H O/\O a=some (.lst (ts.map λt=>V.ref t.1))/\∃new:Gs Str,O g=some (.lst ((new.map (·.1)).map V.str))/\O d=some (.dK (gD (l++new)))/\ReB ss (l++new)/\(∀r∈new,∃p∈F,r.2.2[0]? =some p)/\(∀x∈F.take i,∀y,Ed (ss.map (·.2)) x y->y∈(l++new).map (·.1))/\∀t∈ts.take j,∀y,t.2[1]? =some y->y∈(l++new).map (·.1))
    %[%[_|rfl],sm,N,new,hg,m,M,al,u|λt ht=>(nomatch ht)] (λj σ O _ h=>SqL.of h.2.2.1) ?_ ?_
   .rintro j x σ O G ⟨⟨o5,rfl⟩,U,Y,new,ab,J,C,I,B,ai⟩;rw[Zk]at G;obtain⟨t,ht,rfl⟩:=map_eq_some_iff.mp G;obtain⟨a3,y,z,et⟩:=bf t (Z7 ht);have L:=(as.x U hd t a3).1;rw[et]at L;have bl:ts.take (j+1)=ts.take j++[t]:=by rw[Yw,ht];rfl
    show jQ _ _ _ _ [!b,!e,!d,!g,-n,some (.ref t.1)] O;refine aB λD4 k4 _=>?_
    lk;refine%[_,SqT.of L,_,rfl,_,dZ.k (k:=Sum.inr y) J|?_];have a4:∀(nw:Gs Str),(∀x∈(l++new).map (·.1),x∈(l++nw).map (·.1))->y∈(l++nw).map (·.1)->(∀x∈F.take i,∀y,Ed (ss.map (·.2)) x y->y∈(l++nw).map (·.1))/\∀t∈ts.take (j+1),∀y,t.2[1]? =some y->y∈(l++nw).map (·.1):=λnw mono hy=>by
     refine%[λx G y h=>mono y (B x G y h)|λt' a5 y' h=>?_];rw[bl]at a5;rcases X4 a5 with q|q
     .exact mono y' (ai t' q y' h)
     .rw[X5 q,et]at h;rw[<-show y=y' from Z9 h];exact hy
    cases hv:cp (gD (l++new)) (Sum.inr y)with
    | some v=>
      rw[if_neg ∅];obtain⟨q,hq,e1,_⟩:=gP hv;obtain⟨n1,n2⟩:=a4 new (λ_ h=>h) (by rw[<-e1];exact X7 %[q,hq|rfl]);exact k4 _ _ %[%[_|rfl],U,Y,new,ab,J,C,I,n1|n2]
    | none=>
      rw[if_pos (by rfl)];have hy:y∉(l++new).map (·.1):=λh=>by
       obtain⟨q,hq,c⟩:=X6 h;have:=kr hq;rw[c,hv]at this;exact this rfl
      have td:t.1≠d:=λc=>by rw[c,J]at L;cases L
      have ln:=C.len;have nl:new.length<=62:=by rw[Z8]at ln;lia
      refine%[_,SqT.of L,_,rfl,_,kR.k (k:=Sum.inr y) J (by unfold gD;rw[Z5];exact aJ ⋯)|?_];rw[jp _ hv];have e1:gD (l++new) ++[(Sum.inr y,V.ref t.1)]=gD (l++(new++[(y,t.1,[n,y,z])])):=by
       unfold gD;rw[<-Zd,Zc (l₂:=[_])];rfl
      rw[e1];have u1:∀c o,c≠d->O c=some o->upd O d (.dK (gD (l++(new++[(y,t.1,[n,y,z])])))) c=some o:=λc o h e=>by rw[aj h];exact e
      have ud:upd O d (.dK (gD (l++(new++[(y,t.1,[n,y,z])])))) d=_:=aa;have a6:=u1 _ _ gd ab;have R:=C.snoc (p:=n) (y:=y) (z:=z) (a:=t.1) (by rw[<-et];exact a3) hy;rw[Zd]at R;obtain⟨n1,n2⟩:=a4 (new++[(y,t.1,[n,y,z])]) (λx G=>by rw[<-Zd,Zc];exact Yl _ G) (by rw[<-Zd,Zc];exact Ym _ Zl);refine%[.inl %[_|SqL.of a6],_,SqT.of (u1 _ _ td L),_,rfl,_,a6,by rw[Z5,Z5];exact aJ ⋯|k4 _ _ %[%[_|rfl],λc o h e=>?_,(aj ag).trans (u1 _ _ ad Y),_,?_,(aj gd.symm).trans ud,R,?_,n1|n2]]
      .rw[aj (ap e fg)];exact u1 _ _ h (U _ _ h e)
      .rw[aa,Zc,Zc];rfl
      .intro r hr;rcases X4 hr with q|q
       .exact I r q
       .rw[X5 q];exact%[n,Z7 hn|rfl]
   .rintro σ O ⟨⟨o5,rfl⟩,U,Y,new,ab,J,C,I,B,ai⟩;rw[tm,Zm (Zh _)]at ai;refine k3 _ _ %[%[_,_|rfl],U,new,ab,J,C,I|λx G y ⟨z,hy⟩=>?_];rw[tk]at G;rcases X4 G with q|q
    .exact B x q y %[z|hy]
    .rw[X5 q]at hy;obtain⟨t,ht,et⟩:=X6 hy;exact ai t (by rw[<-a2];exact List.mem_filter.mpr %[ht|by rw[et];simp]) y (by rw[et];rfl)
  .rintro σ H' ⟨⟨o4,o5,rfl⟩,sm,new,hg,m,M,al,u⟩;rw[Fm,Zm (Zh _)]at u;refine k2 _ _ ?_;lk;exact kk g H' new sm fg hg m M al u
theorem oS{b:Bool}(h: ¬ (not b)=true):b=true:=by
 cases b
 .exact absurd rfl h
 .rfl
theorem uS{a:Gs Str}{y:Str}(h:y∈a.map (·.1)):∃r∈a,r.1=y/\cp (gD a) (Sum.inr y)=some (.ref r.2.1):=by
 cases d:cp (gD a) _ with
 | none=>
   obtain⟨q,b,c⟩:=X6 h;have:=kr b;rw[c,d]at this;exact(this rfl).elim
 | some v=>
   obtain⟨q,b,e,rfl⟩:=gP d;exact%[q,b,e|rfl]
def EC:Sp:=λvs H Q _=>∃d st a f F ss b e k,vs=[.ref d,.str st,.str a]/\H d=some (.dK (gD b))/\ReB ss b/\Lev (ss.map (·.2)) st b e k F/\k<=100/\cF H f ss/\a∈b.map (·.1)/\
 ∀l c (ws:List _),ae H c->H l=none->c l=some (.lst (ws.map λt=>V.ref t.1))->(∀t∈ws,t∈ss)->Wal (ws.map (·.2)) st a->ws.length=e a->Q (.ref l) c
theorem Ak(T:Txt K mg):↥1 "way_to" ["reached","start","goal"] EC:=by
 refine T.aQ.cal oO (λH vs Q E h=>?_)
 .obtain⟨d,st,a,ns,F,ss,C,i,k,rfl,hd,G,l,hk,I,n,kk⟩:=h;refine%[rfl|λf ab A outer s j=>?_];refine%[_,%["JCI3QAt02BC~JKrWP3;E^1DZpj3At0WP3;E^BDG]i3",oO.nd|j]|?_]
  show bh _ _ _ [!d,-st,-a,none] H;refine am λD1 k1 _=>?_
  lk;obtain⟨r,J,e1,hv⟩:=uS n;have get:=dZ.k (k:=Sum.inr a) hd;rw[hv]at get;refine%[_,get,#[1]|λb fw=>k1 _ _ (am λD2 k2 _=>?_)];have s1:=ae.upd (o:= .lst [V.ref r.2.1]) fw;have gw:upd H b (.lst [V.ref r.2.1]) b=some (.lst (([]:ZG).reverse.map (λt=>V.ref t.1) ++[V.ref r.2.1])):=aa
  generalize upd H b (.lst [V.ref r.2.1])=H1 at s1 gw
  refine⟨λm σ u=>σ=[!d,-st,-a,!b]/\ae H u/\∃(us:ZG) (r:Str×Addr×ZB),r∈C/\m=i r.1/\u b=some (.lst (us.reverse.map (λt=>V.ref t.1) ++[.ref r.2.1]))/\(∀t∈us,t∈ss)/\Wal (us.map (·.2)) r.1 a/\us.length+m=i a,%[_,rfl,s1,[],r,J,rfl,gw,λt h=>(nomatch h),e1|by rw[e1];simp],?_⟩;rintro m σ H2 ⟨rfl,v,us,r,j,rfl,hw,y,B,hl⟩;obtain⟨ag,p,z,L,hp⟩:=l.by_ r j;have e:=(G.sub r j).1;have g:=v _ _ (I _ e).1;rw[L]at g;have gl:=l.le a n;lk;refine%[_,SqL.of hw,_,lE _ _,_,rfl,_,SqT.of g,_,rfl,rfl|bv (λh=>?_) λh=>?_]
  .have h:p≠st:=by simpa using h
   obtain⟨_,M,ai⟩:=hp.resolve_left λc=>h c.1
   obtain⟨r',N,O,U⟩:=uS M;have get:=dZ.k (k:=Sum.inr p) (v _ _ hd);rw[U]at get;refine⟨λY u=>∃m',m'<i r.1/\Y=[!d,-st,-a,!b]/\ae H u/\∃(us:ZG) (r:Str×Addr×ZB),r∈C/\m'=i r.1/\u b=some _/\(∀t∈us,t∈ss)/\Wal (us.map (·.2)) r.1 a/\us.length+m'=i a,λ_ _ h=>h,?_⟩;refine%[.inl %[_|SqL.of hw],_,SqL.of hw,_,lE _ _,_,rfl,_,SqT.of g,_,rfl,_,get,_,hw,by rw[Z8,Z5,List.length_reverse,Yc];exact aJ ⋯,_,?_,rfl,ae.set v fw,r.2::us,r',N,rfl,?_,?_,?_|?_]
   .rw[O];lia
   .rw[aa,List.reverse_cons,Zc];rfl
   .intro t ht;rcases mem_cons.mp ht with q|q
    .rw[q];exact e
    .exact y t q
   .exact%[r.1,z,L.trans (by rw[O])|B]
   .rw[Zq,O];lia
  .have h:p=st:=by simpa using h
   refine k2 _ _ ?_;lk;refine%[_,hw|λq fq=>kk q _ (r.2::us) (v.trans (ae.upd fq)) (v.free fq) ?_ (λt ht=>?_) %[r.1,z,L.trans (by rw[h])|B] (by rw[Zq];lia)]
   .rw[aa,List.reverse_append,<-List.map_reverse,List.reverse_reverse];rfl
   .rcases mem_cons.mp ht with q|q
    .rw[q];exact e
    .exact y t q
def Al:Sp:=λvs H Q _=>∃b st a d ss,vs=[.ref b,.str st,.str a]/\GrB H b ss 0/\cF H d ss/\ss.length<=62/\(∀c,ae H c-> ¬ Rch (ss.map (·.2)) st a->Q .non c)/\∀l c (ws:List _),ae H c->H l=none->c l=some (.lst (ws.map λt=>V.ref t.1))->(∀t∈ws,t∈ss)->Sho (ss.map (·.2)) st a (ws.map (·.2))->ws.length<=100->Q (.ref l) c
def Fv(H:Hp)(b d:Addr)(st c:Str)(ss:ZG)(m:Nat)(g:L2.St)(f:Hp):Prop:=∃e F a h k,g=[!b,-st,-c,!d,!e]/\ae H f/\f e=some (.lst (F.map V.str))/\f d=some (.dK (gD a))/\ReB ss a/\Lev (ss.map (·.2)) st a h k F/\k<=a.length+1/\(F≠[]->k<=a.length)/\m=2*(62-a.length) +F.length.min 1
theorem bU(T:Txt K mg):↥2 "shortest_way" ["beneath","start","goal"] Al:=by
 refine T.aO.cal cK (λH vs Q E h=>?_)
 .obtain⟨b,st,i,ns,ss,rfl,hb,I,al,kn,ky⟩:=h;refine%[rfl|λf a4 A outer s G=>?_];refine%[_,%["JCI3>CI4QA1BC~JYuK~OUVA4BE&~S23DI4F]jA0A4A3BCN~S23DGyODGF]kA3A1A2B",cK.nd|G]|?_]
  show bh _ _ _ [!b,-st,-i,none,none] H;refine am λD1 k1 _=>?_
  lk;intro d fd;refine k1 _ _ (am λD2 k2 _=>?_);have an:b≠d:=λc=>by
   obtain⟨a5,O,_⟩:=hb;rw[c,fd]at O;cases O
  have s1:=ae.upd (o:= .dK []) fd;have B:upd H d (.dK []) d=some (.dK (gD ([]:Gs Str))):=aa
  generalize upd H d (.dK [])=H1 at s1 B
  lk;refine%[#[1]|λe fe=>k2 _ _ (am λD3 k3 _=>?_)];have s2:=ae.upd (o:= .lst [V.str st]) fe;have U:upd H1 e (.lst [V.str st]) e=some (.lst ([st].map V.str)):=aa;have B:=s2 _ _ B;have Y:=s1.trans s2
  generalize upd H1 e (.lst [V.str st])=H2 at Y U B
  refine%[Fv H b d st i ss,%[_,e,[st],[],_,_,rfl,Y,U,B,%[Yr|λ_ h=>(nomatch h)],.nil,by simp,λ_=>Zh _|rfl]|?_];rintro m σ H3 ⟨e,F,C,dd,k,rfl,J,U,B,L,j,hk,as,rfl⟩;have fm:(F.map V.str).length=F.length:=Z5 _;have get:=dZ.k (k:=Sum.inr i) B;have rl:=L.len;have M:i∈C.map (·.1)↔(cp (gD C) (Sum.inr i)).isSome=true:=by
   refine%[λh=>?_|λh=>?_]
   .obtain⟨r,_,_,e⟩:=uS h;rw[e];rfl
   .obtain⟨v,hv⟩:=isSome_iff_exists.mp h;obtain⟨q,hq,c,_⟩:=gP hv;rw[<-c];exact X7 %[q,hq|rfl]
  lk;have ab:(i∉C.map (·.1)->F=[])->D3.nx [!b,-st,-i,!d,!e] H3:=λh=>by
   refine k3 _ _ (am λD4 k4 r4=>?_);lk;refine%[_,get|bv (λq=>?_) λq=>?_]
   .have q:i∉C.map (·.1):=λc=>by rw[M.mp c]at q;cases q
    refine r4 _ _ (kn H3 J λr=>q ?_);obtain⟨n,hn⟩:=r.dst;rw[h q]at j;exact j.stop hn
   .have q:i∈C.map (·.1):=M.mpr (oS q);refine k4 _ _ ?_;lk;refine%[d,st,i,ns,F,ss,C,dd,k,rfl,B,L,j,⋯,I.up J,q|λl H' ws s' fl hl ag a0 wl=>ky l H' ws (J.trans s') (J.free fl) hl ag %[λk hk=>?_,a0,?_|λn hn=>?_] (by rw[wl];have:=j.le _ q;lia)]
    .obtain⟨t,ht,rfl⟩:=X6 hk;exact X7 %[t,ag t ht|rfl]
    .rw[Z5,wl];exact(j.dst q).1
    .rw[Z5,wl];exact j.min q hn
  refine%[_,.inl %[_,SqL.of U|rfl]|bv (λh=>?_) λh=>ab λ_=>?_]
  .have h:0<F.length:=by
    rw[fm]at h;have:=Zn h
    lia
   refine%[_,get|bv (λq=>?_) λq=>ab λc=>absurd (M.mpr (oS q)) c];refine⟨λa1 H'=>∃m',m'<2*(62-C.length) +F.length.min 1/\Fv H b d st i ss m' a1 H',λ_ _ h=>h,?_⟩;refine%[b,e,d,ns,F,ss,C,rfl,an,hb.up J,I.up J,al,U,B,L|λg H4 new sx fg hg a2 u a3 N=>?_];have ln:=u.len;rw[Z8]at ln;have ai:F.length.min 1=1:=Nat.min_eq_right h;have s4:ae H H4:=λc o ec=>sx c o (λz=>by rw[z,fd]at ec;cases ec) (J _ _ ec)
   have kF:=as λc=>by rw[c]at h;cases h
   refine%[_,?_,g,new.map (·.1),C++new,_,_,rfl,s4,hg,a2,u,j.step u.nd (λr G=>?_) N,?_,λnn=>?_|rfl]
   .rw[ai,Z8,Z5];cases new with
    | nil=>simp
    | cons a r=>
      rw[Zq]at ln ⊢;have:(r.length+1).min 1<=1:=Nat.min_le_right _ _
      lia
   .obtain⟨O,h2⟩:=u.sub r (Ym _ G);obtain⟨p,hp,h3⟩:=a3 r G;obtain⟨x,y,z,e,_⟩:=(I r.2 O).2;rw[e]at h2 h3;exact%[X7 %[_,O|rfl],p,z,hp|by rw[e,show x=p from Z9 h3,show y=r.1 from Z9 h2]]
   .rw[Z8];lia
   .cases new with
    | nil=>exact absurd rfl nn
    | cons a r=>rw[Z8,Zq];lia
  .cases F with
   | nil=>rfl
   | cons x F=>exact absurd (Ze (by rw[fm,Zq];lia)) h
noncomputable def VD(a:ZB)(g:Str->V):List (Key×V):=a.map λz=>(Sum.inr z,g z)
theorem jh:∀{a:ZB},z∈a->cp (VD a g) (Sum.inr z)=some (g z)
 | x::a,h=>by
   by_cases e:x=z
   .subst e;exact eE rfl
   .rw[show VD _ g=(Sum.inr x,g x)::VD a g from rfl,cT (λq=>e (Sum.inr.inj q))];exact jh ((mem_cons.mp h).resolve_left λq=>e q.symm)
theorem jN:∀{a:ZB},z∉a->cp (VD a g) (Sum.inr z)=none
 |[],_=>rfl
 | x::a,h=>by
   rw[Yn,not_or]at h;rw[show VD _ g=(Sum.inr x,g x)::VD a g from rfl,cT (λq=>h.1 (Sum.inr.inj q).symm)];exact jN h.2
theorem ED(h:z∈a):dM (VD a g) (Sum.inr z) v=VD a (λx=>if x=z then v else g x):=by
 unfold dM;rw[if_pos (by rw[hV,jh h];rfl)];unfold VD;rw[Yj];refine Yh λx _=>?_
 show(if(Sum.inr x)=Sum.inr z then((Sum.inr x),v)else(Sum.inr x,g x))=(Sum.inr x,if x=z then v else g x)
 by_cases e:x=z
 .rw[if_pos (congrArg _ e),if_pos e]
 .rw[if_neg (λq=>e (Sum.inr.inj q)),if_neg e]
noncomputable def cnt(ss:ZG)(L:ZB)(n:Str):Nat:=ss.countP λt=>decide (t.2[0]? =some n)&&t.2[1]?.all λy=>decide (y∉L)
theorem B4(ss:List _)(n:Str):cnt ss [] n=(ss.filter λt=>decide (t.2[0]? =some n)).length:=by
 unfold cnt;rw[<-List.countP_eq_length_filter]
 simp_all
theorem Am(h:cnt ss L m=0)(e:Ed (ss.map (·.2)) m y):y∈L:=by
 obtain⟨z,a⟩:=e;obtain⟨t,b,c⟩:=X6 a;have:=List.countP_eq_zero.mp h t b
 simp_all
theorem sH(b:m∉L):∀ss:ZG,cnt ss L n=cnt ss (L++[m]) n+(ss.filter λt=>decide (t.2[1]? =some m)).countP λt=>decide (t.2[0]? =some n)
 |[]=>rfl
 | t::ss=>by
   have c:=sH (n:=n) b ss;unfold cnt at c ⊢;rw[countP_cons,countP_cons,c];cases d:t.2[1]? with
   | none=>rw[Y0 ⋯];simp only[Option.all_none];lia
   | some y=>
     by_cases e:y=m
     .subst e;rw[Y1 (by rw[d];simp),countP_cons];by_cases a:t.2[0]? =some n
      .simp[a,b];lia
      .simp[a]
     .rw[Y0 (by rw[d];simpa using e)];by_cases a:t.2[0]? =some n
      .by_cases f:y∈L
       .simp[f]
       .simp[a,f,e];lia
      .simp[a]
structure Fw (ss:ZG) (ns L R:ZB):Prop where
 nd:(L++R).Nodup
 mem:∀x,x∈L++R↔x∈ns/\cnt ss L x=0
 ord:∀i x,L[i]? =some x->∀y,Ed (ss.map (·.2)) x y->y∈L.take i
def Fx(f:Hp)(l m b a w e ld:Addr)(d:ZB)(ss:ZG)(k:Nat)(g:L2.St)(c:Hp):Prop:=∃h i j L R,g=[!l,!m,!b,!a,!w,h,!e,!ld,i,j]/\ae f c/\c w=some (.dK (VD d λn=> .int (cnt ss L n)))/\c e=some (.lst (R.map V.str))/\c ld=some (.lst (L.map V.str))/\Fw ss d L R/\k=d.length-L.length
def B5:Sp:=λvs H Q _=>∃l m a ss,vs=[.ref l,.ref m]/\H l=some (.lst (a.map V.str))/\a.Nodup/\a.length<=60/\H m=some (.lst (ss.map λt=>V.ref t.1))/\cF H a ss/\ss.length<=62/\
 ∀r b (L:ZB),ae H b->b r=some (.lst (L.map V.str))->L.Nodup->(∀x∈L,x∈a)->(∀i x,L[i]? =some x->∀y,Ed (ss.map (·.2)) x y->y∈L.take i)->(∀x∈a,x∉L->∃y,Ed (ss.map (·.2)) x y/\y∈a/\y∉L)->Q (.ref r) b
theorem mP(T:Txt K mg):↥3 "laid_in_turn" ["names","found"] B5:=by
 refine T.aN.cal aX (λH vs Q E h=>?_)
 .obtain⟨l,m,d,ss,rfl,hl,nn,nl,hm,a2,cd,kk⟩:=h;refine%[rfl|λf dx A outer s hr=>?_];have nm:(d.map V.str).length=d.length:=Z5 _;refine%[_,%["JCI2F~iA1BCI3F]lA1BC~A4lm>CXT0L5D,UVA~h~R2A5AQBBBS45C~C6mli?1T0c0?2~DKbtS10E0CI7QBC~JK~OUVA6BECI8~M]mA6BCZ]n]o6A8BCZpj7A8BDXT~h~R3A8AQBBL9C,H[tS4W9^ES4W9^DNKbtS4W9^EDZpj6AW9^BODG7",aX.nd,(show bZ (af cY) ["names","found","beneath","above","waits","name","ready","laid","least","link"] _ ["name","waits"] [(1,4)]=true from by decide +kernel),(show(["name","waits"]:ZB).Nodup from by decide +kernel)|hr]|?_]
  show bh _ _ _ [!l,!m,none,none,none,none,none,none,none,none] H;refine am λD1 k1 _=>?_
  lk;refine%[m,d,ss,rfl,hm,a2,cd|λb H1 s1 fb hb=>k1 _ _ (am λD2 k2 _=>?_)];lk;refine%[m,d,ss,rfl,s1 _ _ hm,a2.up s1,cd|λa H2 s2 fa ha=>k2 _ _ (am λD3 k3 _=>?_)];have an:=s1.trans s2;have hb:=hb.up s2;lk;intro w fw;refine k3 _ _ (am λD4 k4 _=>ax λbl hK=>?_);have s3:=ae.upd (o:= .dK []) fw;have gw:upd H2 w (.dK []) w=some (.dK (VD (d.take 0) λn=> .int (cnt ss [] n))):=aa
  generalize upd H2 w (.dK [])=H3 at s3 gw
  have c4:=an.trans s3;lk;refine .inl %[%[_|SqL.of (c4 _ _ hl)]|hK _ _ ?_];have c5:b≠w:=λc=>by
   obtain⟨as,h1,_⟩:=hb;rw[c,fw]at h1;cases h1
  have c7:a≠w:=λc=>by
   obtain⟨as,h1,_⟩:=ha;rw[c,fw]at h1;cases h1
  have ch:∀xs,H2 w≠some (.lst xs):=λxs c=>by rw[fw]at c;cases c
  refine bw (xs:=d.map V.str) (λi U u=>(∃o5,U=[!l,!m,!b,!a,!w,o5,none,none,none,none])/\ae H2 u/\u w=some (.dK (VD (d.take i) λn=> .int (cnt ss [] n))))
   %[%[_|rfl],s3|gw] (λi U u _ h=>SqL.of (h.2.1 _ _ (an _ _ hl))) ?_ ?_
  .rintro i x U u Y ⟨⟨o5,rfl⟩,N,hw⟩;rw[Zk]at Y;obtain⟨n,hn,rfl⟩:=map_eq_some_iff.mp Y;have i1:i<d.length:=(X3 hn).1;show n8 _ _ _ _ [!l,!m,!b,!a,!w,-n,none,none,none,none] u;refine aB λD5 k5 _=>?_
   lk;refine%[.inr (.inr (.inl (.inl %[_|N _ _ hb.choose_spec.1]))),#[0]|λp hp=>?_];obtain⟨as,al,da,a3,ab,cl⟩:=hb.get (dY.of N) c5 ch hp n;have sp:=ae.upd (o:= .lst []) hp;refine%[Sum.inr n,rfl,as,da,_,by rw[a3];exact .inl %[_,SqL.of ab|rfl],_,kR.k (k:=Sum.inr n) (sp _ _ hw) (by unfold VD;rw[Z5,Yd];exact aJ ⋯)|k5 _ _ %[%[_|rfl],ae.set (N.trans sp) fw|?_]];have zn:n∉d.take i:=λhm=>by
    have h:=nn;rw[<-Yx i d,Yp]at h;exact h.2.2 n hm n (Z7 (i:=0) (by rw[getElem?_drop];exact hn)) rfl
   rw[aa,jp _ (jN zn),Z5,<-B4,Yw,hn];unfold VD;rw[Zc];rfl
  .rintro U u ⟨⟨o5,rfl⟩,N,hw⟩;rw[nm,Zm (Zh _)]at hw;refine k4 _ _ (am λD5 k5 _=>aO λbl hK=>?_);lk;have a4:=N _ _ (an _ _ hl);refine .inl %[%[_|SqL.of a4]|hK _ _ λM a0=>?_];refine bL (J:=Itl K l) (n:=d.length) (D:=M) (λj vs U H3=>(∃o1,U=[o1,!w])/\ae u H3/\H3 M=some (.lst vs)/\vs=((d.take j).filter λn=>decide (cnt ss [] n=0)).map V.str)
    %[%[none|rfl],ae.upd a0,aa|rfl] (λj _ _ H3 hj ⟨_,N,_⟩=>%[_,V.str d[j],SqL.of (N _ _ a4)|by simp[hj]]) (λ_ _ H3 ⟨_,N,_⟩=>%[_,SqL.of (N _ _ a4)|by simp]) ?_ ?_
   .rintro j vs U H3 hj ⟨⟨o1,rfl⟩,C,co,hv⟩ x H4 ⟨e2,Y⟩;subst e2;have cs:=Y _ (SqL.of (C _ _ a4));rw[Zk,Z4 hj]at cs;obtain rfl:x=V.str d[j]:=(Z9 cs).symm;have get:=dZ.k (k:=Sum.inr d[j]) (C _ _ hw);rw[jh (Y5 hj)]at get;lk;refine%[_,get,rfl|bv (λh=>?_) λh=>?_]
    .have h:cnt ss [] d[j]=0:=by simpa using h
     refine CK.mk hj co (by rw[hv,Z5];have:=Ya (λn=>decide (cnt ss [] n=0)) (d.take j);rw[Yd]at this;exact aJ ⋯) %[%[_|rfl],ae.set C a0,aa|?_];rw[hv,Yw,Z4 hj,Zz,Zc];show _=_++(List.filter _ [d[j]]).map V.str;rw[Y1 (by simpa using h)];rfl
    .have h:cnt ss [] d[j]≠0:=by simpa using h
     refine CN.mk hj %[%[_|rfl],C,co|?_];rw[hv,Yw,Z4 hj,Zz,Zc];show _=_++(List.filter _ [d[j]]).map V.str;rw[Y0 (by simpa using h)];simp
   rintro vs U H3 ⟨_,C,a5,hv⟩;rw[Zm (Zh _)]at hv;rw[hv]at a5;refine k5 _ _ (am λD6 k6 _=>?_);have ag:=C _ _ hw;have bt:=N.trans C;have b0:w≠M:=λc=>by rw[<-c,hw]at a0;cases a0
   have b1:=N.free a0;lk;refine%[#[0]|λld fld=>k6 _ _ (am λD7 k7 _=>?_)];have s4:=ae.upd (o:= .lst []) fld;have b2:upd H3 ld (.lst []) ld=some (.lst (([]:ZB).map V.str)):=aa;have ct:w≠ld:=λc=>by rw[<-c,ag]at fld;cases fld
   have b3:M≠ld:=λc=>by rw[<-c,a5]at fld;cases fld
   have b4:=s4 _ _ ag;have b5:=s4 _ _ a5;have b6:=bt.trans s4;have fld:=bt.free fld
   generalize upd H3 ld (.lst [])=H4 at s4 b2 b4 b5 b6
   refine%[Fx H2 l m b a w M ld d ss,%[_,o5,none,none,[],_,rfl,b6,b4,b5,b2,%[nn.filter _,λx=>by simp|λi x e=>by simp at e]|rfl]|?_];clear b6 b4 b5 b2 a5 ag hw hv C bt N;rintro k U H5 ⟨o5,o8,o9,L,R,rfl,N,hw,hR,hL,B,rfl⟩;have Rm:(R.map V.str).length=R.length:=Z5 _;have dy:L.length+R.length<=d.length:=by
    rw[<-Z8];exact STab.nodup_sub B.nd λx Y=>((B.mem x).mp Y).1
   lk;refine%[R.length,.inl %[_,SqL.of hR|Rm.symm]|bv (λh=>?_) λh=>?_]
   .have h:0<R.length:=by have:=Zn h;lia
    refine⟨λdc u=>∃m',m'<d.length-L.length/\Fx H2 l m b a w M ld d ss m' dc u,λ_ _ h=>h,R,SqL.of hR,h,λx Y _=>%[.inl %[_|SqL.of hR],R,hR,Y|λR1 pm=>?_]⟩;have u1:=ae.set (o:= .lst (R1.map V.str)) N b1;have b7:upd H5 M (.lst (R1.map V.str)) M=_:=aa;have b9:upd H5 M (.lst (R1.map V.str)) w=_:=(aj b0).trans hw;have a6:upd H5 M (.lst (R1.map V.str)) ld=_:=(aj b3.symm).trans hL
    generalize upd H5 M (.lst (R1.map V.str))=H6 at u1 b7 b9 a6 ⊢
    refine%[.inl %[_|SqL.of a6],_,a6,by rw[Z5];exact aJ ⋯|aB λdK dd _=>ax λbl hK=>?_];have u2:=ae.set (o:= .lst (L.map V.str++[.str x])) u1 fld;have a7:upd H6 ld (.lst (L.map V.str++[.str x])) ld=some (.lst ((L++[x]).map V.str)):=by rw[aa,Zc];rfl
    have a8:upd H6 ld (.lst (L.map V.str++[.str x])) w=_:=(aj ct).trans b9;have a9:upd H6 ld (.lst (L.map V.str++[.str x])) M=_:=(aj b3).trans b7
    generalize upd H6 ld (.lst (L.map V.str++[.str x]))=H7 at u2 a7 a8 a9 ⊢
    lk;refine%[.inr (.inr (.inl (.inl %[_|u2 _ _ ha.choose_spec.1]))),#[0]|λp hp=>?_];obtain⟨as,al,a3,de,ab,cl⟩:=ha.get (dY.of u2) c7 ch hp x;have ca:∀{c:Addr} {o:HO},H7 c=some o->H2 c=none->al≠c:=λ{c o} h1 h2=>by
     rcases cl with rfl|⟨o',ho⟩
     .exact λz=>by rw[z,h1]at hp;cases hp
     .exact λz=>by rw[z,h2]at ho;cases ho
    have dk:=ca a8 fw;have dp:=ca a9 b1;have all:=ca a7 fld;have sp:=ae.upd (o:= .lst []) hp;have ag:=sp _ _ a8;have cM:=sp _ _ a9;have c0:=sp _ _ a7;have u3:=u2.trans sp
    generalize upd H7 p (.lst [])=H8 at a3 ab ag cM c0 u3 ⊢
    clear u1 u2 a8 a9 a7 b9 b7 a6 hp sp
    generalize c1:(ss.filter λt=>decide (t.2[1]? =some x))=ts at ab
    have tm:(ts.map λt=>V.ref t.1).length=ts.length:=Z5 _;have xL:x∉L:=λc=>(nodup_append.mp B.nd).2.2 x c x Y rfl
    have pr:(L++[x] ++R1).Perm (L++R):=by
     rw[Zd];exact pm.append_left L
    have f0:∀n,cnt ss L n=cnt ss (L++[x]) n+(ts.drop 0).countP λt=>decide (t.2[0]? =some n):=λn=>by rw[List.drop_zero,<-c1];exact sH xL ss
    have ds:∀t∈ts,∃n z,t.2=[n,x,z]/\n∈d/\H t.1=some (.tup ([n,x,z].map V.str)):=λt ht=>by
     rw[<-c1]at ht;obtain⟨h1,h2⟩:=List.mem_filter.mp ht;obtain⟨h3,n,y,z,e,hn,_⟩:=a2 t h1;have h2:=Zn h2;rw[e]at h2 h3;obtain rfl:y=x:=Z9 h2;exact%[n,z,e,hn|h3]
    refine%[Sum.inr x,rfl,as,a3|.inl %[al,de,%[_|SqL.of ab]|hK _ _ ?_]];refine bw (xs:=ts.map λt=>V.ref t.1) (λj U u=>(∃o9,U=[!l,!m,!b,!a,!w,o5,!M,!ld,-x,o9])/\ae H2 u/\u al=some (.lst (ts.map λt=>V.ref t.1))/\u w=some (.dK (VD d λn=> .int ((cnt ss (L++[x]) n+(ts.drop j).countP λt=>decide (t.2[0]? =some n):Nat):Int)))/\u ld=some (.lst ((L++[x]).map V.str))/\∃Rj:ZB,u M=some (.lst (Rj.map V.str))/\(L++[x] ++Rj).Nodup/\∀y,y∈L++[x] ++Rj↔y∈d/\cnt ss (L++[x]) y+((ts.drop j).countP λt=>decide (t.2[0]? =some y))=0)
     %[%[_|rfl],u3,ab,by rw[ag];exact congrArg (λg=>some (HO.dK (VD d g))) (funext λn=>by rw[f0 n]),c0,R1,cM,pr.nodup_iff.mpr B.nd|λy=>by rw[<-f0,pr.mem_iff];exact B.mem y] (λj U u _ h=>SqL.of h.2.2.1) ?_ ?_
    .rintro j v U u hv ⟨⟨o9,rfl⟩,bb,G,O,ai,Rj,I,rn,rz⟩;rw[Zk]at hv;obtain⟨t,ht,rfl⟩:=map_eq_some_iff.mp hv;have jl:=(X3 ht).1;obtain⟨n,z,et,hn,r⟩:=ds t (Z7 ht);have r:=bb _ _ (an _ _ r);have dr:ts.drop j=t::ts.drop (j+1):=by rw[List.drop_eq_getElem_cons jl,(X3 ht).2]
     rw[dr]at O rz;have get:=dZ.k (k:=Sum.inr n) O;rw[jh hn]at get;have tw:t.1≠w:=λc=>by rw[c,O]at r;cases r
     have dT:=(nodup_append.mp rn)
     have rl:Rj.length<=d.length:=by
      have:=STab.nodup_sub rn λy hy=>((rz y).mp hy).1
      rw[Z8]at this
      lia
     show bh _ _ _ [!l,!m,!b,!a,!w,o5,!M,!ld,-x,some (.ref t.1)] u;refine am λdV dt _=>?_
     lk;have one:∀y,(t::ts.drop (j+1)).countP (λt=>decide (t.2[0]? =some y))=((ts.drop (j+1)).countP λt=>decide (t.2[0]? =some y)) +if y=n then 1 else 0:=λy=>by
      rw[countP_cons,et];by_cases c:y=n
      .rw[if_pos c,if_pos (by rw[c];simp)]
      .rw[if_neg c,if_neg (by simpa using λq=>c q.symm)]
     refine%[_,SqT.of r,_,rfl,_,get,_,rfl,_,SqT.of r,_,rfl,_,kR.k (k:=Sum.inr n) O (by unfold VD;rw[Z5];exact aJ ⋯)|dt _ _ (aB λd0 c2 _=>?_)];rw[ED hn];have e1:(λy=>if y=n then V.int (((cnt ss (L++[x]) n+(t::ts.drop (j+1)).countP λt=>decide (t.2[0]? =some n):Nat):Int) -1)else V.int ((cnt ss (L++[x]) y+(t::ts.drop (j+1)).countP λt=>decide (t.2[0]? =some y):Nat):Int))=λy=>V.int ((cnt ss (L++[x]) y+(ts.drop (j+1)).countP λt=>decide (t.2[0]? =some y):Nat):Int):=funext λy=>by
      rw[one,one];by_cases c:y=n
      .rw[if_pos c,c,if_pos rfl]
       congr 1
       lia
      .rw[if_neg c,if_neg c];rfl
     rw[e1];have v1:=ae.set (o:= .dK (VD d λy=>V.int ((cnt ss (L++[x]) y+(ts.drop (j+1)).countP λt=>decide (t.2[0]? =some y):Nat):Int))) bb fw;have bf:upd u w (.dK (VD d λy=>V.int ((cnt ss (L++[x]) y+(ts.drop (j+1)).countP λt=>decide (t.2[0]? =some y):Nat):Int))) w=_:=aa;have a1:∀c o,c≠w->u c=some o->upd u w (.dK (VD d λy=>V.int ((cnt ss (L++[x]) y+(ts.drop (j+1)).countP λt=>decide (t.2[0]? =some y):Nat):Int))) c=some o:=λc o h e=>by rw[aj h];exact e
     generalize upd u w (.dK (VD d λy=>V.int ((cnt ss (L++[x]) y+(ts.drop (j+1)).countP λt=>decide (t.2[0]? =some y):Nat):Int)))=H9 at v1 bf a1
     have r:=a1 _ _ tw r;have G:=a1 _ _ dk G;have ai:=a1 _ _ ct.symm ai;have I:=a1 _ _ b0.symm I;have get:=dZ.k (k:=Sum.inr n) bf;rw[jh hn]at get;have c3:n∉L++[x] ++Rj:=λc=>by
      have:=((rz n).mp c).2;rw[one,if_pos rfl]at this
      lia
     have bm:∀y,y≠n->(y∈L++[x] ++Rj↔y∈d/\cnt ss (L++[x]) y+((ts.drop (j+1)).countP λt=>decide (t.2[0]? =some y))=0):=λy c=>by
      rw[rz y,one,if_neg c];rfl
     lk;refine%[_,SqT.of r,_,rfl,_,get,rfl|bv (λh=>?_) λh=>?_]
     .have h:cnt ss (L++[x]) n+((ts.drop (j+1)).countP λt=>decide (t.2[0]? =some n))=0:=by
       have:=V.int.inj (Zn h)
       lia
      have tr:t.1≠M:=λc=>by rw[c,I]at r;cases r
      refine%[.inl %[_|SqL.of I],_,SqT.of r,_,rfl,_,I,by rw[Z5];exact aJ ⋯|c2 _ _ %[%[_|rfl],ae.set v1 b1,(aj dp).trans G,(aj b0).trans bf,(aj b3.symm).trans ai,Rj++[n],by rw[aa,Zc];rfl,?_|λy=>?_]]
      .rw[<-Zd,Yp];exact%[rn,by simp|λa ha b hb c=>c3 (by rw[<-X5 hb,<-c];exact ha)]
      .rw[<-Zd,Yk,mem_singleton];by_cases c:y=n
       .rw[c];exact%[λ_=>%[hn|h]|λ_=> .inr rfl]
       .rw[<-bm y c];exact%[λq=>q.resolve_right c|.inl]
     .refine c2 _ _ %[%[_|rfl],v1,G,bf,ai,Rj,I,rn|λy=>?_];by_cases c:y=n
      .rw[c];exact%[λq=>absurd q c3|λq=>absurd (Ze (congrArg (λi:Nat=>V.int i) q.2)) h]
      .exact bm y c
    .rintro U u ⟨⟨o9,rfl⟩,bb,G,O,ai,Rj,I,rn,rz⟩;rw[tm,List.drop_length]at O rz;refine dd _ _ %[_,?_,o5,_,o9,L++[x],Rj,rfl,bb,O,I,ai,%[rn,rz|λi y hi y' e=>?_]|rfl]
     .rw[Z8,Yc]
      lia
     .by_cases il:i<L.length
      .rw[Y3 il]at hi;rw[List.take_append_of_le_length (le_of_lt il)];exact B.ord i y hi y' e
      .have ie:i=L.length:=by
        have:=(X3 hi).1;rw[Z8,Yc]at this
        lia
       subst ie;rw[Y4 (Zh _),sub_self,List.getElem?_cons_zero]at hi;obtain rfl:=Z9 hi;rw[List.take_append_of_le_length (Zh _),List.take_length];exact Am ((B.mem x).mp (Ym _ Y)).2 e
   .refine k7 _ _ ?_;lk;have R0:R=[]:=by
     cases R with
     | nil=>rfl
     | cons x R=>exact absurd (Ze (by rw[Zq];lia)) h
    subst R0;have mem:=B.mem;have nd:=B.nd;rw[Zw]at mem nd;refine kk ld H5 L (an.trans N) hL nd (λx Y=>((mem x).mp Y).1) B.ord λx Y nx=>?_
    have:cnt ss L x≠0:=λc=>nx ((mem x).mpr %[Y|c])
    obtain⟨t,ht,q⟩:=List.countP_pos_iff.mp (Nat.pos_of_ne_zero this);obtain⟨a,b,z,e,_,hb⟩:=(a2 t ht).2;rw[e]at q;simp only[Zu]at q;have q1:a=x:=Z9 (Zn q.1);exact%[b,%[z|by rw[<-q1,<-e];exact X7 %[t,ht|rfl]],hb|Zn q.2]
def An:Sp:=λvs H Q _=>∃l m a ss,vs=[.ref l,.ref m]/\H l=some (.lst (a.map V.str))/\a.Nodup/\a.length<=60/\H m=some (.lst (ss.map λt=>V.ref t.1))/\cF H a ss/\ss.length<=62/\
 ∀r b (us:ZB),ae H b->b r=some (.lst (us.map V.str))->(∀x∈a,Rch (ss.map (·.2)) x x->x∈us)->Q (.ref r) b
structure mQ (H:Hp) (ks:List ZB) (ss:ZG) (r:Addr) (ws:ZG) (x:Str):Prop where
 at_:H r=some (.lst (ws.map λt=>V.ref t.1))
 sub:∀t∈ws,t∈ss
 sho:Sho ks x x (ws.map (·.2))
 len:ws.length<=100
theorem mQ.up(h:mQ H ks ss r ws x)(s:ae H a):mQ a ks ss r ws x:=%[s _ _ h.at_,h.sub,h.sho|h.len]
def Ao:Sp:=λvs H Q _=>∃l m b ss,vs=[.ref l,.ref m]/\H l=some (.lst (b.map V.str))/\b.Nodup/\b.length<=60/\H m=some (.lst (ss.map λt=>V.ref t.1))/\cF H b ss/\ss.length<=62/\
 (∀a,ae H a->(∀x,¬ Rch (ss.map (·.2)) x x)->Q .non a)/\∀r a ws x,ae H a->mQ a (ss.map (·.2)) ss r ws x->(∀y n,Dst (ss.map (·.2)) y (n+1) y->ws.length<=n+1)->Q (.ref r) a
theorem qx(T:Txt K mg):↥4 "never_laid" ["names","found"] An:=by
 refine T.aT.cal nu (λH vs Q E h=>?_)
 .obtain⟨l,m,a,ss,rfl,t,G,nl,I,i,j,J⟩:=h;refine%[rfl|λf B A outer s C=>?_];refine%[_,%["JDG=~rAH]p~F~aA0B~F~aAF]qA0A1BBB",0|C]|?_];show iV _ _ [!l,!m] H;lk;refine%[a,SqL.of t,⋯|λp M=>?_];have b:=ae.upd (o:=i4 w p (aH a)) M;have g:upd H p (i4 w p (aH a)) p=_:=aa
  generalize upd H p (i4 w p (aH a))=H1 at b g ⊢
  refine%[l,m,a,ss,rfl,b _ _ t,G,nl,b _ _ I,i.up b,j|λr N L y O U Y n _=>?_];have Ll:=STab.nodup_sub U Y;refine%[r,rfl,L,SqL.of O,⋯|λq fq=>?_];have z:=ae.upd (o:=i4 w q (aH L)) fq;have gq:upd N q (i4 w q (aH L)) q=_:=aa;have g:=z _ _ (y _ _ g);have fl:=STab.nodup_sub (eF a) λx d=>bp.mp d
  refine%[_,g,_,gq,⋯|λu ms fu e mn=>%[ms,aa,?_|λv us fv pu _=>?_]]
  .have:=STab.nodup_sub mn λx d=>bp.mp ((e x).mp d).1
   lia
  .refine J v _ us (b.trans (y.trans (z.trans ((ae.upd fu).trans (ae.upd fv))))) aa λx d rx=>?_
   rw[pu.mem_iff,e];exact%[bp.mpr d|λc=>BL n (bp.mp c) rx]
theorem sI{d:ZB}{ss:ZG}(h:∀t∈ss,cE d t.2){x y:Str}(r:Rch (ss.map (·.2)) x y):x∈d:=by
 induction r with
 | one e=>
   obtain⟨z,g⟩:=e;obtain⟨t,i,f⟩:=X6 g;obtain⟨a,b,c,e,j,_⟩:=h t i;rw[e]at f;rw[<-(List.cons.inj f).1];exact j
 | more _ _ l=>exact l
theorem dW(T:Txt K mg):↥5 "shortest_ring" ["names","found"] Ao:=by
 refine T.aS.cal bD (λH vs Q E h=>?_)
 .obtain⟨l,m,O,ss,rfl,hl,nn,nl,hm,c,u,kn,ky⟩:=h;refine%[rfl|λf al A outer s hr=>?_];refine%[_,%["JCI2F~iA1BCI3yCXTF]rA0A1BL4CI5F~jA2A4A4BDNYuK}5y&YoK~(3ysK:UVA5BUVA3BDI35ODG3",bD.nd|hr]|?_]
  show bh _ _ _ [!l,!m,none,none,none,none] H;refine am λD1 k1 _=>?_
  lk;refine%[m,O,ss,rfl,hm,c,u|λb H1 U fb hb=>k1 _ _ (am λD2 k2 _=>?_)];lk;refine k2 _ _ (am λD3 k3 _=>ax λai hK=>?_);lk;refine%[l,m,O,ss,rfl,U _ _ hl,nn,nl,U _ _ hm,c.up U,u|λr H2 us s2 I J=> .inl %[r,rfl,%[_|SqL.of I]|hK _ _ ?_]];have um:(us.map V.str).length=us.length:=Z5 _;have z:=U.trans s2;refine bw (xs:=us.map V.str) (λi Y g=>(∃v o4 o5,Y=[!l,!m,!b,some v,o4,o5]/\((v= .non/\∀x∈us.take i,¬ Rch (ss.map (·.2)) x x)\/∃q ws x,v= .ref q/\mQ g (ss.map (·.2)) ss q ws x/\∀y∈us.take i,∀n,Dst (ss.map (·.2)) y (n+1) y->ws.length<=n+1))/\ae H2 g)
   %[%[_,_,_,rfl|.inl %[rfl|λx B=>(nomatch B)]]|λ_ _ e=>e] (λi Y g _ h=>SqL.of (h.2 _ _ I)) ?_ ?_
  .rintro i x Y g B ⟨⟨v,o4,o5,rfl,L⟩,j⟩;rw[Zk]at B;obtain⟨n,hn,rfl⟩:=map_eq_some_iff.mp B;have tk:us.take (i+1)=us.take i++[n]:=by rw[Yw,hn];rfl
   show bh _ _ _ [!l,!m,!b,some v,-n,o5] g;refine am λD4 k4 _=>?_
   lk;have ab:=s2.trans j;refine%[b,n,n,O,ss,rfl,hb.up ab,c.up (z.trans j),u,λH3 C nr=>k4 _ _ (aB λD5 k5 _=>?_)|λq H3 ws C _ G sub rr rl=>k4 _ _ (aB λD5 k5 _=>?_)]
   .lk;rw[if_neg ∅];refine k5 _ _ %[%[v,_,_,rfl|L.imp (λh=>%[h.1|λx B=>?_]) λ⟨q,ws,x,e,G,o⟩=>%[q,ws,x,e,G.up C|λy a m d=>?_]]|j.trans C]
    .rw[tk]at B;rcases X4 B with h'|h'
     .exact h.2 x h'
     .rw[X5 h'];exact nr
    .rw[tk]at a;rcases X4 a with h'|h'
     .exact o y h' m d
     .rw[X5 h']at d;exact(nr d.rch).elim
   .lk;rw[if_pos ∅];have wl:∀zs:ZG,(zs.map λt=>V.ref t.1).length=zs.length:=λzs=>Z5 _
    have p:=λm d=>by
     have:=rr.min m d;rwa[Z5]at this
    have put:(∀y∈us.take i,∀m,Dst (ss.map (·.2)) y (m+1) y->ws.length<=m+1)->D5.nx [!l,!m,!b,!q,-n,!q] H3:=λo=>k5 _ _ ⟨%[_,_,_,rfl|.inr ⟨q,ws,n,rfl,%[G,sub,rr|rl],λy a m d=>by
     rw[tk]at a;rcases X4 a with h'|h'
     .exact o y h' m d
     .rw[X5 h']at d;exact p m d⟩],j.trans C⟩
    rcases L with⟨rfl,ag⟩|⟨q',M,x',rfl,N,o⟩
    .rw[if_pos ∅];exact put λy a m d=>(ag y a d.rch).elim
    .rw[if_neg ∅];refine%[_,.inl %[_,SqL.of G|(wl ws).symm],_,.inl %[_,SqL.of (C _ _ N.at_)|(wl M).symm]|bv (λlt=>put λy a m d=>?_) λlt=>k5 _ _ %[%[_,_,_,rfl|.inr %[q',M,x',rfl,N.up C|λy a m d=>?_]]|j.trans C]]
     .have:=o y a m d;have:=Zn lt
      lia
     .rw[tk]at a;rcases X4 a with h'|h'
      .exact o y h' m d
      .rw[X5 h']at d;have:=p m d
       lia
  .rintro Y g ⟨⟨v,o4,o5,rfl,L⟩,j⟩;rw[um,Zm (Zh _)]at L;refine k3 _ _ ?_;lk;rcases L with⟨rfl,h⟩|⟨q,ws,x,rfl,G,o⟩
   .exact kn g (z.trans j) λx rx=>h x (J x (sI (λt ht=>(c t ht).2) rx) rx) rx
   .exact ky q g ws x (z.trans j) G λy n d=>o y (J y (sI (λt ht=>(c t ht).2) d.rch) d.rch) n d
noncomputable def nJ(ws:ZG):ZL:=ws.map λt=>V.ref t.1
def Fy(ws:ZG):Prop:=∀p∈ws,p.2.length<=3/\∀z∈p.2,Sml z
def vL(C:Addr):Sp:=λvs H Q _=>∃a r ws,vs=[.ref a,.ref r]/\H r=some (.lst (nJ ws))/\aL H ws/\ws.length<=100/\Fy ws/\H a=some (ExO a C none)/\
 ∀l d,H l=none->H d=none->d≠l->Q .non (upd (upd (upd H l (.lst (nJ ws))) a (ExO a C (some d))) d (.xd [("ring",.ref l)]))
theorem C_Torn(T:Txt K mg):DP P w K mg base 1 "Torn" ["self","ring"] (vL (aF mg "Torn")):=by
 refine T.bI.cal qf (by fin2) (λf m A outer s H vs Q E n g h=>?_)
 .obtain⟨a,r,ws,rfl,i,o,p,t,j,q⟩:=h;refine%[_,(QSs.h (ah (bO rfl (DT (C:=aF mg "Torn") n rfl T.bB T.bX rfl rfl %[_|rfl] #[↑0,zo (pjE b8 (pjE (Fp g.gd g.units ↑1) zk))]))
   (ao (Ff (C:=aF mg "Torn") T.bJ rfl ↑0 (ctO (fk (K:=K) rfl) T.a5 boot_list rfl #[↑1])))))|?_]
  show bh _ _ _ [some _,some _] H;lk;have v:(Str.empty++Str.ofString "torn by the ring ").length=17:=by decide +kernel
  refine%[by rw[PySem.sizeLine_eq];lia,r,ws,rfl,i,o,p,t|λz y=>%[z,rfl,by rw[strLen_append,PySem.sizeLine_eq];lia,by rw[strLen_append,PySem.sizeLine_eq];lia,by simp,%[_|j]|?_]];refine%[r,rfl,_,.inl (SqL.of i)|λl b=>%[a,rfl,ae.upd b _ _ j|λd c u=>?_]];have dl:d≠l:=λe=>by rw[e,aa]at c;cases c
  rw[aj dl]at c;exact q l d b c dl
theorem uT{D:iL}{E:XK}(m:ae H c)(I:c r=some (.lst (nJ ws)))(J:aL c ws)(f:ws.length<=100)(L:Fy ws)(M:∀Q:ZL->Hp->Prop,Q [.ref r] c->t N c Q)
 (k:∀d l g,ae H g->ae c g->H d=none->H l=none->d≠l->g d=some (.xd [("ring",.ref l)])->g l=some (.lst (nJ ws))->E (.ref C) (some d) g):
 pM C (t7 C (vL C) t) (λa A=>∃d,A a=some (ExO a C (some d))/\H a=none/\E (.ref C) (some d) (drop A a)) D N c:=by
 refine M _ %[by simp|λx q=>?_];have B:=ae.upd (o:=ExO x C none) q;refine%[x,r,ws,rfl,B _ _ I,aT J λb z e=>B _ _ e,f,L,aa|λl d f n h=>?_];have s:l≠x:=λe=>by rw[e,aa]at f;cases f
 have p:d≠x:=λe=>by rw[e,aa]at n;cases n
 have i:=by rw[aj s]at f;exact f
 have j:=by rw[aj p]at n;exact n
 have v:∀b,b≠x->b≠l->b≠d->drop (upd (upd (upd (upd c x (ExO x C none)) l (.lst (nJ ws))) x (ExO x C (some d))) d (.xd [("ring",.ref l)])) x b=c b:=λb y O T=>by
  rw[bx y,aj T,aj y,aj O,aj y]
 have G:ae c (drop _ x):=λb u e=>by
  rw[v b (ap e q) (ap e i) (ap e j)];exact e
 refine%[rfl,x,d,rfl,?_,d,?_,m.free q|k d l _ (m.trans G) G (m.free j) (m.free i) h ?_ ?_]
 .rw[aj p.symm,aa]
 .rw[aj p.symm,aa]
 .rw[bx p,aa]
 .rw[bx s,aj h.symm,aj s,aa]
theorem dD{S:Str->Str->Prop}(h:bP S z m)(c:dg S z x):bP S x m:=%[c.symm.trans h.1|λy d=>h.2 y (c.trans d)]
theorem e9(h:cr H c qs)(a b:Str)(s:bu qs a b):a∈c/\b∈c:=by
 obtain⟨q,d,e⟩:=s;rcases(h q d).2 with⟨wd,x,y,f,_,g,i,_⟩|⟨wd,x,y,f,_⟩
 .simp_all
 grind
structure gQ (mg:ZC) (H:Hp) (g:Addr) (qs:ZM) (ls:ZB) (ts:ZG):Prop where
 gr:∃c2 c3 c4,GrF mg H g c2 c3 c4 qs ls ts
 nd:ls.Nodup
 so:ls.Pairwise (λa b=>ba b a=false)
 ll:ls.length<=60
 tl:ts.length<=62
 t3:∀k∈ts.map (·.2),cE ls k
 sm:∀k∈ts.map (·.2),∀z∈k,Sml z
 lm:∀z∈ls,Sml z
theorem gQ.up(h:gQ mg H g qs a ts)(s:ae H b):gQ mg b g qs a ts:=by
 obtain⟨c,d,e,f⟩:=h.gr;exact%[%[c,d,e|f.up s],h.nd,h.so,h.ll,h.tl,h.t3,h.sm|h.lm]
theorem gQ.ends(h:gQ mg H g qs f ts)(i:aY (bu qs) (ts.map (·.2)) lk)(j:k∈lk):∃a b z,k=[a,b,z]/\(a∈f/\bP (bu qs) a a)/\b∈f/\bP (bu qs) b b:=by
 obtain⟨r,s,t,l⟩:=h.gr;obtain⟨a,b,z,m,n,o,c,d,rfl⟩:=(i.mem k).mp j;obtain⟨x,y,u,e,p,q⟩:=h.t3 _ o;simp only[List.cons.injEq,and_true]at e;obtain⟨rfl,rfl,rfl⟩:=e;have ws:=e9 l.sa;exact%[m,n,z,rfl,%[c.1.within ws p|dD c c.1],d.1.within ws q|dD d d.1]
theorem gQ.short(h:gQ mg H g qs o ts)(d:aY (bu qs) (ts.map (·.2)) lk)(f:k∈lk):k.length<=3/\∀z∈k,Sml z:=by
 obtain⟨p,q,r,i⟩:=h.gr;obtain⟨a,b,z,s,t,c,j,l,rfl⟩:=(d.mem k).mp f;obtain⟨x,y,u,e,m,n⟩:=h.t3 _ c;simp only[List.cons.injEq,and_true]at e;obtain⟨rfl,rfl,rfl⟩:=e;have ws:=e9 i.sa;exact%[Zh _|Es (h.lm _ (j.1.within ws m)) (h.lm _ (l.1.within ws n)) (h.sm _ c z ∅)]
theorem gQ.names(h:gQ mg H g qs d ts)(f:aY (bu qs) (ts.map (·.2)) lk)(c:Ct (bu qs) d i):∀k∈lk,cE i k:=λk j=>by
 obtain⟨a,b,z,e,l,m⟩:=h.ends f j;exact%[a,b,z,e,(c.mem a).mpr l|(c.mem b).mpr m]
theorem gQ.ties(h:gQ mg H g qs c ts)(d:aY (bu qs) (ts.map (·.2)) lk):∀k∈lk,cE c k:=λk f=>by
 obtain⟨a,b,z,e,i,j⟩:=h.ends d f;exact%[a,b,z,e,i.1|j.1]
theorem iz(a:aL H ss)(h:∀k∈ss.map (·.2),cE b k):cF H b ss:=λt q=>%[(a t q).2|h _ (X7 %[t,q|rfl])]
def B6(mg:ZC):Sp:=λvs H Q _=>∃g qs b ts,vs=[.ref g]/\gQ mg H g qs b ts/\∀a lk,ae H a->aY (bu qs) (ts.map (·.2)) lk->((∀x,¬ Rch lk x x)->Q .non a)/\∀r x,Rch lk x x->Q (.ref r) a
def xI(mg:ZC):Sp:=λvs H Q _=>∃g qs b ts,vs=[.ref g]/\gQ mg H g qs b ts/\(∀lk,aY (bu qs) (ts.map (·.2)) lk->∀x,¬ Rch lk x x)/\∀l a c ss,ae H a->a l=some (.lst (ss.map λt=>V.ref t.1))->cF a c ss->ss.length<=62->aY (bu qs) (ts.map (·.2)) (ss.map (·.2))->Q (.ref l) a
structure uU (H:Hp) (lk:List ZB) (d l:Addr) (ws:ZG) (x:Str):Prop where
 ad:H d=some (.xd [("ring",.ref l)])
 al:H l=some (.lst (nJ ws))
 tu:aL H ws
 sho:Sho lk x x (ws.map (·.2))
 min:∀y n,Dst lk y (n+1) y->ws.length<=n+1
 len:ws.length<=100
def B7(mg:ZC):Sp:=λvs H Q E=>∃(g:Addr) (qs:List _) (b:ZB) (ts:List _) (lk:List _) (us:ZL),vs=[.ref g]/\gQ mg H g qs b ts/\aY (bu qs) (ts.map (·.2)) lk/\(∃x,Rch lk x x)/\∀d l a ws x,ae H a->H d=none->H l=none->d≠l->uU a lk d l ws x->E (.ref (aF mg "Torn")) (some d) a
def jO(mg:ZC):Sp:=λvs H Q E=>∃(g:Addr) (v u:V),vs=[.ref g,v,u]/\∃(qs:ZM) (b:ZB) (ts:ZG) (lk:List ZB),gQ mg H g qs b ts/\aY (bu qs) (ts.map (·.2)) lk/\(∃x,Rch lk x x)/\∀d l a ws x,ae H a->H d=none->H l=none->d≠l->uU a lk d l ws x->E (.ref (aF mg "Torn")) (some d) a
def Stn(lk:List ZB)(a b s:Str):Prop:=(a=b/\s="one")\/(a≠b/\Rch lk a b/\s="later")\/(a≠b/\ ¬ Rch lk a b/\Rch lk b a/\s="earlier")\/(a≠b/\ ¬ Rch lk a b/\ ¬ Rch lk b a/\s="open")
def Ap(mg:ZC):Sp:=λvs H Q _=>∃(g:Addr) (qs:ZM) (c:ZB) (ts:ZG) (z u a b:Str) (lk:List ZB),vs=[.ref g,.str z,.str u]/\gQ mg H g qs c ts/\z∈c/\u∈c/\bP (bu qs) z a/\bP (bu qs) u b/\aY (bu qs) (ts.map (·.2)) lk/\(∀x,¬ Rch lk x x)/\∀d s,ae H d->Stn lk a b s->Q (.str s) d
theorem EE(T:Txt K mg):↥6 "ring" ["ground"] (B6 mg):=by
 refine T.aR.cal BN (λH vs Q E h=>?_)
 .obtain⟨g,qs,e,ts,rfl,a,n⟩:=h;refine%[rfl|λf y A outer s d=>?_];obtain⟨o,p,q,t⟩:=a.gr;have N:=a.ll;refine%[_,%["JDGF~kAF~lA0BAF~LA0BB",0|d]|?_];refine%[g,o,p,q,qs,e,ts,rfl,t,a.nd,a.so,⋯|λl O z u U B c=>?_];refine%[g,o,p,q,qs,e,ts,rfl,t.up u,a.nd,a.so,⋯,a.tl,a.t3|λm Y ss v fm C G lk I=>?_];have b:=u.trans v;refine%[l,m,z,ss,rfl,v _ _ B,c.nd,?_,C,iz G (a.names lk c),I,λi j J=>(n i _ (b.trans j) lk).1 J|λr i ws x j L _=>(n i _ (b.trans j) lk).2 r x L.sho.rch];have:=STab.nodup_sub c.nd λx M=>((c.mem x).mp M).1
  lia
theorem mR(T:Txt K mg):↥6 "untorn_links" ["ground"] (xI mg):=by
 refine T.aU.cal bI (λH vs Q E h=>?_)
 .obtain⟨g,qs,e,ts,rfl,a,G,I⟩:=h;refine%[rfl|λf C A outer s d=>?_];obtain⟨j,n,o,p⟩:=a.gr;have ll:=a.ll;refine%[_,%["JCI1F~LA0BCI2F~kAF~lA0BA1BCNK}2yD)ODG1",bI.nd|d]|?_]
  show bh _ _ _ [!g,none,none] H;refine am λD1 J _=>?_
  lk;refine%[g,j,n,o,qs,e,ts,rfl,p,a.nd,a.so,⋯,a.tl,a.t3|λm H1 ss q fm t L lk u=>J _ _ (am λD2 M _=>?_)];lk;refine%[g,j,n,o,qs,e,ts,rfl,p.up q,a.nd,a.so,⋯|λl H2 v i fl N c=>?_];have y:=iz L (a.names lk c);refine%[l,m,v,ss,rfl,N,c.nd,?_,i _ _ t,y.up i,u,λz B _=>M _ _ (am λD3 O _=>?_)|λr z ws x B U _=>(G _ lk x U.sho.rch).elim]
  .have:=STab.nodup_sub c.nd λx Y=>((c.mem x).mp Y).1
   lia
  .lk;refine O _ _ ?_;have b:=i.trans B;exact I m z v ss (q.trans b) (b _ _ t) (y.up b) u lk
theorem mS(T:Txt K mg):↥7 "standing" ["ground","one","other"] (Ap mg):=by
 refine T.aW.cal bY (λH vs Q E h=>?_)
 .obtain⟨g,qs,r,ts,z,u,a,b,lk,rfl,i,hz,hu,t,v,o,nr,p⟩:=h;refine%[rfl|λf ab A outer s m=>?_];obtain⟨c2,c3,c4,gr⟩:=i.gr;have ll:=i.ll;refine%[_,%["JCI3F~iAF]sA0BBCI4F~)A0A1BCI5F~)A0A2BCNKb45DGROCNK}F~jA3A4A5ByDGROCNK}F~jA3A5A4ByDGRODGR",bY.nd|m]|?_]
  show bh _ _ _ [!g,-z,-u,none,none,none] H;refine am λD1 k1 _=>?_
  lk;refine%[g,qs,r,ts,rfl,i,λag h'=>by rw[h'.one o];exact nr|λl H1 y ss s1 hl B C G=>?_];refine%[l,y,ss,rfl,hl,B,C|λd H2 I fd hd=>k1 _ _ (am λD2 k2 _=>?_)];have j:=s1.trans I;rw[o.one G]at p;lk;refine%[g,c2,c3,c4,qs,r,ts,z,rfl,gr.up j,i.nd,i.so,⋯,hz|λH3 J s3 L=>k2 _ _ (am λD3 k3 _=>?_)];obtain rfl:=L.one t;have M:=j.trans s3;lk;refine%[g,c2,c3,c4,qs,r,ts,u,rfl,gr.up M,i.nd,i.so,⋯,hu|λH4 N s4 O=>k3 _ _ (am λD4 k4 r4=>?_)];obtain rfl:=O.one v;have c:=s3.trans s4;have e:=j.trans c;lk;refine bv (λh=>r4 _ _ (p H4 _ e (.inl %[by simpa using h|rfl]))) λh=>?_
  have h:J≠N:=by simpa using h
  refine k4 _ _ (am λD5 k5 r5=>?_);lk;refine%[d,J,N,y,ss,rfl,hd.up c,B.up (I.trans c),C,λH5 n n1=>?_|λq H5 xs n _ _ _ r1 _=>?_]
  .dsimp only;rw[if_neg ∅];refine k5 _ _ (am λD6 k6 r6=>?_);lk;refine%[d,N,J,y,ss,rfl,hd.up (c.trans n),B.up (I.trans (c.trans n)),C,λU Y n2=>?_|λq U xs Y _ _ _ r2 _=>?_]
   .dsimp only;rw[if_neg ∅];refine k6 _ _ ?_;lk;exact p U _ (e.trans (n.trans Y)) (.inr (.inr (.inr %[h,n1,n2|rfl])))
   .dsimp only;rw[if_pos ∅];exact r6 _ _ (p U _ (e.trans (n.trans Y)) (.inr (.inr (.inl %[h,n1,r2.rch|rfl]))))
  .dsimp only;rw[if_pos ∅];exact r5 _ _ (p H5 _ (e.trans n) (.inr (.inl %[h,r1.rch|rfl])))
theorem bV(T:Txt K mg):rA P w K mg base 7 "untorn_links" ["ground"] (B7 mg):=by
 obtain⟨_,_,b,_⟩:=T.bI.ini;refine T.aU.calX bI (λH vs Q E h=>?_)
 .obtain⟨g,qs,v,ts,lk,us,rfl,a,y,⟨x0,z⟩,kk⟩:=h;refine%[rfl|λf ab A outer s o=>?_];obtain⟨M,N,O,U⟩:=a.gr;have ll:=a.ll;refine%[_,%["JCI1F~LA0BCI2F~kAF~lA0BA1BCNK}2yD]t]u]vA2BODG1",bI.nd|o]|?_]
  show bh _ _ _ [!g,none,none] H;refine am λD1 k1 _=>?_
  lk;refine%[g,M,N,O,qs,v,ts,rfl,U,a.nd,a.so,⋯,a.tl,a.t3|λm H1 ss Y fm hm B i sl=>k1 _ _ (am λD2 k2 _=>?_)];have e:=y.one i;subst e;lk;refine%[g,M,N,O,qs,v,ts,rfl,U.up Y,a.nd,a.so,⋯|λl H2 ns p fl hl u=>?_];have la:=iz B (a.names i u);have C:=Y.trans p;refine%[l,m,ns,ss,rfl,hl,u.nd,?_,p _ _ hm,la.up p,sl,λH' G nr=>(nr _ z).elim|λr H' ws x G j mn=>k2 _ _ (am λD3 k3 _=>?_)]
  .have:=STab.nodup_sub u.nd λx I=>((u.mem x).mp I).1
   lia
  .lk;rw[if_pos ∅];have J:=C.trans G;have inl:∀t∈ws,t.2∈ss.map (·.2):=λt c=>X7 %[t,j.sub t c|rfl]
   have n:aL H' ws:=λt c=>%[(B t (j.sub t c)).1|G _ _ (p _ _ (B t (j.sub t c)).2)]
   refine uT J j.at_ n j.len (λt c=>a.short i (inl t c)) (λQ q=>?_) λd l H4 s4 s5 hd L dl I hL=>kk d l H4 ws x s4 hd L dl %[I,hL,λt c=>%[(n t c).1|s5 _ _ (n t c).2],j.sho,mn|j.len]
   exact q
theorem dE(T:Txt K mg):rA P w K mg base 8 "standing" ["ground","one","other"] (jO mg):=by
 have bV:=bV (P:=P) (w:=w) (base:=base) T;refine T.aW.calX bY (λH vs Q E h=>?_)
 .obtain⟨g,v,u,rfl,h⟩:=h;refine%[rfl|λf c A outer s a=>?_];refine%[_,(QSs.h (ah (aI 3 bY.nd rfl (ay (bT T) a rfl #[(oE (iE λ_ _ _ h=>h) bV a rfl rfl rfl rfl #[↑0])]))
   (ah (aI 4 bY.nd rfl (ay (bN T) a rfl #[↑0,↑1]))
   (ah (aI 5 bY.nd rfl (ay (bN T) a rfl #[↑0,↑2]))
   (ah (ifS (bd cj rfl ↑4 ↑5)
   (ao (aE b8))
   aP)
   (ah (ifS (bd h9 rfl (ay (bU T) a rfl #[↑3,↑4,↑5]) iY)
   (ao (aE b8))
   aP)
   (ah (ifS (bd h9 rfl (ay (bU T) a rfl #[↑3,↑5,↑4]) iY)
   (ao (aE b8))
   aP)
   (ao (aE b8)))))))))|?_]
  show bh _ _ _ [!g,some v,some u,none,none,none] H;refine am λl m _=>?_
  lk;obtain⟨qs,d,ts,lk,e,b,i,j⟩:=h;exact%[g,qs,d,ts,lk,[],rfl,e,b,i|j]
theorem qy(T:Txt K mg):rA P w K mg base 8 "chain" ["ground","one","other"] (jO mg):=by
 have bV:=bV (P:=P) (w:=w) (base:=base) T;refine T.aV.calX sj (λH vs Q E h=>?_)
 .obtain⟨g,v,u,rfl,h⟩:=h;refine%[rfl|λf c A outer s a=>?_];refine%[_,(QSs.h (ah (aI 3 sj.nd rfl (ay (bT T) a rfl #[(oE (iE λ_ _ _ h=>h) bV a rfl rfl rfl rfl #[↑0])]))
   (ao (aE (ay (bU T) a rfl #[↑3,ay (bN T) a rfl #[↑0,↑1],ay (bN T) a rfl #[↑0,↑2]])))))|?_]
  show bh _ _ _ [!g,some v,some u,none] H;refine am λl m _=>?_
  lk;obtain⟨qs,d,ts,lk,e,b,i,j⟩:=h;exact%[g,qs,d,ts,lk,[],rfl,e,b,i|j]
theorem gR(T:Txt K mg):rA P w K mg base 9 "two_orders" ["ground","one","other"] (jO mg):=by
 have dE:=dE (P:=P) (w:=w) (base:=base) T;have a:∀_:Txt K mg,Cal P w K mg base 1 "order_with" ["ground","later","earlier"] (λ_ _ _ _=>False):=λT=>T.bh.cal (k:=0) nB (λ_ _ _ _ h=>h.elim)
 refine T.bg.calX fz (λH vs Q E h=>?_)
 .obtain⟨g,v,u,rfl,h⟩:=h;refine%[rfl|λf c A outer s b=>?_];refine%[_,(QSs.h (ah (ifS (bd eW rfl (oE (iE λ_ _ _ h=>h) dE b rfl rfl rfl rfl #[↑0,↑1,↑2]) b8)
   (ao (aE iY))
   aP)
   (ah (aI 3 fz.nd rfl (ay (bN T) b rfl #[↑0,↑1]))
   (ah (aI 4 fz.nd rfl (ay (bN T) b rfl #[↑0,↑2]))
   (ao (aE (fE #[ay (a T) b rfl #[↑0,↑4,↑3],ay (a T) b rfl #[↑0,↑3,↑4]])))))))|?_]
  show bh _ _ _ [!g,some v,some u,none,none] H;refine am λd e _=>?_
  lk;exact%[g,v,u,rfl|h]
def Aq(mg:ZC):Sp:=λvs H Q E=>∃(way:Int) (g:Addr) (v u:V),vs=[.int way,.ref g,v,u]/\jO mg [.ref g,v,u] H Q E
def B8(K:ZA)(mg:ZC):Sp:=λvs H Q _=>∃a:Addr,vs=[.ref a]/\(∀b,ae H b->TyX K b (.ref a) (.ref (aF mg "Torn")))/\∀b,ae H b->Q (.bl true) b
theorem iA(T:Txt K mg):rA P w K mg base 10 "_law_asked" ["_law_way","_law_ground_here","_law_one","_law_other"] (Aq mg):=by
 have qy:=qy (P:=P) (w:=w) (base:=base) T;have dE:=dE (P:=P) (w:=w) (base:=base) T;have gR:=gR (P:=P) (w:=w) (base:=base) T;refine T.bx.calX qe (λH vs Q E h=>?_)
 .obtain⟨way,g,v,u,rfl,g',i,j,e,h⟩:=h;refine%[rfl|λf b A outer s a=>?_];cases e;refine%[_,(QSs.h (ah (ifS (bd cj rfl ↑0 ar)
   (ao (aE (oE (iE λ_ _ _ h=>h) qy a rfl rfl rfl rfl #[↑1,↑2,↑3])))
   aP)
   (ah (ifS (bd cj rfl ↑0 ar)
   (ao (aE (oE (iE λ_ _ _ h=>h) dE a rfl rfl rfl rfl #[↑1,↑2,↑3])))
   aP)
   (ao (aE (oE (iE λ_ _ _ h=>h) gR a rfl rfl rfl rfl #[↑1,↑2,↑3]))))))|?_]
  show bh _ _ _ [some (.int way),!g,some v,some u] H;refine am λl c _=>?_
  lk;refine bv (λ_=>%[g,v,u,rfl|h]) λ_=>c _ _ (am λm d _=>?_)
  lk;refine bv (λ_=>%[g,v,u,rfl|h]) λ_=>d _ _ ?_
  lk;exact%[g,v,u,rfl|h]
theorem li(T:Txt K mg):↥1 "_law_only_torn" ["_law_e"] (B8 K mg):=by
 refine T.bw.cal dA (λH vs Q E h=>?_)
 .obtain⟨a,rfl,b,m⟩:=h;refine%[rfl|λf l A outer s z=>?_];have c:=b H (ae.refl H);refine%[_,%["JCI1QA./A0A]wBA./A0A]xBA./A0A]yBA./A0A]zBBCI1H%1QA./A0A]!BA./A0A]$BBDGz./A0A]%Bz./A0A?1B(q~*n1",dA.nd|(blE (v:= .ty "ValueError") rfl T.am PyProof.Rows.Boot.«ValueError» rfl rfl rfl)]|?_]
  show bh _ _ _ [!a,none] H;refine am λB n _=>?_
  lk;refine%[_,c,_,.inl T.bO,_,c,_,.inl T.bP,_,c,_,.inl T.bQ,_,c,_,.inl T.bS,#[4]|λp t=>n _ _ (am λC u _=>?_)];have d:=ae.upd (o:= .lst [V.bl false,V.bl false,V.bl false,V.bl false]) t;have g1:upd H p (.lst [V.bl false,V.bl false,V.bl false,V.bl false]) p=_:=aa
  generalize upd H p (.lst [V.bl false,V.bl false,V.bl false,V.bl false])=y at d g1
  have i:=b y d;lk;refine%[_,i,_,.inl T.bV,_,i,_,.inl T.bW,(by decide)|λq j=>%[_,ae.upd j _ _ g1,_,aa,(by decide)|λr e=>u _ _ ?_]];have g:=d.trans ((ae.upd j).trans (ae.upd (o:= .lst ([V.bl false,V.bl false,V.bl false,V.bl false] ++[V.bl false,V.bl false])) e));lk;refine%[_,b _ g,true,.inl T.bT|?_];rw[if_pos rfl];refine%[_,b _ g,true,T.bU|?_];rw[if_pos rfl];exact%[_,.inl (SqL.of aa),rfl,rfl|m _ g]
noncomputable def qz(k:Nat)(d:Str->Nat)(new:Gs Str)(x:Str):V:= .int ((if x∈new.map (·.1)then k+1 else d x:Nat))
def Fz(H:Hp)(l d:Addr)(st:Str)(ss:ZG)(m:Nat)(f:L2.St)(b:Hp):Prop:=∃(e:Addr) (k:Nat) (g h i j:Option V) (F:ZB) (a:Gs Str) (c:Str->Nat),f=[!l,-st,!d,!e,some (.int k),g,h,i,j]/\ae H b/\b e=some (.lst (F.map V.str))/\b d=some (.dK (VD (a.map (·.1)) λx=> .int (c x)))/\ReB ss a/\Lev (ss.map (·.2)) st a c k F/\m=2*(62-a.length) +F.length.min 1
def Ar:Sp:=λvs H Q _=>∃l st b ss,vs=[.ref l,.str st]/\H l=some (.lst (ss.map λt=>V.ref t.1))/\cF H b ss/\ss.length<=62/\∀d a R (f:Str->Nat),ae H a->a d=some (.dK (VD R λx=> .int (f x)))->R.Nodup->R.length<=62->(∀x,x∈R↔Rch (ss.map (·.2)) st x)->(∀x∈R,1<=f x/\Dst (ss.map (·.2)) st (f x) x/\∀n,Dst (ss.map (·.2)) st (n+1) x->f x<=n+1)->Q (.ref d) a
theorem kO(T:Txt K mg):↥1 "_law_steps" ["_law_some","_law_begin"] Ar:=by
 refine T.br.cal bq (λH vs Q E h=>?_)
 .obtain⟨l,st,ns,ss,rfl,hl,a1,a8,kk⟩:=h;refine%[rfl|λf a7 A outer s O=>?_];have a2:(ss.map λt=>V.ref t.1).length=ss.length:=Z5 _;refine%[_,%["JCI2>CI3QA1BCI4EC~JK]&3QBCI4Hv4ECI5QBCXT0eML6ML7ML8fDNYuK<63&~S72C,427DZpj5A7BODI35DG2",bq.nd|O]|?_]
  show bh _ _ _ [!l,-st,none,none,none,none,none,none,none] H;refine am λD1 k1 _=>?_
  lk;intro d fd;refine k1 _ _ (am λD2 k2 _=>?_);have s1:=ae.upd (o:= .dK []) fd;have j:upd H d (.dK []) d=some (.dK (VD (([]:Gs Str).map (·.1)) λ_=> .int (0:Nat))):=aa
  generalize upd H d (.dK [])=H1 at s1 j
  lk;refine%[#[1]|λe fe=>k2 _ _ (am λD3 k3 _=>?_)];have s2:=ae.upd (o:= .lst [V.str st]) fe;have u:upd H1 e (.lst [V.str st]) e=some (.lst ([st].map V.str)):=aa;have j:=s2 _ _ j;have ag:=s1.trans s2
  generalize upd H1 e (.lst [V.str st])=H2 at ag u j
  lk;refine k3 _ _ (am λD4 k4 _=>?_);refine%[Fz H l d st ss,%[_,e,0,none,none,none,none,[st],[],_,rfl,ag,u,j,%[Yr|λ_ h=>(nomatch h)],.nil|rfl]|?_];rintro m σ H3 ⟨e,k,o5,o6,o7,o8,F,B,U,rfl,G,u,j,ab,J,rfl⟩;have Rl:=ab.len;lk;refine%[#[0]|λp fp=>%[F.map V.str,ae.upd fp _ _ u,aa|bv (λh=>?_) λh=>?_]]
  .have s3:=ae.upd (o:= .lst []) fp;have u:=s3 _ _ u;have j:=s3 _ _ j;have G:=G.trans s3
   generalize upd H3 p (.lst [])=H4 at u j G ⊢
   refine⟨λa3 L=>∃m',m'<2*(62-B.length) +F.length.min 1/\Fz H l d st ss m' a3 L,λ_ _ h=>h,#[0],λY I=>ax λa6 hK=>?_⟩;have s4:=ae.upd (o:= .lst []) I;have ai:upd H4 Y (.lst []) Y=some (.lst ((([]:Gs Str).map (·.1)).map V.str)):=aa;have mod:Y≠d:=λc=>by rw[c,j]at I;cases I
   have a4:Y≠e:=λc=>by rw[c,u]at I;cases I
   have ed:e≠d:=λc=>by rw[c,j]at u;cases u
   have I:=G.free I;have u:=s4 _ _ u;have j:=s4 _ _ j;have G:=G.trans s4
   generalize upd H4 Y (.lst [])=H5 at ai u j G ⊢
   lk;refine .inl %[%[_|SqL.of (G _ _ hl)]|hK _ _ ?_];refine bw (xs:=ss.map λt=>V.ref t.1) (λi σ L=>(∃o6 o7 o8,σ=[!l,-st,!d,!e,some (.int ((k:Int) +1)),!Y,o6,o7,o8])/\ae H L/\L e=some (.lst (F.map V.str))/\∃new:Gs Str,L Y=some (.lst ((new.map (·.1)).map V.str))/\L d=some (.dK (VD ((B++new).map (·.1)) (qz k U new)))/\ReB ss (B++new)/\(∀r∈new,∃p z,p∈F/\r.2.2=[p,r.1,z])/\∀t∈ss.take i,∀x y,t.2[0]? =some x->t.2[1]? =some y->x∈F->y∈(B++new).map (·.1))
    %[%[_,_,_|rfl],G,u,[],ai,by rw[Zw];exact j,by rw[Zw];exact ab,λr O=>(nomatch O)|λt ht=>(nomatch ht)] (λi σ L _ h=>SqL.of (h.2.1 _ _ hl)) ?_ ?_
   .rintro i v σ L hv ⟨⟨o6,o7,o8,rfl⟩,G,u,new,hM,j,b,N,C⟩;rw[Zk]at hv;obtain⟨t,ht,rfl⟩:=map_eq_some_iff.mp hv;have al:=Z7 ht;obtain⟨an,x,y,z,et,_⟩:=a1 t al;rw[et]at an;have tk:ss.take (i+1)=ss.take i++[t]:=by rw[Yw,ht];rfl
    have a5:=b.len;rw[Z8]at a5;have go:∀M':Gs Str,(∀a∈(B++new).map (·.1),a∈(B++M').map (·.1))->(x∈F->y∈(B++M').map (·.1))->∀t∈ss.take (i+1),∀x y,t.2[0]? =some x->t.2[1]? =some y->x∈F->y∈(B++M').map (·.1):=λM' mono hy t' as x' y' e1 e2 a0=>by
     rw[tk]at as;rcases X4 as with q|q
     .exact mono y' (C t' q x' y' e1 e2 a0)
     .rw[X5 q,et]at e1 e2;obtain rfl:x=x':=Z9 e1;obtain rfl:y=y':=Z9 e2;exact hy a0
    refine%[_,SqT.of (G _ _ an),rfl,_,_,rfl,_,_,rfl,_,_,rfl,rfl|?_];show jQ _ _ _ _ [!l,-st,!d,!e,some (.int ((k:Int) +1)),!Y,-x,-y,-z] L;refine aB λD5 k5 _=>?_
    lk;refine%[_,.inl (SqL.of u),rfl,by simp[eD]|?_];rw[qo];refine bv (λM=>?_) λM=>?_
    .have M:=Zn M;refine%[_,dZ.k (k:=Sum.inr y) j|bv (λhv=>?_) λhv=>?_]
     .have hy:y∉(B++new).map (·.1):=λc=>by rw[jh c]at hv;cases hv
      refine%[_,kR.k (k:=Sum.inr y) j (by unfold VD;rw[Z5,Z5,Z8];exact aJ ⋯)|?_];rw[jp _ (jN hy)];have e1:VD ((B++new).map (·.1)) (qz k U new) ++[(Sum.inr y,V.int ((k:Int) +1))]=VD ((B++(new++[(y,t.1,[x,y,z])])).map (·.1)) (qz k U (new++[(y,t.1,[x,y,z])])):=by
       have e0:(B++(new++[(y,t.1,[x,y,z])])).map (·.1)=(B++new).map (·.1) ++[y]:=by simp
       have yn:y∈(new++[(y,t.1,[x,y,z])]).map (·.1):=by simp
       unfold VD;rw[e0,Zc (l₂:=[y])];rw[List.map_singleton,show qz k U (new++[(y,t.1,[x,y,z])]) y= .int ((k:Int) +1) by unfold qz;rw[if_pos yn];rfl];refine congrArg (λl=>l++[(Sum.inr y,V.int ((k:Int) +1))]) (Yh λa ha=>?_);have:a∈(new++[(y,t.1,[x,y,z])]).map (·.1)↔a∈new.map (·.1):=by
        rw[Zc,Yk];exact or_iff_left λc=>hy (by rw[<-show a=y from X5 c];exact ha)
       unfold qz;simp only[this]
      rw[e1];have u1:∀c o,c≠d->L c=some o->upd L d (.dK (VD ((B++(new++[(y,t.1,[x,y,z])])).map (·.1)) (qz k U (new++[(y,t.1,[x,y,z])])))) c=some o:=λc o h e=>by rw[aj h];exact e
      have ud:upd L d (.dK (VD ((B++(new++[(y,t.1,[x,y,z])])).map (·.1)) (qz k U (new++[(y,t.1,[x,y,z])])))) d=_:=aa;have v1:=ae.set (o:= .dK (VD ((B++(new++[(y,t.1,[x,y,z])])).map (·.1)) (qz k U (new++[(y,t.1,[x,y,z])])))) G fd;have hM:=u1 _ _ mod hM;have R:=b.snoc (p:=x) (y:=y) (z:=z) (a:=t.1) (by rw[<-et];exact al) hy;rw[Zd]at R;refine%[.inl %[_|SqL.of hM],_,hM,by rw[Z5,Z5];exact aJ ⋯|k5 _ _ %[%[_,_,_|rfl],ae.set v1 I,(aj a4.symm).trans (u1 _ _ ed u),new++[(y,t.1,[x,y,z])],by rw[aa,Zc,Zc];rfl,(aj mod.symm).trans ud,R,λr O=>?_|go _ (λa ha=>?_) λ_=>?_]]
      .rcases X4 O with q|q
       .exact N r q
       .rw[X5 q];exact%[x,z,M|rfl]
      .rw[<-Zd,Zc];exact Yl _ ha
      .rw[<-Zd,Zc];exact Ym _ Zl
     .have hy:y∈(B++new).map (·.1):=Decidable.byContradiction λc=>by rw[jN c]at hv;exact hv rfl
      exact k5 _ _ %[%[_,_,_|rfl],G,u,new,hM,j,b,N|go new (λ_ h=>h) λ_=>hy]
    .exact k5 _ _ %[%[_,_,_|rfl],G,u,new,hM,j,b,N|go new (λ_ h=>h) λc=>absurd (Ze c) M]
   .rintro σ L ⟨⟨o6,o7,o8,rfl⟩,G,u,new,hM,j,b,N,C⟩;rw[a2,Zm (Zh _)]at C;dsimp only;lk;have ln:=b.len;rw[Z8]at ln;have F1:F.length.min 1=1:=by
     cases F with
     | nil=>exact absurd h ∅
     | cons x F=>exact Nat.min_eq_right (by rw[Zq];lia)
    refine%[_,?_,Y,k+1,_,_,_,_,new.map (·.1),B++new,_,rfl,G,hM,j,b,J.step b.nd (λr O=>%[X7 %[_,(b.sub r (Ym _ O)).1|rfl]|N r O]) λx M y ⟨z,hz⟩=>?_|rfl]
    .rw[F1,Z8,Z5];cases new with
     | nil=>simp
     | cons a r=>
       rw[Zq]at ln ⊢;have:(r.length+1).min 1<=1:=Nat.min_le_right _ _
       lia
    .obtain⟨t,ht,et⟩:=X6 hz;exact C t ht x y (by rw[et];rfl) (by rw[et];rfl) M
  .refine k4 _ _ ?_;lk;have h:F=[]:=by
    cases F with
    | nil=>rfl
    | cons x F=>exact absurd (Ze ∅) h
   subst h;refine kk d _ (B.map (·.1)) U (G.trans (ae.upd fp)) (ae.upd fp _ _ j) ab.nd (by rw[Z5];lia) (λx=>%[λM=>?_|λr=>?_]) λx M=>%[(J.dst M).1,(J.dst M).2|λn g=>J.min M g]
   .obtain⟨d1,d2⟩:=J.dst M;obtain⟨n,e⟩:∃n,U x=n+1:=%[U x-1|⋯]
    rw[e]at d2;exact d2.rch
   .obtain⟨n,g⟩:=r.dst;exact J.stop g
def As(K:ZA):Sp:=λvs H Q _=>∃(a l:Addr) (m:Nat) (is:ZK) (b:ZB),vs=[.ref a,.ref l,.int m]/\SqL K H a (is.map V.int)/\H l=some (.lst (b.map V.str))/\1<=b.length/\b.length<=24/\m<=100/\
 ∀r c (ps:List (Addr×Str×Str)),ae H c->c r=some (.lst (ps.map λp=>V.ref p.1))->(∀p∈ps,c p.1=some (.tup [.str p.2.1,.str p.2.2])/\p.2.1∈b/\p.2.2∈b)->Q (.ref r) c
theorem sJ{K:ZA}(h:SqL K H a xs)(s:ae H b):SqL K b a xs:=h.imp_left λr=>r.imp (s _ _) λ⟨o,e⟩=>%[o|s _ _ e]
theorem qA{a:Type}(f:a->V){xs:List a}(h:1<=xs.length)(c:Int):∃x∈xs,atI (xs.map f) (c%xs.length)=some (f x):=by
 have b:0<=c%xs.length:=Int.emod_nonneg _ ⋯;have e:c%xs.length<xs.length:=Int.emod_lt_of_pos _ ⋯
 generalize c%xs.length=i at b e
 obtain⟨k,rfl⟩:=X1 b;have d:k<xs.length:=by lia
 exact%[xs[k],Y5 d|cu (by rw[Zk,Z4 d];rfl)]
theorem sK(T:Txt K mg):↥2 "_law_pairs" ["_law_script","_law_layers","_law_many"] (As K):=by
 refine T.bt.cal c8 (λH vs Q E h=>?_)
 .obtain⟨a,l,m,is,e,rfl,hs,U,Y,al,ab,kk⟩:=h;refine%[rfl|λf ai A outer s hr=>?_];refine%[_,%["JCI3F~+A0AEBCI4QBCX+A2BL5CZpj4AgAP1HaH%35UVA1BAP1HaHh3UVA1BUVA1BBBDI3HhHh3UVA1BUVA1BDG4",c8.nd|hr]|?_]
  show bh _ _ _ [!a,!l,some (.int m),none,none,none] H;refine am λD1 k1 _=>?_
  lk;refine%[a,is,2,rfl,hs,by decide|k1 _ _ (am λD2 k2 _=>?_)];lk;refine%[#[0]|λg t=>k2 _ _ (am λD3 k3 _=>ax λag hK=>?_)];have s1:=ae.upd (o:= .lst []) t;have v:upd H g (.lst []) g=some (.lst ((([]:List (Addr×Str×Str)).map λp=>V.ref p.1))):=aa
  generalize upd H g (.lst [])=H1 at s1 v
  lk;refine%[⋯,⋯|hK _ _ (cO (λi L n=>(∃(c:Int) (M:Option V),L=[!a,!l,some (.int m),some (.int c),!g,M])/\ae H n/\∃ps:List (Addr×Str×Str),n g=some (.lst (ps.map λp=>V.ref p.1))/\ps.length=i/\∀p∈ps,n p.1=some (.tup [.str p.2.1,.str p.2.2])/\p.2.1∈e/\p.2.2∈e)
   %[%[_,_|rfl],s1,[],v,rfl|λp hp=>(nomatch hp)] ?_ ?_)]
  .rintro i L n hi ⟨⟨c,M,rfl⟩,r,ps,b,B,d⟩;show bh _ _ _ [!a,!l,some (.int m),some (.int c),!g,some (.int (0+i))] n;refine am λD4 k4 _=>?_
   have j:=r _ _ U;have C:(e.map V.str).length=e.length:=Z5 _;lk;obtain⟨x,hx,ex⟩:=qA V.str Y (c+i);obtain⟨y,hy,ey⟩:=qA V.str Y (c/(e.length:Int));refine%[.inl %[_|SqL.of b],e.length,.inl %[_,SqL.of j|C.symm],⋯,_,SqL.of j,_,ex,e.length,.inl %[_,SqL.of j|C.symm],%[⋯|⋯],e.length,.inl %[_,SqL.of j|C.symm],⋯,_,SqL.of j,_,ey,#[2]|λp fp=>?_];have N:=ae.upd (o:= .tup [.str x,.str y]) fp;have gp:upd n p (.tup [.str x,.str y]) p=_:=aa;have b:=N _ _ b;have d:∀q∈ps,upd n p (.tup [.str x,.str y]) q.1=some (.tup [.str q.2.1,.str q.2.2])/\q.2.1∈e/\q.2.2∈e:=λq J=>%[N _ _ (d q J).1|(d q J).2]
   have r:=r.trans N
   generalize upd n p (.tup [.str x,.str y])=O at gp b d r ⊢
   have keep:=jK (ys:=(ps.map λp=>V.ref p.1) ++[V.ref p]) b;refine%[_,b,by rw[Z5];exact aJ ⋯|k4 _ _ (aB λD5 k5 _=>?_)];have u:=ae.set (o:= .lst ((ps.map λp=>V.ref p.1) ++[V.ref p])) r t;have G:upd O g (.lst ((ps.map λp=>V.ref p.1) ++[V.ref p])) g=some (.lst ((ps++[(p,x,y)]).map λp=>V.ref p.1)):=by rw[aa,Zc];rfl
   have all:∀q∈ps++[(p,x,y)],upd O g (.lst ((ps.map λp=>V.ref p.1) ++[V.ref p])) q.1=some (.tup [.str q.2.1,.str q.2.2])/\q.2.1∈e/\q.2.2∈e:=λq J=>by
    rcases X4 J with z|z
    .exact%[keep _ _ (d q z).1|(d q z).2]
    .rw[X5 z];exact%[keep _ _ gp,hx|hy]
   generalize upd O g (.lst ((ps.map λp=>V.ref p.1) ++[V.ref p]))=H3 at u G all
   lk;have I:=u _ _ U;exact%[e.length,.inl %[_,SqL.of I|C.symm],%[⋯|⋯],e.length,.inl %[_,SqL.of I|C.symm],%[⋯|⋯]|k5 _ _ %[%[_,_|rfl],u,_,G,by rw[Z8,B];rfl|all]]
  .rintro L n ⟨⟨c,M,rfl⟩,r,ps,b,B,d⟩;refine k3 _ _ ?_;lk;exact kk g n ps r b d
theorem cG{S:Str->Str->Prop}{d:ZB}(ws:∀a b,S a b->a∈d/\b∈d){z:Str}(f:z∈d):∃m,bP S z m:=by
 have:∀n z,z∈d->vI d z<n->∃m,bP S z m:=λn=>by
  induction n with
  | zero=>exact λz _ h=>absurd h (Ys _)
  | succ n g=>
    intro z f h;by_cases q:∃y,dg S z y/\ba y z=true
    .obtain⟨y,c,e⟩:=q;have l:=sF (c.within ws f) e;obtain⟨m,i⟩:=g y (c.within ws f) ⋯;exact%[m|dD i c.symm]
    .exact%[z,.refl z|λy c=>eq_false_iff.mpr λe=>q %[y,c|e]]
 exact this _ z f (Yg _)
section
variable{S S':Str->Str->Prop}{ks ks' lk lk':List ZB}{ls:ZB}
theorem qB(c:aY S' ks' lk')(h:[a,b,z]∈ks')(d:bP S' a u)(e:bP S' b v):Ed lk' u v:=%[z|(c.mem _).mpr %[a,b,z,u,v,h,d,e|rfl]]
theorem mT(f:aY S ks lk)(c:aY S' ks' lk')(d:∀a b,S a b->S' a b)(g:∀k∈ks,k∈ks')(e:Ed lk a b)(h:bP S' a u)(i:bP S' b v):Ed lk' u v:=by
 obtain⟨z,j⟩:=e;obtain⟨x,y,o,p,q,l,m,n,e⟩:=(f.mem _).mp j;simp only[List.cons.injEq,and_true]at e;obtain⟨rfl,rfl,rfl⟩:=e;exact qB c (g _ l) (dD h (m.1.mono d).symm) (dD i (n.1.mono d).symm)
theorem oU(c:∀k∈lk,cE ls k){a b:Str}(e:Ed lk a b):a∈ls/\b∈ls:=by
 obtain⟨z,d⟩:=e;obtain⟨x,y,u,e,f,g⟩:=c _ d
 grind
theorem mU(c:∀k∈lk,cE ls k){a b:Str}(r:Rch lk a b):a∈ls/\b∈ls:=by
 induction r with
 | one e=>exact oU c e
 | more _ e d=>exact%[d.1|(oU c e).2]
theorem oV(g:aY S ks lk)(c:aY S' ks' lk')(h:∀a b,S a b->S' a b)(i:∀k∈ks,k∈ks')(l:∀k∈lk,cE ls k)(ws:∀a b,S' a b->a∈ls/\b∈ls){a b:Str}(r:Rch lk a b):∀{u v:Str},bP S' a u->bP S' b v->Rch lk' u v:=by
 induction r with
 | one e=>exact λd f=> .one (mT g c h i e d f)
 | more r e n=>
   intro u v d f;obtain⟨m,j⟩:=cG ws (oU l e).1;exact .more (n d j) (mT g c h i e j f)
end
def kP(e:ZB)(ks:List ZB)(qs ex:ZM):Prop:=∀c d,(∀k∈ks,k∈c)->(∀k∈db (qs++ex) (qs++ex).length,k∈c)->(∀a b,bu (qs++ex) a b->a∈e/\b∈e)->aY (bu (qs++ex)) c d->∃x,Rch d x x
theorem qC(h:qs[j]? =some (p,[.str "later",.str a,.str b])):[a,b,BV j]∈db qs qs.length:=
 mem_filterMap.mpr %[j,mem_range.mpr (X3 h).1|h▸if_pos (c:=Str.ofString "later"=Str.ofString _) (e:=none) rfl]
theorem EF(h:k∈db qs qs.length):k∈db (qs++ex) (qs++ex).length:=by
 obtain⟨j,a,e⟩:=mem_filterMap.mp h;have a:=mem_range.mp a;exact mem_filterMap.mpr %[j,mem_range.mpr (by rw[Z8];lia)|(Y3 a)▸e]
theorem At(qs:List a)(x:a)(r:List a):(qs++x::r)[qs.length]? =some x:=by simp
theorem qD(a b:Str)(h:bu qs a b):bu (qs++ex) a b:=by
 obtain⟨q,c,e⟩:=h;exact%[q,Yl _ c|e]
theorem Au{c:ZB}{ks:List _}{qs:List _}{p q:Addr}{a b:Str}(h:a∈c)(i:b∈c):kP c ks qs [(p,[.str "later",.str a,.str b]),(q,[.str "later",.str b,.str a])]:=λl m _ d ws e=>by
 obtain⟨u,f⟩:=cG ws h;obtain⟨v,g⟩:=cG ws i;have n:=qB e (d _ (qC (j:=qs.length+1) (p:=q) ∅)) g f;exact%[u|.more (.one (qB e (d _ (qC (At qs _ _))) f g)) n]
theorem uV{e:ZB}{ks lk:List _}{qs:List _}{p:Addr}{a b:Str}(h:aY (bu qs) ks lk)(d:∀k∈lk,cE e k)(r:Rch lk a b):kP e ks qs [(p,[.str "later",.str b,.str a])]:=λi j l m ws c=>by
 obtain⟨u,f⟩:=cG ws (mU d r).1;obtain⟨v,g⟩:=cG ws (mU d r).2;exact%[u|.more (oV h c qD l d ws r f g) (qB c (m _ (qC (At qs _ _))) g f)]
theorem xJ{d:ZB}{ks lk:List _}{qs:List _}{p:Addr}{a b:Str}(g:aY (bu qs) ks lk)(h:∀k∈lk,cE d k)(e:Ed lk a b):kP d ks qs [(p,[.str "same",.str b,.str a])]:=λi j l m ws c=>by
 obtain⟨u,f⟩:=cG ws (oU h e).1;exact%[u|.one (mT g c qD l e f (dD f (dg.one (.inr %[_,Ym _ Zl|rfl]))))]
theorem EG{a b p q:Prop}[Decidable a][Decidable b](h:p)(k: ¬ b->q):if a then p else if b then p else q:=bv (λ_=>h) λ_=>bv (λ_=>h) k
def B9(mg:ZC):Sp:=λvs H Q _=>∃(g c e:Addr) (d:Int) (qs:ZM) (b N:ZB) (ts:ZG),vs=[.ref g,.ref c,.ref e,.int d]/\gQ mg H g qs b ts/\H c=some (.lst (qs.map λq=>V.ref q.1))/\H e=some (.lst (N.map V.str))/\(∀x∈N,x∈b)/\N.Nodup/\N.length<=24/\qs.length<=12/\
 ∀a lk,ae H a->aY (bu qs) (ts.map (·.2)) lk->(∀x,Rch lk x x->Q (.ref c) a)/\((∀x,¬ Rch lk x x)->Q .non a/\∀l ex,H l=none->a l=some (.lst ((qs++ex).map λq=>V.ref q.1))->1<=ex.length->ex.length<=2->cr a b ex->kP b (ts.map (·.2)) qs ex->Q (.ref l) a)
theorem jj(T:Txt K mg):↥7 "_law_torn_sayings" ["_law_ground_here","_law_sayings","_law_layers","_law_number"] (B9 mg):=by
 refine T.bu.cal aV (λH vs Q E h=>?_)
 .obtain⟨g,l2,l3,M,qs,U,N,ts,rfl,Y,h2,h3,hN,nN,bl,bm,kk⟩:=h;refine%[rfl|λf bf A outer s hr=>?_];obtain⟨c2,c3,c4,gr⟩:=Y.gr;have ll:=Y.ll;have nl:(N.map V.str).length=N.length:=Z5 _;refine%[_,%["JC~A4lmF~LA0BCNK}F]'A0ByDG1OCNK:UVA2BEDGyOCNK~,S4QBDGH%1QAgARAP2EAP2EBAgARAP2EAP2EBBOC~IPS4HaS3UVAS4BeML5M~U6lmML7fCNKbHaHhS3UVAS4BEEDGH%1QAgARAS6A5BBOCI8F~.AS4A5BC~C9mli?1T=](A8Bc0?2~DYoKbHaHhS2UVAS3BEEsKb0S10DGH%1QAgARAP9HaHhHhS3UVAS4BEUVA9BA5BB",aV.nd,(show bZ (af cg) ["_law_ground_here","_law_sayings","_law_layers","_law_number","_law_some","_law_later","_law_earlier","_law_source","_law_steps_here","_law_far"] _ ["_law_name","_law_earlier","_law_number","_law_some"] [(1,6),(2,3),(3,4)]=true from by decide +kernel),(show(["_law_name","_law_earlier","_law_number","_law_some"]:ZB).Nodup from by decide +kernel)|hr]|?_]
  show bh _ _ _ [!g,!l2,!l3,some (.int M),none,none,none,none,none,none] H;refine am λD1 k1 _=>?_
  lk;refine%[g,c2,c3,c4,qs,U,ts,rfl,gr,Y.nd,Y.so,⋯,Y.tl,Y.t3|λm H1 ss s1 fm hm tu lk sl=>k1 _ _ (am λD2 k2 r2=>?_)];lk;refine%[g,qs,U,ts,rfl,Y.up s1|λH2 bt s2 a6=>?_];have e:=a6.one lk;subst e;have ab:=s1.trans s2;refine%[λnr=>?_|λr x rx=>?_]
  .dsimp only;rw[if_neg ∅];refine k2 _ _ (am λD3 k3 r3=>?_);lk;refine%[N.length,.inl %[_,SqL.of (ab _ _ h3)|nl.symm]|bv (λ_=>r3 _ _ ((kk H2 _ ab lk).2 nr).1) λc=>k3 _ _ (am λD4 k4 r4=>?_)];lk;have put:∀{B:Hp} {I:Addr} {ex:ZM} {R:VK},(∀v O,Q v O->R v O)->ae H B->B I=some (.lst (ex.map λq=>V.ref q.1))->1<=ex.length->ex.length<=2->cr B U ex->kP U (ts.map (·.2)) qs ex->∃x,B l2=some (.lst x)/\∃x1,B I=some (.lst x1)/\x.length+x1.length<=sizeLine/\∀nl,B nl=none->R (.ref nl) (upd B nl (.lst (x++x1))):=λ{B I ex R} hR s a7 e1 e2 sa te=>
    %[_,s _ _ h2,_,a7,by rw[Z5,Z5,PySem.sizeLine_eq];lia|λnl as=>hR _ _ (((kk _ _ (s.trans (ae.upd as)) lk).2 nr).2 nl ex (s.free as) (by rw[aa,Zc]) e1 e2 (sa.up (ae.upd as)) te)]
   have add:∀{B:Hp} {R:VK} {wd a b:Str},(∀v O,Q v O->R v O)->ae H B->(wd="later"\/wd="same")->a∈U->b∈U->a≠b->(∀p,kP U (ts.map (·.2)) qs [(p,[.str wd,.str a,.str b])])->∀p,B p=none->[V.ref p].length<=sizeLine/\∀I,upd B p (.tup [.str wd,.str a,.str b]) I=none->∃x,upd (upd B p (.tup [.str wd,.str a,.str b])) I (.lst [V.ref p]) l2=some (.lst x)/\∃x1,upd (upd B p (.tup [.str wd,.str a,.str b])) I (.lst [V.ref p]) I=some (.lst x1)/\x.length+x1.length<=sizeLine/\∀nl,upd (upd B p (.tup [.str wd,.str a,.str b])) I (.lst [V.ref p]) nl=none->R (.ref nl) (upd (upd (upd B p (.tup [.str wd,.str a,.str b])) I (.lst [V.ref p])) nl (.lst (x++x1))):=λ{B R wd a b} hR s hw ha hb ne te p fp=>%[#[1]|λI C=>put (ex:=[(p,[.str wd,.str a,.str b])]) hR (s.trans ((ae.upd fp).trans (ae.upd C))) aa (Zh 1) (show 1<=2 by decide) (λq hq=>by
    rw[X5 hq];exact%[ae.upd C _ _ aa|.inl %[wd,a,b,rfl,hw,ha,hb|ne]]) (te p)]
   have n2:2<=N.length:=by
    have: ¬ ((N.length:Int)<2):=λz=>c (Ze z)
    lia
   refine%[#[0]|λp fp=>%[m,p,_,rfl,rfl,ae.upd fp _ _ (s2 _ _ hm),aa|?_]];have s3:=ab.trans (ae.upd (o:= .lst []) fp);have G:=ae.upd (o:= .lst []) fp _ _ (s2 _ _ hm);have a0:cF (upd H2 p (.lst [])) U ss:=(iz tu (Y.ties lk)).up (s2.trans (ae.upd fp))
   generalize upd H2 p (.lst [])=H3 at s3 G a0 ⊢
   have ag:∀(i:Nat) (h:i<N.length),atI (N.map V.str) i=some (.str N[i]):=λi h=>cu (by rw[Zk,Z4 h];rfl)
   have ai:=s3 _ _ h3;refine%[_,rfl|bv (λe=>?_) λe=>k4 _ _ (am λD5 k5 r5=>?_)]
   .refine%[_,SqL.of ai,_,ag 0 ⋯,_,SqL.of ai,_,ag 1 ⋯,#[3]|λq1 f1=>%[_,SqL.of (ae.upd f1 _ _ ai),_,ag 1 ⋯,_,SqL.of (ae.upd f1 _ _ ai),_,ag 0 ⋯,#[3]|λq2 f2=>%[#[2]|λI C=>?_]]];have ne:N[0]≠N[1]:=λz=>absurd (gY nN (Z4 (show 0<N.length by lia)) ((Z4 (show 1<N.length by lia)).trans (congrArg some z.symm))) (by decide)
    have i0:=hN _ (Y5 (show 0<N.length by lia));have i1:=hN _ (Y5 (show 1<N.length by lia))
    generalize N[0]=a at ne i0 f2 C ⊢
    generalize N[1]=b at ne i1 f2 C ⊢
    have g1:upd H3 q1 (.tup [V.str "later",V.str a,V.str b]) q1=_:=aa;have t1:=s3.trans (ae.upd (o:= .tup [V.str "later",V.str a,V.str b]) f1)
    generalize upd H3 q1 (.tup [V.str "later",V.str a,V.str b])=Ha at g1 t1 f2 C ⊢
    have g2:upd Ha q2 (.tup [V.str "later",V.str b,V.str a]) q2=_:=aa;have t2:=ae.upd (o:= .tup [V.str "later",V.str b,V.str a]) f2
    generalize upd Ha q2 (.tup [V.str "later",V.str b,V.str a])=Hb at g2 t2 C ⊢
    have t3:=ae.upd (o:= .lst [V.ref q1,V.ref q2]) C;refine put (ex:=[(q1,[.str "later",.str a,.str b]),(q2,[.str "later",.str b,.str a])]) r4 (t1.trans (t2.trans t3)) aa (show 1<=2 by decide) (Zh 2) (λq hq=>?_) (Au i0 i1);rcases mem_cons.mp hq with rfl|hq
    .exact%[t3 _ _ (t2 _ _ g1)|.inl %[_,a,b,rfl,.inl rfl,i0,i1|ne]]
    .rw[X5 hq];exact%[t3 _ _ g2|.inl %[_,b,a,rfl,.inl rfl,i1,i0|ne.symm]]
   .lk;have al:(ss.map λt=>V.ref t.1).length=ss.length:=Z5 _;have a8:1<=ss.length:=by
     cases ss with
     | nil=>exact absurd rfl e
     | cons t r=>rw[Zq];lia
    obtain⟨t,ht,et⟩:=qA (λt:Addr×ZB=>V.ref t.1) a8 M;obtain⟨a1,x,y,z,ek,_⟩:=a0 t ht;rw[ek]at a1;refine%[ss.length,.inl %[_,SqL.of G|al.symm],⋯,_,SqL.of G,_,et,_,rfl,_,SqT.of a1,rfl,_,_,rfl,_,_,rfl,_,_,rfl,rfl|k5 _ _ (am λD6 k6 r6=>?_)];have ed:Ed (ss.map (·.2)) x y:=%[z|by rw[<-ek];exact X7 %[t,ht|rfl]]
    have ti:=Y.ties lk;lk;refine%[ss.length,.inl %[_,SqL.of G|al.symm]|?_];have xy:x≠y:=λc=>nr x (.one (by rw[<-c]at ed;exact ed))
    refine%[%[⋯|⋯],by decide|bv (λ_=>%[#[3]|add r6 s3 (.inr rfl) (oU ti ed).2 (oU ti ed).1 xy.symm λp=>xJ lk ti ed]) λ_=>k6 _ _ (am λD7 k7 r7=>?_)];lk;refine%[m,x,U,ss,rfl,G,a0,sl|λd H4 R f s4 hd nd Rl hR hf=>k7 _ _ (am λD8 k8 r8=>aO λbb hK=>?_)];lk;refine%[_,hd,R,by unfold VD;rw[Yj];rfl,⋯|λl L fl pm _=> .inl %[%[_|SqL.of aa]|hK _ _ λF hF=>?_]];have s5:=s4.trans (ae.upd (o:= .lst (L.map V.str)) fl);have an:upd H4 l (.lst (L.map V.str)) l=_:=aa
    generalize upd H4 l (.lst (L.map V.str))=H5 at s5 an hF ⊢
    have rl:=pm.length_eq;refine bL (J:=Itl K l) (n:=L.length) (D:=F) (λj vs σ O=>(∃o1,σ=[o1,-y,some (.int M),!m])/\ae H5 O/\O F=some (.lst vs)/\∃zs:ZB,vs=zs.map V.str/\zs.length<=j/\(∀u∈zs,u∈R)/\(y∈L.take j->y∈zs))
     %[%[none|rfl],ae.upd hF,aa,[],rfl,Zh _,λ_ h=>(nomatch h)|λh=>(nomatch h)] (λj _ _ O hj ⟨_,sm,_⟩=>%[_,V.str L[j],SqL.of (sm _ _ an)|by simp[hj]]) (λ_ _ O ⟨_,sm,_⟩=>%[_,SqL.of (sm _ _ an)|by simp]) ?_ ?_
    .rintro j vs σ O hj ⟨⟨o1,rfl⟩,sm,a2,zs,rfl,zl,zR,zy⟩ v H6 ⟨e2,hx⟩;subst e2;have a3:=hx _ (SqL.of (sm _ _ an));rw[Zk,Z4 hj]at a3;obtain rfl:v=V.str L[j]:=(Z9 a3).symm;lk;have tk:L.take (j+1)=L.take j++[L[j]]:=by rw[Yw,Z4 hj];rfl
     have inR:L[j]∈R:=pm.mem_iff.mp (Y5 hj);refine%[ss.length,.inl %[_,SqL.of (sm _ _ (s5 _ _ G))|al.symm],%[⋯|⋯],by decide|EG (CK.mk hj a2 (by rw[Z5];exact aJ ⋯) %[%[_|rfl],ae.set sm hF,aa,zs++[L[j]],by rw[Zc];rfl,by rw[Z8];exact Nat.succ_le_succ zl,λu hu=>?_|λh=>?_]) λc=>CN.mk hj %[%[_|rfl],sm,a2,zs,rfl,⋯,zR|λh=>?_]]
     .rcases X4 hu with q|q
      .exact zR u q
      .rw[X5 q];exact inR
     .rw[tk]at h;rcases X4 h with q|q
      .exact Yl _ (zy q)
      .exact Ym _ q
     .rw[tk]at h;rcases X4 h with q|q
      .exact zy q
      .exact absurd (Ze (X5 q).symm) c
    rintro vs σ H6 ⟨_,s6,a4,zs,rfl,zl,zR,zy⟩;rw[Zm (Zh _)]at zy;refine k8 _ _ ?_;have a5:=s5.trans s6;have a9:=a5 _ _ G;have z1:1<=zs.length:=List.length_pos_of_mem (zy (pm.mem_iff.mpr ((hR y).mpr (.one ed))));obtain⟨u,hu,eu⟩:=qA V.str z1 (M/(ss.length:Int)/3);have ru:=(hR u).mp (zR u hu);lk;have zm:(zs.map V.str).length=zs.length:=Z5 _;exact%[ss.length,.inl %[_,SqL.of a9|al.symm],%[⋯|⋯],%[by decide|by decide],zs.length,.inl %[_,SqL.of a4|zm.symm],⋯,_,SqL.of a4,_,eu,#[3]|add (λ_ _ h=>h) (s3.trans a5) (.inl rfl) (mU ti ru).2 (mU ti ru).1 (λc=>nr x (by rw[c]at ru;exact ru)) λp=>uV lk ti ru]
  .dsimp only;rw[if_pos ∅];exact r2 _ _ ((kk H2 _ ab lk).1 x rx)
theorem mV{b:Str}:∀{us:List _} {a:Str},Wal us a b->∀i,i<us.length->∃p q z,us[i]? =some [p,q,z]/\(i=0->p=a)/\(∀k,us[i+1]? =some k->k[0]? =some q)/\(i+1=us.length->q=b)
 |[],_,_,_,h=>absurd h (Ys _)
 | k::r,a,⟨c,z,e,w⟩,0,_=>by
   refine%[a,c,z,by rw[e];rfl,λ_=>rfl,λm h'=>?_|λh'=>?_]
   .match r,w,h' with
    | n::o,⟨s,t,d,_⟩,h'=>
      rw[<-Z9 (h'),d];rfl
   .match r,w,h' with
    |[],w,_=>exact w
    | _::_,_,h'=>exact absurd h' ∅
 | k::r,a,⟨c,z,e,w⟩,i+1,h=>by
   obtain⟨p,q,f,g,_,j,l⟩:=mV w i (by simpa using h);exact%[p,q,f,g,λh=>absurd h ⋯,j|λh=>l (by simpa using h)]
theorem xK{ws:ZG}{x:Str}(w:Wal (ws.map (·.2)) x x){k:Nat}(g:k<ws.length):∃t∈ws,∃p q z b d,ws[k].2=[p,q,z]/\t.2=[b,p,d]/\atI (ws.map λt=>V.ref t.1) ((k:Int) -1)=some (.ref t.1):=by
 have u:(ws.map (·.2)).length=ws.length:=Z5 _;have a:∀(i:Nat) (h:i<ws.length) l,(ws.map (·.2))[i]? =some l->ws[i].2=l:=λi h l e=>by
  rw[Zk,Z4 h]at e;exact Z9 e
 obtain⟨p,q,z,j,n,_,_⟩:=mV w k ⋯;have m:=a k g _ j;cases k with
 | zero=>
   obtain⟨b,o,d,g1,_,_,r⟩:=mV w (ws.length-1) ⋯;have f:=a (ws.length-1) ⋯ _ g1;rw[r ⋯,<-n rfl]at f;refine%[_,Y5 (show ws.length-1<ws.length by lia),p,q,z,b,d,m,f|?_];obtain⟨ys,y,rfl⟩:∃ys y,ws=ys++[y]:=%[ws.dropLast,ws.getLast (by intro c;rw[c]at g;exact absurd g (Ys _))|(List.dropLast_concat_getLast _).symm]
   rw[Zc,show((0:Nat):Int) -1= -1 from rfl,List.map_singleton,lE];simp
 | succ k=>
   obtain⟨b,o,d,g1,_,g3,_⟩:=mV w k ⋯;have f:=a k ⋯ _ g1;have s:=g3 _ j;rw[<-Z9 s]at f;refine%[_,Y5 ⋯,p,q,z,b,d,m,f|?_];rw[show((k+1:Nat):Int) -1=k by lia];exact cu (by rw[Zk,Z4 ⋯];rfl)
def xM:Sp:=λvs H Q _=>∃l m b ws ss x,vs=[.ref l,.ref m]/\H l=some (.lst (nJ ws))/\aL H ws/\ws.length<=100/\H m=some (.lst (ss.map λt=>V.ref t.1))/\cF H b ss/\ss.length<=62/\Sho (ss.map (·.2)) x x (ws.map (·.2))/\(∀y n,Dst (ss.map (·.2)) y (n+1) y->ws.length<=n+1)/\∀a,ae H a->Q (.bl true) a
theorem nK(T:Txt K mg):↥2 "_law_is_ring" ["_law_found","_law_some"] xM:=by
 refine T.bv.cal eP (λH vs Q E h=>?_)
 .obtain⟨l,m,ns,ws,ss,x,rfl,O,tw,a4,hm,U,as,a,mn,kk⟩:=h;refine%[rfl|λf a5 A outer s hr=>?_];have wl:(nJ ws).length=ws.length:=Z5 _;have sl:(ss.map λt=>V.ref t.1).length=ss.length:=Z5 _;have wp:0<ws.length:=by have:=a.pos;rwa[Z5]at this
  refine%[_,%["JCNYokd!$A0A?1BsK~,0QBDGnOCX+AUVA0BBL2DNYokd!$AP02A?2BoK])P02S1sKrWP02EWP0H[2EEDGnOC~C3mli?3TS1c0?4x]*~RF~.AS1AW0EBAW0EAEBDGqbUVA0B~M]+A3B",eP.nd,(blE (v:= .ty "list") rfl T.a5 boot_list rfl rfl rfl),(blE (v:= .ty "tuple") rfl T.ag boot_tuple rfl rfl rfl),(show bZ (af dH) ["_law_found","_law_some","_law_k","_law_sizes"] _ ["_law_link","_law_some"] [(1,1)]=true from by decide +kernel),(show(["_law_link","_law_some"]:ZB).Nodup from by decide +kernel)|hr]|?_]
  show bh _ _ _ [!l,!m,none,none] H;refine am λD1 k1 _=>?_
  lk;refine%[.type "list",.lst O,true,by rfl|qQ %[#[0]|λp fp=>%[l,p,_,rfl,rfl,ae.upd fp _ _ O,aa,_,rfl|bv (λe=>?_) λ_=>k1 _ _ (am λD2 k2 _=>ax λY hK=>?_)]]]
  .rw[Zn e]at wl;exact absurd wl (by rw[length_nil];lia)
  have r:=ae.upd (o:= .lst []) fp
  generalize upd H p (.lst [])=H1 at r
  lk;refine%[ws.length,.inl %[_,SqL.of (r _ _ O)|wl.symm],⋯,⋯|hK _ _ ?_];rw[Int.toNat_natCast];refine cO (λi C H'=>(∃o2,C=[!l,!m,o2,none])/\H'=H1) %[%[_|rfl]|rfl] ?_ ?_
  .rintro i C H' hi ⟨⟨o2,rfl⟩,rfl⟩;show jQ _ _ _ _ [!l,!m,some (.int (0+i)),none] H';rw[Int.zero_add];refine aB λD3 k3 _=>?_
   lk;obtain⟨t',a0,p,q,z,p',z',e1,e2,ea⟩:=xK a.wal hi;have u:=r _ _ O;have b:=Y5 hi;have ai:atI (nJ ws) (i:Int)=some (.ref ws[i].1):=cu (by unfold nJ;rw[Zk,Z4 hi];rfl);have t1:=r _ _ (tw _ b).2;have t2:=r _ _ (tw _ a0).2;have ab:=a.sub _ (X7 %[_,b|rfl]);rw[e1]at t1 ab;rw[e2]at t2;refine%[_,SqL.of u,_,ai,.type "tuple",.tup t1,true,by rfl|qQ %[_,SqL.of u,_,ai,_,_,_,ss,rfl,rfl,t1,r _ _ hm,λt L=>r _ _ (U t L).1,ab,_,rfl|qQ %[_,SqL.of u,_,ai,_,rfl,_,SqT.of t1,_,rfl,_,SqL.of u,_,ea,_,rfl,_,SqT.of t2,_,rfl|?_]]];exact%[rfl|by rw[if_neg ∅];exact k3 _ _ %[%[_|rfl]|rfl]]
  .rintro C H' ⟨⟨o2,rfl⟩,rfl⟩;refine k2 _ _ (am λD4 k4 _=>aO λY hK=>?_);lk;refine .inl %[%[_|SqL.of (r _ _ hm)]|hK _ _ λF hF=>?_];have B:=r _ _ hm;have ag:=U.up r;refine bL (J:=Itl K m) (n:=ss.length) (D:=F) (λj vs C M=>(∃o1,C=[o1,!m])/\ae H' M/\M F=some (.lst vs)/\∃is:ZK,vs=is.map V.int/\is.length=j/\(∀v∈is,(ws.length:Int)<=v)/\∀t∈ss.take j,t.2[0]? =some x->(ws.length:Int)∈is)
    %[%[none|rfl],ae.upd hF,aa,[],rfl,rfl,λ_ h=>(nomatch h)|λ_ h=>(nomatch h)] (λj _ _ M N ⟨_,g,_⟩=>%[_,V.ref ss[j].1,SqL.of (g _ _ B)|by simp[N]]) (λ_ _ M ⟨_,g,_⟩=>%[_,SqL.of (g _ _ B)|by simp]) ?_ ?_
   .rintro j vs C M N ⟨⟨o1,rfl⟩,g,a1,is,rfl,il,G,b⟩ v H3 ⟨e2,hx⟩;subst e2;have al:=hx _ (SqL.of (g _ _ B));rw[Zk,Z4 N]at al;obtain rfl:v=V.ref ss[j].1:=(Z9 al).symm;obtain⟨I,y,y2,z,ek,_⟩:=ag _ (Y5 N);rw[ek]at I;lk;refine%[_,SqT.of (g _ _ I),_,rfl,m,y,ns,ss,rfl,g _ _ B,ag.up g,as|λd H4 R f s4 hd _ _ hR hf=>%[.inr (.inr (.inl (.inl %[_|hd]))),_,SqT.of (s4 _ _ (g _ _ I)),_,rfl,d,rfl,Sum.inr y,rfl,_,hd|?_]];obtain⟨c,ec,a2,xc⟩:∃c:Int,(cp (VD R λx=>V.int (f x)) (Sum.inr y)).getD (.int 999)= .int c/\(ws.length:Int)<=c/\(y=x->c=ws.length):=by
     by_cases c:y∈R
     .obtain⟨f1,f2,f3⟩:=hf y c;obtain⟨n,en⟩:∃n,f y=n+1:=%[f y-1|⋯]
      rw[en]at f2;have:=mn y n f2;refine%[f y,by rw[jh c];rfl,⋯|λe=>?_];obtain⟨n',e',d'⟩:=a.dst;rw[Z5]at e';rw[<-e]at d';have:=f3 n' d'
      lia
     .exact%[999,by rw[jN c];rfl,⋯|λe=>absurd ((hR y).mpr (by rw[e];exact a.rch)) c]
    rw[ec];refine CK.mk N (s4 _ _ a1) (by rw[Z5,il];exact aJ ⋯) %[%[_|rfl],ae.set (g.trans s4) hF,aa,is++[c],by rw[Zc];rfl,by rw[Z8,il];rfl,λv hv=>?_|λt L et=>?_]
    .rcases X4 hv with q|q
     .exact G v q
     .rw[X5 q];exact a2
    .rw[Yw,Z4 N]at L;rcases X4 L with q|q
     .exact Yl _ (b t q et)
     .rw[show t=ss[j]from X5 q,ek]at et;rw[xc (Z9 et)];exact Ym _ Zl
   rintro vs C M ⟨_,g,a3,is,rfl,il,G,b⟩;rw[Zm (Zh _)]at b;refine k4 _ _ ?_;lk;obtain⟨p,q,z,h1,h2,_⟩:=mV a.wal 0 a.pos;rw[h2 rfl]at h1;obtain⟨t,L,et⟩:=X6 (a.sub _ (Z7 h1));have an:=b t L (by rw[et];rfl);refine%[ws.length,.inl %[_,SqL.of (g _ _ (r _ _ O))|wl.symm],is,SqL.of a3,List.length_pos_of_mem an|λv hv mv=>?_];have:=mv _ an;have:=G v hv;rw[show(ws.length:Int)=v by lia,Ze rfl];exact kk _ (r.trans g)
def uW(mg:ZC):Sp:=λvs H Q _=>∃(way:Int) (g m:Addr) (v u:V) (qs:ZM) (b c:ZB) (ts ss:ZG),vs=[.int way,.ref g,v,u,.ref m]/\gQ mg H g qs b ts/\aY (bu qs) (ts.map (·.2)) (ss.map (·.2))/\(∃x,Rch (ss.map (·.2)) x x)/\H m=some (.lst (ss.map λt=>V.ref t.1))/\cF H c ss/\ss.length<=62/\∀a,ae H a->Q (.bl true) a
theorem nM(T:Txt K mg):↥11 "_law_refused" ["_law_way","_law_ground_here","_law_one","_law_other","_law_some"] (uW mg):=by
 have iA:=iA (P:=P) (w:=w) (base:=base) T;refine T.bz.cal c9 (λH vs Q E h=>?_)
 .obtain⟨way,g,m,v,u,qs,N,O,ts,ss,rfl,hg,L,hx,hm,la,sl,kk⟩:=h;refine%[rfl|λf ab A outer s J=>?_]
  let XE:L2.St->XK:=λr c d q=>r=[some (.int way),!g,some v,some u,!m,some .non,none]/\c= .ref (aF mg "Torn")/\∃b l ws x,d=some b/\ae H q/\H b=none/\H l=none/\b≠l/\uU q (ss.map (·.2)) b l ws x
  refine%[_,%["JCI5yC?1CNYokdF],A5BskdF].A~/5A4BDGnOCZ]/]:~/5DGn",c9.nd,(tryV (i:=6) XE rfl rfl c9.nd rfl rfl rfl rfl T.bB T.bZ rfl (λ_=>
   (ao (bO rfl (Fs w6 iA J rfl rfl rfl rfl #[↑0,↑1,↑2,↑3]))))
   (λ_=>(ao (aI 5 c9.nd rfl ↑6))))|J]|?_]
  show bh _ _ _ [some (.int way),!g,some v,some u,!m,none,none] H;refine am λD1 k1 r1=>?_
  lk;refine k1 _ _ (am λD2 k2 r2=>?_);refine%[?_|?_]
  .lk;unfold z3;lk;exact%[way,g,v,u,rfl,g,v,u,rfl,qs,N,ts,_,hg,L,hx|λd l q ws x s' hd hl dl e=>%[rfl,rfl,d,l,ws,x,rfl,s',hd,hl,dl|e]]
  .rintro r c d q ⟨rfl,rfl,b,l,ws,x,rfl,sm,ag,fl,ai,e⟩;refine%[_,rfl,T.bN|λa _ ha=>?_];show mZ _ _ _ [some (.int way),!g,some v,some u,!m,some .non,!a] _;lk;refine k2 [some (.int way),!g,some v,some u,!m,!a,none] _ ?_;have G:upd q a (ExH a (aF mg "Torn") (some b)) a=some (ExH a (aF mg "Torn") (some b)):=aa;have y:=ae.upd (o:=ExH a (aF mg "Torn") (some b)) ha;have p:=sm.trans y
   generalize upd q a (ExH a (aF mg "Torn") (some b))=H1 at G y p
   have M:=y _ _ e.ad;have U:=y _ _ e.al;have z:∀I,ae H1 I->TyX K I (.ref a) (.ref (aF mg "Torn")):=λI j=> .ex %[_,j _ _ G|.inr %[b,_,rfl|j _ _ M]] T.bI.is
   refine am λD3 k3 r3=>?_
   lk;refine%[a,rfl,z|λI j=>?_];have B:=p.trans j;lk;simp only[vt];lk;refine%[b,j _ _ G,_,j _ _ M,.ref l,by rfl,l,m,O,ws,ss,x,rfl,j _ _ U,λt Y=>%[(e.tu t Y).1|j _ _ (y _ _ (e.tu t Y).2)],e.len,B _ _ hm,la.up B,sl,e.sho,e.min|λH3 s3=>%[true,rfl|qQ (k3 _ _ (am λD4 k4 r4=>?_))]];have n:=j.trans s3;lk;simp only[vt];lk;have C:=n _ _ U;refine%[b,n _ _ G,_,n _ _ M,.ref l,by rfl,.inl %[_|SqL.of C],l,rfl,%[_|C]|k4 _ _ ?_];lk;exact kk _ (ae.set (p.trans n) fl)
theorem lA(n:Str)(c:Nat):lnS n (sgn c)=dh n c:=by
 refine iD ?_;show(([].toArray) ++n.cps++ ([46].toArray) ++ ([c].toArray)).toList=(n.cps.toList++[46,c]).toArray.toList;simp
theorem qF:x∈lyr p↔∃c,Let p.2.2 c/\x=dh p.2.1 c:=by
 unfold lyr;rw[mem_map]
 constructor
 .rintro⟨z,b,rfl⟩;obtain⟨c,a,rfl⟩:=gM b;exact%[c,fS.mp a|lA _ _]
 .rintro⟨c,a,rfl⟩;exact%[sgn c,bp.mpr (X7 %[c,fS.mpr a|rfl])|lA _ _]
theorem mW(h:kN d):x∈(gN d).map (·.1)↔∃c,Let d.rows c/\x=dh d.name c:=by
 unfold gN Drn.rows;rw[Yj,mem_map]
 constructor
 .rintro⟨a,i,rfl⟩;obtain⟨e,f,g⟩:=eA.mp i;exact%[sg a d.sh,(sd h.2.2.2.2.2).mpr %[a,e,f,g|rfl]|rfl]
 .rintro⟨c,g,rfl⟩;obtain⟨a,e,f,b,rfl⟩:=(sd h.2.2.2.2.2).mp g;exact%[a,eA.mpr %[e,f|b]|rfl]
theorem mX:∀{xs:List t},(xs.map m).Nodup->(∀p∈xs,(f p).Nodup)->(∀p∈xs,∀x∈f p,∃c,x=dh (m p) c)->(xs.flatMap f).Nodup
 |[],_,_,_=>Yr
 | p::xs,h,l,i=>by
   rw[Yi,nodup_cons]at h;rw[List.flatMap_cons,Yp];refine%[l p Zl,mX h.2 (λq g=>l q (Zj _ g)) (λq g=>i q (Zj _ g))|λa n b o e=>?_];obtain⟨q,g,j⟩:=mem_flatMap.mp o;obtain⟨c,r⟩:=i p Zl a n;obtain⟨d,s⟩:=i q (Zj _ g) b j;have:=(j7 (r.symm.trans (e.trans s))).1;exact h.1 (X7 %[q,g|this.symm])
theorem xN(p:Addr×Str×ZB):(lyr p).Nodup:=by
 unfold lyr;rw[Yq,Yv];refine X0 (λ{x y} e f a b=>?_) (nodup_iff_pairwise_ne.mp (eF _));obtain⟨c,_,rfl⟩:=gM e;obtain⟨d,_,rfl⟩:=gM f;rw[lA,lA]at b;exact a (by rw[(j7 b).2])
theorem uX(d:Drn):((gN d).map (·.1)).Nodup:=by
 unfold gN;rw[Yj,Yq,Yv];refine X0 (λ{x y} b c a e=>?_) (nodup_iff_pairwise_ne.mp (sf d.cols));obtain⟨f,g,_⟩:=eA.mp b;obtain⟨h,i,_⟩:=eA.mp c;exact a (En f g h i (j7 e).2)
theorem oQ.mono(h:oQ g xs)(s:∀x∈g,x∈i):oQ i xs:=by
 rcases h with⟨w,a,b,e,c,d,f,j⟩|⟨w,a,y,e,c,d,f⟩
 .exact .inl %[w,a,b,e,c,s _ d,s _ f|j]
 .exact .inr %[w,a,y,e,c,s _ d|f]
theorem uY{d:List _}{e:ZB}(h:e.Perm (d.flatMap lyr)){x:Str}:x∈e↔∃p∈d,∃c,Let p.2.2 c/\x=dh p.2.1 c:=by
 rw[h.mem_iff,mem_flatMap]
 constructor
 .rintro⟨p,a,b⟩;exact%[p,a|qF.mp b]
 .rintro⟨p,a,b⟩;exact%[p,a|qF.mpr b]
theorem xO(h:∀p∈ds,kN p.2):x∈(ds.flatMap λp=>(gN p.2).map (·.1))↔∃p∈dcs ds,∃c,Let p.2.2 c/\x=dh p.2.1 c:=by
 rw[mem_flatMap]
 constructor
 .rintro⟨p,a,b⟩;exact%[_,X7 %[p,a|rfl]|(mW (h p a)).mp b]
 .rintro⟨q,d,b⟩;obtain⟨p,a,rfl⟩:=X6 d;exact%[p,a|(mW (h p a)).mpr b]
theorem sL{ds:List (Addr×Drn)}(h:∀p∈ds,kN p.2)(a:(ds.map λp=>p.2.name).Nodup):(ds.flatMap λp=>(gN p.2).map (·.1)).Nodup:=
 mX a (λp _=>uX p.2) λp b x d=>by
  obtain⟨c,_,e⟩:=(mW (h p b)).mp d;exact%[c|e]
theorem jP{a:List _}(d:(a.map λp=>p.2.1).Nodup){b:ZB}(h:b.Perm (a.flatMap lyr)):b.Nodup:=by
 rw[h.nodup_iff];exact mX d (λp _=>xN p) λp g x f=>by
  obtain⟨c,_,e⟩:=qF.mp f;exact%[c|e]
structure kx (H:Hp) (cs:List _) (qs:List _):Prop where
 ca:bS H cs
 nd:(cs.map λp=>p.2.1).Nodup
 p1:1<=cs.length
 p3:cs.length<=3
 few:∀p∈cs,w8 p.2.2
 ly:(cs.flatMap lyr).length<=60
 sa:∀ls,ls.Perm (cs.flatMap lyr)->cr H ls qs
 q20:qs.length<=20
theorem kx.up(h:kx H a qs)(s:ae H b):kx b a qs:=
 %[h.ca.up s,h.nd,h.p1,h.p3,h.few,h.ly,λc p=>(h.sa c p).up s|h.q20]
def qG(K:ZA):Sp:=λvs H Q _=>∃(a:Addr) (b:ZK),vs=[.ref a]/\SqL K H a (b.map V.int)/\A4 H/\b.length<=63/\∀c,Q (.bl true) c
theorem vM{R:Hp->Prop}(l:H g=none)(j:H d=none)(r:H a=some (.lst (bW i)))(s:H b=some (.lst (qs.map λq=>V.ref q.1)))(p:kx H i qs)
 (k:∀f c ts,ae H f->gQ mg f g qs c ts->c.Perm (i.flatMap lyr)->(∀k,k∈ts.map (·.2)↔k∈gJ i\/k∈db qs qs.length)->R f):
 vH mg [.ref g,.ref a,.ref b] (upd (upd H d (.own g)) g (.ins (aF mg "Ground") d [])) (λv u=>v= .non/\R u) E0:=by
 have h:ae H (upd (upd H d (.own g)) g (.ins (aF mg "Ground") d [])):=λb o e=>by
  rw[aj (ap e l),aj (ap e j)];exact e
 refine%[g,a,b,d,i,qs,rfl,aa,h _ _ r,h _ _ s,p.ca.up h,p.nd,p.p1,p.p3,p.few,p.ly,λc q=>(p.sa c q).up h,p.q20|λf c ts y z A B C tk E G I pl J=>%[rfl|k f c ts (λb o e=>B b o (ap e l) (h _ _ e)) %[%[y,z,A|C],jP p.nd pl,J,by rw[pl.length_eq];exact p.ly,I,λk m=>?_,λk m=>?_|E] pl G]]<;> obtain⟨t,n,rfl⟩:=X6 m
 .exact(tk t n).1
 .exact(tk t n).2
theorem Av(d:aY (bu qs) ks lk)(b:∀k∈lk,cE e k)(r:Rch lk x x):kP e ks qs ex:=λf g h _ ws a=>by
 obtain⟨u,c⟩:=cG ws (mU b r).1;exact%[u|oV d a qD h b ws r c c]
theorem EH(F:Fun K "law" "law" jF f fd)(T:Txt K mg):fD P w K mg base CX0 12 f fd ["_law_script"] (qG K):=by
 refine F.ok eQ (by fin2) (λeb A outer s H vs Q E C h=>?_)
 .obtain⟨a,ns,rfl,hs,ho,hn,kk⟩:=h;refine%[_,%["JC~IF];AF]<A0AEBBeML1ML2ML3fCI4~:~;A'*A1BA'*A2BBCI5F]=A4A2A3AF~+A0AEBBCNK~(5yDGqbF~<A4AP3EAP3EBROCI6~:~;A'*A1BA'*A5BBCI7F~LA6BCXTF]>A0A3AEBeML8ML9fCX+AEBL:DNkdF]^A~e:A6A8A9A7BDGnODNYuK]_52&K~*F~<A4A8A9BgARARARARBDGnODGn",eQ.nd|C]|?_]
  show bh _ _ _ [!a,none,none,none,none,none,none,none,none,none,none] H;refine am λD1 k1 _=>?_
  lk;refine%[a,ns,43,rfl,hs,⋯,by decide,by decide|λl0 H0 xs s0 f0 h0 L hb=>?_];lk;refine%[l0,xs,rfl,SqL.of h0,λH' r=>SqL.of (r _ _ h0),L,hb|λt l1 M l3 H1 ds qs s1 ft f1 f2 f3 ec ed ee ht h1 h2 h3 d1 d3 ab a8 c0 a9 hq eg c1=>?_];lk;refine%[_,SqT.of ht,rfl,_,_,rfl,_,_,rfl,_,_,rfl,rfl|k1 _ _ (am λD3 k3 _=>?_)];have nm:((dcs ds).map λp=>p.2.1).Nodup:=by
   unfold dcs;rw[Yj];exact a8
  have dl:(dcs ds).length=ds.length:=by unfold dcs;rw[Z5]
  have sub:∀B:ZB,B.Perm ((dcs ds).flatMap lyr)->∀x,x∈B↔x∈(ds.flatMap λp=>(gN p.2).map (·.1)):=λB pl x=>by rw[uY pl,xO ab]
  have c5:∀p∈dcs ds,w8 p.2.2:=λp hp=>by
   unfold dcs at hp;obtain⟨d,hd,rfl⟩:=X6 hp;exact z6 (ab d hd).2.2.2.2.2
  have ly:((dcs ds).flatMap lyr).length<=60:=by
   have:=STab.nodup_sub (jP nm (.refl _)) λx L=>(sub _ (.refl _) x).mp L
   lia
  have P1:kx H1 (dcs ds) qs:=%[c0,nm,⋯,⋯,c5,ly,λB p q O=>%[(a9 q O).1|(a9 q O).2.mono λx=>(sub B p x).mpr]|⋯]
  have nN:=sL ab a8
  generalize (ds.flatMap λp=>(gN p.2).map (·.1))=N at h3 sub c1 nN
  lk;refine%[_,.inl (SqL.of h1)|λa1 bb=>%[_,.inl (SqL.of (ae.upd bb _ _ h2))|λb1 ag=>?_]];have t1:=ae.upd (o:= .lst (bW (dcs ds))) bb;have ai:upd H1 a1 (.lst (bW (dcs ds))) a1=some (.lst (bW (dcs ds))):=aa
  generalize upd H1 a1 (.lst (bW (dcs ds)))=H2 at t1 ai ag ⊢
  have t2:=ae.upd (o:= .lst (qs.map λq=>V.ref q.1)) ag;have al:upd H2 b1 (.lst (qs.map λq=>V.ref q.1)) b1=some (.lst (qs.map λq=>V.ref q.1)):=aa;have an:=t2 _ _ ai
  generalize upd H2 b1 (.lst (qs.map λq=>V.ref q.1))=H3 at t2 al an ⊢
  have as:=t1.trans t2;refine λg dx fg c7 eh=>vM fg c7 an al (P1.up as) λH4 B ts t4 gr pl tm=>k3 _ _ (am λD4 k4 r4=>?_)
  have G:=as.trans t4;have I:=sub B pl;have bf:=G _ _ h2;have bl:=G _ _ h3;have P4:=P1.up G;have bm:=s0.trans (s1.trans G);clear an al ag t1 t2 as ai;lk;refine%[a,ns,3,rfl,sJ hs bm,by decide,g,M,l3,_,qs,B,N,ts,rfl,gr,bf,bl,λx L=>(I x).mpr L,nN,⋯,⋯|λH5 lk t5 U=>?_];obtain⟨c2,c3,c4,da⟩:=gr.gr;have sw:=e9 da.sa;have ll:=gr.ll;have bt:=t5 _ _ bf;have a0:=t5 _ _ bl;have dc:=t5 _ _ (G _ _ h1);have P5:=P4.up t5;have dd:=bm.trans t5;have b0:=gr.up t5;have rest:∀(lt:Addr) (ex:ZM),H5 lt=some (.lst ((qs++ex).map λq=>V.ref q.1))->cr H5 B ex->ex.length<=2->(lt=M\/(1<=ex.length/\∀x,¬ Rch lk x x))->kP B (ts.map (·.2)) qs ex->D4.nx [!a,!l1,!M,!l3,!g,!lt,none,none,none,none,none] H5:=λlt ex b3 sa e2 b4 te=>by
   refine k4 _ _ (am λD5 k5 r5=>?_);lk;rw[if_neg ∅];refine k5 _ _ (am λD6 k6 r6=>?_);lk;refine%[_,.inl (SqL.of dc)|λa2 b5=>%[_,.inl (SqL.of (ae.upd b5 _ _ b3))|λb2 b6=>?_]];have u1:=ae.upd (o:= .lst (bW (dcs ds))) b5;have ga:upd H5 a2 (.lst (bW (dcs ds))) a2=_:=aa
   generalize upd H5 a2 (.lst (bW (dcs ds)))=Ha at u1 ga b6 ⊢
   have u2:=ae.upd (o:= .lst ((qs++ex).map λq=>V.ref q.1)) b6;have gb:upd Ha b2 (.lst ((qs++ex).map λq=>V.ref q.1)) b2=_:=aa;have ga:=u2 _ _ ga
   generalize upd Ha b2 (.lst ((qs++ex).map λq=>V.ref q.1))=Hb at u2 gb ga ⊢
   have b7:=u1.trans u2;have P6:kx H5 (dcs ds) (qs++ex):=%[P5.ca,P5.nd,P5.p1,P5.p3,P5.few,P5.ly,λu p q' O=>(X4 O).elim (P5.sa u p q') λc=>%[(sa q' c).1|(sa q' c).2.mono λx L=>(sub u p x).mpr ((I x).mp L)]|by rw[Z8];lia]
   refine λg' ej de b9 ea=>vM de b9 ga gb (P6.up b7) λH6 u a3 u6 b ek ca=>k6 _ _ (am λD7 k7 r7=>?_)
   have dk:=b7.trans u6;obtain⟨d2,d3,d4,cd⟩:=b.gr;have el:=b.ll;lk;refine%[g',d2,d3,d4,qs++ex,u,a3,rfl,cd,b.nd,b.so,⋯,b.tl,b.t3|λso H7 ss u7 en a4 tu J sl=>k7 _ _ (am λD8 k8 r8=>ax λch hK=>?_)];have a5:=dk.trans u7;have dp:=te (a3.map (·.2)) (ss.map (·.2)) (λk hk=>(ca k).mpr (((tm k).mp hk).imp_right EF)) (λk hk=>(ca k).mpr (.inr hk)) (e9 (P6.sa B pl)) J;have la:cF H7 u ss:=iz tu (b.ties J);have dr:=b.up u7;lk;refine%[a,l3,4,ns,N,rfl,sJ hs (dd.trans a5),a5 _ _ a0,⋯,⋯,by decide|λpr H8 ps u8 cl dt=> .inl %[pr,rfl,%[_|SqL.of cl]|hK _ _ ?_]];have a6:=a5.trans u8;have a4:=u8 _ _ a4;have la:=la.up u8;have dy:=dr.up u8;have dK:=b0.up a6;have co:=a6 _ _ b3;have dT:=a6 _ _ bt;refine bw (xs:=ps.map λp=>V.ref p.1) (λi σ H'=>(∃o8 o9 m,σ=[!a,!l1,!M,!l3,!g,!lt,!g',!so,o8,o9,m])/\ae H8 H')
    %[%[_,_,_|rfl]|λ_ _ e=>e] (λi σ H' _ h=>SqL.of (h.2 _ _ cl)) ?_ ?_
   .rintro i v σ H' hv ⟨⟨o8,o9,m,rfl⟩,r⟩;rw[Zk]at hv;obtain⟨p,hp,rfl⟩:=map_eq_some_iff.mp hv;obtain⟨dV,L,hy⟩:=dt p (Z7 hp);refine%[_,SqT.of (r _ _ dV),rfl,_,_,rfl,_,_,rfl,rfl|?_]
    generalize p.2.1=x at L ⊢
    generalize p.2.2=y at hy ⊢
    show bh _ _ _ [!a,!l1,!M,!l3,!g,!lt,!g',!so,-x,-y,m] H';refine am λD9 k9 r9=>ax λch hK=>?_
    lk;refine%[by decide,by decide|hK _ _ (cO (λi σ H2=>(∃m,σ=[!a,!l1,!M,!l3,!g,!lt,!g',!so,-x,-y,m])/\ae H8 H2) %[%[_|rfl]|r] ?_ ?_)]
    .rintro j σ H2 hj ⟨⟨m,rfl⟩,r⟩;show jQ _ _ _ _ [!a,!l1,!M,!l3,!g,!lt,!g',!so,-x,-y,some (.int (0+j))] H2;refine aB λeo d0 _=>?_
     lk;exact%[_,g',so,.str x,.str y,qs++ex,u,u,a3,ss,rfl,dy.up r,J,dp,r _ _ a4,la.up r,sl|λH3 s3=>%[true,rfl|qQ (d0 _ _ %[%[_|rfl]|r.trans s3])]]
    .rintro σ H2 ⟨⟨m,rfl⟩,r⟩;refine k9 _ _ (aB λep cs _=>?_);lk;refine%[lt,M,_,_,rfl,rfl,r _ _ co,r _ _ dT,b4.imp_right λ⟨e1,_⟩=>by rw[Z5,Z5,Z8];lia,_,rfl|bv (λne=>?_) λ_=>cs _ _ %[%[_,_,_|rfl]|r]];have nr:=(b4.resolve_left (Zn ne)).2;have ct:=(I x).mpr L;have cM:=(I y).mpr hy;obtain⟨m1,Y⟩:=cG sw ct;obtain⟨m2,d7⟩:=cG sw cM;refine%[g,qs,B,ts,x,y,m1,m2,lk,rfl,dK.up r,ct,cM,Y,d7,U,nr|λH3 st s3 a7=>%[#[4]|λp fp=>%[(["one","later","earlier","open"]:ZB).map V.str,.inr (SqT.of aa),rfl,by simp[eD]|?_]]];have one:st∈(["one","later","earlier","open"]:ZB):=by
      rcases a7 with⟨_,rfl⟩|⟨_,_,rfl⟩|⟨_,_,_,rfl⟩|⟨_,_,_,rfl⟩<;> simp
     rw[qo,Ze one,if_neg ∅];exact cs _ _ %[%[_,_,_|rfl]|r.trans (s3.trans (ae.upd fp))]
   .rintro σ H' ⟨⟨o8,o9,m,rfl⟩,r⟩;refine k8 _ _ ?_;lk;exact kk H'
  refine%[λx rx=>rest M [] (by rw[Zw];exact bt) (λq hq=>(nomatch hq)) (by decide) (.inl rfl) (Av U (gr.ties U) rx)|λnr=>%[k4 _ _ (am λD5 k5 r5=>?_)|λl ex fl hl e1 e2 sa te=>rest l ex hl sa e2 (.inr %[e1|nr]) te]];lk;rw[if_pos ∅];have n1:0<N.length:=by lia
  have ez:atI (N.map V.str) 0=some (.str N[0]):=cu (by rw[Zk,Z4 n1];rfl);have hz:=(I _).mpr (Y5 n1)
  generalize N[0]=z at ez hz
  obtain⟨m1,Y⟩:=cG sw hz;refine%[_,SqL.of a0,_,ez,_,SqL.of a0,_,ez,g,qs,B,ts,z,z,m1,m1,lk,rfl,b0,hz,hz,Y,Y,U,nr|λH6 st s6 a7=>%[rfl|r5 _ _ ?_]];have e:st="one":=by
   rcases a7 with⟨_,e⟩|⟨n,_⟩|⟨n,_⟩|⟨n,_⟩
   .exact e
   all_goals exact absurd rfl n
  rw[e,Ze rfl];exact kk H6
end
def DI(K:ZA)(x:Str)(st:Stmt):Prop:=∃(f:Addr) (b:Value) (od c:ZH) (d:ZJ) (kV e g a ct:Value),nsIn K mainGlobals x=some (some (.ref f))/\K.lookup f=some %[b,od,.func (fnOf x x (bQ st) (be st) (af st) .none kV e g c a ct)|d]/\codeIn K a x=true/\keepIn K (.ref f)=true
theorem di_mk{K:ZA}{x:Str}{st:Stmt}{f:Addr}{d:Value}{od e:ZH}{g:ZJ}{kV h i b ct:Value}(a:nsIn K mainGlobals x=some (some (.ref f)))(l:K.lookup f=some %[d,od,.func (fnOf x x (bQ st) (be st) (af st) .none kV h i e b ct)|g])(c:codeIn K b x=true)(k:keepIn K (.ref f)=true):DI K x st:=%[f,d,od,e,g,kV,h,i,b,ct,a,l,c|k]
theorem aw{K:ZA}{h:Heap}{mg:ZC}{x:Str}{st:Stmt}{ps:ZB}(X:K.In h)(G:h.Ns mainGlobals mg)(d:DI K x st)(b:∀(kV e i:Value) (j:ZH) (g ct:Value) (us:ZF),us.length=ps.length->bindArgs (fnOf x x (bQ st) (be st) (af st) .none kV e i j g ct) %[us|[]]=pure (ps.zip us)):aA K mg x st ps:=by
 obtain⟨f,m,od,j,n,kV,o,i,p,ct,a,l,c,k⟩:=d;exact DD X G a l c k b
theorem all_mk{l:PySem.W.OpenLaw}{w:World}{K:ZA}{h:Heap}{mg:ZC}{fa bq:Addr}(X:K.In h)(G:h.Ns mainGlobals mg)(hfa:mg "law"=some (.ref fa))
 {f1 e4:ZH} {f2:ZJ} {f3 e5 e6 e7 br e8:Value}
 (f4:DI K "names_by_layer" dq)
 (f5:DI K "join_deposits" dN)
 (f6:DI K "least_pointed_to" cL)
 (f7:DI K "deposits" i9)
 (f8:DI K "deposit_of" gi)
 (f9:DI K "deposit_names" cJ)
 (ga:DI K "links" lw)
 (gb:DI K "links_by_later" dv)
 (gc:DI K "links_by_earlier" cN)
 (gd:DI K "grouped" j9)
 (ge:DI K "laid_in_turn" cY)
 (gf:DI K "shortest_way" eL)
 (gg:DI K "next_edge" im)
 (gh:DI K "way_to" mB)
 (gk:DI K "ring" uA)
 (gl:DI K "shortest_ring" dO)
 (gm:DI K "never_laid" gj)
 (gn:DI K "untorn_links" eM)
 (go:DI K "chain" qc)
 (gp:DI K "standing" jb)
 (gq:DI K "is_name" iH)
 (gr:DI K "rows_of" kb)
 (gs:DI K "is_row" jE)
 (gt:DI K "lies_beneath" cZ)
 (gu:DI K "letters_in" d8)
 (gv:DI K "letters" kc)
 (gw:DI K "meetings" jc)
 (gx:DI K "meetings_between" cc)
 (gy:DI K "check_cuts" gA)
 (gz:DI K "is_named_cut" eN)
 (g0:DI K "is_cut" mC)
 (g1:DI K "check_sayings" dP)
 (g2:DI K "is_saying" io)
 (g3:DI K "is_text_among" dQ)
 (g4:DI K "is_year" kf)
 (g5:DI K "layer_name" gB)
 (g6:DI K "layers_of" eZ)
 (g7:DI K "ties_of_cuts" eO)
 (g8:DI K "ties_of_sayings" c6)
 (g9:DI K "two_orders" gC)
 (ha:DI K "order_with" gE)
 (hb:DI K "_law_cell_at" fA)
 (hc:DI K "_law_row" kg)
 (hd:DI K "_law_column" gF)
 (he:DI K "_law_sign" jd)
 (hf:DI K "_law_cut" dz)
 (hg:DI K "_law_saying" gG)
 (hh:DI K "_law_ground" ef)
 (hi:DI K "_law_steps" ip)
 (hj:DI K "_law_pairs" iq)
 (hk:DI K "_law_torn_sayings" cg)
 (hm:DI K "_law_is_ring" dH)
 (hn:DI K "_law_only_torn" dR)
 (ho:DI K "_law_asked" ir)
 (hp:DI K "_law_refused" fB)
 (bs:nsIn K mainGlobals "law"=some (some (.ref bq))) (bt:K.lookup bq=some %[f3,f1,.func (fnOf "law" "law" (bQ jF) (be jF) (af jF) .none e5 e6 e7 e4 br e8)|f2]) (bu:codeIn K br "law"=true) (bv:keepIn K (.ref bq)=true)
 {e9 fb fc fe ff fg fh fi fj fk fl fm:Value}
 (bw:nsIn K mainGlobals "min"=some none)
 (bx:nsIn K mainGlobals "max"=some none)
 (bz:nsIn K mainGlobals "list"=some none)
 (b0:nsIn K mainGlobals "set"=some none)
 (b1:nsIn K mainGlobals "sorted"=some none)
 (b2:nsIn K mainGlobals "len"=some none)
 (b3:nsIn K mainGlobals "reversed"=some none)
 (b4:nsIn K mainGlobals "all"=some none)
 (b5:nsIn K mainGlobals "str"=some none)
 (b6:nsIn K mainGlobals "isinstance"=some none)
 (b7:nsIn K mainGlobals "enumerate"=some none)
 (b8:nsIn K mainGlobals "zip"=some none)
 (b9:nsIn K mainGlobals "tuple"=some none)
 (ca:nsIn K mainGlobals "int"=some none)
 (cb:nsIn K mainGlobals "bool"=some none)
 (cd:nsIn K mainGlobals "range"=some none)
 (ce:nsIn K mainGlobals "abs"=some none)
 (cf:nsIn K mainGlobals "ValueError"=some none)
 (ch:nsIn K mainGlobals "LATER"=some (some e9)) (ci:aK (.int 0) e9)
 (cj:nsIn K mainGlobals "EARLIER"=some (some fb)) (cl:aK (.int 1) fb)
 (cm:nsIn K mainGlobals "LONGEST_NAME"=some (some fc)) (cn:aK (.int 8) fc)
 (co:nsIn K mainGlobals "LETTERS"=some (some fe)) (cp:aK (.str "abcdefghijklmnopqrstuvwxyz") fe)
 (cq:nsIn K mainGlobals "MOST_ROWS"=some (some ff)) (cr:aK (.int 40) ff)
 (cs:nsIn K mainGlobals "MOST_SIGNS"=some (some fg)) (ct:aK (.int 40) fg)
 (cu:nsIn K mainGlobals "AIR"=some (some fh)) (cv:aK (.str ".") fh)
 (cw:nsIn K mainGlobals "MOST_CUTS"=some (some fi)) (cx:aK (.int 8) fi)
 (cy:nsIn K mainGlobals "MOST_SAYINGS"=some (some fj)) (cz:aK (.int 60) fj)
 (c0:nsIn K mainGlobals "FIRST_YEAR"=some (some fk)) (c1:aK (.int (-9999)) fk)
 (c2:nsIn K mainGlobals "LAST_YEAR"=some (some fl)) (c3:aK (.int 9999) fl)
 (c4:nsIn K mainGlobals "SUPPOSED"=some (some fm)) (c5:aK (.str "supposed") fm)
 {aa ac ad fo fp fq fr fs:Addr}
 {ae:Addr} {hq hr:ZH} {hs:ZJ} {ht hu hv ft hx:Value}
 (ag:nsIn K mainGlobals "Torn"=some (some (.ref aa)))
 (aq:nsIn K mainGlobals "DigError"=some (some (.ref ac)))
 (ar:nsIn K mainGlobals "NoCut"=some (some (.ref ad)))
 (au:nsIn K mainGlobals "NoLayer"=some (some (.ref fo)))
 (av:nsIn K mainGlobals "NoRow"=some (some (.ref fp)))
 (ax:nsIn K mainGlobals "NoDeed"=some (some (.ref fq)))
 (ay:nsIn K mainGlobals "NoSaying"=some (some (.ref fr)))
 (az:nsIn K mainGlobals "NoGround"=some (some (.ref fs)))
 (a0:findIn K (.ref aa) "__getattribute__"=some (some (.builtin "BaseException.__getattribute__")))
 (ba:findIn K (.ref aa) "__getattr__"=some none)
 (bb:subIn K (.ref aa) (.type "BaseException")=some true)
 (ah:hasDictIn K aa=true)
 (c7:findIn K (.ref aa) "__class__"=some (some (.builtin "object.__class__")))
 (c8:specialIn K (.builtin "object.__class__") "__get__"=some (some (.builtin "getset_descriptor.__get__")))
 (c9:takesIn K (.builtin "object.__class__")=some true)
 (da:mroIn K aa (.type "object")=some true)
 (fu:findIn K (.ref aa) "__init__"=some (some (.ref ae)))
 (ai:K.lookup ae=some %[.type "function",hq,.func (fnOf "__init__" "Torn.__init__" (bQ dL) (be dL) (af dL) .none ht hu hv hr ft hx)|hs])
 (bc:codeIn K ft "Torn.__init__"=true)
 (bd:keepIn K (.ref ae)=true)
 (db:exK K aa ae=true)
 (dc:keepIn K (.ref aa)=true)
 (dd:findIn K (.ref aa) "__setattr__"=some (some (.builtin "object.__setattr__")))
 (de:pL K aa=true)
 (bf:findIn K (.ref aa) "ring"=some none)






 (df:subIn K (.ref aa) (.ref ad)=some false)
 (dg:subIn K (.ref aa) (.ref ac)=some true)
 (dh:kitOne K (.ref aa) (.ref ad)=some false)
 (di:kitOne K (.ref aa) (.ref fs)=some false)
 (dj:kitOne K (.ref aa) (.ref fr)=some false)
 (dk:kitOne K (.ref aa) (.ref fq)=some false)
 (dl:kitOne K (.ref aa) (.ref aa)=some true)
 (dn:kitOne K (.ref aa) (.type "ValueError")=some true)
 (dp:kitOne K (.ref aa) (.ref fp)=some false)
 (dr:kitOne K (.ref aa) (.ref fo)=some false)
 (ds:specialIn K (.ref ac) "__getattribute__"=some (some (.builtin "type.__getattribute__")))
 (dt:readsIn K ac (.type "type")=true)
 (du:findCls K (.ref ac) (.type "type") "__init__"=some (.val (.builtin "ValueError.__init__")))
 (dw:typeIn K (.ref ad)=some (.type "type"))
 (dx:subIn K (.ref ad) (.type "BaseException")=some true)
 (dy:(K.lookup ad).any (λo=>match o.data with| .cls _=>true|_=>false)=true)
 (d0:typeIn K (.ref ac)=some (.type "type"))
 (d1:subIn K (.ref ac) (.type "BaseException")=some true)
 (d2:(K.lookup ac).any (λo=>match o.data with| .cls _=>true|_=>false)=true)
 {ab:Addr}
 (bg:nsIn K mainGlobals "Ground"=some (some (.ref ab)))
 (d3:plainGet K ab Str.empty=true)
 (d4:hasDictIn K ab=true)
 (d6:plainOver K ab=true)
 (d7:findIn K (.ref ab) "__setattr__"=some (some (.builtin "object.__setattr__")))
 (d9:findIn K (.ref ab) "kept_cuts"=some none)
 (ea:findIn K (.ref ab) "kept_sayings"=some none)
 (eb:findIn K (.ref ab) "kept_layers"=some none)
 (ec:findIn K (.ref ab) "kept_ties"=some none)
 {aj:Addr} {hy hz:ZH} {h0:ZJ} {h1 h2 h3 h4 fv h5:Value}
 (ed:findIn K (.ref ab) "__init__"=some (some (.ref aj)))
 (bh:K.lookup aj=some %[h1,hy,.func (fnOf "__init__" "Ground.__init__" (bQ bM) (be bM) (af bM) .none h2 h3 h4 hz fv h5)|h0])
 (bi:codeIn K fv "Ground.__init__"=true)
 (bj:keepIn K (.ref aj)=true)
 (ee:isFn K (.ref aj)=true)
 (eg:makesIn K ab=true)
 (eh:keepIn K (.ref ab)=true)
 {ak:Addr} {h6 h7:ZH} {h8:ZJ} {h9 ia ib ic fw id:Value}
 (ei:findIn K (.ref ab) "sayings"=some (some (.ref ak)))
 (bk:K.lookup ak=some %[h9,h6,.func (fnOf "sayings" "Ground.sayings" (bQ bR) (be bR) (af bR) .none ia ib ic h7 fw id)|h8])
 (bl:codeIn K fw "Ground.sayings"=true)
 (al:keepIn K (.ref ak)=true)
 (ej:isFn K (.ref ak)=true)
 {am:Addr} {ie ig:ZH} {ih:ZJ} {ii ij ik il fx it:Value}
 (ek:findIn K (.ref ab) "layers"=some (some (.ref am)))
 (bm:K.lookup am=some %[ii,ie,.func (fnOf "layers" "Ground.layers" (bQ ck) (be ck) (af ck) .none ij ik il ig fx it)|ih])
 (bn:codeIn K fx "Ground.layers"=true)
 (an:keepIn K (.ref am)=true)
 (el:isFn K (.ref am)=true)
 {ao:Addr} {iu iv:ZH} {iw:ZJ} {ix iy iz i0 fy i1:Value}
 (em:findIn K (.ref ab) "ties"=some (some (.ref ao)))
 (bo:K.lookup ao=some %[ix,iu,.func (fnOf "ties" "Ground.ties" (bQ cC) (be cC) (af cC) .none iy iz i0 iv fy i1)|iw])
 (bp:codeIn K fy "Ground.ties"=true)
 (ap:keepIn K (.ref ao)=true)
 (en:isFn K (.ref ao)=true)
 {fz:Addr} {eo:Obj} {ep:ZI} {i2:Nat}
 (eq:nsIn K mainGlobals "YEAR_WORDS"=some (some (.ref fz)))
 (er:K.lookup fz=some eo)
 (es:eo.cls= .type "tuple")
 (et:eo.data= .seq ep i2)
 (eu:ep.size<=sizeLine)
 (ev:aC [.str "since",.str "by"] ep.toList)
 {f0:Addr} {ew:Obj} {ex:ZI} {i3:Nat}
 (ey:nsIn K mainGlobals "LAYER_WORDS"=some (some (.ref f0)))
 (ez:K.lookup f0=some ew)
 (e0:ew.cls= .type "tuple")
 (e1:ew.data= .seq ex i3)
 (e2:ex.size<=sizeLine)
 (e3:aC [.str "later",.str "same"] ex.toList)
 :∃fd:FuncData,(∀(s:Shared) (v:Value),BindsTo s fd %[[v]|[]] [("_law_script",v)])/\∀base:Heap,K.In base->base.Ns mainGlobals mg->fD l.prog w K mg base CX0 12 fa fd ["_law_script"] (qG K):=by
 have e:=hfa.symm.trans (mg_of X G bs);cases e;have i4:=d5 (mg_of X G ag);subst i4;have i5:=d5 (mg_of X G aq);subst i5;have i6:=d5 (mg_of X G ar);subst i6;have i7:=d5 (mg_of X G au);subst i7;have i8:=d5 (mg_of X G av);subst i8;have ja:=d5 (mg_of X G ax);subst ja;have je:=d5 (mg_of X G ay);subst je;have jf:=d5 (mg_of X G az);subst jf;have jg:=d5 (mg_of X G bg);subst jg;have T:Txt K mg:=%[mg_none_of X G bw,
  mg_none_of X G bx,
  mg_none_of X G bz,
  mg_none_of X G b0,
  mg_none_of X G b1,
  mg_none_of X G b2,
  mg_none_of X G b3,
  mg_none_of X G b4,
  mg_none_of X G b5,
  mg_none_of X G b6,
  mg_none_of X G b7,
  mg_none_of X G b8,
  mg_none_of X G b9,
  mg_none_of X G ca,
  mg_none_of X G cb,
  mg_none_of X G cd,
  mg_none_of X G ce,
  mg_none_of X G cf,
  gT X G ch ci,
  gT X G cj cl,
  gT X G cm cn,
  gT X G co cp,
  gT X G cq cr,
  gT X G cs ct,
  gT X G cu cv,
  gT X G cw cx,
  gT X G cy cz,
  gT X G c0 c1,
  gT X G c2 c3,
  gT X G c4 c5,
  aw X G f4 (by room),
  aw X G f5 (by room),
  aw X G f6 (by room),
  aw X G f7 (by room),
  aw X G f8 (by room),
  aw X G f9 (by room),
  aw X G ga (by room),
  aw X G gb (by room),
  aw X G gc (by room),
  aw X G gd (by room),
  aw X G ge (by room),
  aw X G gf (by room),
  aw X G gg (by room),
  aw X G gh (by room),
  aw X G gk (by room),
  aw X G gl (by room),
  aw X G gm (by room),
  aw X G gn (by room),
  aw X G go (by room),
  aw X G gp (by room),
  aw X G gq (by room),
  aw X G gr (by room),
  aw X G gs (by room),
  aw X G gt (by room),
  aw X G gu (by room),
  aw X G gv (by room),
  aw X G gw (by room),
  aw X G gx (by room),
  aw X G gy (by room),
  aw X G gz (by room),
  aw X G g0 (by room),
  aw X G g1 (by room),
  aw X G g2 (by room),
  aw X G g3 (by room),
  aw X G g4 (by room),
  aw X G g5 (by room),
  aw X G g6 (by room),
  aw X G g7 (by room),
  aw X G g8 (by room),
  aw X G g9 (by room),
  aw X G ha (by room),
  aw X G hb (by room),
  aw X G hc (by room),
  aw X G hd (by room),
  aw X G he (by room),
  aw X G hf (by room),
  aw X G hg (by room),
  aw X G hh (by room),
  aw X G hi (by room),
  aw X G hj (by room),
  aw X G hk (by room),
  aw X G hm (by room),
  aw X G hn (by room),
  aw X G ho (by room),
  aw X G hp (by room),
  mg_of X G ag,
  mg_of X G aq,
  mg_of X G ar,
  mg_of X G au,
  mg_of X G av,
  mg_of X G ax,
  mg_of X G ay,
  mg_of X G az,
  %[mg_of X G ag,%[a0,ba,bb,ah,c7,c8,c9|da],ae,_,%[db,by rw[ai];rfl|dc],dm ai bc bd|(dm ai bc bd).binds (by room)],
  %[dd,de,bf|ah],
  %[a0,ba,bb,bf|ah],
  df,
  dg,
  dh,
  di,
  dj,
  dk,
  dl,
  dn,
  dp,
  dr,
  %[ds,dt|du],
  %[dw,dx|dy],
  %[d0,d1|d2],
  %[mg_of X G bg,d3,d4,d6|d7],
  d9,
  ea,
  eb,
  ec,
  %[aj,_,%[eg,ed,ee|eh],dm bh bi bj|(dm bh bi bj).binds (by room)],
  %[ak,_,%[ei,ej|al],dm bk bl al|(dm bk bl al).binds (by room)],
  %[am,_,%[ek,el|an],dm bm bn an|(dm bm bn an).binds (by room)],
  %[ao,_,%[em,en|ap],dm bo bp ap|(dm bo bp ap).binds (by room)],
  zK X G eq er es et eu ev|
  zK X G ey ez e0 e1 e2 e3]
 exact%[fnOf "law" "law" (bQ jF) (be jF) (af jF) .none e5 e6 e7 e4 br e8,λs v=> .of_eq rfl|λbase _ _=>EH (dm (st:=jF) bt bu bv) T]
theorem walk{l:PySem.W.OpenLaw}{q:Program}{b:ZB}{j:(Str->Option Value)->Heap->Prop}{e:World->Heap->Prop}{d:DefRec}{K:Params->ZA}(m:l.most=some 63)(c:d.params.defaults=[])
 (o:∀(w:World) (h:Heap),e w h->(K w.params).In h)
 (F:∀(w:World) (mg:ZC) (g:Addr) (h:Heap),(K w.params).In h->h.Ns mainGlobals mg->mg d.name=some (.ref g)->
  ∃i:FuncData,(∀(s:Shared) (u:Value),BindsTo s i %[[u]|[]] [("_law_script",u)])/\∀base:Heap,(K w.params).In base->base.Ns mainGlobals mg->fD l.prog w (K w.params) mg base CX0 12 g i ["_law_script"] (qG (K w.params))):
 PySem.W.WalkO q b j e l.row.toRowW d [] (λf vs=>PySem.call f vs):=
 L2.walk_of (n:=63) (k:=12) (x:="_law_script") (CX:=λ_=>CX0) (sp:=λw=>qG (K w.params)) m (by decide) c %[rfl,by decide,by decide|rfl] o F (λ_ _ a p r t v=>%[a,p,rfl,v,t,r|λ_=>rfl]) λ_ _ _ _ _ z=>z
end K44
end
open PySem PySem.W PyProof.Rows
set_option maxRecDepth 100000 in
theorem PySem.Challenge.cw_digbook_k44_chains_torn_holds : PySem.Challenge.rw_digbook_k44_chains_torn.Holds := by
 w_on;o_law;k_head;(case hw=>w_witness2)
 k_fill
 refine K44.walk (l:=PySem.Challenge.rw_digbook_k44_chains_torn) rfl rfl (λw h Y=>PySem.W.kIn_of Y) ?F
 case F=>
  intro w mg fa h KX G hmg;refine' K44.all_mk KX G hmg ?_ ?_ ?_ ?_ ?_ ?_ ?_ ?_ ?_ ?_ ?_ ?_ ?_ ?_ ?_ ?_ ?_ ?_ ?_ ?_ ?_ ?_ ?_ ?_ ?_ ?_ ?_ ?_ ?_ ?_ ?_ ?_ ?_ ?_ ?_ ?_ ?_ ?_ ?_ ?_ ?_ ?_ ?_ ?_ ?_ ?_ ?_ ?_ ?_ ?_ ?_ ?_ ?_ ?_ ?_ ?bs ?bt ?bu ?bv ?bw ?bx ?bz ?b0 ?b1 ?b2 ?b3 ?b4 ?b5 ?b6 ?b7 ?b8 ?b9 ?ca ?cb ?cd ?ce ?cf ?ch ?ci ?cj ?cl ?cm ?cn ?co ?cp ?cq ?cr ?cs ?ct ?cu ?cv ?cw ?cx ?cy ?cz ?c0 ?c1 ?c2 ?c3 ?c4 ?c5 ?ag ?aq ?ar ?au ?av ?ax ?ay ?az ?a0 ?ba ?bb ?ah ?c7 ?c8 ?c9 ?da ?fu ?ai ?bc ?bd ?db ?dc ?dd ?de ?bf ?df ?dg ?dh ?di ?dj ?dk ?dl ?dn ?dp ?dr ?ds ?dt ?du ?dw ?dx ?dy ?d0 ?d1 ?d2 ?bg ?d3 ?d4 ?d6 ?d7 ?d9 ?ea ?eb ?ec ?ed ?bh ?bi ?bj ?ee ?eg ?eh ?ei ?bk ?bl ?al ?ej ?ek ?bm ?bn ?an ?el ?em ?bo ?bp ?ap ?en ?eq ?er ?es ?et ?eu ?ev ?ey ?ez ?e0 ?e1 ?e2 ?e3
  any_goals (refine' K44.di_mk ?a ?l ?c ?k;(case a=>k_is);(case l=>k_is);(case c=>k_is);(case k=>k_is))
  (case bs|bt|bu|bv|bw|bx|bz|b0|b1|b2|b3|b4|b5|b6|b7|b8|b9|ca|cb|cd|ce|cf|ch=>k_is)
  (case ci=>exact⟨_,rfl⟩)
  (case cj=>k_is)
  (case cl=>exact⟨_,rfl⟩)
  (case cm=>k_is)
  (case cn=>exact⟨_,rfl⟩)
  (case co=>k_is)
  (case cp=>exact⟨_,rfl⟩)
  (case cq=>k_is)
  (case cr=>exact⟨_,rfl⟩)
  (case cs=>k_is)
  (case ct=>exact⟨_,rfl⟩)
  (case cu=>k_is)
  (case cv=>exact⟨_,rfl⟩)
  (case cw=>k_is)
  (case cx=>exact⟨_,rfl⟩)
  (case cy=>k_is)
  (case cz=>exact⟨_,rfl⟩)
  (case c0=>k_is)
  (case c1=>exact⟨_,rfl⟩)
  (case c2=>k_is)
  (case c3=>exact⟨_,rfl⟩)
  (case c4=>k_is)
  (case c5=>exact⟨_,rfl⟩)
  (case ag|aq|ar|au|av|ax|ay|az|a0|ba|bb|ah|c7|c8|c9|da|fu|ai|bc|bd=>k_is)
  (case db=>kernel_rfl)
  (case dc|dd=>k_is)
  (case de=>kernel_rfl)
  (case bf|df|dg=>k_is)
  (case dh|di|dj|dk|dl|dn|dp|dr=>kit_is)
  (case ds|dt|du|dw|dx=>k_is)
  (case dy=>kernel_rfl)
  (case d0|d1=>k_is)
  (case d2=>kernel_rfl)
  (case bg|d3|d4|d6|d7|d9|ea|eb|ec|ed|bh|bi|bj|ee|eg|eh|ei|bk|bl|al|ej|ek|bm|bn|an|el|em|bo|bp|ap|en|eq|er=>k_is)
  (case es|et=>rfl)
  (case eu=>decide)
  (case ev=>exact .cons ⟨_,rfl⟩ (.cons ⟨_,rfl⟩ (.nil)))
  (case ey|ez=>k_is)
  (case e0|e1=>rfl)
  (case e2=>decide)
  (case e3=>exact .cons ⟨_,rfl⟩ (.cons ⟨_,rfl⟩ (.nil)))
