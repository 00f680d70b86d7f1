import PyProof.Rows.All
import Wide.All
import OpenK.AllK
import Wide.FinOn
import Lean
import PyProof.EqAt
import PyProof.EqKinds
import PyProof.TupleCall
import PyProof.ExcInit
import PyProof.ExcClass2
import PyProof.InstStoreFacts
import OpenK.KOwn
import PyProof.RulesAs
import PyProof.ExcAttrAll.ValueError
import KE.KIsAll
import KE.KRevSl
import KE.KRevIter
import PyProof.Rows.SortRuns
import PySem.SetTable
import PySem.SetOps
import PyProof.TupleKey
import PyProof.SetKind
import PyProof.Rows.SetObj
import KE.KDictSum
import PyProof.WalkInts
import KE.KDictOf
import PyProof.AttrMissHeap
import PyProof.DictWalks
import KE.KDictLaws
import KE.KDictList
import PyProof.FString2
import PyProof.ReprRoads
import PyProof.ReprLen
import PyProof.Rows.CallKwBuiltin
import PySem.Challenge.RW_digbook_k62_widest_told
set_option linter.all false
structure PySem.W.Fast:Prop where(tw5781017556961779446 tw3329646474564956866 tw5603813516360926861 tw14420295642580751258 tw15658041157784438119 tw11294341326183952050 tw1889281520546438412 tw4726775236711905524 tw14973210548224245699 tw15228528418981963597 tw7105038405772935933 tw847671646190509922 tw17818399842343708604 tw6173614302607569910 tw5995884494059416031 tw1798712814793112338 tw17677327077009682568 tw11738849775684889308 tw15243863082823259700 tw8587287908476411799 tw11988018047154351653 tw13994697155194010366 tw16711656516300264446 tw13962857381343287723 tw17184361982169891611 tw13998120112377911586 tw16420129092347944271 tw13784435488353571843 tw170779730949552860 tw14140842898470596693 tw2084615784714358007 tw3778389221824210374 tw11487896545379211130 tw6877404481727975961 tw11284670140312135158 tw1012101032474325548 tw9235318554475561175 tw11420609205360523700 tw6792365765217677611 tw13742331488237780313 tw1300299463372700040 tw10275763711742083279 tw4144455901182204160 tw9228276687615950714 tw3255162332934600565 tw10689132139149379582 tw9038968748881888925 tw3863409971849364556 tw9953810423623985046 tw14176028934559430198 tw5212923739616391391 tw15638580087991722818 tw14199913565767330303 tw14863773127696584223 tw16019725641933011807 tw8222671338788554662 tw6258548587710037876 tw11300581716096070440 tw2093051700865255191 tw795741830689377789 tw16839135357407848436 tw6440789663994317526 tw10467077672289280072 tw3981229615696343376 tw1611151334918853979 tw3582443803391670650 tw17309916646484775575 tw9480967125867934559 tw4770753118814478998 tw6975018435805541067 tw2998374607115302123 tw7106103838318245000 tw7107609611980683142 tw14674366274356683140 tw4814089230718823050 tw2072680327947677399 tw7332020651436487398 tw15165013940058198001 tw4422810111562750592 tw68492529805207240 tw1666851115455194190 tw7945093222351940713 tw6925778246481106874 tw18056159381684668850 tw8368774483373112178 tw2877856836775512268 tw11782323796199913819 tw3049277021542360788 tw5054804886360191046 tw6437437840566234714 tw823314019231169983 tw16437419577451434231 tw14698928897574007676 tw2531762202952866118 tw3255483140789340348 tw12847841974032112128 tw11451966073109413359 tw10961314423937131017 tw160511890231009239 tw12971508777939145245 tw3805168713311045450 tw12407178895870733915 tw18244927621403957707 tw16512892688360467981 tw14443028865929468961 tw5524643442968511888 tw16590634482534007531 tw3983277071693838069 tw9328996835287929176 tw4181227585461819633 tw16101293688596322809 tw3581768756207580037 tw15296818144393669430 tw3982614366126159719 tw4179229504585971143 tw739253321856754152 tw17658994558091868879 tw17580298136612046488 tw16283383715096390030 tw16487673261892013062 tw12364111019954002191 tw10986623329782515691 tw8613885988842191822 tw10823772514974274408 tw17229572385117138261 tw132970529458216811 tw3180710022685138403 tw17724069964163754112 tw9600088386292836833 tw9716886567687322714 tw17353861305822124632 tw7704062555122823391 tw10940409817050035187 tw11178609163799839566 tw15547155251838297976 tw123740818211207162 tw2901676855052546957 tw11593088088640160054 tw6640100341834509160 tw4079002075732045939 tw6171020477885416179 tw5922603057628994391 tw11557010518410394300 tw6574557791444885184 tw9095274849379572776 tw14756005915370056674 tw16588951855342081803 tw14151248551451052201 tw17076078954229292460 tw10122444290384582401 tw15862727764592672528 tw18339271454651149949 tw1362151150570204215 tw2533316540205760912 tw15797923207889860253 tw7241567166763812048 tw1600033055811993090 tw11458774478057464447 tw2819601753892893547 tw15028686604070145890 tw4963270415406378038 tw18026784392394326868 tw2408033996114283131 tw9903041782404989569 tw11916667037141621357 tw14836322867374115001 tw7706743160164493780 tw16649863349721778960 tw3720880997208475455 tw4222211051510124258 tw16737734067371927454 tw15891565577221931367 tw3985380172058705847 tw10595466944205823829 tw8453017751137631628 tw18141527723065730472 tw11382585959518208727 tw15764356139867222270 tw5160805208672939586 tw14333437123311977356 tw6626482220302987652 tw7387096633455372295 tw6653740629774607531 tw3130983216968508669 tw11715069741443658913 tw15116361126602539367 tw8139937882215363636 tw3253586269738576158 tw13035420464917619103 tw14012886561363445699 tw9183170692512576904 tw12205279449059478910 tw2428605676251394116 tw1468504120380231078 tw5509371780817970970 tw8352952487957604910 tw9678981738570002478 tw6310923831001825430 tw6098638061277426433 tw123760720706597046 tw44306854279820298 tw13053683751863526793 tw11892077226663324097 tw358303267771233641 tw569637132883031509 tw9904081504811530097 tw9825423968300981248 tw11275471292221236626 tw6757019703891665990 tw9271308430323264584 tw3344727067947741484 tw1283848198114420501 tw460631421816759147 tw15535091134206005386 tw7308719010461046449 tw7603647688153503420 tw6415704043655023765 tw3176407148857687218 tw854593734381186069 tw15703411876283984209 tw12098917754680230238 tw9332507981452367049 tw6422091730766236793 tw512303689915210557 tw13032596902492195839 tw9516987344607534995 tw6295180995427879473 tw6588014468252975777 tw14531744158543776555 tw13983942753236867564 tw18259634740301660926 tw1864562132391982176 tw1642842513056749110 tw17146212771735714123 tw7385327382268744499 tw4035154615832986226 tw18042464694424187694 tw310252069898090852 tw18111715214906473776 tw13037647261349911902 tw12155271905277833519 tw16550012240750091201 tw7103128046047767534 tw5484689875238746103 tw2584064939112525586 tw12417840059587975503 tw10883756434194573305 tw6773707599152273272 tw5526862023162355539 tw16387526321233018393 tw12613542102749330022 tw8613448183722477025 tw7973847818034415532 tw7968682468404351873 tw6801655807350416215 tw6338331484828495880 tw6239335724938743247 tw4989795972193895332 tw4527079781822029088 tw346130132452673197 tw3422479688507828478 tw18273268965062972498 tw16395486450679434612 tw15582414055281395870 tw14649182745444077500 tw14396796956065799414 tw13880147232133001205 tw13258711622860523712 tw12159632099000316511 tw11628342131800864455 tw10851349278573838571 tw3020348282109658512 tw9383064285221627283 tw17739856338287190200 tw14490875557566940783 tw3666603455731430063 tw3557316986307474825 tw194683136357553534 tw13575512717813763016 tw1052376479736539616 tw5565292699794739444 tw9529263929249769629 tw8946884583150244220 tw7355445948366900777 tw6960264956377422991 tw4117627483884046129 tw3021047229734050883 tw18041316637323190521 tw16547041195430752991 tw16199270423533782246 tw14897478224335245228 tw14661332456163343125 tw13336259790308563639 tw13086896903531274468 tw12481720459557218174 tw12187703467175683790 tw13692113647851282670 tw3485442135873333156 tw8500390017038114598 tw4592508568661828834:0=0)
theorem Z0{c:Sort _}{b:Prop}{a:c}:a=a∨b:=Or.inl rfl
theorem Z1{c:Sort _}{b:Prop}{a:c}:b∨a=a:=Or.inr rfl
def Z2:=@PySem.wpAny_bind
def Z3:=@PySem.wpAny_pure
def Z4:=@List.getElem?_eq_getElem
def Z6:=@List.length_map
def Z7:=@PySem.Heap.get?_push_of_some
def Z8:=@List.mem_of_getElem?
def Z9:=@List.length_append
def Za:=@Option.some.inj
def Zb:=@Array.length_toList
def Zc:=@List.getD_eq_getElem?_getD
def Zd:=@List.map_append
def Ze:=@List.append_assoc
def Zf:=@decide_eq_true
def Zg:=@Nat.lt_of_lt_of_le
def Zh:=@decide_eq_false
def Zi:=@Nat.le_refl
def Zj:=@PySem.Heap.get?_push_size
def Zk:=@List.mem_cons_of_mem
def Zl:=@List.getElem?_map
def Zm:=@List.mem_cons_self
def Zn:=@List.take_of_length_le
def Zo:=@of_decide_eq_true
def Zp:=@List.size_toArray
def Zq:=@PySem.Heap.size_push
def Zr:=@List.length_cons
def Zs:=@Array.getD_eq_getD_getElem?
def Zt:=@Nat.ne_of_lt
def Zu:=@Bool.false_ne_true
def Zv:=@PySem.Heap.lt_size
def Zw:=@Nat.add_sub_cancel_left
def Zx:=@Bool.and_eq_true
def Zy:=@List.any_cons
def Zz:=@List.append_nil
def Y0:=@List.extract_eq_take_drop
def Y1:=@Bool.false_eq_true
def Y2:=@List.filterMap_cons
def Y3:=@List.filter_append
def Y4:=@List.filter_cons_of_neg
def Y6:=@List.filter_cons_of_pos
def Y7:=@List.filter_nil
def Y8:=@List.foldl_cons
def Y9:=@List.getElem?_append_left
def Ya:=@List.getElem?_append_right
def Yb:=@List.getElem?_drop
def Yc:=@List.getElem?_take
def Yd:=@List.getElem?_take_of_lt
def Ye:=@List.getElem_mem
def Yf:=@Nat.le_of_lt
def Yg:=@Nat.le_succ
def Yh:=@Nat.le_trans
def Yi:=@List.length_drop
def Yj:=@List.length_filter_le
def Yk:=@List.length_range
def Yl:=@List.length_singleton
def Ym:=@List.length_take
def Yn:=@List.lookup_cons
def Yo:=@Nat.lt_succ_of_lt
def Yp:=@Nat.lt_succ_self
def Yq:=@List.map_congr_left
def Yr:=@List.map_cons
def Ys:=@List.map_map
def Yt:=@List.mem_append
def Yu:=@List.mem_append_left
def Yv:=@List.mem_append_right
def Yw:=@List.mem_cons
def Yx:=@List.mem_of_mem_drop
def Yy:=@List.mem_of_mem_take
def Yz:=@List.mem_singleton
def X1:=@Nat.min_eq_left
def X2:=@Nat.ne_of_gt
def X3:=@List.nodup_append
def X4:=@List.nodup_iff_pairwise_ne
def X6:=@List.nodup_nil
def X7:=@Nat.not_lt_zero
def X8:=@List.not_mem_nil
def X9:=@Bool.or_eq_false_iff
def Xa:=@List.pairwise_map
def Xb:=@List.take_add_one
def Xc:=@List.take_append_drop
def Xd:=@List.take_append_of_le_length
def Xe:=@Array.toList_append
def Xf:=@Nat.zero_le
def Xg:=@List.getElem?_of_mem
def Xh:=@List.Pairwise.imp_of_mem
def Xi:=@Int.eq_ofNat_of_zero_le
def Xj:=@Array.size_push
def Xk:=@Nat.lt_irrefl
def Xl:=@List.Perm.append_right
def Xm:=@List.getElem?_eq_none
theorem Xn{b:Type _}{l:List b}{i:Nat}{a:b}(h:l[i]?=some a):∃h:i<l.length,l[i]=a:=List.getElem?_eq_some_iff.mp h
theorem Xo{b:Type _}{a:b}{s t:List b}(h:a∈s++t):a∈s∨a∈t:=List.mem_append.mp h
theorem Xp{c:Type _}{a b:c}(h:a∈[b]):a=b:=List.mem_singleton.mp h
theorem Xq{c d:Type _}{f:c->d}{l:List c}{b:d}(h:b∈l.map f):∃a,a∈l/\f a=b:=List.mem_map.mp h
theorem Xr{c d:Type _}{f:c->d}{l:List c}{b:d}(h:∃a,a∈l/\f a=b):b∈l.map f:=List.mem_map.mpr h
open Array (forIn_toList getD_eq_getD_getElem? getElem?_toList length_toList mem_toList_iff size_append size_map toList_append toList_extract toList_push)
open Bool (and_eq_true false_eq_true or_eq_false_iff or_eq_true)
open List (all_eq_true all_map any_cons any_map append_nil cons_append countP_cons drop_drop drop_zero ext_getElem extract_eq_take_drop filterMap_cons filter_append filter_cons filter_cons_of_neg filter_cons_of_pos filter_nil flatMap_append foldl_cons forIn_cons getD_eq_getElem?_getD getElem?_append_left getElem?_append_right getElem?_drop getElem?_map getElem?_take getElem?_take_of_lt getElem_mem getElem_of_mem length_append length_cons length_drop length_eq_zero_iff length_filter_le length_map length_nil length_pos_iff length_range length_singleton length_take length_zip lookup_cons map_append map_congr_left map_cons map_id map_map map_nil mem_append mem_append_left mem_append_right mem_cons mem_cons_of_mem mem_cons_self mem_filterMap mem_flatMap mem_map mem_of_mem_drop mem_of_mem_take mem_range mem_singleton nil_append nodup_append nodup_cons nodup_iff_pairwise_ne nodup_nil nodup_range not_mem_nil of_mem_zip pairwise_append pairwise_iff_getElem pairwise_map perm_append_comm range_succ size_toArray take_add_one take_append_drop take_append_of_le_length take_of_length_le)
open Nat (add_mod add_sub_cancel add_sub_cancel_left add_zero le_add_right le_of_lt le_refl le_succ le_trans le_zero lt_of_lt_of_le lt_succ_of_lt lt_succ_self min_eq_left mod_lt ne_of_gt ne_of_lt not_lt_zero one_pos pow_succ sub_self succ_pos zero_add zero_le)
open Option (getD_none getD_some isSome_iff_exists isSome_map map_eq_some_iff)
open PyProof.Rows (boot_abs boot_all boot_int boot_isinstance boot_list boot_max boot_min boot_set boot_sorted boot_str boot_tuple signs_length)
open PySem.F (called_set plainAttrs_dict plainAttrs_list plainAttrs_str slot_dict_get slot_str_join type_dict_get type_str_join)
open PySem.Heap (SameBut get?_push_of_some get?_push_size get?_update_other get?_update_self lt_size)
open PySem.W (KatTups Looks callWith_K cellsFrom_some codeIn emptyDict findIn fnOf handedIn hasDictIn instObj isFn keepIn kia_one kitOne kitx_dict kitx_list lookIn makesIn mg_none_of mg_of nsIn plainGet plainGet_of plainOver takerIn)
set_option maxHeartbeats 0
set_option Elab.async false
set_option compiler.extract_closed false
set_option maxRecDepth 100000
section
open PySem
local macro_rules|`(⋯)=>`(by lia)|`(∅)=>`(by simp)
local macro_rules|`(⇑$s:ident)=>`(Shared.heap $s|>.objs.size)
local macro_rules|`(~~~$x:ident)=>`(wpAny (model ($x).prog ($x).w) ($x).A)
local macro_rules|`($s:ident>>>$e)=>`({$s with heap:=$e})
local macro_rules|`(%[$x,*|$y])=>`(⟨$x,*,$y⟩)
def zqp:Nat->Lean.Syntax->Lean.Syntax
 |n+1,.node i k a=>if k==`«term%[_|_]»then .node i `Lean.Parser.Tactic.rcasesPat.tuple #[.atom i "⟨",.node i `null (a[1]!.getArgs.push (.atom i ",")|>.push a[3]!|>.map λx=>if x.isAtom then x else .node i `Lean.Parser.Tactic.rcasesPatLo #[.node i `Lean.Parser.Tactic.rcasesPatMed #[.node i `null #[zqp n x]],.node i `null #[]]),.atom i "⟩"]else .node i `Lean.Parser.Tactic.rcasesPat.ignore #[.atom i "_"]
 |_,x=>.node .none `Lean.Parser.Tactic.rcasesPat.one #[x]
local macro_rules|`(tactic|have $p:term:=$h)=>if p.raw.isOfKind `«term%[_|_]»then`(tactic|obtain $(⟨zqp 99 p⟩):rcasesPat:=$h)else Lean.Macro.throwUnsupported
local macro_rules|`(tactic|intro $p*)=>if p.any (·.raw.isOfKind `«term%[_|_]»)then do
  let q:=p.map λx=>(⟨.node .none `Lean.Parser.Tactic.rintroPat.one #[zqp 99 x]⟩:Lean.TSyntax `rintroPat)
  `(tactic|rintro $q*)else Lean.Macro.throwUnsupported
set_option hygiene false in
local macro_rules|`(↥$a:ident)=>`(wpAny (model prog w) $a)
set_option hygiene false in
local macro_rules|`(command|#where)=>`(variable{prog:Program}{w:World}{A:Around}{E:ZD}{s:Shared})
set_option hygiene false in
local macro_rules|`(command|#version)=>`(variable{X:Cx}{pins:ZE}{σ:St}{H:Hp}{s:Shared})
abbrev ZA:=PySem.W.Frag
abbrev ZB:=List PySem.Str
abbrev ZC:=PySem.Str->Option PySem.Value
abbrev ZD:=PySem.Value->PySem.Shared->Prop
abbrev ZE:=List (PySem.Addr×PySem.Obj)
abbrev ZF:=List PySem.Value
abbrev ZG:=List (PySem.Addr×List PySem.Str)
abbrev ZH:=List (PySem.Addr×PySem.Str×List PySem.Str)
abbrev ZI:=Option PySem.Addr
abbrev ZJ:=Array PySem.Value
abbrev ZK:=Array (Option PySem.Value)
abbrev ZL:=List Int
set_option genSizeOf false
set_option genInjectivity false
set_option bootstrap.genMatcherCode false
namespace L2
open PySem PySem.Spec PyProof.Rows
noncomputable abbrev Key:=Sum Int Str
noncomputable def jH:Key->Value->Bool
 | .inl k,v=>Value.isInt k v
 | .inr x,v=>Value.isStrOf x v
noncomputable def keyH(w:World):Key->Int
 | .inl k=>hashInt k
 | .inr x=>hashStr w x
theorem bd:∀{k:Key} {v:Value},jH k v=true->(∃i t,k=Sum.inl i/\v=Value.int i t)\/(∃x t,k=Sum.inr x/\v=Value.str x t)
 | .inl i,v,h=>by
   have%[t|e]:=Value.isInt_shape h;exact .inl %[i,t,rfl|e]
 | .inr x,v,h=>by
   have%[t|e]:=Value.isStrOf_shape h;exact .inr %[x,t,rfl|e]
theorem xT(i:Int)(t:Tok):jH (.inl i) (.int i t)=true:=by simp[jH,Value.isInt]
theorem dU(x:Str)(t:Tok):jH (.inr x) (.str x t)=true:=by simp[jH,Value.isStrOf]
theorem Ei(a b:Int):decide ((Sum.inl a:Key)=Sum.inl b)=(a==b):=by
 by_cases e:a=b
 .subst e;simp
 simp_all
theorem Ej(a b:Str):decide ((Sum.inr a:Key)=Sum.inr b)=decide (a=b):=by
 simp
noncomputable def aO(prog:Program)(w:World):PySem.KeyKind prog w Key where
 is:=jH
 hash:=keyH w
 inj:=λv a b ha hb=>by
  rcases bd ha with⟨i,t,rfl,rfl⟩|⟨x,t,rfl,rfl⟩
  .rcases bd hb with⟨j,u,rfl,e⟩|⟨y,u,rfl,e⟩
   .injection e with e1 _;rw[e1]
   .exact nomatch e
  .rcases bd hb with⟨j,u,rfl,e⟩|⟨y,u,rfl,e⟩
   .exact nomatch e
   .injection e with e1 _;rw[e1]
 byValue:=λk v h=>by
  rcases bd h with⟨i,t,rfl,rfl⟩|⟨x,t,rfl,rfl⟩<;> rfl
 pyHash:=λhv h=>by
  rcases bd hv with⟨i,t,rfl,rfl⟩|⟨x,t,rfl,rfl⟩
  .exact wpAny_pyHash_int h
  .exact wpAny_pyHash_str h
 eqBool:=λhu hv h=>by
  rcases bd hu with⟨i,t,rfl,rfl⟩|⟨x,t,rfl,rfl⟩
  .rcases bd hv with⟨j,u,rfl,rfl⟩|⟨y,u,rfl,rfl⟩
   .rw[Ei]at h;exact wpAny_eqBool_int h
   .exact SeqAt.EqAt.int_str i t y u _ _ _ _ h
  .rcases bd hv with⟨j,u,rfl,rfl⟩|⟨y,u,rfl,rfl⟩
   .exact SeqAt.EqAt.str_int x t j u _ _ _ _ h
   .rw[Ej]at h;exact wpAny_eqBool_str h
 «strs»:=λk x t v h=>by
  rcases bd h with⟨i,u,rfl,e⟩|⟨y,u,rfl,e⟩
  .exact nomatch e
  .injection e with e1 _
   subst e1;cases v<;> rfl
theorem tH(prog:Program)(w:World)(i:Int)(t:Tok):(aO prog w).is (.inl i) (.int i t)=true:=xT i t
theorem tJ(prog:Program)(w:World)(x:Str)(t:Tok):(aO prog w).is (.inr x) (.str x t)=true:=dU x t
set_option genInjectivity true in
inductive V where
 | non|bl (b:Bool)|int (i:Int)|str (x:Str)|byt (b:Array UInt8)|flt (b:UInt64)|ref (a:Addr)|ty (n:String)
 deriving DecidableEq
def aP:V->Value->Prop
 | .non,u=>u=Value.none
 | .bl b,u=>u=Value.bool b
 | .int i,u=>∃t,u=Value.int i t
 | .str x,u=>∃t,u=Value.str x t
 | .byt b,u=>∃t,u=Value.bytes b t
 | .flt b,u=>∃t,u=Value.float b t
 | .ref a,u=>u=Value.ref a
 | .ty n,u=>u=Value.type n
abbrev aI:List V->ZF->Prop:=Paired aP
theorem aI.length{xs:List V}{us:ZF}(r:aI xs us):xs.length=us.length:=Paired.length r
theorem aI.get:∀{xs:List V} {us:ZF} {i:Nat} {x:V},aI xs us->xs[i]? =some x->∃u,us[i]? =some u/\aP x u
 | _,_,_,_,.nil,e=>by simp at e
 | _,_,0,_,.cons r _,e=>by simp at e;subst e;exact%[_,rfl|r]
 | _,_,i+1,x,.cons _ t,e=>by
   have%[u,a|b]:=aI.get t (e);exact%[u,a|b]
theorem aI.append:∀{xs ys:List V} {us ws:ZF},aI xs us->aI ys ws->aI (xs++ys) (us++ws)
 | _,_,_,_,.nil,s=>s
 | _,_,_,_,.cons r t,s=> .cons r (aI.append t s)
theorem aI.take:∀{xs:List V} {us:ZF} n,aI xs us->aI (xs.take n) (us.take n)
 | _,_,0,_=> .nil
 | _,_,_+1,.nil=> .nil
 | _,_,n+1,.cons r t=> .cons r (aI.take n t)
theorem aI.drop:∀{xs:List V} {us:ZF} n,aI xs us->aI (xs.drop n) (us.drop n)
 | _,_,0,r=>r
 | _,_,_+1,.nil=> .nil
 | _,_,n+1,.cons _ t=>aI.drop n t
def gN:Option V->Option Value->Prop
 | some v,some u=>aP v u
 | none,none=>True
 | _,_=>False
noncomputable def KV{a:Type}:List (a×V)->List (a×Value)->Prop:=Paired λp q=>p.1=q.1/\aP p.2 q.2
noncomputable def kV:Key->V
 | .inl i=> .int i
 | .inr x=> .str x
set_option genInjectivity true in
inductive HO where
 | lst (xs:List V)
 | tup (xs:List V)
 | dK (kvs:List (Key×V))|dT (kvs:List (List Key×V))
 | set (S:Int->Bool) (n:Nat)
 | ins (C dx:Addr) (fs:List (Str×V))
 | own (x:Addr)
 | xd (fs:List (Str×V))
 | met (f x:Addr)
 | rng (lo hi:Int)
 | frz (o:Obj) (u:HO)
 | tbl (ps:ZJ)
 | ext (φ:Heap->Prop)
noncomputable abbrev Hp:=Addr->Option HO
noncomputable def upd(H:Hp)(a:Addr)(o:HO):Hp:=λb=>if b=a then some o else H b
theorem aa:upd H a o a=some o:=by unfold upd;rw[if_pos rfl]
theorem ao{H:Hp}{a b:Addr}{o:HO}(h:b≠a):upd H a o b=H b:=by unfold upd;rw[if_neg h]
theorem Gg{H:Hp}(h:H a=some o)(h':H b=some u)(d:o≠u):a≠b:=by
 intro e;subst e;rw[h]at h';exact d (Za h')
theorem ay{H:Hp}{a b:Addr}{o:HO}(h:H a=some o)(h':H b=none):a≠b:=by
 lia
section
variable(P:Program)(w:World)
def ce(H:Hp)(h:Heap)(a:Addr):HO->Prop
 | .lst xs=>xs.length<=sizeLine/\∃(its:ZF) (n:Nat),aI xs its/\h.get? a=some {cls:= .type "list",data:= .seq its.toArray n}
 | .tup xs=>xs.length<=sizeLine/\∃its:ZF,aI xs its/\IsTup h a its.toArray
 | .dK b=>b.length<=sizeLine/\(a==sysModules)=false/\∃vs,KV b vs/\h.DictOf (aO P w) a vs
 | .dT b=>b.length<=sizeLine/\(a==sysModules)=false/\∃xs:List (List Key×Addr×Value),
  Paired (λ(p:List Key×V) (q:List Key×Addr×Value)=>p.1=q.1/\H q.2.1=some (.tup (p.1.map kV))/\aP p.2 q.2.2) b xs/\
  ∃o g l,h.get? a=some o/\o.ExactDict/\o.data= .dict g l/\g.toList=xs.map (entryOfKey (tupleKind (aO P w)))/\(xs.map (·.1)).Nodup
 | .set S n=>h.SetOf (intKind P w) a S n
 | .ins C d fs=>H d=some (.own a)/\fs.length<=1000/\d≠a/\h.get? a=some (instObj C d)/\
  ∃c,h.Ns1 d c/\(∀f,gN (fs.lookup f) (c f))/\PySem.Within c (fs.map (·.1))
 | .own _=>∃o,h.get? a=some o
 | .xd fs=>∃c,h.Ns1 a c/\∀f,gN (fs.lookup f) (c f)
 | .rng lo hi=>∃t u v,h.get? a=some {cls:= .type "range",data:= .fields #[.int lo t,.int hi u,.int 1 v]}
 | .frz o u=>h.get? a=some o/\ce H h a u
 | .tbl ps=>h.get? a=some {cls:= .none,data:= .fields ps}
 | .met f x=>h.get? a=some (PySem.W.methodObj (.ref f) (.ref x))
 | .ext e=>e h/\(∃o,h.get? a=some o)/\∀i j,e i->(∀o,i.get? a=some o->j.get? a=some o)->e j
def HOk(H:Hp)(h:Heap):Prop:=∀a o,H a=some o->ce P w H h a o
end
section
variable{P:Program}{w:World}{H H':Hp}{h h':Heap}{a:Addr}{o:HO}
theorem ce.lt(x:ce P w H h a o):a<h.objs.size:=by
 cases o with
 | lst xs=>have%[_,_,_,_|e]:=x;exact Zv e
 | tup xs=>have%[_,_,_|p]:=x;exact p.lt
 | dK b=>have%[_,_,_,_,o,_,_,e|_]:=x;exact Zv e
 | dT b=>have%[_,_,_,_,o,_,_,e|_]:=x;exact Zv e
 | set S n=>have%[o,_,_,_,e|_]:=x;exact Zv e
 | ins C c fs=>have%[_,_,_,e|_]:=x;exact Zv e
 | own y=>have%[_|e]:=x;exact Zv e
 | xd fs=>have%[_,%[_,_,_,e|_]|_]:=x;exact Zv e
 | rng lo hi=>have%[_,_,_|e]:=x;exact Zv e
 | frz d u=>have%[e|_]:=x;exact Zv e
 | tbl ps=>exact Zv (x)
 | met f y=>exact Zv (x)
 | ext g=>have%[_,%[_|e]|_]:=x;exact Zv e
theorem Paired.mapP{F G:c->d->Prop}:∀{l₁:List c} {l₂:List d},Paired F l₁ l₂->(∀a b,F a b->G a b)->Paired G l₁ l₂
 | _,_,.nil,_=> .nil
 | _,_,.cons r t,f=> .cons (f _ _ r) (Paired.mapP t f)
theorem ce.stay(x:ce P w H h a o)(k:∀b u,(b=a\/H b=some (.own a))->h.get? b=some u->h'.get? b=some u)
 (A:∀b,H b=some (.own a)->H' b=some (.own a)) (B:∀b xs,H b=some (.tup xs)->H' b=some (.tup xs)):ce P w H' h' a o:=by
 induction o with
 | lst xs=>have%[z,its,n,r|e]:=x;exact%[z,its,n,r|k _ _ (.inl rfl) e]
 | tup xs=>have%[z,its,r,g,e|c]:=x;exact%[z,its,r,g,k _ _ (.inl rfl) e|c]
 | dK l=>have%[z,y,vs,r,g,i,j,e|c]:=x;exact%[z,y,vs,r,g,i,j,k _ _ (.inl rfl) e|c]
 | dT l=>
   have%[z,y,xs,r,g,i,j,e|c]:=x;exact%[z,y,xs,Paired.mapP r λp q z=>%[z.1,B _ _ z.2.1|z.2.2],g,i,j,k _ _ (.inl rfl) e|c]
 | set S n=>have%[g,i,j,t,e|c]:=x;exact%[g,i,j,t,k _ _ (.inl rfl) e|c]
 | ins C I fs=>
   have%[d,z,ne,e,m,%[s,i,j,E|c]|r]:=x;exact%[A _ d,z,ne,k _ _ (.inl rfl) e,m,%[s,i,j,k _ _ (.inr d) E|c]|r]
 | own y=>have%[g|e]:=x;exact%[g|k _ _ (.inl rfl) e]
 | xd fs=>have%[m,%[s,i,j,e|c]|r]:=x;exact%[m,%[s,i,j,k _ _ (.inl rfl) e|c]|r]
 | rng lo hi=>have%[t,u,v|e]:=x;exact%[t,u,v|k _ _ (.inl rfl) e]
 | frz g u G=>have%[e|q]:=x;exact%[k _ _ (.inl rfl) e|G q]
 | tbl ps=>
   exact k a _ (.inl rfl) x
 | met f y=>
   exact k a _ (.inl rfl) x
 | ext J=>have%[p,%[o|e]|st]:=x;exact%[st _ _ p λo q=>k _ _ (.inl rfl) q,%[o|k _ _ (.inl rfl) e]|st]
theorem HOk.lt(x:HOk P w H h)(e:H a=some o):a<h.objs.size:=(x a o e).lt
theorem HOk.fresh(x:HOk P w H h)(e:h.objs.size<=a):H a=none:=by
 cases q:H a with
 | none=>rfl
 | some u=>exact absurd (Zg (x.lt q) e) (Xk _)
theorem HOk.kept(x:HOk P w H h)(k:∀b u,h.get? b=some u->h'.get? b=some u):HOk P w H h':=λa o e=>
 (x a o e).stay (λb u _ q=>k b u q) (λ_ q=>q) λ_ _ q=>q
theorem HOk.laid(x:HOk P w H h)(k:∀b u,h.get? b=some u->h'.get? b=some u)(g:h.objs.size<=a)(new:ce P w (upd H a o) h' a o):HOk P w (upd H a o) h':=λb u e=>by
 have d:=x.fresh g;by_cases f:b=a
 .subst f;rw[aa]at e;grind
 .rw[ao f]at e;exact(x b u e).stay (λc v _ q=>k c v q) (λc q=>(ao (ay q d))▸q) λc xs q=>(ao (ay q d))▸q
end
def Rd(H:Hp)(a:Addr)(u:HO):Prop:=H a=some u\/∃o,H a=some (.frz o u)
theorem Rd.ok{P:Program}{w:World}{H:Hp}{h:Heap}{a:Addr}{u:HO}(r:Rd H a u)(x:HOk P w H h):ce P w H h a u:=by
 rcases r with r|⟨o,r⟩
 .exact x a u r
 .have%[_|q]:=x a _ r;exact q
def Mut:Option HO->Prop
 | some (.lst _)=>True
 | some (.dK _)=>True
 | some (.dT _)=>True
 | some (.set _ _)=>True
 | some (.ins _ _ _)=>True
 | some (.ext _)=>True
 | _=>False
section
variable{P:Program}{w:World}{H:Hp}{h h':Heap}{x e:Addr}{o':HO}
theorem HOk.write(ok:HOk P w H h)(g:Mut (H x))(m:e=x\/H e=some (.own x))(k:∀b u,b≠e->h.get? b=some u->h'.get? b=some u)(i:∃u,h'.get? e=some u)
 (new:ce P w (upd H x o') h' x o'):HOk P w (upd H x o') h':=λb u q=>by
 have d:∀c y,H c=some (.own y)->c≠x:=λc y r z=>by subst z;rw[r]at g;exact g
 have f:∀c xs,H c=some (.tup xs)->c≠x:=λc xs r z=>by subst z;rw[r]at g;exact g
 by_cases j:b=x
 .subst j;rw[aa]at q;grind
 .rw[ao j]at q;by_cases a:b=e
  .have l:H b=some (.own x):=by
    rcases m with z|z
    .exact absurd (a.trans z) j
    .exact a▸z
   rw[q]at l;cases l;have%[v|n]:=i;exact%[v|a▸n]
  .refine(ok b u q).stay (λc v o r=>k c v ?_ r) (λc r=>(ao (d c b r))▸r) λc xs r=>(ao (f c xs r))▸r
   grind
end
structure Un (fs ex:List Addr) (H H':Hp) (h h':Heap):Prop where
 keep:∀b o,h.get? b=some o->H b=none->b∉fs->b∉ex->h'.get? b=some o
 slot:∀b o,h.get? b=some o->H b=none->b∈fs->b∉ex->∃sl,h'.get? b=some {o with slots:=sl}
 free:∀b o,h.get? b=some o->H b=none->b∉ex->H' b=none
 there:∀b o,h.get? b=some o->b∉ex->∃o',h'.get? b=some o'
 tups:∀b xs,H b=some (.tup xs)->H' b=some (.tup xs)
 frzs:∀b o u,H b=some (.frz o u)->H' b=some (.frz o u)
 tbls:∀b ps,H b=some (.tbl ps)->∃more,H' b=some (.tbl (ps++more))
section
variable{fs fs' ex ex':List Addr}{H H1 H2:Hp}{h h1 h2 h':Heap}{a x e:Addr}{o:HO}
theorem Un.any(u:Un fs ex H H1 h h1)(q:h.get? b=some c)(n:H b=none)(d:b∉ex):∃g,h1.get? b=some {c with slots:=g}:=by
 by_cases f:b∈fs
 .exact u.slot b c q n f d
 .exact%[c.slots|u.keep b c q n f d]
theorem Un.trans(a:Un fs ex H H1 h h1)(b:Un fs ex H1 H2 h1 h2):Un fs ex H H2 h h2 where
 keep:=λc ob q n hc hx=>b.keep c ob (a.keep c ob q n hc hx) (a.free c ob q n hx) hc hx
 slot:=λc ob q n hc hx=>by
  have%[sl|e1]:=a.slot c ob q n hc hx;have%[sl'|e2]:=b.slot c _ e1 (a.free c ob q n hx) hc hx;exact%[sl'|e2]
 free:=λc ob q n hx=>by
  have%[o'|e1]:=a.there c ob q hx;exact b.free c o' e1 (a.free c ob q n hx) hx
 there:=λc ob q hx=>by
  have%[o'|e1]:=a.there c ob q hx;exact b.there c o' e1 hx
 tups:=λc xs q=>b.tups c xs (a.tups c xs q)
 frzs:=λc ob xs q=>b.frzs c ob xs (a.frzs c ob xs q)
 tbls:=λc ps q=>by
  have%[m1|e1]:=a.tbls c ps q;have%[m2|e2]:=b.tbls c _ e1;exact%[m1++m2|by rw[e2,Array.append_assoc]]
theorem Un.kept(k:∀b u,h.get? b=some u->h'.get? b=some u):Un fs ex H H h h':=
 %[λb c q _ _ _=>k b c q,λb c q _ _ _=>%[c.slots|k b c q],λ_ _ _ n _=>n,λb c q _=>%[c|k b c q],λ_ _ q=>q,λ_ _ _ q=>q|λ_ ps q=>%[#[]|by rw[q];simp]]
theorem Un.refl:Un fs ex H H h h:=Un.kept λ_ _ q=>q
theorem Un.laid(k:∀b u,h.get? b=some u->h'.get? b=some u)(hp:h.objs.size<=a)(hn:H a=none):Un fs ex H (upd H a o) h h' where
 keep:=λb u q _ _ _=>k b u q
 slot:=λb u q _ _ _=>%[u.slots|k b u q]
 free:=λb u q n _=>(ao (Zt (Zg (Zv q) hp)))▸n
 there:=λb u q _=>%[u|k b u q]
 tups:=λb xs q=>(ao (ay q hn))▸q
 frzs:=λb u xs q=>(ao (ay q hn))▸q
 tbls:=λb ps q=>%[#[]|by rw[ao (ay q hn),q];simp]
theorem Un.write(f:Mut (H x))(l:e=x\/H e=some (.own x))(k:∀b u,b≠e->h.get? b=some u->h'.get? b=some u)(i:∃u,h'.get? e=some u):Un fs ex H (upd H x o) h h':=by
 have j:∀b,H b=none->b≠x:=λb n z=>by subst z;rw[n]at f;exact f
 have g:∀b,H b=none->b≠e:=λb n z=>by
  simp_all
 have c:∀b u,H b=some u-> ¬ Mut (some u)->b≠x:=λb u q m z=>by simp_all
 refine%[λb u q n _ _=>k b u (g b n) q,λb u q n _ _=>%[u.slots|k b u (g b n) q],λb u q n _=>(ao (j b n))▸n,λb u q _=>?_,
  λb xs q=>(ao (c b _ q λz=>z))▸q,λb u xs q=>(ao (c b _ q λz=>z))▸q|λb ps q=>%[#[]|by rw[ao (c b _ q λz=>z),q];simp]]
 by_cases d:b=e
 .simp_all
 .exact%[u|k b u d q]
end
noncomputable def trk(h:Heap)(H:Hp):List Addr:=(List.range h.objs.size).filter λa=>(H a).isSome
noncomputable def xU(h:Heap)(H:Hp):Heap:=PySem.W.hideAll h (trk h H)
theorem xV(h:Heap)(H:Hp):(xU h H).objs.size=h.objs.size:=PySem.W.hideAll_size _ _
theorem zJ(e:h.get? b=some o)(n:H b=none):(xU h H).get? b=some o:=
 PySem.W.hideAll_get _ e λa=>by
  have q:=(List.mem_filter.mp a).2;rw[n]at q;simp at q
theorem B9(e:(xU h H).get? b=some o):h.get? b=some o/\H b=none:=by
 have a:=PySem.W.of_hideAll _ e;refine%[a|?_];cases q:H b with
 | none=>rfl
 | some x=>
   have z:(xU h H).get? b=none:=PySem.W.hideAll_none _ (List.mem_filter.mpr %[mem_range.mpr (Zv a)|by simp[q]])
   grind
noncomputable def Ca(g h:Heap)(L:Addr):ZE:=(List.range h.objs.size).filterMap λa=>if a=L\/(g.get? a).isSome=true then none else(h.get? a).map λo=>(a,o)
noncomputable def rest(g h:Heap)(L d:Addr):ZE:=(Ca g h L).filter λp=>decide (p.1≠d)
structure Mod (K:ZA) (mg:ZC) (base:Heap):Prop where
 kin:K.In base
 glob:base.Ns mainGlobals mg
 blt:∃mb,base.Ns builtinsNs mb/\∀x:Str,x≠"__name__"->mb x=bootBuiltins x
 nolimit:base.NoLimit
structure Cx where
 prog:Program
 w:World
 K:ZA
 mg:Str->Option Value
 base:Heap
 A:Around
 N:ZB
 s₀:Shared
 H₀:Hp
 env:Env
 outer:List Env
 stack:List Env
 ex:List Addr
 fn:Str->Bool
 calm:Bool
 pn:ZE
 xe:Value->Shared->Prop
noncomputable def frs(l:List Env):List Addr:=l.filterMap (·.frame)
noncomputable abbrev Cx.fs(X:Cx):List Addr:=frs X.outer
def Vis(a:Scope)(x:Str):Prop:=a.names.lookup x=some .local\/a.names.lookup x=some .cell\/a.names.lookup x=some .free
def Loc(a:Scope)(x:Str):Prop:=a.names.lookup x=some .local\/a.names.lookup x=some .cell
def Look(env:Env)(h:Heap)(m:ZC)(x:Str)(u:Value):Prop:=
 (env.kindOf x=some .local/\m x=some u)\/((env.kindOf x=some .cell\/env.kindOf x=some .free)/\∃c,env.cells.lookup x=some c/\h.IsCell c (some u))
structure Cx.Ok (X:Cx):Prop where
 mod:Mod X.K X.mg X.base
 kind:X.env.scope.kind= .function
 glob:X.env.globals=mainGlobals
 blt:X.env.builtins=builtinsNs
 above:X.s₀.heap.objs.size<=X.env.locals
 inj:∀x y c,X.env.cells.lookup x=some c->X.env.cells.lookup y=some c->x=y
 has:∀x,(X.env.kindOf x=some .cell\/X.env.kindOf x=some .free)->∃c,X.env.cells.lookup x=some c
 cab:∀x c,X.fn x=true->X.env.cells.lookup x=some c->X.s₀.heap.objs.size<=c
 hd:X.calm=true->X.A.handled=none
 frames:X.A.frames=some X.stack
 stk:X.stack=X.outer\/(X.stack=X.env::X.outer/\X.env.frame=some X.env.locals)
 exf:∀b∈X.ex,b≠X.env.locals/\∀x c,X.env.cells.lookup x=some c->c≠b
 bs:∀b o,X.base.get? b=some o->X.s₀.heap.get? b=some o/\X.H₀ b=none
 bsz:X.base.objs.size<=X.s₀.heap.objs.size
 noex:∀b o,X.base.get? b=some o->b∉X.ex
 exfs:∀b∈X.ex,b∉X.fs
 funs:X.s₀.heap.FunFrames X.base X.outer
 frf:∀b∈X.fs,X.H₀ b=none
structure Inv (X:Cx) (pins:List _) (σ:List _) (H:Hp) (s:Shared):Prop where
 ok:X.Ok
 os:s.os=X.s₀.os
 bare:AllBare s.gens
 base:Un X.fs X.ex X.H₀ H X.s₀.heap s.heap
 loc:∃m,s.heap.Ns X.env.locals m/\∀(i:Nat) x v,X.N[i]? =some x->σ[i]? =some (some v)->Vis X.env.scope x->∃u,aP v u/\Look X.env s.heap m x u
 cell:∀x c,X.env.cells.lookup x=some c->∃v,s.heap.IsCell c v
 free:H X.env.locals=none
 freeC:∀x c,X.env.cells.lookup x=some c->H c=none
 pin:∀p∈X.pn++pins,s.heap.get? p.1=some p.2/\H p.1=none/\p.1≠X.env.locals/\p.1∉X.fs/\∀v,p.2.data≠ .cell v
 hok:HOk X.prog X.w H s.heap
 len:σ.length=X.N.length
section
variable{X:Cx}{pins:ZE}{σ:List (Option V)}{H H':Hp}{s:Shared}{h':Heap}
theorem Cx.Ok.nofr(ok:X.Ok)(e:X.base.get? b=some o):b∉X.fs:=λa=>by
 have:=(ok.funs.mem a).1
 grind
theorem Inv.bs(I:Inv X pins σ H s):∀b o,X.base.get? b=some o->s.heap.get? b=some o/\H b=none:=λb o e=>
 %[I.base.keep b o (I.ok.bs b o e).1 (I.ok.bs b o e).2 (I.ok.nofr e) (I.ok.noex b o e)|I.base.free b o (I.ok.bs b o e).1 (I.ok.bs b o e).2 (I.ok.noex b o e)]
theorem Inv.bk(I:Inv X pins σ H s):∀b o,X.base.get? b=some o->s.heap.get? b=some o:=λb o e=>(I.bs b o e).1
theorem Inv.mod(I:Inv X pins σ H s):Mod X.K X.mg X.base:=I.ok.mod
theorem Inv.kIn(I:Inv X pins σ H s):X.K.In s.heap:=I.ok.mod.kin.keeps I.bk
theorem Inv.lt(I:Inv X pins σ H s):X.env.locals<⇑s:=let⟨_,a,_⟩:=I.loc;a.lt
theorem Inv.sz(I:Inv X pins σ H s):X.s₀.heap.objs.size<=⇑s:=Yh I.ok.above (Yf I.lt)
theorem Inv.nofs(I:Inv X pins σ H s)(h:⇑s<=a):a∉X.fs:=λb=>by
 have%[_,o,c|_]:=I.ok.funs.mem b;exact absurd (Zg (Zv c) (Yh I.sz h)) (Xk _)
theorem Inv.cne(I:Inv X pins σ H s):∀x c,X.env.cells.lookup x=some c->c≠X.env.locals:=λx c e z=>by
 have%[v,o,d|f]:=I.cell x c e;have%[m,%[g,h,i,a,b|_]|_]:=I.loc
 grind
theorem Inv.funs(I:Inv X pins σ H s):s.heap.FunFrames X.base X.outer:=by
 have all:∀l,(∀b∈frs l,b∈X.fs)->X.s₀.heap.FunFrames X.base l->s.heap.FunFrames X.base l:=by
  intro l
  induction l with
  | nil=>intro _ _;trivial
  | cons env r g=>
    intro f h;have%[i,%[L,o,a,j,m|n]|p]:=h;have c:=f L (by unfold frs;rw[Y2,a];exact Zm);have%[q|e]:=I.base.slot L o m (I.ok.frf L c) c λz=>I.ok.exfs L z c
    exact%[i,%[L,_,a,j,e|n]|g (λb d=>f b (by unfold frs;rw[Y2,a];exact Zk _ d)) p]
 exact all X.outer (λ_ d=>d) I.ok.funs
theorem Inv.stack(I:Inv X pins σ H s):s.heap.FunFrames X.base X.stack:=by
 rcases I.ok.stk with e|⟨e,a⟩
 .exact e▸I.funs
 .rw[e];have%[m,b|_]:=I.loc;exact .cons (by rw[I.ok.kind];decide) a b (Heap.get?_none_of_le (Yh I.ok.bsz I.ok.above)) I.funs
theorem Inv.stkSub(I:Inv X pins σ H s):∀b∈frs X.stack,b∈X.env.locals::X.fs:=λb a=>by
 rcases I.ok.stk with e|⟨e,c⟩
 .rw[e]at a;exact Zk _ a
 .rw[e]at a;unfold frs at a;rw[Y2,c]at a;exact a
theorem Inv.stkFree(I:Inv X pins σ H s):∀b∈frs X.stack,H b=none:=λb a=>by
 rcases mem_cons.mp (I.stkSub b a)with e|a
 .exact e▸I.free
 .have%[_,o,c|_]:=I.ok.funs.mem a;exact I.base.free b o c (I.ok.frf b a) λz=>I.ok.exfs b z a
theorem Inv.step{d':Drawn}{ch:List Addr}(I:Inv X pins σ H s)
 (f:∀b∈ch,(b∈X.ex\/X.s₀.heap.objs.size<=b)/\b≠X.env.locals/\(∀x c,X.env.cells.lookup x=some c->c≠b)/\∀p∈X.pn++pins,p.1≠b)
 (keep:∀b o,b≠X.env.locals->b∉X.fs->b∉ch->s.heap.get? b=some o->H b=none->h'.get? b=some o)
 (slot:∀b o,b≠X.env.locals->b∈X.fs->b∉ch->s.heap.get? b=some o->H b=none->∃E,h'.get? b=some {o with slots:=E}) (free:∀b o,b∉ch->s.heap.get? b=some o->H b=none->H' b=none)
 (there:∀b o,b∉ch->s.heap.get? b=some o->∃A,h'.get? b=some A)
 (tups:∀b xs,H b=some (.tup xs)->H' b=some (.tup xs)) (frzs:∀b o u,H b=some (.frz o u)->H' b=some (.frz o u)) (tbls:∀b ps,H b=some (.tbl ps)->∃more,H' b=some (.tbl (ps++more)))
 (Q:∀m,s.heap.Ns X.env.locals m->h'.Ns X.env.locals m) (G:HOk X.prog X.w H' h') (T:AllBare g'):
 Inv X pins σ H' {s with heap:=h',gens:=g',drawn:=d',toks:=t'}:=by
 have B:∀b o,X.s₀.heap.get? b=some o->b≠X.env.locals:=λb o e=>Zt (Zg (Zv e) I.ok.above)
 have j:∀b o,X.s₀.heap.get? b=some o->b∉X.ex->b∉ch:=λb o e a w=>by
  rcases(f b w).1 with z|z
  .exact a z
  .exact absurd (Zg (Zv e) z) (Xk _)
 have g:∀x c,X.env.cells.lookup x=some c->∀v,s.heap.IsCell c v->h'.IsCell c v:=λx c e v ⟨o,y,J⟩=>by
  have h:=λz=>(f c z).2.2.1 x c e rfl
  by_cases M:c∈X.fs
  .have%[E|q]:=slot c o (I.cne x c e) M h y (I.freeC x c e);exact%[_,q|J]
  .exact%[o,keep c o (I.cne x c e) M h y (I.freeC x c e)|J]
 refine%[I.ok,I.os,T,%[λb o e n w a=>?_,λb o e n w a=>?_,λb o e n a=>?_,λb o e a=>?_,λb xs e=>tups b xs (I.base.tups b xs e),λb o xs e=>frzs b o xs (I.base.frzs b o xs e)|λb ps e=>?_],?_,λx c e=>?_,?_,λx c e=>?_,λp N=>?_,G|I.len]
 .exact keep b o (B b o e) w (j b o e a) (I.base.keep b o e n w a) (I.base.free b o e n a)
 .have%[E|t]:=I.base.slot b o e n w a;have%[L|C]:=slot b _ (B b o e) w (j b o e a) t (I.base.free b o e n a);exact%[L|C]
 .have%[A|t]:=I.base.there b o e a;exact free b A (j b o e a) t (I.base.free b o e n a)
 .have%[A|t]:=I.base.there b o e a;exact there b A (j b o e a) t
 .have%[U|t]:=I.base.tbls b ps e;have%[m2|C]:=tbls b _ t;exact%[U++m2|by rw[C,Array.append_assoc]]
 .have%[m,Y|hl]:=I.loc;refine%[m,Q m Y|λi x v t C e3=>?_];have%[u,r|l]:=hl i x v t C e3;refine%[u,r|?_];rcases l with l|⟨k,c,e,z⟩
  .exact .inl l
  .exact .inr %[k,c,e|g x c e _ z]
 .have%[v|z]:=I.cell x c e;exact%[v|g x c e v z]
 .have%[m,%[o,_,_,y|_]|_]:=I.loc;exact free _ o (λz=>(f _ z).2.1 rfl) y I.free
 .have%[v,o,y|J]:=I.cell x c e;exact free c o (λz=>(f c z).2.2.1 x c e rfl) y (I.freeC x c e)
 .have%[e,n,ne,O|d]:=I.pin p N;have h:=λz=>(f p.1 z).2.2.2 p N rfl
  exact%[keep p.1 p.2 ne O h e n,free p.1 p.2 h e n,ne,O|d]
theorem Inv.un{t':Nat}(I:Inv X pins σ H s)(u:Un X.fs [] H H' s.heap h')(c:HOk X.prog X.w H' h'):Inv X pins σ H' {s with heap:=h',toks:=t'}:=by
 have%[m,%[o,p,q,h|r]|_]:=id I.loc;have%[t|i]:=u.any h I.free ∅;exact I.step (ch:=[]) (λ_ z=>nomatch z) (λb o _ d _ e n=>u.keep b o e n d ∅) (λb o _ d _ e n=>u.slot b o e n d ∅) (λb o _ e n=>u.free b o e n ∅) (λb o _ e=>u.there b o e ∅) u.tups u.frzs u.tbls (λv j=>by
  have%[w,f,g,a|l]:=j;rw[h]at a;cases a;exact%[_,f,g,i|l]) c I.bare
theorem Inv.call{d':Drawn}{ch:List Addr}(I:Inv X pins σ H s)(u:Un (frs X.stack) ch H H' s.heap h')(g:HOk X.prog X.w H' h')(q:AllBare g')
 (d:∀b∈ch,(b∈X.ex\/X.s₀.heap.objs.size<=b)/\b≠X.env.locals/\(∀x c,X.env.cells.lookup x=some c->c≠b)/\∀p∈X.pn++pins,p.1≠b):
 Inv X pins σ H' {s with heap:=h',gens:=g',drawn:=d',toks:=t'}:=by
 have%[m,%[o,y,A,l|r]|_]:=id I.loc;have%[B|h]:=u.any l I.free λz=>(d _ z).2.1 rfl
 exact I.step d (λb o h t a e n=>u.keep b o e n (λz=>(mem_cons.mp (I.stkSub b z)).elim h t) a) (λb o _ _ a e n=>u.any e n a) (λb o a e n=>u.free b o e n a) (λb o a e=>u.there b o e a) u.tups u.frzs u.tbls (λC v=>by
  have%[E,i,j,f|w]:=v;rw[l]at f;cases f;exact%[_,i,j,h|w]) g q
theorem Inv.turned{a:Addr}(I:Inv X pins σ H s)(k:∀b o,b≠a->s.heap.get? b=some o->h'.get? b=some o)(B:H a=none)(g:a≠X.env.locals)
 (h:a∈X.ex\/X.s₀.heap.objs.size<=a) (i:∀x c,X.env.cells.lookup x=some c->c≠a) (j:∀p∈X.pn++pins,p.1≠a):Inv X pins σ H {s with heap:=h',toks:=t'}:=by
 have f:∀b u,H b=some u->b≠a:=λb u e z=>by lia
 refine I.step (ch:=[a]) (λb l=>?_) (λb o _ _ d e _=>k b o (λz=>d (by simp[z])) e) (λb o _ _ d e _=>%[o.slots|k b o (λz=>d (by simp[z])) e]) (λ_ _ _ _ n=>n)
  (λb o d e=>%[o|k b o (λz=>d (by simp[z])) e]) (λ_ _ e=>e) (λ_ _ _ e=>e) (λb ps e=>%[#[]|by rw[e];simp]) (λm t=>?_) (λb u e=>?_) I.bare
 .have e:=by simpa using l
  subst e;exact%[h,g,i|j]
 .have%[o,w,y,A|r]:=t;exact%[o,w,y,k _ o (Ne.symm g) A|r]
 .refine(I.hok b u e).stay (λc v d q=>k c v ?_ q) (λ_ q=>q) λ_ _ q=>q
  rcases d with z|z
  .exact z▸f b u e
  .exact f c _ z
theorem Inv.tok(I:Inv X pins σ H s)(t:Nat):Inv X pins σ H {s with toks:=t}:=I.un Un.refl I.hok
theorem Inv.kept(I:Inv X pins σ H s)(k:∀b u,s.heap.get? b=some u->h'.get? b=some u):Inv X pins σ H {s with heap:=h',toks:=t'}:=I.un (Un.kept k) (I.hok.kept k)
theorem Inv.laid{a:Addr}{o:HO}{t':Nat}(I:Inv X pins σ H s)(k:∀b u,s.heap.get? b=some u->h'.get? b=some u)(c:⇑s<=a)(new:ce X.prog X.w (upd H a o) h' a o):
 Inv X pins σ (upd H a o) {s with heap:=h',toks:=t'}:=I.un (Un.laid k c (I.hok.fresh c)) (I.hok.laid k c new)
theorem Inv.write(I:Inv X pins σ H s)(c:Mut (H x))(d:e=x\/H e=some (.own x))(k:∀b u,b≠e->s.heap.get? b=some u->h'.get? b=some u)(a:∃u,h'.get? e=some u)
 (new:ce X.prog X.w (upd H x o) h' x o):Inv X pins σ (upd H x o) {s with heap:=h',toks:=t'}:=I.un (Un.write c d k a) (I.hok.write c d k a new)
theorem Inv.pins_of(I:Inv X pins σ H s)(h:∀p∈a,s.heap.get? p.1=some p.2/\H p.1=none/\p.1≠X.env.locals/\p.1∉X.fs/\∀v,p.2.data≠ .cell v):Inv X a σ H s:=
 %[I.ok,I.os,I.bare,I.base,I.loc,I.cell,I.free,I.freeC,λp b=>(Xo b).elim (λz=>I.pin p (Yu _ z)) (h p),I.hok|I.len]
theorem dD{N:ZB}(c:N.Nodup){i j:Nat}{x:Str}(a:N[i]? =some x)(b:N[j]? =some x):i=j:=by
 have%[f|d]:=Xn a;have%[g|e]:=Xn b;exact(List.getElem_inj c).mp (d.trans e.symm)
theorem xW{A:Around}{E:ZD}{i:Nat}{x:Str}{v:V}{u:Value}{Q:Unit->Shared->Prop}(I:Inv X pins σ H s)(hN:X.N.Nodup)(hi:X.N[i]? =some x)(w:Loc X.env.scope x)(r:aP v u)
 (h:∀s',Inv X pins (σ.set i (some v)) H s'->(∃a,SameBut a s.heap s'.heap/\(a=X.env.locals\/X.env.cells.lookup x=some a))->Q () s') (hf:X.fn x=true\/X.env.scope.names.lookup x=some .local):wpAny M A (storeName X.env x u) Q E s:=by
 have%[m,hn|hl]:=id I.loc;have G:i<σ.length:=I.len▸(Xn hi).1;have cne:=I.cne;have g:∀{a:Addr} {h':Heap},(∃o,s.heap.get? a=some o/\H a=none)->SameBut a s.heap h'->HOk X.prog X.w H h':=λ{a h'} ha f b ob e=>by
  have%[_,_|B]:=ha;refine(I.hok b ob e).stay (λc w' t q=>(f.2 c ?_).trans q) (λ_ q=>q) λ_ _ q=>q
  rintro rfl;rcases t with rfl|t
  .rw[B]at e;cases e
  .rw[B]at t;cases t
 rcases w with J|J
 .refine wpAny_storeName_local J hn (λh' ac f=>?_) (by rw[I.ok.kind];rfl);have%[oL,_,_,ae|_]:=id hn;refine h _ %[I.ok,I.os,I.bare,%[λb o e n L w=>?_,λb o e n L w=>?_,I.base.free,λb o e w=>?_,I.base.tups,I.base.frzs|I.base.tbls],%[_,ac|λj y v' l C e3=>?_],λy c e=>?_,I.free,I.freeC,λp hp=>?_,g %[oL,ae|I.free] f|by simpa using I.len] %[_,f|.inl rfl]
  .exact(f.2 b (Zt (Zg (Zv e) I.ok.above))).trans (I.base.keep b o e n L w)
  .have%[sl|l]:=I.base.slot b o e n L w;exact%[sl|(f.2 b (Zt (Zg (Zv e) I.ok.above))).trans l]
  .have%[o'|l]:=I.base.there b o e w;exact%[o'|(f.2 b (Zt (Zg (Zv e) I.ok.above))).trans l]
  .by_cases N:j=i
   .subst N;rw[hi]at l;cases l;rw[List.getElem?_set_self G]at C;cases C;exact%[u,r|.inl %[J|by simp]]
   .rw[List.getElem?_set_ne (Ne.symm N)]at C;have%[u',r'|q]:=hl j y v' l C e3;refine%[u',r'|?_];rcases q with⟨k,e⟩|⟨k,c,e,z⟩
    .refine .inl %[k|?_];have:y≠x:=λe=>N (dD hN l (e▸hi))
     simp[this,e]
    .exact .inr %[k,c,e|z.sameBut f (cne y c e)]
  .have%[w'|z]:=I.cell y c e;exact%[w'|z.sameBut f (cne y c e)]
  .have%[e,n,ne,nf|d]:=I.pin p hp;exact%[(f.2 p.1 ne).trans e,n,ne,nf|d]
 .have O:X.fn x=true:=by
   rcases hf with z|z
   .exact z
   .rw[z]at J;cases J
  have%[c|t]:=I.ok.has x (.inl J);have%[w'|z]:=I.cell x c t;refine wpAny_storeName_cell I.ok.kind J t z (λh' T f=>?_);have%[oc,U|Y]:=id z;refine h _ %[I.ok,I.os,I.bare,%[λb o e n L w=>?_,λb o e n L w=>?_,I.base.free,λb o e w=>?_,I.base.tups,I.base.frzs|I.base.tbls],%[m,hn.sameBut f (Ne.symm (cne x c t))|λj y v' l C e3=>?_],λy c' e=>?_,I.free,I.freeC,λp hp=>?_,g %[oc,U|I.freeC x c t] f|by simpa using I.len] %[c,f|.inr t]
  .exact(f.2 b (Zt (Zg (Zv e) (I.ok.cab x c O t)))).trans (I.base.keep b o e n L w)
  .have%[sl|l]:=I.base.slot b o e n L w;exact%[sl|(f.2 b (Zt (Zg (Zv e) (I.ok.cab x c O t)))).trans l]
  .have%[o'|l]:=I.base.there b o e w;exact%[o'|(f.2 b (Zt (Zg (Zv e) (I.ok.cab x c O t)))).trans l]
  .by_cases N:j=i
   .subst N;rw[hi]at l;cases l;rw[List.getElem?_set_self G]at C;cases C;exact%[u,r|.inr %[.inl J,c,t|T]]
   .rw[List.getElem?_set_ne (Ne.symm N)]at C;have%[u',r'|q]:=hl j y v' l C e3;refine%[u',r'|?_];rcases q with q|⟨k,c',e,z'⟩
    .exact .inl q
    .refine .inr %[k,c',e|z'.sameBut f ?_];rintro rfl;exact N (dD hN l (I.ok.inj _ _ _ e t▸hi))
  .by_cases ab:c'=c
   .subst ab;exact%[_|T]
   .have%[w2|z2]:=I.cell y c' e;exact%[w2|z2.sameBut f ab]
  .have%[e,n,ne,nf|d]:=I.pin p hp;refine%[(f.2 p.1 ?_).trans e,n,ne,nf|d];intro q;rw[q,U]at e;exact d w' ((Za e)▸Y)
theorem nK(I:Inv X pins σ H s)(a:X.N.Nodup)(hi:X.N[i]? =some x)(b:Loc X.env.scope x)(r:aP v u)
 (h:∀s',Inv X pins (σ.set i (some v)) H s'->Q () s') (c:X.fn x=true\/X.env.scope.names.lookup x=some .local):wpAny M A (storeName X.env x u) Q E s:=
 xW I a hi b r (λs' d _=>h s' d) c
theorem Inv.call'(I:Inv X pins σ H s)(e:s'.os=s.os)(u:Un (frs X.stack) ch H H' s.heap s'.heap)(a:HOk X.prog X.w H' s'.heap)(f:AllBare s'.gens)
 (d:∀b∈ch,(b∈X.ex\/X.s₀.heap.objs.size<=b)/\b≠X.env.locals/\(∀x c,X.env.cells.lookup x=some c->c≠b)/\∀p∈X.pn++pins,p.1≠b):Inv X pins σ H' s':=by
 have%[h',g',d',t'|g]:=s';subst e;exact I.call u a f d
end
noncomputable abbrev XK:=Value->ZI->Hp->Prop
noncomputable abbrev St:=List (Option V)
noncomputable abbrev VK:=V->Hp->Prop
noncomputable abbrev TE:=St->Hp->VK->Prop
noncomputable abbrev TT:=St->Hp->(Bool->Hp->Prop)->Prop
noncomputable abbrev TA:=St->Hp->(List V->Hp->Prop)->Prop
structure lF where
 nx:St->Hp->Prop
 rt:VK
 bk:St->Hp->Prop:=λ_ _=>False
 ct:St->Hp->Prop:=λ_ _=>False
noncomputable abbrev TS:=lF->St->Hp->Prop
def EP(X:Cx)(pins:ZE)(b:St)(Q:VK)(u:Value)(s':Shared):Prop:=∃v a,Inv X pins b a s'/\aP v u/\Q v a
def TP(X:Cx)(pins:ZE)(c:St)(Q:Bool->Hp->Prop)(b:Bool)(s':Shared):Prop:=∃a,Inv X pins c a s'/\Q b a
def AP(X:Cx)(pins:ZE)(b:St)(Q:List V->Hp->Prop)(us:ZF)(s':Shared):Prop:=∃vs a,Inv X pins b a s'/\aI vs us/\Q vs a
def SP(X:Cx)(pins:ZE)(D:lF)(f:Flow)(s':Shared):Prop:=
 match f with
 | .next=>∃a b,Inv X pins a b s'/\D.nx a b
 | .brk=>∃a b,Inv X pins a b s'/\D.bk a b
 | .cont=>∃a b,Inv X pins a b s'/\D.ct a b
 | .ret u=>∃v a b,Inv X pins a b s'/\aP v u/\D.rt v b
def PE(X:Cx)(e:Expr)(t:TE):Prop:=
 ∀pins s (a:St) H Q,Inv X pins a H s->t a H Q->(~~~X) (eval e X.env) (EP X pins a Q) X.xe s
def PT(X:Cx)(e:Expr)(t:TT):Prop:=
 ∀pins s (a:St) H Q,Inv X pins a H s->t a H Q->(~~~X) (isTrue e X.env (eval e X.env)) (TP X pins a Q) X.xe s
def PW(X:Cx)(e:Expr)(t:TT):Prop:=
 ∀a pins s (b:St) H Q,Inv X pins b H s->t b H Q->(~~~X) (isTrue e X.env a) (TP X pins b Q) X.xe s
theorem PW.pt{X:Cx}(h:PW X e t):PT X e t:=h _
def PA(X:Cx)(b:List Expr)(t:TA):Prop:=
 ∀pos pins s (a:St) H Q,Inv X pins a H s->t a H Q->(~~~X) (spliced (backTo pos (starEach b X.env))) (AP X pins a Q) X.xe s
def PS(X:Cx)(st:Stmt)(t:TS):Prop:=
 ∀pins s (a:St) H D,Inv X pins a H s->t D a H->(~~~X) (exec st X.env) (SP X pins D) X.xe s
def PSs(X:Cx)(st:List Stmt)(t:TS):Prop:=
 ∀pins s (a:St) H D,Inv X pins a H s->t D a H->(~~~X) (execs st X.env) (SP X pins D) X.xe s
theorem thn{b:Type}{t:Sem b}{Q c:b->Shared->Prop}{M:Model}{A:Around}{E:ZD}{s:Shared}(h:wpAny M A t Q E s)(d:∀a s,Q a s->c a s):wpAny M A t c E s:=wpAny_mono h d λ_ _ x=>x
theorem thP{c d:Type}{t:Sem c}{X:Cx}{pins:ZE}{e:St}{R:d->c->Prop}{Q:d->Hp->Prop}{f:c->Shared->Prop}{M:Model}{A:Around}{E:ZD}{s:Shared}(h:wpAny M A t (λa s=>∃v b,Inv X pins e b s/\R v a/\Q v b) E s)(g:∀a s v b,Inv X pins e b s->R v a->Q v b->f a s):wpAny M A t f E s:=wpAny_mono h (λa s ⟨v,b,i,r,q⟩=>g a s v b i r q) λ_ _ x=>x
theorem thT{c:Type}{t:Sem c}{X:Cx}{pins:ZE}{d:St}{Q:c->Hp->Prop}{e:c->Shared->Prop}{M:Model}{A:Around}{E:ZD}{s:Shared}(h:wpAny M A t (λa s=>∃b,Inv X pins d b s/\Q a b) E s)(f:∀a s b,Inv X pins d b s->Q a b->e a s):wpAny M A t e E s:=wpAny_mono h (λa s ⟨b,i,q⟩=>f a s b i q) λ_ _ x=>x
section
variable{X:Cx}
def asI(x:V)(f:Int->Prop):Prop:=match x with| .int i=>f i|_=>False
def asB(x:V)(f:Bool->Prop):Prop:=match x with| .bl i=>f i|_=>False
def asR(x:V)(f:Addr->Prop):Prop:=match x with| .ref i=>f i|_=>False
theorem Gh:asI (.int i) f=f i:=rfl
theorem Gi:asB (.bl i) f=f i:=rfl
theorem Gj:asR (.ref i) f=f i:=rfl
theorem iY{x:V}{f:Int->Prop}(h:asI x f):∃i,x= .int i/\f i:=by
 cases x<;> first|exact⟨_,rfl,h⟩|exact h.elim
theorem qq{x:V}{f:Bool->Prop}(h:asB x f):∃i,x= .bl i/\f i:=by
 cases x<;> first|exact⟨_,rfl,h⟩|exact h.elim
theorem fB{x:V}{f:Addr->Prop}(h:asR x f):∃i,x= .ref i/\f i:=by
 cases x<;> first|exact⟨_,rfl,h⟩|exact h.elim
theorem Gk:asI x f=∃i,x= .int i/\f i:=propext %[iY|λ⟨_,e,q⟩=>by subst e;exact q]
theorem Gm:asB x f=∃i,x= .bl i/\f i:=propext %[qq|λ⟨_,e,q⟩=>by subst e;exact q]
theorem Gn:asR x f=∃i,x= .ref i/\f i:=propext %[fB|λ⟨_,e,q⟩=>by subst e;exact q]
def pO:Nat->TE
 | 0,some v::_,H,Q=>Q v H
 | i+1,_::a,H,Q=>pO i a H Q
 | _,_,_,_=>False
theorem Ek:pO 0 (some v::a) H Q=Q v H:=rfl
theorem El:pO (i+1) (o::a) H Q=pO i a H Q:=rfl
theorem zK:∀{i:Nat} {a:St},pO i a H Q->∃v,a[i]? =some (some v)/\Q v H
 | 0,some v::_,h=>%[v,rfl|h]
 | 0,none::_,h=>h.elim
 | 0,[],h=>h.elim
 | _+1,[],h=>h.elim
 | i+1,_::a,h=>zK (i:=i) h
def tC(v:V):TE:=λ_ H Q=>Q v H
theorem zL(j:X.N[i]? =some x)(n:Vis X.env.scope x)(d:(x==("__debug__":Str))=false)(f:(x==("__classdict__":Str))=false):PE X (.Name x pos) (pO i):=by
 intro pins s o H Q I h;have%[v,e|h]:=zK h;have%[m,p|q]:=I.loc;have%[u,r|l]:=q i x v j e n;have fin:EP X pins o Q u s:=%[v,H,I,r|h]
 rcases l with⟨b,t⟩|⟨b,c,g,a⟩
 .exact wpAny_Name (wpAny_loadName_local I.ok.kind b p t fin) d
 .rcases b with b|b
  .exact wpAny_Name (wpAny_loadName_cell I.ok.kind b g a fin) d
  .exact wpAny_Name (wpAny_loadName_free I.ok.kind b g a fin f) d
theorem Em{i j pos}:PE X (.Constant (.int i) j pos) (tC (.int i)):=λ_ _ _ H _ I h=>wpAny_Constant_int %[.int i,H,I.tok _,%[_|rfl]|h]
theorem Go{b j pos}:PE X (.Constant (.bool b) j pos) (tC (.bl b)):=λ_ _ _ H _ I h=>Constant_bool %[.bl b,H,I,rfl|h]
theorem En{j pos}:PE X (.Constant .none j pos) (tC .non):=λ_ _ _ H _ I h=>Constant_none %[.non,H,I,rfl|h]
theorem Eo{x j pos}:PE X (.Constant (.str x) j pos) (tC (.str x)):=λ_ _ _ H _ I h=>Calls.Constant_str %[.str x,H,I.tok _,%[_|rfl]|h]
def Gl(X:Cx)(x:Str):Prop:=X.env.kindOf x=some .globalImplicit
theorem rJ(I:Inv X pins d H s)(a:Gl X x)(b:X.mg x=some u)(h:Q u s)
 (c:(x==("__debug__":Str))=false):(~~~X) (eval (.Name x pos) X.env) Q E s:=
 Calls.Name_function_global I.ok.kind a (Calls.loadGlobal_global (I.ok.glob▸I.mod.glob.keeps I.bk) b h) c
theorem jQ(I:Inv X pins i H s)(a:Gl X x)(b:X.mg x=none)(c:bootBuiltins x=some u)(h:Q u s)
 (d:x≠"__name__":=by decide) (e:(x==("__debug__":Str))=false:=by decide):(~~~X) (eval (.Name x pos) X.env) Q E s:=by
 have%[j,f|g]:=I.mod.blt;exact Calls.Name_function_global I.ok.kind a (Calls.loadGlobal_builtin (I.ok.glob▸I.mod.glob.keeps I.bk) b (I.ok.blt▸f.keeps I.bk) ((g x d).trans c) h) e
theorem Cb(a:Gl X x)(b:X.mg x=some u)(r:aP v u)(c:(x==("__debug__":Str))=false):PE X (.Name x pos) (tC v):=
 λ_ _ _ H _ I h=>rJ I a b %[v,H,I,r|h] c
theorem Cc(a:Gl X x)(b:X.mg x=none)(c:bootBuiltins x=some u)(r:aP v u)(d:x≠"__name__")(e:(x==("__debug__":Str))=false):PE X (.Name x pos) (tC v):=
 λ_ _ _ H _ I h=>jQ I a b c %[v,H,I,r|h] d e
variable{a b:Expr}{ta tb:TE}{pos:Pos}
def PC(X:Cx)(op:CmpOp)(a b:Expr)(t:TE):Prop:=
 ∀pins s (e:St) H Q,Inv X pins e H s->t e H Q->
  (~~~X) (eval a X.env) (λv c=>(~~~X) (eval b X.env) (λu d=>(~~~X) (compareOp op v u) (EP X pins e Q) X.xe d) X.xe c) X.xe s
theorem Gp(b:Expr)(h:op≠ .In)(e:op≠ .NotIn):behindInMarks op b=false:=by
 have c:(op==CmpOp.In)=false:=by lia
 have d:(op==CmpOp.NotIn)=false:=by lia
 cases b<;> simp[behindInMarks,c,d]
def tB(t:TE):TT:=λd H Q=>t d H λx e=>asB x λc=>Q c e
theorem zM{op:CmpOp}(h:PC X op a b t)(e:behindInMarks op b=false):PT X (.Compare a [op] [b] pos) (tB t):=by
 intro pins s f H Q I hw;refine wpAny_isTrue_Compare1 (thn (h pins s f H _ I hw) λv n e=>thn e λu o g=>thn g λc p ⟨x,i,j,l,m⟩=>?_) e;have%[d,rfl|q]:=qq m;cases l;exact wpAny_truthy_bool %[i,j|q]
variable{tA tB':TT}{rest:List Expr}
def Cd(t u:TT):TT:=λd H Q=>t d H λc e=>if c=true then u d e Q else Q false e
def tOr(t u:TT):TT:=λd H Q=>t d H λc e=>if c=true then Q true e else u d e Q
def Ep(t:TT):TT:=λd H Q=>t d H λc e=>Q (!c) e
theorem Ce(d:PT X a tA):PW X (.BoolOp .And [a] pos) tA:=by
 intro g pins s f H Q I h;refine isTrue_and (thn (d pins s f H Q I h) λc i e=>?_);cases c with
 | true=>exact isTrue_and_nil e
 | false=>exact e
theorem Er(d:PT X a tA):PW X (.BoolOp .Or [a] pos) tA:=by
 intro g pins s f H Q I h;refine isTrue_or (thn (d pins s f H Q I h) λc i e=>?_);cases c with
 | false=>exact isTrue_or_nil e
 | true=>exact e
theorem Es(i:PT X a tA)(j:PW X (.BoolOp .And (b::rest) pos) tB'):PW X (.BoolOp .And (a::b::rest) pos) (Cd tA tB'):=by
 intro l pins s d H Q I h;refine isTrue_and (thT (i pins s d H _ I h) λc m e f g=>?_);cases c with
 | true=>exact j l pins m d e Q f g
 | false=>exact%[e,f|g]
theorem Gq(i:PT X a tA)(j:PW X (.BoolOp .Or (b::rest) pos) tB'):PW X (.BoolOp .Or (a::b::rest) pos) (tOr tA tB'):=by
 intro l pins s d H Q I h;refine isTrue_or (thT (i pins s d H _ I h) λc m e f g=>?_);cases c with
 | true=>exact%[e,f|g]
 | false=>exact j l pins m d e Q f g
theorem Et(c:PT X a tA):PT X (.UnaryOp .Not a pos) (Ep tA):=by
 intro pins s d H Q I h;exact isTrue_not (c pins s d H _ I h)
def zN(ta tb:TE):TE:=λd H Q=>ta d H λx e=>asB x λc=>if c=true then tb d e Q else Q (.bl false) e
def Eu(ta tb:TE):TE:=λd H Q=>ta d H λx e=>asB x λc=>if c=true then Q (.bl true) e else tb d e Q
theorem Ev{op}(h:PE X a t):PE X (.BoolOp op [a] pos) t:=λpins s c H Q I hw=>BoolOp_one (h pins s c H Q I hw)
theorem Ew(i:PE X a ta)(j:PE X (.BoolOp .And (b::rest) pos) tb):PE X (.BoolOp .And (a::b::rest) pos) (zN ta tb):=by
 intro pins s e H Q I h;refine BoolOp_and (thP (i pins s e H _ I h) λv l x f g m d=>?_);have%[c,rfl|d]:=qq d;cases m;refine wpAny_truthy_bool ?_;cases c with
 | true=>exact j pins l e f Q g d
 | false=>exact%[.bl false,f,g,rfl|d]
theorem Gr(i:PE X a ta)(j:PE X (.BoolOp .Or (b::rest) pos) tb):PE X (.BoolOp .Or (a::b::rest) pos) (Eu ta tb):=by
 intro pins s e H Q I h;refine BoolOp_or (thP (i pins s e H _ I h) λv l x f g m d=>?_);have%[c,rfl|d]:=qq d;cases m;refine wpAny_truthy_bool ?_;cases c with
 | false=>exact j pins l e f Q g d
 | true=>exact%[.bl true,f,g,rfl|d]
def tIf(t:TT)(ta tb:TE):TE:=λd H Q=>t d H λc e=>if c=true then ta d e Q else tb d e Q
theorem zO{c:Expr}(l:PT X c tA)(m:PE X a ta)(n:PE X b tb):PE X (.IfExp c a b pos) (tIf tA ta tb):=by
 intro pins s e H Q I h;refine wpAny_IfExp (thT (l pins s e H _ I h) λd f g i j=>?_);cases d with
 | true=>exact m pins f e g Q i j
 | false=>exact n pins f e g Q i j
end
def SqL(K:ZA)(H:Hp)(a:Addr)(xs:List V):Prop:=
 Rd H a (.lst xs)\/
  ∃o its n,K.lookup a=some o/\o.cls= .type "list"/\o.dict=none/\o.data= .seq its n/\its.size<=sizeLine/\aI xs its.toList
def SqT(K:ZA)(H:Hp)(a:Addr)(xs:List V):Prop:=
 Rd H a (.tup xs)\/
  ∃o its n,K.lookup a=some o/\o.cls= .type "tuple"/\o.data= .seq its n/\its.size<=sizeLine/\aI xs its.toList
noncomputable def absV:Value->Option V
 | .none=>some .non
 | .bool b=>some (.bl b)
 | .int i _=>some (.int i)
 | .str x _=>some (.str x)
 | .bytes b _=>some (.byt b)
 | .float b _=>some (.flt b)
 | .ref a=>some (.ref a)
 | .type n=>some (.ty n)
 | _=>none
theorem aP.abs(r:aP x u):absV u=some x:=by
 cases x with
 | non=>cases r;rfl
 | bl _=>cases r;rfl
 | int _=>have%[t|rfl]:=r;rfl
 | str _=>have%[t|rfl]:=r;rfl
 | byt _=>have%[t|rfl]:=r;rfl
 | flt _=>have%[t|rfl]:=r;rfl
 | ref _=>cases r;rfl
 | ty _=>cases r;rfl
theorem aP.inj(r:aP x u)(q:aP y u):x=y:=Za (r.abs.symm.trans q.abs)
theorem aI.inj:∀{xs ys:List V} {us:ZF},aI xs us->aI ys us->xs=ys
 | _,_,_,.nil,.nil=>rfl
 | _,_,_,.cons r t,.cons a t'=>by rw[r.inj a,aI.inj t t']
section
#version
variable{a:Addr}{xs ys:List V}
theorem SqL.of{K:ZA}(h:H a=some (.lst xs)):SqL K H a xs:= .inl (.inl h)
theorem SqT.of{K:ZA}(h:H a=some (.tup xs)):SqT K H a xs:= .inl (.inl h)
theorem Inv.list(I:Inv X pins σ H s)(h:SqL X.K H a xs):∃its:ZF,aI xs its/\PlainL s.heap a its.toArray/\xs.length<=sizeLine:=by
 rcases h with h|⟨o,its,n,b,c,d,f,g,r⟩
 .have%[z,its,n,r|e]:=h.ok I.hok;exact%[its,r,%[_,n,e,rfl,rfl|rfl]|z]
 .refine%[its.toList,r,%[o,n,I.kIn a o b,c,d|f]|?_];have e:=r.length
  simp_all
theorem Inv.tuple(I:Inv X pins σ H s)(h:SqT X.K H a xs):∃its:ZF,aI xs its/\IsTup s.heap a its.toArray/\xs.length<=sizeLine:=by
 rcases h with h|⟨o,its,n,b,c,d,f,r⟩
 .have%[z,its,r|p]:=h.ok I.hok;exact%[its,r,p|z]
 .refine%[its.toList,r,%[o,I.kIn a o b,c,n|d]|?_];have e:=r.length;simp only[Zb]at e
  lia
theorem Inv.list_inj(I:Inv X pins σ H s)(h:SqL X.K H a xs)(h':SqL X.K H a ys):xs=ys:=by
 have%[its,r,%[o,n,e,_,_|d]|_]:=I.list h;have%[its',c,%[g,i,b,_,_|d']|_]:=I.list h';rw[e]at b;cases b;rw[d]at d';injection d' with f _
 have:=congrArg Array.toList f;subst this;exact r.inj c
theorem Inv.tuple_inj(I:Inv X pins σ H s)(h:SqT X.K H a xs)(h':SqT X.K H a ys):xs=ys:=by
 have%[its,r,%[o,e,_,n|d]|_]:=I.tuple h;have%[its',c,%[g,b,_,i|d']|_]:=I.tuple h';rw[e]at b;cases b;rw[d]at d';injection d' with f _
 have:=congrArg Array.toList f;subst this;exact r.inj c
end
noncomputable abbrev Cx.wish(X:Cx)(E:ZD):Cx:={X with xe:=E}
noncomputable abbrev Cx.nox(X:Cx):Cx:=X.wish λ_ _=>False
theorem Cx.Ok.wish{X:Cx}(ok:X.Ok)(E:ZD):(X.wish E).Ok:=
 %[ok.mod,ok.kind,ok.glob,ok.blt,ok.above,ok.inj,ok.has,ok.cab,ok.hd,ok.frames,ok.stk,ok.exf,ok.bs,ok.bsz,ok.noex,ok.exfs,ok.funs|ok.frf]
theorem Cx.Ok.unwish{X:Cx}{E:ZD}(ok:(X.wish E).Ok):X.Ok:=
 %[ok.mod,ok.kind,ok.glob,ok.blt,ok.above,ok.inj,ok.has,ok.cab,ok.hd,ok.frames,ok.stk,ok.exf,ok.bs,ok.bsz,ok.noex,ok.exfs,ok.funs|ok.frf]
section
#version
variable{E:ZD}
theorem Inv.wish(I:Inv X pins σ H s)(E:ZD):Inv (X.wish E) pins σ H s:=%[I.ok.wish E,I.os,I.bare,I.base,I.loc,I.cell,I.free,I.freeC,I.pin,I.hok|I.len]
theorem Inv.unwish(I:Inv (X.wish E) pins σ H s):Inv X pins σ H s:=%[I.ok.unwish,I.os,I.bare,I.base,I.loc,I.cell,I.free,I.freeC,I.pin,I.hok|I.len]
theorem SP.unwish{D:lF}{f:Flow}{s':Shared}(h:SP (X.wish E) pins D f s'):SP X pins D f s':=by
 cases f with
 | next=>have%[a,b,I|q]:=h;exact%[a,b,I.unwish|q]
 | brk=>have%[a,b,I|q]:=h;exact%[a,b,I.unwish|q]
 | cont=>have%[a,b,I|q]:=h;exact%[a,b,I.unwish|q]
 | ret u=>have%[v,a,b,I,r|q]:=h;exact%[v,a,b,I.unwish,r|q]
theorem PSs.nox{st:List Stmt}(h:PSs X.nox st t):PSs X st t:=λpins s σ H D I hw=>
 wpAny_mono (h pins s σ H D (I.wish _) hw) (λ_ _ q=>q.unwish) λ_ _ z=>False.elim z
end
section
variable{X:Cx}{st:Stmt}{rest:List Stmt}{t u:TS}{e:Expr}{te:TE}{pos:Pos}
def zP:TS:=λD a H=>D.nx a H
def be(t u:TS):TS:=λD a H=>t {D with nx:=u D} a H
theorem Cf:PSs X [] zP:=λ_ _ a H _ I h=>wpAny_execs_nil %[a,H,I|h]
theorem zQ(b:PS X st t)(c:PSs X rest u):PSs X (st::rest) (be t u):=by
 intro pins s d H D I h;refine wpAny_execs_cons (thn (b pins s d H _ I h) λf g q=>?_);cases f with
 | next=>
   have%[a,i,j|q]:=q;exact c pins g a i D j q
 | ret v=>exact q
 | brk=>exact q
 | cont=>exact q
theorem Cg(a:PS X st t):PSs X [st] t:=by
 intro pins s b H D I h;refine wpAny_execs_cons (thn (a pins s b H D I h) λf c q=>?_);cases f with
 | next=>exact wpAny_execs_nil q
 | ret v=>exact q
 | brk=>exact q
 | cont=>exact q
theorem Inv.quiet{pins:List _}{a:St}{H:Hp}{s:Shared}(I:Inv X pins a H s):interactive X.env=false:=by simp[interactive,I.ok.kind]
def kf(te:TE):TS:=λD a H=>te a H λ_ b=>D.nx a b
theorem Ch(b:PE X e te)(c:swapsWith e none pos.line X.env=pure false):PS X (.Expr e pos) (kf te):=by
 intro pins s a H D I h;exact wpAny_Expr_any (thP (b pins s a H _ I h) λv i x d f j g=>%[a,d,f|g]) I.quiet c
def kg(te:TE):TS:=λD a H=>te a H D.rt
theorem Ex(b:PE X e te):PS X (.Return (some e) pos) (kg te):=by
 intro pins s a H D I h;exact wpAny_Return_some (thP (b pins s a H _ I h) λv i x c d f g=>%[x,a,c,d,f|g])
def mX(c:TT)(t u:TS):TS:=λD a H=>c a H λb d=>if b=true then t D a d else u D a d
theorem Gu{c:Expr}{a b:List Stmt}(m:PT X c n)(o:PSs X a t)(p:PSs X b u):PS X (.If c a b pos) (mX n t u):=by
 intro pins s f H D I h;refine wpAny_If (thT (m pins s f H _ I h) λd g i j l=>?_);cases d with
 | true=>exact o pins g f i D j l
 | false=>exact p pins g f i D j l
def zR:TS:=λ_ _ _=>False
theorem zS:PS X st zR:=λ_ _ _ _ _ _ h=>h.elim
end
noncomputable abbrev TG:=V->St->Hp->(St->Hp->Prop)->Prop
noncomputable abbrev TGs:=List V->St->Hp->(St->Hp->Prop)->Prop
def PG(X:Cx)(a:Expr)(t:TG):Prop:=
 ∀pins s (c:St) H v u Q,Inv X pins c H s->aP v u->t v c H Q->
  (~~~X) (assign a X.env u) (λ_ s'=>∃b d,Inv X pins b d s'/\Q b d) X.xe s
def PGs(X:Cx)(ts:List Expr)(t:TGs):Prop:=
 ∀pins s (b:St) H vs us Q,Inv X pins b H s->aI vs us->t vs b H Q->
  (~~~X) (assignInOrder ((assignEach ts X.env).map (·.2)) us) (λ_ s'=>∃a c,Inv X pins a c s'/\Q a c) X.xe s
section
variable{X:Cx}{pos:Pos}
def jI(i:Nat):TG:=λv a H Q=>Q (a.set i (some v)) H
theorem Ci(a:X.N.Nodup)(hi:X.N[i]? =some x)(b:Loc X.env.scope x)(c:X.fn x=true\/X.env.scope.names.lookup x=some .local):PG X (.Name x pos) (jI i):=by
 intro pins s e H v u Q I r h;exact wpAny_assign_Name (nK I a hi b r (λs' d=>%[_,H,d|h]) c)
def Ey:TGs:=λvs a H Q=>vs=[]/\Q a H
def zT(t:TG)(u:TGs):TGs:=λvs b H Q=>∃v r,vs=v::r/\t v b H λa c=>u r a c Q
theorem Cj:PGs X [] Ey:=by
 intro pins s a H vs us Q I r h;have%[e|h]:=h;exact assignInOrder_nil %[a,H,I|h]
theorem zU{e:Expr}{u:TGs}(c:PG X e t)(d:PGs X a u)
 (f:(assignEach (e::a) X.env).map (·.2)=assign e X.env::(assignEach a X.env).map (·.2)):PGs X (e::a) (zT t u):=by
 intro pins s g H vs us Q I r h;have%[v,o,i|h]:=h;subst i;cases r with
 | cons r rr=>
   rw[f];exact assignInOrder_cons (thn (c pins s g H _ _ _ I r h) λ_ j ⟨b,l,m,n⟩=>d pins j b l _ _ Q m rr n)
def zV(K:ZA)(n:Nat)(t:TGs):TG:=λv b H Q=>asR v λa=>∃xs,SqT K H a xs/\xs.length=n/\t xs b H Q
theorem Ez(g:X.calm=true)(h:PGs X c t)
 (i:(assignEach c X.env).length=n) (d:(assignEach c X.env).findIdx? (·.1)=none):PG X (.Tuple c k pos) (zV X.K n t):=by
 intro pins s j H v u Q I r hw;have%[a,l,xs,m,p|hw]:=fB hw;clear ‹zV _ _ _ _ _ _ _›;subst l;cases r;have%[its,f,q|y]:=I.tuple m;exact assign_Tuple_tuple (I.ok.hd g) q (by simp[i,<-p,f.length]) d λh' w=>h pins _ j H xs _ Q (I.kept λb o e=>w b o (Zt (Zv e)) e) (f) hw
def pP(b:TE)(g:TG):TS:=λD a H=>b a H λx c=>g x a c D.nx
theorem EA{a e:Expr}{g:TG}(c:PE X e d)(f:PG X a g)(i:swapsWithSole [a] e pos.line X.env=pure false)(hw:swappedStores [a] e X.env=pure none)
 (j:(assignEach [a] X.env).map (·.2)=[assign a X.env]):PS X (.Assign [a] e pos) (pP d g):=by
 intro pins s b H D I h;refine wpAny_Assign_stores (thP (c pins s b H _ I h) λv l x m n o p=>?_) i hw;rw[j];exact thn (f pins l b m x v _ n o p) λ_ r q=>q
theorem zW{i:Nat}{x:Str}{e:Expr}(b:X.N.Nodup)(hi:X.N[i]? =some x)(c:Loc X.env.scope x)(d:PE X e f)(g:swapsWith e (some (.Name x a)) pos.line X.env=pure false)(j:X.fn x=true\/X.env.scope.names.lookup x=some .local):
 PS X (.Assign [.Name x a] e pos) (pP f (jI i)):=by
 intro pins s l H D I h;exact wpAny_Assign_Name (thP (d pins s l H _ I h) λv r y m n o p=>nK n b hi c o (λt q=>%[_,m,q|p]) j) g
end
section
variable{X:Cx}{pos:Pos}
def zX(c:TT)(h:TS):TS:=λD a H=>∃W:Nat->St->Hp->Prop,(∃m,W m a H)/\∀m a H,W m a H->
 c a H λb e=>if b=true then∃N:St->Hp->Prop,(∀d f,N d f->∃g,g<m/\W g d f)/\h {D with nx:=N,ct:=N,bk:=D.nx} a e else D.nx a e
theorem zY(u:PassesOwn (model X.prog X.w) X.A X.env X.xe)(C:PT X c E)(G:PSs X e J):PS X (.While c e [] pos) (zX E J):=by
 intro pins s L H D I h;have%[W,%[M|O]|g]:=h;refine wpAny_While (codeAny_whileLoop (λn s'=>∃i w,Inv X pins i w s'/\W n i w) ?_ M %[L,H,I|O]);intro n Q %[d,y,T|U];refine wpAny_passesOwn u (thT (C pins Q d y _ T (g n d y U)) λb Y z A l=>?_);cases b with
 | true=>
   have%[N,B|l]:=l;refine wpAny_passesOwn u (thn (G pins Y d z _ A l) λf s3 m=>?_);cases f with
   | next=>
     have%[a,j,o|p]:=m;have%[q,r|t]:=B a j p;exact%[q,r,a,j,o|t]
   | cont=>
     have%[a,j,o|p]:=m;have%[q,r|t]:=B a j p;exact%[q,r,a,j,o|t]
   | brk=>exact m
   | ret v=>exact m
 | false=>
   exact wpAny_execs_nil %[d,z,A|l]
end
structure It where
 go:Nat->Hp->Prop
 yld:Nat->Hp->V->Hp->Prop
 stop:Nat->Hp->Prop
def mY(X:Cx)(pins:ZE)(H:Hp)(b:Addr):Prop:=
 H b=none/\b≠X.env.locals/\b∉X.fs/\(b∈X.ex\/X.s₀.heap.objs.size<=b)/\(∀x c,X.env.cells.lookup x=some c->c≠b)/\∀p∈X.pn++pins,p.1≠b
theorem Inv.fpOk{X:Cx}(I:Inv X pins h H s)(a:⇑s<=b)(d:f b=none):mY X pins f b:=by
 refine%[d,X2 (Zg I.lt a),I.nofs a,.inr (Yh I.sz a),λx c e z=>?_|λp g z=>?_]
 .have%[v|q]:=I.cell x c e;exact absurd (Zg q.lt (z▸a)) (Xk _)
 .exact absurd (Zg (Zv (I.pin p g).1) (z▸a)) (Xk _)
structure nL (P:Program) (w:World) (K:ZA) (tg:Expr) (J:It) (fp:List Addr) (it:Addr) (tn:Nat->Heap->Prop):Prop where
 mem:it∈fp
 obj:∀i h,tn i h->∀b∈fp,∃o,h.get? b=some o/\∀v,o.data≠ .cell v
 keep:∀i h h',tn i h->(∀b∈fp,∀o,h.get? b=some o->h'.get? b=some o)->tn i h'
 item:∀(X:Cx),X.prog=P->X.w=w->X.K=K->X.calm=true->∀i (pins:ZE) s (σ:St) H (E:ZD),Inv X pins σ H s->(∀b∈fp,mY X pins H b)->tn i s.heap->J.go i H->
  wpAny (model P w) X.A (pyNext (.ref it)) (λr s1=>∃u,r=some u/\
   wpAny (model P w) X.A (letOwnedTupleGo tg (.ref it) u) (λ_ s2=>∃x H',Inv X pins σ H' s2/\aP x u/\J.yld i H x H'/\tn (i+1) s2.heap/\∀b∈fp,H' b=none) E s1) E s
 done:∀X,X.prog=P->X.w=w->X.K=K->X.calm=true->∀i pins s (σ:St) H E,Inv X pins σ H s->(∀b∈fp,mY X pins H b)->tn i s.heap->J.stop i H->
  wpAny (model P w) X.A (pyNext (.ref it)) (λr s1=>r=none/\Inv X pins σ H s1) E s
 self:∀A i s Q E,tn i s.heap->Q (.ref it) s->wpAny (model P w) A (pyIter (.ref it)) Q E s
noncomputable abbrev TI:=St->Hp->(It->Hp->Prop)->Prop
def PIE(X:Cx)(pins:ZE)(h:St)(i:Expr)(R:It->Hp->Prop)(a:Value)(d:Shared):Prop:=
 ∃e f g J c,a= .ref e/\Inv X pins h c d/\nL X.prog X.w X.K i J f e g/\g 0 d.heap/\(∀b∈f,mY X pins c b)/\R J c
def PI(X:Cx)(b cj:Expr)(c:TI):Prop:=
 ∀pins s (a:St) H R,Inv X pins a H s->c a H R->
  (~~~X) (eval cj X.env) (λv d=>(~~~X) (pyIter v) (PIE X pins a b R) X.xe d) X.xe s
theorem qr(b:s.heap.get? c=some o)(d:o.cls= .type n)(e:o.data= .fields vs)
 (f:["enumerate","zip","dict_itemiterator","dict_reverseitemiterator","odict_iterator","itertools.zip_longest","itertools.pairwise"].contains n=false) (a:Q () s):wpAny M A (letOwnedTupleGo g (.ref c) u) Q E s:=by
 cases g<;> first
  | exact Z3 a
  |(cases u<;> first
   | exact Z3 a
   |(refine Z2 (wpAny_load b ?_)
     rw[d,e];show wpAny M A (if(["enumerate","zip","dict_itemiterator","dict_reverseitemiterator","odict_iterator","itertools.zip_longest","itertools.pairwise"].contains n&&vs[0]? ==some _)=true then _ else _) Q E s;rw[if_neg (by intro h;rw[f,Bool.false_and]at h;cases h)];exact Z3 a))
noncomputable def Itl(K:ZA)(a:Addr):It:=
 ⟨λi H=>∃xs x,SqL K H a xs/\xs[i]? =some x,λi H x b=>b=H/\∀xs,SqL K H a xs->xs[i]? =some x,λi H=>∃xs,SqL K H a xs/\xs.length<=i⟩
noncomputable def Itt(K:ZA)(a:Addr):It:=
 ⟨λi H=>∃xs x,SqT K H a xs/\xs[i]? =some x,λi H x b=>b=H/\∀xs,SqT K H a xs->xs[i]? =some x,λi H=>∃xs,SqT K H a xs/\xs.length<=i⟩
noncomputable def Itr(lo:Int)(n:Nat):It:=%[λi _=>i<n,λi H x a=>a=H/\x= .int (lo+i)|λi _=>n<=i]
theorem xX{P:Program}{K:ZA}(a it:Addr):nL P w K tg (Itl K a) [it] it (λi h=>h.IsListIter it a i) where
 mem:=by simp
 obj:=λi h st b hb=>by
  have e:=by simpa using hb
  subst e;have%[o,e,c|d]:=st;exact%[o,e|λv z=>by rw[d]at z;cases z]
 keep:=λi h h' st k=>st.at λo e=>k it ∅ o e
 item:=by
  intro X hP hw hK hc i pins s σ H E I hf st hg;subst hP hw hK;have%[xs,x,hq|hx]:=hg;have%[its,rv,p|hz]:=I.list hq;have%[u,hu|ru]:=rv.get hx;have%[f0,f1,f2,f3,f4|f5]:=hf it ∅;refine wpAny_pyNext_list_item st p.isList (by simpa using hu) λh' st' sb=>?_
  have%[o,e,c|d]:=id st';exact%[u,rfl|qr e c d (by decide) %[x,H,(I.turned (λb o hb e=>(sb.2 b hb).trans e) f0 f1 f3 f4 f5),ru,%[rfl|λys hy=>(I.list_inj hy hq)▸hx],st'|λb hb=>(hf b hb).1]]
 done:=by
  intro X hP hw hK hc i pins s σ H E I hf st hg;subst hP hw hK;have%[xs,hq|hx]:=hg;have%[its,rv,p|hz]:=I.list hq;have%[f0,f1,f2,f3,f4|f5]:=hf it ∅;have hl:=rv.length;exact wpAny_pyNext_list_end (I.ok.hd hc) st p.isList (by simp;lia) λh' eb=>%[rfl|I.turned (λb o hb e=>eb b o hb e) f0 f1 f3 f4 f5]
 self:=λ_ _ _ _ _ st h=>wpAny_pyIter_listiter st h
theorem vk{P:Program}{K:ZA}(a it:Addr):nL P w K tg (Itt K a) [it] it (λi h=>h.IsTupleIter it a i) where
 mem:=by simp
 obj:=λi h st b hb=>by
  have e:=by simpa using hb
  subst e;have%[o,e,c|d]:=st;exact%[o,e|λv z=>by rw[d]at z;cases z]
 keep:=λi h h' st k=>st.at λo e=>k it ∅ o e
 item:=by
  intro X hP hw hK hc i pins s σ H E I hf st hg;subst hP hw hK;have%[xs,x,hq|hx]:=hg;have%[its,rv,p|hz]:=I.tuple hq;have%[u,hu|ru]:=rv.get hx;have%[f0,f1,f2,f3,f4|f5]:=hf it ∅;refine wpAny_pyNext_tuple_item st (p) (by simpa using hu) λh' st' sb=>?_
  have%[o,e,c|d]:=id st';exact%[u,rfl|qr e c d (by decide) %[x,H,(I.turned (λb o hb e=>(sb.2 b hb).trans e) f0 f1 f3 f4 f5),ru,%[rfl|λys hy=>(I.tuple_inj hy hq)▸hx],st'|λb hb=>(hf b hb).1]]
 done:=by
  intro X hP hw hK hc i pins s σ H E I hf st hg;subst hP hw hK;have%[xs,hq|hx]:=hg;have%[its,rv,p|hz]:=I.tuple hq;have%[f0,f1,f2,f3,f4|f5]:=hf it ∅;have hl:=rv.length;exact wpAny_pyNext_tuple_end (I.ok.hd hc) st (p) (by simp;lia) λh' eb=>%[rfl|I.turned (λb o hb e=>eb b o hb e) f0 f1 f3 f4 f5]
 self:=λ_ _ _ _ _ st h=>wpAny_pyIter_tupleiter st h
theorem vm{P:Program}{K:ZA}(it:Addr)(lo:Int)(n:Nat):nL P w K tg (Itr lo n) [it] it (λi h=>IsRangeIter h it (lo+(i:Nat)*1) ((n:Int) -(i:Nat)) 1) where
 mem:=by simp
 obj:=λi h st b hb=>by
  simp_all
 keep:=λi h h' st k=>k it ∅ _ st
 item:=by
  intro X hP hw hK hc i pins s σ H E I hf st hg;subst hP hw hK;have%[f0,f1,f2,f3,f4|f5]:=hf it ∅;refine(Walks.range (prog:=X.prog) (w:=X.w) (I.ok.hd hc) it lo 1 n).item i s _ _ hg st λv h' tk hv st' kk=>?_
  have%[t|rfl]:=hv;refine%[_,rfl|qr st' rfl rfl (by decide) %[.int _,H,(I.turned (λb o hb e=>kk b o (by simpa using hb) e) f0 f1 f3 f4 f5),%[t|?_],%[rfl|rfl],st'|λb hb=>(hf b hb).1]];rw[Int.mul_one]
 done:=by
  intro X hP hw hK hc i pins s σ H E I hf st hg;have%[f0,f1,f2,f3,f4|f5]:=hf it ∅;exact wpAny_pyNext_range_end (I.ok.hd hc) st (by have:n<=i:=hg;lia) λh' eb=>%[rfl|I.turned (λb o hb e=>eb b o hb e) f0 f1 f3 f4 f5]
 self:=λ_ _ _ _ _ st h=>wpAny_pyIter_rangeiter st h
section
variable{X:Cx}{tg:Expr}
theorem zZ{R:It->Hp->Prop}{lo hi:Int}(I:Inv X pins c H s)(d: -(2^62)<=lo)(f:lo<2^62)(g: -(2^62)<=hi)(h:hi<2^62)
 (q:R (Itr lo (hi-lo).toNat) H):(~~~X) (pyIter (.ref ⇑s)) (PIE X pins c tg R) E {s with heap:=s.heap.push {cls:= .type "range",data:= .fields #[.int lo t,.int hi u,.int 1 v]},toks:=tk}:=by
 refine wpAny_pyIter_range (IsRange.new ..) (small_one d f g h) ?_;have a:Inv X pins c H {s with heap:=s.heap.push {cls:= .type "range",data:= .fields #[.int lo t,.int hi u,.int 1 v]},toks:=tk}:=I.kept λb o e=>Z7 _ e
 refine%[(s.heap.push _).objs.size,[(s.heap.push _).objs.size],_,_,H,rfl,
  a.kept λb o e=>Z7 _ e,vm _ lo _,?_,λb i=>?_|q]
 .have j:lo+((0:Nat))*1=lo:=by simp
  have l:(((hi-lo).toNat)) -((0:Nat))=Builtin.Range.rangeSize lo hi 1:=by rw[rangeSize_one];split<;> lia
  rw[j,l];exact Zj _ rfl
 .have e:b=(s.heap.push {cls:= .type "range",data:= .fields #[.int lo t,.int hi u,.int 1 v]}).objs.size:=by simpa using i
  subst e;exact a.fpOk (Zi _) (a.hok.fresh (Zi _))
def Aa(a:TA):TI:=λb H R=>a b H λvs c=>∃j:Int,vs=[.int j]/\ -(2^62)<=j/\j<2^62/\R (Itr 0 j.toNat) c
theorem xY{a:Expr}(c:Gl X "range")(d:X.mg "range"=none)(f:PA X [a] g)(i:starEach [a] X.env=[(false,eval a X.env)]):PI X tg (.Call (.Name "range" p) [a] [] pos) (Aa g):=by
 intro pins s l H R I h;refine Call_ (jQ I c d boot_range (PyProof.Rows.callWith_type1 (thP (f pos pins s l H _ I h) λus u vs v m n b=>?_) i rfl));have%[j,e,b,o|q]:=b;subst e;cases n with
 | cons r rr=>
   cases rr;have%[t|rfl]:=r;exact call_range_1 (zZ m ⋯ ⋯ b o (by simpa using q))
def Ab(f:TI)(g:TG)(h:TS):TS:=λD a H=>f a H λJ j=>∃W:Nat->Nat->St->Hp->Prop,(∃m,W 0 m a j)/\∀i m a H,W i m a H->
 (J.stop i H/\D.nx a H)\/(J.go i H/\∃N:St->Hp->Prop,(∀b c,N b c->∃e,e<m/\W (i+1) e b c)/\∀x c,J.yld i H x c->g x a c λd l=>h {D with nx:=N,ct:=N,bk:=D.nx} d l)
noncomputable def rK(a:List Addr)(h:Heap):ZE:=a.filterMap λb=>(h.get? b).map λo=>(b,o)
theorem fC(a:b∈c)(e:h.get? b=some o):(b,o)∈rK c h:=mem_filterMap.mpr %[b,a|by rw[e];rfl]
theorem xZ(a:p∈rK c h):p.1∈c/\h.get? p.1=some p.2:=by
 have%[b,d|e]:=mem_filterMap.mp a;cases q:h.get? b with
 | none=>simp_all
 | some o=>
   rw[q]at e;have f:=Za e;subst f;exact%[d|q]
theorem Inv.pinned(I:Inv X pins g H s)(h:∀b∈a,mY X pins H b)(i:∀b∈a,∃o,s.heap.get? b=some o/\∀v,o.data≠ .cell v):Inv X (pins++rK a s.heap) g H s:=
 I.pins_of λp j=>(Xo j).elim (λz=>I.pin p (Yv _ z)) λz=>by
  have%[c|e]:=xZ z;have%[l,m,n|_]:=h p.1 c;have%[o,f|d]:=i p.1 c;rw[e]at f;cases f;exact%[e,l,m,n|d]
theorem Inv.unpinned(I:Inv X (pins++pl) a H s):Inv X pins a H s:=I.pins_of λp b=>I.pin p (Yv _ (Yu _ b))
theorem EB(A:PassesOwn (model X.prog X.w) X.A X.env X.xe)(hc:X.calm=true)(hi:PI X tg cj wi)(hg:PG X tg g)(c:PSs X B tb)
 (hs:∀x,foldedSetIterable cj X.env x=pure x):PS X (.For tg cj B [] pos) (Ab wi g tb):=by
 intro pins s σ H D I h;refine wpAny_For (thn (hi pins s σ H _ I h) λv s1 h1=>thn h1 λac s2 h2=>?_) hs;have%[it,M,tn,J,H2,e,I2,T,Q,f2,W,%[m0|w0]|C]:=h2;subst e;have j:∀{w:Hp},(∀b∈M,w b=none)->∀b∈M,mY X pins w b:=λhn b c=>%[hn b c|(f2 b c).2]
 refine codeAny_forLoop_any (λn s'=>∃i l w,Inv X pins l w s'/\tn i s'.heap/\(∀b∈M,w b=none)/\W i n l w) ?_ m0 %[0,σ,H2,I2,Q,λb c=>(f2 b c).1|w0];intro n s3 %[i,p,O,I3,E,G|w3];rcases C i n p O w3 with⟨stop,qn⟩|⟨go,N,hN,step⟩
 .refine wpAny_passesOwn A (thn (T.done X rfl rfl rfl hc i pins s3 p O X.xe I3 (j G) E stop) λr s4 ⟨U,I4⟩=>?_);subst U;exact wpAny_execs_nil %[p,O,I4|qn]
 .refine wpAny_passesOwn A (thn (T.item X rfl rfl rfl hc i pins s3 p O X.xe I3 (j G) E go) λr s4 ⟨u,U,h4⟩=>?_);subst U;refine wpAny_passesOwn A (thn h4 λ_ s5 ⟨x,H5,I5,r5,y5,z,Y⟩=>wpAny_passesOwn A (thn (hg _ s5 p H5 x u _ (I5.pinned (j Y) (T.obj _ _ z)) r5 (step x H5 y5)) λ_ s6 ⟨ab,H6,I6,q6⟩=>wpAny_passesOwn A (thn (c _ s6 ab H6 _ I6 q6) λf s7 y=>?_)));have again:∀{a:St} {q:Hp},Inv X _ a q s7->N a q->∃m,m<n/\∃i l w,Inv X pins l w s7/\tn i s7.heap/\(∀b∈M,w b=none)/\W i m l w:=λ{a q} t L=>by
   have%[m',hm|w7]:=hN a q L;refine%[m',hm,i+1,a,q,t.unpinned,T.keep _ _ _ z λb c o e=>(t.pin _ (Yv _ (Yv _ (fC c e)))).1,λb c=>?_|w7];have%[o,e|d]:=T.obj _ _ z b c;exact(t.pin _ (Yv _ (Yv _ (fC c e)))).2.1
  cases f with
  | next=>have%[a,q,t|L]:=y;exact again t L
  | cont=>have%[a,q,t|L]:=y;exact again t L
  | brk=>have%[a,q,t|y]:=y;exact%[a,q,t.unpinned|y]
  | ret v=>have%[x7,a,q,t,r7|y]:=y;exact%[x7,a,q,t.unpinned,r7|y]
end
theorem bh{K:ZA}{g:TG}{l:TS}{D:lF}(Pv:Nat->St->Hp->Prop)(o:Pv 0 b H)(r:∀i b H,i<=xs.length->Pv i b H->SqL K H a xs)
 (s:∀i x b H,xs[i]? =some x->Pv i b H->g x b H λc h=>l {D with nx:=Pv (i+1),ct:=Pv (i+1),bk:=D.nx} c h) (t:∀b H,Pv xs.length b H->D.nx b H):
 ∃W:Nat->Nat->St->Hp->Prop,(∃m,W 0 m b H)/\∀i m b H,W i m b H->
  ((Itl K a).stop i H/\D.nx b H)\/((Itl K a).go i H/\∃N:St->Hp->Prop,(∀d f,N d f->∃n,n<m/\W (i+1) n d f)/\∀x f,(Itl K a).yld i H x f->g x b f λc h=>l {D with nx:=N,ct:=N,bk:=D.nx} c h):=by
 refine%[λi m b H=>m=xs.length-i/\i<=xs.length/\Pv i b H,%[xs.length,by simp,Xf _|o]|?_];intro i m b H %[rfl,hi|p];have q:=r i b H hi p;by_cases j:i<xs.length
 .refine .inr %[%[xs,xs[i],q|by simp],Pv _,λd f u=>%[xs.length-(i+1),⋯,rfl,j|u]|λx f y=>?_];have%[e|y]:=y;subst e;exact s i x b _ (y xs q) p
 .have e:i=xs.length:=by lia
  subst e;exact .inl %[%[xs,q|Zi _]|t b H p]
theorem fh{lo:Int}{g:TG}{j:TS}{D:lF}(Pv:Nat->St->Hp->Prop)(o:Pv 0 a H)
 (q:∀i a H,i<n->Pv i a H->g (.int (lo+i)) a H λb h=>j {D with nx:=Pv (i+1),ct:=Pv (i+1),bk:=D.nx} b h) (r:∀a H,Pv n a H->D.nx a H):
 ∃W:Nat->Nat->St->Hp->Prop,(∃m,W 0 m a H)/\∀i m a H,W i m a H->
  ((Itr lo n).stop i H/\D.nx a H)\/((Itr lo n).go i H/\∃N:St->Hp->Prop,(∀c d,N c d->∃l,l<m/\W (i+1) l c d)/\∀x d,(Itr lo n).yld i H x d->g x a d λb h=>j {D with nx:=N,ct:=N,bk:=D.nx} b h):=by
 refine%[λi m a H=>m=n-i/\i<=n/\Pv i a H,%[n,by simp,Xf _|o]|?_];intro i m a H %[rfl,hi|p];by_cases f:i<n
 .refine .inr %[f,Pv _,λc d s=>%[n-(i+1),⋯,rfl,f|s]|λx d y=>?_];have%[e|y]:=y;subst e y;exact q i a _ f p
 .have e:i=n:=by lia
  subst e;exact .inl %[Zi _|r a H p]
noncomputable abbrev R2:=V->V->Hp->VK->Prop
def OpR(X:Cx)(f:Value->Value->Sem Value)(r:R2):Prop:=
 ∀pins s (a:St) H x y v u Q,Inv X pins a H s->aP x v->aP y u->r x y H Q->
  (~~~X) (f v u) (EP X pins a Q) X.xe s
def UnR(X:Cx)(f:Value->Sem Value)(r:V->Hp->VK->Prop):Prop:=
 ∀pins s (a:St) H x v Q,Inv X pins a H s->aP x v->r x H Q->
  (~~~X) (f v) (EP X pins a Q) X.xe s
def cA(X:Cx)(f:Value)(r:List V->Hp->VK->Prop):Prop:=
 ∀pins s (a:St) H xs us Q,Inv X pins a H s->aI xs us->r xs H Q->
  (~~~X) (call f us) (EP X pins a Q) X.xe s
def TruR(X:Cx)(r:V->Hp->(Bool->Hp->Prop)->Prop):Prop:=
 ∀pins s (a:St) H x v Q,Inv X pins a H s->aP x v->r x H Q->
  (~~~X) (truthy v) (TP X pins a Q) X.xe s
def tOp(r:R2)(b c:TE):TE:=λa H Q=>b a H λx d=>c a d λy e=>r x y e Q
def tUn(r:V->Hp->VK->Prop)(a:TE):TE:=λb H Q=>a b H λx c=>r x c Q
def rI(C:Int->Int->Prop)(g:Int->Int->V):R2:=λx y H Q=>asI x λi=>asI y λj=>C i j/\Q (g i j) H
def rI0(g:Int->Int->V):R2:=λx y H Q=>asI x λi=>asI y λj=>Q (g i j) H
def rU(g:Int->V):V->Hp->VK->Prop:=λx H Q=>asI x λi=>Q (g i) H
section
variable{X:Cx}{a b c:Expr}{ta tb tc:TE}{pos:Pos}
theorem EC(m:PE X a ta)(n:PE X b tb){pins:List _}{s:Shared}{d:St}{H:Hp}{R:V->V->Hp->Prop}(I:Inv X pins d H s)
 (h:ta d H λx l=>tb d l λy e=>R x y e) {Q:ZD} {f:Value->Value->Sem Value}
 (o:∀v u j x y e,Inv X pins d e j->aP x v->aP y u->R x y e->(~~~X) (f v u) Q X.xe j):
 (~~~X) (eval a X.env) (λv g=>(~~~X) (eval b X.env) (λu i=>(~~~X) (f v u) Q X.xe i) X.xe g) X.xe s:=by
 exact thP (m pins s d H _ I h) λv p x l q r t=>thP (n pins p d l _ q t) λu j y e w z A=>o v u j x y e w r z A
theorem Gw{r:R2}(d:OpR X (binaryOp op) r)(e:PE X a ta)(f:PE X b tb):PE X (.BinOp a op b pos) (tOp r ta tb):=by
 intro pins s g H Q I h;exact wpAny_BinOp (EC e f I h λv u i x y j l m n q=>d pins i g j x y v u Q l m n q)
theorem Gx(e:UnR X (unaryOp op) r)(f:PE X a ta):PE X (.UnaryOp op a pos) (tUn r ta):=by
 intro pins s d H Q I h;exact UnaryOp_ (thP (f pins s d H _ I h) λv g x i j l m=>e pins g d i x v Q j l m)
theorem opI{f:Value->Value->Sem Value}{C:Int->Int->Prop}{g:Int->Int->Int}
 (rule:∀i j t u s Q E,C i j->Q (.int (g i j) s.toks) {s with toks:=s.toks+1}->(~~~X) (f (.int i t) (.int j u)) Q E s):
 OpR X f (rI C λi j=> .int (g i j)):=by
 intro pins s n H x y v u Q I d e h;have%[i,rfl|l]:=iY h;have%[j,rfl,m|q]:=iY l;have%[t|rfl]:=d;have%[t'|rfl]:=e;exact rule i j t t' s _ _ m %[.int _,H,I.tok _,%[_|rfl]|q]
theorem Gy{g:Int->Int->Int}
 (rule:∀(i j:Int) (t u:Tok) (s:Shared) (Q:ZD) (E:ZD),Q (.int (g i j) s.toks) {s with toks:=s.toks+1}->(~~~X) (f (.int i t) (.int j u)) Q E s):
 OpR X f (rI0 λi j=> .int (g i j)):=by
 intro pins s m H x y v u Q I d e h;have%[i,rfl|l]:=iY h;have%[j,rfl|q]:=iY l;have%[t|rfl]:=d;have%[t'|rfl]:=e;exact rule i j t t' s _ _ %[.int _,H,I.tok _,%[_|rfl]|q]
theorem ED{g:Int->Int->Bool}
 (rule:∀(i j:Int) (t u:Tok) (s:Shared) (Q:ZD) (E:ZD),Q (.bool (g i j)) s->(~~~X) (f (.int i t) (.int j u)) Q E s):
 OpR X f (rI0 λi j=> .bl (g i j)):=by
 intro pins s m H x y v u Q I d e h;have%[i,rfl|l]:=iY h;have%[j,rfl|q]:=iY l;have%[t|rfl]:=d;have%[t'|rfl]:=e;exact rule i j t t' s _ _ %[.bl _,H,I,rfl|q]
def Gz(i j:Int):Prop:=0<j/\j<1073741824
def Ac(i j:Int):Prop:=(-(2^64)<i/\i<2^64)\/(-(2^64)<j/\j<2^64)
theorem Ac.ok{i j:Int}(h:Ac i j):IntMulOk i j:=by
 rcases h with⟨d,e⟩|⟨d,e⟩
 .exact .of_left (intBits_le_64 d e)
 .exact .of_right (intBits_le_64 d e)
theorem Ad:OpR X (binaryOp .Add) (rI0 λi j=> .int (i+j)):=Gy λ_ _ _ _ _ _ _ q=>add_int q
theorem EE:OpR X (binaryOp .Sub) (rI0 λi j=> .int (i-j)):=Gy λ_ _ _ _ _ _ _ q=>sub_int q
theorem Ae:OpR X (binaryOp .Mult) (rI Ac λi j=> .int (i*j)):=opI λ_ _ _ _ _ _ _ d q=>mul_int q d.ok
theorem Ck:OpR X (binaryOp .FloorDiv) (rI Gz λi j=> .int (i/j)):=opI λi j _ _ _ _ _ d q=>by
 have e:(0:Int)<j:=d.1;have f:j<1073741824:=d.2;exact floordiv_int ⋯ (by rw[Int.fdiv_eq_ediv_of_nonneg i ⋯];exact q) (.inl (PyProof.noPylong_small ⋯))
theorem EF:OpR X (binaryOp .Mod) (rI (λ_ j=>0<j) λi j=> .int (i%j)):=opI λi j _ _ _ _ _ d q=>by
 have e:(0:Int)<j:=d;exact mod_int' ⋯ (by rw[Int.fmod_eq_emod_of_nonneg i ⋯];exact q)
theorem unI{g:Int->Int}
 (rule:∀(i:Int) (t:Tok) (s:Shared) (Q:ZD) (E:ZD),Q (.int (g i) s.toks) {s with toks:=s.toks+1}->(~~~X) (f (.int i t)) Q E s):
 UnR X f (rU λi=> .int (g i)):=by
 intro pins s e H x v Q I d h;have%[i,rfl|q]:=iY h;have%[t|rfl]:=d;exact rule i t s _ _ %[.int _,H,I.tok _,%[_|rfl]|q]
theorem EG:UnR X (unaryOp .USub) (rU λi=> .int (-i)):=unI λ_ _ _ _ _ q=>neg_int q
end
noncomputable def EH:V->V->Bool
 | .non,.non=>true| .non,.int _=>true| .int _,.non=>true| .non,.bl _=>true| .bl _,.non=>true| .non,.str _=>true| .str _,.non=>true
 | .int _,.int _=>true| .bl _,.bl _=>true| .str _,.str _=>true| .byt _,.byt _=>true
 | .int _,.str _=>true| .str _,.int _=>true| .bl _,.str _=>true| .str _,.bl _=>true
 | _,_=>false
theorem zqD:(EH .non .non=true)/\(∀j,EH .non (.int j)=true)/\(∀i,EH (.int i) .non=true)/\(∀j,EH .non (.bl j)=true)/\(∀i,EH (.bl i) .non=true)/\(∀j,EH .non (.str j)=true)/\(∀i,EH (.str i) .non=true)/\(∀i j,EH (.int i) (.int j)=true)/\(∀i j,EH (.bl i) (.bl j)=true)/\(∀i j,EH (.str i) (.str j)=true)/\(∀i j,EH (.byt i) (.byt j)=true)/\(∀i j,EH (.int i) (.str j)=true)/\(∀i j,EH (.str i) (.int j)=true)/\(∀i j,EH (.bl i) (.str j)=true)/\(∀i j,EH (.str i) (.bl j)=true):=by and_intros<;> intros<;> rfl
def rEq:R2:=λx y H Q=>EH x y=true/\Q (.bl (decide (x=y))) H
def rNe:R2:=λx y H Q=>EH x y=true/\Q (.bl (!decide (x=y))) H
theorem wK:decide (V.int i=V.int j)=(i==j):=by
 rw[Bool.eq_iff_iff];simp
theorem Af:decide (V.bl i=V.bl j)=(i==j):=by
 rw[Bool.eq_iff_iff];simp
theorem wL:decide (V.str i=V.str j)=(i==j):=by
 rw[Bool.eq_iff_iff];simp
theorem wM:decide (V.byt i=V.byt j)=(i.toList==j.toList):=by
 rw[Bool.eq_iff_iff]
 simp_all
section
variable{X:Cx}{a b c:Expr}{ta tb tc:TE}{pos:Pos}
theorem aR(I:Inv X pins d H s)(q:Q (.bl k) H)(e:k=f):EP X pins d Q (.bool f) s:=by
 subst e;exact%[.bl k,H,I,rfl|q]
theorem GA:OpR X (compareOp .Eq) rEq:=by
 intro pins s g H x y v u Q I f d h;have%[e|q]:=h;cases x with
 | non=>
   cases f;cases y with
   | non=>cases d;exact PySem.EqNone.eq_none_none (aR I q ∅)
   | bl j=>cases d;exact PySem.EqNone.eq_none_bool (aR I q ∅)
   | int j=>have%[t'|rfl]:=d;exact PySem.EqNone.eq_none_int (aR I q ∅)
   | str j=>have%[t'|rfl]:=d;exact PySem.EqNone.eq_none_str (aR I q ∅)
   | _=>exact absurd (show false=true from e) Zu
 | bl i=>
   cases f;cases y with
   | non=>cases d;exact PySem.EqNone.eq_bool_none (aR I q ∅)
   | bl j=>cases d;exact eq_bool (aR I q Af)
   | str j=>have%[t'|rfl]:=d;exact PySem.EqMixed.eq_bool_str (aR I q ∅)
   | _=>exact absurd (show false=true from e) Zu
 | int i=>
   have%[t|rfl]:=f;cases y with
   | non=>cases d;exact PySem.EqNone.eq_int_none (aR I q ∅)
   | int j=>have%[t'|rfl]:=d;exact eq_int (aR I q wK)
   | str j=>have%[t'|rfl]:=d;exact PySem.EqMixed.eq_int_str (aR I q ∅)
   | _=>exact absurd (show false=true from e) Zu
 | str i=>
   have%[t|rfl]:=f;cases y with
   | non=>cases d;exact PySem.EqNone.eq_str_none (aR I q ∅)
   | bl j=>cases d;exact PySem.EqMixed.eq_str_bool (aR I q ∅)
   | int j=>have%[t'|rfl]:=d;exact PySem.EqMixed.eq_str_int (aR I q ∅)
   | str j=>have%[t'|rfl]:=d;exact eq_str (aR I q wL)
   | _=>exact absurd (show false=true from e) Zu
 | byt i=>
   have%[t|rfl]:=f;cases y with
   | byt j=>have%[t'|rfl]:=d;exact PySem.W.eq_bytes (aR I q wM)
   | _=>exact absurd (show false=true from e) Zu
 | _=>cases y<;> exact absurd (show false=true from e) Zu
theorem GB:OpR X (compareOp .NotEq) rNe:=by
 intro pins s g H x y v u Q I f d h;have%[e|q]:=h;cases x with
 | non=>
   cases f;cases y with
   | non=>cases d;exact PySem.EqNone.ne_none_none (aR I q ∅)
   | bl j=>cases d;exact PySem.EqNone.ne_none_bool (aR I q ∅)
   | int j=>have%[t'|rfl]:=d;exact PySem.EqNone.ne_none_int (aR I q ∅)
   | str j=>have%[t'|rfl]:=d;exact PySem.EqNone.ne_none_str (aR I q ∅)
   | _=>exact absurd (show false=true from e) Zu
 | bl i=>
   cases f;cases y with
   | non=>cases d;exact PySem.EqNone.ne_bool_none (aR I q ∅)
   | bl j=>cases d;exact ne_bool (aR I q (congrArg not Af))
   | str j=>have%[t'|rfl]:=d;exact PySem.EqMixed.ne_bool_str (aR I q ∅)
   | _=>exact absurd (show false=true from e) Zu
 | int i=>
   have%[t|rfl]:=f;cases y with
   | non=>cases d;exact PySem.EqNone.ne_int_none (aR I q ∅)
   | int j=>have%[t'|rfl]:=d;exact ne_int (aR I q (congrArg not wK))
   | str j=>have%[t'|rfl]:=d;exact PySem.EqMixed.ne_int_str (aR I q ∅)
   | _=>exact absurd (show false=true from e) Zu
 | str i=>
   have%[t|rfl]:=f;cases y with
   | non=>cases d;exact PySem.EqNone.ne_str_none (aR I q ∅)
   | bl j=>cases d;exact PySem.EqMixed.ne_str_bool (aR I q ∅)
   | int j=>have%[t'|rfl]:=d;exact PySem.EqMixed.ne_str_int (aR I q ∅)
   | str j=>have%[t'|rfl]:=d;exact ne_str (aR I q (congrArg not wL))
   | _=>exact absurd (show false=true from e) Zu
 | byt i=>
   have%[t|rfl]:=f;cases y with
   | byt j=>have%[t'|rfl]:=d;exact PySem.W.ne_bytes (aR I q (congrArg not wM))
   | _=>exact absurd (show false=true from e) Zu
 | _=>cases y<;> exact absurd (show false=true from e) Zu
theorem GC:OpR X (compareOp .Lt) (rI0 λi j=> .bl (decide (i<j))):=ED λ_ _ _ _ _ _ _ q=>lt_int q
theorem GD:OpR X (compareOp .LtE) (rI0 λi j=> .bl (decide (i<=j))):=ED λ_ _ _ _ _ _ _ q=>le_int q
theorem GE:OpR X (compareOp .Gt) (rI0 λi j=> .bl (decide (j<i))):=ED λ_ _ _ _ _ _ _ q=>gt_int q
theorem x4:OpR X (compareOp .In) (λx y H Q=>∃i j,x= .str i/\y= .str j/\Q (.bl (!(Builtin.Str.occurrences j i 0 j.length 1).isEmpty)) H):=by
 intro pins s f H x y v u Q I d e h;have%[i,j,rfl,rfl|q]:=h;have%[t|rfl]:=d;have%[t'|rfl]:=e;exact in_str (aR I q rfl)
theorem EI:OpR X (compareOp .Is) (λx y H Q=>y= .non/\Q (.bl (decide (x= .non))) H):=by
 intro pins s f H x y v u Q I d e h;have%[rfl|q]:=h;cases e;refine is_none_gen (aR I q ?_);cases x<;> first
  | lia
  |(have%[t|rfl]:=d;rfl)
theorem Cl:OpR X (compareOp .IsNot) (λx y H Q=>y= .non/\Q (.bl (!decide (x= .non))) H):=by
 intro pins s f H x y v u Q I d e h;have%[rfl|q]:=h;cases e;refine isnot_none_gen (aR I q ?_);cases x<;> first
  | lia
  |(have%[t|rfl]:=d;rfl)
theorem OpR.or(h:OpR X f r)(h':OpR X f i):OpR X f (λx y H Q=>r x y H Q\/i x y H Q):=by
 intro pins s d H x y v u Q I e g q;rcases q with q|q
 .exact h pins s d H x y v u Q I e g q
 .exact h' pins s d H x y v u Q I e g q
theorem nomark(b:Expr)(h:op≠ .In)(f:op≠ .NotIn):behindInMarks op b=false:=by
 have d:(op==CmpOp.In)=false:=by lia
 have e:(op==CmpOp.NotIn)=false:=by lia
 cases b<;> simp[behindInMarks,d,e]
theorem Cm{r:R2}(d:OpR X (compareOp op) r)(e:PE X a ta)(f:PE X b tb)(g:behindInMarks op b=false):PE X (.Compare a [op] [b] pos) (tOp r ta tb):=by
 intro pins s i H Q I h;exact wpAny_Compare1 (EC e f I h λv u j x y l m n o q=>d pins j i l x y v u Q m n o q) g
def Ag(t:TE):TT:=λd H Q=>t d H λx e=>asB x λk=>Q k e
theorem Cn(f:OpR X (compareOp op) r)(g:PE X a ta)(i:PE X b tb)(j:behindInMarks op b=false):PT X (.Compare a [op] [b] pos) (Ag (tOp r ta tb)):=by
 intro pins s d H Q I h;refine wpAny_isTrue_Compare1 (thP (g pins s d H _ I h) λv l x m n o p=>thP (i pins l d m _ n p) λu q y t w A B=>
  thP (f pins q d t x y v u _ w o A B) λc J z C E G e=>?_) j
 have%[k,rfl|e]:=qq e;cases G;exact wpAny_truthy_bool %[C,E|e]
def vo(r f:R2)(ta tb tc:TE):TE:=λd H Q=>ta d H λx g=>tb d g λy h=>r x y h λz e=>asB z λk=>
 (if k=true then tc d e λi j=>f y i j Q else Q (.bl false) e)
theorem Ah(n:OpR X (compareOp op) r)(i:OpR X (compareOp e) o)(p:PE X a ta)(q:PE X b tb)(t:PE X c tc)
 (w:lastMarks [op,e] [b,c]=false):PE X (.Compare a [op,e] [b,c] pos) (vo r o ta tb tc):=by
 intro pins s f H Q I h;refine Compare_chain (thP (p pins s f H _ I h) λv A x B C E G=>chain_link (thP (q pins A f B _ C G) λu J y L M j N=>
  thP (n pins J f L x y v u _ M E j N) λd O z l m T g=>?_)) w
 have%[k,rfl|g]:=qq g;cases T;refine wpAny_truthy_bool ?_;cases k with
 | false=>exact ite_ff %[.bl false,l,m,rfl|g]
 | true=>exact ite_tt (chain_last (thP (t pins O f l _ m g) λU Y z' H4 I4 r4 q4=>i pins Y f H4 y z' u U Q I4 j r4 q4))
def Ai(K:ZA)(x:V)(H:Hp)(k:Bool):Prop:=
 match x with
 | .non=>k=false
 | .bl b=>k=b
 | .int i=>k=(i != 0)
 | .str y=>y.length<=sizeLine/\k=((y.length:Int) != 0)
 | .byt y=>y.size<=sizeLine/\k=((y.size:Int) != 0)
 | .ref p=>(∃xs,SqL K H p xs/\k=!xs.isEmpty)\/(∃xs,SqT K H p xs/\k=!xs.isEmpty)\/∃d,H p=some (.dK d)/\k=!d.isEmpty
 | _=>False
theorem vp{e:Type}{d:List (e×V)}{vs:List _}(r:KV d vs):(!vs.isEmpty)=!d.isEmpty:=by
 cases r<;> rfl
theorem nM(r:aI xs its):(!its.toArray.isEmpty)=!xs.isEmpty:=by
 cases r<;> simp
theorem rL:sizeLine<2^63:=by decide
theorem EJ:TruR X (λx H Q=>∃k,Ai X.K x H k/\Q k H):=by
 intro pins s w H x v Q I j h;have%[k,e|q]:=h;have z:=rL;have A:sizeLine=16777216:=sizeLine_eq;cases x with
 | non=>
   cases j;have d:k=false:=e;subst d;exact truthy_none %[H,I|q]
 | bl b=>
   cases j;have d:k=b:=e;subst d;exact wpAny_truthy_bool %[H,I|q]
 | int i=>
   have%[t|rfl]:=j;have d:k=(i != 0):=e;subst d;exact PySem.P.truthy_int %[H,I|q]
 | str y=>
   have%[t|rfl]:=j;obtain⟨o,d⟩:y.length<=sizeLine/\k=((y.length:Int) != 0):=e;subst d;exact PySem.P.truthy_str ⋯ %[H,I.tok _|q]
 | byt y=>
   have%[t|rfl]:=j;obtain⟨o,d⟩:y.size<=sizeLine/\k=((y.size:Int) != 0):=e;subst d;exact PySem.W.truthy_bytes ⋯ %[H,I.tok _|q]
 | ref p=>
   cases j;have d:(∃xs,SqL X.K H p xs/\k=!xs.isEmpty)\/(∃xs,SqT X.K H p xs/\k=!xs.isEmpty)\/∃f,H p=some (.dK f)/\k=!f.isEmpty:=e;rcases d with⟨xs,l,d⟩|⟨xs,l,d⟩|⟨f,l,d⟩
   .subst d;have%[its,r,pl|n]:=I.list l;have g:=r.length;exact wpAny_truthy_list pl.isList (by simp only[Zp];lia) %[H,I.tok _|(nM r)▸q]
   .subst d;have%[its,r,pl|n]:=I.tuple l;have g:=r.length;exact truthy_tuple pl (by simp only[Zp];lia) %[H,I.tok _|(nM r)▸q]
   .subst d;obtain⟨n,u,vs,r,m⟩:f.length<=sizeLine/\(p==sysModules)=false/\∃vs,KV f vs/\s.heap.DictOf (aO X.prog X.w) p vs:=I.hok p _ l;have g:f.length=vs.length:=Paired.length r;exact wpAny_truthy_dict u m ⋯ %[H,I.tok _|(vp r)▸q]
 | _=>exact(show False from e).elim
theorem Aj(g:PE X a ta)(i:∀d,isTrue a X.env d=(do let v<-d;standAt a.pos;holding [v] (truthy v))):
 PT X a (λe H Q=>ta e H λx f=>∃k,Ai X.K x f k/\Q k f):=by
 intro pins s e H Q I h;exact isTrue_plain (thP (g pins s e H _ I h) λv j x l m n o=>EJ pins j e l x v Q m n o) (i _)
theorem vq:OpR X (binaryOp .Add) (λx y H Q=>∃i j,x= .str i/\y= .str j/\i.length+j.length<=sizeLine/\Q (.str (i++j)) H):=by
 intro pins s g H x y v u Q I d e h;have%[i,j,rfl,rfl,f|q]:=h;have%[t|rfl]:=d;have%[t'|rfl]:=e;exact add_str (λt' tk=>%[.str _,H,I.tok _,%[_|rfl]|q]) f
theorem dE(r:aI [x] us):∃u,us=[u]/\aP x u:=by
 cases r with
 | cons d e=>cases e;exact%[_,rfl|d]
theorem kh(r:aI [x,y] us):∃u d,us=[u,d]/\aP x u/\aP y d:=by
 cases r with
 | cons e f=>
   cases f with
   | cons g h=>cases h;exact%[_,_,rfl,e|g]
theorem Ak:cA X (.builtin "abs") (λxs H Q=>∃i,xs=[.int i]/\Q (.int (if i<0 then -i else i)) H):=by
 intro pins s d H xs us Q I r h;have%[i,rfl|q]:=h;have%[u,rfl,t|rfl]:=dE r;exact call_abs_int λu tk=>%[.int _,H,I.tok _,%[_|rfl]|q]
theorem x5(e:X.calm=true):cA X (.builtin "max") (λxs H Q=>∃i j,xs=[.int i,.int j]/\Q (.int (if j>i then j else i)) H):=by
 intro pins s f H xs us Q I r h;have%[i,j,rfl|q]:=h;have%[u,g,rfl,%[t|rfl],t'|rfl]:=kh r;refine max_two_ints (I.ok.hd e) λh' tk k=>%[_,H,I.kept k,?_|q]
 by_cases d:j>i
 .rw[if_pos d,if_pos d];exact%[_|rfl]
 .rw[if_neg d,if_neg d];exact%[_|rfl]
theorem x6(e:X.calm=true):cA X (.builtin "min") (λxs H Q=>∃i j,xs=[.int i,.int j]/\Q (.int (if j<i then j else i)) H):=by
 intro pins s f H xs us Q I r h;have%[i,j,rfl|q]:=h;have%[u,g,rfl,%[t|rfl],t'|rfl]:=kh r;refine min_two_ints (I.ok.hd e) λh' tk k=>%[_,H,I.kept k,?_|q]
 by_cases d:j<i
 .rw[if_pos d,if_pos d];exact%[_|rfl]
 .rw[if_neg d,if_neg d];exact%[_|rfl]
theorem x8:cA X (.type "int") (λxs H Q=>(∃i,xs=[.int i]/\Q (.int i) H)\/∃k,xs=[.bl k]/\Q (.int (if k then 1 else 0)) H):=by
 intro pins s e H xs us Q I r h;rcases h with⟨i,rfl,q⟩|⟨k,rfl,q⟩
 .have%[u,rfl,t|rfl]:=dE r;exact call_int_int %[.int i,H,I,%[_|rfl]|q]
 .have%[u,rfl|d]:=dE r;cases d;exact call_int_bool %[.int _,H,I.tok _,%[_|rfl]|q]
def Co(K:ZA)(x:V)(H:Hp)(n:Nat):Prop:=
 match x with
 | .str y=>y.length<=sizeLine/\n=y.length
 | .byt y=>y.size<=sizeLine/\n=y.size
 | .ref p=>(∃xs,SqL K H p xs/\n=xs.length)\/∃xs,SqT K H p xs/\n=xs.length
 | _=>False
theorem Al:cA X (.builtin "len") (λxs H Q=>∃x n,xs=[x]/\Co X.K x H n/\Q (.int n) H):=by
 intro pins s o H xs us Q I r h;have%[x,n,rfl,e|q]:=h;have%[u,rfl|g]:=dE r;have v:=sizeLine_eq;cases x with
 | str y=>
   have%[t|rfl]:=g;obtain⟨l,f⟩:y.length<=sizeLine/\n=y.length:=e;subst f;exact len_str ⋯ %[.int _,H,I.tok _,%[_|rfl]|q]
 | byt y=>
   have%[t|rfl]:=g;obtain⟨l,f⟩:y.size<=sizeLine/\n=y.size:=e;subst f;exact PySem.W.len_bytes ⋯ %[.int _,H,I.tok _,%[_|rfl]|q]
 | ref p=>
   cases g;have f:=e;rcases f with⟨xs,i,f⟩|⟨xs,i,f⟩
   .subst f;have%[its,j,pl|m]:=I.list i;have d:=j.length;exact Calls.call_len_list pl.isList (by simp only[Zp];lia) %[.int xs.length,H,I.tok _,%[_|by simp only[Zp];rw[d]]|q]
   .subst f;have%[its,j,pl|m]:=I.tuple i;have d:=j.length;exact len_tuple pl (by simp only[Zp];lia) %[.int xs.length,H,I.tok _,%[_|by simp only[Zp];rw[d]]|q]
 | _=>exact(e).elim
end
structure vt (h:Heap) (x dx C:Addr) (mA:ZC):Prop where
 obj:h.get? x=some (instObj C dx)
 ns:h.Ns1 dx mA
 ne:dx≠x
theorem x9{h:Heap}{c:ZC}(n:h.Ns1 f c):∃d,h.get? f=some d/\∀name,lookIn name d=some (c name):=by
 have%[o,g,r,i,j,l,_|m]:=n;refine%[o,i|λname=>?_];have e:=m name;unfold nsFind findBy at e;rw[<-Array.find?_toList]at e;unfold lookIn;rw[j];dsimp only
 split
 .rename_i y q
  rw[q]at e;exact congrArg some e
 .rename_i q
  rw[q]at e;have a:g.toList.any (·.refKey)=false:=by
   rw[List.any_eq_false];intro y p;have%[z,t|b]:=l y (mem_toList_iff.mp p);simp[DictEntry.refKey,b]
  rw[if_neg (a▸Zu)];exact congrArg some e
theorem vt.look(I:vt h x b C c):∃a,PySem.W.InstAt h x (instObj C b) C (some a)/\∀name,lookIn name a=some (c name):=
 let⟨a,d,e⟩:=x9 I.ns
 %[a,%[I.obj,rfl,rfl|d]|e]
section
#where
variable{K:ZA}{x dx C f:Addr}{mA:ZC}{name:Str}{v:Value}
theorem Cp(X:K.In s.heap)(I:vt s.heap x dx C mA)(c:plainGet K C name=true)(d:hasDictIn K C=true)
 (e:findIn K (.ref C) name=some none) (g:mA name=some v) (a:handedIn v=true) (h:Q v {s with toks:=s.toks+1}):
 ↥A (getAttr (.ref x) name b) Q E s:=by
 have%[j,J|i]:=I.look;exact PySem.W.get_value X J (plainGet_of c).1 (PySem.W.findObj_own d e rfl (by rw[i,g])) a h
theorem Am(X:K.In s.heap)(I:vt s.heap x dx C mA)(a:plainGet K C name=true)
 (b:findIn K (.ref C) name=some (some (.ref f))) (c:isFn K (.ref f)=true) (d:mA name=none) (h:Q (.ref f,[.ref x]) s):
 ↥A (getMethod (.ref x) name pl) Q E s:=by
 have%[e,J|g]:=I.look;exact PySem.W.method_fn X J (plainGet_of a).1 (plainGet_of a).2 b (beq_iff_eq.mp c) (by show(lookIn name e).map _=some false;rw[g,d];rfl) h
theorem Cq(X:K.In s.heap)(I:vt s.heap x dx C mA)
 (j:findIn K (.ref C) "__setattr__"=some (some (.builtin "object.__setattr__"))) (l:plainOver K C=true) (m:takerIn K C name=some none) (n:hasDictIn K C=true)
 (hw:PySem.Within mA o) (p:o.length<=sizeLine)
 (h:∀h',vt h' x dx C (λy=>if y=name then some v else mA y)->SameBut dx s.heap h'->Q () {s with heap:=h',toks:=s.toks+2}):
 ↥A (setAttr (.ref x) name v) Q E s:=by
 have%[u,J|z]:=I.look;refine PySem.W.set_plain X J j (PySem.W.osa_open X J l m λb=>?_);have%[B,q|d]:=PySem.W.any_some n;refine Z2 (Z3 (Z2 (Z2 (wpAny_loadPart I.obj (Z2 (Looks.here (PySem.W.looks_clsIn X q) ?_))))));rw[d];refine Z3 (Z2 (Z3 (Z2 (wpAny_nsSet1 I.ns λh' a c=>?_))));have%[G,r,t,e,g|i]:=a.count (PySem.Within.cons name v hw);exact Z2 (wpAny_lookBehind e (g▸pastItsLine_dict (Yh i (by simp_all))) (Z3 (h _ %[(c.2 _ (Ne.symm I.ne)).trans I.obj,a|I.ne] c)))
theorem Ao{R:Result->Shared->Prop}(X:K.In s.heap)(b:makesIn K C=true)
 (hi:findIn K (.ref C) "__init__"=some (some (.ref f))) (c:PySem.W.typeIn K (.ref f)=some (.type "function"))
 (h:codeAny (model prog w) (A.under (.builtin "type.__call__" %[.ref C::vs|a])) (.call (.ref f) %[.ref (⇑s+1)::vs|a]) (PySem.W.InitBack (⇑s+1) R)
  (s>>>(s.heap.push emptyDict).push (instObj C ⇑s))):
 codeAny (model prog w) A (.call (.ref C) %[vs|a]) R s:=by
 exact PySem.W.make_core (PySem.W.makes_of X b) (PySem.W.looks_findIn X hi) (λself=>PySem.W.bind_fn X self c) (.inl rfl) h
end
noncomputable def dW(f:Str)(v:V):List (Str×V)->List (Str×V)
 |[]=>[(f,v)]
 |(g,x)::r=>if g=f then(g,v)::r else(g,x)::dW f v r
theorem mC(f g:Str)(v:V):∀fs,(dW f v fs).lookup g=if g=f then some v else fs.lookup g
 |[]=>by
  show List.lookup g [(f,v)]=_;by_cases h:g=f
  .have a:=beq_iff_eq.mpr h;simp only[List.lookup,a,if_pos h]
  .have a:=beq_eq_false_iff_ne.mpr h;simp only[List.lookup,a,if_neg h]
 |(k,x)::r=>by
  rw[show dW f v _=(if k=f then(k,v)::r else(k,x)::dW f v r)from rfl];by_cases b:k=f
  .rw[if_pos b];by_cases h:g=k
   .have a:=beq_iff_eq.mpr h;simp only[List.lookup,a,if_pos (h.trans b)]
   .have a:=beq_eq_false_iff_ne.mpr h;simp only[List.lookup,a,if_neg (λe:g=f=>h (e.trans b.symm))]
  .rw[if_neg b];by_cases h:g=k
   .have a:=beq_iff_eq.mpr h;simp only[List.lookup,a,if_neg (λe=>b (h.symm.trans e))]
   .have a:=beq_eq_false_iff_ne.mpr h;simp only[List.lookup,a];exact(mC f g v r)
theorem lG(f:Str)(v:V):∀fs:List (Str×V),f∈(dW f v fs).map (·.1)/\∀g,g∈fs.map (·.1)->g∈(dW f v fs).map (·.1)
 |[]=>%[by simp[dW]|λg h=>by simp at h]
 |(k,x)::r=>by
  have%[a|b]:=lG f v r;rw[show dW f v _=(if k=f then(k,v)::r else(k,x)::dW f v r)from rfl]
  grind
theorem mD(f:Str)(v:V):∀fs,(dW f v fs).length<=fs.length+1
 |[]=>by simp[dW]
 |(k,x)::r=>by
  have a:=mD f v r;rw[show dW f v _=(if k=f then(k,v)::r else(k,x)::dW f v r)from rfl];by_cases b:k=f
  .simp_all
  simp_all
theorem gN.some_of(r:gN (some v) o):∃u,o=some u/\aP v u:=by
 cases o with
 | none=>exact(r).elim
 | some u=>exact%[u,rfl|r]
theorem gN.none_of(r:gN none o):o=none:=by
 cases o with
 | none=>rfl
 | some u=>exact(r).elim
theorem yb(r:aP v u):handedIn u=true:=by
 cases v with
 | non=>cases(r);rfl
 | bl b=>cases(r);rfl
 | int i=>have%[t|e]:=(r);cases e;rfl
 | str x=>have%[t|e]:=(r);cases e;rfl
 | byt b=>have%[t|e]:=(r);cases e;rfl
 | flt b=>have%[t|e]:=(r);cases e;rfl
 | ref a=>cases(r);rfl
 | ty n=>cases(r);rfl
section
variable{P:Program}{w:World}{H H':Hp}{h h':Heap}{a C dx:Addr}{fs fs':List (Str×V)}
theorem nu(c:HOk P w H h)(e:H a=some (.ins C dx fs)):∃b,vt h a dx C b/\(∀f,gN (fs.lookup f) (b f))/\PySem.Within b (fs.map (·.1))/\fs.length<=1000/\H dx=some (.own a):=by
 have%[d,z,ne,g,b,n,r|q]:=(c a _ e)
 exact%[b,%[g,n|ne],r,q,z|d]
end
structure Cls (K:ZA) (C:Addr):Prop where
 pg:plainGet K C Str.empty=true
 hd:hasDictIn K C=true
 po:plainOver K C=true
 sa:findIn K (.ref C) "__setattr__"=some (some (.builtin "object.__setattr__"))
theorem Cls.get{K:ZA}{C:Addr}(c:Cls K C)(f:Str):plainGet K C f=true:=c.pg
def gC(K:ZA)(C:Addr)(f:Str):Prop:=findIn K (.ref C) f=some none
theorem gC.taker{K:ZA}{C:Addr}{f:Str}(n:gC K C f):takerIn K C f=some none:=by
 unfold takerIn;rw[n];rfl
structure Cr (K:ZA) (C:Addr) (m:Str) (f:Addr):Prop where
 at_:findIn K (.ref C) m=some (some (.ref f))
 fn:isFn K (.ref f)=true
 kp:keepIn K (.ref f)=true
section
#version
variable{a C dx:Addr}{fs:List (Str×V)}{f:Str}{v:V}{A:Around}{E:ZD}
theorem vv(I:Inv X pins σ H s)(e:H a=some (.ins C dx fs))(c:Cls X.K C)(n:gC X.K C f)(l:fs.lookup f=some v)
 (h:∀u s',Inv X pins σ H s'->aP v u->Q u s'):wpAny (model X.prog X.w) A (getAttr (.ref a) f b) Q E s:=by
 have%[i,O,r,_,_|_]:=nu I.hok e;have%[u,g|d]:=gN.some_of (l▸r f);exact Cp I.kIn O (c.get f) c.hd n g (yb d) (h u _ (I.tok _) d)
theorem vw(I:Inv X pins σ H s)(e:H a=some (.ins C dx fs))(c:Cls X.K C)(k:Cr X.K C m g)(l:fs.lookup m=none)
 (h:Q (.ref g,[.ref a]) s):wpAny (model X.prog X.w) A (getMethod (.ref a) m pl) Q E s:=by
 have%[b,O,r,_,_|_]:=nu I.hok e;exact Am I.kIn O (c.get m) k.at_ k.fn (gN.none_of (l▸r m)) h
theorem vy(I:Inv X pins σ H s)(e:H a=some (.ins C dx fs))(c:Cls X.K C)(n:gC X.K C f)(G:fs.length<1000)(l:aP y u)
 (h:∀s',Inv X pins σ (upd H a (.ins C dx (dW f y fs))) s'->Q () s'):wpAny (model X.prog X.w) A (setAttr (.ref a) f u) Q E s:=by
 have%[m,O,r,i,_|j]:=nu I.hok e;refine Cq I.kIn O c.sa c.po n.taker c.hd i (by rw[Z6,sizeLine_eq];lia) λh' d p=>h _ (I.write (e▸True.intro) (.inr j) (λb q t z=>(p.2 b t).trans z) (let⟨o,_,_,w,_⟩:=d.ns;%[o|w]) %[(ao O.ne)▸j,?_,O.ne,d.obj,_,d.ns,λg=>?_|λg B=>?_])
 .have:=mD f y fs;lia
 .rw[mC];by_cases q:g=f
  .rw[if_pos q,if_pos q];exact l
  .rw[if_neg q,if_neg q];exact r g
 .by_cases q:g=f
  .exact q▸(lG f y fs).1
  .refine(lG f y fs).2 g (i g λz=>B ?_);show(if g=f then some u else m g)=none;rw[if_neg q];exact z
theorem Inv.made(I:Inv X pins σ H s):Inv X pins σ (upd (upd H ⇑s (.own (⇑s+1))) (⇑s+1) (.ins C ⇑s []))
 (s>>>(s.heap.push emptyDict).push (instObj C ⇑s)):=by
 have c:(s.heap.push emptyDict).get? ⇑s=some emptyDict:=Zj s.heap rfl;have d:=by
  have:=Zj (s.heap.push emptyDict) (o:=instObj C ⇑s) rfl;rwa[Zq]at this
 refine(I.laid (o:= .own (⇑s+1)) (t':=s.toks) (λb u q=>Z7 _ q) (Zi _) %[_|c]).laid (λb u q=>Z7 _ q) (Nat.le_of_eq (Zq _ _)) ?_;have ne:⇑s≠⇑s+1:=Zt (Yp _);refine%[by rw[ao ne,aa],Xf _,ne,d,λ_=>none,(Heap.Ns1.of_empty %[emptyDict,#[],_,c,rfl,(λe g=>absurd g ∅)|λ_=>rfl]).at λo q=>Z7 _ q,λ_=>True.intro|λy h=>absurd rfl h]
theorem Cs(c:attributeBase e f env (eval e env)=eval e env)
 (h:↥A (eval e env) (λo b=>↥A (getAttr o f true) Q E b) E s):↥A (eval (.Attribute e f pos) env) Q E s:=
 Attribute_any_ h (by rw[arm_eval_Attribute,c])
end
def EK(K:ZA)(c:TE)(f:Str):TE:=λd H Q=>c d H λx b=>∃a C e fs v,x= .ref a/\b a=some (.ins C e fs)/\Cls K C/\gC K C f/\fs.lookup f=some v/\Q v b
def EM(K:ZA)(e g:TE)(f:Str):TS:=λD b H=>g b H λy h=>e b h λx c=>∃a C d fs,x= .ref a/\c a=some (.ins C d fs)/\Cls K C/\gC K C f/\fs.length<1000/\
 D.nx b (upd c a (.ins C d (dW f y fs)))
section
variable{X:Cx}{o e value:Expr}{f:Str}{pos pos' tpos:Pos}{ta tv:TE}
theorem EN(b:PE X e ta)(d:attributeBase e f X.env (eval e X.env)=eval e X.env):PE X (.Attribute e f pos) (EK X.K ta f):=by
 intro pins s g H Q I h;refine Cs d (thP (b pins s g H _ I h) λu w x i j m ⟨a,C,y,fs,v,ex,p,c,n,l,q⟩=>?_);subst ex;obtain rfl:u=Value.ref a:=m;exact vv j p c n l λz A r t=>%[v,i,r,t|q]
theorem EO(d:PE X o ta)(g:PE X value tv)(i:swapsWith value (some (.Attribute o f pos')) pos.line X.env=pure false):PS X (.Assign [.Attribute o f pos'] value pos) (EM X.K ta tv f):=by
 intro pins s b H D I h;refine plainObj_wpAny_Assign_Attribute (thP (g pins s b H _ I h) λu j y m p r q=>thP (d pins j b m _ p q) λt E x G v w ⟨a,C,J,fs,ex,z,c,n,l,A⟩=>?_) i;subst ex;obtain rfl:t=Value.ref a:=w;exact vy v z c n l r λL B=>%[b,_,B|A]
end
section
#version
variable{A:Around}{E:ZD}{Q:ZD}{c:Value}{b:Bool}
inductive jR (K:ZA) (H:Hp):V->Value->Prop where
 | non:jR K H .non (.type "NoneType")
 | bl (x:Bool):jR K H (.bl x) (.type "bool")
 | int (i:Int):jR K H (.int i) (.type "int")
 | str (x:Str):jR K H (.str x) (.type "str")
 | flt (x:UInt64):jR K H (.flt x) (.type "float")
 | lst {a:Addr} {xs:List V} (e:H a=some (.lst xs)):jR K H (.ref a) (.type "list")
 | frz {a:Addr} {o:Obj} {xs:List V} (e:H a=some (.frz o (.lst xs))):jR K H (.ref a) (.type "list")
 | tup {a:Addr} {xs:List V} (e:H a=some (.tup xs)):jR K H (.ref a) (.type "tuple")
 | dK {a:Addr} {kvs:List _} (e:H a=some (.dK kvs)):jR K H (.ref a) (.type "dict")
 | dT {a:Addr} {kvs:List _} (e:H a=some (.dT kvs)):jR K H (.ref a) (.type "dict")
 | ins {a C dx:Addr} {fs:List _} (e:H a=some (.ins C dx fs)) (cl:Cls K C) (ha:findIn K (.ref C) "__class__"=some (some (.builtin "object.__class__")))
  (hn:PySem.W.specialIn K (.builtin "object.__class__") "__get__"=some (some (.builtin "getset_descriptor.__get__"))) (htk:PySem.W.takesIn K (.builtin "object.__class__")=some true)
  (hm:PySem.W.mroIn K C (.type "object")=some true):jR K H (.ref a) (.ref C)
theorem yd(I:Inv X pins σ H s)(d:aP x u)(ty:jR X.K H x t)(e:kitOne X.K t c=some b)(h:∀tk,Q (.bool b) {s with toks:=tk}):
 wpAny (model X.prog X.w) A (call (.builtin "isinstance") [u,c]) Q E s:=by
 cases ty with
 | non=>cases(d);exact kia_one PySem.W.kitx_none I.kIn True.intro e (λz=>nomatch z) h
 | bl y=>cases(d);exact kia_one PySem.W.kitx_bool I.kIn True.intro e (λz=>nomatch z) h
 | int i=>have%[t|q]:=(d);cases q;exact kia_one PySem.W.kitx_int I.kIn True.intro e (λz=>nomatch z) h
 | str y=>have%[t|q]:=(d);cases q;exact kia_one PySem.W.kitx_str I.kIn True.intro e (λz=>nomatch z) h
 | flt y=>have%[t|q]:=(d);cases q;exact kia_one PySem.W.kitx_float I.kIn True.intro e (λz=>nomatch z) h
 | @lst a xs f=>
   cases(d);have%[_,_,n,_|g]:=(I.hok a _ f)
   exact kia_one kitx_list I.kIn %[_,g|rfl] e (λz=>nomatch z) h
 | @frz a M xs f=>
   cases(d);have%[_,_,_,n,_|g]:=(I.hok a _ f)
   exact kia_one kitx_list I.kIn %[_,g|rfl] e (λz=>nomatch z) h
 | @tup a xs f=>
   cases(d);have%[_,_,_|p]:=(I.hok a _ f)
   have%[o,g,j|_]:=p;exact kia_one PySem.W.kitx_tuple I.kIn %[o,g|j] e (λz=>nomatch z) h
 | @dK a l f=>
   cases(show u=Value.ref a from d);have%[_,_,vs,_|p]:=(I.hok a _ f)
   have%[o,v,w,g,j|_]:=p;exact kia_one kitx_dict I.kIn %[o,g|j.1] e (λz=>nomatch z) h
 | @dT a l f=>
   cases(show u=Value.ref a from d);have%[_,_,xs,_,o,v,w,g,j|_]:=(I.hok a _ f)
   exact kia_one kitx_dict I.kIn %[o,g|j.1] e (λz=>nomatch z) h
 | @ins a C N fs f r B G m L=>
   cases(d);have%[T,O|_]:=nu I.hok f;have%[U,J|_]:=O.look;exact kia_one (PySem.W.kitx_own (r.get _) r.hd B G m L) I.kIn J e (λz=>nomatch z) h
end
structure cn (k:Nat) (A:Around):Prop where
 hd:A.handled=none
 dp:A.depth+3*k+5<recursionLimit
 un:A.units+16*k+200<cLine
 gd:A.guards=some []
theorem cn.mono(r:cn k A)(h:j<=k):cn j A:=%[r.hd,by have:=r.dp;lia,by have:=r.un;lia|r.gd]
theorem cn.deeper(r:cn (k+1) A)(env:Env):cn k (A.deeper env):=
 %[r.hd,by have:=r.dp;show A.depth+1+3*k+5<_;lia,by have:=r.un;show A.units+3+16*k+200<_;lia|r.gd]
theorem vz{A:Around}:(A.under (.builtin "type.__call__" %[.ref C::us|a])).depth=A.depth+1:=by
 first|rfl|lia
theorem vA{A:Around}:(A.under (.builtin "type.__call__" %[.ref C::us|a])).units=A.units+1:=by
 first|rfl|lia
theorem cn.make(r:cn (k+1) A)(C:Addr)(us:ZF)(a:List (Str×Value)):cn k (A.under (.builtin "type.__call__" %[.ref C::us|a])):=
 %[r.hd,by have:=r.dp;rw[vz];lia,by have:=r.un;rw[vA];lia|r.gd]
theorem cn.depth(r:cn k A):A.depth<recursionLimit:=by have:=r.dp;lia
theorem cn.units(r:cn k A):A.units+64<cLine:=by have:=r.un;lia
def ye:TA:=λ_ H Q=>Q [] H
def Ap(b:TE)(c:TA):TA:=λa H Q=>b a H λx d=>c a d λxs e=>Q (x::xs) e
section
variable{X:Cx}{e:Expr}{es:List Expr}{te:TE}{t:TA}{pos:Pos}
theorem EQ:PA X [] ye:=λ_ _ _ _ H Q I h=>Calls.spliced_nil %[[],H,I,.nil|h]
theorem Ct(b:PE X e te)(c:PA X es t)(d:starEach (e::es) X.env=(false,eval e X.env)::starEach es X.env):PA X (e::es) (Ap te t):=by
 intro pos pins s a H Q I h;rw[d];show wpAny _ _ (spliced ((false,eval e X.env)::backTo pos _)) _ _ s;exact Calls.spliced_cons (thP (b pins s a H _ I h) λu f x g i j l=>thP (c pos pins f a g _ i l) λus q xs m n o p=>%[x::xs,m,n,.cons j o|p])
def ER(t:TA):TE:=λb H Q=>t b H λxs a=>xs.length<=sizeLine/\∀p,a p=none->Q (.ref p) (upd a p (.tup xs))
def ES(t:TA):TE:=λb H Q=>t b H λxs a=>xs.length<=sizeLine/\∀p,a p=none->Q (.ref p) (upd a p (.lst xs))
theorem ET{d}(h:PA X es t):PE X (.Tuple es d pos) (ER t):=by
 intro pins s f H Q I g;refine wpAny_Tuple_spliced (thP (h pos pins s f H _ I g) λus a xs i c r ⟨z,q⟩=>%[r.length▸z|?_]);have j:=c.hok.fresh (Zi _);refine%[.ref ⇑a,upd i ⇑a _,c.laid (λb u e=>Z7 _ e) (Zi _) ?_,rfl|q _ j];exact%[z,us,r,_,Zj _ rfl,rfl,_|rfl]
theorem EU(h:PA X es t):PE X (.List es pos) (ES t):=by
 intro pins s d H Q I f;refine wpAny_List_spliced (thP (h pos pins s d H _ I f) λus a xs g c r ⟨z,q⟩=>%[r.length▸z|?_]);have i:=c.hok.fresh (Zi _);refine%[.ref ⇑a,upd g ⇑a _,c.laid (λb u e=>Z7 _ e) (Zi _) ?_,rfl|q _ i];exact%[z,us,0,r|Zj _ rfl]
end
noncomputable abbrev Sp:=List V->Hp->VK->XK->Prop
noncomputable abbrev CXT:=List Env->Hp->Shared->XK->Value->Shared->Prop
structure vB (P:Program) (w:World) (K:ZA) (mg:ZC) (base:Heap) (A:Around) (outer:List Env) (s:Shared) (H:Hp):Prop where
 frames:A.frames=some outer
 mod:Mod K mg base
 bs:∀b o,base.get? b=some o->s.heap.get? b=some o/\H b=none
 bsz:base.objs.size<=⇑s
 funs:s.heap.FunFrames base outer
 frf:∀b∈frs outer,H b=none
 hok:HOk P w H s.heap
 bare:AllBare s.gens
def CE(outer:List Env)(P:Program)(w:World)(H:Hp)(s:Shared)(Q:VK)(u:Value)(s':Shared):Prop:=
 ∃v a,s'.os=s.os/\AllBare s'.gens/\Un (frs outer) [] H a s.heap s'.heap/\HOk P w a s'.heap/\aP v u/\Q v a
def CR(CX:CXT)(outer:List Env)(P:Program)(w:World)(H:Hp)(s:Shared)(Q:VK)(E:XK)(r:Result)(s':Shared):Prop:=
 match r with
 | .ok (.ret u)=>CE outer P w H s Q u s'
 | .ok _=>False
 | .error e=>CX outer H s E e s'
structure eW (P:Program) (w:World) (K:ZA) (mg:ZC) (base:Heap) (CX:CXT) (k:Nat) (f:Addr) (fd:FuncData) (ps:ZB) (sp:Sp):Prop where
 len:∀vs H Q E,sp vs H Q E->vs.length=ps.length
 run:∀A outer s H args us vs Q E,cn k A->vB P w K mg base A outer s H->BindsTo s fd args (ps.zip us)->aI vs us->sp vs H Q E->
  codeAny (model P w) A (.call (.ref f) args) (CR CX outer P w H s Q E) s
theorem eW.imp{P:Program}{K:ZA}(F:eW P w K mg base CX k f b ps sp)
 (h:∀vs H Q E,a vs H Q E->sp vs H Q E):eW P w K mg base CX k f b ps a:=
 %[λvs H Q E q=>F.len vs H Q E (h _ _ _ _ q)|λA outer s H args us vs Q E c d e g i=>F.run A outer s H args us vs Q E c d e g (h _ _ _ _ i)]
theorem vB.make{P:Program}{K:ZA}(e:vB P w K mg base A outer s H)(C:Addr)(us:ZF)(a:List (Str×Value)):
 vB P w K mg base (A.under (.builtin "type.__call__" %[.ref C::us|a])) outer s H:=⟨by first|exact e.frames|lia,e.mod,e.bs,e.bsz,e.funs,e.frf,e.hok,e.bare⟩
section
variable{X:Cx}{pins:ZE}{σ:St}{H:Hp}{s s':Shared}
theorem Inv.env0(I:Inv X pins σ H s):vB X.prog X.w X.K X.mg X.base X.A X.stack s H:=
 %[I.ok.frames,I.ok.mod,I.bs,Yh I.ok.bsz I.sz,I.stack,I.stkFree,I.hok|I.bare]
theorem Inv.after(I:Inv X pins σ H s)(h:CE X.stack X.prog X.w H s Q u s'):EP X pins σ Q u s':=by
 have%[v,f,os,a,un,c,r|q]:=h;have%[i,g,d,t|e]:=s';obtain rfl:e=s.os:=os;exact%[v,f,I.call un c a (λb z=>absurd z ∅),r|q]
end
def tK(sp:Sp)(dvs:List V)(E:XK)(t:TA):TE:=λa H Q=>t a H λvs b=>sp (vs++dvs) b Q E
def wN(C:Addr)(m:Str)(sp:Sp)(dvs:List V)(E:XK)(d:TE)(t:TA):TE:=λb H Q=>d b H λx c=>∃a e fs,x= .ref a/\c a=some (.ins C e fs)/\fs.lookup m=none/\
 t b c λvs f=>sp (x::(vs++dvs)) f Q E
def wO(C:Addr)(sp:Sp)(dvs:List V)(E:XK)(t:TA):TE:=λc H Q=>t c H λvs b=>∀x a,b x=none->b a=none->a≠x->
 sp (.ref x::(vs++dvs)) (upd (upd b a (.own x)) x (.ins C a [])) (λv d=>v= .non/\Q (.ref x) d) E
def fT(K:ZA)(a:FuncData)(ps:ZB)(ds:ZF):Prop:=
 ∀s us,K.In s.heap->(us++ds).length=ps.length->BindsTo s a %[us|[]] (ps.zip (us++ds))
theorem fT.all{K:ZA}(h:∀us:ZF,us.length=ps.length->bindArgs b %[us|[]]=pure (ps.zip us)):fT K b ps []:=λs us _ a=>by
 rw[Zz]at a ⊢;exact .of_eq (h us a)
def jS(CX:CXT)(X:Cx)(E:XK):Prop:=∀pins (a:St) H s e s',Inv X pins a H s->CX X.stack H s E e s'->X.xe e s'
section
variable{X:Cx}{CX:CXT}{k:Nat}{f C:Addr}{fd:FuncData}{ps:ZB}{sp:Sp}{dvs:List V}{ds:ZF}{E:XK}{x m:Str}{p pos apos:Pos}{e o:Expr}{es:List Expr}{ta:TE}{t:TA}
theorem Aq(F:eW X.prog X.w X.K X.mg X.base CX k f fd ps sp)(d:cn k X.A)(g:fT X.K fd ps ds)(i:aI dvs ds)(j:jS CX X E)
 (I:Inv X pins b H s) (r:aI vs us) (h:sp (vs++dvs) H Q E):(~~~X) (call (.ref f) us) (EP X pins b Q) X.xe s:=by
 have c:=r.append i;refine wpAny_call (codeAny_mono (F.run X.A X.stack s H _ _ _ Q E d I.env0 (g s us I.kIn (c.length▸F.len _ _ _ _ h)) c h) λr s' a=>?_);cases r with
 | error e=>exact j pins b H s e s' I a
 | ok l=>
   cases l with
   | ret u=>exact I.after a
   | next=>exact False.elim a
   | brk=>exact False.elim a
   | cont=>exact False.elim a
theorem Cu(F:eW X.prog X.w X.K X.mg X.base CX k f fd ps sp)(d:cn k X.A)(g:Gl X x)(i:X.mg x=some (.ref f))(j:keepIn X.K (.ref f)=true)(l:fT X.K fd ps ds)(n:aI dvs ds)(u:jS CX X E)
 (v:PA X (e::es) t) (a:(x==("__debug__":Str))=false) (w:starEach (e::es) X.env=(false,eval e X.env)::starEach es X.env) (b:(backTo pos (starEach es X.env)).any (·.1)=false):
 PE X (.Call (.Name x p) (e::es) [] pos) (tK sp dvs E t):=by
 intro pins s y H Q I h;exact wpAny_Call_Name_kw (rJ I g i (callWith_K I.ok.mod.kin j (thP (v pos pins s y H _ I h) λus z vs A c r q=>%[c.kIn|Aq F d l n u c r q]) w b) a)
theorem Ar(i:PE X o ta)(c:Cls X.K C)(d:Cr X.K C m f)(F:eW X.prog X.w X.K X.mg X.base CX k f fd ps sp)(j:cn k X.A)(n:fT X.K fd ps ds)(r:aI dvs ds)(v:jS CX X E)
 (w:eval (.Call (.Attribute o m apos) [] [] pos) X.env=(do
  let g<-eval o X.env
  standAt apos.atName
  let(f,first)<-holding [g] (getMethod g m pl)
  callWith pos f first (backTo pos (starEach [] X.env)) (backToKw pos (keywordEach [] X.env)))):
 PE X (.Call (.Attribute o m apos) [] [] pos) (wN C m sp dvs E ta ye):=by
 intro pins s y H Q I h;refine PySem.W.methodCall_KW (thP (i pins s y H _ I h) λu B x G b z ⟨a,J,fs,ex,A,l,q⟩=>?_) w;subst ex;obtain rfl:u=Value.ref a:=z;exact vw b A c d l (PySem.W.callWith_K0 b.kIn d.kp (Aq (us:=[.ref a]) (vs:=[.ref a]) F j n r v b (.cons rfl .nil) q))
structure Mk (K:ZA) (C f:Addr):Prop where
 makes:makesIn K C=true
 init:findIn K (.ref C) "__init__"=some (some (.ref f))
 fn:isFn K (.ref f)=true
 kp:keepIn K (.ref C)=true
theorem At(M:Mk X.K C f)(F:eW X.prog X.w X.K X.mg X.base CX k f fd ps sp)(j:cn (k+1) X.A)(l:fT X.K fd ps ds)(n:aI dvs ds)
 (q:jS CX X E) (I:Inv X pins d H s) (r:aI vs us)
 (h:∀x b,H x=none->H b=none->b≠x->sp (.ref x::(vs++dvs)) (upd (upd H b (.own x)) x (.ins C b [])) (λv w=>v= .non/\Q (.ref x) w) E):
 (~~~X) (call (.ref C) us) (EP X pins d Q) X.xe s:=by
 have g:=h (⇑s+1) ⇑s (I.hok.fresh (Yg _)) (I.hok.fresh (Zi _)) (Zt (Yp _));have c:=Inv.made (C:=C) I;have i:aI (V.ref (⇑s+1)::(vs++dvs)) _:= .cons rfl (r.append n);have y:=by
  have e:=i.length;rw[F.len _ _ _ _ g]at e;exact e.symm
 refine wpAny_call (Ao I.kIn M.makes M.init (beq_iff_eq.mp M.fn) (codeAny_mono (F.run _ X.stack _ _ _ _ _ _ E (j.make C us [])
  (c.env0.make C us []) (l _ _ c.kIn y) i g) λr s' a=>?_))
 cases r with
 | error e=>exact q pins d _ _ e s' c a
 | ok z=>
   cases z with
   | ret u=>
     have%[v,A,B,G,J|L]:=c.after a;subst J;exact%[G,V.ref _,A,B,rfl|L]
   | next=>exact False.elim a
   | brk=>exact False.elim a
   | cont=>exact False.elim a
theorem Cv(M:Mk X.K C f)(F:eW X.prog X.w X.K X.mg X.base CX k f fd ps sp)(d:cn (k+1) X.A)(g:Gl X x)(i:X.mg x=some (.ref C))(j:fT X.K fd ps ds)(l:aI dvs ds)(n:jS CX X E)
 (u:PA X (e::es) t) (a:(x==("__debug__":Str))=false) (v:starEach (e::es) X.env=(false,eval e X.env)::starEach es X.env) (b:(backTo pos (starEach es X.env)).any (·.1)=false):
 PE X (.Call (.Name x p) (e::es) [] pos) (wO C sp dvs E t):=by
 intro pins s w H Q I h;exact wpAny_Call_Name_kw (rJ I g i (callWith_K I.ok.mod.kin M.kp (thP (u pos pins s w H _ I h) λus y vs z c r q=>%[c.kIn|At M F d j l n c r q]) v b) a)
end
section
variable{X:Cx}{CX:CXT}{k:Nat}{f C:Addr}{fd:FuncData}{ps ks:ZB}{sp:Sp}{E:XK}{x m:Str}{p pos apos kpos:Pos}{e o:Expr}{es:List Expr}{kws:List Keyword}{te ta:TE}{t tk:TA}{nm:Option Str}
variable{g:ZF->ZF->ZF}{gV:List V->List V->List V}
end
structure aw (N P:ZB) (sc:Scope):Prop where
 kind:sc.kind= .function
 co:sc.isCoroutine=false
 gen:sc.isGenerator=false
 nd:N.Nodup
 pre:N.take P.length=P
 par:∀x∈P,sc.names.lookup x=some .local\/sc.names.lookup x=some .cell
 nofree:∀y∈sc.names,y.2≠ .free
theorem qt{kindOf:Str->Option NameKind}:∀{binds:List (Str×Value)} {m:ZC},(∀v,(x,v)∉binds)->bindL kindOf binds m x=m x
 |[],_,_=>rfl
 |(n,v)::r,m,h=>by
  unfold bindL;rw[qt λw hw=>h w (Zk _ hw)]
  split
  .have:x≠n:=by rintro rfl;exact h v Zm
   simp[this]
  .rfl
theorem qu{kindOf:Str->Option NameKind}:∀{binds:List (Str×Value)} {m:ZC},(∀v,(x,v)∉binds)->bindC kindOf binds m x=m x
 |[],_,_=>rfl
 |(n,v)::r,m,h=>by
  unfold bindC;rw[qu λw hw=>h w (Zk _ hw)]
  split
  .rfl
  .have:x≠n:=by rintro rfl;exact h v Zm
   simp[this]
theorem qv{kindOf:Str->Option NameKind}{x:Str}:∀{P:ZB} {vs:ZF} {i:Nat} {m:ZC},P.Nodup->P[i]? =some x->vs[i]? =some v->kindOf x=some .local->
 bindL kindOf (P.zip vs) m x=some v
 |[],_,_,_,_,h,_,_=>by simp at h
 | _::_,[],_,_,_,_,h,_=>by simp at h
 | p::P,w::vs,0,m,nd,a,b,c=>by
   simp at a b;subst a;subst b;show bindL kindOf ((p,w)::P.zip vs) m p=_;unfold bindL;rw[qt λv d=>(nodup_cons.mp nd).1 (of_mem_zip d).1,if_pos c];simp
 | p::P,w::vs,i+1,m,nd,a,b,c=>by
   show bindL kindOf ((p,w)::P.zip vs) m x=_;exact qv (nodup_cons.mp nd).2 (a) (b) c
theorem qw{kindOf:Str->Option NameKind}{x:Str}:∀{P:ZB} {vs:ZF} {i:Nat} {m:ZC},P.Nodup->P[i]? =some x->vs[i]? =some v->kindOf x≠some .local->
 bindC kindOf (P.zip vs) m x=some v
 |[],_,_,_,_,h,_,_=>by simp at h
 | _::_,[],_,_,_,_,h,_=>by simp at h
 | p::P,w::vs,0,m,nd,a,b,c=>by
   simp at a b;subst a;subst b;show bindC kindOf ((p,w)::P.zip vs) m p=_;unfold bindC;rw[qu λv d=>(nodup_cons.mp nd).1 (of_mem_zip d).1,if_neg c];simp
 | p::P,w::vs,i+1,m,nd,a,b,c=>by
   show bindC kindOf ((p,w)::P.zip vs) m x=_;exact qw (nodup_cons.mp nd).2 (a) (b) c
noncomputable def start(N:ZB)(vs:List V):St:=vs.map some++List.replicate (N.length-vs.length) none
noncomputable def rN(CX:CXT)(P:Program)(w:World)(K:ZA)(mg:ZC)(base:Heap)(N:ZB)(qual:Str)(scope:Scope)(f:Addr)(cd:Value)(A:Around)(outer:List Env)(s:Shared)(H:Hp)(E:XK):Cx where
 prog:=P
 w:=w
 K:=K
 mg:=mg
 base:=base
 A:=A.deeper (envOfC qual scope ⇑s f cd)
 N:=N
 s₀:=s
 H₀:=H
 env:=envOfC qual scope ⇑s f cd
 outer:=outer
 stack:=envOfC qual scope ⇑s f cd::outer
 ex:=[]
 calm:=true
 fn:=λ_=>true
 pn:=[]
 xe:=λe s'=>wpAny (model P w) (A.deeper (envOfC qual scope ⇑s f cd)) (leaving (envOfC qual scope ⇑s f cd) e) (λ_ s''=>CX outer H s E e s'') (λe' s''=>CX outer H s E e' s'') s'
theorem tL{a:Scope}{n:Nat}{x:Str}(h:a.names.lookup x=some .cell):∃c,(cellsFrom n a.names []).lookup x=some c:=by
 exact isSome_iff_exists.mp (cellsFrom_some a.names n [] (.inl h))
theorem yf{P:Program}{K:ZA}
 (S:aw N ps a) (I:A.handled=none) (g:vB P w K mg base A outer s H) (Q:vs.length=ps.length) (r:aI vs us)
 (x:InCallC s ⇑s (bindL (envOfC d a ⇑s f B).kindOf (ps.zip us) λ_=>none) (cellsFrom (⇑s+1) a.names []) (bindC (envOfC d a ⇑s f B).kindOf (ps.zip us) λ_=>none) J):
 Inv (rN CX P w K mg base N d a f B A outer s H E) [] (start N vs) H J:=by
 have L:ps.length<=N.length:=by have:=congrArg List.length S.pre;rw[Ym]at this;lia
 have%[t,tk,rfl|C]:=x.done;have l:∀b,b∉(rN CX P w K mg base N d a f B A outer s H E).ex:=λb z=>absurd (show b∈([])from z) ∅
 refine%[%[g.mod,S.kind,rfl,rfl,Zi _,λy z c t j=>?_,λy m=>?_,λy c _ h=>?_,λ_=>I,Around.frames_deeper g.frames,.inr %[rfl|rfl],λb z=>absurd z (l b),g.bs,g.bsz,λb _ _=>l b,λb z=>absurd z (l b),g.funs|g.frf],
  rfl,g.bare,Un.kept C,%[_,x.toInCall.ns|λi y v t j T=>?_],λy c h=>%[_|x.cell y c h],g.hok.fresh (Zi _),λy c h=>?_,λp n=>absurd (show p∈([])from n) ∅,g.hok.kept C|?_]
 .exact name_of_addr x.apart (PySem.mem_of_lookup t) (PySem.mem_of_lookup j)
 .rcases m with m|m
  .exact tL m
  .exact absurd rfl (S.nofree _ (PySem.mem_of_lookup m))
 .exact Yf (x.above y c (PySem.mem_of_lookup h))
 .have hi:i<vs.length:=by
   unfold start at j;by_cases hi:i<vs.length
   .exact hi
   .rw[Ya (by simpa using hi)]at j;rw[List.getElem?_replicate]at j
    split at j<;> cases j
  have M:vs[i]? =some v:=by
   unfold start at j;rw[Y9 (by simpa using hi),Zl]at j
   simp_all
  have%[u,G|O]:=r.get M;have n:ps[i]? =some y:=by
   rw[<-S.pre,Yd ⋯];exact t
  have o:ps.Nodup:=S.pre▸S.nd.sublist (List.take_sublist _ _);refine%[u,O|?_];rcases S.par y (Z8 n)with k|k
  .exact .inl %[k|qv o n G k]
  .have%[c|e]:=tL k;refine .inr %[.inl k,c,e|?_];have q:=x.cell y c e;rw[qw o n G (by show a.names.lookup y≠_;rw[k];decide)]at q;exact q
 .exact g.hok.fresh (Yf (x.above y c (PySem.mem_of_lookup h)))
 .unfold start;show _=N.length;rw[Z9,Z6,List.length_replicate]
  lia
theorem GF{P:Program}{K:ZA}{T kV z U d ct oc:Value}
 (lk:K.lookup f=some %[oc,od,.func (fnOf name c g i a T kV z U an d ct)|ab]) (G:codeIn K d c=true) (S:aw N ps a)
 (len:∀vs H Q E,sp vs H Q E->vs.length=ps.length)
 (l:∀(A:Around) (outer:List Env) (s:Shared) (H:Hp) (vs:List V) (Q:VK) (E:XK),cn k (A.deeper (envOfC c a ⇑s f d))->sp vs H Q E->
  ∃t,PSs (rN CX P w K mg base N c a f d A outer s H E) i t/\t {nx:=λ_ j=>Q .non j,rt:=Q} (start N vs) H):
 eW P w K mg base CX (k+1) f (fnOf name c g i a T kV z U an d ct) ps sp:=by
 refine%[len|λA outer s H args us vs Q E L B hb r C=>?_];have Y:=B.mod.kin.keeps λb o e=>(B.bs b o e).1
 have M:=B.mod.nolimit.keeps λb o e=>(B.bs b o e).1
 have m:∀y∈ps.zip us,a.names.lookup y.1=some _\/(a.names.lookup y.1=some _/\((cellsFrom (⇑s+1) a.names []).lookup y.1).isSome=true):=λ⟨n,v⟩ hy=>by
  rcases S.par n (of_mem_zip hy).1 with q|q
  .exact .inl q
  .exact .inr %[q|cellsFrom_some _ _ _ (.inl q)]
 refine codeAny_call_function L.depth (Y _ _ lk) rfl S.co S.gen rfl (PySem.W.codeRec_of Y G) (hb _ _ _ _ (wpAny_newFunctionEnv_cells S.kind m λenv he s1 x=>?_));subst he;refine%[M.keeps x.toInCall.keep|codeAny_func ?_];have%[t,ht|hq]:=l A outer s H vs Q E (L.deeper _) C;have I:Inv (rN CX P w K mg base N c a f d A outer s H E) [] _ H s1:=yf S L.hd B (len _ _ _ _ C) r x;refine wpAny_mono (ht [] s1 _ H _ I hq) (λfl s' p=>?_) λe s' p=>p
 have fin:∀{h:St} {j:Hp} {v:V} {u:Value},Inv (rN CX P w K mg base N c a f d A outer s H E) [] h j s'->aP v u->Q v j->CE outer P w H s Q u s':=
  λ{h j v u} J O q=>%[v,j,J.os,J.bare,J.base,J.hok,O|q]
 cases fl with
 | ret u=>
   have%[v,h,j,J,O|q]:=p;exact fin J O q
 | next=>
   have%[h,j,J|q]:=p;exact fin (v:=V.non) J rfl q
 | brk=>
   have%[_,_,_|q]:=p
   simp_all
 | cont=>
   have%[_,_,_|q]:=p;exact False.elim q
section
variable{X:Cx}{x:Str}{p pos:Pos}{e:Expr}{es:List Expr}{t:TA}{id T:String}{r:List V->Hp->VK->Prop}
def tCB(r:List V->Hp->VK->Prop)(t:TA):TE:=λa H Q=>t a H λvs b=>r vs b Q
theorem Au(d:cA X (.builtin id) r)(f:Gl X x)(g:X.mg x=none)(i:bootBuiltins x=some (.builtin id))(j:PA X (e::es) t)(l:x≠"__name__")(a:(x==("__debug__":Str))=false)
 (m:starEach (e::es) X.env=(false,eval e X.env)::starEach es X.env) (b:(backTo pos (starEach es X.env)).any (·.1)=false):PE X (.Call (.Name x p) (e::es) [] pos) (tCB r t):=by
 intro pins s c H Q I h;exact wpAny_Call_Name_kw (jQ I f g i (PyProof.Rows.callWith_builtin1 (thP (j pos pins s c H _ I h) λus n vs o q u v=>d pins n c o vs us Q q u v) m b) l a)
theorem yg(d:cA X (.type T) r)(f:Gl X x)(g:X.mg x=none)(i:bootBuiltins x=some (.type T))(j:PA X (e::es) t)(l:x≠"__name__")(a:(x==("__debug__":Str))=false)
 (m:starEach (e::es) X.env=(false,eval e X.env)::starEach es X.env) (b:(backTo pos (starEach es X.env)).any (·.1)=false):PE X (.Call (.Name x p) (e::es) [] pos) (tCB r t):=by
 intro pins s c H Q I h;exact wpAny_Call_Name_kw (jQ I f g i (PyProof.Rows.callWith_type1 (thP (j pos pins s c H _ I h) λus n vs o q u v=>d pins n c o vs us Q q u v) m b) l a)
end
end L2
namespace HT
open PySem PyProof.Rows
section
open PySem.SeqAt
open PySem.AutoSeq1 (wpAny_loadPart')
open PySem.MeetsSeq PySem.MeetsSeq2 PySem.MeetsSeq3
end
section
#where
noncomputable def sIx(n d:Nat):Option Int->Nat
 | none=>d
 | some v=>if v<0 then(v+n).toNat else min v.toNat n
theorem sIx_none(n d:Nat):sIx n d none=d:=rfl
theorem sIx_nat(n d k:Nat):sIx n d (some k)=min k n:=by
 show(if k<0 then((k:Int) +n).toNat else min _ n)=min k n;rw[if_neg ⋯,Int.toNat_natCast]
theorem wP(v:Int)(n d:Nat):(if v<0 then max (v+n) 0 else min v n)=((sIx n d (some v))):=by
 show(if v<0 then max _ 0 else min v n)=(((if v<0 then(v+n).toNat else min v.toNat n):Nat))
 grind
theorem vC(lo hi:Option Int)(n:Nat):Builtin.Slice.sliceAdjust lo hi 1 n=(((sIx n 0 lo):Int),((sIx n n hi):Int)):=by
 refine Prod.ext ?_ ?_
 .cases lo with
  | none=>rfl
  | some v=>exact wP v n 0
 .cases hi with
  | none=>rfl
  | some v=>exact wP v n n
theorem vD(i j:Nat):Builtin.Slice.slicePlaces i j 1=j-i:=by
 unfold Builtin.Slice.slicePlaces;have a:(1:Int)>0:=by lia
 simp only[a,if_true,Int.ediv_one]
 split<;> lia
theorem nN(p:IsPart v o)(h:Q o s):↥A (Builtin.Slice.slicePartIndex v) Q E s:=by
 cases p with
 | none=>exact slicePart_none h
 | int i t=>exact slicePart_int h
theorem lH{lo hi:Option Int}{n:Nat}(c:s.heap.IsSliceOf d e f .none)(pl:IsPart e lo)(g:IsPart f hi)
 (h:Q (((sIx n 0 lo:Nat):Int),1,sIx n n hi-sIx n 0 lo) s):↥A (Builtin.Slice.sliceApplied (.ref d) (pure (n:Int))) Q E s:=by
 have%[os,a,i|b]:=id c;refine Z2 (Z2 (wpAny_field a b rfl (Z2 (wpAny_field a b rfl (Z2 (wpAny_field a b rfl (Z3 (Z2 (slicePart_none (Z2 (nN pl (Z2 (nN g (Z2 (Z3 ?_)))))))))))))));show wpAny _ _ (match Builtin.Slice.sliceAdjust lo hi 1 n with|(lo,hi)=>pure (lo,(1:Int),Builtin.Slice.slicePlaces lo hi 1)) _ _ s;rw[vC lo hi n];show wpAny _ _ (pure _) _ _ s;rw[vD];exact Z3 h
theorem Av(xs:ZJ)(i k:Nat):((List.range k).filterMap λ(m:Nat)=>xs[((i:Int) +m*1).toNat]?).toArray=((xs.toList.drop i).take k).toArray:=by
 have e:(λ(m:Nat)=>xs[((i:Int) +m*1).toNat]?)=λm=>xs[i+m]? :=by
  funext m;have:((i:Int) +m*1).toNat=i+m:=by lia
  rw[this]
 rw[e];have:=pick_run xs i k;rw[List.filterMap_map]at this;have a:((λx=>xs[x]?) ∘ λx=>i+x)=λm=>xs[i+m]? :=rfl
 rw[a]at this;rw[this]
theorem getItem_tuple_cut{lo hi:Option Int}(c:IsTup s.heap t a)(g:s.heap.IsSliceOf i j l .none)(pl:IsPart j lo)(m:IsPart l hi)
 (hw: ¬ (sIx a.size 0 lo=0/\sIx a.size a.size hi=a.size))
 (h:Q (.ref ⇑s) {s with heap:=s.heap.push {cls:= .type "tuple",data:= .seq ((a.toList.drop (sIx a.size 0 lo)).take (sIx a.size a.size hi-sIx a.size 0 lo)).toArray}})
 (n:a.size<=sizeLine):↥A (getItem (.ref t) (.ref i)) Q E s:=by
 have b:sizeOk (.seq ((a.toList.drop (sIx a.size 0 lo)).take (sIx a.size a.size hi-sIx a.size 0 lo)).toArray):=by
  show((a.toList.drop _).take _).toArray.size<=sizeLine;rw[Zp,Ym,Yi,Zb]
  lia
 have%[os,d,e|o]:=id g;unfold getItem
 try with_reducible refine wpAny_holding ?_
 refine Z2 (wpAny_sequenceKey c.typeIs (by decide) ?_);refine Z2 (wpAny_callSpecial?_slot c.typeIs PyProof.Rows.slot_tuple_getitem
  (wpAny_call_entry PyProof.Rows.slot_tuple_getitem c.typeIs entry_tuple_getitem ?_ (args_tuple_getitem _ _)))
 show wpAny _ _ (Builtin.Tuple.tupleItemsOf _>>= _) _ _ s;refine Z2 (tupleItemsOf_ c (Z2 (wpAny_typeOf %[os,d|e] (Z2 (lH g pl m ?_)))));have f: ¬ ((((sIx a.size 0 lo):Int)==0&&(1:Int)==1&&(sIx a.size a.size hi-sIx a.size 0 lo)==a.size)=true):=by
  lia
 show wpAny _ _ (if(((sIx a.size 0 lo):Int)==0&&(1)==1&&(sIx a.size a.size hi-sIx a.size 0 lo)==a.size)=true then _ else _) _ _ s;rw[if_neg f,Av]
 first
  | exact Z2 (wpAny_newObj_type (Z3 ⟨_,rfl,Z3 h⟩) b)
  | lia
  | lia
  | lia
end
end HT
namespace L2
open PySem PySem.Spec PyProof.Rows
noncomputable abbrev TO:=St->Hp->(Option Int->Hp->Prop)->Prop
def PO(X:Cx)(e:Option Expr)(t:TO):Prop:=
 ∀pins s (a:St) H Q,Inv X pins a H s->t a H Q->
  (~~~X) (evalPart e X.env) (λu s'=>∃o b,Inv X pins a b s'/\IsPart u o/\Q o b) X.xe s
def rO:TO:=λ_ H Q=>Q none H
def Aw(t:TE):TO:=λa H Q=>t a H λx b=>asI x λi=>Q (some i) b
section
variable{X:Cx}{e:Expr}{te:TE}{lo hi:Option Expr}{tl th:TO}{pos p2:Pos}
theorem Cw:PO X none rO:=by
 intro pins s a H Q I h;exact Z3 %[none,H,I,.none|h]
theorem Cy(h:PE X e te):PO X (some e) (Aw te):=by
 intro pins s a H Q I hw;refine thP (h pins s a H _ I hw) λu g x b c d f=>?_
 have%[i,rfl|q]:=iY f;have%[t|rfl]:=d;exact%[some i,b,c,.int i t|q]
def SlR(X:Cx)(r:V->Option Int->Option Int->Hp->VK->Prop):Prop:=
 ∀pins s (a:St) H x v b c lo hi d Q,Inv X pins a H s->aP x v->s.heap.IsSliceOf d b c .none->IsPart b lo->IsPart c hi->r x lo hi H Q->
  ∃T id,typeLookup (.type T) "__getitem__"=pure (some (.builtin id))/\s.TypeIs v T/\(~~~X) (getItem v (.ref d)) (EP X pins a Q) X.xe s
theorem SlR.or(h:SlR X r)(h':SlR X j):SlR X (λx lo hi H Q=>r x lo hi H Q\/j x lo hi H Q):=by
 intro pins s a H x v b c lo hi d Q I f g pl i q;rcases q with q|q
 .exact h pins s a H x v b c lo hi d Q I f g pl i q
 .exact h' pins s a H x v b c lo hi d Q I f g pl i q
def tSl(r:V->Option Int->Option Int->Hp->VK->Prop)(te:TE)(tl th:TO):TE:=λa H Q=>te a H λx b=>tl a b λl c=>th a c λu d=>r x l u d Q
theorem Ax(c:SlR X r)(d:PE X e te)(f:PO X lo tl)(g:PO X hi th):PE X (.Subscript e (.Slice lo hi none p2) pos) (tSl r te tl th):=by
 intro pins s a H Q I h;refine Subscript_ (thP (d pins s a H _ I h) λv i x j m n o=>wpAny_Slice (thP (f pins i a j _ m o) λp t l w y pl z=>thP (g pins t a w _ y z) λA B u C E G J=>Z3 ?_));have%[T,id,L,M|N]:=c pins _ a C x v p A l u ⇑B Q (E.kept λb O q=>Z7 _ q) n (Heap.IsSliceOf.new ..) pl G J;exact tail_any M L N (by with_unfolding_all rfl)
noncomputable def tM(xs:List V)(lo hi:Option Int):List V:=(xs.drop (HT.sIx xs.length 0 lo)).take (HT.sIx xs.length xs.length hi-HT.sIx xs.length 0 lo)
theorem mE(xs:List V)(lo hi:Option Int):(tM xs lo hi).length<=xs.length:=by
 unfold tM;rw[Ym,Yi]
 lia
def EV(K:ZA):V->Option Int->Option Int->Hp->VK->Prop:=λx lo hi H Q=>∃a xs,x= .ref a/\SqT K H a xs/\
 ¬ (HT.sIx xs.length 0 lo=0/\HT.sIx xs.length xs.length hi=xs.length)/\∀p,H p=none->Q (.ref p) (upd H p (.tup (tM xs lo hi)))
theorem EW:SlR X (EV X.K):=by
 intro pins s m H x v n o lo hi p Q I g i pl j h;have%[a,xs,rfl,l,hw|q]:=h;cases g;have%[its,r,d|f]:=I.tuple l;have c:its.toArray.size=xs.length:=r.length.symm;refine%["tuple",_,PyProof.Rows.slot_tuple_getitem.lookup,d.typeIs|HT.getItem_tuple_cut d i pl j (c▸hw) ?_ (c▸f)];rw[c];refine%[.ref ⇑s,_,I.laid (λb t q=>Z7 _ q) (Zi _) ?_,rfl|q _ (I.hok.fresh (Zi _))];exact%[Yh (mE xs lo hi) f,_,(r.drop _).take _|IsTup.new _ _]
end
noncomputable def ixN(n:Nat)(i:Int):Option Nat:=if 0<=i then(if i<n then some i.toNat else none)else if -n<=i then some (i+n).toNat else none
noncomputable def atI{a:Type}(xs:List a)(i:Int):Option a:=(ixN xs.length i).bind λj=>xs[j]?
theorem Cz(h:ixN n i=some j):seqIndex? i n=some j/\j<n/\ -(n:Int)<=i/\i<n:=by
 unfold ixN at h;by_cases b:0<=i
 .rw[if_pos b]at h;by_cases a:i<n
  .rw[if_pos a]at h;exact%[by rw[seqIndex_of b a,(Za h)],⋯,⋯|a]
  simp_all
 .rw[if_neg b]at h;by_cases a: -n<=i
  .rw[if_pos a]at h;exact%[by rw[seqIndex_neg ⋯ a,(Za h)],⋯,a|⋯]
  .rw[if_neg a]at h;cases h
theorem rP{a:Type}{xs:List a}{i:Int}{v:a}(h:atI xs i=some v):∃j,seqIndex? i xs.length=some j/\xs[j]? =some v/\j<xs.length/\ -xs.length<=i/\i<xs.length:=by
 unfold atI at h;cases e:ixN xs.length i with
 | none=>simp_all
 | some j=>
   rw[e]at h;have%[b,c,d|f]:=Cz e;exact%[j,b,h,c,d|f]
theorem cJ{a:Type}{xs:List a}{j:Nat}{v:a}(h:xs[j]? =some v):atI xs j=some v:=by
 have b:=(Xn h).1;have e:ixN xs.length j=some j:=by
  unfold ixN
  simp_all
 unfold atI;exact e▸h
theorem ki(xs:List a)(v:a):atI (xs++[v]) (-1)=some v:=by
 have b:(xs++[v]).length=xs.length+1:=by simp
 have e:ixN (xs++[v]).length (-1)=some xs.length:=by
  unfold ixN;rw[b,if_neg (by decide),if_pos ⋯]
  congr 1
  lia
 unfold atI
 simp_all
def km(b:Expr):Prop:=∀o i,subscripted b false o i=operate [o,i] (getItem o i)
def IxR(X:Cx)(r:R2):Prop:=
 ∀b a pins s (c:St) H x y v u Q,Inv X pins c H s->aP x v->aP y u->r x y H Q->
  subscripted a false v u=operate [v,u] (getItem v u)->(~~~X) (subscriptTail b a v u) (EP X pins c Q) X.xe s
def MtR(X:Cx)(id:String)(r:V->List V->Hp->VK->Prop):Prop:=
 ∀pins s (a:St) H x xs v us Q,Inv X pins a H s->aP x v->aI xs us->r x xs H Q->
  (~~~X) (call (.builtin id) (v::us)) (EP X pins a Q) X.xe s
section
variable{X:Cx}{a b:Expr}{ta tb:TE}{pos:Pos}
theorem IxR.or(h:IxR X r)(h':IxR X j):IxR X (λx y H Q=>r x y H Q\/j x y H Q):=by
 intro c d pins s e H x y v u Q I f g q i;rcases q with q|q
 .exact h c d pins s e H x y v u Q I f g q i
 .exact h' c d pins s e H x y v u Q I f g q i
theorem wQ(c:IxR X r)(d:PE X a ta)(e:PE X b tb)(f:km b):PE X (.Subscript a b pos) (tOp r ta tb):=by
 intro pins s g H Q I h;exact Subscript_ (EC d e I h λv u i x y j l m n q=>c a b pins i g j x y v u Q l m n q (f _ _))
def CA(K:ZA):R2:=λx y H Q=>asR x λp=>asI y λi=>∃xs,SqL K H p xs/\∃v,atI xs i=some v/\Q v H
def CB(K:ZA):R2:=λx y H Q=>asR x λp=>asI y λi=>∃xs,SqT K H p xs/\∃v,atI xs i=some v/\Q v H
def CC:R2:=λx y H Q=>∃z i c,x= .str z/\y= .int i/\z.length<=sizeLine/\atI z.cps.toList i=some c/\Q (.str ⟨#[c]⟩) H
theorem wR:IxR X (CA X.K):=by
 intro d e pins s A H x y v u Q I B C h m;have%[p,rfl|f]:=fB h;have%[i,rfl,xs,E,z,G|q]:=iY f;cases B;have%[t|rfl]:=C;have%[its,r,pl|N]:=I.list E;have%[j,c,f,O,J|L]:=rP G;have%[w,n|g]:=r.get f;have M:=r.length;have T:=rL;have fin:EP X pins A Q w s:=%[z,H,I,g|q]
 by_cases o:0<=i
 .have l:=by
   rw[seqIndex_of o L]at c;exact Za c
  exact item_listR pl.isList o ⋯ (by rw[l];simpa using n) fin m
 .have l:(i+its.toArray.size).toNat=j:=by
   rw[seqIndex_neg ⋯ J]at c;rw[Zp,<-M];exact Za c
  exact subscriptTail_builtinR pl.isList.typeIs slot_list_getitem.lookup
   (wpAny_getItem_list_neg pl.isList ⋯ (by simp_all) ⋯ (by rw[l];simpa using n) %[rfl|fin]) m
theorem Ay:IxR X (CB X.K):=by
 intro c d pins s g H x y v u Q I l m h n;have%[p,rfl|e]:=fB h;have%[i,rfl,xs,o,z,A|q]:=iY e;cases l;have%[t|rfl]:=m;have%[its,r,pl|E]:=I.tuple o;have%[j,B,e,G,J|L]:=rP A;have%[w,C|f]:=r.get e;have M:=rL;have fin:EP X pins g Q w s:=%[z,H,I,f|q]
 exact subscriptTail_builtinR pl.typeIs slot_tuple_getitem.lookup
  (getItem_tuple pl ⋯ ⋯ (by rw[Zp,<-r.length];exact B) (by simpa using C) %[rfl|fin]) n
theorem Az:IxR X CC:=by
 intro d e pins s A H x y v u Q I g l h m;have%[z,i,c,rfl,rfl,B,n|q]:=h;have%[t|rfl]:=g;have%[t'|rfl]:=l;have%[j,f,o,C,p|r]:=rP n;have w:z.cps.toList.length=z.length:=by simp[Str.length]
 rw[w]at f p r;have E:=rL;exact tail_any (typeIs_str s z t) slot_str_getitem.lookup (getItem_str (by
  lia) (by rw[f];simpa using o) %[.str _,H,I.tok _,%[_|rfl]|q]) m
def rIx(K:ZA):R2:=λx y H Q=>CA K x y H Q\/CB K x y H Q\/CC x y H Q
theorem EX:IxR X (rIx X.K):=wR.or (Ay.or Az)
theorem rQ(lo hi:Option Int)(n:Nat):(sliceBounds lo hi none n).1=((HT.sIx n 0 lo:Nat):Int)/\(sliceBounds lo hi none n).2.1=((HT.sIx n n hi:Nat):Int)/\(sliceBounds lo hi none n).2.2=1:=by
 refine%[?_,?_|rfl]
 .cases lo with
  | none=>simp[sliceBounds,HT.sIx]
  | some i=>
    simp only[sliceBounds,HT.sIx,getD_none,show(1:Int)>0 by decide,if_true];by_cases h:i<0
    .simp only[h,if_true]<;> lia
    .simp only[h,if_false]<;> lia
 .cases hi with
  | none=>simp[sliceBounds,HT.sIx]
  | some i=>
    simp only[sliceBounds,HT.sIx,getD_none,show(1:Int)>0 by decide,if_true];by_cases h:i<0
    .simp only[h,if_true]<;> lia
    .simp only[h,if_false]<;> lia
theorem pQ(its:ZF)(lo hi:Option Int):slicePick its.toArray lo hi none=((its.drop (HT.sIx its.length 0 lo)).take (HT.sIx its.length its.length hi-HT.sIx its.length 0 lo)).toArray:=by
 have%[c,d|e]:=rQ lo hi its.toArray.size;unfold slicePick;rw[c,d,e];simp only[sliceRange_one,pick_run]<;> rfl
def EY(K:ZA):V->Option Int->Option Int->Hp->VK->Prop:=λx lo hi H Q=>∃a xs,x= .ref a/\SqL K H a xs/\∀p,H p=none->Q (.ref p) (upd H p (.lst (tM xs lo hi)))
theorem CD:SlR X (EY X.K):=by
 intro pins s l H x v m n lo hi o Q I e f pl g h;have%[a,xs,rfl,i|q]:=h;cases e;have%[its,r,d|j]:=I.list i;have c:=r.length;refine%["list",_,slot_list_getitem.lookup,d.isList.typeIs|wpAny_getItem_list_slice d.isList f pl g .none ∅ ?_ (by simp_all)];rw[pQ,<-c];refine%[.ref ⇑s,_,I.laid (λb p q=>Z7 _ q) (Zi _) ?_,rfl|q _ (I.hok.fresh (Zi _))];exact%[Yh (mE xs lo hi) j,_,0,(r.drop _).take _|Zj _ rfl]
noncomputable def fV:V->Bool
 | .non=>true
 | .bl _=>true
 | .int _=>true
 | .str _=>true
 | _=>false
noncomputable def eqV:V->V->Bool
 | .non,.non=>true
 | .bl a,.bl b=>a==b
 | .bl a,.int b=>(if a then 1 else 0)==b
 | .int a,.bl b=>a==(if b then 1 else 0)
 | .int a,.int b=>a==b
 | .str a,.str b=>a==b
 | _,_=>false
theorem EZ(d:aP y u)(c:aP x v)(f:fV y=true)(e:fV x=true):SeqAt.EqAt A s u v (eqV y x):=by
 cases y with
 | non=>
   cases d;cases x with
   | non=>cases c;exact SeqAt.EqAt.same _
   | bl b=>cases c;exact SeqAt.EqAt.none_bool b
   | int b=>have%[t|rfl]:=c;exact SeqAt.EqAt.none_int b t
   | str b=>have%[t|rfl]:=c;exact SeqAt.EqAt.none_str b t
   | _=>exact absurd (show false=true from e) Zu
 | bl a=>
   cases d;cases x with
   | non=>cases c;exact SeqAt.EqAt.bool_none a
   | bl b=>cases c;exact SeqAt.EqAt.bool_bool a b
   | int b=>have%[t|rfl]:=c;exact SeqAt.EqAt.bool_int a b t
   | str b=>have%[t|rfl]:=c;exact SeqAt.EqAt.bool_str a b t
   | _=>exact absurd (show false=true from e) Zu
 | int a=>
   have%[t'|rfl]:=d;cases x with
   | non=>cases c;exact SeqAt.EqAt.int_none a t'
   | bl b=>cases c;exact SeqAt.EqAt.int_bool a t' b
   | int b=>have%[t|rfl]:=c;exact SeqAt.EqAt.int_int a t' b t
   | str b=>have%[t|rfl]:=c;exact SeqAt.EqAt.int_str a t' b t
   | _=>exact absurd (show false=true from e) Zu
 | str a=>
   have%[t'|rfl]:=d;cases x with
   | non=>cases c;exact SeqAt.EqAt.str_none a t'
   | bl b=>cases c;exact SeqAt.EqAt.str_bool a t' b
   | int b=>have%[t|rfl]:=c;exact SeqAt.EqAt.str_int a t' b t
   | str b=>have%[t|rfl]:=c;exact SeqAt.EqAt.str_str a t' b t
   | _=>exact absurd (show false=true from e) Zu
 | _=>exact absurd (show false=true from f) Zu
noncomputable def eqU(x:V)(u:Value):Bool:=match u with
 | .none=>eqV .non x
 | .bool b=>eqV (.bl b) x
 | .int i _=>eqV (.int i) x
 | .str z _=>eqV (.str z) x
 | _=>false
theorem AA(r:aP y u)(f:fV y=true):eqU x u=eqV y x:=by
 cases y with
 | non=>cases r;rfl
 | bl b=>cases r;rfl
 | int i=>have%[t|rfl]:=r;rfl
 | str z=>have%[t|rfl]:=r;rfl
 | _=>exact absurd (show false=true from f) Zu
theorem ko:∀{xs:List V} {us:ZF},aI xs us->xs.all fV=true->us.any (eqU x)=xs.any λy=>eqV y x
 | _,_,.nil,_=>rfl
 | y::xs,u::us,.cons r t,f=>by
   rw[List.all_cons,Zx]at f;rw[Zy,Zy,AA r f.1,ko t f.2]
theorem iZ(d:aP x v)(e:fV x=true):∀{xs:List V} {us:ZF},aI xs us->xs.all fV=true->∀u∈us,SeqAt.EqAt A s u v (eqU x u)
 | _,_,.nil,_=>λu c=>by cases c
 | y::xs,u::us,.cons r t,f=>λg c=>by
   rw[List.all_cons,Zx]at f;rcases mem_cons.mp c with rfl|c
   .rw[AA r f.1];exact EZ r d f.1 e
   .exact iZ d e t f.2 g c
noncomputable def inV(x:V)(xs:List V):Bool:=xs.any λy=>eqV y x
def rIn(K:ZA)(c:Bool):R2:=λx y H Q=>∃p xs,y= .ref p/\(SqL K H p xs\/SqT K H p xs)/\fV x=true/\xs.all fV=true/\Q (.bl (if c then !inV x xs else inV x xs)) H
theorem yh:OpR X (compareOp .In) (rIn X.K false):=by
 intro pins s i H x y v u Q I d f h;have%[p,xs,rfl,c,e,fs|q]:=h;cases f;rcases c with c|c
 .have%[its,r,pl|g]:=I.list c;refine SeqAt.in_listAt _ pl.isList (λw hw=>iZ d e r fs w (by simpa using hw)) %[.bl _,H,I,rfl|?_];rw[show its.toArray.any _=its.any (eqU x) by simp,ko r fs];exact q
 .have%[its,r,pl|g]:=I.tuple c;refine SeqAt.in_tupleAt _ pl (λw hw=>iZ d e r fs w (by simpa using hw)) %[.bl _,H,I,rfl|?_];rw[show its.toArray.any _=its.any (eqU x) by simp,ko r fs];exact q
theorem rR:OpR X (compareOp .NotIn) (rIn X.K true):=by
 intro pins s i H x y v u Q I d f h;have%[p,xs,rfl,c,e,fs|q]:=h;cases f;rcases c with c|c
 .have%[its,r,pl|g]:=I.list c;refine SeqAt.notIn_listAt _ pl.isList (λw hw=>iZ d e r fs w (by simpa using hw)) %[.bl _,H,I,rfl|?_];rw[show its.toArray.any _=its.any (eqU x) by simp,ko r fs];exact q
 .have%[its,r,pl|g]:=I.tuple c;refine SeqAt.notIn_tupleAt _ pl (λw hw=>iZ d e r fs w (by simpa using hw)) %[.bl _,H,I,rfl|?_];rw[show its.toArray.any _=its.any (eqU x) by simp,ko r fs];exact q
theorem rS:OpR X (compareOp .NotIn) (λx y H Q=>∃i j,x= .str i/\y= .str j/\Q (.bl (!(!(Builtin.Str.occurrences j i 0 j.length 1).isEmpty))) H):=by
 intro pins s e H x y v u Q I c d h;have%[i,j,rfl,rfl|q]:=h;have%[t|rfl]:=c;have%[t'|rfl]:=d;exact notIn_str %[.bl _,H,I,rfl|q]
theorem rT:cA X (.type "list") (λxs H Q=>∃p ys,xs=[.ref p]/\(SqL X.K H p ys\/SqT X.K H p ys)/\∀l,H l=none->Q (.ref l) (upd H l (.lst ys))):=by
 intro pins s y H xs us Q I r h;have%[p,ys,rfl,f|q]:=h;have%[u,rfl|z]:=dE r;cases z;have fin:∀its,aI ys its->ys.length<=sizeLine->∀h' d,(∀b w,s.heap.get? b=some w->h'.get? b=some w)->
  h'.get? ⇑s=some _->EP X pins y Q _ (s>>>h'):=λits c g h' d i e=>
  %[.ref ⇑s,_,I.laid i (Zi _) (show ce X.prog X.w _ h' _ (.lst ys)from%[g,its,d,c|e]),rfl|q _ (I.hok.fresh (Zi _))]
 rcases f with f|f
 .have%[its,c,pl|g]:=I.list f;have j:=c.length;have%[o,m,t,n|v]:=pl.isList;exact call_list_seq p (.inl rfl) m t v (λh' d i e=>fin its c g h' d i e) (by simp only[Zp]<;> lia)
 .have%[its,c,pl|g]:=I.tuple f;have j:=c.length;have%[o,m,t,n|v]:=pl;exact call_list_seq p (.inr rfl) m t v (λh' d i e=>fin its c g h' d i e) (by simp only[Zp]<;> lia)
def tyV(K:ZA)(T:String)(x:V)(H:Hp):Prop:=match x with
 | .str _=>T="str"
 | .int _=>T="int"
 | .ref p=>(T="list"/\∃xs,SqL K H p xs)\/(T="tuple"/\∃o,K.lookup p=some o/\o.cls= .type "tuple"/\o.dict=none)\/
  (T="dict"/\((∃c,H p=some (.dK c))\/∃c,H p=some (.dT c)))\/(T="set"/\∃S n,H p=some (.set S n))
 | _=>False
theorem AB(I:Inv X pins q H s)(r:aP x v)(ty:tyV X.K T x H):
 s.TypeIs v T/\∀a,v= .ref a->∃j,s.heap.get? a=some j/\j.dict=none:=by
 cases x with
 | str z=>
   have%[t|rfl]:=r;cases(show T="str" from ty);exact%[typeIs_str s z t|λ_ e=>nomatch e]
 | int i=>
   have%[t|rfl]:=r;cases(show T="int" from ty);exact%[typeIs_int s i t|λ_ e=>nomatch e]
 | ref p=>
   cases r;rcases ty with⟨rfl,xs,l⟩|⟨rfl,o,d,m,f⟩|⟨rfl,d⟩|⟨rfl,S,n,d⟩
   .have%[its,_,pl|_]:=I.list l;refine%[pl.isList.typeIs|λa e=>?_];cases e;have%[o,n,e,c,f|_]:=pl;exact%[o,e|f]
   .refine%[%[o,I.kIn p o d|m]|λa e=>?_];cases e;exact%[o,I.kIn _ o d|f]
   .have z:∃o,s.heap.get? p=some o/\o.ExactDict:=by
     rcases d with⟨g,d⟩|⟨g,d⟩
     .have%[_,_,_,_,o,_,_,e,ex|_]:=I.hok p _ d;exact%[o,e|ex]
     .have%[_,_,_,_,o,_,_,e,ex|_]:=I.hok p _ d;exact%[o,e|ex]
    have%[o,e|ex]:=z;refine%[%[o,e|ex.1]|λa h=>?_];cases h;exact%[o,e|ex.2.1]
   .have%[o,_,_,_,e,ex|_]:=I.hok p _ d;refine%[%[o,e|ex.1]|λa h=>?_];cases h;exact%[o,e|ex.2.1]
 | _=>exact False.elim ty
def CF(K:ZA)(T:String)(r:V->List V->Hp->VK->Prop)(d:TE):TE:=λe H Q=>d e H λx c=>tyV K T x c/\r x [] c Q
def tBM(K:ZA)(T:String)(r:V->List V->Hp->VK->Prop)(e:TE)(t:TA):TE:=λc H Q=>e c H λx d=>tyV K T x d/\t c d λxs f=>r x xs f Q
variable{o e:Expr}{es:List Expr}{to:TE}{t:TA}{name:Str}{apos cpos:Pos}{T id:String}{r:V->List V->Hp->VK->Prop}
theorem E3(l:PlainAttrs T)(slot:Slot T name id)(f:typeOf (.builtin id)=pure (.type "method_descriptor"))(m:MtR X id r)(n:PE X o to)
 (c:attributeBase o name X.env (eval o X.env)=eval o X.env) (d:(apos.endLine==cpos.line)=true):PE X (.Call (.Attribute o name apos) [] [] cpos) (CF X.K T r to):=by
 intro pins s g H Q I h;refine wpAny_Call_method0_late c d (thP (n pins s g H _ I h) λv p x q i j ⟨ty,u⟩=>?_);have%[w|y]:=AB i j ty;exact%[T,id,l,slot,f,w,y|Calls.callWith_builtin rfl (PySem.evalArgs_none (m pins p g q x [] v [] Q i j .nil u))]
theorem GG(p:PlainAttrs T)(slot:Slot T name id)(i:typeOf (.builtin id)=pure (.type "method_descriptor"))(q:MtR X id r)(u:PE X o to)(w:PA X (e::es) t)
 (d:attributeBase o name X.env (eval o X.env)=eval o X.env)
 (g:((backTo cpos (starEach (e::es) X.env)).all (λx=>!x.1)&&(backToKw cpos (keywordEach [] X.env)).all (λx=>x.1.isSome)
  && decide ((e::es).length+([]:List Keyword).length+(if([]:List Keyword).isEmpty then 0 else 1)<30))=true)
 (f:(apos.endLine==cpos.line)=true) (y:starEach (e::es) X.env=(false,eval e X.env)::starEach es X.env) (c:(backTo cpos (starEach es X.env)).any (·.1)=false):
 PE X (.Call (.Attribute o name apos) (e::es) [] cpos) (tBM X.K T r to t):=by
 intro pins s j H Q I h;refine wpAny_Call_method_late d g f rfl (thP (u pins s j H _ I h) λv z x A l m ⟨ty,B⟩=>?_);have%[C|E]:=AB l m ty;refine%[T,id,p,slot,i,C,E|?_];have n:=w cpos pins z j A _ l B;rw[y]at n ⊢;exact Calls.callWith_builtin (by show(false||(backTo cpos _).any _)=false;rw[c]<;> rfl) (Calls.evalArgs_plain (thn n λus G ⟨vs,J,L,M,N⟩=>q pins G j J x vs v us Q L m M N))
end
def MtM(X:Cx)(id:String)(r:V->List V->Hp->VK->Prop):Prop:=
 ∀pins s (a:St) H x xs v us Q,Inv X pins a H s->aP x v->aI xs us->r x xs H Q->
  (~~~X) (call (.builtin id) (v::us)) (EP X pins a Q) X.xe s
theorem aI.one:∀{x:V} {us:ZF},aI [x] us->∃u,us=[u]/\aP x u
 | _,_,.cons r .nil=>%[_,rfl|r]
theorem aI.zero:∀{us:ZF},aI [] us->us=[]
 | _,.nil=>rfl
theorem aI.dropLast{xs:List V}{us:ZF}(h:aI xs us):aI xs.dropLast us.dropLast:=by
 induction h with
 | nil=>exact .nil
 | cons r t a=>
   cases t with
   | nil=>exact .nil
   | cons q t'=>exact .cons r a
theorem aI.eraseIdx:∀{xs:List V} {us:ZF} i,aI xs us->aI (xs.eraseIdx i) (us.eraseIdx i)
 | _,_,_,.nil=> .nil
 | _,_,0,.cons _ t=>t
 | _,_,i+1,.cons r t=> .cons r (aI.eraseIdx i t)
theorem aI.reverse(h:aI xs us):aI xs.reverse us.reverse:=by
 induction h with
 | nil=>exact .nil
 | cons r t a=>rw[List.reverse_cons,List.reverse_cons];exact aI.append a (.cons r .nil)
theorem aI.rep(h:aI xs us):∀k:Nat,aI (List.replicate k xs).flatten (List.replicate k us).flatten
 | 0=> .nil
 | k+1=>by
   exact aI.append h (aI.rep h k)
theorem qx:∀(l:List a) (i:Nat),(l.eraseIdx i).length<=l.length
 |[],_=>Zi _
 | _::_,0=>Yg _
 | _::r,i+1=>Nat.succ_le_succ (qx r i)
theorem qy(its:ZF):∀k acc,
 List.foldl (λa x2=>a++x2) acc.toArray (List.replicate k its.toArray)=(acc++(List.replicate k its).flatten).toArray
 | 0,acc=>by simp
 | k+1,acc=>by
   have e:acc.toArray++its.toArray=(acc++its).toArray:=by simp
   have b:(acc++its) ++(List.replicate k its).flatten=acc++(List.replicate (k+1) its).flatten:=by
    rw[List.replicate_succ,List.flatten_cons,Ze]
   rw[<-b,<-qy its k _,<-e,List.replicate_succ,Y8]
section
#version
variable{l b:Addr}{xs ys zs:List V}
theorem Inv.lset{its its':ZF}{n:Nat}{f:ZJ->ZJ}{t':Nat}(I:Inv X pins σ H s)(a:H l=some (.lst xs))
 (e:s.heap.get? l=some {cls:= .type "list",data:= .seq its.toArray n}) (c:f its.toArray=its'.toArray) (d:aI ys its') (g:ys.length<=sizeLine):
 Inv X pins σ (upd H l (.lst ys)) {s with heap:=s.heap.update l (Obj.mapSeq f),toks:=t'}:=by
 have q:=PySem.IsL.update e f;rw[c]at q;refine I.write (a▸trivial) (.inl rfl) (λj u h i=>(get?_update_other s.heap _ (Ne.symm h)).trans i) %[_|q] ?_;exact%[g,its',_,d|q]
theorem Inv.lnew(I:Inv X pins σ H s)(a:aI ys its)(c:ys.length<=sizeLine):
 Inv X pins σ (upd H ⇑s (.lst ys)) {s with heap:=s.heap.push {cls:= .type "list",data:= .seq its.toArray},toks:=t'}:=
 I.laid (λ_ _ q=>Z7 _ q) (Zi _) %[c,its,0,a|Zj _ rfl]
theorem Inv.fresh(I:Inv X pins σ H s):H ⇑s=none:=I.hok.fresh (Zi _)
theorem Inv.lstM(I:Inv X pins σ H s)(a:H l=some (.lst xs)):xs.length<=sizeLine/\∃its n,aI xs its/\xs.length=its.length/\s.heap.get? l=some {cls:= .type "list",data:= .seq its.toArray n}:=by
 have%[z,its,n,r|e]:=I.hok l _ a;exact%[z,its,n,r,r.length|e]
theorem tN{n:Nat}(h:n<=sizeLine):Builtin.List.listTooLong n=false:=by
 unfold Builtin.List.listTooLong
 simp_all
end
section
variable{X:Cx}
def rV:V->List V->Hp->VK->Prop:=λx vs H Q=>asR x λl=>∃y,vs=[y]/\∃xs,H l=some (.lst xs)/\xs.length<sizeLine/\Q .non (upd H l (.lst (xs++[y])))
theorem qz:MtM X "list.append" rV:=by
 intro pins s f H x vs v us Q I b c h;have%[l,rfl,y,rfl,xs,a,g|q]:=fB h;cases b;have%[u,rfl|d]:=c.one;have%[z,its,n,r,i|e]:=I.lstM a;refine call_meets F.slot_list_append %[_,e|rfl] F.entry_list_append (F.args_list_append_2 _ _) (PySem.list_append l its.toArray n u (by simp_all)) %[e,.non,_,I.lset a e ∅ (r.append (.cons d .nil)) ?_,rfl|q];rw[Z9,Yl]
 lia
def rW:V->List V->Hp->VK->Prop:=λx vs H Q=>∃l b xs zs,x= .ref l/\vs=[.ref b]/\H l=some (.lst xs)/\H b=some (.lst zs)/\xs.length+zs.length<=sizeLine/\Q .non (upd H l (.lst (xs++zs)))
theorem yj:MtM X "list.extend" rW:=by
 intro pins s w H x vs v us Q I f g h;have%[l,b,xs,zs,rfl,rfl,d,i,y|q]:=h;cases f;have%[u,rfl|j]:=g.one;cases j;have%[z,its,n,r,A|e]:=I.lstM d;have%[B,its2,m,o,p|t]:=I.lstM i;have c:its.toArray.size+its2.toArray.size<=sizeLine:=by simp_all
 have a: ¬ (!its.toArray.isEmpty&&Builtin.List.listTooLong (its.toArray.size+its2.toArray.size))=true:=by
  rw[tN c,Bool.and_false];exact Zu
 refine call_meets F.slot_list_extend %[_,e|rfl] F.entry_list_extend (F.args_list_extend_2 _ _)
  (AutoSeq1.list_extend_list_list_0 l its.toArray n b its2.toArray m a ⋯ ⋯) %[e,t,.non,_,I.lset d e ∅ (r.append o) ?_,rfl|q]
 simp_all
def GH:V->List V->Hp->VK->Prop:=λx vs H Q=>∃l xs y,x= .ref l/\vs=[]/\H l=some (.lst xs)/\xs[xs.length-1]? =some y/\Q y (upd H l (.lst xs.dropLast))
theorem E4:MtM X "list.pop" GH:=by
 intro pins s j H x vs v us Q I d f h;have%[l,xs,y,rfl,rfl,c,g|q]:=h;cases d;have a:=f.zero;subst a;have%[z,its,n,r,m|e]:=I.lstM c;have%[u,o|i]:=r.get g;have b:its.toArray[its.toArray.size-1]? =some u:=by
  simp_all
 refine call_meets F.slot_list_pop %[_,e|rfl] F.entry_list_pop (F.args_list_pop_1 _) (MeetsSeq.list_pop_last l its.toArray n u b (by simp_all)) %[e,y,_,I.lset c e ?_ r.dropLast ?_,i|q]
 .simp
 .rw[List.length_dropLast]
  lia
def E5:R2:=λx y H Q=>∃l b xs zs,x= .ref l/\y= .ref b/\H l=some (.lst xs)/\H b=some (.lst zs)/\xs.length+zs.length<=sizeLine/\∀p,H p=none->Q (.ref p) (upd H p (.lst (xs++zs)))
theorem E6:OpR X (binaryOp .Add) E5:=by
 intro pins s o H x y v u Q I a c h;have%[l,b,xs,zs,rfl,rfl,d,f,p|q]:=h;cases a;cases c;have%[z,its,n,r,t|e]:=I.lstM d;have%[w,its2,A,g,i|j]:=I.lstM f;refine PySem.P.add_list e j ?_ (by rw[Zp,Zp];lia);have m:its.toArray++its2.toArray=(its++its2).toArray:=by simp
 rw[m];exact%[.ref _,_,I.lnew (r.append g) (by rw[Z9];lia),rfl|q _ I.fresh]
def E7:R2:=λx y H Q=>∃l k xs,x= .ref l/\y= .int k/\H l=some (.lst xs)/\ -(2^63)<=k/\k<2^63/\xs.length*k.toNat<=sizeLine/\
 ∀p,H p=none->Q (.ref p) (upd H p (.lst (List.replicate k.toNat xs).flatten))
theorem CG(xs:List a)(k:Nat):(List.replicate k xs).flatten.length=k*xs.length:=by
 simp
theorem E8:OpR X (binaryOp .Mult) E7:=by
 intro pins s E H x y v u Q I o p h;have%[l,k,xs,rfl,rfl,w,A,B,j|q]:=h;cases o;have%[t|rfl]:=p;have%[z,its,n,r,C|e]:=I.lstM w;have c:its.toArray.size*k.toNat<=sizeLine:=by rw[Zp,<-C];exact j
 have d: ¬ its.toArray.size*k.toNat>(2^63-1)/8:=by
  have:sizeLine<=(2^63-1)/8:=by decide
  lia
 have f: ¬ (!Builtin.List.listFitsIndex k)=true:=by
  rw[fitsIndex_both A B];exact Zu
 have b: ¬ Builtin.List.listTooLong (its.toArray.size*k.toNat)=true:=by
  rw[tN c];exact Zu
 have g:List.foldl (λi x2=>i++x2) #[] (List.replicate (if its.toArray.isEmpty=true then 0 else k.toNat) its.toArray)=(List.replicate k.toNat its).flatten.toArray:=by
  have G:∀m,List.foldl (λi x2=>i++x2) #[] (List.replicate m its.toArray)=(List.replicate m its).flatten.toArray:=λm=>by
   have:=qy its m []
   simp_all
  cases its with
  | nil=>simp
  | cons a J=>simp_all
 refine wpAny_binaryOp_repeat_ref (by decide) %[_,e|rfl] (λs'=>typeIs_int s' k t) noFill_list_mul F.fills_int_mul F.slot_int_rmul repeat_list F.slot_int_index.lookup
  (call_meets F.slot_int_rmul (typeIs_int s k t) F.entry_int_rmul (F.args_int_rmul_2 _ _) (int___rmul___int_list k t l its.toArray n)
   %[e,rfl,%[_,e|rfl]|call_meets F.slot_list_mul %[_,e|rfl] F.entry_list_mul (F.args_list_mul_2 _ _) (AutoListH.list___mul___list_int_3 l its.toArray n k t f d b) %[e|?_]])
 rw[g];exact%[.ref _,_,I.lnew (r.rep k.toNat) (by rw[CG,Nat.mul_comm];exact j),rfl|q _ I.fresh]
end
section
#where
end
section
variable{X:Cx}
end
section
variable{κ:Type}[DecidableEq κ]
noncomputable def bJ(a:List (κ×V))(k:κ):Option V:=(a.find? λb=>decide (b.1=k)).map (·.2)
noncomputable def cW(a:List (κ×V))(k:κ)(v:V):List (κ×V):=
 if(a.any λb=>decide (b.1=k))=true then a.map (λb=>if b.1=k then(b.1,v)else b)else a++[(k,v)]
theorem fD{p:κ×V}{r:List _}{k:κ}(e:p.1=k):bJ (p::r) k=some p.2:=by simp[bJ,e]
theorem dF{p:κ×V}{r:List _}{k:κ}(e: ¬ p.1=k):bJ (p::r) k=bJ r k:=by simp[bJ,e]
theorem i4(k:κ):∀a,(a.any λb=>decide (b.1=k))=(bJ a k).isSome
 |[]=>rfl
 | p::r=>by
   rw[Zy];by_cases e:p.1=k
   .simp only[fD e,Zf e,Bool.true_or,Option.isSome_some]
   .rw[dF e,Zh e,Bool.false_or];exact i4 k r
theorem fW(a:List _)(k:κ)(v:V):(cW a k v).length<=a.length+1:=by
 unfold cW
 split
 .simp
 simp_all
theorem eG{k:κ}(v:V)(h:bJ a k=none):cW a k v=a++[(k,v)]:=by
 unfold cW;rw[i4,h];exact if_neg (by decide)
theorem gN.isSome_eq(r:gN o u):o.isSome=u.isSome:=by
 cases o with
 | none=>cases u with
   | none=>rfl
   | some _=>exact(r).elim
 | some _=>cases u with
   | none=>exact(r).elim
   | some _=>rfl
theorem gN.getD{o:Option V}{u:Option Value}{d:V}{d':Value}(r:gN o u)(a:aP d d'):aP (o.getD d) (u.getD d'):=by
 cases o with
 | none=>cases u with
   | none=>exact a
   | some _=>exact(r).elim
 | some _=>cases u with
   | none=>exact(r).elim
   | some _=>exact r
theorem KV.val{vs:List (κ×Value)}(r:KV a vs)(k:κ):gN (bJ a k) (valueAt vs k):=by
 induction r with
 | nil=>exact True.intro
 | @cons p q ps qs h t f=>
   have%[d|g]:=h;by_cases e:p.1=k
   .have c:=d.symm.trans e;have b:valueAt (q::qs) k=some q.2:=by simp[valueAt,c]
    rw[fD e,b];exact g
   .have c: ¬ q.1=k:=λz=>e (d.trans z)
    have b:valueAt (q::qs) k=valueAt qs k:=by simp[valueAt,c]
    rw[dF e,b];exact f
theorem KV.any(r:KV a vs)(k:κ):(a.any λb=>decide (b.1=k))=vs.any λb=>decide (b.1=k):=by
 induction r with
 | nil=>rfl
 | cons h t c=>simp_all
theorem KV.repl(r:KV c vs)(k:κ)(d:aP y u):
 KV (c.map λa=>if a.1=k then(a.1,y)else a) (vs.map λa=>if a.1=k then(a.1,u)else a):=by
 induction r with
 | nil=>exact .nil
 | @cons p q ps qs h t f=>
   rw[Yr,Yr];refine .cons ?_ f;have%[b|g]:=h;by_cases e:p.1=k
   .rw[if_pos e,if_pos (b.symm.trans e)];exact%[b|d]
   .rw[if_neg e,if_neg (λz=>e (b.trans z))];exact%[b|g]
theorem KV.put(r:KV a vs)(k:κ)(b:aP y u):KV (cW a k y) (stored vs k u):=by
 unfold cW stored;rw[r.any k];by_cases e:(vs.any λc=>decide (c.1=k))=true
 .rw[if_pos e,if_pos e];exact r.repl k b
 .rw[if_neg e,if_neg e];exact Paired.snoc r %[rfl|b]
theorem KV.length{a:List (κ×V)}{vs:List _}(r:KV a vs):a.length=vs.length:=Paired.length r
end
theorem mF{P:Program}(r:aP (kV k) u):(aO P w).is k u=true:=by
 cases k with
 | inl i=>have%[t|e]:=(r);subst e;exact tH P w i t
 | inr x=>have%[t|e]:=(r);subst e;exact tJ P w x t
theorem qA{P:Program}:∀{ks:List Key} {us:ZF},aI (ks.map kV) us->ItemsAre (aO P w) ks us
 |[],_,r=>by cases r;exact .nil
 | k::ks,_,r=>by
   cases r with
   | cons h t=>exact .cons (mF h) (qA t)
noncomputable abbrev KT(H:Hp):List (List Key×V)->List (List Key×Addr×Value)->Prop:=Paired λp q=>p.1=q.1/\H q.2.1=some (.tup (p.1.map kV))/\aP p.2 q.2.2
theorem KT.val{a:List (List Key×V)}{xs:List (List Key×Addr×Value)}(r:KT H a xs)(k:List Key):gN (bJ a k) ((atKey xs k).map (·.2)):=by
 induction r with
 | nil=>exact True.intro
 | @cons p q ps qs h t f=>
   have%[d,_|g]:=h;by_cases e:p.1=k
   .have c:=d.symm.trans e;have b:atKey (q::qs) k=some q.2:=by simp[atKey,c]
    rw[fD e,b];exact g
   .have c: ¬ q.1=k:=λz=>e (d.trans z)
    have b:atKey (q::qs) k=atKey qs k:=by simp[atKey,c]
    rw[dF e,b];exact f
theorem KT.repl(r:KT H b xs)(k:List Key)(f:aP y u):
 KT H (b.map λc=>if c.1=k then(c.1,y)else c) (xs.map (putAt k u)):=by
 induction r with
 | nil=>exact .nil
 | @cons p q ps qs h t g=>
   rw[Yr,Yr];refine .cons ?_ g;have%[a,d|i]:=h;unfold putAt;by_cases e:p.1=k
   .rw[if_pos e,if_pos (a.symm.trans e)];exact%[a,d|f]
   .rw[if_neg e,if_neg (λz=>e (a.trans z))];exact%[a,d|i]
theorem KT.put(r:KT H a xs)(k:List Key)(d:H b=some (.tup (k.map kV)))(c:aP y u):
 KT H (cW a k y) (storedH xs k b u):=by
 have e:(a.any λf=>decide (f.1=k))=(atKey xs k).isSome:=by
  rw[i4,(r.val k).isSome_eq,isSome_map]
 unfold cW storedH;rw[e];by_cases q:(atKey xs k).isSome=true
 .rw[if_pos q,if_pos q];exact r.repl k c
 .rw[if_neg q,if_neg q];exact Paired.snoc r %[rfl,d|c]
theorem KT.keeps(r:KT H a xs)(c:∀b ys,H b=some (.tup ys)->d b=some (.tup ys)):KT d a xs:=
 Paired.mapP r λ_ _ z=>%[z.1,c _ _ z.2.1|z.2.2]
section
variable{P:Program}{w:World}{H:Hp}{h:Heap}{a:Addr}
theorem DO(ok:HOk P w H h)(e:Rd H a u):ce P w H h a u:=e.ok ok
theorem nO(ok:HOk P w H h)(e:Rd H a (.dK b)):b.length<=sizeLine/\(a==sysModules)=false/\∃vs,KV b vs/\h.DictOf (aO P w) a vs:=
 DO ok e
theorem mG(ok:HOk P w H h)(e:H a=some (.dK b)):b.length<=sizeLine/\(a==sysModules)=false/\∃vs,KV b vs/\h.DictOf (aO P w) a vs:=nO ok (.inl e)
theorem nP(ok:HOk P w H h)(e:H a=some (.tup (ks.map kV))):(tupleKind (aO P w)).is h ks a:=by
 have%[_,its,r,o,b,c,n|d]:=(ok a _ e)
 exact%[o,its.toArray,n,b,c,d|qA r]
theorem qB(ok:HOk P w H h)(e:Rd H a (.dT b)):b.length<=sizeLine/\(a==sysModules)=false/\
 ∃xs,KT H b xs/\h.DictOfH (tupleKind (aO P w)) a xs:=by
 have%[z,y,xs,r,o,d,f,g,i,j,n|s]:=(DO ok e)
 refine%[z,y,xs,r,o,d,f,g,i,j,n,λx c=>?_|s];have all:∀{l:List _} {m:List _},KT H l m->∀x∈m,(tupleKind (aO P w)).is h x.1 x.2.1:=by
  intro l m q
  induction q with
  | nil=>simp
  | @cons p q ps qs v t u=>
    intro x c;rcases mem_cons.mp c with e|c
    .exact nP ok (by simp_all)
    .exact u x c
 exact all r x c
theorem GI(ok:HOk P w H h)(e:H a=some (.dT b)):b.length<=sizeLine/\(a==sysModules)=false/\
 ∃xs,KT H b xs/\h.DictOfH (tupleKind (aO P w)) a xs:=qB ok (.inl e)
end
def cf(H:Hp)(a:Addr)(y:V)(r:Option V):Prop:=
 (∃c k,Rd H a (.dK c)/\y=kV k/\r=bJ c k)\/∃c k b,Rd H a (.dT c)/\y= .ref b/\H b=some (.tup (k.map kV))/\r=bJ c k
def iU(H:Hp)(a:Addr)(y v:V)(d:Hp):Prop:=
 (∃c k,H a=some (.dK c)/\y=kV k/\c.length<sizeLine/\d=upd H a (.dK (cW c k v)))\/
 ∃c k b,H a=some (.dT c)/\y= .ref b/\H b=some (.tup (k.map kV))/\c.length<sizeLine/\d=upd H a (.dT (cW c k v))
theorem cf.k{k:Key}(e:H a=some (.dK b)):cf H a (kV k) (bJ b k):= .inl %[b,k,.inl e,rfl|rfl]
theorem iU.k{k:Key}(e:H a=some (.dK b))(c:b.length<sizeLine):iU H a (kV k) v (upd H a (.dK (cW b k v))):= .inl %[b,k,e,rfl,c|rfl]
section
#version
variable{a:Addr}{y v:V}{u r:Value}{o:Option V}{A:Around}{E:ZD}
theorem Inv.big(I:Inv X pins σ H s):sysModules<⇑s:=by
 exact Nat.lt_trans (by decide) ((I.mod.glob.keeps I.bk).lt)
theorem yk(t:A.units+1<cLine)(I:Inv X pins σ H s)(g:cf H a y (some v))(q:aP y u)(h:∀f s',Inv X pins σ H s'->aP v f->Q f s'):
 wpAny (model X.prog X.w) A (getItem (.ref a) u) Q E s:=by
 rcases g with⟨i,k,e,j,l⟩|⟨i,k,b,e,j,w,l⟩
 .subst j;have%[z,B,vs,c|m]:=nO I.hok e;have%[f,hw|d]:=gN.some_of (l▸c.val k);exact wpAny_getItem_of (mF q) m.mapOf hw (h f _ (I.tok _) d)
 .subst j;cases(q);have%[z,B,xs,c|m]:=qB I.hok e;have%[f,hw|d]:=gN.some_of (l▸c.val k);have%[p,C|n]:=map_eq_some_iff.mp hw;refine wpAny_getItem_heap (tupleKind_room_in1 t) (nP I.hok w) m C ?_;rw[n];exact h f _ (I.tok _) d
theorem d_in(n:A.units+1<cLine)(I:Inv X pins σ H s)(g:cf H a y o)(m:aP y u)(h:∀s',Inv X pins σ H s'->Q (.bool o.isSome) s'):
 wpAny (model X.prog X.w) A (compareOp .In u (.ref a)) Q E s:=by
 rcases g with⟨d,k,e,f,l⟩|⟨d,k,b,e,f,p,l⟩
 .subst f;have%[z,i,vs,c|j]:=nO I.hok e;refine wpAny_in_of (mF m) i j.mapOf ?_;rw[<-(c.val k).isSome_eq,<-l];exact h _ (I.tok _)
 .subst f;cases(m);have%[z,i,xs,c|j]:=qB I.hok e;refine wpAny_in_heap (tupleKind_room_in1 n) (nP I.hok p) i j ?_;have q:=(c.val k).isSome_eq;rw[isSome_map]at q;rw[<-q,<-l];exact h _ (I.tok _)
theorem CH(n:A.units+1<cLine)(I:Inv X pins σ H s)(g:cf H a y o)(m:aP y u)(h:∀s',Inv X pins σ H s'->Q (.bool (!o.isSome)) s'):
 wpAny (model X.prog X.w) A (compareOp .NotIn u (.ref a)) Q E s:=by
 rcases g with⟨d,k,e,f,l⟩|⟨d,k,b,e,f,p,l⟩
 .subst f;have%[z,i,vs,c|j]:=nO I.hok e;refine wpAny_notIn_of (mF m) i j.mapOf ?_;rw[<-(c.val k).isSome_eq,<-l];exact h _ (I.tok _)
 .subst f;cases(m);have%[z,i,xs,c|j]:=qB I.hok e;refine wpAny_notIn_heap (tupleKind_room_in1 n) (nP I.hok p) i j ?_;have q:=(c.val k).isSome_eq;rw[isSome_map]at q;rw[<-q,<-l];exact h _ (I.tok _)
theorem nv(I:Inv X pins σ H s)(d:Mut (H a))(e:SameBut a s.heap h')(f:∃q,h'.get? a=some q)(new:ce X.prog X.w (upd H a c) h' a c):
 Inv X pins σ (upd H a c) {s with heap:=h',toks:=t'}:=
 I.write d (.inl rfl) (λb q g z=>(e.2 b g).trans z) f new
theorem vE{P:Program}(z:b.length<=sizeLine)(d:(a==sysModules)=false)(c:KV b vs)(e:h'.DictOf (aO P w) a vs):
 ce P w f h' a (.dK b):=%[z,d,vs,c|e]
theorem yo(M:A.units+1<cLine)(I:Inv X pins σ H s)(g:iU H a y v N)(C:aP y u)(G:aP v r)(h:∀s',Inv X pins σ N s'->Q () s'):
 wpAny (model X.prog X.w) A (setItem (.ref a) u r) Q E s:=by
 rcases g with⟨d,k,e,m,l,n⟩|⟨d,k,b,e,m,J,l,n⟩
 .subst m n;have%[z,p,vs,f|t]:=mG I.hok e;have O:vs.length<=sizeLine:=f.length▸z;have w:(cW d k v).length<=sizeLine:=by have:=fW d k v;lia
  exact wpAny_setItem_pairs (mF C) t λh' i B=>h _ (nv I (e▸True.intro) B (let⟨q,_,_,j,_⟩:=i;%[q|j]) (vE w p (f.put k G) i))
 .subst m n;cases(C);have%[z,p,xs,f|t]:=GI I.hok e;have O:xs.length<=sizeLine:=(Paired.length f)▸z;have w:(cW d k v).length<=sizeLine:=by have:=fW d k v;lia
  refine wpAny_setItem_heap (tupleKind_room_in1 M) (nP I.hok J) t λh' i B=>h _ ?_
  have%[q,T,U,j,Y,h3,h4,_|h5]:=i;refine nv I (e▸True.intro) B %[q|j] %[w,p,_,(f.put k J G).keeps λc ys L=>?_,q,T,U,j,Y,h3,h4|h5];rw[ao (Gg L e (λz=>nomatch z))];exact L
end
section
#version
variable{a:Addr}{kvs:List (Key×V)}{k:Key}{u:Value}{A:Around}{E:ZD}
end
def E9(i:Expr):Prop:=∀a b,subscripted i false a b=operate [a,b] (getItem a b)
theorem CI{T id:String}
 (l:typeLookup (.type T) "__getitem__"=pure (some (.builtin id))) (m:E9 a)
 (h:↥A (eval c env) (λo e=>↥A (eval a env) (λi b=>b.TypeIs o T/\↥A (getItem o i) Q E b) E e) E s):
 ↥A (eval (.Subscript c a pos) env) Q E s:=by
 refine Subscript_ (wpAny_mono h (λo e g=>wpAny_mono g (λi b d=>?_) λ_ _ x=>x) λ_ _ x=>x);have%[n|d]:=d;refine Z2 (Z2 (wpAny_specialOf n l ?_));have fin:↥A (subscripted a false o i) (λr f=>↥A (letTemporaryGo c o r>>= λ_=>pure r) Q E f) E b:=by
  rw[m o i];exact wpAny_operating (wpAny_mono d (λr f j=>Z2 (wpAny_letTemporaryGo (Z3 j))) λ_ _ x=>x)
 first
  | exact Z3 (Z2 fin)
  | lia
  | lia
theorem mH{X:Cx}(I:Inv X pins f H s)(g:cf H a y o):s.TypeIs (.ref a) "dict":=by
 rcases g with⟨c,k,e,_,_⟩|⟨c,k,b,e,_,_,_⟩
 .have%[_,_,vs,_|d]:=nO I.hok e;exact d.typeIs
 .have%[_,_,xs,_|d]:=qB I.hok e;exact d.typeIs
theorem tO{X:Cx}(I:Inv X pins i H s)(g:cf H a y o):
 ∀b,Value.ref a= .ref b->∃c,s.heap.get? b=some c/\c.dict=none:=λb q=>by
 cases q;rcases g with⟨d,k,e,_,_⟩|⟨d,k,b,e,_,_,_⟩
 .have%[_,_,vs,_,c,_,_,f,h|_]:=nO I.hok e;exact%[c,f|h.2.1]
 .have%[_,_,xs,_,c,_,_,f,h|_]:=qB I.hok e;exact%[c,f|h.2.1]
def AC(d ty:TE):TE:=λb H Q=>d b H λx e=>ty b e λy c=>∃a v,x= .ref a/\cf c a y (some v)/\Q v c
def Fa(ty d:TE):TE:=λb H Q=>ty b H λy e=>d b e λx c=>∃a o,x= .ref a/\cf c a y o/\Q (.bl o.isSome) c
def rX(ty d:TE):TE:=λb H Q=>ty b H λy e=>d b e λx c=>∃a o,x= .ref a/\cf c a y o/\Q (.bl (!o.isSome)) c
def mI(d ty e:TE):TS:=λD b H=>e b H λv f=>d b f λx g=>ty b g λy h=>∃a c,x= .ref a/\iU h a y v c/\D.nx b c
section
variable{X:Cx}{o i e value:Expr}{pos pos' tpos:Pos}{td ty tv:TE}
theorem CJ(f:X.A.units+1<cLine)(j:PE X o td)(hi:PE X i ty)(l:E9 i):PE X (.Subscript o i pos) (AC td ty):=by
 intro pins s c H Q I h;refine CI PySem.F.slot_dict_getitem.lookup l (thP (j pins s c H _ I h) λu m x n p q r=>thP (hi pins m c n _ p r) λB C y t d w ⟨a,v,ex,g,z⟩=>?_);subst ex;obtain rfl:u=Value.ref a:=q;exact%[mH d g|yk f d g w λE G A b=>%[v,t,A,b|z]]
theorem Fb(c:X.A.units+1<cLine)(hi:PE X i ty)(d:PE X o td):PC X .In i o (Fa ty td):=by
 intro pins s b H Q I h;refine thP (hi pins s b H _ I h) λz f y j l m n=>thP (d pins f b j _ l n) λu A x p q r ⟨a,t,ex,g,v⟩=>?_
 subst ex;obtain rfl:u=Value.ref a:=r;exact d_in c q g m λB w=>%[.bl t.isSome,p,w,rfl|v]
theorem yp(c:X.A.units+1<cLine)(hi:PE X i ty)(d:PE X o td):PC X .NotIn i o (rX ty td):=by
 intro pins s b H Q I h;refine thP (hi pins s b H _ I h) λw f y j l m n=>thP (d pins f b j _ l n) λu z x p q r ⟨a,A,ex,g,t⟩=>?_
 subst ex;obtain rfl:u=Value.ref a:=r;exact CH c q g m λB v=>%[.bl _,p,v,rfl|t]
theorem CL(c:X.A.units+1<cLine)(d:PE X o td)(hi:PE X i ty)(f:PE X value tv)(j:swapsWith value (some (.Subscript o i pos')) pos.line X.env=pure false):
 PS X (.Assign [.Subscript o i pos'] value pos) (mI td ty tv):=by
 intro pins s b H D I h;refine wpAny_Assign_Subscript (thP (f pins s b H _ I h) λr l v m n p q=>thP (d pins l b m _ n q) λu t x w z A B=>thP (hi pins t b w _ z B) λM N y O C E ⟨a,G,ex,g,J⟩=>?_) j;subst ex;obtain rfl:u=Value.ref a:=A;exact yo c C g E p λQ L=>%[b,G,L|J]
end
theorem AD{P:Program}(h:Heap)(a:sysModules<h.objs.size):ce P w H (h.push {cls:= .type "dict",data:= .dict #[]}) h.objs.size (.dK []):=
 %[Xf _,beq_eq_false_iff_ne.mpr (Ne.symm (Zt a)),[],.nil|Heap.DictOf.new h]
def vF:TE:=λ_ H Q=>∀p,H p=none->Q (.ref p) (upd H p (.dK []))
section
variable{X:Cx}{pos:Pos}
theorem AE:PE X (.Dict [] [] pos) vF:=λpins s a H Q I h=>
 wpAny_Dict_empty %[.ref ⇑s,_,I.laid (λ_ _ q=>Z7 _ q) (Zi _) (AD s.heap I.big),rfl|h _ (I.hok.fresh (Zi _))]
end
noncomputable def lI(a more:List (Key×V)):List (Key×V):=more.foldl (λacc b=>cW acc b.1 b.2) a
theorem KV.merge:∀{more:List _} {rs:List _} {a:List _} {vs:List _},KV more rs->KV a vs->KV (lI a more) (merged vs rs):=by
 intro more rs a vs r
 induction r generalizing a vs with
 | nil=>intro q;exact q
 | @cons p q ps qs h t b=>
   intro c;have e:KV (cW a p.1 p.2) (stored vs q.1 q.2):=by
    have:=c.put p.1 h.2;exact h.1▸this
   exact b e
theorem jJ:∀more a,(lI a more).length<=a.length+more.length
 |[],a=>by show a.length<=a.length+0;lia
 | p::r,a=>by
   have b:=jJ r (cW a p.1 p.2);have c:=fW a p.1 p.2;show(lI _ r).length<=_
   grind
structure M1 (X:Cx) (o:Expr) (m:Str) (apos:Pos) (e:Expr) (cpos:Pos):Prop where
 base:attributeBase o m X.env (eval o X.env)=eval o X.env
 few:((backTo cpos (starEach [e] X.env)).all (λx=>!x.1)&&(backToKw cpos (keywordEach [] X.env)).all (λx=>x.1.isSome)
  && decide (([e]).length+([]:List Keyword).length+(if([]:List Keyword).isEmpty then 0 else 1)<30))=true
 line:(apos.endLine==cpos.line)=true
 trees:backTo cpos (starEach [e] X.env)=[(false,eval e X.env)]
structure M2 (X:Cx) (o:Expr) (m:Str) (apos:Pos) (e f:Expr) (cpos:Pos):Prop where
 base:attributeBase o m X.env (eval o X.env)=eval o X.env
 few:((backTo cpos (starEach [e,f] X.env)).all (λx=>!x.1)&&(backToKw cpos (keywordEach [] X.env)).all (λx=>x.1.isSome)
  && decide (([e,f]).length+([]:List Keyword).length+(if([]:List Keyword).isEmpty then 0 else 1)<30))=true
 line:(apos.endLine==cpos.line)=true
 trees:backTo cpos (starEach [e,f] X.env)=[(false,eval e X.env),(false,eval f X.env)]
section
#version
variable{a:Addr}{y d:V}{u r:Value}{o:Option V}{A:Around}{E:ZD}
end
section
variable{X:Cx}{o e f:Expr}{apos cpos:Pos}{td ty tx:TE}
end
section
#version
variable{a:Addr}{kvs:List (Key×V)}{A:Around}{E:ZD}
end
section
#version
variable{a:Addr}{y:V}{u:Value}{A:Around}{E:ZD}
end
end L2
namespace Att
open PySem PySem.W PySem.Calls PyProof.Rows
theorem mZ{P:Params}:∀(c:ZL) (vs:ZF),WellAll P h vs (c.map WData.int)->IntsAre vs c:=by
 intro c
 induction c with
 | nil=>
   intro vs w;cases w;exact .nil
 | cons n c d=>
   intro vs w;cases w with
   | cons a b=>
     cases a;exact .cons _ _ (d _ b)
theorem yq{l:OpenLaw}(o:l.most=some n){P:Params}
 (b:l.row.toRowW.claim.pre args=true) (j:WellAll P h e args):
 ∃a vs c,e=[Value.ref a]/\args=[WData.list (c.map WData.int)]/\h.get? a=some {cls:= .type "list",data:= .seq vs.toArray}/\IntsAre vs c/\c.length<=n:=by
 have m:l.pre.holds [] _=true:=(pre_splitW b).2;have%[d,r,rfl,p|q]:=hasAllW_cons ((pre_splitW b).1);obtain rfl:=hasAllW_nil q;have%[xs,rfl|s]:=hasW_list p;have%[c|rfl]:=items_int s;have f:c.length<=n:=by
  unfold OpenLaw.pre at m;have i:=by
   have i:=(holds_andW m).1;rw[o]at i;exact i
  have w:=condW_of i (w_not (w_lt w_lit (w_len_list (w_arg rfl))))
  grind
 cases j with
 | cons t u=>
   cases u;cases t with
   | list v g=>exact%[_,_,c,rfl,rfl,v,mZ c _ g|f]
theorem yr(l:OpenLaw)(args:List WData):l.row.toRowW.claim.post args (.bool true) args=true:=
 postW_of
  (by first|rfl|simp|lia)
  (w_eq_bool (w_res rfl) w_lit) rfl
theorem attach_call{l:OpenLaw}{n:Nat}{q:Program}
 (H:l.most=some n) (t:d.params.defaults=[])
 (call:∀(w:World) (s₀ b:Shared) (mg u:ZC) (h:Addr) (o:Obj) (v p c:Value) (a:Addr) (vs:ZF) (s:ZL),
  Ground q e [] I w s₀ mg u b.heap->J w b.heap->
  b.heap.get? h=some o->o.data= .func (docDef d.name d.params d.body d.scope v p c)->b.heap.CodeRec p d.name->mg d.name=some (.ref h)->
  b.heap.get? a=some {cls:= .type "list",data:= .seq vs.toArray}->IntsAre vs s->s.length<=n->b.gens= #[]->
  codeAny (model l.prog w) callerA (.call (.ref h) %[[.ref a]|[]]) (λr s'=>r= .ok (.ret (.bool true))/\OldK b.heap s'.heap/\s'.os=b.os/\AllBare s'.gens) b):
 WalkO q e I J l.row.toRowW d [] (λf vs=>PySem.call f vs):=by
 intro w s₀ b mg u G Y h o v p c L kV M N y B z O args C as i E Q A T;obtain rfl:L= .none:=Dflts.none B t;obtain rfl:kV= .none:=Dflts.noKw B;have%[a,vs,s,rfl,rfl,j,g|m]:=yq H i A;refine enter_call (codeAny_mono (call w s₀ b mg u h o v p c a vs s G Y M (fd_plain N) y z j g m O) λr s' U=>?_);have%[rfl,h2,h3|h4]:=U;exact%[.inl %[.bool true,.bool true,[],rfl,λ_=>rfl,.bool true,yr l _|λ_=>%[List.Pairwise.nil|λ_ hm=>(nomatch hm)]],h2,h3|h4]
section
#where
variable{K:Frag}
end
end Att
namespace L2
open PySem PySem.Spec PyProof.Rows
theorem qC:∀{vs:ZF} {a:ZL},IntsAre vs a->aI (a.map V.int) vs
 | _,_,.nil=> .nil
 | _,_,.cons n t h=> .cons %[t|rfl] (qC h)
def AF(H:Hp):Prop:=∀b,H b=none\/∃o xs,H b=some (.frz o (.lst xs))
theorem law_call{P:Program}{K:ZA}{mg I:ZC}{vs:ZF}
 (U:K.In c.heap) (p:c.heap.Ns mainGlobals mg) (g:c.heap.Ns builtinsNs I) (J:∀x:Str,x≠"__name__"->I x=bootBuiltins x) (t:c.heap.NoLimit) (hg:c.gens= #[])
 (L:c.heap.get? a=some {cls:= .type "list",data:= .seq vs.toArray}) (hi:IntsAre vs M) (Y:M.length<=sizeLine) (hr:cn k callerA)
 (F:∀base:Heap,K.In base->base.Ns mainGlobals mg->eW P w K mg base CX k fa fd [x] sp) (l:∀(s:Shared) (u:Value),BindsTo s fd %[[u]|[]] [(x,u)])
 (N:∀H:Hp,AF H->SqL K H a (M.map V.int)->sp [.ref a] H (λv _=>v= .bl true) λ_ _ _=>False)
 (O:∀H e s',CX [] H c (λ_ _ _=>False) e s'->False):
 codeAny (model P w) callerA (.call (.ref fa) %[[.ref a]|[]]) (λr s'=>r= .ok (.ret (.bool true))/\OldK c.heap s'.heap/\s'.os=c.os/\AllBare s'.gens) c:=by
 have rv:=qC hi;have j:∀H,AF H->SqL K H a (M.map V.int)->HOk P w H c.heap->(∀b,H b≠none->b=a)->(H a≠none->K.lookup a=none)->
  codeAny (model P w) callerA (.call (.ref fa) %[[.ref a]|[]]) (λr s'=>r= .ok (.ret (.bool true))/\OldK c.heap s'.heap/\s'.os=c.os/\AllBare s'.gens) c:=by
  intro H hO hS y hA hK;have f:∀{b:Addr} {o:Obj},c.heap.get? b=some o->H b=none->(xU c.heap H).get? b=some o:=λe n=>zJ e n
  have Q:∀{b:Addr} {o:Obj} {E:Array DictEntry} {G:Nat},c.heap.get? b=some o->o.data= .dict E G->H b=none:=λ{b o E G} e d=>by
   grind
  have i:∀{b:Addr} {m:ZC},c.heap.Ns b m->(xU c.heap H).Ns b m:=λ{b m} ⟨o,E,G,e,d,r⟩=>%[o,E,G,f e (Q e d),d|r]
  have A:=λb o e=>f (U b o e) (by
   grind)
  refine codeAny_mono ((F _ A (i p)).run callerA [] c H _ _ [.ref a] _ _ hr %[rfl,%[A,i p,%[I,i g|J]|let⟨mc,h1,h2⟩:=t;%[mc,i h1|h2]],λb o e=>B9 e,Nat.le_of_eq (xV _ _),trivial,λb g=>absurd (show b∈([])from g) ∅,y|.of_eq hg] (l c _) (.cons rfl .nil) (N H hO hS)) λr s' h=>?_
  cases r with
  | error e=>exact(O H e s' h).elim
  | ok fl=>
    cases fl with
    | next=>exact False.elim h
    | brk=>exact False.elim h
    | cont=>exact False.elim h
    | ret u=>
      have%[v,H',os,B,un,C,r'|q]:=h;subst q;obtain rfl:u=Value.bool true:=r';refine%[rfl,OldK.of_keep λb o e=>?_,os|B];cases q:H b with
      | none=>exact un.keep b o e q (by intro z;exact absurd (show b∈([])from z) ∅) ∅
      | some u=>
        rcases hO b with z|⟨ob,xs,z⟩
        .rw[q]at z;cases z
        .have%[e1|_]:=y b _ z;have%[e2|_]:=C b _ (un.frzs b ob _ z);rw[e]at e1;cases e1;exact e2
 cases T:K.lookup a with
 | some o=>
   have e:=U a o T;rw[L]at e;cases e;refine j _ (λ_=> .inl rfl) (.inr %[_,vs.toArray,_,T,rfl,rfl,rfl,by rw[Zp,hi.length];exact Y|rv]) (λb u z=>by simp_all) (λb z=>absurd rfl z) λz=>absurd rfl z
 | none=>
   refine j (λb=>if b=a then some (.frz {cls:= .type "list",data:= .seq vs.toArray} _)else none) (λb=>?_) (.inl (.inr %[{cls:= .type _,data:= .seq vs.toArray}|if_pos rfl])) (λb u z=>?_) (λb z=>?_) λ_=>T
   .by_cases g:b=a
    .exact .inr %[_,_|if_pos g]
    .exact .inl (if_neg g)
   .by_cases g:b=a
    .have z':=(if_pos g).symm.trans z;cases z';subst g;exact%[L,by rw[Z6];exact Y,vs,_,rv|L]
    simp_all
   .by_cases g:b=a
    .exact g
    .exact absurd (if_neg g) z
theorem walk_of{l:PySem.W.OpenLaw}{I:(Str->Option Value)->Heap->Prop}{C:World->Heap->Prop}{d:DefRec}{K:Params->ZA}{CX:World->CXT}{sp:World->Sp}{x:Str}
 (J:l.most=some n) (p:n<=sizeLine) (r:d.params.defaults=[]) (L:cn k callerA)
 (M:∀(w:World) (h:Heap),C w h->(K w.params).In h)
 (F:∀(w:World) (mg:ZC) (j:Addr) (h:Heap),(K w.params).In h->h.Ns mainGlobals mg->mg d.name=some (.ref j)->
  ∃t:FuncData,(∀(s:Shared) (u:Value),BindsTo s t %[[u]|[]] [(x,u)])/\
   ∀base:Heap,(K w.params).In base->base.Ns mainGlobals mg->eW l.prog w (K w.params) mg base (CX w) k j t [x] (sp w))
 (y:∀(w:World) (H:Hp) (a:Addr) (m:ZL),m.length<=n->AF H->SqL (K w.params) H a (m.map V.int)->sp w [.ref a] H (λv _=>v= .bl true) λ_ _ _=>False)
 (z:∀(w:World) (H:Hp) (s:Shared) (e:Value) (s':Shared),CX w [] H s (λ_ _ _=>False) e s'->False):
 PySem.W.WalkO q A I C l.row.toRowW d [] (λf vs=>PySem.call f vs):=by
 refine Att.attach_call J r λw s₀ g mg mb j o pm cd N a vs m G Y ho hd O B i c b Q=>?_
 have E:=M w _ Y;have%[t,T|U]:=F w mg j _ E G.T.g B;exact law_call E G.T.g G.T.b G.T.builtins G.T.nolimit Q i c (Yh b p) L U T (λH hO hS=>y w H a m b hO hS) λH e s'=>z w H g e s'
noncomputable def kq(s:Stmt)(j:Nat):Stmt:=match s with
 | .ClassDef _ _ _ a _ _ _ _ _ _ _=>a.getD j (.Pass %[0,0,0|0])
 | _=> .Pass %[0,0,0|0]
noncomputable def cq(s:Stmt):Arguments:=match s with
 | .FunctionDef _ a _ _ _ _ _ _ _ _=>a
 | _=>{posonlyargs:=[],args:=[],vararg:=none,kwonlyargs:=[],kw_defaults:=[],kwarg:=none,defaults:=[]}
noncomputable def bK(s:Stmt):List Stmt:=match s with
 | .FunctionDef _ _ b _ _ _ _ _ _ _=>b
 | _=>[]
noncomputable def am(s:Stmt):Scope:=match s with
 | .FunctionDef _ _ _ _ _ _ a _ _ _=>a
 | _=>{kind:= .function,names:=[],isGenerator:=false,isCoroutine:=false}
noncomputable abbrev CX0:CXT:=λ_ _ _ _ _ _=>False
noncomputable abbrev E0:XK:=λ_ _ _=>False
theorem AG{X:Cx}:jS CX0 X E0:=λ_ _ _ _ _ _ _ h=>h.elim
structure Fun (K:ZA) (x qual:Str) (st:Stmt) (f:Addr) (fd:FuncData):Prop where
 ex:∃oc od kV doc pm an cdv ct osl,
  fd=fnOf x qual (cq st) (bK st) (am st) .none kV doc pm an cdv ct/\K.lookup f=some %[oc,od,.func fd|osl]/\codeIn K cdv qual=true
 kp:keepIn K (.ref f)=true
section
variable{P:Program}{w:World}{K:ZA}{mg:ZC}{base:Heap}
theorem Fun.ok{x a:Str}{st:Stmt}{f:Addr}{g:FuncData}{N ps:ZB}{k:Nat}{sp:Sp}(F:Fun K x a st f g)(S:aw N ps (am st))(len:∀vs H Q E,sp vs H Q E->vs.length=ps.length)
 (c:∀b (A:Around) (outer:List Env) s H (vs:List V) Q E,cn k (A.deeper (envOfC a (am st) ⇑s f b))->sp vs H Q E->
  ∃t,PSs (rN CX0 P w K mg base N a (am st) f b A outer s H E).nox (bK st) t/\t {nx:=λ_ i=>Q .non i,rt:=Q} (start N vs) H):eW P w K mg base CX0 (k+1) f g ps sp:=by
 have%[n,o,kV,j,p,r,b,ct,l,rfl,lk|d]:=F.ex;refine GF lk d S len λA outer s H vs Q E m e=>?_
 have%[t,h|q]:=c b A outer s H vs Q E m e;exact%[t,h.nox|q]
theorem Fun.binds{st:Stmt}(F:Fun K x c st f g)
 (h:∀(kV a d:Value) (e:ZI) (b ct:Value) (us:ZF),us.length=ps.length->bindArgs (fnOf x c (cq st) (bK st) (am st) .none kV a d e b ct) %[us|[]]=pure (ps.zip us)):fT K g ps []:=by
 have%[l,m,kV,a,d,e,b,ct,i,rfl,lk|j]:=F.ex;exact .all (h kV a d e b ct)
theorem fE{st:Stmt}{kV d e b ct:Value}(l:K.lookup f=some %[i,j,.func (fnOf x a (cq st) (bK st) (am st) .none kV d e h b ct)|g])
 (c:codeIn K b a=true) (k:keepIn K (.ref f)=true):Fun K x a st f (fnOf x a (cq st) (bK st) (am st) .none kV d e h b ct):=%[%[i,j,kV,d,e,h,b,ct,g,rfl,l|c]|k]
end
section
variable{X:Cx}
theorem pv(i:Nat)(b:X.N[i]? =some x)(c:Vis X.env.scope x)(d:(x==("__debug__":Str))=false)
 (a:(x==("__classdict__":Str))=false):PE X (.Name x pos) (pO i):=zL b c d a
end
theorem Fc{A B:Prop}(h:B):if false=true then A else B:=by
 simp_all
theorem bx{c A B:Prop}[Decidable c](a:c->A)(b: ¬ c->B):if c then A else B:=by
 simp_all
def ah(H a:Hp):Prop:=∀b o,H b=some o->a b=some o
theorem ah.refl(H:Hp):ah H H:=λ_ _ h=>h
theorem ah.trans{H d e:Hp}(a:ah H d)(b:ah d e):ah H e:=λc o h=>b c o (a c o h)
theorem ah.free{H a:Hp}(e:ah H a){l:Addr}(h:a l=Option.none):H l=Option.none:=by
 cases q:H l with
 | none=>rfl
 | some o=>
   rw[e l o q]at h;cases h
theorem ah.seq{K:ZA}(e:ah H b)(h:SqL K H a xs):SqL K b a xs:=by
 rcases h with(h|⟨o,h⟩)|h
 .exact .inl (.inl (e _ _ h))
 .exact .inl (.inr %[o|e _ _ h])
 .exact .inr h
section
variable{X:Cx}
end
section
variable{κ:Type}[DecidableEq κ]
theorem CM{a:List (κ×V)}(h:bJ a k=some v):k∈a.map (·.1):=by
 have q:(a.any λb=>decide (b.1=k))=true:=by
  rw[i4,h]
  all_goals rfl
 simp_all
theorem nA:∀{l:List κ} {k:κ},l.Nodup-> ¬ k∈l->(l++[k]).Nodup
 |[],k,_,_=>by simp
 | a::r,k,h,b=>by
   have%[c|d]:=nodup_cons.mp h;refine nodup_cons.mpr %[λm=>?_|nA d λm=>b (mem_cons.mpr (Or.inr m))];rcases Xo m with q|q
   .exact c q
   .exact b (mem_cons.mpr (Or.inl (Xp q).symm))
end
noncomputable def nQ(env:Env):List (Str×NameKind)->List (Str×Addr)->List (Str×Addr)
 |[],acc=>acc
 |(n,k)::r,acc=>nQ env r (if k= .free then(n,(env.cells.lookup n).getD 0)::acc else acc)
theorem nR:∀(names:List (Str×NameKind)) (acc:List (Str×Addr)),(∀y∈names,y.2= .free->∃c,env.cells.lookup y.1=some c)->
 (forIn names acc λx r=>match x with
  |(name,kind)=>if(kind==NameKind.free)=true then do let a<-cellOf env name;pure (ForInStep.yield ((name,a)::r))else pure (ForInStep.yield r):Sem (List (Str×Addr)))=pure (nQ env names acc)
 |[],acc,_=>rfl
 |(n,k)::r,acc,h=>by
  have d:=λacc=>nR r acc λy f=>h y (Zk _ f)
  rw[forIn_cons];by_cases b:k= .free
  .subst b;have%[c|e]:=h _ Zm rfl;have g:cellOf env n=pure c:=by unfold cellOf;rw[e]
   simp only[beq_self_eq_true,if_true,g,pure_bind];rw[d];show _=pure (nQ env r _);rw[if_pos rfl,e]
   all_goals rfl
  .have i:(k==NameKind.free)=false:=by simpa using b
   simp only[i,Y1,if_false,pure_bind];rw[d];show _=pure (nQ env r _);rw[if_neg b]
theorem CO(h:∀y∈a.names,y.2= .free->∃c,env.cells.lookup y.1=some c):closureFor a env=pure (nQ env a.names []):=by
 unfold closureFor;simp only[bind_pure];exact(nR a.names [] h)
theorem tP:∀(names:List (Str×NameKind)) (acc:List (Str×Addr)),(∀y∈names,y.2= .free->∃c,env.cells.lookup y.1=some c)->
 (∀y d,acc.lookup y=some d->env.cells.lookup y=some d)->(nQ env names acc).lookup x=some c->env.cells.lookup x=some c
 |[],acc,_,a,e=>a x c e
 |(n,k)::r,acc,h,a,e=>by
  refine tP r _ (λy b=>h y (Zk _ b)) (λy d q=>?_) e;by_cases f:k= .free
  .rw[if_pos f,Yn]at q;have%[g|i]:=h _ Zm f;cases b:y==n with
   | true=>
     simp_all
   | false=>rw[b]at q;exact a y d q
  .rw[if_neg f]at q;exact a y d q
theorem nS:∀(names:List (Str×NameKind)) (acc:List (Str×Addr)),(∃c,acc.lookup x=some c)->∃c,(nQ env names acc).lookup x=some c
 |[],_,h=>h
 |(n,k)::r,acc,h=>by
  refine nS r _ ?_;by_cases a:k= .free
  .rw[if_pos a,Yn];cases b:x==n with
   | true=>exact%[_|rfl]
   | false=>exact h
  .rw[if_neg a];exact h
theorem nT:∀(names:List (Str×NameKind)) (acc:List (Str×Addr)),(x,NameKind.free)∈names->∃c,(nQ env names acc).lookup x=some c
 |[],_,h=>by simp at h
 |(n,k)::r,acc,h=>by
  rcases mem_cons.mp h with e|h
  .refine nS r _ ?_
   simp_all
  .exact nT r _ h
noncomputable def bT(X:Cx)(a:Scope)(d:ZB)(b:Shared)(c:Hp)(e:List Addr):Cx:=
 {X with
  N:=d
  s₀:=b
  H₀:=c
  env:=compEnvC a (cellsFrom (⇑b+1) a.names (nQ X.env a.names [])) ⇑b X.env
  outer:=X.stack
  stack:=X.stack
  ex:=e
  fn:=λx=>decide (a.names.lookup x=some .cell)
  pn:=[]
  xe:=λ_ _=>False}
structure aB (X:Cx) (scope:Scope) (N':ZB) (cap:List (Nat×Nat)):Prop where
 kind:scope.kind= .function
 cell:∀y∈scope.names,y.2= .cell->scope.names.lookup y.1=some .cell
 loc:∀y∈scope.names,y.2= .local->scope.names.lookup y.1=some .local
 free:∀y∈scope.names,y.2= .free->X.env.kindOf y.1=some .cell\/X.env.kindOf y.1=some .free
 capt:∀p∈cap,∃x,N'[p.1]? =some x/\X.N[p.2]? =some x/\scope.names.lookup x=some .free
noncomputable def qD(n:Nat)(a:List (Nat×Nat))(b:St):St:=(List.range n).map λj=>(a.lookup j).bind λi=>(b[i]?).join
theorem mJ:∀{l:List _} {j i:Nat},l.lookup j=some i->(j,i)∈l
 |[],_,_,h=>by simp at h
 |(a,b)::r,j,i,h=>by
  rw[Yn]at h;cases c:j==a with
  | true=>
    simp_all
  | false=>rw[c]at h;exact Zk _ (mJ h)
theorem mK{env:Env}{names:List (Str×NameKind)}{x:Str}{k:NameKind}(h:(names.map λ(n,k)=>if(k==NameKind.free&&env.scope.kind== .function&&env.kindOf n==some .cell)then(n,NameKind.cell)else(n,k)).lookup x=some k)
 (a:k= .cell\/k= .free):(x,NameKind.free)∈names\/(x,NameKind.cell)∈names:=by
 have m:=PySem.mem_of_lookup h
 grind
theorem fi:∀names n acc,cellsFrom n names acc=cellsFrom n names [] ++acc
 |[],_,_=>rfl
 |(x,k)::r,n,acc=>by
  unfold cellsFrom
  split
  .rw[fi r _ _,fi r _ [(x,n)],Ze];rfl
  .exact fi r n acc
theorem lJ:∀{names:List (Str×NameKind)} {n:Nat},(x,c)∈cellsFrom n names []->(x,NameKind.cell)∈names
 |[],_,h=>nomatch h
 |(y,k)::r,n,h=>by
  unfold cellsFrom at h
  split at h
  .rw[fi]at h;rcases Xo h with q|q
   .exact Zk _ (lJ q)
   grind
  .exact Zk _ (lJ h)
theorem mL(h:(cellsFrom n names acc).lookup x=some c):(x,c)∈cellsFrom n names []\/((cellsFrom n names []).lookup x=none/\acc.lookup x=some c):=by
 rw[fi,List.lookup_append]at h;cases e:(cellsFrom n names []).lookup x with
 | none=>rw[e]at h;exact .inr %[rfl|h]
 | some d=>
   rw[e]at h;have:=by simpa using h
   exact this▸ .inl (PySem.mem_of_lookup e)
theorem kr{env:Env}:∀{names:List (Str×NameKind)} {x:Str},names.lookup x=some .free->
 (names.map λ(n,k)=>if(k==NameKind.free&&env.scope.kind== .function&&env.kindOf n==some .cell)then(n,NameKind.cell)else(n,k)).lookup x=some .cell\/
 (names.map λ(n,k)=>if(k==NameKind.free&&env.scope.kind== .function&&env.kindOf n==some .cell)then(n,NameKind.cell)else(n,k)).lookup x=some .free
 |[],_,h=>by simp at h
 |(n,k)::r,x,h=>by
  have c:= @kr env r x;simp only[Yr];cases a:x==n with
  | true=>
    rw[Yn,a]at h;have d:=Za h;subst d;by_cases b:((NameKind.free==NameKind.free)&&env.scope.kind== .function&&env.kindOf n==some .cell)=true
    .rw[if_pos b,Yn,a];exact .inl rfl
    .rw[if_neg b,Yn,a];exact .inr rfl
  | false=>
    rw[Yn,a]at h;by_cases b:(k==NameKind.free&&env.scope.kind== .function&&env.kindOf n==some .cell)=true
    .rw[if_pos b,Yn,a];exact(c h)
    .rw[if_neg b,Yn,a];exact(c h)
section
#version
theorem Inv.kindL(I:Inv X pins σ H s)(h:X.env.kindOf x=some .cell\/X.env.kindOf x=some .free):∃c,X.env.cells.lookup x=some c:=I.ok.has x h
theorem Inv.block{a:Scope}{C:ZB}{fp:List Addr}{f:Heap}{tk:Nat}(S:aB X a C n)(I:Inv X pins σ H s)(O:∀b∈fp,mY X pins H b)(J:∀b∈fp,b<⇑s)
 (hn:f.Ns ⇑s (λ_=>none)) (A:∀b u,s.heap.get? b=some u->f.get? b=some u) (nc:CellsOk f (⇑s+1) (cellsFrom (⇑s+1) a.names [])):
 Inv (bT X a C s H fp) [] (qD C.length n σ) H {s with heap:=f,toks:=tk}:=by
 have h:∀x c,(nQ X.env a.names []).lookup x=some c->X.env.cells.lookup x=some c:=λx c e=>tP a.names [] (λy hy hk=>I.kindL (S.free y hy hk)) (λ_ _ q=>by simp at q) e
 have o:∀x c,(cellsFrom (⇑s+1) a.names (nQ X.env a.names [])).lookup x=some c->((x,c)∈cellsFrom (⇑s+1) a.names []/\f.IsCell c none/\⇑s+1<=c)\/(X.env.cells.lookup x=some c/\c<⇑s):=λx c e=>by
  rcases mL e with q|⟨_,q⟩
  .exact .inl %[q|nc.empty x c q]
  .have q':=h x c q;have%[v,G,L|_]:=I.cell x c q';exact .inr %[q'|Zv L]
 refine%[%[I.ok.mod,S.kind,I.ok.glob,I.ok.blt,Zi _,λx y c h1 h2=>?_,λx hx=>?_,λx c hq e=>?_,I.ok.hd,I.ok.frames,.inl rfl,λb g=>%[?_|λx c e=>?_],I.bs,
  Yh I.ok.bsz I.sz,λb u e g=>?_,λb g Q=>?_,I.stack|I.stkFree],rfl,I.bare,Un.kept A,%[_,hn|λj x v e1 e2 e3=>?_],λx c e=>?_,I.hok.fresh (Zi _),λx c e=>?_,λp hp=>?_,I.hok.kept A|?_]
 .rcases o x c h1 with⟨q1,_,q2⟩|⟨q1,q2⟩<;> rcases o y c h2 with⟨r1,_,r2⟩|⟨r1,r2⟩
  .exact name_of_addr nc.apart q1 r1
  .exact absurd r2 (Nat.not_lt_of_le (Yh (Yg _) q2))
  .exact absurd q2 (Nat.not_lt_of_le (Yh (Yg _) r2))
  .exact I.ok.inj x y c q1 r1
 .have:(x,NameKind.free)∈a.names\/(x,NameKind.cell)∈a.names:=by
   rcases hx with q|q
   .exact mK q (.inl rfl)
   .exact mK q (.inr rfl)
  refine isSome_iff_exists.mp (cellsFrom_some a.names _ _ ?_);rcases this with q|q
  .exact .inr (isSome_iff_exists.mpr (nT a.names [] q))
  .exact .inl (S.cell _ q rfl)
 .rcases mL e with q|⟨q,_⟩
  .have:=(nc.empty x c q).2;show ⇑s<=c
   lia
  .have:=cellsFrom_some a.names (⇑s+1) [] (.inl (Zo hq));rw[q]at this;cases this
 .exact Zt (J b g)
 .rcases o x c e with⟨_,_,q⟩|⟨q,_⟩
  .exact λz=>absurd (J b g) (Nat.not_lt_of_le (Yh (Yg _) (z▸q)))
  .exact(O b g).2.2.2.2.1 x c q
 .rcases(O b g).2.2.2.1 with z|z
  .exact I.ok.noex b u e z
  .exact absurd (Zg (Zv e) (Yh I.ok.bsz z)) (Xk _)
 .rcases mem_cons.mp (I.stkSub b Q)with z|z
  .exact(O b g).2.1 z
  .exact(O b g).2.2.1 z
 ·
  have hj:∃i,n.lookup j=some i/\σ[i]? =some (some v):=by
   have t:((List.range C.length).map _)[j]? =some _:=e2;rw[Zl]at t;cases hr:(List.range C.length)[j]? with
   | none=>rw[hr]at t;cases t
   | some j'=>
     rw[hr]at t;have ab:j'=j:=by
      have:=Xn hr;have%[h1|h2]:=this;simpa using h2.symm
     subst ab;have B:((n.lookup j').bind _)=some v:=Za t;cases T:n.lookup j' with
     | none=>rw[T]at B;cases B
     | some i=>
       rw[T]at B;refine%[i,rfl|?_];have U:(σ[i]?).join=some v:=B;cases Q:σ[i]? with
       | none=>rw[Q]at U;cases U
       | some w=>rw[Q]at U;have:w=some v:=U;rw[this]
  have%[i,T|hi]:=hj;have%[y,n1,n2|Y]:=S.capt _ (mJ T);have ac:=Za (n1.symm.trans e1);subst ac;have M:=S.free _ (PySem.mem_of_lookup Y) rfl;have%[m,hm|hl]:=I.loc;have%[u,r|l]:=hl i y v n2 hi (by rcases M with q|q;exact .inr (.inl q);exact .inr (.inr q));refine%[u,r|.inr %[?_|?_]]
  .exact kr Y
  .rcases l with⟨k,_⟩|⟨_,c,E,hv⟩
   .rcases M with q|q
    .rw[k]at q;cases q
    .rw[k]at q;cases q
   .have%[c'|N]:=nT a.names [] (PySem.mem_of_lookup Y);have:=h y c' N;rw[E]at this;have e5:=Za this;subst e5;have%[G,L|hd]:=hv;refine%[c,?_,G,A c G L|hd];show(cellsFrom _ _ _).lookup y=some c;rw[fi,List.lookup_append];cases e6:(cellsFrom _ a.names []).lookup y with
    | none=>simpa using N
    | some d=>
      have:=S.cell _ (lJ (PySem.mem_of_lookup e6)) rfl;rw[Y]at this;cases this
 .rcases o x c e with⟨_,q,_⟩|⟨q,_⟩
  .exact%[none|q]
  .have%[v,G,L|hd]:=I.cell x c q;exact%[v,G,A c G L|hd]
 .rcases o x c e with⟨_,_,q⟩|⟨q,_⟩
  .exact I.hok.fresh ⋯
  .exact I.freeC x c q
 .exact absurd (show p∈([])from hp) ∅
 .show(qD C.length n σ).length=C.length;unfold qD;rw[Z6,Yk]
end
def PTs(X:Cx)(a:List Expr)(t:TT):Prop:=
 ∀pins s (b:St) H Q,Inv X pins b H s->t b H Q->
  (~~~X) (forIn a true λc r=>if r=true then do let ok<-isTrue c X.env (eval c X.env);pure (ForInStep.yield ok)else pure (ForInStep.yield r)) (TP X pins b Q) X.xe s
def yv:TT:=λ_ H Q=>Q true H
theorem CP{X:Cx}:PTs X [] yv:=λ_ _ _ H _ I h=>wpAny_tests_nil %[H,I|h]
theorem CQ{X:Cx}(h:PT X c t):PTs X [c] t:=λpins s a H Q I q=>wpAny_tests_one (h pins s a H Q I q)
def qE(q:TI)(n:Nat)(f:List (Nat×Nat))(g:TG)(r:TT)(s:TE):TE:=λh H Q=>q h H λJ j=>∀D,j D=none->∃W:Nat->Nat->List V->St->Hp->Prop,
 (∃m,W 0 m [] (qD n f h) (upd j D (.lst [])))/\∀i m ys c d,W i m ys c d->(J.stop i d/\Q (.ref D) d)\/
  (J.go i d/\∀x l,J.yld i d x l->g x c l λa t=>r a t λb o=>if b=true then s a o λy p=>∃zs e,p D=some (.lst zs)/\zs.length<sizeLine/\e<m/\W (i+1) e (ys++[y]) a (upd p D (.lst (zs++[y])))
   else∃e,e<m/\W (i+1) e ys a o)
theorem CS{code:Value}
 (j:∀h',h'.Ns ⇑s (λ_=>none)->(∀b u,s.heap.get? b=some u->h'.get? b=some u)->CellsOk h' (⇑s+1) (cellsFrom (⇑s+1) a.names [])->
  Q (newEnv a ⇑s d (cellsFrom (⇑s+1) a.names f) g h code (some env) c) (s>>>h')):wpAny M A (newFunctionEnv a d f [] g h code (some env) c) Q E s:=by
 refine Z2 (wpAny_alloc (Z2 (wpAny_layCells _ (λname kind i=>by lia) _ _ _ _ ?_)));have ok:=cellsFrom_ok a.names (s.heap.push {cls:= .type "dict",data:= .dict #[]}) (⇑s+1) [] %[λ_ _ l=>(nomatch l)|List.Pairwise.nil] ∅;rw[Zq]at ok;rw[Zq ..];exact Z2 (Z3 (Z3 (j _ ((Heap.Ns.new s.heap _).keeps (pushCells_keeps _ _)) (λb u e=>pushCells_keeps _ _ b u (Z7 _ e)) ok)))
theorem qF{X:Cx}{a:Scope}(S:aB X a N' a2)(hc:X.calm=true)(hi:PI X tg cj wi)
 (hg:∀L M A,PG (bT X a N' L M A) tg g) (ht:∀L M A,PTs (bT X a N' L M A) a3 tc) (he:∀L M A,PE (bT X a N' L M A) a4 te)
 (hs:∀x,foldedSetIterable cj X.env x=pure x) (I:Inv X pins σ H s) (h:qE wi N'.length a2 g tc te σ H Q)
 (a5:∀(D C:Addr) (O:Hp) (s6:Shared) (fl:Flow) (m:ZC),s6.heap.Ns C m->mY X pins O C->(∀h',SameBut C s6.heap h'->Inv X pins σ O (s6>>>h'))->Q (.ref D) O->compPost (model X.prog X.w) X.A X.xe use QQ (.ref D) C (.ok fl) s6):
 (~~~X) (comprehension (.ListComp a4 [%[tg,cj,a3|0]] a pos) a X.env b6 (newList []) false (eval cj X.env) use) QQ X.xe s:=by
 refine wpAny_comprehension_free (use:=use) rfl hs (CO (λy hy hk=>I.kindL (S.free y hy hk))) S.kind S.loc (thn (hi pins s σ H _ I h) λv s1 h1=>thn h1 λb7 l h2=>?_);have%[it,A,tn,J,H2,e,I2,T,a6,f2|R]:=h2;subst e;refine wpAny_newObj_type (CS λU Y N ab=>?_);dsimp only at Y N ab ⊢;have I3:Inv X pins σ (upd H2 ⇑l (.lst [])) {l with heap:=l.heap.push {cls:= .type "list",data:= .seq ([]:ZF).toArray}}:=I2.lnew (its:=[]) (t':=l.toks) .nil (Xf _);have hD:H2 ⇑l=none:=I2.fresh;have aj:∀b∈A,b<⇑l:=λb j=>by have%[o,ho|_]:=T.obj 0 _ a6 b j;exact Zv ho
 generalize as:({l with heap:=l.heap.push {cls:= .type "list",data:= .seq ([]:ZF).toArray}}:Shared)=B at I3
 have G:B.heap=l.heap.push {cls:= .type "list",data:= .seq ([]:ZF).toArray}:=by rw[<-as]
 have a7:⇑B=⇑l+1:=by rw[G,Zq]
 have f3:∀b∈A,mY X pins (upd H2 ⇑l (.lst [])) b:=λb j=>%[(ao (Zt (aj b j)))▸(f2 b j).1|(f2 b j).2]
 have%[W,%[m0|w0]|a8]:=R _ hD;have ae:∀b u,B.heap.get? b=some u->U.get? b=some u:=G▸N;have I4:Inv (bT X a N' B (upd H2 ⇑l (.lst [])) A) [] (qD N'.length a2 σ) (upd H2 ⇑l (.lst [])) {B with heap:=U,toks:=B.toks}:=I3.block S f3 (λb j=>a7▸Yo (aj b j)) (G▸Y) ae (G▸ab);have a9:tn 0 U:=T.keep _ _ _ a6 λb j o e=>ae b o (G▸Z7 _ e)
 have b9:(bT X a N' B (upd H2 ⇑l (.lst [])) A).env=compEnvC a _ ⇑B X.env:=rfl;have ag:∀{H':Hp},(∀b∈A,H' b=none)->∀b∈A,mY _ [] H' b:=λhn b j=>
  %[hn b j,(I4.ok.exf b j).1,I4.ok.exfs b j,.inl j,(I4.ok.exf b j).2|λp hp=>absurd (show p∈([]:ZE)from hp) ∅]
 have al:codeAny (model X.prog X.w) X.A (.compLoop (.ListComp a4 [%[tg,cj,a3|0]] a pos) 0 (.ref it) (.ref ⇑l) (bT X a N' B (upd H2 ⇑l (.lst [])) A).env)
  (compPost (model X.prog X.w) X.A X.xe use QQ (.ref ⇑l) ⇑B) {B with heap:=U,toks:=B.toks}:=by
  refine codeAny_loop rfl (λn s'=>∃i ys bb H',Inv _ [] bb H' s'/\tn i s'.heap/\(∀b∈A,H' b=none)/\W i n ys bb H') ?_ m0 %[0,[],_,_,I4,a9,λb j=>(f3 b j).1|w0];intro n s5 %[i,ys,ai,O,I5,bc,bf|w5];show wpAny _ X.A _ _ _ s5;refine wpAny_noted ?_;rw[compTurn_list];refine Z2 (wpAny_standAt (Z2 ?_));rcases a8 i n ys ai O w5 with⟨stop,q⟩|⟨go,step⟩
  .refine thn (T.done (bT X a N' B (upd H2 ⇑l (.lst [])) A) rfl rfl rfl hc i [] s5 ai O _ I5 (ag bf) bc stop) λr s6 ⟨hr,I6⟩=>?_
   subst hr;refine Z3 ?_;have%[m6,bn|_]:=I6.loc;refine a5 ⇑l ⇑B O s6 _ m6 bn (I2.fpOk (a7▸Yg _) I6.free) (λh' sb=>?_) q;have u6:Un (frs X.stack) A (upd H2 ⇑l (.lst [])) O B.heap s6.heap:=I6.base;have a0:∀b u,B.heap.get? b=some u->b≠⇑B:=λb u e=>Zt (Zv e)
   have u7:Un (frs X.stack) A (upd H2 ⇑l (.lst [])) O B.heap h':=%[λb u e n j hx=>(sb.2 b (a0 b u e)).trans (u6.keep b u e n j hx),λb u e n j hx=>by
    have%[sl|q]:=u6.slot b u e n j hx;exact%[sl|(sb.2 b (a0 b u e)).trans q],u6.free,λb u e hx=>by
    have%[o'|q]:=u6.there b u e hx;exact%[o'|(sb.2 b (a0 b u e)).trans q],u6.tups,u6.frzs|u6.tbls]
   have bp:HOk X.prog X.w O h':=λb u e=>by
    have bl:∀c w,O c=some w->c≠⇑B:=λc w q z=>by
     have:O ⇑B=none:=I6.free;rw[z,this]at q;cases q
    refine(I6.hok b u e).stay (λc w bt q=>(sb.2 c ?_).trans q) (λ_ q=>q) λ_ _ q=>q
    rcases bt with z|z
    .exact z▸bl b u e
    .exact bl c _ z
   exact I2.call' (s':=(s6>>>h')) (ch:=A) (by show s6.os=l.os;rw[I6.os,<-as];rfl) ((Un.laid (λb u e=>G▸Z7 _ e) (Zi _) hD).trans u7) bp I6.bare λb j=>%[(f2 b j).2.2.2.1,(f2 b j).2.1,(f2 b j).2.2.2.2.1|(f2 b j).2.2.2.2.2]
  .refine thn (T.item (bT X a N' B (upd H2 ⇑l (.lst [])) A) rfl rfl rfl hc i [] s5 ai O _ I5 (ag bf) bc go) λr s6 ⟨u,hr,h6⟩=>?_
   subst hr;refine Z2 (thn h6 λ_ s7 ⟨x,H7,I7,r7,y7,a1,bU⟩=>?_);have ac:∀{α:Type} {t:Sem α} {Q1:α->Shared->Prop} {E2:ZD} {s':Shared},(~~~X) t Q1 (λ_ _=>False) s'->(~~~X) t Q1 E2 s':=λh=>wpAny_mono h (λ_ _ q=>q) λ_ _ f=>f.elim
   have an:∀{E:St} {H8:Hp} {s8:Shared},Inv (bT X a N' B (upd H2 ⇑l (.lst [])) A) ([] ++rK A s7.heap) E H8 s8->
    Inv _ [] E H8 s8/\tn (i+1) s8.heap/\∀b∈A,H8 b=none:=λ{E H8 s8} I8=>by
    refine%[I8.unpinned,T.keep _ _ _ a1 λb j o e=>(I8.pin (b,o) (Yv _ (Yv _ (fC j e)))).1|λb j=>?_];have%[o,e|d]:=T.obj _ _ a1 b j;exact(I8.pin (b,o) (Yv _ (Yv _ (fC j e)))).2.1
   refine Z2 (ac (thn (hg B _ A _ s7 ai H7 x u _ (I7.pinned (ag bU) (T.obj _ _ a1)) r7 (step x H7 y7)) λ_ s8 ⟨E,H8,I8,q8⟩=>Z2 (ac (thT (ht B _ A _ s8 E H8 _ I8 q8) λb s9 H9 I9 q9=>?_))));cases b with
   | false=>
     have%[m',hm|w9]:=(q9)
     have%[J1,J2|J3]:=an I9;exact Z3 %[rfl,m',hm,i+1,ys,E,H9,J1,J2,J3|w9]
   | true=>
     have q9:=(q9:te E H9 λy O=>∃zs m',O ⇑l=some (.lst zs)/\zs.length<sizeLine/\m'<n/\W (i+1) m' (ys++[y]) E _)
     refine Z2 (Z2 (ac (thP (he B _ A _ s9 E H9 _ I9 q9) λu2 b0 y bm b1 b2 ⟨zs,m',hz,hl,hm,b3⟩=>Z2 (ac (thP (qz _ b0 E bm (.ref ⇑l) [y] (.ref ⇑l) [u2] (λv H'=>v= .non/\H'=upd bm ⇑l (.lst (zs++[y]))) b1 rfl (.cons b2 .nil) %[_,rfl,_,hz,hl,rfl|rfl]) λu3 ca v3 cb b4 cd ⟨cl,b5⟩=>?_)))));subst b5;have%[J1,J2|J3]:=an b4;exact Z3 (Z3 %[rfl,m',hm,i+1,ys++[y],E,_,J1,J2,J3|b3])
 subst as;exact(codeAny_compStart_list al (T.self _ 0 _ _ _ a9 al))
theorem CT{X:Cx}(S:aB X a e f)(n:X.calm=true)(hi:PI X l cj o)
 (p:∀b c d,PG (bT X a e b c d) l g) (r:∀b c d,PTs (bT X a e b c d) i t) (u:∀b c d,PE (bT X a e b c d) j v)
 (w:∀x,foldedSetIterable cj X.env x=pure x):
 PE X (.ListComp j [%[l,cj,i|0]] a pos) (qE o e.length f g t v):=by
 intro pins s B H Q I h;exact qF S n hi p r u w I h λD C y E G m z _ k q=>%[m,z|λh' A=>%[.ref D,y,k h' A,rfl|q]]
noncomputable def Its(z:Str):It:=⟨λi _=>i<z.cps.size,λi H x a=>a=H/\∃c,z.cps[i]? =some c/\x= .str ⟨#[c]⟩,λi _=>z.cps.size<=i⟩
theorem vG{P:Program}{K:ZA}(it:Addr)(z:Str)(t:Tok):nL P w K tg (Its z) [it] it (λi h=>h.IsStrIter it "str_ascii_iterator" z t i) where
 mem:=by simp
 obj:=λi h st b hb=>by
  have e:=by simpa using hb
  subst e;have%[o,e,c|d]:=st;exact%[o,e|λv z=>by lia]
 keep:=λi h h' st k=>by
  have%[o,e|r]:=st;exact%[o,k it ∅ o e|r]
 item:=by
  intro X hP hw hK hc i pins s σ H E I hf st hg;have hlt:i<z.cps.size:=hg;have%[f0,f1,f2,f3,f4|f5]:=hf it ∅;refine wpAny_pyNext_ascii_item st (c:=z.cps[i]) ∅ λh' st' sb=>?_
  have%[o,e,c|d]:=id st';exact%[_,rfl|qr e c d (by decide) %[.str _,H,(I.turned (λb o hb e=>(sb.2 b hb).trans e) f0 f1 f3 f4 f5),%[_|rfl],%[rfl,_,by simp|rfl],st'|λb hb=>(hf b hb).1]]
 done:=by
  intro X hP hw hK hc i pins s σ H E I hf st hg;have hle:z.cps.size<=i:=hg;have%[f0,f1,f2,f3,f4|f5]:=hf it ∅;exact wpAny_pyNext_ascii_end (I.ok.hd hc) st (by simp[hle]) λh' eb=>%[rfl|I.turned (λb o hb e=>eb b o hb e) f0 f1 f3 f4 f5]
 self:=λ_ _ _ _ _ st h=>wpAny_pyIter_striter_ascii st h
theorem yw{P:Program}{K:ZA}(it:Addr)(z:Str)(t:Tok):nL P w K tg (Its z) [it] it (λi h=>h.IsStrIter it "str_iterator" z t i) where
 mem:=by simp
 obj:=λi h st b hb=>by
  have e:=by simpa using hb
  subst e;have%[o,e,c|d]:=st;exact%[o,e|λv z=>by rw[d]at z;cases z]
 keep:=λi h h' st k=>by
  have%[o,e|r]:=st;exact%[o,k it ∅ o e|r]
 item:=by
  intro X hP hw hK hc i pins s σ H E I hf st hg;have hlt:i<z.cps.size:=hg;have%[f0,f1,f2,f3,f4|f5]:=hf it ∅;refine wpAny_pyNext_wide_item st (c:=z.cps[i]) ∅ λh' st' sb=>?_
  have%[o,e,c|d]:=id st';exact%[_,rfl|qr e c d (by decide) %[.str _,H,(I.turned (λb o hb e=>(sb.2 b hb).trans e) f0 f1 f3 f4 f5),%[_|rfl],%[rfl,_,by simp|rfl],st'|λb hb=>(hf b hb).1]]
 done:=by
  intro X hP hw hK hc i pins s σ H E I hf st hg;have hle:z.cps.size<=i:=hg;have%[f0,f1,f2,f3,f4|f5]:=hf it ∅;exact wpAny_pyNext_wide_end (I.ok.hd hc) st (by simp[hle]) λh' eb=>%[rfl|I.turned (λb o hb e=>eb b o hb e) f0 f1 f3 f4 f5]
 self:=λ_ _ _ _ _ st h=>wpAny_pyIter_striter_wide st h
def CK(D:Addr)(n i:Nat)(Pv:Nat->List V->St->Hp->Prop)(ys:List V)(b:St)(y:V)(H:Hp):Prop:=
 ∃zs a,H D=some (.lst zs)/\zs.length<sizeLine/\a<n-i/\(a=n-(i+1)/\i+1<=n/\Pv (i+1) (ys++[y]) b (upd H D (.lst (zs++[y]))))
def CN(n i:Nat)(Pv:Nat->List V->St->Hp->Prop)(ys:List V)(b:St)(H:Hp):Prop:=∃a,a<n-i/\(a=n-(i+1)/\i+1<=n/\Pv (i+1) ys b H)
theorem CK.mk{Pv:Nat->List V->St->Hp->Prop}(hi:i<n)(a:H D=some (.lst zs))(b:zs.length<sizeLine)(p:Pv (i+1) (ys++[y]) c (upd H D (.lst (zs++[y])))):CK D n i Pv ys c y H:=
 %[zs,n-(i+1),a,b,⋯,rfl,hi|p]
theorem CN.mk{Pv:Nat->List V->St->Hp->Prop}(hi:i<n)(p:Pv (i+1) ys a H):CN n i Pv ys a H:=%[n-(i+1),⋯,rfl,hi|p]
theorem bi{J:It}{g:TG}{u:TT}{v:TE}{w:Hp->Prop}(Pv:Nat->List V->St->Hp->Prop)(z:Pv 0 [] c H)(s:∀i ys c H,i<n->Pv i ys c H->J.go i H)(d:∀ys c H,Pv n ys c H->J.stop n H)
 (A:∀i ys c H,i<n->Pv i ys c H->∀x f,J.yld i H x f->g x c f λa t=>u a t λb h=>if b=true then v a h λy r=>CK D n i Pv ys a y r else CN n i Pv ys a h) (B:∀ys c H,Pv n ys c H->w H):
 ∃W:Nat->Nat->List V->St->Hp->Prop,(∃m,W 0 m [] c H)/\∀i m ys j l,W i m ys j l->(J.stop i l/\w l)\/
  (J.go i l/\∀x f,J.yld i l x f->g x j f λa t=>u a t λb h=>if b=true then v a h λy r=>∃zs o,r D=some (.lst zs)/\zs.length<sizeLine/\o<m/\W (i+1) o (ys++[y]) a (upd r D (.lst (zs++[y])))
   else∃o,o<m/\W (i+1) o ys a h):=by
 refine%[λi m ys c H=>m=n-i/\i<=n/\Pv i ys c H,%[n,by simp,Xf _|z]|?_];intro i m ys c H %[rfl,hi|p];by_cases q:i<n
 .exact .inr %[s i ys c H q p|λx f y=>A i ys c H q p x f y]
 .have e:i=n:=by lia
  subst e;exact .inl %[d ys c H p|B ys c H p]
theorem wS:∀{bs:List Bool} {us:ZF} {i:Nat} {v:Value},aI (bs.map V.bl) us->us[i]? =some v->∃b,bs[i]? =some b/\v= .bool b
 |[],_,_,_,r,e=>by cases r;simp at e
 | b::bs,_,i,v,r,e=>by
   cases r with
   | cons a c=>
     cases(a);cases i with
     | zero=>simp at e;exact%[b,rfl|e.symm]
     | succ i=>
       have%[d,f|g]:=wS c (e);exact%[d,f|g]
theorem nU(bs:List Bool):(List.range bs.length).all (λi=>bs.getD i false)=bs.all id:=by
 have e:(List.range bs.length).map (λi=>bs.getD i false)=bs:=by
  apply ext_getElem
  .simp
  .intro i a b
   simp_all
 have:(List.range bs.length).all (λi=>bs.getD i false)=((List.range bs.length).map λi=>bs.getD i false).all id:=by rw[all_map];rfl
 rw[this,e]
theorem AH{X:Cx}(g:X.calm=true):cA X (.builtin "all") (λxs H Q=>∃(p:Addr) (bs:List Bool),xs=[.ref p]/\SqL X.K H p (bs.map V.bl)/\Q (.bl (bs.all id)) H):=by
 intro pins s z H xs us Q I r h;have%[p,bs,rfl,j|q]:=h;have%[u,rfl|l]:=dE r;cases l;have%[its,d,pl|A]:=I.list j;have m:X.A.in1.handled=none:=I.ok.hd g;have a:bs.length=its.toArray.size:=by rw[Zp,<-d.length,Z6]
 refine call_all_walk (wpAny_pyIter_list pl.isList %[⇑s,[⇑s,p],[⇑s],its.toArray.size,_,_,λi=>bs.getD i false,rfl,Walks.list m _ p (Zt (by have%[o,n|_]:=pl.isList;exact Zv n)) its.toArray,%[%[_,Zj _ rfl,rfl|rfl]|pl.isList.push _],?_|?_])
 .intro i v s' t B w c;have%[b,f|rfl]:=wS d (by simpa using w);have e:bs.getD i false=b:=by simp_all
  have c:t (bs.getD i false) s':=c;rw[e]at c;exact wpAny_truthy_bool c
 .intro h' tk y;rw[<-a,nU];refine%[.bl _,H,I.kept λb o e=>y b o ?_ (Z7 _ e),rfl|q];have:=Zv e;intro f;exact absurd (Xp f) (Zt this)
def Fd:V->Option Int->Option Int->Hp->VK->Prop:=λx lo hi H Q=>∃z,x= .str z/\z.length<=sizeLine/\Q (.str (Txt.slice z lo hi)) H
theorem Fe{X:Cx}:SlR X Fd:=by
 intro pins s g H x v m n lo hi o Q I e a pl c h;have%[z,rfl,f|q]:=h;have%[t|rfl]:=e;refine%["str",_,F.slot_str_getitem.lookup,typeIs_str _ _ _|?_];have fin:∀l u,(Txt.slice z l u).length<=sizeLine:=λl u=>Yh (Txt.slice_le z _ _) f
 cases pl with
 | none=>
   cases c with
   | none=>exact wpAny_getItem_str_slice (l:=none) (u:=none) (st:=none) a rfl (post_val_or_str %[fin _ _|λt' k=>%[.str (Txt.slice z _ _),H,I.tok k,%[_|rfl]|q]])
   | int j b=>exact wpAny_getItem_str_slice (l:=none) (u:=some (j,b)) (st:=none) a rfl (post_val_or_str %[fin _ _|λt' k=>%[.str (Txt.slice z _ _),H,I.tok k,%[_|rfl]|q]])
 | int i d=>
   cases c with
   | none=>exact wpAny_getItem_str_slice (l:=some (i,d)) (u:=none) (st:=none) a rfl (post_val_or_str %[fin _ _|λt' k=>%[.str (Txt.slice z _ _),H,I.tok k,%[_|rfl]|q]])
   | int j b=>exact wpAny_getItem_str_slice (l:=some (i,d)) (u:=some (j,b)) (st:=none) a rfl (post_val_or_str %[fin _ _|λt' k=>%[.str (Txt.slice z _ _),H,I.tok k,%[_|rfl]|q]])
theorem ic:∀{ss:ZB} {us:ZF},aI (ss.map V.str) us->StrsAre us ss
 |[],_,r=>by cases r;exact .nil
 | x::ss,_,r=>by
   cases r with
   | cons a b=>
     have%[t|e]:=a;subst e;exact .cons x t (ic b)
theorem qG:∀{ss:ZB} {us:ZF},StrsAre us ss->aI (ss.map V.str) us
 | _,_,.nil=> .nil
 | _,_,.cons x t h=> .cons %[t|rfl] (qG h)
def wU(K:ZA):V->List V->Hp->VK->Prop:=λx vs H Q=>∃z l ss,x= .str z/\vs=[.ref l]/\SqL K H l (ss.map V.str)/\(ss.map (·.length)).sum+ss.length*z.length<=16777216/\Q (.str (Txt.join z ss)) H
theorem CU{X:Cx}:MtM X "str.join" (wU X.K):=by
 intro pins s e H x vs v us Q I a b h;have%[z,l,ss,rfl,rfl,c,hw|q]:=h;have%[t|rfl]:=a;have%[u,rfl|d]:=b.one;cases d;have%[its,r,pl|f]:=I.list c;exact PyProof.Rows.join_list pl.isList (ic r) hw λt' k=>%[.str _,H,I.tok k,%[_|rfl]|q]
theorem AI{X:Cx}:cA X (.builtin "isinstance") (λxs H Q=>∃x n t b,xs=[x,.ty n]/\jR X.K H x t/\kitOne X.K t (.type n)=some b/\Q (.bl b) H):=by
 intro pins s d H xs us Q I r h;have%[x,n,t,b,rfl,ty,e|q]:=h;have%[u,f,rfl,c|a]:=kh r;cases(a);exact yd I c ty e λtk=>%[.bl b,H,I.tok tk,rfl|q]
theorem qH(z:Str)(c i:Nat):Builtin.Str.subAt z ⟨#[c]⟩ i=decide (z.cps[i]? =some c):=by
 unfold Builtin.Str.subAt;have b:(⟨#[c]⟩:Str).length=1:=rfl;rw[b];by_cases hi:i<z.cps.size
 .have e:z.cps.extract i (i+1)= #[z.cps[i]]:=by
   apply Array.ext
   .simp;lia
   .intro j d a;simp at a;subst a;simp
  rw[e,Array.getElem?_eq_getElem hi];by_cases f:z.cps[i]=c
  .subst f;simp
  simp_all
 .have e:z.cps.extract i (i+1)= #[]:=by
   apply Array.ext
   .simp;lia
   .intro j d a;simp at a
  rw[e,Array.getElem?_eq_none ⋯];simp
theorem AJ(z:Str)(c:Nat):(!(Builtin.Str.occurrences z ⟨#[c]⟩ 0 z.length 1).isEmpty)=decide (c∈z.cps.toList):=by
 rcases StrLaws.occ_head z _ 1 (Zi _)with⟨e,d⟩|⟨i,r,e,f,_⟩
 .rw[e];refine(Zh λg=>?_).symm;have%[j,h|l]:=List.mem_iff_getElem.mp g;have a:=by simpa using h
  refine d j %[?_|?_]
  .show j+1<=z.cps.size;lia
  .rw[qH];exact Zf (by rw[Array.getElem?_eq_getElem a];simpa using l)
 .rw[e];refine(Zf ?_).symm;have b:=f.2;rw[qH]at b;have:=Array.mem_of_getElem? (Zo b);simpa using this
section
variable{X:Cx}
abbrev DP:R2:=λx y H Q=>∃i j,x= .str i/\y= .str j/\i.length+j.length<=sizeLine/\Q (.str (i++j)) H
abbrev AK:R2:=λx y H Q=>rI0 (λi j=> .int (i+j)) x y H Q\/(DP x y H Q\/E5 x y H Q)
theorem CV:OpR X (binaryOp .Add) AK:=Ad.or (vq.or E6)
abbrev AL:R2:=λx y H Q=>rI Ac (λi j=> .int (i*j)) x y H Q\/E7 x y H Q
theorem CW:OpR X (binaryOp .Mult) AL:=Ae.or E8
abbrev Ff:R2:=rEq
theorem Fg:OpR X (compareOp .Eq) Ff:=GA
abbrev Fh:R2:=rNe
theorem Fi:OpR X (compareOp .NotEq) Fh:=GB
abbrev GJ:R2:=λx y H Q=>∃i j,x= .str i/\y= .str j/\Q (.bl (!(Builtin.Str.occurrences j i 0 j.length 1).isEmpty)) H
abbrev CY(K:ZA):R2:=λx y H Q=>GJ x y H Q\/rIn K false x y H Q
theorem Fj:OpR X (compareOp .In) (CY X.K):=x4.or yh
abbrev CZ(K:ZA):V->Option Int->Option Int->Hp->VK->Prop:=λx lo hi H Q=>EY K x lo hi H Q\/(EV K x lo hi H Q\/Fd x lo hi H Q)
theorem Fk:SlR X (CZ X.K):=CD.or (EW.or Fe)
def C0(K:ZA)(c:TE):TI:=λd H R=>c d H λx b=>(∃a,x= .ref a/\(∃xs,SqL K b a xs)/\R (Itl K a) b)\/(∃a,x= .ref a/\(∃xs,SqT K b a xs)/\R (Itt K a) b)\/∃z,x= .str z/\R (Its z) b
theorem Fl(n:PE X l r):PI X C l (C0 X.K r):=by
 intro pins s u H R I h;refine thP (n pins s u H _ I h) λv d x g f i w=>?_
 have c:∀b∈[⇑d],mY X pins g b:=λb y=>by
  have e:b=⇑d:=by simpa using y
  subst e;exact f.fpOk (Zi _) (f.hok.fresh (Zi _))
 rcases w with⟨a,e,⟨xs,j⟩,q⟩|⟨a,e,⟨xs,j⟩,q⟩|⟨z,e,q⟩
 .subst e;cases i;have%[its,A,p|B]:=f.list j;exact wpAny_pyIter_list p.isList %[⇑d,[⇑d],_,_,g,rfl,f.kept (t':=d.toks) λb o e=>Z7 _ e,xX a _,%[_,Zj _ rfl,rfl|rfl],c|q]
 .subst e;cases i;have%[its,A,p|B]:=f.tuple j;exact wpAny_pyIter_tuple (p) %[⇑d,[⇑d],_,_,g,rfl,f.kept λb o e=>Z7 _ e,vk a _,%[_,Zj _ rfl,rfl|rfl],c|q]
 .subst e;have%[t|rfl]:=i;cases m:z.cps.all _ with
  | true=>
    exact wpAny_pyIter_ascii m %[⇑d,[⇑d],_,_,g,rfl,f.kept λb o e=>Z7 _ e,vG _ z t,%[_,Zj _ rfl,rfl|rfl],c|q]
  | false=>
    exact wpAny_pyIter_wide m %[⇑d,[⇑d],_,_,g,rfl,f.kept λb o e=>Z7 _ e,yw _ z t,%[_,Zj _ rfl,rfl|rfl],c|q]
end
noncomputable def bH(c:Scope)(N:ZB)(a:Scope)(d:ZB)(b:List (Nat×Nat)):Bool:=
 decide (a.kind= .function)&&a.names.all (λy=>(decide (y.2≠ .cell)||decide (a.names.lookup y.1=some .cell))&&(decide (y.2≠ .local)||decide (a.names.lookup y.1=some .local))&&(decide (y.2≠ .free)||decide (c.names.lookup y.1=some .cell)||decide (c.names.lookup y.1=some .free)))&&
  b.all λp=>match d[p.1]? with
   | some x=>decide (N[p.2]? =some x)&&decide (a.names.lookup x=some .free)
   | none=>false
theorem aB.of{X:Cx}(h:bH X.env.scope X.N a g c=true):aB X a g c:=by
 unfold bH at h;rw[Zx,Zx,all_eq_true,all_eq_true]at h;have%[%[i|d]|j]:=h;refine%[Zo i,λy b f=>?_,λy b f=>?_,λy b l=>?_|λp m=>?_]
 .have:=d y b;simp only[Zx,or_eq_true,decide_eq_true_eq]at this;exact this.1.1.resolve_left λq=>q f
 .have:=d y b;simp only[Zx,or_eq_true,decide_eq_true_eq]at this;exact this.1.2.resolve_left λq=>q f
 .have:=d y b;simp only[Zx,or_eq_true,decide_eq_true_eq]at this;rcases this.2 with(q|q)|q
  .exact absurd l q
  .exact .inl q
  .exact .inr q
 .have:=j p m;cases e:g[p.1]? with
  | none=>simp_all
  | some x=>
    rw[e]at this;simp only[Zx,decide_eq_true_eq]at this;exact%[x,rfl,this.1|this.2]
structure Gv (mg:ZC) (x:Str) (v:V):Prop where
 ex:∃u,mg x=some u/\aP v u
theorem DQ{X:Cx}(g:Gv X.mg x v)(a:Gl X x)(b:(x==("__debug__":Str))=false):PE X (.Name x pos) (tC v):=by
 have%[u,h|r]:=g.ex;exact Cb a h r b
structure Cal (P:Program) (w:World) (K:ZA) (mg:ZC) (base:Heap) (k:Nat) (x:Str) (ps:ZB) (sp:Sp):Prop where
 ex:∃f fd,eW P w K mg base CX0 k f fd ps sp/\mg x=some (.ref f)/\keepIn K (.ref f)=true/\fT K fd ps []
structure aG (K:ZA) (mg:ZC) (x:Str) (st:Stmt) (ps:ZB):Prop where
 ex:∃f fd,Fun K x x st f fd/\mg x=some (.ref f)/\fT K fd ps []
theorem aG.cal{P:Program}{K:ZA}{st:Stmt}(D:aG K mg x st ps)(S:aw N ps (am st))
 (a:∀(H:Hp) (vs:List V) (Q:VK) (E:XK),sp vs H Q E->vs.length=ps.length/\∀(f:Addr) (b:Value) (A:Around) (outer:List Env) (s:Shared),cn k (A.deeper (envOfC x (am st) ⇑s f b))->
  ∃t,PSs (rN CX0 P w K mg base N x (am st) f b A outer s H E).nox (bK st) t/\t {nx:=λ_ c=>Q .non c,rt:=Q} (start N vs) H):Cal P w K mg base (k+1) x ps sp:=by
 have%[f,d,F,e|g]:=D.ex;exact%[f,d,F.ok S (λv H Q E h=>(a H v Q E h).1) (λb A o s H v Q E r h=>(a H v Q E h).2 f b A o s r),e,F.kp|g]
theorem Fn{X:Cx}(C:Cal X.prog X.w X.K X.mg X.base j x ps sp)(g:cn k X.A)(h:Gl X x)(i:jS CX0 X E0)(l:PA X (e::a) t)(b:j<=k)
 (c:(x==("__debug__":Str))=false) (m:starEach (e::a) X.env=(false,eval e X.env)::starEach a X.env) (d:(backTo pos (starEach a X.env)).any (·.1)=false):
 PE X (.Call (.Name x p) (e::a) [] pos) (tK sp [] E0 t):=by
 have%[f,r,F,n,o|q]:=C.ex;exact Cu F (g.mono b) h n o q .nil i l c m d
theorem Fo{K:ZA}{h:Heap}{st:Stmt}{kV e g d ct:Value}(X:K.In h)(G:h.Ns mainGlobals mg)
 (a:nsIn K mainGlobals x=some (some (.ref f))) (l:K.lookup f=some %[m,n,.func (fnOf x x (cq st) (bK st) (am st) .none kV e g i d ct)|j]) (c:codeIn K d x=true) (k:keepIn K (.ref f)=true)
 (b:∀(kV e g:Value) (i:ZI) (d ct:Value) (us:ZF),us.length=ps.length->bindArgs (fnOf x x (cq st) (bK st) (am st) .none kV e g i d ct) %[us|[]]=pure (ps.zip us)):aG K mg x st ps:=
 %[f,_,fE l c k,mg_of X G a|(fE l c k).binds b]
theorem i5{K:ZA}{h:Heap}(X:K.In h)(G:h.Ns mainGlobals mg)(a:nsIn K mainGlobals x=some (some u))(r:aP v u):Gv mg x v:=%[u,mg_of X G a|r]
theorem lK(h:∀nx:St->Hp->Prop,(∀a b,u D a b->nx a b)->t {D with nx:=nx} c H):be t u D c H:=h _ λ_ _ x=>x
theorem az(h:∀a:It->Hp->Prop,(∀J f,(∃W:Nat->Nat->St->Hp->Prop,(∃m,W 0 m b f)/\∀i m b H,W i m b H->
 (J.stop i H/\D.nx b H)\/(J.go i H/\∃N:St->Hp->Prop,(∀c d,N c d->∃j,j<m/\W (i+1) j c d)/\∀x d,J.yld i H x d->g x b d λe l=>n {D with nx:=N,ct:=N,bk:=D.nx} e l))->a J f)->o b H a):Ab o g n D b H:=h _ λ_ _ x=>x
theorem aE(h:∀c:It->Hp->Prop,(∀J j,(∀D,j D=none->∃W:Nat->Nat->List V->St->Hp->Prop,
 (∃m,W 0 m [] (qD n l o) (upd j D (.lst [])))/\∀i m ys d e,W i m ys d e->(J.stop i e/\Q (.ref D) e)\/
  (J.go i e/\∀x p,J.yld i e x p->g x d p λa s=>t a s λb q=>if b=true then u a q λy r=>∃zs f,r D=some (.lst zs)/\zs.length<sizeLine/\f<m/\W (i+1) f (ys++[y]) a (upd r D (.lst (zs++[y])))
   else∃f,f<m/\W (i+1) f ys a q))->c J j)->v o H c):qE v n l g t u o H Q:=h _ λ_ _ x=>x
section
variable{X:Cx}{K:ZA}
theorem Fp(h:X.K=K):OpR X (compareOp .In) (CY K):=by subst h;exact Fj
theorem ixK(h:X.K=K):IxR X (rIx K):=by subst h;exact EX
theorem slK(h:X.K=K):SlR X (CZ K):=by subst h;exact Fk
theorem yx(h:X.K=K):cA X (.builtin "len") (λxs H Q=>∃x n,xs=[x]/\Co K x H n/\Q (.int n) H):=by subst h;exact Al
theorem yy(h:X.K=K)(a:X.calm=true):cA X (.builtin "all") (λxs H Q=>∃(p:Addr) (bs:List Bool),xs=[.ref p]/\SqL K H p (bs.map V.bl)/\Q (.bl (bs.all id)) H):=by subst h;exact AH a
theorem yz(h:X.K=K):cA X (.builtin "isinstance") (λxs H Q=>∃x n t b,xs=[x,.ty n]/\jR K H x t/\kitOne K t (.type n)=some b/\Q (.bl b) H):=by subst h;exact AI
theorem vH(h:X.K=K):cA X (.type "list") (λxs H Q=>∃p ys,xs=[.ref p]/\(SqL K H p ys\/SqT K H p ys)/\∀l,H l=none->Q (.ref l) (upd H l (.lst ys))):=by subst h;exact rT
theorem AM(h:X.K=K):MtR X "str.join" (wU K):=by subst h;exact CU
theorem yA(h:X.K=K)(d:PE X a e)(f:∀b,isTrue a X.env b=(do let v<-b;standAt a.pos;holding [v] (truthy v))):PT X a (λg H Q=>e g H λx c=>∃k,Ai K x c k/\Q k c):=by subst h;exact Aj d f
theorem C1(h:X.K=K)(a:PE X l b):PI X c l (C0 K b):=by subst h;exact Fl a
variable{o e:Expr}{es:List Expr}{to:TE}{t:TA}{name:Str}{apos cpos:Pos}{T id:String}{r:V->List V->Hp->VK->Prop}
theorem C2(h:X.K=K)(d:PlainAttrs T)(slot:Slot T name id)(c:typeOf (.builtin id)=pure (.type "method_descriptor"))(f:MtR X id r)(g:PE X o to)
 (a:attributeBase o name X.env (eval o X.env)=eval o X.env) (b:(apos.endLine==cpos.line)=true):PE X (.Call (.Attribute o name apos) [] [] cpos) (CF K T r to):=by
 subst h;exact E3 d slot c f g a b
theorem AN(h:X.K=K)(g:PlainAttrs T)(slot:Slot T name id)(f:typeOf (.builtin id)=pure (.type "method_descriptor"))(i:MtR X id r)(j:PE X o to)(l:PA X (e::es) t)
 (b:attributeBase o name X.env (eval o X.env)=eval o X.env)
 (d:((backTo cpos (starEach (e::es) X.env)).all (λx=>!x.1)&&(backToKw cpos (keywordEach [] X.env)).all (λx=>x.1.isSome)
  && decide ((e::es).length+([]:List Keyword).length+(if([]:List Keyword).isEmpty then 0 else 1)<30))=true)
 (c:(apos.endLine==cpos.line)=true) (m:starEach (e::es) X.env=(false,eval e X.env)::starEach es X.env) (a:(backTo cpos (starEach es X.env)).any (·.1)=false):
 PE X (.Call (.Attribute o name apos) (e::es) [] cpos) (tBM K T r to t):=by
 subst h;exact GG g slot f i j l b d c m a
end
structure vI (z TI TO i1 i2:Addr):Prop where
 TIz:TI≠z
 TOz:TO≠z
 i1z:i1≠z
 i2z:i2≠z
 TITO:TI≠TO
 TIi1:TI≠i1
 TIi2:TI≠i2
 TOi1:TO≠i1
 TOi2:TO≠i2
 i12:i1≠i2
section
#where
variable{z TI TO i1 i2:Addr}{fp1 fp2:List Addr}{n1 n2 i:Nat}{P1 P2:Nat->Value->Prop}{St1 St2:Nat->Heap->Prop}
theorem AO{Q:ZD}(D1:Draws prog w A i1 fp1 n1 P1 St1)(D2:Draws prog w A i2 fp2 n2 P2 St2)(D:vI z TI TO i1 i2)(O:∀b∈fp1,b≠z/\b≠TO/\b≠i2)(m2:∀b∈fp2,b≠z/\b≠TO/\b≠i1)
 (T:IsZip s.heap z TI TO .none) (ac:IsPair s.heap TI (.ref i1) (.ref i2)) (ae:IsPair s.heap TO a b) (h1:St1 i s.heap) (h2:St2 i s.heap) (l1:i<n1) (l2:i<n2)
 (hQ:∀x y h' tk,P1 i x->P2 i y->IsZip h' z TI TO (rawInt ⇑s)->IsPair h' TO x y->St1 (i+1) h'->St2 (i+1) h'->IsPair h' ⇑s x y->
  (∀c o,c≠z->c≠TO->c≠i1->c≠i2->s.heap.get? c=some o->h'.get? c=some o)->Q (.ref ⇑s) {s with heap:=h',toks:=tk}):
 ↥A (Builtin.«zip.__next__» %[[.ref z]|[]]) (λfin s'=>∃v,fin= .done (.ret v)/\Q v s') E s:=by
 have r:∀{k h h' c},(∀b∈fp1,b≠c)->SameBut c h h'->St1 k h->St1 k h':=λhc sb st=>D1.frame _ _ _ st λb d o e=>(sb.2 b (hc b d)).trans e
 have t:∀{k h h' c},(∀b∈fp2,b≠c)->SameBut c h h'->St2 k h->St2 k h':=λhc sb st=>D2.frame _ _ _ st λb d o e=>(sb.2 b (hc b d)).trans e
 show wpAny _ _ (field (.ref z) 2>>= _) _ _ _;refine Z2 (wpAny_field T rfl (x:= .bool false) rfl ?_);show wpAny _ _ (field (.ref z) 3>>= _) _ _ _;refine Z2 (wpAny_field T rfl (x:= .ref TI) rfl (Z2 (wpAny_seqItems ac rfl ?_)));show wpAny _ _ (Builtin.SmallTypes.ownedTupleIsFree (.ref z)>>= _) _ _ _;refine Z2 ?_;unfold Builtin.SmallTypes.ownedTupleIsFree;refine Z2 (wpAny_field T rfl (x:= .none) rfl (Z3 ?_));simp only[if_true];refine Z2 (wpAny_rule (Z2 (wpAny_field T rfl (x:= .ref TO) rfl (Z2 (wpAny_setField_rec T ∅ λg1 L n=>?_)))));replace L:IsZip g1 z TI TO .ellipsis:=L;refine Z2 ?_;simp only[List.zipIdx_cons,List.zipIdx_nil,forIn_cons,List.forIn_nil];refine Z2 (Z2 (wpAny_onRaise ?_));show wpAny _ _ (Builtin.SmallTypes.nextOf (.ref i1)>>= _) _ _ _;refine Z2 (D1.item i _ _ _ l1 (r (λb d=>(O b d).1) n h1) λx g2 ag px ai f=>Z3 ?_);replace f:SameBut i1 g1 g2:=f;have H:IsPair g2 TO a b:=(f.2 _ D.TOi1).trans ((n.2 _ D.TOz).trans ae);refine Z2 (wpAny_seqItems H rfl (Z2 (wpAny_updateSeq_pair (s:={s with heap:=g2,toks:=ag}) H λg3 p g=>?_)));replace p:IsPair g3 TO x b:=p;replace g:SameBut TO g2 g3:=g;refine Z2 (wpAny_letGo (Z3 (Z2 (Z2 (wpAny_onRaise ?_)))));show wpAny _ _ (Builtin.SmallTypes.nextOf (.ref i2)>>= _) _ _ _;refine Z2 (D2.item i _ _ _ l2 (t (λb d=>(m2 b d).2.1) g (t (λb d=>(m2 b d).2.2) f (t (λb d=>(m2 b d).1) n h2))) λy g4 u py aj j=>Z3 ?_);replace j:SameBut i2 g3 g4:=j;have I:IsPair g4 TO x b:=(j.2 _ D.TOi2).trans p;refine Z2 (wpAny_seqItems I rfl (Z2 (wpAny_updateSeq_pair (s:={s with heap:=g4,toks:=u}) I λq m l=>?_)));replace m:IsPair q TO x y:=m;replace l:SameBut TO g4 q:=l;refine Z2 (wpAny_letGo (Z3 (Z3 (Z2 (wpAny_seqItems m rfl (Z2 (wpAny_newTuple ?_)))))));have U:q.objs.size=⇑s:=by rw[l.1,j.1,g.1,f.1,n.1]
 have Y:IsZip q z TI TO .ellipsis:=(l.2 _ D.TOz.symm).trans ((j.2 _ D.i2z.symm).trans ((g.2 _ D.TOz.symm).trans ((f.2 _ D.i1z.symm).trans L)));have al:∀c o,c≠z->c≠TO->c≠i1->c≠i2->s.heap.get? c=some o->q.get? c=some o:=λc o M c2 c3 c4 e=>
  (l.2 c c2).trans ((j.2 c c4).trans ((g.2 c c2).trans ((f.2 c c3).trans ((n.2 c M).trans e))))
 have J:z<q.objs.size:=Zv Y;refine Z2 (Z2 (wpAny_setField_rec (s:={s with heap:=q.push {cls:= .type "tuple",data:= .seq #[x,y]},toks:=u}) (Z7 _ Y) ∅ λg7 N B=>?_));replace N:IsZip g7 z TI TO (rawInt q.objs.size):=N;replace B:SameBut z (q.push _) g7:=B;refine wpAny_setField_rec (s:={s with heap:=g7,toks:=u}) N ∅ λg8 C G=>?_
 replace C:IsZip g8 z TI TO (rawInt q.objs.size):=C;replace G:SameBut z g7 g8:=G;have up:∀c o,c≠z->q.get? c=some o->g8.get? c=some o:=λc o M e=>(G.2 c M).trans ((B.2 c M).trans (Z7 _ e))
 have ab:=(G.2 _ (X2 J)).trans ((B.2 _ (X2 J)).trans (Zj _ rfl));rw[U]at C ab;refine Z3 %[_,rfl|?_];rw[U];exact hQ x y g8 u px py C (up _ _ D.TOz m) (D1.frame _ _ _ (r (λb d=>(O b d).2.1) l (r (λb d=>(O b d).2.2) j (r (λb d=>(O b d).2.1) g ai))) λb d o e=>up b o (O b d).1 e) (D2.frame _ _ _ (t (λb d=>(m2 b d).2.1) l aj) λb d o e=>up b o (m2 b d).1 e) ab λc o M c2 c3 c4 e=>up c o M (al c o M c2 c3 c4 e)
theorem AQ(J:Draws prog w A i1 fp1 n1 P1 St1)(D2:Draws prog w A i2 fp2 n2 P2 St2)(D:vI z TI TO i1 i2)(m1:∀b∈fp1,b≠z/\b≠TO/\b≠i2)(m2:∀b∈fp2,b≠z/\b≠TO/\b≠i1)
 (y:IsZip s.heap z TI TO .none) (L:IsPair s.heap TI (.ref i1) (.ref i2)) (M:IsPair s.heap TO a b) (h1:St1 i s.heap) (h2:St2 i s.heap) (l1:i<=n1) (l2:i<=n2) (ab:i=n1\/i=n2)
 (hE:∀h' e tk,(∀c o,c≠z->c≠TO->c≠i1->c≠i2->s.heap.get? c=some o->h'.get? c=some o)->(∃o,h'.get? e=some o/\o.cls= .type "StopIteration")->E (.ref e) {s with heap:=h',toks:=tk}):
 ↥A (Builtin.«zip.__next__» %[[.ref z]|[]]) Q E s:=by
 have N:∀{k h h' c},(∀b∈fp1,b≠c)->SameBut c h h'->St1 k h->St1 k h':=λO T st=>J.frame _ _ _ st λb j o e=>(T.2 b (O b j)).trans e
 have t:∀{k h h' c},(∀b∈fp2,b≠c)->SameBut c h h'->St2 k h->St2 k h':=λO T st=>D2.frame _ _ _ st λb j o e=>(T.2 b (O b j)).trans e
 show wpAny _ _ (field (.ref z) 2>>= _) _ _ _;refine Z2 (wpAny_field y rfl (x:= .bool false) rfl ?_);show wpAny _ _ (field (.ref z) 3>>= _) _ _ _;refine Z2 (wpAny_field y rfl (x:= .ref TI) rfl (Z2 (wpAny_seqItems L rfl ?_)));show wpAny _ _ (Builtin.SmallTypes.ownedTupleIsFree (.ref z)>>= _) _ _ _;refine Z2 ?_;unfold Builtin.SmallTypes.ownedTupleIsFree;refine Z2 (wpAny_field y rfl (x:= .none) rfl (Z3 ?_));simp only[if_true];refine Z2 (wpAny_rule (Z2 (wpAny_field y rfl (x:= .ref TO) rfl (Z2 (wpAny_setField_rec y ∅ λg1 n l=>?_)))));replace n:IsZip g1 z TI TO .ellipsis:=n;refine Z2 ?_;simp only[List.zipIdx_cons,List.zipIdx_nil,forIn_cons,List.forIn_nil];refine Z2 (Z2 (wpAny_onRaise ?_));show wpAny _ _ (Builtin.SmallTypes.nextOf (.ref i1)>>= _) _ _ _;have B:St1 i g1:=N (λb j=>(m1 b j).1) l h1;by_cases c1:i<n1
 .have e2:i=n2:=by lia
  refine Z2 (J.item i _ _ _ c1 B λx g2 u px ae d=>Z3 ?_);replace d:SameBut i1 g1 g2:=d;have r:IsPair g2 TO a b:=(d.2 _ D.TOi1).trans ((l.2 _ D.TOz).trans M);refine Z2 (wpAny_seqItems r rfl (Z2 (wpAny_updateSeq_pair (s:={s with heap:=g2,toks:=u}) r λg3 ac f=>?_)));replace f:SameBut TO g2 g3:=f;refine Z2 (wpAny_letGo (Z3 (Z2 (Z2 (wpAny_onRaise ?_)))));show wpAny _ _ (Builtin.SmallTypes.nextOf (.ref i2)>>= _) _ _ _;refine Z2 (D2.done _ _ _ (e2▸t (λb j=>(m2 b j).2.1) f (t (λb j=>(m2 b j).2.2) d (t (λb j=>(m2 b j).1) l h2))) λI e p U=>?_);replace p:Heap.ExtBut i2 g3 I:=p;have%[Y,g|m]:=U;have C:IsZip I z TI TO .ellipsis:=p _ _ D.i2z.symm ((f.2 _ D.TOz.symm).trans ((d.2 _ D.i1z.symm).trans n));have v:e≠z:=λx=>by subst x;rw[C]at g;cases g;simp at m
  refine wpAny_setField_rec (s:={s with heap:=I,toks:=u}) C ∅ λg5 _ q=>?_
  replace q:SameBut z I g5:=q;exact hE g5 e u (λc o G d2 d3 d4 x=>(q.2 c G).trans (p c o d4 ((f.2 c d2).trans ((d.2 c d3).trans ((l.2 c G).trans x))))) %[Y,(q.2 e v).trans g|m]
 .have e1:i=n1:=by lia
  refine Z2 (J.done _ _ _ (e1▸B) λg2 e d U=>?_);replace d:Heap.ExtBut i1 g1 g2:=d;have%[Y,g|m]:=U;have H:=d _ _ D.i1z.symm n;have v:e≠z:=λx=>by subst x;rw[H]at g;cases g;simp at m
  refine wpAny_setField_rec (s:=(s>>>g2)) H ∅ λg3 _ f=>?_
  replace f:SameBut z g2 g3:=f;exact hE g3 e s.toks (λc o G _ d3 _ x=>(f.2 c G).trans (d c o d3 ((l.2 c G).trans x))) %[Y,(f.2 e v).trans g|m]
end
noncomputable def Itz(x y:Str):It:=⟨λi _=>i<x.cps.size/\i<y.cps.size,λi H v a=>∃c d T,x.cps[i]? =some c/\y.cps[i]? =some d/\H T=none/\v= .ref T/\a=upd H T (.tup [.str ⟨#[c]⟩,.str ⟨#[d]⟩]),
 λi _=>i<=x.cps.size/\i<=y.cps.size/\(i=x.cps.size\/i=y.cps.size)⟩
def ZSt(z TI TO c d:Addr)(e f:Nat->Heap->Prop)(i:Nat)(h:Heap):Prop:=IsZip h z TI TO .none/\IsPair h TI (.ref c) (.ref d)/\(∃a b,IsPair h TO a b)/\e i h/\f i h
theorem jt(prog:Program)(w:World)(x:Str)(t:Tok)(a:Addr):∀A,A.handled=none->
 Draws prog w A a [a] x.cps.size (λi v=>∃c u,x.cps[i]? =some c/\v= .str ⟨#[c]⟩ u) (λi h=>h.IsStrIter a (strIterType x) x t i):=by
 intro A b;unfold strIterType;cases d:x.cps.all _ with
 | true=>exact Draws.strAscii b a x t
 | false=>exact Draws.strWide b a x t
theorem AR{P:Program}{K:ZA}(z TI TO i1 i2:Addr)(x y:Str)(t u:Tok)(D:vI z TI TO i1 i2):
 nL P w K (.Tuple elts kt tp) (Itz x y) [z,TI,TO,i1,i2] z (ZSt z TI TO i1 i2 (λi h=>h.IsStrIter i1 (strIterType x) x t i) (λi h=>h.IsStrIter i2 (strIterType y) y u i)) where
 mem:=by simp
 obj:=λi h st b hb=>by
  have%[hz,hTI,%[a,c|hTO],%[o1,e1,_|d1],o2,e2,_|d2]:=st
  grind
 keep:=λi h h' st k=>by
  have%[hz,hTI,%[a,c|hTO],%[o1,e1|r1],o2,e2|r2]:=st;exact%[k z ∅ _ hz,k TI ∅ _ hTI,%[a,c|k TO ∅ _ hTO],%[o1,k i1 ∅ _ e1|r1],o2,k i2 ∅ _ e2|r2]
 item:=by
  intro X hP hw hK hc i pins s σ H E I hf st hg;subst hP hw hK;have%[hz,hTI,%[a,c|hTO],h1|h2]:=st;obtain⟨g1,g2⟩:i<x.cps.size/\i<y.cps.size:=hg;have hT:s.TypeIs (.ref z) "zip":=%[_,hz|rfl]
  have hh:X.A.in1.handled=none:=I.ok.hd hc;unfold pyNext;refine Z2 (wpAny_attempt (wpAny_callSpecial?_slot (name:=Str.ofString "__next__") hT F.slot_zip_next (wpAny_call_entry F.slot_zip_next hT F.entry_zip_next
   (AO (jt _ _ x t i1 _ hh) (jt _ _ y u i2 _ hh) D (λb hb=>(show b=i1 by simpa using hb)▸%[D.i1z,Ne.symm D.TOi1|D.i12]) (λb hb=>(show b=i2 by simpa using hb)▸%[D.i2z,Ne.symm D.TOi2|Ne.symm D.i12]) hz hTI hTO h1 h2 g1 g2 λv1 v2 h' tk p1 p2 a1 a2 a3 a4 a5 hk=>Z3 ?_) (F.args_zip_next_1 _))))
  have%[c1,u1,e1|rfl]:=p1;have%[c2,u2,e2|rfl]:=p2;refine%[_,rfl|wpAny_letOwnedTupleGo_zip (s:={s with heap:=h',toks:=tk}) a1 λh'' hz'' sb=>?_];replace sb:SameBut z h' h'':=sb;have turn1:Inv X pins σ H {s with heap:=h'',toks:=tk}:=by
   have nit:∀b v,H b=some v->b∉[z,TI,TO,i1,i2]:=λb v e hb=>by rw[(hf b hb).1]at e;cases e
   have kk:∀b o,b∉[z,TI,TO,i1,i2]->s.heap.get? b=some o->h''.get? b=some o:=λb o hb e=>by
    simp only[Yw,X8,or_false,not_or]at hb;exact(sb.2 b hb.1).trans (hk b o hb.1 hb.2.2.1 hb.2.2.2.1 hb.2.2.2.2 e)
   refine I.step (g':=s.gens) (d':=s.drawn) (ch:=[z,TI,TO,i1,i2]) (λb hb=>%[(hf b hb).2.2.2.1,(hf b hb).2.1,(hf b hb).2.2.2.2.1|(hf b hb).2.2.2.2.2]) (λb o _ _ hc e _=>kk b o hc e) (λb o _ _ hc e _=>%[o.slots|kk b o hc e]) (λ_ _ _ _ n=>n)
    (λb o hc e=>%[o|kk b o hc e]) (λ_ _ e=>e) (λ_ _ _ e=>e) (λb ps e=>%[#[]|by rw[e];simp]) (λm hm=>?_) (λb v e=>?_) I.bare
   .have%[o,es,ep,ho|r]:=hm;exact%[o,es,ep,kk _ o (λhb=>(hf _ hb).2.1 rfl) ho|r]
   .refine(I.hok b v e).stay (λc' v' hc' q=>kk c' v' ?_ q) (λ_ q=>q) λ_ _ q=>q
    rcases hc' with q'|q'
    .exact q'▸nit b v e
    .exact nit c' _ q'
  have Hn:H ⇑s=none:=I.fresh;have I2:Inv X pins σ (upd H ⇑s (.tup [.str ⟨#[c1]⟩,.str ⟨#[c2]⟩])) {s with heap:=h'',toks:=tk}:=by
   have nf:⇑s∉X.fs:=I.nofs (Zi _);refine%[turn1.ok,turn1.os,turn1.bare,?_,turn1.loc,turn1.cell,?_,?_,?_,?_|turn1.len]
   .refine%[turn1.base.keep,turn1.base.slot,λb o e n hx=>?_,turn1.base.there,λb xs e=>?_,λb o v e=>?_|λb ps e=>?_]
    .rw[ao ((λb o e=>Zt (Zg (Zv e) I.sz)) b o e)];exact turn1.base.free b o e n hx
    .rw[ao (ay (turn1.base.tups b xs e) Hn)];exact turn1.base.tups b xs e
    .rw[ao (ay (turn1.base.frzs b o v e) Hn)];exact turn1.base.frzs b o v e
    .have%[m|q]:=turn1.base.tbls b ps e;exact%[m|(ao (ay q Hn))▸q]
   .rw[ao (Zt I.lt)];exact turn1.free
   .intro x' c' e;have%[v'|q]:=I.cell x' c' e;rw[ao (Zt q.lt)];exact turn1.freeC x' c' e
   .intro p hp;have%[e,n|r]:=turn1.pin p hp;refine%[e,?_|r];rw[ao (Zt (Zv (I.pin p hp).1))];exact n
   .intro b v e;by_cases hb:b=⇑s
    .subst hb;rw[aa]at e;cases e;exact%[by show 2<=sizeLine;decide,[.str _ u1,.str _ u2],.cons %[_|rfl] (.cons %[_|rfl] .nil),_,((sb.2 _ (X2 (Zv hz))).trans a5),rfl,_|rfl]
    .rw[ao hb]at e;refine(turn1.hok b v e).stay (λ_ _ _ q=>q) (λc' q=>?_) λc' xs q=>?_
     .rw[ao (ay q Hn)];exact q
     .rw[ao (ay q Hn)];exact q
  refine%[.ref ⇑s,_,I2,rfl,%[c1,c2,_,e1,e2,Hn,rfl|rfl],%[hz'',(sb.2 _ D.TIz).trans (hk _ _ D.TIz D.TITO D.TIi1 D.TIi2 hTI),%[_,_|(sb.2 _ D.TOz).trans a2],?_|?_]|λb hb=>?_]
  .have%[o,e|r]:=a3;exact%[o,(sb.2 _ D.i1z).trans e|r]
  .have%[o,e|r]:=a4;exact%[o,(sb.2 _ D.i2z).trans e|r]
  .have:b<⇑s:=by
    simp only[Yw,X8,or_false]at hb;have%[o1,q1|_]:=h1;have%[o2,q2|_]:=h2;rcases hb with rfl|rfl|rfl|rfl|rfl
    .exact Zv hz
    .exact Zv hTI
    .exact Zv hTO
    .exact Zv q1
    .exact Zv q2
   rw[ao (Zt this)];exact(hf b hb).1
 done:=by
  intro X hP hw hK hc i pins s σ H E I hf st hg;have%[hz,hTI,%[a,c|hTO],h1|h2]:=st;obtain⟨g1,g2,g3⟩:i<=x.cps.size/\i<=y.cps.size/\(i=x.cps.size\/i=y.cps.size):=hg;have hT:s.TypeIs (.ref z) "zip":=%[_,hz|rfl]
  have hh:=I.ok.hd hc;refine Z2 (wpAny_attempt (wpAny_callSpecial?_slot hT F.slot_zip_next (wpAny_call_entry F.slot_zip_next hT F.entry_zip_next
   (AQ (jt _ _ x t i1 _ hh) (jt _ _ y u i2 _ hh) D (λb hb=>(show b=i1 by simpa using hb)▸%[D.i1z,Ne.symm D.TOi1|D.i12]) (λb hb=>(show b=i2 by simpa using hb)▸%[D.i2z,Ne.symm D.TOi2|Ne.symm D.i12]) hz hTI hTO h1 h2 g1 g2 g3 λh' e tk hk he=>?_) (F.args_zip_next_1 _))))
  have%[o,ho|hco]:=he;refine Z2 (wpAny_isInstance %[o,ho|hco] isSubtype_stop (Z3 %[rfl|?_]));have nit:∀b v,H b=some v->b∉[z,TI,TO,i1,i2]:=λb v e hb=>by rw[(hf b hb).1]at e;cases e
  have kk:∀b o,b∉[z,TI,TO,i1,i2]->s.heap.get? b=some o->h'.get? b=some o:=λb o hb e=>by
   simp only[Yw,X8,or_false,not_or]at hb;exact hk b o hb.1 hb.2.2.1 hb.2.2.2.1 hb.2.2.2.2 e
  refine I.step (λb hb=>%[(hf b hb).2.2.2.1,(hf b hb).2.1,(hf b hb).2.2.2.2.1|(hf b hb).2.2.2.2.2]) (λb o _ _ hc e _=>kk b o hc e) (λb o _ _ hc e _=>%[o.slots|kk b o hc e]) (λ_ _ _ _ n=>n)
   (λb o hc e=>%[o|kk b o hc e]) (λ_ _ e=>e) (λ_ _ _ e=>e) (λb ps e=>%[#[]|by rw[e];simp]) (λm hm=>?_) (λb v e=>?_) I.bare
  .have%[o',es,ep,ho'|r]:=hm;exact%[o',es,ep,kk _ o' (λhb=>(hf _ hb).2.1 rfl) ho'|r]
  .refine(I.hok b v e).stay (λc' v' hc' q=>kk c' v' ?_ q) (λ_ q=>q) λ_ _ q=>q
   rcases hc' with q'|q'
   .exact q'▸nit b v e
   .exact nit c' _ q'
 self:=λ_ _ _ _ _ st h=>wpAny_pyIter_zip st.1 h
noncomputable def bj:Expr->Bool
 | .Starred _ _=>true
 | _=>false
theorem aF(h:bj e=false):starEach (e::a) env=(false,eval e env)::starEach a env:=by
 cases e<;> first|rfl|cases(show true=false from h)
theorem dZ(h:bj e=false):assignEach (e::a) env=(false,assign e env)::assignEach a env:=by
 cases e<;> first|rfl|cases(show true=false from h)
theorem ig:∀{a:List Expr},a.any bj=false->(backTo pos (starEach a env)).any (·.1)=false
 |[],_=>rfl
 | e::a,h=>by
   rw[Zy,X9]at h;rw[aF h.1];have:=ig (pos:=pos) (env:=env) h.2;cases a with
   | nil=>rfl
   | cons c b=>
     simp only[backTo]at this ⊢;simpa using this
theorem rY:∀{a:List Expr},a.any bj=false->(backTo pos (starEach a env)).all (λx=>!x.1)=true
 |[],_=>rfl
 | e::a,h=>by
   rw[Zy,X9]at h;rw[aF h.1];have:=rY (pos:=pos) (env:=env) h.2;cases a with
   | nil=>rfl
   | cons c b=>
     simp only[backTo]at this ⊢;simpa using this
theorem jT:∀{a:List Expr},a.any bj=false->(assignEach a env).length=a.length/\(assignEach a env).findIdx? (·.1)=none
 |[],_=>%[rfl|rfl]
 | e::a,h=>by
   rw[Zy,X9]at h;rw[dZ h.1];have b:=jT (env:=env) h.2;refine%[by rw[Zr,Zr,b.1]|?_];rw[List.findIdx?_cons,b.2];rfl
noncomputable def ii:Expr->Bool
 | .ListComp _ _ _ _=>true
 | .SetComp _ _ _ _=>true
 | .DictComp _ _ _ _ _=>true
 | _=>false
theorem kz(h:ii e=false):swapsWith e t l env=pure false:=by
 cases e<;> first|rfl|cases(show true=false from h)
noncomputable def vJ:Expr->Bool
 | .Tuple _ _ _=>true
 | _=>false
theorem vK(h:vJ e=false):swappedStores [t] e env=pure none:=by
 cases e with
 | Tuple _ _ _=>cases(show true=false from h)
 | _=>cases t<;> rfl
noncomputable def ik:Expr->Bool
 | .Call _ _ _ _=>true
 | _=>false
theorem fX(h:ik o=false):attributeBase o a env w=w:=by
 cases o<;> first|rfl|cases(show true=false from h)
noncomputable def nV:Expr->Bool
 | .Set _ _ _=>true
 | _=>false
theorem lL(h:nV e=false)(x:Value):foldedSetIterable e env x=pure x:=by
 cases e<;> first|rfl|cases(show true=false from h)
structure QE (X:Cx) (e:Expr) (t:TE):Prop where
 h:PE X e t
structure QT (X:Cx) (e:Expr) (t:TT):Prop where
 h:PT X e t
structure QW (X:Cx) (e:Expr) (t:TT):Prop where
 h:PW X e t
structure QA (X:Cx) (es:List Expr) (t:TA):Prop where
 h:PA X es t
structure QS (X:Cx) (st:Stmt) (t:TS):Prop where
 h:PS X st t
structure QSs (X:Cx) (st:List Stmt) (t:TS):Prop where
 h:PSs X st t
structure QG (X:Cx) (e:Expr) (t:TG):Prop where
 h:PG X e t
structure QGs (X:Cx) (es:List Expr) (t:TGs):Prop where
 h:PGs X es t
structure QI (X:Cx) (tg cj:Expr) (wi:TI):Prop where
 h:PI X tg cj wi
structure QO (X:Cx) (e:Option Expr) (t:TO):Prop where
 h:PO X e t
structure QTs (X:Cx) (ifs:List Expr) (t:TT):Prop where
 h:PTs X ifs t
structure OpQ (X:Cx) (f:Value->Value->Sem Value) (r:R2):Prop where
 h:OpR X f r
structure cU (X:Cx) (f:Value) (r:List V->Hp->VK->Prop):Prop where
 h:cA X f r
structure MtQ (X:Cx) (id:String) (r:V->List V->Hp->VK->Prop):Prop where
 h:MtR X id r
section
variable{X:Cx}{K:ZA}{pos:Pos}
theorem ax{i j}:QE X (.Constant (.int i) j pos) (tC (.int i)):=⟨Em⟩
theorem eBl{b j}:QE X (.Constant (.bool b) j pos) (tC (.bl b)):=⟨Go⟩
theorem vL{j}:QE X (.Constant .none j pos) (tC .non):=⟨En⟩
theorem cR{x j}:QE X (.Constant (.str x) j pos) (tC (.str x)):=⟨Eo⟩
theorem vn(i:Nat)(b:X.N[i]? =some x)(c:Vis X.env.scope x)(d:(x==("__debug__":Str))=false)(a:(x==("__classdict__":Str))=false):QE X (.Name x pos) (pO i):=⟨zL b c d a⟩
theorem gvE(g:Gv X.mg x v)(a:Gl X x)(b:(x==("__debug__":Str))=false):QE X (.Name x pos) (tC v):=⟨DQ g a b⟩
theorem blE(a:Gl X x)(b:X.mg x=none)(c:bootBuiltins x=some u)(r:aP v u)(f:(x==("__name__":Str))=false)(d:(x==("__debug__":Str))=false):QE X (.Name x pos) (tC v):=
 ⟨Cc a b c r (λe=>by lia) d⟩
theorem aq:QA X [] ye:=⟨EQ⟩
theorem paE(a:bj e=false)(b:QE X e c)(d:QA X f t):QA X (e::f) (Ap c t):=⟨Ct b.h d.h (aF a)⟩
theorem calE(C:Cal X.prog X.w X.K X.mg X.base j x ps sp)(f:cn k X.A)(g:Gl X x)(a:Nat.ble j k=true)
 (b:(x==("__debug__":Str))=false) (c:(e::d).any bj=false) (h:QA X (e::d) t):
 QE X (.Call (.Name x p) (e::d) [] pos) (tK sp [] E0 t):=by
 rw[Zy,X9]at c;exact⟨Fn C f g AG h.h (Nat.le_of_ble_eq_true a) b (aF c.1) (ig c.2)⟩
theorem cbE{id:String}(d:cU X (.builtin id) r)(f:Gl X x)(g:X.mg x=none)(h:bootBuiltins x=some (.builtin id))(j:(x==("__name__":Str))=false)(a:(x==("__debug__":Str))=false)
 (b:(e::c).any bj=false) (i:QA X (e::c) t):QE X (.Call (.Name x p) (e::c) [] pos) (tCB r t):=by
 rw[Zy,X9]at b;exact⟨Au d.h f g h i.h (λe=>by lia) a (aF b.1) (ig b.2)⟩
theorem ctE(d:cU X (.type T) r)(f:Gl X x)(g:X.mg x=none)(h:bootBuiltins x=some (.type T))(j:(x==("__name__":Str))=false)(a:(x==("__debug__":Str))=false)
 (b:(e::c).any bj=false) (i:QA X (e::c) t):QE X (.Call (.Name x p) (e::c) [] pos) (tCB r t):=by
 rw[Zy,X9]at b;exact⟨yg d.h f g h i.h (λe=>by lia) a (aF b.1) (ig b.2)⟩
theorem bmE{T id:String}(h:X.K=K)(m:PlainAttrs T)(slot:Slot T name id)(i:typeOf (.builtin id)=pure (.type "method_descriptor"))(n:MtQ X id r)
 (b:ik o=false) (a:(e::g).any bj=false) (j:Nat.blt (e::g).length 30=true) (c:(d.endLine==f.line)=true) (p:QE X o q) (s:QA X (e::g) t):
 QE X (.Call (.Attribute o name d) (e::g) [] f) (tBM K T r q t):=by
 have l:=a;rw[Zy,X9]at l;refine⟨AN h m slot i n.h p.h s.h (fX b) ?_ c (aF l.1) (ig l.2)⟩;rw[rY a];have:decide ((e::g).length+([]:List Keyword).length+(if([]:List Keyword).isEmpty then 0 else 1)<30)=true:=Zf ((Nat.blt_eq.mp j));rw[this];rfl
theorem GK{T id:String}(h:X.K=K)(f:PlainAttrs T)(slot:Slot T name id)(e:typeOf (.builtin id)=pure (.type "method_descriptor"))(g:MtQ X id r)
 (a:ik o=false) (b:(c.endLine==d.line)=true) (i:QE X o j):QE X (.Call (.Attribute o name c) [] [] d) (CF K T r j):=⟨C2 h f slot e g.h i.h (fX a) b⟩
theorem nW(b:Gl X "range")(c:X.mg "range"=none)(d:bj a=false)(e:QA X [a] f):QI X g (.Call (.Name "range" p) [a] [] pos) (Aa f):=⟨xY b c e.h (aF d)⟩
theorem cK(h:X.K=K)(a:QE X l b):QI X c l (C0 K b):=⟨C1 h a.h⟩
section
variable{a b c:Expr}{ta tb tc:TE}{op op':CmpOp}{r r':R2}
theorem vM(e:OpQ X (compareOp op) r)(d:OpQ X (compareOp op') r')(f:lastMarks [op,op'] [b,c]=false)(g:QE X a ta)(h:QE X b tb)(i:QE X c tc):QE X (.Compare a [op,op'] [b,c] pos) (vo r r' ta tb tc):=⟨Ah e.h d.h g.h h.h i.h f⟩
theorem lM(d:OpQ X (compareOp op) r)(e:behindInMarks op b=false)(f:QE X a ta)(g:QE X b tb):QE X (.Compare a [op] [b] pos) (tOp r ta tb):=⟨Cm d.h f.h g.h e⟩
theorem bI(d:OpQ X (compareOp op) r)(e:behindInMarks op b=false)(f:QE X a ta)(g:QE X b tb):QT X (.Compare a [op] [b] pos) (Ag (tOp r ta tb)):=⟨Cn d.h f.h g.h e⟩
theorem opE{op:Operator}(d:OpQ X (binaryOp op) r)(e:QE X a ta)(f:QE X b tb):QE X (.BinOp a op b pos) (tOp r ta tb):=⟨Gw d.h e.h f.h⟩
theorem rZ(d:QE X a ta):QE X (.UnaryOp .USub a pos) (tUn (rU λi=> .int (-i)) ta):=⟨Gx EG d.h⟩
theorem ixE(h:X.K=K)(d:km b)(e:QE X a ta)(f:QE X b tb):QE X (.Subscript a b pos) (tOp (rIx K) ta tb):=⟨wQ (ixK h) e.h f.h d⟩
theorem slE{lo hi:Option Expr}(h:X.K=K)(d:QE X a ta)(e:QO X lo f)(g:QO X hi i):QE X (.Subscript a (.Slice lo hi none j) pos) (tSl (CZ K) ta f i):=⟨Ax (slK h) d.h e.h g.h⟩
theorem noO:QO X none rO:=⟨Cw⟩
theorem kA(h:QE X a ta):QO X (some a) (Aw ta):=⟨Cy h.h⟩
theorem r9{op}(h:QE X a ta):QE X (.BoolOp op [a] pos) ta:=⟨Ev h.h⟩
theorem pR{rest:List Expr}(d:QE X a ta)(e:QE X (.BoolOp .And (b::rest) pos) tb):QE X (.BoolOp .And (a::b::rest) pos) (zN ta tb):=⟨Ew d.h e.h⟩
theorem orV{rest:List Expr}(d:QE X a ta)(e:QE X (.BoolOp .Or (b::rest) pos) tb):QE X (.BoolOp .Or (a::b::rest) pos) (Eu ta tb):=⟨Gr d.h e.h⟩
theorem cS(h:QA X d t):QE X (.List d pos) (ES t):=⟨EU h.h⟩
theorem im{d}(h:QA X e t):QE X (.Tuple e d pos) (ER t):=⟨ET h.h⟩
theorem gO:QE X (.Dict [] [] pos) vF:=⟨AE⟩
variable{tA tB':TT}{rest:List Expr}
theorem ifE(d:QT X c tA)(e:QE X a ta)(f:QE X b tb):QE X (.IfExp c a b pos) (tIf tA ta tb):=⟨zO d.h e.h f.h⟩
theorem lN(d:QT X a tA):QT X (.UnaryOp .Not a pos) (Ep tA):=⟨Et d.h⟩
theorem jK(d:QT X a tA):QW X (.BoolOp .And [a] pos) tA:=⟨Ce d.h⟩
theorem nZ(d:QT X a tA):QW X (.BoolOp .Or [a] pos) tA:=⟨Er d.h⟩
theorem m7(d:QT X a tA)(e:QW X (.BoolOp .And (b::rest) pos) tB'):QW X (.BoolOp .And (a::b::rest) pos) (Cd tA tB'):=⟨Es d.h e.h⟩
theorem orW(d:QT X a tA)(e:QW X (.BoolOp .Or (b::rest) pos) tB'):QW X (.BoolOp .Or (a::b::rest) pos) (tOr tA tB'):=⟨Gq d.h e.h⟩
theorem wT(h:QW X a tA):QT X a tA:=⟨PW.pt h.h⟩
theorem iV(h:X.K=K)(f:∀d,isTrue a X.env d=(do let v<-d;standAt a.pos;holding [v] (truthy v)))(g:QE X a ta):QT X a (λi H Q=>ta i H λx e=>∃k,Ai K x e k/\Q k e):=⟨yA h g.h f⟩
theorem kB:QTs X [] yv:=⟨CP⟩
theorem kC(h:QT X c tA):QTs X [c] tA:=⟨CQ h.h⟩
end
theorem dQ(S:aB X c e f)(l:X.calm=true)(m:nV cj=false)(hi:QI X j cj n)
 (o:∀a b d,QG (bT X c e a b d) j g) (p:∀a b d,QTs (bT X c e a b d) h q) (r:∀a b d,QE (bT X c e a b d) i s):
 QE X (.ListComp i [%[j,cj,h|0]] c pos) (qE n e.length f g q s):=⟨CT S l hi.h (λa b d=>(o a b d).h) (λa b d=>(p a b d).h) (λa b d=>(r a b d).h) (lL m)⟩
theorem bu:QSs X [] zP:=⟨Cf⟩
theorem ak{st:Stmt}{rest:List Stmt}(a:QS X st t)(b:QSs X rest u):QSs X (st::rest) (be t u):=⟨zQ a.h b.h⟩
theorem au{st:Stmt}(a:QS X st t):QSs X [st] t:=⟨Cg a.h⟩
theorem ifS(d:QT X c e)(f:QSs X a t)(g:QSs X b u):QS X (.If c a b pos) (mX e t u):=⟨Gu d.h f.h g.h⟩
theorem aN(a:QE X e b):QS X (.Return (some e) pos) (kg b):=⟨Ex a.h⟩
theorem io{st:Stmt}:QS X st zR:=⟨zS⟩
theorem cX(c:PassesOwn (model X.prog X.w) X.A X.env X.xe)(d:X.calm=true)(e:nV cj=false)(hi:QI X b cj f)(h:QG X b g)(i:QSs X a j):
 QS X (.For b cj a [] pos) (Ab f g j):=⟨EB c d hi.h h.h i.h (lL e)⟩
theorem n6(i:Nat)(b:X.N.Nodup)(hi:X.N[i]? =some x)(c:Loc X.env.scope x)(d:X.fn x=true\/X.env.scope.names.lookup x=some .local)(f:ii e=false)(g:QE X e h):
 QS X (.Assign [.Name x a] e pos) (pP h (jI i)):=⟨zW b hi c g.h (kz f) d⟩
theorem bQ(a:ii e=false)(b:QE X e c):QS X (.Expr e pos) (kf c):=⟨Ch b.h (kz a)⟩
theorem C3(c:ii e=false)(hw:vJ e=false)(a:bj b=false)(d:QE X e f)(h:QG X b g):QS X (.Assign [b] e pos) (pP f g):=
 ⟨EA d.h h.h (kz c) (vK hw) (by rw[dZ a];rfl)⟩
theorem qI(i:Nat)(a:X.N.Nodup)(hi:X.N[i]? =some x)(b:Loc X.env.scope x)(c:X.fn x=true\/X.env.scope.names.lookup x=some .local):QG X (.Name x pos) (jI i):=⟨Ci a hi b c⟩
theorem c6:QGs X [] Ey:=⟨Cj⟩
theorem gsE(a:bj e=false)(b:QG X e t)(c:QGs X d u):QGs X (e::d) (zT t u):=⟨zU b.h c.h (by rw[dZ a];rfl)⟩
theorem gE(c:X.K=K)(d:X.calm=true)(b:a.any bj=false)(h:QGs X a t):QG X (.Tuple a k pos) (zV K a.length t):=by
 subst c;exact⟨Ez d h.h (jT b).1 (jT b).2⟩
theorem dG:OpQ X (binaryOp .Add) AK:=⟨CV⟩
theorem qJ:OpQ X (binaryOp .Sub) (rI0 λi j=> .int (i-j)):=⟨EE⟩
theorem vN:OpQ X (binaryOp .Mult) AL:=⟨CW⟩
theorem bD:OpQ X (binaryOp .Mod) (rI (λ_ j=>0<j) λi j=> .int (i%j)):=⟨EF⟩
theorem cg:OpQ X (binaryOp .FloorDiv) (rI Gz λi j=> .int (i/j)):=⟨Ck⟩
theorem dR:OpQ X (compareOp .Eq) Ff:=⟨Fg⟩
theorem gP:OpQ X (compareOp .NotEq) Fh:=⟨Fi⟩
theorem yB:OpQ X (compareOp .Lt) (rI0 λi j=> .bl (decide (i<j))):=⟨GC⟩
theorem yC:OpQ X (compareOp .LtE) (rI0 λi j=> .bl (decide (i<=j))):=⟨GD⟩
theorem pS:OpQ X (compareOp .Gt) (rI0 λi j=> .bl (decide (j<i))):=⟨GE⟩
theorem GL:OpQ X (compareOp .Is) (λx y H Q=>y= .non/\Q (.bl (decide (x= .non))) H):=⟨EI⟩
theorem sd:OpQ X (compareOp .IsNot) (λx y H Q=>y= .non/\Q (.bl (!decide (x= .non))) H):=⟨Cl⟩
theorem vO(h:X.K=K):OpQ X (compareOp .In) (CY K):=⟨Fp h⟩
abbrev wV:R2:=λx y H Q=>∃i j,x= .str i/\y= .str j/\Q (.bl (!(!(Builtin.Str.occurrences j i 0 j.length 1).isEmpty))) H
abbrev wW(K:ZA):R2:=λx y H Q=>wV x y H Q\/rIn K true x y H Q
theorem C4(h:X.K=K):OpQ X (compareOp .NotIn) (wW K):=by subst h;exact⟨rS.or rR⟩
theorem cV(h:X.K=K):cU X (.builtin "len") (λxs H Q=>∃x n,xs=[x]/\Co K x H n/\Q (.int n) H):=⟨yx h⟩
theorem AS(h:X.K=K)(a:X.calm=true):cU X (.builtin "all") (λxs H Q=>∃(p:Addr) (bs:List Bool),xs=[.ref p]/\SqL K H p (bs.map V.bl)/\Q (.bl (bs.all id)) H):=⟨yy h a⟩
theorem DR(a:X.calm=true):cU X (.builtin "max") (λxs H Q=>∃i j,xs=[.int i,.int j]/\Q (.int (if j>i then j else i)) H):=⟨x5 a⟩
theorem GM(a:X.calm=true):cU X (.builtin "min") (λxs H Q=>∃i j,xs=[.int i,.int j]/\Q (.int (if j<i then j else i)) H):=⟨x6 a⟩
theorem jL(h:X.K=K):cU X (.builtin "isinstance") (λxs H Q=>∃x n t b,xs=[x,.ty n]/\jR K H x t/\kitOne K t (.type n)=some b/\Q (.bl b) H):=⟨yz h⟩
theorem DS:cU X (.type "int") (λxs H Q=>(∃i,xs=[.int i]/\Q (.int i) H)\/∃k,xs=[.bl k]/\Q (.int (if k then 1 else 0)) H):=⟨x8⟩
theorem i7(h:X.K=K):cU X (.type "list") (λxs H Q=>∃p ys,xs=[.ref p]/\(SqL K H p ys\/SqT K H p ys)/\∀l,H l=none->Q (.ref l) (upd H l (.lst ys))):=⟨vH h⟩
theorem aU:MtQ X "list.append" rV:=⟨qz⟩
theorem tQ:MtQ X "list.extend" rW:=⟨yj⟩
theorem vP(h:X.K=K):MtQ X "str.join" (wU K):=⟨AM h⟩
end
open PySem PySem.Spec PyProof.Rows PySem.SeqAt
section
#version
variable{h':Heap}{tk:Nat}{fp:List Addr}
theorem Inv.moved(I:Inv X pins σ H s)(c:∀b∈fp,mY X pins H b)(d:∀b o,b∉fp->s.heap.get? b=some o->h'.get? b=some o):Inv X pins σ H {s with heap:=h',toks:=tk}:=by
 have f:∀b v,H b=some v->b∉fp:=λb v e a=>by rw[(c b a).1]at e;cases e
 refine I.step (λb a=>%[(c b a).2.2.2.1,(c b a).2.1,(c b a).2.2.2.2.1|(c b a).2.2.2.2.2]) (λb o _ _ g e _=>d b o g e) (λb o _ _ g e _=>%[o.slots|d b o g e]) (λ_ _ _ _ n=>n)
  (λb o g e=>%[o|d b o g e]) (λ_ _ e=>e) (λ_ _ _ e=>e) (λb ps e=>%[#[]|by rw[e];simp]) (λm l=>?_) (λb v e=>?_) I.bare
 .have%[o,p,t,u|r]:=l;exact%[o,p,t,d _ o (λa=>(c _ a).2.1 rfl) u|r]
 .refine(I.hok b v e).stay (λj w h q=>d j w ?_ q) (λ_ q=>q) λ_ _ q=>q
  rcases h with i|i
  .exact i▸f b v e
  .exact f j _ i
theorem Inv.stood(I:Inv X pins σ H s)(J:Inv X pins σ H {s with heap:=h',toks:=tk})(c:⇑s<=a)(new:ce X.prog X.w (upd H a o) h' a o):Inv X pins σ (upd H a o) {s with heap:=h',toks:=tk}:=by
 have d:=I.hok.fresh c;refine%[J.ok,J.os,J.bare,?_,J.loc,J.cell,?_,?_,?_,?_|J.len]
 .refine%[J.base.keep,J.base.slot,λb o e n j=>?_,J.base.there,λb xs e=>?_,λb o v e=>?_|λb ps e=>?_]
  .rw[ao ((λb o e=>Zt (Zg (Zg (Zv e) I.sz) c)) b o e)];exact J.base.free b o e n j
  .rw[ao (ay (J.base.tups b xs e) d)];exact J.base.tups b xs e
  .rw[ao (ay (J.base.frzs b o v e) d)];exact J.base.frzs b o v e
  .have%[m|q]:=J.base.tbls b ps e;exact%[m|(ao (ay q d))▸q]
 .rw[ao (Zt (Zg I.lt c))];exact J.free
 .intro g f e;have%[l|q]:=I.cell g f e;rw[ao (Zt (Zg q.lt c))];exact J.freeC g f e
 .intro p h;have%[e,n|r]:=J.pin p h;refine%[e,?_|r];rw[ao (Zt (Zg (Zv (I.pin p h).1) c))];exact n
 .intro b v e;by_cases i:b=a
  .subst i;rw[aa]at e;cases e;exact new
  .rw[ao i]at e;refine(J.hok b v e).stay (λ_ _ _ q=>q) (λf q=>?_) λf xs q=>?_
   .rw[ao (ay q d)];exact q
   .rw[ao (ay q d)];exact q
end
def vQ:V->List V->Hp->VK->Prop:=λx vs H Q=>∃z y,x= .str z/\vs=[.str y]/\1<=y.length/\z.length+2<=sizeLine/\∀l,H l=none->Q (.ref l) (upd H l (.lst ((Txt.split z y).map V.str)))
theorem qK:∀ss k,aI (ss.map V.str) (strsFrom k ss)
 |[],_=> .nil
 | _::r,k=> .cons %[_|rfl] (qK r _)
theorem AT{X:Cx}:MtM X "str.split" vQ:=by
 intro pins s m H x vs v us Q I g i h;have%[z,y,rfl,rfl,n,o|q]:=h;have%[t|rfl]:=g;have%[p,rfl|j]:=i.one;have%[u|rfl]:=j;have b:(y.length==0)=false:=by simp;lia
 have l:=split_le z y;by_cases c:(decide (z.length<y.length)||decide (Builtin.Str.strKind z<Builtin.Str.strKind y))=true
 .have e:Txt.split z y=[z]:=if_pos c;rw[e]at q;exact call_meets F.slot_str_split (typeIs_str _ _ _) F.entry_str_split (F.args_str_split_2 _ _) (meets_str_split_cannot_occur z y t u c) %[.ref _,_,I.lnew (ys:=[.str z]) (.cons %[_|rfl] .nil) (by show 1<=sizeLine;decide),rfl|q _ I.fresh]
 .have d:=Bool.eq_false_iff.mpr c;by_cases f:(Builtin.Str.occurrences z y 0 z.length (z.length+1)).isEmpty=true
  .have e:Txt.split z y=[z]:=(if_neg c).trans (if_pos f);rw[e]at q;exact call_meets F.slot_str_split (typeIs_str _ _ _) F.entry_str_split (F.args_str_split_2 _ _) (meets_str_split_not_found z y t u d b f) %[.ref _,_,I.lnew (ys:=[.str z]) (.cons %[_|rfl] .nil) (by show 1<=sizeLine;decide),rfl|q _ I.fresh]
  .have e:Txt.split z y=Builtin.Str.partsBetween z _ y.length:=(if_neg c).trans (if_neg f);have a:(Builtin.Str.partsBetween z (Builtin.Str.occurrences z y 0 z.length (z.length+1)) y.length).length<=sizeLine:=by rw[<-e];lia
   refine call_meets F.slot_str_split (typeIs_str _ _ _) F.entry_str_split (F.args_str_split_2 _ _) (meets_str_split_sep z y t u d b (Bool.eq_false_iff.mpr f) ⋯ a) ?_;rw[<-e]at a ⊢;exact%[.ref _,_,I.lnew (qK _ _) (by rw[Z6];exact a),rfl|q _ I.fresh]
theorem C5{X:Cx}:MtQ X "str.split" vQ:=⟨AT⟩
noncomputable def Ite(K:ZA)(a:Addr)(xs:List V):It:=⟨λi H=>SqL K H a xs/\i<xs.length,λi H v b=>∃x T,xs[i]? =some x/\H T=none/\v= .ref T/\b=upd H T (.tup [.int i,x]),λi H=>SqL K H a xs/\xs.length<=i⟩
def ESt(e c a:Addr)(i:Nat)(h:Heap):Prop:=(∃b,IsEnum h e c i b)/\h.IsListIter c a i
theorem yD{P:Program}{K:ZA}(e it a:Addr)(xs:List V)(hne:e≠it):nL P w K (.Tuple elts kt tp) (Ite K a xs) [e,it] e (ESt e it a) where
 mem:=by simp
 obj:=λi h st b hb=>by
  have%[%[old|he],o1,e1,_|d1]:=st;simp only[Yw,X8,or_false]at hb;rcases hb with rfl|rfl
  .exact%[_,he|λv q=>nomatch q]
  .exact%[o1,e1|λv q=>by rw[d1]at q;cases q]
 keep:=λi h h' st k=>by
  have%[%[old|he],o1,e1|r1]:=st;exact%[%[old|k e ∅ _ he],o1,k it ∅ _ e1|r1]
 item:=by
  intro X hP hw hK hc i pins s σ H E I hf st hg;subst hP hw hK;have%[%[old|he]|hit]:=st;obtain⟨hq,hi⟩:SqL X.K H a xs/\i<xs.length:=hg;have%[its,rv,p|hz]:=I.list hq;have%[u,hu|ru]:=rv.get (i:=i) (x:=xs[i]) ∅;refine wpAny_pyNext_enum_item he hit p.isList (by simpa using hu) hne λh1 he1 hit1 ht1 hz1 hk1=>%[_,rfl|wpAny_letOwnedTupleGo_enum he1 λh2 he2 sb2=>?_]
  replace sb2:SameBut e h1 h2:=sb2;have elt:=Zv he;have kk:∀b o,b∉[e,it]->s.heap.get? b=some o->h2.get? b=some o:=λb o hb q=>by
   simp only[Yw,X8,or_false,not_or]at hb;exact(sb2.2 b hb.1).trans (hk1 b o hb.1 hb.2 q)
  have J:Inv X pins σ H {s with heap:=h2,toks:=s.toks+1}:=I.moved hf kk;have I2:Inv X pins σ (upd H ⇑s (.tup [.int i,xs[i]])) _:=
   I.stood J (Zi _) %[by show 2<=sizeLine;decide,[.int i s.toks,u],.cons %[_|rfl] (.cons ru .nil),_,((sb2.2 _ (X2 elt)).trans ht1),rfl,_|rfl]
  refine%[.ref ⇑s,_,I2,rfl,%[xs[i],_,by simp,I.fresh,rfl|rfl],%[%[u|he2]|?_]|λb hb=>?_]
  .have%[o,q|r]:=hit1;exact%[o,(sb2.2 _ (Ne.symm hne)).trans q|r]
  .have:b<⇑s:=by
    simp only[Yw,X8,or_false]at hb;rcases hb with rfl|rfl
    .exact elt
    .exact(by have%[o,q|_]:=hit;exact Zv q)
   rw[ao (Zt this)];exact(hf b hb).1
 done:=by
  intro X hP hw hK hc i pins s σ H E I hf st hg;subst hP hw hK;have%[%[old|he]|hit]:=st;obtain⟨hq,hi⟩:SqL X.K H a xs/\xs.length<=i:=hg;have%[its,rv,p|hz]:=I.list hq;have hl:=rv.length;refine wpAny_pyNext_enum_end (I.ok.hd hc) he hit p.isList (by simp;lia) λh1 xb=>%[rfl|I.moved hf λb o hb q=>?_]
  simp only[Yw,X8,or_false,not_or]at hb;exact xb b o hb.2 q
 self:=λA i s Q E st h=>by
  have%[%[old|he]|hit]:=st;exact wpAny_pyIter_enum he h
def DT(K:ZA)(c:TA):TI:=λd H R=>c d H λvs b=>∃a xs,vs=[.ref a]/\SqL K b a xs/\R (Ite K a xs) b
section
variable{X:Cx}{K:ZA}{pos:Pos}
theorem wX(m:X.K=K)(n:Gl X "enumerate")(o:X.mg "enumerate"=none)(r:bj a=false)(t:QA X [a] v):
 QI X (.Tuple g J L) (.Call (.Name "enumerate" p) [a] [] pos) (DT K v):=by
 subst m
 constructor
 intro pins s w H R I h;refine Call_ (jQ I n o boot_enumerate (PyProof.Rows.callWith_type1 (thP (t.h pos pins s w H _ I h) λus d vs y c z A=>?_) (aF r) rfl));have%[l,xs,e,B|q]:=A;subst e;have%[u,rfl|C]:=dE z;cases C;have%[its,M,p|N]:=c.list B;refine call_enumerate_list p.isList λO i f E G=>wpAny_pyIter_enum i %[⇑d+1,[⇑d+1,⇑d],ESt _ ⇑d l,Ite X.K l xs,y,rfl,(c.kept G),yD _ _ _ _ (Nat.succ_ne_self _),%[%[_|i]|f],λb j=>?_|q]
 simp only[Yw,X8,or_false]at j;rcases j with rfl|rfl
 .exact c.fpOk (Yg _) (c.hok.fresh (Yg _))
 .exact c.fpOk (Zi _) (c.hok.fresh (Zi _))
end
section
variable(h:Heap)(x y:Str)(t u:Tok)
noncomputable abbrev zs1:Heap:=h.push {cls:= .type (strIterType x),data:= .fields #[.str x t,.int 0 0]}
noncomputable abbrev zs2:Heap:=(zs1 h x t).push {cls:= .type (strIterType y),data:= .fields #[.str y u,.int 0 0]}
noncomputable abbrev zs3:Heap:=(zs2 h x y t u).push {cls:= .type "tuple",data:= .seq #[.ref h.objs.size,.ref (zs1 h x t).objs.size]}
noncomputable abbrev zs4:Heap:=(zs3 h x y t u).push {cls:= .type "tuple",data:= .seq #[.none,.none]}
noncomputable abbrev zs5:Heap:=(zs4 h x y t u).push {cls:= .type "zip",data:= .fields #[.none,.bool false,.bool false,.ref (zs2 h x y t u).objs.size,.ref (zs3 h x y t u).objs.size]}
end
theorem m8(x y:Str)(t u:Tok):
 Meets (Builtin.«zip.__new__» %[[.type "zip",.str x t,.str y u]|[]]) (λ_ R s=>R (.ok (.ret (.ref (zs4 s.heap x y t u).objs.size))) (s>>>zs5 s.heap x y t u)):=
 .of_wp λprog w A R s b=>by
  have%[c,g,d,tk|os]:=s;have a:=PySem.sub_zip
  wp_walk using wpAny_pyIter_strU (x:=x) (t:=t),wpAny_pyIter_strU (x:=y) (t:=u)
  exact%[_,rfl|b]
section
#where
theorem n8
 (h:∀h',IsZip h' (⇑s+4) (⇑s+2) (⇑s+3) .none->IsPair h' (⇑s+2) (.ref ⇑s) (.ref (⇑s+1))->IsPair h' (⇑s+3) .none .none->
  h'.IsStrIter ⇑s (strIterType x) x t 0->h'.IsStrIter (⇑s+1) (strIterType y) y u 0->(∀c o,s.heap.get? c=some o->h'.get? c=some o)->Q (.ref (⇑s+4)) (s>>>h')):
 ↥A (call (.type "zip") [.str x t,.str y u]) Q E s:=by
 refine callType_new F.called_zip (by decide) (F.typeCall_zip_2 _ _) (F.newCall_zip_2 _ _) (λobj=>F.args_object_init_3 obj _ _) F.entry_zip_new (m8 x y t u) ?_;have n1:(zs1 s.heap x t).objs.size=⇑s+1:=Zq ..;have a:(zs2 s.heap x y t u).objs.size=⇑s+2:=by rw[Zq,n1]
 have b:(zs3 s.heap x y t u).objs.size=⇑s+3:=by rw[Zq,a]
 have e:(zs4 s.heap x y t u).objs.size=⇑s+4:=by rw[Zq,b]
 have f:∀c o,(zs4 s.heap x y t u).get? c=some o->(zs5 s.heap x y t u).get? c=some o:=λ_ _ q=>Z7 _ q
 have g:∀c o,(zs3 s.heap x y t u).get? c=some o->(zs5 s.heap x y t u).get? c=some o:=λc o q=>f c o (Z7 _ q)
 have i:∀c o,(zs2 s.heap x y t u).get? c=some o->(zs5 s.heap x y t u).get? c=some o:=λc o q=>g c o (Z7 _ q)
 have k2:∀c o,(zs1 s.heap x t).get? c=some o->(zs5 s.heap x y t u).get? c=some o:=λc o q=>i c o (Z7 _ q)
 have k1:∀c o,s.heap.get? c=some o->(zs5 s.heap x y t u).get? c=some o:=λc o q=>k2 c o (Z7 _ q)
 have d:(zs5 s.heap x y t u).get? (zs4 s.heap x y t u).objs.size=some _:=Zj _ rfl;have j:(zs5 s.heap x y t u).get? (zs3 s.heap x y t u).objs.size=some _:=f _ _ (Zj _ rfl);have l:(zs5 s.heap x y t u).get? (zs2 s.heap x y t u).objs.size=some _:=g _ _ (Zj _ rfl);have m:=i _ _ (Zj _ rfl);show _/\_;rw[a,b,e]at d;rw[n1,a]at l;rw[b]at j;rw[n1]at m;rw[e];exact%[%[_,d|rfl]|h _ d l j %[_,(k2 _ _ (Zj _ rfl)),rfl|rfl] %[_,m,rfl|rfl] k1]
end
def DU(a:TA):TI:=λb H R=>a b H λvs c=>∃x y,vs=[.str x,.str y]/\R (Itz x y) c
section
variable{X:Cx}{K:ZA}{pos:Pos}
theorem DV(v:Gl X "zip")(w:X.mg "zip"=none)(z:bj a=false)(f:bj b=false)(A:QA X [a,b] B):
 QI X (.Tuple n M N) (.Call (.Name "zip" p) [a,b] [] pos) (DU B):=by
 constructor
 intro pins s C H R I h;refine Call_ (jQ I v w boot_zip (PyProof.Rows.callWith_type1 (thP (A.h pos pins s C H _ I h) λus c vs E g G J=>?_) (aF z) (by rw[aF f];rfl)));have%[x,y,e|q]:=J;subst e;have%[O,Q,rfl,%[t|rfl],u|rfl]:=kh G;refine n8 λT o l m hi1 hi2 L=>wpAny_pyIter_zip o ?_
 have ne:∀i j,i≠j->⇑c+i≠⇑c+j:=λi j h e=>h (Nat.add_left_cancel e)
 refine%[⇑c+4,[⇑c+4,⇑c+2,⇑c+3,⇑c+0,⇑c+1],_,Itz x y,E,rfl,(g.kept L),
  AR _ _ _ _ _ x y t u %[ne 2 4 (by decide),ne 3 4 (by decide),ne 0 4 (by decide),ne 1 4 (by decide),ne 2 3 (by decide),ne 2 0 (by decide),ne 2 1 (by decide),ne 3 0 (by decide),ne 3 1 (by decide)|ne 0 1 (by decide)],
  %[o,l,%[_,_|m],hi1|hi2],λb r=>?_|q]
 have d:⇑c<=b:=by
  simp only[Yw,X8,or_false]at r;rcases r with rfl|rfl|rfl|rfl|rfl<;> exact le_add_right _ _
 exact g.fpOk d (g.hok.fresh d)
end
inductive D where
 | non|bl (b:Bool)|int (i:Int)|str (x:Str)|lst (ds:List D)|tup (ds:List D)
section
variable{K:ZA}{H H':Hp}
theorem ah.seqT(e:ah H H')(h:SqT K H a xs):SqT K H' a xs:=by
 rcases h with(h|⟨o,h⟩)|h
 .exact .inl (.inl (e _ _ h))
 .exact .inl (.inr %[o|e _ _ h])
 .exact .inr h
end
section
#version
end
theorem vR{X:Cx}(G:X.N.Nodup)(t:X.N[i]? =some x)(J:Loc X.env.scope x)(L:X.fn x=true\/X.env.scope.names.lookup x=some .local)
 (u:swapsWith (.ListComp l [%[w,cj,p|0]] a pos) (some (.Name x A)) f.line X.env=pure true) (S:aB X a r y) (M:X.calm=true) (N:∀x,foldedSetIterable cj X.env x=pure x) (hi:PI X w cj O)
 (Q:∀c d j,PG (bT X a r c d j) w g) (T:∀c d j,PTs (bT X a r c d j) p U) (Y:∀c d j,PE (bT X a r c d j) l te):
 PS X (.Assign [.Name x A] (.ListComp l [%[w,cj,p|0]] a pos) f) (pP (qE O r.length y g U te) (jI i)):=by
 intro pins s σ H D I h;refine Z2 (wpAny_standAt ?_);show wpAny _ _ (swapsWith (.ListComp l _ a pos) (some (.Name x A)) f.line X.env>>= _) _ _ _;rw[u];refine Z2 (Z3 (Z2 (Z2 (qF S M hi Q T Y N I h λD' C H5 s6 fl m hn j k q=>?_))));have%[o,es,ep,B,hd|hr]:=id hn;have I7:=(k s6.heap (SameBut.refl _ _)).pinned (λb n=>(Xp n)▸j) λb n=>by
  rw[Xp n];exact%[o,B|λv z=>by lia]
 refine wpAny_assign_Name (nK I7 G t J (v:= .ref D') rfl (λs8 E=>%[m,%[o,es,ep,((E.pin _ (Yv _ (Yv _ (fC (mem_singleton.mpr rfl) B)))).1),hd|hr]|λh' sb=>Z3 (Z3 %[_,H5,(E.unpinned).moved (λb n=>(Xp n)▸j) λb o' n e=>(sb.2 b (λz=>n (mem_singleton.mpr z))).trans e|q])]) L)
theorem yE(h:(env.blockKind== .function&&env.kindOf x==some .local&&b.line==pos.line&&!(a.names.any λ(n,k)=>n==x&&(k== .local||k== .cell)))=true):
 swapsWith (.ListComp c gens a pos) (some (.Name x b)) l env=pure true:=by
 show(pure (env.blockKind== .function&&env.kindOf x==some _&&b.line==pos.line&&!(a.names.any _)))=pure true;rw[h]
theorem i8{X:Cx}(i:Nat)(q:X.N.Nodup)(f:X.N[i]? =some x)(r:Loc X.env.scope x)(s:X.fn x=true\/X.env.scope.names.lookup x=some .local)
 (h:(X.env.blockKind== .function&&X.env.kindOf x==some .local&&t.line==pos.line&&!(c.names.any λ(n,k)=>n==x&&(k== .local||k== .cell)))=true) (S:aB X c e j) (u:X.calm=true) (v:nV cj=false) (hi:QI X o cj w)
 (y:∀a b d,QG (bT X c e a b d) o g) (z:∀a b d,QTs (bT X c e a b d) l A) (B:∀a b d,QE (bT X c e a b d) m C):
 QS X (.Assign [.Name x t] (.ListComp m [%[o,cj,l|0]] c pos) p) (pP (qE w e.length j g A C) (jI i)):=
 ⟨vR q f r s (yE h) S u (lL v) hi.h (λa b d=>(y a b d).h) (λa b d=>(z a b d).h) (λa b d=>(B a b d).h)⟩
section
#version
end
section
variable{X:Cx}{K:ZA}
end
theorem bV:Slot "set_iterator" "__next__" "set_iterator.__next__":=
 .of (owner:="set_iterator") (n:="__next__") (by rw[typeLookup_type,builtinLookup_eq_fast];kernel_rfl) (by decide +kernel) (by decide +kernel) (by decide +kernel) (by first|exact .inl (by decide +kernel)|exact .inr ∅) (by kernel_rfl)
theorem gQ:entryFor table "set_iterator.__next__"=some Builtin.«set_iterator.__next__»:=entryFor_of_tree (by kernel_rfl)
theorem iQ(a:Value):argsOk "set_iterator.__next__" %[[a]|[]]:=by kernel_rfl
theorem pT:entryFor table "set.__iter__"=some Builtin.«frozenset.__iter__»:=entryFor_alias (id':="frozenset.__iter__") (by kernel_rfl) rfl (by decide +kernel) (by kernel_rfl)
theorem pV(t:SetTable)(n:Nat):(t.orStandIn n).led=t.led:=by unfold SetTable.orStandIn;split<;> rfl
theorem vS(t:SetTable)(a:Array _)(h:Int)(x:Value):(layNew t a h x).2.1.led=t.led:=by
 unfold layNew;cases t.freeSlot h with
 | none=>rfl
 | some p=>
   exact pV _ _
theorem sf(t:SetTable)(c:Array _)(n:Nat):(relayAll t c n).2.1.led=t.led:=by
 unfold relayAll;cases a:t.relaid _ n with
 | none=>rfl
 | some p=>
   have%[t'|d]:=p;simp only
   split
   .simp only[SetTable.relaid,SetTable.laid]at a;cases b:SetTable.layClean _ _ with
    | none=>rw[b]at a;cases a
    | some f=>rw[b]at a;injection a with a;injection a with e g;rw[<-e]
   .rfl
theorem n9(t:SetTable)(c:Array _)(n:Nat)(d:t.plain=false):(relayAll t c n).2.1.plain=false:=by
 unfold relayAll;cases a:t.relaid _ n with
 | none=>rfl
 | some p=>
   have%[t'|e]:=p;simp only
   split
   .simp only[SetTable.relaid,SetTable.laid]at a;cases b:SetTable.layClean _ _ with
    | none=>rw[b]at a;cases a
    | some g=>rw[b]at a;injection a with a;injection a with f h;exact f▸d
   .rfl
noncomputable def aS(w:World):Bool:=w.params.followText "set-order"
def br(w:World)(a:Addr)(ks:ZB)(h:Heap):Prop:=
 ∃o b c t ss,h.get? a=some o/\o.ExactSet/\o.data= .set b c t/\StrsAre (b.toList.map (·.2)) ss/\ss.Perm ks/\ks.Nodup/\(∀e∈b.toList,∃z u,e=(hashStr w z,.str z u))/\b.size<scanBound/\t.fits b.size=true/\(b.size≠0->t.plain=false)/\t.led=!aS w
theorem qL(h:∀e∈l,∃z u,e=(hashStr w z,.str z u)):ElemsOf (aO prog w) l:=λe a=>by
 have%[z,u|rfl]:=h e a;exact%[%[Sum.inr z,dU z u|rfl]|rfl]
theorem eI:∀{vs:ZF} {ss:ZB} {z:Str},StrsAre vs ss->((∃u,Value.str z u∈vs)↔z∈ss)
 | _,_,z,.nil=>by simp
 | _,_,z,.cons x t h=>by
   have b:=eI (z:=z) h
   constructor
   .rintro⟨u,a⟩;rcases mem_cons.mp a with e|e
    .injection e with c _;exact c▸Zm
    .exact Zk _ (b.mp %[u|e])
   .intro d;rcases mem_cons.mp d with e|e
    .exact e▸%[t|Zm]
    .have%[u|a]:=b.mpr e;exact%[u|Zk _ a]
theorem i9:∀{vs ws:ZF} {ss ts:ZB},StrsAre vs ss->StrsAre ws ts->StrsAre (vs++ws) (ss++ts)
 | _,_,_,_,.nil,h=>h
 | _,_,_,_,.cons x t h,h'=> .cons x t (i9 h h')
theorem bE:∀{vs:ZF} {ss:ZB},StrsAre vs ss->vs.length=ss.length
 | _,_,.nil=>rfl
 | _,_,.cons x t h=>by rw[Zr,Zr,bE h]
theorem cr(h:StrsAre vs ss)(p:ws.Perm vs):∃ts,StrsAre ws ts/\ts.Perm ss:=by
 refine%[ws.map strOf,strsAre_map ws λv a=>h.all v (p.mem_iff.mp a)|?_];have:=p.map strOf;rwa[h.strs]at this
section
#where
variable{a:Addr}
theorem br.stored{h:Heap}{o:Obj}{i b:Array (Int×Value)}{t t':SetTable}(j:h.get? a=some o)(c:o.ExactSet)(d:o.data= .set i f t)(l:StrsAre (b.toList.map (·.2)) ss)(m:ss.Perm ks)(n:ks.Nodup)
 (p:∀e∈b.toList,∃z u,e=(hashStr w z,.str z u)) (r:b.size<scanBound) (v:t'.fits b.size=true) (y:t'.plain=false) (B:t'.led=!aS w):
 (h.update a (Obj.putSet b t')).get? a=some {o with data:= .set b (f+1) t'}/\br w a ks (h.update a (Obj.putSet b t')):=by
 have g:=by
  have q:=get?_update_self (Obj.putSet b t') j (by rw[putSet_of b t' d];rfl);rwa[putSet_of b t' d]at q
 exact%[g,_,b,f+1,t',ss,g,c,rfl,l,m,n,p,r,v,λ_=>y|B]
theorem tR{g:Bool->Sem Unit}(N:∀(b:Bool) (h:Shared) (q:Unit->Shared->Prop),q () h->↥A (g b) q E h){m:Bool}{R:Option Bool->Shared->Prop}(r:s.heap.get? a=some o)(i:o.ExactSet)(v:o.data= .set es ep t)
 (y:StrsAre (c.toList.map (·.2)) ss) (B:ss.Perm ks) (C:ks.Nodup) (G:∀e∈c.toList,∃z u,e=(hashStr w z,.str z u)) (j:c.size<scanBound) (O:d.fits c.size=true) (H:d.plain=false) (I:d.led=!aS w)
 (J:∀h',SameBut a s.heap h'->br w a ks h'->R (some true) (s>>>h')):
 ↥A (do
  storeSet a c d
  if(!m&&d.tooFull)=true then do
   g (relayAll d c (SetTable.grown c.size)).2.2
   storeSet a (relayAll d c (SetTable.grown c.size)).1 (relayAll d c (SetTable.grown c.size)).2.1
   pure (some true)
  else pure (some true)) R E s:=by
 have%[g1|Q]:=br.stored r i v y B C G j O H I;have M:=SameBut.update s.heap a (Obj.putSet c d);refine Z2 (wpAny_storeSet_of r v ?_ (fits_of_scanBound j))
 split
 .have p:=relayAll_perm d c (SetTable.grown c.size);have f:=relayAll_fits d c (SetTable.grown c.size);have l:=sf d c (SetTable.grown c.size);have pl:=n9 d c (SetTable.grown c.size) H
  generalize relayAll d c _=L at p f l pl ⊢
  have%[n,t3|gv]:=L;have z:n.size=c.size:=by rw[<-Zb,p.length_eq,Zb]
  have%[ts,T|U]:=cr y (p.map _);exact Z2 (N _ _ _ (Z2 (wpAny_storeSet_of g1 rfl (Z3 (J _ (M.trans (SameBut.update _ a _)) (br.stored g1 i rfl T (U.trans B) C (λe Y=>G e (p.mem_iff.mp Y)) (by rw[z];exact j) f pl (l.trans I)).2)) (fits_of_scanBound (by rw[z];exact j)))))
 .exact Z3 (J _ M Q)
theorem kD{ks:ZB}(hS:br w a ks s.heap)(v:ks.length+1<scanBound)
 (hQ:∀h' b,SameBut a s.heap h'->br w a (if z∈ks then ks else ks++[z]) h'->Q b (s>>>h')):↥A (setAddHashed a (.str z tk) (hashStr w z)) Q E s:=by
 have%[o,c,ep,t,ss,G,B,H,h,hp,I,l,hb,hf,ac|d]:=hS;have hn:c.size=ks.length:=by
  have q:=bE h;rw[Z6,Zb,hp.length_eq]at q;exact q
 have hE:ElemsOf (aO prog w) c.toList:=qL l;have J:(aO prog w).is (Sum.inr z) (.str z tk)=true:=dU z tk;unfold setAddHashed setAddHashedIn;refine wpAny_holding (Z2 (wpAny_setState_of G H hf ?_));dsimp only;rw[byScan_of (knd:=aO prog w) rfl hb hE];simp only[↓reduceIte];unfold setAddByScan;refine Z2 (Z2 (wpAny_rule (Z2 (wpAny_setScan_of J G H hf hE ?_))));have M:(∃e∈c.toList,(aO prog w).is (Sum.inr z) e.2=true)↔z∈ks:=by
  rw[<-hp.mem_iff,<-eI h]
  constructor
  .rintro⟨e,m,q⟩;have%[y,u|rfl]:=l e m;have q:jH (Sum.inr z) (Value.str y u)=true:=q;rcases bd q with⟨i,t',q1,n⟩|⟨y',t',q1,n⟩
   .cases n
   .cases q1;exact%[u|Xr ⟨_,m,by injection n with e1 _;rw[e1]⟩]
  .rintro⟨u,hu⟩;have%[e,m|q]:=Xq hu;exact%[e,m|q▸dU z u]
 cases hr:List.findIdx? _ c.toList with
 | some j=>
   have%[hj,ae|_]:=List.findIdx?_eq_some_iff_getElem.mp hr;have hz:=M.mp %[c.toList[j],Ye hj|ae];have q:=hQ s.heap false (SameBut.refl a s.heap) ((if_pos hz)▸%[o,c,ep,t,ss,G,B,H,h,hp,I,l,hb,hf,ac|d]);exact Z3 (Z3 q)
 | none=>
   have hz:z∉ks:=λq=>by
    have%[e,m|n]:=M.mpr q;have:=List.findIdx?_eq_none_iff.mp hr e m;rw[n]at this;cases this
   rw[if_neg hz]at hQ;have N:=layNew_perm t c (hashStr w z) (.str z tk);have lf:=layNew_fits t c (hashStr w z) (.str z tk);have ll:=vS t c (hashStr w z) (.str z tk)
   generalize hL:layNew t c _ _=L at N lf ll
   have%[C,t1,aj|ai]:=L;rw[toList_push]at N;have f:∀b g Q',Q' () g->↥A (match b with|true=>rule "set.scan.the-table-gave-way"|false=>pure ()) Q' E g:=λb g Q' q=>by
    cases b
    .exact Z3 q
    .exact wpAny_rule q
   have p:∀e∈C.toList,∃z u,e=(hashStr w z,.str z u):=λe m=>by
    rcases Xo (N.mem_iff.mp m)with q|q
    .exact l e q
    .rw[Xp q];exact%[z,tk|rfl]
   have q1:StrsAre ((c.toList++[(hashStr w z,Value.str z tk)]).map (·.2)) (ss++[z]):=by
    rw[Zd];exact i9 h (.cons z tk .nil)
   have%[ts,n|q3]:=cr q1 (N.map _);have O:=q3.trans (hp.append_right _);have r:=nA I hz;have ag:C.size=c.size+1:=by rw[<-Zb,N.length_eq,Z9,Zb];rfl
   have T:C.size<scanBound:=by rw[ag,hn];exact v
   have fin:∀h',SameBut a s.heap h'->br w a _ h'->↥A _ Q E _:=λh' U Y=>Z3 (hQ h' true U Y)
   refine Z2 (f _ _ _ ?_);cases ab:t1.plain with
   | true=>
     exact Z2 (Z3 (tR f G B H n O r p T (SetTable.fits_plain_off lf) rfl (ll.trans d) λh' U Y=>fin h' U Y))
   | false=>
     exact tR f G B H n O r p T lf ab (ll.trans d) λh' U Y=>fin h' U Y
theorem tT(d:br w a ks s.heap)(c:ks.length+1<scanBound)
 (e:∀h' b,SameBut a s.heap h'->br w a (if z∈ks then ks else ks++[z]) h'->Q b {s with heap:=h',toks:=s.toks+1}):↥A (setAdd a (.str z tk)) Q E s:=by
 exact wpAny_holding (Z2 (wpAny_pyHash_str (kD d c e)))
end
noncomputable def m9(ks:ZB)(z:Str):ZB:=if z∈ks then ks else ks++[z]
noncomputable def aL(ss:ZB):ZB:=ss.foldl m9 []
theorem AU(ks:ZB)(z:Str):(m9 ks z).length<=ks.length+1:=by
 unfold m9;split
 .lia
 .exact Z9▸Zi _
theorem AV:y∈m9 ks z↔y∈ks\/y=z:=by
 unfold m9;by_cases h:z∈ks
 .rw[if_pos h]
  simp_all
 .rw[if_neg h,Yt,Yz]
theorem vT(h:ks.Nodup):(m9 ks z).Nodup:=by
 unfold m9;by_cases a:z∈ks
 .rw[if_pos a];exact h
 .rw[if_neg a];exact nA h a
theorem tU:∀{ss ks:ZB} {y:Str},y∈ss.foldl m9 ks↔y∈ks\/y∈ss
 |[],ks,y=>by simp
 | z::r,ks,y=>by
   rw[Y8,tU,AV,Yw]
   grind
theorem oa:∀{ss ks:ZB},ks.Nodup->(ss.foldl m9 ks).Nodup
 |[],_,h=>h
 | z::r,ks,h=>by
   rw[Y8];exact oa (vT h)
theorem bA:y∈aL ss↔y∈ss:=by unfold aL;rw[tU];simp
theorem fF(ss:ZB):(aL ss).Nodup:=oa X6
theorem tV:∀(ss ks:ZB),(ss.foldl m9 ks).length<=ks.length+ss.length
 |[],ks=>by simp
 | z::r,ks=>by
   have a:=tV r (m9 ks z);have b:=AU ks z;rw[Y8,Zr]
   lia
theorem br.keep(S:br w a ks h)(k:∀o,h.get? a=some o->h'.get? a=some o):br w a ks h':=by
 have%[o,b,c,t,ss,d|r]:=S;exact%[o,b,c,t,ss,k o d|r]
theorem tW(val:Nat->Str)(i:Nat):aL ((List.range (i+1)).map val)=m9 (aL ((List.range i).map val)) (val i):=by
 unfold aL;rw[range_succ,Zd,List.foldl_append];rfl
section
variable{prog:Program}{w:World}{A:Around}{R:Result->Shared->Prop}{I:Addr}{fp wr:List Addr}{G:Array GenState->Array GenState->Prop}{n:Nat}{P:Nat->Value->Prop}{St:Nat->Shared->Prop}
theorem pW(W:WalksS prog w A.in1 I fp wr G n P St)(S:Addr)(c:S∉fp)(val:Nat->Str)(d:∀i v,P i v->∃t,v= .str (val i) t)(a:n+1<scanBound):
 ∀(k i:Nat) (s:Shared),n-i=k->i<=n->St i s->br w S (aL ((List.range i).map val)) s.heap->
  (∀s',Moved (S::wr) G s s'->br w S (aL ((List.range n).map val)) s'.heap->R (.ok (.ret .none)) s')->codeAny (model prog w) A (.builtin "set.update.loop" %[[.ref S,.ref I]|[]]) R s:=by
 have out:S∉wr:=λh=>c (W.sub _ h)
 have more:∀b∈wr,b∈S::wr:=λb a=>Zk _ a
 intro k
 induction k with
 | zero=>
   intro i s u hi st j fin;have e:i=n:=by lia
   subst e;refine codeAny_builtin F.entry_set_update_loop ?_;rw[Around.under_plainId F.plain_set_update_loop _];show wpAny _ A.in1 (pyNext (.ref I)>>= _) _ _ s;refine Z2 (W.done s _ _ st λf g=>?_);show wpAny _ A.in1 (ret Value.none) _ _ f;exact Z3 (fin f (g.mono more) (j.keep λo e=>g.heap S o out e))
 | succ k y=>
   intro i s u hi st j fin;have lt:i<n:=by lia
   refine codeAny_builtin F.entry_set_update_loop ?_;rw[Around.under_plainId F.plain_set_update_loop _];show wpAny _ A.in1 (pyNext (.ref I)>>= _) _ _ s;refine Z2 (W.item i s _ _ lt st λv f pv l g=>?_);have%[t|rfl]:=d i v pv;have room:(aL ((List.range i).map val)).length+1<scanBound:=by
    have q:=tV ((List.range i).map val) [];rw[Z6,Yk]at q;unfold aL;simp only[length_nil,zero_add]at q
    lia
   refine Z2 (wpAny_holding (tT (j.keep (h':=f.heap) λo e=>g.heap S o out e) room λC b r m=>Z3 %[plainId_quiet F.plain_set_update_loop _|y (i+1) _ ⋯ lt (W.frame _ f _ _ l (Yg _) λb a o e=>?_) (by rw[tW];exact m) λz B p=>?_]))
   .rw[r.2 b (λq:b=S=>c (q▸a))];exact e
   .refine fin z (Moved.trans W.gtrans ((g.mono more).then_heap (Yg _) λb o a e=>?_) B) p;rw[r.2 b (λq:b=S=>a (q▸Zm))];exact e
end
section
#where
noncomputable abbrev aT(w:World):Obj:={cls:= .type "set",dict:=none,data:= .set #[] 0 (.fresh 0 0 (!aS w))}
theorem tX(a:Value)(h:Q₁ (.ref ⇑s) (s>>>s.heap.push (aT w))):
 codeAny (model prog w) A (.call (.builtin "set.__new__") %[[.type "set",a]|[]]) (wants Q₁ E) s:=by
 refine codeAny_of_tree ?_;show wpAny _ A.in1 _ _ _ s;refine Z2 (wpAny_of_eq (PySem.F.newCall_set_1 a) (Z3 %[plainId_quiet PySem.F.plain_set_new _|codeAny_builtin PySem.F.entry_set_new ?_]));unfold Builtin.«set.__new__» Builtin.Frozenset.newClass;have b:=sub_set_self;have%[c,g,d,tk|os]:=s;dsimp only
 wp_walk
 refine wpAny_askSetting (Z3 ?_);dsimp only;simp only[newObj];exact Z2 (wpAny_alloc (Z3 (Z3 h)))
theorem br.empty(e:h.get? a=some (aT w)):br w a [] h:=
 %[_,#[],0,_,[],e,%[rfl,rfl|rfl],rfl,.nil,.nil,X6,λe b=>by simp at b,by decide,rfl,λq=>absurd rfl q|rfl]
theorem tY:∀{vs:ZF} {ss:ZB},StrsAre vs ss->∀(i:Nat) v,vs[i]? =some v->∃t,v= .str (ss.getD i (Str.ofString "")) t
 | _,_,.nil,i,v,h=>by simp at h
 | _,_,.cons x t a,0,v,h=>by simp at h;exact%[t|by rw[<-h];rfl]
 | _,_,.cons x t a,i+1,v,h=>by
   have%[u|e]:=tY a i v (h);exact%[u|by rw[e];rfl]
theorem vU(ss:ZB):(List.range ss.length).map (λi=>ss.getD i (Str.ofString ""))=ss:=by
 apply ext_getElem
 .simp
 .intro i a b
  simp_all
theorem pX(hh:A.handled=none)(hl:s.heap.IsList l a)(hi:StrsAre a.toList ss)(hb:a.size+1<scanBound)
 (hQ:∀(h':Heap) (tk:Nat),br w ⇑s (aL ss) h'->(∀b o,s.heap.get? b=some o->h'.get? b=some o)->Q (.ref ⇑s) {s with heap:=h',toks:=tk}):
 ↥A (call (.type "set") [.ref l]) Q E s:=by
 have%[c,tl|T]:=called_set.mro;have B:=called_set.made;have U:=called_set.sub;refine wpAny_call (codeAny_of_tree ?_);show wpAny _ _ (callAny (.type "set") _) _ _ _;refine Z3 %[Code.quiet_builtin _ (by decide +kernel)|codeAny_builtin F.entry_type_call ?_];rw[Around.under_plain (weight_type_call_type "set" [.ref l] []) rfl];have ac:=called_set.notType;have ae:=called_set.canCreate;have ag:=PySem.F.typeCall_set_1 (.ref l)
 repeat any_goals first|assumption|wp_step
 refine codeAny_mono (tX (.ref l) (E:=E) (Q₁:=λobj g=>obj= .ref ⇑s/\g=(s>>>s.heap.push (aT w))) %[rfl|rfl]) λr g C=>?_
 cases r with
 | error e=>exact C
 | ok fl=>
   cases fl with
   | ret obj=>
     have%[rfl|rfl]:=C;have Y:(s.heap.push (aT w)).get? ⇑s=some (aT w):=Zj _ rfl;have tS:Shared.TypeIs (s>>>s.heap.push (aT w)) (.ref ⇑s) "set":=%[_,Y|rfl]
     have ai:=called_set.init.lookup;have aj:=called_set.init.bind (.ref ⇑s)
     repeat any_goals first|assumption|wp_step
     refine codeAny_mono (codeAny_call_builtin (R:=wants (λr h=>r= .none/\∃h' tk,h={s with heap:=h',toks:=tk}/\br w ⇑s (aL ss) h'/\(∀b o,s.heap.get? b=some o->h'.get? b=some o)) E) called_set.init.plain F.entry_set_init (check_set_init_1 tS ?_)) λn h d=>?_
     .have%[ol,gl,cl,nl|dl]:=hl;have%[ab,j,G|f]:=ol;simp only at cl dl;subst cl;subst dl;have H:(s.heap.push (aT w)).get? l=some {cls:= .type "list",dict:=j,data:= .seq a nl,slots:=f}:=Z7 _ gl;have al:=PySem.F.sub_list_set;have an:=PySem.F.sub_list_frozenset;have as:(Value.type "list"==Value.type "dict")=false:=by decide
      have p:(s.heap.push (aT w)).IsList l a:=%[_,H,rfl,nl|rfl]
      unfold Builtin.«set.__init__»;unfold noKeywords;unfold Builtin.Frozenset.updateFrom
      generalize I:pyIter=PI
      wp_walk
      subst I;refine wpAny_pyIter_list p (Z2 (wpAny_runValue ?_));have q:l<⇑s:=Zv gl;have h3:A.in1.in1.in1.handled=none:=by simp[hh]
      have J:(s.heap.push (aT w)).objs.size=⇑s+1:=Zq ..;have L:l≠(s.heap.push (aT w)).objs.size:=by rw[J];exact Zt (Yo q)
      have M:⇑s∉[(s.heap.push (aT w)).objs.size,l]:=by
       rw[J];simp only[Yw,X8,or_false,not_or];exact%[Zt (Yp _)|X2 q]
      have t:a.size=ss.length:=by rw[<-Zb];exact bE hi
      refine pW ((Walks.list h3 _ l L a).toS) ⇑s M (λi=>ss.getD i (Str.ofString "")) (λi v hv=>tY hi i v (by rw[getElem?_toList];exact hv)) hb (a.size-0) 0 _ ⋯ (Xf _)
       %[%[_,Zj _ rfl,rfl|rfl]|p.push _] (br.empty (Z7 _ Y)) ?_
      intro s3 y z;rw[t,vU]at z;have%[h',g',d',N|O]:=s3;have eg:g'=s.gens:=y.gens;have ed:d'=s.drawn:=y.drawn;have eo:O=s.os:=y.os;subst eg;subst ed;subst eo;refine Z3 ?_;show wpAny _ _ (ret Value.none) _ _ _;refine Z3 %[rfl,h',N,rfl,z|λb o e=>?_];have u:=Zv e;refine y.heap b o ?_ (Z7 _ (Z7 _ e));simp only[Yw,X8,or_false,not_or,J];exact%[Zt u|Zt (Yo u)]
     .cases n with
      | error e=>exact d
      | ok m=>
        cases m with
        | ret r=>
          have%[rfl,h',tk,rfl,z|k3]:=d
          repeat any_goals first|assumption|wp_step
          exact hQ _ _ z k3
        | _=>exact d.elim
   | _=>exact C.elim
end
section
variable{X:Cx}{K:ZA}
noncomputable def jU(w:World)(a:Addr)(ks:ZB):HO:= .ext (br w a ks)
theorem AW(b:X.calm=true):cA X (.type "set") (λxs H Q=>∃p ss,xs=[.ref p]/\SqL X.K H p (ss.map V.str)/\ss.length<=4000/\∀l,H l=none->Q (.ref l) (upd H l (jU X.w l (aL ss)))):=by
 intro pins s j H xs us Q I r h;have%[p,ss,rfl,c,m|q]:=h;have%[u,rfl|d]:=dE r;cases d;have%[its,e,pl|n]:=I.list c;have a:=ic e;have f:its.toArray.size=ss.length:=bE a;refine pX (I.ok.hd b) pl.isList (a) (by rw[f];show ss.length+1<4096;lia) λh' tk S k=>%[.ref ⇑s,_,I.laid (o:=jU X.w ⇑s _) k (Zi _) %[S,?_|λt v g k1=>g.keep k1],rfl|q _ I.fresh]
 have%[o,_,_,_,_,i|_]:=S;exact%[o|i]
theorem AX(h:X.K=K)(hw:X.w=w)(a:X.calm=true):cU X (.type "set") (λxs H Q=>∃p ss,xs=[.ref p]/\SqL K H p (ss.map V.str)/\ss.length<=4000/\∀l,H l=none->Q (.ref l) (upd H l (jU w l (aL ss)))):=by subst h;subst hw;exact⟨AW a⟩
end
theorem ip:∀{xs:List a} {i:Nat} (h:i<xs.length),(xs[i]::xs.eraseIdx i).Perm xs
 | x::r,0,_=>by simp
 | x::r,i+1,h=>by
   exact(List.Perm.swap _ _ _).trans (.cons _ (ip (by simpa using h)))
section
#where
theorem yF(a:n≠0)(h:∀i d,i<n->Q i {s with drawn:=d}):↥A (choose b n) Q E s:=by
 intro c p _;exact%[a|h _ _ (mod_lt _ (Nat.pos_of_ne_zero a))]
theorem si:∀(n:Nat) (xs:List b) (s:Shared) (Q:List b->Shared->Prop),xs.length<=n->(∀ys d,ys.Perm xs->Q ys {s with drawn:=d})->↥A (drawOrder n xs) Q E s
 | 0,xs,s,Q,a,h=>by
   have e:=length_eq_zero_iff.mp (le_zero.mp a);subst e;exact Z3 (h [] s.drawn .nil)
 | n+1,[],s,Q,a,h=>Z3 (h [] s.drawn .nil)
 | n+1,x::r,s,Q,a,h=>by
   unfold drawOrder;refine Z2 (yF ∅ λi d hi=>?_);rw[(Z4 hi)];exact Z2 (si n _ _ _ (by rw[List.length_eraseIdx];simp only[hi];simp_all) λys c p=>Z3 (h _ c ((List.Perm.cons _ p).trans (ip hi))))
end
theorem wY(next:Nat->Nat):∀(fuel k:Nat) (left:List a) (out:Array a),left.length<=fuel->(pickOrder.go next fuel k left out).toList.Perm (out.toList++left)
 | 0,k,left,out,h=>by
   have e:=length_eq_zero_iff.mp (le_zero.mp h);subst e;rw[Zz];exact .refl _
 | fuel+1,k,[],out,h=>by
   unfold pickOrder.go;simp
 | fuel+1,k,x::r,out,h=>by
   unfold pickOrder.go;have hi:next k%(x::r).length<(x::r).length:=mod_lt _ ∅;rw[Z4 hi];refine(wY next fuel _ _ _ (by rw[List.length_eraseIdx];simp_all)).trans ?_;rw[toList_push,Ze];exact(List.Perm.refl _).append (ip hi)
theorem qM(next:Nat->Nat)(xs:Array a):(pickOrder next xs).toList.Perm xs.toList:=by
 have:=wY next xs.size 0 xs.toList #[] ∅;simpa [pickOrder]using this
theorem qN(p j:Nat):SetTable.below #[p] j=if p<j then 1 else 0:=by
 unfold SetTable.below;simp only[Zp,Zr];unfold SetTable.below.go;simp
 split<;>(rfl)
theorem vV(j:Nat):SetTable.below #[] j=0:=rfl
theorem qO{a:Type}{xs:Array a}(h:xs.size=1):∃p,xs= #[p]:=by
 obtain⟨l⟩:=xs
 match l,h with
 |[p],_=>exact%[p|rfl]
def SIt(w:World)(I S T:Addr)(o:Obj)(b:Array (Int×Value))(c:Nat)(t:SetTable)(a:ZF)(i:Nat)(h:Heap):Prop:=
 h.get? S=some o/\∃first,h.get? I=some {cls:= .type "set_iterator",dict:=none,data:= .fields #[first,rawInt i,.ref S,rawInt b.size,rawInt c],slots:= #[]}/\
  ((aS w=true/\first=rawInt 0/\a=(pickOrder (w.params.setOrder S c) b).toList.map (·.2))\/
   (aS w=false/\first= .ref T/\T≠I/\∃ps:List Nat,h.get? T=some {cls:= .type "tuple",data:= .seq (ps.map λ(i:Nat)=>rawInt i).toArray}/\ps.length=a.length/\∀(j p:Nat),ps[j]? =some p->∃e,b[p]? =some e/\a[j]? =some e.2)\/
   (aS w=false/\b.size<=1/\a=b.toList.map (·.2)/\(i=0->first=rawInt 0)/\(i=1->∃p:Nat,t.place[0]? =some p/\first=rawInt (p+1))))
theorem SIt.is{w:World}{I S T:Addr}{o:Obj}{b:Array _}{c:Nat}{t:SetTable}{a:ZF}{i:Nat}{s:Shared}(h:SIt w I S T o b c t a i s.heap):s.TypeIs (.ref I) "set_iterator":=by
 have%[_,f,d|_]:=h;exact%[_,d|rfl]
section
#where
variable{I S T:Addr}{o:Obj}{es:Array (Int×Value)}{ep:Nat}{t:SetTable}{ord:ZF}
theorem vW{i:Nat}{v:Value}{Q:Option Value->Shared->Prop}(y:o.data= .set es ep t)(h:t.fits es.size=true)(z:t.led=!aS w)(j:S≠I)(st:SIt w I S T o es ep t ord i s.heap)(f:ord[i]? =some v)(hn:ord.length=es.size)
 (U:∀h',SIt w I S T o es ep t ord (i+1) h'->SameBut I s.heap h'->Q (some v) (s>>>h')):↥A (pyNext (.ref I)) Q E s:=by
 have hT:=st.is;have%[g,first,N|m]:=st;unfold pyNext;refine Z2 (wpAny_attempt (wpAny_callSpecial?_slot (name:=Str.ofString "__next__") hT bV (wpAny_call_entry bV hT gQ ?_ (iQ _))));unfold Builtin.«set_iterator.__next__»;refine Z2 (m:=slotArgs _ _ _) (Z3 ?_);refine Z2 (wpAny_fieldsOf N rfl ?_);show wpAny _ _ (setEntries S>>= _) _ _ _;refine Z2 (wpAny_setEntries_of g y h ?_);rw[if_neg ∅];rcases m with⟨c,rfl,B⟩|⟨c,rfl,C,ps,G,Y,H⟩|⟨c,h1,B,f0,f1⟩
 .show wpAny _ _ (setNext S 0 i ep>>= _) _ _ _;refine Z2 ?_;unfold setNext;refine Z2 (wpAny_setState_of g y h ?_);refine Z2 (Z2 (wpAny_askSetting (Z3 ?_)));show wpAny _ _ (if aS w=true then _ else _) _ _ _;rw[if_pos c];dsimp only;rw[if_neg (show ¬ ((ep != ep)=true) by simp)];refine Z2 ?_;unfold setWalk;refine Z2 (wpAny_setState_of g y h ?_);refine Z2 (Z2 (wpAny_askSetting (Z3 ?_)));show wpAny _ _ (if aS w=true then _ else _) _ _ _;rw[if_pos c];refine Z2 (wpAny_askSetting (Z3 (Z3 ?_)));have d:(pickOrder (w.params.setOrder S ep) es)[i]?.map (·.2)=some v:=by
   rw[B]at f;simpa using f
  cases u:(pickOrder (w.params.setOrder S ep) es)[i]? with
  | none=>rw[u]at d;cases d
  | some e=>
    rw[u]at d;have J:e.2=v:=by simpa using d
    show wpAny _ _ (match((pickOrder (w.params.setOrder S ep) es)[i]?).map λe=>(e.2,0)with|some (x,next)=>_|none=>_) _ _ _;rw[u];refine Z2 (wpAny_setField_rec N ∅ λg1 b a=>?_);refine Z2 (wpAny_setField_rec (s:=(s>>>g1)) b ∅ λg2 l n=>?_);rw[J];have L:SameBut I s.heap g2:=a.trans n;refine Z3 %[v,rfl|Z3 (U g2 %[(L.2 S j).trans g,_,l|.inl %[c,rfl|B]] L)]
 .refine Z2 (wpAny_seqItems G rfl ?_);have hi:i<ord.length:=(Xn f).1;have ab:i<ps.length:=by lia
  have%[e,O|ac]:=H i ps[i] ∅;have J:e.2=v:=by rw[ac]at f;exact Za f
  have M:(ps.map λ(i:Nat)=>rawInt i).toArray[(i:Int).toNat]? =some (rawInt ps[i]):=by simp[ab]
  dsimp only;rw[M];show wpAny _ _ (setNextDrawn S ps[i] ep>>= _) _ _ _;refine Z2 ?_;unfold setNextDrawn;refine Z2 (wpAny_setState_of g y h ?_);dsimp only;rw[if_neg (show ¬ ((ep != ep)=true) by simp),O];refine Z3 ?_;refine Z2 (wpAny_setField_rec N ∅ λg1 b a=>?_);rw[J];exact Z3 %[v,rfl|Z3 (U g1 %[(a.2 S j).trans g,_,b|.inr (.inl %[c,rfl,C,ps,(a.2 T C).trans G,Y|H])] a)]
 .have hi:i<ord.length:=(Xn f).1;have i0:i=0:=by lia
  subst i0;have f0:=f0 rfl;subst f0;have e1:es.size=1:=by lia
  have pz:t.place.size=1:=by
   simp only[SetTable.fits,Zx,beq_iff_eq,decide_eq_true_eq]at h;rw[h.1,e1]
  have%[p|u]:=qO pz;obtain⟨e,O⟩:∃e,es[0]? =some e:=%[es[0]|by simp]
  have J:e.2=v:=by
   rw[B]at f;have:(es[0]?).map (·.2)=some v:=by simpa using f
   rw[O]at this;simpa using this
  show wpAny _ _ (setNext S 0 0 ep>>= _) _ _ _;refine Z2 ?_;unfold setNext;refine Z2 (wpAny_setState_of g y h ?_);show wpAny _ _ (if aS w=true then _ else _) _ _ _;rw[if_neg (by rw[c];decide)];dsimp only
  split
  .rename_i r
   change (!t.plain&&decide (es.size>1))=true at r;rw[e1]at r;simp at r
  .refine Z2 (m:=(if(!t.led&&!es.isEmpty)=true then unsupported "set:maker-not-led" else pure ())) ?_;rw[z,c];refine Z3 ?_;rw[u,qN];simp only[X7,↓reduceIte,O];refine Z3 ?_;show wpAny _ _ (setField (.ref I) 0 (rawInt ((p+1:Nat):Int))>>= _) _ _ _;refine Z2 (wpAny_setField_rec N ∅ λg1 b a=>Z2 (wpAny_setField_rec (s:=(s>>>g1)) b ∅ λg2 l n=>?_));rw[J];have L:SameBut I s.heap g2:=a.trans n;exact Z3 %[v,rfl|Z3 (U g2 %[(L.2 S j).trans g,_,l|.inr (.inr %[c,⋯,B,λq=>by lia|λ_=>%[p,by rw[u];rfl|rfl]])] L)]
theorem tZ{c:Type}{Q:c->Shared->Prop}(d:A.handled=none)(f:∀h' e,(∀b o,s.heap.get? b=some o->h'.get? b=some o)->(∃o,h'.get? e=some o/\o.cls= .type "StopIteration")->E (.ref e) (s>>>h')):
 ↥A (newExc (.type "StopIteration") []>>= λe=>(raiseNew e)) Q E s:=by
 refine Z2 ?_;refine Z2 (wpAny_newObj_type ?_ (by size_fits));refine Z2 (wpAny_of_eq (a:=Value.none) (by first|rfl|lia) (wpAny_newObj_type (wpAny_raiseNew_none d (f _ _ (λb o e=>Z7 _ (Z7 _ e)) %[_,Zj _ rfl|rfl])) (by size_fits)))
theorem yG{i:Nat}{Q:Option Value->Shared->Prop}(hh:A.handled=none)(u:o.data= .set es ep t)(h:t.fits es.size=true)(l:t.led=!aS w)(st:SIt w I S T o es ep t ord i s.heap)(hi:i=ord.length)(hn:ord.length=es.size)
 (hQ:∀h',(∀b o,b≠I->s.heap.get? b=some o->h'.get? b=some o)->Q none (s>>>h')):↥A (pyNext (.ref I)) Q E s:=by
 have U:=st.is;have%[y,first,z|m]:=st;have G:A.in1.handled=none:=hh;have fin:∀(g:Heap) (Y:Fin->Shared->Prop),SameBut I s.heap g->↥A.in1 (newExc (.type "StopIteration") []>>= λe=>(raiseNew e:Sem Fin)) Y (λe s'=>↥A (do
  if(<-isInstance e (.type "StopIteration"))then pure none else throw e) Q E s') (s>>>g):=λg Y sb=>by
  refine tZ G λh' e k ⟨oe,he,hc⟩=>?_
  refine Z2 (wpAny_isInstance (T:="StopIteration") (b:=true) %[oe,he|hc] isSubtype_stop (Z3 (hQ h' λb o n q=>k b o ((sb.2 b n).trans q))))
 unfold pyNext;refine Z2 (wpAny_attempt (wpAny_callSpecial?_slot (name:=Str.ofString "__next__") U bV (wpAny_call_entry bV U gQ ?_ (iQ _))));unfold Builtin.«set_iterator.__next__»;refine Z2 (m:=slotArgs _ _ _) (Z3 ?_);refine Z2 (wpAny_fieldsOf z rfl ?_);show wpAny _ _ (setEntries S>>= _) _ _ _;refine Z2 (wpAny_setEntries_of y u h ?_);rw[if_neg ∅];rcases m with⟨j,rfl,eo⟩|⟨j,rfl,ab,ps,H,ac,ae⟩|⟨j,h1,eo,J,L⟩
 .show wpAny _ _ (setNext S 0 i ep>>= _) _ _ _;refine Z2 ?_;unfold setNext;refine Z2 (wpAny_setState_of y u h ?_);refine Z2 (Z2 (wpAny_askSetting (Z3 ?_)));show wpAny _ _ (if aS w=true then _ else _) _ _ _;rw[if_pos j];dsimp only;rw[if_neg (show ¬ ((ep != ep)=true) by simp)];refine Z2 ?_;unfold setWalk;refine Z2 (wpAny_setState_of y u h (Z2 (Z2 (wpAny_askSetting (Z3 ?_)))));show wpAny _ _ (if aS w=true then _ else _) _ _ _;rw[if_pos j];refine Z2 (wpAny_askSetting (Z3 (Z3 ?_)));have B:(pickOrder (w.params.setOrder S ep) es)[i]? =none:=by
   rw[Array.getElem?_eq_none_iff,hi,eo,Z6,Zb];exact Zi _
  show wpAny _ _ (match((pickOrder (w.params.setOrder S ep) es)[i]?).map λe=>(e.2,0)with|some (x,next)=>_|none=>_) _ _ _;rw[B];show wpAny _ _ (setField (.ref I) 2 .none>>= _) _ _ _;exact Z2 (wpAny_setField_rec z ∅ λg1 _ c=>fin g1 _ c)
 .show wpAny _ _ (seqItems? (.ref T)>>= _) _ _ _;refine Z2 (wpAny_seqItems H rfl ?_);have r:(ps.map λ(i:Nat)=>rawInt i).toArray[(i:Int).toNat]? =none:=by simp;lia
  dsimp only;rw[r];exact Z2 (wpAny_setField_rec z ∅ λg1 M c=>Z2 (wpAny_setField_rec M ∅ λg2 _ N=>fin g2 _ (c.trans N)))
 .have done:∀slot:Nat,first=rawInt slot->SetTable.below t.place slot=es.size->↥A.in1 (setNext S slot i ep) (λa s'=>a=none/\s'=s) (λ_ _=>False) s:=by
   intro slot _ n;unfold setNext;refine Z2 (wpAny_setState_of y u h ?_);show wpAny _ _ (if aS w=true then _ else _) _ _ _;rw[if_neg (by rw[j];decide)];dsimp only
   split
   .rename_i d
    change (!t.plain&&decide (es.size>1))=true at d;have:decide (es.size>1)=false:=Zh ⋯;rw[this,Bool.and_false]at d;cases d
   .refine Z2 (m:=(if(!t.led&&!es.isEmpty)=true then unsupported "set:maker-not-led" else pure ())) ?_;rw[l,j];refine Z3 ?_;rw[n,show es[es.size]? =none by simp];exact Z3 %[rfl|rfl]
  have go:∀slot:Nat,first=rawInt slot->SetTable.below t.place slot=es.size->↥A.in1 (setNext S slot i ep>>= λa=>match a with
   | some (x,next)=>(do
     setField (.ref I) 0 (rawInt ↑next)
     setField (.ref I) 1 (rawInt (↑i+1))
     ret x)
   | none=>(do
     setField (.ref I) 2 .none
     let e<-newExc (.type "StopIteration") []
     raiseNew e)) (λfin s'=>∃v,fin=Fin.done (Flow.ret v)/\↥A (pure (some v)) Q E s') (λe s'=>↥A (do
   if(<-isInstance e (.type "StopIteration"))then pure none else throw e) Q E s') s:=by
   intro slot e n;refine Z2 (wpAny_mono (done slot e n) (λa s' ⟨C,e2⟩=>?_) λ_ _ f=>f.elim);subst C;subst e2;exact Z2 (wpAny_setField_rec z ∅ λg1 _ c=>fin g1 _ c)
  have pz:=by
   simp only[SetTable.fits,Zx,beq_iff_eq,decide_eq_true_eq]at h;exact h.1
  by_cases e0:es.size=0
  .have i0:i=0:=by lia
   subst i0;have J:=J rfl;subst J;refine go 0 rfl ?_;have:t.place= #[]:=Array.eq_empty_of_size_eq_zero ⋯;rw[this,vV,e0]
  .have C:es.size=1:=by lia
   have i1:i=1:=by lia
   subst i1;have%[p,B|L]:=L rfl;subst L;refine go (p+1) rfl ?_;have%[p'|O]:=qO (by rw[pz,C]:t.place.size=1);rw[O]at B ⊢;have:p'=p:=by simpa using B
   subst this;rw[qN,if_pos (Yp _),C]
end
theorem iR:Slot "set_iterator" "__iter__" "set_iterator.__iter__":=
 .of (owner:="set_iterator") (n:="__iter__") (by rw[typeLookup_type,builtinLookup_eq_fast];kernel_rfl) (by decide +kernel) (by decide +kernel) (by decide +kernel) (by first|exact .inl (by decide +kernel)|exact .inr ∅) (by kernel_rfl)
theorem lO:entryFor table "set_iterator.__iter__"=some Builtin.«dict_keyiterator.__iter__»:=entryFor_alias (id':="dict_keyiterator.__iter__") (by kernel_rfl) rfl (by decide +kernel) (by kernel_rfl)
theorem ng(a:Value):argsOk "set_iterator.__iter__" %[[a]|[]]:=by kernel_rfl
theorem sj:typeLookup (.type "set") "__len__"=pure (some (.builtin "set.__len__")):=by kernel_rfl
section
#where
variable{I S T:Addr}{o:Obj}{es:Array (Int×Value)}{ep:Nat}{t:SetTable}{ord:ZF}
theorem yH(hh:A.handled=none)(hd:o.data= .set es ep t)(hf:t.fits es.size=true)(hled:t.led=!aS w)(hSI:S≠I)(hn:ord.length=es.size):
 Walks prog w A I [I,S,T] [I] ord.length (λi v=>ord[i]? =some v) (λi h=>SIt w I S T o es ep t ord i h) where
 sub:=by simp
 frame:=λi h h' st k=>by
  have%[hS,first,hI|m]:=st;refine⟨k S ∅ _ hS,first,k I ∅ _ hI,?_⟩;rcases m with m|⟨bt,e,hTI,ps,hTt,r⟩|m
  .exact .inl m
  .exact .inr (.inl %[bt,e,hTI,ps,k T ∅ _ hTt|r])
  .exact .inr (.inr m)
 item:=λi s Q E hi st hQ=>vW (v:=ord[i]) hd hf hled hSI st ∅ hn λh' st' sb=>hQ _ h' s.toks ∅ st' λb o' hb e=>(sb.2 b (λq=>hb (by simp[q]))).trans e
 done:=λs Q E st hQ=>yG hh hd hf hled st rfl hn λh' k=>hQ h' s.toks λb o' hb e=>k b o' (λq=>hb (by simp[q])) e
 self:=λi s Q E st hQ=>by
  have hT:=st.is;exact wpAny_pyIter_slot hT iR (wpAny_call_entry iR hT lO (Z3 %[_,rfl,"set_iterator",_,hT,bV.lookup|hQ]) (ng _))
theorem yI(f:s.heap.get? S=some o)(z:o.ExactSet)(B:o.data= .set es ep t)(hb:es.size<scanBound)(C:t.fits es.size=true)(G:es.size≠0->t.plain=false)(N:t.led=!aS w)
 (hQ:∀(I T:Addr) (ord:ZF) (h':Heap) d,(∀b o,s.heap.get? b=some o->h'.get? b=some o)->⇑s<=I->S≠I->(T=S\/⇑s<=T)->T<h'.objs.size->I<h'.objs.size->ord.length=es.size->
  SIt w I S T o es ep t ord 0 h'->ord.Perm (es.toList.map (·.2))->Q (.ref I) {s with heap:=h',drawn:=d}):↥A (pyIter (.ref S)) Q E s:=by
 have O:s.TypeIs (.ref S) "set":=%[o,f|z.1]
 have l:S<⇑s:=Zv f;refine wpAny_pyIter_slot O F.slot_set_iter (wpAny_call_entry F.slot_set_iter O pT ?_ (F.args_set_iter_1 _));unfold Builtin.«frozenset.__iter__»;refine Z2 (m:=Builtin.Frozenset.slot0 _ _) (Z2 (m:=slotArgs _ _ _) (Z3 (Z3 ?_)));refine Z2 (m:=Builtin.Frozenset.sizeOf S) (Z2 (wpAny_setEntries_of f B C (Z3 ?_)));refine Z2 (m:=setDrawn S) ?_;unfold setDrawn;refine Z2 (wpAny_setState_of f B C (Z2 (Z2 (wpAny_askSetting (Z3 (Z3 ?_))))));have fin:∀(first:Value) (a:Shared) (T:Addr) (ord:ZF),a.heap.get? S=some o->(∃d c,a={s with heap:=c,drawn:=d})->(∀b o,s.heap.get? b=some o->a.heap.get? b=some o)->T<⇑a->⇑s<=⇑a->(T=S\/⇑s<=T)->ord.Perm (es.toList.map (·.2))->
  ((aS w=true/\first=rawInt 0/\ord=(pickOrder (w.params.setOrder S ep) es).toList.map (·.2))\/(aS w=false/\first= .ref T/\∃ps:List Nat,a.heap.get? T=some {cls:= .type "tuple",data:= .seq (ps.map λ(i:Nat)=>rawInt i).toArray}/\ps.length=ord.length/\∀(j p:Nat),ps[j]? =some p->∃e,es[p]? =some e/\ord[j]? =some e.2)\/(aS w=false/\es.size<=1/\ord=es.toList.map (·.2)/\first=rawInt 0))->ord.length=es.size->
  ↥A.in1 (do ret (<-newFields "set_iterator" [first,rawInt 0,.ref S,rawInt es.size,rawInt (<-setEpoch S)])) (λfin s'=>∃v,fin=Fin.done (Flow.ret v)/\∃U r,s'.TypeIs v U/\typeLookup (.type U) "__next__"=pure (some r)/\Q v s') (λe s'=>E e s') a:=by
  intro first a T ord c %[d,g1|e1] k1 Y sl H u m hn
  subst e1;refine Z2 (wpAny_setEpoch_of c B C (Z2 (wpAny_newObj_type ?_)));have gI:(g1.push {cls:= .type "set_iterator",data:= .fields #[first,rawInt 0,.ref S,rawInt es.size,rawInt ep]}).get? g1.objs.size=some _:=Zj _ rfl;refine Z3 %[_,rfl,"set_iterator",_,%[_,gI|rfl],bV.lookup|hQ g1.objs.size T ord _ d (λb o' e=>Z7 _ (k1 b o' e)) sl (Zt (Zv c)) H (by rw[Zq];exact Yo Y) (by rw[Zq];exact Yp _) hn ?_ u];refine⟨Z7 _ c,first,gI,?_⟩;rcases m with m|⟨g,e,ps,J,r⟩|⟨g,L,eo,e⟩
  .exact .inl m
  .exact .inr (.inl %[g,e,Zt Y,ps,Z7 _ J|r])
  .exact .inr (.inr %[g,L,eo,λ_=>e|λq=>absurd q ∅])
 have lst:(es.toList.map (·.2)).length=es.size:=by rw[Z6,Zb]
 by_cases g:aS w=true
 .show wpAny _ _ (if(!aS w&&_)=true then _ else _) _ _ _;rw[g,Bool.not_true,Bool.false_and,if_neg ∅];refine Z2 (Z3 ?_);have n:=(qM (w.params.setOrder S ep) es).map (·.2);exact fin (rawInt 0) s S _ f %[s.drawn,s.heap|rfl] (λ_ _ e=>e) l (Zi _) (.inl rfl) n (.inl %[g,rfl|rfl]) (by rw[n.length_eq,lst])
 .have y:aS w=false:=by simpa using g
  show wpAny _ _ (if(!aS w&&(!t.plain&&decide (es.size>1)))=true then _ else _) _ _ _;by_cases c:es.size>1
  .rw[y,G ⋯,Zf c];refine Z2 (si es.size _ _ _ ∅ λps d h=>Z2 (wpAny_newTuple ?_ (by rw[Z6,h.length_eq,Yk];exact fits_of_scanBound hb)));have lt:∀p∈ps,p<es.size:=λp q=>mem_range.mp (h.mem_iff.mp q)
   have er:(List.range es.size).map (λp=>((es[p]?).map (·.2)).getD .none)=es.toList.map (·.2):=by
    apply ext_getElem
    .simp
    .intro i u q2;simp at u;simp[u]
   have n:(ps.map (λp=>((es[p]?).map (·.2)).getD .none)).Perm (es.toList.map (·.2)):=er▸h.map _;refine fin _ _ ⇑s _ (Z7 _ f) %[d,_|rfl] (λb o' e=>Z7 _ e) (by rw[Zq];exact Yp _) (by rw[Zq];exact Yg _) (.inr (Zi _)) n
    (.inr (.inl %[y,rfl,ps,Zj _ rfl,by rw[Z6]|λj p q=>?_])) (by rw[n.length_eq,lst])
   have M:=lt p (Z8 q);exact%[es[p],by simp|by simp[q,M]]
  .rw[y,Zh c];simp only[Bool.and_false,Y1];exact fin (rawInt 0) s S _ f %[s.drawn,s.heap|rfl] (λ_ _ e=>e) l (Zi _) (.inl rfl) (List.Perm.refl _) (.inr (.inr %[y,⋯,rfl|rfl])) lst
theorem kE(hh:A.handled=none)(u:s.heap.get? S=some r)(a:r.ExactSet)(v:r.data= .set g as t0)(y:g.size<scanBound)(z:t0.fits g.size=true)(B:g.size≠0->t0.plain=false)(c:t0.led=!aS w)
 (hQ:∀s' vs,vs.Perm (g.toList.map (·.2))->(∀b o,s.heap.get? b=some o->s'.heap.get? b=some o)->s'.gens=s.gens->s'.os=s.os->⇑s<=⇑s'->Q vs s'):↥A (collect (.ref S)) Q E s:=by
 unfold collect;refine Z2 (wpAny_runValue (codeAny_builtin F.entry_proto_collect ?_));rw[Around.under_plainId F.plain_proto_collect _];show wpAny _ A.in1 (newList []>>= λl=>again (.builtin "list.__iadd__" %[[l,.ref S]|[]])) _ _ s;refine Z2 (wpAny_newObj_type (Z3 %[plainId_quiet F.plain_list_iadd _|codeAny_builtin F.entry_list_iadd ?_]));rw[Around.under_plainId F.plain_list_iadd _];have i:S<⇑s:=Zv u;show wpAny _ A.in1 (Builtin.List.listExtendWith (.ref ⇑s) (.ref S) (.ref ⇑s)) _ _ _;unfold Builtin.List.listExtendWith
 generalize O:s.heap.push {cls:= .type "list",data:= .seq ([]:ZF).toArray}=G
 have gS:G.get? S=some r:=by rw[<-O];exact Z7 _ u
 have gz:G.objs.size=⇑s+1:=by rw[<-O,Zq]
 have gL:G.get? ⇑s=some {cls:= .type "list",data:= .seq ([]:ZF).toArray}:=O▸Zj _ rfl;have tS:Shared.TypeIs (s>>>G) (.ref S) "set":=%[r,gS|a.1]
 refine Z2 (wpAny_typeOf (T:="set") tS ?_);have n1:Builtin.List.listSameRef (.ref ⇑s) (.ref S)=false:=by
  show(⇑s==S)=false;exact beq_eq_false_iff_ne.mpr (X2 i)
 have n2:(Value.type "set"==Value.type "list")=false:=by decide
 have n3:(Value.type "set"==Value.type "tuple")=false:=by decide
 simp only[n1,n2,n3,Bool.or_false,Y1,if_false];refine Z2 (yI (s:=(s>>>G)) gS a v y z B c λI T ord h d k1 U ab ac a0 a1 hn st q1=>?_);replace k1:∀b o,G.get? b=some o->h.get? b=some o:=k1;replace U:G.objs.size<=I:=U;have ae:h.get? S=some r:=k1 _ _ gS;refine Z2 (wpAny_holding ?_);unfold Builtin.List.listLengthHint;have m:Shared.TypeIs {s with heap:=h,drawn:=d} (.ref S) "set":=%[r,ae|a.1]
 refine Z2 (wpAny_specialOf (T:="set") m sj ?_)
 wp_delta
 refine Z2 (wpAny_isInstance (T:="set") (b:=true) m (by rw[isSubtype_type];kernel_rfl) ?_);show wpAny _ A.in1 (typeOf (.ref S)>>= _) _ _ _;refine Z2 (wpAny_typeOf (T:="set") m (Z3 ?_));rw[if_pos (by decide)];refine Z2 (wpAny_rule ?_);have C:h.get? ⇑s=some {cls:= .type "list",data:= .seq ([]:ZF).toArray}:=k1 _ _ gL;refine Z2 ?_;unfold Builtin.List.listTouch;refine Z2 (listUpdate_at (s:={s with heap:=h,drawn:=d}) C rfl ?_ (Xf _) (by show 1<=sizeLine+1;lia));have H:=get?_update_self (Obj.mapSeq (·.push Value.none)) C rfl;refine listUpdate_at (xs:= #[Value.none]) (n:=1) (s:={s with heap:=h.update ⇑s (Obj.mapSeq _),drawn:=d}) H rfl ?_ (by decide) (by show 0<=sizeLine+1;lia);have ag:=get?_update_self (Obj.mapSeq (·.pop)) H rfl;have J:∀b o,b≠⇑s->h.get? b=some o->((h.update ⇑s (Obj.mapSeq (·.push Value.none))).update ⇑s (Obj.mapSeq (·.pop))).get? b=some o:=λb o Y e=>(get?_update_other _ _ (Ne.symm Y)).trans ((get?_update_other _ _ (Ne.symm Y)).trans e)
 have ai:=Zt (Zg (by rw[gz];exact Yp _) U);have neT:⇑s≠T:=by
  rcases ac with e|e
  .exact e▸X2 i
  .exact Zt (Zg (gz▸Yp _) e)
 have L:⇑s∉[I,S,T]:=by
  simp only[Yw,X8,or_false,not_or];exact%[ai,X2 i|neT]
 have aj:ord.length<=sizeLine:=hn▸fits_of_scanBound y;have W:=yH (prog:=prog) (A:=A.in1) (T:=T) (hh) v z c ab hn;have al:=W.frame 0 h _ st λb Y M e=>J b M (λq=>L (q▸Y)) e
 refine Z3 %[plainId_quiet F.plain_extend_loop _|codeAny_extend_loopS W.toS aj _ L _ ord.length 0 _ _ _ rfl (Xf _) al ag (ItemsOf.nil _) λs5 acc c5 m5 N f=>?_];refine Z2 (wpAny_load N (Z3 ?_));have ea:acc.toList=ord:=by
  apply List.ext_getElem?;intro j;by_cases hj:j<ord.length
  .have an:j<acc.size:=f.1▸hj;have:=f.2 j acc[j] ∅;rw[this];simp[an]
  .have l1:acc.toList.length=ord.length:=f.1;rw[Xm ⋯,Xm (l:=ord) ⋯]
 rw[ea];refine hQ s5 ord q1 (λb M e=>?_) m5.gens m5.os (Yf (Zv N));have p:=Zv e;refine m5.heap b M ?_ (J b M (Zt p) (k1 b M (O▸Z7 _ e)));simp only[Yw,X8,or_false,not_or];exact%[Zt p|Zt (Zg p (Yh (gz▸Yg _) U))]
theorem mM(f:A.handled=none)(h:br w S ks s.heap)
 (i:∀s' vs ss,StrsAre vs ss->ss.Perm ks->(∀b o,s.heap.get? b=some o->s'.heap.get? b=some o)->s'.gens=s.gens->s'.os=s.os->⇑s<=⇑s'->Q vs s'):↥A (collect (.ref S)) Q E s:=by
 have%[o,es,ep,t,ss,j,c,l,d,m,n,p,q,r,e|a]:=h;refine kE f j c l q r e a λs' vs pv k g os sz=>?_
 have%[ts,u|v]:=cr d pv;exact i s' vs ts u (v.trans m) k g os sz
end
section
variable{X:Cx}{pins:ZE}{σ:St}{H:Hp}{s s':Shared}
theorem Inv.keptS(I:Inv X pins σ H s)(k:∀b o,s.heap.get? b=some o->s'.heap.get? b=some o)(c:s'.gens=s.gens)(a:s'.os=s.os):Inv X pins σ H s':=by
 have%[h',g',d',t'|d]:=s';replace a:d=s.os:=a;subst c;subst a;refine I.step (ch:=[]) (λb f=>absurd f ∅) (λb o _ _ _ e _=>k b o e) (λb o _ _ _ e _=>%[o.slots|k b o e]) (λ_ _ _ _ n=>n) (λb o _ e=>%[o|k b o e]) (λ_ _ e=>e) (λ_ _ _ e=>e) (λb ps e=>%[#[]|by rw[e];simp]) (λm g=>?_) (λb v e=>?_) I.bare
 .have%[o,h,i,a|r]:=g;exact%[o,h,i,k _ o a|r]
 .exact(I.hok b v e).stay (λj l _ q=>k j l q) (λ_ q=>q) λ_ _ q=>q
theorem Inv.stoodS(I:Inv X pins σ H s)(J:Inv X pins σ H s')(c:⇑s<=a)(new:ce X.prog X.w (upd H a o) s'.heap a o):Inv X pins σ (upd H a o) s':=by
 have d:=I.hok.fresh c;refine%[J.ok,J.os,J.bare,?_,J.loc,J.cell,?_,?_,?_,?_|J.len]
 .refine%[J.base.keep,J.base.slot,λb o e n j=>?_,J.base.there,λb xs e=>?_,λb o v e=>?_|λb ps e=>?_]
  .rw[ao ((λb o e=>Zt (Zg (Zg (Zv e) I.sz) c)) b o e)];exact J.base.free b o e n j
  .rw[ao (ay (J.base.tups b xs e) d)];exact J.base.tups b xs e
  .rw[ao (ay (J.base.frzs b o v e) d)];exact J.base.frzs b o v e
  .have%[m|q]:=J.base.tbls b ps e;exact%[m|(ao (ay q d))▸q]
 .rw[ao (Zt (Zg I.lt c))];exact J.free
 .intro g f e;have%[l|q]:=I.cell g f e;rw[ao (Zt (Zg q.lt c))];exact J.freeC g f e
 .intro p h;have%[e,n|r]:=J.pin p h;refine%[e,?_|r];rw[ao (Zt (Zg (Zv (I.pin p h).1) c))];exact n
 .intro b v e;by_cases i:b=a
  .subst i;rw[aa]at e;cases e;exact new
  .rw[ao i]at e;refine(J.hok b v e).stay (λ_ _ _ q=>q) (λf q=>?_) λf xs q=>?_
   .rw[ao (ay q d)];exact q
   .rw[ao (ay q d)];exact q
end
section
#where
variable{S:Addr}
theorem vX(t:A.handled=none)(u:br w S ks s.heap)(g:ks.length<64)
 (v:∀(s':Shared) (l:Addr) (vs:ZF) (ss:ZB) (n:Nat),StrsAre vs ss->ss.Perm ks->sortedS ss=true->(∀b o,s.heap.get? b=some o->s'.heap.get? b=some o)->s'.gens=s.gens->s'.os=s.os->⇑s<=l->s'.heap.get? l=some {cls:= .type "list",data:= .seq vs.toArray n}->Q (.ref l) s'):
 ↥A (call (.builtin "sorted") [.ref S]) Q E s:=by
 refine Calls.call_function_entry kind_sorted plain_sorted entry_sorted (args_sorted1 _) ?_;unfold Builtin.«sorted»;refine Z2 (m:=checkCount "sorted" 1 1 _) (Z3 ?_);refine Z2 (mM (show A.in1.handled=none from t) u λc vs ss f j k1 g1 y h=>?_);have z:vs.length<64:=by rw[bE f,j.length_eq];exact g
 refine Z2 (wpAny_newList ?_ (by rw[sizeLine_eq];lia));have i:(c.heap.push (seqObj "list" vs.toArray 0)).get? ⇑c=some (seqObj "list" vs.toArray 0):=Zj _ rfl;refine Z2 (wpAny_holding (wpAny_call_entry slot_list_sort %[_,i|rfl] entry_list_sort (list_sort_treeK (s:=(c>>>c.heap.push (seqObj "list" vs.toArray 0))) strKind_oneLt i f.keysOf (λp q rest e=>keyKind_strs (by rw[<-e];exact f)) z λa B C=>%[_,rfl|?_]) (args_list_sort _)));have%[ts,G,H|I]:=sorted_out_str f B C;obtain⟨n,J⟩:∃n,(sortedHeap (c.heap.push (seqObj "list" vs.toArray 0)) ⇑c vs ((arrOf a).map (·.2))).get? ⇑c=some (seqObj "list" ((arrOf a).map (·.2)) n):=sortedHeap_at i;refine Z3 %[_,rfl|v _ ⇑c ((arrOf a).map (·.2)).toList ts n G (H.trans j) I (λb L e=>?_) g1 y h ?_]
 rotate_left
 .show _=some (seqObj "list" ((arrOf a).map (·.2)).toList.toArray n);rw[Array.toArray_toList];exact J
 have r:=k1 b L e;have d:=Zv r;show(sortedHeap _ _ _ _).get? b=_;rw[sortedHeap_old (Zt d) (by rw[Zq];exact Yo d)];exact Z7 _ r
end
section
variable{X:Cx}{K:ZA}
theorem sk(d:X.calm=true):cA X (.builtin "sorted") (λxs H Q=>∃a ks,xs=[.ref a]/\H a=some (jU X.w a ks)/\ks.length<64/\∀l ss,H l=none->ss.Perm ks->sortedS ss=true->Q (.ref l) (upd H l (.lst (ss.map V.str)))):=by
 intro pins s t H xs us Q I r h;have%[a,ks,rfl,e,f|q]:=h;have%[u,rfl|i]:=dE r;cases i;have%[S,_|_]:=(I.hok a _ e)
 refine vX (I.ok.hd d) S f λs' l vs ss n j c m k g o b p=>%[.ref l,_,I.stoodS (o:= .lst _) (I.keptS k g o) b %[?_,vs,n,qG j|p],rfl|q l ss (I.hok.fresh b) c m]
 rw[Z6,c.length_eq,sizeLine_eq]
 lia
theorem yJ(h:X.w=w)(b:X.calm=true):cU X (.builtin "sorted") (λxs H Q=>∃a ks,xs=[.ref a]/\H a=some (jU w a ks)/\ks.length<64/\∀l ss,H l=none->ss.Perm ks->sortedS ss=true->Q (.ref l) (upd H l (.lst (ss.map V.str)))):=by subst h;exact⟨sk b⟩
end
theorem ap{D:lF}(h:∀c:lF,(∀a b,u D a b->c.nx a b)->(∀v b,D.rt v b->c.rt v b)->t c d H):be t u D d H:=h _ (λ_ _ x=>x) λ_ _ x=>x
theorem aD{t:TS}{D:lF}(h:∀c:lF,(∀a b,D.nx a b->c.nx a b)->(∀v b,D.rt v b->c.rt v b)->t c d H):t D d H:=h _ (λ_ _ x=>x) λ_ _ x=>x
theorem kH{K:ZA}{xs:List V}{g:TG}{j:TS}{D:lF}(Pv:Nat->St->Hp->Prop)(n:Pv 0 b H)(o:∀i b H,i<=xs.length->Pv i b H->SqL K H a xs)
 (r:∀i x T b H,xs[i]? =some x->Pv i b H->H T=none->g (.ref T) b (upd H T (.tup [.int i,x])) λc h=>j {D with nx:=Pv (i+1),ct:=Pv (i+1),bk:=D.nx} c h) (s:∀b H,Pv xs.length b H->D.nx b H):
 ∃W:Nat->Nat->St->Hp->Prop,(∃m,W 0 m b H)/\∀i m b H,W i m b H->
  ((Ite K a xs).stop i H/\D.nx b H)\/((Ite K a xs).go i H/\∃N:St->Hp->Prop,(∀d f,N d f->∃l,l<m/\W (i+1) l d f)/\∀x f,(Ite K a xs).yld i H x f->g x b f λc h=>j {D with nx:=N,ct:=N,bk:=D.nx} c h):=by
 refine%[λi m b H=>m=xs.length-i/\i<=xs.length/\Pv i b H,%[xs.length,by simp,Xf _|n]|?_];intro i m b H %[rfl,hi|p];have q:=o i b H hi p;by_cases lt:i<xs.length
 .refine .inr %[%[q|lt],Pv _,λd f t=>%[xs.length-(i+1),⋯,rfl,lt|t]|λv f y=>?_];have%[x,T,e,u,rfl|rfl]:=y;exact r i x T b _ e p u
 .have e:i=xs.length:=by lia
  subst e;exact .inl %[%[q|Zi _]|s b H p]
section
variable{X:Cx}{K:ZA}{pos:Pos}{a b:Expr}{ta tb:TE}
theorem cY:OpQ X (binaryOp .Add) (rI0 λi j=> .int (i+j)):=⟨Ad⟩
theorem gF:OpQ X (binaryOp .Mult) (rI Ac λi j=> .int (i*j)):=⟨Ae⟩
theorem dC(h:X.K=K)(c:km b)(d:QE X a ta)(e:QE X b tb):QE X (.Subscript a b pos) (tOp (CA K) ta tb):=by subst h;exact⟨wQ wR d.h e.h c⟩
theorem ixSE(c:km b)(d:QE X a ta)(e:QE X b tb):QE X (.Subscript a b pos) (tOp CC ta tb):=⟨wQ Az d.h e.h c⟩
end
end L2
namespace Cut
open PySem L2 PyProof.Rows
noncomputable def iq:Str:="abcdefghijklmnopqrstuvwxyz"
noncomputable def ja(c:Nat):Bool:=decide (c∈iq.cps.toList)
noncomputable def okc(c:Nat):Bool:=decide (c=46)||ja c
noncomputable def nl:Str:="\n"
theorem GN:nl=⟨#[10]⟩:=rfl
theorem lP:ja c=true↔97<=c/\c<=122:=by
 have e:iq.cps.toList=(List.range 26).map (·+97):=by decide +kernel
 unfold ja;rw[decide_eq_true_iff,e,mem_map]
 constructor
 .rintro⟨i,h,rfl⟩;have:=mem_range.mp h
  lia
 .rintro⟨a,b⟩;exact%[c-97,mem_range.mpr ⋯|⋯]
theorem Fq(h:okc c=true):c≠10:=by
 intro e;subst e
 revert h
 decide +kernel
structure b8 (rows:ZB):Prop where
 pos:1<=rows.length
 high:rows.length<=40
 wide:∃wd,1<=wd/\wd<=40/\∀r∈rows,r.cps.size=wd
 sign:∀r∈rows,r.cps.toList.all okc=true
 fall:∀i r r',rows[i]? =some r->rows[i+1]? =some r'->∀(j c c':Nat),r.cps[j]? =some c->r'.cps[j]? =some c'->c'=46->c=46
 some':∃r∈rows,∃c∈r.cps.toList,c≠46
theorem eX{x y:Str}(h:x.cps.toList=y.cps.toList):x=y:=by
 obtain⟨⟨l⟩⟩:=x
 simp_all
theorem gR(sep x y:Str)(r:ZB):(Str.join sep (x::y::r)).cps.toList=x.cps.toList++sep.cps.toList++(Str.join sep (y::r)).cps.toList:=by
 show((x.cps++sep.cps) ++(Str.join sep _).cps).toList=_;rw[Xe,Xe]
theorem AY [DecidableEq f]:∀{a b x y:List f},c∉a->c∉b->a++c::x=b++c::y->a=b/\x=y
 |[],[],_,_,_,_,h=>%[rfl|(List.cons.inj h).2]
 |[],b::bs,_,_,_,d,h=>absurd (((List.cons.inj h).1)▸Zm) d
 | a::as,[],_,_,e,_,h=>absurd (((List.cons.inj h).1)▸Zm) e
 | a::as,b::bs,x,y,e,d,h=>by
   have%[g|i]:=List.cons.inj h;have%[j|l]:=AY (λq=>e (Zk _ q)) (λq=>d (Zk _ q)) i;exact%[by rw[g,j]|l]
theorem t7{c:Nat}:∀{ps qs:ZB},ps≠[]->qs≠[]->(∀p∈ps,c∉p.cps.toList)->(∀q∈qs,c∉q.cps.toList)->(Str.join ⟨#[c]⟩ ps).cps.toList=(Str.join ⟨#[c]⟩ qs).cps.toList->ps=qs
 |[],_,h,_,_,_,_=>absurd rfl h
 | _,[],_,h,_,_,_=>absurd rfl h
 |[p],[q],_,_,_,_,e=>by rw[eX (show p.cps.toList=q.cps.toList from e)]
 |[p],q::f::qs,_,_,a,_,e=>by
  rw[gR]at e;refine absurd ?_ (a p Zm);rw[show p.cps.toList=(Str.join _ [p]).cps.toList from rfl,e];simp
 | p::g::ps,[q],_,_,_,b,e=>by
   rw[gR]at e;refine absurd ?_ (b q Zm);rw[show q.cps.toList=(Str.join _ [q]).cps.toList from rfl,<-e];simp
 | p::g::ps,q::f::qs,_,_,a,b,e=>by
   rw[gR,gR,Ze,Ze]at e;have%[i|j]:=AY (a p Zm) (b q Zm) e;rw[eX i,t7 ∅ ∅ (λx d=>a x (Zk _ d)) (λx d=>b x (Zk _ d)) j]
theorem vY(a:rows≠[])(h:∀r∈rows,10∉r.cps.toList):Txt.split (Str.join nl rows) nl=rows:=by
 have e:=StrLaws.join_split (Str.join nl rows) nl;rw[GN]at e ⊢;refine t7 ?_ a (StrLaws.split_free _ 10) h (by rw[e]);intro q;have:=split_pos (Str.join ⟨#[10]⟩ rows) ⟨#[10]⟩
 simp_all
theorem b8.nonl(h:b8 rows):∀r∈rows,10∉r.cps.toList:=λr a b=>by
 have:=all_eq_true.mp (h.sign r a) 10 b;exact Fq this rfl
theorem b8.split(h:b8 rows):Txt.split (Str.join nl rows) nl=rows:=
 vY (λe=>by have:=h.pos;simp_all) h.nonl
theorem sq:∀{xs:List b},(∀x∈xs,f x<=B)->(xs.map f).sum<=xs.length*B
 |[],_=>by simp
 | x::r,h=>by
   have c:=sq λy a=>h y (Zk _ a)
   have d:=h x Zm;rw[Yr,List.sum_cons,Zr,Nat.succ_mul]
   lia
theorem b8.sum(h:b8 rows):(rows.map (·.length)).sum<=1600:=by
 have%[wd,_,c|a]:=h.wide;have:=sq (f:=λr:Str=>r.length) λr b=>by have:=a r b;show r.cps.size<=40;lia
 have:=h.high
 grind
theorem b8.text(h:b8 rows):(Str.join nl rows).length<=2000:=by
 have a:=StrLaws.join_length_le nl rows;have b:=h.sum;have c:=h.high;have d:nl.length=1:=rfl
 lia
noncomputable def sgn(c:Nat):Str:=⟨#[c]⟩
theorem og{a:List Nat}(h:∀c∈a,ja c=true):(aL (a.map sgn)).length<=26:=by
 have b:∀x∈aL _,x∈iq.cps.toList.map sgn:=λx d=>by
  have%[c,f|e]:=Xq (bA.mp d);exact Xr %[c,Zo (h c f)|e]
 have:=List.Nodup.length_le_of_subset (fF _) b;rw[Z6]at this;have e:iq.cps.toList.length=26:=by decide +kernel
 lia
noncomputable def dh(rows:ZB):List Nat:=(Str.join (Str.ofString "") rows).cps.toList.filter (λc=>decide (c≠46))
theorem t8:∀(rows:ZB),(Str.join (Str.ofString "") rows).cps.toList=(rows.map (·.cps.toList)).flatten
 |[]=>rfl
 |[x]=>by simp[Str.join]
 | x::y::r=>by
   have e:(Str.ofString "").cps.toList=[]:=rfl;rw[gR,t8 _,e,Zz];simp
theorem lQ(h:∀r∈rows,r.cps.toList.all okc=true):∀c∈dh rows,ja c=true:=λc a=>by
 unfold dh at a;rw[List.mem_filter,t8]at a;have%[b|d]:=a;have%[l,e|f]:=List.mem_flatten.mp b;have%[r,g|rfl]:=Xq e;have:=all_eq_true.mp (h r g) c f;unfold okc at this;rw[or_eq_true]at this;rcases this with q|q
 .exact absurd (Zo q) (Zo d)
 .exact q
theorem b8.signs_ne(h:b8 rows):dh rows≠[]:=by
 have%[r,b,c,d|a]:=h.some';have:c∈dh rows:=by
  unfold dh;rw[List.mem_filter,t8];exact%[List.mem_flatten.mpr %[_,Xr %[r,b|rfl]|d]|Zf a]
 grind
noncomputable def sr(z:Str):Bool:=(decide (1<=(z.length:Int))&&decide ((z.length:Int)<=40))&&z.cps.toList.all okc
noncomputable def fG(row a:Str):Bool:=decide (row.length=a.length)&&(List.zip a.cps.toList row.cps.toList).all λp=>!decide (p.2=46)||decide (p.1=46)
theorem b8.row(h:b8 rows)(a:r∈rows):sr r=true:=by
 have%[wd,c,d|b]:=h.wide;have e:r.length=wd:=b r a;unfold sr;rw[h.sign r a,e,Zf ⋯,Zf ⋯];rfl
theorem b8.beneath(h:b8 rows)(c:rows[i]? =some r)(d:rows[i+1]? =some a):fG a r=true:=by
 have%[wd,m,n|e]:=h.wide;have f:r.length=wd:=e r (Z8 c);have g:a.length=wd:=e a (Z8 d);unfold fG;rw[Zf (g.trans f.symm),Bool.true_and,all_eq_true];intro p l;have%[j|b]:=Xg l;rw[List.getElem?_zip_eq_some]at b;have:=h.fall i r a c d j p.1 p.2 (by simpa using b.1) (by simpa using b.2)
 grind
theorem vZ(a:List Nat):(Str.join (Str.ofString "") (a.map sgn))=⟨a.toArray⟩:=by
 refine eX ?_;rw[t8,Ys];show((a.map (λc=>[c])).flatten)=a
 induction a with
 | nil=>rfl
 | cons c r b=>simp_all
theorem wZ:∀a:List Nat,((a.map sgn).map (λx=>x.length)).sum=a.length
 |[]=>rfl
 | c::r=>by
   rw[Yr,Yr,List.sum_cons,wZ r,Zr];show 1+r.length=r.length+1
   lia
end Cut
namespace Cut
open PySem L2
end Cut
namespace L2
open PySem PySem.Spec PyProof.Rows
def Up(B:Heap)(l:List Env)(e:Addr)(cls:Value)(b:ZI)(d:Option Value)(h:Heap):Prop:=
 B.StaysIn h/\B.get? e=none/\h.FunFrames B l/\∃a vs,h.get? e=some a/\a.cls=cls/\a.dict=b/\a.data= .fields vs/\1<vs.size/\
  match d with
  | none=>vs[1]? =some .none
  | some f=>∃T c ts,vs[1]? =some (.ref T)/\B.get? T=none/\T≠e/\h.get? T=some c/\c.data= .fields ts/\ts[3]? =some f
section
variable{M:Model}{A:Around}{E:ZD}{s:Shared}{B:Heap}{env:Env}{outer:List Env}{L e:Addr}{cls:Value}{dct:ZI}{Q:Unit->Shared->Prop}
end
section
variable{P:Program}{w:World}{H:Hp}{h:Heap}{a:Addr}{o:HO}
theorem ce.there(x:ce P w H h a o):∃b,h.get? a=some b:=by
 cases o with
 | lst xs=>have%[_,_,_,_|e]:=x;exact%[_|e]
 | tup xs=>have%[_,_,_,b,e|_]:=x;exact%[_|e]
 | dK c=>have%[_,_,_,_,o,_,_,e|_]:=x;exact%[_|e]
 | dT c=>have%[_,_,_,_,o,_,_,e|_]:=x;exact%[_|e]
 | set S n=>have%[o,_,_,_,e|_]:=x;exact%[_|e]
 | ins C d fs=>have%[_,_,_,e|_]:=x;exact%[_|e]
 | own y=>have%[_|e]:=x;exact%[_|e]
 | xd fs=>have%[_,%[_,_,_,e|_]|_]:=x;exact%[_|e]
 | rng lo hi=>have%[_,_,_|e]:=x;exact%[_|e]
 | frz b u=>have%[e|_]:=x;exact%[_|e]
 | tbl ps=>exact%[_|(x)]
 | met f y=>exact%[_|(x)]
 | ext g=>have%[_,%[_|e]|_]:=x;exact%[_|e]
end
section
variable{P:Program}{w:World}{l:List Env}{H H':Hp}{s s':Shared}{ea:Addr}{B h':Heap}{cls:Value}{dx:ZI}{fl fl':Option Value}
end
section
variable{P:Program}{w:World}{K:ZA}{mg:ZC}{base:Heap}{N:ZB}{qual:Str}{scope:Scope}{f:Addr}{cd:Value}{A:Around}{outer:List Env}{s₀:Shared}{H₀:Hp}{E:XK}
end
section
variable{prog:Program}{w:World}{A:Around}{E:ZD}{h:Heap}{g:Array GenState}{d:Drawn}{t:Nat}{os:OsState}
variable{nm q:Str}{C N:Addr}{bs bm bmB:ZF}{hdct:Bool}{sn:ZB}{sub:ZF}{ab:Bool}{col:Option Bool}{dd:ZI}{k0 k1 k2 k3 k5:Option Value}{B newId initId:String}
end
section
#where
variable{K:ZA}{x C:Addr}{name:Str}{v:Value}{ox:Obj}{od:Option Obj}
end
section
variable{X:Cx}{C f:Addr}
end
section
variable{X:Cx}{pins:ZE}{σ:St}{H:Hp}{s s':Shared}
end
section
variable{X:Cx}{C D f:Addr}{x nm:Str}{p pos pos' apos:Pos}{e o value:Expr}{es:List Expr}{t:TA}{ta tv:TE}{r:List V->Hp->VK->Prop}
end
def Fs(b:TE):TE:=λc H Q=>b c H λv a=>(∃i:Int,v= .int i/\i.natAbs<2^64/\Q (.str (toString i)) a)\/∃y:Str,v= .str y/\y.length<=sizeLine/\Q (.str y) a
def oh:List TE->Str->TE
 |[],out=>λa H Q=>out.length<=sizeLine/\Q (.str out) H
 | t::ts,out=>λa H Q=>t a H λv b=>∃y:Str,v= .str y/\(out++y).length<=sizeLine/\oh ts (out++y) a b Q
inductive PJ (X:Cx):List Expr->List TE->Prop
 | nil:PJ X [] []
 | cons {e:Expr} {es:List Expr} {t:TE} {ts:List TE}:PE X e t->PJ X es ts->PJ X (e::es) (t::ts)
section
variable{X:Cx}{e v1 v2:Expr}{rest:List Expr}{te t1 t2:TE}{ts:List TE}{pos:Pos}
theorem Ft(c:PE X e te):PE X (.FormattedValue e (-1) none pos) (Fs te):=by
 intro pins s d H Q I h;refine FormattedValue_plain (thP (c pins s d H _ I h) λu j v a b r q=>?_);rcases q with⟨i,rfl,hi,q⟩|⟨y,rfl,f,q⟩
 .have%[t|rfl]:=(show∃t,u=Value.int i t from r)
  have g:i.natAbs.log2<1920:=by
   by_cases z:i.natAbs=0
   .rw[z];decide
   .exact(Nat.log2_lt z).mpr (Zg hi (Nat.pow_le_pow_right (by decide) ∅))
  exact formatField_int_small g %[V.str (toString i),a,b.tok _,%[_|rfl]|q]
 .have%[t|rfl]:=(r)
  exact formatField_str (λt' tk=>%[.str y,a,b.tok _,%[_|rfl]|q]) f
theorem AZ(h:PJ X c ts):∀(out:Str) (pins:ZE) (s:Shared) (a:St) (H:Hp) (Q:VK),Inv X pins a H s->oh ts out a H Q->
 (~~~X) (joinParts out (evalEach c X.env)) (EP X pins a Q) X.xe s:=by
 induction h with
 | nil=>exact λout pins s a H Q I ⟨b,q⟩=>joinParts_nil %[.str out,H,I.tok _,%[_|rfl]|q] b
 | cons d _ f=>
   intro out pins s a H Q I q;refine joinParts_cons (thP (d pins s a H _ I q) λu g v i j r ⟨y,l,b,m⟩=>?_);subst l;have%[t|rfl]:=(r)
   exact%[b|f _ pins g a i Q j m]
theorem C6(h:PJ X (v1::v2::rest) ts):PE X (.JoinedStr (v1::v2::rest) pos) (oh ts Str.empty):=λpins s a H Q I q=>
 JoinedStr_many (AZ h _ pins s a H Q I q)
end
section
variable{X:Cx}{k:Nat}{f C:Addr}{fd:FuncData}{ps:ZB}{sp:Sp}{x:Str}{p pos cpos:Pos}{e:Expr}{es:List Expr}{te:TE}{t:TA}
end
noncomputable def drop(H:Hp)(a:Addr):Hp:=λb=>if b=a then none else H b
theorem yK:drop H a a=none:=by unfold drop;rw[if_pos rfl]
theorem ju(h:b≠a):drop H a b=H b:=by unfold drop;rw[if_neg h]
section
variable{X:Cx}{pins:ZE}{σ:St}{H:Hp}{s s':Shared}
end
section
variable{M:Model}{A:Around}{E:ZD}{s:Shared}{K:ZA}{D C e:Addr}{oe:Obj}{b:Bool}{Q:Bool->Shared->Prop}
end
section
variable{X:Cx}{pins pins' pn:ZE}{σ:St}{H:Hp}{s:Shared}{E:ZD}
end
section
#where
variable{K:ZA}{x C:Addr}{name:Str}{v:Value}{ox:Obj}{od:Option Obj}
end
section
#where
variable{K:ZA}{x C:Addr}{ox:Obj}{od:Option Obj}
end
section
#version
end
noncomputable def cL(mg:ZC)(x:Str):Addr:=match mg x with
 | some (.ref C)=>C
 | _=>0
theorem C7(h:mg x=some (.ref C)):cL mg x=C:=by unfold cL;rw[h]
section
variable{P:Program}{w:World}{K:ZA}{mg:ZC}{base:Heap}{x qual:Str}{st:Stmt}{N ps:ZB}{k:Nat}{sp:Sp}
end
section
variable{X:Cx}{K:ZA}{pos:Pos}
theorem Fu(a:QE X e b):QE X (.FormattedValue e (-1) none pos) (Fs b):=⟨Ft a.h⟩
theorem DW:PJ X [] []:= .nil
theorem pjE(a:QE X e t)(h:PJ X b ts):PJ X (e::b) (t::ts):= .cons a.h h
theorem DZ{rest:List Expr}(h:PJ X (v1::a::rest) ts):QE X (.JoinedStr (v1::a::rest) pos) (oh ts Str.empty):=⟨C6 h⟩
end
section
#where
end
section
#where
end
section
#where
end
section
#where
end
def clo(c:TE):TE:=λd H Q=>∃a:VK,c d H a/\∀v b,a v b->Q v b
theorem Fv{X:Cx}(h:PE X e b):PE X e (clo b):=λpins s c H Q I ⟨d,q,k⟩=>
 thP (h pins s c H d I q) λ_ _ v a f r z=>%[v,a,f,r|k v a z]
theorem Fw{X:Cx}(h:PE X e t)(k:∀a H Q,t' a H Q->t a H Q):PE X e t':=λpins s a H Q I q=>h pins s a H Q I (k a H Q q)
theorem A1(h:H r=none):drop (upd H r o) r=H:=by
 funext b;unfold drop upd
 simp_all
section
variable{X:Cx}{K:ZA}{pos:Pos}
end
end L2
namespace SBig
open PySem PyProof.Rows
section
variable(prog:Program)(w:World)(A:Around)(SI:Shared->Prop)
def SC{a:Type}(m:StateT SortSt Sem a)(Q:a->SortSt->Prop)(st:SortSt):Prop:=
 ∀s,SI s->↥A (m.run st) (λr s'=>SI s'/\Q r.1 r.2) (λ_ _=>False) s
def Cmp(a:SortKind)(D:Keyed->Prop)(N:Keyed->Nat):Prop:=
 ∀x y s,D x->D y->SI s->↥A (keyLt' a x.1 y.1) (λb s'=>b=decide (N x<N y)/\SI s') (λ_ _=>False) s
end
section
variable{prog:Program}{w:World}{A:Around}{SI:Shared->Prop}{α β:Type}
theorem av{st:SortSt}(h:Q a st):(SC prog w A SI) (pure a) Q st:=λs b=>by
 exact Z3 %[b|h]
theorem ar{st:SortSt}(h:(SC prog w A SI) m (λa b=>(SC prog w A SI) (f a) Q b) st):(SC prog w A SI) (m>>= f) Q st:=λs c=>by
 exact Z2 (wpAny_mono (h s c) (λr s' h'=>h'.2 s' h'.1) λ_ _ e=>e)
theorem bS{st:SortSt}(h:(SC prog w A SI) m Q st)(c:∀a b,Q a b->d a b):(SC prog w A SI) m d st:=λs f=>
 wpAny_mono (h s f) (λr s' h'=>%[h'.1|c _ _ h'.2]) λ_ _ e=>e
theorem gG{st:SortSt}(h:Q st st):(SC prog w A SI) get Q st:=λs a=>by
 exact Z3 %[a|h]
theorem cH{st:SortSt}(h:Q ⟨⟩ (f st)):(SC prog w A SI) (modify f) Q st:=λs a=>by
 exact Z3 %[a|h]
theorem Fx{st:SortSt}(h:Q ⟨⟩ x):(SC prog w A SI) (set x) Q st:=λs a=>by
 rw[StateT.run_set];exact Z3 %[a|h]
theorem w4{st:SortSt}(h:∀s,SI s->↥A m (λa s'=>SI s'/\Q a st) (λ_ _=>False) s):(SC prog w A SI) (liftM m:StateT SortSt Sem α) Q st:=λs b=>by
 exact Z2 (wpAny_mono (h s b) (λa s' h'=>Z3 h') λ_ _ e=>e)
theorem jv{st:SortSt}(h:Q () st):(SC prog w A SI) (liftM (rule t):StateT SortSt Sem Unit) Q st:=w4 λs a=>wpAny_rule %[a|h]
theorem bF{st:SortSt}(I:Nat->β->SortSt->Prop)(j:a<=b)(l:I a c st)
 (m:∀i x st,a<=i->i<b->I i x st->(SC prog w A SI) (f i x) (λr g=>match r with| .done y=>Q y g| .yield y=>I (i+1) y g) st) (n:∀x st,I b x st->Q x st):(SC prog w A SI) (forIn [a:b] c f) Q st:=by
 rw[Std.Legacy.Range.forIn_eq_forIn_range'];have o:([a:b]).size=b-a:=by simp[Std.Legacy.Range.size]
 have p:∀d i x st,i+d=b->a<=i->I i x st->(SC prog w A SI) (forIn (List.range' i d 1) x f) Q st:=by
  intro d
  induction d with
  | zero=>
    intro i x st e _ h;subst e;exact av (n x st h)
  | succ d q=>
    intro i x st e s h;rw[List.range'_succ,forIn_cons];refine ar (bS (m i x st s ⋯ h) λr g h'=>?_);cases r with
    | done y=>exact av h'
    | yield y=>exact q _ y g ⋯ ⋯ h'
 exact p _ a c st ⋯ (Zi _) l
theorem bo{st:SortSt}(a:xs[i]? =some x)(h:Q x st):(SC prog w A SI) (elem' xs i) Q st:=by
 rw[elem'_eq,a];exact av h
theorem t9{st:SortSt}(c:Cmp prog w A SI (kindOf st) D N)(d:D x)(f:D y)(h:Q (some (decide (N x<N y))) st):(SC prog w A SI) (lt' x y) Q st:=by
 refine ar (gG (ar (w4 (λs g=>wpAny_attempt (wpAny_mono (c x y s d f g) (λb s' ⟨i,a⟩=>?_) λ_ _ e=>e.elim)))));subst i;exact%[a|av h]
theorem C8{st:SortSt}(c:Cmp prog w A SI (kindOf st) D N)(hi:(arrOf st)[i]? =some x)(a:(arrOf st)[j]? =some y)(b:D x)(d:D y)
 (h:Q (some (decide (N x<N y))) st):(SC prog w A SI) (ltAt' i j) Q st:=by
 exact ar (gG (ar (bo hi (ar (bo a (t9 c b d h))))))
end
noncomputable def fY:Bool->Keyed->Array Keyed->Nat->Nat->Nat->StateT SortSt Sem (Option Nat):=sortPriv% PySem.Builtin.gallop
end SBig
namespace SBig
open PySem PyProof.Rows
section
variable{prog:Program}{w:World}{A:Around}{SI:Shared->Prop}{α β:Type}
noncomputable def cc(N:Keyed->Nat)(left:Bool)(a x:Keyed):Bool:=if left then decide (N x<N a)else !decide (N a<N x)
theorem yL{D:Keyed->Prop}{N:Keyed->Nat}{left:Bool}{a x:Keyed}{b:Array Keyed}{i:Nat}{Q:Option Bool->SortSt->Prop}{st:SortSt}(c:Cmp prog w A SI (kindOf st) D N)(d:D a)(f:b[i]? =some x)(e:D x)
 (h:Q (some (cc N left a x)) st):(SC prog w A SI) (do let x<-elem' b i;if left=true then lt' x a else do let y<-lt' a x;pure (y.map (!·))) Q st:=by
 refine ar (bo f ?_);cases left with
 | true=>
   rw[if_pos rfl];exact t9 c e d h
 | false=>
   rw[if_neg ∅];exact ar (t9 c d e (av h))
noncomputable def ga0(left:Bool)(a:Keyed)(b:Array Keyed)(base i:Nat):StateT SortSt Sem (Option Bool):=do
 let x<-elem' b (base+i)
 if left=true then lt' x a else do
  let y<-lt' a x
  pure (y.map (!·))
noncomputable def gaM(f:Nat->StateT SortSt Sem (Option Bool))(x:Option (Option Nat)×Nat×Nat):StateT SortSt Sem (ForInStep (Option (Option Nat)×Nat×Nat)):=
 if x.2.1>=x.2.2 then pure (.done (none,x.2.1,x.2.2))else do
  match<-f (x.2.1+(x.2.2-x.2.1)/2)with
  | some w=>if w=true then pure (.yield (none,x.2.1+(x.2.2-x.2.1)/2+1,x.2.2))else pure (.yield (none,x.2.1,x.2.1+(x.2.2-x.2.1)/2))
  | _=>pure (.done (some none,x.2.1,x.2.2))
noncomputable def ga3(f:Nat->StateT SortSt Sem (Option Bool))(n lo hi:Nat):StateT SortSt Sem (Option Nat):=do
 let x<-forIn [0:n] (none,lo,hi) λ_ x=>gaM f x
 match x.1 with
 | some r=>pure r
 | none=>pure (some x.2.2)
noncomputable def ga1(f:Nat->StateT SortSt Sem (Option Bool))(n a:Nat)(x:Option (Option Nat)×Nat×Nat):StateT SortSt Sem (ForInStep (Option (Option Nat)×Nat×Nat)):=
 if x.2.2>=n-a then pure (.done (none,x.2.1,x.2.2))else do
  match<-f (a+x.2.2)with
  | some w=>if(!w)=true then pure (.done (none,x.2.1,x.2.2))else pure (.yield (none,x.2.2,2*x.2.2+1))
  | _=>pure (.done (some none,x.2.1,x.2.2))
noncomputable def ga2(f:Nat->StateT SortSt Sem (Option Bool))(a:Nat)(x:Option (Option Nat)×Nat×Nat):StateT SortSt Sem (ForInStep (Option (Option Nat)×Nat×Nat)):=
 if x.2.2>=a+1 then pure (.done (none,x.2.1,x.2.2))else do
  match<-f (a-x.2.2)with
  | some w=>if w=true then pure (.done (none,x.2.1,x.2.2))else pure (.yield (none,x.2.2,2*x.2.2+1))
  | _=>pure (.done (some none,x.2.1,x.2.2))
set_option smartUnfolding false in
theorem GO(left:Bool)(b:Keyed)(c:Array Keyed)(base n a:Nat):fY left b c base n a=(do
 match<-ga0 left b c base a with
 | some w=>
   if w=true then(do
    let x<-forIn [0:n] (none,0,1) λ_ x=>ga1 (ga0 left b c base) n a x
    match x.1 with
    | some r=>pure r
    | none=>ga3 (ga0 left b c base) n (a+x.2.1+1) (a+min x.2.2 (n-a)))
   else(do
    let x<-forIn [0:n] (none,0,1) λ_ x=>ga2 (ga0 left b c base) a x
    match x.1 with
    | some r=>pure r
    | none=>ga3 (ga0 left b c base) n (a+1-min x.2.2 (a+1)) (a-x.2.1))
 | _=>pure none):=rfl
theorem A2{f:Nat->StateT SortSt Sem (Option Bool)}{n lo hi:Nat}{Q:Option Nat->SortSt->Prop}{a:SortSt}{P:Nat->Bool}(ask:∀(i:Nat) (R:Option Bool->SortSt->Prop),i<n->R (some (P i)) a->(SC prog w A SI) (f i) R a)(c:∀i j,i<=j->j<n->P j=true->P i=true)
 (s:lo<=hi) (t:hi<=n) (u:∀i,i<lo->P i=true) (v:∀i,hi<=i->i<n->P i=false)
 (h:∀k,k<=n->(∀i,i<k->P i=true)->(∀i,k<=i->i<n->P i=false)->Q (some k) a):(SC prog w A SI) (ga3 f n lo hi) Q a:=by
 refine ar (bS (bF (Q:=λx b=>b=a/\∃k,x=(none,k,k)/\k<=n/\(∀i,i<k->P i=true)/\(∀i,k<=i->i<n->P i=false))
  (λj x b=>b=a/\∃l k,x=(none,l,k)/\l<=k/\k-l<=n-j/\k<=n/\(∀i,i<l->P i=true)/\(∀i,k<=i->i<n->P i=false)) (Xf _) %[rfl,_,_,rfl,s,⋯,t,u|v] ?_ ?_) ?_)
 .intro j x b _ B %[rfl,l,k,rfl,p,y,d,e|g];unfold gaM;dsimp only;by_cases m:l>=k
  .rw[if_pos m];obtain rfl:l=k:=by lia
   exact av %[rfl,l,rfl,d,e|g]
  .rw[if_neg m];have o:l+(k-l)/2<k:=by lia
   refine ar (ask _ _ ⋯ ?_);dsimp only;cases q:P (l+(k-l)/2)with
   | true=>
     rw[if_pos rfl];exact av %[rfl,_,_,rfl,o,⋯,d,λi hi=>c i _ ⋯ ⋯ q|g]
   | false=>
     rw[if_neg ∅];refine av %[rfl,_,_,rfl,⋯,⋯,⋯,e|λi hi r=>?_];cases z:P i with
     | false=>rfl
     | true=>rw[c _ i hi r z]at q;cases q
 .intro x b %[rfl,l,k,rfl,p,y,d,e|g];obtain rfl:l=k:=by lia
  exact%[rfl,l,rfl,d,e|g]
 .intro x b %[rfl,k,rfl,d,e|g];exact av (h k d e g)
theorem fj{D:Keyed->Prop}{N:Keyed->Nat}{left:Bool}{r:Keyed}{s:Array Keyed}{base n a:Nat}{Q:Option Nat->SortSt->Prop}{st:SortSt}(c:Cmp prog w A SI (kindOf st) D N)(E:D r)
 (G:∀i,i<n->∃x,s[base+i]? =some x/\D x) (P:Nat->Bool) (H:∀i x,i<n->s[base+i]? =some x->P i=cc N left r x) (b:∀i j,i<=j->j<n->P j=true->P i=true) (z:a<n)
 (h:∀k,k<=n->(∀i,i<k->P i=true)->(∀i,k<=i->i<n->P i=false)->Q (some k) st):(SC prog w A SI) (fY left r s base n a) Q st:=by
 have ask:∀(i:Nat) (R:Option Bool->SortSt->Prop),i<n->R (some (P i)) st->(SC prog w A SI) (ga0 left r s base i) R st:=λi R hi I=>by
  have%[x,B|J]:=G i hi;exact yL c E B J (by rw[<-H i x hi B];exact I)
 rw[GO];refine ar (ask a _ z ?_);dsimp only;cases C:P a with
 | true=>
   rw[if_pos rfl];refine ar (bS (bF (Q:=λx e=>e=st/\∃l o,x=(none,l,o)/\l<o/\a+l<n/\P (a+l)=true/\(n-a<=o\/(a+o<n/\P (a+o)=false)))
    (λj x e=>e=st/\∃l o,x=(none,l,o)/\l<o/\a+l<n/\P (a+l)=true/\j<o) (Xf _) %[rfl,0,1,rfl,one_pos,z,C|one_pos] ?_ ?_) ?_)
   .intro j x e _ L %[rfl,l,o,rfl,f,d,m|t];unfold ga1;dsimp only;by_cases g:o>=n-a
    .rw[if_pos g];exact av %[rfl,l,o,rfl,f,d,m|.inl g]
    .rw[if_neg g];have p:a+o<n:=by lia
     refine ar (ask _ _ p ?_);dsimp only;cases q:P (a+o)with
     | true=>
       rw[if_neg ∅];exact av %[rfl,o,_,rfl,⋯,p,q|⋯]
     | false=>
       rw[if_pos ∅];exact av %[rfl,l,o,rfl,f,d,m|.inr %[p|q]]
   .intro x e %[rfl,l,o,rfl,f,d,m|t];exact%[rfl,l,o,rfl,f,d,m|.inl ⋯]
   .intro x v %[rfl,l,o,rfl,f,d,m|p];refine A2 ask b ⋯ ⋯ (λi hi=>b i _ ⋯ d m) (λi hi u=>?_) h;rcases p with p|⟨p,q⟩
    .lia
    .cases y:P i with
     | false=>rfl
     | true=>rw[b _ i ⋯ u y]at q;cases q
 | false=>
   rw[if_neg ∅];refine ar (bS (bF (Q:=λx e=>e=st/\∃l o,x=(none,l,o)/\l<o/\l<=a/\P (a-l)=false/\(a+1<=o\/(o<=a/\P (a-o)=true)))
    (λj x e=>e=st/\∃l o,x=(none,l,o)/\l<o/\l<=a/\P (a-l)=false/\j<o) (Xf _) %[rfl,0,1,rfl,one_pos,Xf _,C|one_pos] ?_ ?_) ?_)
   .intro j x e _ L %[rfl,l,o,rfl,f,d,m|t];unfold ga2;dsimp only;by_cases g:o>=a+1
    .rw[if_pos g];exact av %[rfl,l,o,rfl,f,d,m|.inl g]
    .rw[if_neg g];have p:o<=a:=by lia
     refine ar (ask _ _ ⋯ ?_);dsimp only;cases q:P (a-o)with
     | false=>
       rw[if_neg ∅];exact av %[rfl,o,_,rfl,⋯,p,q|⋯]
     | true=>
       rw[if_pos rfl];exact av %[rfl,l,o,rfl,f,d,m|.inr %[p|q]]
   .intro x e %[rfl,l,o,rfl,f,d,m|t];exact%[rfl,l,o,rfl,f,d,m|.inl ⋯]
   .intro x v %[rfl,l,o,rfl,f,d,m|p];refine A2 ask b ⋯ ⋯ (λi hi=>?_) (λi hi u=>?_) h
    .rcases p with p|⟨p,q⟩
     .lia
     .exact b i _ ⋯ ⋯ q
    .cases y:P i with
     | false=>rfl
     | true=>rw[b _ i ⋯ u y]at m;cases m
end
end SBig
namespace SBig
open PySem PyProof.Rows
noncomputable def oi:Array Keyed->Array Keyed->StateT SortSt Sem (Array Keyed):=sortPriv% PySem.Builtin.mergeLo
noncomputable def oj:Array Keyed->Array Keyed->StateT SortSt Sem (Array Keyed):=sortPriv% PySem.Builtin.mergeHi
noncomputable def c8:Nat->StateT SortSt Sem Unit:=sortPriv% PySem.Builtin.setMinGallop
theorem gT(g:Nat):c8 g=modify (λs=>SortSt.mk' (kindOf s) (arrOf s) (pendingOf s) g (failedOf s)):=rfl
def Srt(N:Keyed->Nat)(l:List Keyed):Prop:=l.Pairwise λx y=>N x<=N y
theorem Srt.drop{N:Keyed->Nat}{l:List Keyed}(h:Srt N l)(k:Nat):Srt N (l.drop k):=List.Pairwise.sublist (List.drop_sublist _ _) h
theorem Srt.le{N:Keyed->Nat}{l:List Keyed}(h:Srt N l){i j:Nat}{x y:Keyed}(a:i<=j)(b:l[i]? =some x)(c:l[j]? =some y):N x<=N y:=by
 rcases Nat.eq_or_lt_of_le a with e|e
 .simp_all
 .have%[d|g]:=Xn b;have%[f|m]:=Xn c;have:=pairwise_iff_getElem.mp h i j d f e
  simp_all
theorem bX{l:List Keyed}{k:Nat}{y:Keyed}(h:y∈l.drop k):∃j,k<=j/\j<l.length/\l[j]? =some y:=by
 have%[i|hi]:=Xg h;rw[Yb]at hi;exact%[k+i,⋯,(Xn hi).1|hi]
theorem mN{l:List Keyed}{i k:Nat}{x:Keyed}(h:x∈(l.drop i).take k):∃j,j<k/\l[i+j]? =some x:=by
 have%[j|a]:=Xg h;rw[Yc]at a
 split at a
 .rw[Yb]at a;exact%[j,by assumption|a]
 .cases a
theorem Srt.drop_le{N:Keyed->Nat}{l:List Keyed}(h:Srt N l){i:Nat}{x y:Keyed}(a:l[i]? =some x)(b:y∈l.drop i):N x<=N y:=by
 have%[j,c,_|e]:=bX b;exact h.le c a e
structure MI (N:Keyed->Nat) (A B out:List Keyed) (ia ib:Nat):Prop where
 perm:(out++A.drop ia++B.drop ib).Perm (A++B)
 srt:Srt N out
 ca:∀x∈out,∀y∈A.drop ia,N x<=N y
 cb:∀x∈out,∀y∈B.drop ib,N x<=N y
theorem MI.zero(N:Keyed->Nat)(A B:List Keyed):MI N A B [] 0 0:=%[by simp,List.Pairwise.nil,λ_ h=>(nomatch h)|λ_ h=>(nomatch h)]
theorem MI.takeA{N:Keyed->Nat}{A B out:List Keyed}{b d:Nat}(h:MI N A B out b d)(g:Srt N A)(k:Nat)(f:∀x∈(A.drop b).take k,∀y∈B.drop d,N x<=N y):MI N A B (out++(A.drop b).take k) (b+k) d:=by
 have e:A.drop b=(A.drop b).take k++A.drop (b+k):=by rw[<-drop_drop];exact(Xc k _).symm
 have i:((A.drop b).take k++A.drop (b+k)).Pairwise λx y=>N x<=N y:=by rw[<-e];exact g.drop b
 have%[j,_|l]:=pairwise_append.mp i;refine%[?_,pairwise_append.mpr %[h.srt,j|λx a y c=>h.ca x a y (Yy c)],λx a y c=>?_|λx a y c=>?_]
 .have p:=h.perm;rw[e]at p;rwa[<-Ze]at p
 .rcases Xo a with a|a
  .exact h.ca x a y (by rw[e];exact Yv _ c)
  .exact l x a y c
 .rcases Xo a with a|a
  .exact h.cb x a y c
  .exact f x a y c
theorem MI.takeB{N:Keyed->Nat}{A B out:List Keyed}{d b:Nat}(h:MI N A B out d b)(g:Srt N B)(k:Nat)(f:∀x∈(B.drop b).take k,∀y∈A.drop d,N x<=N y):MI N A B (out++(B.drop b).take k) d (b+k):=by
 have e:B.drop b=(B.drop b).take k++B.drop (b+k):=by rw[<-drop_drop];exact(Xc k _).symm
 have i:((B.drop b).take k++B.drop (b+k)).Pairwise λx y=>N x<=N y:=by rw[<-e];exact g.drop b
 have%[j,_|l]:=pairwise_append.mp i;refine%[?_,pairwise_append.mpr %[h.srt,j|λx a y c=>h.cb x a y (Yy c)],λx a y c=>?_|λx a y c=>?_]
 .have p:=h.perm;rw[e]at p;refine List.Perm.trans ?_ p;rw[Ze,Ze,Ze];refine List.Perm.append_left _ ?_;rw[<-Ze,<-Ze];exact Xl _ perm_append_comm
 .rcases Xo a with a|a
  .exact h.ca x a y c
  .exact f x a y c
 .rcases Xo a with a|a
  .exact h.cb x a y (by rw[e];exact Yv _ c)
  .exact l x a y c
def cu(N:Keyed->Nat)(A B r:List Keyed):Prop:=Srt N r/\r.Perm (A++B)
theorem MI.done{N:Keyed->Nat}{A B out:List Keyed}{a b:Nat}(h:MI N A B out a b)(e:Srt N A)(f:Srt N B)(g:∀x∈A.drop a,∀y∈B.drop b,N x<=N y):cu N A B (out++A.drop a++B.drop b):=
 %[pairwise_append.mpr %[pairwise_append.mpr %[h.srt,e.drop a|h.ca],f.drop b|λx c y d=>(Xo c).elim (λq=>h.cb x q y d) λq=>g x q y d]|h.perm]
theorem MI.last{N:Keyed->Nat}{A B out:List Keyed}{a b:Nat}(h:MI N A B out a b)(e:Srt N A)(f:Srt N B)(g:∀y∈B.drop b,∀x∈A.drop a,N y<=N x):cu N A B (out++B.drop b++A.drop a):=by
 refine%[pairwise_append.mpr %[pairwise_append.mpr %[h.srt,f.drop b|h.cb],e.drop a|λx c y d=>(Xo c).elim (λq=>h.ca x q y d) λq=>g x q y d]|List.Perm.trans ?_ h.perm];rw[Ze,Ze];exact List.Perm.append_left _ perm_append_comm
theorem kI{l:List Keyed}{i:Nat}{x:Keyed}(h:l[i]? =some x):(l.drop i).take 1=[x]:=by
 have%[a|e]:=Xn h;rw[List.drop_eq_getElem_cons a,e];rfl
theorem MI.oneA{N:Keyed->Nat}{A B out:List Keyed}{a b:Nat}{x:Keyed}(h:MI N A B out a b)(e:Srt N A)(d:A[a]? =some x)(c:∀y∈B.drop b,N x<=N y):MI N A B (out++[x]) (a+1) b:=by
 have:=h.takeA e 1 (by rw[kI d];intro z f;rw[Xp f];exact c);rwa[kI d]at this
theorem MI.oneB{N:Keyed->Nat}{A B out:List Keyed}{a b:Nat}{x:Keyed}(h:MI N A B out a b)(e:Srt N B)(d:B[b]? =some x)(c:∀y∈A.drop a,N x<=N y):MI N A B (out++[x]) a (b+1):=by
 have:=h.takeB e 1 (by rw[kI d];intro z f;rw[Xp f];exact c);rwa[kI d]at this
theorem jb(a:Array Keyed)(i j:Nat):(a.extract i j).toList=(a.toList.drop i).take (j-i):=by
 rw[toList_extract,Y0]
theorem nB(a:Array Keyed)(i:Nat):(a.extract i a.size).toList=a.toList.drop i:=by
 rw[jb,Zn];rw[Yi,Zb];exact Zi _
def SG(st a:SortSt):Prop:=kindOf a=kindOf st/\arrOf a=arrOf st/\pendingOf a=pendingOf st/\failedOf a=failedOf st
theorem SG.refl(st:SortSt):SG st st:=%[rfl,rfl,rfl|rfl]
theorem SG.set{st a:SortSt}(h:SG st a)(g:Nat):SG st (SortSt.mk' (kindOf a) (arrOf a) (pendingOf a) g (failedOf a)):=h
end SBig
namespace SBig
open PySem PyProof.Rows
section
variable{prog:Program}{w:World}{A:Around}{SI:Shared->Prop}{α β:Type}
theorem aX{a:Array Keyed}{i:Nat}(h:i<a.size):a[i]? =some a[i]/\a.toList[i]? =some a[i]:=%[by simp|by simp]
theorem sw(a:Array Keyed)(i k:Nat):(a.extract i (i+k)).toList=(a.toList.drop i).take k:=by
 rw[jb,Zw]
theorem qP{N:Keyed->Nat}{a:Array Keyed}{b:Nat}{c d:Keyed}(g:Srt N a.toList){i j:Nat}(m:i<=j)(f:b+j<a.size)(h:cc N false c (a.getD (b+j) d)=true):cc N false c (a.getD (b+i) d)=true:=by
 have e:∀(i:Nat) (hi:b+i<a.size),a.getD (b+i) d=a[b+i]:=λi hi=>by simp[Array.getD,hi]
 rw[e j f]at h;rw[e i ⋯];have l:=g.le (i:=b+i) (j:=b+j) ⋯ (aX ⋯).2 (aX f).2;unfold cc at h ⊢;simp only[Y1,if_false,Bool.not_eq_true',decide_eq_false_iff_not]at h ⊢;omega
theorem qQ{N:Keyed->Nat}{a:Array Keyed}{b:Nat}{c d:Keyed}(g:Srt N a.toList){i j:Nat}(m:i<=j)(f:b+j<a.size)(h:cc N true c (a.getD (b+j) d)=true):cc N true c (a.getD (b+i) d)=true:=by
 have e:∀(i:Nat) (hi:b+i<a.size),a.getD (b+i) d=a[b+i]:=λi hi=>by simp[Array.getD,hi]
 rw[e j f]at h;rw[e i ⋯];have l:=g.le (i:=b+i) (j:=b+j) ⋯ (aX ⋯).2 (aX f).2;unfold cc at h ⊢;simp only[if_true,decide_eq_true_eq]at h ⊢;omega
theorem GP{N:Keyed->Nat}{a:Array Keyed}{c n k:Nat}{b d:Keyed}(f:∀i,i<k->cc N false b (a.getD (c+i) d)=true)(g:∀i,k<=i->i<n->cc N false b (a.getD (c+i) d)=false):
 (∀i x,i<k->a[c+i]? =some x->N x<=N b)/\∀i x,k<=i->i<n->a[c+i]? =some x->N b<N x:=by
 refine%[λi x hi e=>?_|λi x hi h e=>?_]
 .have:=f i hi;rw[Zs,e]at this;unfold cc at this;simpa using this
 .have:=g i hi h;rw[Zs,e]at this;unfold cc at this;simpa using this
theorem GQ{N:Keyed->Nat}{a:Array Keyed}{c n k:Nat}{b d:Keyed}(f:∀i,i<k->cc N true b (a.getD (c+i) d)=true)(g:∀i,k<=i->i<n->cc N true b (a.getD (c+i) d)=false):
 (∀i x,i<k->a[c+i]? =some x->N x<N b)/\∀i x,k<=i->i<n->a[c+i]? =some x->N b<=N x:=by
 refine%[λi x hi e=>?_|λi x hi h e=>?_]
 .have:=f i hi;rw[Zs,e]at this;unfold cc at this;simpa using this
 .have:=g i hi h;rw[Zs,e]at this;unfold cc at this;simpa using this
structure ML (N:Keyed->Nat) (a b out:Array Keyed) (ia ib:Nat):Prop where
 mi:MI N a.toList b.toList out.toList ia ib
 na:ia+1<a.size
 nb:ib<b.size
noncomputable def lo3(a b out:Array Keyed)(c d g k k1:Nat):StateT SortSt Sem (ForInStep (Option (Array Keyed)×Array Keyed×Nat×Nat×Nat×Nat×Nat)):=do
 let e<-elem' a c
 if(c+1+1==a.size)=true then pure (.done (some (out.push e++b.extract d b.size++a.extract (c+1) a.size),out.push e,c+1,d,g,k,k1))
 else if(decide (k<7)&&decide (k1<7))=true then pure (.done (none,out.push e,c+1,d,g,k,k1))else pure (.yield (none,out.push e,c+1,d,g,k,k1))
noncomputable def lo2(a b out:Array Keyed)(d c g k f:Nat):StateT SortSt Sem (ForInStep (Option (Array Keyed)×Array Keyed×Nat×Nat×Nat×Nat×Nat)):=do
 let e<-elem' b c
 if(c+1==b.size)=true then pure (.done (some (out.push e++a.extract d a.size++b.extract (c+1) b.size),out.push e,d,c+1,g,k,f))
 else do
  let h<-elem' a d
  match<-fY true h b (c+1) (b.size-(c+1)) 0 with
  | some k1=>if k1>0 then if(c+1+k1==b.size)=true then pure (.done (some (out.push e++b.extract (c+1) (c+1+k1) ++a.extract d a.size++b.extract (c+1+k1) b.size),out.push e++b.extract (c+1) (c+1+k1),d,c+1+k1,g,k,k1))else lo3 a b (out.push e++b.extract (c+1) (c+1+k1)) d (c+1+k1) g k k1 else lo3 a b (out.push e) d (c+1) g k k1
  | _=>pure (.done (some (out.push e++a.extract d a.size++b.extract (c+1) b.size),out.push e,d,c+1,g,k,f))
noncomputable def lo1(a b out:Array Keyed)(c d h f g:Nat):StateT SortSt Sem (ForInStep (Option (Array Keyed)×Array Keyed×Nat×Nat×Nat×Nat×Nat)):=do
 c8 g
 let e<-elem' b d
 match<-fY false e a c (a.size-c) 0 with
 | some k=>if k>0 then if(c+k+1==a.size)=true then pure (.done (some (out++a.extract c (c+k) ++b.extract d b.size++a.extract (c+k) a.size),out++a.extract c (c+k),c+k,d,g,k,f))else if(c+k==a.size)=true then pure (.done (some (out++a.extract c (c+k) ++a.extract (c+k) a.size++b.extract d b.size),out++a.extract c (c+k),c+k,d,g,k,f))else lo2 a b (out++a.extract c (c+k)) (c+k) d g k f else lo2 a b out c d g k f
 | _=>pure (.done (some (out++a.extract c a.size++b.extract d b.size),out,c,d,g,h,f))
noncomputable def loI(a b out:Array Keyed)(c d g f h:Nat):StateT SortSt Sem (ForInStep (Option (Array Keyed)×Array Keyed×Nat×Nat×Nat×Nat)):=do
 let i<-elem' b d
 let j<-elem' a c
 match<-lt' i j with
 | some w=>
   if w=true then(do
    let e<-elem' b d
    if(d+1==b.size)=true then pure (.done (some (out.push e++a.extract c a.size++b.extract (d+1) b.size),out.push e,c,d+1,0,h+1))
    else if h+1>=g then pure (.done (none,out.push e,c,d+1,0,h+1))else pure (.yield (none,out.push e,c,d+1,0,h+1)))
   else(do
    let e<-elem' a c
    if(c+1+1==a.size)=true then pure (.done (some (out.push e++b.extract d b.size++a.extract (c+1) a.size),out.push e,c+1,d,f+1,0))
    else if f+1>=g then pure (.done (none,out.push e,c+1,d,f+1,0))else pure (.yield (none,out.push e,c+1,d,f+1,0)))
 | _=>pure (.done (some (out++a.extract c a.size++b.extract d b.size),out,c,d,f,h))
noncomputable def loG(a b:Array Keyed):Option (Array Keyed)×Array Keyed×Nat×Nat×Nat×Nat×Nat->StateT SortSt Sem (ForInStep (Option (Array Keyed)×Array Keyed×Nat×Nat×Nat×Nat×Nat)):=λx=>
 if x.2.2.2.2.1>1 then lo1 a b x.2.1 x.2.2.1 x.2.2.2.1 x.2.2.2.2.2.1 x.2.2.2.2.2.2 (x.2.2.2.2.1-1)else lo1 a b x.2.1 x.2.2.1 x.2.2.2.1 x.2.2.2.2.2.1 x.2.2.2.2.2.2 x.2.2.2.2.1
noncomputable def loE(x:Option (Array Keyed)×Array Keyed×Nat×Nat×Nat×Nat×Nat):StateT SortSt Sem (ForInStep (Option (Array Keyed)×Array Keyed×Nat×Nat×Nat)):=
 match x.1 with
 | some r=>pure (.done (some r,x.2.1,x.2.2.1,x.2.2.2.1,x.2.2.2.2.1))
 | none=>do
   c8 (x.2.2.2.2.1+1)
   pure (.yield (none,x.2.1,x.2.2.1,x.2.2.2.1,x.2.2.2.2.1+1))
noncomputable def loF(a b:Array Keyed)(g:Nat)(x:Option (Array Keyed)×Array Keyed×Nat×Nat×Nat×Nat):StateT SortSt Sem (ForInStep (Option (Array Keyed)×Array Keyed×Nat×Nat×Nat)):=
 match x.1 with
 | some r=>pure (.done (some r,x.2.1,x.2.2.1,x.2.2.2.1,g))
 | none=>do
   rule "list.sort.gallop"
   let x<-forIn [0:a.size+b.size] (none,x.2.1,x.2.2.1,x.2.2.2.1,g+1,x.2.2.2.2.1,x.2.2.2.2.2) λ_ x=>loG a b x
   loE x
noncomputable def loO(a b:Array Keyed):Option (Array Keyed)×Array Keyed×Nat×Nat×Nat->StateT SortSt Sem (ForInStep (Option (Array Keyed)×Array Keyed×Nat×Nat×Nat)):=λx=>do
 let y<-forIn [0:a.size+b.size] (none,x.2.1,x.2.2.1,x.2.2.2.1,0,0) λ_ y=>loI a b y.2.1 y.2.2.1 y.2.2.2.1 x.2.2.2.2 y.2.2.2.2.1 y.2.2.2.2.2
 loF a b x.2.2.2.2 y
noncomputable def loR(x:Option (Array Keyed)×Array Keyed×Nat×Nat×Nat):StateT SortSt Sem (Array Keyed):=
 match x.1 with
 | some r=>pure r
 | none=>unsupported "internal:list.sort.merge-bound"
set_option smartUnfolding false in
theorem GR(a b:Array Keyed):oi a b=(do
 rule "list.sort.merge-lo"
 let e<-elem' b 0
 if(1==b.size)=true then pure (#[e] ++a.extract 0 a.size++b.extract 1 b.size)
 else if(0+1==a.size)=true then pure (#[e] ++b.extract 1 b.size++a.extract 0 a.size)
 else do
  let s<-get
  let x<-forIn [0:a.size+b.size] (none,#[e],0,1,gallopOf s) λ_ x=>loO a b x
  loR x):=by
 rfl
theorem SG.trans{s t u:SortSt}(h:SG s t)(k:SG t u):SG s u:=%[k.1.trans h.1,k.2.1.trans h.2.1,k.2.2.1.trans h.2.2.1|k.2.2.2.trans h.2.2.2]
theorem A3{N:Keyed->Nat}{a b out:Array Keyed}{c d g k k1 z:Nat}{R:ForInStep (Option (Array Keyed)×Array Keyed×Nat×Nat×Nat×Nat×Nat)->SortSt->Prop}{st:SortSt}(n:Srt N a.toList)(m:MI N a.toList b.toList out.toList c d)(na:c+1<a.size)(nb:d<b.size)(e:∀y∈b.toList.drop d,N (a[c]'⋯)<=N y)(p:z<=out.size+1)
 (q:∀(out:Array Keyed) (c d:Nat),MI N a.toList b.toList out.toList c d->c+1=a.size->cu N a.toList b.toList (out++b.extract d b.size++a.extract c a.size).toList)
 (s:∀r o,cu N a.toList b.toList r.toList->R (.done (some r,o)) st) (t:∀out c d g k k1,ML N a b out c d->z<=out.size->R (.done (none,out,c,d,g,k,k1)) st/\R (.yield (none,out,c,d,g,k,k1)) st):(SC prog w A SI) (lo3 a b out c d g k k1) R st:=by
 have%[u|f]:=aX (a:=a) (i:=c) ⋯;unfold lo3;refine ar (bo u ?_);have j:=MI.oneA m n f e;rw[<-toList_push]at j;by_cases l:c+1+1=a.size
 .rw[if_pos (by simp[l])];exact av (s _ _ (q _ _ _ j l))
 rw[if_neg (by simp[l])];have h:=t _ _ _ g k k1 (ML.mk (a:=a) (b:=b) j ⋯ nb) (by rw[Xj];exact p)
 split
 .exact av h.1
 .exact av h.2
theorem A4{D:Keyed->Prop}{N:Keyed->Nat}{a b out:Array Keyed}{f d g k Q z:Nat}{R:ForInStep (Option (Array Keyed)×Array Keyed×Nat×Nat×Nat×Nat×Nat)->SortSt->Prop}{st:SortSt}(c:Cmp prog w A SI (kindOf st) D N)(p:Srt N a.toList)(q:Srt N b.toList)(T:∀{i:Nat} (hi:i<a.size),D a[i])(U:∀{i:Nat} (hi:i<b.size),D b[i])(m:MI N a.toList b.toList out.toList f d)(na:f+1<a.size)(nb:d<b.size)(s:∀y∈a.toList.drop f,N b[d]<=N y)(hz:z<=out.size+2)
 (G:∀(out:Array Keyed) (f d:Nat),MI N a.toList b.toList out.toList f d->(a.size<=f\/b.size<=d)->cu N a.toList b.toList (out++a.extract f a.size++b.extract d b.size).toList)
 (H:∀(out:Array Keyed) (f d:Nat),MI N a.toList b.toList out.toList f d->f+1=a.size->cu N a.toList b.toList (out++b.extract d b.size++a.extract f a.size).toList)
 (l:∀r o,cu N a.toList b.toList r.toList->R (.done (some r,o)) st) (I:∀out f d g k k1,ML N a b out f d->z<=out.size->R (.done (none,out,f,d,g,k,k1)) st/\R (.yield (none,out,f,d,g,k,k1)) st):(SC prog w A SI) (lo2 a b out f d g k Q) R st:=by
 have%[Y|t]:=aX (a:=b) (i:=d) nb;have%[ea|u]:=aX (a:=a) (i:=f) ⋯;unfold lo2;refine ar (bo Y ?_);have n:=MI.oneB m q t s;rw[<-toList_push]at n;by_cases J:d+1=b.size
 .rw[if_pos (by simp[J])];exact av (l _ _ (G _ _ _ n (.inr ⋯)))
 rw[if_neg (by simp[J])];refine ar (bo ea ?_);refine ar (fj c (T ⋯) (λi hi=>%[b[d+1+i]'⋯,(aX ⋯).1|U ⋯]) (λi=>cc N true (a[f]'⋯) (b.getD (d+1+i) b[d]))
  (λi x hi v=>by rw[Zs,v];rfl) (λi i' B hi hp=>qQ q B ⋯ hp) ⋯ λk2 ab p3 p4=>?_)
 dsimp only;have L:=GQ p3 p4;have h:∀y∈b.toList.drop (d+1+k2),N (a[f]'⋯)<=N y:=λy C=>by
  have%[j,h1,h2|e]:=bX C;rw[Zb]at h2;exact L.2 (j-(d+1)) y ⋯ ⋯ (by rw[show d+1+(j-(d+1))=j by lia];simpa using e)
 have E:=n.takeB q k2 (λx v y C=>by
  have%[i,hi|e]:=mN v;exact Yh (Yf (L.1 i x hi (by simpa using e))) (p.drop_le u C))
 by_cases M:k2>0
 .rw[if_pos M];rw[<-sw,<-Xe]at E;by_cases O:d+1+k2=b.size
  .rw[if_pos (by simp[O])];exact av (l _ _ (G _ _ _ E (.inr ⋯)))
  rw[if_neg (by simp[O])];exact A3 p E na ⋯ h (by simp;lia) H l I
 .rw[if_neg M];obtain rfl:k2=0:=by lia
  exact A3 p n na ⋯ h (by rw[Xj];lia) H l I
theorem Fy{D:Keyed->Prop}{N:Keyed->Nat}{a b out:Array Keyed}{d f T U g z:Nat}{R:ForInStep (Option (Array Keyed)×Array Keyed×Nat×Nat×Nat×Nat×Nat)->SortSt->Prop}{st:SortSt}(c:Cmp prog w A SI (kindOf st) D N)(q:Srt N a.toList)(t:Srt N b.toList)(u:∀{i:Nat} (hi:i<a.size),D a[i])(v:∀{i:Nat} (hi:i<b.size),D b[i])(m:ML N a b out d f)(Y:z<=out.size+2)
 (B:∀(out:Array Keyed) (d f:Nat),MI N a.toList b.toList out.toList d f->(a.size<=d\/b.size<=f)->cu N a.toList b.toList (out++a.extract d a.size++b.extract f b.size).toList)
 (C:∀(out:Array Keyed) (d f:Nat),MI N a.toList b.toList out.toList d f->d+1=a.size->cu N a.toList b.toList (out++b.extract f b.size++a.extract d a.size).toList)
 (s:∀h r o,SG st h->cu N a.toList b.toList r.toList->R (.done (some r,o)) h) (M:∀h out d f g k k1,SG st h->ML N a b out d f->z<=out.size->R (.done (none,out,d,f,g,k,k1)) h/\R (.yield (none,out,d,f,g,k,k1)) h):(SC prog w A SI) (lo1 a b out d f T U g) R st:=by
 have l:=m.nb;have E:=m.na;have%[eb|G]:=aX (a:=b) (i:=f) l;unfold lo1;rw[gT];refine ar (cH ?_);have sg:=(SG.refl st).set g;refine ar (bo eb ?_);refine ar (fj (by rw[show kindOf _=kindOf st from sg.1];exact c) (v l) (λi hi=>%[a[d+i]'⋯,(aX ⋯).1|u ⋯]) (λi=>cc N false b[f] (a.getD (d+i) b[f]))
  (λi x hi H=>by rw[Zs,H];rfl) (λi i' I hi hp=>qP q I ⋯ hp) ⋯ λk hk p1 p2=>?_)
 dsimp only;have O:=GP p1 p2;have mk:=m.mi.takeA q k (λx H y J=>by
  have%[i,hi|e]:=mN H;exact Yh (O.1 i x hi (by simpa using e)) (t.drop_le G J))
 have n:∀y∈a.toList.drop (d+k),N b[f]<=N y:=λy J=>by
  have%[j,h1,h2|e]:=bX J;rw[Zb]at h2;exact Yf (O.2 (j-d) y ⋯ ⋯ (by rw[show d+(j-d)=j by lia];simpa using e))
 by_cases p:k>0
 .rw[if_pos p];rw[<-sw,<-Xe]at mk;by_cases L:d+k+1=a.size
  .rw[if_pos (by simp[L])];exact av (s _ _ _ sg (C _ _ _ mk L))
  rw[if_neg (by simp[L])];by_cases Q:d+k=a.size
  .rw[if_pos (by simp[Q])];exact av (s _ _ _ sg (B _ _ _ mk (.inl ⋯)))
  rw[if_neg (by simp[Q])];exact A4 (by rw[show kindOf _=kindOf st from sg.1];exact c) q t u v mk ⋯ l n (by simp;lia) B C (λr o=>s _ r o sg) λout d f g k k1=>M _ out d f g k k1 sg
 .rw[if_neg p];obtain rfl:k=0:=by lia
  exact A4 (by rw[show kindOf _=kindOf st from sg.1];exact c) q t u v m.mi E l n Y B C (λr o=>s _ r o sg) λout d f g k k1=>M _ out d f g k k1 sg
theorem Fz{D:Keyed->Prop}{N:Keyed->Nat}{a b out:Array Keyed}{d e g l n z:Nat}{R:ForInStep (Option (Array Keyed)×Array Keyed×Nat×Nat×Nat×Nat)->SortSt->Prop}{st:SortSt}(c:Cmp prog w A SI (kindOf st) D N)(B:Srt N a.toList)(C:Srt N b.toList)(L:∀{i:Nat} (hi:i<a.size),D a[i])(M:∀{i:Nat} (hi:i<b.size),D b[i])(m:ML N a b out d e)(E:z<=out.size+1)
 (O:∀(out:Array Keyed) (d e:Nat),MI N a.toList b.toList out.toList d e->(a.size<=d\/b.size<=e)->cu N a.toList b.toList (out++a.extract d a.size++b.extract e b.size).toList)
 (Q:∀(out:Array Keyed) (d e:Nat),MI N a.toList b.toList out.toList d e->d+1=a.size->cu N a.toList b.toList (out++b.extract e b.size++a.extract d a.size).toList)
 (G:∀r o,cu N a.toList b.toList r.toList->R (.done (some r,o)) st) (H:∀out d e l n,ML N a b out d e->z<=out.size->R (.done (none,out,d,e,l,n)) st/\R (.yield (none,out,d,e,l,n)) st):(SC prog w A SI) (loI a b out d e g l n) R st:=by
 have u:=m.na;have j:=m.nb;have p:d<a.size:=by lia
 have%[I|s]:=aX (a:=a) (i:=d) p;have%[J|t]:=aX (a:=b) (i:=e) j;unfold loI;refine ar (bo J (ar (bo I (ar (t9 c (M j) (L p) ?_)))));dsimp only;by_cases f:N b[e]<N a[d]
 .rw[Zf f,if_pos rfl];refine ar (bo J ?_);have m2:=m.mi.oneB C t λy v=>Yh (Yf f) (B.drop_le s v)
  rw[<-toList_push]at m2;by_cases q:e+1=b.size
  .rw[if_pos (by simp[q])];exact av (G _ _ (O _ _ _ m2 (.inr ⋯)))
  rw[if_neg (by simp[q])];have h:=H _ _ _ 0 (n+1) %[m2,u|⋯] (by rw[Xj];exact E)
  split
  .exact av h.1
  .exact av h.2
 .rw[Zh f,if_neg ∅];refine ar (bo I ?_);have m2:=m.mi.oneA B s λy v=>Yh (Nat.le_of_not_lt f) (C.drop_le t v)
  rw[<-toList_push]at m2;by_cases q:d+1+1=a.size
  .rw[if_pos (by simp[q])];exact av (G _ _ (Q _ _ _ m2 q))
  rw[if_neg (by simp[q])];have h:=H _ _ _ (l+1) 0 %[m2,⋯|j] (by rw[Xj];exact E)
  split
  .exact av h.1
  .exact av h.2
theorem FA{D:Keyed->Prop}{N:Keyed->Nat}{a b out:Array Keyed}{e f g j:Nat}{q:Option (Array Keyed)}{R:ForInStep (Option (Array Keyed)×Array Keyed×Nat×Nat×Nat)->SortSt->Prop}{st:SortSt}(c:Cmp prog w A SI (kindOf st) D N)(y:Srt N a.toList)(B:Srt N b.toList)(C:∀{i:Nat} (hi:i<a.size),D a[i])(E:∀{i:Nat} (hi:i<b.size),D b[i])(m:ML N a b out e f)(n:j+1<=out.size)
 (G:∀(out:Array Keyed) (e f:Nat),MI N a.toList b.toList out.toList e f->(a.size<=e\/b.size<=f)->cu N a.toList b.toList (out++a.extract e a.size++b.extract f b.size).toList)
 (H:∀(out:Array Keyed) (e f:Nat),MI N a.toList b.toList out.toList e f->e+1=a.size->cu N a.toList b.toList (out++b.extract f b.size++a.extract e a.size).toList)
 (I:∀l r o,SG st l->cu N a.toList b.toList r.toList->R (.done (some r,o)) l) (J:∀l out e f g,SG st l->ML N a b out e f->j+2<=out.size->R (.yield (none,out,e,f,g)) l):(SC prog w A SI) (loO a b (q,out,e,f,g)) R st:=by
 have L:=m.na;unfold loO;refine ar (bS (bF (Q:=λx l=>SG st l/\((∃r o,x=(some r,o)/\cu N a.toList b.toList r.toList)\/∃out e f p s,x=(none,out,e,f,p,s)/\ML N a b out e f/\j+2<=out.size))
  (λj2 x l=>SG st l/\∃out e f p s,x=(none,out,e,f,p,s)/\ML N a b out e f/\j+1+j2<=out.size) (Xf _) %[SG.refl _,_,_,_,_,_,rfl,m|n] ?_ ?_) ?_)
 .intro j2 x t _ u %[d,out,e,f,p,s,rfl,m|n];exact Fz (z:=j+1+(j2+1)) (by rw[d.1];exact c) y B C E m ⋯ G H (λr o h=>%[d|.inl %[r,o,rfl|h]]) λout e f p s h z=>%[%[d|.inr %[_,_,_,_,_,rfl,h|⋯]],d,_,_,_,_,_,rfl,h|z]
 .intro x t %[d,out,e,f,p,s,rfl,m|n];exact%[d|.inr %[_,_,_,_,_,rfl,m|⋯]]
 .rintro x t ⟨d,⟨r,o,rfl,v⟩|⟨out,e,f,p,s,rfl,m,n⟩⟩
  .exact av (I _ r _ d v)
  .refine ar (jv ?_);refine ar (bS (bF (Q:=λx l=>SG st l/\((∃r o,x=(some r,o)/\cu N a.toList b.toList r.toList)\/∃out e f g p s,x=(none,out,e,f,g,p,s)/\ML N a b out e f/\j+2<=out.size))
    (λj2 x l=>SG st l/\∃out e f g p s,x=(none,out,e,f,g,p,s)/\ML N a b out e f/\j+2<=out.size) (Xf _) %[d,_,_,_,_,_,_,rfl,m|n] ?_ ?_) ?_)
   .intro j2 x t _ u %[d,out,e,f,g,p,s,rfl,m|n];unfold loG;rw[<-apply_ite (lo1 _ _ _ _ _ _ _)];exact Fy (z:=j+2) (by rw[d.1];exact c) y B C E m ⋯ G H (λl r o sg h=>%[SG.trans d sg|.inl %[r,o,rfl|h]]) λl out e f g k k1 sg h z=>%[%[SG.trans d sg|.inr %[_,_,_,_,_,_,rfl,h|z]],SG.trans d sg,_,_,_,_,_,_,rfl,h|z]
   .intro x t %[d,out,e,f,g,p,s,rfl,m|n];exact%[d|.inr %[_,_,_,_,_,_,rfl,m|⋯]]
   .rintro x t ⟨d,⟨r,o,rfl,v⟩|⟨out,e,f,g,p,s,rfl,m,n⟩⟩
    .exact av (I _ r _ d v)
    .exact ar (cH (av (J _ _ _ _ _ (d.set _) m n)))
theorem v4{D:Keyed->Prop}{N:Keyed->Nat}{a b:Array Keyed}{Q:Array Keyed->SortSt->Prop}{st:SortSt}(c:Cmp prog w A SI (kindOf st) D N)(v:Srt N a.toList)(B:Srt N b.toList)(M:∀x∈a.toList,D x)(O:∀x∈b.toList,D x)
 (ha:1<=a.size) (hb:1<=b.size) (T:∀x y,b.toList[0]? =some x->a.toList[0]? =some y->N x<=N y) (U:∀y∈b.toList,∀x∈a.toList.drop (a.size-1),N y<=N x)
 (h:∀r d,SG st d->cu N a.toList b.toList r.toList->Q r d):(SC prog w A SI) (oi a b) Q st:=by
 have Y:∀{i:Nat} (hi:i<a.size),D a[i]:=λhi=>M _ ∅
 have DB:∀{i:Nat} (hi:i<b.size),D b[i]:=λhi=>O _ ∅
 have I:∀(out:Array Keyed) (e f:Nat),MI N a.toList b.toList out.toList e f->(a.size<=e\/b.size<=f)->cu N a.toList b.toList (out++a.extract e a.size++b.extract f b.size).toList:=λout e f m q=>by
  rw[Xe,Xe,nB,nB];refine m.done v B λx C y p=>?_
  rcases q with q|q
  .have%[j,h1,E|_]:=bX C;rw[Zb]at E
   lia
  .have%[j,h1,E|_]:=bX p;rw[Zb]at E
   lia
 have J:∀(out:Array Keyed) (e f:Nat),MI N a.toList b.toList out.toList e f->e+1=a.size->cu N a.toList b.toList (out++b.extract f b.size++a.extract e a.size).toList:=λout e f m q=>by
  rw[Xe,Xe,nB,nB];exact m.last v B λy p x C=>U y (Yx p) x (by rw[show a.size-1=e by lia];exact C)
 rw[GR];refine ar (jv ?_);have%[eb|s]:=aX (a:=b) (i:=0) ⋯;refine ar (bo eb ?_);have G:MI N a.toList b.toList #[b[0]].toList 0 1:=(MI.zero N a.toList b.toList).oneB B s λy p=>by
  have%[ea|t]:=aX (a:=a) (i:=0) ⋯;exact Yh (T _ _ s t) (v.drop_le t p)
 by_cases q1:1=b.size
 .rw[if_pos (by simp[<-q1])];exact av (h _ st (SG.refl _) (I _ _ _ G (.inr ⋯)))
 rw[if_neg (by simp;lia)];by_cases H:0+1=a.size
 .rw[if_pos (by simp[<-H])];exact av (h _ st (SG.refl _) (J _ _ _ G H))
 rw[if_neg (by simp at H ⊢;lia)];refine ar (gG ?_);refine ar (bS (bF (Q:=λx d=>SG st d/\∃r,x.1=some r/\cu N a.toList b.toList r.toList)
  (λj x d=>SG st d/\∃out e f g,x=(none,out,e,f,g)/\ML N a b out e f/\j+1<=out.size) (Xf _) %[SG.refl _,_,_,_,_,rfl,%[G,⋯|⋯]|Zi _] ?_ ?_) ?_)
 .intro j x l _ hj %[sg,out,e,f,g,rfl,m|u];exact FA (by rw[sg.1];exact c) v B Y DB m u I J (λd r o n h=>%[SG.trans sg n,r,rfl|h]) λd out e f g n h z=>%[SG.trans sg n,_,_,_,_,rfl,h|z]
 .intro x l %[sg,out,e,f,g,rfl,m|u];have:=m.na;have:=m.nb;have q:=m.mi.perm.length_eq;simp only[Z9,Yi,Zb]at q
  lia
 .intro x l %[sg,r,L|gd];have%[x1|x2]:=x;dsimp only at L;subst L;exact av (h r l sg gd)
end
end SBig
namespace SBig
open PySem PyProof.Rows
theorem Srt.take{N:Keyed->Nat}{l:List Keyed}(h:Srt N l)(k:Nat):Srt N (l.take k):=List.Pairwise.sublist (List.take_sublist _ _) h
theorem bG{l:List Keyed}{k:Nat}{x:Keyed}(h:x∈l.take k):∃j,j<k/\j<l.length/\l[j]? =some x:=by
 have%[j|a]:=Xg h;rw[Yc]at a
 split at a
 .exact%[j,by assumption,(Xn a).1|a]
 .cases a
theorem w6{l:List Keyed}{i k:Nat}{x:Keyed}(h:x∈(l.take k).drop i):∃j,i<=j/\j<k/\j<l.length/\l[j]? =some x:=by
 have%[j,a,b|e]:=bX h;rw[Yc]at e
 split at e
 .exact%[j,a,by assumption,(Xn e).1|e]
 .cases e
structure MH (N:Keyed->Nat) (A B O:List Keyed) (na nb:Nat):Prop where
 perm:(A.take na++B.take nb++O).Perm (A++B)
 srt:Srt N O
 ca:∀x∈A.take na,∀y∈O,N x<=N y
 cb:∀x∈B.take nb,∀y∈O,N x<=N y
theorem MH.zero(N:Keyed->Nat)(A B:List Keyed):MH N A B [] A.length B.length:=%[by simp,List.Pairwise.nil,λ_ _ _ h=>(nomatch h)|λ_ _ _ h=>(nomatch h)]
theorem MH.takeA{N:Keyed->Nat}{A B O:List Keyed}{na nb:Nat}(h:MH N A B O na nb)(d:Srt N A)(k:Nat)(f:k<=na)(c:∀y∈(A.take na).drop k,∀x∈B.take nb,N x<=N y):MH N A B ((A.take na).drop k++O) k nb:=by
 have e:A.take na=A.take k++(A.take na).drop k:=by
  have:=(Xc k (A.take na)).symm;rw[List.take_take,X1 f]at this;exact this
 have g:(A.take k++(A.take na).drop k).Pairwise λx y=>N x<=N y:=by rw[<-e];exact d.take na
 have%[_,i|j]:=pairwise_append.mp g;refine%[?_,pairwise_append.mpr %[i,h.srt|λx b y a=>h.ca x (Yx b) y a],λx b y a=>?_|λx b y a=>?_]
 .refine List.Perm.trans ?_ h.perm;rw[<-Ze];refine Xl _ ?_;rw (occs:= .pos [2]) [e];rw[Ze,Ze];exact List.Perm.append_left _ perm_append_comm
 .rcases Xo a with a|a
  .exact j x b y a
  .exact h.ca x (by rw[e];exact Yu _ b) y a
 .rcases Xo a with a|a
  .exact c y a x b
  .exact h.cb x b y a
theorem MH.takeB{N:Keyed->Nat}{A B O:List Keyed}{na nb:Nat}(h:MH N A B O na nb)(d:Srt N B)(k:Nat)(f:k<=nb)(c:∀y∈(B.take nb).drop k,∀x∈A.take na,N x<=N y):MH N A B ((B.take nb).drop k++O) na k:=by
 have e:B.take nb=B.take k++(B.take nb).drop k:=by
  have:=(Xc k (B.take nb)).symm;rw[List.take_take,X1 f]at this;exact this
 have g:(B.take k++(B.take nb).drop k).Pairwise λx y=>N x<=N y:=by rw[<-e];exact d.take nb
 have%[_,i|j]:=pairwise_append.mp g;refine%[?_,pairwise_append.mpr %[i,h.srt|λx b y a=>h.cb x (Yx b) y a],λx b y a=>?_|λx b y a=>?_]
 .refine List.Perm.trans ?_ h.perm;rw[<-Ze];refine Xl _ ?_;rw (occs:= .pos [2]) [e];rw[Ze]
 .rcases Xo a with a|a
  .exact c y a x b
  .exact h.ca x b y a
 .rcases Xo a with a|a
  .exact j x b y a
  .exact h.cb x (by rw[e];exact Yu _ b) y a
theorem kJ{l:List Keyed}{k:Nat}{x:Keyed}(h:l[k]? =some x):(l.take (k+1)).drop k=[x]:=by
 have%[a|e]:=Xn h;rw[List.take_succ_eq_append_getElem a,e,List.drop_append_of_le_length (by rw[Ym];lia),List.drop_of_length_le (by rw[Ym];lia)];rfl
theorem MH.oneA{N:Keyed->Nat}{A B O:List Keyed}{na nb:Nat}{x:Keyed}(h:MH N A B O (na+1) nb)(c:Srt N A)(b:A[na]? =some x)(a:∀y∈B.take nb,N y<=N x):MH N A B (x::O) na nb:=by
 have:=h.takeA c na (by omega) (by rw[kJ b];intro z d;rw[Xp d];exact a);rwa[kJ b]at this
theorem MH.oneB{N:Keyed->Nat}{A B O:List Keyed}{na nb:Nat}{x:Keyed}(h:MH N A B O na (nb+1))(c:Srt N B)(b:B[nb]? =some x)(a:∀y∈A.take na,N y<=N x):MH N A B (x::O) na nb:=by
 have:=h.takeB c nb (by omega) (by rw[kJ b];intro z d;rw[Xp d];exact a);rwa[kJ b]at this
theorem MH.done{N:Keyed->Nat}{A B O:List Keyed}{na nb:Nat}(h:MH N A B O na nb)(c:Srt N A)(d:Srt N B)(e:∀x∈A.take na,∀y∈B.take nb,N x<=N y):cu N A B (A.take na++B.take nb++O):=
 %[pairwise_append.mpr %[pairwise_append.mpr %[c.take na,d.take nb|e],h.srt|λx a y b=>(Xo a).elim (λq=>h.ca x q y b) λq=>h.cb x q y b]|h.perm]
theorem MH.first{N:Keyed->Nat}{A B O:List Keyed}{na nb:Nat}(h:MH N A B O na nb)(c:Srt N A)(d:Srt N B)(e:∀y∈B.take nb,∀x∈A.take na,N y<=N x):cu N A B (B.take nb++A.take na++O):=
 %[pairwise_append.mpr %[pairwise_append.mpr %[d.take nb,c.take na|e],h.srt|λx a y b=>(Xo a).elim (λq=>h.cb x q y b) λq=>h.ca x q y b]|List.Perm.trans (Xl _ perm_append_comm) h.perm]
theorem C9(a:Array Keyed)(k:Nat):(a.extract 0 k).toList=a.toList.take k:=by rw[jb];simp
theorem w8(a:Array Keyed)(i k:Nat):(a.extract i k).toList=(a.toList.take k).drop i:=by
 rw[jb,List.drop_take]
theorem Srt.take_le{N:Keyed->Nat}{l:List Keyed}(h:Srt N l){i:Nat}{x y:Keyed}(a:l[i]? =some x)(b:y∈l.take (i+1)):N y<=N x:=by
 have%[j,c,_|e]:=bG b;exact h.le (by omega) e a
theorem kK(out:Array Keyed)(x:Keyed):(out.push x).reverse.toList=x::out.reverse.toList:=by simp
theorem xa(out p:Array Keyed):(out++p.reverse).reverse.toList=p.toList++out.reverse.toList:=by simp
section
variable{prog:Program}{w:World}{A:Around}{SI:Shared->Prop}{α β:Type}
structure MHS (N:Keyed->Nat) (a b out:Array Keyed) (na nb:Nat):Prop where
 mh:MH N a.toList b.toList out.reverse.toList na nb
 pa:1<=na
 pb:2<=nb
 ma:na<=a.size
 mb:nb<=b.size
noncomputable def hi3(a b:Array Keyed)(na nb:Nat)(out:Array Keyed)(g k k1:Nat):StateT SortSt Sem (ForInStep (Option (Array Keyed)×Nat×Nat×Array Keyed×Nat×Nat×Nat)):=do
 let e<-elem' a (na-1)
 if(na-1==0)=true then pure (.done (some (a.extract 0 (na-1) ++b.extract 0 nb++(out.push e).reverse),na-1,nb,out.push e,g,k,k1))
 else if(decide (k<7)&&decide (k1<7))=true then pure (.done (none,na-1,nb,out.push e,g,k,k1))else pure (.yield (none,na-1,nb,out.push e,g,k,k1))
noncomputable def hi2(a b:Array Keyed)(na nb:Nat)(out:Array Keyed)(g k c:Nat):StateT SortSt Sem (ForInStep (Option (Array Keyed)×Nat×Nat×Array Keyed×Nat×Nat×Nat)):=do
 let e<-elem' b (nb-1)
 if(nb-1==1)=true then pure (.done (some (b.extract 0 (nb-1) ++a.extract 0 na++(out.push e).reverse),na,nb-1,out.push e,g,k,c))
 else do
  let d<-elem' a (na-1)
  match<-fY true d b 0 (nb-1) (nb-1-1)with
  | some k1=>if nb-1-k1>0 then if(k1==1)=true then pure (.done (some (b.extract 0 k1++a.extract 0 na++(out.push e++(b.extract k1 (nb-1)).reverse).reverse),na,k1,out.push e++(b.extract k1 (nb-1)).reverse,g,k,nb-1-k1))else if(k1==0)=true then pure (.done (some (a.extract 0 na++b.extract 0 k1++(out.push e++(b.extract k1 (nb-1)).reverse).reverse),na,k1,out.push e++(b.extract k1 (nb-1)).reverse,g,k,nb-1-k1))else hi3 a b na k1 (out.push e++(b.extract k1 (nb-1)).reverse) g k (nb-1-k1)else hi3 a b na (nb-1) (out.push e) g k (nb-1-k1)
  | _=>pure (.done (some (a.extract 0 na++b.extract 0 (nb-1) ++(out.push e).reverse),na,nb-1,out.push e,g,k,c))
noncomputable def hi1(a b:Array Keyed)(na nb:Nat)(out:Array Keyed)(d c g:Nat):StateT SortSt Sem (ForInStep (Option (Array Keyed)×Nat×Nat×Array Keyed×Nat×Nat×Nat)):=do
 c8 g
 let e<-elem' b (nb-1)
 match<-fY false e a 0 na (na-1)with
 | some k=>if na-k>0 then if(k==0)=true then pure (.done (some (a.extract 0 k++b.extract 0 nb++(out++(a.extract k na).reverse).reverse),k,nb,out++(a.extract k na).reverse,g,na-k,c))else hi2 a b k nb (out++(a.extract k na).reverse) g (na-k) c else hi2 a b na nb out g (na-k) c
 | _=>pure (.done (some (a.extract 0 na++b.extract 0 nb++out.reverse),na,nb,out,g,d,c))
noncomputable def hiI(a b:Array Keyed)(na nb:Nat)(out:Array Keyed)(g c d:Nat):StateT SortSt Sem (ForInStep (Option (Array Keyed)×Nat×Nat×Array Keyed×Nat×Nat)):=do
 let f<-elem' b (nb-1)
 let h<-elem' a (na-1)
 match<-lt' f h with
 | some w=>
   if w=true then(do
    let e<-elem' a (na-1)
    if(na-1==0)=true then pure (.done (some (a.extract 0 (na-1) ++b.extract 0 nb++(out.push e).reverse),na-1,nb,out.push e,c+1,0))
    else if c+1>=g then pure (.done (none,na-1,nb,out.push e,c+1,0))else pure (.yield (none,na-1,nb,out.push e,c+1,0)))
   else(do
    let e<-elem' b (nb-1)
    if(nb-1==1)=true then pure (.done (some (b.extract 0 (nb-1) ++a.extract 0 na++(out.push e).reverse),na,nb-1,out.push e,0,d+1))
    else if d+1>=g then pure (.done (none,na,nb-1,out.push e,0,d+1))else pure (.yield (none,na,nb-1,out.push e,0,d+1)))
 | _=>pure (.done (some (a.extract 0 na++b.extract 0 nb++out.reverse),na,nb,out,c,d))
noncomputable def hiG(a b:Array Keyed)(x:Option (Array Keyed)×Nat×Nat×Array Keyed×Nat×Nat×Nat):StateT SortSt Sem (ForInStep (Option (Array Keyed)×Nat×Nat×Array Keyed×Nat×Nat×Nat)):=
 if x.2.2.2.2.1>1 then hi1 a b x.2.1 x.2.2.1 x.2.2.2.1 x.2.2.2.2.2.1 x.2.2.2.2.2.2 (x.2.2.2.2.1-1)else hi1 a b x.2.1 x.2.2.1 x.2.2.2.1 x.2.2.2.2.2.1 x.2.2.2.2.2.2 x.2.2.2.2.1
noncomputable def hiE(x:Option (Array Keyed)×Nat×Nat×Array Keyed×Nat×Nat×Nat):StateT SortSt Sem (ForInStep (Option (Array Keyed)×Nat×Nat×Array Keyed×Nat)):=
 match x.1 with
 | some r=>pure (.done (some r,x.2.1,x.2.2.1,x.2.2.2.1,x.2.2.2.2.1))
 | none=>do
   c8 (x.2.2.2.2.1+1)
   pure (.yield (none,x.2.1,x.2.2.1,x.2.2.2.1,x.2.2.2.2.1+1))
noncomputable def hiF(a b:Array Keyed)(g:Nat)(x:Option (Array Keyed)×Nat×Nat×Array Keyed×Nat×Nat):StateT SortSt Sem (ForInStep (Option (Array Keyed)×Nat×Nat×Array Keyed×Nat)):=
 match x.1 with
 | some r=>pure (.done (some r,x.2.1,x.2.2.1,x.2.2.2.1,g))
 | none=>do
   rule "list.sort.gallop"
   let x<-forIn [0:a.size+b.size] (none,x.2.1,x.2.2.1,x.2.2.2.1,g+1,x.2.2.2.2.1,x.2.2.2.2.2) λ_ x=>hiG a b x
   hiE x
noncomputable def hiO(a b:Array Keyed)(x:Option (Array Keyed)×Nat×Nat×Array Keyed×Nat):StateT SortSt Sem (ForInStep (Option (Array Keyed)×Nat×Nat×Array Keyed×Nat)):=do
 let y<-forIn [0:a.size+b.size] (none,x.2.1,x.2.2.1,x.2.2.2.1,0,0) λ_ y=>hiI a b y.2.1 y.2.2.1 y.2.2.2.1 x.2.2.2.2 y.2.2.2.2.1 y.2.2.2.2.2
 hiF a b x.2.2.2.2 y
noncomputable def hiR(x:Option (Array Keyed)×Nat×Nat×Array Keyed×Nat):StateT SortSt Sem (Array Keyed):=
 match x.1 with
 | some r=>pure r
 | none=>unsupported "internal:list.sort.merge-bound"
set_option smartUnfolding false in
theorem GS(a b:Array Keyed):oj a b=(do
 rule "list.sort.merge-hi"
 let e<-elem' a (a.size-1)
 if(a.size-1==0)=true then pure (a.extract 0 (a.size-1) ++b.extract 0 b.size++ #[e].reverse)
 else if(b.size==1)=true then pure (b.extract 0 b.size++a.extract 0 (a.size-1) ++ #[e].reverse)
 else do
  let s<-get
  let x<-forIn [0:a.size+b.size] (none,a.size-1,b.size,#[e],gallopOf s) λ_ x=>hiO a b x
  hiR x):=by
 rfl
structure HC (prog:Program) (w:World) (A:Around) (SI:Shared->Prop) (D:Keyed->Prop) (N:Keyed->Nat) (a b:Array Keyed) (st:SortSt):Prop where
 c:Cmp prog w A SI (kindOf st) D N
 hA:Srt N a.toList
 hB:Srt N b.toList
 DA:∀{i:Nat} (hi:i<a.size),D a[i]
 DB:∀{i:Nat} (hi:i<b.size),D b[i]
 fd:∀(out:Array Keyed) (na nb:Nat),MH N a.toList b.toList out.reverse.toList na nb->(na=0\/nb=0)->cu N a.toList b.toList (a.extract 0 na++b.extract 0 nb++out.reverse).toList
 ff:∀(out:Array Keyed) (na nb:Nat),MH N a.toList b.toList out.reverse.toList na nb->nb=1->cu N a.toList b.toList (b.extract 0 nb++a.extract 0 na++out.reverse).toList
theorem HC.of{D:Keyed->Prop}{N:Keyed->Nat}{a b:Array Keyed}{s t:SortSt}(C:HC prog w A SI D N a b s)(h:SG s t):HC prog w A SI D N a b t:={C with c:=by rw[h.1];exact C.c}
variable{D:Keyed->Prop}{N:Keyed->Nat}{a b out:Array Keyed}{na nb g k bc z:Nat}{st:SortSt}
theorem A5{k1:Nat}{R:ForInStep (Option (Array Keyed)×Nat×Nat×Array Keyed×Nat×Nat×Nat)->SortSt->Prop}(C:HC prog w A SI D N a b st)(m:MH N a.toList b.toList out.reverse.toList (na+1) nb)(t:na+1<=a.size)(j:2<=nb)(l:nb<=b.size)(c:∀y∈b.toList.take nb,N y<=N (a[na]'⋯))(n:z<=out.size+1)
 (p:∀r o,cu N a.toList b.toList r.toList->R (.done (some r,o)) st) (q:∀na nb out g k k1,MHS N a b out na nb->z<=out.size->R (.done (none,na,nb,out,g,k,k1)) st/\R (.yield (none,na,nb,out,g,k,k1)) st):(SC prog w A SI) (hi3 a b (na+1) nb out g k k1) R st:=by
 have%[s|d]:=aX (a:=a) (i:=na) ⋯;unfold hi3;rw[add_sub_cancel];refine ar (bo s ?_);have e:=MH.oneA m C.hA d c;rw[<-kK]at e;by_cases f:na=0
 .rw[if_pos (by simp[f])];exact av (p _ _ (C.fd _ _ _ e (.inl f)))
 rw[if_neg (by simp[f])];have h:=q _ _ _ g k k1 (MHS.mk (a:=a) (b:=b) e ⋯ j ⋯ l) (by rw[Xj];exact n)
 split
 .exact av h.1
 .exact av h.2
theorem A6{R:ForInStep (Option (Array Keyed)×Nat×Nat×Array Keyed×Nat×Nat×Nat)->SortSt->Prop}(C:HC prog w A SI D N a b st)(m:MH N a.toList b.toList out.reverse.toList (na+1) (nb+1))(H:na+1<=a.size)(pb:1<=nb)(mb:nb+1<=b.size)(l:∀y∈a.toList.take (na+1),N y<=N b[nb])(hz:z<=out.size+2)
 (d:∀r o,cu N a.toList b.toList r.toList->R (.done (some r,o)) st) (I:∀na nb out g k k1,MHS N a b out na nb->z<=out.size->R (.done (none,na,nb,out,g,k,k1)) st/\R (.yield (none,na,nb,out,g,k,k1)) st):(SC prog w A SI) (hi2 a b (na+1) (nb+1) out g k bc) R st:=by
 have%[O|n]:=aX (a:=b) (i:=nb) ⋯;have%[Q|p]:=aX (a:=a) (i:=na) ⋯;unfold hi2;rw[add_sub_cancel,add_sub_cancel];refine ar (bo O ?_);have f:=MH.oneB m C.hB n l;rw[<-kK]at f;by_cases q:nb=1
 .rw[if_pos (by simp[q])];exact av (d _ _ (C.ff _ _ _ f q))
 rw[if_neg (by simp[q])];refine ar (bo Q ?_);refine ar (fj C.c (C.DA ⋯) (λi hi=>%[b[0+i]'⋯,(aX ⋯).1|C.DB ⋯]) (λi=>cc N true (a[na]'⋯) (b.getD (0+i) b[nb]))
  (λi x hi s=>by rw[Zs,s];rfl) (λi i' t hi T=>qQ C.hB t ⋯ T) ⋯ λk2 u U Y=>?_)
 dsimp only;have J:=GQ U Y;have c:∀y∈b.toList.take k2,N y<=N (a[na]'⋯):=λy v=>by
  have%[j,B,L|e]:=bG v;exact Yf (J.1 j y B (by simpa using e))
 have h:=f.takeB C.hB k2 u (λy v x s=>by
  have%[i,B,L,h3|e]:=w6 v;exact Yh (C.hA.take_le p s) (J.2 i y B L (by simpa using e)))
 by_cases M:nb-k2>0
 .rw[if_pos M];rw[<-w8,<-xa]at h;by_cases E:k2=1
  .rw[if_pos (by simp[E])];exact av (d _ _ (C.ff _ _ _ h E))
  rw[if_neg (by simp[E])];by_cases G:k2=0
  .rw[if_pos (by simp[G])];exact av (d _ _ (C.fd _ _ _ h (.inr G)))
  rw[if_neg (by simp[G])];exact A5 C h H ⋯ ⋯ c (by simp;lia) d I
 .rw[if_neg M];obtain rfl:k2=nb:=by lia
  exact A5 C f H ⋯ ⋯ c (by rw[Xj];lia) d I
theorem FB{I:Nat}{R:ForInStep (Option (Array Keyed)×Nat×Nat×Array Keyed×Nat×Nat×Nat)->SortSt->Prop}(C:HC prog w A SI D N a b st)(m:MHS N a b out na nb)(J:z<=out.size+2)
 (h:∀c r o,SG st c->cu N a.toList b.toList r.toList->R (.done (some r,o)) c) (B:∀c na nb out g k k1,SG st c->MHS N a b out na nb->z<=out.size->R (.done (none,na,nb,out,g,k,k1)) c/\R (.yield (none,na,nb,out,g,k,k1)) c):(SC prog w A SI) (hi1 a b na nb out I bc g) R st:=by
 have%[E,Y,pb,L|G]:=m;obtain⟨nb,rfl⟩:∃n,nb=n+1:=%[nb-1|⋯]
 have%[M|l]:=aX (a:=b) (i:=nb) ⋯;unfold hi1;rw[add_sub_cancel,gT];refine ar (cH ?_);have sg:=(SG.refl st).set g;refine ar (bo M ?_);refine ar (fj (C.of sg).c (C.DB ⋯) (λi hi=>%[a[0+i]'⋯,(aX ⋯).1|C.DA ⋯]) (λi=>cc N false b[nb] (a.getD (0+i) b[nb]))
  (λi x hi p=>by rw[Zs,p];rfl) (λi i' q hi O=>qP C.hA q ⋯ O) ⋯ λk Q T U=>?_)
 dsimp only;have s:=GP T U;simp only[zero_add]at s;have mk:=E.takeA C.hA k Q (λy t x p=>by
  have%[i,u,H,h3|e]:=w6 t;exact Yh (C.hB.take_le l p) (Yf (s.2 i y u H (by simpa using e))))
 have d:∀y∈a.toList.take k,N y<=N b[nb]:=λy t=>by
  have%[j,u,H|e]:=bG t;exact s.1 j y u (by simpa using e)
 by_cases f:na-k>0
 .rw[if_pos f];rw[<-w8,<-xa]at mk;by_cases v:k=0
  .rw[if_pos (by simp[v])];exact av (h _ _ _ sg (C.fd _ _ _ mk (.inl v)))
  rw[if_neg (by simp[v])];obtain⟨k,rfl⟩:∃n,k=n+1:=%[k-1|⋯]
  exact A6 (C.of sg) mk ⋯ ⋯ G d (by simp;lia) (λr o=>h _ r o sg) λna nb out g k k1=>B _ na nb out g k k1 sg
 .rw[if_neg f];obtain rfl:k=na:=by lia
  obtain⟨k,rfl⟩:∃n,k=n+1:=%[k-1|⋯]
  exact A6 (C.of sg) E L ⋯ G d J (λr o=>h _ r o sg) λna nb out g k k1=>B _ na nb out g k k1 sg
theorem FC{d:Nat}{R:ForInStep (Option (Array Keyed)×Nat×Nat×Array Keyed×Nat×Nat)->SortSt->Prop}(C:HC prog w A SI D N a b st)(m:MHS N a b out na nb)(l:z<=out.size+1)
 (p:∀r o,cu N a.toList b.toList r.toList->R (.done (some r,o)) st) (s:∀na nb out d bc,MHS N a b out na nb->z<=out.size->R (.done (none,na,nb,out,d,bc)) st/\R (.yield (none,na,nb,out,d,bc)) st):(SC prog w A SI) (hiI a b na nb out g d bc) R st:=by
 have%[t,B,E,G|H]:=m;obtain⟨na,rfl⟩:∃n,na=n+1:=%[na-1|⋯]
 obtain⟨nb,rfl⟩:∃n,nb=n+1:=%[nb-1|⋯]
 have%[u|e]:=aX (a:=a) (i:=na) ⋯;have%[v|f]:=aX (a:=b) (i:=nb) ⋯;unfold hiI;rw[add_sub_cancel,add_sub_cancel];refine ar (bo v (ar (bo u (ar (t9 C.c (C.DB ⋯) (C.DA ⋯) ?_)))));dsimp only;by_cases c:N b[nb]<N a[na]
 .rw[Zf c,if_pos rfl];refine ar (bo u ?_);have m2:=t.oneA C.hA e λy j=>Yh (C.hB.take_le f j) (Yf c)
  rw[<-kK]at m2;by_cases q:na=0
  .rw[if_pos (by simp[q])];exact av (p _ _ (C.fd _ _ _ m2 (.inl q)))
  rw[if_neg (by simp[q])];have h:=s _ _ _ (d+1) 0 %[m2,⋯,E,⋯|H] (by rw[Xj];exact l)
  split
  .exact av h.1
  .exact av h.2
 .rw[Zh c,if_neg ∅];refine ar (bo v ?_);have m2:=t.oneB C.hB f λy j=>Yh (C.hA.take_le e j) (Nat.le_of_not_lt c)
  rw[<-kK]at m2;by_cases q:nb=1
  .rw[if_pos (by simp[q])];exact av (p _ _ (C.ff _ _ _ m2 q))
  rw[if_neg (by simp[q])];have h:=s _ _ _ 0 (bc+1) %[m2,B,⋯,G|⋯] (by rw[Xj];exact l)
  split
  .exact av h.1
  .exact av h.2
theorem FD{j:Nat}{q:Option (Array Keyed)}{R:ForInStep (Option (Array Keyed)×Nat×Nat×Array Keyed×Nat)->SortSt->Prop}(C:HC prog w A SI D N a b st)(m:MHS N a b out na nb)(e:j+1<=out.size)
 (p:∀d r o,SG st d->cu N a.toList b.toList r.toList->R (.done (some r,o)) d) (s:∀d na nb out g,SG st d->MHS N a b out na nb->j+2<=out.size->R (.yield (none,na,nb,out,g)) d):(SC prog w A SI) (hiO a b (q,na,nb,out,g)) R st:=by
 have t:=m.pa;have u:=m.ma;unfold hiO;refine ar (bS (bF (Q:=λx d=>SG st d/\((∃r o,x=(some r,o)/\cu N a.toList b.toList r.toList)\/∃na nb out f bc,x=(none,na,nb,out,f,bc)/\MHS N a b out na nb/\j+2<=out.size))
  (λj2 x d=>SG st d/\∃na nb out f bc,x=(none,na,nb,out,f,bc)/\MHS N a b out na nb/\j+1+j2<=out.size) (Xf _) %[SG.refl _,_,_,_,_,_,rfl,m|e] ?_ ?_) ?_)
 .intro j2 x i _ l %[c,na,nb,out,f,bc,rfl,m|e];exact FC (z:=j+1+(j2+1)) (C.of c) m ⋯ (λr o h=>%[c|.inl %[r,o,rfl|h]]) λna nb out f bc h z=>%[%[c|.inr %[_,_,_,_,_,rfl,h|⋯]],c,_,_,_,_,_,rfl,h|z]
 .intro x i %[c,na,nb,out,f,bc,rfl,m|e];exact%[c|.inr %[_,_,_,_,_,rfl,m|⋯]]
 .rintro x i ⟨c,⟨r,o,rfl,n⟩|⟨na,nb,out,f,bc,rfl,m,e⟩⟩
  .exact av (p _ r _ c n)
  .refine ar (jv ?_);refine ar (bS (bF (Q:=λx d=>SG st d/\((∃r o,x=(some r,o)/\cu N a.toList b.toList r.toList)\/∃na nb out g f bc,x=(none,na,nb,out,g,f,bc)/\MHS N a b out na nb/\j+2<=out.size))
    (λj2 x d=>SG st d/\∃na nb out g f bc,x=(none,na,nb,out,g,f,bc)/\MHS N a b out na nb/\j+2<=out.size) (Xf _) %[c,_,_,_,_,_,_,rfl,m|e] ?_ ?_) ?_)
   .intro j2 x i _ l %[c,na,nb,out,g,f,bc,rfl,m|e];unfold hiG;rw[<-apply_ite (hi1 _ _ _ _ _ _ _)];exact FB (z:=j+2) (C.of c) m ⋯ (λd r o sg h=>%[SG.trans c sg|.inl %[r,o,rfl|h]]) λd na nb out g k k1 sg h z=>%[%[SG.trans c sg|.inr %[_,_,_,_,_,_,rfl,h|z]],SG.trans c sg,_,_,_,_,_,_,rfl,h|z]
   .intro x i %[c,na,nb,out,g,f,bc,rfl,m|e];exact%[c|.inr %[_,_,_,_,_,_,rfl,m|⋯]]
   .rintro x i ⟨c,⟨r,o,rfl,n⟩|⟨na,nb,out,g,f,bc,rfl,m,e⟩⟩
    .exact av (p _ r _ c n)
    .exact ar (cH (av (s _ _ _ _ _ (c.set _) m e)))
theorem v5{D:Keyed->Prop}{N:Keyed->Nat}{a b:Array Keyed}{Q:Array Keyed->SortSt->Prop}{st:SortSt}(c:Cmp prog w A SI (kindOf st) D N)(s:Srt N a.toList)(v:Srt N b.toList)(T:∀x∈a.toList,D x)(U:∀x∈b.toList,D x)
 (ha:1<=a.size) (hb:1<=b.size) (Y:∀x y,b.toList[0]? =some x->a.toList[0]? =some y->N x<=N y) (hl:∀y∈b.toList,∀x∈a.toList.drop (a.size-1),N y<=N x)
 (h:∀r d,SG st d->cu N a.toList b.toList r.toList->Q r d):(SC prog w A SI) (oj a b) Q st:=by
 have DA:∀{i:Nat} (hi:i<a.size),D a[i]:=λhi=>T _ ∅
 have DB:∀{i:Nat} (hi:i<b.size),D b[i]:=λhi=>U _ ∅
 have I:∀(out:Array Keyed) (na nb:Nat),MH N a.toList b.toList out.reverse.toList na nb->(na=0\/nb=0)->cu N a.toList b.toList (a.extract 0 na++b.extract 0 nb++out.reverse).toList:=λout na nb m q=>by
  rw[Xe,Xe,C9,C9];refine m.done s v λx B y t=>?_
  rcases q with q|q
  .have%[j,J|_]:=bG B
   lia
  .have%[j,J|_]:=bG t
   lia
 have L:∀(out:Array Keyed) (na nb:Nat),MH N a.toList b.toList out.reverse.toList na nb->nb=1->cu N a.toList b.toList (b.extract 0 nb++a.extract 0 na++out.reverse).toList:=λout na nb m q=>by
  rw[Xe,Xe,C9,C9];refine m.first s v λy t x B=>?_
  have%[j,J,h2|e]:=bG t;have%[i,_,h4|e']:=bG B;have j0:j=0:=by lia
  subst j0;have%[M|f]:=aX (a:=a) (i:=0) ⋯;exact Yh (Y _ _ e f) (s.le (Xf _) f e')
 rw[GS];refine ar (jv ?_);obtain⟨l,C⟩:∃l,a.size=l+1:=%[a.size-1|⋯]
 have%[M|f]:=aX (a:=a) (i:=l) ⋯;rw[show a.size-1=l by lia];refine ar (bo M ?_);have E:MH N a.toList b.toList #[a[l]].reverse.toList l b.size:=by
  have z:=MH.zero N a.toList b.toList;rw[Zb,Zb,C]at z;exact z.oneA s f λy t=>hl y (Yy t) _ (by
   rw[show a.size-1=l by lia];exact Z8 (i:=0) (by rw[Yb];exact f))
 by_cases G:l=0
 .rw[if_pos (by simp[G])];exact av (h _ st (SG.refl _) (I _ _ _ E (.inl G)))
 rw[if_neg (by simp[G])];by_cases H:b.size=1
 .rw[if_pos (by simp[H])];exact av (h _ st (SG.refl _) (L _ _ _ E H))
 rw[if_neg (by simp[H])];refine ar (gG ?_);refine ar (bS (bF (Q:=λx d=>SG st d/\∃r,x.1=some r/\cu N a.toList b.toList r.toList)
  (λj x d=>SG st d/\∃na nb out g,x=(none,na,nb,out,g)/\MHS N a b out na nb/\j+1<=out.size) (Xf _) %[SG.refl _,_,_,_,_,rfl,%[E,⋯,⋯,⋯|⋯]|Zi _] ?_ ?_) ?_)
 .intro j x n _ hj %[sg,na,nb,out,g,rfl,m|u];exact FD (HC.of %[c,s,v,DA,DB,I|L] sg) m u (λd r o p h=>%[SG.trans sg p,r,rfl|h]) λd na nb out g p h z=>%[SG.trans sg p,_,_,_,_,rfl,h|z]
 .intro x n %[sg,na,nb,out,g,rfl,m|u];have:=m.pa;have:=m.pb;have:=m.ma;have:=m.mb;have q:=m.mh.perm.length_eq;simp only[Z9,Ym,Zb,Array.size_reverse]at q
  lia
 .intro x n %[sg,r,O|gd];have%[x1|x2]:=x;dsimp only at O;subst O;exact av (h r n sg gd)
end
end SBig
namespace SBig
open PySem PyProof.Rows
theorem ua(i:Nat):mergeAt' i=(do
 let s<-get
 let(some (b,na,c),some (d,nb,_)):=((pendingOf s)[i]?,(pendingOf s)[i+1]?)|unsupported "internal:list.sort.pending"
 set (setPending s (((pendingOf s).setIfInBounds i (b,na+nb,c)).eraseIdxIfInBounds (i+1)))
 let some k<-fY false (<-elem' (arrOf s) d) (arrOf s) b na 0|return false
 let(b,na):=(b+k,na-k)
 if na==0 then return true
 let some nb<-fY true (<-elem' (arrOf s) (b+na-1)) (arrOf s) d nb (nb-1)|return false
 if nb==0 then return true
 let x:=(arrOf s).extract b d
 let y:=(arrOf s).extract d (d+nb)
 let merged<-if na<=nb then oi x y else oj x y
 modify λs=>setArr s (merged.toList.zipIdx.foldl (λa (p,j)=>a.setIfInBounds (b+j) p) (arrOf s))
 return (failedOf (<-get)).isNone):=rfl
theorem ub:∀(m:List Keyed) (c o:Nat) (a:Array Keyed),o+c+m.length<=a.size->
 ((m.zipIdx c).foldl (λ(a:Array Keyed) (p:Keyed×Nat)=>a.setIfInBounds (o+p.2) p.1) a).toList=a.toList.take (o+c) ++m++a.toList.drop (o+c+m.length)
 |[],c,o,a,_=>by simp
 | x::m,c,o,a,h=>by
   rw[List.zipIdx_cons,Y8];rw[Zr]at h;rw[ub m (c+1) o _ (by rw[Array.size_setIfInBounds];lia),Array.toList_setIfInBounds];have b:o+c<a.toList.length:=by rw[Zb];lia
   rw[Zr,List.take_set,List.drop_set];rw[show o+(c+1)=o+c+1 by lia,show o+c+1+m.length=o+c+(m.length+1) by lia];rw[if_pos ⋯];have e:(a.toList.take (o+c+1)).set (o+c) x=a.toList.take (o+c) ++[x]:=by
    rw[List.take_succ_eq_append_getElem b];rw[List.set_append_right _ _ (by rw[Ym];lia)];rw[Ym,X1 ⋯,sub_self];rfl
   rw[e];simp
section
variable{prog:Program}{w:World}{A:Around}{SI:Shared->Prop}{α β:Type}
theorem v6{D:Keyed->Prop}{N:Keyed->Nat}{i p p2:Nat}{b X Y L2:List Keyed}{Q:Bool->SortSt->Prop}{st:SortSt}(c:Cmp prog w A SI (kindOf st) D N)(e:(arrOf st).toList=b++X++Y++L2)(M:Srt N X)(O:Srt N Y)(nX:X≠[])(nY:Y≠[])
 (dX:∀x∈X,D x) (dY:∀x∈Y,D x) (hp:(pendingOf st)[i]? =some (b.length,X.length,p)) (aj:(pendingOf st)[i+1]? =some (b.length+X.length,Y.length,p2)) (hf:failedOf st=none)
 (h:∀Z t,Srt N Z->Z.Perm (X++Y)->(arrOf t).toList=b++Z++L2->kindOf t=kindOf st->failedOf t=none->pendingOf t=((pendingOf st).setIfInBounds i (b.length,X.length+Y.length,p)).eraseIdxIfInBounds (i+1)->Q true t):(SC prog w A SI) (mergeAt' i) Q st:=by
 have lX:0<X.length:=length_pos_iff.mpr nX;have lY:0<Y.length:=length_pos_iff.mpr nY;have sz:(arrOf st).size=b.length+X.length+Y.length+L2.length:=by
  rw[<-Zb,e];simp only[Z9]
 have E:∀(j:Nat) (d:j<X.length),(arrOf st)[b.length+j]? =some X[j]:=λj d=>by
  have:(arrOf st).toList[b.length+j]? =some X[j]:=by
   rw[e,Ze,Ze,Ya ⋯,Zw,Y9 d];simp[d]
  simpa using this
 have G:∀(j:Nat) (d:j<Y.length),(arrOf st)[b.length+X.length+j]? =some Y[j]:=λj d=>by
  have:(arrOf st).toList[b.length+X.length+j]? =some Y[j]:=by
   rw[e,Ze,Ya (by rw[Z9];lia),Z9,Zw,Y9 d];simp[d]
  simpa using this
 have DX:∀(j:Nat) (d:j<X.length),D X[j]:=λj d=>dX _ (Ye d)
 have DY:∀(j:Nat) (d:j<Y.length),D Y[j]:=λj d=>dY _ (Ye d)
 have u:∀(i j:Nat) (hi:i<=j) (d:j<X.length),N (X[i]'⋯)<=N X[j]:=λi j hi d=>M.le hi ∅ ∅
 have z:∀(i j:Nat) (hi:i<=j) (d:j<Y.length),N (Y[i]'⋯)<=N Y[j]:=λi j hi d=>O.le hi ∅ ∅
 rw[ua];refine ar (gG ?_);rw[hp,aj];dsimp only;refine ar (Fx ?_);have eb:=G 0 lY;rw[add_zero]at eb;refine ar (bo eb ?_);refine ar (fj c (DY 0 lY) (λi hi=>%[_,E i hi|DX i hi]) (λi=>cc N false Y[0] (X.getD i Y[0])) (λi x hi f=>by
  rw[E i hi]at f;cases f;rw[Zc,Z4 hi];rfl) (λi j H d I=>?_) lX λk hk p1 p2=>?_)
 .rw[Zc,Z4 d]at I;rw[Zc,Z4 ⋯];have:=u i j H d;unfold cc at I ⊢;simp only[Y1,if_false,Bool.not_eq_true',decide_eq_false_iff_not,getD_some]at I ⊢
  lia
 have g1:∀(j:Nat) (d:j<X.length),j<k->N X[j]<=N Y[0]:=λj d m=>by
  have:=p1 j m;rw[Zc,Z4 d]at this;unfold cc at this;simpa using this
 have g2:∀(j:Nat) (d:j<X.length),k<=j->N Y[0]<N X[j]:=λj d m=>by
  have:=p2 j m d;rw[Zc,Z4 d]at this;unfold cc at this;simpa using this
 dsimp only;by_cases q1:X.length-k=0
 .rw[if_pos (by simp[q1])];refine av (h (X++Y) _ (pairwise_append.mpr %[M,O|λx f y n=>?_]) (List.Perm.refl _) (by show(arrOf st).toList=_;rw[e];simp) rfl hf rfl);have%[j,d|rfl]:=getElem_of_mem f;have%[o,l|rfl]:=getElem_of_mem n;exact Yh (g1 j d ⋯) (z 0 o (Xf _) l)
 rw[if_neg (by simpa using q1)];have el:=E (X.length-1) ⋯;rw[show b.length+k+(X.length-k) -1=b.length+(X.length-1) by lia];refine ar (bo el ?_);refine ar (fj c (DX _ ⋯) (λi hi=>%[_,G i hi|DY i hi]) (λi=>cc N true (X[X.length-1]'⋯) (Y.getD i Y[0])) (λi x hi f=>by
  rw[G i hi]at f;cases f;rw[Zc,Z4 hi];rfl) (λi j H d I=>?_) ⋯ λk2 T p3 p4=>?_)
 .rw[Zc,Z4 d]at I;rw[Zc,Z4 ⋯];have:=z i j H d;unfold cc at I ⊢;simp only[if_true,decide_eq_true_eq,getD_some]at I ⊢
  lia
 have g3:∀(j:Nat) (d:j<Y.length),j<k2->N Y[j]<N (X[X.length-1]'⋯):=λj d m=>by
  have:=p3 j m;rw[Zc,Z4 d]at this;unfold cc at this;simpa using this
 have g4:∀(j:Nat) (d:j<Y.length),k2<=j->N (X[X.length-1]'⋯)<=N Y[j]:=λj d m=>by
  have:=p4 j m d;rw[Zc,Z4 d]at this;unfold cc at this;simpa using this
 dsimp only;by_cases q2:k2=0
 .rw[if_pos (by simp[q2])];refine av (h (X++Y) _ (pairwise_append.mpr %[M,O|λx f y n=>?_]) (List.Perm.refl _) (by show(arrOf st).toList=_;rw[e];simp) rfl hf rfl);have%[j,d|rfl]:=getElem_of_mem f;have%[o,l|rfl]:=getElem_of_mem n;exact Yh (u j (X.length-1) ⋯ ⋯) (g4 o l ⋯)
 rw[if_neg (by simpa using q2)];have ex:((arrOf st).extract (b.length+k) (b.length+X.length)).toList=X.drop k:=by
  rw[jb,e,Ze,Ze,List.drop_append,List.drop_of_length_le ⋯,nil_append,Zw,List.drop_append_of_le_length ⋯,Xd (by rw[Yi];lia),Zn (by rw[Yi];lia)]
 have L:((arrOf st).extract (b.length+X.length) (b.length+X.length+k2)).toList=Y.take k2:=by
  rw[sw,e,Ze,List.drop_append,List.drop_of_length_le (by rw[Z9];lia),nil_append,Z9,sub_self,drop_zero,Xd ⋯]
 have sx:((arrOf st).extract (b.length+k) (b.length+X.length)).size=X.length-k:=by rw[<-Zb,ex,Yi]
 have sy:((arrOf st).extract (b.length+X.length) (b.length+X.length+k2)).size=k2:=by rw[<-Zb,L,Ym,X1 T]
 have fin:∀(r:Array Keyed) (g:SortSt),SG (setPending st (((pendingOf st).setIfInBounds i (b.length,X.length+Y.length,p)).eraseIdxIfInBounds (i+1))) g->cu N (X.drop k) (Y.take k2) r.toList->
  (SC prog w A SI) (do modify (λs=>setArr s (r.toList.zipIdx.foldl (λa (p,j)=>a.setIfInBounds (b.length+k+j) p) (arrOf s)));let x<-get;pure (failedOf x).isNone) Q g:=λr g sg J=>by
  refine ar (cH (ar (gG (av ?_))));have U:failedOf g=none:=by rw[sg.2.2.2];exact hf
  show Q (failedOf g).isNone _;rw[U];have lr:r.toList.length=(X.length-k) +k2:=by
   rw[J.2.length_eq,Z9,Yi,Ym,X1 T]
  refine h (X.take k++r.toList++Y.drop k2) _ ?_ ?_ ?_ sg.1 U sg.2.2.1
  .have mem:∀y∈r.toList,(∃(j:Nat) (d:j<X.length),k<=j/\y=X[j])\/∃(j:Nat) (d:j<Y.length),j<k2/\y=Y[j]:=λy n=>by
    rcases Xo (J.2.mem_iff.mp n)with q|q
    .have%[j,v,h2|e]:=bX q;have%[d|e]:=Xn e;exact .inl %[j,d,v|e.symm]
    .have%[j,v,h2|e]:=bG q;have%[d|e]:=Xn e;exact .inr %[j,d,v|e.symm]
   refine pairwise_append.mpr %[pairwise_append.mpr %[M.take k,J.1|λx f y n=>?_],O.drop k2|λx f y n=>?_]
   .have%[j,v,h2|e]:=bG f;have%[d|rfl]:=Xn e;rcases mem y n with⟨o,l,h3,rfl⟩|⟨o,l,h3,rfl⟩
    .exact u j o ⋯ l
    .exact Yh (g1 j d v) (z 0 o (Xf _) l)
   .have%[j,v,h2|e]:=bX n;have%[d|rfl]:=Xn e;rcases Xo f with f|f
    .have%[o,h3,h4|e']:=bG f;have%[l|rfl]:=Xn e';exact Yh (u o (X.length-1) ⋯ ⋯) (g4 j d v)
    .rcases mem x f with⟨o,l,h3,rfl⟩|⟨o,l,h3,rfl⟩
     .exact Yh (u o (X.length-1) ⋯ ⋯) (g4 j d v)
     .exact z o j ⋯ d
  .have p1:(X.take k++r.toList++Y.drop k2).Perm (X.take k++(X.drop k++Y.take k2) ++Y.drop k2):=Xl _ (List.Perm.append_left _ J.2);refine p1.trans ?_;rw[<-Ze,Xc,Ze,Xc]
  .show(setArr g _|>arrOf).toList=_;have ab:arrOf g=arrOf st:=sg.2.1;show((r.toList.zipIdx).foldl (λ(a:Array Keyed) (p:Keyed×Nat)=>a.setIfInBounds (b.length+k+p.2) p.1) (arrOf g)).toList=_;rw[ub _ 0 _ _ (by rw[lr,ab,sz];lia),ab,e,lr];have t1:(b++X++Y++L2).take (b.length+k+0)=b++X.take k:=by
    rw[add_zero,Ze,Ze,List.take_append,Zn ⋯,Zw,Xd ⋯]
   have t2:(b++X++Y++L2).drop (b.length+k+0+(X.length-k+k2))=Y.drop k2++L2:=by
    rw[show b.length+k+0+(X.length-k+k2)=(b++X).length+k2 by rw[Z9];lia,Ze,List.drop_append,List.drop_of_length_le ⋯,nil_append,Zw,List.drop_append_of_le_length ⋯]
   rw[t1,t2];simp
 have B:∀x y,((arrOf st).extract (b.length+X.length) (b.length+X.length+k2)).toList[0]? =some x->((arrOf st).extract (b.length+k) (b.length+X.length)).toList[0]? =some y->N x<=N y:=λx y f n=>by
  rw[L,Yc,if_pos ⋯,Z4 lY]at f;rw[ex,Yb,Z4 (by omega)]at n;cases f;cases n;exact Yf (g2 _ ⋯ ⋯)
 have C:∀y∈((arrOf st).extract (b.length+X.length) (b.length+X.length+k2)).toList,∀x∈((arrOf st).extract (b.length+k) (b.length+X.length)).toList.drop (((arrOf st).extract (b.length+k) (b.length+X.length)).size-1),N y<=N x:=λy n x f=>by
  rw[L]at n;rw[sx,ex,drop_drop]at f;have%[j,v,h2|e1]:=bG n;have%[d|rfl]:=Xn e1;have%[o,h3,h4|e2]:=bX f;have%[l|rfl]:=Xn e2;have:o=X.length-1:=by lia
  subst this;exact Yf (g3 j d v)
 have ac:Srt N ((arrOf st).extract (b.length+k) (b.length+X.length)).toList:=by rw[ex];exact M.drop k
 have ae:Srt N ((arrOf st).extract (b.length+X.length) (b.length+X.length+k2)).toList:=by rw[L];exact O.take k2
 have ag:∀x∈((arrOf st).extract (b.length+k) (b.length+X.length)).toList,D x:=λx f=>dX x (by rw[ex]at f;exact Yx f)
 have ai:∀x∈((arrOf st).extract (b.length+X.length) (b.length+X.length+k2)).toList,D x:=λx f=>dY x (by rw[L]at f;exact Yy f)
 have gg:∀(r:Array Keyed) (g:SortSt),SG (setPending st (((pendingOf st).setIfInBounds i (b.length,X.length+Y.length,p)).eraseIdxIfInBounds (i+1))) g->cu N ((arrOf st).extract (b.length+k) (b.length+X.length)).toList ((arrOf st).extract (b.length+X.length) (b.length+X.length+k2)).toList r.toList->
  (SC prog w A SI) (do modify (λs=>setArr s (r.toList.zipIdx.foldl (λa (p,j)=>a.setIfInBounds (b.length+k+j) p) (arrOf s)));let x<-get;pure (failedOf x).isNone) Q g:=λr g sg J=>fin r g sg (by rw[ex,L]at J;exact J)
 by_cases q3:X.length-k<=k2
 .rw[if_pos q3];exact ar (v4 c ac ae ag ai (by rw[sx];lia) (by rw[sy];lia) B C gg)
 .rw[if_neg q3];exact ar (v5 c ac ae ag ai (by rw[sx];lia) (by rw[sy];lia) B C gg)
end
end SBig
namespace SBig
open PySem PyProof.Rows
noncomputable def ky(N:Keyed->Nat)(a:Array Keyed)(i:Nat):Nat:=N (a.getD i (Value.none,Value.none))
theorem A7(h:a[i]? =some x):ky N a i=N x:=by
 unfold ky
 simp_all
theorem uc(h:a[i]? =b[j]?):ky N a i=ky N b j:=by
 unfold ky
 simp_all
structure CR (st0 st:SortSt) (lo:Nat):Prop where
 kind:kindOf st=kindOf st0
 pend:pendingOf st=pendingOf st0
 fail:failedOf st=failedOf st0
 perm:(arrOf st).Perm (arrOf st0)
 same:∀i,i<lo->(arrOf st)[i]? =(arrOf st0)[i]?
theorem CR.refl(st:SortSt)(lo:Nat):CR st st lo:=%[rfl,rfl,rfl,Array.Perm.refl _|λ_ _=>rfl]
theorem CR.size{a st:SortSt}{lo:Nat}(h:CR a st lo):(arrOf st).size=(arrOf a).size:=h.perm.size_eq
theorem CR.rev{a st:SortSt}{lo i j:Nat}(h:CR a st lo)(hi:lo<=i)(b:j<=(arrOf st).size):CR a (setArr st (mirror (arrOf st) i j ((j-i)/2))) lo:=
 %[h.kind,h.pend,h.fail,(mirror_perm _ _ _ _).trans h.perm|λk c=>by
  rw[getElem?_mirror_all b,if_neg ⋯];exact h.same k c]
theorem v7(b:j<=a.size)(k:Nat):ky N (mirror a i j ((j-i)/2)) k=if i<=k/\k<j then ky N a (i+j-1-k)else ky N a k:=by
 split
 .rename_i h
  exact uc (by rw[getElem?_mirror_all b,if_pos h])
 .rename_i h
  exact uc (by rw[getElem?_mirror_all b,if_neg h])
def Up(N:Keyed->Nat)(a:Array Keyed)(lo n:Nat):Prop:=∀i j,i<=j->j<n->ky N a (lo+i)<=ky N a (lo+j)
def Dn(N:Keyed->Nat)(a:Array Keyed)(lo n:Nat):Prop:=∀i j,i<=j->j<n->ky N a (lo+j)<=ky N a (lo+i)
theorem Up.one(N:Keyed->Nat)(a:Array Keyed)(lo:Nat):Up N a lo 1:=λi j b c=>by
 simp_all
theorem Up.step{lo n:Nat}(h:Up N a lo n)(d:1<=n)(f: ¬ ky N a (lo+n)<ky N a (lo+n-1)):Up N a lo (n+1):=λi j b g=>by
 by_cases e:j=n
 .subst e;by_cases c:i=j
  .exact c▸Zi _
  .have:=h i (j-1) ⋯ ⋯;rw[show lo+(j-1)=lo+j-1 by lia]at this
   lia
 .exact h i j b ⋯
theorem Dn.step{lo n:Nat}(h:Dn N a lo n)(d:1<=n)(f:ky N a (lo+n)<=ky N a (lo+n-1)):Dn N a lo (n+1):=λi j b g=>by
 by_cases e:j=n
 .subst e;by_cases c:i=j
  .exact c▸Zi _
  .have:=h i (j-1) ⋯ ⋯;rw[show lo+(j-1)=lo+j-1 by lia]at this
   lia
 .exact h i j b ⋯
theorem Dn.rev{lo n:Nat}(h:Dn N a lo n)(b:lo+n<=a.size):Up N (mirror a lo (lo+n) ((lo+n-lo)/2)) lo n:=λi j c d=>by
 rw[v7 b,v7 b,if_pos ⋯,if_pos ⋯];have:=h (n-1-j) (n-1-i) ⋯ ⋯
 grind
theorem Dn.same{lo n i j:Nat}(h:Dn N a lo n)(d:j<=a.size)(g:∀k b,i<=k->k<j->i<=b->b<j->ky N a k=ky N a b):Dn N (mirror a i j ((j-i)/2)) lo n:=by
 have e:∀k,ky N (mirror a i j _) k=ky N a k:=λk=>by
  rw[v7 d]
  grind
 intro p q c f;rw[e,e];exact h p q c f
section
variable{prog:Program}{w:World}{A:Around}{SI:Shared->Prop}{α β:Type}
theorem om{i j lo:Nat}{a st:SortSt}(c:Cmp prog w A SI (kindOf a) D N)(d:∀x∈(arrOf a).toList,D x)(r:CR a st lo)(hi:i<(arrOf a).size)(m:j<(arrOf a).size)
 (h:Q (some (decide (ky N (arrOf st) i<ky N (arrOf st) j))) st):(SC prog w A SI) (ltAt' i j) Q st:=by
 have f:=λx n=>d x ((Array.perm_iff_toList_perm.mp r.perm).mem_iff.mp n)
 have b:i<(arrOf st).size:=r.size▸hi;have e:j<(arrOf st).size:=r.size▸m;have%[g|o]:=aX b;have%[l|p]:=aX e;refine C8 (r.kind▸c) g l (f _ ∅) (f _ ∅) ?_;rw[A7 g,A7 l]at h;exact h
theorem sC{st:SortSt}(h:Q () (setArr st (mirror (arrOf st) i j ((j-i)/2)))):(SC prog w A SI) (reverseSlice' i j) Q st:=by
 exact cH h
noncomputable def cuL(lo:Nat)(x:Option (Option Nat)×Nat):StateT SortSt Sem (ForInStep (Option (Option Nat)×Nat)):=do
 match<-ltAt' (lo+x.2) (lo+x.2-1)with
 | some w=>if w=true then pure (.done (none,x.2))else pure (.yield (none,x.2+1))
 | _=>pure (.done (some none,x.2))
noncomputable def cu3(lo nrem n:Nat):StateT SortSt Sem (Option Nat):=do
 reverseSlice' lo (lo+n)
 let x<-forIn [n:nrem] (none,n) λ_ x=>cuL lo x
 match x.1 with
 | some r=>pure r
 | none=>pure (some x.2)
noncomputable def cuM(lo:Nat)(x:Option (Option Nat)×Nat×Nat):StateT SortSt Sem (ForInStep (Option (Option Nat)×Nat×Nat)):=do
 match<-ltAt' (lo+x.2.1) (lo+x.2.1-1)with
 | some w=>
   if w=true then(if x.2.2>0 then(do
    reverseSlice' (lo+x.2.1-(x.2.2+1)) (lo+x.2.1)
    pure (.yield (none,x.2.1+1,0)))else pure (.yield (none,x.2.1+1,0)))
   else(do
    match<-ltAt' (lo+x.2.1-1) (lo+x.2.1)with
    | some w=>if w=true then pure (.done (none,x.2.1,x.2.2))else pure (.yield (none,x.2.1+1,x.2.2+1))
    | _=>pure (.done (some none,x.2.1,x.2.2)))
 | _=>pure (.done (some none,x.2.1,x.2.2))
noncomputable def cu2(lo nrem n:Nat):StateT SortSt Sem (Option Nat):=do
 rule "list.sort.descending-run"
 let x<-forIn [n+1:nrem] (none,n+1,0) λ_ x=>cuM lo x
 match x.1 with
 | some r=>pure r
 | none=>
   if x.2.2>0 then(do
    reverseSlice' (lo+x.2.1-(x.2.2+1)) (lo+x.2.1)
    cu3 lo nrem x.2.1)else cu3 lo nrem x.2.1
set_option smartUnfolding false in
theorem GT(lo nrem:Nat):countRun' lo nrem=(do
 let x<-forIn [1:nrem] (none,1) λ_ x=>cuL lo x
 match x.1 with
 | some r=>pure r
 | none=>
   if(x.2==nrem)=true then pure (some x.2)
   else if x.2>1 then(do
    match<-ltAt' lo (lo+x.2-1)with
    | some w=>if w=true then pure (some x.2)else(do
      reverseSlice' lo (lo+x.2)
      cu2 lo nrem x.2)
    | _=>pure none)else cu2 lo nrem x.2):=by
 rw[countRun'_eq];rfl
variable{D:Keyed->Prop}{N:Keyed->Nat}{lo nrem n j:Nat}{Q:Option Nat->SortSt->Prop}{st st2:SortSt}
theorem A8{q:Option (Option Nat)}{R:ForInStep (Option (Option Nat)×Nat)->SortSt->Prop}(c:Cmp prog w A SI (kindOf st) D N)(d:∀x∈(arrOf st).toList,D x)(r:CR st st2 lo)(e:lo+nrem<=(arrOf st).size)(f:1<=j)(g:j<nrem)
 (a:ky N (arrOf st2) (lo+j)<ky N (arrOf st2) (lo+j-1)->R (.done (none,j)) st2) (b: ¬ ky N (arrOf st2) (lo+j)<ky N (arrOf st2) (lo+j-1)->R (.yield (none,j+1)) st2):(SC prog w A SI) (cuL lo (q,j)) R st2:=by
 refine ar (om c d r ⋯ ⋯ ?_);dsimp only;by_cases q:ky N (arrOf st2) (lo+j)<ky N (arrOf st2) (lo+j-1)
 .rw[Zf q,if_pos rfl];exact av (a q)
 .rw[Zh q,if_neg ∅];exact av (b q)
theorem A9(c:Cmp prog w A SI (kindOf st) D N)(d:∀x∈(arrOf st).toList,D x)(t:lo+nrem<=(arrOf st).size)(h:∀n a,CR st a lo->1<=n->n<=nrem->Up N (arrOf a) lo n->Q (some n) a)
 (r:CR st st2 lo) (n1:1<=n) (p:n<=nrem) (u:Dn N (arrOf st2) lo n):(SC prog w A SI) (cu3 lo nrem n) Q st2:=by
 refine ar (sC ?_);have v:=r.rev (i:=lo) (j:=lo+n) (Zi _) (by rw[r.size];lia);have g:=u.rev (by rw[r.size];lia);refine ar (bS (bF (Q:=λx a=>CR st a lo/\∃n,x=(none,n)/\1<=n/\n<=nrem/\Up N (arrOf a) lo n)
  (λj x a=>CR st a lo/\x=(none,j)/\Up N (arrOf a) lo j) p %[v,rfl|g] ?_ ?_) ?_)
 .intro j x e l s %[f,rfl|b];have o:=Yh n1 l;exact A8 c d f t o s (λ_=>%[f,j,rfl,o,Yf s|b]) λq=>%[f,rfl|b.step o q]
 .intro x e %[f,rfl|b];exact%[f,nrem,rfl,Yh n1 p,Zi _|b]
 .intro x e %[f,m,rfl,y,m2|b];exact av (h m e f y m2 b)
theorem FE{q:Option (Option Nat)}{k:Nat}{R:ForInStep (Option (Option Nat)×Nat×Nat)->SortSt->Prop}(c:Cmp prog w A SI (kindOf st) D N)(d:∀x∈(arrOf st).toList,D x)(r:CR st st2 lo)(z:lo+nrem<=(arrOf st).size)(u:k+1<=j)(B:j<nrem)
 (o:Dn N (arrOf st2) lo j) (p:∀i a,lo+j-(k+1)<=i->i<lo+j->lo+j-(k+1)<=a->a<lo+j->ky N (arrOf st2) i=ky N (arrOf st2) a)
 (v:R (.done (none,j,k)) st2) (g:∀k st2,CR st st2 lo->k<=j->Dn N (arrOf st2) lo (j+1)->(∀i a,lo+(j+1) -(k+1)<=i->i<lo+(j+1)->lo+(j+1) -(k+1)<=a->a<lo+(j+1)->ky N (arrOf st2) i=ky N (arrOf st2) a)->R (.yield (none,j+1,k)) st2):(SC prog w A SI) (cuM lo (q,j,k)) R st2:=by
 have one:∀st,∀i a,lo+(j+1) -(0+1)<=i->i<lo+(j+1)->lo+(j+1) -(0+1)<=a->a<lo+(j+1)->ky N (arrOf st) i=ky N (arrOf st) a:=λst i a h l y s=>by rw[show i=a by lia]
 refine ar (om c d r ⋯ ⋯ ?_);dsimp only;by_cases m:ky N (arrOf st2) (lo+j)<ky N (arrOf st2) (lo+j-1)
 .rw[Zf m,if_pos rfl];have b:=o.step ⋯ (Yf m);by_cases f:k>0
  .rw[if_pos f];exact ar (sC (av (g 0 _ (r.rev ⋯ (by rw[r.size];lia)) (Xf _) (b.same (by rw[r.size];lia) p) (one _))))
  .rw[if_neg f];exact av (g 0 _ r (Xf _) b (one _))
 .rw[Zh m,if_neg ∅];refine ar (om c d r ⋯ ⋯ ?_);dsimp only;by_cases t:ky N (arrOf st2) (lo+j-1)<ky N (arrOf st2) (lo+j)
  .rw[Zf t,if_pos rfl];exact av v
  .rw[Zh t,if_neg ∅];have all:∀i,lo+j-(k+1)<=i->i<lo+(j+1)->ky N (arrOf st2) i=ky N (arrOf st2) (lo+j-1):=λi h l=>by
    by_cases e:i=lo+j
    .rw[e];lia
    .exact p _ _ h ⋯ ⋯ ⋯
   exact av (g (k+1) _ r u (o.step ⋯ ⋯) λi a h l y s=>(all i ⋯ l).trans (all a ⋯ s).symm)
theorem Ba(c:Cmp prog w A SI (kindOf st) D N)(d:∀x∈(arrOf st).toList,D x)(p:lo+nrem<=(arrOf st).size)(h:∀n a,CR st a lo->1<=n->n<=nrem->Up N (arrOf a) lo n->Q (some n) a)
 (r:CR st st2 lo) (z:n<nrem) (s:Dn N (arrOf st2) lo (n+1)):(SC prog w A SI) (cu2 lo nrem n) Q st2:=by
 refine ar (jv ?_);refine ar (bS (bF (Q:=λx a=>CR st a lo/\∃m q,x=(none,m,q)/\q+1<=m/\m<=nrem/\Dn N (arrOf a) lo m/\(∀k f,lo+m-(q+1)<=k->k<lo+m->lo+m-(q+1)<=f->f<lo+m->ky N (arrOf a) k=ky N (arrOf a) f))
  (λj x a=>CR st a lo/\∃q,x=(none,j,q)/\q+1<=j/\Dn N (arrOf a) lo j/\(∀k f,lo+j-(q+1)<=k->k<lo+j->lo+j-(q+1)<=f->f<lo+j->ky N (arrOf a) k=ky N (arrOf a) f)) z %[r,0,rfl,Nat.le_add_left _ _,s|λk f G H I J=>by rw[show k=f by lia]] ?_ ?_) ?_)
 .intro j x l B u %[g,q,rfl,i,b|e];exact FE c d g p i u b e %[g,j,q,rfl,i,Yf u,b|e] λk st2 r C s E=>%[r,k,rfl,Nat.succ_le_succ C,s|E]
 .intro x l %[g,q,rfl,i,b|e];exact%[g,nrem,q,rfl,i,Zi _,b|e]
 .intro x l %[g,m,q,rfl,t,v,b|e];have y:1<=m:=Yh (Nat.le_add_left _ _) t;dsimp only;by_cases o:q>0
  .rw[if_pos o];exact ar (sC (A9 c d p h (g.rev ⋯ (by rw[g.size];lia)) y v (b.same (by rw[g.size];lia) e)))
  .rw[if_neg o];exact A9 c d p h g y v b
theorem ue{lo nrem:Nat}{st:SortSt}(c:Cmp prog w A SI (kindOf st) D N)(d:∀x∈(arrOf st).toList,D x)(t:1<=nrem)(g:lo+nrem<=(arrOf st).size)
 (h:∀n b,CR st b lo->1<=n->n<=nrem->Up N (arrOf b) lo n->Q (some n) b):(SC prog w A SI) (countRun' lo nrem) Q st:=by
 rw[GT];refine ar (bS (bF (Q:=λx b=>b=st/\∃n,x=(none,n)/\1<=n/\n<=nrem/\Up N (arrOf st) lo n/\(n=nrem\/ky N (arrOf st) (lo+n)<ky N (arrOf st) (lo+n-1)))
  (λj x b=>b=st/\x=(none,j)/\Up N (arrOf st) lo j) t %[rfl,rfl|Up.one _ _ _] ?_ ?_) ?_)
 .intro j x b e f %[rfl,rfl|up];exact A8 c d (CR.refl _ lo) g e f (λq=>%[rfl,j,rfl,e,Yf f,up|.inr q]) λq=>%[rfl,rfl|up.step e q]
 .intro x b %[rfl,rfl|up];exact%[rfl,nrem,rfl,t,Zi _,up|.inl rfl]
 .intro x a %[H,n,rfl,n1,u,up|l];subst H;dsimp only;by_cases m:n=nrem
  .rw[if_pos (by simp[m])];exact av (h n a (CR.refl _ _) n1 u up)
  rw[if_neg (by simp[m])];have l:ky N (arrOf a) (lo+n)<ky N (arrOf a) (lo+n-1):=l.resolve_left m;have v:n<nrem:=by lia
  by_cases y:n>1
  .rw[if_pos y];refine ar (om c d (CR.refl _ lo) ⋯ ⋯ ?_);dsimp only;by_cases z:ky N (arrOf a) lo<ky N (arrOf a) (lo+n-1)
   .rw[Zf z,if_pos rfl];exact av (h n a (CR.refl _ _) n1 u up)
   .rw[Zh z,if_neg ∅];have all:∀i,i<n->ky N (arrOf a) (lo+i)=ky N (arrOf a) lo:=λi hi=>by
     have B:=up 0 i (Xf _) hi;have C:=up i (n-1) ⋯ ⋯;rw[show lo+(n-1)=lo+n-1 by lia]at C;rw[add_zero]at B
     lia
    have o:Dn N (arrOf a) lo n:=λi j p f=>by rw[all i ⋯,all j f];exact Zi _
    have r:Dn N (arrOf a) lo (n+1):=o.step n1 ⋯;exact ar (sC (Ba c d g h ((CR.refl a lo).rev (Zi _) ⋯) v (r.same ⋯ (λk s B C I J=>by
     have E:=all (k-lo) ⋯;have G:=all (s-lo) ⋯;rw[show lo+(k-lo)=k by lia]at E;rw[show lo+(s-lo)=s by lia]at G;rw[E,G]))))
  .rw[if_neg y];refine Ba c d g h (CR.refl a lo) v (Dn.step (λi j p f=>?_) n1 (Yf l));rw[show i=j by lia];exact Zi _
end
end SBig
namespace SBig
open PySem PyProof.Rows
section
variable{prog:Program}{w:World}{A:Around}{SI:Shared->Prop}{α β:Type}
theorem CR.move{a st:SortSt}{lo k l:Nat}(h:CR a st lo)(b:lo+k<(arrOf st).size)(c:l<=k):CR a (setArr st (bubble (arrOf st) (lo+k) (lo+k-(lo+l)))) lo:=
 %[h.kind,h.pend,h.fail,(bubble_perm _ _ _).trans h.perm|λi hi=>by
  rw[getElem?_bubble b _ ⋯,if_neg ⋯,if_neg ⋯];exact h.same i hi]
theorem xc(f:b<a.size)(g:d<=b)(k:Nat):ky N (bubble a b d) k=if k=b-d then ky N a b else if b-d<k/\k<=b then ky N a (k-1)else ky N a k:=by
 by_cases c:k=b-d
 .rw[if_pos c];exact uc (by rw[getElem?_bubble f d g,if_pos c])
 .rw[if_neg c];by_cases e:b-d<k/\k<=b
  .rw[if_pos e];exact uc (by rw[getElem?_bubble f d g,if_neg c,if_pos e])
  .rw[if_neg e];exact uc (by rw[getElem?_bubble f d g,if_neg c,if_neg e])
theorem yM{lo n ok:Nat}{f st:SortSt}(c:Cmp prog w A SI (kindOf f) D N)(d:∀x∈(arrOf f).toList,D x)(r:CR f st lo)(M:1<=ok)(O:ok<=n)(hs:lo+n<=(arrOf f).size)(up:Up N (arrOf st) lo ok)
 (h:∀a,CR f a lo->Up N (arrOf a) lo n->Q true a):(SC prog w A SI) (binarySort' lo n ok) Q st:=by
 rw[binarySort'_eq];rw[show max ok 1=ok by lia];refine ar (bS (bF (Q:=λx a=>x=(none,())/\CR f a lo/\Up N (arrOf a) lo n) (λk x a=>x=(none,())/\CR f a lo/\Up N (arrOf a) lo k) O %[rfl,r|up] ?_ ?_) ?_)
 .intro k x b T hk %[rfl,m|up1];dsimp only;have pv:∀i,i<k->lo+i<(arrOf f).size:=λi hi=>by lia
  refine ar (bS (bF (Q:=λx a=>a=b/\∃l,x.1=none/\x.2.1=l/\l<=k/\(∀i,i<l->ky N (arrOf b) (lo+i)<=ky N (arrOf b) (lo+k))/\(∀i,l<=i->i<k->ky N (arrOf b) (lo+k)<ky N (arrOf b) (lo+i)))
   (λj x a=>a=b/\∃l q,x=(none,l,q)/\l<=q/\q<=k/\q-l<=k-j/\(∀i,i<l->ky N (arrOf b) (lo+i)<=ky N (arrOf b) (lo+k))/\(∀i,q<=i->i<k->ky N (arrOf b) (lo+k)<ky N (arrOf b) (lo+i))) (Xf _)
   %[rfl,0,k,rfl,⋯,⋯,⋯,λi hi=>absurd hi (X7 _)|λi M h2=>by lia] ?_ ?_) ?_)
  .intro j x g _ U %[rfl,l,q,rfl,B,o,Y,s|t];dsimp only;by_cases u:l>=q
   .rw[if_pos u];have e:l=q:=by lia
    subst e;exact av %[rfl,l,rfl,rfl,o,s|t]
   .rw[if_neg u];refine ar (om c d m ⋯ ⋯ ?_);dsimp only;by_cases p:ky N (arrOf g) (lo+k)<ky N (arrOf g) (lo+(l+q)/2)
    .rw[Zf p,if_pos rfl];exact av %[rfl,l,_,rfl,⋯,⋯,⋯,s|λi v z=>Zg p (up1 _ _ v z)]
    .rw[Zh p,if_neg ∅];exact av %[rfl,_,q,rfl,⋯,⋯,⋯,λi v=>Yh (up1 i ((l+q)/2) ⋯ ⋯) ⋯|t]
  .intro x g %[rfl,l,q,rfl,B,o,Y,s|t];have e:l=q:=by lia
   subst e;exact%[rfl,l,rfl,rfl,o,s|t]
  .rintro⟨x1,x2,x3⟩ g ⟨e2,l,G,H,C,s,t⟩;subst e2;dsimp only at G H;subst G H;dsimp only;rw[moveDown'_eq];refine ar (cH (av %[rfl,m.move (by rw[m.size];lia) C|?_]));have y:lo+k<(arrOf g).size:=by rw[m.size];lia
   intro i j E U;rw[xc y ⋯,xc y ⋯];have ed:lo+k-(lo+k-(lo+x2))=lo+x2:=by lia
   rw[ed];by_cases v:lo+i=lo+x2
   .rw[if_pos v];by_cases z:lo+j=lo+x2
    .rw[if_pos z];exact Zi _
    .rw[if_neg z,if_pos ⋯];have:=t (j-1) ⋯ ⋯;rw[show lo+(j-1)=lo+j-1 by lia]at this
     lia
   .rw[if_neg v];by_cases I:lo+x2<lo+i/\lo+i<=lo+k
    .rw[if_pos I,if_neg ⋯,if_pos ⋯];have:=up1 (i-1) (j-1) ⋯ ⋯;rw[show lo+(j-1)=lo+j-1 by lia,show lo+(i-1)=lo+i-1 by lia]at this;exact this
    .rw[if_neg I];by_cases J:lo+j=lo+x2
     .rw[if_pos J];exact s i ⋯
     .rw[if_neg J];by_cases L:lo+x2<lo+j/\lo+j<=lo+k
      .rw[if_pos L];have:=up1 i (j-1) ⋯ ⋯;rw[show lo+(j-1)=lo+j-1 by lia]at this;exact this
      .rw[if_neg L];exact up1 i j E ⋯
 .intro x b %[rfl,m|up1];exact%[rfl,m|up1]
 .intro x b %[rfl,m|up1];exact av (h b m up1)
end
end SBig
namespace SBig
open PySem PyProof.Rows
section
variable{prog:Program}{w:World}{A:Around}{SI:Shared->Prop}
end
end SBig
namespace SBig
open PySem PyProof.Rows
noncomputable def dH:List (List Keyed×Nat)->Nat->List (Nat×Nat×Nat)
 |[],_=>[]
 |(r,p)::t,o=>(o,r.length,p)::dH t (o+r.length)
noncomputable def bz(a:List (List Keyed×Nat)):List Keyed:=(a.map (·.1)).flatten
theorem ci(a b:List _):bz (a++b)=bz a++bz b:=by simp[bz]
theorem aW(a:List Keyed×Nat)(b:List _):bz (a::b)=a.1++bz b:=by simp[bz]
theorem du:∀a b o,dH (a++b) o=dH a o++dH b (o+(bz a).length)
 |[],b,o=>by simp[dH,bz]
 |(r,p)::t,b,o=>by
  rw[cons_append,dH,dH,du t b,aW,Z9,cons_append,Nat.add_assoc]
theorem fo:∀a o,(dH a o).length=a.length
 |[],_=>rfl
 |(r,p)::t,o=>by rw[dH,Zr,Zr,fo t]
structure RI (N:Keyed->Nat) (st0 st:SortSt) (rp:List (List Keyed×Nat)) (rest:List Keyed):Prop where
 kind:kindOf st=kindOf st0
 fail:failedOf st=none
 perm:(arrOf st).toList.Perm (arrOf st0).toList
 arr:(arrOf st).toList=bz rp++rest
 pend:(pendingOf st).toList=dH rp 0
 runs:∀r∈rp,r.1≠[]/\Srt N r.1
theorem RI.size{N:Keyed->Nat}{a st:SortSt}{b:List _}{rest:List Keyed}(h:RI N a st b rest):(arrOf st).size=(arrOf a).size:=by
 rw[<-Zb,<-Zb,h.perm.length_eq]
theorem RI.psize{N:Keyed->Nat}{a st:SortSt}{b:List _}{rest:List Keyed}(h:RI N a st b rest):(pendingOf st).size=b.length:=by
 rw[<-Zb,h.pend,fo]
section
variable{prog:Program}{w:World}{A:Around}{SI:Shared->Prop}{α β:Type}
theorem kL{D:Keyed->Prop}{N:Keyed->Nat}{f st:SortSt}{a b:List _}{X Y:List Keyed}{p o i:Nat}{rest:List Keyed}{Q:Bool->SortSt->Prop}(c:Cmp prog w A SI (kindOf f) D N)(d:∀x∈(arrOf f).toList,D x)
 (h:RI N f st (a++(X,p)::(Y,o)::b) rest) (hi:i=a.length) (k:∀Z g,RI N f g (a++(Z,p)::b) rest->Z.length=X.length+Y.length->Q true g):(SC prog w A SI) (mergeAt' i) Q st:=by
 subst hi;have e:=h.arr;rw[ci,aW,aW]at e;have m:(arrOf st).toList=bz a++X++Y++(bz b++rest):=by rw[e];simp
 have v:=λx j=>d x (h.perm.mem_iff.mp j)
 have n:=h.pend;rw[du,dH,dH,zero_add]at n;have pl:=fo a 0;have C:=by
  have:(pendingOf st).toList[a.length]? =some ((bz a).length,X.length,p):=by
   rw[n,Ya ⋯,pl,sub_self];rfl
  simpa using this
 have E:=by
  have:(pendingOf st).toList[a.length+1]? =some ((bz a).length+X.length,Y.length,o):=by
   rw[n,Ya ⋯,pl,Zw];rfl
  simpa using this
 have s:=h.runs (X,p) ∅;have y:=h.runs (Y,o) ∅;refine v6 (by rw[h.kind];exact c) m s.2 y.2 s.1 y.1 (λx j=>v x (by rw[m];simp[j])) (λx j=>v x (by rw[m];simp[j])) C E h.fail λZ g G z B H I t=>?_
 have u:Z.length=X.length+Y.length:=by rw[z.length_eq,Z9]
 refine k Z g %[H.trans h.kind,I,?_,?_,?_|λr l=>?_] u
 .refine List.Perm.trans ?_ h.perm;rw[B,m];rw[show bz a++X++Y++(bz b++rest)=bz a++(X++Y) ++(bz b++rest) by simp];exact Xl _ (List.Perm.append_left _ z)
 .rw[B,ci,aW];simp
 .rw[t,Array.toList_eraseIdxIfInBounds,Array.toList_setIfInBounds,n,du,dH,zero_add];rw[List.set_append_right _ _ ⋯,pl,sub_self,List.set_cons_zero];rw[List.eraseIdx_append_of_length_le ⋯,pl,Zw,List.eraseIdx_cons_succ,List.eraseIdx_cons_zero];rw[u,Nat.add_assoc]
 .rcases Xo l with l|l
  .exact h.runs r (Yu _ l)
  .rcases mem_cons.mp l with rfl|l
   .refine%[λq=>?_|G];have j:=length_pos_iff.mpr s.1;dsimp only at q j;rw[q,length_nil]at u
    lia
   .exact h.runs r (by simp[l])
theorem yN{N:Keyed->Nat}{a:Array Keyed}{lo n:Nat}(h:Up N a lo n)(f:lo+n<=a.size):Srt N ((a.toList.drop lo).take n):=by
 refine pairwise_iff_getElem.mpr λi j hi c d=>?_
 have b:j<n:=by grind
 have g:∀i hi,i<n->N ((a.toList.drop lo).take n)[i]=ky N a (lo+i):=λi hi e=>by
  refine(A7 ?_).symm
  simp_all
 rw[g i hi ⋯,g j c b];exact h i j ⋯ b
theorem CR.toRI{N:Keyed->Nat}{d b a:SortSt}{f:List _}{rest:List Keyed}{lo n:Nat}(h:RI N d b f rest)(r:CR b a lo)(j:(bz f).length=lo)(up:Up N (arrOf a) lo n)(p:lo+n<=(arrOf b).size):
 ∃R c,RI N d a f (R++c)/\R.length=n/\Srt N R:=by
 have l:=r.size;refine%[((arrOf a).toList.drop lo).take n,(arrOf a).toList.drop (lo+n),%[r.kind.trans h.kind,r.fail.trans h.fail,(Array.perm_iff_toList_perm.mp r.perm).trans h.perm,?_,by rw[r.pend];exact h.pend|h.runs],?_|yN up ⋯]
 .have e:(arrOf a).toList.take lo=bz f:=by
   have m:(arrOf a).toList.take lo=(arrOf b).toList.take lo:=by
    apply List.ext_getElem?;intro i;rw[Yc,Yc]
    split
    .rename_i hi
     have:=r.same i hi;simpa using this
    .rfl
   rw[m,h.arr,Xd ⋯,Zn ⋯]
  rw[<-e];have o:=Xc lo (arrOf a).toList;have g:=Xc n ((arrOf a).toList.drop lo);rw[drop_drop]at g;rw[g,o]
 grind
theorem mO{α:Type}(f:α->α):∀l x,(l++[x]).modify l.length f=l++[f x]
 |[],x=>rfl
 | y::l,x=>by
   rw[cons_append,Zr,List.modify_succ_cons,mO f l x,cons_append]
theorem kM{α:Type}(l:List α):l=[]\/∃a x,l=a++[x]:=by
 by_cases h:l=[]
 .exact .inl h
 .exact .inr %[l.dropLast,l.getLast h|(List.dropLast_concat_getLast h).symm]
theorem yO{α:Type}(l:List α)(h:1<l.length):∃a x y,l=a++x::y::[]:=by
 rcases kM l with rfl|⟨a,y,rfl⟩
 .simp at h
 .rcases kM a with rfl|⟨b,x,rfl⟩
  .simp at h
  .exact%[b,x,y|by simp]
theorem RI.pushed{N:Keyed->Nat}{a st:SortSt}{c:List _}{R rest:List Keyed}{lo m:Nat}(h:RI N a st c (R++rest))(d:(bz c).length=lo)(e:R.length=m)(f:1<=m)(g:Srt N R):RI N a (setPending st ((pendingOf st).push (lo,m,0))) (c++[(R,0)]) rest:=by
 refine%[h.kind,h.fail,h.perm,?_,?_|λr b=>?_]
 .rw[h.arr,ci,aW];simp[bz]
 .rw[toList_push,h.pend,du,dH,dH,zero_add,d,e]
 .rcases Xo b with b|b
  .exact h.runs r b
  .rw[Xp b]
   grind
theorem RI.powered{N:Keyed->Nat}{a st:SortSt}{b:List _}{rest:List Keyed}{X:List Keyed}{p:Nat}(d:Nat)(h:RI N a st (b++[(X,p)]) rest):RI N a (setPending st ((pendingOf st).modify ((pendingOf st).size-1) λx=>(x.fst,x.2.fst,d))) (b++[(X,d)]) rest:=by
 refine%[h.kind,h.fail,h.perm,?_,?_|λr c=>?_]
 .rw[h.arr,ci,ci,aW,aW]
 .rw[Array.toList_modify,h.psize,h.pend,du,du];rw[show(b++[(X,p)]).length-1=(dH b 0).length by rw[fo];simp];show List.modify (dH b 0++[_]) _ _=_;rw[mO];rfl
 .rcases Xo c with c|c
  .exact h.runs r (Yu _ c)
  .rw[Xp c];exact h.runs (X,p) ∅
noncomputable def srP(lo n:Nat):StateT SortSt Sem (ForInStep (Option Unit×Nat)):=do
 modify λs=>setPending s ((pendingOf s).push (lo,n,0))
 pure (.yield (none,lo+n))
noncomputable def sr1(size lo n:Nat):StateT SortSt Sem (ForInStep (Option Unit×Nat)):=do
 let s<-get
 match(pendingOf s).back? with
 | some (a,n1,_)=>do
   let x<-forIn [0:size] (none,()) λ_ _=>(do
    let s<-get
    match if(pendingOf s).size>1 then(pendingOf s)[(pendingOf s).size-2]? else none with
    | some (_,_,o)=>
      if o<=power' size (2*a+n1) (2*a+n1+n1+n) size then pure (.done (none,()))
      else(do
       let b<-mergeAt' ((pendingOf s).size-2)
       if(!b)=true then pure (.done (some (),()))else pure (.yield (none,())))
    | _=>pure (.done (none,())))
   match x.1 with
   | some r=>pure (.done (some r,lo))
   | none=>do
     modify λs=>setPending s ((pendingOf s).modify ((pendingOf s).size-1) λx=>(x.1,x.2.1,power' size (2*a+n1) (2*a+n1+n1+n) size))
     srP lo n
 | _=>srP lo n
noncomputable def srO(size:Nat)(x:Option Unit×Nat):StateT SortSt Sem (ForInStep (Option Unit×Nat)):=
 if x.2>=size then pure (.done (none,x.2))
 else do
  match<-countRun' x.2 (size-x.2)with
  | some n=>
    if n<minRun' size size 0 then(do
     rule "list.sort.binary-insertion"
     let b<-binarySort' x.2 (min (size-x.2) (minRun' size size 0)) n
     if(!b)=true then pure (.done (some (),x.2))else sr1 size x.2 (min (size-x.2) (minRun' size size 0)))
    else sr1 size x.2 n
  | _=>pure (.done (some (),x.2))
noncomputable def srT(size:Nat)(x:Option Unit×Nat):StateT SortSt Sem Unit:=
 match x.1 with
 | some r=>pure r
 | none=>do
   let x<-forIn [0:size] (none,()) λ_ _=>(do
    let s<-get
    if(pendingOf s).size<=1 then pure (.done (none,()))
    else(do
     let b<-mergeAt' (if Option.any (λx=>decide (x<(pendingOf s)[(pendingOf s).size-2+1]?.elim 0 λx=>x.2.1)) (if(pendingOf s).size-2>0 then Option.map (λx=>x.2.1) (pendingOf s)[(pendingOf s).size-2-1]? else none)=true then(pendingOf s).size-2-1 else(pendingOf s).size-2)
     if(!b)=true then pure (.done (some (),()))else pure (.yield (none,()))))
   match x.1 with
   | some r=>pure r
   | none=>pure ()
set_option smartUnfolding false in
theorem GU:sortRuns'=(do
 let s<-get
 let x<-forIn [0:(arrOf s).size] (none,0) λ_ x=>srO (arrOf s).size x
 srT (arrOf s).size x):=by
 rw[sortRuns'_eq];rfl
theorem Bb{D:Keyed->Prop}{N:Keyed->Nat}{st m:SortSt}{v:List (List Keyed×Nat)}{R e:List Keyed}{lo n:Nat}{T:ForInStep (Option Unit×Nat)->SortSt->Prop}(c:Cmp prog w A SI (kindOf st) D N)(d:∀x∈(arrOf st).toList,D x)(o:RI N st m v (R++e))(q:(bz v).length=lo)(p:R.length=n)(s:Srt N R)(J:1<=n)
 (L:∀a h,RI N st h a e->(bz a).length=lo+n->T (.yield (none,lo+n)) h):(SC prog w A SI) (sr1 (arrOf st).size lo n) T m:=by
 refine ar (gG ?_);rcases kM v with y|⟨O,⟨U,Y⟩,y⟩
 .subst y;have B:(pendingOf m).back? =none:=by
   have:=o.psize;rw[length_nil]at this;simp[Array.back?,this]
  rw[B];dsimp only;exact ar (cH (av (L _ _ (o.pushed q p J s) (by rw[ci,Z9,q,aW];simp[bz,p]))))
 .have B:(pendingOf m).back? =some ((bz O).length,U.length,Y):=by
   rw[<-Array.getLast?_toList,o.pend,y,du,dH,dH,zero_add];simp
  rw[B];dsimp only;refine ar (bS (bF (Q:=λx h=>x=(none,())/\∃a,RI N st h a (R++e)/\a≠[]/\(bz a).length=lo) (λj x h=>x=(none,())/\∃a,RI N st h a (R++e)/\a≠[]/\(bz a).length=lo) (Xf _) %[rfl,v,o,by rw[y];simp|q] ?_ ?_) ?_)
  .intro j5 x f _ _ %[rfl,l,b,i|g];refine ar (gG ?_);by_cases C:(pendingOf f).size>1
   .have%[r,%[z|E],%[Y5|q5]|rfl]:=yO l (by rw[<-b.psize];exact C);have t:(pendingOf f).size-2=r.length:=by rw[b.psize];simp
    have G:(pendingOf f)[(pendingOf f).size-2]? =some ((bz r).length,z.length,E):=by
     have:(pendingOf f).toList[r.length]? =some ((bz r).length,z.length,E):=by
      rw[b.pend,du,Ya (by rw[fo];lia),fo,sub_self,zero_add];rfl
     rw[t];simpa using this
    rw[if_pos C,G];dsimp only
    split
    .exact av %[rfl,_,b,i|g]
    .refine ar (kL c d b t λZ5 ab H I=>?_);rw[if_neg ∅];refine av %[rfl,_,H,by simp|?_];rw[<-g,ci,ci,aW,aW,aW];simp[bz,I]
     all_goals lia
   .rw[if_neg C];exact av %[rfl,_,b,i|g]
  .intro x f %[rfl,l,b,i|g];exact%[rfl,l,b,i|g]
  .intro x f %[rfl,l,b,i|g];dsimp only;have%[r,%[z|E]|rfl]:=(kM l).resolve_left i;refine ar (cH (ar (cH (av ?_))));have u:∀M:Nat,(bz (r++[(z,M)])).length=lo:=λM=>by
    rw[<-g,ci,ci,aW,aW]
   exact L _ _ ((b.powered _).pushed (u _) p J s) (by rw[ci,Z9,u,aW];simp[bz,p])
theorem sc_sortRuns{D:Keyed->Prop}{N:Keyed->Nat}{Q:Unit->SortSt->Prop}{st:SortSt}(c:Cmp prog w A SI (kindOf st) D N)(d:∀x∈(arrOf st).toList,D x)(h2:1<=(arrOf st).size)(hp:pendingOf st= #[])(hf:failedOf st=none)
 (h:∀f,(arrOf f).toList.Perm (arrOf st).toList->Srt N (arrOf f).toList->failedOf f=none->Q () f):(SC prog w A SI) sortRuns' Q st:=by
 rw[GU];refine ar (gG ?_);have L:RI N st st [] (arrOf st).toList:=%[rfl,hf,List.Perm.refl _,rfl,by rw[hp];rfl|λ_ h=>(nomatch h)]
 refine ar (bS (bF (Q:=λx f=>∃e lo,x=(none,lo)/\RI N st f e [])
  (λj x f=>∃e rest lo,x=(none,lo)/\RI N st f e rest/\(bz e).length=lo/\j<=lo/\lo<=(arrOf st).size) (Xf _) %[[],_,0,rfl,L,rfl,Zi _|Xf _] ?_ ?_) ?_)
 .intro j x u _ hj %[e,rest,lo,rfl,g,o,M|O];unfold srO;dsimp only;have T:=g.size;by_cases C:lo>=(arrOf st).size
  .rw[if_pos C];have U:rest=[]:=by
    have:=congrArg List.length g.arr;rw[Z9,Zb,T,o]at this;exact length_eq_zero_iff.mp ⋯
   subst U;exact av %[e,lo,rfl|g]
  rw[if_neg C];have d1:∀x∈(arrOf u).toList,D x:=λx hx=>d x (g.perm.mem_iff.mp hx)
  have c1:Cmp prog w A SI (kindOf u) D N:=by rw[g.kind];exact c
  refine ar (ue c1 d1 ⋯ ⋯ λn m r2 n1 n2 E=>?_);dsimp only;by_cases v:n<minRun' (arrOf st).size (arrOf st).size 0
  .rw[if_pos v];refine ar (jv ?_);refine ar (yM c1 d1 r2 n1 ⋯ ⋯ E λab r3 ac=>?_);rw[if_neg ∅];have%[R,y,s,z|B]:=CR.toRI g r3 o ac ⋯;exact Bb c d s o z B ⋯ λae f r l=>%[_,_,_,rfl,r,l,⋯|⋯]
  .rw[if_neg v];have%[R,y,s,z|B]:=CR.toRI g r2 o E ⋯;exact Bb c d s o z B ⋯ λae f r l=>%[_,_,_,rfl,r,l,⋯|⋯]
 .intro x u %[e,rest,lo,rfl,g,o,M|O];have T:=g.size;have U:rest=[]:=by
   have:=congrArg List.length g.arr;rw[Z9,Zb,T,o]at this;exact length_eq_zero_iff.mp ⋯
  subst U;exact%[e,lo,rfl|g]
 .intro x u %[e,lo,rfl|g];unfold srT;dsimp only;have few:∀(e:List (List Keyed×Nat)),(∀r∈e,r.1≠[]/\Srt N r.1)->e.length<=(bz e).length:=by
   intro e
   induction e with
   | nil=>intro _;exact Xf _
   | cons r t ih=>
     intro I;rw[aW,Zr,Z9];have:=length_pos_iff.mpr (I r ∅).1;have:=ih λq hq=>I q (by simp[hq])
     lia
  have l1:e.length<=(arrOf st).size:=by
   have a1:=few e g.runs;have a2:=congrArg List.length g.arr;rw[Zz,Zb,g.size]at a2
   lia
  refine ar (bS (bF (Q:=λx f=>x=(none,())/\∃e,RI N st f e []/\e.length<=1) (λj x f=>x=(none,())/\∃e,RI N st f e []/\e.length<=max 1 ((arrOf st).size-j)) (Xf _) %[rfl,e,g|⋯] ?_ ?_) ?_)
  .intro j x m _ hj %[rfl,e,g|J];refine ar (gG ?_);by_cases hz:(pendingOf m).size<=1
   .rw[if_pos hz];exact av %[rfl,e,g|by rw[<-g.psize];exact hz]
   rw[if_neg hz];have ai:1<e.length:=by rw[<-g.psize];lia
   have e2:(pendingOf m).size=e.length:=g.psize
   generalize G:(if Option.any _ _=true then(pendingOf m).size-2-1 else(pendingOf m).size-2)=i
   have hi:i+1<e.length:=by
    have H:∀(c:Prop) [Decidable c] (n:Nat),2<=n->(if c then n-2-1 else n-2) +1<n:=λc _ n hn=>by split<;> lia
    rw[<-G,<-e2];exact H _ _ ⋯
   clear G;obtain⟨a,X,p,Y,q,b,rfl,ag⟩:∃a X p Y q b,e=a++(X,p)::(Y,q)::b/\i=a.length:=by
    refine%[e.take i,e[i].1,e[i].2,e[i+1].1,e[i+1].2,e.drop (i+2),?_|by rw[Ym];lia];have t1:=(Xc i e).symm;rw[List.drop_eq_getElem_cons ⋯,List.drop_eq_getElem_cons ⋯]at t1;exact t1
   refine ar (kL c d g ag λZ ab s zl=>?_);rw[if_neg ∅];refine av %[rfl,_,s|?_];simp only[Z9,Zr]at J hi ⊢
   lia
  .intro x m %[rfl,e,g|J];exact%[rfl,e,g|⋯]
  .intro x m %[rfl,e,g|J];refine av (h m g.perm ?_ g.fail);rw[g.arr,Zz]
   match e,J,g.runs with
   |[],_,_=>exact List.Pairwise.nil
   |[r],_,I=>
    rw[aW];simp only[bz,map_nil,List.flatten_nil,Zz];exact(I r ∅).2
end
end SBig
namespace STab
open PySem PySem.SetTable
theorem uf:∀k,∃q,5^(2^k)=1+2^(k+2)*(2*q+1)
 | 0=>%[0|rfl]
 | k+1=>by
   have%[q|e]:=uf k;refine%[q+2^k*(2*q+1)*(2*q+1)|?_];rw[pow_succ 2 k,Nat.pow_mul,e]
   grind
noncomputable def step(M i:Nat):Nat:=(i*5+1)%M
noncomputable def cj(M:Nat):Nat->Nat->Nat
 | 0,i=>i
 | n+1,i=>step M (cj M n i)
noncomputable def geo:Nat->Nat
 | 0=>0
 | n+1=>geo n*5+1
theorem sD:∀n,4*geo n+1=5^n
 | 0=>rfl
 | n+1=>by
   have:=sD n;rw[pow_succ,<-this,geo]
   lia
theorem kO(M:Nat)(i:Nat):∀n,cj M n i%M=(5^n*i+geo n)%M
 | 0=>by simp[cj,geo]
 | n+1=>by
   rw[cj,step,Nat.mod_mod,geo,pow_succ];rw[add_mod,Nat.mul_mod,(kO M i n),<-Nat.mul_mod,<-add_mod]
   congr 1
   grind
theorem oo:∀(k i e:Nat),e<2^k->∃n,n<2^k/\cj (2^k) n i%2^k=e
 | 0,i,e,c=>%[0,by simp|by simp at c;subst c;simp[Nat.mod_one]]
 | k+1,i,e,c=>by
   have%[n,M|t]:=oo k i (e%2^k) (mod_lt _ (Nat.two_pow_pos k));have d:∀n,cj (2^(k+1)) n i%2^(k+1)%2^k=cj (2^k) n i%2^k:=λn=>by
    rw[Nat.mod_mod_of_dvd _ (Nat.pow_dvd_pow 2 (Yg k)),<-Nat.mod_mod_of_dvd _ (Nat.pow_dvd_pow 2 (Yg k)),kO,Nat.mod_mod_of_dvd _ (Nat.pow_dvd_pow 2 (Yg k)),kO]
   have%[q|b]:=uf k;have w:geo (2^k)=2^k*(2*q+1):=by
    have g:=sD (2^k);rw[b,Nat.pow_add]at g;have:2^k*2^2*(2*q+1)=4*(2^k*(2*q+1)):=by
     rw[Nat.mul_right_comm];lia
    lia
   have f:∀n,cj (2^(k+1)) (n+2^k) i%2^(k+1)=(cj (2^(k+1)) n i+2^k)%2^(k+1):=λn=>by
    rw[kO];have y:5^(n+2^k)*i+geo (n+2^k)=5^(2^k)*(5^n*i+geo n) +geo (2^k):=by
     have g1:=sD (n+2^k);have g2:=sD n
     grind
    rw[y,b,w];have z:2^(k+1)=2*2^k:=by rw[pow_succ];lia
    have j:2^(k+2)=2*2^(k+1):=by rw[pow_succ];lia
    have p:=kO (2^(k+1)) i n
    generalize 5^n*i+geo n=v at p ⊢
    have A:(1+2^(k+2)*(2*q+1))*v+2^k*(2*q+1)=v+2^k+2^(k+1)*(2*((2*q+1)*v) +q):=by
     rw[Nat.add_mul,Nat.one_mul,j];have B:2*2^(k+1)*(2*q+1)*v=2^(k+1)*(2*((2*q+1)*v)):=by
      simp only[Nat.mul_assoc,Nat.mul_left_comm]
     have C:2^k*(2*q+1)=2^k+2^(k+1)*q:=by
      rw[z,Nat.mul_add,Nat.mul_one]
      lia
     rw[B,C,Nat.mul_add]
     lia
    rw[A,Nat.add_mul_mod_self_left,add_mod,<-p,<-add_mod]
   have l:=d n;rw[t]at l;have E:cj (2^(k+1)) n i%2^(k+1)<2^(k+1):=mod_lt _ (Nat.two_pow_pos _);have m:=f n;rw[add_mod,Nat.mod_eq_of_lt (by lia:2^k<2^(k+1))]at m;obtain⟨a,r⟩:∃a,a=cj (2^(k+1)) n i%2^(k+1):=%[_|rfl]
   rw[<-r]at l E m;have o:a=e\/(a+2^k)%2^(k+1)=e:=by
    have s:=Nat.div_add_mod a (2^k);have G:=Nat.div_add_mod e (2^k);have H:a/2^k<2:=Nat.div_lt_of_lt_mul ⋯;have I:e/2^k<2:=Nat.div_lt_of_lt_mul ⋯;rw[l]at s
    generalize a/2^k=u at s H
    generalize e/2^k=v at G I
    have J:u=0\/u=1:=by lia
    have L:v=0\/v=1:=by lia
    rcases J with rfl|rfl<;> rcases L with rfl|rfl
    .left;lia
    .right
     rw[Nat.mod_eq_of_lt ⋯]
     lia
    .right
     rw[show a+2^k=e+2^(k+1) by lia,Nat.add_mod_right,Nat.mod_eq_of_lt c]
    .left;lia
   rcases o with h|h
   .exact%[n,⋯|by rw[<-r,h]]
   .exact%[n+2^k,⋯|by rw[m,h]]
end STab
namespace STab
open PySem PySem.SetTable
noncomputable def stand(t:SetTable)(h:Int):Nat->Probe
 | 0=>t.probeStart h
 | n+1=>t.advance (stand t h n)
noncomputable def way(t:SetTable)(h:Int)(n:Nat):Nat:=(stand t h n).j
noncomputable def aK(t:SetTable)(h:Int):Nat->Nat×Nat
 | 0=>(bits h%(t.mask+1),bits h)
 | r+1=>leap t.mask (aK t h r).1 (aK t h r).2
theorem mP(t:SetTable)(h:Int):∀n,(stand t h n).dummy=none
 | 0=>rfl
 | n+1=>by
   have:=mP t h n;show(t.advance _).dummy=none;unfold advance
   split
   .exact this
   .exact this
theorem Da(m i:Nat):runEnd m i-i<=9:=by
 unfold runEnd
 split<;> lia
theorem yP(t:SetTable)(h:Int):∀r,∃n,n<=10*r/\∀d,d<=runEnd t.mask (aK t h r).1-(aK t h r).1->
 stand t h (n+d)=%[(aK t h r).1+d,runEnd t.mask (aK t h r).1-(aK t h r).1-d,(aK t h r).1,(aK t h r).2|none]:=by
 have a:∀n i b,stand t h n=%[i,runEnd t.mask i-i,i,b|none]->∀d,d<=runEnd t.mask i-i->stand t h (n+d)=%[i+d,runEnd t.mask i-i-d,i,b|none]:=by
  intro n i b e d
  induction d with
  | zero=>intro _;rw[add_zero,e];rfl
  | succ d c=>
    intro f;show t.advance (stand t h (n+d))=_;rw[c ⋯];unfold advance;rw[if_pos ⋯]
    grind
 intro r
 induction r with
 | zero=>exact%[0,Xf _|a 0 _ _ rfl]
 | succ r c=>
   have%[n,g|e]:=c;have j:=Da t.mask (aK t h r).1;refine%[n+(runEnd t.mask (aK t h r).1-(aK t h r).1) +1,⋯|a _ _ _ ?_];show t.advance _=_;rw[e _ (Zi _)];unfold advance;rw[if_neg ⋯];rfl
theorem Db(h:Int):bits h<2^64:=by
 unfold bits
 grind
theorem ot(t:SetTable)(h:Int):∀r,(aK t h r).2=bits h/32^r
 | 0=>by simp[aK]
 | r+1=>by
   show(aK t h r).2/32=_;rw[ot t h r,Nat.div_div_eq_div_mul,pow_succ]
theorem Bc(t:SetTable)(h:Int):∀r,(aK t h r).1<t.mask+1
 | 0=>mod_lt _ (succ_pos _)
 | r+1=>mod_lt _ (succ_pos _)
theorem jV(t:SetTable)(h:Int):∀m,(aK t h (12+m)).1=cj (t.mask+1) m (aK t h 12).1
 | 0=>rfl
 | m+1=>by
   show((aK t h (12+m)).1*5+1+(aK t h (12+m)).2/32)%(t.mask+1)=step _ _;rw[jV t h m,ot,Nat.div_div_eq_div_mul,<-pow_succ];have a:bits h/32^(12+m+1)=0:=by
    exact Nat.div_eq_of_lt (Zg (Db h) (Yh (by decide:2^64<=32^13) (Nat.pow_le_pow_right (by decide) ⋯)))
   rw[a,add_zero];rfl
theorem ou(a:t.mask+1=2^k)(h:Int)(e:Nat)(c:e<=t.mask):∃r,r<turns t.mask/\(aK t h r).1=e:=by
 have%[n,d|b]:=oo k _ e ⋯;refine%[12+n,by unfold turns;lia|?_];rw[jV,a];rw[<-a]at b;have:cj (t.mask+1) n (aK t h 12).1<t.mask+1:=by rw[<-jV];exact Bc t h _
 rw[Nat.mod_eq_of_lt this]at b;exact a▸b
theorem v8(a:t.mask+1=2^k)(h:Int)(e:Nat)(b:e<=t.mask):∃n,n+10<=10*turns t.mask/\way t h n=e:=by
 have%[r,f|c]:=ou a h e b;have%[n,g|d]:=yP t h r;refine%[n,⋯|?_];have:=d 0 (Xf _);unfold way;rw[add_zero]at this;rw[this];exact c
theorem ug(o:t.dummies= #[]){hashAt:Nat->Int}:∀(fuel n m:Nat),n<=m->m<n+fuel->t.slot (way t h m)= .empty->
 ∃q,n<=q/\q<=m/\(∀j,n<=j->j<q->∃i,t.slot (way t h j)= .live i/\hashAt i≠h)/\
  ((t.slot (way t h q)= .empty/\probe.go t hashAt h fuel (stand t h n)=some (.empty (way t h q) none))\/
   ∃i,t.slot (way t h q)= .live i/\hashAt i=h/\probe.go t hashAt h fuel (stand t h n)=some (.candidate (way t h q) i (stand t h (q+1))))
 | 0,n,m,g,r,_=>by lia
 | fuel+1,n,m,g,r,p=>by
   have d:probe.go t hashAt h (fuel+1) (stand t h n)=(match t.slot (stand t h n).j with
    | .empty=>some _
    | .dummy=>probe.go t hashAt h fuel (t.advance {stand t h n with dummy:=some _})
    | .live i=>if hashAt i==h then some _ else probe.go t hashAt h fuel _):=rfl
   have l:(stand t h n).j=way t h n:=rfl;cases c:t.slot _ with
   | empty=>
     refine%[n,Zi _,g,λj a b=>by lia|.inl %[c|?_]];rw[d,l,c,mP]
   | dummy=>
     exfalso;unfold slot at c;dsimp only at c
     split at c
     .lia
     .split at c
      .rename_i q
       rw[o]at q;simp[has]at q
      .lia
   | live i=>
     by_cases f:hashAt i=h
     .refine%[n,Zi _,g,λj a b=>by lia|.inr %[i,c,f|?_]];rw[d,l,c];dsimp only;rw[if_pos (by simp[f])];rfl
     .have s:n≠m:=λq=>by rw[q,p]at c;cases c
      have%[q,z,u,v|w]:=ug o fuel (n+1) m ⋯ ⋯ p;have y:probe.go t hashAt h (fuel+1) (stand t h n)=probe.go t hashAt h fuel (stand t h (n+1)):=by
       rw[d,l,c];dsimp only;rw[if_neg (by simp[f])];rfl
      refine%[q,⋯,u,λj a b=>?_|?_]
      .by_cases e:j=n
       .exact e▸%[i,c|f]
       .exact v j ⋯ b
      .exact y▸w
end STab
namespace STab
open PySem PySem.SetTable
theorem oz(xs:Array Nat)(j:Nat)(d:∀a b (s:a<xs.size) (t:b<xs.size),a<b->xs[a]<xs[b]):∀(fuel lo hi:Nat),hi-lo<=fuel->lo<=hi->hi<=xs.size->(∀i (h:i<xs.size),i<lo->xs[i]<j)->(∀i (h:i<xs.size),hi<=i->j<=xs[i])->
 below.go xs j fuel lo hi<=xs.size/\(∀i (h:i<xs.size),i<below.go xs j fuel lo hi->xs[i]<j)/\(∀i (h:i<xs.size),below.go xs j fuel lo hi<=i->j<=xs[i])
 | 0,lo,hi,p,q,f,g,l=>by
   have e:lo=hi:=by lia
   subst e;exact%[f,g|l]
 | fuel+1,lo,hi,p,q,f,g,l=>by
   rw[below.go];by_cases c:lo<hi
   .rw[if_pos c];dsimp only;have n:(lo+hi)/2<xs.size:=by lia
    have r:xs.getD ((lo+hi)/2) j=xs[(lo+hi)/2]:=by simp[Array.getD,n]
    rw[r];by_cases m:xs[(lo+hi)/2]<j
    .rw[if_pos m];refine oz xs j d fuel _ hi ⋯ ⋯ f (λi h o=>?_) l;by_cases e:i=(lo+hi)/2
     .subst e;exact m
     .exact Nat.lt_trans (d i _ h n ⋯) m
    .rw[if_neg m];refine oz xs j d fuel lo _ ⋯ ⋯ ⋯ g (λi h o=>?_);by_cases e:i=(lo+hi)/2
     .subst e;lia
     .have:=d _ i n h ⋯
      lia
   .rw[if_neg c];have e:lo=hi:=by lia
    subst e;exact%[f,g|l]
def Bd(xs:Array Nat):Prop:=∀a b c (d:b<xs.size),a<b->xs[a]<xs[b]
theorem jW(a:Bd xs)(j:Nat):below xs j<=xs.size/\(∀i (h:i<xs.size),i<below xs j->xs[i]<j)/\(∀i (h:i<xs.size),below xs j<=i->j<=xs[i]):=
 oz xs j a xs.size 0 xs.size ⋯ (Xf _) (Zi _) (λi h q=>absurd q (X7 _)) (λi h q=>by lia)
theorem Be(a:Bd xs)(h:xs[i]? =some j):below xs j=i:=by
 have%[f,c|d]:=jW a j;have%[hi|e]:=Array.getElem?_eq_some_iff.mp h;rcases Nat.lt_trichotomy i _ with q|q|q
 .have:=c i hi q
  lia
 .exact q.symm
 .have b:below xs j<xs.size:=by lia
  have:=d _ b (Zi _);have:=a _ i b hi q
  lia
theorem qR{t:SetTable}(a:Bd t.place)(h:t.place[i]? =some j):t.slot j= .live i:=by
 unfold slot;dsimp only;rw[Be a h,h];simp
theorem jX{t:SetTable}(a:Bd t.place)(b:t.dummies= #[])(j:Nat):(∃i,t.place[i]? =some j/\t.slot j= .live i)\/(j∉t.place.toList/\t.slot j= .empty):=by
 by_cases h:j∈t.place.toList
 .have%[i|hi]:=Xg h;have hi:=by simpa using hi
  exact .inl %[i,hi|qR a hi]
 .refine .inr %[h|?_];unfold slot;rw[if_neg,if_neg]
  .rw[b];simp[has]
  .intro q;exact h (mem_toList_iff.mpr (Array.mem_of_getElem? (by simpa using q)))
theorem uh(h:t.mask=t'.mask)(x:Int):∀n,stand t x n=stand t' x n
 | 0=>by
   show t.probeStart x=t'.probeStart x;unfold probeStart;rw[h]
 | n+1=>by
   show t.advance _=t'.advance _;rw[uh h x n];unfold advance;rw[h]
theorem qS(h:t.mask=t'.mask)(x:Int)(n:Nat):way t x n=way t' x n:=by unfold way;rw[uh h]
structure WF (t:SetTable) (es:Array (Int×Value)):Prop where
 pow:∃k,t.mask+1=2^k
 big:7<=t.mask
 dum:t.dummies= #[]
 rise:Bd t.place
 inb:∀j∈t.place.toList,j<=t.mask
 size:t.place.size=es.size
 chain:∀(i j:Nat) h x,t.place[i]? =some j->es[i]? =some (h,x)->∃n,way t h n=j/\∀m,m<n->way t h m∈t.place.toList
theorem nodup_sub [DecidableEq c]:∀{l m:List c},l.Nodup->(∀x∈l,x∈m)->l.length<=m.length
 |[],_,_,_=>Xf _
 | x::l,m,d,a=>by
   have%[f|g]:=nodup_cons.mp d;have b:=a x Zm;have h:=nodup_sub (m:=m.erase x) g λy i=>(List.mem_erase_of_ne (λe=>f (by simp_all))).mpr (a y (Zk _ i))
   rw[List.length_erase_of_mem b]at h;have:=List.length_pos_of_mem b;rw[Zr]
   lia
theorem v9(W:WF t v)(R:t.place.size<=t.mask)(h:Int):∃m,m+10<=10*turns t.mask/\way t h m∉t.place.toList/\(∀q,q<m->way t h q∈t.place.toList):=by
 have%[k|l]:=W.pow;have ex:∃e,e<=t.mask/\e∉t.place.toList:=by
  refine Classical.byContradiction λb=>?_
  have:(List.range (t.mask+1)).length<=t.place.toList.length:=nodup_sub nodup_range λx o=>(λe c=>Classical.byContradiction λq=>b %[e,c|q]) x (by have:=mem_range.mp o;lia)
  rw[Yk,Zb]at this
  lia
 have%[e,c|f]:=ex;have%[n,p|hw]:=v8 l h e c;have:∀d,∀n,n<=d->n+10<=10*turns t.mask->way t h n∉t.place.toList->∃m,m+10<=10*turns t.mask/\way t h m∉t.place.toList/\(∀q,q<m->way t h q∈t.place.toList):=by
  intro d
  induction d with
  | zero=>
    intro n r g i;have:n=0:=by lia
    subst this;exact%[0,g,i|λq j=>absurd j (X7 _)]
  | succ d s=>
    intro n r g i;by_cases a:∀q,q<n->way t h q∈t.place.toList
    .exact%[n,g,i|a]
    .have%[q|j]:=Classical.not_forall.mp a;have%[w|u]:=Classical.not_imp.mp j;exact s q ⋯ ⋯ u
 exact this n n (Zi _) p (hw▸f)
end STab
namespace STab
open PySem PySem.SetTable
theorem kP(xs:Array a)(p:Nat)(x:a)(b:p<=xs.size):(insertAt xs p x).toList=xs.toList.take p++x::xs.toList.drop p:=by
 unfold insertAt;rw[Xe,toList_push,toList_extract,toList_extract,Y0,Y0];rw[drop_zero,Nat.sub_zero,Zn (l:=xs.toList.drop p) ∅];simp
theorem wa(xs:Array c)(x:c)(f:p<=xs.size)(i:Nat):(insertAt xs p x)[i]? =if i<p then xs[i]? else if i=p then some x else xs[i-1]? :=by
 have e:(insertAt xs p x)[i]? =(insertAt xs p x).toList[i]? :=by simp
 rw[e,kP xs p x f];have g:(xs.toList.take p).length=p:=by simp_all
 by_cases a:i<p
 .rw[if_pos a,Y9 ⋯,Yc,if_pos a];simp
 .rw[if_neg a,Ya ⋯,g];by_cases b:i=p
  .rw[if_pos b,b,sub_self];rfl
  .rw[if_neg b];obtain⟨d,h⟩:∃d,i-p=d+1:=%[i-p-1|⋯]
   rw[h,List.getElem?_cons_succ,Yb];rw[show p+d=i-1 by lia];simp
theorem jc(xs:Array a)(p:Nat)(x:a)(b:p<=xs.size):(insertAt xs p x).size=xs.size+1:=by
 rw[<-Zb,kP xs p x b,Z9,Zr,Ym,Yi,Zb]
 lia
theorem Bf(t:SetTable)(h:Int):∀n,(stand t h n).j+(stand t h n).more<=t.mask
 | 0=>by
   show bits h%(t.mask+1) +(runEnd t.mask _-bits h%(t.mask+1))<=t.mask;have:=mod_lt (bits h) (show 0<t.mask+1 from succ_pos _);unfold runEnd
   split<;> lia
 | n+1=>by
   have a:=Bf t h n;show(t.advance _).j+(t.advance _).more<=t.mask;unfold advance
   split
   .lia
   .dsimp only[leap];have:=mod_lt ((stand t h n).i*5+1+(stand t h n).perturb/32) (show 0<t.mask+1 from succ_pos _);unfold runEnd
    split<;> lia
theorem sE(t:SetTable)(h:Int)(n:Nat):way t h n<=t.mask:=by
 have:=Bf t h n;unfold way
 lia
theorem WF.put(W:WF t I)(T:way t h m∉t.place.toList)(U:∀q,q<m->way t h q∈t.place.toList)(r f:Bool):
 (t.put (way t h m)).2=below t.place (way t h m)/\(t.put (way t h m)).1.mask=t.mask/\(t.put (way t h m)).1.place.size=t.place.size+1/\(t.put (way t h m)).1.led=t.led/\(t.put (way t h m)).1.plain=t.plain/\(t.put (way t h m)).1.moves=t.moves/\
  WF {(t.put (way t h m)).1 with led:=r,plain:=f} (insertAt I (t.put (way t h m)).2 (h,x)):=by
 have Y:has t.dummies (way t h m)=false:=by rw[W.dum];simp[has]
 have ep:t.put (way t h m)=({t with place:=insertAt t.place (below t.place (way t h m)) (way t h m)},below t.place (way t h m)):=by
  unfold SetTable.put;dsimp only;rw[Y];rfl
 rw[ep];have%[g,J|L]:=jW W.rise (way t h m)
 generalize hp:below t.place (way t h m)=p at g J L
 have w:p<=I.size:=by rw[<-W.size];exact g
 have s3:∀i (hi:i<t.place.size),p<=i->way t h m<t.place[i]:=λi hi q=>by
  have:=L i hi q;rcases Nat.eq_or_lt_of_le this with e|e
  .exact absurd (by rw[e];simp) T
  .exact e
 have c:∀y,y∈(insertAt t.place p (way t h m)).toList↔y=way t h m\/y∈t.place.toList:=λy=>by
  rw[kP _ _ _ g,Yt,Yw];have:=Xc p t.place.toList
  constructor
  .rintro(q|q|q)
   .exact .inr (Yy q)
   .exact .inl q
   .exact .inr (Yx q)
  .rintro(q|q)
   .exact .inr (.inl q)
   .rw[<-this]at q;rcases Xo q with q|q
    .exact .inl q
    .exact .inr (.inr q)
 refine%[rfl,rfl,jc _ _ _ g,rfl,rfl,rfl,W.pow,W.big,W.dum,?_,?_,?_|?_]
 .intro a b ha A B;have l:(insertAt t.place p (way t h m))[a]? =some (insertAt t.place p (way t h m))[a]:=by simp
  have d:(insertAt t.place p (way t h m))[b]? =some (insertAt t.place p (way t h m))[b]:=by simp
  show(insertAt t.place p (way t h m))[a]<(insertAt t.place p (way t h m))[b];rw[wa _ _ g]at l d;have ab:b<t.place.size+1:=(jc t.place p (way t h m) g)▸A;by_cases C:a<p
  .rw[if_pos C]at l;have%[u|E]:=Array.getElem?_eq_some_iff.mp l;rw[<-E];by_cases r:b<p
   .rw[if_pos r]at d;have%[f|v]:=Array.getElem?_eq_some_iff.mp d;exact v▸W.rise a b u f B
   .rw[if_neg r]at d;by_cases f:b=p
    .rw[if_pos f]at d;exact(Za d)▸J a u C
    .rw[if_neg f]at d;have%[v|G]:=Array.getElem?_eq_some_iff.mp d;exact G▸W.rise a (b-1) u v ⋯
  .rw[if_neg C]at l;have r: ¬ b<p:=by lia
   have f: ¬ b=p:=by lia
   rw[if_neg r,if_neg f]at d;have%[v|G]:=Array.getElem?_eq_some_iff.mp d;rw[<-G];by_cases u:a=p
   .rw[if_pos u]at l;exact(Za l)▸s3 (b-1) v ⋯
   .rw[if_neg u]at l;have%[E|a4]:=Array.getElem?_eq_some_iff.mp l;exact a4▸W.rise (a-1) (b-1) E v ⋯
 .intro y hy;rcases(c y).mp hy with q|q
  .rw[q];exact sE t h m
  .exact W.inb y q
 .rw[jc _ _ _ g,jc _ _ _ w,W.size]
 .intro i j h' M hi o;have N:∀n,way {t with place:=insertAt t.place p (way t h m),led:=r,plain:=f} h' n=way t h' n:=λn=>qS (t':=t) (by rfl) h' n
  have H:∃n,way t h' n=j/\∀q,q<n->way t h' q∈(insertAt t.place p (way t h m)).toList:=by
   rw[wa _ _ g]at hi;rw[wa _ _ w]at o;by_cases O:i<p
   .rw[if_pos O]at hi o;have%[n,n1|z]:=W.chain i j h' M hi o;exact%[n,n1|λq s=>(c _).mpr (.inr (z q s))]
   .rw[if_neg O]at hi o;by_cases Q:i=p
    .rw[if_pos Q]at hi o;cases hi;cases o;exact%[m,rfl|λq s=>(c _).mpr (.inr (U q s))]
    .rw[if_neg Q]at hi o;have%[n,n1|z]:=W.chain (i-1) j h' M hi o;exact%[n,n1|λq s=>(c _).mpr (.inr (z q s))]
  have%[n,n1|z]:=H;exact%[n,by rw[N];exact n1|λq s=>by rw[N];exact z q s]
end STab
namespace STab
open PySem PySem.SetTable
noncomputable def nb(t:SetTable)(h:Int):Nat->Nat
 | 0=>0
 | r+1=>nb t h r+(runEnd t.mask (aK t h r).1-(aK t h r).1) +1
theorem Bg(t:SetTable)(h:Int):∀r d,d<=runEnd t.mask (aK t h r).1-(aK t h r).1->
 stand t h (nb t h r+d)=%[(aK t h r).1+d,runEnd t.mask (aK t h r).1-(aK t h r).1-d,(aK t h r).1,(aK t h r).2|none]:=by
 have a:∀n i b,stand t h n=%[i,runEnd t.mask i-i,i,b|none]->∀d,d<=runEnd t.mask i-i->stand t h (n+d)=%[i+d,runEnd t.mask i-i-d,i,b|none]:=by
  intro n i b e d
  induction d with
  | zero=>intro _;rw[add_zero,e];rfl
  | succ d c=>
    intro f;show t.advance (stand t h (n+d))=_;rw[c ⋯];unfold advance;rw[if_pos ⋯]
    grind
 intro r
 induction r with
 | zero=>exact a 0 _ _ rfl
 | succ r c=>
   refine a _ _ _ ?_;show t.advance _=_;rw[c _ (Zi _)];unfold advance;rw[if_neg ⋯];rfl
theorem wb(t:SetTable)(h:Int)(r d:Nat)(a:d<=runEnd t.mask (aK t h r).1-(aK t h r).1):way t h (nb t h r+d)=(aK t h r).1+d:=by
 unfold way;rw[Bg t h r d a]
noncomputable def fH(owner:Array (Option Nat))(j:Nat):Bool:=(owner.getD j (some 0)).isSome
theorem qT(t:SetTable)(h:Int)(owner:Array (Option Nat)):∀(fuel r:Nat),(∃a,r<=a/\a<r+fuel/\fH owner (aK t h a).1=false)->(∀m,m<nb t h r->fH owner (way t h m)=true)->
 ∃j n,layClean.free t.mask owner fuel (aK t h r).1 (aK t h r).2=some j/\way t h n=j/\fH owner j=false/\∀m,m<n->fH owner (way t h m)=true
 | 0,r,⟨a,o,p,_⟩,_=>by lia
 | fuel+1,r,⟨a,o,p,f⟩,g=>by
   rw[layClean.free];have s:runEnd t.mask (aK t h r).1>=(aK t h r).1:=by unfold runEnd;split<;> lia
   have tk:∀k,(owner.getD ((aK t h r).1+k) (some 0)).isNone=!fH owner ((aK t h r).1+k):=λk=>by
    unfold fH;cases owner.getD ((aK t h r).1+k) (some 0)<;> rfl
   cases i:(List.range (runEnd t.mask (aK t h r).1+1-(aK t h r).1)).find? λk=>(owner.getD ((aK t h r).1+k) (some 0)).isNone with
   | some k=>
     have%[l,as,bs,b|u]:=List.find?_eq_some_iff_append.mp i;have c:k∈List.range (runEnd t.mask (aK t h r).1+1-(aK t h r).1):=by rw[b];simp
     have c:=mem_range.mp c;have v:as=List.range k:=by
      have w:as.length=k:=by
       have:(List.range (runEnd t.mask (aK t h r).1+1-(aK t h r).1))[as.length]? =some k:=by rw[b];simp
       rw[List.getElem?_range (by have:=(Xn this).1;simpa using this)]at this;exact Za this
      have y:as=(List.range (runEnd t.mask (aK t h r).1+1-(aK t h r).1)).take k:=by
       rw[b,<-w];simp
      rw[y,List.take_range,X1 ⋯]
     dsimp only;refine%[_,nb t h r+k,rfl,wb t h r k ⋯,?_|λm d=>?_]
     .rw[tk]at l;simpa using l
     .by_cases q:m<nb t h r
      .exact g m q
      .have:=u (m-nb t h r) (v▸mem_range.mpr ⋯);rw[tk]at this;rw[show m=nb t h r+(m-nb t h r) by lia,wb t h r _ ⋯];simpa using this
   | none=>
     have all:∀k,k<=runEnd t.mask (aK t h r).1-(aK t h r).1->fH owner ((aK t h r).1+k)=true:=λk c=>by
      have:=(List.find?_eq_none.mp i) k (mem_range.mpr ⋯);rw[tk]at this;simpa using this
     have z:r≠a:=λe=>by
      have:=all 0 (Xf _);rw[add_zero,e,f]at this;cases this
     dsimp only;exact qT t h owner fuel (r+1) %[a,⋯,⋯|f] λm d=>by
      by_cases q:m<nb t h r
      .exact g m q
      .have d:m<nb t h r+(runEnd t.mask (aK t h r).1-(aK t h r).1) +1:=d;rw[show m=nb t h r+(m-nb t h r) by lia,wb t h r _ ⋯];exact all _ ⋯
structure LO (t:SetTable) (hs:ZL) (owner:Array _):Prop where
 size:owner.size=t.mask+1
 own:∀j q,owner[j]? =some (some q)->∃h,hs[q]? =some h/\∃n,way t h n=j/\∀m,m<n->fH owner (way t h m)=true
 all:∀q,q<hs.length->∃j:Nat,owner[j]? =some (some q)
 one:∀(j j' q:Nat),owner[j]? =some (some q)->owner[j']? =some (some q)->j=j'
theorem gU(b:j<owner.size):fH owner j=true↔∃q,owner[j]? =some (some q):=by
 unfold fH;have e:owner.getD j (some 0)=owner[j]:=by simp_all
 rw[e];have a:owner[j]? =some owner[j]:=by simp
 rw[a];cases owner[j]with
 | none=>simp
 | some q=>simp
theorem LO.step(L:LO t f owner)(J:t.mask+1=2^k)(room:f.length<=t.mask)(h:Int):
 ∃j,layClean.free t.mask owner (turns t.mask) (bits h%(t.mask+1)) (bits h)=some j/\LO t (f++[h]) (owner.setIfInBounds j (some f.length)):=by
 have d:∀h n,way t h n<owner.size:=λh n=>by rw[L.size];have:=sE t h n;lia
 have ex:∃e,e<=t.mask/\fH owner e=false:=by
  refine Classical.byContradiction λv=>?_
  have all:∀e,e<t.mask+1->fH owner e=true:=λe c=>by
   cases q:fH owner e with
   | true=>rfl
   | false=>exact absurd %[e,⋯|q] v
  let g:Nat->Nat:=λe=>((owner[e]?).getD none).getD 0
  have w:∀e,e<t.mask+1->owner[e]? =some (some (g e)):=λe c=>by
   have%[q|o]:=(λe c=>(gU (L.size▸c)).mp (all e c)) e c;show owner[e]? =some (some (((owner[e]?).getD none).getD 0));rw[o];rfl
  have nd:((List.range (t.mask+1)).map g).Nodup:=by
   rw[X4,Xa];refine Xh (λ{a b} M N A q=>A ?_) (nodup_iff_pairwise_ne.mp nodup_range);have E:=w b (mem_range.mp N);rw[<-q]at E;exact L.one a b _ (w a (mem_range.mp M)) E
  have:=nodup_sub nd λy O=>by
   have%[e,c|rfl]:=Xq O;have%[h',l|_]:=L.own e _ (w e (mem_range.mp c));exact mem_range.mpr (Xn l).1
  rw[Z6,Yk,Yk]at this
  lia
 have%[e,c|B]:=ex;have%[r,hr|o]:=ou J h e c;have%[j,n,Q,G,T|U]:=qT t h owner (turns t.mask) 0 %[r,Xf _,⋯|o▸B] (λm p=>absurd p (X7 _));refine%[j,Q|?_];have Y:j<owner.size:=G▸d h n;have nj:∀q,owner[j]? ≠some _:=λq e=>by
  have:=(gU Y).mpr %[q|e];rw[T]at this;cases this
 have get:∀i,(owner.setIfInBounds j (some f.length))[i]? =if j=i then some _ else owner[i]? :=λi=>by
  rw[Array.getElem?_setIfInBounds]
  split
  .first|rfl|simp
  .rfl
 have keep:∀i,fH owner i=true->i<owner.size->fH (owner.setIfInBounds j _) i=true:=λi hi H=>by
  have%[q|e]:=(gU H).mp hi;refine(gU (Array.size_setIfInBounds▸H)).mpr ?_;rw[get]
  split
  .exact%[_|rfl]
  .exact%[q|e]
 refine%[by rw[Array.size_setIfInBounds];exact L.size,λi q e=>?_,λq o=>?_|λi I q e s=>?_]
 .rw[get]at e
  split at e
  .rename_i C
   cases e;refine%[h,by simp,n,by rw[G,C]|λm p=>keep _ (U m p) (d h m)]
  .have%[h',l,n',e2|e3]:=L.own i q e;exact%[h',(Y9 (Xn l).1)▸l,n',e2|λm p=>keep _ (e3 m p) (d h' m)]
 .rw[Z9,Yl]at o;by_cases e:q=f.length
  .exact%[j|by rw[get,if_pos rfl,e]]
  .have%[i|hi]:=L.all q ⋯;refine%[i|?_];rw[get,if_neg]
   .exact hi
   .intro C;rw[<-C]at hi;exact nj q hi
 .have u:∀i,owner[i]? =some (some f.length)->False:=λi e=>by
   have%[h',l|_]:=L.own i _ e;have:=(Xn l).1
   lia
  rw[get]at e s
  split at e<;> split at s
  .lia
  .cases e;exact absurd s (λz=>u I z)
  .cases s;exact absurd e (λz=>u i z)
  .exact L.one i I q e s
theorem uk(c:t.mask+1=2^k)(a:Array Int)(room:a.size<=t.mask+1):∃owner,layClean t.mask a=some owner/\LO t a.toList owner:=by
 have d:∀rest done owner,LO t done owner->(done++rest).length<=t.mask+1->
  ∃b,rest.foldl (λacc h=>do
   let(owner,k)<-acc
   let j<-layClean.free t.mask owner (turns t.mask) (bits h%(t.mask+1)) (bits h)
   pure (owner.setIfInBounds j (some k),k+1)) (some (owner,done.length))=some (b,(done++rest).length)/\LO t (done++rest) b:=by
  intro rest
  induction rest with
  | nil=>intro done owner L _;exact%[owner,by simp|by simpa using L]
  | cons h rest g=>
    intro done owner L i;simp only[Z9,Zr]at i;have%[j,f|l]:=L.step c ⋯ h;have%[b,e|L2]:=g _ _ l (by simp_all);refine%[b,?_|by simpa using L2];rw[Y8];have m:(do
     let(owner,k)<-(some (owner,done.length))
     let j<-layClean.free t.mask owner (turns t.mask) (bits h%(t.mask+1)) (bits h)
     pure (owner.setIfInBounds j (some k),k+1))=some (owner.setIfInBounds j (some done.length),(done++[h]).length):=by
     show(layClean.free t.mask owner _ _ _).bind _=_;rw[f];simp
    rw[m,e];simp
 have n:LO t [] (Array.replicate (t.mask+1) none):=%[by simp,λj q e=>by
  rw[Array.getElem?_replicate]at e
  split at e<;> simp at e,λq o=>absurd o (X7 _)|λj p q e _=>by
  rw[Array.getElem?_replicate]at e
  split at e<;> simp at e]
 have%[owner,e|L]:=d a.toList [] _ n (room);refine%[owner,?_|L];unfold layClean;rw[<-Array.foldl_toList];rw[show(0)=([]).length from rfl,e];rfl
end STab
namespace STab
open PySem PySem.SetTable
theorem um(n:Nat):∀fuel k,3<=k->n<2^(k+fuel)->(2^k<=2*n\/k=3)->∃a,3<=a/\sizeAbove.go n fuel (2^k)=2^a/\n<2^a/\(2^a<=2*n\/a=3)
 | 0,k,b,c,d=>%[k,b,rfl,c|d]
 | fuel+1,k,b,c,d=>by
   rw[sizeAbove.go];by_cases h:2^k<=n
   .rw[if_pos h];have e:2^k*2=2^(k+1):=by rw[pow_succ]
    rw[e];exact um n fuel _ ⋯ ((show k+1+fuel=k+(fuel+1) by lia)▸c) (.inl ⋯)
   .rw[if_neg h];exact%[k,b,rfl,⋯|d]
theorem wc(a:n<2^60):∃k,3<=k/\sizeAbove n=2^k/\n<2^k/\(2^k<=2*n\/k=3):=
 um n 64 3 (Zi _) (Zg a (Nat.pow_le_pow_right (by decide) ∅)) (.inr rfl)
theorem oA [DecidableEq c]:∀{l m:List c},l.Nodup->m.Nodup->(∀x,x∈l↔x∈m)->l.Perm m
 |[],m,_,_,h=>by
  cases m with
  | nil=>simp
  | cons x m=>exact absurd ((h x).mpr Zm) ∅
 | x::l,m,d,b,h=>by
   have%[f|g]:=nodup_cons.mp d;refine List.Perm.trans (List.Perm.cons x (oA g (b.erase x) λy=>?_)) (List.perm_cons_erase ((h x).mp Zm)).symm
   constructor
   .intro a;exact(List.mem_erase_of_ne (λe=>f (by simp_all))).mpr ((h y).mp (Zk _ a))
   .intro a;rcases mem_cons.mp ((h y).mpr (List.mem_of_mem_erase a))with q|q
    .exact absurd q (λe=>by rw[e]at a;exact b.not_mem_erase a)
    .exact q
theorem laid_ok{t:SetTable}(hp:t.mask+1=2^k)(E:7<=t.mask)(c:Array (Int×Value))(room:c.size<=t.mask)(finger moves:Nat)(led plain:Bool):
 ∃t' d,laid t.mask finger moves led plain (c.map (·.1))=some (t',d)/\t'.mask=t.mask/\t'.led=led/\t'.plain=plain/\t'.moves=moves/\WF t' (d.filterMap (c[·]?))/\(d.filterMap (c[·]?)).toList.Perm c.toList:=by
 have%[owner,e|L]:=uk hp (c.map (·.1)) (by rw[size_map];lia);have G:(c.map (·.1)).toList.length=c.size:=by simp
 obtain⟨live,v⟩:∃live,(List.range (t.mask+1)).filterMap (λj=>(owner.getD j none).map (λq=>(j,q)))=live:=%[_|rfl]
 refine%[%[t.mask,(live.map (·.1)).toArray,#[],finger,led,moves|plain],(live.map (·.2)).toArray,by unfold laid;rw[e,<-v];rfl,rfl,rfl,rfl,rfl|?_];have gd:∀j q,owner.getD j none=some q↔owner[j]? =some (some q):=λj q=>by
  rw[Zs];cases owner[j]? with
  | none=>simp
  | some o=>simp
 have mem:∀j q,(j,q)∈live↔owner[j]? =some (some q):=λj q=>by
  rw[<-v,mem_filterMap]
  constructor
  .rintro⟨H,ac,I⟩;have%[z,s|J]:=map_eq_some_iff.mp I;cases J;exact(gd j q).mp s
  .intro ho;have:j<owner.size:=by
    have%[f|_]:=Array.getElem?_eq_some_iff.mp ho;exact f
   refine%[j,mem_range.mpr (by rw[L.size]at this;exact this)|?_];rw[(gd j q).mpr ho];rfl
 have r:(live.map (·.1)).Pairwise (·<·):=by
  rw[<-v,Xa,List.pairwise_filterMap];refine List.Pairwise.imp (λ{a b} u x hx y M=>?_) List.pairwise_lt_range;have%[_,_|rfl]:=map_eq_some_iff.mp hx;have%[_,_|rfl]:=map_eq_some_iff.mp M;exact u
 have w:∀j q,(j,q)∈live->q<c.size:=λj q h=>by
  have%[h',s|_]:=L.own j q ((mem j q).mp h);have:=(Xn s).1
  lia
 have B:(live.map (·.2)).Nodup:=by
  rw[X4,Xa];refine Xh (λ{a b} N E u g=>?_) (by rw[Xa]at r;exact r);have f:=(mem a.1 a.2).mp N;have O:=(mem b.1 b.2).mp E;rw[<-g]at O;have:=L.one _ _ _ f O
  lia
 have C:(live.map (·.2)).Perm (List.range c.size):=oA B nodup_range λq=>by
  constructor
  .intro g;have%[%[j|z],f|rfl]:=Xq g;exact mem_range.mpr (w j z f)
  .intro g;have%[j|Q]:=L.all q (G▸mem_range.mp g);exact Xr %[(j,q),(mem j q).mpr Q|rfl]
 have fm:∀(l:List Nat),(∀q∈l,q<c.size)->l.filterMap (c[·]?)=l.map (λq=>c.getD q (0,Value.none)):=by
  intro l
  induction l with
  | nil=>intro _;rfl
  | cons q l ih=>
    intro g;have f:=g q Zm;have s:c[q]? =some (c.getD q (0,Value.none)):=by simp[Array.getD,f]
    rw[Y2,s,Yr,ih λy M=>g y (Zk _ M)]
 have T:((live.map (·.2)).toArray.filterMap (c[·]?)).toList=(live.map (·.2)).map (λq=>c.getD q (0,Value.none)):=by
  rw[Array.toList_filterMap,List.toList_toArray];exact fm _ λq g=>by
   have%[%[j|z],f|rfl]:=Xq g;exact w j z f
 have er:c.toList=(List.range c.size).map (λq=>c.getD q (0,Value.none)):=by
  apply ext_getElem
  .simp
  .intro i f O;have f:=by simpa using f
   simp[Array.getD,f]
 refine%[%[%[k|hp],E,rfl,?_,λj Q=>?_,?_|λi j h x hi A=>?_]|?_]
 .intro a b N U u;have:=pairwise_iff_getElem.mp r a b (N) (U) u;simpa using this
 .have%[%[H|q],f|rfl]:=Xq Q;have:=(Array.getElem?_eq_some_iff.mp ((mem H q).mp f)).1;rw[L.size]at this
  lia
 .rw[<-Zb (xs:=Array.filterMap _ _),T];simp
 .have hi:(live.map (·.1))[i]? =some j:=by simpa using hi
  have A:((live.map (·.2)).toArray.filterMap (c[·]?)).toList[i]? =some (h,x):=by simpa using A
  rw[T,Ys,Zl]at A;rw[Zl]at hi;cases Y:live[i]? with
  | none=>rw[Y]at hi;cases hi
  | some p=>
    have%[H|q]:=p;rw[Y]at hi A;cases hi;have hm:=Z8 Y;have%[h',s,n,n1|n2]:=L.own _ q ((mem _ q).mp hm);have g:=w _ q hm;have eh:h'=h:=by
     have J:(c.map (·.1)).toList[q]? =some (c[q]).1:=by simp[g]
     rw[J]at s;have e3:c.getD q (0,Value.none)=c[q]:=by simp[Array.getD,g]
     simp only[Function.comp,Option.map_some,e3,Option.some.injEq]at A;rw[A]at s;exact(Za s).symm
    subst eh;have wm:∀n,way {mask:=t.mask,place:=(live.map (·.1)).toArray,dummies:= #[],finger:=finger,led:=led,moves:=moves,plain:=plain} h' n=way t h' n:=λn=>qS (t':=t) (by rfl) h' n
    refine%[n,by rw[wm];exact n1|λm ab=>?_];rw[wm];have%[z|I]:=(gU (by rw[L.size];have:=sE t h' m;lia)).mp (n2 m ab);exact Xr %[(way t h' m,z),(mem _ _).mpr I|rfl]
 .rw[T,er];exact C.map _
end STab
namespace STab
open PySem PySem.SetTable
section
variable{prog:Program}{w:World}{K:Type}[DecidableEq K]{knd:KeyKind prog w K}{A:Around}{E:ZD}{s:Shared}
def EL(knd:KeyKind prog w K)(h:Heap)(a:Array (Int×Value)):Prop:=∀(i:Nat) e,a[i]? =some e->∃r k,e=(tupleKeyHash knd k,Value.ref r)/\IsTupleKey knd h k r
theorem mQ(g:IsTupleKey knd s.heap ks r)(h:Q false s):↥A (ofAClassStatement 8 (.ref r)) Q E s:=by
 have l:=g.typeIs;have%[o,c,n,m,_,p|hi]:=g;unfold ofAClassStatement;refine Z2 (wpAny_typeOf l (Z2 (Z3 (Z2 (wpAny_seqItems m p (Z2 ?_))))));rw[<-forIn_toList];refine wpAny_forIn_list _ (λrest r s'=>r=(none,())/\s'=s/\∃i,ItemsAre knd i rest) _ ?_ ?_ _ _ %[rfl,rfl,ks|hi]
 .intro x rest r s' %[rfl,rfl,i|d];cases d with
  | @cons k1 u f j q b=>
    have t:=knd.byValue _ _ q;have e:ofAClassStatement 7 x=pure false:=by
     cases x with
     | ref a=>simp[carriedByValue]at t
     | _=>first|rfl|lia|lia
    refine Z2 ?_;rw[e];exact Z3 (Z3 %[rfl,rfl,f|b])
 .intro r s' %[rfl,rfl|_];exact Z3 h
theorem we(d:IsTupleKey knd s.heap ks r):∀(l:ZF),(∀y∈l,∃a c,y=Value.ref a/\IsTupleKey knd s.heap c a)->∀{Q:Bool->Shared->Prop},Q false s->↥A (searchCouldBeSeen (.ref r) l) Q E s:=by
 intro l g Q h;refine Z2 (wpAny_forIn_list _ (λrest x s'=>x=(none,())/\s'=s/\∀y∈rest,∃a c,y=Value.ref a/\IsTupleKey knd s.heap c a) _ ?_ ?_ _ _ %[rfl,rfl|g])
 .intro y rest x s' %[rfl,rfl|e];have%[a,c,rfl|b]:=e y Zm;have f:=λy i=>e y (Zk _ i)
  dsimp only
  split
  .exact Z3 %[rfl,rfl|f]
  .exact Z2 (wpAny_eqIsQuiet_tuple d (Z2 (wpAny_eqIsQuiet_tuple b (Z2 (mQ d (Z2 (mQ b (Z3 %[rfl,rfl|f]))))))))
 .intro x s' %[rfl,rfl|_];exact Z3 h
theorem sF(hu:A.units<cLine)(ho:s.heap.get? a=some o)(hd:o.data= .set u ep t)(W:WF t u)(room:t.place.size<=t.mask)(ae:t.mask<=9000)
 (el:EL knd s.heap u) (hk:IsTupleKey knd s.heap k r)
 (h1:(∃(i:Nat) (g:Addr),u[i]? =some (tupleKeyHash knd k,Value.ref g)/\IsTupleKey knd s.heap k g)->Q (.there none) s)
 (h2:∀m,way t (tupleKeyHash knd k) m∉t.place.toList->(∀q,q<m->way t (tupleKeyHash knd k) q∈t.place.toList)->(∀(i:Nat) g v,u[i]? =some (tupleKeyHash knd v,Value.ref g)->IsTupleKey knd s.heap v g->v≠k)->Q (.free (way t (tupleKeyHash knd k) m) false) s):
 ↥A (setSearch a (.ref r) (tupleKeyHash knd k) true) Q E s:=by
 generalize hh:tupleKeyHash knd k=h at h1 h2
 have hf:t.fits u.size=true:=by
  unfold fits fill;rw[W.dum];simp[W.size];exact W.size▸room
 have%[N,m1,m2|m3]:=v9 W room h;have me:t.slot (way t h N)= .empty:=by
  rcases jX W.rise W.dum (way t h N)with⟨i,e,_⟩|⟨_,e⟩
  .exact absurd (mem_toList_iff.mpr (Array.mem_of_getElem? e)) m2
  .exact e
 have ag:t.gaveWay=false:=by
  have%[c|hc]:=W.pow;have hb:=W.big;have c0:c≠0:=λq=>by rw[q]at hc;lia
  have%[c'|rfl]:=Nat.exists_eq_succ_of_ne_zero c0;rw[pow_succ]at hc;unfold gaveWay;have:t.mask%2=1:=by lia
  simp[this]
 have O:∀(fuel n:Nat) (st:Option Probe),st.getD (t.probeStart h)=stand t h n->n<=N->N<n+fuel->(∀j,j<n->∀(i:Nat) g v,t.slot (way t h j)= .live i->u[i]? =some (tupleKeyHash knd v,Value.ref g)->IsTupleKey knd s.heap v g->v≠k)->
  ↥A (setSearchFrom a (.ref r) h true fuel st) Q E s:=by
  intro fuel
  induction fuel with
  | zero=>intro n st _ a1 a2;lia
  | succ fuel ih=>
    intro n st ai hn a5 T;unfold setSearchFrom;refine Z2 (wpAny_setState_of ho hd hf ?_);dsimp only;rw[ag];simp only[Y1,if_false];rw[ai]
    generalize aj:SetTable.probe t _ h (stand t h n)=pr
    have l:SetTable.probe.go t (λi=>((u[i]?).map (·.1)).getD 0) h (10*turns t.mask) (stand t h n)=pr:=aj;have%[q,q1,q2,q3|q4]:=ug (t:=t) W.dum (hashAt:=λi=>((u[i]?).map (·.1)).getD 0) (h:=h) (10*turns t.mask) n N hn ⋯ me;rcases q4 with⟨J,e2⟩|⟨i,J,e2,e3⟩
    .rw[e2]at l;subst l;have hq:q=N:=by
      rcases Nat.eq_or_lt_of_le q2 with z|z
      .exact z
      .have:=m3 q z;rcases jX W.rise W.dum (way t h q)with⟨i,_,U⟩|⟨z2,_⟩
       .rw[J]at U;cases U
       .exact absurd this z2
     subst hq;dsimp only;refine Z3 (h2 q m2 m3 λi g v p B C=>?_);subst C;rw[hh]at p;have hi:i<u.size:=(Array.getElem?_eq_some_iff.mp p).1;have hp:t.place[i]? =some (t.place[i]'(W.size▸hi)):=by simp
     have%[Y,c1|c2]:=W.chain i _ h _ hp p;have G:=qR W.rise hp;have al:Y<q:=by
      rcases Nat.lt_trichotomy Y q with z|z|z
      .exact z
      .rw[z,]at c1;rw[<-c1,me]at G;cases G
      .exact absurd (c2 q z) m2
     rw[<-c1]at G;by_cases ab:Y<n
     .exact T Y ab i g v G (hh▸p) B rfl
     .have%[H,U|ac]:=q3 Y ⋯ al;rw[G]at U;cases U;rw[p]at ac;exact ac rfl
    .rw[e3]at l;subst l;obtain⟨x0,p⟩:∃e,u[i]? =some e:=by
      have an:t.place[i]? =some (way t h q):=by
       rcases jX W.rise W.dum (way t h q)with⟨H,p1,I⟩|⟨_,I⟩
       .rw[J]at I;cases I;exact p1
       .rw[J]at I;cases I
      have:=(Array.getElem?_eq_some_iff.mp an).1;exact%[u[i]'(W.size▸this)|by simp[<-W.size,this]]
     have%[g,v,rfl|B]:=el i x0 p;have a6:q<N:=Nat.lt_of_le_of_ne q2 λz=>by rw[z,me]at J;cases J
     have L:↥A (do
      let f<-holding [Value.ref g] (eqBool (Value.ref g) (Value.ref r))
      let x<-setState a
      if(true&&f)=true then pure (SetFound.there none)
      else match x.2.snd.sameMemory t.moves t.mask with
       | some same=>
         match if same=true then x.2.snd.slot (way t h q)else Slot.empty with
         | Slot.live H=>
           match x.fst[H]? with
           | some (_,y')=>do
             let b<-isSame y' (Value.ref g)
             let d<-pure (if b=true then some H else none)
             match d with
              | none=>do
                rule "set.search.anew"
                setSearchFrom a (Value.ref r) h true fuel none
              | some H=>
                if f=true then pure (SetFound.there (some H))
                else setSearchFrom a (Value.ref r) h true fuel (some (stand t h (q+1)))
           | none=>do
             let d<-pure none
             match d with
              | none=>do
                rule "set.search.anew"
                setSearchFrom a (Value.ref r) h true fuel none
              | some H=>
                if f=true then pure (SetFound.there (some H))
                else setSearchFrom a (Value.ref r) h true fuel (some (stand t h (q+1)))
         | x=>do
           let d<-pure none
           match d with
            | none=>do
              rule "set.search.anew"
              setSearchFrom a (Value.ref r) h true fuel none
            | some H=>
              if f=true then pure (SetFound.there (some H))
              else setSearchFrom a (Value.ref r) h true fuel (some (stand t h (q+1)))
       | x=>unsupported "set.changed-during-lookup:is-the-new-block-at-the-old-address") Q E s:=by
      refine Z2 (wpAny_holding (wpAny_eqBool_tuple hu B hk (Z2 (wpAny_setState_of ho hd hf ?_))));dsimp only;by_cases C:v=k
      .subst C;rw[Zf rfl];exact Z3 (h1 %[i,g,(by rw[p]at e2;exact e2)▸p|B])
      .rw[Zh C];have sm:t.sameMemory t.moves t.mask=some true:=by unfold sameMemory;rw[if_pos ∅]
       rw[sm];simp only[if_true];rw[J];dsimp only;rw[p];dsimp only;have same:isSame (Value.ref g) (Value.ref g)=pure true:=by
        unfold isSame;simp
       refine Z2 ?_;rw[same];refine Z3 ?_;simp only[if_true];refine Z2 (Z3 ?_);dsimp only;refine ih (q+1) _ rfl ⋯ ⋯ λj hj i2 r2 k2 s2 g2 t2=>?_
       by_cases as:j<n
       .exact T j as i2 r2 k2 s2 g2 t2
       .by_cases a0:j=q
        .subst a0;rw[J]at s2;cases s2;rw[p]at g2;have:g=r2:=by
          have:=Za g2;injection this with _ z
          injection z
         subst this;exact(B.inj t2)▸C
        .have%[i3,p1|I]:=q3 j ⋯ ⋯;rw[s2]at p1;cases p1;rw[g2]at I;intro z;rw[z]at I;exact I hh
     dsimp only;rw[p];dsimp only;by_cases M:(!t.led)=true
     .rw[if_pos M];refine Z2 (we hk _ (λy hy=>?_) ?_)
      .have%[e,a3|rfl]:=Xq hy;have%[i2|hi2]:=Array.getElem?_of_mem ((Array.mem_filter.mp (mem_toList_iff.mp a3)).1);have%[r2,k2,rfl|a4]:=el i2 e hi2;exact%[r2,k2,rfl|a4]
      .exact L
     .rw[if_neg M];exact L
 exact O 100000 0 none rfl (Xf _) (by unfold turns at m1;lia) (λj hj=>absurd hj (X7 _))
end
end STab
namespace STab
open PySem PySem.SetTable
structure IN (es:Array _) (t:SetTable) (led:Bool):Prop where
 wf:WF t es
 roomy:t.place.size*5<t.mask*3
 small:t.mask<=7\/t.mask+1<=8*es.size
 led:t.led=led
 plain:es.size≠0->t.plain=false
theorem IN.fits{a:Array _}{t:SetTable}{led:Bool}(I:IN a t led):t.fits a.size=true:=by
 unfold SetTable.fits fill;rw[I.wf.dum];have:=I.roomy;simp[I.wf.size];rw[<-I.wf.size]
 lia
theorem IN.fresh(finger moves:Nat)(led:Bool):IN #[] (SetTable.fresh finger moves led) led:=
 %[%[%[3|rfl],Zi _,rfl,λa b c=>absurd c (by simp[SetTable.fresh]),λj d=>by simp[SetTable.fresh]at d,rfl|λi j h x hi=>by simp[SetTable.fresh]at hi],show 0*5<7*3 from by decide,.inl (Zi _),rfl|λq=>absurd rfl q]
section
variable{prog:Program}{w:World}{K:Type}[DecidableEq K]{knd:KeyKind prog w K}{A:Around}{E:ZD}{s:Shared}
theorem relay_w(e:s.heap.get? a=some o)(f:o.data= .set c z t)(j:t.fits c.size=true)(B:c.size<=n)(hw:n<=4000)
 (h:∀d t',d.toList.Perm c.toList->WF t' d->t'.led=t.led->t'.plain=t.plain->n<=t'.mask->t'.mask+1<=2*n\/t'.mask<=7->Q () (s>>>s.heap.update a (Obj.putSet d t'))):
 ↥A (setRelay a n) Q E s:=by
 have%[k,l,g,lt|le]:=wc (n:=n) ⋯;have C:8<=2^k:=Yh (by simp:8<=2^3) (Nat.pow_le_pow_right ∅ l);have i:2^k<=2*n\/2^k=8:=by
  rcases le with q|q
  .exact .inl q
  .exact .inr (by rw[q])
 have m:2^k<=8000:=by rcases i with q|q<;> lia
 let p:SetTable:={t with mask:=2^k-1}
 have%[t',b,r,G,u,v,H,W|P]:=laid_ok (t:=p) (k:=k) (by show 2^k-1+1=2^k;lia) (by show 7<=2^k-1;lia) c (by show c.size<=2^k-1;lia) t.finger _ t.led t.plain;have y:t.relaid (c.map (·.1)) n=some (t',b):=by
  unfold relaid;rw[g];exact r
 have sz:(b.filterMap (c[·]?)).size=c.size:=by rw[<-Zb,P.length_eq,Zb]
 refine Z2 (wpAny_setState_of e f j ?_);dsimp only;rw[g,if_neg (by rw[PySem.sizeLine_eq];lia)];rw[y];refine Z2 ?_;show wpAny _ A (if((b.filterMap _).size != c.size)=true then _ else pure _) _ E s;rw[if_neg (by simp[sz])];exact Z3 (wpAny_storeSet_of e f (h _ t' P W u v ⋯ (by rcases i with q|q<;> lia)) (by rw[sz,PySem.sizeLine_eq];lia))
theorem Bh(e:s.heap.get? a=some o)(f:o.data= .set c j t)(g:t.fits c.size=true)(m:c.size<=1000)(n:c.size≠0)(d:t.plain=false)
 (h:∀b t',b.toList.Perm c.toList->IN b t' t.led->t'.plain=false->Q () (s>>>s.heap.update a (Obj.putSet b t'))):
 ↥A (setRelay a (grown c.size)) Q E s:=by
 have i:grown c.size=c.size*4:=by unfold grown;rw[if_neg ⋯]
 rw[i];refine relay_w e f g ⋯ ⋯ λb t' P W l p q m2=>?_
 have sz:b.size=c.size:=by rw[<-Zb,P.length_eq,Zb]
 exact h b t' P %[W,by rw[W.size,sz];lia,⋯,l|λ_=>p▸d] (p▸d)
theorem yQ{led:Bool}(L:A.units<cLine)(p:s.heap.get? a=some o)(n:o.data= .set d ep t)(I:IN d t led)(hn:d.size+1<=1000)
 (el:EL knd s.heap d) (B:IsTupleKey knd s.heap k r) (hv:∀(s':Shared) (M:Bool->Shared->Prop),IsTupleKey knd s'.heap k r->M false s'->↥A (hashByValue 8 (.ref r)) M E s')
 (h1:(∃(i:Nat) (u:Addr),d[i]? =some (tupleKeyHash knd k,Value.ref u)/\IsTupleKey knd s.heap k u)->Q false {s with toks:=s.toks+(k.length+1)})
 (N:(∀(i:Nat) (u:Addr) (C:List K),d[i]? =some (tupleKeyHash knd C,Value.ref u)->IsTupleKey knd s.heap C u->C≠k)->∀g t' G h',h'.get? a=some {o with data:= .set g G t'}->SameBut a s.heap h'->g.toList.Perm (d.toList++[(tupleKeyHash knd k,Value.ref r)])->IN g t' led->Q true {s with heap:=h',toks:=s.toks+(k.length+1)}):
 ↥A (setAdd a (.ref r)) Q E s:=by
 unfold setAdd;refine wpAny_holding (Z2 (wpAny_pyHash_tuple L B ?_));unfold setAddHashed;refine wpAny_holding ?_;unfold setAddHashedIn;refine Z2 (wpAny_setState_of (s:={s with toks:=s.toks+(k.length+1)}) p n I.fits ?_);dsimp only;have ns:byScan (Value.ref r) d=false:=by unfold byScan;simp[Value.scannable]
 rw[ns];simp only[Y1,if_false];have rm:=I.roomy;refine Z2 (sF (s:={s with toks:=s.toks+(k.length+1)}) L p n I.wf ⋯ (by rcases I.small with q|q<;> lia) el B (λq=>?_) λm O m2 T=>?_)
 .exact Z3 (h1 q)
 .dsimp only;refine Z2 (wpAny_setState_of (s:={s with toks:=s.toks+(k.length+1)}) p n I.fits ?_);dsimp only;have v:=I.wf;have%[p1,U,Y,p4,p5,p6|Wp]:=v.put (x:=Value.ref r) O m2 t.led false;have%[_,_,_,_,_,_|Wq]:=v.put (x:=Value.ref r) O m2 (t.put (way t (tupleKeyHash knd k) m)).1.led (t.put (way t (tupleKeyHash knd k) m)).1.plain;have y:(t.put (way t (tupleKeyHash knd k) m)).2<=d.size:=by
   rw[p1,<-v.size];exact(jW v.rise _).1
  have e:(insertAt d (t.put (way t (tupleKeyHash knd k) m)).2 (tupleKeyHash knd k,Value.ref r)).size=d.size+1:=jc _ _ _ y;have h:(insertAt d (t.put (way t (tupleKeyHash knd k) m)).2 (tupleKeyHash knd k,Value.ref r)).toList.Perm (d.toList++[(tupleKeyHash knd k,Value.ref r)]):=by
   rw[kP _ _ _ y];have q:=Xc (t.put (way t (tupleKeyHash knd k) m)).2 d.toList;refine List.Perm.trans List.perm_middle ?_;rw[q];exact perm_append_comm (l₁:=[_])
  generalize ab:insertAt d _ _=c at Wp Wq e h
  have f:∀b:SetTable,WF b c->b.mask=t.mask->b.place.size=t.place.size+1->b.led=led->b.plain=false->
   ↥A (do storeSet a c b;if(!false&&b.tooFull)=true then do setRelay a (grown (d.size+1));pure true else pure true) Q E {s with toks:=s.toks+(k.length+1)}:=λb W2 e1 e2 e3 e4=>by
   have g1:=by
    have q:=get?_update_self (Obj.putSet c b) p (by rw[putSet_of c b n];rfl);rwa[putSet_of c b n]at q
   have b1:=SameBut.update s.heap a (Obj.putSet c b);refine Z2 (wpAny_storeSet_of p n ?_ (e▸Yh hn (by decide)));have H:b.tooFull=true↔b.mask*3<=b.place.size*5:=by
    unfold tooFull fill;rw[W2.dum];simp
   by_cases hf:b.tooFull=true
   .rw[if_pos (by simp[hf])];have z:b.fits c.size=true:=by
     unfold SetTable.fits fill;rw[W2.dum];simp[W2.size];exact W2.size▸(by rw[e1,e2];have:=v.big;lia)
    rw[<-e];refine Z2 (Bh g1 rfl z ⋯ ⋯ e4 λj J P3 I3 _=>Z3 ?_);have g2:=by
     have q:=get?_update_self (Obj.putSet j J) g1 (by rfl);rwa[putSet_of j J rfl]at q
    exact N T j J _ _ g2 (b1.trans (SameBut.update _ a _)) (P3.trans h) (by rw[e3]at I3;exact I3)
   .rw[if_neg (by simp[hf])];refine Z3 (N T c b _ _ g1 b1 h %[W2,⋯,?_,e3|λ_=>e4]);rw[e1,e];rcases I.small with q|q
    .exact .inl q
    .exact .inr ⋯
  by_cases l:(t.put (way t (tupleKeyHash knd k) m)).1.plain=true
  .rw[if_pos l];exact Z2 (hv _ _ B (f _ Wp U Y I.led rfl))
  .rw[if_neg l];exact f _ Wq U Y (p4.trans I.led) (by simpa using l)
end
end STab
namespace L2
open PySem PySem.Spec PyProof.Rows STab
noncomputable def ir{a:Type}[DecidableEq a](ps:List (Addr×a))(p:Addr×a):List (Addr×a):=if p.2∈ps.map (·.2)then ps else ps++[p]
noncomputable def bg{a:Type}[DecidableEq a](l:List (Addr×a)):List (Addr×a):=l.foldl ir []
section
variable{κ:Type}[DecidableEq κ]
theorem Bi{ps:List _}{p q:Addr×κ}(h:q∈ir ps p):q∈ps\/q=p:=by
 unfold ir at h
 split at h
 .exact .inl h
 simp_all
theorem yR{ps:List (Addr×κ)}{p:Addr×κ}{k:κ}:k∈(ir ps p).map (·.2)↔k∈ps.map (·.2)\/k=p.2:=by
 unfold ir;by_cases h:p.2∈ps.map (·.2)
 .rw[if_pos h];exact%[.inl|λq=>q.elim id λe=>e▸h]
 .rw[if_neg h,Zd,Yt];simp
theorem wg{ps:List (Addr×κ)}{p:Addr×κ}(h:(ps.map (·.2)).Nodup):((ir ps p).map (·.2)).Nodup:=by
 unfold ir
 split
 .exact h
 .rename_i a
  rw[Zd];exact nA h a
theorem xf:∀(l ps:List (Addr×κ)),(ps.map (·.2)).Nodup->((l.foldl ir ps).map (·.2)).Nodup/\(∀k,k∈(l.foldl ir ps).map (·.2)↔k∈ps.map (·.2)\/k∈l.map (·.2))/\(∀q∈l.foldl ir ps,q∈ps\/q∈l)
 |[],ps,h=>%[h,λk=>by simp|λq a=> .inl a]
 | p::l,ps,h=>by
   have%[b,c|d]:=xf l _ (wg h);rw[Y8];refine%[b,λk=>?_|λq a=>?_]
   .rw[c,yR,Yr,Yw]
    grind
   .rcases d q a with z|z
    .rcases Bi z with z|z
     .exact .inl z
     .exact .inr (z▸Zm)
    .exact .inr (Zk _ z)
theorem eA(l:List (Addr×κ)):((bg l).map (·.2)).Nodup:=(xf l [] X6).1
theorem iu(l:List (Addr×κ))(k:κ):k∈(bg l).map (·.2)↔k∈l.map (·.2):=by
 have:=(xf l [] X6).2.1 k;simpa [bg]using this
theorem bv(l:List (Addr×κ)):∀q∈bg l,q∈l:=λq a=>by
 rcases(xf l [] X6).2.2 q a with z|z
 .cases z
 .exact z
theorem sG(val:Nat->Addr×κ)(i:Nat):bg ((List.range (i+1)).map val)=ir (bg ((List.range i).map val)) (val i):=by
 unfold bg;rw[range_succ,Zd,List.foldl_append];rfl
end
section
variable{prog:Program}{w:World}{κ:Type}[DecidableEq κ]{knd:PySem.KeyKind prog w κ}{A:Around}{E:ZD}{s:Shared}{a:Addr}
def oB(w:World)(knd:PySem.KeyKind prog w κ)(a:Addr)(ps:List (Addr×List κ))(h:Heap):Prop:=
 ∃o b c t,h.get? a=some o/\o.ExactSet/\o.data= .set b c t/\IN b t (!aS w)/\b.toList.Perm (ps.map λp=>(tupleKeyHash knd p.2,Value.ref p.1))
theorem oB.keep(S:oB w knd a ps h)(k:∀o,h.get? a=some o->h'.get? a=some o):oB w knd a ps h':=by
 have%[o,b,c,t,d|r]:=S;exact%[o,b,c,t,k o d|r]
theorem nC(x:IsTupleKey knd h k r)(q:∀o,h.get? r=some o->h'.get? r=some o):IsTupleKey knd h' k r:=by
 have%[o,b,n,c|z]:=x;exact%[o,b,n,q o c|z]
theorem Bj(v:A.units<cLine)(y:oB w knd a ps s.heap)(tk:∀q∈ps,IsTupleKey knd s.heap q.2 q.1)(B:IsTupleKey knd s.heap p.2 p.1)(room:ps.length+1<=1000)
 (C:∀(s':Shared) (m:Bool->Shared->Prop),IsTupleKey knd s'.heap p.2 p.1->m false s'->↥A (hashByValue 8 (.ref p.1)) m E s')
 (n:∀h' b tk,SameBut a s.heap h'->oB w knd a (ir ps p) h'->s.toks<=tk->Q b {s with heap:=h',toks:=tk}):↥A (setAdd a (.ref p.1)) Q E s:=by
 have%[o,g,G,t,r,f,u,I|P]:=y;have hn:=by
  have:=P.length_eq;rw[Z6,Zb]at this;exact this
 have mem:∀i e,g[i]? =some e->∃q∈ps,e=(tupleKeyHash knd q.2,Value.ref q.1):=λi e h=>by
  have:=mem_toList_iff.mpr (Array.mem_of_getElem? h);have%[q,c|rfl]:=Xq (P.mem_iff.mp this);exact%[q,c|rfl]
 have H:EL knd s.heap g:=λi e h=>by
  have%[q,c|rfl]:=mem i e h;exact%[q.1,q.2,rfl|tk q c]
 refine yQ v r u I ⋯ H B C (λ⟨i,J,e,L⟩=>?_) λd j t' l h' g' M N O=>?_
 .have%[q,c|T]:=mem i _ e;have U:J=q.1:=by injection T with _ z;injection z
  subst U;refine n s.heap false _ (SameBut.refl a s.heap) ?_ (le_add_right _ _);unfold ir;rw[if_pos (Xr %[q,c|(L.inj (tk q c)).symm])];exact%[o,g,G,t,r,f,u,I|P]
 .refine n h' true _ M ?_ (le_add_right _ _);unfold ir;rw[if_neg]
  .refine%[_,j,l,t',g',f,rfl,O|N.trans ?_];rw[Zd];exact P.append_right _
  .intro Y;have%[q,c|e]:=Xq Y;have:=P.mem_iff.mpr (Xr %[q,c|rfl]);have%[i|hi]:=Xg this;exact d i q.1 q.2 (by simpa using hi) (tk q c) e
end
section
variable{prog:Program}{w:World}{κ:Type}[DecidableEq κ]{knd:PySem.KeyKind prog w κ}{A:Around}{R:Result->Shared->Prop}{I:Addr}{fp wr:List Addr}{G:Array GenState->Array GenState->Prop}{n:Nat}{P:Nat->Value->Prop}{St:Nat->Shared->Prop}
theorem pY(W:WalksS prog w A.in1 I fp wr G n P St)(S:Addr)(l:S∉fp)(N:A.in1.units<cLine)(val:Nat->Addr×List κ)(r:∀i v,i<n->P i v->v= .ref (val i).1)(U:List (List κ))(hU:U.length<=999)(z:∀i,i<n->(val i).2∈U)(c:∀i,i<n->(val i).1≠S/\(val i).1∉wr)
 (O:∀i,i<n->∀(s':Shared) (y:Bool->Shared->Prop) (Q:ZD),IsTupleKey knd s'.heap (val i).2 (val i).1->y false s'->↥A.in1 (hashByValue 8 (.ref (val i).1)) y Q s'):
 ∀(k i:Nat) (s:Shared),n-i=k->i<=n->St i s->oB w knd S (bg ((List.range i).map val)) s.heap->(∀j,j<n->IsTupleKey knd s.heap (val j).2 (val j).1)->
  (∀s',Moved (S::wr) G s s'->oB w knd S (bg ((List.range n).map val)) s'.heap->R (.ok (.ret .none)) s')->codeAny (model prog w) A (.builtin "set.update.loop" %[[.ref S,.ref I]|[]]) R s:=by
 have out:S∉wr:=λh=>l (W.sub _ h)
 have more:∀b∈wr,b∈S::wr:=λb t=>Zk _ t
 intro k
 induction k with
 | zero=>
   intro i s B hi st C tk fin;have e:i=n:=by lia
   subst e;refine codeAny_builtin F.entry_set_update_loop ?_;rw[Around.under_plainId F.plain_set_update_loop _];show wpAny _ A.in1 (pyNext (.ref I)>>= _) _ _ s;refine Z2 (W.done s _ _ st λd g=>?_);show wpAny _ A.in1 (ret Value.none) _ _ d;exact Z3 (fin d (g.mono more) (C.keep λo e=>g.heap S o out e))
 | succ k T=>
   intro i s B hi st C tk fin;have lt:i<n:=by lia
   refine codeAny_builtin F.entry_set_update_loop ?_;rw[Around.under_plainId F.plain_set_update_loop _];show wpAny _ A.in1 (pyNext (.ref I)>>= _) _ _ s;refine Z2 (W.item i s _ _ lt st λv d pv E g=>?_);obtain rfl:=r i v lt pv;have f:∀j,j<n->IsTupleKey knd d.heap (val j).2 (val j).1:=λj a=>nC (tk j a) λo e=>g.heap _ o (c j a).2 e
   have H:∀q∈bg ((List.range i).map val),IsTupleKey knd d.heap q.2 q.1:=λq Y=>by
    have%[j,a|rfl]:=Xq (bv _ q Y);exact f j (by have:=mem_range.mp a;lia)
   have room:(bg ((List.range i).map val)).length+1<=1000:=by
    have q:=nodup_sub (eA ((List.range i).map val)) (m:=U) λk B=>by
     have%[p,hp|rfl]:=Xq ((iu _ k).mp B);have%[j,a|rfl]:=Xq hp;exact z j (by have:=mem_range.mp a;lia)
    rw[Z6]at q
    lia
   refine Z2 (wpAny_holding (Bj (p:=val i) N (C.keep (h':=d.heap) λo e=>g.heap S o out e) H (f i lt) room (λs' y=>O i lt s' y _) λh2 b ab J L u=>Z3 %[plainId_quiet F.plain_set_update_loop _|T (i+1) _ ⋯ lt (W.frame _ d _ _ E u λb t o e=>?_) (by rw[sG];exact L) (λj a=>nC (f j a) λo e=>(J.2 _ (c j a).1)▸e) λs3 m3 M=>?_]))
   .rw[J.2 b (λq:b=S=>l (q▸t))];exact e
   .refine fin s3 (Moved.trans W.gtrans ((g.mono more).then_heap u λb o t e=>?_) m3) M;rw[J.2 b (λq:b=S=>t (q▸Zm))];exact e
end
section
variable{prog:Program}{w:World}{κ:Type}[DecidableEq κ]{knd:PySem.KeyKind prog w κ}{A:Around}{E:ZD}{s:Shared}
theorem pZ(hh:A.handled=none)(hu:A.units+16<cLine)(hl:s.heap.IsList l a)(hi:a.toList=ps.map λp=>Value.ref p.1)(tk:∀p∈ps,IsTupleKey knd s.heap p.2 p.1)(U:List (List κ))(hU:U.length<=999)(ab:∀p∈ps,p.2∈U)
 (hv:∀p∈ps,∀(B:Around) (s':Shared) (O:Bool->Shared->Prop) (E':ZD),IsTupleKey knd s'.heap p.2 p.1->O false s'->↥B (hashByValue 8 (.ref p.1)) O E' s')
 (hQ:∀(h':Heap) (tk:Nat),oB w knd ⇑s (bg ps) h'->(∀b o,s.heap.get? b=some o->h'.get? b=some o)->Q (.ref ⇑s) {s with heap:=h',toks:=tk}):
 ↥A (call (.type "set") [.ref l]) Q E s:=by
 have%[c,tl|a2]:=called_set.mro;have ac:=called_set.made;have a3:=called_set.sub;refine wpAny_call (codeAny_of_tree ?_);show wpAny _ _ (callAny (.type "set") _) _ _ _;refine Z3 %[Code.quiet_builtin _ (by decide +kernel)|codeAny_builtin F.entry_type_call ?_];rw[Around.under_plain (weight_type_call_type "set" [.ref l] []) rfl];have a5:=called_set.notType;have a6:=called_set.canCreate;have a7:=PySem.F.typeCall_set_1 (.ref l)
 repeat any_goals first|assumption|wp_step
 refine codeAny_mono (tX (.ref l) (E:=E) (Q₁:=λobj q=>obj= .ref ⇑s/\q=(s>>>s.heap.push (aT w))) %[rfl|rfl]) λr q C=>?_
 cases r with
 | error e=>exact C
 | ok fl=>
   cases fl with
   | ret obj=>
     have%[rfl|rfl]:=C;have gS:(s.heap.push (aT w)).get? ⇑s=some (aT w):=Zj _ rfl;have tS:Shared.TypeIs (s>>>s.heap.push (aT w)) (.ref ⇑s) "set":=%[_,gS|rfl]
     have a8:=called_set.init.lookup;have a9:=called_set.init.bind (.ref ⇑s)
     repeat any_goals first|assumption|wp_step
     refine codeAny_mono (codeAny_call_builtin (R:=wants (λr t=>r= .none/\∃h' tk,t={s with heap:=h',toks:=tk}/\oB w knd ⇑s (bg ps) h'/\(∀b o,s.heap.get? b=some o->h'.get? b=some o)) E) called_set.init.plain F.entry_set_init (check_set_init_1 tS ?_)) λG t f=>?_
     .have%[ol,gl,cl,nl|dl]:=hl;have%[a4,y,ae|m]:=ol;simp only at cl dl;subst cl;subst dl;have ag:(s.heap.push (aT w)).get? l=some {cls:= .type "list",dict:=y,data:= .seq a nl,slots:=m}:=Z7 _ gl;have bb:=PySem.F.sub_list_set;have bc:=PySem.F.sub_list_frozenset;have bf:(Value.type "list"==Value.type "dict")=false:=by decide
      have H:(s.heap.push (aT w)).IsList l a:=%[_,ag,rfl,nl|rfl]
      unfold Builtin.«set.__init__»;unfold noKeywords;unfold Builtin.Frozenset.updateFrom
      generalize ai:pyIter=PI
      wp_walk
      subst ai;refine wpAny_pyIter_list H (Z2 (wpAny_runValue ?_));have I:l<⇑s:=Zv gl;have h3:A.in1.in1.in1.handled=none:=by simp[hh]
      have T:(s.heap.push (aT w)).objs.size=⇑s+1:=Zq ..;have aj:l≠(s.heap.push (aT w)).objs.size:=by rw[T];exact Zt (Yo I)
      have al:⇑s∉[(s.heap.push (aT w)).objs.size,l]:=by
       rw[T];simp only[Yw,X8,or_false,not_or];exact%[Zt (Yp _)|X2 I]
      have J:a.size=ps.length:=by rw[<-Zb,hi,Z6]
      have an:A.in1.in1.in1.units<cLine:=by simp only[Around.in1];lia
      have g:∀i,i<a.size->∃p∈ps,ps[i]? =some p/\ps.getD i (0,[])=p:=λi h=>by
       have h':i<ps.length:=by lia
       exact%[ps[i],Ye h',by simp[h']|by simp[Zc,h']]
      refine pY (knd:=knd) ((Walks.list h3 _ l aj a).toS) ⇑s al an (λi=>ps.getD i (0,[])) (λi v d as=>?_) U hU (λi d=>?_) (λi d=>?_) (λi d=>?_) (a.size-0) 0 _ ⋯ (Xf _)
       %[%[_,Zj _ rfl,rfl|rfl]|H.push _] %[_,#[],0,_,Z7 _ gS,%[rfl,rfl|rfl],rfl,IN.fresh 0 0 _|List.Perm.refl _] (λj d=>?_) ?_
      .have%[p,u,L|n]:=g i d;have:a.toList[i]? =some v:=by rw[getElem?_toList];exact as
       rw[hi,Zl,L]at this;show v= .ref (ps.getD i (0,[])).1;rw[n];exact(Za this).symm
      .have%[p,u,L|n]:=g i d;show(ps.getD i (0,[])).2∈U;rw[n];exact ab p u
      .have%[p,u,L|n]:=g i d;have%[po,_,_,pg|_]:=tk p u;have M:=Zv pg;show(ps.getD i (0,[])).1≠_/\(ps.getD i (0,[])).1∉_;rw[n];refine%[Zt M|?_];simp only[Yw,X8,or_false,T];exact Zt (Yo M)
      .have%[p,u,L|n]:=g i d;intro s' O E';show IsTupleKey knd s'.heap (ps.getD i (0,[])).2 (ps.getD i (0,[])).1->_->wpAny _ _ (hashByValue 8 (.ref (ps.getD i (0,[])).1)) _ _ _;rw[n];exact hv p u _ s' O E'
      .have%[p,u,L|n]:=g j d;show IsTupleKey knd _ (ps.getD j (0,[])).2 (ps.getD j (0,[])).1;rw[n];exact nC (tk p u) λo e=>Z7 _ (Z7 _ e)
      intro s3 Y S3;have C:(List.range a.size).map (λi=>ps.getD i (0,[]))=ps:=by
       rw[J];apply ext_getElem
       .simp
       .intro i h1 h2;simp[Zc,h2]
      rw[C]at S3;have%[h',g',d',a0|a1]:=s3;have eg:g'=s.gens:=Y.gens;have ed:d'=s.drawn:=Y.drawn;have eo:a1=s.os:=Y.os;subst eg;subst ed;subst eo;refine Z3 ?_;show wpAny _ _ (ret Value.none) _ _ _;refine Z3 %[rfl,h',a0,rfl,S3|λb o e=>?_];have N:=Zv e;refine Y.heap b o ?_ (Z7 _ (Z7 _ e));simp only[Yw,X8,or_false,not_or,T];exact%[Zt N|Zt (Yo N)]
     .cases G with
      | error e=>exact f
      | ok z=>
        cases z with
        | ret r=>
          have%[rfl,h',tk,rfl,S3|k3]:=f
          repeat any_goals first|assumption|wp_step
          exact hQ _ _ S3 k3
        | _=>exact f.elim
   | _=>exact C.elim
end
open PySem PySem.Spec PyProof.Rows
section
variable{prog:Program}{w:World}{A:Around}{s:Shared}
theorem jM{a:Addr}{vs:ZF}{n:Nat}{kd:SortKind}{Nv:Value->Nat}{P:Fin->Shared->Prop}{E:ZD}(z:s.heap.get? a=some (seqObj "list" vs.toArray n))(C:vs.length<=100000)
 (f:∀j:Heap,(∀b o,b≠a->s.heap.get? b=some o->j.get? b=some o)->2<=vs.length->∀Q:SortKind->Shared->Prop,Q kd (s>>>j)->↥A (keyKind' vs.toArray) Q E (s>>>j))
 (G:∀j:Heap,(∀b o,b≠a->s.heap.get? b=some o->j.get? b=some o)->SBig.Cmp prog w A (λs'=>s'=(s>>>j)) kd (λx=>x.1∈vs) (λx=>Nv x.1))
 (h:∀out:ZF,out.Perm vs->out.Pairwise (λx y=>Nv x<=Nv y)->P (.done (.ret .none)) (s>>>sortedHeap s.heap a vs out.toArray)):
 ↥A (Builtin.«list.sort» %[[.ref a]|[]]) P E s:=by
 rw[list_sort_plain];have L:a<⇑s:=Zv z;have g:vs.length<=sizeLine:=Yh C (by decide);refine Z2 (listItems_at z rfl ?_);refine Z2 (listUpdate_at z rfl ?_ (g));obtain⟨H,t⟩:∃H,(s.heap.update a (Obj.mapSeq λ_=> #[])).get? a=some (seqObj "list" #[] H):=%[_|get?_update_seq z (λ_=> #[])]
 refine Z2 (seqEpoch_at t rfl ?_);refine Z2 (wpAny_newTuple ?_ (g));refine Z2 (wpAny_newList ?_);refine wpAny_holding ?_;have keep:∀b o,b≠a->s.heap.get? b=some o->(((s.heap.update a (Obj.mapSeq λ_=> #[])).push (seqObj "tuple" vs.toArray 0)).push (seqObj "list" #[] 0)).get? b=some o:=λb o O e=>
  Z7 _ (Z7 _ ((get?_update_other _ _ (Ne.symm O)).trans e))
 have d:(((s.heap.update a (Obj.mapSeq λ_=> #[])).push (seqObj "tuple" vs.toArray 0)).push (seqObj "list" #[] 0)).get? a=some (seqObj "list" #[] H):=by
  rw[Heap.get?_push_ne _ _ _ (by rw[size_push',Heap.size_update];exact Zt (Yo L)),Heap.get?_push_ne _ _ _ (by rw[Heap.size_update];exact Zt L)];exact t
 have f:=f _ keep;have G:=G _ keep;show ↥A _ P E {s with heap:=((s.heap.update a (Obj.mapSeq λ_=> #[])).push (seqObj "tuple" vs.toArray 0)).push (seqObj "list" #[] 0)};dsimp only;have I:vs.toArray.size=vs.length:=by simp
 have u:(vs.toArray.zip vs.toArray).toList=vs.map λv=>(v,v):=by
  rw[Array.toList_zip,List.toList_toArray];apply ext_getElem
  .simp
  .intro i h1 l;simp
 have fin:∀c:SortSt,(arrOf c).toList.Perm (vs.map λv=>(v,v))->SBig.Srt (λx=>Nv x.1) (arrOf c).toList->P (.done (.ret .none)) (s>>>(sortedHeap s.heap a vs ((arrOf c).map (·.2)))):=by
  intro c m B;have M:∀x∈(arrOf c).toList,x.1=x.2:=λx p=>by
   have%[v,_|rfl]:=Xq (m.mem_iff.mp p);rfl
  have e:(arrOf c).map (·.2)=((arrOf c).toList.map (·.2)).toArray:=by
   apply Array.ext';simp
  rw[e];refine h _ ?_ ?_
  .have:=m.map (·.2);rwa[Ys,show((λx:Keyed=>x.2) ∘ λv:Value=>(v,v))=id from rfl,map_id]at this
  .rw[Xa];exact Xh (λ{x y} p T q=>by rw[<-M x p,<-M y T];exact q) B
 by_cases l:vs.toArray.size<2
 .rw[if_pos l,if_pos l];refine Z2 (Z3 ?_);rw[StateT.run_pure];refine Z2 (Z3 ?_);dsimp only;refine Z2 (seqEpoch_at d rfl (Z2 (listUpdate_at d rfl ?_ (hsz2:=by rw[size_map];show(pairsOf vs).size<=_;rw[pairsOf_size,sizeLine_eq];lia))));simp only[bne_self_eq_false,Y1,if_false];refine Z3 (fin _ (by rw[u]) ?_);rw[u]
  match vs,I,l with
  |[],_,_=>exact List.Pairwise.nil
  |[v],_,_=>exact List.pairwise_singleton _ _
  | v1::v2::r,h3,U=>simp at U;lia
 .rw[if_neg l,if_neg l];refine Z2 (f ⋯ _ ?_);refine Z2 (wpAny_mono (SBig.sc_sortRuns (D:=λx=>x.1∈vs) (st:=SortSt.mk' kd (vs.toArray.zip vs.toArray) #[] 7 none) G (λx p=>?_) ?_ rfl rfl
   (Q:=λ_ c=>(arrOf c).toList.Perm (vs.map λv=>(v,v))/\failedOf c=none/\SBig.Srt (λx=>Nv x.1) (arrOf c).toList) (λc J Y a3=>%[?_,a3|Y]) _ rfl) ?_ λ_ _ e=>e.elim)
  .rw[u]at p;have%[v,hv|rfl]:=Xq p;exact hv
  .rw[<-Zb,u,Z6]
   lia
  .have J:(arrOf c).toList.Perm (vs.toArray.zip vs.toArray).toList:=J;rwa[u]at J
  .rintro⟨⟨⟩,c⟩ s' ⟨rfl,m,N,B⟩;dsimp only at m N B ⊢;refine Z2 (seqEpoch_at d rfl (Z2 (listUpdate_at d rfl ?_ (hsz2:=?_))))
   .rw[N];simp only[bne_self_eq_false,Y1,if_false];exact Z3 (fin c m B)
   .rw[size_map,<-Zb,m.length_eq,Z6];exact Nat.le_succ_of_le g
end
noncomputable def aV(x y:Str):Bool:=decide (x.cps.toList<y.cps.toList)
noncomputable def dP:ZB->ZB->Bool
 |[],[]=>false
 |[],_::_=>true
 | _::_,[]=>false
 | x::xs,y::ys=>if x=y then dP xs ys else aV x y
theorem fZ(x:Str):aV x x=false:=Zh (List.lt_irrefl _)
theorem FF{x y:Str}(h:x.cps.toList=y.cps.toList):x=y:=by
 obtain⟨⟨l⟩⟩:=x
 simp_all
theorem gW{x y z:Str}(a:aV x y=true)(b:aV y z=true):aV x z=true:=Zf (List.lt_trans (Zo a) (Zo b))
theorem fz{x y:Str}(h:aV x y=false)(a:x≠y):aV y x=true:=by
 exact Zf (Classical.byContradiction λb=>a (FF (List.le_antisymm b (of_decide_eq_false h))))
theorem xg:∀x,dP x x=false
 |[]=>rfl
 | x::xs=>by rw[dP,if_pos rfl];exact xg xs
theorem jw:∀{x y z:ZB},dP x y=true->dP y z=true->dP x z=true
 |[],[],z,b,a=>by cases b
 |[],y::ys,[],b,a=>by cases a
 |[],y::ys,z::zs,b,a=>rfl
 | x::xs,[],z,b,a=>by cases b
 | x::xs,y::ys,[],b,a=>by cases a
 | x::xs,y::ys,z::zs,b,a=>by
   rw[dP]at b a ⊢;by_cases d:x=y
   .rw[if_pos d]at b;subst d;by_cases c:x=z
    .rw[if_pos c]at a ⊢;exact jw b a
    .rw[if_neg c]at a ⊢;exact a
   .rw[if_neg d]at b;by_cases c:y=z
    .rw[if_pos c]at a;subst c;rw[if_neg d];exact b
    .rw[if_neg c]at a;have f:=gW b a;rw[if_neg (λe=>by rw[e,fZ]at f;cases f)];exact f
theorem lR:∀{x y:ZB},dP x y=false->x≠y->dP y x=true
 |[],[],a,c=>absurd rfl c
 |[],y::ys,a,c=>by cases a
 | x::xs,[],a,c=>rfl
 | x::xs,y::ys,a,c=>by
   rw[dP]at a ⊢;by_cases b:x=y
   .rw[if_pos b]at a;rw[if_pos b.symm];exact lR a λe=>c (by rw[b,e])
   .rw[if_neg b]at a;rw[if_neg (Ne.symm b)];exact fz a b
noncomputable def gX(ks:List ZB)(k:ZB):Nat:=ks.countP λu=>dP u k
theorem kQ{ks:List ZB}{x y:ZB}(b:x∈ks):dP x y=decide (gX ks x<gX ks y):=by
 have up:∀(l:List ZB) p q,(∀u∈l,p u=true->q u=true)->l.countP p<=l.countP q:=λl p q h=>List.countP_mono_left h
 cases h:dP x y with
 | true=>
   symm
   refine Zf ?_;have c:∀l:List _,x∈l->l.countP (λu=>dP u x)<l.countP (λu=>dP u y):=by
    intro l
    induction l with
    | nil=>simp
    | cons u l d=>
      intro b;rw[countP_cons,countP_cons];have le:=up l (λu=>dP u x) _ λu _ a=>jw a h
      rcases mem_cons.mp b with e|e
      .subst e;rw[if_neg (by rw[xg];simp),if_pos h]
       lia
      .by_cases a:dP u x=true
       .rw[if_pos a,if_pos (jw a h)]
        lia
       .rw[if_neg a]
        split<;> lia
   exact c ks b
 | false=>
   symm
   refine Zh (Nat.not_lt.mpr (up ks _ _ λu _ a=>?_));by_cases e:x=y
   .exact e▸a
   .exact jw a (lR h e)
section
variable{prog:Program}{w:World}{A:Around}{s:Shared}{E:ZD}
abbrev yS(prog:Program)(w:World)(h:Heap)(zs:ZB)(r:Addr):Prop:=IsTupleKey (aO prog w) h (zs.map Sum.inr) r
theorem gY:∀{zs:ZB} {vs:ZF},ItemsAre (aO prog w) (zs.map Sum.inr) vs->StrsAre vs zs
 |[],_,h=>by cases h;exact .nil
 | z::zs,_,h=>by
   cases h with
   | cons a d=>
     have a:jH (Sum.inr z) _=true:=a;rcases bd a with⟨i,t,b,c⟩|⟨y,t,b,c⟩
     .cases b
     .cases b;subst c;exact .cons z t (gY d)
theorem D0{b fin:Bool}{Q:Bool->Shared->Prop}:∀(x y:ZB) (vs us:ZF) (i:Nat),StrsAre vs x->StrsAre us y->(x.length=y.length)->fin=false->Q (dP x y) s->PySem.W.KatLex prog w A b fin Q (vs.zip us) i s
 |[],[],_,_,i,.nil,.nil,_,a,h=>a▸h
 | x::xs,y::ys,_,_,i,.cons _ t c,.cons _ u d,f,a,h=>by
   rw[List.zip_cons_cons];refine PySem.W.kat_cons (eqBool_str ?_);rw[dP]at h;by_cases e:x=y
   .subst e;rw[if_pos rfl]at h;rw[beq_self_eq_true];exact PySem.W.kat_yes (D0 xs ys _ _ _ c d (by simpa using f) a h)
   .rw[if_neg e]at h;rw[beq_eq_false_iff_ne.mpr e];refine PySem.W.kat_no ?_;cases g:(b&&i==0)with
    | true=>exact oneLt_str h
    | false=>exact PySem.W.kat_one _ _ (lt_str h)
theorem Dc{x y:ZB}{r q:Addr}{Q:Bool->Shared->Prop}{b:Bool}(d:yS prog w s.heap x r)(e:yS prog w s.heap y q)(f:x.length=y.length)(h:Q (dP x y) s):↥A (keyLt' (tuples' b) (.ref r) (.ref q)) Q E s:=by
 have%[o,xs,nx,g,_,i|j]:=d;have%[p,ys,t,l,_,m|n]:=e;have a:=gY j;have c:=gY n;refine PySem.W.kat_lt g i l m (D0 x y _ _ 0 a c f ?_ h);have u:=bE a;have v:=bE c
 simp_all
end
theorem uo [DecidableEq d][DecidableEq i](g:d->i)(j:∀a b,g a=g b->a=b)(l:List (Addr×d)):bg (l.map λp=>(p.1,g p.2))=(bg l).map λp=>(p.1,g p.2):=by
 have m:∀(l ps:List _),(l.map λp=>(p.1,g p.2)).foldl ir (ps.map λp=>(p.1,g p.2))=(l.foldl ir ps).map λp=>(p.1,g p.2):=by
  intro l
  induction l with
  | nil=>intro ps;rfl
  | cons p l n=>
    intro ps;rw[Yr,Y8,Y8];have e:ir (ps.map λp=>(p.1,g p.2)) (p.1,g p.2)=(ir ps p).map λp=>(p.1,g p.2):=by
     unfold ir;have f:(g p.2∈(ps.map λp=>(p.1,g p.2)).map (·.2))↔p.2∈ps.map (·.2):=by
      rw[Ys]
      constructor
      .intro h;have%[q,c|e]:=Xq h;exact Xr %[q,c|j _ _ e]
      .intro h;have%[q,c|e]:=Xq h;exact Xr %[q,c|by show g q.2=g p.2;rw[e]]
     by_cases h:p.2∈ps.map (·.2)
     .rw[if_pos h,if_pos (f.mpr h)]
     .rw[if_neg h,if_neg (λz=>h (f.mp z)),Zd];rfl
    rw[e];exact n _
 exact m l []
noncomputable abbrev GV(p:Addr×ZB):Addr×List Key:=(p.1,p.2.map Sum.inr)
theorem sH:∀a b:ZB,a.map (Sum.inr:Str->Key)=b.map Sum.inr->a=b
 |[],[],_=>rfl
 |[],_::_,h=>by cases h
 | _::_,[],h=>by cases h
 | x::xs,y::ys,h=>by
   injection h with c d
   injection c with e
   rw[e,sH xs ys d]
section
#where
variable{S:Addr}
theorem oC:∀{vs:ZF} {zs:ZB},StrsAre vs zs->ItemsAre (aO prog w) (zs.map Sum.inr) vs
 | _,_,.nil=> .nil
 | _,_,.cons x t h=> .cons (dU x t) (oC h)
theorem Dd(c:zs≠[])(b:yS prog w s.heap zs r)(h:Q false s):↥A (hashByValue 8 (.ref r)) Q E s:=by
 have d:=b.typeIs;have%[o,a,n,e,_,f|hi]:=b;refine Z2 (wpAny_specialOf d F.slot_tuple_hash.lookup (Z2 (wpAny_seqItems e f (Z2 ?_))));rw[<-forIn_toList]
 match zs,a.toList,(gY hi),c with
 | z::zs,_,.cons _ t g,_=>
   exact Z2 (Z2 (Z3 (Z3 (Z3 (Z3 h)))))
noncomputable def kOf(ps:ZG):Value->ZB
 | .ref r=>((ps.find? λp=>p.1==r).map (·.2)).getD []
 | _=>[]
noncomputable def aOf:Value->Addr
 | .ref r=>r
 | _=>0
theorem oE(J:∀(E1:ZD) (R:ZF->Shared->Prop),(∀c vs,vs.Perm (ps.map λp=>Value.ref p.1)->(∀b o,s.heap.get? b=some o->c.heap.get? b=some o)->c.gens=s.gens->c.os=s.os->R vs c)->↥A.in1 (collect (.ref S)) R E1 s)(tk:∀p∈ps,yS prog w s.heap p.2 p.1)(U:∀p∈ps,p.2.length=m)(m0:m≠0)(few:ps.length<=1000)
 (hQ:∀(c s':Shared) (l:Addr) (ss:ZG) (n:Nat),ss.Perm ps->ss.Pairwise (λa b=>dP b.2 a.2=false)->(∀b o,s.heap.get? b=some o->c.heap.get? b=some o)->c.gens=s.gens->c.os=s.os->(∀b o,c.heap.get? b=some o->s'.heap.get? b=some o)->s'.gens=c.gens->s'.os=c.os->⇑c<=l->s'.heap.get? l=some {cls:= .type "list",data:= .seq (ss.map λp=>Value.ref p.1).toArray n}->Q (.ref l) s'):
 ↥A (call (.builtin "sorted") [.ref S]) Q E s:=by
 have j:∀p∈ps,kOf ps (.ref p.1)=p.2:=λp d=>by
  show((ps.find? λq=>q.1==p.1).map (·.2)).getD []=p.2;cases r:ps.find? λq=>q.1==p.1 with
  | none=>
    have:=List.find?_eq_none.mp r p d;simp at this
  | some q=>
    have B:=List.mem_of_find?_eq_some r;have e:q.1=p.1:=by have:=List.find?_some r;simpa using this
    show q.2=p.2;have t1:=tk q B;rw[e]at t1;exact sH _ _ (t1.inj (tk p d))
 refine Calls.call_function_entry kind_sorted plain_sorted entry_sorted (args_sorted1 _) ?_;unfold Builtin.«sorted»;refine Z2 (m:=checkCount "sorted" 1 1 _) (Z3 ?_);refine Z2 (J _ _ λc vs Y k1 g1 o1=>?_);have hl:vs.length=ps.length:=by rw[Y.length_eq,Z6]
 have mem:∀v∈vs,∃p∈ps,v=Value.ref p.1:=λv C=>by
  have%[p,d|rfl]:=Xq (Y.mem_iff.mp C);exact%[p,d|rfl]
 refine Z2 (wpAny_newList ?_ (by rw[sizeLine_eq];lia));have gL:(c.heap.push (seqObj "list" vs.toArray 0)).get? ⇑c=some (seqObj "list" vs.toArray 0):=Zj _ rfl;have G:∀p∈ps,∀i:Heap,(∀b o,b≠⇑c->(c.heap.push (seqObj "list" vs.toArray 0)).get? b=some o->i.get? b=some o)->yS prog w i p.2 p.1:=λp d i I=>by
  refine nC (tk p d) λo e=>?_
  have L:=k1 _ _ e;exact I _ _ (Zt (Zv L)) (Z7 _ L)
 refine Z2 (wpAny_holding (wpAny_call_entry slot_list_sort %[_,gL|rfl] entry_list_sort (jM (s:=(c>>>c.heap.push (seqObj "list" vs.toArray 0))) (kd:=tuples' true) (Nv:=λv=>gX (ps.map (·.2)) (kOf ps v)) gL ⋯ (λi I aj Q6 ab=>?_) (λi I=>?_) λout p1 p2=>%[_,rfl|?_]) (args_list_sort _)))
 .have tups:∀l:ZF,(∀v∈l,∃p∈ps,v=Value.ref p.1)->∃fs:ZF,KatTups i l fs/\fs.length=l.length/\∀f∈fs,∃z t,f=Value.str z t:=by
   intro l
   induction l with
   | nil=>intro _;exact%[[],KatTups.nil,rfl|λf r=>by cases r]
   | cons v l ih=>
     intro C;have%[fs,f1,f2|f3]:=ih λu hu=>C u (Zk _ hu)
     have%[p,d|rfl]:=C v Zm;have%[o',g,n',g',c',d'|i']:=G p d i I;have h:=gY i';have ac:p.2≠[]:=λe=>by have:=U p d;rw[e]at this;exact m0 this.symm
     obtain⟨z,zs,ez⟩:∃z zs,p.2=z::zs:=by
      cases ae:p.2 with
      | nil=>exact absurd ae ac
      | cons z zs=>exact%[z,zs|rfl]
     rw[ez]at h;obtain⟨t',vr,ev⟩:∃t' vr,g.toList=Value.str z t'::vr:=by
      cases M:g.toList with
      | nil=>rw[M]at h;cases h
      | cons a b=>
        rw[M]at h;cases h with
        | cons _ t' _=>exact%[t',b|rfl]
     have e0:g[0]? =some (Value.str z t'):=by
      have:g.toList[0]? =some (Value.str z t'):=by rw[ev];rfl
      simpa using this
     exact⟨Value.str z t'::fs,KatTups.cons g' c' d' e0 f1,by simp[f2],λf r=>by
      rcases mem_cons.mp r with e|e
      .exact%[z,t'|e]
      .exact f3 f e⟩
  have%[fs,f1,f2|f3]:=tups vs mem;refine PySem.W.kat_kind (T:= .type "str") f1 ⋯ (λf r=>?_) (by decide) ab;have%[z,t'|rfl]:=f3 f r;exact Looks.of_pure rfl
 .intro x y s' hx hy h;subst h;have%[p,d|ag]:=mem _ hx;have%[q,B|ai]:=mem _ hy;have%[x1|x2]:=x;have%[y1|y2]:=y;obtain rfl:x1=Value.ref p.1:=ag;obtain rfl:y1=Value.ref q.1:=ai;show ↥A.in1.in1 (keyLt' (tuples' true) (Value.ref p.1) (Value.ref q.1)) (λb s'=>b=decide (gX (ps.map (·.2)) (kOf ps (Value.ref p.1))<gX (ps.map (·.2)) (kOf ps (Value.ref q.1)))/\s'=(c>>>i)) (λ_ _=>False) (c>>>i);rw[j p d,j q B];refine Dc (s:=(c>>>i)) (G p d i I) (G q B i I) (by rw[U p d,U q B]) %[?_|rfl];exact kQ (Xr %[p,d|rfl])
 .have O:out.Perm (ps.map λp=>Value.ref p.1):=p1.trans Y;have oe:out=(out.map λv=>(aOf v,kOf ps v)).map λp=>Value.ref p.1:=by
   rw[Ys];refine(map_id out).symm.trans (Yq λv C=>?_);have%[p,d|rfl]:=Xq (O.mem_iff.mp C);rfl
  obtain⟨n,gl⟩:∃n,(sortedHeap (c.heap.push (seqObj "list" vs.toArray 0)) ⇑c vs out.toArray).get? ⇑c=some (seqObj "list" out.toArray n):=sortedHeap_at gL;refine Z3 %[_,rfl|hQ c _ ⇑c (out.map λv=>(aOf v,kOf ps v)) n ?_ ?_ k1 g1 o1 (λb o' L=>?_) rfl rfl (Zi _) ?_]
  .have:=O.map λv=>(aOf v,kOf ps v)
   rw[Ys]at this;refine this.trans ?_;have:(ps.map ((λv=>(aOf v,kOf ps v)) ∘ λp=>Value.ref p.1))=ps:=by
    refine(Yq λp d=>?_).trans (map_id ps);show(p.1,kOf ps (.ref p.1))=p;rw[j p d]
   rw[this]
  .rw[Xa];refine Xh (λ{u v} hu C H=>?_) p2;have%[p,d|rfl]:=Xq (O.mem_iff.mp hu);have%[q,B|rfl]:=Xq (O.mem_iff.mp C);show dP (kOf ps (.ref q.1)) (kOf ps (.ref p.1))=false;have H:gX (ps.map (·.2)) (kOf ps (.ref p.1))<=gX (ps.map (·.2)) (kOf ps (.ref q.1)):=H;rw[j p d,j q B]at H ⊢;rw[kQ (ks:=ps.map (·.2)) (Xr %[q,B|rfl])];exact Zh ⋯
  .have N:=Zv L;show(sortedHeap _ _ _ _).get? b=_;rw[sortedHeap_old (Zt N) (by rw[Zq];exact Yo N)];exact Z7 _ L
  .have e3:(seqObj "list" out.toArray n)=({cls:= .type "list",data:= .seq ((out.map λv=>(aOf v,kOf ps v)).map λp=>Value.ref p.1).toArray n}:Obj):=by
    rw[(congrArg List.toArray oe.symm)]
   exact gl.trans (congrArg some e3)
end
section
variable{X:Cx}{K:ZA}
noncomputable def oF(P:Program)(w:World)(a:Addr)(ps:ZG):HO:= .ext (oB w (aO P w) a (ps.map GV))
def ba(H:Hp)(ps:ZG):Prop:=∀p∈ps,p.2≠[]/\H p.1=some (.tup (p.2.map V.str))
theorem sI(I:Inv X pins f H s)(h:ba H ps):∀p∈ps,yS X.prog X.w s.heap p.2 p.1:=λp a=>by
 have%[_,its,b,o,c,d,n|e]:=I.hok p.1 _ (h p a).2;exact%[o,its.toArray,n,c,d,e|oC (ic b)]
theorem sJ:∀{ps:ZG} {us:ZF},aI (ps.map λp=>V.ref p.1) us->us=ps.map λp=>Value.ref p.1
 |[],_,.nil=>rfl
 | _::_,_,.cons r t=>by
   cases r;rw[sJ t];rfl
theorem sK:∀(ps:ZG),aI (ps.map λp=>V.ref p.1) (ps.map λp=>Value.ref p.1)
 |[]=> .nil
 | _::ps=> .cons rfl (sK ps)
theorem yT(j:X.calm=true)(C:X.A.units+64<cLine):cA X (.type "set") (λxs H Q=>∃p ps,xs=[.ref p]/\SqL X.K H p (ps.map λq=>V.ref q.1)/\ba H ps/\(∃U:List _,U.length<=999/\∀q∈ps,q.2∈U)/\∀l,H l=none->Q (.ref l) (upd H l (oF X.prog X.w l (bg ps)))):=by
 intro pins s E H xs us Q I r h;have%[p,ps,rfl,m,g,%[U,G|d]|q]:=h;have%[u,rfl|n]:=dE r;cases n;have%[its,t,pl|J]:=I.list m;have v:=sJ t;refine pZ (knd:=aO X.prog X.w) (I.ok.hd j) ⋯ pl.isList (ps:=ps.map GV) (by simp_all) (λi a=>?_) (U.map λz=>z.map Sum.inr) (by simp_all) (λi a=>?_) (λi a B s' L M e f=>?_) λh' w S k=>?_
 .have%[b,c|rfl]:=Xq a;exact(sI I g) b c
 .have%[b,c|rfl]:=Xq a;exact Xr %[b.2,d b c|rfl]
 .have%[b,c|rfl]:=Xq a;exact Dd (g b c).1 e f
 .rw[(uo _ sH ps)]at S;refine%[.ref ⇑s,_,I.laid (o:=oF X.prog X.w ⇑s _) k (Zi _) %[S,?_|λN O y k1=>oB.keep y k1],rfl|q _ I.fresh];have%[o,_,_,_,A|_]:=S;exact%[o|A]
theorem sL(v:X.calm=true):cA X (.builtin "sorted") (λxs H Q=>∃a ps m,xs=[.ref a]/\H a=some (oF X.prog X.w a ps)/\ba H ps/\(∀p∈ps,p.2.length=m)/\m≠0/\ps.length<=1000/\
 ∀l (ss:List _),H l=none->ss.Perm ps->ss.Pairwise (λa b=>dP b.2 a.2=false)->Q (.ref l) (upd H l (.lst (ss.map λp=>V.ref p.1)))):=by
 intro pins s O H xs us Q I r h;have%[a,ps,m,rfl,w,y,z,A,few|q]:=h;have%[u,rfl|B]:=dE r;cases B;have%[%[o,d,T,t,C,e,E,J|P],_|_]:=(I.hok a _ w)
 have U:d.size=ps.length:=by
  have:=P.length_eq
  simp_all
 have pv:(d.toList.map (·.2)).Perm (ps.map λp=>Value.ref p.1):=by
  have:=P.map (·.2);rw[Ys,Ys]at this;exact this
 refine oE (λY R G=>kE (I.ok.hd v) C e E (by show d.size<4096;lia) J.fits J.plain J.led λi vs L k1 g1 f _=>G i vs (L.trans pv) k1 g1 f) (sI I y) z A few λi s' l ss n j M k1 g1 f k g o c N=>?_
 have I:=I.keptS k1 g1 f;refine%[.ref l,_,I.stoodS (o:= .lst _) (I.keptS k g o) c %[?_,ss.map _,n,sK ss|N],rfl|q l ss (I.hok.fresh c) j M];rw[Z6,j.length_eq,sizeLine_eq]
 lia
theorem Bk{P:Program}(h:X.K=K)(c:X.prog=P)(hw:X.w=w)(a:X.calm=true)(b:cn k X.A):cU X (.type "set") (λxs H Q=>∃p ps,xs=[.ref p]/\SqL K H p (ps.map λq=>V.ref q.1)/\ba H ps/\(∃U:List ZB,U.length<=999/\∀q∈ps,q.2∈U)/\∀l,H l=none->Q (.ref l) (upd H l (oF P w l (bg ps)))):=by
 subst h;subst hw;exact⟨yT a b.units⟩
theorem qU{P:Program}(d:X.prog=P)(hw:X.w=w)(c:X.calm=true):cU X (.builtin "sorted") (λxs H Q=>∃a ps m,xs=[.ref a]/\H a=some (oF P w a ps)/\ba H ps/\(∀p∈ps,p.2.length=m)/\m≠0/\ps.length<=1000/\
 ∀(l:Addr) (ss:ZG),H l=none->ss.Perm ps->ss.Pairwise (λa b=>dP b.2 a.2=false)->Q (.ref l) (upd H l (.lst (ss.map λp=>V.ref p.1)))):=by
 subst hw;exact⟨sL c⟩
end
noncomputable def yU(K:ZA)(a b:Addr):It:=⟨λi H=>∃xs ys x y,SqL K H a xs/\SqL K H b ys/\xs[i]? =some x/\ys[i]? =some y,
 λi H v c=>∃T x y,H T=none/\v= .ref T/\c=upd H T (.tup [x,y])/\(∀xs,SqL K H a xs->xs[i]? =some x)/\(∀ys,SqL K H b ys->ys[i]? =some y),
 λi H=>∃xs ys,SqL K H a xs/\SqL K H b ys/\i<=xs.length/\i<=ys.length/\(i=xs.length\/i=ys.length)⟩
theorem yV{P:Program}{K:ZA}(z TI TO i1 i2 l1 l2:Addr)(D:ZipApart z TI TO i1 i2 l1 l2):
 nL P w K (.Tuple elts kt tp) (yU K l1 l2) [z,TI,TO,i1,i2] z (ZSt z TI TO i1 i2 (λi h=>h.IsListIter i1 l1 i) (λi h=>h.IsListIter i2 l2 i)) where
 mem:=by simp
 obj:=λi h st b hb=>by
  have%[hz,hTI,%[a,c|hTO],%[o1,e1,_|d1],o2,e2,_|d2]:=st
  grind
 keep:=λi h h' st k=>by
  have%[hz,hTI,%[a,c|hTO],%[o1,e1|r1],o2,e2|r2]:=st;exact%[k z ∅ _ hz,k TI ∅ _ hTI,%[a,c|k TO ∅ _ hTO],%[o1,k i1 ∅ _ e1|r1],o2,k i2 ∅ _ e2|r2]
 item:=by
  intro X hP hw hK hc i pins s σ H E I hf st hg;subst hP hw hK;have%[hz,hTI,%[a,c|hTO],h1|h2]:=st;have%[xs,ys,x,y,hq1,hq2,hx|hy]:=hg;have%[its1,rv1,pl1|hz1]:=I.list hq1;have%[its2,rv2,pl2|hz2]:=I.list hq2;have%[u1,hu1|ru1]:=rv1.get hx;have%[u2,hu2|ru2]:=rv2.get hy;refine wpAny_pyNext_zip_item D hz hTI hTO h1 h2 pl1.isList pl2.isList (x:=u1) (y:=u2) (by simpa using hu1) (by simpa using hu2) λh' a1 a2 a3 a4 a5 a6 hk=>%[_,rfl|wpAny_letOwnedTupleGo_zip (s:=(s>>>h')) a1 λh'' hz'' sb=>?_]
  replace sb:SameBut z h' h'':=sb;have turn1:Inv X pins σ H (s>>>h''):=by
   have nit:∀b v,H b=some v->b∉[z,TI,TO,i1,i2]:=λb v e hb=>by rw[(hf b hb).1]at e;cases e
   have kk:∀b o,b∉[z,TI,TO,i1,i2]->s.heap.get? b=some o->h''.get? b=some o:=λb o hb e=>by
    simp only[Yw,X8,or_false,not_or]at hb;exact(sb.2 b hb.1).trans (hk b o hb.1 hb.2.2.1 hb.2.2.2.1 hb.2.2.2.2 e)
   refine I.step (g':=s.gens) (d':=s.drawn) (ch:=[z,TI,TO,i1,i2]) (λb hb=>%[(hf b hb).2.2.2.1,(hf b hb).2.1,(hf b hb).2.2.2.2.1|(hf b hb).2.2.2.2.2]) (λb o _ _ hc e _=>kk b o hc e) (λb o _ _ hc e _=>%[o.slots|kk b o hc e]) (λ_ _ _ _ n=>n)
    (λb o hc e=>%[o|kk b o hc e]) (λ_ _ e=>e) (λ_ _ _ e=>e) (λb ps e=>%[#[]|by rw[e];simp]) (λm hm=>?_) (λb v e=>?_) I.bare
   .have%[o,es,ep,ho|r]:=hm;exact%[o,es,ep,kk _ o (λhb=>(hf _ hb).2.1 rfl) ho|r]
   .refine(I.hok b v e).stay (λc' v' hc' q=>kk c' v' ?_ q) (λ_ q=>q) λ_ _ q=>q
    rcases hc' with q'|q'
    .exact q'▸nit b v e
    .exact nit c' _ q'
  have Hn:H ⇑s=none:=I.fresh;have I2:Inv X pins σ (upd H ⇑s (.tup [x,y])) (s>>>h''):=by
   have nf:⇑s∉X.fs:=I.nofs (Zi _);refine%[turn1.ok,turn1.os,turn1.bare,?_,turn1.loc,turn1.cell,?_,?_,?_,?_|turn1.len]
   .refine%[turn1.base.keep,turn1.base.slot,λb o e n hx=>?_,turn1.base.there,λb xs e=>?_,λb o v e=>?_|λb ps e=>?_]
    .rw[ao ((λb o e=>Zt (Zg (Zv e) I.sz)) b o e)];exact turn1.base.free b o e n hx
    .rw[ao (ay (turn1.base.tups b xs e) Hn)];exact turn1.base.tups b xs e
    .rw[ao (ay (turn1.base.frzs b o v e) Hn)];exact turn1.base.frzs b o v e
    .have%[m|q]:=turn1.base.tbls b ps e;exact%[m|(ao (ay q Hn))▸q]
   .rw[ao (Zt I.lt)];exact turn1.free
   .intro x' c' e;have%[v'|q]:=I.cell x' c' e;rw[ao (Zt q.lt)];exact turn1.freeC x' c' e
   .intro p hp;have%[e,n|r]:=turn1.pin p hp;refine%[e,?_|r];rw[ao (Zt (Zv (I.pin p hp).1))];exact n
   .intro b v e;by_cases hb:b=⇑s
    .subst hb;rw[aa]at e;cases e;exact%[by show 2<=sizeLine;decide,[u1,u2],.cons ru1 (.cons ru2 .nil),_,((sb.2 _ (X2 (Zv hz))).trans a5),rfl,_|rfl]
    .rw[ao hb]at e;refine(turn1.hok b v e).stay (λ_ _ _ q=>q) (λc' q=>?_) λc' xs q=>?_
     .rw[ao (ay q Hn)];exact q
     .rw[ao (ay q Hn)];exact q
  refine%[.ref ⇑s,_,I2,rfl,%[_,x,y,Hn,rfl,rfl,λzs hzs=>(I.list_inj hzs hq1)▸hx|λzs hzs=>(I.list_inj hzs hq2)▸hy],%[hz'',(sb.2 _ D.TIz).trans (hk _ _ D.TIz D.TITO D.TIi1 D.TIi2 hTI),%[_,_|(sb.2 _ D.TOz).trans a2],?_|?_]|λb hb=>?_]
  .have%[o,e|r]:=a3;exact%[o,(sb.2 _ D.i1z).trans e|r]
  .have%[o,e|r]:=a4;exact%[o,(sb.2 _ D.i2z).trans e|r]
  .have:b<⇑s:=by
    simp only[Yw,X8,or_false]at hb;have%[o1,q1|_]:=h1;have%[o2,q2|_]:=h2;rcases hb with rfl|rfl|rfl|rfl|rfl
    .exact Zv hz
    .exact Zv hTI
    .exact Zv hTO
    .exact Zv q1
    .exact Zv q2
   rw[ao (Zt this)];exact(hf b hb).1
 done:=by
  intro X hP hw hK hc i pins s σ H E I hf st hg;subst hP hw hK;have%[hz,hTI,%[a,c|hTO],h1|h2]:=st;have%[xs,ys,hq1,hq2,g1,g2|g3]:=hg;have%[its1,rv1,pl1|hz1]:=I.list hq1;have%[its2,rv2,pl2|hz2]:=I.list hq2;have n1:=rv1.length;have n2:=rv2.length;refine wpAny_pyNext_zip_end (I.ok.hd hc) D hz hTI hTO h1 h2 pl1.isList pl2.isList (by
   rcases g3 with q|q
   .exact .inl (by simp;lia)
   .exact .inr (by simp;lia)) λh' hk=>%[rfl|?_]
  have nit:∀b v,H b=some v->b∉[z,TI,TO,i1,i2]:=λb v e hb=>by rw[(hf b hb).1]at e;cases e
  have kk:∀b o,b∉[z,TI,TO,i1,i2]->s.heap.get? b=some o->h'.get? b=some o:=λb o hb e=>by
   simp only[Yw,X8,or_false,not_or]at hb;exact hk b o hb.1 hb.2.2.1 hb.2.2.2.1 hb.2.2.2.2 e
  refine I.step (λb hb=>%[(hf b hb).2.2.2.1,(hf b hb).2.1,(hf b hb).2.2.2.2.1|(hf b hb).2.2.2.2.2]) (λb o _ _ hc e _=>kk b o hc e) (λb o _ _ hc e _=>%[o.slots|kk b o hc e]) (λ_ _ _ _ n=>n)
   (λb o hc e=>%[o|kk b o hc e]) (λ_ _ e=>e) (λ_ _ _ e=>e) (λb ps e=>%[#[]|by rw[e];simp]) (λm hm=>?_) (λb v e=>?_) I.bare
  .have%[o',es,ep,ho'|r]:=hm;exact%[o',es,ep,kk _ o' (λhb=>(hf _ hb).2.1 rfl) ho'|r]
  .refine(I.hok b v e).stay (λc' v' hc' q=>kk c' v' ?_ q) (λ_ q=>q) λ_ _ q=>q
   rcases hc' with q'|q'
   .exact q'▸nit b v e
   .exact nit c' _ q'
 self:=λ_ _ _ _ _ st h=>wpAny_pyIter_zip st.1 h
def Ea(K:ZA)(d:TA):TI:=λe H R=>d e H λvs c=>∃a b,vs=[.ref a,.ref b]/\(∃xs,SqL K c a xs)/\(∃ys,SqL K c b ys)/\R (yU K a b) c
section
variable{X:Cx}{K:ZA}{pos:Pos}
theorem GW(G:X.K=K){J p:Pos}{a b:Expr}{z:TA}(L:Gl X "zip")(M:X.mg "zip"=none)(N:bj a=false)(m:bj b=false)(O:QA X [a,b] z):
 QI X (.Tuple A kt J) (.Call (.Name "zip" p) [a,b] [] pos) (Ea K z):=by
 subst G
 constructor
 intro pins s Q H R I h;refine Call_ (jQ I L M boot_zip (PyProof.Rows.callWith_type1 (thP (O.h pos pins s Q H _ I h) λus c vs T d U Y=>?_) (aF N) (by rw[aF m];rfl)));have%[n,r,e,%[xs|t],%[ys|u]|q]:=Y;subst e;have%[u1,u2,rfl,e1|e2]:=kh U;cases e1;cases e2;have%[B,ab,f|ac]:=d.list t;have%[its2,ae,g|ag]:=d.list u;refine call_zip_2 f.isList g.isList λh1 C v w hi1 hi2 _ hk=>wpAny_pyIter_zip C ?_
 have ne:∀i j,i≠j->⇑c+i≠⇑c+j:=λi j h e=>h (Nat.add_left_cancel e)
 have na:∀i,n≠⇑c+i:=λi=>Zt (Zg (by have%[o,y|_]:=f.isList;exact Zv y) (le_add_right _ _))
 have nb:∀i,r≠⇑c+i:=λi=>Zt (Zg (by have%[o,y|_]:=g.isList;exact Zv y) (le_add_right _ _))
 refine%[⇑c+4,[⇑c+4,⇑c+2,⇑c+3,⇑c+0,⇑c+1],_,yU X.K n r,T,rfl,(d.kept hk),
  yV _ _ _ _ _ n r %[ne 2 4 (by decide),ne 3 4 (by decide),ne 0 4 (by decide),ne 1 4 (by decide),ne 2 3 (by decide),ne 2 0 (by decide),ne 2 1 (by decide),ne 3 0 (by decide),ne 3 1 (by decide),ne 0 1 (by decide),na 4,na 3,na 0,na 1,nb 4,nb 3,nb 0|nb 1],
  %[C,v,%[_,_|w],hi1|hi2],λb E=>?_|q]
 have l:⇑c<=b:=by
  simp only[Yw,X8,or_false]at E;rcases E with rfl|rfl|rfl|rfl|rfl<;> exact le_add_right _ _
 exact d.fpOk l (d.hok.fresh l)
end
open PySem PySem.Spec PySem.Calls PyProof.Rows PyProof.V PySem.W
section
#where
variable{d it:Addr}{es:Array DictEntry}{ep i:Nat}
end
section
#where
variable{S:Addr}
end
section
variable{X:Cx}{K:ZA}
end
section
variable{X:Cx}
theorem f6(c:cn k X.A)(d:swapsWith a (some (.Subscript o i b)) pos.line X.env=pure false)(e:QE X a f)(g:QE X o h)(hi:QE X i ty):QS X (.Assign [.Subscript o i b] a pos) (mI h ty f):=
 ⟨CL (by have:=c.units;lia) g.h hi.h e.h d⟩
theorem yX [DecidableEq c](a:List (c×V))(k:c)(v:V):(cW a k v).map (·.1)=if k∈a.map (·.1)then a.map (·.1)else a.map (·.1) ++[k]:=by
 unfold cW;have e:(a.any λb=>decide (b.1=k))=true↔k∈a.map (·.1):=by
  grind
 by_cases h:k∈a.map (·.1)
 .rw[if_pos (e.mpr h),if_pos h,Ys];refine Yq λb _=>?_
  show(if b.1=k then(b.1,v)else b).1=b.1
  split<;> rfl
 .rw[if_neg (λz=>h (e.mp z)),if_neg h,Zd];rfl
end
structure uq (K:ZA) (mg:ZC) (x:Str):Prop where
 at_:mg x=some (.ref (cL mg x))
 cls:Cls K (cL mg x)
structure ur (K:ZA) (mg:ZC) (x m qual:Str) (st:Stmt) (ps:ZB):Prop where
 ex:∃f fd,Cr K (cL mg x) m f/\Fun K m qual st f fd/\fT K fd ps []
structure Bl (K:ZA) (mg:ZC) (x qual:Str) (st:Stmt) (ps:ZB):Prop where
 ex:∃f fd,Mk K (cL mg x) f/\Fun K "__init__" qual st f fd/\fT K fd ps []
structure yY (P:Program) (w:World) (K:ZA) (mg:ZC) (base:Heap) (k:Nat) (x m:Str) (ps:ZB) (sp:Sp):Prop where
 ex:∃f fd,eW P w K mg base CX0 k f fd ps sp/\Cr K (cL mg x) m f/\fT K fd ps []
structure De (P:Program) (w:World) (K:ZA) (mg:ZC) (base:Heap) (k:Nat) (x:Str) (ps:ZB) (sp:Sp):Prop where
 ex:∃f fd,eW P w K mg base CX0 k f fd ps sp/\Mk K (cL mg x) f/\fT K fd ps []
section
variable{P:Program}{w:World}{K:ZA}{mg:ZC}{base:Heap}{x m qual:Str}{st:Stmt}{N ps:ZB}{k:Nat}{sp:Sp}
theorem ur.cal(D:ur K mg x m qual st ps)(S:aw N ps (am st))
 (a:∀(H:Hp) (vs:List V) (Q:VK) (E:XK),sp vs H Q E->vs.length=ps.length/\∀(f:Addr) (b:Value) (A:Around) (outer:List Env) (s:Shared),cn k (A.deeper (envOfC qual (am st) ⇑s f b))->
  ∃t,PSs (rN CX0 P w K mg base N qual (am st) f b A outer s H E).nox (bK st) t/\t {nx:=λ_ c=>Q .non c,rt:=Q} (start N vs) H):yY P w K mg base (k+1) x m ps sp:=by
 have%[f,d,e,F|g]:=D.ex;exact%[f,d,F.ok S (λv H Q E h=>(a H v Q E h).1) (λb A o s H v Q E r h=>(a H v Q E h).2 f b A o s r),e|g]
theorem Bl.cal(D:Bl K mg x qual st ps)(S:aw N ps (am st))
 (a:∀(H:Hp) (vs:List V) (Q:VK) (E:XK),sp vs H Q E->vs.length=ps.length/\∀(f:Addr) (b:Value) (A:Around) (outer:List Env) (s:Shared),cn k (A.deeper (envOfC qual (am st) ⇑s f b))->
  ∃t,PSs (rN CX0 P w K mg base N qual (am st) f b A outer s H E).nox (bK st) t/\t {nx:=λ_ c=>Q .non c,rt:=Q} (start N vs) H):De P w K mg base (k+1) x ps sp:=by
 have%[f,d,e,F|g]:=D.ex;exact%[f,d,F.ok S (λv H Q E h=>(a H v Q E h).1) (λb A o s H v Q E r h=>(a H v Q E h).2 f b A o s r),e|g]
end
section
variable{X:Cx}{K:ZA}{j k:Nat}{x m:Str}{ps:ZB}{sp:Sp}{p pos apos:Pos}{o e:Expr}{es:List Expr}{to te:TE}{t:TA}
theorem FG(C:yY X.prog X.w X.K X.mg X.base j x m ps sp)(c:uq X.K X.mg x)(d:cn k X.A)(a:Nat.ble j k=true)
 (g:eval (.Call (.Attribute o m apos) [] [] pos) X.env=(do
  let b<-eval o X.env
  standAt apos.atName
  let(f,first)<-holding [b] (getMethod b m pl)
  callWith pos f first (backTo pos (starEach [] X.env)) (backToKw pos (keywordEach [] X.env)))) (h:QE X o to):QE X (.Call (.Attribute o m apos) [] [] pos) (wN (cL X.mg x) m sp [] E0 to ye):=by
 have%[f,n,F,i|l]:=C.ex;exact⟨Ar h.h c.cls i F (d.mono (Nat.le_of_ble_eq_true a)) l .nil AG g⟩
theorem GX(C:De X.prog X.w X.K X.mg X.base j x ps sp)(c:uq X.K X.mg x)(g:cn k X.A)(h:Gl X x)(a:Nat.ble (j+1) k=true)(b:(x==("__debug__"))=false)(d:(e::es).any bj=false)(i:QA X (e::es) t):
 QE X (.Call (.Name x p) (e::es) [] pos) (wO (cL X.mg x) sp [] E0 t):=by
 have%[f,q,F,l|n]:=C.ex;rw[Zy,X9]at d;exact⟨Cv l F (g.mono (Nat.le_of_ble_eq_true a)) h c.at_ n .nil AG i.h b (aF d.1) (ig d.2)⟩
theorem FH(h:X.K=K)(a:ik o=false)(b:QE X o to):QE X (.Attribute o f pos) (EK K to f):=by
 subst h;exact⟨EN b.h (fX a)⟩
theorem Df(h:X.K=K)(c:ii a=false)(d:QE X o to)(g:QE X a i):QS X (.Assign [.Attribute o f b] a pos) (EM K to i f):=by
 subst h;exact⟨EO d.h g.h (kz c)⟩
end
structure GvT (K:ZA) (mg:ZC) (x:Str) (xs:List V):Prop where
 ex:∃a,mg x=some (.ref a)/\∀H,SqT K H a xs
theorem Bm{K:ZA}{h:Heap}{o:Obj}{its:ZJ}{n:Nat}(X:K.In h)(G:h.Ns mainGlobals mg)(z:nsIn K mainGlobals x=some (some (.ref a)))
 (b:K.lookup a=some o) (c:o.cls= .type "tuple") (d:o.data= .seq its n) (e:its.size<=sizeLine) (r:aI xs its.toList):GvT K mg x xs:=
 %[a,mg_of X G z|λ_=> .inr %[o,its,n,b,c,d,e|r]]
theorem GY{X:Cx}{K:ZA}{x:Str}(h:X.K=K)(g:GvT K X.mg x xs)(b:Gl X x)(c:(x==("__debug__":Str))=false):QE X (.Name x pos) (λ_ H Q=>∀a,(∀d,SqT K d a xs)->Q (.ref a) H):=by
 have%[a,e|f]:=g.ex;refine⟨λpins s i H Q I q=>DQ (v:= .ref a) %[.ref a,e|rfl] b c pins s i H Q I (q a f)⟩
theorem tryN{X:Cx}(c:∀e s,X.xe e s->False)(d:QSs X a g):QS X (.Try a [h] [] [] pos) g:=by
 refine⟨λpins s i H D I q=>wpAny_Try_except (wpAny_mono (d.h pins s i H D I q) (λf b q=>?_) λe b q=>(c e b q).elim)⟩;cases f with
 | next=>exact wpAny_execs_nil q
 | brk=>exact q
 | cont=>exact q
 | ret u=>exact q
section
variable{X:Cx}{K:ZA}
end
theorem oG(x y:Str):dP [x] [y]=aV x y:=by
 show(if x=y then false else aV x y)=aV x y
 split
 .rename_i e;rw[e,fZ]
 .rfl
section
#where
variable{S:Addr}
theorem mR{ks:ZB}{Q:ZD}(h:∀(T:ZD) (R:ZF->Shared->Prop),(∀c us f,StrsAre us f->f.Perm ks->(∀b o,s.heap.get? b=some o->c.heap.get? b=some o)->c.gens=s.gens->c.os=s.os->R us c)->↥A.in1 (collect (.ref S)) R T s)(few:ks.length<=1000)
 (U:∀(c s':Shared) (l:Addr) (vs:ZF) (ss:ZB) (n:Nat),StrsAre vs ss->ss.Perm ks->ss.Pairwise (λa b=>aV b a=false)->(∀b o,s.heap.get? b=some o->c.heap.get? b=some o)->c.gens=s.gens->c.os=s.os->(∀b o,c.heap.get? b=some o->s'.heap.get? b=some o)->s'.gens=c.gens->s'.os=c.os->⇑c<=l->s'.heap.get? l=some {cls:= .type "list",data:= .seq vs.toArray n}->Q (.ref l) s'):
 ↥A (call (.builtin "sorted") [.ref S]) Q E s:=by
 refine Calls.call_function_entry kind_sorted plain_sorted entry_sorted (args_sorted1 _) ?_;unfold Builtin.«sorted»;refine Z2 (m:=checkCount "sorted" 1 1 _) (Z3 ?_);refine Z2 (h _ _ λc us f d q k1 g1 Y=>?_);have few:us.length<=1000:=by rw[bE d,q.length_eq];exact few
 refine Z2 (wpAny_newList ?_ (by rw[sizeLine_eq];omega));have G:(c.heap.push (seqObj "list" us.toArray 0)).get? ⇑c=some (seqObj "list" us.toArray 0):=Zj _ rfl;have e:∀v∈us,∃x t,v=Value.str x t/\[x]∈ks.map λz=>[z]:=λv g=>by
  have%[x,t|rfl]:=d.all v g;refine%[x,t,rfl|Xr %[x,q.mem_iff.mp ?_|rfl]];rw[<-d.strs];exact Xr %[_,g|rfl]
 refine Z2 (wpAny_holding (wpAny_call_entry slot_list_sort %[_,G|rfl] entry_list_sort (jM (s:=(c>>>c.heap.push (seqObj "list" us.toArray 0))) (kd:=oneType') (Nv:=λv=>gX (ks.map λz=>[z]) [strOf v]) G (by omega) (λH k6 I Q6 J=>?_) (λH k6=>?_) λout B p2=>%[_,rfl|?_]) (args_list_sort _)))
 .obtain⟨v1,C,r,rfl⟩:∃v1 C r,us=v1::C::r:=by
   match us,I with
   | v1::C::r,_=>exact%[v1,C,r|rfl]
  rw[keyKind_strs d];exact Z3 J
 .intro x y s' hx hy L;subst L;have%[x1|x2]:=x;have%[y1|y2]:=y;have%[a,t,rfl|M]:=e _ hx;have%[b,u,rfl|N]:=e _ hy;show ↥A.in1.in1 (keyLt' oneType' (.str a t) (.str b u)) (λr s'=>r=decide (gX (ks.map λz=>[z]) [a]<gX (ks.map λz=>[z]) [b])/\s'=(c>>>H)) (λ_ _=>False) (c>>>H);rw[keyLt'_oneType];refine oneLt_str %[?_|rfl];rw[<-kQ M,oG];rfl
 .have i:∀v∈out,∃x t,v=Value.str x t:=λv g=>d.all v (B.mem_iff.mp g)
  obtain⟨n,gl⟩:∃n,(sortedHeap (c.heap.push (seqObj "list" us.toArray 0)) ⇑c us out.toArray).get? ⇑c=some (seqObj "list" out.toArray n):=sortedHeap_at G;refine Z3 %[_,rfl|U c _ ⇑c out (out.map strOf) n (strsAre_map out i) ?_ ?_ k1 g1 Y (λb o' O=>?_) rfl rfl (Zi _) gl]
  .rw[<-d.strs]at q;exact(B.map _).trans q
  .rw[Xa];refine Xh (λ{u v} hu g j=>?_) p2;have%[a,t,rfl|M]:=e _ (B.mem_iff.mp hu);have%[b,t',rfl|N]:=e _ (B.mem_iff.mp g);show aV b a=false;rw[<-oG,kQ N];have j:gX (ks.map λz=>[z]) [a]<=gX (ks.map λz=>[z]) [b]:=j;exact Zh (by omega)
  .have p:=Zv O;show(sortedHeap _ _ _ _).get? b=_;rw[sortedHeap_old (Zt p) (by rw[Zq];exact Yo p)];exact Z7 _ O
end
theorem kR:∀{ks:ZB} {us:ZF},aI (ks.map V.str) us->StrsAre us ks
 |[],_,.nil=> .nil
 | _::_,_,.cons r t=>by
   have%[t'|rfl]:=r;exact .cons _ _ (kR t)
theorem iw:∀{ks:ZB} {us:ZF},StrsAre us ks->aI (ks.map V.str) us
 | _,_,.nil=> .nil
 | _,_,.cons _ t h=> .cons %[t|rfl] (iw h)
section
variable{X:Cx}{K:ZA}
theorem yZ(h:X.K=K):cU X (.builtin "sorted") (λxs H Q=>∃a ks,xs=[.ref a]/\SqL K H a (ks.map V.str)/\ks.length<=1000/\∀l (ss:ZB),H l=none->ss.Perm ks->ss.Pairwise (λa b=>aV b a=false)->Q (.ref l) (upd H l (.lst (ss.map V.str)))):=by
 subst h;refine⟨λpins s E H xs us Q I r h=>?_⟩;have%[a,ks,rfl,m,few|q]:=h;have%[u,rfl|p]:=dE r;cases p;have%[its,i,%[o,n,t,v,G|e]|L]:=I.list m;have w:=kR i;have M:its.length=ks.length:=by rw[<-i.length,Z6]
 refine mR (λN R y=>wpAny_collect_seq a (.inl rfl) t v e (λh' k=>?_) (by simp_all)) (by omega) λO s' l vs ss n z j A k1 g1 B k g o d C=>?_
 .exact y _ _ _ w (.refl _) k rfl rfl
 .have f:=I.keptS k1 g1 B;have c:=f.hok.fresh d;have J:=f.keptS k g o;refine%[.ref l,_,f.stoodS (o:= .lst _) J d %[?_,vs,n,iw z|C],rfl|q l ss c j A];rw[Z6,j.length_eq,sizeLine_eq];omega
theorem wj{w:World}(h:X.w=w)(p:X.calm=true):cU X (.builtin "sorted") (λxs H Q=>∃a ks,xs=[.ref a]/\H a=some (jU w a ks)/\ks.length<=1000/\∀l (ss:ZB),H l=none->ss.Perm ks->ss.Pairwise (λa b=>aV b a=false)->Q (.ref l) (upd H l (.lst (ss.map V.str)))):=by
 subst h;refine⟨λpins s C H xs us Q I r h=>?_⟩;have%[a,ks,rfl,t,few|q]:=h;have%[u,rfl|v]:=dE r;cases v;have%[S,_|_]:=(I.hok a _ t)
 refine mR (λE R y=>mM (I.ok.hd p) S λm vs ss f e k1 g1 i z=>y m vs ss f e k1 g1 i) few λm s' l vs ss n f e A k1 g1 i k g o d B=>?_
 have j:=I.keptS k1 g1 i;have c:=j.hok.fresh d;have J:=j.keptS k g o;refine%[.ref l,_,j.stoodS (o:= .lst _) J d %[?_,vs,n,iw f|B],rfl|q l ss c e A];rw[Z6,e.length_eq,sizeLine_eq];omega
theorem y4(h:X.K=K):cU X (.builtin "sorted") (λxs H Q=>∃(a:Addr) (ps:ZG) (m:Nat),xs=[.ref a]/\SqL K H a (ps.map λp=>V.ref p.1)/\ba H ps/\(∀p∈ps,p.2.length=m)/\m≠0/\ps.length<=1000/\
 ∀(l:Addr) (ss:ZG),H l=none->ss.Perm ps->ss.Pairwise (λa b=>dP b.2 a.2=false)->Q (.ref l) (upd H l (.lst (ss.map λp=>V.ref p.1)))):=by
 subst h;refine⟨λpins s M H xs us Q I r h=>?_⟩;have%[a,ps,m,rfl,j,t,v,w,few|q]:=h;have%[u,rfl|y]:=dE r;cases y;have%[its,z,%[o,n,A,B,N|e]|O]:=I.list j;have:=sJ z;subst this;refine oE (λT R C=>wpAny_collect_seq a (.inl rfl) A B e (λh' k=>?_) (by simp_all)) (sI I t) v w few λU s' l ss n i E k1 g1 G k g o d L=>?_
 .exact C _ _ (List.Perm.refl _) k rfl rfl
 .have f:=I.keptS k1 g1 G;have c:=f.hok.fresh d;have J:=f.keptS k g o;refine%[.ref l,_,f.stoodS (o:= .lst _) J d %[?_,ss.map _,n,sK ss|L],rfl|q l ss c i E];rw[Z6,i.length_eq,sizeLine_eq];omega
theorem Dg{k:Nat}{i o:Expr}{ty a:TE}{pos:Pos}(b:cn k X.A)(c:behindInMarks .In o=false)(hi:QE X i ty)(d:QE X o a):QT X (.Compare i [.In] [o] pos) (tB (Fa ty a)):=
 ⟨zM (Fb (by have:=b.units;omega) hi.h d.h) c⟩
end
theorem d5{X:Cx}{K:ZA}{a b:Expr}{c d:TE}{pos:Pos}(h:X.K=K)(e:km b)(f:QE X a c)(g:QE X b d):QE X (.Subscript a b pos) (tOp (CB K) c d):=by subst h;exact⟨wQ Ay f.h g.h e⟩
theorem wk(h:(env.blockKind== .function&&env.kindOf x==some .local&&b.line==pos.line&&!(a.names.any λ(n,k)=>n==x&&(k== .local||k== .cell)))=false):
 swapsWith (.ListComp c gens a pos) (some (.Name x b)) l env=pure false:=by
 show(pure (env.blockKind== .function&&env.kindOf x==some _&&b.line==pos.line&&!(a.names.any _)))=pure false;rw[h]
theorem Bn{X:Cx}(i:Nat)(e:X.N.Nodup)(hi:X.N[i]? =some x)(f:Loc X.env.scope x)(g:X.fn x=true\/X.env.scope.names.lookup x=some .local)
 (b:(X.env.blockKind== .function&&X.env.kindOf x==some .local&&h.line==pos.line&&!(a.names.any λ(n,k)=>n==x&&(k== .local||k== .cell)))=false) (j:QE X (.ListComp c gens a pos) l):
 QS X (.Assign [.Name x h] (.ListComp c gens a pos) d) (pP l (jI i)):=⟨zW e hi f j.h (wk b) g⟩
section
#where
end
section
variable(h:Heap)(l1 l2:Addr)
end
section
#where
end
section
variable{X:Cx}{K:ZA}{pos:Pos}
end
section
variable{X:Cx}{pos:Pos}
theorem jd(b:PassesOwn (model X.prog X.w) X.A X.env X.xe)(d:QT X c e)(f:QSs X a g):QS X (.While c a [] pos) (zX e g):=⟨zY b d.h f.h⟩
theorem dv(a:cn k X.A)(b:E9 i)(c:QE X o d)(hi:QE X i ty):QE X (.Subscript o i pos) (AC d ty):=⟨CJ (by have:=a.units;lia) c.h hi.h b⟩
end
section
#where
theorem Dh{P:Nat->Value->Prop}(val:Nat->Str)(a:∀i v,P i v->∃t,v= .str (val i) t):CmpOf prog w A .Gt P (λi j=>decide ((val j).cps.toList<(val i).cps.toList)):=λi j b c s Q E hi d h=>by
 have%[t|rfl]:=a i b hi;have%[u|rfl]:=a j c d;exact richCompare_gives (typeIs_str s _ t) (typeIs_str s _ u) PySem.F.slot_str_gt PySem.F.entry_str_gt (PySem.F.args_str_gt_2 _ _) (gives_str_gt _ _ t u) (λx=>nomatch x) h
theorem xh{P:Nat->Value->Prop}(val:Nat->Str)(a:∀i v,P i v->∃t,v= .str (val i) t):CmpOf prog w A .Lt P (λi j=>decide ((val i).cps.toList<(val j).cps.toList)):=λi j b c s Q E hi d h=>by
 have%[t|rfl]:=a i b hi;have%[u|rfl]:=a j c d;exact richCompare_gives (typeIs_str s _ t) (typeIs_str s _ u) PySem.F.slot_str_lt PySem.F.entry_str_lt (PySem.F.args_str_lt_2 _ _) (gives_str_lt _ _ t u) (λx=>nomatch x) h
theorem Bo{i:Nat}{v:Value}(h:(#[Value.str x t,Value.str y u]:ZJ)[i]? =some v):∃t,v= .str (if i=0 then x else y) t:=by
 match i,h with
 | 0,h=>exact%[t|by simpa using h.symm]
 | 1,h=>exact%[u|by simpa using h.symm]
 | i+2,h=>simp at h
theorem ut(a:Nat->Nat->Bool):argBest a 1=if a 1 0=true then 1 else 0:=by simp[argBest]
theorem sM{x y:Str}(l:A.handled=none)
 (h:∀h' tk,(∀c o,s.heap.get? c=some o->h'.get? c=some o)->Q (if x.cps.toList<y.cps.toList then .str y u else .str x t) {s with heap:=h',toks:=tk}):
 ↥A (call (.builtin "max") [.str x t,.str y u]) Q E s:=by
 have j:(s.heap.push {cls:= .type _,data:= .seq #[.str x t,.str y u]}).IsTuple ⇑s _:=%[_,Zj _ rfl,rfl,0|rfl]
 refine call_max_two (wpAny_pyIter_tuple j ?_);have b:(s.heap.push {cls:= .type "tuple",data:= .seq #[.str x t,.str y u]}).objs.size=⇑s+1:=Zq ..;refine%[_,[_,⇑s],[_],_,_,_,_,rfl,Walks.tuple (A:=A.in1) l _ ⇑s (b▸Zt (Yp _)) _,
  %[%[_,Zj _ rfl,rfl|rfl]|j.push _],λc d=>?_,by simp,Dh _ (λ_ _=>Bo)|λv h' tk m n=>?_]
 .rw[Zq,b];rcases mem_cons.mp d with rfl|d
  .simp
  .rcases mem_cons.mp d with rfl|d
   .exact Yo (Yp _)
   .cases d
 .have f:=λc o e=>by
   refine n c o (λi=>?_) (Z7 _ (Z7 _ e));rcases mem_cons.mp i with p|i
   .have:=Zv e;rw[p,b]at this;exact Xk _ (Nat.lt_of_succ_lt this)
   .cases i
  have q:=h h' tk f;have a:(#[Value.str x t,Value.str y u])[argBest _ 1]? =some v:=m;rw[ut]at a;by_cases g:x.cps.toList<y.cps.toList
  .rw[if_pos (by simp[g])]at a;rw[if_pos g]at q;exact(show Value.str y u=v by simpa using a)▸q
  .rw[if_neg (by simp[g])]at a;rw[if_neg g]at q;exact(show Value.str x t=v by simpa using a)▸q
theorem sN{x y:Str}(l:A.handled=none)
 (h:∀h' tk,(∀c o,s.heap.get? c=some o->h'.get? c=some o)->Q (if y.cps.toList<x.cps.toList then .str y u else .str x t) {s with heap:=h',toks:=tk}):
 ↥A (call (.builtin "min") [.str x t,.str y u]) Q E s:=by
 have j:(s.heap.push {cls:= .type _,data:= .seq #[.str x t,.str y u]}).IsTuple ⇑s _:=%[_,Zj _ rfl,rfl,0|rfl]
 refine call_min_two (wpAny_pyIter_tuple j ?_);have b:(s.heap.push {cls:= .type "tuple",data:= .seq #[.str x t,.str y u]}).objs.size=⇑s+1:=Zq ..;refine%[_,[_,⇑s],[_],_,_,_,_,rfl,Walks.tuple (A:=A.in1) l _ ⇑s (b▸Zt (Yp _)) _,
  %[%[_,Zj _ rfl,rfl|rfl]|j.push _],λc d=>?_,by simp,xh _ (λ_ _=>Bo)|λv h' tk m n=>?_]
 .rw[Zq,b];rcases mem_cons.mp d with rfl|d
  .simp
  .rcases mem_cons.mp d with rfl|d
   .exact Yo (Yp _)
   .cases d
 .have f:=λc o e=>by
   refine n c o (λi=>?_) (Z7 _ (Z7 _ e));rcases mem_cons.mp i with p|i
   .have:=Zv e;rw[p,b]at this;exact Xk _ (Nat.lt_of_succ_lt this)
   .cases i
  have q:=h h' tk f;have a:(#[Value.str x t,Value.str y u])[argBest _ 1]? =some v:=m;rw[ut]at a;by_cases g:y.cps.toList<x.cps.toList
  .rw[if_pos (by simp[g])]at a;rw[if_pos g]at q;exact(show Value.str y u=v by simpa using a)▸q
  .rw[if_neg (by simp[g])]at a;rw[if_neg g]at q;exact(show Value.str x t=v by simpa using a)▸q
theorem p7{l:Addr}{its:ZJ}{val:Nat->Str}{Q:ZD}(n:A.handled=none)(f:s.heap.IsList l its)(g:0<its.size)(a:∀(i:Nat) v,its[i]? =some v->∃t,v= .str (val i) t)
 (h:∀v h' tk,its[argBest (λi j=>decide ((val i).cps.toList<(val j).cps.toList)) (its.size-1)]? =some v->(∀b o,s.heap.get? b=some o->h'.get? b=some o)->Q v {s with heap:=h',toks:=tk}):
 ↥A (call (.builtin "min") [.ref l]) Q E s:=by
 have c:l<⇑s:=by have%[_,e|_]:=f;exact Zv e
 refine call_min_walk (wpAny_pyIter_list f %[_,[⇑s,l],[⇑s],_,_,_,_,rfl,Walks.list (A:=A.in1) n _ l (Zt c) its,%[%[_,Zj _ rfl,rfl|rfl]|f.push _],λb d=>?_,g,xh val a|λv h' tk p q=>?_])
 .rw[Zq];rcases mem_cons.mp d with rfl|d
  .simp
  .rcases mem_cons.mp d with rfl|d
   .exact Yo c
   .cases d
 .refine h v h' tk p λb o e=>q b o (λm=>?_) (Z7 _ e)
  rcases mem_cons.mp m with r|m
  .exact absurd (r▸Zv e) (Xk _)
  .cases m
theorem oH(val:Nat->Str):∀k,argBest (λi j=>decide ((val i).cps.toList<(val j).cps.toList)) k<=k/\∀j,j<=k->aV (val j) (val (argBest (λi j=>decide ((val i).cps.toList<(val j).cps.toList)) k))=false
 | 0=>%[Zi _|λj b=>by rw[le_zero.mp b];exact fZ _]
 | k+1=>by
   have%[g|d]:=oH val k;rw[argBest];by_cases c:aV (val (k+1)) (val (argBest (λi j=>decide ((val i).cps.toList<(val j).cps.toList)) k))=true
   .have a:=c;unfold aV at a;rw[if_pos a];refine%[Zi _|λj b=>?_];by_cases e:j=k+1
    .exact e▸fZ _
    .cases f:aV _ _ with
     | false=>rfl
     | true=>have:=gW f c;rw[d j ⋯]at this;cases this
   .have a:=c;unfold aV at a;rw[if_neg a];refine%[⋯|λj b=>?_];by_cases e:j=k+1
    .lia
    .exact d j ⋯
end
section
variable{X:Cx}
theorem y6(b:X.calm=true):cA X (.builtin "max") (λxs H Q=>∃x y,xs=[.str x,.str y]/\Q (.str (if aV x y=true then y else x)) H):=by
 intro pins s c H xs us Q I r h;have%[x,y,rfl|q]:=h;have%[u,d,rfl,%[t|rfl],t'|rfl]:=kh r;refine sM (I.ok.hd b) λh' tk k=>%[_,H,I.kept k,?_|q]
 by_cases a:x.cps.toList<y.cps.toList
 .rw[if_pos a,if_pos (show aV x y=true from Zf a)];exact%[_|rfl]
 .rw[if_neg a,if_neg (show ¬ aV x y=true from λe=>a (Zo e))];exact%[_|rfl]
theorem y8(b:X.calm=true):cA X (.builtin "min") (λxs H Q=>∃x y,xs=[.str x,.str y]/\Q (.str (if aV y x=true then y else x)) H):=by
 intro pins s c H xs us Q I r h;have%[x,y,rfl|q]:=h;have%[u,d,rfl,%[t|rfl],t'|rfl]:=kh r;refine sN (I.ok.hd b) λh' tk k=>%[_,H,I.kept k,?_|q]
 by_cases a:y.cps.toList<x.cps.toList
 .rw[if_pos a,if_pos (show aV y x=true from Zf a)];exact%[_|rfl]
 .rw[if_neg a,if_neg (show ¬ aV y x=true from λe=>a (Zo e))];exact%[_|rfl]
theorem y9(z:X.calm=true):cA X (.builtin "min") (λxs H Q=>∃(p:Addr) (ss:ZB),xs=[.ref p]/\SqL X.K H p (ss.map V.str)/\0<ss.length/\∀m∈ss,(∀y∈ss,aV y m=false)->Q (.str m) H):=by
 intro pins s M H xs us Q I r h;have%[p,ss,rfl,A,N|q]:=h;have%[u,rfl|f]:=dE r;cases f;have%[its,g,B|O]:=I.list A;have a:=g.length;rw[Z6]at a;have C:its.toArray.size=ss.length:=by rw[Zp,a]
 have c:∀i v,its.toArray[i]? =some v->∃t,v=Value.str (ss.getD i Str.empty) t:=λi v e=>by
  have e:=by simpa using e
  have hi:i<ss.length:=a▸(Xn e).1;have%[u,l|f]:=g.get (by rw[Zl,Z4 hi];rfl);rw[e]at l;have%[t|d]:=f;exact%[t|by rw[Za l,d,Zc,Z4 hi];rfl]
 refine p7 (I.ok.hd z) B.isList ⋯ c λv h' tk n k=>?_
 have%[E|o]:=oH _ _;have%[t|d]:=c _ _ n
 generalize argBest _ _=b at E o n d
 have w:b<ss.length:=by lia
 have G:ss.getD b Str.empty=ss[b]:=by rw[Zc,Z4 w];rfl
 refine%[.str _,H,I.kept k,%[t|d]|q _ (G▸Ye w) λy J=>?_];have%[j,L|rfl]:=getElem_of_mem J;have:=o j ⋯;rwa[show ss.getD j Str.empty=ss[j] by rw[Zc,Z4 L];rfl]at this
theorem FI(a:X.calm=true):cU X (.builtin "max") (λxs H Q=>∃x y,xs=[.str x,.str y]/\Q (.str (if aV x y=true then y else x)) H):=⟨y6 a⟩
theorem FJ(a:X.calm=true):cU X (.builtin "min") (λxs H Q=>∃x y,xs=[.str x,.str y]/\Q (.str (if aV y x=true then y else x)) H):=⟨y8 a⟩
theorem FK{K:ZA}(h:X.K=K)(a:X.calm=true):cU X (.builtin "min") (λxs H Q=>∃(p:Addr) (ss:ZB),xs=[.ref p]/\SqL K H p (ss.map V.str)/\0<ss.length/\∀m∈ss,(∀y∈ss,aV y m=false)->Q (.str m) H):=by subst h;exact⟨y9 a⟩
end
section
#where
end
section
variable{prog:Program}{w:World}{A:Around}{R:Result->Shared->Prop}{I:Addr}{fp wr:List Addr}{G:Array GenState->Array GenState->Prop}{n:Nat}{P:Nat->Value->Prop}{St:Nat->Shared->Prop}
end
section
#where
end
section
variable{X:Cx}{K:ZA}
end
theorem Di{b:Type}{a:List (b×V)}{vs:List (b×Value)}(r:KV a vs):aI (a.map (·.2)) (vs.map (·.2)):=by
 induction r with
 | nil=>exact .nil
 | cons h _ c=>exact .cons h.2 c
section
variable{X:Cx}{K:ZA}
def Bp:V->List V->Hp->VK->Prop:=λx vs H Q=>asR x λa=>∃k y,vs=[kV k,y]/\∃b,H a=some (.dK b)/\b.length<sizeLine/\(∀v,bJ b k=some v->Q v H)/\(bJ b k=none->Q y (upd H a (.dK (cW b k y))))
theorem Dj:MtM X "dict.setdefault" Bp:=by
 intro pins s G H x vs v us Q I p r h;have%[a,rfl,k,y,rfl,b,e,J,t|u]:=fB h;cases p;have%[L,w,rfl,A|l]:=kh r;have%[z,m,vs,c|n]:=mG I.hok e;refine call_meetsIn PySem.F.slot_dict_setdefault n.typeIs PySem.F.entry_dict_setdefault (PySem.F.args_dict_setdefault_3 _ _ _) (kt_meets_setdefault _ a (mF A) m w) %[vs,n,c.length▸z,λM hw=>?_|λN h' f B=>?_]
 .have q:=c.val k;cases d:bJ b k with
  | none=>
    rw[gN.none_of (o:=valueAt vs k) (d▸q)]at hw;cases hw
  | some i=>
    have%[C,g|j]:=gN.some_of (d▸q);rw[g]at hw;exact(Za hw)▸%[i,H,I.tok _,j|t i d]
 .have d:bJ b k=none:=by
   cases d:bJ b k with
   | none=>rfl
   | some i=>
     have%[C,g|_]:=gN.some_of (d▸c.val k)
     grind
  exact%[y,_,nv I (e▸True.intro) B (let⟨q,_,_,E,_⟩:=f;%[q|E]) (vE (by have:=fW b k y;lia) m (c.put k l) f),l|u d]
theorem kS:MtQ X "dict.setdefault" Bp:=⟨Dj⟩
noncomputable def uu(v a:Addr):HO:= .ext λh=>h.IsValuesView v a
def Bq:V->List V->Hp->VK->Prop:=λx vs H Q=>asR x λa=>vs=[]/\∃b,H a=some (.dK b)/\∀v,H v=none->Q (.ref v) (upd H v (uu v a))
theorem Dk:MtM X "dict.values" Bq:=by
 intro pins s t H x vs v us Q I i j h;have%[a,rfl,rfl,l,e|q]:=fB h;cases i;have c:=j.zero;subst c;have%[z,m,vs,n|f]:=mG I.hok e;refine call_meetsIn PySem.F.slot_dict_values f.typeIs PySem.F.entry_dict_values (PySem.F.args_dict_values_1 _) (meets_dict_values _ a m) %[%[vs|f]|?_];have g:(s.heap.push {cls:= .type _,data:= .fields _}).IsValuesView ⇑s a:=%[_,Zj _ rfl,rfl|rfl]
 refine%[.ref ⇑s,_,I.laid (o:=uu ⇑s a) (λb u e=>Z7 _ e) (Zi _) %[g,?_|λw y p k1=>?_],rfl|q _ I.fresh]
 .have%[o,d|_]:=g;exact%[o|d]
 .have%[o,d|r]:=p;exact%[o,k1 _ d|r]
theorem Br:MtQ X "dict.values" Bq:=⟨Dk⟩
theorem wo(j:X.calm=true):cA X (.type "list") (λxs H Q=>∃(v a:Addr) (b:List (Key×V)),xs=[.ref v]/\H v=some (uu v a)/\H a=some (.dK b)/\∀l,H l=none->Q (.ref l) (upd H l (.lst (b.map (·.2))))):=by
 intro pins s M H xs us Q I r h;have%[v,a,b,rfl,m,n|q]:=h;have%[u,rfl|p]:=dE r;cases p;have%[z,N,vs,f|t]:=mG I.hok n;have g:=(I.hok _ _ m).1;have%[o,w,y,A|B]:=t;have C:s.heap.DictAt _ a vs y:=%[o,w,A|B]
 have E:=f.length;refine PySem.W.kdl_call (PySem.W.kdl_values) (I.ok.hd j) %[g|C] ⋯ λh' tk acc c keep G d=>?_
 have O:acc.toList.length=b.length:=by rw[Zb,d.1,E]
 refine%[.ref ⇑s,_,I.laid keep (Zi _) ?_,rfl|q _ I.fresh];have e:acc.toList=vs.map (·.2):=by
  refine ext_getElem (by simp_all) λi J T=>?_
  have%[k|L]:=d.2 i _ (Array.getElem?_eq_getElem J);have%[U|Y]:=Xn L
  simp_all
 exact%[by rw[Z6];exact z,acc.toList,c,e▸Di f|G]
theorem Dl(c:X.calm=true):cU X (.type "list") (λxs H Q=>∃(v a:Addr) (b:List (Key×V)),xs=[.ref v]/\H v=some (uu v a)/\H a=some (.dK b)/\∀l,H l=none->Q (.ref l) (upd H l (.lst (b.map (·.2))))):=⟨wo c⟩
end
theorem uv:∀{ss:ZB},z∈ss->∃j,ss[j]? =some z/\(∀m,m<j->∀y,ss[m]? =some y->y≠z)/\(z::ss.eraseIdx j).Perm ss
 | x::ss,h=>by
   by_cases e:x=z
   .exact%[0,by simp[e],λm b=>absurd b ⋯|by simp[e]]
   .have%[j,c,d|f]:=uv ((mem_cons.mp h).resolve_left λq=>e q.symm);refine%[j+1,c,λm b y a=>?_|?_]
    .cases m with
     | zero=>simp at a;exact a▸e
     | succ m=>exact d m ⋯ y (a)
    .exact(List.Perm.swap _ _ _).trans (f.cons _)
section
variable{X:Cx}{K:ZA}
def FL:V->List V->Hp->VK->Prop:=λx vs H Q=>asR x λa=>∃k y,vs=[kV k,y]/\∃b,H a=some (.dK b)/\Q ((bJ b k).getD y) H
theorem FM:MtM X "dict.get" FL:=by
 intro pins s n H x vs v us Q I f g h;have%[a,rfl,k,y,rfl,b,e|q]:=fB h;cases f;have%[o,i,rfl,j|l]:=kh g;have%[z,m,vs,c|d]:=mG I.hok e;exact call_meetsIn slot_dict_get d.typeIs PySem.F.entry_dict_get (PySem.F.args_dict_get_3 _ _ _) (meets_dict_get_default _ a (mF j) m i) %[_,d.mapOf,(bJ b k).getD y,H,I.tok _,(c.val k).getD l|q]
theorem xi:MtQ X "dict.get" FL:=⟨FM⟩
noncomputable def isZ(z:Str):Value->Bool
 | .str x _=>x==z
 | _=>false
theorem za(t:Tok)(r:aI (ss.map V.str) its)(h:ss.length=its.length)(l:z∈ss):∃(j:Nat) (e:j<its.toArray.size),ss[j]? =some z/\(z::ss.eraseIdx j).Perm ss/\(∀y,y∈its.toArray->MeetsSeq.EqGives y (.str z t) (isZ z y))/\isZ z its.toArray[j]=true/\∀m (a:m<its.toArray.size),m<j->isZ z its.toArray[m]=false:=by
 have%[j,f,n|o]:=uv l;have b:∀m y,its[m]? =some y->∃x t,y=Value.str x t/\ss[m]? =some x:=λm y c=>by
  have a:m<ss.length:=h▸(Xn c).1;have%[u,i|p]:=r.get (by rw[Zl,Z4 a];rfl);rw[c]at i;have%[t|q]:=p;exact%[_,t,(Za i).trans q|Z4 a]
 have e:j<its.length:=h▸(Xn f).1;refine%[j,e,f,o,λy c=>?_,?_|λm a g=>?_]
 .have%[m|a]:=Xg (by simpa using c);have%[x,t',rfl|_]:=b m y a;exact eqGives_str x z t' t
 .have%[x,t',ex|d]:=b j _ (Z4 e);rw[f]at d;show isZ z its[j]=true;rw[ex,<-Za d];exact beq_self_eq_true z
 .have%[x,t',ex|d]:=b m _ (Z4 a);show isZ z its[m]=false;rw[ex];exact beq_eq_false_iff_ne.mpr (n m g x d)
def sO:V->List V->Hp->VK->Prop:=λx vs H Q=>asR x λl=>∃z,vs=[.str z]/\∃ss:ZB,H l=some (.lst (ss.map V.str))/\z∈ss/\∀a,(z::a).Perm ss->Q .non (upd H l (.lst (a.map V.str)))
theorem zb:MtM X "list.remove" sO:=by
 intro pins s A H x vs v us Q I c d h;have%[l,rfl,z,rfl,ss,a,f|q]:=fB h;cases c;have%[u,rfl|g]:=d.one;have%[t|rfl]:=g;have%[i,its,n,r,b|e]:=I.lstM a;rw[Z6]at b i;have%[j,m,_,o,p,w|y]:=za t r b f;refine call_meets F.slot_list_remove %[_,e|rfl] F.entry_list_remove (F.args_list_remove_2 _ _) (MeetsSeq.list_remove l its.toArray n _ _ p j m w y (by simp_all)) %[e,.non,_,I.lset (its':=its.eraseIdx j) a e ?_ ?_ ?_,rfl|q _ o]
 .simp
 .rw[List.eraseIdx_eq_take_drop_succ,Zd,List.map_take,List.map_drop,<-List.eraseIdx_eq_take_drop_succ];exact r.eraseIdx j
 .have:=qx ss j;rw[Z6]
  lia
theorem Bs:MtQ X "list.remove" sO:=⟨zb⟩
end
theorem zd:typeLookup (.type "list_reverseiterator") "__len__"=pure none:=by kernel_rfl
theorem Bt:typeLookup (.type "list_reverseiterator") "__length_hint__"=pure (some (.builtin "list_reverseiterator.__length_hint__")):=by kernel_rfl
section
#where
theorem p8(hh:A.handled=none)(N:s.heap.IsRevIter I l ((a.size:Int) -1))(O:s.heap.IsList l a)(ne:l≠I)(hz:a.size<=sizeLine)
 (hQ:∀s' acc c,(∀b o,b≠I->s.heap.get? b=some o->s'.heap.get? b=some o)->s'.gens=s.gens->s'.os=s.os->s'.heap.get? ⇑s=some {cls:= .type "list",data:= .seq acc c}->acc.toList=a.toList.reverse->Q (.ref ⇑s) s'):
 ↥A (call (.type "list") [.ref I]) Q E s:=by
 have u:I<⇑s:=let⟨_,i,_⟩:=N;Zv i;have v:l<⇑s:=let⟨_,i,_⟩:=O;Zv i
 generalize p:s.heap.push {cls:=Value.type "list",data:=Data.seq #[]}=G
 have gz:G.objs.size=⇑s+1:=by rw[<-p,Zq]
 have y:∀b o,s.heap.get? b=some o->G.get? b=some o:=λb o e=>by rw[<-p];exact Z7 _ e
 have q:G.get? ⇑s=some {cls:=Value.type "list",data:=Data.seq #[]}:=by rw[<-p];exact Zj _ rfl
 refine callType_codes (Q₁:=λobj g=>obj= .ref ⇑s/\g=(s>>>G)) F.called_list (F.typeCall_list_1 (Value.ref I)) F.entry_list_init (code_list_new (Value.ref I) %[rfl|by rw[p]]) λobj g j=>?_
 have%[rfl|rfl]:=j;refine%[%[_,q|rfl],F.args_list_init_2 _ _|?_];show ↥A.in1.in1 (Builtin.«list.__init__» %[[.ref ⇑s,.ref I]|[]]) _ _ _;unfold Builtin.«list.__init__»;refine Z2 ?_;refine listItems_at (s:=(s>>>G)) q rfl ?_;refine Z2 (listUpdate_at (s:=(s>>>G)) q rfl ?_ (Xf _));have U:=get?_update_self (Obj.mapSeq λ_=> #[]) q rfl;have f:∀b o,b≠⇑s->G.get? b=some o->(G.update ⇑s (Obj.mapSeq λ_=> #[])).get? b=some o:=λb o z e=>(get?_update_other _ _ (Ne.symm z)).trans e
 refine Z2 (wpAny_letGo ?_)
 generalize G.update ⇑s (Obj.mapSeq λ_=> #[])=h at U f
 have B:I≠⇑s:=Zt u;have nl:l≠⇑s:=Zt v;have m:h.IsRevIter I l ((a.size:Int) -1):=N.at λo e=>f _ _ B (y _ _ e)
 have C:h.IsList l a:=let⟨o,i,r⟩:=O;%[o,f _ _ nl (y _ _ i)|r];have W:=Walks.listRev (prog:=prog) (w:=w) (A:=A.in1.in1) hh I l ne a;have n:(0<=a.size/\h.IsRevIter I l (↑a.size-1-((0:Nat):Int))/\h.IsList l a):=%[Xf _,by simpa using m|C]
 show ↥A.in1.in1 (Builtin.List.listExtendWith (.ref ⇑s) (.ref I) .none) _ _ (s>>>h);unfold Builtin.List.listExtendWith;have t:Shared.TypeIs (s>>>h) (.ref I) "list_reverseiterator":=m.typeIs;refine Z2 (wpAny_typeOf (T:="list_reverseiterator") t ?_);have n1:Builtin.List.listSameRef (.ref ⇑s) (.ref I)=false:=beq_eq_false_iff_ne.mpr (Ne.symm B);have n2:(Value.type "list_reverseiterator"==Value.type "list")=false:=by decide
 have n3:(Value.type "list_reverseiterator"==Value.type "tuple")=false:=by decide
 simp only[n1,n2,n3,Bool.or_false,Y1,if_false];refine Z2 (W.self 0 (s>>>h) _ _ n ?_);refine Z2 (wpAny_holding ?_);unfold Builtin.List.listLengthHint;refine Z2 (wpAny_specialOf (T:="list_reverseiterator") t zd ?_);show wpAny _ _ (specialOf (.ref I) (Str.ofString "__length_hint__")>>= _) _ _ _;refine Z2 (wpAny_specialOf t Bt ?_)
 wp_delta
 refine Z2 (wpAny_isInstance (T:="list_reverseiterator") (b:=true) t (by rw[isSubtype_type];kernel_rfl) ?_);simp only[Bool.not_true,Y1,if_false];rw[if_pos (by decide +kernel)];rw[if_neg (by decide)];refine Z3 ?_;rw[if_neg (by decide +kernel)];have H:⇑s∉[I,l]:=by
  simp only[Yw,X8,or_false,not_or];exact%[Ne.symm B|Ne.symm nl]
 refine Z3 %[plainId_quiet F.plain_extend_loop _|codeAny_extend_loopS W.toS hz _ H _ a.size 0 _ _ _ rfl (Xf _) n U (ItemsOf.nil _) λs5 acc c5 J L d=>?_];refine%[rfl|hQ s5 acc c5 (λb o z e=>?_) J.gens J.os L ?_]
 .have nb:b≠⇑s:=Zt (Zv e);refine J.heap b o ?_ (f _ _ nb (y _ _ e));simp only[Yw,X8,or_false,not_or];exact%[nb|z]
 .apply List.ext_getElem?;intro k;have al:acc.toList.length=a.size:=Zb▸d.1;by_cases Y:k<a.size
  .have M:k<acc.size:=d.1▸Y;have:=d.2 k acc[k] ∅;rw[List.getElem?_reverse (Y),Zb,getElem?_toList,getElem?_toList,this];simp[M]
  .rw[Xm ⋯,Xm (by simp;lia)]
end
noncomputable def FN(n:Nat)(a l:Addr)(m:Nat):HO:= .ext λh=>n<=a/\h.IsRevIter a l (m-1)
theorem ze{X:Cx}:cA X (.type "reversed") (λxs H Q=>∃(l:Addr) (ys:List V),xs=[.ref l]/\SqL X.K H l ys/\∀r,H r=none->Q (.ref r) (upd H r (FN X.s₀.heap.objs.size r l ys.length))):=by
 intro pins s a H xs us Q I r h;have%[l,ys,rfl,c|q]:=h;have%[u,rfl|d]:=dE r;cases d;have%[its,f,pl|j]:=I.list c;refine call_reversed_list pl.isList ?_;have g:=I.hok.fresh (Zi _);have J:Inv X pins a H (s>>>(s.heap.push (revObj l (its.toArray.size-1)))):=I.keptS (λb o e=>Z7 _ e) rfl rfl;refine%[.ref ⇑s,_,I.stoodS (o:=FN X.s₀.heap.objs.size ⇑s l ys.length) J (Zi _) %[%[I.sz|?_],%[_|Zj _ rfl]|λ_ _ ⟨i,x⟩ k=>%[i|x.at λo e=>k o e]],rfl|q _ g];rw[f.length,<-Zp];exact%[_,Zj _ rfl,rfl|rfl]
theorem Inv.dropped{X:Cx}(I:Inv X pins j H s)(l:H a=some (.ext i))(m:X.s₀.heap.objs.size<=a)(f:∀b o,b≠a->s.heap.get? b=some o->s'.heap.get? b=some o)(r:s'.gens=s.gens)(t:s'.os=s.os):Inv X pins j (drop H a) s':=by
 have ne:∀{b:Addr} {o:HO},H b=some o->(∀i,o≠ .ext i)->b≠a:=λe n z=>by
  grind
 have un:Un (frs X.stack) [a] H (drop H a) s.heap s'.heap:=by
  refine%[λb o e _ _ d=>f b o (by simpa using d) e,λb o e _ _ d=>%[o.slots|f b o (by simpa using d) e],λb o _ n _=>?_,λb o e d=>%[o|f b o (by simpa using d) e],λb xs e=>?_,λb o u e=>?_|λb ps e=>%[#[]|?_]]
  .unfold drop;split
   .rfl
   .exact n
  .rw[ju (ne e ∅)];exact e
  .rw[ju (ne e ∅)];exact e
  .rw[ju (ne e ∅)];simpa using e
 have g:HOk X.prog X.w (drop H a) s'.heap:=λb o e=>by
  have nb:b≠a:=λz=>by rw[z,yK]at e;cases e
  rw[ju nb]at e;refine(I.hok b o e).stay (λc u h q=>f c u ?_ q) (λc q=>?_) λc xs q=>?_
  .rcases h with rfl|h
   .exact nb
   .exact ne h ∅
  .rw[ju (ne q ∅)];exact q
  .rw[ju (ne q ∅)];exact q
 exact I.call' t un g (by rw[r];exact I.bare) λb v=>by
  obtain rfl:b=a:=by simpa using v
  refine%[.inr m,λz=>?_,λx c e z=>?_|λp w z=>?_]
  .have:=I.free;grind
  .have:=I.freeC x c e;grind
  .have:=(I.pin p w).2.1;rw[z,l]at this;cases this
theorem uw{X:Cx}(w:X.calm=true):cA X (.type "list") (λxs H Q=>∃(r l:Addr) (ys:List V),xs=[.ref r]/\H l=some (.lst ys)/\H r=some (FN X.s₀.heap.objs.size r l ys.length)/\∀p,drop H r p=none->p≠r->Q (.ref p) (upd (drop H r) p (.lst ys.reverse))):=by
 intro pins s J H xs us Q I r h;have%[a,l,ys,rfl,g,f|q]:=h;have%[u,rfl|y]:=dE r;cases y;have%[z,its,n,A,m|e]:=I.lstM g;have%[%[t|b]|_]:=I.hok a _ f;have i:l≠a:=λz=>by rw[z,f]at g;cases g
 have sz:its.toArray.size=ys.length:=by simp_all
 refine p8 (I.ok.hd w) (by rw[sz];exact b) %[_,e,rfl,n|rfl] i (by rw[sz];exact z) λs' acc c B C j E d=>?_
 have v:=I.dropped f t (λ_ _ _ e=>e) rfl rfl;have G:=I.dropped f t B C j;have lt:=let⟨_,j,_⟩:=b;Zv j;refine%[.ref ⇑s,_,v.stoodS (o:= .lst ys.reverse) G (Zi _) %[?_,acc.toList,c,?_|?_],rfl|q _ (v.hok.fresh (Zi _)) (X2 lt)]
 .rw[List.length_reverse];exact z
 .rw[d];exact A.reverse
 .exact E
def ux(b:TE):TE:=λc H Q=>b c H λv a=>∃l ys,v= .ref l/\a l=some (.lst ys)/\∀p,a p=none->Q (.ref p) (upd a p (.lst ys.reverse))
theorem Bu{X:Cx}(h:X.calm=true)(i:Gl X "reversed")(j:X.mg "reversed"=none)(a:Gl X "list")(b:X.mg "list"=none)(d:bj e=false)(m:QE X e n):
 QE X (.Call (.Name "list" o) [.Call (.Name "reversed" s) [e] [] t] [] u) (ux n):=by
 have w:QE X (.Call (.Name _ s) [e] [] t) _:=ctE ⟨ze⟩ i j PyProof.Rows.boot_reversed rfl rfl (by simp[d]) (paE d (⟨Fv m.h⟩) aq);have y:=ctE (p:=o) (pos:=u) ⟨uw h⟩ a b boot_list rfl rfl rfl (paE rfl w aq);refine⟨Fw y.h λA H Q q=>?_⟩;refine%[_,q|λv B ⟨l,ys,z,c,q⟩=>%[l,ys,by rw[z],SqL.of c|λr f=>?_]];refine%[r,l,ys,rfl,by rw[ao (ay c f)];exact c,aa|λp g _=>?_];rw[A1 f]at g ⊢;exact q p g
section
variable{X:Cx}
def FO:R2:=λx y H Q=>asR x λa=>asR y λb=>∃xs,H a=some (.lst xs)/\H b=some (.lst [])/\Q (.bl (decide (xs≠[]))) H
theorem FP(A:X.A.units+64<cLine):OpR X (compareOp .NotEq) FO:=by
 intro pins s B H x y v u Q I l m h;have%[a,rfl|o]:=fB h;have%[b,rfl,xs,p,t|q]:=fB o;cases l;cases m;have%[z,its,n,r,g|e]:=I.lstM p;have%[C,its2,i,E,d|c]:=I.lstM t;obtain rfl:its2=[]:=length_eq_zero_iff.mp d.symm;by_cases f:xs=[]
 .subst f;obtain rfl:its=[]:=length_eq_zero_iff.mp g.symm;exact richCompare_meets_room (op:= .NotEq) %[_,e|rfl] %[_,c|rfl] PySem.F.slot_list_ne PySem.F.entry_list_ne (PySem.F.args_list_ne_2 _ _) (SeqAt.list_neAt a b #[] #[] n i none none #[] #[] rfl λ_=>true) %[e,c,λj h=>absurd h (X7 j),by simp,.bl _,H,I,rfl|q] ⋯
 .have w:its.toArray.size≠0:=by
   rw[Zp,<-g];exact λq=>f (length_eq_zero_iff.mp q)
  rw[Zf f]at q;exact richCompare_meets_room (op:= .NotEq) %[_,e|rfl] %[_,c|rfl] PySem.F.slot_list_ne PySem.F.entry_list_ne (PySem.F.args_list_ne_2 _ _) (SeqAt.list_ne_lengthsAt a b its.toArray #[] n i none none #[] #[] (by simpa using w)) %[e,c,by simp,.bl true,H,I,rfl|q] ⋯
theorem Eb(a:cn k X.A):OpQ X (compareOp .NotEq) FO:=⟨FP a.units⟩
end
section
#where
theorem fI(I:List i->j->Shared->Prop):∀(xs:List i) (b:j) (s:Shared),I xs b s->
 (∀x r b s,I (x::r) b s->↥A (f x b) (λy s'=>match y with| .done c=>Q c s'| .yield c=>I r c s') E s)->(∀b s,I [] b s->Q b s)->↥A (forIn xs b f) Q E s
 |[],b,s,h,_,a=>by
  exact Z3 (a b s h)
 | x::r,b,s,h,d,a=>by
   rw[forIn_cons];refine Z2 (wpAny_mono (d x r b s h) (λy s' g=>?_) λ_ _ e=>e);cases y with
   | done c=>exact Z3 g
   | yield c=>exact fI I r c s' g d a
theorem Bv:∀as {Q:Bool->Shared->Prop},(∀b∈as,∃c,br w b c s.heap)->Q true s->↥A (setsQuiet as) Q E s:=by
 intro as Q h j;refine Z2 (fI (λr b s'=>(∀b∈r,∃c,br w b c s.heap)/\b=(none,())/\s'=s) as _ s %[h,rfl|rfl] ?_ ?_)
 .intro x r b s' %[f,rfl|rfl];have%[c,o,l,C,t,ss,m,n,p,q,G,v,d,H,y,B|g]:=f x Zm;refine Z2 (wpAny_setEntries_of m p y (Z2 ?_));rw[<-forIn_toList];refine fI (λr b a=>(∀e∈r,∃z u,e=(hashStr w z,Value.str z u))/\b=(none,())/\a=s') l.toList _ _ %[d,rfl|rfl] ?_ ?_
  .intro e r b a %[i,rfl|rfl];have%[z,u|rfl]:=i e Zm;exact Z3 %[λe h=>i e (Zk _ h),rfl|rfl]
  .intro b a %[_,rfl|rfl];exact Z3 %[λe h=>f e (Zk _ h),rfl|rfl]
 .intro b s' %[_,rfl|rfl];exact Z3 j
noncomputable def hsE(w:World)(p:Str×Tok):Int×Value:=(hashStr w p.1,.str p.1 p.2)
theorem br.texts{a:Addr}{h:Heap}{o:Obj}{c:Array (Int×Value)}(d:StrsAre (c.toList.map (·.2)) ss)(g:ss.Perm ks)(f:∀e∈c.toList,∃z u,e=(hashStr w z,Value.str z u))(xs:List (Int×Value))(b:xs.Perm c.toList):∃zs:List (Str×Tok),xs=zs.map (hsE w)/\(zs.map (·.1)).Perm ks:=by
 have all:∀l,(∀e∈l,∃z u,e=(hashStr w z,Value.str z u))->∃zs:List _,l=zs.map (hsE w):=λl=>by
  induction l with
  | nil=>exact λ_=>%[[]|rfl]
  | cons e l i=>
    intro h;have%[z,u|rfl]:=h e Zm;have%[zs|rfl]:=i λx b=>h x (Zk _ b)
    exact%[(z,u)::zs|rfl]
 have%[zs|rfl]:=all xs λe j=>f e (b.mem_iff.mp j)
 refine%[zs,rfl|?_];have%[ts,m|n]:=cr d (b.map _);have e:ts=zs.map (·.1):=by
  rw[<-m.strs,Ys,Ys];rfl
 exact e▸n.trans g
theorem qV{f:List Addr}{c:ZI}{Q:Array (Int×Value)->Shared->Prop}(U:br w a ks s.heap)(hO:∀b∈f,∃js,br w b js s.heap)(n:∀r,c=some r->r≠a/\br w r [] s.heap)
 (hQ:∀(zs:List (Str×Tok)) (d:Drawn) (h':Heap),(zs.map (·.1)).Perm ks->(∀b o,c≠some b->s.heap.get? b=some o->h'.get? b=some o)->(∀r,c=some r->br w r [] h')->Q (zs.map (hsE w)).toArray {s with heap:=h',drawn:=d}):
 ↥A (setWalkUnseen a f c) Q E s:=by
 have%[o,g,ep,t,ss,Y,ac,hd,J,hp,ae,L,I,hf,M|i]:=id U;have fin:∀(xs:List _) d h',xs.Perm g.toList->(∀b o,c≠some b->s.heap.get? b=some o->h'.get? b=some o)->(∀r,c=some r->br w r [] h')->Q xs.toArray {s with heap:=h',drawn:=d}:=λxs d h' hx u h2=>by
  have%[zs,rfl|hz]:=br.texts (a:=a) (h:=h') (o:=o) J hp L xs hx;exact hQ zs d h' hz u h2
 have walk:↥A (setWalk a) Q E s:=by
  refine Z2 (wpAny_setState_of Y hd hf ?_);show wpAny _ _ (if aS w=true then _ else _) _ _ _;by_cases N:aS w=true
  .rw[if_pos N];refine Z2 (wpAny_askSetting (Z3 ?_));have:=fin (pickOrder (w.params.setOrder a ep) g).toList s.drawn s.heap (qM _ _) (λ_ _ _ e=>e) λr e=>(n r e).2
   exact this
  .rw[if_neg N]
   split
   .exact Z2 (si g.size g.toList _ _ ∅ λys d p=>Z3 (fin ys d s.heap p (λ_ _ _ e=>e) λr e=>(n r e).2))
   .refine Z2 ?_;show wpAny _ _ (if(!t.led&&decide _)=true then unsupported _ else pure ()) _ _ _;rw[i,show aS w=false by simpa using N];refine Z3 (Z3 ?_);have:=fin g.toList s.drawn s.heap (.refl _) (λ_ _ _ e=>e) λr e=>(n r e).2
    exact this
 refine Z2 (wpAny_setState_of Y hd hf ?_);show wpAny _ _ (if(aS w||t.led&&t.plain||decide _)=true then _ else _) _ _ _;by_cases u:(aS w||t.led&&t.plain||decide (g.size<=1))=true
 .rw[if_pos u];exact walk
 .rw[if_neg u];refine Z2 (Bv _ (λb I=>?_) ?_)
  .rcases mem_cons.mp I with e|e
   .exact e▸%[_|U]
   .exact hO b e
  refine Z2 (wpAny_rule ?_);cases c with
  | none=>
    have:=fin g.toList s.drawn s.heap (.refl _) (λ_ _ _ e=>e) λr e=>(n r e).2
    exact Z3 this
  | some r=>
    have%[ne,o2,O,ag,q,ai,j,v,l,y,T,B,C,G,H,ab|m]:=n r rfl;dsimp only;refine Z2 (wpAny_setState_of j l H ?_)
    split
    .refine Z2 (wpAny_storeSet_of j l ?_ (fits_of_scanBound G));have:=fin g.toList s.drawn _ (.refl _) (λb o I e=>((SameBut.update s.heap r (Obj.putSet O {q with led:=q.led&&t.led,plain:=q.plain&&t.plain})).2 b λz=>I (by rw[z])).trans e) λr' e=>?_
     .exact Z3 this
     .cases e;exact(br.stored (t':={q with led:=q.led&&t.led,plain:=q.plain&&t.plain}) j v l y T B C G H (by rw[(M λz=>u (by rw[z];simp)),Bool.and_false]) (by rw[m,i,Bool.and_self])).2
    .have:=fin g.toList s.drawn s.heap (.refl _) (λ_ _ _ e=>e) λr e=>(n r e).2
     exact Z3 this
end
section
#where
theorem Dm(h:jH (Sum.inr z) (Value.str y u)=true):y=z:=by
 rcases bd h with⟨i,t',a,b⟩|⟨c,t',a,b⟩
 .lia
 grind
theorem uy{ks:ZB}(i:s.heap.get? a=some o)(l:o.data= .set b H t)(c:∀e∈b.toList,∃z u,e=(hashStr w z,Value.str z u))(C:b.size<scanBound)(m:t.fits b.size=true)
 (n:∀r,(r=none->∀e∈b.toList,∀u,e.2≠ .str z u)->(∀j,r=some j->∃u,b.toList[j]? =some (hashStr w z,.str z u))->Q r s):↥A (setFind a (.str z tk) (hashStr w z)) Q E s:=by
 have p:ElemsOf (aO prog w) b.toList:=qL c;have d:(aO prog w).is (Sum.inr z) (.str z tk)=true:=dU z tk;refine Z2 (wpAny_setState_of i l m ?_);dsimp only;rw[byScan_of rfl C p];refine Z2 (wpAny_rule (Z2 (wpAny_setScan_of d i l m p ?_)));cases v:List.findIdx? _ b.toList with
 | some j=>
   have%[B,f|_]:=List.findIdx?_eq_some_iff_getElem.mp v;dsimp only;rw[zero_add];refine Z3 (n _ (λh=>(nomatch h)) λI e=>?_);cases e;have%[y,u|g]:=c _ (Ye B);rw[g]at f;rw[Dm (u:=u) f]at g;exact%[u|by rw[Z4 B,g]]
 | none=>
   refine Z3 (n none (λ_ e G u q=>?_) λj e=>(nomatch e));have:=List.findIdx?_eq_none_iff.mp v e G;rw[q,show(aO prog w).is (Sum.inr z) (Value.str z u)=true from dU z u]at this;cases this
theorem zf{t:SetTable}(h:t.fits n=true)(hi:i<n):(t.drop i).fits (n-1)=true/\(t.drop i).led=t.led/\(t.drop i).plain=t.plain:=by
 unfold SetTable.fits at h ⊢;rw[Zx,beq_iff_eq,decide_eq_true_eq]at h;unfold SetTable.drop;have:t.place[i]? =some t.place[i]:=by simp
 rw[this];refine%[?_,rfl|rfl];rw[Zx,beq_iff_eq,decide_eq_true_eq];unfold SetTable.fill at h ⊢;simp only[SetTable.eraseAt,SetTable.insertAt,size_append,Array.size_extract,Xj]
 lia
theorem wp(h:i<a.size):(SetTable.eraseAt a i).toList=a.toList.eraseIdx i:=by
 rw[List.eraseIdx_eq_take_drop_succ,SetTable.eraseAt,Xe,toList_extract,toList_extract,Y0,Y0];simp;exact Zn ∅
theorem uz{ks:ZB}(I:br w a ks s.heap)(m:∀h' b,SameBut a s.heap h'->br w a (ks.erase z) h'->Q b (s>>>h')):↥A (setDiscardHashed a (.str z tk) (hashStr w z)) Q E s:=by
 have%[o,c,ep,t,ss,h,n,j,d,J,p,f,L,v,y|g]:=id I;refine Z2 (uy (ks:=ks) h j f L v λr M N=>?_);cases r with
 | none=>
   have O:z∉ks:=λq=>by
    have%[u|l]:=(eI d).mpr (J.mem_iff.mpr q);have%[e,B|T]:=Xq l;exact M rfl e B u T
   rw[List.erase_of_not_mem O]at m;exact Z3 (m s.heap false (SameBut.refl a s.heap) I)
 | some i=>
   have%[u|l]:=N i rfl;have hi:i<c.size:=(Xn l).1;have C:((hashStr w z,Value.str z u)::(SetTable.eraseAt c i).toList).Perm c.toList:=by
    rw[wp hi];have:=ip (xs:=c.toList) (hi);rwa[(Xn l).2]at this
   have%[ts,G|U]:=cr d (C.map _);cases G with
   | cons _ _ G=>
   have%[Y,d2|d3]:=zf v hi;have H:(SetTable.eraseAt c i).size=c.size-1:=by
    rw[<-Zb,<-Zb,<-C.length_eq];simp
   refine Z2 (wpAny_setState_of h j v ?_);dsimp only;refine Z2 (wpAny_storeSet_of h j (Z2 (wpAny_point (Z3 (m _ true (SameBut.update s.heap a _) (br.stored h n j G ((List.cons_perm_iff_perm_erase.mp (U.trans J)).2) (p.erase z) (λe B=>f e (C.mem_iff.mp (Zk _ B))) ?_ ?_ ?_ ?_).2)))) (fits_of_scanBound ?_))
   .lia
   .exact H▸Y
   .exact d3▸y ⋯
   .exact d2▸g
   .lia
end
theorem xj(h:STab.WF t a)(b:a.size<=t.mask):t.fits a.size=true:=by
 unfold SetTable.fits SetTable.fill;rw[h.size,h.dum];simpa using b
section
#where
def sP(w:World)(a:Addr)(n:Nat)(h:Heap):Prop:=∃o b t,h.get? a=some o/\o.ExactSet/\o.data= .set #[] b t/\t.place= #[]/\t.dummies= #[]/\t.led=(!aS w)/\(∃k,t.mask+1=2^k)/\7<=t.mask/\n<=t.mask
theorem sP.fits{t:SetTable}(a:t.place= #[])(b:t.dummies= #[]):t.fits (#[]:Array (Int×Value)).size=true:=by
 unfold SetTable.fits SetTable.fill;rw[a,b];simp
theorem Do{n:Nat}{Q:Unit->Shared->Prop}(a:s.heap.get? r=some (aT w))(f:n<=1000)(c:∀h',SameBut r s.heap h'->sP w r n h'->Q () (s>>>h')):↥A (setRoomFor r n) Q E s:=by
 have d:(SetTable.fresh 0 0 (!aS w)).fits _=true:=sP.fits rfl rfl;refine Z2 (wpAny_setState_of a rfl d ?_);show wpAny _ _ (match(if(0+n)*5>=7*3 then some ((0+n)*2)else none)with|some x=>setRelay r x|_=>pure ()) _ _ _;by_cases h:(0+n)*5>=7*3
 .rw[if_pos h];refine STab.relay_w a rfl d ∅ ⋯ λb t' P W l p g m2=>c _ (SameBut.update s.heap r _) ?_
  obtain rfl:b= #[]:=by
   have:=P.length_eq;simpa using this
  have e:=by
   have q:=get?_update_self (Obj.putSet #[] t') a (by rfl);rwa[putSet_of #[] t' rfl]at q
  exact%[_,_,t',e,%[rfl,rfl|rfl],rfl,Array.eq_empty_of_size_eq_zero W.size,W.dum,l,W.pow,W.big|⋯]
 .rw[if_neg h];exact Z3 (c s.heap (SameBut.refl r s.heap) %[_,_,_,a,%[rfl,rfl|rfl],rfl,rfl,rfl,rfl,%[3|rfl],Zi 7|by show n<=7;lia])
theorem Bw{ks:ZB}(M:br w a ks s.heap)(N:s.heap.get? r=some (aT w))(ne:r≠a)(h1:1<=ks.length)(h2:ks.length<=1000)(O:∀h',SameBut r s.heap h'->br w r ks h'->Q () (s>>>h')):↥A (setMerge r a) Q E s:=by
 have%[o,d,ep,t,ss,T,U,Y,n,G,z,B,hb,H,C|g]:=id M;have hn:d.size=ks.length:=by
  have q:=bE n;rw[Z6,Zb,G.length_eq]at q;exact q
 have pl:t.plain=false:=C ⋯;unfold setMerge;rw[if_neg (by simpa using ne)];refine Z2 (wpAny_setState_of T Y H ?_);dsimp only;rw[if_neg (λh:d.isEmpty=true=>by have:=Zo h;lia)];refine Z2 (Do N ⋯ λh' sb ⟨o2,ab,u,i,v,j,I,J,L,k2,b2,m2⟩=>Z2 (wpAny_setState_of (s:=(s>>>h')) i j (sP.fits I J) ?_));dsimp only;have m:u.fill=0:=by unfold SetTable.fill;rw[I,J];rfl
 have put:∀(b:Array (Int×Value)) (t':SetTable),b.toList.Perm d.toList->t'.fits b.size=true->t'.plain=false->t'.led=(!aS w)->↥A (storeSet r b t') Q E (s>>>h'):=λb t' P f p l=>by
  have sz:b.size=d.size:=by rw[<-Zb,P.length_eq,Zb]
  have%[ts,r1|r2]:=cr n (P.map (·.2));exact wpAny_storeSet_of (s:=(s>>>h')) i j (O _ (sb.trans (SameBut.update h' r _)) (br.stored (w:=w) i v j r1 (r2.trans G) z (λe he=>B e (P.mem_iff.mp he)) ⋯ f p l).2) (fits_of_scanBound ⋯)
 unfold SetTable.road;rw[m,if_neg (by decide)]
 split
 .exact put d _ (.refl _) H (by show(u.plain&&t.plain)=false;rw[pl,Bool.and_false]) (by show(u.led&&t.led)=_;rw[L,g,Bool.and_self])
 .have%[k|hk]:=k2;have%[t',c,e1,e2,e3,e4,e5,W|P]:=STab.laid_ok hk b2 d ⋯ u.finger u.moves _ _;have sz:(c.filterMap (d[·]?)).size=d.size:=by rw[<-Zb,P.length_eq,Zb]
  rw[e1];refine Z2 ?_;show wpAny _ A (if((c.filterMap _).size != d.size)=true then _ else pure _) _ E _;rw[if_neg (by simp[sz])];exact Z3 (put _ t' P (show t'.fits _=true from xj W (by rw[sz,e2];lia)) (by rw[e4,pl,Bool.and_false]) (by rw[e3,L,g,Bool.and_self]))
 .rename_i y
  split at y<;> cases y
end
theorem br.nd(S:br w a ks h):ks.Nodup:=by
 have%[_,_,_,_,_,_,_,_,_,_,h|_]:=S;exact h
section
#where
theorem sQ(c:br w b f s.heap)(d:Q true s):↥A (Builtin.Frozenset.isAnySet (.ref b)) Q E s:=by
 have%[o,g,h,t,ss,e,a|_]:=c;exact Z2 (wpAny_isInstance (b:=true) %[o,e|a.1] (by kernel_rfl) (Z3 d))
theorem kT(d:br w b e s.heap)(f:Q e.length s):↥A (Builtin.Frozenset.sizeOf b) Q E s:=by
 have%[o,u,v,t,ss,g,h,i,a,j,l,m,y,n,p|c]:=d;have r:=by
  have q:=bE a;rw[Z6,Zb,j.length_eq]at q;exact q
 exact Z2 (wpAny_setEntries_of g i n (Z3 (r▸f)))
theorem Bx(N:br w r ks s.heap)(O:br w b T s.heap)(ne:r≠b)(big:T.length<ks.length)(few:ks.length<=900)
 (hQ:∀h' d f,(∀c o,c≠r->s.heap.get? c=some o->h'.get? c=some o)->(∀x,x∈f↔x∈ks/\x∉T)->br w r f h'->Q () {s with heap:=h',drawn:=d}):↥A (Builtin.Frozenset.differenceUpdate nm r (.ref b)) Q E s:=by
 unfold Builtin.Frozenset.differenceUpdate;rw[if_neg (by simpa using ne.symm)];refine Z2 (sQ O ?_);rw[if_pos rfl];refine Z2 (Z3 (Z2 (kT O (Z2 (kT N ?_)))));rw[if_neg ⋯];have%[o,es,ep,t,ss,ho,aj,hd,al,hp,an,as,hb,hf,a0|ai]:=id O;have B:∀(s':Shared) (Q':Nat->Shared->Prop),s'.heap.get? b=some o->Q' ep s'->↥A (setEpoch b) Q' E s':=λs' Q' e q=>by
  unfold setEpoch;exact Z2 (wpAny_setState_of e hd hf (Z3 q))
 refine Z2 (B s _ ho (Z2 (wpAny_holding (Z2 (qV O (λc j=>%[ks|(Xp j)▸N]) (λ_ e=>(nomatch e)) λzs d h1 pz k1 _=>Z2 ?_)))));rw[<-forIn_toList];refine fI (λxs _ s'=>∃g rest h',zs=g++rest/\xs=rest.map (hsE w)/\s'={s with heap:=h',drawn:=d}/\(∀c o,c≠r->s.heap.get? c=some o->h'.get? c=some o)/\∃f,br w r f h'/\∀x,x∈f↔x∈ks/\x∉g.map (·.1)) _ _ _
  %[[],zs,h1,rfl,rfl,rfl,λc o _ e=>k1 c o ∅ e,ks,N.keep λo e=>k1 r o ∅ e|by simp] ?_ ?_
 .intro x xs _ s' %[g,rest,h',U,ex,rfl,Y,f,S|h];cases rest with
  | nil=>cases ex
  | cons p rest=>
  rw[Yr]at ex;injection ex with ab ac
  subst ab;refine Z2 (wpAny_holding (uz (z:=p.1) (tk:=p.2) (s:={s with heap:=h',drawn:=d}) S λh2 bb sb S2=>Z2 ?_));unfold Builtin.Frozenset.unchanged;have C:∀c o,c≠r->s.heap.get? c=some o->h2.get? c=some o:=λc o j e=>(sb.2 c j).trans (Y c o j e)
  refine Z2 (B {s with heap:=h2,drawn:=d} _ (C b o ne.symm ho) ?_);rw[if_neg ∅];refine Z3 (Z3 %[g++[p],rest,h2,by rw[U,Ze];rfl,ac,rfl,C,_,S2|λx=>?_]);rw[S.nd.mem_erase_iff,h,Zd,Yt,Yr,map_nil,Yz,not_or]
  constructor
  .exact λ⟨a,b,c⟩=>%[b,c|a]
  .exact λ⟨b,c,a⟩=>%[a,b|c]
 .intro _ s' %[g,rest,h',U,ex,rfl,Y,f,S|h];obtain rfl:rest=[]:=by
   cases rest with
   | nil=>rfl
   | cons p rest=>cases ex
  rw[Zz]at U;have h:∀x,x∈f↔x∈ks/\x∉T:=λx=>by rw[h,<-U,pz.mem_iff]
  have ae:f.length≠0:=λe=>by
   have:=STab.nodup_sub N.nd (m:=T) λx hx=>Decidable.byContradiction λq=>by
    have:=(h x).mpr %[hx|q];rw[length_eq_zero_iff.mp e]at this;cases this
   lia
  have sub:=STab.nodup_sub S.nd λx hx=>((h x).mp hx).1
  refine Z3 ?_;have%[o2,n,a1,t2,a2,u,G,v,i,H,I,J,a3,L,M|y]:=id S;have hn:=by
   have q:=bE i;rw[Z6,Zb,H.length_eq]at q;exact q
  refine Z2 (wpAny_setState_of u v L ?_);dsimp only
  split
  .rw[show SetTable.grown n.size=n.size*4 by unfold SetTable.grown;rw[if_neg ⋯]];refine STab.relay_w u v L ⋯ ⋯ λag t' P W l p m1 m2=>?_
   have sz:ag.size=n.size:=by rw[<-Zb,P.length_eq,Zb]
   have%[ts,r1|r2]:=cr i (P.map (·.2));exact hQ _ d f (λc o j e=>((SameBut.update h' r _).2 c j).trans (Y c o j e)) h (br.stored u G v r1 (r2.trans H) I (λe he=>J e (P.mem_iff.mp he)) ⋯ (xj W ⋯) (p▸M ⋯) (l▸y)).2
  .exact Z3 (hQ h' d f Y h S)
end
section
#where
theorem uA(a:Q (.ref ⇑s) (s>>>s.heap.push (aT w))):↥A (newSet (.type "set")) Q E s:=by
 exact Z2 (Z2 (wpAny_askSetting (Z3 (wpAny_newObj_type a))))
theorem uB(d:br w a ks s.heap)(e:Q (.type "set") s):↥A (Builtin.Frozenset.baseOf a) Q E s:=by
 have%[o,g,h,t,ss,f,c|_]:=d;exact Z2 (wpAny_isInstance (b:=true) %[o,f|c.1] (by kernel_rfl) (Z3 e))
theorem Dp(v:br w a ks s.heap)(C:br w b I s.heap)(few:ks.length<=900)
 (hQ:∀h' d i,(∀c o,s.heap.get? c=some o->h'.get? c=some o)->(∀x,x∈i↔x∈ks/\x∉I)->br w ⇑s i h'->Q (.ref ⇑s) {s with heap:=h',drawn:=d}):↥A (Builtin.Frozenset.difference nm a (.ref b)) Q E s:=by
 have lt:∀{c:Addr} {ls:ZB},br w c ls s.heap->c≠⇑s:=λ{c ls} h=>by
  have%[o,_,_,_,_,U|_]:=h;exact Zt (Zv U)
 have J:∀c o,s.heap.get? c=some o->(s.heap.push (aT w)).get? c=some o:=λc o e=>Z7 _ e
 have Y:(s.heap.push (aT w)).get? ⇑s=some (aT w):=Zj _ rfl;have S1:=v.keep λo e=>J a o e
 have O1:=C.keep λo e=>J b o e
 unfold Builtin.Frozenset.difference;dsimp only;refine Z2 (sQ C ?_);rw[if_neg (by decide)];refine Z2 (Z3 ?_);rw[if_neg ∅,if_pos rfl];refine Z2 (kT C (Z2 (kT v ?_)))
 generalize hG:s.heap.push (aT w)=G at J Y S1 O1
 split
 .refine Z2 (wpAny_rule (Z2 ?_));unfold Builtin.Frozenset.copyOf;refine Z2 (uB v (Z2 (uA ?_)));rw[hG];refine Z2 (Z3 (Z2 (Bw (s:=(s>>>G)) S1 Y (Ne.symm (lt v)) ⋯ ⋯ λh1 sb R1=>Z3 ?_)));have k1:∀c o,s.heap.get? c=some o->h1.get? c=some o:=λc o e=>(sb.2 c (Zt (Zv e))).trans (J c o e)
  exact Z2 (Z3 (Z2 (wpAny_holding (Bx (s:=(s>>>h1)) R1 (C.keep λo e=>k1 b o e) (Ne.symm (lt C)) ⋯ few λl d i k2 y M=>Z3 (hQ l d i (λc o e=>k2 c o (Zt (Zv e)) (k1 c o e)) y M)))))
 .refine Z2 (uB v (Z2 (uA ?_)));rw[hG];refine Z2 (Z3 ?_);have%[o,es,ep,t,ss,U,a1,hd,a2,hp,a3,a4,hb,hf,a5|al]:=id S1;have L:∀(s':Shared) (Q':Nat->Shared->Prop),s'.heap.get? a=some o->Q' ep s'->↥A (setEpoch a) Q' E s':=λs' Q' e q=>by
   unfold setEpoch;exact Z2 (wpAny_setState_of e hd hf (Z3 q))
  refine Z2 (L (s>>>G) _ U ?_);rw[if_pos rfl];refine Z2 (wpAny_holding (Z2 (qV (s:=(s>>>G)) S1 (λc B=>?_) (λr e=>⟨by cases e;exact Ne.symm (lt v),by cases e;exact br.empty Y⟩) λzs d h1 pz k1 r1=>Z2 ?_)))
  .simp only[Yw,X8,or_false]at B;rcases B with rfl|rfl
   .exact%[_|O1]
   .exact%[_|br.empty Y]
  rw[<-forIn_toList];refine fI (λxs _ s'=>∃f rest h',zs=f++rest/\xs=rest.map (hsE w)/\s'={s with heap:=h',drawn:=d}/\(∀c o,c≠⇑s->G.get? c=some o->h'.get? c=some o)/\∃i,br w ⇑s i h'/\i.length<=f.length/\∀x,x∈i↔x∈f.map (·.1)/\x∉I) _ _ _
   %[[],zs,h1,rfl,rfl,rfl,(λc o B e=>k1 c o (λq=>B (Za q).symm) e),[],r1 _ rfl,Zi _|by simp] ?_ ?_
  .intro x xs _ s' %[f,rest,h',H,ex,rfl,g,i,M,ml|y];cases rest with
   | nil=>cases ex
   | cons p rest=>
   rw[Yr]at ex;injection ex with ab N
   subst ab;have zl:zs.length=ks.length:=by rw[<-pz.length_eq,Z6]
   have pl:f.length<ks.length:=by rw[<-zl,H,Z9,Zr];lia
   rw[if_pos rfl];have m:∀(l:Heap) Qx,(∀c o,c≠⇑s->G.get? c=some o->l.get? c=some o)->Qx (.yield ⟨⟩) {s with heap:=l,drawn:=d}->↥A (Builtin.Frozenset.unchanged nm a ep>>= λ_=>pure (ForInStep.yield PUnit.unit)) Qx E {s with heap:=l,drawn:=d}:=λl Qx k2 q=>by
    refine Z2 ?_;unfold Builtin.Frozenset.unchanged;refine Z2 (L {s with heap:=l,drawn:=d} _ (k2 a o (lt v) U) ?_);rw[if_neg ∅];exact Z3 (Z3 q)
   have mem:∀x,x∈(f++[p]).map (·.1)↔x∈f.map (·.1)\/x=p.1:=λx=>by rw[Zd,Yt,Yr,map_nil,Yz]
   have%[o2,a6,a7,t2,a8,ac,an,ae,n,O,as,T,ag,ai,a0|aj]:=id O1;refine Z2 (wpAny_holding (Z2 (uy (ks:=I) (z:=p.1) (tk:=p.2) (g b o2 (lt C) ac) ae T ag ai λq q1 q2=>Z2 (Z3 ?_))));cases q with
   | none=>
     have hz:p.1∉I:=λz=>by
      have%[u|hu]:=(eI n).mpr (O.mem_iff.mpr z);have%[e,he|q3]:=Xq hu;exact q1 rfl e he u q3
     rw[if_pos (by rfl)];refine Z2 (kD (z:=p.1) (tk:=p.2) M (by rw[show scanBound=4096 from rfl];lia) λl bb sb M2=>Z3 ?_);have k2:=λc o B e=>(sb.2 c B).trans (g c o B e)
     refine m l _ k2 %[f++[p],rest,l,by rw[H,Ze];rfl,N,rfl,k2,_,M2,?_|λx=>?_]
     .rw[Z9,Yl]
      split
      .lia
      .rw[Z9,Yl];lia
     .rw[mem];by_cases hx:x=p.1
      .subst hx;refine%[λ_=>%[.inr rfl|hz]|λ_=>?_]
       split
       .rename_i h;exact h
       .exact Yv _ Zm
      .split
       .rw[y];exact%[λh=>%[.inl h.1|h.2]|λh=>%[h.1.resolve_right hx|h.2]]
       .rw[Yt,Yz,y];exact%[λh=>let h:=h.resolve_right hx;%[.inl h.1|h.2]|λh=> .inl %[h.1.resolve_right hx|h.2]]
   | some j=>
     have hz:p.1∈I:=by
      have%[u|hu]:=q2 j rfl;exact O.mem_iff.mp ((eI n).mp %[u|Xr %[_,Z8 hu|rfl]])
     rw[if_neg ∅];refine Z3 (m h' _ g %[f++[p],rest,h',by rw[H,Ze];rfl,N,rfl,g,i,M,by rw[Z9];lia|λx=>?_]);rw[y,mem];refine%[λh=>%[.inl h.1|h.2]|λh=>%[h.1.resolve_right λe=>h.2 (e▸hz)|h.2]]
  .intro _ s' %[f,rest,h',H,ex,rfl,g,i,M,ml|y];obtain rfl:rest=[]:=by
    cases rest with
    | nil=>rfl
    | cons p rest=>cases ex
   rw[Zz]at H;exact Z3 (Z3 (hQ h' d i (λc o e=>g c o (Zt (Zv e)) (J c o e)) (λx=>by rw[y,<-H,pz.mem_iff]) M))
end
theorem sR:entryFor table "set.__sub__"=some Builtin.«frozenset.__sub__»:=entryFor_alias (id':="frozenset.__sub__") (by kernel_rfl) rfl (by decide +kernel) (by kernel_rfl)
section
variable{X:Cx}
def By(w:World):R2:=λx y H Q=>asR x λa=>asR y λb=>∃ks d,H a=some (jU w a ks)/\H b=some (jU w b d)/\ks.length<=900/\∀l c,H l=none->(∀x,x∈c↔x∈ks/\x∉d)->c.Nodup->Q (.ref l) (upd H l (jU w l c))
theorem Dq:OpR X (binaryOp .Sub) (By X.w):=by
 intro pins s A H x y v u Q I l m h;have%[a,rfl|n]:=fB h;have%[b,rfl,ks,B,p,r,few|q]:=fB n;cases l;cases m;have%[S,_|_]:=(I.hok a _ p)
 have%[O,_|_]:=(I.hok b _ r)
 have e:∀{c:Addr} {i:ZB},br X.w c i s.heap->s.TypeIs (.ref c) _:=λ{c i} h=>by
  have%[o,C,E,t,ss,f,g|_]:=h;exact%[o,f|g.1]
 refine wpAny_binaryOp_same (e S) (e O) F.fills_set_sub F.slot_set_sub (wpAny_call_entry F.slot_set_sub (e S) sR (Z2 (Z2 (Z3 (Z3 (Z2 (Z2 (sQ S (sQ O (Z2 (Z3 (Z2 (Dp S O few λh' d j k w M=>Z3 %[_,rfl,by simp,.ref ⇑s,_,I.stoodS (o:=jU X.w ⇑s j) (I.keptS k rfl rfl) (Zi _) %[M,?_|λ_ _ z k1=>br.keep z k1],rfl|q _ j (I.hok.fresh (Zi _)) w M.nd])))))))))))) (F.args_set_sub_2 _ _));have%[o,_,_,_,_,f|_]:=M;exact%[o|f]
theorem FQ(h:X.w=w):OpQ X (binaryOp .Sub) (By w):=by subst h;exact⟨Dq⟩
end
theorem eB{X:Cx}(a:cn k X.A)(b:behindInMarks .NotIn o=false)(hi:QE X i ty)(c:QE X o d):QT X (.Compare i [.NotIn] [o] pos) (tB (rX ty d)):=
 ⟨zM (yp (by have:=a.units;lia) hi.h c.h) b⟩
open PySem PySem.Spec PyProof.Rows PySem.SeqAt
section
variable{X:Cx}
end
section
variable{X:Cx}{K:ZA}{pos:Pos}
theorem af(i:Nat){x:Str}(h:(X.N[i]?,X.env.scope.names.lookup x,x==("__debug__":Str),x==("__classdict__":Str))=(some x,some .local,false,false)):QE X (.Name x pos) (pO i):=by
 simp only[Prod.mk.injEq]at h;exact vn i h.1 (.inl h.2.1) h.2.2.1 h.2.2.2
theorem bZ(i:Nat){x:Str}(h:(X.N[i]?,X.env.scope.names.lookup x,x==("__debug__":Str),x==("__classdict__":Str))=(some x,some .cell,false,false)):QE X (.Name x pos) (pO i):=by
 simp only[Prod.mk.injEq]at h;exact vn i h.1 (.inr (.inl h.2.1)) h.2.2.1 h.2.2.2
theorem aH{mg:ZC}{j k:Nat}{x:Str}{ps:ZB}{sp:Sp}{p:Pos}{e:Expr}{a:List Expr}{t:TA}(C:Cal X.prog X.w K mg X.base j x ps sp)(b:cn k X.A)(h:(X.K,X.mg,X.env.kindOf x,Nat.ble j k,x==("__debug__":Str),(e::a).any bj)=(K,mg,some .globalImplicit,true,false,false))(c:QA X (e::a) t):QE X (.Call (.Name x p) (e::a) [] pos) (tK sp [] E0 t):=by
 simp only[Prod.mk.injEq]at h;have%[rfl,rfl|h]:=h;exact calE C b h.1 h.2.1 h.2.2.1 h.2.2.2 c
theorem GZ{mg:ZC}{j k:Nat}{x:Str}{ps:ZB}{sp:Sp}{p:Pos}{e:Expr}{a:List Expr}{t:TA}(C:De X.prog X.w K mg X.base j x ps sp)(c:uq K mg x)(b:cn k X.A)(h:(X.K,X.mg,X.env.kindOf x,Nat.ble (j+1) k,x==("__debug__":Str),(e::a).any bj)=(K,mg,some .globalImplicit,true,false,false))(d:QA X (e::a) t):QE X (.Call (.Name x p) (e::a) [] pos) (wO (cL mg x) sp [] E0 t):=by
 simp only[Prod.mk.injEq]at h;have%[rfl,rfl|h]:=h;exact GX C c b h.1 h.2.1 h.2.2.1 h.2.2.2 d
theorem uC{mg:ZC}{j k:Nat}{x m:Str}{ps:ZB}{sp:Sp}{a:Pos}{o:Expr}{b:TE}{pl:Sem Bool}(C:yY X.prog X.w K mg X.base j x m ps sp)(c:uq K mg x)(e:cn k X.A)(h:(X.K,X.mg,Nat.ble j k)=(K,mg,true))
 (g:eval (.Call (.Attribute o m a) [] [] pos) X.env=(do
  let d<-eval o X.env
  standAt a.atName
  let(f,first)<-holding [d] (getMethod d m pl)
  callWith pos f first (backTo pos (starEach [] X.env)) (backToKw pos (keywordEach [] X.env)))) (i:QE X o b):QE X (.Call (.Attribute o m a) [] [] pos) (wN (cL mg x) m sp [] E0 b ye):=by
 simp only[Prod.mk.injEq]at h;have%[rfl,rfl|h]:=h;exact FG C c e h g i
theorem cbO{x:Str}{id:String}{r:List V->Hp->VK->Prop}{p:Pos}{e:Expr}{a:List Expr}{t:TA}(b:cU X (.builtin id) r)(c:X.mg x=none)(d:bootBuiltins x=some (.builtin id))(h:(X.env.kindOf x,x==("__name__":Str),x==("__debug__":Str),(e::a).any bj)=(some .globalImplicit,false,false,false))(f:QA X (e::a) t):QE X (.Call (.Name x p) (e::a) [] pos) (tCB r t):=by
 simp only[Prod.mk.injEq]at h;exact cbE b h.1 c d h.2.1 h.2.2.1 h.2.2.2 f
theorem ctO{x:Str}{T:String}{r:List V->Hp->VK->Prop}{p:Pos}{e:Expr}{a:List Expr}{t:TA}(b:cU X (.type T) r)(c:X.mg x=none)(d:bootBuiltins x=some (.type T))(h:(X.env.kindOf x,x==("__name__":Str),x==("__debug__":Str),(e::a).any bj)=(some .globalImplicit,false,false,false))(f:QA X (e::a) t):QE X (.Call (.Name x p) (e::a) [] pos) (tCB r t):=by
 simp only[Prod.mk.injEq]at h;exact ctE b h.1 c d h.2.1 h.2.2.1 h.2.2.2 f
theorem bmO{o e:Expr}{c:List Expr}{f:TE}{t:TA}{name:Str}{a b:Pos}{T id:String}{r:V->List V->Hp->VK->Prop}(g:PlainAttrs T)(slot:Slot T name id)(d:typeOf (.builtin id)=pure (.type "method_descriptor"))(i:MtQ X id r)
 (h:(X.K,ik o,(e::c).any bj,Nat.blt (e::c).length 30,a.endLine==b.line)=(K,false,false,true,true)) (j:QE X o f) (l:QA X (e::c) t):QE X (.Call (.Attribute o name a) (e::c) [] b) (tBM K T r f t):=by
 simp only[Prod.mk.injEq]at h;have%[rfl|h]:=h;exact bmE rfl g slot d i h.1 h.2.1 h.2.2.1 h.2.2.2 j l
theorem aJ(i:Nat){x:Str}{e:Expr}{b:TE}{a:Pos}(c:X.N.Nodup)(h:(X.N[i]?,X.env.scope.names.lookup x,ii e)=(some x,some .local,false))(d:QE X e b):QS X (.Assign [.Name x a] e pos) (pP b (jI i)):=by
 simp only[Prod.mk.injEq]at h;exact n6 i c h.1 (.inl h.2.1) (.inr h.2.1) h.2.2 d
theorem aM(i:Nat){x:Str}(a:X.N.Nodup)(h:(X.N[i]?,X.env.scope.names.lookup x)=(some x,some .local)):QG X (.Name x pos) (jI i):=by
 simp only[Prod.mk.injEq]at h;exact qI i a h.1 (.inl h.2) (.inr h.2)
end
section
#where
variable{K:ZA}{x C:Addr}{name:Str}{v:Value}{ox:Obj}
end
section
variable{X:Cx}{o value:Expr}{nm:Str}{ta tv:TE}{C:Addr}{pos pos':Pos}
end
section
variable{P:Program}{w:World}{K:ZA}{mg:ZC}{base:Heap}{x qual:Str}{st:Stmt}{N ps:ZB}{k:Nat}{sp:Sp}
end
section
#version
end
section
variable{X:Cx}
end
section
#version
end
section
variable{X:Cx}
end
noncomputable def p9(L:List Addr)(c:Addr->Obj)(H:Hp):Hp:=λb=>if b∈L then(match H b with|some (.dK a)=>some (.frz (c b) (.dK a))|x=>x)else H b
theorem nD(h:b∈L)(e:H b=some (.dK a)):p9 L c H b=some (.frz (c b) (.dK a)):=by
 unfold p9;rw[if_pos h,e]
theorem oI(h:b∉L):p9 L a H b=H b:=if_neg h
theorem iz(h:∀a,H b≠some (.dK a)):p9 L d H b=H b:=by
 unfold p9;by_cases c:b∈L
 .rw[if_pos c];cases e:H b with
  | none=>rfl
  | some o=>cases o<;> first|rfl|exact(h _ e).elim
 .rw[if_neg c]
section
variable{P:Program}{w:World}{K:ZA}{mg:ZC}{base:Heap}{k:Nat}{f:Addr}{fd:FuncData}{ps:ZB}{sp:Sp}
theorem Dr(x:HOk P w H h):HOk P w (p9 L (λb=>(h.get? b).getD default) H) h:=by
 intro b o e;have st:∀{b:Addr} {o:HO},ce P w H h b o->ce P w (p9 L (λb=>(h.get? b).getD default) H) h b o:=λq=>q.stay (λ_ _ _ q=>q) (λc q=>by rw[iz (λa z=>by lia)];exact q) λc xs q=>by rw[iz (λa z=>by rw[q]at z;cases z)];exact q
 by_cases c:b∈L
 .by_cases d:∃a,H b=some (.dK a)
  .have%[a|d]:=d;rw[nD c d]at e;cases e;have%[i|g]:=(x b _ d).there;exact%[by rw[g];rfl|st (x b _ d)]
  .rw[iz (λa z=>d %[a|z])]at e;exact st (x b o e)
 .rw[oI c]at e;exact st (x b o e)
theorem FR(u:Un fs [] H c h h'):Un fs [] H (p9 L g c) h h':=by
 refine%[u.keep,u.slot,λb o e n d=>?_,u.there,λb xs e=>?_,λb o v e=>?_|λb q e=>?_]
 .have:=u.free b o e n d;rw[iz (λa z=>by lia)];exact this
 .have:=u.tups b xs e;rw[iz (λa z=>by rw[this]at z;cases z)];exact this
 .have:=u.frzs b o v e;rw[iz (λa z=>by rw[this]at z;cases z)];exact this
 .have%[m|this]:=u.tbls b q e;exact%[m|by rw[iz (λa z=>by rw[this]at z;cases z)];exact this]
theorem eW.freeze(F:eW P w K mg base CX0 k f fd ps sp):eW P w K mg base CX0 k f fd ps (λvs H Q E=>sp vs H (λv b=>∃L,∀c,Q v (p9 L c b)) E):=by
 refine%[λvs H Q E=>F.len vs H _ E|λA outer s H args us vs Q E d g h i j=>codeAny_mono (F.run A outer s H args us vs _ E d g h i j) λr s' a=>?_];cases r with
 | error e=>exact a
 | ok l=>
   cases l with
   | ret u=>
     have%[v,y,m,n,o,p,q,L|t]:=a;exact%[v,_,m,n,FR o,Dr p,q|t _]
   | next=>exact a
   | brk=>exact a
   | cont=>exact a
theorem eW.frozen(F:eW P w K mg base CX0 k f fd ps sp):eW P w K mg base CX0 k f fd ps (λvs H Q E=>∃d a,vs.length=ps.length/\H d=some (.dK a)/\∀o,sp vs (upd H d (.frz o (.dK a))) (λv J=>Q v (upd J d (.dK a))) E):=by
 refine%[λvs H Q E ⟨d,a,l,_⟩=>l|λA outer s H args us vs Q E L g y M ⟨d,a,_,B,N⟩=>?_];have%[o|O]:=(g.hok d _ B).there;have h:∀{b:Addr},H b=none->b≠d:=λe z=>by rw[z,B]at e;cases e
 have ne:∀{b:Addr} {u:HO},H b=some u->(∀q,u≠ .dK q)->b≠d:=λe n z=>by rw[z,B]at e;cases e;exact n _ rfl
 have st:∀{b:Addr} {u:HO},ce P w H s.heap b u->ce P w (upd H d (.frz o (.dK a))) s.heap b u:=λq=>q.stay (λ_ _ _ q=>q) (λc q=>(ao (ne q λ_ z=>nomatch z))▸q) λc xs q=>(ao (ne q λ_ z=>nomatch z))▸q
 have C:vB P w K mg base A outer s (upd H d (.frz o _)):=⟨g.frames,g.mod,λb i e=>%[(g.bs b i e).1|by rw[ao (h (g.bs b i e).2)];exact(g.bs b i e).2],g.bsz,g.funs,λb y=>by rw[ao (h (g.frf b y))];exact g.frf b y,λb u e=>by
  by_cases c:b=d
  .subst c;rw[aa]at e;cases e;exact%[O|st (g.hok b _ B)]
  .rw[ao c]at e;exact st (g.hok b u e),g.bare⟩
 refine codeAny_mono (F.run A outer s _ args us vs _ E L C y M (N o)) λr s' m=>?_
 cases r with
 | error e=>exact m
 | ok T=>
   cases T with
   | next=>exact m
   | brk=>exact m
   | cont=>exact m
   | ret u=>
     have%[v,G,U,Y,j,I,h5|h6]:=m;have hf:=j.frzs d o _ aa;have p:∀{b:Addr} {u:HO},G b=some u->(∀o q,u≠ .frz o q)->b≠d:=λe n z=>by grind
     have t:∀{b:Addr} {u:HO},ce P w G s'.heap b u->ce P w (upd G d (.dK a)) s'.heap b u:=λq=>q.stay (λ_ _ _ q=>q) (λc q=>(ao (p q λ_ _ z=>nomatch z))▸q) λc xs q=>(ao (p q λ_ _ z=>nomatch z))▸q
     refine%[v,_,U,Y,%[λb i e n=>j.keep b i e ((ao (h n))▸n),λb i e n=>j.slot b i e ((ao (h n))▸n),λb i e n hx=>?_,j.there,λb xs e=>?_,λb i u e=>?_|λb q e=>?_],λb u e=>?_,h5|h6]
     .rw[ao (h n)];exact j.free b i e ((ao (h n))▸n) hx
     .have n:=ne e λ_ z=>nomatch z
      rw[ao n];exact j.tups b xs ((ao n)▸e)
     .have n:=ne e λ_ z=>nomatch z
      rw[ao n];exact j.frzs b i u ((ao n)▸e)
     .have n:=ne e λ_ z=>nomatch z
      rw[ao n];exact j.tbls b q ((ao n)▸e)
     .by_cases c:b=d
      .subst c;rw[aa]at e;cases e;exact t (I b _ hf).2
      .rw[ao c]at e;exact t (I b u e)
end
noncomputable def Itk(d:Addr)(o:Obj)(a:List (Key×V)):It:=⟨λi H=>H d=some (.frz o (.dK a))/\i<a.length,λi H x b=>b=H/\∃k v,a[i]? =some (k,v)/\x=kV k,λi H=>H d=some (.frz o (.dK a))/\a.length<=i⟩
def qW(c:TE):TI:=λe H R=>c e H λv b=>∃d o a,v= .ref d/\b d=some (.frz o (.dK a))/\R (Itk d o a) b
theorem xk(h:jH k v=true):aP (kV k) v:=by
 rcases bd h with⟨i,t,rfl,rfl⟩|⟨x,t,rfl,rfl⟩
 .exact%[t|rfl]
 .exact%[t|rfl]
theorem Bz{a:List _}{vs:List _}(r:KV a vs){i:Nat}{k:Key}{v:V}(e:a[i]? =some (k,v)):∃u,vs[i]? =some (k,u)/\aP v u:=by
 induction r generalizing i with
 | nil=>cases e
 | @cons p q ps qs b t c=>
   cases i with
   | zero=>
     obtain rfl:p=(k,v):=Za e;exact%[q.2,by rw[show k=q.1 from b.1];rfl|b.2]
   | succ i=>exact c e
theorem je(r:KV a vs):a.length=vs.length:=by
 induction r with
 | nil=>rfl
 | cons _ _ b=>simp_all
section
variable{P:Program}{w:World}{K:ZA}{tg:Expr}
theorem sS{X:Cx}(I:Inv X pins n H s)(e:H d=some (.frz o (.dK a)))(b:o.data= .dict f h):∃vs,KV a vs/\s.heap.DictAt (aO X.prog X.w) d vs h:=by
 have%[g,p,q,vs,r,t,i,j,g',l,c|m]:=I.hok d _ e;rw[g]at g';cases g';rw[b]at c;cases c;exact%[vs,r,_,f,g,l,b|m]
theorem BA(d it:Addr)(o:Obj)(kvs:List _):nL P w K tg (Itk d o kvs) [it] it (λi h=>∃es ep,o.data= .dict es ep/\h.IsKeyIter it d i kvs.length ep) where
 mem:=by simp
 obj:=λi h st b hb=>by
  have e:=by simpa using hb
  subst e;have%[_,_,_,o,e,c|d]:=st;exact%[o,e|λv z=>by rw[d]at z;cases z]
 keep:=λi h h' ⟨es,ep,ho,st⟩ k=>%[es,ep,ho|st.at λo e=>k it ∅ o e]
 item:=by
  intro X hP hw hK hc i pins s σ H E I hf st hg;subst hP hw hK;have%[es,ep,ho|st]:=st;have%[hd|hi]:=hg;have%[vs,r|da]:=sS I hd ho;have ln:=je r;have%[u,hu|ru]:=Bz r (Z4 hi);have%[f0,f1,f2,f3,f4|f5]:=hf it ∅;rw[ln]at st;refine wpAny_pyNext_dict_item st da hu λkey h' hk st' sb=>?_
  rw[<-ln]at st';have%[o',e,c|dd]:=id st';exact%[key,rfl|qr e c dd (by decide) %[_,H,(I.turned (λb o hb e=>(sb.2 b hb).trans e) f0 f1 f3 f4 f5),xk hk,%[rfl,_,_,Z4 hi|rfl],%[es,ep,ho|st']|λb hb=>(hf b hb).1]]
 done:=by
  intro X hP hw hK hc i pins s σ H E I hf st hg;subst hP hw hK;have%[es,ep,ho|st]:=st;have%[hd|hi]:=hg;have%[vs,r|da]:=sS I hd ho;have ln:=je r;have%[f0,f1,f2,f3,f4|f5]:=hf it ∅;rw[ln]at st;exact wpAny_pyNext_dict_end (I.ok.hd hc) st da (Xm ⋯) λh' eb=>%[rfl|I.turned (λb o hb e=>eb b o hb e) f0 f1 f3 f4 f5]
 self:=λ_ _ _ _ _ ⟨_,_,_,st⟩ h=>wpAny_pyIter_keyiter st h
theorem Ds{X:Cx}(n:PE X l p):PI X tg l (qW p):=by
 intro pins s t H R I h;refine thP (n pins s t H _ I h) λv c x u a y z=>?_
 have%[d,o,f,e,A|q]:=z;subst e;cases y;have%[g,M,B,vs,r,C,i,j,g',E,m|G]:=a.hok d _ A;have J:c.heap.DictAt _ d vs j:=%[C,i,g',E,m|G]
 rw[g]at g';cases g';refine wpAny_pyIter_dict B J %[⇑c,[⇑c],_,_,u,rfl,a.kept λb o e=>Z7 _ e,BA d _ o f,%[i,j,m,_,Zj _ rfl,rfl|by rw[je r];rfl],λb L=>?_|q];have e:=by simpa using L
 subst e;exact a.fpOk (Zi _) (a.hok.fresh (Zi _))
theorem xo{X:Cx}(a:QE X l b):QI X tg l (qW b):=⟨Ds a.h⟩
end
noncomputable def Iti(d:Addr)(o:Obj)(a:List (Key×V)):It:=⟨λi H=>H d=some (.frz o (.dK a))/\i<a.length,λi H v b=>∃k x T,a[i]? =some (k,x)/\H T=none/\v= .ref T/\b=upd H T (.tup [kV k,x]),λi H=>H d=some (.frz o (.dK a))/\a.length<=i⟩
def wq(c:TE):TI:=λe H R=>c e H λv b=>∃d o a,v= .ref d/\b d=some (.frz o (.dK a))/\R (Iti d o a) b
theorem sT:entryFor table "dict_itemiterator.__iter__"=some Builtin.«dict_keyiterator.__iter__»:=
 entryFor_alias (id (Eq.refl (fastTable "dict_itemiterator.__iter__"))) (Eq.refl ("dict_itemiterator.__iter__".cutAt '#')) (by decide +kernel) (id (Eq.refl (fastTable "dict_keyiterator.__iter__")))
section
variable{P:Program}{w:World}{K:ZA}{elts:List Expr}{kt:Nat}{tp:Pos}
theorem wt(d it:Addr)(o:Obj)(kvs:List (Key×V)):nL P w K (.Tuple elts kt tp) (Iti d o kvs) [it] it (λi h=>∃es ep ok ov,o.data= .dict es ep/\IsItemIter h it d i kvs.length ep ok ov) where
 mem:=by simp
 obj:=λi h st b hb=>by
  have e:b=it:=by simpa using hb
  subst e;have%[_,_,_,_,_|e]:=st;exact%[_,e|λv z=>nomatch z]
 keep:=λi h h' ⟨es,ep,ok,ov,ho,st⟩ k=>%[es,ep,ok,ov,ho|k it ∅ _ st]
 item:=by
  intro X hP hw hK hc i pins s σ H E I hf st hg;subst hP hw hK;have%[es,ep,ok,ov,ho|st]:=st;have%[hd|hi]:=hg;have%[vs,r|da]:=sS I hd ho;have ln:=je r;have%[u,hu|ru]:=Bz r (Z4 hi);have ilt:it<⇑s:=Zv st;rw[ln]at st;refine wpAny_pyNext_items_item st da hu λkey h1 hk st1 ht1 hz1 hk1=>%[_,rfl|wpAny_letOwnedTupleGo_items (s:=(s>>>h1)) st1 λh2 st2 sb2=>?_]
  replace sb2:SameBut it h1 h2:=sb2;have kk:∀b o,b∉[it]->s.heap.get? b=some o->h2.get? b=some o:=λb o hb q=>by
   have hb:b≠it:=by simpa using hb
   exact(sb2.2 b hb).trans (hk1 b o hb q)
  have J:Inv X pins σ H (s>>>h2):=I.moved hf kk;have hT:=(sb2.2 _ (X2 ilt)).trans ht1;have I2:Inv X pins σ (upd H ⇑s (.tup _)) _:=
   I.stood J (Zi _) %[by show 2<=sizeLine;decide,[key,u],.cons (xk hk) (.cons ru .nil),_,hT,rfl,_|rfl]
  rw[<-ln]at st2;refine%[.ref ⇑s,_,I2,rfl,%[_,_,_,Z4 hi,I.fresh,rfl|rfl],%[es,ep,_,_,ho|st2]|λb hb=>?_];rw[ao ((by simpa using hb)▸Zt ilt)];exact(hf b hb).1
 done:=by
  intro X hP hw hK hc i pins s σ H E I hf st hg;subst hP hw hK;have%[es,ep,ok,ov,ho|st]:=st;have%[hd|hi]:=hg;have%[vs,r|da]:=sS I hd ho;have ln:=je r;rw[ln]at st;refine wpAny_pyNext_items_end (I.ok.hd hc) st da (Xm ⋯) λh1 xb=>%[rfl|I.moved hf λb o hb q=>?_]
  exact xb b o (by simpa using hb) q
 self:=λA i s Q E ⟨_,_,_,_,_,st⟩ h=>by
  have hT:s.TypeIs (.ref it) _:=%[_,st|rfl]
  exact wpAny_pyIter_slot hT PySem.F.slot_dict_itemiterator_iter (wpAny_call_entry PySem.F.slot_dict_itemiterator_iter hT sT (Z3 %[.ref it,rfl,"dict_itemiterator",_,hT,PySem.F.slot_dict_itemiterator_next.lookup|h]) (PySem.F.args_dict_itemiterator_iter_1 _))
theorem BB{X:Cx}(n:ik o=false)(c:(i.endLine==j.line)=true)(G:QE X o J):QI X (.Tuple elts kt tp) (.Call (.Attribute o "items" i) [] [] j) (wq J):=by
 refine⟨λpins s z H R I h=>?_⟩;refine wpAny_Call_method0_late (fX n) c (thP (G.h pins s z H _ I h) λv a x p l L M=>?_);have%[d,t,f,e,u|q]:=M;subst e;cases L;have g:cf p d (kV (.inr Str.empty)) (bJ f (.inr Str.empty)):= .inl %[f,_,.inr %[t|u],rfl|rfl];refine%["dict",_,plainAttrs_dict,PySem.F.slot_dict_items,PySem.F.type_dict_items,mH l g,tO l g|Calls.callWith_builtin rfl (PySem.evalArgs_none ?_)];have%[hz,N,vs,r|A]:=nO l.hok (.inr %[t|u]);refine call_meetsIn PySem.F.slot_dict_items A.typeIs PySem.F.entry_dict_items (PySem.F.args_dict_items_1 _) (meets_dict_items (aO X.prog X.w) d N) %[%[vs|A]|?_];have m:Inv X pins z p {a with heap:=a.heap.push {cls:= .type "dict_items",data:= .fields #[.ref d]}}:=l.kept (t':=a.toks) λb o e=>Z7 _ e
 have%[O,_,_,y,Q,T,B,C,g',U,E|Y]:=m.hok d _ u;have da:Heap.DictAt (aO X.prog X.w) (a.heap.push {cls:= .type "dict_items",data:= .fields #[.ref d]}) d y C:=%[T,B,g',U,E|Y]
 rw[O]at g';cases g';refine wpAny_pyIter_items (s:={a with heap:=a.heap.push {cls:= .type "dict_items",data:= .fields #[.ref d]}}) %[_,Zj _ rfl,rfl|rfl] da ?_;refine%[_,[_],_,_,p,rfl,(m.kept (t':=a.toks) λb o e=>Z7 _ e),wt d _ t f,%[B,C,_,_,E|by rw[je Q];exact Zj _ rfl],λb n=>?_|q];have e:b=(a.heap.push {cls:= .type "dict_items",data:= .fields #[.ref d]}).objs.size:=by simpa using n
 subst e;exact m.fpOk (Zi _) (m.hok.fresh (Zi _))
end
section
variable{X:Cx}
theorem G0:MtQ X "list.pop" GH:=⟨E4⟩
def G1:V->List V->Hp->VK->Prop:=λx vs H Q=>asR x λa=>∃b,vs=[.ref b]/\∃c more,a≠b/\H a=some (.dK c)/\H b=some (.dK more)/\c.length+more.length<=sizeLine/\Q .non (upd H a (.dK (lI c more)))
theorem FS:MtM X "dict.update" G1:=by
 intro pins s B H x vs v us Q I m n h;have%[a,rfl,b,rfl,o,more,ne,g,p,i|q]:=fB h;cases m;have%[u,rfl|r]:=n.one;cases r;have%[z,t,vs,d|j]:=mG I.hok g;have%[C,e,w,c|f]:=mG I.hok p;exact call_meetsIn PySem.F.slot_dict_update j.typeIs PySem.F.entry_dict_update (PySem.F.args_dict_update_2 _ _) (meets_dict_update _ a b ne e) %[vs,w,j,f,by rw[<-je d,<-je c];exact i|λh' l E y=>%[.non,_,nv I (g▸True.intro) y (let⟨q,_,_,A,_⟩:=l;%[q|A]) (vE (Yh (jJ _ _) i) t (KV.merge c d) l),rfl|q]]
theorem BC:MtQ X "dict.update" G1:=⟨FS⟩
def Ec:V->List V->Hp->VK->Prop:=λx vs H Q=>asR x λa=>∃k,vs=[kV k]/\∃b,H a=some (.dK b)/\Q ((bJ b k).getD .non) H
theorem Dt:MtM X "dict.get" Ec:=by
 intro pins s l H x vs v us Q I f g h;have%[a,rfl,k,rfl,b,e|q]:=fB h;cases f;have%[m,rfl|i]:=g.one;have%[z,j,vs,c|d]:=mG I.hok e;exact call_meetsIn slot_dict_get d.typeIs PySem.F.entry_dict_get (PySem.F.args_dict_get_2 _ _) (meets_dict_get _ a (mF i) j) %[_,d.mapOf,(bJ b k).getD .non,H,I.tok _,(c.val k).getD rfl|q]
theorem FT:MtQ X "dict.get" Ec:=⟨Dt⟩
end
theorem Cal.freeze{P:Program}{K:ZA}(C:Cal P w K mg base k x ps sp):Cal P w K mg base k x ps (λvs H Q E=>sp vs H (λv a=>∃L,∀b,Q v (p9 L b a)) E):=by
 have%[f,c,F|r]:=C.ex;exact%[f,c,F.freeze|r]
theorem Cal.imp{P:Program}{K:ZA}(C:Cal P w K mg base k x ps sp)(h:∀vs H Q E,a vs H Q E->sp vs H Q E):Cal P w K mg base k x ps a:=by
 have%[f,b,F|r]:=C.ex;exact%[f,b,F.imp h|r]
theorem Cal.frozen{P:Program}{K:ZA}(C:Cal P w K mg base k x ps sp):Cal P w K mg base k x ps (λvs H Q E=>sp vs H Q E\/∃d a,vs.length=ps.length/\H d=some (.dK a)/\∀o,sp vs (upd H d (.frz o (.dK a))) (λv i=>Q v (upd i d (.dK a))) E):=by
 have%[f,j,F|r]:=C.ex;refine%[f,j,%[λvs H Q E h=>h.elim (F.len vs H Q E) (F.frozen.len vs H Q E)|λA outer s H args us vs Q E b c e g h=>h.elim (F.run A outer s H args us vs Q E b c e g) (F.frozen.run A outer s H args us vs Q E b c e g)]|r]
theorem uD{a:List (Key×V)}{g:TG}{n:TS}{D:lF}(Pv:Nat->St->Hp->Prop)(s:Pv 0 b H)(t:∀i b H,i<=a.length->Pv i b H->H d=some (.frz o (.dK a)))
 (u:∀i k v b H,a[i]? =some (k,v)->Pv i b H->g (kV k) b H λc l=>n {D with nx:=Pv (i+1),ct:=Pv (i+1),bk:=D.nx} c l) (w:∀b H,Pv a.length b H->D.nx b H):
 ∃W:Nat->Nat->St->Hp->Prop,(∃m,W 0 m b H)/\∀i m b H,W i m b H->
  ((Itk d o a).stop i H/\D.nx b H)\/((Itk d o a).go i H/\∃N:St->Hp->Prop,(∀f h,N f h->∃r,r<m/\W (i+1) r f h)/\∀x h,(Itk d o a).yld i H x h->g x b h λc l=>n {D with nx:=N,ct:=N,bk:=D.nx} c l):=by
 refine%[λi m b H=>m=a.length-i/\i<=a.length/\Pv i b H,%[a.length,by simp,Xf _|s]|?_];intro i m b H %[rfl,hi|p];have q:=t i b H hi p;by_cases j:i<a.length
 .refine .inr %[%[q|j],Pv _,λf h z=>%[a.length-(i+1),⋯,rfl,j|z]|λx h y=>?_];have%[e,k,v,y|rfl]:=y;subst e;exact u i k v b _ y p
 .have e:i=a.length:=by lia
  subst e;exact .inl %[%[q|Zi _]|w b H p]
theorem zg{a:List (Key×V)}{g:TG}{r:TS}{D:lF}(Pv:Nat->St->Hp->Prop)(t:Pv 0 b H)(u:∀i b H,i<=a.length->Pv i b H->H d=some (.frz o (.dK a)))
 (w:∀i k v T b H,a[i]? =some (k,v)->Pv i b H->H T=none->g (.ref T) b (upd H T (.tup [kV k,v])) λc n=>r {D with nx:=Pv (i+1),ct:=Pv (i+1),bk:=D.nx} c n) (z:∀b H,Pv a.length b H->D.nx b H):
 ∃W:Nat->Nat->St->Hp->Prop,(∃m,W 0 m b H)/\∀i m b H,W i m b H->
  ((Iti d o a).stop i H/\D.nx b H)\/((Iti d o a).go i H/\∃N:St->Hp->Prop,(∀h j,N h j->∃s,s<m/\W (i+1) s h j)/\∀x j,(Iti d o a).yld i H x j->g x b j λc n=>r {D with nx:=N,ct:=N,bk:=D.nx} c n):=by
 refine%[λi m b H=>m=a.length-i/\i<=a.length/\Pv i b H,%[a.length,by simp,Xf _|t]|?_];intro i m b H %[rfl,hi|p];have q:=u i b H hi p;by_cases l:i<a.length
 .refine .inr %[%[q|l],Pv _,λh j A=>%[a.length-(i+1),⋯,rfl,l|A]|λx j y=>?_];have%[k,v,T,y,f,rfl|rfl]:=y;exact w i k v T b H y p f
 .have e:i=a.length:=by lia
  subst e;exact .inl %[%[q|Zi _]|z b H p]
section
variable{X:Cx}
end
section
variable{prog:Program}{w:World}{A:Around}{R:Result->Shared->Prop}{I S:Addr}{fp wr:List Addr}{n:Nat}{P:Nat->Value->Prop}{St:Nat->Heap->Prop}{val:Nat->Int}{kn:Str}{d:Value}
end
section
variable{X:Cx}{e v:Expr}{te tv:TE}{p pos kpos:Pos}
end
section
variable{X:Cx}{K:ZA}{e v:Expr}{te tv:TE}{p pos kpos:Pos}
end
section
variable{prog:Program}{w:World}{A:Around}{s:Shared}{E:ZD}
end
section
variable{X:Cx}{K:ZA}
end
def FU:V->List V->Hp->VK->Prop:=λx ys H Q=>∃z y,x= .str z/\ys=[V.str y]/\y.length<=1000/\z.length<=1000/\Q (.str (Txt.join z (signs y))) H
theorem xp{X:Cx}(a:X.calm=true):MtQ X "str.join" FU:=⟨by
 intro pins s i H x ys v us Q I b c h;have%[z,y,rfl,rfl,d,e|q]:=h;have%[j|rfl]:=(show∃t,v=Value.str z t from b)
 have%[u,rfl|f]:=dE c;have%[t|rfl]:=(show∃t,u=Value.str y t from f)
 exact PySem.SC.joinStr (I.ok.hd a) (joinOk_signsN d e (by decide)) λh' k t' g=>%[.str _,H,I.kept (t':=k) g,%[_|rfl]|q]⟩
def rGeS:R2:=λx y H Q=>∃i j,x= .str i/\y= .str j/\Q (.bl (!aV i j)) H
theorem G3{X:Cx}:OpQ X (compareOp .GtE) rGeS:=⟨by
 intro pins s c H x y v u Q I a b h;have%[i,j,rfl,rfl|q]:=h;have%[t|rfl]:=a;have%[t'|rfl]:=b;exact PySem.P.ge_str (aR I q rfl)⟩
end L2
namespace Cut
open PySem L2
inductive eJ (S:Str->Str->Prop):Str->Str->Prop
 | refl (x:Str):eJ S x x
 | step {x y z:Str}:eJ S x y->(S y z\/S z y)->eJ S x z
theorem eJ.trans{S:Str->Str->Prop}(h:eJ S x y)(g:eJ S y z):eJ S x z:=by
 induction g with
 | refl=>exact h
 | step _ s a=>exact .step a s
theorem eJ.one{S:Str->Str->Prop}(h:S x y\/S y x):eJ S x y:= .step (.refl x) h
theorem eJ.symm{S:Str->Str->Prop}(h:eJ S x y):eJ S y x:=by
 induction h with
 | refl=>exact .refl _
 | step _ s a=>exact(eJ.one s.symm).trans a
theorem eJ.mono{S R:Str->Str->Prop}(m:∀a b,S a b->R a b)(h:eJ S x y):eJ R x y:=by
 induction h with
 | refl=>exact .refl _
 | step _ s c=>exact .step c (s.imp (m _ _) (m _ _))
theorem eJ.within{S:Str->Str->Prop}{p:Str->Prop}(w:∀a b,S a b->p a/\p b)(h:eJ S x y)(c:p x):p y:=by
 induction h with
 | refl=>exact c
 | step _ s _=>
   rcases s with s|s
   .exact(w _ _ s).2
   .exact(w _ _ s).1
def dw(S:Str->Str->Prop)(z r:Str):Prop:=eJ S z r/\∀y,eJ S z y->aV y r=false
theorem dw.one{S:Str->Str->Prop}(h:dw S z r)(g:dw S z a):r=a:=by
 by_cases e:r=a
 .exact e
 .have:=fz (g.2 _ h.1) e;rw[h.2 _ g.1]at this;cases this
structure bL (ls:ZB) (f r:Str->Str) (S:Str->Str->Prop):Prop where
 ws:∀a b,S a b->a∈ls/\b∈ls
 fin:∀z∈ls,f z∈ls
 rin:∀z∈ls,r z∈ls
 rf:∀z∈ls,r (f z)=r z
 fr:∀z∈ls,f (r z)=r z
 fix:∀z∈ls,f z=z->r z=z
 dec:∀z∈ls,f z≠z->aV (f z) z=true
 le:∀z∈ls,aV z (r z)=false
 cl:∀x∈ls,∀y∈ls,r x=r y↔eJ S x y
theorem bL.rr{S:Str->Str->Prop}(F:bL a f r S)(h:z∈a):r (r z)=r z:=F.fix _ (F.rin z h) (F.fr z h)
theorem bL.conn{S:Str->Str->Prop}(F:bL a f r S)(h:z∈a):eJ S z (r z):=(F.cl z h _ (F.rin z h)).mp (F.rr h).symm
theorem bL.least{S:Str->Str->Prop}(F:bL b f r S){z:Str}(h:z∈b):dw S z (r z):=by
 refine%[F.conn h|λy c=>?_];have a:=c.within F.ws h;rw[(F.cl z h y a).mpr c];exact F.le y a
theorem bL.start(a:ZB):bL a id id (λ_ _=>False):=by
 refine%[λ_ _ h=>h.elim,λz h=>h,λz h=>h,λ_ _=>rfl,λ_ _=>rfl,λ_ _ _=>rfl,λz _ h=>(h rfl).elim,λz _=>fZ z|λx b y d=>%[λe=>?_|λc=>?_]]
 .rw[show x=y from e];exact .refl _
 .induction c with
  | refl=>rfl
  | step _ s _=>simp_all
theorem bL.join{S:Str->Str->Prop}(F:bL j f r S){a b M m:Str}(q:a∈j)(t:b∈j)(A:M=if aV (r a) (r b)=true then r b else r a)(B:m=if aV (r b) (r a)=true then r b else r a):
 bL j (λx=>if x=M then m else f x) (λx=>if r x=M then m else r x) (λx y=>S x y\/(x=a/\y=b)):=by
 have g:(M=r a/\m=r b)\/(M=r b/\m=r a):=by
  rw[A,B];cases e:aV _ _ with
  | true=>
    have:aV (r b) (r a)=false:=by
     cases i:aV _ _ with
     | false=>rfl
     | true=>have:=gW e i;rw[fZ]at this;cases this
    exact this▸ .inr %[rfl|rfl]
  | false=>
    cases i:aV _ _ with
    | true=>exact .inl %[rfl|rfl]
    | false=>
      have:r a=r b:=by
       by_cases h:r a=r b
       .exact h
       .have:=fz e h;rw[i]at this;cases this
      exact this▸ .inl %[rfl|rfl]
 have lt:m≠M->aV m M=true:=by
  rw[A,B];cases e:aV _ _ with
  | true=>
    cases i:aV _ _ with
    | true=>intro h;exact(h rfl).elim
    | false=>intro _;exact e
  | false=>
    cases i:aV _ _ with
    | true=>intro _;exact i
    | false=>intro h;exact(h rfl).elim
 have Q:=F.rin a q;have T:=F.rin b t;have C:m∈j:=by rcases g with⟨_,h⟩|⟨_,h⟩<;> rw[h]<;> assumption
 have E:r M=M:=by rcases g with⟨h,_⟩|⟨h,_⟩<;> rw[h]<;> apply F.rr<;> assumption
 have L:r m=m:=by rcases g with⟨_,h⟩|⟨_,h⟩<;> rw[h]<;> apply F.rr<;> assumption
 have N:eJ (λx y=>S x y\/(x=a/\y=b)) M m:=by
  have G:eJ (λx y=>S x y\/(x=a/\y=b)) _ _:=(((F.conn q).mono λ_ _=> .inl).symm.trans (.one (.inl (.inr %[rfl|rfl])))).trans ((F.conn t).mono λ_ _=> .inl);rcases g with⟨l,n⟩|⟨l,n⟩
  .rw[l,n];exact G
  .rw[l,n];exact G.symm
 have p:∀x∈j,eJ _ x (if r x=M then m else r x):=λx w=>by
  have c:=(F.conn w).mono (R:=λx y=>S x y\/(x=a/\y=b)) λ_ _=> .inl
  by_cases e:r x=M
  .rw[if_pos e];rw[e]at c;exact c.trans N
  .rw[if_neg e];exact c
 have H:(if r a=M then m else r a)=(if r b=M then m else r b):=by
  rcases g with⟨l,n⟩|⟨l,n⟩
  .rw[if_pos l.symm];by_cases e:r b=M
   .rw[if_pos e]
   .rw[if_neg e];exact n
  .rw[if_pos l.symm];by_cases e:r a=M
   .rw[if_pos e]
   .rw[if_neg e];exact n.symm
 refine%[λx y h=>?_,λz d=>?_,λz d=>?_,λz d=>?_,λz d=>?_,λz d h=>?_,λz d h=>?_,λz d=>?_|λx w y I=>%[λe=>?_|λc=>?_]]
 .rcases h with h|⟨rfl,rfl⟩
  .exact F.ws x y h
  .exact%[q|t]
 .split
  .exact C
  .exact F.fin z d
 .split
  .exact C
  .exact F.rin z d
 .by_cases e:z=M
  .rw[if_pos e,e,E,if_pos rfl,L]
   split<;> rfl
  .rw[if_neg e,F.rf z d]
 .by_cases e:r z=M
  .rw[if_pos e]
   split
   .rfl
   .exact(by rcases g with⟨_,h⟩|⟨_,h⟩<;> rw[h]<;> apply F.fr<;> assumption)
  .rw[if_neg e,if_neg e];exact F.fr z d
 .by_cases e:z=M
  .rw[if_pos e]at h;rw[e,E,if_pos rfl,<-e];exact h
  .rw[if_neg e]at h;rw[F.fix z d h,if_neg e]
 .by_cases e:z=M
  .rw[if_pos e]at h ⊢;rw[e]at h ⊢;exact lt h
  .rw[if_neg e]at h ⊢;exact F.dec z d h
 .by_cases e:r z=M
  .rw[if_pos e];cases i:aV z m with
   | false=>rfl
   | true=>
     have o:=F.le z d;rw[e]at o;by_cases em:m=M
     .rw[em]at i;rw[o]at i;cases i
     .have:=gW i (lt em);rw[o]at this;cases this
  .rw[if_neg e];exact F.le z d
 .have c:=(p x w)
  rw[e]at c;exact c.trans (p y I).symm
 .have ws:∀x y,(S x y\/(x=a/\y=b))->x∈j/\y∈j:=λx y h=>by
   rcases h with h|⟨rfl,rfl⟩
   .exact F.ws x y h
   .exact%[q|t]
  clear I
  induction c with
  | refl=>rfl
  | step c s O=>
    rename_i u v
    have J:=c.within ws w;rw[O];rcases s with(s|⟨rfl,rfl⟩)|(s|⟨rfl,rfl⟩)
    .rw[(F.cl u J v (F.ws u v s).2).mpr (.one (.inl s))]
    .exact H
    .rw[(F.cl u J v (F.ws v u s).1).mpr (.one (.inr s))]
    .exact H.symm
theorem bL.short{S:Str->Str->Prop}(F:bL d f r S)(b:z∈d):bL d (λx=>if x=z then f (f z)else f x) r S:=by
 have g:f z≠z->aV (f _) z=true:=λh=>by
  have i:=F.dec z b h;by_cases e:f (f z)=f z
  .exact e▸i
  .exact gW (F.dec _ (F.fin z b) e) i
 refine%[F.ws,λx a=>?_,F.rin,λx a=>?_,λx a=>?_,λx a h=>?_,λx a h=>?_,F.le|F.cl]
 .split
  .exact F.fin _ (F.fin z b)
  .exact F.fin x a
 .by_cases e:x=z
  .rw[if_pos e,F.rf _ (F.fin z b),F.rf z b,e]
  .rw[if_neg e];exact F.rf x a
 .by_cases e:r x=z
  .rw[if_pos e];have:=F.fr x a
   simp_all
  .rw[if_neg e];exact F.fr x a
 .by_cases e:x=z
  .rw[if_pos e]at h;rw[e]at h ⊢;by_cases c:f z=z
   .exact F.fix z b c
   .have:=g c;rw[h,fZ]at this;cases this
  .rw[if_neg e]at h;exact F.fix x a h
 .by_cases e:x=z
  .rw[if_pos e]at h ⊢;rw[e]at h ⊢;refine g λc=>h ?_
   rw[c,c]
  .rw[if_neg e]at h ⊢;exact F.dec x a h
theorem bL.done{S:Str->Str->Prop}(F:bL b f r S)(a:z∈b)(h:∀w∈b,aV w z=true->f w=r w):f (f z)=r z:=by
 by_cases e:f z=z
 .rw[e,e];exact(F.fix z a e).symm
 .rw[h _ (F.fin z a) (F.dec z a e),F.rf z a]
end Cut
namespace Cut
open PySem L2
def Ed(ks:List ZB)(a b:Str):Prop:=∃z,[a,b,z]∈ks
inductive Rch (ks:List ZB):Str->Str->Prop
 | one {a b:Str}:Ed ks a b->Rch ks a b
 | more {a b c:Str}:Rch ks a b->Ed ks b c->Rch ks a c
theorem Rch.trans(h:Rch ks a b)(g:Rch ks b c):Rch ks a c:=by
 induction g with
 | one e=>exact .more h e
 | more _ e d=>exact .more d e
theorem Rch.closed{R:Str->Prop}(a:∀y,Ed ks s y->R y)(h:∀x y,R x->Ed ks x y->R y)(r:Rch ks s y):R y:=by
 induction r with
 | one e=>exact a _ e
 | more _ e b=>exact h _ _ b e
theorem qX{ks:List _}{laid:ZB}(h:∀i x,laid[i]? =some x->∀y,Ed ks x y->y∈laid.take i){i:Nat}{x y:Str}(hi:laid[i]? =some x)(r:Rch ks x y):∃j,j<i/\laid[j]? =some y:=by
 have b:∀i y,y∈laid.take i->∃j,j<i/\laid[j]? =some y:=λi y d=>by
  have%[j|c]:=Xg d;have f:=(Xn c).1;rw[Ym]at f;exact%[j,⋯|by rwa[Yd ⋯]at c]
 refine r.closed (λy e=>b i y (h i x hi y e)) λa y ⟨j,m,c⟩ e=>?_
 have%[g,n|l]:=b j y (h j a c y e);exact%[g,⋯|l]
theorem Du{laid:ZB}(h:∀(i:Nat) x,laid[i]? =some x->∀y,Ed ks x y->y∈laid.take i){x:Str}(a:x∈laid): ¬ Rch ks x x:=by
 intro r;have%[i|hi]:=Xg a;have:∀n i:Nat,i<=n->laid[i]? ≠some x:=λn=>by
  induction n with
  | zero=>
    intro i hi e;have%[j,b|_]:=qX h e r
    lia
  | succ n c=>
    intro i hi e;have%[j,b|d]:=qX h e r;exact c j ⋯ d
 exact this i i (Zi _) hi
noncomputable def Wal:List ZB->Str->Str->Prop
 |[],a,b=>a=b
 | k::r,a,b=>∃c z,k=[a,c,z]/\Wal r c b
theorem Wal.app:∀{us vs:List ZB} {a:Str},Wal us a b->Wal vs b c->Wal (us++vs) a c
 |[],_,_,h,g=>h▸g
 | _::_,_,_,⟨d,z,e,h⟩,g=>%[d,z,e|h.app g]
def Dst(ks:List ZB)(s:Str)(n:Nat)(x:Str):Prop:=∃us:List _,us.length=n/\(∀k∈us,k∈ks)/\Wal us s x
theorem Dst.nil:Dst ks s 0 s:=%[[],rfl,λ_ h=>(nomatch h)|rfl]
theorem Dst.app(h:Dst ks s n x)(g:Dst ks x m y):Dst ks s (n+m) y:=by
 have%[us,d,a|b]:=h;have%[vs,g1,g2|g3]:=g;exact%[us++vs,by simp_all,λk c=>(Xo c).elim (a k) (g2 k)|b.app g3]
theorem Ed.dst(e:Ed ks s x):Dst ks s 1 x:=by
 have%[z|e]:=e;exact%[[[s,x,z]],rfl,λk a=>(Xp a)▸e,x,z,rfl|rfl]
theorem Dst.last:∀{n:Nat} {s:Str},Dst ks s (n+1) x->∃y,Dst ks s n y/\Ed ks y x
 | n,s,⟨[],a,_,_⟩=>(nomatch a)
 | 0,s,⟨[k],_,b,c,z,e,h⟩=>%[s,.nil,z|by rw[<-h,<-e];exact b k Zm]
 | 0,s,⟨_::_::_,a,_,_⟩=>absurd a ∅
 | n+1,s,⟨k::r,a,b,c,z,e,h⟩=>by
   have%[y,d|f]:=Dst.last %[r,by simpa using a,λk g=>b k (Zk _ g)|h];have:Ed ks s c:=%[z|e▸b k Zm]
   exact%[y,Nat.add_comm 1 n▸this.dst.app d|f]
theorem Rch.dst(h:Rch ks a b):∃n,Dst ks a (n+1) b:=by
 induction h with
 | one e=>exact%[0|e.dst]
 | more _ e c=>
   have%[n|h]:=c;exact%[n+1|h.app e.dst]
theorem Dst.rch:∀{n:Nat} {b:Str},Dst ks a (n+1) b->Rch ks a b
 | 0,b,h=>by
   have%[y,%[us,d,_|c]|e]:=h.last;rw[length_eq_zero_iff.mp d]at c;rw[c];exact .one e
 | n+1,b,h=>by
   have%[y,h|e]:=h.last;exact .more h.rch e
structure Lev (ks:List ZB) (st:Str) (rs:List (Str×Addr×ZB)) (d:Str->Nat) (k:Nat) (F:ZB):Prop where
 nd:(rs.map (·.1)).Nodup
 by_:∀r∈rs,r.2.2∈ks/\∃p z,r.2.2=[p,r.1,z]/\((p=st/\d r.1=1)\/(p≠st/\p∈rs.map (·.1)/\d r.1=d p+1))
 le:∀x∈rs.map (·.1),d x<=k
 edge:∀x,x∈F↔(k=0/\x=st)\/(1<=k/\x∈rs.map (·.1)/\d x=k)
 all:∀n x,1<=n->n<=k->Dst ks st n x->x∈rs.map (·.1)/\d x<=n
section
variable{ks:List ZB}{st:Str}{rs:List (Str×Addr×ZB)}{d:Str->Nat}{k:Nat}{F:ZB}
theorem Lev.nil:Lev ks st [] (λ_=>0) 0 [st]:=
 %[X6,λ_ h=>(nomatch h),λ_ h=>(nomatch h),λx=>by simp|λn x a b=>by lia]
theorem Lev.dst(h:Lev ks st rs d k F)(a:x∈rs.map (·.1)):1<=d x/\Dst ks st (d x) x:=by
 have:∀m x,x∈rs.map (·.1)->d x<=m->1<=d x/\Dst ks st (d x) x:=λm=>by
  induction m with
  | zero=>
    intro x a l;have%[r,b|rfl]:=Xq a;obtain⟨_,p,z,_,⟨_,e⟩|⟨_,_,e⟩⟩:=h.by_ r b<;> lia
  | succ m g=>
    intro x a l;have%[r,b|rfl]:=Xq a;have%[c,p,z,i|q]:=h.by_ r b;rw[i]at c;have f:Ed ks p r.1:=%[z|c]
    rcases q with⟨rfl,e⟩|⟨_,j,e⟩
    .rw[e];exact%[Zi _|f.dst]
    .exact e▸%[⋯|(g p j ⋯).2.app f.dst]
 exact this _ x a (Zi _)
theorem Lev.min(h:Lev ks st rs d k F)(a:x∈rs.map (·.1))(g:Dst ks st (n+1) x):d x<=n+1:=by
 by_cases c:n+1<=k
 .exact(h.all _ x ⋯ c g).2
 .have:=h.le x a
  lia
theorem Lev.stop(h:Lev ks st rs d k []):∀{n:Nat},Dst ks st (n+1) x->x∈rs.map (·.1):=by
 have k1:=Nat.pos_of_ne_zero λc=>(nomatch (h.edge st).mpr (.inl %[c|rfl]))
 have:∀n x,Dst ks st (n+1) x->x∈rs.map _:=λn=>by
  induction n with
  | zero=>exact λx g=>(h.all 1 x (Zi _) k1 g).1
  | succ n a=>
    intro x g;have%[y,b|e]:=g.last;have q:=a y b;have l:=h.le y q;have ne:d y≠k:=λc=>(nomatch (h.edge y).mpr (.inr %[k1,q|c]))
    exact(h.all _ x ⋯ ⋯ ((h.dst q).2.app e.dst)).1
 exact λ{n}=>this n x
theorem Lev.step(h:Lev ks st rs d k F)(nd:((rs++new).map (·.1)).Nodup)(B:∀r∈new,r.2.2∈ks/\∃p z,p∈F/\r.2.2=[p,r.1,z])
 (t:∀x∈F,∀y,Ed ks x y->y∈(rs++new).map (·.1)):Lev ks st (rs++new) (λx=>if x∈new.map (·.1)then k+1 else d x) (k+1) (new.map (·.1)):=by
 have l:=nd;rw[Zd,X3]at l;have f:∀{x},x∈rs.map (·.1)->x∉new.map (·.1):=λ{x} a b=>l.2.2 x a x b rfl
 have mem:∀{x},x∈(rs++new).map (·.1)↔x∈rs.map (·.1)\/x∈new.map (·.1):=λ{x}=>by rw[Zd,Yt]
 have le:∀x∈(rs++new).map (·.1),(if x∈new.map (·.1)then k+1 else d x)<=k+1:=λx j=>by
  by_cases c:x∈new.map (·.1)
  .rw[if_pos c];exact Zi _
  .rw[if_neg c];have:=h.le x ((mem.mp j).resolve_right c);lia
 refine%[nd,λr C=>?_,le,λx=>?_|λn x n1 J g=>?_]
 .rcases Xo C with q|q
  .have%[s,p,z,e|g]:=h.by_ r q;refine%[s,p,z,e|?_];rw[if_neg (f (Xr %[r,q|rfl]))];refine g.imp_right λ⟨a,b,c⟩=>%[a,mem.mpr (.inl b)|?_]
   rw[if_neg (f b)];exact c
  .have%[s,p,z,E|e]:=B r q;have u:r.1∈new.map (·.1):=Xr %[r,q|rfl];refine%[s,p,z,e|?_];rw[if_pos u];rcases(h.edge p).mp E with⟨rfl,rfl⟩|⟨k1,b,c⟩
   .exact .inl %[rfl|rfl]
   .refine .inr %[λps=>?_,mem.mpr (.inl b)|by rw[if_neg (f b),c]];have:Ed ks st r.1:=%[z|by rw[<-ps,<-e];exact s]
    exact f (h.all 1 _ (Zi _) k1 this.dst).1 u
 .refine%[λj=> .inr %[⋯,mem.mpr (.inr j)|if_pos j]|λj=>?_];rcases j with⟨a,_⟩|⟨_,a,b⟩
  .lia
  .refine(mem.mp a).resolve_left λc=>?_
   rw[if_neg (f c)]at b;have:=h.le x c
   lia
 .have i:∀{m},1<=m->m<=k->Dst ks st m x->x∈(rs++new).map _/\(if x∈new.map _ then k+1 else d x)<=m:=λa b g=>by
   have%[o|v]:=h.all _ x a b g;exact%[mem.mpr (.inl o)|by rw[if_neg (f o)];exact v]
  by_cases c:n<=k
  .exact i n1 c g
  .obtain rfl:n=k+1:=by lia
   have fin:x∈(rs++new).map _->x∈(rs++new).map _/\(if x∈new.map _ then k+1 else d x)<=k+1:=λa=>%[a|le x a]
   have%[y,w|e]:=g.last;by_cases G:k=0
   .subst G;have%[us,H,_|A]:=w;rw[length_eq_zero_iff.mp H]at A;exact fin (t y ((h.edge y).mpr (.inl %[rfl|(A).symm])) x e)
   .have%[o|v]:=h.all k y ⋯ (Zi _) w;by_cases I:d y=k
    .exact fin (t y ((h.edge y).mpr (.inr %[⋯,o|I])) x e)
    .exact fin (i ⋯ ⋯ ((h.dst o).2.app e.dst)).1
end
structure Sho (ks:List _) (a b:Str) (us:List _):Prop where
 sub:∀k∈us,k∈ks
 wal:Wal us a b
 pos:0<us.length
 min:∀n,Dst ks a (n+1) b->us.length<=n+1
theorem Sho.dst(h:Sho ks a b us):∃n,us.length=n+1/\Dst ks a (n+1) b:=
 %[us.length-1,by have:=h.pos;lia,us,by have:=h.pos;lia,h.sub|h.wal]
theorem Sho.rch(h:Sho ks a b us):Rch ks a b:=by
 have%[n,_|d]:=h.dst;exact d.rch
theorem FV{U:ZB}(h:∀x∈U,∃y∈U,Ed ks x y)(i:∀x,¬ Rch ks x x){x:Str}(j:x∈U):False:=by
 have:∀n,∃a p,p.length=n/\(a::p).Nodup/\(∀y∈a::p,y∈U)/\∀y∈p,Rch ks y a:=λn=>by
  induction n with
  | zero=>exact%[x,[],rfl,by simp,by simpa using j|λ_ h=>(nomatch h)]
  | succ n m=>
    have%[a,p,l,nd,d|r]:=m;have%[b,o|e]:=h a (d a Zm);have g:∀y∈a::p,Rch ks y b:=λy f=>by
     rcases mem_cons.mp f with rfl|q
     .exact .one e
     .exact .more (r y q) e
    refine%[b,a::p,by simp_all,nodup_cons.mpr %[λc=>i b (g b c)|nd],λy f=>?_|g];rcases mem_cons.mp f with rfl|q
    .exact o
    .exact d y q
 have%[a,p,l,nd,d|_]:=this U.length;have:=STab.nodup_sub nd d;rw[Zr]at this
 lia
end Cut
namespace Cut
open PySem L2
structure Mat (E:Str->Str->Prop) (L:ZB) (m:Str->Str):Prop where
 nd:L.Nodup
 inj:∀x∈L,∀y∈L,m x=m y->x=y
 ed:∀x∈L,E (m x) x
structure kU (E:Str->Str->Prop) (L:ZB) (m:Str->Str) (S T:Str->Prop):Prop where
 nb:∀a,S a->∀p,E a p->T p
 mt:∀p,T p->p∈L/\S (m p)
structure Ask (E:Str->Str->Prop) (L:ZB) (m:Str->Str) (A0 Q:ZB) (g:Str->Str):Prop where
 nd:Q.Nodup
 by_:∀i x,Q[i]? =some x->E (g x) x/\(g x∈A0\/∃y∈Q.take i,y∈L/\m y=g x)
section
variable{E:Str->Str->Prop}{L A0 Q:ZB}{m g:Str->Str}{S T S' T':Str->Prop}
theorem kU.or(h:kU E L m S T)(k:kU E L m S' T'):kU E L m (λa=>S a\/S' a) (λp=>T p\/T' p):=
 %[λa s p e=>s.imp (λs=>h.nb a s p e) λs=>k.nb a s p e|λp t=>t.elim (λt=>%[(h.mt p t).1|.inl (h.mt p t).2]) λt=>%[(k.mt p t).1|.inr (k.mt p t).2]]
theorem Ask.shut(a:Ask E L m A0 Q g)(h:kU E L m S T)(d:∀x∈A0,S x):∀x∈Q,T x:=by
 have:∀(n i:Nat) x,i<n->Q[i]? =some x->T x:=λn=>by
  induction n with
  | zero=>exact λi x l=>absurd l (X7 _)
  | succ n f=>
    intro i x l e;have%[o|b]:=a.by_ i x e;refine h.nb _ ?_ x o;rcases b with b|⟨y,p,s,b⟩
    .exact d _ b
    .have%[j|c]:=Xg p;have q:=(Xn c).1;rw[Ym]at q;rw[Yd ⋯]at c;exact b▸(h.mt y (f j y ⋯ c)).2
 intro x r;have%[i|hi]:=Xg r;exact this _ i x (Yp _) hi
theorem Ask.closed(c:∀x∈Q,x∈L)(d:∀b,(b∈A0\/∃y∈Q,y∈L/\m y=b)->∀p,E b p->p∈Q):kU E L m (λb=>b∈A0\/∃y∈Q,y∈L/\m y=b) (λp=>p∈Q):=
 %[d|λp a=>%[c p a|.inr %[p,a,c p a|rfl]]]
structure oJ (E:Str->Str->Prop) (L Q:ZB) (m g:Str->Str) (T:Str->Prop) (f:Str) (C:ZB) (i:Nat) (p:Str):Prop where
 at_:Q[i]? =some p
 own:p=f\/p∈L
 far:∀x∈C,∃j,i<j/\Q[j]? =some x
 nx:∀x∈C,∃y,y∈L/\m y=g x/\(y∈C\/y=p)
 inj:∀x∈C,∀y∈C,g x=g y->x=y
 pv:∀y,y∈C\/y=p->y=f\/(y∈L/\∃x∈C,g x=m y)
 nt:∀y,y∈C\/y=p-> ¬ T y
 hf:f∈C\/p=f
theorem BD{Q:ZB}(nd:Q.Nodup){i j:Nat}{x:Str}(h:Q[i]? =some x)(k:Q[j]? =some x):i=j:=dD nd h k
theorem oJ.start(h:kU E L m S T)(b:f∉L)(e:Q[i]? =some f):oJ E L Q m g T f [] i f:=
 %[e,.inl rfl,λ_ h=>(nomatch h),λ_ h=>(nomatch h),λ_ h=>(nomatch h),λy a=>a.elim (λh=>(nomatch h)) .inl,λy a t=>a.elim (λh=>(nomatch h)) λe=>b (e▸(h.mt y t).1)|.inr rfl]
theorem oJ.inj'(M:Mat E L m)(a:Ask E L m A0 Q g){f:Str}{C:ZB}{i:Nat}{p:Str}(b:oJ E L Q m g T f C i p):∀x∈C++[p],∀y∈C++[p],(∀z∈L,m z=g p->z∈Q.take i)->g x=g y->x=y:=by
 have o:∀x∈C,(∀z∈L,m z=g p->z∈Q.take i)->g x≠g p:=λx c h e=>by
  have%[y,q,r|n]:=b.nx x c;have%[j|l]:=Xg (h y q (r.trans e));have s:=(Xn l).1;rw[Ym]at s;rw[Yd ⋯]at l;rcases n with n|rfl
  .have%[k,u|t]:=b.far y n;have:=BD a.nd l t
   lia
  .have:=BD a.nd l b.at_
   lia
 intro x c y d h e;rcases Xo c with c|c<;> rcases Xo d with d|d
 .exact b.inj x c y d e
 .rw[Xp d]at e;exact(o x c h e).elim
 .rw[Xp c]at e;exact(o y d h e.symm).elim
 .rw[Xp c,Xp d]
theorem oJ.step(M:Mat E L m)(a:Ask E L m [w] Q g)(A:∀x∈L,m x≠w)(h:kU E L m S T)(b:oJ E L Q m g T f C i p)(n:y∈L)(o:m y=g p):∃j,j<i/\oJ E L Q m g T f (C++[p]) j y:=by
 have%[B|s]:=a.by_ i p b.at_;have v:y∈Q.take i:=by
  rcases s with s|⟨z,c,q,r⟩
  .exact(A y n (o.trans (Xp s))).elim
  .rw[M.inj y n z q (o.trans r.symm)];exact c
 have%[j|u]:=Xg v;have G:=(Xn u).1;rw[Ym]at G;rw[Yd ⋯]at u;have l:∀{x},x∈C++[p]↔x∈C\/x=p:=λ{x}=>by rw[Yt,Yz]
 refine%[j,⋯,u,.inr n,λx d=>?_,λx d=>?_,λx d z c=>b.inj' M a x d z c λz q r=>(M.inj z q y n (r.trans o.symm))▸v,λz c=>?_,λz c t=>?_|.inl (l.mpr (b.hf.imp_right Eq.symm))]
 .rcases l.mp d with d|rfl
  .have%[k,J|H]:=b.far x d;exact%[k,⋯|H]
  .exact%[i,⋯|b.at_]
 .rcases l.mp d with d|rfl
  .have%[z,q,r|I]:=b.nx x d;exact%[z,q,r|.inl (l.mpr I)]
  .exact%[y,n,o|.inr rfl]
 .rcases c with c|rfl
  .exact(b.pv z (l.mp c)).imp_right λ⟨a,x,d,e⟩=>%[a,x,l.mpr (.inl d)|e]
  .exact(.inr %[n,p,l.mpr (.inr rfl)|o.symm])
 .rcases c with c|rfl
  .exact b.nt z (l.mp c) t
  .exact b.nt p (.inr rfl) (h.nb _ (o▸(h.mt z t).2) p B)
theorem oJ.fin(M:Mat E L m)(a:Ask E L m [B] Q g)(h:kU E L m S T)(b:oJ E L Q m g T f C i p)(J:f∉L)(N:∀y∈L,m y≠g p)(nd:v.Nodup)(G:∀x,x∈v↔x∈L\/x=f):
 Mat E v (λx=>if x∈C++[p]then g x else m x)/\kU E v (λx=>if x∈C++[p]then g x else m x) S T/\g p=B/\(∀x∈v,(if x∈C++[p]then g x else m x)=B\/∃y∈L,m y=if x∈C++[p]then g x else m x)/\∀y,y=B\/(∃x∈L,m x=y)->∃x∈v,(if x∈C++[p]then g x else m x)=y:=by
 have r:∀{x},x∈C++[p]↔x∈C\/x=p:=λ{x}=>by rw[Yt,Yz]
 have O:g p=B:=by
  obtain⟨_,e|⟨y,_,H,ym⟩⟩:=a.by_ i p b.at_
  .exact Xp e
  .exact(N y H ym).elim
 have U:∀x∈C++[p],∃j,Q[j]? =some x:=λx l=>by
  rcases r.mp l with l|rfl
  .have%[j,_|e]:=b.far x l;exact%[j|e]
  .exact%[i|b.at_]
 have o:∀x∈v,x∉C++[p]->x∈L:=λx l n=>((G x).mp l).resolve_right λe=>n (e▸r.mpr (b.hf.imp_right Eq.symm))
 have s:∀x∈C++[p],∀y∈L,y∉C++[p]->g x≠m y:=λx l y H n e=>by
  rcases r.mp l with l|rfl
  .have%[z,w,A|zc]:=b.nx x l;exact n ((M.inj y H z w (e.symm.trans A.symm))▸r.mpr zc)
  .exact N y H e.symm
 refine%[%[nd,λx l y I e=>?_|λx l=>?_],%[h.nb|λq t=>%[(G q).mpr (.inl (h.mt q t).1)|?_]],O,λx l=>?_|λy I=>?_]
 .by_cases d:x∈C++[p]<;> by_cases u:y∈C++[p]
  .rw[if_pos d,if_pos u]at e;exact b.inj' M a x d y u (λz w A=>(N z w A).elim) e
  .rw[if_pos d,if_neg u]at e;exact(s x d y (o y I u) u e).elim
  .rw[if_neg d,if_pos u]at e;exact(s y u x (o x l d) d e.symm).elim
  .rw[if_neg d,if_neg u]at e;exact M.inj x (o x l d) y (o y I u) e
 .by_cases d:x∈C++[p]
  .rw[if_pos d];have%[j|e]:=U x d;exact(a.by_ j x e).1
  .rw[if_neg d];exact M.ed x (o x l d)
 .rw[if_neg (λc=>b.nt q (r.mp c) t)];exact(h.mt q t).2
 .by_cases d:x∈C++[p]
  .rw[if_pos d];rcases r.mp d with d|rfl
   .have%[z,w,A|_]:=b.nx x d;exact .inr %[z,w|A]
   .exact .inl O
  .rw[if_neg d];exact .inr %[x,o x l d|rfl]
 .have mem:=λx l=>(G x).mpr ((b.pv x (r.mp l)).elim .inr λh=> .inl h.1)
  rcases I with rfl|⟨x,Y,rfl⟩
  .exact%[p,mem p (r.mpr (.inr rfl))|(if_pos (r.mpr (.inr rfl)))▸O]
  .by_cases d:x∈C++[p]
   .rcases b.pv x (r.mp d)with e|⟨_,z,hz,e⟩
    .exact(J (e▸Y)).elim
    .exact%[z,mem z (r.mpr (.inl hz))|(if_pos (r.mpr (.inl hz)))▸e]
   .exact%[x,(G x).mpr (.inl Y)|by rw[if_neg d]]
end
theorem jx(p:Str->Prop)[DecidablePred p]:∀xs:ZB,xs.length=(xs.filter λx=>decide (p x)).length+(xs.filter λx=>decide (¬ p x)).length
 |[]=>rfl
 | x::xs=>by
   have a:=jx p xs;by_cases c:p x
   .rw[Y6 (by simpa using c),Y4 (by simpa using c),Zr,Zr];lia
   .rw[Y4 (by simpa using c),Y6 (by simpa using c),Zr,Zr];lia
open Classical in
theorem sU(q:∀a b c,E a b->E b c->E a c){names L A:ZB}(p:names.Nodup)(M:Mat E L m)(r:∀x∈L,m x∈names)(s:A.Nodup)(t:∀x∈A,x∈names)(g:∀x∈A,∀y∈A,¬ E x y):A.length<=(names.filter λx=>decide (x∉L)).length:=by
 have up:∀{x y a:Str},E y x->(x=a\/E x a)->E y a:=λe h=>h.elim (λh=>h▸e) λh=>q _ _ _ e h
 have u:=STab.nodup_sub (l:=((L.filter λx=>decide (∃a∈A,x=a\/E x a)).map m) ++A) (m:=names.filter λx=>decide (∃a∈A,x=a\/E x a)) (nodup_append.mpr %[?_,s|λy d z v e=>?_]) λy d=>?_
 .rw[Z9,Z6]at u;have w:=jx (λx=>x∈L) (names.filter λx=>decide (∃a∈A,x=a\/E x a));have B:=STab.nodup_sub (l:=(names.filter λx=>decide (∃a∈A,x=a\/E x a)).filter λx=>decide (x∈L)) (m:=L.filter λx=>decide (∃a∈A,x=a\/E x a)) ((p.filter _).filter _) λx f=>by
   have%[h|j]:=List.mem_filter.mp f;exact List.mem_filter.mpr %[Zo j|(List.mem_filter.mp h).2]
  have C:=STab.nodup_sub (l:=(names.filter λx=>decide (∃a∈A,x=a\/E x a)).filter λx=>decide (¬ x∈L)) (m:=names.filter λx=>decide (x∉L)) ((p.filter _).filter _) λx f=>by
   have%[h|j]:=List.mem_filter.mp f;exact List.mem_filter.mpr %[(List.mem_filter.mp h).1|j]
  lia
 .rw[X4,Xa];exact Xh (λ{x y} f d n e=>n (M.inj x (List.mem_filter.mp f).1 y (List.mem_filter.mp d).1 e)) (nodup_iff_pairwise_ne.mp (M.nd.filter _))
 .have%[x,f|rfl]:=Xq d;have%[i|h]:=List.mem_filter.mp f;have%[a,o|h]:=Zo h;exact g _ (e▸v) a o (up (M.ed x i) h)
 .rcases Xo d with d|d
  .have%[x,f|rfl]:=Xq d;have%[i|h]:=List.mem_filter.mp f;have%[a,o|h]:=Zo h;exact List.mem_filter.mpr %[r x i|Zf %[a,o|.inr (up (M.ed x i) h)]]
  .exact List.mem_filter.mpr %[t y d|Zf %[y,d|.inl rfl]]
theorem uE{names L lf:ZB}(b:names.Nodup)(c:L.Nodup)(sub:∀x∈L,x∈names)(d:lf.length=L.length):(names.filter λx=>decide (x∉L)).length<=(names.filter λx=>decide (x∉lf)).length:=by
 have e:=jx (λx=>x∈L) names;have f:=jx (λx=>x∈lf) names;have g:=STab.nodup_sub c λx a=>List.mem_filter.mpr %[sub x a|Zf a]
 have h:=STab.nodup_sub (b.filter λx=>decide (x∈lf)) λx a=>Zo (List.mem_filter.mp a).2
 lia
end Cut
namespace Cut
open PySem L2
theorem oK(lt:q->q->Bool)(c:∀x y,lt x y=false->x≠y->lt y x=true):∀{l m:List q},l.Pairwise (λa b=>lt b a=false)->m.Pairwise (λa b=>lt b a=false)->l.Nodup->m.Nodup->(∀x,x∈l↔x∈m)->l=m
 |[],[],_,_,_,_,_=>rfl
 |[],y::m,_,_,_,_,h=>absurd ((h y).mpr Zm) ∅
 | x::l,[],_,_,_,_,h=>absurd ((h x).mp Zm) ∅
 | x::l,y::m,s,t,nl,u,h=>by
   have%[f|g]:=List.pairwise_cons.mp s;have%[i|j]:=List.pairwise_cons.mp t;have%[v|n]:=nodup_cons.mp nl;have%[w|o]:=nodup_cons.mp u;have e:=Classical.byContradiction λd=>by
    have A:=(mem_cons.mp ((h x).mp Zm)).resolve_left d;have r:=f y ((mem_cons.mp ((h y).mpr Zm)).resolve_left (Ne.symm d));rw[c x y (i x A) d]at r;cases r
   subst e;rw[oK lt c g j n o λz=>?_]
   constructor
   .intro p;rcases mem_cons.mp ((h z).mp (Zk _ p))with e|e
    .simp_all
    .exact e
   .intro p;rcases mem_cons.mp ((h z).mpr (Zk _ p))with e|e
    .simp_all
    .exact e
def Let(rows:ZB)(c:Nat):Prop:=c≠46/\∃r∈rows,c∈r.cps.toList
def Dv(rows:ZB)(a b:Nat):Prop:=a≠46/\a≠b/\∃(i j:Nat) (r c:Str),rows[i]? =some r/\rows[i+1]? =some c/\r.cps[j]? =some a/\c.cps[j]? =some b
theorem gZ:c∈dh rows↔Let rows c:=by
 unfold dh Let;rw[List.mem_filter,t8,List.mem_flatten,decide_eq_true_eq]
 constructor
 .rintro⟨⟨l,e,b⟩,a⟩;have%[r,d|rfl]:=Xq e;exact%[a,r,d|b]
 .rintro⟨a,r,d,b⟩;exact%[%[_,Xr %[r,d|rfl]|b]|a]
end Cut
namespace Cut
open PySem L2
def St(wd:Bool)(c d:Int):Prop:=c<=d+(if wd=true then 1 else 0)/\d<=c+(if wd=true then 1 else 2)
def kW(wd:Bool)(b:ZL):Prop:=∃a:Nat,a<b.length/\(∀k c,b[k]? =some c->(k<a->c= -1)/\(a<=k->0<=c/\c<=7))/\∀k c d,b[k]? =some c->b[k+1]? =some d->a<=k->St wd c d
noncomputable def sg(a s:Int):Nat:=if a<0 then 46 else 97+((a*5+s)%26).toNat
theorem FW(h:0<=a):ja (sg a s)=true:=by
 unfold sg;rw[if_neg ⋯,lP]
 lia
theorem FX(h:a<0):sg a s=46:=if_pos h
theorem BE(h:0<=a):sg a s≠46:=by
 unfold sg;rw[if_neg ⋯]
 lia
theorem FY(e:0<=a)(c:a<=7)(f:0<=b)(d:b<=7)(h:sg a s=sg b s):a=b:=by
 unfold sg at h;rw[if_neg ⋯,if_neg ⋯]at h;omega
noncomputable def jf(a:List ZL)(b:Int)(k:Nat):Str:=⟨(a.map λc=>sg (c.getD k 0) b).toArray⟩
noncomputable def drawn(a:List ZL)(hi:Nat)(b:Int):ZB:=(List.range hi).map (jf a b)
theorem hC(h:(drawn a hi c)[k]? =some z):k<hi/\z=jf a c k:=by
 unfold drawn at h;rw[Zl]at h;by_cases b:k<hi
 .rw[List.getElem?_range b]at h;exact%[b|(Za h).symm]
 simp_all
theorem lS{a:List ZL}{k j c:Nat}(h:(jf a b k).cps[j]? =some c):∃col,a[j]? =some col/\c=sg (col.getD k 0) b:=by
 have h:(a.map λc=>sg (c.getD k 0) b)[j]? =some c:=by simpa [jf]using h
 rw[Zl]at h;cases e:a[j]? with
 | none=>simp_all
 | some col=>rw[e]at h;exact%[col,rfl|(Za h).symm]
theorem dI{col:ZL}(a:col.length=hi)(b:k<hi):col[k]? =some (col.getD k 0):=by
 simp_all
theorem uF{a:List ZL}{b:Int}{wd:Bool}(G:1<=hi)(H:hi<=40)(u:1<=a.length)(v:a.length<=40)(s:∀c∈a,c.length=hi/\kW wd c):b8 (drawn a hi b):=by
 have len:(drawn a hi b).length=hi:=by unfold drawn;rw[Z6,Yk]
 have d:∀z∈drawn a hi b,∃k,k<hi/\z=jf a b k:=λz f=>by
  have%[k|e]:=Xg f;exact%[k|hC e]
 refine%[⋯,⋯,%[a.length,u,v|λz f=>?_],λz f=>?_,λi r I w y j c J g1 g2 o=>?_|?_]
 .have%[k,_|rfl]:=d z f;simp[jf]
 .have%[k,g|rfl]:=d z f;rw[all_eq_true];intro c p;have%[j|A]:=Xg p;have%[col,q|rfl]:=lS (j:=j) (by simpa using A);by_cases B:col.getD k 0<0
  .rw[FX B];decide +kernel
  .unfold okc;rw[FW ⋯,Bool.or_true]
 .have%[hi1|rfl]:=hC w;have%[hi2|rfl]:=hC y;have%[col,q|rfl]:=lS g1;have%[t,h|rfl]:=lS g2;rw[q]at h;cases h;have%[n,l,C,g|_]:=s col (Z8 q);by_cases E:i+1<l
  .rw[(g i _ (dI n hi1)).1 ⋯];rfl
  .exact absurd o (BE ((g _ _ (dI n hi2)).2 ⋯).1)
 .have m:0<a.length:=by lia
  have%[n,l,C,g|_]:=(s _ (Ye m))
  exact%[jf a b _,Xr %[hi-1,by rw[mem_range];lia|rfl],sg (a[0].getD (hi-1) 0) b,Xr %[a[0],Ye m|rfl]|BE ((g _ _ (dI n ⋯)).2 ⋯).1]
theorem uG{h:Int}{wd:Bool}(p:∀c∈b,c.length=hi/\kW wd c){c:Nat}:Let (drawn b hi h) c↔∃a:Int,0<=a/\a<=7/\(∃col∈b,a∈col)/\c=sg a h:=by
 constructor
 .rintro⟨i,r,s,l⟩;have%[k|e]:=Xg s;have%[f|rfl]:=hC e;have%[j|t]:=Xg l;have%[col,u|rfl]:=lS (by simpa using t);have d:=Z8 u;have%[m,n,y,v|_]:=p col d;have g:=dI m f;have q:=v k _ g;have:n<=k:=by
   refine Nat.le_of_not_lt λz=>i ?_
   rw[q.1 z];rfl
  exact%[_,(q.2 this).1,(q.2 this).2,%[col,d|Z8 g]|rfl]
 .rintro⟨a,w,A,⟨col,d,o⟩,rfl⟩;have%[m|_]:=p col d;have%[k|f]:=Xg o;refine%[BE w,jf b h k,Xr %[k,by rw[mem_range];exact(m▸(Xn f).1)|rfl]|Xr %[col,d|?_]];rw[Zc,f];rfl
noncomputable def there(b:List ZL):ZL:=((List.range 8).filter λa:Nat=>b.any λc=>decide ((a:Int)∈c)).map λa:Nat=>a
theorem fA:a∈there b↔0<=a/\a<=7/\∃col∈b,a∈col:=by
 unfold there;rw[mem_map]
 constructor
 .rintro⟨n,e,rfl⟩;rw[List.mem_filter,mem_range,List.any_eq_true]at e;have%[f,col,c|d]:=e;exact%[⋯,⋯,col,c|Zo d]
 .rintro⟨g,h,col,c,d⟩;refine%[a.toNat,?_|⋯];rw[List.mem_filter,mem_range,List.any_eq_true];refine%[⋯,col,c|Zf ?_];rw[show a.toNat=a by lia];exact d
theorem uH(a:List _):(there a).Nodup:=by
 unfold there;rw[X4,Xa];refine(List.Pairwise.filter _ (nodup_iff_pairwise_ne.mp nodup_range)).imp λh e=>h ⋯
theorem BF{a:List ZL}{hi:Nat}(i:1<=hi)(j:1<=a.length)(d:∀c∈a,c.length=hi/\kW wd c):there a≠[]:=by
 have b:0<a.length:=by lia
 have%[e,f,l,h|_]:=d _ (Ye b);have g:=dI e (show hi-1<hi by lia);have q:=(h _ _ g).2 ⋯;exact List.ne_nil_of_mem (fA.mpr %[q.1,q.2,_,Ye b|Z8 g])
theorem lT(a:List _):(there a).length<=8:=by
 unfold there;rw[Z6];exact Yh (Yj _ _) (Zi _)
noncomputable def cB(n:Str)(c:Nat):Str:=⟨(n.cps.toList++[46,c]).toArray⟩
theorem jy(h:cB n c=cB m d):n=m/\c=d:=by
 have e:=by
  have:=congrArg (λz=>z.cps.toList) h;simpa [cB]using this
 have q:=List.append_inj' e rfl;refine%[eX q.1|?_];have:=q.2;simpa using this
def uI(rows:ZB):Prop:=∃m:List _,m.length<=26/\∀a b,Dv rows a b->[sgn a,sgn b]∈m
noncomputable def wu(wd:Bool):List (Int×Int):=((List.range 7).map λi:Nat=>((i:Int),(i:Int) +1)) ++if wd=true then(List.range 7).map λi:Nat=>((i:Int) +1,(i:Int))else(List.range 6).map λi:Nat=>(i,i+2)
theorem zh(h:St wd c d)(c0:0<=c)(a:c<=7)(b:0<=d)(f:d<=7)(ne:c≠d):(c,d)∈wu wd:=by
 unfold St at h;unfold wu;rw[Yt];by_cases e:d=c+1
 .exact .inl (Xr %[c.toNat,mem_range.mpr ⋯|by rw[show c.toNat=c by lia,e]])
 .refine .inr ?_;cases wd
  .exact Xr %[c.toNat,mem_range.mpr ⋯|by rw[show c.toNat=c by lia,show d=c+2 by lia]]
  .exact Xr %[d.toNat,mem_range.mpr ⋯|by grind]
theorem BG{hi:Nat}{h:Int}{wd:Bool}(t:∀c∈d,c.length=hi/\kW wd c):uI (drawn d hi h):=by
 refine%[(wu wd).map λp=>[sgn (sg p.1 h),sgn (sg p.2 h)],?_|?_]
 .rw[Z6];cases wd<;> decide
 .intro a b %[n1,u,i,j,r,B,v,w,g1|g2];have%[hi1|rfl]:=hC v;have%[hi2|rfl]:=hC w;have%[col,m|rfl]:=lS g1;have%[n,f|rfl]:=lS g2;rw[m]at f;cases f;have%[g,y,C,l|A]:=t col (Z8 m);have o:=Nat.le_of_not_lt λz=>n1 (by rw[(l i _ (dI g hi1)).1 z];rfl)
  have q:=(l i _ (dI g hi1)).2 o;have s:=(l _ _ (dI g hi2)).2 ⋯;exact Xr %[(_,_),zh (A i _ _ (dI g hi1) (dI g hi2) o) q.1 q.2 s.1 s.2 (λe=>u (by rw[e]))|rfl]
end Cut
namespace K62
open PySem L2 Cut
abbrev ZqS:=Lean.Syntax
def zqn:Lean.Name->Array ZqS->ZqS:= .node .none
def zqa:String->ZqS:= .atom .none
def zqi(s:String):ZqS:=Lean.mkIdent s.toName
def zqh:ZqS:=zqn `Lean.Parser.Term.hole #[zqa "_"]
def zqf(k:Nat)(b:ZqS):ZqS:=zqn `Lean.Parser.Term.fun #[zqa "fun",zqn `Lean.Parser.Term.basicFun #[zqn `null (Array.replicate k zqh),zqn `null #[],zqa "=>",b]]
def zqd(c:Char):ZqS:=Lean.Syntax.mkNumLit (toString (c.toNat-48))
def zqe(a:Array ZqS)(x:String):ZqS:=if x="r"then zqi "rfl"else if x="n"then a[0]! else if x="h"then a.back! else if x="_"then zqh else if x="f"then zqf 2 (zqi "rfl") else if x="g"then zqf 1 (zqi "rfl") else if x.length>1 then zqi x else zqn `Lean.Parser.Term.namedArgument #[zqa "(",zqi x,zqa ":=",zqi x,zqa ")"]
def zqx(r:Array ZqS):ZqS:=if r[0]!.isAtom then(if r[0]!.getAtomVal=""then zqf 3 r[1]! else r[1]!)else if r.size<2 then r[0]! else zqn `Lean.Parser.Term.app #[r[0]!,zqn `null (r.extract 1 r.size)]
def zqp(s t:String):Nat:=(s.splitOn t).head!.length
def zqs(t:String)(a:Array ZqS)(l:List Char)(k:List (List String×Array ZqS)):List Char×List (List String×Array ZqS):=
 let f:=k.head!
 let k:=k.tail
 let x:=f.1.headD ""
 let w:=f.1.tail
 let c:=l.headD ' '
 if f.1.isEmpty then(l,(k.head!.1,k.head!.2.push (zqx f.2))::k.tail)
 else if x="#"then(l.tail,(w,f.2.push (zqd c))::k)
 else if x="L"then(l,(["*"],#[zqa ""])::(w,f.2)::k)
 else if x="*"then
  if c.isDigit then(l.tail,(["r"],#[zqi "af",zqd c])::(w,f.2)::k)
  else if c='?'then(l.drop 2,(w,f.2.push a[l[1]!.toNat-48]!)::k)
  else
   let p:=zqp "~]`" c.toString
   let q:=if p<3 then 1 else 0
   let s:=((t.splitOn "|")[(74+84*p)*q+zqp "ABCDEFGHIJKLMNOPQRSTUVWXYZabcdefghijklmnopqrstuvwxyz!$%&'()*+,./:;<=>^_|}[0123456789" l[q]!.toString]!).splitOn " "
   (l.drop (q+1),(s.tail,#[zqi s.head!])::(w,f.2)::k)
 else(l,(w,f.2.push (zqe a x))::k)
def zqt(t:String)(a:Array ZqS)(l:List Char):Nat->ZqS
 |n=>(n.fold (λ_ _ s=>if s.2.length=1&&s.2.head!.1.isEmpty then s else zqs t a s.1 s.2) (l,[(["*"],#[zqa "1"])])).2.head!.2[1]!
def zqm(s:Lean.StrLit)(a:Array Lean.Term):Lean.MacroM Lean.Term:=
 return⟨zqt "paE r * *|aq|ak * *|au *|ax|aH * h r *|opE * * *|aJ # n r *|aN *|QSs.h *|aM # n r|bI * r * *|gsE r * *|bZ # r|ifS * * *|bu|cK K r *|cR|cS *|cX PassesOwn.never r r * * *|dC K r f * *|bQ r *|aM # * r|bD|d5 K r f * *|aB.of *|cbO * T.a8 PySem.boot_len r *|cV K r|wT *|Z1|Z0|gE K r r r *|c6|aU|dv h f * *|cg|im *|bmO K plainAttrs_list PySem.F.slot_list_append PySem.F.type_list_append * r * *|dQ * r r * L L L|iV K r g *|dR|dG|kB|eBl|f6 h r * * *|gP|lN *|gO|m7 * *|cY|lM * r * *|orW * *|nZ *|jK *|n6 # n r * * r *|pR * *|cbO * T.ac boot_isinstance r *|jL K r|eB h r * *|rZ *|kA *|kC *|r9 *|io|pS|ctO * T.a5 boot_list r *|i7 K r|jd PassesOwn.never * *|slE K r * * *|vO K r|gvE T.al r r|vL|yB|nW r T.aj r *|yC|cbO * T.a7 boot_sorted r *|gF|gvE T.am r r|qJ|i8 # n r * * r * r r * L L L|bmO K plainAttrs_str slot_str_join type_str_join * r * *|gvE T.ar r r|ctO * T.a6 boot_set r *|noO|pjE * *|cE T|uC * T.bz h r r *|bmO K plainAttrs_dict slot_dict_get type_dict_get * r * *|cG T|qI # n r * *|wX K r r T.ae r *|Dg h r * *|Df K r r * *|C3 r r r * *|xi|sd|xo *|ixE K r f * *|cbO * T.a0 boot_min r *|vP K r|vM * * r * * *|cbO * T.aa boot_all r *|AS K r r|AX K w r r r|Fu *|iH T|FH K r r *|eT T|en T|tE T|eU T|cbO * T.a1 boot_max r *|oR T|orV * *|gvE T.ao r r|DV r T.af r r *|lq T|mr T|bmO K plainAttrs_list PySem.F.slot_list_extend PySem.F.type_list_extend * r * *|tQ|qU P w r r r|Bk K P w r r r r h|DZ *|DW|af # r|fS T|hV T|G5 K r plainAttrs_list PySem.F.slot_list_append PySem.F.type_list_append * r r r r * *|bmO K plainAttrs_dict PySem.F.slot_dict_setdefault PySem.F.type_dict_setdefault * r * *|kS|pD T|rD T|jq T|iT T|BB r r *|lB T|lC T|jr T|Eb h|xp r|dg T|va T|mW T|ixSE f * *|vN|DR r|GM r|ctO * T.ah boot_int r *|DS|Bn # n r * * r *|sY T|qI # * r * *|gvE T.aq r r|yJ w r r|bmO K plainAttrs_str PySem.F.slot_str_split PySem.F.type_str_split * r * *|C5|gvE T.ap r r|BL T|oW T|GW K r r T.af r r *|j9 T|gvE T.an r r|gvE T.aw r r|gvE T.ax r r|GY K r T.bJ r r|GY K r T.bI r r|zB T|zA T|BN T|gvE T.au r r|pd T|gvE T.av r r|uP T|zv T|yZ K r|wB T|ti T|uS T|np T|y4 K r|pj T|lA T|zt T|tw T|FJ r|FI r|mw T|nq T|Dl r|GK K r plainAttrs_dict PySem.F.slot_dict_values PySem.F.type_dict_values * r r *|Br|qf T|Bu r r T.a9 r T.a5 r *|uW T|BZ T|kb T|FK K r r|bmO K plainAttrs_list PySem.F.slot_list_remove PySem.F.type_list_remove * r * *|Bs|wj w r r|FQ w r|tF T|pF T|GL|bmO K plainAttrs_dict PySem.F.slot_dict_update PySem.F.type_dict_update * r * *|BC|pJ T|qh T|GK K r plainAttrs_list PySem.F.slot_list_pop PySem.F.type_list_pop * r r *|G0|FT|zG T|ifE * * *|wI T|kc T|C4 K r|vc T|vg T|tz T|zk T|G3|lE T|GZ * T.bz h r *|BO T|Ga T|qp T|qk T" (a.map (·.raw)) s.getString.toList 9999⟩
abbrev ZM:=List V
abbrev ZN:=List (Addr×List V)
local macro_rules|`(%[$s:str,$x,*|$y])=>zqm s (x.getElems.push y)|`(%[$s:str|$y])=>zqm s #[y]
local macro_rules|`(tactic|lk)=>do
 let x<-("be zP mX kg kf pP jI Ag tB Cd tOr Ep zN Eu tIf tOp tUn tC Ek El tCB tK ye Ap ER ES vo tBM CF tSl Aw rO yv rI rI0 rU Ff Fh rEq rNe AK DP AL E5 E7 rIx CA CB CC CY GJ wW wV vQ rW zV zT Ey DT DU Ea wN wO EK EM Fs mI Fa rX vF AC Bp Bq FL sO FO By ux rIn CZ EY EV Fd rV wU Aa C0 Gh Gi Gj".splitOn " ").toArray.mapM λs=>`(Lean.Parser.Tactic.simpLemma|↓$(Lean.mkIdent s.toName):ident)
 let y<-("oh Co Ai zqD tyV Gk Gm Gn List.getElem?_cons_zero List.getElem?_cons_succ List.set_cons_zero List.set_cons_succ Option.some.injEq V.int.injEq V.str.injEq V.bl.injEq V.ref.injEq V.ty.injEq List.cons.injEq reduceCtorEq and_true true_and and_false false_and or_false false_or or_true true_or exists_false exists_eq_left' exists_eq_left exists_eq_right exists_eq_right' exists_and_left exists_and_right exists_eq cons_append nil_append Zz exists_const and_assoc Int.zero_add Bool.not_true Bool.not_false Y1 if_true if_false eq_self".splitOn " ").toArray.mapM λs=>`(Lean.Parser.Tactic.simpLemma|$(Lean.mkIdent s.toName):ident)
 `(tactic|simp only[$(x++y),*])
local macro_rules|`(!$n:ident)=>`(some (V.ref $n))
local macro_rules|`(-$n:ident)=>`(some (V.str $n))
local macro_rules|`(#[$n:num])=>`((show $n≤sizeLine by decide))|`(#[$x])=>`(paE rfl $x aq)|`(#[$x,$y,*])=>`(paE rfl $x #[$y,*])
local macro_rules|`(tactic|walk)=>`(tactic|refine⟨rfl,rfl,rfl,?_,rfl,?_,?_⟩<;>decide +kernel)
theorem zq0{P:List Value->Prop}(h:P []):∀u,u.length=0->P u:=λu e=>by rw[List.length_eq_zero_iff.mp e];exact h
theorem zq1{n:Nat}{P:List Value->Prop}(h:∀a,∀u,u.length=n->P (a::u)):∀u,u.length=n+1->P u:=λu e=>by
 cases u with
 |nil=>cases e
 |cons a u=>exact h a u (Nat.succ.inj e)
local macro_rules|`(tactic|room)=>`(tactic|(intro _ _ _ _ _ _;(repeat(refine zq1 λ_=>?_));exact zq0 rfl))
set_option hygiene false in
local macro_rules|`(tactic|fin2)=>`(tactic|(intro a b c d h;cases h;subst_vars;rfl))
set_option hygiene false in
local macro_rules|`(↑$n:num)=>`(af $n rfl)
set_option hygiene false in
local macro_rules|`(↥$n:num)=>`(Cal P w K mg base $n)
noncomputable def top(i:Nat):Stmt:=PySem.Challenge.pw_digbook_k62_widest_told.main.body.getD i (.Pass %[0,0,0|0])
noncomputable section
abbrev d6:Stmt:=top 1
theorem bq:aw ["ground","names","layer","word","one","other"] ["ground"] (am d6):=by walk
abbrev eM:Stmt:=top 2
theorem d8:aw ["names","one","other","first","second"] ["names","one","other"] (am eM):=by walk
abbrev dm:Stmt:=top 3
theorem eV:aw ["names","layer"] ["names","layer"] (am dm):=by walk
abbrev jY:Stmt:=top 4
theorem f9:aw ["ground","names","groups","layer"] ["ground"] (am jY):=by walk
abbrev di:Stmt:=top 5
theorem lU:aw ["ground"] ["ground"] (am di):=by walk
abbrev nE:Stmt:=top 6
theorem uJ:aw ["ground","names"] ["ground"] (am nE):=by walk
abbrev d9:Stmt:=top 15
theorem kX:aw ["found"] ["found"] (am d9):=by walk
abbrev dq:Stmt:=top 16
theorem jE:aw ["found"] ["found"] (am dq):=by walk
abbrev lV:Stmt:=top 17
theorem jZ:aw ["found","side","groups","link"] ["found","side"] (am lV):=by walk
abbrev dJ:Stmt:=top 18
theorem aZ:aw ["names","found","beneath","above","waits","name","ready","laid","least","link"] ["names","found"] (am dJ):=by walk
abbrev fJ:Stmt:=top 19
theorem dj:aw ["beneath","start","goal","reached","edge"] ["beneath","start","goal"] (am fJ):=by walk
abbrev jh:Stmt:=top 20
theorem eY:aw ["beneath","edge","reached","further","name","link"] ["beneath","edge","reached"] (am jh):=by walk
abbrev oM:Stmt:=top 21
theorem qY:aw ["reached","start","goal","way"] ["reached","start","goal"] (am oM):=by walk
abbrev gH:Stmt:=top 22
theorem cN:aw ["names","found","beneath","reach","name","link"] ["names","found"] (am gH):=by walk
abbrev eZ:Stmt:=top 23
theorem c9:aw ["partners","held_by","asker","asked_by","free"] ["partners"] (am eZ):=by walk
abbrev iA:Stmt:=top 24
theorem db:aw ["partners","held_by","askers","asked_by","waiting","asker","partner"] ["partners","held_by","askers"] (am iA):=by walk
abbrev lW:Stmt:=top 25
theorem fK:aw ["held_by","asked_by","free","holds","partner","asker"] ["held_by","asked_by","free"] (am lW):=by walk
abbrev eO:Stmt:=top 26
theorem cT:aw ["some","turned_about","key","value"] ["some"] (am eO):=by walk
abbrev bR:Stmt:=top 27
theorem cZ:aw ["partners","held_by","holds","asked_by"] ["partners","held_by"] (am bR):=by walk
abbrev wv:Stmt:=top 29
theorem Dw:aw ["ground"] ["ground"] (am wv):=by walk
abbrev eP:Stmt:=top 30
theorem bP:aw ["names","found","beneath","shortest","name","way"] ["names","found"] (am eP):=by walk
abbrev iB:Stmt:=top 31
theorem qb:aw ["names","found"] ["names","found"] (am iB):=by walk
abbrev fM:Stmt:=top 32
theorem eQ:aw ["ground","found","torn_by"] ["ground"] (am fM):=by walk
abbrev fN:Stmt:=top 34
theorem iS:aw ["ground","found"] ["ground"] (am fN):=by walk
abbrev eC:Stmt:=top 36
theorem fO:aw ["ground","later_ahead","earlier_behind"] ["ground"] (am eC):=by walk
abbrev j3:Stmt:=top 37
theorem mS:aw ["first","earlier_behind","row"] ["first","earlier_behind"] (am j3):=by walk
abbrev kY:Stmt:=top 38
theorem lZ:aw ["ground","reach","left_out"] ["ground"] (am kY):=by walk
abbrev jz:Stmt:=top 45
theorem ww:aw ["thing"] ["thing"] (am jz):=by walk
abbrev l7:Stmt:=top 46
theorem iC:aw ["text","rows","number","row"] ["text"] (am l7):=by walk
abbrev kZ:Stmt:=top 47
theorem zi:aw ["row"] ["row"] (am kZ):=by walk
abbrev dL:Stmt:=top 48
theorem nh:aw ["row","above"] ["row","above"] (am dL):=by walk
abbrev e7:Stmt:=top 49
theorem qc:aw ["rows"] ["rows"] (am e7):=by walk
abbrev l8:Stmt:=top 50
theorem wx:aw ["text"] ["text"] (am l8):=by walk
abbrev j6:Stmt:=top 51
theorem eK:aw ["text","rows","pairs","above","row"] ["text"] (am j6):=by walk
abbrev cv:Stmt:=top 52
theorem jF:aw ["above","row"] ["above","row"] (am cv):=by walk
abbrev iD:Stmt:=top 61
theorem eD:aw ["cuts","names","number","thing"] ["cuts"] (am iD):=by walk
abbrev fP:Stmt:=top 62
theorem ni:aw ["thing"] ["thing"] (am fP):=by walk
abbrev oN:Stmt:=top 63
theorem zj:aw ["thing"] ["thing"] (am oN):=by walk
abbrev eR:Stmt:=top 64
theorem ee:aw ["sayings","layers","number","thing"] ["sayings","layers"] (am eR):=by walk
abbrev jj:Stmt:=top 65
theorem sV:aw ["thing","layers"] ["thing","layers"] (am jj):=by walk
abbrev eS:Stmt:=top 66
theorem l9:aw ["thing","texts"] ["thing","texts"] (am eS):=by walk
abbrev md:Stmt:=top 67
theorem wz:aw ["thing"] ["thing"] (am md):=by walk
abbrev iE:Stmt:=top 68
theorem qd:aw ["name","letter"] ["name","letter"] (am iE):=by walk
abbrev gi:Stmt:=top 69
theorem e8:aw ["cuts","layers","name","text"] ["cuts"] (am gi):=by walk
abbrev fQ:Stmt:=top 70
theorem bW:aw ["cuts","ties","name","text","upper","lower"] ["cuts"] (am fQ):=by walk
abbrev dM:Stmt:=top 71
theorem cw:aw ["sayings","ties","number","saying"] ["sayings"] (am dM):=by walk
abbrev gJ:Stmt:=top 73
theorem oO:aw ["_law_script","_law_k"] ["_law_script","_law_k"] (am gJ):=by walk
abbrev mf:Stmt:=top 74
theorem cO:aw ["_law_script","_law_many","_law_found","_law_number","_law_k","_law_cell","_law_one","_law_two"] ["_law_script","_law_many"] (am mf):=by walk
abbrev iF:Stmt:=top 75
theorem bN:aw ["_law_number","_law_high","_law_wild","_law_air","_law_at","_law_signs","_law_k"] ["_law_number","_law_high","_law_wild"] (am iF):=by walk
abbrev j7:Stmt:=top 76
theorem uK:aw ["_law_at","_law_shift"] ["_law_at","_law_shift"] (am j7):=by walk
abbrev ef:Stmt:=top 77
theorem cz:aw ["_law_row_here","_law_shift","_law_wide","_law_high","_law_wild","_law_columns","_law_rows","_law_k","_law_signs","_law_there"] ["_law_row_here","_law_shift"] (am ef):=by walk
abbrev iG:Stmt:=top 78
theorem bO:aw ["_law_one","_law_two","_law_layers","_law_layer","_law_at","_law_other","_law_there","_law_kind","_law_odd","_law_year"] ["_law_one","_law_two","_law_layers"] (am iG):=by walk
abbrev e9:Stmt:=top 79
theorem aQ:aw ["_law_row_here","_law_cuts","_law_layers","_law_k","_law_name","_law_shift","_law_text","_law_there","_law_at","_law_many","_law_sayings"] ["_law_row_here"] (am e9):=by walk
abbrev jk:Stmt:=top 80
theorem bB:aw ["_law_some","_law_begin","_law_steps_here","_law_edge","_law_far","_law_more","_law_later","_law_earlier_here","_law_source"] ["_law_some","_law_begin"] (am jk):=by walk
abbrev eE:Stmt:=top 82
theorem cP:aw ["_law_ground_here","_law_some","_law_names","_law_known","_law_name"] ["_law_ground_here"] (am eE):=by walk
abbrev gj:Stmt:=top 83
theorem lc:aw ["_law_found","_law_known","_law_many","_law_k"] ["_law_found","_law_known","_law_many"] (am gj):=by walk
abbrev gu:Stmt:=top 84
theorem bC:aw ["_law_number","_law_signs_of","_law_one","_law_other","_law_cuts","_law_sayings","_law_layers","_law_name","_law_text"] ["_law_number"] (am gu):=by walk
abbrev dN:Stmt:=top 85
theorem j8:aw ["_law_script"] ["_law_script"] (am dN):=by walk
abbrev lg:Stmt:=top 86
theorem jm:aw ["_law_script","_law_cuts","_law_sayings","_law_layers","_law_ground_here","_law_known","_law_many","_law_found"] ["_law_script"] (am lg):=by walk
abbrev bY:Stmt:=kq (top 60) 0
theorem fR:aw ["self","cuts","sayings","layers"] ["self","cuts","sayings"] (am bY):=by walk
abbrev qe:Stmt:=kq (top 60) 1
theorem BH:aw ["self"] ["self"] (am qe):=by walk
abbrev ck:Stmt:=kq (top 60) 2
theorem li:aw ["self"] ["self"] (am ck):=by walk
abbrev cC:Stmt:=kq (top 60) 3
theorem mj:aw ["self"] ["self"] (am cC):=by walk
abbrev df:Stmt:=kq (top 60) 4
end
theorem oP:aw ["self"] ["self"] (am df):=by walk
inductive oQ (K:ZA) (vs:ZM) (H:Hp) (Q:VK) (E0:XK):Prop
 | mk (a:Addr) (ns:ZL) (k:Int) (z0:vs=[.ref a,.int k]) (z1:SqL K H a (ns.map V.int)) (z2:0<=k) (z3:Q (.int (ns.getD k.toNat 0)) H):oQ K vs H Q E0
inductive BI (K:ZA) (vs:ZM) (H:Hp) (Q:VK) (E0:XK):Prop
 | mk (a:Addr) (ns:ZL) (m:Int) (z0:vs=[.ref a,.int m]) (z1:SqL K H a (ns.map V.int)) (z2:ns.length<=1000) (z3:0<=m) (z4:m<=100) (z5:∀l H' (xs:ZL),ah H H'->H l=none->H' l=some (.lst (xs.map V.int))->xs.length=m.toNat->(∀x∈xs,0<=x/\x<9973)->Q (.ref l) H'):BI K vs H Q E0
inductive qZ (vs:ZM) (H:Hp) (Q:VK) (E0:XK):Prop
 | mk (n) (hi) (wild) (z0:vs=[.int n,.int hi,.bl wild]) (z1:0<=n) (z2:1<=hi) (z3:hi<=6) (z4:∀l H' cs,ah H H'->H l=none->H' l=some (.lst (cs.map V.int))->cs.length=hi.toNat->kW wild cs->Q (.ref l) H'):qZ vs H Q E0
inductive xq (vs:ZM) (H:Hp) (Q:VK) (E0:XK):Prop
 | mk (a s:Int) (z0:vs=[.int a,.int s]) (z1:0<=s) (z2:Q (.str (sgn (sg a s))) H):xq vs H Q E0
def sW(H:Hp)(a:List (Addr×ZL)):Prop:=∀p∈a,H p.1=some (.lst (p.2.map V.int))
theorem sW.up{H a:Hp}{b:List _}(h:sW H b)(s:ah H a):sW a b:=λp c=>s _ _ (h p c)
inductive BJ (K:ZA) (vs:ZM) (H:Hp) (Q:VK) (E0:XK):Prop
 | mk (a:Addr) (xs:ZL) (sh:Int) (z0:vs=[.ref a,.int sh]) (z1:SqL K H a (xs.map V.int)) (z2:(∀H',ah H H'->SqL K H' a (xs.map V.int))) (z3:xs.length=6) (z4:(∀x∈xs,0<=x/\x<9973)) (z5:0<=sh) (z6:∀T th H' cols hi wd,ah H H'->H T=none->H th=none->T≠th->H' T=some (.tup [.str (Str.join nl (drawn cols hi sh)),.ref th])->H' th=some (.lst ((there cols).map V.int))->1<=hi->hi<=6->1<=cols.length->cols.length<=5->(∀c∈cols,c.length=hi/\kW wd c)->Q (.ref T) H'):BJ K vs H Q E0
structure Txt (K:ZA) (mg:ZC):Prop where
 a0:mg "min"=none
 a1:mg "max"=none
 a5:mg "list"=none
 a6:mg "set"=none
 a7:mg "sorted"=none
 a8:mg "len"=none
 a9:mg "reversed"=none
 aa:mg "all"=none
 ab:mg "str"=none
 ac:mg "isinstance"=none
 ae:mg "enumerate"=none
 af:mg "zip"=none
 ag:mg "tuple"=none
 ah:mg "int"=none
 ai:mg "bool"=none
 aj:mg "range"=none
 ak:mg "abs"=none
 al:Gv mg "LATER" (.int 0)
 am:Gv mg "EARLIER" (.int 1)
 an:Gv mg "LONGEST_NAME" (.int 8)
 ao:Gv mg "LETTERS" (.str "abcdefghijklmnopqrstuvwxyz")
 ap:Gv mg "MOST_ROWS" (.int 40)
 aq:Gv mg "MOST_SIGNS" (.int 40)
 ar:Gv mg "AIR" (.str ".")
 au:Gv mg "MOST_CUTS" (.int 8)
 av:Gv mg "MOST_SAYINGS" (.int 60)
 aw:Gv mg "FIRST_YEAR" (.int (-9999))
 ax:Gv mg "LAST_YEAR" (.int 9999)
 ay:aG K mg "names_by_layer" d6 ["ground"]
 az:aG K mg "join_deposits" eM ["names","one","other"]
 aA:aG K mg "least_pointed_to" dm ["names","layer"]
 aB:aG K mg "deposits" jY ["ground"]
 aC:aG K mg "deposit_names" di ["ground"]
 aD:aG K mg "links" nE ["ground"]
 aE:aG K mg "links_by_later" d9 ["found"]
 aF:aG K mg "links_by_earlier" dq ["found"]
 aH:aG K mg "grouped" lV ["found","side"]
 aI:aG K mg "laid_in_turn" dJ ["names","found"]
 aJ:aG K mg "shortest_way" fJ ["beneath","start","goal"]
 aK:aG K mg "next_edge" jh ["beneath","edge","reached"]
 aL:aG K mg "way_to" oM ["reached","start","goal"]
 aM:aG K mg "all_beneath" gH ["names","found"]
 aN:aG K mg "most_pairs" eZ ["partners"]
 aO:aG K mg "ask_around" iA ["partners","held_by","askers"]
 aP:aG K mg "pass_on" lW ["held_by","asked_by","free"]
 aQ:aG K mg "keys_by_value" eO ["some"]
 aR:aG K mg "one_of_each_pair" bR ["partners","held_by"]
 aS:aG K mg "ring" wv ["ground"]
 aT:aG K mg "shortest_ring" eP ["names","found"]
 aU:aG K mg "never_laid" iB ["names","found"]
 aV:aG K mg "untorn_links" fM ["ground"]
 aW:aG K mg "earlier_ones" fN ["ground"]
 aX:aG K mg "fewest_rows" eC ["ground"]
 aY:aG K mg "row_from" j3 ["first","earlier_behind"]
 aZ:aG K mg "widest" kY ["ground"]
 b0:aG K mg "is_name" jz ["thing"]
 b1:aG K mg "rows_of" l7 ["text"]
 b2:aG K mg "is_row" kZ ["row"]
 b3:aG K mg "lies_beneath" dL ["row","above"]
 b4:aG K mg "letters_in" e7 ["rows"]
 b5:aG K mg "letters" l8 ["text"]
 b6:aG K mg "meetings" j6 ["text"]
 b7:aG K mg "meetings_between" cv ["above","row"]
 b8:aG K mg "check_cuts" iD ["cuts"]
 b9:aG K mg "is_named_cut" fP ["thing"]
 ba:aG K mg "is_cut" oN ["thing"]
 bb:aG K mg "check_sayings" eR ["sayings","layers"]
 bc:aG K mg "is_saying" jj ["thing","layers"]
 bd:aG K mg "is_text_among" eS ["thing","texts"]
 be:aG K mg "is_year" md ["thing"]
 bf:aG K mg "layer_name" iE ["name","letter"]
 bg:aG K mg "layers_of" gi ["cuts"]
 bh:aG K mg "ties_of_cuts" fQ ["cuts"]
 bi:aG K mg "ties_of_sayings" dM ["sayings"]
 bj:aG K mg "_law_cell_at" gJ ["_law_script","_law_k"]
 bm:aG K mg "_law_row" mf ["_law_script","_law_many"]
 bn:aG K mg "_law_column" iF ["_law_number","_law_high","_law_wild"]
 bo:aG K mg "_law_sign" j7 ["_law_at","_law_shift"]
 bp:aG K mg "_law_cut" ef ["_law_row_here","_law_shift"]
 bq:aG K mg "_law_saying" iG ["_law_one","_law_two","_law_layers"]
 br:aG K mg "_law_ground" e9 ["_law_row_here"]
 bt:aG K mg "_law_steps" jk ["_law_some","_law_begin"]
 bu:aG K mg "_law_earlier" eE ["_law_ground_here"]
 bv:aG K mg "_law_right" gj ["_law_found","_law_known","_law_many"]
 bw:aG K mg "_law_great" gu ["_law_number"]
 bx:aG K mg "_law_told_ground" dN ["_law_script"]
 bz:uq K mg "Ground"
 bA:gC K (cL mg "Ground") "kept_cuts"
 bB:gC K (cL mg "Ground") "kept_sayings"
 bC:gC K (cL mg "Ground") "kept_layers"
 bD:gC K (cL mg "Ground") "kept_ties"
 bE:Bl K mg "Ground" "Ground.__init__" bY ["self","cuts","sayings"]
 bF:ur K mg "Ground" "sayings" "Ground.sayings" ck ["self"]
 bG:ur K mg "Ground" "layers" "Ground.layers" cC ["self"]
 bH:ur K mg "Ground" "ties" "Ground.ties" df ["self"]
 bI:GvT K mg "YEAR_WORDS" [.str "since",.str "by"]
 bJ:GvT K mg "LAYER_WORDS" [.str "later",.str "same"]
section
variable{P:Program}{w:World}{K:ZA}{mg:ZC}{base:Heap}
theorem cD{n:Nat}(h:n<=5000):n<=sizeLine:=Yh h (by decide)
theorem aC{n:Nat}(h:n<=5000):n<sizeLine:=Nat.lt_of_le_of_lt h (by decide)
theorem ah.upd{H:Hp}{p:Addr}{o:HO}(h:H p=none):ah H (upd H p o):=λb u e=>(ao (ay e h))▸e
theorem ah.set{H a:Hp}{p:Addr}{o:HO}(c:ah H a)(h:H p=none):ah H (L2.upd a p o):=λb u e=>(ao (ay e h))▸c b u e
theorem G4{a:Type}(xs:List a){i:Int}(b:0<=i)(e:i<xs.length):∃c,atI xs i=some c/\c∈xs:=by
 have%[j|rfl]:=Xi b;have d:j<xs.length:=by lia
 exact%[xs[j],cJ ∅|Ye d]
theorem lj(xs:ZL){i:Int}(b:0<=i)(d:i<xs.length):∃c,atI (xs.map V.int) i=some (V.int c)/\c∈xs:=by
 have%[j|rfl]:=Xi b;have a:j<xs.length:=by lia
 exact%[xs[j],cJ (by simp[a])|Ye a]
theorem Ee:(iq.cps.toList.length:Int)=26:=by decide +kernel
theorem dg(T:Txt K mg):↥1 "_law_cell_at" ["_law_script","_law_k"] (oQ K):=by
 refine T.bj.cal oO (λH vs Q E h=>?_)
 .have%[a,b,k,rfl,c,g|q]:=h;refine%[rfl|λf e A outer s l=>?_];refine%[_,%["JCOL}1abA0BDIU01PDIE"|0]|?_]
  show be _ _ _ [some _,some _] H;lk;refine%[_,.inl %[_,c|rfl]|bx (λd=>?_) λd=>?_]
  .rw[Z6]at d;refine%[_,c,.int _,?_|q];have%[j|rfl]:=Xi g;have i:j<b.length:=by lia
   exact cJ (by simp[i])
  simp_all
theorem zk(T:Txt K mg):↥2 "_law_row" ["_law_script","_law_many"] (BI K):=by
 refine T.bm.cal cO (λH vs Q E h=>?_)
 .have%[a,p,m,rfl,J,hn,h0,h1|q]:=h;refine%[rfl|λf ac A outer s I=>?_];refine%[_,(QSs.h (ak (aJ 2 cO.nd rfl (cS aq))
   (ak (aJ 3 cO.nd rfl (opE gF (cbO ⟨Ak⟩ T.ak boot_abs rfl #[aH (dg T) I rfl #[↑0,ax]]) (ctO DS T.ah boot_int rfl #[lM dR rfl (opE bD (aH (dg T) I rfl #[↑0,ax]) ax) ax])))
   (ak (cX PassesOwn.never rfl rfl (nW rfl T.aj rfl #[↑1]) (aM 4 cO.nd rfl)
   (au (ifS (bI pS rfl ↑3 ax)
    (ak (bQ rfl (bmO (K:=K) plainAttrs_list PySem.F.slot_list_append PySem.F.type_list_append aU rfl ↑2 #[opE bD ↑3 ax]))
     (au (aJ 3 cO.nd rfl (opE cg ↑3 ax))))
    (ak (aJ 5 cO.nd rfl (aH (dg T) I rfl #[↑0,(opE cY ax (opE bD ↑4 (cbO (DR rfl) T.a1 boot_max rfl #[ax,(opE qJ (cbO (cV (K:=K) rfl) T.a8 PySem.boot_len rfl #[↑0]) ax)])))]))
     (ak (aJ 6 cO.nd rfl (opE bD (opE gF (opE cY (opE cY (opE bD ↑5 ax) (opE gF ax ↑4)) ax) ax) ax))
     (ak (aJ 7 cO.nd rfl (opE bD (opE cY (opE vN ↑6 ↑6) (opE gF ax ↑4)) ax))
     (au (bQ rfl (bmO (K:=K) plainAttrs_list PySem.F.slot_list_append PySem.F.type_list_append aU rfl ↑2 #[opE bD (opE bD (opE vN ↑7 ↑7) ax) ax])))))))))
   (au (aN ↑2))))))|?_]
  show be _ _ _ [!a,some (.int m),none,none,none,none,none,none] H;refine lK λn1 c1=>?_
  lk;refine%[Xf _|λl L=>c1 _ _ (lK λn2 c2=>?_)];have j:ah H (upd H l (.lst [])):=ah.upd L;lk;refine%[a,p,1,rfl,j.seq J,by decide,_,rfl,a,p,0,rfl,j.seq J,by decide,_,rfl,by decide|?_];refine%[.inr (by split<;> exact%[by decide|by decide])|c2 _ _ (lK λn3 c3=>az λab hK=>?_)];lk;refine%[⋯,⋯|hK _ _ (fh (λi M g=>∃(n:Int) (o u z B:Option V) (xs:ZL),M=[!a,some (.int m),!l,some (.int n),o,u,z,B]/\ah H g/\g l=some (.lst (xs.map V.int))/\xs.length=i/\∀x∈xs,0<=x/\x<9973)
   %[_,none,none,none,none,[],rfl,j,aa,rfl|λ_ h=>nomatch h] ?_ ?_)]
  .intro i M g hi %[n,o,u,z,B,xs,rfl,C,d,G|e];have ae:i<100:=by lia
   have r:=C.seq J;show mX _ _ _ _ [!a,some (.int m),!l,some (.int n),some (.int (0+i)),u,z,B] g;rw[Int.zero_add];have put:∀v:Int,0<=v->v<9973->ah H (upd g l (.lst (xs.map V.int++[.int v])))/\∃b:ZL,upd g l (.lst (xs.map V.int++[.int v])) l=some (.lst (b.map V.int))/\b.length=i+1/\∀x∈b,0<=x/\x<9973:=λv v0 v1=>
    ⟨ah.set C L,xs++[v],by rw[aa,Zd];rfl,by rw[Z9,G];rfl,λy hy=>by
     rcases Xo hy with q|q
     .exact e y q
     .rw[Xp q];exact%[v0|v1]⟩
   have len:(xs.map V.int).length<sizeLine:=by rw[Z6,G];exact aC ⋯
   have mx:∀x:Nat,(0:Int)<(if(x:Int) -1>1 then(x:Int) -1 else 1):=λx=>by split<;> lia
   refine aD λD1 k1 _=>?_
   lk;refine bx (λ_=>?_) λ_=>?_
   .refine%[.inl %[_|SqL.of d],by decide,_,d,len,%[by decide|by decide]|k1 _ _ ?_];have%[N,b,O,U|Y]:=put (n%9973) ⋯ ⋯;exact%[_,_,_,_,_,b,rfl,N,O,U|Y]
   .refine%[_,.inl %[_,r|rfl],mx _,a,p,_,rfl,r,?_|?_]
    .have:=Int.emod_nonneg (i:Int) (Int.ne_of_gt (mx (p.map V.int).length))
     lia
    generalize p.getD _ 0=c
    lk;refine%[by decide,.inl %[by decide|by decide],.inr %[by decide|by decide],by decide|?_];have b1:=Int.emod_nonneg ((c%1000003+7919*i+1)*48271) (by decide:(2147483629:Int)≠0);have b2:=Int.emod_lt_of_pos ((c%1000003+7919*i+1)*48271) (by decide:(0:Int)<2147483629)
    generalize (c%1000003+7919*i+1)*48271%2147483629=one at b1 b2
    refine%[.inl %[⋯|⋯],.inl %[by decide|by simp],by decide|?_];have b3:=Int.emod_nonneg (one*one+104729*i) (by decide:(2147483587:Int)≠0);have b4:=Int.emod_lt_of_pos (one*one+104729*i) (by decide:(0:Int)<2147483587)
    generalize (one*one+104729*i)%2147483587=t at b3 b4
    refine%[.inl %[_|SqL.of d],.inl %[⋯|⋯],by simp,by decide,_,d,len|k1 _ _ ?_];have%[N,b,O,U|Y]:=put (t*t%2147483563%9973) ⋯ ⋯;exact%[_,_,_,_,_,b,rfl,N,O,U|Y]
  .intro M g %[n,o,u,z,B,xs,rfl,C,d,G|e];refine c3 _ _ ?_;lk;exact q l g xs C L d G e
theorem FZ(a:0<=i)(c:i<26):atI iq.cps.toList i=some (97+i.toNat):=by
 have%[j|rfl]:=Xi a;have b:j<26:=by omega
 have all:∀j:Fin 26,iq.cps.toList[j.1]? =some (97+j.1):=by decide +kernel
 exact cJ (all %[j|b])
theorem oR(T:Txt K mg):↥1 "_law_sign" ["_law_at","_law_shift"] xq:=by
 refine T.bo.cal uK (λH vs Q E h=>?_)
 .have%[a,g,rfl,i|c]:=h;refine%[rfl|λf d A outer s e=>?_];refine%[_,%["JCOL}0EDIRPDI~^RGXGpG~_0E1E"|0]|?_]
  show be _ _ _ [some (.int a),some _] H;lk;unfold sg at c;refine bx (λb=>?_) λb=>?_
  .have b:=Zo b;rw[if_pos b]at c;exact c
  .have b: ¬ a<0:=by simpa using b
   rw[if_neg b]at c;refine%[.inr %[by simp|by simp],by decide,(by decide),_,FZ (by omega) (by omega)|c]
theorem sY(T:Txt K mg):↥1 "_law_column" ["_law_number","_law_high","_law_wild"] qZ:=by
 refine T.bn.cal bN (λH vs Q E h=>?_)
 .have%[n,hi,wd,rfl,n0,h1,h6|kk]:=h;refine%[rfl|λf ag A outer s hr=>?_];refine%[_,%["JCH3GX0ECH4GXGj0EECH0Gj0ECH5SBCT[A1BK6DOcwL}63$L}6G~E1EDVlh5A*EBCVlh5A4BCH4~l~|AEA~Y~}AEAGp4USAEAEAUSAEA*EB~[~0A2BBGX0EBBDH0Gj0EDI5"|bN.nd]|?_]
  show be _ _ _ [some (.int n),some (.int hi),some (.bl wd),none,none,none,none] H;refine ap λD1 k1 _=>?_
  lk;refine%[by decide|k1 _ _ (ap λD2 k2 _=>?_)];lk;refine%[%[by decide|by decide],by decide|k2 _ _ (ap λD3 k3 _=>?_)];lk;refine%[%[by decide|by decide]|k3 _ _ (ap λD4 k4 _=>?_)];lk;refine%[Xf _|λL O=>k4 _ _ (ap λD5 k5 r5=>az λae hK=>?_)];lk;have I:∃a:Nat,(a:Int)=(if n%3<hi-1 then n%3 else hi-1):=by
   split
   .exact%[(n%3).toNat|by omega]
   .exact%[(hi-1).toNat|by omega]
  have%[a|ea]:=I;refine%[by omega,by omega|hK _ _ (fh (λi σ y=>∃(m b:Int) (o:Option V) (g:ZL),σ=[some (.int m),some (.int hi),some (.bl wd),some (.int (n%3)),some (.int b),!L,o]/\0<=b/\b<=7/\ah H y/\y L=some (.lst (g.map V.int))/\g.length=i/\
   (∀(k:Nat) (c:Int),g[k]? =some c->(k<a->c= -1)/\(a<=k->0<=c/\c<=7))/\∀(k:Nat) (c d:Int),g[k]? =some c->(g++[b])[k+1]? =some d->a<=k->St wd c d)
   %[_,_,none,[],rfl,by omega,by omega,ah.upd O,aa,rfl,(λk c e=>by simp at e)|λk c d e=>by simp at e] ?_ ?_)]
  .intro i σ y ai %[m,b,o,g,rfl,a0,a7,U,l,B,r|C];show mX _ _ _ _ [some (.int m),some (.int hi),some (.bl wd),some (.int (n%3)),some (.int b),!L,some (.int (0+i))] y;rw[Int.zero_add];have len:(g.map V.int).length<sizeLine:=by rw[Z6,B];exact aC (by omega)
   have put:∀v:Int,(i<a->v= -1)->(a<=i->0<=v/\v<=7)->∀(k:Nat) (c:Int),(g++[v])[k]? =some c->(k<a->c= -1)/\(a<=k->0<=c/\c<=7):=λv v1 v2 k c e=>by
    by_cases Y:k<g.length
    .rw[Y9 Y]at e;exact r k c e
    .have ek:k=i:=by
      have:=(Xn e).1;rw[Z9]at this;simp only[Zr,length_nil]at this;omega
     subst ek;rw[Ya (by omega),B,sub_self]at e;cases e;exact%[v1|v2]
   refine aD λD6 k6 _=>?_
   lk;have J:∀v u:Int,(a<=i->v=b/\St wd v u)->∀(k:Nat) (c d:Int),(g++[v])[k]? =some c->(g++[v] ++[u])[k+1]? =some d->a<=k->St wd c d:=λv u q k c d G t Y=>by
    have aj:k+1<=g.length+1:=by
     have:=(Xn t).1;simp only[Z9,Zr,length_nil]at this;omega
    by_cases h:k+1<g.length+1
    .rw[Y9 (by omega)]at G;rw[Y9 (by simpa using h)]at t;by_cases h':a<=i
     .rw[(q h').1]at t;exact C k c d G t Y
     .omega
    .have ek:k=i:=by omega
     subst ek;rw[Ya (by omega),B,sub_self]at G;rw[Ya (by simp;omega)]at t;simp[B]at G t;rw[<-G,<-t];exact(q Y).2
   have fin:∀_v:Int,¬ i<a->∀(m2 j:Int) (HH:Hp),0<=j->j<=7->St wd b j->ah (upd y L (.lst (g.map V.int++[.int b]))) HH->D6.nx [some (.int m2),some (.int hi),some (.bl wd),some (.int (n%3)),some (.int j),!L,some (.int i)] HH:=λv hv m2 j HH b0 b7 st sh=>
    k6 _ _ %[m2,j,_,g++[b],rfl,b0,b7,(ah.set U O).trans sh,by rw[sh L _ aa,Zd];rfl,by rw[Z9,B];rfl,put b (λz=>absurd z hv) λ_=>%[a0|a7]|J b j λ_=>%[rfl|st]]
   refine bx (λhA=>bx (λhB=>?g1) λhB=>?g2) λhA=>?g3
   case g1=>
    simp only[decide_eq_true_eq]at hA hB;have M:i<a:=by split at ea<;> omega
    exact%[.inl %[_|SqL.of l],_,l,len|k6 _ _ %[m,b,_,g++[-1],rfl,a0,a7,ah.set U O,by rw[aa,Zd];rfl,by rw[Z9,B];rfl,put (-1) (λ_=>rfl) λz=>absurd M (by omega)|J (-1) b λz=>absurd M (by omega)]]
   all_goals
    have ab: ¬ i<a:=by
     simp only[decide_eq_true_eq]at*
     split at ea<;> omega
    refine%[.inl %[_|SqL.of l],_,l,len,#[2]|λp hp=>%[_,SqL.of aa,.int (if wd=true then -1 else 2),by cases wd<;> rfl,#[3]|λp1 ac=>%[by decide,_,SqL.of aa|?_]]];have%[c,hc|N]:=lj [0,1,if wd=true then -1 else 2] (i:=m%3) (by omega) (by show m%3<3;omega);refine%[_,hc,c,rfl,%[by decide|by decide]|fin 0 ab _ _ _ ?_ ?_ ?_ ((ah.upd hp).trans (ah.upd ac))]
    rotate_left 2
    .unfold Cut.St;simp only[Yw,X8,or_false]at N;cases wd<;> rcases N with rfl|rfl|rfl<;> simp<;>(split<;>(try split)<;> omega)
    all_goals(split<;>(simp)<;> omega)
  .intro σ y %[m,b,o,g,rfl,a0,a7,U,l,B,r|C];refine k5 _ _ ?_;lk;exact kk L y g U O l (by omega) %[a,by omega,r|λk c d G t=>C k c d G ((Y9 (Xn t).1)▸t)]
theorem uL(xs:ZL){lo hi:Int}(a:0<=lo)(b:lo<=hi)(c:hi<=xs.length):tM (xs.map V.int) (some lo) (some hi)=((xs.drop lo.toNat).take (hi.toNat-lo.toNat)).map V.int:=by
 unfold tM;have d:HT.sIx xs.length 0 (some lo)=lo.toNat:=by
  show(if lo<0 then _ else min lo.toNat xs.length)=_
  grind
 have e:HT.sIx xs.length xs.length (some hi)=hi.toNat:=by
  show(if hi<0 then _ else min hi.toNat xs.length)=_;rw[if_neg ⋯]
  lia
 simp_all
theorem Hg(p:Nat->Bool)(n:Nat):inV (V.bl true) ((List.range n).map λr=>V.bl (p r))=(List.range n).any p:=by
 unfold inV;rw[any_map]
 congr 1
 funext r;show eqV (V.bl _) (V.bl true)=p r;cases p r<;> rfl
theorem zo{a:Type}(p:a->Bool)(xs:List a):inV (V.bl true) (xs.map λr=>V.bl (p r))=xs.any p:=by
 unfold inV;rw[any_map]
 congr 1
 funext r;show eqV (V.bl _) (V.bl true)=p r;cases p r<;> rfl
theorem Dx(a:Int)(b:ZL):inV (V.int a) (b.map V.int)=decide (a∈b):=by
 unfold inV
 induction b with
 | nil=>rfl
 | cons c r d=>
   show((c==a)||_)=_
   grind
theorem zq(a:ZL):(a.map V.int).all fV=true:=by simp[fV]
theorem zt(T:Txt K mg):↥2 "_law_cut" ["_law_row_here","_law_shift"] (BJ K):=by
 refine T.bp.cal cz (λH vs Q E h=>?_)
 .have%[a,xs,B,rfl,hs,keep,bU,hb,s0|kk]:=h;refine%[rfl|λf b9 A outer s hr=>?_];have get:∀i:Int,0<=i->i<6->∃c,atI (xs.map V.int) i=some (V.int c)/\0<=c/\c<9973:=λi h0 h1=>by
   have%[c,e|hm]:=lj xs h0 ⋯;exact%[c,e|hb c hm]
  have%[c0,g0,l0|u0]:=get 0 (by decide) (by decide);refine%[_,%["JCH2GxEGXU0EEC%3deGxEGXGjU0EEEC%4deyoGXGjU0EEEEC~15demZ?1Q>0+E+GxE2W0?2qF~2A0AN1AN2BCH6SBCT[AN3B~P7deC~F8edZ?3QN5W0?4qU0N1DVlh6A~G~ZRAmZ?5Q8W0?6qF~mA0AN1BBBC~F9edZ?7[AEB~30?8de,L^rmZ?9QN1W0?:qy^N10N0DIkA~G~ZRA6BA9B",cz.nd,(show bH (am ef) ["_law_row_here","_law_shift","_law_wide","_law_high","_law_wild","_law_columns","_law_rows","_law_k","_law_signs","_law_there"] _ ["_law_number","_law_high","_law_wild"] [(1,3),(2,4)]=true from by decide +kernel),(show(["_law_number","_law_high","_law_wild"]:ZB).Nodup from by decide +kernel),(show bH (am ef) ["_law_row_here","_law_shift","_law_wide","_law_high","_law_wild","_law_columns","_law_rows","_law_k","_law_signs","_law_there"] _ ["_law_column_here","_law_k"] [(1,7)]=true from by decide +kernel),(show(["_law_column_here","_law_k"]:ZB).Nodup from by decide +kernel),(show bH (am ef) ["_law_row_here","_law_shift","_law_wide","_law_high","_law_wild","_law_columns","_law_rows","_law_k","_law_signs","_law_there"] _ ["_law_at","_law_shift"] [(1,1)]=true from by decide +kernel),(show(["_law_at","_law_shift"]:ZB).Nodup from by decide +kernel),(show bH (am ef) ["_law_row_here","_law_shift","_law_wide","_law_high","_law_wild","_law_columns","_law_rows","_law_k","_law_signs","_law_there"] _ ["_law_at","_law_columns"] [(1,5)]=true from by decide +kernel),(show(["_law_at","_law_columns"]:ZB).Nodup from by decide +kernel),(show bH _ ["_law_at","_law_columns"] _ ["_law_column_here","_law_at"] [(1,0)]=true from rfl),(show(["_law_column_here","_law_at"]:ZB).Nodup from by decide +kernel)|hr]|?_]
  show be _ _ _ [!a,some (.int B),none,none,none,none,none,none,none,none] H;refine ap λD1 k1 _=>?_
  lk;refine%[_,hs,_,g0,c0,rfl,by decide|k1 _ _ (ap λD2 k2 _=>?_)];lk;refine%[_,hs,_,g0,c0,rfl,%[by decide|by decide],by decide|k2 _ _ (ap λD3 k3 _=>?_)];lk;refine%[_,hs,_,g0,c0,rfl,%[by decide|by decide],by decide|k3 _ _ (ap λD4 k4 _=>?_)];have w1:1<=1+c0%5:=by lia
  have w5:1+c0%5<=5:=by lia
  have i1:1<=1+c0/5%6:=by lia
  have i6:1+c0/5%6<=6:=by lia
  generalize ca:1+c0%5=wd at w1 w5
  generalize 1+c0/5%6=hi at i1 i6
  generalize decide (c0/30%8=0)=v
  refine aE λC O=>?_
  lk;refine .inl %[_,hs|λp hp=> .inl %[%[_|SqL.of aa]|O _ _ λD hD=>?_]];rw[uL xs (by decide) ⋯ ⋯]at hD ⊢;have a1:((xs.drop (Int.toNat 1)).take ((1+wd).toNat-Int.toNat 1)).length=wd.toNat:=by
   rw[Ym,Yi,bU];rw[show(1+wd).toNat=wd.toNat+1 by lia];exact X1 ⋯
  have a2:∀x∈(xs.drop (Int.toNat 1)).take ((1+wd).toNat-Int.toNat 1),0<=x/\x<9973:=λx hx=>hb x (Yx (Yy hx))
  generalize (xs.drop (Int.toNat 1)).take ((1+wd).toNat-Int.toNat 1)=ys at a1 a2 hD ⊢
  have a3:ah H (upd H p (.lst (ys.map V.int))):=ah.upd hp;have ac:upd H p (.lst (ys.map V.int)) p=some (.lst (ys.map V.int)):=aa
  generalize upd H p (.lst (ys.map V.int))=b0 at a3 ac hD ⊢
  refine bi (J:=Itl K p) (n:=wd.toNat) (D:=D) (λi zs m g=>(∃o,m=[o,some (.int hi),some (.bl v)])/\ah b0 g/\g D=some (.lst zs)/\∃b:List (Addr×ZL),zs=b.map (λq=>V.ref q.1)/\b.length=i/\sW g b/\∀q∈b,q.1≠D/\q.2.length=hi.toNat/\kW v q.2)
   %[%[none|rfl],ah.upd hD,aa,[],rfl,rfl,λq y=>(nomatch y)|λq y=>(nomatch y)]
   (λi _ _ g a4 d=>%[_,V.int (ys[i]'⋯),SqL.of (d.2.1 _ _ ac)|by simp[show i<ys.length by lia]]) (λ_ _ g d=>%[_,SqL.of (d.2.1 _ _ ac)|by simp[a1]]) ?_ ?_
  .intro i zs m g a4 %[%[o|rfl],M,a5,b,rfl,I,ae|U] x H2 %[e2|hx];subst e2;have a6:i<ys.length:=by lia
   have t:=hx _ (SqL.of (M _ _ ac));rw[Zl,Z4 a6]at t;obtain rfl:x=V.int ys[i]:=(Za t).symm;lk;refine%[_,_,_,rfl,(a2 _ (Ye a6)).1,i1,i6|λl H3 col an a7 a8 a9 b1=>?_];have bb:l≠D:=λe=>by rw[e,a5]at a7;cases a7
   refine CK.mk a4 (an _ _ a5) (by rw[Z6,I];exact aC ⋯) %[%[_|rfl],ah.set (M.trans an) hD,aa,b++[(l,col)],by rw[Zd];rfl,by rw[Z9,I];rfl,λq y=>?_|λq y=>?_]
   .rcases Xo y with z|z
    .rw[ao (U q z).1];exact an _ _ (ae q z)
    .rw[Xp z,ao bb];exact a8
   .rcases Xo y with z|z
    .exact U q z
    .rw[Xp z];exact%[bb,a9|b1]
  intro zs m H4 %[_,b2,Y,b,rfl,I,ae|U];have as:ah H H4:=a3.trans b2;refine k4 _ _ (ap λD5 k5 _=>?_);lk;refine%[Xf _|λR hR=>k5 _ _ (ap λD6 k6 _=>az λC O=>?_)];lk;have b7:(b.map (·.2)).length=wd.toNat:=by rw[Z6];exact I
  refine%[⋯,⋯|O _ _ (fh (λi m g=>∃o7 o8,m=[!a,some (.int B),some (.int wd),some (.int hi),some (.bl v),!D,!R,o7,o8,none]/\ah H4 g/\g R=some (.lst (((List.range i).map (jf (b.map (·.2)) B)).map V.str)))
   %[_,_,rfl,ah.upd hR|aa] ?_ ?_)]
  .intro i m H5 cb %[o7,o8,rfl,j|ag];show be _ _ _ [!a,some (.int B),some (.int wd),some (.int hi),some (.bl v),!D,!R,some (.int (0+i)),o8,none] H5;rw[Int.zero_add];refine ap λD7 k7 _=>aE λC O=>?_
   lk;refine .inl %[%[_|SqL.of (j _ _ Y)]|O _ _ λE hE=>?_];refine bi (J:=Itl K D) (n:=wd.toNat) (D:=E) (λq zs m g=>(∃o,m=[o,some (.int i)])/\ah H5 g/\g E=some (.lst zs)/\zs=((b.take q).map (λp=>p.2.getD i 0)).map V.int)
    %[%[none|rfl],ah.upd hE,aa|rfl]
    (λq _ _ g y d=>%[_,V.ref (b[q]'⋯).1,SqL.of (d.2.1 _ _ (j _ _ Y))|by simp[show q<b.length by lia]]) (λ_ _ g d=>%[_,SqL.of (d.2.1 _ _ (j _ _ Y))|by simp[I]]) ?_ ?_
   .intro q zs m g y %[%[o|rfl],M,b3|N] x H2 %[e2|hx];subst e2;have u:q<b.length:=by lia
    have t:=hx _ (SqL.of (M _ _ (j _ _ Y)));rw[Zl,Z4 u]at t;obtain rfl:x=V.ref b[q].1:=(Za t).symm;lk;have hm:=Ye u;refine%[_,SqL.of (M _ _ (j _ _ (ae _ hm))),V.int (b[q].2.getD i 0),?_|?_]
    .refine cJ ?_;rw[Zl,dI (U _ hm).2.1 ⋯];rfl
    .refine CK.mk y b3 (by rw[N,Z6,Z6,Ym];exact aC ⋯) %[%[_|rfl],ah.set M hE,aa|?_];rw[N,Xb,Zd,Zd,Z4 u];rfl
   intro zs m H6 %[_,L,ai|N];rw[Zn ⋯]at N;refine k7 _ _ (aD λD8 k8 _=>?_);have bc:=j.trans L;lk;refine%[.inl %[_|SqL.of (L _ _ ag)]|aE λC O=>?_];lk;refine .inl %[%[_|SqL.of ai]|O _ _ λF hF=>?_];refine bi (J:=Itl K E) (n:=wd.toNat) (D:=F) (λq ts m g=>(∃o,m=[o,some (.int B)])/\ah H6 g/\g F=some (.lst ts)/\ts=(((b.take q).map (λp=>sg (p.2.getD i 0) B)).map sgn).map V.str)
    %[%[none|rfl],ah.upd hF,aa|rfl]
    (λq _ _ g y d=>%[_,V.int ((b[q]'⋯).2.getD i 0),SqL.of (d.2.1 _ _ ai)|by rw[N];simp[show q<b.length by lia]]) (λ_ _ g d=>%[_,SqL.of (d.2.1 _ _ ai)|by rw[N];simp[I]]) ?_ ?_
   .intro q ts m g y %[%[o|rfl],M,a0|ht] x H2 %[e2|hx];subst e2;have u:q<b.length:=by lia
    have t:=hx _ (SqL.of (M _ _ ai));rw[N,Zl,Zl,Z4 u]at t;obtain rfl:x=V.int (b[q].2.getD i 0):=(Za t).symm;lk;refine%[_,_,rfl,s0|?_];refine CK.mk y a0 (by rw[ht,Z6,Z6,Z6,Ym];exact aC ⋯) %[%[_|rfl],ah.set M hF,aa|?_];rw[ht,Xb,Zd,Zd,Zd,Z4 u];rfl
   intro ts m H7 %[_,bf,b4|ht];rw[Zn ⋯]at ht;lk;refine%[(b.map λp=>sg (p.2.getD i 0) B).map sgn,by rw[<-ht];exact SqL.of b4,?_,_,bf _ _ (L _ _ ag),by rw[Z6,Z6,Yk];exact aC ⋯|k8 _ _ %[_,_,rfl,ah.set (bc.trans bf) hR|?_]]
   .rw[wZ,Z6,Z6,show(Str.ofString "").length=0 from rfl]
    lia
   .rw[aa,range_succ,Zd,Zd,show Txt.join (Str.ofString "") ((b.map λp=>sg (p.2.getD i 0) B).map sgn)=Str.join (Str.ofString "") ((b.map λp=>sg (p.2.getD i 0) B).map sgn)from StrLaws.glued_eq_join _ _,vZ];have e:jf (b.map (·.2)) B i=⟨(b.map λp=>sg (p.2.getD i 0) B).toArray⟩:=by
     unfold jf;rw[Ys];rfl
    rw[<-e];rfl
  .intro m H5 %[o7,o8,rfl,j|ag];refine k6 _ _ (ap λD7 k7 _=>aE λC O=>?_);lk;refine%[by decide,by simp|O _ _ λF hF=>?_];refine bi (J:=Itr 0 8) (n:=8) (D:=F) (λq ts m g=>(∃o,m=[o,!D])/\ah H5 g/\g F=some (.lst ts)/\ts=(((List.range q).filter λa:Nat=>(b.map (·.2)).any λc=>decide ((a:Int)∈c)).map λa:Nat=>(a:Int)).map V.int)
    %[%[none|rfl],ah.upd hF,aa|rfl] (λq _ _ g y _=>y) (λ_ _ g _=>Zi _) ?_ ?_
   .intro q ts m g y %[%[o|rfl],M,a0|ht] x H2 %[e2|e3];subst e2 e3;lk;refine aE λC O=>?_
    lk;have aj:=M _ _ (j _ _ Y);refine .inl %[%[_|SqL.of aj]|O _ _ λG hG=>?_];refine bi (J:=Itl K D) (n:=wd.toNat) (D:=G) (λr zs m H3=>(∃o,m=[o,some (.int q)])/\ah H2 H3/\H3 G=some (.lst zs)/\zs=(b.take r).map (λp=>V.bl (decide ((q:Int)∈p.2))))
     %[%[none|rfl],ah.upd hG,aa|rfl]
     (λr _ _ H3 bl d=>%[_,V.ref (b[r]'⋯).1,SqL.of (d.2.1 _ _ aj)|by simp[show r<b.length by lia]]) (λ_ _ H3 d=>%[_,SqL.of (d.2.1 _ _ aj)|by simp[I]]) ?_ ?_
    .intro r zs m H3 bl %[%[o|rfl],s3,b5|N] x cd %[e2|hx];subst e2;have u:r<b.length:=by lia
     have t:=hx _ (SqL.of (s3 _ _ aj));rw[Zl,Z4 u]at t;obtain rfl:x=V.ref b[r].1:=(Za t).symm;have hm:=Ye u;lk;refine%[_,.inl (SqL.of (s3 _ _ (M _ _ (j _ _ (ae _ hm))))),rfl,zq _|?_];rw[Dx];refine CK.mk bl b5 (by rw[N,Z6,Ym];exact aC ⋯) %[%[_|rfl],ah.set s3 hG,aa|?_];rw[N,Xb,Zd,Z4 u];rfl
    intro zs m H3 %[_,s3,b6|N];rw[Zn ⋯]at N;have bm:=s3 _ _ a0;lk;refine%[_,.inl (SqL.of b6),rfl,by rw[N];simp[fV]|?_];rw[N,zo];have any:(b.any λp=>decide ((q:Int)∈p.2))=(b.map (·.2)).any λc=>decide ((q:Int)∈c):=by rw[any_map];rfl
    rw[any];have bn:ts.length<sizeLine:=by
     rw[ht,Z6,Z6];have:=Yj (λa:Nat=>(b.map (·.2)).any λc=>decide ((a:Int)∈c)) (List.range q);rw[Yk]at this;exact aC ⋯
    refine bx (λhb=>?_) λhb=>?_
    .refine CK.mk y bm bn %[%[_|rfl],ah.set (M.trans s3) hF,aa|?_];rw[ht,range_succ,Y3,Zd,Zd];rw[show List.filter (λa:Nat=>(b.map (·.2)).any λc=>decide ((a:Int)∈c)) [q]=[q]from by rw[filter_cons,if_pos hb];rfl];rfl
    .refine CN.mk y %[%[_|rfl],M.trans s3,bm|?_];rw[ht,range_succ,Y3,Zd,Zd];rw[show List.filter (λa:Nat=>(b.map (·.2)).any λc=>decide ((a:Int)∈c)) [q]=[]from by rw[filter_cons,if_neg hb];rfl];simp
   intro ts m H6 %[_,L,bp|ht];refine k7 _ _ ?_;lk;have ab:∀c∈b.map (·.2),c.length=hi.toNat/\kW v c:=λc hc=>by
    have%[p,hp|rfl]:=Xq hc;exact(U p hp).2
   have al:b8 (drawn (b.map (·.2)) hi.toNat B):=uF ⋯ ⋯ ⋯ ⋯ ab;have bt:H5 R=some (.lst ((drawn (b.map (·.2)) hi.toNat B).map V.str)):=ag;refine%[drawn (b.map (·.2)) hi.toNat B,SqL.of (L _ _ bt),?_,#[2]|λp hp=>?_]
   .have:=al.sum;have:=al.high;rw[show(Str.ofString "\n").length=1 from rfl]
    lia
   .refine kk p F _ (b.map (·.2)) hi.toNat v ((as.trans (j.trans L)).trans (ah.upd hp)) ((as.trans (j.trans L)).free hp) ((as.trans j).free hF) (λe=>by rw[e,bp]at hp;cases hp) ?_ ?_ ⋯ ⋯ ⋯ ⋯ ab
    .rw[aa,show Txt.join (Str.ofString "\n") (drawn (b.map (·.2)) hi.toNat B)=Str.join (Str.ofString "\n") (drawn (b.map (·.2)) hi.toNat B)from StrLaws.glued_eq_join _ _];rfl
    .rw[ah.upd hp F _ bp,ht];rfl
inductive q0 (vs:ZM) (H:Hp) (Q:VK) (E0:XK):Prop
 | mk (z:Str) (z0:vs=[.str z]) (z1:z.length<=1000) (z2:∀H',ah H H'->Q (.bl (sr z)) H'):q0 vs H Q E0
inductive oS (vs:ZM) (H:Hp) (Q:VK) (E0:XK):Prop
 | mk (row above:Str) (z0:vs=[.str row,.str above]) (z1:row.length<=1000) (z2:above.length<=1000) (z3:∀H',ah H H'->Q (.bl (fG row above)) H'):oS vs H Q E0
inductive jN (K:ZA) (vs:ZM) (H:Hp) (Q:VK) (E0:XK):Prop
 | mk (a) (rows) (z0:vs=[.ref a]) (z1:SqL K H a (rows.map V.str)) (z2:(rows.map (·.length)).sum<=3000) (z3:(∀r∈rows,r.cps.toList.all okc=true)) (z4:∀l H' ss,ah H H'->H l=none->H' l=some (.lst (ss.map V.str))->ss.Perm (aL ((dh rows).map sgn))->PyProof.Rows.sortedS ss=true->Q (.ref l) H'):jN K vs H Q E0
inductive oU (vs:ZM) (H:Hp) (Q:VK) (E0:XK):Prop
 | mk (rows:ZB) (z0:vs=[.str (Str.join nl rows)]) (z1:b8 rows) (z2:∀l H',ah H H'->H l=none->H' l=some (.lst (rows.map V.str))->Q (.ref l) H'):oU vs H Q E0
theorem jA(z:Str)(i:Nat)(c:Nat)(h:z.cps[i]? =some c):(z.cps.toList.take i++[c])=z.cps.toList.take (i+1):=by
 have h':z.cps.toList[i]? =some c:=by simpa using h
 have%[a|e]:=Xn h';rw[List.take_succ_eq_append_getElem a,e]
theorem BK(c d:Nat):((⟨([c].toArray)⟩:Str)=⟨([d].toArray)⟩)↔c=d:=by
 simp
theorem oV(c:Nat):((⟨([c].toArray)⟩)=Str.ofString ".")↔c=46:=BK c 46
theorem BL(T:Txt K mg):↥1 "is_row" ["row"] q0:=by
 refine T.b2.cal zi (λH vs Q E h=>?_)
 .have%[z,rfl,N|k]:=h;refine%[rfl|λf v A outer s M=>?_];refine%[_,%["JDI&~a~A~AEabA0B~4.~b~cAmZ?1Q0W0?2q~nyo0~H.y^0~oB",0,(show bH (am kZ) ["row"] _ ["sign"] []=true from by decide +kernel)|(show(["sign"]:ZB).Nodup from by simp)]|?_];show kg _ _ [-z] H;lk;refine%[cD ⋯|bx (λl=>bx (λm=>?_) λm=>?_) λl=>?_]
  .refine aE λt y=>?_
   lk;refine y _ _ λD u=>?_
   refine bi (J:=Its z) (n:=z.cps.size) (D:=D) (λi ys d a=>(∃o,d=[o])/\ah H a/\a D=some (.lst ys)/\ys=(z.cps.toList.take i).map (λc=>V.bl (okc c))) %[%[none|rfl],ah.upd u,aa|rfl]
    (λi _ _ _ hi _=>hi) (λ_ _ _ _=>Zi _) ?_ ?_
   .intro i ys d a hi %[%[o|rfl],p,q|g] x B %[C,c,G|rfl];subst C;have j:ys.length=i:=by
     rw[g,Z6,Ym];have:z.cps.toList.length=z.cps.size:=by simp
     lia
    have I:i<1000:=by
     have:z.length=z.cps.size:=rfl
     lia
    have put:∀b:Bool,b=okc c->CK D z.cps.size i (λi ys d a=>(∃o,d=[o])/\ah H a/\a D=some (.lst ys)/\ys=(z.cps.toList.take i).map (λc=>V.bl (okc c))) ys [some (.str ⟨([c].toArray)⟩)] (.bl b) B:=λb L=>
     CK.mk hi q (j▸aC ⋯) %[%[_|rfl],ah.set p u,aa|by rw[L,g,<-jA z i c G,Zd];rfl]
    lk;refine bx (λr=>put true ?_) λr=>put _ ?_
    .have:=(oV c).mp (Zo r);unfold okc;rw[Zf this,Bool.true_or]
    .have: ¬ c=46:=λe=>(λe=>r (Zf e)) ((oV c).mpr e)
     unfold okc;rw[Zh this,Bool.false_or,AJ];rfl
   .intro ys d a %[_,p,q|g];lk;refine%[z.cps.toList.map okc,?_|?_]
    .have e:z.cps.toList.take z.cps.size=z.cps.toList:=by
      apply Zn;simp
     rw[e]at g;have:(z.cps.toList.map okc).map V.bl=ys:=by rw[g,Ys];rfl
     rw[this];exact SqL.of q
    .have e:sr z=(z.cps.toList.map okc).all id:=by
      unfold sr;rw[l,m,all_map]
      all_goals rfl
     exact e▸k a p
  .rw[Bool.not_eq_true]at m;have e:sr z=false:=by unfold sr;rw[m,Bool.and_false,Bool.false_and]
   rw[e]at k;exact k H (ah.refl H)
  .rw[Bool.not_eq_true]at l;have e:sr z=false:=by unfold sr;rw[l,Bool.false_and,Bool.false_and]
   rw[e]at k;exact k H (ah.refl H)
noncomputable def mT(p:Nat×Nat):Bool:=!decide (p.2=46)||decide (p.1=46)
theorem uM(x y:Str)(i c d:Nat)(b:x.cps[i]? =some c)(f:y.cps[i]? =some d):((List.zip x.cps.toList y.cps.toList).take i++[(c,d)])=(List.zip x.cps.toList y.cps.toList).take (i+1):=by
 have h:(List.zip x.cps.toList y.cps.toList)[i]? =some (c,d):=List.getElem?_zip_eq_some.mpr %[by simpa using b|by simpa using f];have%[a|e]:=Xn h;rw[List.take_succ_eq_append_getElem a,e]
theorem oW(T:Txt K mg):↥1 "lies_beneath" ["row","above"] oS:=by
 refine T.b3.cal nh (λH vs Q E h=>?_)
 .have%[row,a,rfl,I,L|k]:=h;refine%[rfl|λf G A outer s hr=>?_];refine%[_,%["JCOLtabA0BabA1BDIrPDI~b~cAmZ?1~pA1A0BfMW0?2MW1?2gq~nyt1~H.yo0~HB",0,(show bH (am dL) ["row","above"] _ ["high","low"] []=true from by decide +kernel)|(show(["high","low"]:ZB).Nodup from by decide +kernel)]|?_]
  show be _ _ _ [-row,-a] H;refine ap λD1 k1 M=>?_
  lk;refine%[cD ⋯,cD ⋯|bx (λj=>?_) λj=>?_]
  .have j: ¬ ((row.length:Int)=a.length):=by simpa using j
   have e:fG row a=false:=by
    unfold fG;rw[Zh ⋯,Bool.false_and]
   rw[e]at k;exact M _ _ (k H (ah.refl H))
  .have j:row.length=a.length:=by
    have:(row.length:Int)=a.length:=by simpa using j
    lia
   refine k1 _ _ ?_;have t:row.cps.size=a.cps.size:=j;have u:(List.zip a.cps.toList row.cps.toList).length=a.cps.size:=by rw[length_zip];simp[t]
   lk;refine aE λz N=>?_
   lk;refine N _ _ λD B=>?_
   refine bi (J:=Itz a row) (n:=a.cps.size) (D:=D) (λi ys l g=>(∃q r,l=[q,r])/\ah H g/\g D=some (.lst ys)/\ys=((List.zip a.cps.toList row.cps.toList).take i).map (λp=>V.bl (mT p))) %[%[none,none|rfl],ah.upd B,aa|rfl]
    (λi _ _ _ hi _=>%[hi|⋯]) (λ_ _ _ _=>%[Zi _,⋯|.inl rfl]) ?_ ?_
   .intro i ys l g hi %[%[q,r|rfl],v,y|m] x H2 %[c,d,TT,O,U,C,rfl|rfl];have o:ys.length=i:=by rw[m,Z6,Ym,u];lia
    have Y:i<1000:=by
     have:a.length=a.cps.size:=rfl
     lia
    have put:∀b:Bool,b=mT (c,d)->CK D a.cps.size i (λi ys l g=>(∃q r,l=[q,r])/\ah H g/\g D=some (.lst ys)/\ys=((List.zip a.cps.toList row.cps.toList).take i).map (λp=>V.bl (mT p))) ys [some (.str ⟨([c].toArray)⟩),some (.str ⟨([d].toArray)⟩)] (.bl b) (upd g TT (.tup [.str ⟨([c].toArray)⟩,.str ⟨([d].toArray)⟩])):=λb eb=>
     CK.mk hi (ah.upd C _ _ y) (o▸aC ⋯) %[%[_,_|rfl],ah.set (v.trans (ah.upd C)) B,aa|by rw[eb,m,<-uM a row i c d O U,Zd];rfl]
    lk;refine%[_,SqT.of aa,rfl,_,_,rfl,_,_,rfl,rfl,rfl|?_];simp only[V.str.injEq,oV];refine bx (λh=>put true ?_) λh=>%[rfl|put _ ?_]
    .unfold mT;rw[h,Bool.true_or]
    .unfold mT;rw[Bool.not_eq_true]at h;rw[h,Bool.false_or]
   .intro ys l g %[_,v,y|m];lk;refine%[(List.zip a.cps.toList row.cps.toList).map mT,?_|?_]
    .have e:(List.zip a.cps.toList row.cps.toList).take a.cps.size=List.zip a.cps.toList row.cps.toList:=Zn ⋯;rw[e]at m;have:((List.zip a.cps.toList row.cps.toList).map mT).map V.bl=ys:=by rw[m,Ys];rfl
     rw[this];exact SqL.of y
    .have e:fG row a=((List.zip a.cps.toList row.cps.toList).map mT).all id:=by
      unfold fG;rw[Zf j,all_map,Bool.true_and];rfl
     exact e▸k g v
theorem zu(h:(rows.map (·.length)).sum<=3000):(Str.join (Str.ofString "") rows).length<=3000:=by
 have:=StrLaws.join_length_le (Str.ofString "") rows;rw[show(Str.ofString "").length=0 from rfl]at this
 lia
theorem lq(T:Txt K mg):↥1 "letters_in" ["rows"] (jN K):=by
 refine T.b4.cal qc (λH vs Q E h=>?_)
 .have%[a,rows,rfl,N,g,u|k]:=h;refine%[rfl|λf M A outer s hr=>?_];refine%[_,%["JDI~B~5A~I~dAmZ?1Q~G~ZRA0BW0?2,Lt0~H0BB",0,(show bH (am e7) ["rows"] _ ["sign"] []=true from by decide +kernel)|(show(["sign"]:ZB).Nodup from by simp)]|?_];show kg _ _ [!a] H;lk;refine aE λC O=>?_
  lk;refine%[rows,N,by rw[show(Str.ofString "").length=0 from rfl];lia|?_];rw[show Txt.join (Str.ofString "") rows=Str.join (Str.ofString "") rows from StrLaws.glued_eq_join _ _];have j:=zu g;have b:=lQ u;unfold dh at b k
  generalize Str.join (Str.ofString "") rows=z at j b k ⊢
  refine O _ _ λD G=>?_
  refine bi (J:=Its z) (n:=z.cps.size) (D:=D) (λi ys v m=>(∃o,v=[o])/\ah H m/\m D=some (.lst ys)/\ys=((z.cps.toList.take i).filter (λc=>decide (c≠46))).map (λc=>V.str (sgn c))) %[%[none|rfl],ah.upd G,aa|rfl]
   (λi _ _ _ hi _=>hi) (λ_ _ _ _=>Zi _) ?_ ?_
  .intro i ys v m hi %[%[o|rfl],r,t|d] x H2 %[U,c,I|rfl];subst U;have L:ys.length<=i:=by
    rw[d,Z6];have:=Yj (λc=>decide (c≠46)) (z.cps.toList.take i);rw[Ym]at this
    lia
   have Y:i<3000:=by
    have:z.length=z.cps.size:=rfl
    lia
   lk;simp only[oV];refine bx (λy=>?_) λy=>?_
   .refine CK.mk hi t (aC ⋯) %[%[_|rfl],ah.set r G,aa|?_];rw[<-jA z i c I,Y3,Zd,d];have:decide (c≠46)=true:=by simpa using y
    rw[filter_cons,this];rfl
   .refine CN.mk hi %[%[_|rfl],r,t|?_];rw[<-jA z i c I,Y3,Zd,d];have:decide (c≠46)=false:=by simpa using y
    rw[filter_cons,this];simp
  .intro ys v m %[_,r,t|d];have e:z.cps.toList.take z.cps.size=z.cps.toList:=by
    apply Zn;simp
   rw[e]at d;lk;have ab:=Yj (λc=>decide (c≠46)) z.cps.toList;have ac:z.cps.toList.length=z.length:=by simp[Str.length]
   refine%[(z.cps.toList.filter (λc=>decide (c≠46))).map sgn,?_,by rw[Z6];lia|λS hS=>%[_,aa,?_|λl ss p hp B=>?_]]
   .rw[Ys];have:(z.cps.toList.filter (λc=>decide (c≠46))).map (V.str ∘ sgn)=ys:=by rw[d];rfl
    rw[this];exact SqL.of t
   .have:=og b
    lia
   .have q:ah H (upd m S (jU w S (aL ((z.cps.toList.filter (λc=>decide (c≠46))).map sgn)))):=r.trans (ah.upd hS);exact k l _ ss (q.trans (ah.upd p)) (q.free p) aa hp B
theorem mr(T:Txt K mg):↥2 "rows_of" ["text"] oU:=by
 refine T.b1.cal iC (λH vs Q E h=>?_)
 .have%[rows,rfl,a|k]:=h;refine%[rfl|λf al A outer s L=>?_];have%[wd,w1,w2|hw]:=a.wide;have M:=a.text;have t:=a.split;refine%[_,%["JCOun'(A0A?1BD/PCH1~6~70ARBCT~QA1BfMK2MK3gCOczLo2~8!unF~9A3BD/PDOcwL:2E$unF]AA3AU1G~E2EBD/PCOLoabAF~qA1BBED/PDI1",iC.nd,(blE (v:= .ty "str") rfl T.ab boot_str rfl rfl rfl)|L]|?_]
  generalize Str.join nl rows=z at M t
  show be _ _ _ [-z,none,none,none] H;refine ap λD1 k1 _=>?_
  lk;refine%[.type "str",.str z,true,by rfl|Fc (k1 _ _ (ap λD2 k2 _=>?_))];lk;refine%[by decide,Yh (by lia:z.length+2<=5000) (by decide)|λl hl=>k2 _ _ ?_];rw[show(Str.ofString "\n")=nl from rfl,t];refine ap λD3 k3 _=>az λag hK=>?_
  lk;have N:ah H (upd H l (.lst (rows.map V.str))):=ah.upd hl;refine%[_,SqL.of aa|hK _ _ (kH (λi I g=>∃O U,I=[-z,!l,O,U]/\ah H g/\g l=some (.lst (rows.map V.str))) %[none,none,rfl,N|aa] (λi I g _ ⟨_,_,_,_,q⟩=>SqL.of q) ?_ ?_)]
  .intro i x TT I g u %[O,U,rfl,Y|j] hT;obtain⟨r,m,rfl⟩:∃r,rows[i]? =some r/\x=V.str r:=by
    rw[Zl]at u;cases e:rows[i]? with
    | none=>rw[e]at u;cases u
    | some r=>rw[e]at u;exact%[r,rfl|(Za u).symm]
   have ai:i<rows.length:=(Xn m).1;have aj:=a.high;have y:ah H (upd g TT (.tup [.int i,.str r])):=Y.trans (ah.upd hT);have o:upd g TT (.tup [.int i,.str r]) l=some (.lst (rows.map V.str)):=ah.upd hT _ _ j;have B:upd g TT (.tup [.int i,.str r]) TT=some (.tup [.int i,.str r]):=aa
   generalize upd g TT (.tup [.int i,.str r])=HT at y o B
   have C:r.length<=1000:=by
    have:r.length=wd:=hw r (Z8 m)
    lia
   refine%[_,SqT.of B,rfl,_,_,rfl,_,_,rfl,rfl|?_];show be _ _ _ [-z,!l,some (.int i),-r] HT;refine ap λD4 k4 _=>?_
   have go:∀p,ah HT p->D4.nx [-z,!l,some (.int i),-r] p:=by
    intro p b;refine k4 _ _ (aD λD5 k5 _=>?_);have fin:∀J,ah HT J->D5.nx [-z,!l,some (.int i),-r] J:=λJ n=>k5 _ _ %[_,_,rfl,y.trans n|n l _ o]
    lk;refine bx (λG=>?_) λ_=>fin _ b
    have G:0<(i:Int):=Zo G;obtain⟨d,rfl⟩:∃d,i=d+1:=%[i-1|⋯]
    have ab:d<rows.length:=by lia
    have ac:rows[d]? =some rows[d]:=by simp
    have e1:(((d+1:Nat):Int) -1)=(d:Int):=by lia
    refine%[_,SqL.of (b l _ o),.str rows[d],e1▸cJ ∅,r,rows[d],rfl,C,?_|λJ n=>%[_,rfl|?_]]
    .have:rows[d].length=wd:=hw _ (Ye ab)
     lia
    .rw[a.beneath ac m];exact Fc (fin _ (b.trans n))
   lk;rw[if_neg ⋯];refine%[r,rfl,C|λp b=>%[_,rfl|?_]];rw[a.row (Z8 m)];exact Fc (go p b)
  .intro I g %[O,U,rfl,Y|j];refine k3 _ _ ?_;lk;refine%[l,rows,rfl,SqL.of j,by have:=a.sum;lia,a.sign|λl2 p ss b an ae G as=>%[_,.inl %[_,SqL.of ae|rfl]|?_]];rw[if_neg]
   .exact k l p (Y.trans b) hl (b l _ j)
   .intro h0;have h0:=Zo h0;rw[Z6]at h0;have:ss=[]:=length_eq_zero_iff.mp ⋯;rw[this]at G;have hm:=G.symm.eq_nil;have%[c|hc]:=List.exists_mem_of_ne_nil _ a.signs_ne;have:sgn c∈aL ((dh rows).map sgn):=bA.mpr (Xr %[c,hc|rfl]);rw[hm]at this;cases this
noncomputable def rc(p:Nat×Nat):Option ZB:=if p.1≠46/\p.1≠p.2 then some [sgn p.1,sgn p.2]else none
noncomputable def oX(u r:Str):List ZB:=(List.zip u.cps.toList r.cps.toList).filterMap rc
theorem jn(H:Hp):ba H []:=λp a=>by cases a
theorem aY(h:ba H ps)(s:∀b z,H b=some (.tup z)->c b=some (.tup z)):ba c ps:=λp a=>%[(h p a).1|s _ _ (h p a).2]
theorem jB(h:ba H ps)(a:q.2≠[])(b:H q.1=some (.tup (q.2.map V.str))):ba H (ps++[q]):=λp c=>by
 rcases Xo c with z|z
 .exact h p z
 .rw[Xp z];exact%[a|b]
theorem uN(a:ba H ps)(b:ba H qs):ba H (ps++qs):=λp c=>(Xo c).elim (a p) (b p)
inductive Ef (vs:ZM) (H:Hp) (Q:VK) (E0:XK):Prop
 | mk (u r:Str) (z0:vs=[.str u,.str r]) (z1:u.length<=40) (z2:r.length=u.length) (z3:∀l H' ps,ah H H'->H l=none->H' l=some (.lst (ps.map λp=>V.ref p.1))->ba H' ps->ps.map (·.2)=oX u r->Q (.ref l) H'):Ef vs H Q E0
inductive xt (vs:ZM) (H:Hp) (Q:VK) (E0:XK):Prop
 | mk (rows:ZB) (z0:vs=[.str (Str.join nl rows)]) (z1:b8 rows) (z2:∀l H' ss,ah H H'->H l=none->H' l=some (.lst (ss.map V.str))->ss.Perm (aL ((dh rows).map sgn))->PyProof.Rows.sortedS ss=true->Q (.ref l) H'):xt vs H Q E0
theorem zv(T:Txt K mg):↥3 "letters" ["text"] xt:=by
 refine T.b5.cal wx (λH vs Q E h=>?_)
 .have%[rows,rfl,a|e]:=h;refine%[rfl|λf d A outer s b=>?_];refine%[_,%["JDIF~qAF~rA0BB",0|b],rows,rfl,a|λl r c t g=>%[l,rows,rfl,SqL.of g,by have:=a.sum;lia,a.sign|λi j ss m n o p q=>e i j ss (c.trans m) (c.free n) o p q]]
theorem j9(T:Txt K mg):↥1 "meetings_between" ["above","row"] Ef:=by
 refine T.b7.cal jF (λH vs Q E h=>?_)
 .have%[u,r,rfl,hu,ae|kk]:=h;refine%[rfl|λf ac A outer s hr=>?_];have ag:u.length=u.cps.size:=rfl;have ai:r.length=r.cps.size:=rfl;refine%[_,%["JDImZ?1~pA0A1BfMW0?2MW1?2g,cwLt0~H$Lt01kA0A1B",0,(show bH (am cv) ["above","row"] _ ["high","low"] []=true from by decide +kernel)|(show(["high","low"]:ZB).Nodup from by decide +kernel)]|?_];show kg _ _ [-u,-r] H;lk;refine aE λab hK=>?_
  lk;refine hK _ _ λD N=>?_
  refine bi (J:=Itz u r) (n:=u.cps.size) (D:=D) (λi ys O l=>(∃o1 o2,O=[o1,o2])/\ah H l/\l D=some (.lst ys)/\ys.length<=i/\∃ps:ZG,ys=ps.map (λp=>V.ref p.1)/\ba l ps/\ps.map (·.2)=((List.zip u.cps.toList r.cps.toList).take i).filterMap rc)
   %[%[none,none|rfl],ah.upd N,aa,Zi _,[],rfl,jn _|rfl] (λi _ _ _ hi _=>%[hi|⋯]) (λ_ _ _ _=>%[Zi _,⋯|.inl rfl]) ?_ ?_
  .intro i ys O l hi %[%[o1,o2|rfl],U,Y,G,ps,I,m|j] x H2 %[c,d,TT,hc,hd,hT,rfl|rfl];have t:=ah.upd (o:= .tup [.str ⟨([c].toArray)⟩,.str ⟨([d].toArray)⟩]) hT;have nx:=uM u r i c d hc hd;have a:=t _ _ Y;have B:upd l TT (.tup [.str ⟨([c].toArray)⟩,.str ⟨([d].toArray)⟩]) TT=some (.tup [.str ⟨([c].toArray)⟩,.str ⟨([d].toArray)⟩]):=aa;have g:ba (upd l TT (.tup [.str ⟨([c].toArray)⟩,.str ⟨([d].toArray)⟩])) ps:=λp C=>%[(m p C).1|t _ _ (m p C).2]
   have v:=U.trans t
   generalize upd l TT (.tup [.str ⟨([c].toArray)⟩,.str ⟨([d].toArray)⟩])=HT at t a B g v
   refine%[_,SqT.of B,rfl,_,_,rfl,_,_,rfl,rfl|?_];show Cd _ _ [some (.str ⟨([c].toArray)⟩),some (.str ⟨([d].toArray)⟩)] HT _;lk;simp only[oV,BK];have aj:D≠TT:=λe=>by rw[e,B]at a;cases a
   refine bx (λL=>bx (λM=>?_) λM=>?_) λL=>?_
   .have L:c≠46:=by simpa using L
    have M:c≠d:=by simpa using M
    refine%[show 2<=sizeLine from by decide|λp C=>?_];have y:=ah.upd (o:= .tup [V.str ⟨([c].toArray)⟩,V.str ⟨([d].toArray)⟩]) C;have al:p≠D:=λe=>by rw[e,a]at C;cases C
    refine CK.mk hi (y _ _ a) (aC ⋯) %[%[_,_|rfl],ah.set (v.trans y) N,aa,by rw[Z9,Yl];lia,ps++[(p,[sgn c,sgn d])],by rw[I,Zd];rfl,?_|?_]
    .have keep:∀b z,upd HT p _ b=some (.tup z)->upd _ D (.lst (ys++[V.ref p])) b=some (.tup z):=λb z e=>by
      have:b≠D:=λe2=>by rw[e2,y _ _ a]at e;cases e
      rw[ao this];exact e
     exact aY (jB (aY g λb z e=>y _ _ e) ∅ (by rw[aa];rfl)) keep
    .rw[Zd,j,<-nx,List.filterMap_append];have:rc (c,d)=some [sgn c,sgn d]:=if_pos %[L|M];rw[Y2,this];rfl
   .refine CN.mk hi %[%[_,_|rfl],v,a,⋯,ps,I,g|?_];rw[j,<-nx,List.filterMap_append];have:rc (c,d)=none:=if_neg λq=>q.2 (by simpa using M)
    rw[Y2,this];simp
   .refine CN.mk hi %[%[_,_|rfl],v,a,⋯,ps,I,g|?_];rw[j,<-nx,List.filterMap_append];have:rc (c,d)=none:=if_neg λq=>q.1 (by simpa using L)
    rw[Y2,this];simp
  .intro ys O l %[_,U,Y,G,ps,I,m|j];rw[Zn (by rw[length_zip];simp;lia)]at j;exact kk D l ps U N (by rw[Y,I]) m j
theorem BM{K:ZA}{xs ys:ZM}{g:TG}{q:TS}{D:lF}(Pv:Nat->St->Hp->Prop)(s:Pv 0 c H)(t:ys.length<=xs.length)(u:∀i c H,i<=ys.length->Pv i c H->SqL K H a xs/\SqL K H b ys)
 (z:∀i x y T c H,xs[i]? =some x->ys[i]? =some y->Pv i c H->H T=none->g (.ref T) c (upd H T (.tup [x,y])) λd j=>q {D with nx:=Pv (i+1),ct:=Pv (i+1),bk:=D.nx} d j) (A:∀c H,Pv ys.length c H->D.nx c H):
 ∃W:Nat->Nat->St->Hp->Prop,(∃m,W 0 m c H)/\∀i m c H,W i m c H->
  ((yU K a b).stop i H/\D.nx c H)\/((yU K a b).go i H/\∃N:St->Hp->Prop,(∀f h,N f h->∃r,r<m/\W (i+1) r f h)/\∀x h,(yU K a b).yld i H x h->g x c h λd j=>q {D with nx:=N,ct:=N,bk:=D.nx} d j):=by
 refine%[λi m c H=>m=ys.length-i/\i<=ys.length/\Pv i c H,%[ys.length,by simp,Xf _|s]|?_];intro i m c H %[rfl,hi|p];have%[l|n]:=u i c H hi p;by_cases o:i<ys.length
 .have B:xs[i]? =some xs[i]:=by simp[show i<xs.length by lia]
  have C:ys[i]? =some ys[i]:=by simp
  refine .inr %[%[xs,ys,_,_,l,n,B|C],Pv _,λf h E=>%[ys.length-(i+1),⋯,rfl,o|E]|λv h y=>?_];have%[T,G,I,J,rfl,rfl,L|M]:=y;exact z i G I T c H (L xs l) (M ys n) p J
 .have e:i=ys.length:=by lia
  subst e;exact .inl %[%[xs,ys,l,n,⋯,Zi _|.inr rfl]|A c H p]
noncomputable def gA(rows:ZB)(i:Nat):List ZB:=(List.range i).flatMap λj=>oX (rows.getD j ⟨([].toArray)⟩) (rows.getD (j+1) ⟨([].toArray)⟩)
theorem sZ(rows:ZB)(i:Nat):gA rows (i+1)=gA rows i++oX (rows.getD i ⟨([].toArray)⟩) (rows.getD (i+1) ⟨([].toArray)⟩):=by
 unfold gA;rw[range_succ,flatMap_append];simp
theorem wA(u r:Str):(oX u r).length<=u.length:=by
 refine Yh (List.length_filterMap_le _ _) ?_;rw[length_zip];have:u.cps.toList.length=u.length:=by simp[Str.length]
 lia
theorem zw(h:k∈gA rows (rows.length-1)):∃a b,k=[sgn a,sgn b]/\Dv rows a b:=by
 have%[j,d|g]:=mem_flatMap.mp h;have f:∀j h,rows.getD j ⟨([].toArray)⟩=rows[j]:=λj h=>by simp[h]
 have d:=mem_range.mp d;have%[%[a|b],i|e]:=mem_filterMap.mp g;unfold rc at e
 split at e
 .rename_i h
  have%[q|c]:=Xg i;rw[List.getElem?_zip_eq_some,f j ⋯,f _ ⋯]at c;exact%[a,b,(Za e).symm,h.1,h.2,j,q,rows[j],rows[j+1],Z4 _,Z4 _,by simpa using c.1|by simpa using c.2]
 .lia
theorem zx(g:b8 rows)(h:Dv rows a b):Let rows a/\Let rows b:=by
 have%[n1,l,i,j,r,c,d,f,g1|g2]:=h;refine%[%[n1,r,Z8 d|Z8 (by simpa using g1)],λe=>n1 (g.fall i r c d f j a b g1 g2 e),c,Z8 f|Z8 (by simpa using g2)]
theorem zy(rows:ZB)(h:rows≠[]):tM (rows.map V.str) (some 1) none=(rows.drop 1).map V.str:=by
 unfold tM;rw[HT.sIx_none,show(some (1))=some ((1:Nat):Int)from rfl,HT.sIx_nat,Z6,X1 (length_pos_iff.mpr h),<-List.map_drop,<-List.map_take];rw[Zn (Yi▸Zi _)]
inductive xu (vs:ZM) (H:Hp) (Q:VK) (E0:XK):Prop
 | mk (rows:ZB) (z0:vs=[.str (Str.join nl rows)]) (z1:b8 rows) (z2:uI rows) (z3:∀l H' ss,ah H H'->H l=none->H' l=some (.lst (ss.map λp=>V.ref p.1))->ba H' ss->ss.length<=26->(∀t∈ss,∃a b,t.2=[sgn a,sgn b]/\Let rows a/\Let rows b)->(∀k,k∈ss.map (·.2)↔k∈gA rows (rows.length-1))->Q (.ref l) H'):xu vs H Q E0
theorem wB(T:Txt K mg):↥3 "meetings" ["text"] xu:=by
 refine T.b6.cal eK (λH vs Q E h=>?_)
 .have%[rows,rfl,c,%[mm,ml|a4]|kk]:=h;refine%[rfl|λf bl A outer s hr=>?_];have%[wd,w1,w2|Y]:=c.wide;have hp:1<=rows.length:=c.pos;have bb:=c.high;have a5:rows≠[]:=length_pos_iff.mp hp;refine%[_,%["JCH1F~rA0BCH2SBCT]BA1A>1+E~JBfMK3MK4gDV~s~t2AF]CA3A4BBDI~B~uA~I~vA2BB",eK.nd|hr]|?_]
  show be _ _ _ [some (.str (Str.join nl rows)),none,none,none,none] H;refine ap λD1 k1 r1=>?_
  lk;refine%[rows,rfl,c|λR H1 s1 f1 hR=>k1 _ _ (ap λD2 k2 r2=>?_)];lk;refine%[Xf _|λL hL=>k2 _ _ (ap λD3 k3 r3=>az λbc hK=>?_)];have s2:=ah.upd (o:= .lst []) hL;have C:=s2 _ _ hR;have G:upd H1 L (.lst []) L=some (.lst []):=aa;have fL:H L=none:=s1.free hL;have ab:=s1.trans s2
  generalize upd H1 L (.lst [])=H2 at s2 C G ab
  lk;refine .inl %[_,SqL.of C|λp hp=>?_];rw[zy rows a5];have s3:=ah.upd (o:= .lst ((rows.drop 1).map V.str)) hp;have I:=s3 _ _ C;have ac:=s3 _ _ G;have J:upd H2 p (.lst ((rows.drop 1).map V.str)) p=some (.lst ((rows.drop 1).map V.str)):=aa;have ae:=ab.trans s3;have a6:L≠R:=λe=>by rw[e,hR]at hL;cases hL
  have a7:p≠L:=λe=>by rw[e,G]at hp;cases hp
  generalize upd H2 p (.lst ((rows.drop 1).map V.str))=H3 at s3 I ac J ae
  refine%[%[_|SqL.of I],%[_|SqL.of J]|hK _ _ (BM (xs:=rows.map V.str) (ys:=(rows.drop 1).map V.str) (λi σ l=>(∃o3 o4,σ=[some (.str (Str.join nl rows)),!R,!L,o3,o4])/\ah H l/\l R=some (.lst (rows.map V.str))/\l p=some (.lst ((rows.drop 1).map V.str))/\
   ∃ps:ZG,l L=some (.lst (ps.map λq=>V.ref q.1))/\ba l ps/\ps.map (·.2)=gA rows i/\ps.length<=40*i) %[%[none,none|rfl],ae,I,J,[],ac,jn _,rfl|Xf _] (by rw[Z6,Z6,Yi];lia) (λi σ l _ q=>%[SqL.of q.2.2.1|SqL.of q.2.2.2.1]) ?_ ?_)]
  .intro i x y TT σ l hx hy %[%[o3,o4|rfl],sm,ag,ai,ps,M,g,n|aj] hT;rw[Zl]at hx hy;have%[u,hu|rfl]:=map_eq_some_iff.mp hx;have%[r,v|rfl]:=map_eq_some_iff.mp hy;rw[Yb,Nat.add_comm]at v;have bm:i+1<rows.length:=(Xn v).1;have ul:u.length=wd:=Y u (Z8 hu);have rl:r.length=wd:=Y r (Z8 v);have j:=ah.upd (o:= .tup [V.str u,V.str r]) hT;have al:upd l TT (.tup [V.str u,V.str r]) TT=some (.tup [V.str u,V.str r]):=aa;have an:=j _ _ ag;have as:=j _ _ ai;have t:=j _ _ M;have B:ba (upd l TT (.tup [V.str u,V.str r])) ps:=aY g λb z e=>j _ _ e
   have a0:=sm.trans j
   generalize upd l TT (.tup [V.str u,V.str r])=HT at j al an as t B a0
   refine%[_,SqT.of al,rfl,_,_,rfl,_,_,rfl,rfl|?_];refine aD λD4 k4 r4=>?_
   lk;refine%[.inl %[_|SqL.of t],u,r,rfl,⋯,⋯|λl4 H4 ps4 U f4 h4 a1 e4=>?_];have bn:l4≠L:=λe=>by rw[e,t]at f4;cases f4
   have bf:ps4.length<=40:=by
    have:(ps4.map (·.2)).length=(oX u r).length:=by rw[e4]
    rw[Z6]at this;have:=wA u r
    lia
   refine%[_,rfl,_,U _ _ t,_,h4,by rw[Z6,Z6];exact cD ⋯|k4 _ _ ?_];have N:∀b z,H4 b=some (.tup z)->upd H4 L (.lst ((ps.map λq=>V.ref q.1) ++ps4.map λq=>V.ref q.1)) b=some (.tup z):=λb z e=>by
    have:b≠L:=λe2=>by rw[e2,U _ _ t]at e;cases e
    rw[ao this];exact e
   have a8:R≠L:=Ne.symm a6;refine%[%[_,_|rfl],λb u' e=>?_,(ao a8)▸U _ _ an,(ao a7)▸U _ _ as,ps++ps4,by rw[aa,Zd],aY (uN (aY B λb z e=>U _ _ e) a1) N,?_|by rw[Z9];lia]
   .rw[ao (ay e fL)];exact U _ _ (a0 _ _ e)
   .rw[Zd,n,e4,sZ];have g1:rows.getD i ⟨([].toArray)⟩=u:=by rw[Zc,hu];rfl
    have g2:rows.getD (i+1) ⟨([].toArray)⟩=r:=by rw[Zc,v];rfl
    rw[g1,g2]
  .intro σ l %[%[o3,o4|rfl],sm,ag,ai,ps,M,g,n|aj];rw[Z6,Yi]at n;refine k3 _ _ ?_;lk;have O:∀q∈ps,∃a b,q.2=[sgn a,sgn b]/\Dv rows a b:=λq d=>zw (n▸Xr %[q,d|rfl])
   have a2:∀q∈ps,q.2∈mm:=λq d=>by
    have%[a,b,e|h]:=O q d;rw[e];exact a4 a b h
   refine%[ps,SqL.of M,g,%[mm,⋯|a2]|λl5 a9=>?_];have s5:=ah.upd (o:=oF P w l5 (bg ps)) a9;have few:(bg ps).length<=26:=by
    have:=STab.nodup_sub (eA ps) (m:=mm) λk hk=>by
     have%[q,d|rfl]:=Xq hk;exact a2 q (bv ps q d)
    rw[Z6]at this
    lia
   refine%[bg ps,aa,λq d=>%[(g q (bv ps q d)).1|s5 _ _ (g q (bv ps q d)).2],2,λq d=>?_,by decide,⋯|λl6 ss a3 pm so=>?_]
   .have%[a,b,e|_]:=O q (bv ps q d);rw[e];rfl
   have s6:=ah.upd (o:= .lst (ss.map λq=>V.ref q.1)) a3;refine kk l6 _ ss ((sm.trans s5).trans s6) ((sm.trans s5).free a3) aa (λq d=>?_) (pm.length_eq▸few) (λq d=>?_) λk=>?_
   .have:=g q (bv ps q (pm.mem_iff.mp d));exact%[this.1|s6 _ _ (s5 _ _ this.2)]
   .have%[a,b,e|h]:=O q (bv ps q (pm.mem_iff.mp d));exact%[a,b,e|zx c h]
   .rw[(pm.map _).mem_iff,iu,n]
noncomputable def eL(z:Str):Bool:=(decide (1<=(z.length:Int))&&decide ((z.length:Int)<=8))&&z.cps.toList.all ja
inductive oY (vs:ZM) (H:Hp) (Q:VK) (E0:XK):Prop
 | mk (z:Str) (z0:vs=[.str z]) (z1:eL z=true) (z2:∀H',ah H H'->Q (.bl true) H'):oY vs H Q E0
inductive uO (K:ZA) (vs:ZM) (H:Hp) (Q:VK) (E0:XK):Prop
 | mk (z:Str) (p:Addr) (ts:ZB) (z0:vs=[.str z,.ref p]) (z1:(SqL K H p (ts.map V.str)\/SqT K H p (ts.map V.str))) (z2:Q (.bl (decide (z∈ts))) H):uO K vs H Q E0
inductive oZ (vs:ZM) (H:Hp) (Q:VK) (E0:XK):Prop
 | mk (i:Int) (z0:vs=[.int i]) (z1: -9999<=i) (z2:i<=9999) (z3:Q (.bl true) H):oZ vs H Q E0
def rg(c:ZB)(vs:ZM):Prop:=
 (∃w a b:Str,vs=[.str w,.str a,.str b]/\(w="later"\/w="same")/\a∈c/\b∈c/\a≠b)\/
 ∃w a y,vs=[.str w,.str a,.int y]/\(w="since"\/w="by")/\a∈c/\ -9999<=y/\y<=9999
inductive lu (K:ZA) (vs:ZM) (H:Hp) (Q:VK) (E0:XK):Prop
 | mk (t) (p) (xs) (ls) (z0:vs=[.ref t,.ref p]) (z1:H t=some (.tup xs)) (z2:SqL K H p (ls.map V.str)) (z3:rg ls xs) (z4:Q (.bl true) H):lu K vs H Q E0
noncomputable def lnS(n z:Str):Str:=Str.empty++n++Str.ofString "."++z
inductive jO (vs:ZM) (H:Hp) (Q:VK) (E0:XK):Prop
 | mk (n z:Str) (z0:vs=[.str n,.str z]) (z1:n.length<=100) (z2:z.length<=100) (z3:Q (.str (lnS n z)) H):jO vs H Q E0
theorem tf(z:Str)(ts:ZB):inV (V.str z) (ts.map V.str)=decide (z∈ts):=by
 unfold inV
 induction ts with
 | nil=>rfl
 | cons c r a=>
   show((c==z)||_)=_
   grind
theorem rh(ts:ZB):(ts.map V.str).all fV=true:=by simp[fV]
theorem zA(T:Txt K mg):↥1 "is_name" ["thing"] oY:=by
 refine T.b0.cal ww (λH vs Q E h=>?_)
 .have%[z,rfl,y|k]:=h;refine%[rfl|λf u A outer s M=>?_];refine%[_,%["JCOun'(A0A?1BDIrPDI&~a~A~AEabA0B]D.~b~cAmZ?2Q0W0?3qy^0~oB",0,(blE (v:= .ty "str") rfl T.ab boot_str rfl rfl rfl),(show bH (am jz) ["thing"] _ ["sign"] []=true from by decide +kernel)|(show(["sign"]:ZB).Nodup from by decide +kernel)]|?_]
  show be _ _ _ [-z] H;have a:=y;unfold eL at a;rw[Zx,Zx]at a;have%[%[B|q]|b]:=a;have N:z.length<=8:=by have:=Zo q;lia
  lk;refine%[.type "str",.str z,true,by rfl|?_];lk;refine%[cD ⋯|?_];rw[if_pos B,if_pos q];refine aE λr C=>?_
  lk;refine C _ _ λD t=>?_
  refine bi (J:=Its z) (n:=z.cps.size) (D:=D) (λi ys l d=>(∃o,l=[o])/\ah H d/\d D=some (.lst ys)/\ys=(z.cps.toList.take i).map (λc=>V.bl (ja c))) %[%[none|rfl],ah.upd t,aa|rfl]
   (λi _ _ _ hi _=>hi) (λ_ _ _ _=>Zi _) ?_ ?_
  .intro i ys l d hi %[%[o|rfl],m,p|g] x O %[G,c,I|rfl];subst G;lk;have j:ys.length=i:=by
    rw[g,Z6,Ym];have:z.cps.toList.length=z.cps.size:=by simp
    lia
   have L:i<1000:=by
    have:z.length=z.cps.size:=rfl
    lia
   refine CK.mk hi p (j▸aC ⋯) %[%[_|rfl],ah.set m t,aa|?_];rw[AJ,g,<-jA z i c I,Zd]
   all_goals rfl
  .intro ys l d %[_,m,p|g];refine%[D,rfl,(z.cps.toList.map ja),?_|?_]
   .have e:z.cps.toList.take z.cps.size=z.cps.toList:=by
     apply Zn;simp
    rw[e]at g;have:(z.cps.toList.map ja).map V.bl=ys:=by rw[g,Ys];rfl
    rw[this];exact SqL.of p
   .have e:(z.cps.toList.map ja).all id=true:=by
     rw[all_map];exact b
    rw[e];exact k d m
theorem cE(T:Txt K mg):↥1 "is_text_among" ["thing","texts"] (uO K):=by
 refine T.bd.cal l9 (λH vs Q E h=>?_)
 .have%[z,p,ts,rfl,b|k]:=h;refine%[rfl|λf a A outer s c=>?_];refine%[_,%["JDI&'(A0A?1B.y^01",0|(blE (v:= .ty "str") rfl T.ab boot_str rfl rfl rfl)]|?_];show kg _ _ [some _,some _] H;lk;refine%[.type _,.str z,true,by rfl|?_];rw[<-tf]at k;exact%[_,b,rfl,rh ts|k]
theorem zB(T:Txt K mg):↥1 "is_year" ["thing"] oZ:=by
 refine T.be.cal wz (λH vs Q E h=>?_)
 .have%[i,rfl,b,c|k]:=h;refine%[rfl|λf a A outer s d=>?_];refine%[_,%["JCOczun'(A0A?1B!n'(A0A?2BDIrPDI~a~A~A]E0]F",0,(blE (v:= .ty "int") rfl T.ah boot_int rfl rfl rfl)|(blE (v:= .ty "bool") rfl T.ai PyProof.Rows.boot_bool rfl rfl rfl)]|?_]
  show be _ _ _ [some (.int i)] H;lk;refine%[.type _,.int i,true,by rfl,.type _,.int i,false,by rfl|?_];rw[if_pos (Zf b),Zf c];exact k
theorem iH(T:Txt K mg):↥1 "layer_name" ["name","letter"] jO:=by
 refine T.bf.cal qd (λH vs Q E h=>?_)
 .have%[n,z,rfl,j,l|k]:=h;refine%[rfl|λf c A outer s i=>?_];refine%[_,%["JDI~w~K~e0~KR~K~e1~x"|0]|?_];show kg _ _ [-n,some _] H;lk;have e:∀a b:Str,(a++b).length=a.length+b.length:=λa b=>size_append
  have d:Str.empty.length=0:=rfl;have g:(Str.ofString ".").length=1:=rfl;have le:∀k,k<=1000->k<=sizeLine:=λk m=>cD ⋯
  refine%[le _ ⋯,le _ ?_,le _ ?_,le _ ⋯,le _ ?_,le _ ?_|k]<;> simp only[e,d,g]<;> lia
theorem uP(T:Txt K mg):↥2 "is_saying" ["thing","layers"] (lu K):=by
 refine T.bc.cal sV (λH vs Q E h=>?_)
 .have%[t,p,xs,e,rfl,m,g,ok|k]:=h;refine%[rfl|λf n A outer s c=>?_];refine%[_,%["JCOczun'(A0A?1B!LtabA0BEDIrPCOnF~LAY0EA]GBDI&F~LAY0EA1B&F~LAY0EA1B.ytY0EY0EPCOnF~LAY0EA]HBDI&F~LAY0EA1B.F]IAY0EBPDIr",0,(blE (v:= .ty "tuple") rfl T.ag boot_tuple rfl rfl rfl)|c]|?_]
  show be _ _ _ [!t,!p] H;lk;refine%[.type "tuple",.tup m,true,by rfl|?_];have st:=SqT.of (K:=K) m;rcases ok with⟨wd,a,b,rfl,hw,i,o,j⟩|⟨wd,a,y,rfl,hw,i,r,u⟩
  .have l:decide (wd∈([Str.ofString "later",Str.ofString "same"]:ZB))=true:=by rcases hw with rfl|rfl<;> decide
   lk;refine%[3,.inr %[_,st|rfl]|?_];rw[if_neg (by decide)];refine%[_,st,_,rfl|λq d=>%[wd,q,[Str.ofString "later",Str.ofString "same"],rfl,.inr (d H),_,rfl|?_]];rw[l];lk;refine%[_,st,_,rfl,a,p,e,rfl,.inl g,_,rfl|?_];rw[Zf i];lk;refine%[_,st,_,rfl,b,p,e,rfl,.inl g,_,rfl|?_];rw[Zf o];lk;refine%[_,st,_,rfl,_,st,_,rfl,rfl|?_];rw[show(!decide (V.str a=V.str b))=true from by simp[j]];exact k
  .have l:decide (wd∈([Str.ofString "later",Str.ofString "same"]:ZB))=false:=by rcases hw with rfl|rfl<;> decide
   have z:decide (wd∈([Str.ofString "since",Str.ofString "by"]:ZB))=true:=by rcases hw with rfl|rfl<;> decide
   lk;refine%[3,.inr %[_,st|rfl]|?_];rw[if_neg (by decide)];refine%[_,st,_,rfl|λq d=>%[wd,q,[Str.ofString "later",Str.ofString "same"],rfl,.inr (d H),_,rfl|?_]];rw[l];lk;refine%[_,st,_,rfl|λq d=>%[wd,q,[Str.ofString "since",Str.ofString "by"],rfl,.inr (d H),_,rfl|?_]];rw[z];lk;refine%[_,st,_,rfl,a,p,e,rfl,.inl g,_,rfl|?_];rw[Zf i];lk;exact%[_,st,_,rfl,y,rfl,r,u|k]
def cm(H:Hp)(a:ZH):Prop:=∀p∈a,H p.1=some (.tup [.str p.2.1,.str (Str.join nl p.2.2)])/\eL p.2.1=true/\b8 p.2.2
theorem cm.up(h:cm H b)(s:ah H c):cm c b:=λp a=>%[s _ _ (h p a).1|(h p a).2]
inductive rj (vs:ZM) (H:Hp) (Q:VK) (E0:XK):Prop
 | mk (rows:ZB) (z0:vs=[.str (Str.join nl rows)]) (z1:b8 rows) (z2:∀H',ah H H'->Q (.bl true) H'):rj vs H Q E0
inductive uQ (vs:ZM) (H:Hp) (Q:VK) (E0:XK):Prop
 | mk (p:Addr×Str×ZB) (z0:vs=[.ref p.1]) (z1:cm H [p]) (z2:∀H',ah H H'->Q (.bl true) H'):uQ vs H Q E0
noncomputable def cF(a:ZH):ZM:=a.map λp=>V.ref p.1
inductive jP (vs:ZM) (H:Hp) (Q:VK) (E0:XK):Prop
 | mk (l) (cs) (z0:vs=[.ref l]) (z1:H l=some (.lst (cF cs))) (z2:cm H cs) (z3:(cs.map λp=>p.2.1).Nodup) (z4:1<=cs.length) (z5:cs.length<=8) (z6:∀H',ah H H'->Q .non H'):jP vs H Q E0
def dt(H:Hp)(a:ZB)(qs:ZN):Prop:=∀q∈qs,H q.1=some (.tup q.2)/\rg a q.2
theorem dt.up(h:dt H b qs)(s:ah H c):dt c b qs:=λp a=>%[s _ _ (h p a).1|(h p a).2]
inductive hJ (K:ZA) (vs:ZM) (H:Hp) (Q:VK) (E0:XK):Prop
 | mk (l) (r) (ls) (qs) (z0:vs=[.ref l,.ref r]) (z1:H l=some (.lst (qs.map λq=>V.ref q.1))) (z2:H r=some (.lst (ls.map V.str))) (z3:dt H ls qs) (z4:qs.length<=60) (z5:∀H',ah H H'->Q .non H'):hJ K vs H Q E0
theorem BN(T:Txt K mg):↥3 "is_cut" ["thing"] rj:=by
 refine T.ba.cal zj (λH vs Q E h=>?_)
 .have%[rows,rfl,a|k]:=h;refine%[rfl|λf b A outer s c=>?_];refine%[_,(QSs.h (ak (tryN (λ_ _ h=>h) (au (bQ rfl (aH (mr T) c rfl #[↑0]))))
   (au (aN eBl))))|?_]
  show be _ _ _ [some (.str (Str.join nl rows))] H;lk;exact%[rows,rfl,a|λl d e g i=>k d e]
theorem pd(T:Txt K mg):↥4 "is_named_cut" ["thing"] uQ:=by
 refine T.b9.cal ni (λH vs Q E h=>?_)
 .have%[p,rfl,g|k]:=h;refine%[rfl|λf e A outer s c=>?_];have%[b,i|a]:=g p (mem_singleton.mpr rfl);refine%[_,%["JDI&'(A0A?1B&yoabA0BE&F]JAY0EB.F]KAY0EB",0,(blE (v:= .ty "tuple") rfl T.ag boot_tuple rfl rfl rfl)|c]|?_];show kg _ _ [some _] H;lk;refine%[.type _,.tup b,true,by rfl|?_];have st:=SqT.of (K:=K) b;refine%[2,.inr %[_,st|rfl],_,st,_,rfl,p.2.1,rfl,i|λm d=>?_];lk;exact%[_,SqT.of (d _ _ b),_,rfl,p.2.2,rfl,a|λj l=>k j (d.trans l)]
theorem ti(T:Txt K mg):↥5 "check_cuts" ["cuts"] jP:=by
 refine T.b8.cal eD (λH vs Q E h=>?_)
 .have%[l,c,rfl,C,L,M,h1,h8|k]:=h;refine%[rfl|λf ai A outer s J=>?_];have u:(cF c).length=c.length:=Z6 _;refine%[_,%["JCOczun'(A0A?1B!LoabA0BED/PCH1vDT~QA0BfMK2MK3gCOczLo2]LzunF]MA3B!~RY3E1D/PDsr1Y3E",eD.nd,(blE (v:= .ty "list") rfl T.a5 boot_list rfl rfl rfl)|J]|?_]
  show be _ _ _ [!l,none,none,none] H;refine ap λD1 k1 _=>?_
  lk;refine%[.type "list",.lst C,true,by rfl|?_];lk;refine%[c.length,.inl %[_,SqL.of C|u.symm]|?_];rw[if_neg (by simp only[decide_eq_true_eq];lia)];refine k1 _ _ (ap λD2 k2 _=>?_);lk;refine λd N=>k2 _ _ (aD λD3 k3 _=>az λag hK=>?_)
  lk;refine%[_,SqL.of (ah.upd N _ _ C)|hK _ _ (kH (λi G g=>∃O U a,G=[!l,!d,O,U]/\ah H g/\g d=some (.dK a)/\a.map (·.1)=(c.take i).map λp=>Sum.inr p.2.1) %[none,none,[],rfl,ah.upd N,aa|rfl] (λi G g _ ⟨_,_,_,_,q,_⟩=>SqL.of (q _ _ C)) ?_ ?_)]
  .intro i x TT G g I %[O,U,a,rfl,Y,y|m] hT;have hi:i<c.length:=u▸(Xn I).1;obtain⟨q,hq,rfl⟩:∃q,c[i]? =some q/\x=V.ref q.1:=by
    unfold cF at I;rw[Zl,Z4 hi]at I;exact%[c[i],Z4 hi|(Za I).symm]
   have b:ah H (upd g TT (.tup [.int i,.ref q.1])):=Y.trans (ah.upd hT);have z:upd g TT (.tup [.int i,.ref q.1]) TT=some (.tup [.int i,.ref q.1]):=aa;have t:=ah.upd (o:= .tup [.int i,.ref q.1]) hT _ _ y
   generalize upd g TT (.tup [.int i,.ref q.1])=HT at b t z
   have n:=L q (Z8 hq);refine%[_,SqT.of z,rfl,_,_,rfl,_,_,rfl,rfl|?_];show be _ _ _ [!l,!d,some (.int i),some (.ref q.1)] HT;refine ap λD4 k4 _=>?_
   lk;rw[if_neg (by simp only[decide_eq_true_eq];lia)];refine%[q,rfl,λp hp=>(Xp hp)▸%[b _ _ n.1|n.2]|λH2 B=>%[true,rfl|?_]];rw[if_neg ∅];have r:(Sum.inr q.2.1:Key)∉a.map (·.1):=by
    rw[m];intro hm;have%[q',ab|e]:=Xq hm;have e:q'.2.1=q.2.1:=Sum.inr.inj e;have%[j|hj]:=Xg ab;have ac:j<i:=by
     have:=(Xn hj).1;rw[Ym]at this
     lia
    rw[Yd ac]at hj;have n1:(c.map λp=>p.2.1)[j]? =some q.2.1:=by rw[Zl,hj,<-e];rfl
    have:=dD M n1 (by rw[Zl,hq];rfl)
    lia
   refine%[_,SqT.of (B _ _ (b _ _ n.1)),_,rfl,_,cf.k (k:=Sum.inr q.2.1) (B _ _ t)|?_];have hv:bJ a (Sum.inr q.2.1:Key)=none:=by
    cases e:bJ a (Sum.inr q.2.1:Key)with
    | none=>rfl
    | some v=>exact absurd (CM e) r
   rw[hv,if_neg ∅];refine k4 _ _ (aD λD5 k5 _=>?_);lk;have ae:a.length=i:=by
    have:=congrArg List.length m;rw[Z6,Z6,Ym]at this
    lia
   refine%[_,SqT.of (B _ _ (b _ _ n.1)),_,rfl,_,iU.k (k:=Sum.inr q.2.1) (B _ _ t) (ae▸aC ⋯)|k5 _ _ %[_,_,_,rfl,ah.set (b.trans B) N,aa|?_]];rw[yX,if_neg r,m,Xb,Zd,hq];rfl
  .intro G g %[O,U,a,rfl,Y,y|m];exact k3 _ _ (k g Y)
theorem np(T:Txt K mg):↥3 "check_sayings" ["sayings","layers"] (hJ K):=by
 refine T.bb.cal ee (λH vs Q E h=>?_)
 .have%[l,r,u,qs,rfl,g,j,m,C|k]:=h;refine%[rfl|λf z A outer s B=>?_];refine%[_,%["JCOun'(A0A?1BD/PDT~QA0BfMK2MK3gDOczLo2]N!unF]OA3A1BD/P",ee.nd,(blE (v:= .ty "list") rfl T.a5 boot_list rfl rfl rfl)|B]|?_]
  show be _ _ _ [!l,!r,none,none] H;refine ap λN k1 _=>?_
  lk;refine%[.type "list",.lst g,true,by rfl|?_];lk;refine k1 _ _ (aD λO G _=>az λy I=>?_);lk;refine%[_,SqL.of g|I _ _ (kH (λi e b=>∃n o,e=[!l,!r,n,o]/\ah H b) %[none,none,rfl|ah.refl H] (λi e b _ ⟨_,_,_,q⟩=>SqL.of (q _ _ g)) ?_ ?_)]
  .intro i x TT e b p %[n,o,rfl|t] J;have hi:i<qs.length:=(Z6 _)▸(Xn p).1;obtain⟨q,L,rfl⟩:∃q,qs[i]? =some q/\x=V.ref q.1:=by
    rw[Zl,Z4 hi]at p;exact%[qs[i],Z4 hi|(Za p).symm]
   have a:ah H (upd b TT (.tup [.int i,.ref q.1])):=t.trans (ah.upd J);have c:upd b TT (.tup [.int i,.ref q.1]) TT=some (.tup [.int i,.ref q.1]):=aa
   generalize upd b TT (.tup [.int i,.ref q.1])=HT at a c
   have d:=m q (Z8 L);refine%[_,SqT.of c,rfl,_,_,rfl,_,_,rfl,rfl|?_];show mX _ _ _ _ [!l,!r,some (.int i),some (.ref q.1)] HT;refine aD λU M _=>?_
   lk;rw[if_neg ⋯];refine%[q.1,r,q.2,u,rfl,a _ _ d.1,SqL.of (a _ _ j),d.2,true,rfl|?_];rw[if_neg ∅];exact M _ _ %[_,_,rfl|a]
  .intro e b %[n,o,rfl|t];exact G _ _ (k b t)
noncomputable def lyr(p:Addr×Str×ZB):ZB:=(aL ((dh p.2.2).map sgn)).map (lnS p.2.1)
inductive lv (vs:ZM) (H:Hp) (Q:VK) (E0:XK):Prop
 | mk (l) (cs) (z0:vs=[.ref l]) (z1:H l=some (.lst (cF cs))) (z2:cm H cs) (z3:cs.length<=3) (z4:(cs.flatMap lyr).length<=80) (z5:∀r H' (ls:ZB),ah H H'->H r=none->H' r=some (.lst (ls.map V.str))->ls.Perm (cs.flatMap lyr)->ls.Pairwise (λa b=>aV b a=false)->Q (.ref r) H'):lv vs H Q E0
def dS(c:ZB)(k:ZB):Prop:=∃a b z,k=[a,b,z]/\a∈c/\b∈c
def Sml(z:Str):Prop:=z.length<=30/\∀c∈z.cps.toList,c<16^8
def zC(a:ZB)(k:ZB):Prop:=dS a k/\∀z∈k,Sml z
theorem uR(h:eL z=true):Sml z:=by
 unfold eL at h;rw[Zx,Zx]at h;refine%[⋯|λc a=>?_];have:=(lP.mp (all_eq_true.mp h.2 c a)).2
 lia
theorem Sml.app{a b:Str}(f:∀c∈a.cps.toList,c<16^8)(g:∀c∈b.cps.toList,c<16^8):∀c∈(a++b).cps.toList,c<16^8:=λc d=>by
 have e:(a++b).cps.toList=a.cps.toList++b.cps.toList:=Xe;rw[e]at d;exact(Xo d).elim (f c) (g c)
theorem Dy(h:c<1000):∀x∈(sgn c).cps.toList,x<16^8:=λx a=>by
 have e:=by simpa [sgn]using a
 lia
theorem mv{c:Nat}(h:eL n=true)(d:c<1000):Sml (lnS n (sgn c)):=by
 have e:∀a b:Str,(a++b).length=a.length+b.length:=λa b=>size_append
 have l:n.length<=8:=by
  unfold eL at h
  grind
 refine%[?_|Sml.app (Sml.app (Sml.app (λc d=>(nomatch d)) (uR h).2) (by decide +kernel)) (Dy d)];unfold lnS;rw[e,e,e,show Str.empty.length=0 from rfl,show(Str.ofString ".").length=1 from rfl,show(sgn c).length=1 from rfl]
 lia
theorem wC(h:b8 rows)(l:Let rows c):c<1000:=by
 have:=(lP.mp (lQ h.sign c (gZ.mpr l))).2
 lia
theorem Dz(b:eL p.2.1=true)(d:b8 p.2.2):∀z∈lyr p,Sml z:=λz e=>by
 have%[y,f|rfl]:=Xq e;have%[c,a|rfl]:=Xq (bA.mp f);exact mv b (wC d (gZ.mp a))
theorem F0(e:Sml a)(f:Sml b)(g:Sml c):∀z∈[a,b,c],Sml z:=λz d=>by
 simp only[Yw,X8,or_false]at d;rcases d with rfl|rfl|rfl
 .exact e
 .exact f
 .exact g
theorem DC(i:Nat)(h:i<=100):Sml (Str.empty++Str.ofString "#"++Str.ofString (toString (i:Int))):=by
 have all:∀j:Fin 101,Sml (Str.empty++Str.ofString "#"++Str.ofString (toString ((j.1)))):=by
  unfold Sml;decide +kernel
 exact all %[i|⋯]
theorem dS.three(h:dS c k):k.length=3:=by
 have%[a,b,z,rfl|_]:=h;rfl
theorem dS.mono(h:dS c k)(s:∀x∈c,x∈d):dS d k:=by
 have%[a,b,z,e,f|g]:=h;exact%[a,b,z,e,s a f|s b g]
theorem xv(h:Let p.2.2 a):lnS p.2.1 (sgn a)∈lyr p:=
 Xr %[_,bA.mpr (Xr %[a,gZ.mpr h|rfl])|rfl]
noncomputable def xw(n:Str)(k:ZB):ZB:=k.map (lnS n) ++[n]
noncomputable def F2(i:Nat):Str:=Str.empty++Str.ofString "#"++Str.ofString (toString (i:Int))
noncomputable def iI(a:ZH):List ZB:=a.flatMap λp=>(gA p.2.2 (p.2.2.length-1)).map (xw p.2.1)
noncomputable def pf(i:Nat):ZM->Option ZB
 |[.str w,.str a,.str b]=>if w=Str.ofString "later" then some [a,b,F2 i]else none
 | _=>none
noncomputable def iJ(qs:ZN)(n:Nat):List ZB:=(List.range n).filterMap λj=>qs[j]?.bind λq=>pf j q.2
theorem tq{a:List _}{i:Nat}{q:Addr×Str×ZB}(b:a[i]? =some q):iI (a.take (i+1))=iI (a.take i) ++(gA q.2.2 (q.2.2.length-1)).map (xw q.2.1):=by
 unfold iI;rw[Xb,b,flatMap_append];show _++([q].flatMap _)=_;rw[List.flatMap_singleton]
theorem iK(a:qs[i]? =some q):iJ qs (i+1)=iJ qs i++(pf i q.2).toList:=by
 unfold iJ;rw[range_succ,List.filterMap_append];refine congrArg _ ?_;rw[Y2,a];rw[Option.bind_some];cases pf i q.2<;> rfl
inductive lw (vs:ZM) (H:Hp) (Q:VK) (E0:XK):Prop
 | mk (l) (cs) (z0:vs=[.ref l]) (z1:H l=some (.lst (cF cs))) (z2:cm H cs) (z3:(∀p∈cs,uI p.2.2)) (z4:cs.length<=3) (z5:∀r H' ts,ah H H'->H r=none->H' r=some (.lst (ts.map λt=>V.ref t.1))->ba H' ts->(∀t∈ts,zC (cs.flatMap lyr) t.2)->ts.length<=78->(∀k,k∈ts.map (·.2)↔k∈iI cs)->Q (.ref r) H'):lw vs H Q E0
inductive lz (vs:ZM) (H:Hp) (Q:VK) (E0:XK):Prop
 | mk (l) (ls) (qs) (z0:vs=[.ref l]) (z1:H l=some (.lst (qs.map λq=>V.ref q.1))) (z2:dt H ls qs) (z3:(∀z∈ls,Sml z)) (z4:qs.length<=80) (z5:∀r H' ts,ah H H'->H r=none->H' r=some (.lst (ts.map λt=>V.ref t.1))->ba H' ts->(∀t∈ts,zC ls t.2)->ts.length<=qs.length->ts.map (·.2)=iJ qs qs.length->Q (.ref r) H'):lz vs H Q E0
theorem ph{z:Str}(h:eL z=true):z.length<=8:=by
 unfold eL at h;rw[Zx,Zx]at h;have:=Zo h.1.2
 lia
theorem iL{a:List Nat}{z:Str}(h:z∈aL (a.map sgn)):∃c∈a,z=sgn c:=by
 have:=bA.mp h;have%[c,b|rfl]:=Xq this;exact%[c,b|rfl]
theorem uS(T:Txt K mg):↥4 "layers_of" ["cuts"] lv:=by
 refine T.bg.cal e8 (λH vs Q E h=>?_)
 .have%[l,e,rfl,hl,U,h8,ai|k]:=h;refine%[rfl|λf ag A outer s hr=>?_];have u:(cF e).length=e.length:=Z6 _;refine%[_,%["JCH1SBCTQ0fM~P2deMK3gDV~s~t1AmZ?1QF]PA3BW0?2qF~fAN1A0BBDI~B]QA1B",e8.nd,(show bH (am gi) ["cuts","layers","name","text"] _ ["letter","name"] [(1,2)]=true from by decide +kernel),(show(["letter","name"]:ZB).Nodup from by decide +kernel)|hr]|?_]
  show be _ _ _ [!l,none,none,none] H;refine ap λD1 k1 _=>?_
  lk;refine%[Xf _|λL Y=>k1 _ _ (ap λD2 k2 _=>az λv hK=>?_)];lk;refine .inl %[%[_|SqL.of (ah.upd Y _ _ hl)]|hK _ _ (bh (λi d a=>∃o2 o3,d=[!l,!L,o2,o3]/\ah H a/\∃g:ZB,a L=some (.lst (g.map V.str))/\g.Perm ((e.take i).flatMap lyr)/\g.length<=26*i)
   %[none,none,rfl,ah.upd Y,[],aa,List.Perm.refl _|Xf _] (λi d a _ ⟨_,_,_,q,_⟩=>SqL.of (q _ _ hl)) ?_ ?_)]
  .intro i x d a p %[o2,o3,rfl,y,g,N,B|ab];have hi:i<e.length:=u▸(Xn p).1;obtain⟨q,hq,rfl⟩:∃q,e[i]? =some q/\x=V.ref q.1:=by
    unfold cF at p;rw[Zl,Z4 hi]at p;exact%[e[i],Z4 hi|(Za p).symm]
   have b:=U q (Z8 hq);refine%[_,SqT.of (y _ _ b.1),rfl,_,_,rfl,_,_,rfl,rfl|aD λD3 k3 _=>?_];show kf _ _ [!l,!L,some (.str q.2.1),some (.str (Str.join nl q.2.2))] a;lk;refine%[.inl %[_|SqL.of N]|aE λv hK=>?_];lk;refine%[q.2.2,rfl,b.2.2|λl2 H2 ss s2 f2 O p2 q2=>?_];lk;refine .inl %[%[_|SqL.of O]|hK _ _ λF hF=>?_];have few:ss.length<=26:=p2.length_eq▸og λc hc=>lQ b.2.2.sign c hc
   have one:∀z∈ss,z.length=1:=λz hz=>by
    have%[c,_|rfl]:=iL (p2.mem_iff.mp hz);rfl
   refine bi (J:=Itl K l2) (n:=ss.length) (D:=F) (λj ts d a=>(∃o,d=[o,some (.str q.2.1)])/\ah H2 a/\a F=some (.lst ts)/\ts=((ss.take j).map (lnS q.2.1)).map V.str)
    %[%[none|rfl],ah.upd hF,aa|rfl]
    (λj _ _ a C m=>%[_,V.str ss[j],SqL.of (m.2.1 _ _ O)|by simp]) (λ_ _ a m=>%[_,SqL.of (m.2.1 _ _ O)|by simp]) ?_ ?_
   .intro j ts d H3 C %[%[o|rfl],G,ac|t] x H4 %[e2|p];subst e2;have I:=p _ (SqL.of (G _ _ O));rw[Zl,Z4 C]at I;obtain rfl:x=V.str ss[j]:=(Za I).symm;lk;refine%[_,_,rfl,by have:=ph b.2.1;lia,by rw[one _ (Ye C)];decide|CK.mk C ac (by rw[t,Z6,Z6,Ym];exact aC ⋯) %[%[_|rfl],ah.set G hF,aa|?_]];rw[t,Xb,Zd,Zd,Z4 C];rfl
   intro ts d H3 %[_,G,ae|t];rw[Zn (Zi _)]at t;lk;refine%[_,G _ _ (s2 _ _ N),_,ae,(by rw[t,Z6,Z6,Z6];exact cD ⋯)|k3 _ _ %[_,_,rfl,ah.set (y.trans (s2.trans G)) Y,g++ss.map (lnS q.2.1),?_,?_|?_]]
   .rw[aa,t,Zd]
   .rw[Xb,hq,flatMap_append];refine B.append ?_;show List.Perm _ ([q].flatMap lyr);rw[List.flatMap_singleton];exact p2.map _
   .rw[Z9,Z6]
    lia
  .intro d a %[o2,o3,rfl,y,g,N,B|ab];refine k2 _ _ ?_;lk;rw[u,Zn (Zi _)]at B;exact%[g,SqL.of N,by rw[B.length_eq];lia|λr ss M p' q'=>k r _ ss (y.trans (ah.upd M)) (y.free M) aa (p'.trans B) q']
theorem pj(T:Txt K mg):↥4 "ties_of_cuts" ["cuts"] lw:=by
 refine T.bh.cal bW (λH vs Q E h=>?_)
 .have%[l,B,rfl,hl,a2,a3,h8|k]:=h;refine%[rfl|λf a5 A outer s hr=>?_];have ae:(cF B).length=B.length:=Z6 _;refine%[_,%["JCH1SBCTQ0fMK2MK3gDTQF]RA3BfMK4MK5gDVlh1AkAF~fA2A4BAF~fA2A5BA2BBDI1",bW.nd|hr]|?_]
  show be _ _ _ [!l,none,none,none,none,none] H;refine ap λD1 k1 _=>?_
  lk;refine%[Xf _|λL hL=>k1 _ _ (ap λD2 k2 _=>az λag hK=>?_)];lk;refine .inl %[%[_|SqL.of (ah.upd hL _ _ hl)]|hK _ _ (bh (λi C I=>∃o2 o3 o4 J,C=[!l,!L,o2,o3,o4,J]/\ah H I/\∃ts:ZG,I L=some (.lst (ts.map λt=>V.ref t.1))/\ba I ts/\(∀t∈ts,zC (B.flatMap lyr) t.2)/\ts.length<=26*i/\∀k,k∈ts.map (·.2)↔k∈iI (B.take i))
   %[none,none,none,none,rfl,ah.upd hL,[],aa,jn _,λt ht=>(nomatch ht),Xf _|λk=>Iff.rfl] (λi C I _ ⟨_,_,_,_,_,q,_⟩=>SqL.of (q _ _ hl)) ?_ ?_)]
  .intro i x C I M %[o2,o3,o4,J,rfl,sm,ts,hm,U,Y,ai|d];have hi:i<B.length:=by rw[<-ae];exact(Xn M).1
   obtain⟨q,hq,rfl⟩:∃q,B[i]? =some q/\x=V.ref q.1:=by
    unfold cF at M;rw[Zl,Z4 hi]at M;exact%[B[i],Z4 hi|(Za M).symm]
   have g:=a2 q (Z8 hq);refine%[_,SqT.of (sm _ _ g.1),rfl,_,_,rfl,_,_,rfl,rfl|?_];refine aD λD3 k3 _=>?_
   show Ab _ _ _ _ [!l,!L,some (.str q.2.1),some (.str (Str.join nl q.2.2)),o4,J] I;refine az λag hK=>?_
   lk;have qm:=Z8 hq;refine%[q.2.2,rfl,g.2.2,a3 q qm|?_];intro l2 H2 ss s2 f2 h2 t2 few aj all2;have a4:=ph g.2.1;have al:l2≠L:=λe=>by rw[e,hm]at f2;cases f2
   have an:(ss.map λp=>V.ref p.1).length=ss.length:=Z6 _;refine .inl %[l2,rfl,%[_|SqL.of h2]|hK _ _ (bh (xs:=ss.map λp=>V.ref p.1) (λj C n=>∃o4 J,C=[!l,!L,some (.str q.2.1),some (.str (Str.join nl q.2.2)),o4,J]/\ah H n/\n l2=some (.lst (ss.map λp=>V.ref p.1))/\ba n ss/\∃c:ZG,n L=some (.lst (c.map λt=>V.ref t.1))/\ba n c/\(∀t∈c,zC (B.flatMap lyr) t.2)/\c.length<=26*i+j/\c.map (·.2)=ts.map (·.2) ++((ss.take j).map (·.2)).map (xw q.2.1))
    %[_,_,rfl,sm.trans s2,h2,t2,ts,s2 _ _ hm,aY U λb z e=>s2 _ _ e,Y,⋯|(Zz _).symm] (λj C n _ ⟨_,_,_,_,q,_⟩=>SqL.of q) ?_ ?_)]
   .intro j x C n M %[o4,J,rfl,ab,as,r,c,G,u,ac,v|m];have hj:j<ss.length:=an▸(Xn M).1;rw[Zl,Z4 hj]at M;obtain rfl:x=V.ref ss[j].1:=(Za M).symm;have N:=Ye hj;have%[a,b,a0,la|lb]:=aj _ N;have O:=(r _ N).2;rw[a0]at O;refine%[_,SqT.of O,rfl,_,_,rfl,_,_,rfl,rfl|aD λD4 k4 _=>?_];show kf _ _ [!l,!L,some (.str q.2.1),some (.str (Str.join nl q.2.2)),some (.str (sgn a)),some (.str (sgn b))] n;lk;refine%[.inl %[_|SqL.of G],q.2.1,sgn a,rfl,⋯,(show 1<=100 by decide)|?_];refine%[q.2.1,sgn b,rfl,⋯,(show 1<=100 by decide)|?_];refine%[#[3]|λp hp=>?_];have sp:=ah.upd (o:= .tup [V.str (lnS q.2.1 (sgn a)),V.str (lnS q.2.1 (sgn b)),V.str q.2.1]) hp;have gp:upd n p (.tup [V.str (lnS q.2.1 (sgn a)),V.str (lnS q.2.1 (sgn b)),V.str q.2.1]) p=_:=aa
    generalize upd n p _=H4 at sp gp
    have a1:=sp _ _ G;have y:∀b z,H4 b=some (.tup z)->upd H4 L (.lst (c.map (λt=>V.ref t.1) ++[V.ref p])) b=some (.tup z):=λb z e=>by
     have:b≠L:=λe2=>by rw[e2,a1]at e;cases e
     rw[ao this];exact e
    refine%[_,a1,by rw[Z6];exact Nat.lt_of_le_of_lt (show c.length<=10000 by lia) (by decide)|k4 _ _ %[_,_,rfl,ah.set (ab.trans sp) hL,(ao al)▸sp _ _ as,aY (aY r λb z e=>sp _ _ e) y,c++[(p,[lnS q.2.1 (sgn a),lnS q.2.1 (sgn b),q.2.1])],?_,?_,?_,?_|?_]]
    .rw[aa,Zd];rfl
    .exact aY (jB (aY u λb z e=>sp _ _ e) ∅ gp) y
    .intro t ht;rcases Xo ht with z|z
     .exact ac t z
     .rw[Xp z];exact%[%[_,_,_,rfl,mem_flatMap.mpr %[q,qm|xv la]|mem_flatMap.mpr %[q,qm|xv lb]]|F0 (mv g.2.1 (wC g.2.2 la)) (mv g.2.1 (wC g.2.2 lb)) (uR g.2.1)]
    .rw[Z9,Yl];lia
    .rw[Zd,m,Ze,Xb,Z4 hj,Zd,Zd];show _++(_++[_])=_++(_++[xw q.2.1 ss[j].2]);rw[a0];rfl
   .intro C n %[o4,J,rfl,ab,as,r,c,G,u,ac,v|m];rw[an]at v m;rw[Zn (Zi _)]at m;refine k3 _ _ %[_,_,_,_,rfl,ab,c,G,u,ac,⋯|λk=>?_];rw[m,tq hq,Yt,Yt,d,mem_map,mem_map];exact or_congr Iff.rfl (exists_congr λz=>and_congr_left λ_=>all2 z)
  .intro C I %[o2,o3,o4,J,rfl,sm,ts,hm,U,Y,ai|d];refine k2 _ _ ?_;lk;rw[ae]at ai d;rw[Zn (Zi _)]at d;exact k L I ts sm hL hm U Y ⋯ d
theorem lA(T:Txt K mg):↥1 "ties_of_sayings" ["sayings"] lz:=by
 refine T.bi.cal cw (λH vs Q E h=>?_)
 .have%[l,N,qs,rfl,hl,ab,r,aj|k]:=h;refine%[rfl|λf ai A outer s hr=>?_];have G:(qs.map λq=>V.ref q.1).length=qs.length:=Z6 _;refine%[_,%["JCH1SBCT~QA0BfMK2MK3gDOLoY3ERDVlh1AkAY3EAY3EA~w~KR~K~e2~xBBPDI1"|cw.nd]|?_]
  show be _ _ _ [!l,none,none,none] H;refine ap λD1 k1 _=>?_
  lk;refine%[Xf _|λL O=>k1 _ _ (ap λD2 k2 _=>az λae hK=>?_)];lk;refine%[_,SqL.of (ah.upd O _ _ hl)|hK _ _ (kH (λi U n=>∃o2 o3,U=[!l,!L,o2,o3]/\ah H n/\∃ts:ZG,n L=some (.lst (ts.map λt=>V.ref t.1))/\ba n ts/\(∀t∈ts,zC N t.2)/\ts.length<=i/\ts.map (·.2)=iJ qs i)
   %[none,none,rfl,ah.upd O,[],aa,jn _,λt ht=>(nomatch ht),Xf _|rfl] (λi U n _ ⟨_,_,_,q,_⟩=>SqL.of (q _ _ hl)) ?_ ?_)]
  .intro i x TT U n hx %[o2,o3,rfl,sm,ts,hm,u,g,v|d] hT;have hi:i<qs.length:=by rw[<-G];exact(Xn hx).1
   obtain⟨q,Y,rfl⟩:∃q,qs[i]? =some q/\x=V.ref q.1:=by
    rw[Zl,Z4 hi]at hx;exact%[qs[i],Z4 hi|(Za hx).symm]
   have s0:=ah.upd (o:= .tup [.int i,.ref q.1]) hT;have j:ah H (upd n TT (.tup [.int i,.ref q.1])):=sm.trans s0;have I:upd n TT (.tup [.int i,.ref q.1]) TT=some (.tup [.int i,.ref q.1]):=aa;have m:=s0 _ _ hm;have c:=aY u λb z e=>s0 _ _ e
   generalize upd n TT (.tup [.int i,.ref q.1])=HT at j I m c
   have J:=ab q (Z8 Y);refine%[_,SqT.of I,rfl,_,_,rfl,_,_,rfl,rfl|?_];show mX _ _ _ _ [!l,!L,some (.int i),some (.ref q.1)] HT;refine aD λD4 k4 _=>?_
   lk;have st:=SqT.of (K:=K) (j _ _ J.1);have ag:(Str.ofString (toString (i:Int))).length<=21:=by
    have e:=PySem.int_text_length_le10 (a:=(i:Int)) (k:=20) (by decide) (by have:(i:Int).natAbs=i:=rfl;lia);rw[PySem.ofString_length];lia
   have e1:(Str.empty++Str.ofString "#").length=1:=by decide +kernel
   have ea:∀a b:Str,(a++b).length=a.length+b.length:=λa b=>size_append
   have add:∀a b:Str,a∈N->b∈N->pf i q.2=some [a,b,F2 i]->∀p,HT p=none->∃x,upd HT p (.tup [.str a,.str b,V.str (Str.empty++Str.ofString "#"++Str.ofString (toString (i:Int)))]) L=some (.lst x)/\x.length<sizeLine/\D4.nx [!l,!L,some (.int i),some (.ref q.1)] (upd (upd HT p (.tup [.str a,.str b,V.str (Str.empty++Str.ofString "#"++Str.ofString (toString (i:Int)))])) L (.lst (x++[V.ref p]))):=by
    intro a b ma mb ac p hp;have tn:=iK Y;rw[ac,<-d]at tn;unfold F2 at tn
    generalize hz:Str.empty++Str.ofString "#"++Str.ofString (toString (i:Int))=z at tn ⊢
    have sp:=ah.upd (o:= .tup [V.str a,V.str b,V.str z]) hp;have gp:upd HT p (.tup [V.str a,V.str b,V.str z]) p=_:=aa
    generalize upd HT p (.tup [V.str a,V.str b,V.str z])=H4 at sp gp
    have M:=sp _ _ m;have B:∀b z,H4 b=some (.tup z)->upd H4 L (.lst (ts.map (λt=>V.ref t.1) ++[V.ref p])) b=some (.tup z):=λb z e=>by
     have:b≠L:=λe2=>by rw[e2,M]at e;cases e
     rw[ao this];exact e
    refine%[_,M,by rw[Z6];exact aC ⋯|k4 _ _ %[_,_,rfl,ah.set (j.trans sp) O,ts++[(p,[a,b,z])],?_,?_,?_,?_|?_]]
    .rw[aa,Zd];rfl
    .exact aY (jB (aY c λb z e=>sp _ _ e) ∅ gp) B
    .intro t ht;rcases Xo ht with z|z
     .exact g t z
     .rw[Xp z];exact%[%[_,_,_,rfl,ma|mb]|F0 (r a ma) (r b mb) (hz▸DC i ⋯)]
    .rw[Z9,Yl];lia
    .rw[tn,Zd];rfl
   rcases J.2 with⟨wd,a,b,e,hw,ma,mb,_⟩|⟨wd,a,y,e,hw,_⟩
   .rw[e]at st;refine%[_,st,_,rfl,rfl|bx (λC=>?_) λC=>?_]
    .refine%[.inl %[_|SqL.of m],_,st,_,rfl,_,st,_,rfl,cD ⋯,?_,cD (by rw[ea];lia),cD (by rw[ea];lia),#[3]|add a b ma mb (e▸if_pos (V.str.inj (Zo C)))];have:(i:Int).natAbs=i:=rfl
     lia
    .refine k4 _ _ %[_,_,rfl,j,ts,m,c,g,⋯|?_];rw[iK Y,e,show pf i [V.str wd,V.str a,V.str b]=none from if_neg λz=>C (Zf (by rw[z])),d];exact(Zz _).symm
   .rw[e]at st;refine%[_,st,_,rfl,rfl|?_];rw[if_neg (by rcases hw with rfl|rfl<;> decide)];refine k4 _ _ %[_,_,rfl,j,ts,m,c,g,⋯|?_];rw[iK Y,e,d];exact(Zz _).symm
  .intro U n %[o2,o3,rfl,sm,ts,hm,u,g,v|d];refine k2 _ _ ?_;lk;rw[G]at v d;exact k L n ts sm O hm u g v d
structure GrF (mg:ZC) (H:Hp) (g c2 c3 c4:Addr) (qs:ZN) (ls:ZB) (ts:ZG):Prop where
 at_:∃dx c1,H g=some (.ins (cL mg "Ground") dx [("kept_cuts",.ref c1),("kept_sayings",.ref c2),("kept_layers",.ref c3),("kept_ties",.ref c4)])
 a2:H c2=some (.lst (qs.map λq=>V.ref q.1))
 a3:H c3=some (.lst (ls.map V.str))
 a4:H c4=some (.lst (ts.map λt=>V.ref t.1))
 sa:dt H ls qs
 tu:ba H ts
theorem GrF.up(h:GrF mg H g a c d qs f ts)(s:ah H i):GrF mg i g a c d qs f ts:=by
 have%[j,l|m]:=h.at_;exact%[%[j,l|s _ _ m],s _ _ h.a2,s _ _ h.a3,s _ _ h.a4,h.sa.up s|aY h.tu λb z e=>s _ _ e]
inductive rq (mg:ZC) (vs:ZM) (H:Hp) (Q:VK) (E0:XK):Prop
 | mk (g) (c2) (c3) (c4) (qs) (ls) (ts) (z0:vs=[.ref g]) (z1:GrF mg H g c2 c3 c4 qs ls ts) (z2:∀l,H l=none->Q (.ref l) (upd H l (.lst (ls.map V.str)))):rq mg vs H Q E0
inductive pq (mg:ZC) (vs:ZM) (H:Hp) (Q:VK) (E0:XK):Prop
 | mk (g) (c2) (c3) (c4) (qs) (ls) (ts) (z0:vs=[.ref g]) (z1:GrF mg H g c2 c3 c4 qs ls ts) (z2:∀l,H l=none->Q (.ref l) (upd H l (.lst (qs.map λq=>V.ref q.1)))):pq mg vs H Q E0
inductive xx (mg:ZC) (vs:ZM) (H:Hp) (Q:VK) (E0:XK):Prop
 | mk (g) (c2) (c3) (c4) (qs) (ls) (ts) (z0:vs=[.ref g]) (z1:GrF mg H g c2 c3 c4 qs ls ts) (z2:∀l,H l=none->Q (.ref l) (upd H l (.lst (ts.map λt=>V.ref t.1)))):xx mg vs H Q E0
inductive tt (mg:ZC) (vs:ZM) (H:Hp) (Q:VK) (E0:XK):Prop
 | mk (g) (l) (m) (dx) (cs) (qs) (z0:vs=[.ref g,.ref l,.ref m]) (z1:H g=some (.ins (cL mg "Ground") dx [])) (z2:H l=some (.lst (cF cs))) (z3:H m=some (.lst (qs.map λq=>V.ref q.1))) (z4:cm H cs) (z5:(cs.map λp=>p.2.1).Nodup) (z6:1<=cs.length) (z7:cs.length<=3) (z8:(∀p∈cs,uI p.2.2)) (z9:(cs.flatMap lyr).length<=80) (z10:(∀ls,ls.Perm (cs.flatMap lyr)->dt H ls qs)) (z11:qs.length<=20) (z12:∀H' ls ts c2 c3 c4,(∀b o,b≠g->H b=some o->H' b=some o)->GrF mg H' g c2 c3 c4 qs ls ts->(∀t∈ts,zC ls t.2)->(∀z∈ls,Sml z)->(∀k,k∈ts.map (·.2)↔k∈iI cs\/k∈iJ qs qs.length)->ts.length<=98->ls.Perm (cs.flatMap lyr)->ls.Pairwise (λa b=>aV b a=false)->Q .non H'):tt mg vs H Q E0
theorem BO(T:Txt K mg):De P w K mg base 6 "Ground" ["self","cuts","sayings"] (tt mg):=by
 refine T.bE.cal fR (λH vs Q E h=>?_)
 .have%[g,l,m,d,u,qs,rfl,O,hl,hm,j,an,h1,h8,as,a0,C,bf|k]:=h;refine%[rfl|λf bc A outer s hr=>?_];refine%[_,%["JCVF]SA1BCH3F]TA1BCVF]UA2A3BC~S0;<A1BC~S0;<A2BC~S03D~S0~B]VAGpF]WA1BF]XA2BB",fR.nd|hr]|?_]
  show be _ _ _ [!g,!l,!m,none] H;refine ap λD1 k1 _=>?_
  lk;refine%[l,u,rfl,hl,j,an,h1,⋯|λH1 s1=>k1 _ _ (ap λD2 k2 _=>?_)];lk;refine%[l,u,rfl,s1 _ _ hl,j.up s1,h8,a0|λr H2 G s2 f2 h2 U q2=>k2 _ _ (ap λD3 k3 _=>?_)];have Y:=s1.trans s2;lk;refine%[m,r,G,qs,rfl,Y _ _ hm,h2,(C G U).up Y,⋯|λH3 s3=>k3 _ _ (ap λD4 k4 _=>?_)];have v:=Y.trans s3;have OC:=T.bz.cls;have ag:∀z∈G,Sml z:=λz hz=>by
   have%[p,y|hz]:=mem_flatMap.mp (U.mem_iff.mp hz);exact Dz (j p y).2.1 (j p y).2.2 z hz
  have gl:l≠g:=λe=>by rw[e,O]at hl;cases hl
  have gm:m≠g:=λe=>by rw[e,O]at hm;cases hm
  have gr:r≠g:=λe=>by rw[e,s1 _ _ O]at f2;cases f2
  lk;refine%[_,.inl (SqL.of (v _ _ hl))|λa I=>%[_,_,_,ah.upd I _ _ (v _ _ O),OC,T.bA,(by show 0<1000;decide)|k4 _ _ (ap λD5 k5 _=>?_)]];have a1:a≠g:=λe=>by rw[e,v _ _ O]at I;cases I
  have a2:=ah.upd (o:= .lst (cF u)) I;have b4:∀b o,b≠g->H3 b=some o->upd (upd H3 a (.lst (cF u))) g (.ins (cL mg "Ground") d (dW (Str.ofString "kept_cuts") (V.ref a) [])) b=some o:=λb o c e=>by rw[ao c];exact a2 _ _ e
  have g4:upd (upd H3 a (.lst (cF u))) g (.ins (cL mg "Ground") d (dW (Str.ofString "kept_cuts") (V.ref a) [])) g=some (.ins (cL mg "Ground") d [("kept_cuts",V.ref a)]):=aa;have a4:upd (upd H3 a (.lst (cF u))) g (.ins (cL mg "Ground") d (dW (Str.ofString "kept_cuts") (V.ref a) [])) a=some (.lst (cF u)):=by rw[ao a1];exact aa
  generalize upd (upd H3 a (.lst (cF u))) g (.ins (cL mg "Ground") d (dW (Str.ofString "kept_cuts") (V.ref a) []))=H4 at b4 g4 a4
  have n4:∀b,H4 b=none->b≠g:=λb c e=>by rw[e,g4]at c;cases c
  lk;refine%[_,.inl (SqL.of (b4 _ _ gm (v _ _ hm)))|λi ab=>%[_,_,_,ah.upd ab _ _ g4,OC,T.bB,(by show 1<1000;decide)|k5 _ _ (ap λD6 k6 _=>?_)]];have ac:=n4 i ab;have a3:=ah.upd (o:= .lst (qs.map λq=>V.ref q.1)) ab;have b5:∀b o,b≠g->H4 b=some o->upd (upd H4 i (.lst (qs.map λq=>V.ref q.1))) g (.ins (cL mg "Ground") d (dW (Str.ofString "kept_sayings") (V.ref i) [("kept_cuts",V.ref a)])) b=some o:=λb o c e=>(ao c)▸a3 _ _ e
  have g5:upd (upd H4 i (.lst (qs.map λq=>V.ref q.1))) g (.ins (cL mg "Ground") d (dW (Str.ofString "kept_sayings") (V.ref i) [("kept_cuts",V.ref a)])) g=some (.ins (cL mg "Ground") d [("kept_cuts",V.ref a),("kept_sayings",V.ref i)]):=by rw[aa];rfl
  have a5:upd (upd H4 i (.lst (qs.map λq=>V.ref q.1))) g (.ins (cL mg "Ground") d (dW (Str.ofString "kept_sayings") (V.ref i) [("kept_cuts",V.ref a)])) i=some (.lst (qs.map λq=>V.ref q.1)):=(ao ac)▸aa
  generalize upd (upd H4 i (.lst (qs.map λq=>V.ref q.1))) g (.ins (cL mg "Ground") d (dW (Str.ofString "kept_sayings") (V.ref i) [("kept_cuts",V.ref a)]))=H5 at b5 g5 a5
  lk;refine%[_,_,_,g5,OC,T.bC,(by show 2<1000;decide)|k6 _ _ (aD λD7 k7 _=>?_)];have b6:∀b o,b≠g->H5 b=some o->upd H5 g (.ins (cL mg "Ground") d (dW (Str.ofString "kept_layers") (V.ref r) [("kept_cuts",V.ref a),("kept_sayings",V.ref i)])) b=some o:=λb o c e=>(ao c)▸e
  have g6:upd H5 g (.ins (cL mg "Ground") d (dW (Str.ofString "kept_layers") (V.ref r) [("kept_cuts",V.ref a),("kept_sayings",V.ref i)])) g=some (.ins (cL mg "Ground") d [("kept_cuts",V.ref a),("kept_sayings",V.ref i),("kept_layers",V.ref r)]):=by rw[aa];rfl
  generalize upd H5 g (.ins (cL mg "Ground") d (dW (Str.ofString "kept_layers") (V.ref r) [("kept_cuts",V.ref a),("kept_sayings",V.ref i)]))=H6 at b6 g6
  have ai:∀b o,b≠g->H3 b=some o->H6 b=some o:=λb o c e=>b6 b o c (b5 b o c (b4 b o c e))
  have B:∀b o,b≠g->H b=some o->H6 b=some o:=λb o c e=>ai b o c (v _ _ e)
  have aj:cm H6 u:=λp y=>⟨B _ _ (λe=>by have:=(j p y).1;rw[e,O]at this;cases this) (j p y).1,(j p y).2⟩
  have n:dt H6 G qs:=λq hq=>⟨B _ _ (λe=>by have:=(C G U q hq).1;rw[e,O]at this;cases this) (C G U q hq).1,(C G U q hq).2⟩
  lk;refine%[l,u,rfl,B _ _ gl hl,aj,as,h8|λt1 H7 ts s7 f7 h7 a6 ae bl a7=>?_];lk;refine%[m,G,qs,rfl,s7 _ _ (B _ _ gm hm),n.up s7,ag,⋯|λt2 H8 us s8 f8 a8 a9 al bm bb=>?_];lk;have N:ba H8 (ts++us):=uN (aY a6 λb z e=>s8 _ _ e) a9;have g8:=s8 _ _ (s7 _ _ g6);refine%[_,s8 _ _ h7,_,a8,by rw[Z6,Z6,PySem.sizeLine_eq];lia|λp y=>%[ts++us,Zd▸SqL.of aa,aY N λb z e=>ah.upd y _ _ e,3,?_,by decide,by rw[Z9];lia|λc4 ss J L bn=>%[_,_,_,ah.upd J _ _ (ah.upd y _ _ g8),OC,T.bD,(by show 3<1000;decide)|k7 _ _ ?_]]]
  .intro t ht;rcases Xo ht with z|z
   .exact(ae t z).1.three
   .exact(al t z).1.three
  .have b9:∀b o,b≠g->H8 b=some o->upd (upd (upd H8 p (.lst (ts.map (λp=>V.ref p.1) ++us.map λp=>V.ref p.1))) c4 (.lst (ss.map λp=>V.ref p.1))) g (.ins (cL mg "Ground") d (dW (Str.ofString "kept_ties") (V.ref c4) [("kept_cuts",V.ref a),("kept_sayings",V.ref i),("kept_layers",V.ref r)])) b=some o:=λb o c e=>(ao c)▸((ah.upd (o:= .lst (ts.map (λp=>V.ref p.1) ++us.map λp=>V.ref p.1)) y).trans (ah.upd (o:= .lst (ss.map λp=>V.ref p.1)) J)) _ _ e
   have M:∀b o,b≠g->H6 b=some o->_:=λb o c e=>b9 b o c (s8 _ _ (s7 _ _ e))
   refine k _ G ss i r c4 (λb o c e=>M b o c (B b o c e)) %[%[d,a|?_],?_,?_,?_,?_|?_] (λt ht=>?_) ag (λk=>by rw[(L.map _).mem_iff,Zd,Yt,a7,bb]) (by rw[L.length_eq,Z9];lia) U q2
   .rw[aa];rfl
   .exact M _ _ ac (b6 _ _ ac a5)
   .exact M _ _ gr (ai _ _ gr (s3 _ _ h2))
   .rw[ao (λe=>by rw[e,ah.upd y _ _ g8]at J;cases J)];exact aa
   .exact λq hq=>⟨M _ _ (λe=>by have:=(n q hq).1;rw[e,g6]at this;cases this) (n q hq).1,(n q hq).2⟩
   .intro t ht;have:=N t (L.mem_iff.mp ht);exact%[this.1|b9 _ _ (λe=>by have q:=this.2;rw[e,g8]at q;cases q) this.2]
   .rcases Xo (L.mem_iff.mp ht)with z|z
    .exact%[(ae t z).1.mono λx=>U.mem_iff.mpr|(ae t z).2]
    .exact al t z
theorem eT(T:Txt K mg):yY P w K mg base 1 "Ground" "layers" ["self"] (rq mg):=by
 refine T.bG.cal mj (λH vs Q E h=>?_)
 .have%[g,c,d,e,qs,i,ts,rfl,a|k]:=h;refine%[rfl|λf b A outer s n=>?_];have%[o,p|j]:=a.at_;refine%[_,%["JDI;<A~g0B"|0]|?_];show kg _ _ [some _] H;lk;exact%[_,_,_,j,T.bz.cls,T.bC,_,rfl,_,rfl,_,.inl (SqL.of a.a3)|λl m=>k l m]
theorem mw(T:Txt K mg):yY P w K mg base 1 "Ground" "sayings" ["self"] (pq mg):=by
 refine T.bF.cal li (λH vs Q E h=>?_)
 .have%[g,c,d,e,qs,i,ts,rfl,a|k]:=h;refine%[rfl|λf b A outer s n=>?_];have%[o,p|j]:=a.at_;refine%[_,%["JDI;<A~g0B"|0]|?_];show kg _ _ [some _] H;lk;exact%[_,_,_,j,T.bz.cls,T.bB,_,rfl,_,rfl,_,.inl (SqL.of a.a2)|λl m=>k l m]
theorem qf(T:Txt K mg):yY P w K mg base 1 "Ground" "ties" ["self"] (xx mg):=by
 refine T.bH.cal oP (λH vs Q E h=>?_)
 .have%[g,c,d,e,qs,i,ts,rfl,a|k]:=h;refine%[rfl|λf b A outer s n=>?_];have%[o,p|j]:=a.at_;refine%[_,%["JDI;<A~g0B"|0]|?_];show kg _ _ [some _] H;lk;exact%[_,_,_,j,T.bz.cls,T.bD,_,rfl,_,rfl,_,.inl (SqL.of a.a4)|λl m=>k l m]
def ei(H:Hp)(ys:List (Addr×Str×Int)):Prop:=∀p∈ys,H p.1=some (.tup [.str p.2.1,.int p.2.2])/\0<=p.2.2/\p.2.2<=7
theorem ei.up(h:ei H ys)(s:ah H b):ei b ys:=λp a=>%[s _ _ (h p a).1|(h p a).2]
inductive rA (vs:ZM) (H:Hp) (Q:VK) (E0:XK):Prop
 | mk (one) (two) (l) (ys) (z0:vs=[.int one,.int two,.ref l]) (z1:H l=some (.lst (ys.map λp=>V.ref p.1))) (z2:ei H ys) (z3:1<=ys.length) (z4:ys.length<=100) (z5:0<=one) (z6:0<=two) (z7:∀t H' xs,ah H H'->H t=none->H' t=some (.tup xs)->rg (ys.map λp=>p.2.1) xs->Q (.ref t) H'):rA vs H Q E0
theorem tw(T:Txt K mg):↥1 "_law_saying" ["_law_one","_law_two","_law_layers"] rA:=by
 refine T.bq.cal bO (λH vs Q E h=>?_)
 .have%[one,d,l,ys,rfl,N,C,y1,ag,o0,t0|k]:=h;refine%[rfl|λf ai A outer s hr=>?_];have get:∀n:Int,0<=n->∃q,atI (ys.map λp=>V.ref p.1) (n%(ys.length:Int))=some (V.ref q.1)/\q∈ys:=λn hn=>by
   have h0:=Int.emod_nonneg n (show(ys.length:Int)≠0 by lia);have h1:=Int.emod_lt_of_pos n (show(0:Int)<(ys.length:Int) by lia)
   generalize n%(ys.length:Int)=i at h0 h1
   have%[j|rfl]:=Xi h0;have hj:j<ys.length:=by lia
   exact%[ys[j],cJ (by simp[hj])|Ye hj]
  have%[p,gp|mp]:=get one o0;have%[q,gq|mq]:=get d t0;have G:(ys.map λp=>V.ref p.1).length=ys.length:=Z6 _;have y:(0:Int)<(ys.length:Int):=by lia
  have pa:=C p mp;have qa:=C q mq;refine%[_,%["JC~TU2GX0abA2BfMK3MK4gC~TU2GX1abA2BfMK5MK6gCH7GXGj0EECH8yoGXGj1EEECOcwL}7EwLt35$czLt46!n8COcwL:46$un8DIkARA5A3BPDIkARA3A5BPCOcwL^7kAEAEBwLt35$czLo46!n8DIkARA3A5BPCH9GxG~EEG~CE4USAEA*EA*EAEAEA*EAEAEBGX1EDIkAUSARARBGX7EA3A9B"|bO.nd]|?_]
  show be _ _ _ [some (.int one),some (.int d),!l,none,none,none,none,none,none,none] H;refine ap λD1 k1 _=>?_
  lk;refine%[ys.length,.inl %[_,SqL.of N|G.symm],y,_,SqL.of N,_,gp,_,rfl,_,SqT.of pa.1,rfl,_,_,rfl,_,_,rfl,rfl|k1 _ _ (ap λD2 k2 _=>?_)];lk;refine%[ys.length,.inl %[_,SqL.of N|G.symm],y,_,SqL.of N,_,gq,_,rfl,_,SqT.of qa.1,rfl,_,_,rfl,_,_,rfl,rfl|k2 _ _ (ap λD3 k3 _=>?_)];lk;refine%[%[by decide|by decide],by decide|k3 _ _ (ap λD4 k4 _=>?_)];lk;refine%[%[by decide|by decide],by decide|k4 _ _ (ap λD5 k5 r5=>?_)];have b1:0<=one/64%8:=by lia
  have b2:one/64%8<8:=by lia
  generalize one/64%8=kind at b1 b2
  generalize decide (d/64%16=0)=I
  have%[aj,pn|pi]:=p;have%[al,m|qi]:=q;dsimp only at pa qa gp gq;have mem:∀{r:Addr×Str×Int},r∈ys->r.2.1∈ys.map λp=>p.2.1:=λ{r} hr=>Xr %[r,hr|rfl]
  have fin:∀(z:Hp) (a b:Str),ah H z->a∈(ys.map λp=>p.2.1)->b∈(ys.map λp=>p.2.1)->a≠b->∀w:Str,w="later"\/w="same"->∀t,z t=none->Q (.ref t) (upd z t (.tup [.str w,.str a,.str b])):=λz a b J ha hb ab w hw t u=>
   k t _ _ (J.trans (ah.upd u)) (J.free u) aa (.inl %[w,a,b,rfl,hw,ha,hb|ab])
  have O:pn∈ys.map λp=>p.2.1:=mem mp
  have m2:m∈ys.map λp=>p.2.1:=mem mq
  have v:3<=sizeLine:=by decide
  have rest:D5.nx [some (.int one),some (.int d),!l,-pn,some (.int pi),-m,some (.int qi),some (.int kind),some (.bl I),none] H:=by
   refine k5 _ _ (ap λD6 k6 r6=>?_);have B:∀z,ah H z->D6.nx [some (.int one),some (.int d),!l,-pn,some (.int pi),-m,some (.int qi),some (.int kind),some (.bl I),none] z:=by
    intro z J;refine k6 _ _ (ap λD7 k7 _=>?_);lk;refine%[.inl %[by decide|by decide],#[8]|λp U=>%[by decide,_,SqL.of aa|?_]];have%[c,hc|ac]:=lj [0,-20,-60,10,60,-200,110,0] (i:=d%8) ⋯ (by show d%8<8;lia);have an: -200<=c/\c<=110:=by
     simp only[Yw,X8,or_false]at ac
     lia
    refine%[_,hc,c,rfl|k7 _ _ ?_];lk;obtain⟨wd,ae,hw⟩:∃wd:Str,atI [V.str (Str.ofString "since"),V.str (Str.ofString "by")] (kind%2)=some (V.str wd)/\(wd="since"\/wd="by"):=by
     rcases(show kind%2=0\/kind%2=1 by lia)with e|e<;> rw[e]
     .exact%[_,rfl|.inl rfl]
     .exact%[_,rfl|.inr rfl]
    refine%[#[2]|λp1 M=>%[by simp,_,SqL.of aa,_,ae,v|λt u=>?_]];exact k t _ _ (J.trans ((ah.upd U).trans ((ah.upd M).trans (ah.upd u)))) (J.free ((ah.upd U).free ((ah.upd M).free u))) aa (.inr %[wd,pn,_,rfl,hw,O,⋯|⋯])
   lk;refine%[#[2]|λp U=>%[_,.inr (SqT.of aa),rfl,rfl|?_]];have sp:=ah.upd (o:= .tup [V.int 2,V.int 3]) U
   generalize upd H p (.tup [V.int 2,V.int 3])=Y at sp
   have R:=B Y sp;refine bx (λ_=>bx (λg=>?_) λ_=>R) λ_=>R
   have g:pn≠m:=by simpa using g
   have L:3<=sizeLine/\∀p,Y p=none->D6.rt (.ref p) (upd Y p (.tup [V.str (Str.ofString "same"),V.str pn,V.str m])):=%[v|λt u=>r6 _ _ (fin Y pn m sp O m2 g _ (.inr rfl) t u)]
   exact bx (λ_=>L) λ_=>bx (λ_=>L) λ_=>R
  lk;refine bx (λ_=>bx (λg=>?_) λ_=>rest) λ_=>rest
  have g:pn≠m:=by simpa using g
  have L1:3<=sizeLine/\∀p,H p=none->D5.rt (.ref p) (upd H p (.tup [V.str (Str.ofString "later"),V.str m,V.str pn])):=%[v|λt u=>r5 _ _ (fin H m pn (ah.refl H) m2 O (Ne.symm g) _ (.inl rfl) t u)]
  have L2:3<=sizeLine/\∀p,H p=none->D5.rt (.ref p) (upd H p (.tup [V.str (Str.ofString "later"),V.str pn,V.str m])):=%[v|λt u=>r5 _ _ (fin H pn m (ah.refl H) O m2 g _ (.inl rfl) t u)]
  exact bx (λ_=>bx (λ_=>bx (λ_=>L1) λ_=>L2) λ_=>L2) λ_=>bx (λ_=>bx (λ_=>bx (λ_=>L1) λ_=>L2) λ_=>L2) λ_=>rest
structure Drn where
 name:Str
 cols:List ZL
 hi:Nat
 sh:Int
 wd:Bool
noncomputable def Drn.rows(d:Drn):ZB:=drawn d.cols d.hi d.sh
def mU(d:Drn):Prop:=eL d.name=true/\1<=d.hi/\d.hi<=6/\1<=d.cols.length/\d.cols.length<=5/\∀c∈d.cols,c.length=d.hi/\kW d.wd c
theorem mU.cut(h:mU d):b8 d.rows:=uF h.2.1 (by have:=h.2.2.1;lia) h.2.2.2.1 (by have:=h.2.2.2.2.1;lia) h.2.2.2.2.2
noncomputable def iW(d:Drn):List (Str×Int):=(there d.cols).map λa=>(cB d.name (sg a d.sh),a)
noncomputable def dcs(ds:List (Addr×Drn)):ZH:=ds.map λp=>(p.1,p.2.name,p.2.rows)
noncomputable def nmK(k:Int):Str:=if k=0 then "north" else if k=1 then "a" else if k=2 then "wallwest" else "zz"
inductive rB (K:ZA) (vs:ZM) (H:Hp) (Q:VK) (E0:XK):Prop
 | mk (a:Addr) (xs:ZL) (z0:vs=[.ref a]) (z1:SqL K H a (xs.map V.int)) (z2:(∀H',ah H H'->SqL K H' a (xs.map V.int))) (z3:xs.length=43) (z4:(∀x∈xs,0<=x/\x<9973)) (z5:∀t l1 l2 l3 H' ds qs,ah H H'->H t=none->H l1=none->H l2=none->H l3=none->l1≠l2->l1≠l3->l2≠l3->H' t=some (.tup [.ref l1,.ref l2,.ref l3])->H' l1=some (.lst (cF (dcs ds)))->H' l2=some (.lst (qs.map λq=>V.ref q.1))->H' l3=some (.lst ((ds.flatMap λp=>(iW p.2).map (·.1)).map V.str))->1<=ds.length->ds.length<=3->(∀p∈ds,mU p.2)->(ds.map λp=>p.2.name).Nodup->cm H' (dcs ds)->dt H' (ds.flatMap λp=>(iW p.2).map (·.1)) qs->qs.length<=12->(∀p∈ds,∃k:Int,p.2.name=nmK k)->1<=(ds.flatMap λp=>(iW p.2).map (·.1)).length/\(ds.flatMap λp=>(iW p.2).map (·.1)).length<=24->Q (.ref t) H'):rB K vs H Q E0
theorem nF(h:H M=some (.lst xs)):∀b z,H b=some (.tup z)->upd H M (.lst ys) b=some (.tup z):=λb z e=>by
 rw[ao (λa=>by lia)];exact e
theorem ei.keep(h:ei H ys)(t:∀b z,H b=some (.tup z)->c b=some (.tup z)):ei c ys:=λp a=>%[t _ _ (h p a).1|(h p a).2]
theorem cm.keep(h:cm H c)(t:∀b z,H b=some (.tup z)->d b=some (.tup z)):cm d c:=λp a=>%[t _ _ (h p a).1|(h p a).2]
theorem dt.keep(h:dt H c qs)(t:∀b z,H b=some (.tup z)->d b=some (.tup z)):dt d c qs:=λp a=>%[t _ _ (h p a).1|(h p a).2]
theorem cm.snoc(h:cm H a)(b:H q.1=some (.tup [.str q.2.1,.str (Str.join nl q.2.2)])/\eL q.2.1=true/\b8 q.2.2):cm H (a++[q]):=λp c=>by
 rcases Xo c with z|z
 .exact h p z
 .rw[Xp z];exact b
theorem ei.snoc(h:ei H ys)(a:H q.1=some (.tup [.str q.2.1,.int q.2.2])/\0<=q.2.2/\q.2.2<=7):ei H (ys++[q]):=λp b=>by
 rcases Xo b with z|z
 .exact h p z
 .rw[Xp z];exact a
theorem zD(n:Str)(c:Nat):n++Str.ofString "."++sgn c=cB n c:=by
 refine eX ?_;show(n.cps++ ([46].toArray) ++ ([c].toArray)).toList=(n.cps.toList++[46,c]).toArray.toList;simp
theorem F3(k:Int):eL (nmK k)=true:=by
 unfold nmK
 split
 .decide +kernel
 .split
  .decide +kernel
  .split<;> decide +kernel
theorem DD(c:0<=j)(e:j<4)(d:0<=k)(f:k<4)(h:nmK j=nmK k):j=k:=by
 have all:∀a b:Fin 4,nmK (a.1)=nmK (b.1)->a=b:=by decide +kernel
 have%[a|rfl]:=Xi c;have%[b|rfl]:=Xi d;have:=all %[a|⋯] %[b|⋯] h
 simp_all
theorem tz(T:Txt K mg):↥3 "_law_ground" ["_law_row_here"] (rB K):=by
 refine T.br.cal aQ (λH vs Q E h=>?_)
 .have%[a,xs,rfl,hs,keep,b4,hb|kk]:=h;refine%[rfl|λf eb A outer s hr=>?_];have get:∀i:Int,0<=i->i<43->∃c,atI (xs.map V.int) i=some (V.int c)/\0<=c/\c<9973:=λi h0 h1=>by
   have%[c,e|hm]:=lj xs h0 ⋯;exact%[c,e|hb c hm]
  have%[c0,g0,l0|u0]:=get 0 (by decide) (by decide);refine%[_,%["JCH1SBCH2SBCT[AGxEGXU0EEBK3CH4USARARARARBGXGx3GjU0EEECH5GxGjU0EEG~CE3C~TF]YA>0+GxEG~CE3+GxEG~CE3A5BfMK6MK7gCVlh1AkA4A6BBDTQ7K8DVlh2AkAGpGp4RF~mA8A5BA8BBCH9GXGjU0EEECH:SBCT[A9BK3DVlh~y:AF]ZAU0GxEG~CE3AU0GxEG~CE3A2BBDIkA1A~y:AmZ?1Q2fMW0?2MW1?2gq0B",aQ.nd,(show bH (am e9) ["_law_row_here","_law_cuts","_law_layers","_law_k","_law_name","_law_shift","_law_text","_law_there","_law_at","_law_many","_law_sayings"] _ ["_law_layer","_law_at"] []=true from by decide +kernel),(show(["_law_layer","_law_at"]:ZB).Nodup from by decide +kernel)|hr]|?_]
  show be _ _ _ [!a,none,none,none,none,none,none,none,none,none,none] H;refine ap λD1 k1 _=>?_
  lk;refine%[Xf _|λu bc=>k1 _ _ (ap λD2 k2 _=>?_)];have s1:=ah.upd (o:= .lst []) bc;lk;refine%[Xf _|λL3 a1=>k2 _ _ (ap λD3 k3 _=>az λan hK=>?_)];have s2:=s1.trans (ah.upd (o:= .lst []) a1);have bf:u≠L3:=λe=>by rw[<-e,aa]at a1;cases a1
  lk;refine%[_,keep _ s2,_,g0,c0,rfl,by decide|?_];refine%[⋯,⋯|hK _ _ (fh (λi M l=>∃o3 o4 o5 o6 o7 o8,M=[!a,!u,!L3,o3,o4,o5,o6,o7,o8,none,none]/\ah H l/\∃(ds:List (Addr×Drn)) (ys:List (Addr×Str×Int)),ds.length=i/\l u=some (.lst (cF (dcs ds)))/\l L3=some (.lst (ys.map λp=>V.ref p.1))/\ei l ys/\(ys.map (·.2))=(ds.flatMap λp=>iW p.2)/\
   cm l (dcs ds)/\(∀p∈ds,mU p.2)/\ds.map (λp=>p.2.name)=(List.range i).map λk:Nat=>nmK (((k:Int) +c0/3)%4))
   %[_,_,_,_,_,_,rfl,s2,[],[],rfl,by rw[ao bf];exact aa,aa,λp hp=>(nomatch hp),rfl,λp hp=>(nomatch hp),λp hp=>(nomatch hp)|rfl] ?_ ?_)]
  .intro i M H3 hi %[o3,o4,o5,o6,o7,o8,rfl,s3,ds,ys,bl,v,C,a2,Y,bm,a3|a4];have hi3:i<3:=by lia
   show be _ _ _ [!a,!u,!L3,some (.int (0+i)),o4,o5,o6,o7,o8,none,none] H3;rw[Int.zero_add];refine ap λD4 k4 _=>?_
   lk;obtain⟨m,b5,b6⟩:∃m:Str,atI [V.str (Str.ofString "north"),V.str (Str.ofString "a"),V.str (Str.ofString "wallwest"),V.str (Str.ofString "zz")] (((i:Int) +c0/3)%4)=some (V.str m)/\m=nmK (((i:Int) +c0/3)%4):=by
    rcases(show((i:Int) +c0/3)%4=0\/((i:Int) +c0/3)%4=1\/((i:Int) +c0/3)%4=2\/((i:Int) +c0/3)%4=3 by lia)with e|e|e|e<;> rw[e]<;> exact%[_,rfl|rfl]
   have bn:eL m=true:=by rw[b6];exact F3 _
   refine%[#[4]|λp hp=>%[_,keep _ (s3.trans (ah.upd hp)),_,g0,c0,rfl,%[by decide|by decide],by decide,_,SqL.of aa,_,b5|k4 _ _ (ap λD5 k5 _=>?_)]];have sp:=ah.upd (o:= .lst [V.str (Str.ofString "north"),V.str (Str.ofString "a"),V.str (Str.ofString "wallwest"),V.str (Str.ofString "zz")]) hp
   generalize upd H3 p (.lst [V.str (Str.ofString "north"),V.str (Str.ofString "a"),V.str (Str.ofString "wallwest"),V.str (Str.ofString "zz")])=H4 at sp
   have O:=s3.trans sp;lk;refine%[_,keep _ O,_,g0,c0,rfl,%[by decide|by decide],.inl %[by decide|by decide]|k5 _ _ (ap λD6 k6 _=>?_)];have bp:0<=c0/12+3*(i:Int):=by lia
   generalize c0/12+3*(i:Int)=r at bp
   lk;refine%[.inl %[by decide|by decide],.inl %[by decide|by decide]|.inl %[_,keep _ O|λp2 b7=>?_]];rw[uL xs ⋯ ⋯ ⋯];have b9:((xs.drop (1+6*(i:Int)).toNat).take ((7+6*(i:Int)).toNat-(1+6*(i:Int)).toNat)).length=6:=by
    rw[Ym,Yi,b4];exact(by decide:∀i:Nat,i<3->min ((7+6*(i:Int)).toNat-(1+6*(i:Int)).toNat) (43-(1+6*(i:Int)).toNat)=6) i ⋯
   have ca:∀x∈(xs.drop (1+6*(i:Int)).toNat).take ((7+6*(i:Int)).toNat-(1+6*(i:Int)).toNat),0<=x/\x<9973:=λx hx=>hb x (Yx (Yy hx))
   generalize (xs.drop (1+6*(i:Int)).toNat).take ((7+6*(i:Int)).toNat-(1+6*(i:Int)).toNat)=ws at b9 ca
   refine%[p2,ws,r,rfl,SqL.of aa,λl sm=>SqL.of (sm _ _ aa),b9,ca,bp|λT5 th H5 d g ab U f5 c4 n5 c5 c7 da dc dd de bt=>%[T5,rfl,_,SqT.of c5,rfl,_,_,rfl,_,_,rfl,rfl|k6 _ _ (ap λD7 k7 _=>?_)]];have bU:ah H3 H5:=sp.trans ((ah.upd b7).trans U);have a7:mU %[m,d,g,r|ab]:=%[bn,da,dc,dd,de|bt]
   have ae:H3 th=none:=sp.free ((ah.upd b7).free c4);have dk:th≠u:=λe=>by rw[e,v]at ae;cases ae
   have dn:th≠L3:=λe=>by rw[e,C]at ae;cases ae
   lk;refine%[.inl %[_|SqL.of (bU _ _ v)],#[2]|λI dp=>?_];have s6:=ah.upd (o:= .tup [V.str m,V.str (nl.join (drawn d g r))]) dp;have g6:upd H5 I (.tup [V.str m,V.str (nl.join (drawn d g r))]) I=_:=aa;have al:=s6 _ _ (bU _ _ v)
   generalize upd H5 I (.tup [V.str m,V.str (nl.join (drawn d g r))])=H6 at s6 g6 al
   have a5:=bU.trans s6;refine%[_,al,by rw[show(cF (dcs ds)).length=ds.length by unfold cF dcs;rw[Z6,Z6],bl];exact aC ⋯|k7 _ _ (aD λD8 k8 _=>az λan hK=>?_)];have tk:=nF (ys:=cF (dcs ds) ++[V.ref I]) al;have cb:ah H (upd H6 u (.lst (cF (dcs ds) ++[V.ref I]))):=ah.set (s3.trans a5) bc;have cd:upd H6 u (.lst (cF (dcs ds) ++[V.ref I])) u=some (.lst (cF (dcs (ds++[(I,%[m,d,g,r|ab])])))):=by
    rw[aa];unfold cF dcs;rw[Zd,Zd];rfl
   have ch:upd H6 u (.lst (cF (dcs ds) ++[V.ref I])) L3=some (.lst (ys.map λp=>V.ref p.1)):=by rw[ao (Ne.symm bf)];exact a5 _ _ C
   have b0:upd H6 u (.lst (cF (dcs ds) ++[V.ref I])) th=some (.lst ((there d).map V.int)):=by rw[ao dk];exact s6 _ _ c7
   have cl:cm (upd H6 u (.lst (cF (dcs ds) ++[V.ref I]))) (dcs (ds++[(I,%[m,d,g,r|ab])])):=by
    rw[show dcs (ds++[(I,%[m,d,g,r|ab])])=dcs ds++[(I,m,drawn d g r)] by unfold dcs;rw[Zd];rfl];exact((bm.up a5).snoc %[g6,bn|a7.cut]).keep tk
   have co:ei (upd H6 u (.lst (cF (dcs ds) ++[V.ref I]))) ys:=(a2.up a5).keep tk
   generalize upd H6 u (.lst (cF (dcs ds) ++[V.ref I]))=H7 at cb cd ch b0 cl co
   have ag:ys.length<=8*i:=by
    have e:=congrArg List.length Y;rw[Z6,List.length_flatMap]at e;have:=sq (f:=λp:Addr×Drn=>(iW p.2).length) (B:=8) (xs:=ds) λp _=>by
     unfold iW;rw[Z6];exact lT _
    lia
   lk;refine .inl %[%[_|SqL.of b0]|hK _ _ (bh (xs:=(there d).map V.int) (λj M l=>∃o8,M=[!a,!u,!L3,some (.int i),-m,some (.int r),some (.str (nl.join (drawn d g r))),!th,o8,none,none]/\ah H l/\l u=some (.lst (cF (dcs (ds++[(I,%[m,d,g,r|ab])]))))/\l th=some (.lst ((there d).map V.int))/\cm l (dcs (ds++[(I,%[m,d,g,r|ab])]))/\
    ∃zs:List (Addr×Str×Int),l L3=some (.lst ((ys++zs).map λp=>V.ref p.1))/\ei l (ys++zs)/\zs.map (·.2)=((there d).take j).map λa=>(cB m (sg a r),a))
    %[_,rfl,cb,cd,b0,cl,[],by rw[Zz];exact ch,by rw[Zz];exact co|rfl] (λj M l _ ⟨_,_,_,_,q,_⟩=>SqL.of q) ?_ ?_)]
   .intro j x M H8 hx %[o8,rfl,s8,as,a8,b1,zs,ai,b2|a0];have hj:j<(there d).length:=by have:=(Xn hx).1;rwa[Z6]at this
    rw[Zl,Z4 hj]at hx;obtain rfl:x=V.int (there d)[j]:=(Za hx).symm;have cp:=fA.mp (Ye hj);show kf _ _ [!a,!u,!L3,some (.int i),-m,some (.int r),some (.str (nl.join (drawn d g r))),!th,some (.int (there d)[j]),none,none] H8;refine aD λD9 k9 _=>?_
    lk;have d7:=ph bn;have ea:∀a b:Str,(a++b).length=a.length+b.length:=λa b=>size_append
    have e1:(Str.ofString ".").length=1:=rfl;have zl:zs.length<=j:=by
     have:=congrArg List.length a0;rw[Z6,Z6,Ym]at this
     lia
    have tl:=lT d;refine%[.inl %[_|SqL.of ai],cD ⋯,_,_,rfl,bp,_,rfl,cD (by rw[ea,show(sgn (sg (there d)[j] r)).length=1 from rfl];lia),#[2]|λp hp=>?_];rw[zD];have s9:=ah.upd (o:= .tup [V.str (cB m (sg (there d)[j] r)),V.int (there d)[j]]) hp;have g9:upd H8 p (.tup [V.str (cB m (sg (there d)[j] r)),V.int (there d)[j]]) p=_:=aa
    generalize upd H8 p (.tup [V.str (cB m (sg (there d)[j] r)),V.int (there d)[j]])=H9 at s9 g9
    have cs:=s9 _ _ ai;have ct:=nF (ys:=(ys++zs).map (λp=>V.ref p.1) ++[V.ref p]) cs;refine%[_,cs,by rw[Z6,Z9];exact aC ⋯|k9 _ _ %[_,rfl,ah.set (s8.trans s9) (s1.free a1),by rw[ao bf];exact s9 _ _ as,by rw[ao dn];exact s9 _ _ a8,(b1.up s9).keep ct,zs++[(p,cB m (sg (there d)[j] r),(there d)[j])],?_,?_|?_]]
    .rw[aa,<-Ze,Zd (l₂:=[(p,cB m (sg (there d)[j] r),(there d)[j])])];rfl
    .rw[<-Ze];exact((b2.up s9).snoc %[g9,cp.1|cp.2.1]).keep ct
    .rw[Zd,a0,Xb,Z4 hj,Zd];rfl
   .intro M H8 %[o8,rfl,s8,as,a8,b1,zs,ai,b2|a0];rw[Z6,Zn (Zi _)]at a0;refine k8 _ _ %[_,_,_,_,_,_,rfl,s8,ds++[(I,%[m,d,g,r|ab])],ys++zs,by rw[Z9,bl];rfl,as,ai,b2,?_,b1,λp hp=>?_|?_]
    .rw[Zd,Y,a0,flatMap_append]
     congr 1
     rw[List.flatMap_singleton];rfl
    .rcases Xo hp with z|z
     .exact a3 p z
     .rw[Xp z];exact a7
    .rw[Zd,a4,range_succ,Zd];rw[b6];rfl
  .intro M H3 %[o3,o4,o5,o6,o7,o8,rfl,s3,ds,ys,bl,v,C,a2,Y,bm,a3|a4];refine k3 _ _ (ap λD4 k4 _=>?_);lk;refine%[_,keep _ s3,_,g0,c0,rfl,%[by decide|by decide],by decide|k4 _ _ (ap λD5 k5 _=>?_)];have m0:0<=c0/100%13:=by lia
   have dr:c0/100%13<=12:=by lia
   generalize c0/100%13=a9 at m0 dr
   lk;refine%[Xf _|λL2 ac=>k5 _ _ (ap λD6 k6 _=>az λan hK=>?_)];have dx:L2≠u:=λe=>by rw[e,v]at ac;cases ac
   have ec:L2≠L3:=λe=>by rw[e,C]at ac;cases ac
   have dy:=ah.upd (o:= .lst []) ac;have dA:1<=ds.length:=by lia
   have dB:ds.length<=3:=by lia
   have ag:ys.length<=24/\1<=ys.length:=by
    have e:=congrArg List.length Y;rw[Z6,List.length_flatMap]at e;have:=sq (f:=λp:Addr×Drn=>(iW p.2).length) (B:=8) (xs:=ds) λp _=>by
     unfold iW;rw[Z6];exact lT _
    refine%[⋯|Nat.pos_of_ne_zero λz=>?_];have dK:ys=[]:=length_eq_zero_iff.mp z;rw[dK]at Y;have cx:0<ds.length:=by lia
    have hq:=a3 ds[0] (Ye cx);have cy:=BF hq.2.1 hq.2.2.2.1 hq.2.2.2.2.2;have%[a'|dT]:=List.exists_mem_of_ne_nil _ cy;have:(cB ds[0].2.name (sg a' ds[0].2.sh),a')∈ds.flatMap λp=>iW p.2:=mem_flatMap.mpr %[ds[0],Ye cx|Xr %[a',dT|rfl]]
    rw[<-Y]at this;cases this
   have G:(ys.map λp=>p.2.1)=ds.flatMap λp=>(iW p.2).map (·.1):=by
    have e:=congrArg (List.map (·.1)) Y;rw[Ys,List.map_flatMap]at e;exact e
   lk;refine%[⋯,⋯|hK _ _ (fh (λi M l=>∃o3,M=[!a,!u,!L3,o3,o4,o5,o6,o7,o8,some (.int a9),!L2]/\ah H3 l/\∃qs:ZN,l L2=some (.lst (qs.map λq=>V.ref q.1))/\qs.length=i/\dt l (ys.map λp=>p.2.1) qs)
    %[_,rfl,dy,[],aa,rfl|λq hq=>(nomatch hq)] ?_ ?_)]
   .intro i M H4 ed %[o3,rfl,O,qs,L,cM|a6];show kf _ _ [!a,!u,!L3,some (.int (0+i)),o4,o5,o6,o7,o8,some (.int a9),!L2] H4;rw[Int.zero_add];have%[x1,dV,dX|eg]:=get (19+2*(i:Int)) ⋯ ⋯;have%[x2,dY,d0|eh]:=get (20+2*(i:Int)) ⋯ ⋯;refine aD λD7 k7 _=>?_
    lk;refine%[.inl %[_|SqL.of L],.inl %[by decide|by decide],_,keep _ (s3.trans O),_,dV,.inl %[by decide|by decide],_,keep _ (s3.trans O),_,dY|?_];refine%[x1,x2,L3,ys,rfl,O _ _ C,a2.up O,ag.2,⋯,dX,d0|λt H5 d1 U f5 h5 d2=>?_];have al:=U _ _ L;have c1:=nF (ys:=qs.map (λq=>V.ref q.1) ++[V.ref t]) al;refine%[_,al,by rw[Z6];exact aC ⋯|k7 _ _ %[_,rfl,ah.set (O.trans U) ac,qs++[(t,d1)],by rw[aa,Zd];rfl,by rw[Z9,cM];rfl|λq hq=>?_]];rcases Xo hq with z|z
    .exact(((a6.up U).keep c1) q z)
    .rw[Xp z];exact%[c1 _ _ h5|d2]
   .intro M H4 %[o3,rfl,O,qs,L,cM|a6];refine k6 _ _ ?_;lk;refine aE λan hK=>?_
    lk;have aj:=O _ _ C;refine .inl %[%[_|SqL.of aj]|hK _ _ λN hN=>?_];refine bi (J:=Itl K L3) (n:=ys.length) (D:=N) (λj ts M l=>(∃o1 o2,M=[o1,o2])/\ah H4 l/\l N=some (.lst ts)/\ts=((ys.take j).map λp=>p.2.1).map V.str)
     %[%[none,none|rfl],ah.upd hN,aa|rfl]
     (λj _ _ l hj b3=>%[_,V.ref ys[j].1,SqL.of (b3.2.1 _ _ aj)|by simp[hj]]) (λ_ _ l b3=>%[_,SqL.of (b3.2.1 _ _ aj)|by simp]) ?_ ?_
    .intro j ts M H5 hj %[%[o1,o2|rfl],U,d3|ht] x H6 %[e2|hx];subst e2;have c2:=hx _ (SqL.of (U _ _ aj));rw[Zl,Z4 hj]at c2;obtain rfl:x=V.ref ys[j].1:=(Za c2).symm;refine%[_,SqT.of (U _ _ (O _ _ ((a2 ys[j] (Ye hj)).1))),rfl,_,_,rfl,_,_,rfl,rfl|?_];show yv [some (.str ys[j].2.1),some (.int ys[j].2.2)] _ _;lk;refine CK.mk hj d3 (by rw[ht,Z6,Z6,Ym];exact aC ⋯) %[%[_,_|rfl],ah.set U hN,aa|?_];rw[ht,Xb,Zd,Zd,Z4 hj];rfl
    intro ts M H5 %[_,U,d4|ht];rw[Zn (Zi _),G]at ht;refine%[#[3]|λt c3=>?_];have st:=ah.upd (o:= .tup [V.ref u,V.ref L2,V.ref N]) c3;rw[G]at a6;have bb:=O _ _ v;refine kk t u L2 N _ ds qs (s3.trans (O.trans (U.trans st))) ((s3.trans (O.trans U)).free c3) bc (s3.free ac) ((s3.trans O).free hN) (Ne.symm dx) (λe=>by rw[<-e,bb]at hN;cases hN) (λe=>by rw[<-e,L]at hN;cases hN) aa (st _ _ (U _ _ bb)) (st _ _ (U _ _ L)) ?_ dA dB a3 ?_ (bm.up (O.trans (U.trans st))) (a6.up (U.trans st)) ⋯ (λp hp=>?_) (by rw[<-G,Z6];exact%[ag.2|ag.1])
    .rw[st _ _ d4,ht]
    .rw[a4,X4,Xa];refine Xh (λ{x y} hx hy cy he=>?_) (nodup_iff_pairwise_ne.mp (nodup_range (n:=(1+c0%3).toNat)));rw[mem_range]at hx hy;have:=DD ⋯ ⋯ ⋯ ⋯ he
     lia
    .have:p.2.name∈ds.map λp=>p.2.name:=Xr %[p,hp|rfl]
     rw[a4]at this;have%[k,_|e]:=Xq this;exact%[_|e.symm]
noncomputable def NmD(a:ZB)(f:Str->Str):List (Key×V):=a.map λz=>(Sum.inr z,V.str (f z))
theorem pA:∀{a:ZB},z∈a->bJ (NmD a f) (Sum.inr z)=some (.str (f z))
 |[],h=>(nomatch h)
 | x::a,h=>by
   by_cases e:x=z
   .subst e;exact fD rfl
   .rw[show NmD _ f=(Sum.inr x,V.str _)::NmD a f from rfl,dF (λq=>e (Sum.inr.inj q))];exact pA (by rcases mem_cons.mp h with q|q;exact(e q.symm).elim;exact q)
theorem BP:((NmD b f).any λa=>decide (a.1=(Sum.inr z:Key)))=true↔z∈b:=by
 rw[List.any_eq_true]
 constructor
 .rintro⟨a,c,d⟩;have%[x,e|rfl]:=Xq c
  simp_all
 .intro h;exact%[_,Xr %[z,h|rfl]|Zf rfl]
theorem BQ(h:z∈a):cW (NmD a f) (Sum.inr z) (.str v)=NmD a (λx=>if x=z then v else f x):=by
 unfold cW;rw[if_pos (BP.mpr h)];unfold NmD;rw[Ys];refine Yq λx _=>?_
 show(if(Sum.inr x)=Sum.inr z then((Sum.inr x),V.str v)else(Sum.inr x,V.str _))=(Sum.inr x,V.str (if x=z then v else f x))
 by_cases e:x=z
 .rw[if_pos (congrArg _ e),if_pos e]
 .rw[if_neg (λq=>e (Sum.inr.inj q)),if_neg e]
theorem F4(h:z∉a):cW (NmD a id) (Sum.inr z) (.str z)=NmD (a++[z]) id:=by
 unfold cW;rw[if_neg (λq=>h (BP.mp q))];unfold NmD;rw[Zd];rfl
noncomputable def BR(a:ZB)(z:Str):Nat:=gX (a.map λu=>[u]) [z]
theorem BS(b:x∈a)(h:aV x y=true):BR a x<BR a y:=by
 have:=kQ (ks:=a.map λu=>[u]) (y:=[y]) (Xr %[x,b|rfl]);rw[oG,h]at this;exact Zo this.symm
def bw(qs:ZN)(a b:Str):Prop:=∃q∈qs,q.2=[.str "same",.str a,.str b]
theorem jC{S R:Str->Str->Prop}(F:bL c f r S)(h:∀a b,S a b↔R a b):bL c f r R:=by
 rw[funext λa=>funext λb=>(propext (h a b)).symm];exact F
inductive BT (vs:ZM) (H:Hp) (Q:VK) (E0:XK):Prop
 | mk (d) (z) (ls) (f) (r) (S) (z0:vs=[.ref d,.str z]) (z1:H d=some (.dK (NmD ls f))) (z2:bL ls f r S) (z3:z∈ls) (z4:Q (.str (r z)) H):BT vs H Q E0
inductive xy (vs:ZM) (H:Hp) (Q:VK) (E0:XK):Prop
 | mk (d) (a) (b) (ls) (f) (r) (S) (z0:vs=[.ref d,.str a,.str b]) (z1:H d=some (.dK (NmD ls f))) (z2:bL ls f r S) (z3:a∈ls) (z4:b∈ls) (z5:ls.length<=5000) (z6:∀f' r',bL ls f' r' (λx y=>S x y\/(x=a/\y=b))->Q .non (upd H d (.dK (NmD ls f')))):xy vs H Q E0
theorem fS(T:Txt K mg):↥1 "least_pointed_to" ["names","layer"] BT:=by
 refine T.aA.cal eV (λH vs Q E h=>?_)
 .have%[d,z,e,p,r,S,rfl,q,F,t|j]:=h;refine%[rfl|λf o A outer s i=>?_];refine%[_,%["JC=Lti011DH1i01DI1",eV.nd|i]|ap λu k1 _=>⟨λm l g=>∃y,l=[some _,-y]/\g=H/\y∈e/\r y=r z/\m=BR e y,%[_,z,rfl,rfl,t,rfl|rfl],?_⟩]
  intro m l g %[y,rfl,rfl,a,b|rfl];lk;have g1:=by
   have:=cf.k (k:=Sum.inr y) q;rw[pA a]at this;exact this
  refine%[_,g1,rfl|bx (λh=>?_) λh=>?_]
  .have h:=by simpa using h
   refine%[λc n=>c=[some _,some _]/\n=g,?_,_,g1,rfl|rfl];intro c n %[rfl|rfl];exact%[_,BS (F.fin y a) (F.dec y a h),p y,rfl,rfl,F.fin y a,(F.rf y a).trans b|rfl]
  .refine k1 _ _ ?_;rw[<-b,F.fix y a (by simpa using h)]at j;exact j
theorem nq(T:Txt K mg):↥2 "join_deposits" ["names","one","other"] xy:=by
 refine T.az.cal d8 (λH vs Q E h=>?_)
 .have%[d,a,b,c,p,r,S,rfl,g,F,i,j,n|o]:=h;refine%[rfl|λf m A outer s e=>?_];refine%[_,%["JCH3F~zA0A1BCH4F~zA0A2BDs~Y]aA3A4B0~l]bA3A4B",d8.nd|e]|?_]
  show be _ _ _ [!d,-a,-b,none,none] H;refine ap λt k1 _=>?_
  lk;refine%[d,a,c,p,r,S,rfl,g,F,i|k1 _ _ (ap λu k2 _=>?_)];lk;refine%[d,b,c,p,r,S,rfl,g,F,j|k2 _ _ (aD λv q _=>?_)];lk;have J:=F.join i j rfl rfl;have l:(if aV (r a) (r b)=true then r b else r a)∈c:=by
   split
   .exact F.rin b j
   .exact F.rin a i
  generalize (if aV (r a) (r b)=true then r b else r a)=M at J l
  refine%[_,iU.k (k:=Sum.inr M) g (by unfold NmD;rw[Z6,PySem.sizeLine_eq];lia)|q _ _ ?_];rw[BQ l];exact o _ _ J
theorem wD{qs:ZN}{q:Addr×ZM}(c:qs[i]? =some q)(a b:Str):bw (qs.take (i+1)) a b↔bw (qs.take i) a b\/q.2=[.str "same",.str a,.str b]:=by
 unfold bw;rw[Xb,c]
 simp_all
theorem iM{c:ZB}(d:c.Pairwise (λa b=>aV b a=false)){i:Nat}{z w:Str}(f:c[i]? =some z)(hw:w∈c)(h:aV w z=true):w∈c.take i:=by
 rw[<-Xc i c]at hw;rcases Xo hw with e|e
 .exact e
 .have%[hi|g]:=Xn f;have%[j,l|rfl]:=getElem_of_mem e;rw[List.getElem_drop]at h;rw[Yi]at l;by_cases m:j=0
  .subst m;rw[<-g]at h;simp only[add_zero]at h;rw[fZ]at h;cases h
  .have:=pairwise_iff_getElem.mp d i (i+j) hi ⋯ ⋯
   grind
inductive uT (mg:ZC) (vs:ZM) (H:Hp) (Q:VK) (E0:XK):Prop
 | mk (g) (c2) (c3) (c4) (qs) (ls) (ts) (z0:vs=[.ref g]) (z1:GrF mg H g c2 c3 c4 qs ls ts) (z2:ls.Nodup) (z3:ls.Pairwise (λa b=>aV b a=false)) (z4:ls.length<=5000) (z5:∀d H' r,ah H H'->H d=none->H' d=some (.dK (NmD ls r))->(∀z∈ls,r z∈ls/\dw (bw qs) z (r z))->Q (.ref d) H'):uT mg vs H Q E0
theorem pB{H:Hp}{g b c d:Addr}{qs:List _}{e:ZB}{ts:List _}{m:Str}{R:Prop}(h:GrF mg H g b c d qs e ts)(f:m="layers"\/m="sayings"\/m="ties")(k:R):∃a fs,H g=some (.ins (cL mg "Ground") a fs)/\List.lookup m fs=none/\R:=by
 have%[a,j|i]:=h.at_;exact⟨a,_,i,by rcases f with rfl|rfl|rfl<;> rfl,k⟩
theorem hV(T:Txt K mg):↥3 "names_by_layer" ["ground"] (uT mg):=by
 refine T.ay.cal bq (λH vs Q E h=>?_)
 .have%[g,c2,c3,c4,qs,j,ts,rfl,hg,nd,so,al|kk]:=h;refine%[rfl|λf an A outer s I=>?_];have lm:(j.map V.str).length=j.length:=Z6 _;have qm:(qs.map λq=>V.ref q.1).length=qs.length:=Z6 _;refine%[_,%["JCH1vCTQ~M~h0K2Ds212CTQ~M]c0fMK3MK4MK5gDOLo3RDVF]dA1A4A5BPCTQ~M~h0K2Dsi1i1212DI1",bq.nd|I]|?_]
  show be _ _ _ [!g,none,none,none,none,none] H;refine ap λD1 k1 _=>?_
  lk;intro d hd;refine k1 _ _ (ap λD2 k2 _=>az λJ hK=>?_);have s1:=ah.upd (o:= .dK []) hd;have U:upd H d (.dK []) d=some (.dK (NmD (j.take 0) id)):=aa
  generalize upd H d (.dK [])=H1 at s1 U
  lk;have ab:=hg.up s1;refine pB ab (.inl rfl) %[g,c2,c3,c4,qs,j,ts,rfl,ab|λY M=> .inl %[Y,rfl,%[_|SqL.of aa]|hK _ _ ?_]];have s2:=ah.upd (o:= .lst (j.map V.str)) M;have ac:upd H1 Y (.lst (j.map V.str)) Y=_:=aa;have n1:Y≠d:=λe=>by rw[e,U]at M;cases M
  have U:=s2 _ _ U
  generalize upd H1 Y (.lst (j.map V.str))=H2 at s2 ac U
  refine bh (xs:=j.map V.str) (λi n l=>(∃p t o4 u,n=[!g,!d,p,t,o4,u])/\ah H l/\l Y=some (.lst (j.map V.str))/\l d=some (.dK (NmD (j.take i) id)))
   %[%[_,_,_,_|rfl],s1.trans s2,ac|U] (λi n l _ h=>SqL.of h.2.2.1) ?_ ?_
  .intro i x n l L %[%[p,t,o4,u|rfl],m,G|c];rw[Zl]at L;have%[z,v|rfl]:=map_eq_some_iff.mp L;show mI _ _ _ _ [!g,!d,-z,t,o4,u] l;refine aD λD3 k3 _=>?_
   lk;have zn:z∉j.take i:=λhm=>by
    have h:=nd;rw[<-Xc i j,X3]at h;exact h.2.2 z hm z (Z8 (i:=0) ((Yb)▸v)) rfl
   refine%[_,iU.k (k:=Sum.inr z) c (by unfold NmD;rw[Z6,Ym,PySem.sizeLine_eq];lia)|k3 _ _ %[%[_,_,_,_|rfl],ah.set m hd,(ao n1).trans G|?_]];rw[aa,F4 zn,Xb,v];rfl
  intro n H3 %[%[p,t,o4,u|rfl],m,G|c];rw[lm,Zn (Zi _)]at c;refine k2 _ _ (ap λD4 k4 _=>az λJ hK=>?_);lk;have ae:=hg.up m;refine pB ae (.inr (.inl rfl)) %[g,c2,c3,c4,qs,j,ts,rfl,ae|λl2 N=> .inl %[l2,rfl,%[_|SqL.of aa]|hK _ _ ?_]];have s4:=ah.upd (o:= .lst (qs.map λq=>V.ref q.1)) N;have ag:upd H3 l2 (.lst (qs.map λq=>V.ref q.1)) l2=_:=aa;have n2:l2≠d:=λe=>by rw[e,c]at N;cases N
  have c:=s4 _ _ c;have ai:=m.trans s4
  generalize upd H3 l2 (.lst (qs.map λq=>V.ref q.1))=H4 at s4 ag c ai
  refine bh (xs:=qs.map λq=>V.ref q.1) (λi n l=>(∃p t o4 u,n=[!g,!d,p,t,o4,u])/\ah H l/\l l2=some (.lst (qs.map λq=>V.ref q.1))/\∃f r,l d=some (.dK (NmD j f))/\bL j f r (bw (qs.take i)))
   %[%[_,_,_,_|rfl],ai,ag,id,id,c|jC (bL.start j) λa b=>%[λh=>h.elim|λ⟨q,hq,_⟩=>(nomatch hq)]] (λi n l _ h=>SqL.of h.2.2.1) ?_ ?_
  .intro i x n l L %[%[p,t,o4,u|rfl],m,G,f,r,c|F];rw[Zl]at L;have%[q,hq|rfl]:=map_eq_some_iff.mp L;have%[q1|q2]:=hg.sa q (Z8 hq);have st:=m _ _ q1;have B:=wD hq;rcases q2 with⟨wd,a,b,e,hw,ha,hb,_⟩|⟨wd,a,y,e,hw,_⟩
   .rw[e]at st B;refine%[_,SqT.of st,rfl,_,_,rfl,_,_,rfl,_,_,rfl,rfl|?_];show mX _ _ _ _ [!g,!d,p,-wd,-a,-b] l;refine aD λD5 k5 _=>?_
    lk;refine bx (λh=>?_) λh=>?_
    .have h:wd=Str.ofString "same":=by simpa using h
     refine%[d,a,b,j,f,r,_,rfl,c,F,ha,hb,al|λf' r' F'=>k5 _ _ %[%[_,_,_,_|rfl],ah.set m hd,(ao n2).trans G,f',r',aa|jC F' λx y=>?_]];rw[B,h];refine or_congr Iff.rfl %[λ⟨e1,e2⟩=>by rw[e1,e2]|λe=>?_];simp only[List.cons.injEq,V.str.injEq,and_true,true_and]at e;exact%[e.1.symm|e.2.symm]
    .have h:wd≠Str.ofString "same":=by simpa using h
     refine k5 _ _ %[%[_,_,_,_|rfl],m,G,f,r,c|jC F λx y=>?_];rw[B];refine%[.inl|λe=>e.resolve_right λe=>h ?_];simp only[List.cons.injEq,V.str.injEq]at e;exact e.1
   .rw[e]at st B;refine%[_,SqT.of st,rfl,_,_,rfl,_,_,rfl,_,_,rfl,rfl|?_];show mX _ _ _ _ [!g,!d,p,-wd,-a,some (.int y)] l;refine aD λD5 k5 _=>?_
    lk;rw[if_neg (by rcases hw with rfl|rfl<;> decide)];refine k5 _ _ %[%[_,_,_,_|rfl],m,G,f,r,c|jC F λx z=>?_];rw[B];refine%[.inl|λe=>e.resolve_right λe=>?_];simp at e
  intro n H5 %[%[p,t,o4,u|rfl],m,G,f,r,c|F];rw[qm,Zn (Zi _)]at F;refine k4 _ _ (ap λD6 k6 _=>az λJ hK=>?_);lk;have aj:=hg.up m;refine pB aj (.inl rfl) %[g,c2,c3,c4,qs,j,ts,rfl,aj|λl3 O=> .inl %[l3,rfl,%[_|SqL.of aa]|hK _ _ ?_]];have s6:=ah.upd (o:= .lst (j.map V.str)) O;have n3:l3≠d:=λe=>by rw[e,c]at O;cases O
  have c:=s6 _ _ c;refine bh (xs:=j.map V.str) (λi n l=>(∃p t o4 u,n=[!g,!d,p,t,o4,u])/\ah H l/\l l3=some (.lst (j.map V.str))/\∃f,l d=some (.dK (NmD j f))/\bL j f r (bw qs)/\∀z∈j.take i,f z=r z)
   %[%[_,_,_,_|rfl],(m.trans s6),aa,f,c,F|λz v=>(nomatch v)] (λi n l _ h=>SqL.of h.2.2.1) ?_ ?_
  .intro i x n l L %[%[p,t,o4,u|rfl],m,G,f,c,F|C];rw[Zl]at L;have%[z,v|rfl]:=map_eq_some_iff.mp L;have zm:=Z8 v;show mI _ _ _ _ [!g,!d,-z,t,o4,u] l;refine aD λD7 k7 _=>?_
   lk;have get:=λy hy=>by
    have:=cf.k (k:=Sum.inr y) c;rw[pA hy]at this;exact this
   refine%[_,get z zm,_,get _ (F.fin z zm),_,iU.k (k:=Sum.inr z) c (by unfold NmD;rw[Z6,PySem.sizeLine_eq];lia)|k7 _ _ %[%[_,_,_,_|rfl],ah.set m hd,(ao n3).trans G,_,?_,F.short zm|λy hy=>?_]]
   .rw[aa,BQ zm]
   .rw[Xb,v]at hy;by_cases e:y=z
    .rw[if_pos e,e];exact F.done zm λw hw h=>C w (iM so v hw h)
    .rw[if_neg e];rcases Xo hy with h|h
     .exact C y h
     .exact(e (Xp h)).elim
  intro n H7 %[%[p,t,o4,u|rfl],m,G,f,c,F|C];rw[lm,Zn (Zi _)]at C;refine k6 _ _ ?_;lk;refine kk d H7 r m hd ?_ λz v=>%[F.rin z v|F.least v]
  rw[c];unfold NmD;rw[Yq λz v=>by rw[C z v]]
theorem G5{X:Cx}{K:ZA}{T id:String}(h:X.K=K)(m:PlainAttrs T)(slot:Slot T name id)(i:typeOf (.builtin id)=pure (.type "method_descriptor"))(n:MtQ X id r)
 (b:attributeBase o name X.env (eval o X.env)=eval o X.env) (a:(e::g).any bj=false) (j:Nat.blt (e::g).length 30=true) (c:(d.endLine==f.line)=true) (p:QE X o q) (s:QA X (e::g) t):
 QE X (.Call (.Attribute o name d) (e::g) [] f) (tBM K T r q t):=by
 have l:=a;rw[Zy,X9]at l;refine⟨AN h m slot i n.h p.h s.h b ?_ c (aF l.1) (ig l.2)⟩;rw[rY a];have:decide ((e::g).length+([]:List Keyword).length+(if([]:List Keyword).isEmpty then 0 else 1)<30)=true:=Zf ((Nat.blt_eq.mp j));rw[this];rfl
noncomputable def grp(r:Str->Str)(xs:ZB):List (Str×ZB):=(xs.filter λz=>decide (r z=z)).map λz=>(z,xs.filter λx=>decide (r x=z))
theorem zE(h:∀z∈xs,r z=b z):grp r xs=grp b xs:=by
 unfold grp;rw[List.filter_congr λz a=>by rw[h z a]];refine Yq λz a=>?_
 rw[List.filter_congr λx c=>by rw[h x c]]
theorem DE(a:r z=z)(b:z∉xs)(c:∀x∈xs,r x∈xs):grp r (xs++[z])=grp r xs++[(z,[z])]:=by
 unfold grp;rw[Y3,Zd];refine congr (congrArg _ (Yq λw hw=>?_)) ?_
 .have:w≠z:=λe=>b (e▸(List.mem_filter.mp hw).1)
  rw[Y3,Y4 (by rw[a];simpa using this.symm),Y7,Zz]
 .rw[Y6 (by rw[a];simp),Y7];show [(z,_)]=_;rw[Y3,Y6 (by rw[a];simp),Y7,List.filter_eq_nil_iff.mpr λx d=>?_]
  .rfl
  .intro e;exact b ((Zo e)▸c x d)
theorem DF(a:r z≠z):grp r (xs++[z])=(grp r xs).map λp=>if p.1=r z then(p.1,p.2++[z])else p:=by
 unfold grp;rw[Y3,Y4 (by simpa using a),Y7,Zz,Ys];refine Yq λw hw=>?_
 show(w,_)=if w=r z then(w,_)else(w,_)
 rw[Y3];by_cases e:w=r z
 .rw[if_pos e,Y6 (by simpa using e.symm),Y7]
 .rw[if_neg e,Y4 (by simpa using λq=>e q.symm),Y7,Zz]
theorem iN:y∈(grp r xs).map (·.1)↔y∈xs/\r y=y:=by
 unfold grp
 simp_all
theorem jD(h:xs.Nodup):((grp r xs).map (·.1)).Nodup:=by
 unfold grp;rw[Ys,show((λx=>x.1) ∘ λz=>(z,List.filter _ xs))=id from rfl,map_id];exact h.filter _
def xz(S:Str->Str->Prop)(a:ZB)(ds:List ZB):Prop:=∃r:Str->Str,(∀z∈a,r z∈a/\dw S z (r z))/\ds=(grp r a).map (·.2)
theorem xz.one{S:Str->Str->Prop}(h:xz S b ds)(g:xz S b c):ds=c:=by
 have%[r,d|rfl]:=h;have%[e,g1|rfl]:=g;rw[zE λz a=>(d z a).2.one (g1 z a).2]
noncomputable abbrev Gs(a:Type):=List (Str×Addr×List a)
noncomputable def gD{a:Type}(b:Gs a):List (Key×V):=b.map λg=>(Sum.inr g.1,V.ref g.2.1)
theorem tD:∀{a:Gs b},y∉a.map (·.1)->bJ (gD a) (Sum.inr y)=none
 |[],_=>rfl
 | g::a,h=>by
   rw[Yr,Yw,not_or]at h;rw[show gD _=(Sum.inr g.1,V.ref _)::gD a from rfl,dF (λq=>h.1 (Sum.inr.inj q).symm)];exact tD h.2
theorem iO:∀{a:Gs d},bJ (gD a) (Sum.inr y)=some v->∃g∈a,g.1=y/\v= .ref g.2.1
 |[],h=>(nomatch h)
 | g::a,h=>by
   rw[show gD _=(Sum.inr g.1,V.ref _)::gD a from rfl]at h;by_cases e:g.1=y
   .rw[fD (congrArg Sum.inr e)]at h;exact%[g,Zm,e|(Za h).symm]
   .rw[dF (λq=>e (Sum.inr.inj q))]at h;have%[g',b|c]:=iO h;exact%[g',Zk _ b|c]
theorem my:∀{a:Gs b},g∈a->bJ (gD a) (Sum.inr g.1)≠none
 | x::a,h,c=>by
   rw[show gD _=(Sum.inr x.1,V.ref _)::gD a from rfl]at c;by_cases e:x.1=g.1
   .rw[fD (congrArg Sum.inr e)]at c;cases c
   .rw[dF (λq=>e (Sum.inr.inj q))]at c;rcases mem_cons.mp h with q|q
    .exact e (by rw[q])
    .exact my q c
def nG(H:Hp)(a:ZG):Prop:=∀g∈a,H g.1=some (.lst (g.2.map V.str))
theorem nG.up{H a:Hp}{b:List _}(h:nG H b)(s:ah H a):nG a b:=λg c=>s _ _ (h g c)
structure jo {α:Type} (f:α->V) (H0 H:Hp) (d:Addr) (gs:Gs α):Prop where
 at_:H d=some (.dK (gD gs))
 la:∀g∈gs,H0 g.2.1=none/\H g.2.1=some (.lst (g.2.2.map f))
 nd:(gs.map (·.2.1)).Nodup
theorem DG{f:Type}{c:Gs f}(d:(c.map (·.1)).Nodup){g h:Str×Addr×List f}(i:g∈c)(j:h∈c)(e:g.1=h.1):g=h:=by
 induction c with
 | nil=>cases i
 | cons x xs l=>
   rw[Yr,nodup_cons]at d;rcases mem_cons.mp i with a|a<;> rcases mem_cons.mp j with b|b
   .rw[a,b]
   .exact(d.1 (by rw[<-a,e];exact Xr %[_,b|rfl])).elim
   .exact(d.1 (by rw[<-b,<-e];exact Xr %[_,a|rfl])).elim
   .exact l d.2 a b
theorem BU{f:Type}{c:Gs f}(d:(c.map (·.2.1)).Nodup){g h:Str×Addr×List f}(i:g∈c)(j:h∈c)(e:g.2.1=h.2.1):g=h:=by
 induction c with
 | nil=>cases i
 | cons x xs l=>
   rw[Yr,nodup_cons]at d;rcases mem_cons.mp i with a|a<;> rcases mem_cons.mp j with b|b
   .rw[a,b]
   .exact(d.1 (by rw[<-a,e];exact Xr %[_,b|rfl])).elim
   .exact(d.1 (by rw[<-b,<-e];exact Xr %[_,a|rfl])).elim
   .exact l d.2 a b
noncomputable def qg{a:Type}(y:Str)(z:a)(b:Gs a):Gs a:=b.map λg=>if g.1=y then(g.1,g.2.1,g.2.2++[z])else g
theorem F5(y:Str)(z:b)(a:Gs b):gD (qg y z a)=gD a:=by
 unfold qg gD;rw[Ys];refine Yq λg _=>?_
 show(Sum.inr (if g.1=y then(g.1,g.2.1,g.2.2++[z])else g).1,V.ref (if g.1=y then(g.1,g.2.1,g.2.2++[z])else g).2.1)=_
 split<;> rfl
theorem F6(y:Str)(z:b)(a:Gs b):(qg y z a).map (·.2.1)=a.map (·.2.1):=by
 unfold qg;rw[Ys];refine Yq λg _=>?_
 show(if g.1=y then(g.1,g.2.1,g.2.2++[z])else g).2.1=_
 split<;> rfl
theorem F7(y:Str)(z:b)(a:Gs b):(qg y z a).map (λg=>(g.1,g.2.2))=(a.map λg=>(g.1,g.2.2)).map λp=>if p.1=y then(p.1,p.2++[z])else p:=by
 unfold qg;rw[Ys,Ys];refine Yq λg _=>?_
 show((if g.1=y then(g.1,g.2.1,g.2.2++[z])else g).1,(if g.1=y then(g.1,g.2.1,g.2.2++[z])else g).2.2)=if g.1=y then(g.1,g.2.2++[z])else(g.1,g.2.2)
 split<;> rfl
theorem jo.up{a:Type}{f:a->V}{b H c:Hp}{d:Addr}{e:Gs a}(h:jo f b H d e)(s:ah H c):jo f b c d e:=%[s _ _ h.at_,λg i=>%[(h.la g i).1|s _ _ (h.la g i).2]|h.nd]
theorem jo.add{a:Type}{f:a->V}{l H:Hp}{d:Addr}{b:Gs a}(h:jo f l H d b)(m:(b.map (·.1)).Nodup){g:Str×Addr×List a}(c:g∈b)(z:a):jo f l (upd H g.2.1 (.lst (g.2.2.map f++[f z]))) d (qg g.1 z b):=by
 refine%[?_,λg' j=>?_|by rw[F6];exact h.nd]
 .rw[F5,ao (λe=>by have:=(h.la g c).2;rw[<-e,h.at_]at this;cases this)];exact h.at_
 .have%[n,i|rfl]:=Xq j;by_cases e:n.1=g.1
  .rw[if_pos e];obtain rfl:=DG m i c e;refine%[(h.la _ c).1|?_];rw[aa,Zd];rfl
  .rw[if_neg e];refine%[(h.la _ i).1|?_];rw[ao (λq=>e (by rw[BU h.nd i c q]))];exact(h.la _ i).2
theorem jo.new{l:Gs n}(h:jo f m H d l)(s:ah m H)(j:H e=none)(y:Str)(z:n)(o:y∉l.map (·.1)):jo f m (upd (upd (upd H e (.lst [])) d (.dK (cW (gD l) (Sum.inr y) (.ref e)))) e (.lst [f z])) d (l++[(y,e,[z])]):=by
 refine%[?_,λg i=>?_|?_]
 .rw[ao (λq=>by rw[<-q,h.at_]at j;cases j),aa,eG _ (tD o)];unfold gD;rw[Zd];rfl
 .rcases Xo i with i|i
  .refine%[(h.la g i).1|?_];have q:=(h.la g i).2;rw[ao (λc=>by rw[c,j]at q;cases q),ao (λc=>by rw[c,h.at_]at q;cases q),ao (λc=>by rw[c,j]at q;cases q)];exact q
  .rw[Xp i];exact%[s.free j|aa]
 .rw[Zd,X3];refine%[h.nd,by simp|λa p b r c=>?_];have%[g,i|rfl]:=Xq p;have q:=(h.la g i).2
  simp_all
inductive xA (mg:ZC) (vs:ZM) (H:Hp) (Q:VK) (E0:XK):Prop
 | mk (g) (c2) (c3) (c4) (qs) (ls) (ts) (z0:vs=[.ref g]) (z1:GrF mg H g c2 c3 c4 qs ls ts) (z2:ls.Nodup) (z3:ls.Pairwise (λa b=>aV b a=false)) (z4:ls.length<=5000) (z5:∀l H' ss,ah H H'->H l=none->H' l=some (.lst (ss.map λt=>V.ref t.1))->nG H' ss->(∀s∈ss,H s.1=none)->xz (bw qs) ls (ss.map (·.2))->ss.length<=5000->Q (.ref l) H'):xA mg vs H Q E0
inductive F8 (mg:ZC) (vs:ZM) (H:Hp) (Q:VK) (E0:XK):Prop
 | mk (g) (c2) (c3) (c4) (qs) (ls) (ts) (z) (z0:vs=[.ref g,.str z]) (z1:GrF mg H g c2 c3 c4 qs ls ts) (z2:ls.Nodup) (z3:ls.Pairwise (λa b=>aV b a=false)) (z4:ls.length<=5000) (z5:z∈ls) (z6:∀H' m,ah H H'->dw (bw qs) z m->Q (.str m) H'):F8 mg vs H Q E0
theorem pD(T:Txt K mg):↥4 "deposits" ["ground"] (xA mg):=by
 refine T.aB.cal f9 (λH vs Q E h=>?_)
 .have%[g,c2,c3,c4,qs,n,ts,rfl,hg,nd,so,aj|kk]:=h;refine%[rfl|λf a5 A outer s C=>?_];have lm:(n.map V.str).length=n.length:=Z6 _;refine%[_,%["JCH1F~!A0BCH2vCTQ~M~h0K3DV~$h~%~&2Ai13ASBBA3BDI;]eA]f]g2B",f9.nd|C]|?_]
  show be _ _ _ [!g,none,none,none] H;refine ap λD1 k1 _=>?_
  lk;refine%[g,c2,c3,c4,qs,n,ts,rfl,hg,nd,so,aj|λd H1 r s1 fd I C=>k1 _ _ (ap λD2 k2 _=>?_)];lk;intro e fe;refine k2 _ _ (ap λD3 k3 _=>az λa4 hK=>?_);have al:d≠e:=λc=>by rw[c,fe]at I;cases I
  have s2:=ah.upd (o:= .dK []) fe;have ge:upd H1 e (.dK []) e=some (.dK (gD ([]:Gs Str))):=aa;have I:=s2 _ _ I;have fe:=s1.free fe;have U:=s1.trans s2
  generalize upd H1 e (.dK [])=H2 at s2 ge I U
  lk;have ab:=hg.up U;refine pB ab (.inl rfl) %[g,c2,c3,c4,qs,n,ts,rfl,ab|λl1 an=> .inl %[l1,rfl,%[_|SqL.of aa]|hK _ _ ?_]];have s3:=ah.upd (o:= .lst (n.map V.str)) an;have J:upd H2 l1 (.lst (n.map V.str)) l1=_:=aa;have I:=s3 _ _ I;have ge:=s3 _ _ ge;have ac:=U.trans s3
  generalize upd H2 l1 (.lst (n.map V.str))=H3 at s3 J I ge ac
  have r2:∀z∈n,r (r z)=r z:=λz L=>by
   have h:=(C z L)
   have h2:=(C _ h.1).2;exact h2.one %[.refl _|λy c=>h.2.2 y (h.2.1.trans c)]
  have ae:∀z∈n,r z≠z->aV (r z) z=true:=λz L h=>fz ((C z L).2.2 z (.refl _)) h.symm
  obtain⟨M,as,a0,a1,Y,s0⟩:∃M:Hp,M e=none/\M d=some (.dK (NmD n r))/\M l1=some (.lst (n.map V.str))/\ah H M/\ah M H3:=by
   refine%[λa=>if a=e then none else H3 a,if_pos rfl,?_,?_,λa o h=>?_|λa o h=>?_]
   .exact(if_neg (λc=>al c)).trans I
   .exact(if_neg (λc=>by rw[c,ge]at J;cases J)).trans J
   .exact(if_neg (λc=>by rw[c,fe]at h;cases h)).trans (ac _ _ h)
   .have h:(if a=e then none else H3 a)=some o:=h
    split at h
    .cases h
    .exact h
  refine bh (xs:=n.map V.str) (λi σ H'=>(∃o3,σ=[!g,!d,!e,o3])/\ah M H'/\∃u,jo V.str M H' e u/\u.map (λg=>(g.1,g.2.2))=grp r (n.take i))
   %[%[_|rfl],s0,[],%[ge,λg hg=>(nomatch hg)|X6]|rfl] (λi σ H' _ h=>SqL.of (h.2.1 _ _ a1)) ?_ ?_
  .intro i x σ H' hx %[%[o3|rfl],N,u,b|t];rw[Zl]at hx;have%[z,L|rfl]:=map_eq_some_iff.mp hx;have zm:=Z8 L;have i1:i<n.length:=(Xn L).1;show kf _ _ [!g,!d,!e,-z] H';refine aD λD4 k4 _=>?_
   lk;have get:=cf.k (k:=Sum.inr z) (N _ _ a0);rw[pA zm]at get;have gk:u.map (·.1)=(grp r (n.take i)).map (·.1):=by rw[<-t,Ys];rfl
   have ag:(u.map (·.1)).Nodup:=by rw[gk];exact jD (nd.sublist (List.take_sublist _ _))
   have gl:u.length<=n.length:=by
    have:=STab.nodup_sub ag (m:=n) λy hy=>by rw[gk,iN]at hy;exact Yy hy.1
    rw[Z6]at this;exact this
   have zn:z∉n.take i:=λhm=>by
    have h:=nd;rw[<-Xc i n,X3]at h;exact h.2.2 z hm z (Z8 (i:=0) (by rw[Yb];exact L)) rfl
   have tk:n.take (i+1)=n.take i++[z]:=by rw[Xb,L];rfl
   refine%[.inr (.inr (.inl (.inl %[_|b.at_]))),_,get,#[0]|λp O=>%[Sum.inr (r z),rfl,gD u,?_,?_,λv hv=>?_|λhv=>?_]]
   .rw[ao (λc=>by rw[<-c,b.at_]at O;cases O)];exact b.at_
   .unfold gD;rw[Z6];exact aC ⋯
   .have%[q,B,e1|rfl]:=iO hv;have a2:q.1∈u.map (·.1):=Xr %[q,B|rfl];have ai:=a2;rw[gk,iN,e1]at ai;have rn:r z≠z:=λc=>zn (by exact c▸ai.1)
    have sp:=ah.upd (o:= .lst []) O;have hl:=sp _ _ (b.la q B).2;have G:=(b.up sp).add ag B z;have ml:q.2.2.length<=n.length:=by
     have:(q.1,q.2.2)∈grp r (n.take i):=t▸Xr %[q,B|rfl];have%[y,hy|c]:=Xq this;exact((Prod.mk.inj c).2)▸Yh (Yj _ _) (by rw[Ym];lia)
    refine%[.inl %[_|SqL.of hl],_,rfl,_,hl,by rw[Z6];exact aC ⋯|k4 _ _ %[%[_|rfl],ah.set (N.trans sp) (b.la q B).1,_,G|?_]];rw[F7,t,tk,DF rn,e1]
   .have nk:r z∉u.map (·.1):=λh=>by
     have%[q,B|c]:=Xq h;have:=my B;rw[c,hv]at this;exact this rfl
    have rz:r z=z:=Decidable.byContradiction λc=>nk (by rw[gk,iN];exact%[iM so L (C z zm).1 (ae z zm c)|r2 z zm])
    have de:e≠p:=λq=>by rw[<-q,b.at_]at O;cases O
    rw[rz]at hv nk ⊢;have gp:upd (upd H' p (.lst [])) e (.dK (cW (gD u) (Sum.inr z) (.ref p))) p=some (.lst []):=by rw[ao de.symm,aa]
    refine%[.inl %[_|SqL.of gp],[],gp,(show 0<sizeLine by decide)|k4 _ _ %[%[_|rfl],ah.set (ah.set (N.trans (ah.upd O)) as) (N.free O),_,b.new N O z z nk|?_]];rw[Zd,t,tk,DE rz zn λx hx=>?_]
    .rfl
    .have%[j|hj]:=List.mem_iff_getElem?.mp hx;have xm:=Yy hx;by_cases c:r x=x
     .rw[c];exact hx
     .have ji:j<i:=by have:=(Xn hj).1;rw[Ym]at this;lia
      rw[Yd ji]at hj;exact List.take_subset_take_left _ (Yf ji) (iM so hj (C x xm).1 (ae x xm c))
  intro σ H' %[%[o3|rfl],N,u,b|t];rw[lm,Zn (Zi _)]at t;refine k3 _ _ ?_;lk;have gk:u.map (·.1)=(grp r n).map (·.1):=by rw[<-t,Ys];rfl
  have gl:u.length<=n.length:=by
   have:=STab.nodup_sub (l:=u.map (·.1)) (gk▸jD nd) (m:=n) λy hy=>by rw[gk,iN]at hy;exact hy.1
   rw[Z6]at this;exact this
  refine%[.inr (.inr (.inl (.inl %[_|b.at_]))),%[_|b.at_]|λv fv=>%[e,aa,_,ah.upd fv _ _ b.at_|λl fl=>?_]];have sv:=ah.upd (o:=uu v e) fv;have sl:=ah.upd (o:= .lst ((gD u).map (·.2))) fl;have a3:=N.trans (sv.trans sl);refine kk l _ (u.map (·.2)) (Y.trans a3) ((Y.trans (N.trans sv)).free fl) ?_ (λs hs=>?_) (λs hs=>?_) %[r,C|?_] (by rw[Z6];lia)
  .rw[aa];unfold gD;rw[Ys,Ys];rfl
  .have%[q,B|rfl]:=Xq hs;exact sl _ _ (sv _ _ (b.la q B).2)
  .have%[q,B|rfl]:=Xq hs;exact Y.free (b.la q B).1
  .rw[<-t,Ys,Ys];rfl
structure bM (S:Str->Str->Prop) (ks0 ks:List _):Prop where
 nd:ks.Nodup
 so:ks.Pairwise (λa b=>dP b a=false)
 mem:∀k,k∈ks↔∃a b z a' b',[a,b,z]∈ks0/\dw S a a'/\dw S b b'/\k=[a',b',z]
theorem bM.one{S:Str->Str->Prop}{c ks d:List ZB}(h:bM S c ks)(g:bM S c d):ks=d:=
 oK dP (λ_ _ a b=>lR a b) h.so g.so h.nd g.nd λx=>(h.mem x).trans (g.mem x).symm
noncomputable def wE(r:Str->Str):ZB->ZB
 |[a,b,z]=>[r a,r b,z]
 | k=>k
theorem wF{S:Str->Str->Prop}{c:List _}{l:ZB}{r:Str->Str}(m:∀k∈c,dS l k)(f:∀z∈l,dw S z (r z))(k:ZB):k∈c.map (wE r)↔∃a b z g h,[a,b,z]∈c/\dw S a g/\dw S b h/\k=[g,h,z]:=by
 rw[mem_map]
 constructor
 .rintro⟨t,d,rfl⟩;have%[a,b,z,rfl,i|j]:=m t d;exact%[a,b,z,r a,r b,d,f a i,f b j|rfl]
 .rintro⟨a,b,z,g,h,d,n,o,rfl⟩;have%[x,y,u,e,i|j]:=m _ d;simp only[List.cons.injEq,and_true]at e;have%[rfl,rfl|rfl]:=e;exact%[_,d|by rw[<-(f a i).one n,<-(f b j).one o];rfl]
inductive uU (mg:ZC) (vs:ZM) (H:Hp) (Q:VK) (E0:XK):Prop
 | mk (g) (c2) (c3) (c4) (qs) (ls) (ts) (z0:vs=[.ref g]) (z1:GrF mg H g c2 c3 c4 qs ls ts) (z2:ls.Nodup) (z3:ls.Pairwise (λa b=>aV b a=false)) (z4:ls.length<=5000) (z5:ts.length<=98) (z6:(∀k∈ts.map (·.2),dS ls k)) (z7:∀l H' ss,ah H H'->H l=none->H' l=some (.lst (ss.map λt=>V.ref t.1))->ba H' ss->bM (bw qs) (ts.map (·.2)) (ss.map (·.2))->ss.length<=98->Q (.ref l) H'):uU mg vs H Q E0
theorem tE(T:Txt K mg):↥4 "links" ["ground"] (uU mg):=by
 refine T.aD.cal uJ (λH vs Q E h=>?_)
 .have%[g,c2,c3,c4,qs,ls,ts,rfl,hg,nd,so,ab,a0,h3|kk]:=h;refine%[rfl|λf as A outer s v=>?_];refine%[_,%["JC%1deF~!A0BDI~B~uA~I~vAmZ?1Q~M]h0fMW0?2MW1?2MW2?2gqkAiN30AiN31A2BBB",uJ.nd,(show bH (am nE) ["ground","names"] _ ["later","earlier","source","names"] [(3,1)]=true from by decide +kernel),(show(["later","earlier","source","names"]:ZB).Nodup from by decide +kernel)|v]|?_]
  show be _ _ _ [!g,none] H;refine ap λD1 k1 _=>?_
  lk;refine%[g,c2,c3,c4,qs,ls,ts,rfl,hg,nd,so,ab|λd H1 r s1 fd hd v=>k1 _ _ ?_];lk;refine aE λan hK=>?_
  lk;have B:=hg.up s1;refine pB B (.inr (.inr rfl)) %[g,c2,c3,c4,qs,ls,ts,rfl,B|λL ac=> .inl %[L,rfl,%[_|SqL.of aa]|hK _ _ λF hF=>?_]];have s2:=ah.upd (o:= .lst (ts.map λt=>V.ref t.1)) ac;have u:upd H1 L (.lst (ts.map λt=>V.ref t.1)) L=_:=aa
  generalize upd H1 L (.lst (ts.map λt=>V.ref t.1))=H2 at s2 u hF
  have ae:=s2 _ _ hd;have ag:=(B.up s2).tu;refine bi (J:=Itl K L) (n:=ts.length) (D:=F) (λj vs σ M=>(∃o1 o2 o3,σ=[o1,o2,o3,!d])/\ah H2 M/\M F=some (.lst vs)/\∃ps:ZG,vs=ps.map (λp=>V.ref p.1)/\ba M ps/\ps.map (·.2)=((ts.take j).map (·.2)).map (wE r))
   %[%[none,none,none|rfl],ah.upd hF,aa,[],rfl,jn _|rfl] (λj _ _ M G C=>%[_,V.ref ts[j].1,SqL.of (C.2.1 _ _ u)|by simp[G]]) (λ_ _ M C=>%[_,SqL.of (C.2.1 _ _ u)|by simp]) ?_ ?_
  .intro j vs σ H3 G %[%[o1,o2,o3|rfl],I,N,ps,hv,i|c] x H4 %[e2|hx];subst e2;have O:=hx _ (SqL.of (I _ _ u));rw[Zl,Z4 G]at O;obtain rfl:x=V.ref ts[j].1:=(Za O).symm;have tj:=Ye G;have%[a,b,z,e,ha|hb]:=h3 _ (Xr %[_,tj|rfl]);have st:=I _ _ (ag _ tj).2;rw[e]at st;have get:∀y∈ls,cf H4 d (.str y) (some (.str (r y))):=λy hy=>by
    have:=cf.k (k:=Sum.inr y) (I _ _ ae);rw[pA hy]at this;exact this
   refine%[_,SqT.of st,rfl,_,_,rfl,_,_,rfl,_,_,rfl,rfl|?_];show yv [-a,-b,-z,!d] _ _;lk;refine%[_,get a ha,_,get b hb,#[3]|λp hp=>?_];have sp:=ah.upd (o:= .tup [V.str (r a),V.str (r b),V.str z]) hp;have gp:upd H4 p (.tup [V.str (r a),V.str (r b),V.str z]) p=_:=aa;have pl:=congrArg List.length c;rw[Z6,Z6,Z6,Ym]at pl;refine CK.mk G (sp _ _ N) (by rw[hv,Z6];exact aC ⋯) %[%[_,_,_|rfl],ah.set (I.trans sp) hF,aa,ps++[(p,[r a,r b,z])],by rw[hv,Zd];rfl,aY (jB (aY i λb z e=>sp _ _ e) ∅ gp) (nF (ys:=vs++[V.ref p]) (sp _ _ N))|?_];rw[Zd,c,Xb,Z4 G,Zd,Zd];show _++[_]=_++[wE r ts[j].2];rw[e];rfl
  intro vs σ H3 %[_,I,ai,ps,hv,i|c];rw[Zn (Zi _)]at c;have pl:=congrArg List.length c;rw[Z6,Z6,Z6]at pl;have p3:∀q∈ps,q.2.length=3:=λq l=>by
   have:q.2∈ps.map (·.2):=Xr %[q,l|rfl];rw[c]at this;have%[k,hk|e]:=Xq this;have%[a,b,z,rfl|_]:=h3 k hk;rw[<-e];rfl
  refine%[F,rfl,ps,hv▸SqL.of ai,i,%[ps.map (·.2),by rw[Z6];lia|λq l=>Xr %[q,l|rfl]]|λl5 aj=>?_];have s5:=ah.upd (o:=oF P w l5 (bg ps)) aj;have few:(bg ps).length<=98:=by
   have:=STab.nodup_sub (eA ps) (m:=ps.map (·.2)) λk hk=>by
    have%[q,l|rfl]:=Xq hk;exact Xr %[q,bv ps q l|rfl]
   rw[Z6,Z6]at this
   lia
  refine%[bg ps,aa,λq l=>%[(i q (bv ps q l)).1|s5 _ _ (i q (bv ps q l)).2],3,λq l=>p3 q (bv ps q l),by decide,⋯|λl6 ss U pm al=>?_];have s6:=ah.upd (o:= .lst (ss.map λq=>V.ref q.1)) U;have Y:=s1.trans (s2.trans (I.trans s5));have pk:(ss.map (·.2)).Perm ((bg ps).map (·.2)):=pm.map _;refine kk l6 _ ss (Y.trans s6) (Y.free U) aa (λq l=>?_) %[pk.nodup_iff.mpr (eA ps),by rw[Xa];exact al|λk=>?_] (pm.length_eq▸few)
  .have:=i q (bv ps q (pm.mem_iff.mp l));exact%[this.1|s6 _ _ (s5 _ _ this.2)]
  .rw[pk.mem_iff,iu,c];exact wF h3 (λz hz=>(v z hz).2) k
theorem uV{S:Str->Str->Prop}{c:ZB}{r:Str->Str}(d:c.Pairwise (λa b=>aV b a=false))(h:∀z∈c,r z∈c/\dw S z (r z)){p:Str×ZB}(i:p∈grp r c):p.2[0]? =some p.1:=by
 have%[z,j|rfl]:=Xq i;have%[l|m]:=List.mem_filter.mp j;have f:z∈c.filter (λx=>decide (r x=z)):=List.mem_filter.mpr %[l|m];have d:=d.sublist (List.filter_sublist (p:=λx=>decide (r x=z)));have all:∀x∈c.filter (λx=>decide (r x=z)),aV x z=false:=λx n=>by
  have%[o|s]:=List.mem_filter.mp n;exact(Zo s)▸(h x o).2.2 x (.refl _)
 show(c.filter _)[0]? =some z
 generalize c.filter _=g at all f d
 cases g with
 | nil=>cases f
 | cons y g=>
   rw[List.getElem?_cons_zero];rcases mem_cons.mp f with e|e
   .rw[e]
   .have a:=(List.pairwise_cons.mp d).1 z e;by_cases q:y=z
    .rw[q]
    .have:=fz (all y Zm) q
     grind
structure jp (S:Str->Str->Prop) (ls ns:ZB):Prop where
 nd:ns.Nodup
 mem:∀x,x∈ns↔x∈ls/\dw S x x
 so:ns.Pairwise (λa b=>aV b a=false)
 ne:ls≠[]->ns≠[]
theorem BV{S:Str->Str->Prop}{a:ZB}{r:Str->Str}(c:∀z∈a,r z∈a/\dw S z (r z))(h:a≠[]):(grp r a).map (·.1)≠[]:=by
 have%[z|f]:=List.exists_mem_of_ne_nil _ h;have%[e|b]:=c z f;have g:dw S (r z) (r z):=%[b.1.symm.trans b.1|λy d=>b.2 y (b.1.trans d)]
 exact List.ne_nil_of_mem (iN.mpr %[e|(c _ e).2.one g])
theorem BW{r:Str->Str}{xs:ZB}(h:xs.Pairwise (λa b=>aV b a=false)):((grp r xs).map (·.1)).Pairwise (λa b=>aV b a=false):=by
 unfold grp;rw[Ys];show List.Pairwise _ (List.map (λz=>z) _);rw[List.map_id'];exact h.filter _
inductive rC (mg:ZC) (vs:ZM) (H:Hp) (Q:VK) (E0:XK):Prop
 | mk (g) (c2) (c3) (c4) (qs) (ls) (ts) (z0:vs=[.ref g]) (z1:GrF mg H g c2 c3 c4 qs ls ts) (z2:ls.Nodup) (z3:ls.Pairwise (λa b=>aV b a=false)) (z4:ls.length<=5000) (z5:∀l H' ns,ah H H'->H l=none->H' l=some (.lst (ns.map V.str))->jp (bw qs) ls ns->Q (.ref l) H'):rC mg vs H Q E0
theorem cG(T:Txt K mg):↥5 "deposit_names" ["ground"] (rC mg):=by
 refine T.aC.cal lU (λH vs Q E h=>?_)
 .have%[g,G,I,L,qs,c,ts,rfl,hg,nd,q,t|kk]:=h;refine%[rfl|λf ab A outer s b=>?_];refine%[_,%["JDImZ?1QF~'A0BW0?2qU0E",0,(show bH (am di) ["ground"] _ ["group"] []=true from by decide +kernel),(show(["group"]:ZB).Nodup from by simp)|b]|?_];show kg _ _ [!g] H;lk;refine aE λM hK=>?_
  lk;refine%[g,G,I,L,qs,c,ts,rfl,hg,nd,q,t|λN H1 ss O f1 o la _ ⟨r,b,U⟩ ac=> .inl %[N,rfl,%[_|SqL.of o]|hK _ _ λF u=>?_]];have sg:ss.length=(grp r c).length:=by
   have:=congrArg List.length U;rwa[Z6,Z6]at this
  refine bi (J:=Itl K N) (n:=ss.length) (D:=F) (λj vs v p=>(∃Y,v=[Y])/\ah H1 p/\p F=some (.lst vs)/\vs=(((grp r c).take j).map (·.1)).map V.str)
   %[%[none|rfl],ah.upd u,aa|rfl] (λj _ _ p d a=>%[_,V.ref ss[j].1,SqL.of (a.2.1 _ _ o)|by simp[d]]) (λ_ _ p a=>%[_,SqL.of (a.2.1 _ _ o)|by simp]) ?_ ?_
  .intro j vs v H3 d %[%[Y|rfl],e,y|i] x H4 %[B|hx];subst B;have l:=hx _ (SqL.of (e _ _ o));rw[Zl,Z4 d]at l;obtain rfl:x=V.ref ss[j].1:=(Za l).symm;have C:j<(grp r c).length:=by lia
   have B:ss[j].2=(grp r c)[j].2:=by
    have:=congrArg (λz=>z[j]?) U;simpa [d,C]using this
   lk;refine%[_,SqL.of (e _ _ (la _ (Ye d))),_,(show atI (ss[j].2.map V.str) ((0:Nat):Int)=some _ from cJ (by rw[Zl,B,(uV q b (Ye C))];rfl))|?_];refine CK.mk d y (by rw[i,Z6,Z6,Ym];exact aC ⋯) %[%[_|rfl],ah.set e u,aa|?_];rw[i,Xb,Z4 C,Zd,Zd];rfl
  intro vs v H3 %[_,e,m|i];rw[Zn ⋯]at i;rw[i]at m;refine kk F H3 _ (O.trans e) (O.free u) m %[jD nd,λx=>?_,BW q|BV b];rw[iN];refine%[λh=>%[h.1|by have:=(b x h.1).2;rwa[h.2]at this]|λh=>%[h.1|(b x h.1).2.one h.2]]
def GrB(H:Hp)(d:Addr)(ss:ZG)(i:Nat):Prop:=∃a,H d=some (.dK a)/\∀n,(∃l,bJ a (Sum.inr n)=some (.ref l)/\H l=some (.lst ((ss.filter λt=>decide (t.2[i]? =some n)).map λt=>V.ref t.1)))\/(bJ a (Sum.inr n)=none/\∀t∈ss,t.2[i]? ≠some n)
theorem GrB.up(h:GrB H d ss i)(s:ah H e):GrB e d ss i:=by
 have%[c,f|g]:=h;exact%[c,s _ _ f|λn=>(g n).imp_left λ⟨l,a,b⟩=>%[l,a|s _ _ b]]
def dO(H:Hp)(a:ZB)(ss:ZG):Prop:=∀t∈ss,H t.1=some (.tup (t.2.map V.str))/\dS a t.2
theorem dO.up(h:dO H b ss)(s:ah H c):dO c b ss:=λt a=>%[s _ _ (h t a).1|(h t a).2]
theorem F9(h:dS c k)(hi:i<2):∃n,k[i]? =some n/\n∈c:=by
 have%[a,b,z,rfl,d|e]:=h
 match i,hi with
 | 0,_=>exact%[a,rfl|d]
 | 1,_=>exact%[b,rfl|e]
inductive pE (vs:ZM) (H:Hp) (Q:VK) (E0:XK):Prop
 | mk (l:Addr) (i:Nat) (ns:ZB) (ss:List _) (z0:vs=[.ref l,.int i]) (z1:i<2) (z2:H l=some (.lst (ss.map λt=>V.ref t.1))) (z3:dO H ns ss) (z4:ss.length<=98) (z5:∀d H',ah H H'->H d=none->GrB H' d ss i->Q (.ref d) H'):pE vs H Q E0
inductive BX (i:Nat) (vs:ZM) (H:Hp) (Q:VK) (E0:XK):Prop
 | mk (l) (ns) (ss) (z0:vs=[.ref l]) (z1:H l=some (.lst (ss.map λt=>V.ref t.1))) (z2:dO H ns ss) (z3:ss.length<=98) (z4:∀d H',ah H H'->H d=none->GrB H' d ss i->Q (.ref d) H'):BX i vs H Q E0
theorem rD(T:Txt K mg):↥1 "grouped" ["found","side"] pE:=by
 refine T.aH.cal jZ (λH vs Q E h=>?_)
 .have%[l,i,ns,ss,rfl,hi,Y,ab,aj|kk]:=h;refine%[rfl|λf ai A outer s hr=>?_];have ac:(ss.map λt=>V.ref t.1).length=ss.length:=Z6 _;refine%[_,%["JCH2vCTQ0K3DV~$h~%~&2AY31ASBBA3BDI2"|jZ.nd]|?_]
  show be _ _ _ [!l,some (.int i),none,none] H;refine ap λD1 k1 _=>?_
  lk;intro e fe;refine k1 _ _ (ap λD2 k2 _=>az λag hK=>?_);lk;have se:=ah.upd (o:= .dK []) fe;refine .inl %[%[_|SqL.of (se _ _ Y)]|hK _ _ ?_];refine bh (xs:=ss.map λt=>V.ref t.1) (λj σ u=>(∃o3,σ=[!l,some (.int i),!e,o3])/\ah H u/\∃m,jo (λt:Addr×ZB=>V.ref t.1) H u e m/\(m.map (·.1)).Nodup/\(∀g∈m,g.2.2=(ss.take j).filter λt=>decide (t.2[i]? =some g.1))/\∀n,n∈m.map (·.1)↔∃t∈ss.take j,t.2[i]? =some n)
   %[%[_|rfl],se,[],%[aa,λg B=>(nomatch B)|X6],X6,λg B=>(nomatch B)|by simp] (λj σ u _ h=>SqL.of (h.2.1 _ _ Y)) ?_ ?_
  .intro j x σ u hx %[%[o3|rfl],I,m,d,gn,J|O];rw[Zl]at hx;have%[t,L|rfl]:=map_eq_some_iff.mp hx;have tm:=Z8 L;have j1:j<ss.length:=(Xn L).1;have%[n,M|_]:=F9 (ab t tm).2 hi;have tk:ss.take (j+1)=ss.take j++[t]:=by rw[Xb,L];rfl
   show kf _ _ [!l,some (.int i),!e,some (.ref t.1)] u;refine aD λD4 k4 _=>?_
   lk;have gl:m.length<=ss.length:=by
    have:m.map (·.1) ⊆ ss.filterMap λt=>t.2[i]? :=λy hy=>by
     have%[t,L|e]:=(O y).mp hy;exact mem_filterMap.mpr %[t,Yy L|e]
    have:=STab.nodup_sub gn λx hx=>this hx
    rw[Z6]at this;exact Yh this (List.length_filterMap_le _ _)
   have st:=I _ _ (ab t tm).1;have C:∀(N:Gs (Addr×ZB)),(∀y,y∈N.map (·.1)↔y∈m.map (·.1)\/y=n)->∀y,y∈N.map (·.1)↔∃t∈ss.take (j+1),t.2[i]? =some y:=λN h y=>by
    rw[h,O,tk]
    constructor
    .rintro(⟨t',h1,h2⟩|rfl)
     .exact%[t',Yu _ h1|h2]
     .exact%[t,Yv _ Zm|M]
    .rintro⟨t',h1,h2⟩;rcases Xo h1 with q|q
     .exact .inl %[t',q|h2]
     .rw[Xp q,M]at h2;exact .inr (Za h2).symm
   refine%[.inr (.inr (.inl (.inl %[_|d.at_]))),_,SqT.of st,_,cJ (show(t.2.map V.str)[i]? =some (.str n) by rw[Zl,M];rfl),#[0]|λp G=>%[Sum.inr n,rfl,gD m,?_,?_,λv U=>?_|λU=>?_]]
   .rw[ao (λc=>by rw[<-c,d.at_]at G;cases G)];exact d.at_
   .unfold gD;rw[Z6];exact aC ⋯
   .have%[q,r,e1|rfl]:=iO U;have sp:=ah.upd (o:= .lst []) G;have Y:=sp _ _ (d.la q r).2;have ml:q.2.2.length<=ss.length:=by
     rw[J q r];exact Yh (Yj _ _) (by rw[Ym];lia)
    have ka:(qg q.1 t m).map (·.1)=m.map (·.1):=by
     unfold qg;rw[Ys];refine Yq λg _=>?_
     show(if g.1=q.1 then(g.1,g.2.1,g.2.2++[t])else g).1=_
     split<;> rfl
    refine%[.inl %[_|SqL.of Y],_,rfl,_,Y,by rw[Z6];exact aC ⋯|k4 _ _ %[%[_|rfl],ah.set (I.trans sp) (d.la q r).1,_,((d.up sp).add gn r t),ka▸gn,λg B=>?_|C _ λy=>?_]]
    .unfold qg at B;have%[g0,h0|rfl]:=Xq B;rw[tk,Y3];by_cases c:g0.1=q.1
     .rw[if_pos c];show g0.2.2++[t]=_++List.filter (λt=>decide (t.2[i]? =some g0.1)) [t];rw[J g0 h0,Y6 (by rw[M,c,e1];simp),Y7]
     .rw[if_neg c,J g0 h0,Y4 (by rw[M,<-e1];simpa using λz=>c z.symm),Y7,Zz]
    .rw[ka];exact%[.inl|λh=>h.elim id λh=>by rw[h,<-e1];exact Xr %[q,r|rfl]]
   .have nk:n∉m.map (·.1):=λh=>by
     have%[q,r|c]:=Xq h;have:=my r;rw[c,U]at this;exact this rfl
    have de:e≠p:=λq=>by rw[<-q,d.at_]at G;cases G
    have gp:upd (upd u p (.lst [])) e (.dK (cW (gD m) (Sum.inr n) (.ref p))) p=some (.lst []):=by rw[ao de.symm,aa]
    refine%[.inl %[_|SqL.of gp],[],gp,(show 0<sizeLine by decide)|k4 _ _ %[%[_|rfl],ah.set (ah.set (I.trans (ah.upd G)) fe) (I.free G),_,d.new I G n t nk,?_,λg B=>?_|C _ λy=>?_]]
    .rw[Zd,X3];exact%[gn,by simp|λa ha b hb c=>nk (by rw[<-show b=n from Xp hb,<-c];exact ha)]
    .rw[tk,Y3];rcases Xo B with q|q
     .have c:g.1≠n:=λc=>nk (c▸Xr %[g,q|rfl])
      rw[J g q,Y4 (by rw[M];simpa using λz=>c z.symm),Y7,Zz]
     .rw[Xp q];show [t]=_++List.filter (λt=>decide (t.2[i]? =some n)) [t];rw[Y6 (by rw[M];simp),Y7,List.filter_eq_nil_iff.mpr λt' ae c=>nk ((O n).mpr %[t',ae|Zo c])];rfl
    .rw[Zd,Yt,Yr,map_nil,Yz]
  .intro σ u %[%[o3|rfl],I,m,d,gn,J|O];rw[ac,Zn (Zi _)]at J O;refine k2 _ _ ?_;lk;refine kk e u I fe %[_,d.at_|λn=>?_];cases U:bJ (gD m) (Sum.inr n)with
   | none=>
     refine .inr %[rfl|λt L c=>?_];have%[q,r|c]:=Xq ((O n).mpr %[t,L|c]);have:=my r;rw[c,U]at this;exact this rfl
   | some v=>
     have%[q,r,e1|rfl]:=iO U;refine .inl %[_,rfl|?_];rw[(d.la q r).2,J q r,e1]
theorem en(T:Txt K mg):↥2 "links_by_later" ["found"] (BX 0):=by
 refine T.aE.cal kX (λH vs Q E h=>?_)
 .have%[l,c,ss,rfl,g,a,b|i]:=h;refine%[rfl|λf d A outer s e=>?_];exact%[_,%["JDIF~(A0A_B",0|e],l,0,c,ss,rfl,by simp,g,a,b|i]
theorem kb(T:Txt K mg):↥2 "links_by_earlier" ["found"] (BX 1):=by
 refine T.aF.cal jE (λH vs Q E h=>?_)
 .have%[l,c,ss,rfl,g,a,b|i]:=h;refine%[rfl|λf d A outer s e=>?_];exact%[_,%["JDIF~(A0A~DB",0|e],l,1,c,ss,rfl,by simp,g,a,b|i]
structure ReB (ss:ZG) (rs:Gs Str):Prop where
 nd:(rs.map (·.1)).Nodup
 sub:∀r∈rs,r.2∈ss/\r.2.2[1]? =some r.1
theorem ReB.len(h:ReB ss rs):rs.length<=ss.length:=by
 have:=STab.nodup_sub h.nd (m:=ss.filterMap λt=>t.2[1]?) λx a=>by
  have%[r,b|rfl]:=Xq a;exact mem_filterMap.mpr %[r.2|h.sub r b]
 rw[Z6]at this;exact Yh this (List.length_filterMap_le _ _)
theorem ReB.snoc(h:ReB ss rs)(d:(a,[p,y,z])∈ss)(e:y∉rs.map (·.1)):ReB ss (rs++[(y,a,[p,y,z])]):=by
 refine%[?_|λr f=>?_]
 .rw[Zd,X3];exact%[h.nd,by simp|λa g b i c=>e (by rw[<-show b=y from Xp i,<-c];exact g)]
 .rcases Xo f with q|q
  .exact h.sub r q
  .rw[Xp q];exact%[d|rfl]
def dz(d:Addr)(H a:Hp):Prop:=∀b o,b≠d->H b=some o->a b=some o
theorem dz.trans(h:dz d H c)(g:dz d c a):dz d H a:=λb o n e=>g b o n (h b o n e)
theorem dz.of(h:ah H a):dz d H a:=λb o _ e=>h b o e
theorem GrB.x(h:GrB H b ss i)(s:dz d H f)(n:b≠d)(m:H d=some (.dK o)):GrB f b ss i:=by
 have%[e,g|j]:=h;exact%[e,s _ _ n g|λn=>(j n).imp_left λ⟨l,a,b⟩=>%[l,a|s _ _ (λc=>by lia) b]]
theorem dO.x(h:dO H e ss)(s:dz d H f)(g:H d=some (.dK i)):dO f e ss:=λt a=>%[s _ _ (λc=>by have b:=(h t a).1;grind) (h t a).1|(h t a).2]
theorem GrB.get(h:GrB f b ss i)(s:dz d f H)(nb:b≠d)(q:∀xs,f d≠some (.lst xs))(r:H p=none)(n:Str):∃e a,upd H p (.lst []) b=some (.dK e)/\(bJ e (Sum.inr n)).getD (.ref p)= .ref a/\upd H p (.lst []) a=some (.lst ((ss.filter λt=>decide (t.2[i]? =some n)).map λt=>V.ref t.1))/\(a=p\/∃o,f a=some o):=by
 have%[e,m|u]:=h;have sp:=ah.upd (o:= .lst []) r;rcases u n with⟨l,g,j⟩|⟨g,v⟩
 .exact%[e,l,sp _ _ (s _ _ nb m),by rw[g];rfl,sp _ _ (s _ _ (λc=>q _ (c▸j)) j)|.inr %[_|j]]
 .refine%[e,p,sp _ _ (s _ _ nb m),by rw[g];rfl,?_|.inl rfl];rw[List.filter_eq_nil_iff.mpr λt y c=>v t y (Zo c)];exact aa
inductive xB (vs:ZM) (H:Hp) (Q:VK) (E0:XK):Prop
 | mk (b e d:Addr) (ns F:ZB) (ss:List _) (rs:Gs Str) (z0:vs=[.ref b,.ref e,.ref d]) (z1:b≠d) (z2:GrB H b ss 0) (z3:dO H ns ss) (z4:ss.length<=98) (z5:H e=some (.lst (F.map V.str))) (z6:H d=some (.dK (gD rs))) (z7:ReB ss rs) (z8:∀g H' new,dz d H H'->H g=none->H' g=some (.lst ((new.map (·.1)).map V.str))->H' d=some (.dK (gD (rs++new)))->ReB ss (rs++new)->(∀r∈new,∃p∈F,r.2.2[0]? =some p)->(∀x∈F,∀y,Ed (ss.map (·.2)) x y->y∈(rs++new).map (·.1))->Q (.ref g) H'):xB vs H Q E0
theorem uW(T:Txt K mg):↥1 "next_edge" ["beneath","edge","reached"] xB:=by
 refine T.aK.cal eY (λH vs Q E h=>?_)
 .have%[b,e,d,ns,F,ss,rs,rfl,ai,hb,aj,bc,he,hd,a4|kk]:=h;refine%[rfl|λf bb A outer s hr=>?_];have Fm:(F.map V.str).length=F.length:=Z6 _;have ed:e≠d:=λc=>by rw[c,hd]at he;cases he
  refine%[_,%["JCH3SBCTQ1K4DTQ~N~U0A4ASBBK5DO)Y5~D2Cs52Y5~DDVlh3AY5~DBPDI3",eY.nd|hr]|?_]
  show be _ _ _ [!b,!e,!d,none,none,none] H;refine ap λD1 k1 _=>?_
  lk;refine%[#[0]|λg fg=>k1 _ _ (ap λD2 k2 _=>az λal hK=>?_)];have gd:g≠d:=λc=>by rw[c,hd]at fg;cases fg
  have s1:=ah.upd (o:= .lst []) fg;have gg:upd H g (.lst []) g=some (.lst ((([]:Gs Str).map (·.1)).map V.str)):=aa
  generalize upd H g (.lst [])=H1 at s1 gg
  lk;refine .inl %[%[_|SqL.of (s1 _ _ he)]|hK _ _ ?_];refine bh (xs:=F.map V.str) (λi Y H'=>(∃o4 o5,Y=[!b,!e,!d,!g,o4,o5])/\dz d H H'/\∃new:Gs Str,H' g=some (.lst ((new.map (·.1)).map V.str))/\H' d=some (.dK (gD (rs++new)))/\ReB ss (rs++new)/\(∀r∈new,∃p∈F,r.2.2[0]? =some p)/\∀x∈F.take i,∀y,Ed (ss.map (·.2)) x y->y∈(rs++new).map (·.1))
   %[%[_,_|rfl],dz.of s1,[],gg,by rw[Zz];exact s1 _ _ hd,by rw[Zz];exact a4,λr hr=>(nomatch hr)|λx C=>(nomatch C)] (λi Y H' _ h=>SqL.of (h.2.1 _ _ ed he)) ?_ ?_
  .intro i x Y H' C %[%[o4,o5|rfl],sm,new,hg,l,L,ae|m];rw[Zl]at C;have%[n,hn|rfl]:=map_eq_some_iff.mp C;have tk:F.take (i+1)=F.take i++[n]:=by rw[Xb,hn];rfl
   show Ab _ _ _ _ [!b,!e,!d,!g,-n,o5] H';refine aD λD3 k3 _=>az λal hK=>?_
   lk;refine%[.inr (.inr (.inl (.inl %[_|sm _ _ ai hb.choose_spec.1]))),#[0]|λp hp=>?_];have%[a5,a,an,a6,M|a7]:=hb.get sm ai (λxs c=>by rw[hd]at c;cases c) hp n;have ag:a≠g:=by
    rcases a7 with rfl|⟨o,ho⟩
    .exact λc=>by rw[c,hg]at hp;cases hp
    .exact λc=>by rw[c,fg]at ho;cases ho
   have ad:a≠d:=λc=>by
    have:=M;rw[c,ao (λc=>by rw[c,hp]at l;cases l),l]at this;cases this
   have sp:=ah.upd (o:= .lst []) hp;have hg:=sp _ _ hg;have l:=sp _ _ l;have sm:=sm.trans (dz.of sp)
   generalize upd H' p (.lst [])=H2 at an M sp hg l sm ⊢
   generalize as:(ss.filter λt=>decide (t.2[0]? =some n))=ts at M
   have tm:(ts.map λt=>V.ref t.1).length=ts.length:=Z6 _;have a8:∀t∈ts,t∈ss/\∃y z,t.2=[n,y,z]:=λt ht=>by
    rw[<-as]at ht;have%[h1|h2]:=List.mem_filter.mp ht;have%[x,y,z,e|_]:=(aj t h1).2;have h2:=Zo h2;rw[e]at h2;exact%[h1,y,z|by rw[e,show x=n from Za h2]]
   refine%[Sum.inr n,rfl,a5,an|.inl %[a,a6,%[_|SqL.of M]|hK _ _ ?_]];refine bh (xs:=ts.map λt=>V.ref t.1) (λj Y U=>(∃o5,Y=[!b,!e,!d,!g,-n,o5])/\dz d H U/\U a=some (.lst (ts.map λt=>V.ref t.1))/\∃new:Gs Str,U g=some (.lst ((new.map (·.1)).map V.str))/\U d=some (.dK (gD (rs++new)))/\ReB ss (rs++new)/\(∀r∈new,∃p∈F,r.2.2[0]? =some p)/\(∀x∈F.take i,∀y,Ed (ss.map (·.2)) x y->y∈(rs++new).map (·.1))/\∀t∈ts.take j,∀y,t.2[1]? =some y->y∈(rs++new).map (·.1))
    %[%[_|rfl],sm,M,new,hg,l,L,ae,m|λt ht=>(nomatch ht)] (λj Y U _ h=>SqL.of h.2.2.1) ?_ ?_
   .intro j x Y U C %[%[o5|rfl],N,O,new,ab,I,B,G,u|ac];rw[Zl]at C;have%[t,ht|rfl]:=map_eq_some_iff.mp C;have%[a0,y,z|et]:=a8 t (Z8 ht);have J:=(aj.x N hd t a0).1;rw[et]at J;have a9:ts.take (j+1)=ts.take j++[t]:=by rw[Xb,ht];rfl
    show mX _ _ _ _ [!b,!e,!d,!g,-n,some (.ref t.1)] U;refine aD λD4 k4 _=>?_
    lk;refine%[_,SqT.of J,_,rfl,_,cf.k (k:=Sum.inr y) I|?_];have a1:∀(nw:Gs Str),(∀x∈(rs++new).map (·.1),x∈(rs++nw).map (·.1))->y∈(rs++nw).map (·.1)->(∀x∈F.take i,∀y,Ed (ss.map (·.2)) x y->y∈(rs++nw).map (·.1))/\∀t∈ts.take (j+1),∀y,t.2[1]? =some y->y∈(rs++nw).map (·.1):=λnw mono hy=>by
     refine%[λx C y h=>mono y (u x C y h)|λt' a2 y' h=>?_];rw[a9]at a2;rcases Xo a2 with q|q
     .exact mono y' (ac t' q y' h)
     .rw[Xp q,et]at h;rw[<-show y=y' from Za h];exact hy
    cases hv:bJ (gD (rs++new)) (Sum.inr y)with
    | some v=>
      rw[if_neg ∅];have%[q,hq,e1|_]:=iO hv;have%[n1|n2]:=a1 new (λ_ h=>h) (by rw[<-e1];exact Xr %[q,hq|rfl]);exact k4 _ _ %[%[_|rfl],N,O,new,ab,I,B,G,n1|n2]
    | none=>
      rw[if_pos (by rfl)];have hy:y∉(rs++new).map (·.1):=λh=>by
       have%[q,hq|c]:=Xq h;have:=my hq;rw[c,hv]at this;exact this rfl
      have ln:=B.len;have nl:new.length<=98:=by rw[Z9]at ln;lia
      refine%[_,SqT.of J,_,rfl,_,iU.k (k:=Sum.inr y) I (by unfold gD;rw[Z6];exact aC ⋯)|?_];rw[eG _ hv];have e1:gD (rs++new) ++[(Sum.inr y,V.ref t.1)]=gD (rs++(new++[(y,t.1,[n,y,z])])):=by
       unfold gD;rw[<-Ze,Zd (l₂:=[_])];rfl
      rw[e1];have u1:∀c o,c≠d->U c=some o->upd U d (.dK (gD (rs++(new++[(y,t.1,[n,y,z])])))) c=some o:=λc o h e=>(ao h)▸e
      have a3:=u1 _ _ gd ab;have R:=B.snoc (p:=n) (y:=y) (z:=z) (a:=t.1) (et▸a0) hy;rw[Ze]at R;have%[n1|n2]:=a1 (new++[(y,t.1,[n,y,z])]) (λx C=>by rw[<-Ze,Zd];exact Yu _ C) (by rw[<-Ze,Zd];exact Yv _ Zm);refine%[.inl %[_|SqL.of a3],_,SqT.of (u1 _ _ (λc=>by rw[c,I]at J;cases J) J),_,rfl,_,a3,by rw[Z6,Z6];exact aC ⋯|k4 _ _ %[%[_|rfl],λc o h e=>?_,(ao ag).trans (u1 _ _ ad O),_,?_,(ao gd.symm).trans aa,R,?_,n1|n2]]
      .rw[ao (ay e fg)];exact u1 _ _ h (N _ _ h e)
      .rw[aa,Zd,Zd];rfl
      .intro r hr;rcases Xo hr with q|q
       .exact G r q
       .rw[Xp q];exact%[n,Z8 hn|rfl]
   .intro Y U %[%[o5|rfl],N,O,new,ab,I,B,G,u|ac];rw[tm,Zn (Zi _)]at ac;refine k3 _ _ %[%[_,_|rfl],N,new,ab,I,B,G|λx C y ⟨z,hy⟩=>?_];rw[tk]at C;rcases Xo C with q|q
    .exact u x q y %[z|hy]
    .rw[Xp q]at hy;have%[t,ht|et]:=Xq hy;exact ac t (as▸List.mem_filter.mpr %[ht|by rw[et];simp]) y (by rw[et];rfl)
  .intro Y H' %[%[o4,o5|rfl],sm,new,hg,l,L,ae|m];rw[Fm,Zn (Zi _)]at m;refine k2 _ _ ?_;lk;exact kk g H' new sm fg hg l L ae m
theorem rE{b:Bool}(h: ¬ (not b)=true):b=true:=by
 cases b
 .exact absurd rfl h
 .rfl
theorem mz{rs:Gs Str}{y:Str}(h:y∈rs.map (·.1)):∃r∈rs,r.1=y/\bJ (gD rs) (Sum.inr y)=some (.ref r.2.1):=by
 cases b:bJ (gD rs) _ with
 | none=>
   have%[q,a|c]:=Xq h;have:=my a;rw[c,b]at this;exact(this rfl).elim
 | some v=>
   have%[q,a,e|rfl]:=iO b;exact%[q,a,e|rfl]
inductive BY (vs:ZM) (H:Hp) (Q:VK) (E0:XK):Prop
 | mk (d) (st) (goal) (ns) (F) (ss) (rs) (dd) (k) (z0:vs=[.ref d,.str st,.str goal]) (z1:H d=some (.dK (gD rs))) (z2:ReB ss rs) (z3:Lev (ss.map (·.2)) st rs dd k F) (z4:k<=100) (z5:dO H ns ss) (z6:goal∈rs.map (·.1)) (z7:∀l H' (ws:List _),ah H H'->H l=none->H' l=some (.lst (ws.map λt=>V.ref t.1))->(∀t∈ws,t∈ss)->Wal (ws.map (·.2)) st goal->ws.length=dd goal->Q (.ref l) H'):BY vs H Q E0
theorem BZ(T:Txt K mg):↥1 "way_to" ["reached","start","goal"] BY:=by
 refine T.aL.cal qY (λH vs Q E h=>?_)
 .have%[d,st,a,ns,F,ss,rs,i,k,rfl,hd,C,l,hk,G,n|kk]:=h;refine%[rfl|λf ab A outer s j=>?_];refine%[_,%["JCH3SAi02BC=LtYU3*E_1DVlh3Ai0YU3*E_BDI]i3",qY.nd|j]|?_]
  show be _ _ _ [!d,-st,-a,none] H;refine ap λD1 k1 _=>?_
  lk;have%[r,I,e1|hv]:=mz n;have get:=cf.k (k:=Sum.inr a) hd;rw[hv]at get;refine%[_,get,#[1]|λb fw=>k1 _ _ (ap λD2 k2 _=>?_)];have s1:=ah.upd (o:= .lst [V.ref r.2.1]) fw;have gw:upd H b (.lst [V.ref r.2.1]) b=some (.lst (([]:ZG).reverse.map (λt=>V.ref t.1) ++[V.ref r.2.1])):=aa
  generalize upd H b (.lst [V.ref r.2.1])=H1 at s1 gw
  refine⟨λm σ u=>σ=[!d,-st,-a,!b]/\ah H u/\∃(us:ZG) (r:Str×Addr×ZB),r∈rs/\m=i r.1/\u b=some (.lst (us.reverse.map (λt=>V.ref t.1) ++[.ref r.2.1]))/\(∀t∈us,t∈ss)/\Wal (us.map (·.2)) r.1 a/\us.length+m=i a,%[_,rfl,s1,[],r,I,rfl,gw,λt h=>(nomatch h),e1|by rw[e1];simp],?_⟩;intro m σ H2 %[rfl,v,us,r,j,rfl,hw,y,B|hl];have%[ac,p,z,J|hp]:=l.by_ r j;have e:=(C.sub r j).1;have g:=v _ _ (G _ e).1;rw[J]at g;have gl:=l.le a n;lk;refine%[_,SqL.of hw,_,ki _ _,_,rfl,_,SqT.of g,_,rfl,rfl|bx (λh=>?_) λh=>?_]
  .have h:p≠st:=by simpa using h
   have%[_,L|ae]:=hp.resolve_left λc=>h c.1
   have%[r',M,N|O]:=mz L;have get:=cf.k (k:=Sum.inr p) (v _ _ hd);rw[O]at get;refine⟨λU u=>∃Y,Y<i r.1/\U=[!d,-st,-a,!b]/\ah H u/\∃(us:ZG) (r:Str×Addr×ZB),r∈rs/\Y=i r.1/\u b=some _/\(∀t∈us,t∈ss)/\Wal (us.map (·.2)) r.1 a/\us.length+Y=i a,λ_ _ h=>h,.inl %[_|SqL.of hw],_,SqL.of hw,_,ki _ _,_,rfl,_,SqT.of g,_,rfl,_,get,_,hw,by rw[Z9,Z6,List.length_reverse,Yl];exact aC ⋯,_,?_,rfl,ah.set v fw,r.2::us,r',M,rfl,?_,?_,?_,?_⟩
   .rw[N];lia
   .rw[aa,List.reverse_cons,Zd];rfl
   .intro t ht;rcases mem_cons.mp ht with q|q
    .exact q▸e
    .exact y t q
   .exact%[r.1,z,J.trans (by rw[N])|B]
   .rw[Zr,N];lia
  .have h:p=st:=by simpa using h
   refine k2 _ _ ?_;lk;refine%[_,hw|λq fq=>kk q _ (r.2::us) (v.trans (ah.upd fq)) (v.free fq) ?_ (λt ht=>?_) %[r.1,z,J.trans (by rw[h])|B] (by rw[Zr];lia)]
   .rw[aa,List.reverse_append,<-List.map_reverse,List.reverse_reverse];rfl
   .rcases mem_cons.mp ht with q|q
    .exact q▸e
    .exact y t q
inductive uX (vs:ZM) (H:Hp) (Q:VK) (E0:XK):Prop
 | mk (b) (st) (goal) (ns) (ss) (z0:vs=[.ref b,.str st,.str goal]) (z1:GrB H b ss 0) (z2:dO H ns ss) (z3:ss.length<=98) (z4:(∀H',ah H H'-> ¬ Rch (ss.map (·.2)) st goal->Q .non H')) (z5:∀l H' (ws:List _),ah H H'->H l=none->H' l=some (.lst (ws.map λt=>V.ref t.1))->(∀t∈ws,t∈ss)->Sho (ss.map (·.2)) st goal (ws.map (·.2))->ws.length<=100->Q (.ref l) H'):uX vs H Q E0
def G6(H:Hp)(b d:Addr)(st a:Str)(ss:ZG)(m:Nat)(f:L2.St)(c:Hp):Prop:=∃e F rs g k,f=[!b,-st,-a,!d,!e]/\ah H c/\c e=some (.lst (F.map V.str))/\c d=some (.dK (gD rs))/\ReB ss rs/\Lev (ss.map (·.2)) st rs g k F/\k<=rs.length+1/\(F≠[]->k<=rs.length)/\m=2*(98-rs.length) +F.length.min 1
theorem pF(T:Txt K mg):↥2 "shortest_way" ["beneath","start","goal"] uX:=by
 refine T.aJ.cal dj (λH vs Q E h=>?_)
 .have%[b,st,i,ns,ss,rfl,hb,G,ac,kn|ky]:=h;refine%[rfl|λf as A outer s C=>?_];refine%[_,%["JCH3vCH4SA1BC=cwL:abA4BE$)23DH4F]jA0A4A3BCO)23DI|PDIF]kA3A1A2B",dj.nd|C]|?_]
  show be _ _ _ [!b,-st,-i,none,none] H;refine ap λD1 k1 _=>?_
  lk;intro d fd;refine k1 _ _ (ap λD2 k2 _=>?_);have ae:b≠d:=λc=>by
   have%[a0,N|_]:=hb;rw[c,fd]at N;cases N
  have s1:=ah.upd (o:= .dK []) fd;have B:upd H d (.dK []) d=some (.dK (gD ([]:Gs Str))):=aa
  generalize upd H d (.dK [])=H1 at s1 B
  lk;refine%[#[1]|λe fe=>k2 _ _ (ap λD3 k3 _=>?_)];have s2:=ah.upd (o:= .lst [V.str st]) fe;have O:upd H1 e (.lst [V.str st]) e=some (.lst ([st].map V.str)):=aa;have B:=s2 _ _ B;have U:=s1.trans s2
  generalize upd H1 e (.lst [V.str st])=H2 at U O B
  refine%[G6 H b d st i ss,%[_,e,[st],[],_,_,rfl,U,O,B,%[X6|λ_ h=>(nomatch h)],.nil,by simp,λ_=>Zi _|rfl]|?_];intro m σ H3 %[e,F,rs,dd,k,rfl,I,O,B,J,j,hk,ag|rfl];have fm:(F.map V.str).length=F.length:=Z6 _;have get:=cf.k (k:=Sum.inr i) B;have rl:=J.len;have L:i∈rs.map (·.1)↔(bJ (gD rs) (Sum.inr i)).isSome=true:=by
   refine%[λh=>?_|λh=>?_]
   .have%[r,_,_|e]:=mz h;rw[e];rfl
   .have%[v|hv]:=isSome_iff_exists.mp h;have%[q,hq,c|_]:=iO hv;exact c▸Xr %[q,hq|rfl]
  lk;have fin:(i∉rs.map (·.1)->F=[])->D3.nx [!b,-st,-i,!d,!e] H3:=λh=>by
   refine k3 _ _ (ap λD4 k4 r4=>?_);lk;refine%[_,get|bx (λq=>?_) λq=>?_]
   .have q:i∉rs.map (·.1):=λc=>by rw[L.mp c]at q;cases q
    refine r4 _ _ (kn H3 I λr=>q ?_);have%[n|hn]:=r.dst;rw[h q]at j;exact j.stop hn
   .have q:i∈rs.map (·.1):=L.mpr (rE q);refine k4 _ _ ?_;lk;refine%[d,st,i,ns,F,ss,rs,dd,k,rfl,B,J,j,⋯,G.up I,q|λl H' ws s' fl hl Y ai wl=>ky l H' ws (I.trans s') (I.free fl) hl Y %[λk hk=>?_,ai,?_|λn hn=>?_] (by rw[wl];have:=j.le _ q;lia)]
    .have%[t,ht|rfl]:=Xq hk;exact Xr %[t,Y t ht|rfl]
    .rw[Z6,wl];exact(j.dst q).1
    .rw[Z6,wl];exact j.min q hn
  refine%[_,.inl %[_,SqL.of O|rfl]|bx (λh=>?_) λh=>fin λ_=>?_]
  .have h:0<F.length:=by
    rw[fm]at h;have:=Zo h
    lia
   refine%[_,get|bx (λq=>⟨λaj H'=>∃m',m'<2*(98-rs.length) +F.length.min 1/\G6 H b d st i ss m' aj H',λ_ _ h=>h,b,e,d,ns,F,ss,rs,rfl,ae,hb.up I,G.up I,ac,O,B,J,λg H4 new sx fg hg al u an M=>?_⟩) λq=>fin λc=>absurd (L.mpr (rE q)) c];have ln:=u.len;rw[Z9]at ln;have ab:F.length.min 1=1:=Nat.min_eq_right h;have kF:=ag λc=>by rw[c]at h;cases h
   refine%[_,?_,g,new.map (·.1),rs++new,_,_,rfl,(λc o ec=>sx c o (λz=>by rw[z,fd]at ec;cases ec) (I _ _ ec)),hg,al,u,j.step u.nd (λr C=>?_) M,?_,λnn=>?_|rfl]
   .rw[ab,Z9,Z6];cases new with
    | nil=>simp
    | cons a r=>
      rw[Zr]at ln ⊢;have:(r.length+1).min 1<=1:=Nat.min_le_right _ _
      lia
   .have%[N|h2]:=u.sub r (Yv _ C);have%[p,hp|h3]:=an r C;have%[x,y,z,e|_]:=(G r.2 N).2;rw[e]at h2 h3;exact%[Xr %[_,N|rfl],p,z,hp|by rw[e,show x=p from Za h3,show y=r.1 from Za h2]]
   .rw[Z9];lia
   .cases new with
    | nil=>exact absurd rfl nn
    | cons a r=>rw[Z9,Zr];lia
  .cases F with
   | nil=>rfl
   | cons x F=>exact absurd (Zf (by rw[fm,Zr];lia)) h
noncomputable def VD(a:ZB)(g:Str->V):List (Key×V):=a.map λz=>(Sum.inr z,g z)
theorem gK:∀{a:ZB},z∈a->bJ (VD a g) (Sum.inr z)=some (g z)
 | x::a,h=>by
   by_cases e:x=z
   .subst e;exact fD rfl
   .rw[show VD _ g=(Sum.inr x,g x)::VD a g from rfl,dF (λq=>e (Sum.inr.inj q))];exact gK ((mem_cons.mp h).resolve_left λq=>e q.symm)
theorem eF:∀{a:ZB},z∉a->bJ (VD a g) (Sum.inr z)=none
 |[],_=>rfl
 | x::a,h=>by
   rw[Yw,not_or]at h;rw[show VD _ g=(Sum.inr x,g x)::VD a g from rfl,dF (λq=>h.1 (Sum.inr.inj q).symm)];exact eF h.2
theorem wG(h:z∈a):cW (VD a g) (Sum.inr z) v=VD a (λx=>if x=z then v else g x):=by
 unfold cW;rw[if_pos (by rw[i4,gK h];rfl)];unfold VD;rw[Ys];refine Yq λx _=>?_
 show(if(Sum.inr x)=Sum.inr z then((Sum.inr x),v)else(Sum.inr x,g x))=(Sum.inr x,if x=z then v else g x)
 by_cases e:x=z
 .rw[if_pos (congrArg _ e),if_pos e]
 .rw[if_neg (λq=>e (Sum.inr.inj q)),if_neg e]
noncomputable def cnt(ss:ZG)(L:ZB)(n:Str):Nat:=ss.countP λt=>decide (t.2[0]? =some n)&&t.2[1]?.all λy=>decide (y∉L)
theorem DH(ss:List _)(n:Str):cnt ss [] n=(ss.filter λt=>decide (t.2[0]? =some n)).length:=by
 unfold cnt;rw[<-List.countP_eq_length_filter]
 simp_all
theorem B0(h:cnt ss L m=0)(e:Ed (ss.map (·.2)) m y):y∈L:=by
 have%[z|a]:=e;have%[t,b|c]:=Xq a;have:=List.countP_eq_zero.mp h t b
 simp_all
theorem uY(b:m∉L):∀ss:ZG,cnt ss L n=cnt ss (L++[m]) n+(ss.filter λt=>decide (t.2[1]? =some m)).countP λt=>decide (t.2[0]? =some n)
 |[]=>rfl
 | t::ss=>by
   have c:=uY (n:=n) b ss;unfold cnt at c ⊢;rw[countP_cons,countP_cons,c];cases d:t.2[1]? with
   | none=>rw[Y4 ⋯];simp only[Option.all_none];lia
   | some y=>
     by_cases e:y=m
     .subst e;rw[Y6 (by rw[d];simp),countP_cons];by_cases a:t.2[0]? =some n
      .simp[a,b];lia
      .simp[a]
     .rw[Y4 (by rw[d];simpa using e)];by_cases a:t.2[0]? =some n
      .by_cases f:y∈L
       .simp[f]
       .simp[a,f,e];lia
      .simp[a]
structure G7 (ss:ZG) (ns L R:ZB):Prop where
 nd:(L++R).Nodup
 mem:∀x,x∈L++R↔x∈ns/\cnt ss L x=0
 ord:∀i x,L[i]? =some x->∀y,Ed (ss.map (·.2)) x y->y∈L.take i
def G8(f:Hp)(l m b a w e ld:Addr)(d:ZB)(ss:ZG)(k:Nat)(g:L2.St)(c:Hp):Prop:=∃h i j L R,g=[!l,!m,!b,!a,!w,h,!e,!ld,i,j]/\ah f c/\c w=some (.dK (VD d λn=> .int (cnt ss L n)))/\c e=some (.lst (R.map V.str))/\c ld=some (.lst (L.map V.str))/\G7 ss d L R/\k=d.length-L.length
inductive xC (vs:ZM) (H:Hp) (Q:VK) (E0:XK):Prop
 | mk (l) (m) (ns) (ss) (z0:vs=[.ref l,.ref m]) (z1:H l=some (.lst (ns.map V.str))) (z2:ns.Nodup) (z3:ns.length<=80) (z4:H m=some (.lst (ss.map λt=>V.ref t.1))) (z5:dO H ns ss) (z6:ss.length<=98) (z7:∀r H' (L:ZB),ah H H'->H' r=some (.lst (L.map V.str))->L.Nodup->(∀x∈L,x∈ns)->(∀i x,L[i]? =some x->∀y,Ed (ss.map (·.2)) x y->y∈L.take i)->(∀x∈ns,x∉L->∃y,Ed (ss.map (·.2)) x y/\y∈ns/\y∉L)->Q (.ref r) H'):xC vs H Q E0
theorem jq(T:Txt K mg):↥3 "laid_in_turn" ["names","found"] xC:=by
 refine T.aI.cal aZ (λH vs Q E h=>?_)
 .have%[l,m,d,ss,rfl,hl,nn,nl,hm,an,b3|kk]:=h;refine%[rfl|λf c4 A outer s hr=>?_];have nm:(d.map V.str).length=d.length:=Z6 _;refine%[_,%["JCH2F~iA1BCH3F]lA1BC%4devCTQ0K5DsabA~N~U2A5ASBBBN45C~F6edZ?1Q0W0?2,LoiN10E0CH7SBC=L:abA6BECH8~Y]mA6BCV]n]o6A8BCVlh7A8BDTQ~N~U3A8ASBBK9CsG~EiN4Y9_EN4Y9_DOLoiN4Y9_EDVlh6AY9_BPDI7",aZ.nd,(show bH (am dJ) ["names","found","beneath","above","waits","name","ready","laid","least","link"] _ ["name","waits"] [(1,4)]=true from by decide +kernel),(show(["name","waits"]:ZB).Nodup from by decide +kernel)|hr]|?_]
  show be _ _ _ [!l,!m,none,none,none,none,none,none,none,none] H;refine ap λD1 k1 _=>?_
  lk;refine%[m,d,ss,rfl,hm,an,b3|λb H1 s1 fb hb=>k1 _ _ (ap λD2 k2 _=>?_)];lk;refine%[m,d,ss,rfl,s1 _ _ hm,an.up s1,b3|λa H2 s2 fa ha=>k2 _ _ (ap λD3 k3 _=>?_)];have ae:=s1.trans s2;have hb:=hb.up s2;lk;intro w fw;refine k3 _ _ (ap λD4 k4 _=>az λa8 hK=>?_);have s3:=ah.upd (o:= .dK []) fw;have gw:upd H2 w (.dK []) w=some (.dK (VD (d.take 0) λn=> .int (cnt ss [] n))):=aa
  generalize upd H2 w (.dK [])=H3 at s3 gw
  have co:=ae.trans s3;lk;refine .inl %[%[_|SqL.of (co _ _ hl)]|hK _ _ ?_];have cp:b≠w:=λc=>by
   have%[ag,h1|_]:=hb;rw[c,fw]at h1;cases h1
  have cs:a≠w:=λc=>by
   have%[ag,h1|_]:=ha;rw[c,fw]at h1;cases h1
  have b4:∀xs,H2 w≠some (.lst xs):=λxs c=>by rw[fw]at c;cases c
  refine bh (xs:=d.map V.str) (λi O u=>(∃o5,O=[!l,!m,!b,!a,!w,o5,none,none,none,none])/\ah H2 u/\u w=some (.dK (VD (d.take i) λn=> .int (cnt ss [] n))))
   %[%[_|rfl],s3|gw] (λi O u _ h=>SqL.of (h.2.1 _ _ (ae _ _ hl))) ?_ ?_
  .intro i x O u U %[%[o5|rfl],sm|hw];rw[Zl]at U;have%[n,hn|rfl]:=map_eq_some_iff.mp U;have i1:i<d.length:=(Xn hn).1;show mI _ _ _ _ [!l,!m,!b,!a,!w,-n,none,none,none,none] u;refine aD λD5 k5 _=>?_
   lk;refine%[.inr (.inr (.inl (.inl %[_|sm _ _ hb.choose_spec.1]))),#[0]|λp hp=>?_];have%[ag,al,ct,as,Y|b5]:=hb.get (dz.of sm) cp b4 hp n;have sp:=ah.upd (o:= .lst []) hp;refine%[Sum.inr n,rfl,ag,ct,_,by rw[as];exact .inl %[_,SqL.of Y|rfl],_,iU.k (k:=Sum.inr n) (sp _ _ hw) (by unfold VD;rw[Z6,Ym];exact aC ⋯)|k5 _ _ %[%[_|rfl],ah.set (sm.trans sp) fw|?_]];have zn:n∉d.take i:=λhm=>by
    have h:=nn;rw[<-Xc i d,X3]at h;exact h.2.2 n hm n (Z8 (i:=0) (by rw[Yb];exact hn)) rfl
   rw[aa,eG _ (eF zn),Z6,<-DH,Xb,hn];unfold VD;rw[Zd];rfl
  .intro O u %[%[o5|rfl],sm|hw];rw[nm,Zn (Zi _)]at hw;refine k4 _ _ (ap λD5 k5 _=>aE λa8 hK=>?_);lk;have a0:=sm _ _ (ae _ _ hl);refine .inl %[%[_|SqL.of a0]|hK _ _ λM ai=>?_];refine bi (J:=Itl K l) (n:=d.length) (D:=M) (λj vs O H3=>(∃o1,O=[o1,!w])/\ah u H3/\H3 M=some (.lst vs)/\vs=((d.take j).filter λn=>decide (cnt ss [] n=0)).map V.str)
    %[%[none|rfl],ah.upd ai,aa|rfl] (λj _ _ H3 hj bb=>%[_,V.str d[j],SqL.of (bb.2.1 _ _ a0)|by simp[hj]]) (λ_ _ H3 bb=>%[_,SqL.of (bb.2.1 _ _ a0)|by simp]) ?_ ?_
   .intro j vs O H3 hj %[%[o1|rfl],C,b6|hv] x H4 %[e2|U];subst e2;have b7:=U _ (SqL.of (C _ _ a0));rw[Zl,Z4 hj]at b7;obtain rfl:x=V.str d[j]:=(Za b7).symm;have get:=cf.k (k:=Sum.inr d[j]) (C _ _ hw);rw[gK (Ye hj)]at get;lk;refine%[_,get,rfl|bx (λh=>?_) λh=>?_]
    .have h:cnt ss [] d[j]=0:=by simpa using h
     refine CK.mk hj b6 (by rw[hv,Z6];have:=Yj (λn=>decide (cnt ss [] n=0)) (d.take j);rw[Ym]at this;exact aC ⋯) %[%[_|rfl],ah.set C ai,aa|?_];rw[hv,Xb,Z4 hj,Y3,Zd];show _=_++(List.filter _ [d[j]]).map V.str;rw[Y6 (by simpa using h)];rfl
    .have h:cnt ss [] d[j]≠0:=by simpa using h
     refine CN.mk hj %[%[_|rfl],C,b6|?_];rw[hv,Xb,Z4 hj,Y3,Zd];show _=_++(List.filter _ [d[j]]).map V.str;rw[Y4 (by simpa using h)];simp
   intro vs O H3 %[_,C,a1|hv];rw[Zn (Zi _)]at hv;rw[hv]at a1;refine k5 _ _ (ap λD6 k6 _=>?_);have ab:=C _ _ hw;have bc:=sm.trans C;have bf:w≠M:=λc=>by rw[<-c,hw]at ai;cases ai
   have bl:=sm.free ai;lk;refine%[#[0]|λld fld=>k6 _ _ (ap λD7 k7 _=>?_)];have s4:=ah.upd (o:= .lst []) fld;have bm:upd H3 ld (.lst []) ld=some (.lst (([]:ZB).map V.str)):=aa;have b9:w≠ld:=λc=>by rw[<-c,ab]at fld;cases fld
   have bn:M≠ld:=λc=>by rw[<-c,a1]at fld;cases fld
   have bp:=s4 _ _ ab;have bt:=s4 _ _ a1;have bU:=bc.trans s4;have fld:=bc.free fld
   generalize upd H3 ld (.lst [])=H4 at s4 bm bp bt bU
   refine%[G8 H2 l m b a w M ld d ss,%[_,o5,none,none,[],_,rfl,bU,bp,bt,bm,%[nn.filter _,λx=>by simp|λi x e=>by simp at e]|rfl]|?_];clear bU bp bt bm a1 ab hw hv C bc sm;intro k O H5 %[o5,o8,o9,L,R,rfl,sm,hw,hR,hL,B|rfl];have Rm:(R.map V.str).length=R.length:=Z6 _;have c5:L.length+R.length<=d.length:=by
    rw[<-Z9];exact STab.nodup_sub B.nd λx U=>((B.mem x).mp U).1
   lk;refine%[R.length,.inl %[_,SqL.of hR|Rm.symm]|bx (λh=>?_) λh=>?_]
   .have h:0<R.length:=by have:=Zo h;lia
    refine⟨λcx u=>∃m',m'<d.length-L.length/\G8 H2 l m b a w M ld d ss m' cx u,λ_ _ h=>h,R,SqL.of hR,h,λx U _=>%[.inl %[_|SqL.of hR],R,hR,U|λR1 pm=>?_]⟩;have u1:=ah.set (o:= .lst (R1.map V.str)) sm bl;have b0:upd H5 M (.lst (R1.map V.str)) M=_:=aa;have b1:upd H5 M (.lst (R1.map V.str)) w=_:=(ao bf).trans hw;have a2:upd H5 M (.lst (R1.map V.str)) ld=_:=(ao bn.symm).trans hL
    generalize upd H5 M (.lst (R1.map V.str))=H6 at u1 b0 b1 a2 ⊢
    refine%[.inl %[_|SqL.of a2],_,a2,by rw[Z6];exact aC ⋯|aD λc7 cy _=>az λa8 hK=>?_];have u2:=ah.set (o:= .lst (L.map V.str++[.str x])) u1 fld;have a3:upd H6 ld (.lst (L.map V.str++[.str x])) ld=some (.lst ((L++[x]).map V.str)):=by rw[aa,Zd];rfl
    have a4:upd H6 ld (.lst (L.map V.str++[.str x])) w=_:=(ao b9).trans b1;have a5:upd H6 ld (.lst (L.map V.str++[.str x])) M=_:=(ao bn).trans b0
    generalize upd H6 ld (.lst (L.map V.str++[.str x]))=H7 at u2 a3 a4 a5 ⊢
    lk;refine%[.inr (.inr (.inl (.inl %[_|u2 _ _ ha.choose_spec.1]))),#[0]|λp hp=>?_];have%[ag,al,as,cM,Y|b5]:=ha.get (dz.of u2) cs b4 hp x;have b2:∀{c:Addr} {o:HO},H7 c=some o->H2 c=none->al≠c:=λ{c o} h1 h2=>by
     rcases b5 with rfl|⟨o',ho⟩
     .exact λz=>by rw[z,h1]at hp;cases hp
     .exact λz=>by rw[z,h2]at ho;cases ho
    have c0:=b2 a4 fw;have c1:=b2 a5 bl;have all:=b2 a3 fld;have sp:=ah.upd (o:= .lst []) hp;have ab:=sp _ _ a4;have ca:=sp _ _ a5;have cb:=sp _ _ a3;have u3:=u2.trans sp
    generalize upd H7 p (.lst [])=H8 at as Y ab ca cb u3 ⊢
    clear u1 u2 a4 a5 a3 b1 b0 a2 hp sp
    generalize cd:(ss.filter λt=>decide (t.2[1]? =some x))=ts at Y
    have tm:(ts.map λt=>V.ref t.1).length=ts.length:=Z6 _;have xL:x∉L:=λc=>(nodup_append.mp B.nd).2.2 x c x U rfl
    have pr:(L++[x] ++R1).Perm (L++R):=by
     rw[Ze];exact pm.append_left L
    have f0:∀n,cnt ss L n=cnt ss (L++[x]) n+(ts.drop 0).countP λt=>decide (t.2[0]? =some n):=λn=>by rw[drop_zero,<-cd];exact uY xL ss
    have c2:∀t∈ts,∃n z,t.2=[n,x,z]/\n∈d/\H t.1=some (.tup ([n,x,z].map V.str)):=λt ht=>by
     rw[<-cd]at ht;have%[h1|h2]:=List.mem_filter.mp ht;have%[h3,n,y,z,e,hn|_]:=an t h1;have h2:=Zo h2;rw[e]at h2 h3;obtain rfl:y=x:=Za h2;exact%[n,z,e,hn|h3]
    refine%[Sum.inr x,rfl,ag,as|.inl %[al,cM,%[_|SqL.of Y]|hK _ _ ?_]];refine bh (xs:=ts.map λt=>V.ref t.1) (λj O u=>(∃o9,O=[!l,!m,!b,!a,!w,o5,!M,!ld,-x,o9])/\ah H2 u/\u al=some (.lst (ts.map λt=>V.ref t.1))/\u w=some (.dK (VD d λn=> .int ((cnt ss (L++[x]) n+(ts.drop j).countP λt=>decide (t.2[0]? =some n):Nat):Int)))/\u ld=some (.lst ((L++[x]).map V.str))/\∃Rj:ZB,u M=some (.lst (Rj.map V.str))/\(L++[x] ++Rj).Nodup/\∀y,y∈L++[x] ++Rj↔y∈d/\cnt ss (L++[x]) y+((ts.drop j).countP λt=>decide (t.2[0]? =some y))=0)
     %[%[_|rfl],u3,Y,by rw[ab];exact congrArg (λg=>some (HO.dK (VD d g))) (funext λn=>by rw[f0 n]),cb,R1,ca,pr.nodup_iff.mpr B.nd|λy=>by rw[<-f0,pr.mem_iff];exact B.mem y] (λj O u _ h=>SqL.of h.2.2.1) ?_ ?_
    .intro j v O u hv %[%[o9|rfl],a6,G,N,ac,Rj,I,rn|rz];rw[Zl]at hv;have%[t,ht|rfl]:=map_eq_some_iff.mp hv;have jl:=(Xn ht).1;have%[n,z,et,hn|r]:=c2 t (Z8 ht);have r:=a6 _ _ (ae _ _ r);have dr:ts.drop j=t::ts.drop (j+1):=by rw[List.drop_eq_getElem_cons jl,(Xn ht).2]
     rw[dr]at N rz;have get:=cf.k (k:=Sum.inr n) N;rw[gK hn]at get;have da:=(nodup_append.mp rn)
     have rl:Rj.length<=d.length:=by
      have:=STab.nodup_sub rn λy hy=>((rz y).mp hy).1
      rw[Z9]at this
      lia
     show be _ _ _ [!l,!m,!b,!a,!w,o5,!M,!ld,-x,some (.ref t.1)] u;refine ap λdc c3 _=>?_
     lk;have one:∀y,(t::ts.drop (j+1)).countP (λt=>decide (t.2[0]? =some y))=((ts.drop (j+1)).countP λt=>decide (t.2[0]? =some y)) +if y=n then 1 else 0:=λy=>by
      rw[countP_cons,et];by_cases c:y=n
      .rw[if_pos c,if_pos (by rw[c];simp)]
      .rw[if_neg c,if_neg (by simpa using λq=>c q.symm)]
     refine%[_,SqT.of r,_,rfl,_,get,_,rfl,_,SqT.of r,_,rfl,_,iU.k (k:=Sum.inr n) N (by unfold VD;rw[Z6];exact aC ⋯)|c3 _ _ (aD λdd ch _=>?_)];rw[wG hn];have e1:(λy=>if y=n then V.int (((cnt ss (L++[x]) n+(t::ts.drop (j+1)).countP λt=>decide (t.2[0]? =some n):Nat):Int) -1)else V.int ((cnt ss (L++[x]) y+(t::ts.drop (j+1)).countP λt=>decide (t.2[0]? =some y):Nat):Int))=λy=>V.int ((cnt ss (L++[x]) y+(ts.drop (j+1)).countP λt=>decide (t.2[0]? =some y):Nat):Int):=funext λy=>by
      rw[one,one];by_cases c:y=n
      .rw[if_pos c,c,if_pos rfl]
       congr 1
       lia
      .rw[if_neg c,if_neg c];rfl
     rw[e1];have v1:=ah.set (o:= .dK (VD d λy=>V.int ((cnt ss (L++[x]) y+(ts.drop (j+1)).countP λt=>decide (t.2[0]? =some y):Nat):Int))) a6 fw;have a7:upd u w (.dK (VD d λy=>V.int ((cnt ss (L++[x]) y+(ts.drop (j+1)).countP λt=>decide (t.2[0]? =some y):Nat):Int))) w=_:=aa;have aj:∀c o,c≠w->u c=some o->upd u w (.dK (VD d λy=>V.int ((cnt ss (L++[x]) y+(ts.drop (j+1)).countP λt=>decide (t.2[0]? =some y):Nat):Int))) c=some o:=λc o h e=>(ao h)▸e
     generalize upd u w (.dK (VD d λy=>V.int ((cnt ss (L++[x]) y+(ts.drop (j+1)).countP λt=>decide (t.2[0]? =some y):Nat):Int)))=H9 at v1 a7 aj
     have r:=aj _ _ (λc=>by rw[c,N]at r;cases r) r;have G:=aj _ _ c0 G;have ac:=aj _ _ b9.symm ac;have I:=aj _ _ bf.symm I;have get:=cf.k (k:=Sum.inr n) a7;rw[gK hn]at get;have cl:n∉L++[x] ++Rj:=λc=>by
      have:=((rz n).mp c).2;rw[one,if_pos rfl]at this
      lia
     have a9:∀y,y≠n->(y∈L++[x] ++Rj↔y∈d/\cnt ss (L++[x]) y+((ts.drop (j+1)).countP λt=>decide (t.2[0]? =some y))=0):=λy c=>by
      rw[rz y,one,if_neg c];rfl
     lk;refine%[_,SqT.of r,_,rfl,_,get,rfl|bx (λh=>?_) λh=>?_]
     .have h:cnt ss (L++[x]) n+((ts.drop (j+1)).countP λt=>decide (t.2[0]? =some n))=0:=by
       have:=V.int.inj (Zo h)
       lia
      have tr:t.1≠M:=λc=>by rw[c,I]at r;cases r
      refine%[.inl %[_|SqL.of I],_,SqT.of r,_,rfl,_,I,by rw[Z6];exact aC ⋯|ch _ _ %[%[_|rfl],ah.set v1 bl,(ao c1).trans G,(ao bf).trans a7,(ao bn.symm).trans ac,Rj++[n],by rw[aa,Zd];rfl,?_|λy=>?_]]
      .rw[<-Ze,X3];exact%[rn,by simp|λa ha b hb c=>cl (by rw[<-Xp hb,<-c];exact ha)]
      .rw[<-Ze,Yt,Yz];by_cases c:y=n
       .rw[c];exact%[λ_=>%[hn|h]|λ_=> .inr rfl]
       .rw[<-a9 y c];exact%[λq=>q.resolve_right c|.inl]
     .refine ch _ _ %[%[_|rfl],v1,G,a7,ac,Rj,I,rn|λy=>?_];by_cases c:y=n
      .rw[c];exact%[λq=>absurd q cl|λq=>absurd (Zf (congrArg (λi:Nat=>V.int i) q.2)) h]
      .exact a9 y c
    .intro O u %[%[o9|rfl],a6,G,N,ac,Rj,I,rn|rz];rw[tm,List.drop_length]at N rz;refine cy _ _ %[_,?_,o5,_,o9,L++[x],Rj,rfl,a6,N,I,ac,%[rn,rz|λi y hi y' e=>?_]|rfl]
     .rw[Z9,Yl]
      lia
     .by_cases il:i<L.length
      .rw[Y9 il]at hi;rw[Xd (Yf il)];exact B.ord i y hi y' e
      .have ie:i=L.length:=by
        have:=(Xn hi).1;rw[Z9,Yl]at this
        lia
       subst ie;rw[Ya (Zi _),sub_self,List.getElem?_cons_zero]at hi;obtain rfl:=Za hi;rw[Xd (Zi _),List.take_length];exact B0 ((B.mem x).mp (Yv _ U)).2 e
   .refine k7 _ _ ?_;lk;have R0:R=[]:=by
     cases R with
     | nil=>rfl
     | cons x R=>exact absurd (Zf (by rw[Zr];lia)) h
    subst R0;have mem:=B.mem;have nd:=B.nd;rw[Zz]at mem nd;refine kk ld H5 L (ae.trans sm) hL nd (λx U=>((mem x).mp U).1) B.ord λx U nx=>?_
    have:cnt ss L x≠0:=λc=>nx ((mem x).mpr %[U|c])
    have%[t,ht|q]:=List.countP_pos_iff.mp (Nat.pos_of_ne_zero this);have%[a,b,z,e,_|hb]:=(an t ht).2;rw[e]at q;simp only[Zx]at q;exact%[b,%[z|by rw[<-(Za (Zo q.1)),<-e];exact Xr %[t,ht|rfl]],hb|Zo q.2]
inductive uZ (vs:ZM) (H:Hp) (Q:VK) (E0:XK):Prop
 | mk (l) (m) (ns) (ss) (z0:vs=[.ref l,.ref m]) (z1:H l=some (.lst (ns.map V.str))) (z2:ns.Nodup) (z3:ns.length<=80) (z4:H m=some (.lst (ss.map λt=>V.ref t.1))) (z5:dO H ns ss) (z6:ss.length<=98) (z7:∀r H' (us:ZB),ah H H'->H' r=some (.lst (us.map V.str))->(∀x∈ns,Rch (ss.map (·.2)) x x->x∈us)->Q (.ref r) H'):uZ vs H Q E0
structure pG (H:Hp) (ks:List ZB) (ss:ZG) (r:Addr) (ws:ZG) (x:Str):Prop where
 at_:H r=some (.lst (ws.map λt=>V.ref t.1))
 sub:∀t∈ws,t∈ss
 sho:Sho ks x x (ws.map (·.2))
 len:ws.length<=100
theorem pG.up(h:pG H ks ss r ws x)(s:ah H a):pG a ks ss r ws x:=%[s _ _ h.at_,h.sub,h.sho|h.len]
inductive u4 (vs:ZM) (H:Hp) (Q:VK) (E0:XK):Prop
 | mk (l) (m) (ns) (ss) (z0:vs=[.ref l,.ref m]) (z1:H l=some (.lst (ns.map V.str))) (z2:ns.Nodup) (z3:ns.length<=80) (z4:H m=some (.lst (ss.map λt=>V.ref t.1))) (z5:dO H ns ss) (z6:ss.length<=98) (z7:(∀H',ah H H'->(∀x,¬ Rch (ss.map (·.2)) x x)->Q .non H')) (z8:∀r H' ws x,ah H H'->pG H' (ss.map (·.2)) ss r ws x->(∀y n,Dst (ss.map (·.2)) y (n+1) y->ws.length<=n+1)->Q (.ref r) H'):u4 vs H Q E0
theorem tF(T:Txt K mg):↥4 "never_laid" ["names","found"] uZ:=by
 refine T.aU.cal qb (λH vs Q E h=>?_)
 .have%[l,m,a,ss,rfl,n,G,nl,I,g,i|J]:=h;refine%[rfl|λf B A outer s C=>?_];refine%[_,%["JDI~B]pAG]q~I~dA0B~I~dAF~)A0A1BBB",0|C]|?_];show kg _ _ [!l,!m] H;lk;refine%[a,SqL.of n,⋯|λp M=>?_];have b:=ah.upd (o:=jU w p (aL a)) M;have t:upd H p (jU w p (aL a)) p=_:=aa
  generalize upd H p (jU w p (aL a))=H1 at b t ⊢
  refine%[l,m,a,ss,rfl,b _ _ n,G,nl,b _ _ I,g.up b,i|λr H2 L y N O U j _=>?_];have Ll:=STab.nodup_sub O U;refine%[r,rfl,L,SqL.of N,⋯|λq Y=>?_];have z:=ah.upd (o:=jU w q (aL L)) Y;have fl:=STab.nodup_sub (fF a) λx d=>bA.mp d
  refine%[_,(z _ _ (y _ _ t)),_,aa,⋯|λu ms fu e mn=>%[ms,aa,?_|λv us fv pu _=>?_]]
  .have:=STab.nodup_sub mn λx d=>bA.mp ((e x).mp d).1
   lia
  .refine J v _ us (b.trans (y.trans (z.trans ((ah.upd fu).trans (ah.upd fv))))) aa λx d rx=>?_
   rw[pu.mem_iff,e];exact%[bA.mpr d|λc=>Du j (bA.mp c) rx]
theorem u5{d:ZB}{ss:ZG}(h:∀t∈ss,dS d t.2){x y:Str}(r:Rch (ss.map (·.2)) x y):x∈d:=by
 induction r with
 | one e=>
   have%[z|g]:=e;have%[t,i|f]:=Xq g;have%[a,b,c,e,j|_]:=h t i;rw[e]at f;exact((List.cons.inj f).1)▸j
 | more _ _ l=>exact l
theorem iT(T:Txt K mg):↥5 "shortest_ring" ["names","found"] u4:=by
 refine T.aT.cal bP (λH vs Q E h=>?_)
 .have%[l,m,O,ss,rfl,hl,nn,nl,hm,c,u,kn|ky]:=h;refine%[rfl|λf ae A outer s hr=>?_];refine%[_,%["JCH2F~iA1BCH3|CTQF]rA0A1BK4CH5F]sA2A4A4BDOcwL~V5|$czL]t3|!L}abA5BabA3BDH35PDI3",bP.nd|hr]|?_]
  show be _ _ _ [!l,!m,none,none,none,none] H;refine ap λD1 k1 _=>?_
  lk;refine%[m,O,ss,rfl,hm,c,u|λb H1 U fb hb=>k1 _ _ (ap λD2 k2 _=>?_)];lk;refine k2 _ _ (ap λD3 k3 _=>az λac hK=>?_);lk;refine%[l,m,O,ss,rfl,U _ _ hl,nn,nl,U _ _ hm,c.up U,u|λr H2 us s2 I J=> .inl %[r,rfl,%[_|SqL.of I]|hK _ _ ?_]];have z:=U.trans s2;refine bh (xs:=us.map V.str) (λi Y g=>(∃v o4 o5,Y=[!l,!m,!b,some v,o4,o5]/\((v= .non/\∀x∈us.take i,¬ Rch (ss.map (·.2)) x x)\/∃q ws x,v= .ref q/\pG g (ss.map (·.2)) ss q ws x/\∀y∈us.take i,∀n,Dst (ss.map (·.2)) y (n+1) y->ws.length<=n+1))/\ah H2 g)
   %[%[_,_,_,rfl|.inl %[rfl|λx B=>(nomatch B)]]|λ_ _ e=>e] (λi Y g _ h=>SqL.of (h.2 _ _ I)) ?_ ?_
  .intro i x Y g B %[%[v,o4,o5,rfl|L]|j];rw[Zl]at B;have%[n,hn|rfl]:=map_eq_some_iff.mp B;have tk:us.take (i+1)=us.take i++[n]:=by rw[Xb,hn];rfl
   show be _ _ _ [!l,!m,!b,some v,-n,o5] g;refine ap λD4 k4 _=>?_
   lk;refine%[b,n,n,O,ss,rfl,hb.up (s2.trans j),c.up (z.trans j),u,λH3 C nr=>k4 _ _ (aD λD5 k5 _=>?_)|λq H3 ws C _ G sub rr rl=>k4 _ _ (aD λD5 k5 _=>?_)]
   .lk;rw[if_neg ∅];refine k5 _ _ %[%[v,_,_,rfl|L.imp (λh=>%[h.1|λx B=>?_]) λ⟨q,ws,x,e,G,o⟩=>%[q,ws,x,e,G.up C|λy a m d=>?_]]|j.trans C]
    .rw[tk]at B;rcases Xo B with h'|h'
     .exact h.2 x h'
     .rw[Xp h'];exact nr
    .rw[tk]at a;rcases Xo a with h'|h'
     .exact o y h' m d
     .rw[Xp h']at d;exact(nr d.rch).elim
   .lk;rw[if_pos ∅];have wl:∀zs:ZG,(zs.map λt=>V.ref t.1).length=zs.length:=λzs=>Z6 _
    have p:=λm d=>by
     have:=rr.min m d;rwa[Z6]at this
    have put:(∀y∈us.take i,∀m,Dst (ss.map (·.2)) y (m+1) y->ws.length<=m+1)->D5.nx [!l,!m,!b,!q,-n,!q] H3:=λo=>k5 _ _ ⟨%[_,_,_,rfl|.inr ⟨q,ws,n,rfl,%[G,sub,rr|rl],λy a m d=>by
     rw[tk]at a;rcases Xo a with h'|h'
     .exact o y h' m d
     .rw[Xp h']at d;exact p m d⟩],j.trans C⟩
    rcases L with⟨rfl,ab⟩|⟨q',M,x',rfl,N,o⟩
    .rw[if_pos ∅];exact put λy a m d=>(ab y a d.rch).elim
    .rw[if_neg ∅];refine%[_,.inl %[_,SqL.of G|(wl ws).symm],_,.inl %[_,SqL.of (C _ _ N.at_)|(wl M).symm]|bx (λlt=>put λy a m d=>?_) λlt=>k5 _ _ %[%[_,_,_,rfl|.inr %[q',M,x',rfl,N.up C|λy a m d=>?_]]|j.trans C]]
     .have:=o y a m d;have:=Zo lt
      lia
     .rw[tk]at a;rcases Xo a with h'|h'
      .exact o y h' m d
      .rw[Xp h']at d;have:=p m d
       lia
  .intro Y g %[%[v,o4,o5,rfl|L]|j];rw[(Z6 _),Zn (Zi _)]at L;refine k3 _ _ ?_;lk;rcases L with⟨rfl,h⟩|⟨q,ws,x,rfl,G,o⟩
   .exact kn g (z.trans j) λx rx=>h x (J x (u5 (λt ht=>(c t ht).2) rx) rx) rx
   .exact ky q g ws x (z.trans j) G λy n d=>o y (J y (u5 (λt ht=>(c t ht).2) d.rch) d.rch) n d
theorem pH{S:Str->Str->Prop}(h:dw S z m)(c:eJ S z x):dw S x m:=%[c.symm.trans h.1|λy d=>h.2 y (c.trans d)]
theorem mV(h:dt H c qs)(a b:Str)(s:bw qs a b):a∈c/\b∈c:=by
 have%[q,d|e]:=s;rcases(h q d).2 with⟨wd,x,y,f,_,g,i,_⟩|⟨wd,x,y,f,_⟩
 .lia
 grind
structure iX (mg:ZC) (H:Hp) (g:Addr) (qs:ZN) (ls:ZB) (ts:ZG):Prop where
 gr:∃c2 c3 c4,GrF mg H g c2 c3 c4 qs ls ts
 nd:ls.Nodup
 so:ls.Pairwise (λa b=>aV b a=false)
 ll:ls.length<=80
 tl:ts.length<=98
 t3:∀k∈ts.map (·.2),dS ls k
 sm:∀k∈ts.map (·.2),∀z∈k,Sml z
 lm:∀z∈ls,Sml z
theorem iX.up(h:iX mg H g qs a ts)(s:ah H b):iX mg b g qs a ts:=by
 have%[c,d,e|f]:=h.gr;exact%[%[c,d,e|f.up s],h.nd,h.so,h.ll,h.tl,h.t3,h.sm|h.lm]
theorem iX.ends(h:iX mg H g qs f ts)(i:bM (bw qs) (ts.map (·.2)) lk)(j:k∈lk):∃a b z,k=[a,b,z]/\(a∈f/\dw (bw qs) a a)/\b∈f/\dw (bw qs) b b:=by
 have%[r,s,t|l]:=h.gr;have%[a,b,z,m,n,o,c,d|rfl]:=(i.mem k).mp j;have%[x,y,u,e,p|q]:=h.t3 _ o;simp only[List.cons.injEq,and_true]at e;have%[rfl,rfl|rfl]:=e;have ws:=mV l.sa;exact%[m,n,z,rfl,%[c.1.within ws p|pH c c.1],d.1.within ws q|pH d d.1]
theorem iX.short(h:iX mg H g qs o ts)(d:bM (bw qs) (ts.map (·.2)) lk)(f:k∈lk):k.length<=3/\∀z∈k,Sml z:=by
 have%[p,q,r|i]:=h.gr;have%[a,b,z,s,t,c,j,l|rfl]:=(d.mem k).mp f;have%[x,y,u,e,m|n]:=h.t3 _ c;simp only[List.cons.injEq,and_true]at e;have%[rfl,rfl|rfl]:=e;have ws:=mV i.sa;exact%[Zi _|F0 (h.lm _ (j.1.within ws m)) (h.lm _ (l.1.within ws n)) (h.sm _ c z ∅)]
theorem iX.names(h:iX mg H g qs d ts)(f:bM (bw qs) (ts.map (·.2)) lk)(c:jp (bw qs) d i):∀k∈lk,dS i k:=λk j=>by
 have%[a,b,z,e,l|m]:=h.ends f j;exact%[a,b,z,e,(c.mem a).mpr l|(c.mem b).mpr m]
theorem iX.ties(h:iX mg H g qs c ts)(d:bM (bw qs) (ts.map (·.2)) lk):∀k∈lk,dS c k:=λk f=>by
 have%[a,b,z,e,i|j]:=h.ends d f;exact%[a,b,z,e,i.1|j.1]
theorem pI(a:ba H ss)(h:∀k∈ss.map (·.2),dS b k):dO H b ss:=λt q=>%[(a t q).2|h _ (Xr %[t,q|rfl])]
inductive xD (mg:ZC) (vs:ZM) (H:Hp) (Q:VK) (E0:XK):Prop
 | mk (g) (qs) (ls) (ts) (z0:vs=[.ref g]) (z1:iX mg H g qs ls ts) (z2:∀H' lk,ah H H'->bM (bw qs) (ts.map (·.2)) lk->((∀x,¬ Rch lk x x)->Q .non H')/\∀r x,Rch lk x x->Q (.ref r) H'):xD mg vs H Q E0
inductive rF (mg:ZC) (vs:ZM) (H:Hp) (Q:VK) (E0:XK):Prop
 | mk (g) (qs) (ls) (ts) (z0:vs=[.ref g]) (z1:iX mg H g qs ls ts) (z2:(∀lk,bM (bw qs) (ts.map (·.2)) lk->∀x,¬ Rch lk x x)) (z3:∀l H' ns ss,ah H H'->H' l=some (.lst (ss.map λt=>V.ref t.1))->dO H' ns ss->ss.length<=98->bM (bw qs) (ts.map (·.2)) (ss.map (·.2))->Q (.ref l) H'):rF mg vs H Q E0
theorem Ga(T:Txt K mg):↥6 "ring" ["ground"] (xD mg):=by
 refine T.aS.cal Dw (λH vs Q E h=>?_)
 .have%[g,qs,e,ts,rfl,a|n]:=h;refine%[rfl|λf y A outer s d=>?_];have%[o,p,q|t]:=a.gr;have N:=a.ll;refine%[_,%["JDIF~*AF~OA0BAF~jA0BB",0|d],g,o,p,q,qs,e,ts,rfl,t,a.nd,a.so,⋯|λl O z u U B c=>%[g,o,p,q,qs,e,ts,rfl,t.up u,a.nd,a.so,⋯,a.tl,a.t3|λm Y ss v fm C G lk I=>?_]];have b:=u.trans v;refine%[l,m,z,ss,rfl,v _ _ B,c.nd,?_,C,pI G (a.names lk c),I,λi j J=>(n i _ (b.trans j) lk).1 J|λr i ws x j L _=>(n i _ (b.trans j) lk).2 r x L.sho.rch];have:=STab.nodup_sub c.nd λx M=>((c.mem x).mp M).1
  lia
theorem pJ(T:Txt K mg):↥6 "untorn_links" ["ground"] (rF mg):=by
 refine T.aV.cal eQ (λH vs Q E h=>?_)
 .have%[g,qs,e,ts,rfl,a,G|I]:=h;refine%[rfl|λf C A outer s d=>?_];have%[j,n,o|p]:=a.gr;have U:=a.ll;refine%[_,%["JCH1F~jA0BCH2F~*AF~OA0BA1BCOL~V2|D/PDI1",eQ.nd|d]|?_]
  show be _ _ _ [!g,none,none] H;refine ap λY k1 _=>?_
  lk;refine%[g,j,n,o,qs,e,ts,rfl,p,a.nd,a.so,⋯,a.tl,a.t3|λm H1 ss q fm t J lk u=>k1 _ _ (ap λD2 k2 _=>?_)];lk;refine%[g,j,n,o,qs,e,ts,rfl,p.up q,a.nd,a.so,⋯|λl H2 v i fl L c=>?_];have y:=pI J (a.names lk c);refine%[l,m,v,ss,rfl,L,c.nd,?_,i _ _ t,y.up i,u,λz B _=>k2 _ _ (ap λD3 M _=>?_)|λr z ws x B N _=>(G _ lk x N.sho.rch).elim]
  .have:=STab.nodup_sub c.nd λx O=>((c.mem x).mp O).1
   lia
  .lk;refine M _ _ ?_;have b:=i.trans B;exact I m z v ss (q.trans b) (b _ _ t) (y.up b) u lk
noncomputable def SD(M:ZB):List (Key×V):=VD M λ_=> .bl true
theorem B1:∃M2,cW (SD M) (Sum.inr x) (.bl true)=SD M2/\(M.Nodup->M2.Nodup)/\∀y,y∈M2↔y∈M\/y=x:=by
 by_cases c:x∈M
 .refine%[M,?_,λh=>h|λy=>%[.inl|λh=>h.elim (λh=>h) λe=>e▸c]];unfold SD;rw[wG c]
  simp_all
 .refine%[M++[x],?_,λh=>nodup_append.mpr %[h,by simp|λa d b f e=>c (by rw[<-Xp f,<-e];exact d)]|λy=>by simp];unfold SD;rw[eG _ (eF c)];unfold VD;rw[Zd];rfl
theorem u8:∀{R M:ZB},∃M2,lI (SD M) (SD R)=SD M2/\(M.Nodup->M2.Nodup)/\∀y,y∈M2↔y∈M\/y∈R
 |[],M=>%[M,rfl,λh=>h|λy=>by simp]
 | x::R,M=>by
   have%[M1,a,n1|b]:=B1;have%[M2,c,d|m2]:=u8 (R:=R);refine%[M2,?_,λh=>d (n1 h)|λy=>by rw[m2,b,Yw,or_assoc]];show lI (cW _ (Sum.inr x) (.bl true)) (SD R)=_;rw[a,c]
theorem zF(r:Rch ks a c):∃y,Ed ks a y/\(y=c\/Rch ks y c):=by
 induction r with
 | one e=>exact%[_,e|.inl rfl]
 | more _ e b=>
   have%[y,h|q]:=b;exact%[y,h|.inr (q.elim (λq=>q▸ .one e) λq=> .more q e)]
theorem Gb{b:ZB}{ss:ZG}(h:∀t∈ss,dS b t.2){x y:Str}(r:Rch (ss.map (·.2)) x y):y∈b:=by
 have:∃a,Ed (ss.map (·.2)) a y:=by
  cases r with
  | one e=>exact%[_|e]
  | more _ e=>exact%[_|e]
 have%[a,z|d]:=this;have%[t,f|c]:=Xq d;have%[u,v,w,e,_|g]:=h t f;rw[e]at c;exact((List.cons.inj (List.cons.inj c).2).1)▸g
structure Rea (H:Hp) (ks:List ZB) (rs:Gs Str):Prop where
 nd:(rs.map (·.1)).Nodup
 ad:(rs.map (·.2.1)).Nodup
 at_:∀r∈rs,H r.2.1=some (.dK (SD r.2.2))/\r.2.2.Nodup/\∀y,y∈r.2.2↔Rch ks r.1 y
inductive xE (vs:ZM) (H:Hp) (Q:VK) (E0:XK):Prop
 | mk (l) (m) (ns) (ss) (z0:vs=[.ref l,.ref m]) (z1:H l=some (.lst (ns.map V.str))) (z2:ns.Nodup) (z3:ns.length<=80) (z4:H m=some (.lst (ss.map λt=>V.ref t.1))) (z5:dO H ns ss) (z6:ss.length<=98) (z7:(∀x,¬ Rch (ss.map (·.2)) x x)) (z8:∀d H' rs,ah H H'->H d=none->H' d=some (.dK (gD rs))->Rea H' (ss.map (·.2)) rs->(∀r∈rs,r.2.1≠d/\H r.2.1=none)->(∀x,x∈rs.map (·.1)↔x∈ns)->Q (.ref d) H'):xE vs H Q E0
theorem pK(T:Txt K mg):↥4 "all_beneath" ["names","found"] xE:=by
 refine T.aM.cal cN (λH vs Q E h=>?_)
 .have%[l,m,ns,ss,rfl,hl,nn,nl,hm,Y,a9,nr|kk]:=h;refine%[rfl|λf cl A outer s u=>?_];refine%[_,%["JCH2F~iA1BCH3vCTQF~)A0A1BK4Csv34DTQ~N~U2A4ASBBK5Csri34Y5~DDV]u]vi34Ai3Y5~DBDI3",cN.nd|u]|?_]
  show be _ _ _ [!l,!m,none,none,none,none] H;refine ap λD1 k1 _=>?_
  lk;refine%[m,ns,ss,rfl,hm,Y,a9|λb H1 s1 fb hb=>k1 _ _ (ap λD2 k2 _=>?_)];lk;intro d fd;refine k2 _ _ (ap λD3 k3 _=>az λbb hK=>?_);have s2:=ah.upd (o:= .dK []) fd;have hd:upd H1 d (.dK []) d=some (.dK (gD ([]:Gs Str))):=aa;have ab:=s1.trans s2;have bc:b≠d:=λc=>by
   have%[bf,I|_]:=hb;rw[c,fd]at I;cases I
  have bl:=s1.free fd;have bm:=hb.up s2
  generalize upd H1 d (.dK [])=H2 at s2 hd ab bm
  lk;refine%[l,m,ns,ss,rfl,ab _ _ hl,nn,nl,ab _ _ hm,Y.up ab,a9|λr H3 L s3 al Ln Ls b7 rest=> .inl %[r,rfl,%[_|SqL.of al]|hK _ _ ?_]];have co:=s2.trans s3;have bn:∀x∈ns,x∈L:=λx hx=>Decidable.byContradiction λc=>FV (ks:=ss.map (·.2)) (U:=ns.filter λx=>decide (x∉L)) (λx hx=>by
   have%[I|N]:=List.mem_filter.mp hx;have%[y,e,yn|yl]:=rest x I (Zo N);exact%[y,List.mem_filter.mpr %[yn|Zf yl]|e]) nr (List.mem_filter.mpr %[hx|Zf c])
  have Lm:(L.map V.str).length=L.length:=Z6 _;have Ll:=STab.nodup_sub Ln Ls;have bp:=bm.up s3;have an:=ab.trans s3;refine bh (xs:=L.map V.str) (λi σ G=>(∃o4 o5,σ=[!l,!m,!b,!d,o4,o5])/\dz d H3 G/\∃rs:Gs Str,G d=some (.dK (gD rs))/\Rea G (ss.map (·.2)) rs/\(∀r∈rs,r.2.1≠d/\H3 r.2.1=none)/\rs.map (·.1)=L.take i)
   %[%[_,_|rfl],λ_ _ _ e=>e,[],s3 _ _ hd,%[X6,X6|λ_ h=>(nomatch h)],λ_ h=>(nomatch h)|rfl] (λi σ G _ h=>SqL.of (h.2.1 _ _ (λc=>by have:=s3 _ _ hd;rw[<-c,al]at this;cases this) al)) ?_ ?_
  .intro i v σ G hv %[%[o4,o5|rfl],sm,rs,ag,g,rn|rk];rw[Zl]at hv;have%[n,hn|rfl]:=map_eq_some_iff.mp hv;have tk:L.take (i+1)=L.take i++[n]:=by rw[Xb,hn];rfl
   show be _ _ _ [!l,!m,!b,!d,-n,o5] G;refine ap λD4 k4 _=>?_
   lk;intro e fe;have C:e≠d:=λc=>by rw[c,ag]at fe;cases fe
   have as:n∉rs.map (·.1):=by
    rw[rk];intro c;have%[j|hj]:=Xg c;have jl:=(Xn hj).1;rw[Ym]at jl;rw[Yd ⋯]at hj;have:=dD Ln hj hn
    lia
   have rl:rs.length<=80:=by
    have:(rs.map (·.1)).length<=L.length:=by rw[rk,Ym];lia
    rw[Z6]at this
    lia
   have e3:H3 e=none:=by
    cases q:H3 e with
    | none=>rfl
    | some o=>rw[sm e o C q]at fe;cases fe
   refine%[_,iU.k (k:=Sum.inr n) (ah.upd fe _ _ ag) (by unfold gD;rw[Z6];exact aC ⋯)|k4 _ _ ?_];rw[eG _ (tD as),show gD rs++[(Sum.inr n,V.ref e)]=gD (rs++[(n,e,[])]) by unfold gD;rw[Zd];rfl];have he:upd (upd G e (.dK [])) d (.dK (gD (rs++[(n,e,[])]))) e=some (.dK (SD [])):=by rw[ao C,aa];rfl
   have bt:upd (upd G e (.dK [])) d (.dK (gD (rs++[(n,e,[])]))) d=_:=aa;have o4:∀c o,c≠d->G c=some o->upd (upd G e (.dK [])) d (.dK (gD (rs++[(n,e,[])]))) c=some o:=λc o h q=>by rw[ao h,ao (ay q fe)];exact q
   generalize upd (upd G e (.dK [])) d (.dK (gD (rs++[(n,e,[])])))=H4 at he bt o4
   have a0:dz d H3 H4:=λc o h q=>o4 c o h (sm c o h q)
   refine aD λD5 k5 _=>az λbb hK=>?_
   lk;refine%[.inr (.inr (.inl (.inl %[_|a0 _ _ bc bp.choose_spec.1]))),#[0]|λp hp=>?_];have%[bf,a,bU,b9,ai|ca]:=bp.get a0 bc (λxs c=>by rw[s3 _ _ hd]at c;cases c) hp n;have sp:=ah.upd (o:= .lst []) hp;have he:=sp _ _ he;have a1:=sp _ _ bt;have a2:=a0.trans (dz.of sp);have a3:∀c o,c≠d->G c=some o->upd H4 p (.lst []) c=some o:=λc o h q=>sp _ _ (o4 c o h q)
   have ae:a≠e:=by
    rcases ca with rfl|⟨o,ho⟩
    .exact λc=>by rw[c]at hp;have:=he;rw[c,aa]at this;cases this
    .exact λc=>by rw[c,e3]at ho;cases ho
   generalize upd H4 p (.lst [])=H5 at bU ai he a1 a2 a3 ⊢
   generalize b0:(ss.filter λt=>decide (t.2[0]? =some n))=ts at ai
   have tm:(ts.map λt=>V.ref t.1).length=ts.length:=Z6 _;have cb:∀t∈ts,t∈ss/\∃y z,t.2=[n,y,z]:=λt ht=>by
    rw[<-b0]at ht;have%[I|N]:=List.mem_filter.mp ht;have%[x,y,z,e|_]:=(Y t I).2;have N:=Zo N;rw[e]at N;exact%[I,y,z|by rw[e,show x=n from Za N]]
   refine%[Sum.inr n,rfl,bf,bU|.inl %[a,b9,%[_|SqL.of ai]|hK _ _ ?_]];refine bh (xs:=ts.map λt=>V.ref t.1) (λj σ O=>(∃o5,σ=[!l,!m,!b,!d,-n,o5])/\dz e H5 O/\∃M:ZB,O e=some (.dK (SD M))/\M.Nodup/\(∀y∈M,Rch (ss.map (·.2)) n y)/\∀t∈ts.take j,∀y,t.2[1]? =some y->y∈M/\∀z,Rch (ss.map (·.2)) y z->z∈M)
    %[%[_|rfl],λ_ _ _ q=>q,[],he,X6,λ_ h=>(nomatch h)|λ_ h=>(nomatch h)] (λj σ O _ h=>SqL.of (h.2.1 _ _ ae ai)) ?_ ?_
   .intro j v σ O hv %[%[o5|rfl],B,M,hM,Mn,Mr|Md];rw[Zl]at hv;have%[t,ht|rfl]:=map_eq_some_iff.mp hv;have%[b1,y,z|et]:=cb t (Z8 ht);show be _ _ _ [!l,!m,!b,!d,-n,some (.ref t.1)] O;refine ap λD6 k6 _=>?_
    lk;have a4:∀c o,c≠d->c≠e->H3 c=some o->O c=some o:=λc o I N q=>B c o N (a2 c o I q)
    have te:∀c zs,H3 c=some (.tup zs)->O c=some (.tup zs):=λc zs q=>a4 c _ (λz=>by rw[z,s3 _ _ hd]at q;cases q) (λz=>by rw[z,e3]at q;cases q) q
    have t6:=te _ _ (an _ _ (Y t b1).1);rw[et]at t6;have a5:=B d _ C.symm a1;have aj:bJ (gD (rs++[(n,e,([]:ZB))])) (Sum.inr n)=some (.ref e):=by
     have%[r,cd,e1|hv]:=mz (rs:=rs++[(n,e,[])]) (y:=n) ∅;rcases Xo cd with q|q
     .exact(as (by exact e1▸Xr %[r,q|rfl])).elim
     .rw[Xp q]at hv;exact hv
    have gn:=cf.k (k:=Sum.inr n) a5;rw[aj]at gn;have ed:Ed (ss.map (·.2)) n y:=%[z|et▸Xr %[t,b1|rfl]]
    have yt:=b7 i n hn y ed;rw[<-rk]at yt;have%[M1,e1,n1|m1]:=B1 (M:=M) (x:=y);have a6:∀U:ZB,U.Nodup->(∀x∈U,Rch (ss.map (·.2)) n x)->U.length<=80:=λU I N=>Yh (STab.nodup_sub I λx hx=>Gb (λt ht=>(Y t ht).2) (N x hx)) nl
    have Ml:=a6 M Mn Mr;refine%[_,gn,_,SqT.of t6,_,rfl,e,rfl,_,iU.k (k:=Sum.inr y) hM (by unfold SD VD;rw[Z6];exact aC ⋯)|k6 _ _ (aD λD7 k7 _=>?_)];rw[e1];have b2:∀x∈M1,Rch (ss.map (·.2)) n x:=λx hx=>((m1 x).mp hx).elim (Mr x) λq=>q▸ .one ed
    have a7:upd O e (.dK (SD M1)) e=some (.dK (SD M1)):=aa;have u7:∀c o,c≠e->O c=some o->upd O e (.dK (SD M1)) c=some o:=λc o h q=>(ao h)▸q
    generalize upd O e (.dK (SD M1))=H7 at a7 u7
    have b3:=cf.k (k:=Sum.inr n) (u7 _ _ C.symm a5);rw[aj]at b3;have%[ry,J,ey|gy]:=mz (rs:=rs++[(n,e,[])]) (y:=y) (Zd▸Yu _ yt);have J:ry∈rs:=by
     rcases Xo J with q|q
     .exact q
     .rw[Xp q]at ey;exact(nr n (.one (by rw[<-show n=y from ey]at ed;exact ed))).elim
    have b4:=cf.k (k:=Sum.inr y) (u7 _ _ C.symm a5);rw[gy]at b4;have a8:ry.2.1≠e:=ay (g.at_ ry J).1 fe;have ch:=u7 _ _ a8 (B _ _ a8 (a3 _ _ (rn ry J).1 (g.at_ ry J).1));lk;have%[M2,e2,n2|m2]:=u8 (R:=ry.2.2) (M:=M1);have ac:=(g.at_ ry J).2;rw[ey]at ac;have cp:=a6 M1 (n1 Mn) b2;have Rl:=a6 ry.2.2 ac.1 λx hx=>(Rch.one ed).trans ((ac.2 x).mp hx)
    refine%[_,b3,.inr (.inr (.inl (.inl %[_|a7]))),_,SqT.of (u7 _ _ (λc=>by rw[c,hM]at t6;cases t6) t6),_,rfl,_,b4,ry.2.1,rfl,_,_,a8.symm,a7,ch,by unfold SD VD;rw[Z6,Z6,PySem.sizeLine_eq];lia|?_];rw[e2];refine k7 _ _ %[%[_|rfl],λc o h q=>(ao h)▸u7 c o h (B c o h q),M2,aa,n2 (n1 Mn),λx hx=>?_|λt' b5 x ex=>?_]
    .rcases(m2 x).mp hx with q|q
     .exact b2 x q
     .exact(Rch.one ed).trans ((ac.2 x).mp q)
    .rw[Xb,ht]at b5;rcases Xo b5 with q|q
     .have%[I|N]:=Md t' q x ex;exact%[(m2 x).mpr (.inl ((m1 x).mpr (.inl I)))|λz hz=>(m2 z).mpr (.inl ((m1 z).mpr (.inl (N z hz))))]
     .rw[show t'=t from Xp q,et]at ex;obtain rfl:y=x:=Za ex;exact%[(m2 y).mpr (.inl ((m1 y).mpr (.inr rfl)))|λz hz=>(m2 z).mpr (.inr ((ac.2 z).mpr hz))]
   .intro σ O %[%[o5|rfl],B,M,hM,Mn,Mr|Md];rw[tm,Zn (Zi _)]at Md;have all:∀y,y∈M↔Rch (ss.map (·.2)) n y:=λy=>%[Mr y|λr=>by
     have%[x,%[z|hz]|q]:=zF r;have%[t,ht|et]:=Xq hz;have h:=Md t (b0▸List.mem_filter.mpr %[ht|by rw[et];simp]) x (by rw[et];rfl);exact q.elim (λq=>q▸h.1) λq=>h.2 y q]
    have b6:∀r∈rs,r.2.1≠e:=λr u=>ay (g.at_ r u).1 fe
    refine k5 _ _ %[%[_,_|rfl],λc o h q=>B c o (ay q e3) (a2 c o h q),rs++[(n,e,M)],?_,%[?_,?_|λr u=>?_],λr u=>?_|by rw[Zd,rk,tk];rfl]
    .rw[B d _ C.symm a1];unfold gD;rw[Zd,Zd];rfl
    .rw[Zd,X3];exact%[g.nd,by simp|λa ha b hb c=>as (by rw[<-show b=n from Xp hb,<-c];exact ha)]
    .rw[Zd,X3];refine%[g.ad,by simp|λa ha b hb c=>?_];have%[r,u|rfl]:=Xq ha;exact b6 r u (c.trans (Xp hb))
    .rcases Xo u with q|q
     .exact%[B _ _ (b6 r q) (a3 _ _ (rn r q).1 (g.at_ r q).1)|(g.at_ r q).2]
     .rw[Xp q];exact%[hM,Mn|all]
    .rcases Xo u with q|q
     .exact rn r q
     .rw[Xp q];exact%[C|e3]
  .intro σ G %[%[o4,o5|rfl],sm,rs,ag,g,rn|rk];rw[Lm,Zn (Zi _)]at rk;refine k3 _ _ ?_;lk;exact kk d G rs (λc o e=>sm c o (ay e bl) (an _ _ e)) bl ag g (λr u=>%[(rn r u).1|an.free (rn r u).2]) λx=>rk▸%[Ls x|bn x]
structure ReF (H:Hp) (ks:List ZB) (d:Addr) (rs:Gs Str):Prop where
 at_:∃o,H d=some (.frz o (.dK (gD rs)))
 nd:(rs.map (·.1)).Nodup
 in_:∀r∈rs,(∃o,H r.2.1=some (.frz o (.dK (SD r.2.2))))/\r.2.2.Nodup/\∀y,y∈r.2.2↔Rch ks r.1 y
theorem ReF.up(h:ReF H ks d rs)(s:ah H b):ReF b ks d rs:=
 %[h.at_.imp λo e=>s _ _ e,h.nd|λr a=>%[(h.in_ r a).1.imp λo e=>s _ _ e|(h.in_ r a).2]]
inductive xF (vs:ZM) (H:Hp) (Q:VK) (E0:XK):Prop
 | mk (l) (m) (ns) (ss) (z0:vs=[.ref l,.ref m]) (z1:H l=some (.lst (ns.map V.str))) (z2:ns.Nodup) (z3:ns.length<=80) (z4:H m=some (.lst (ss.map λt=>V.ref t.1))) (z5:dO H ns ss) (z6:ss.length<=98) (z7:(∀x,¬ Rch (ss.map (·.2)) x x)) (z8:∀d H' rs,ah H H'->ReF H' (ss.map (·.2)) d rs->(∀x,x∈rs.map (·.1)↔x∈ns)->Q (.ref d) H'):xF vs H Q E0
theorem qh(T:Txt K mg):↥4 "all_beneath" ["names","found"] xF:=by
 refine(pK T).freeze.imp λvs H Q E zqw=>?_;have%[l,m,f,ss,g,h,i,j,n,p,s,t|u]:=zqw;refine %[l,m,f,ss,g,h,i,j,n,p,s,t|λd B rs v C y a z A=>%[d::rs.map _|λG=>u d _ rs (λc o e=>?_) %[%[_|nD Zm y],a.nd|λr b=>%[%[_|nD (Zk _ (Xr %[r,b|rfl])) (a.at_ r b).1]|(a.at_ r b).2]] A]]
 rw[oI]
 .exact v c o e
 .intro q;rcases mem_cons.mp q with rfl|q
  .lia
  .have%[r,b|rfl]:=Xq q;rw[(z r b).2]at e;cases e
inductive xG (mg:ZC) (vs:ZM) (H:Hp) (Q:VK) (E0:XK):Prop
 | mk (g) (qs) (ls) (ts) (z0:vs=[.ref g]) (z1:iX mg H g qs ls ts) (z2:(∀lk,bM (bw qs) (ts.map (·.2)) lk->∀x,¬ Rch lk x x)) (z3:∀d H' rs lk ns,ah H H'->bM (bw qs) (ts.map (·.2)) lk->jp (bw qs) ls ns->ReF H' lk d rs->(∀x,x∈rs.map (·.1)↔x∈ns)->Q (.ref d) H'):xG mg vs H Q E0
theorem jr(T:Txt K mg):↥7 "earlier_ones" ["ground"] (xG mg):=by
 refine T.aW.cal iS (λH vs Q E h=>?_)
 .have%[g,qs,e,ts,rfl,a,n|r]:=h;refine%[rfl|λf q A outer s c=>?_];have%[u,v,y|z]:=a.gr;have Y:=a.ll;refine%[_,%["JCH1F]wA0BDIF]xAF~OA0BA1B",iS.nd|c]|?_]
  show be _ _ _ [some _,none] H;refine ap λD1 k1 _=>?_
  lk;refine%[g,qs,e,ts,rfl,a,n|λl H1 B ss o C G I lk=>k1 _ _ ?_];lk;refine%[g,u,v,y,qs,e,ts,rfl,z.up o,a.nd,a.so,⋯|λm H2 i j fm J b=>?_];have nl:i.length<=80:=by
   have:=STab.nodup_sub b.nd λx L=>((b.mem x).mp L).1
   lia
  refine%[m,l,i,ss,rfl,J,b.nd,nl,j _ _ C,λt p=>%[j _ _ (G t p).1|a.names lk b _ (Xr %[t,p|rfl])],I,n _ lk|λd M rs N O U=>r d M rs _ i (o.trans (j.trans N)) lk b O U]
noncomputable def TD(L:ZB)(m:Str->Str):List (Key×V):=VD L λx=> .str (m x)
structure G9 (ks:List _) (ns L:ZB) (m:Str->Str) (A0 Q:ZB) (g:Str->Str) (W:ZB):Prop where
 ask:Ask (Rch ks) L m A0 Q g
 ql:∀x∈Q,x∈L
 qn:∀x∈Q,x∈ns
 wn:∀b∈W,b∈ns/\(b∈A0\/∃y∈Q,y∈L/\m y=b)
 cl:∀b,(b∈A0\/∃y∈Q,y∈L/\m y=b)->b∈W\/∀p,Rch ks b p->p∈Q
structure DJ (ks:List _) (ns L:ZB) (m:Str->Str) (A0 Q:ZB) (g:Str->Str) (W:ZB) (b:Str):Prop where
 ask:Ask (Rch ks) L m A0 Q g
 ql:∀x∈Q,x∈L
 qn:∀x∈Q,x∈ns
 wn:∀b∈W,b∈ns/\(b∈A0\/∃y∈Q,y∈L/\m y=b)
 cl:∀c,(c∈A0\/∃y∈Q,y∈L/\m y=c)->c∈W\/c=b\/∀p,Rch ks c p->p∈Q
 by_:b∈A0\/∃y∈Q,y∈L/\m y=b
theorem xH(a:Ask E L m h Q g)(j:p∉Q)(e:E b p)(f:b∈h\/∃y∈Q,y∈L/\m y=b):Ask E L m h (Q++[p]) (λx=>if x=p then b else g x):=by
 refine%[nodup_append.mpr %[a.nd,by simp|λx d y o c=>j (by rw[<-Xp o,<-c];exact d)]|λi x d=>?_];by_cases c:i<Q.length
 .rw[Y9 c]at d;have n:x≠p:=λz=>j (z▸Z8 d)
  rw[if_neg n,Xd (Yf c)];exact a.by_ i x d
 .have l:=(Xn d).1;rw[Z9,Yl]at l;obtain rfl:i=Q.length:=by lia
  rw[Ya (Zi _),sub_self]at d;obtain rfl:p=x:=Za d;rw[if_pos rfl,List.take_left];exact%[e|f]
theorem DJ.add{i L d Q W:ZB}(a:DJ ks i L m d Q g W b)(n:p∉Q)(e:Rch ks b p)(pl:p∈L)(pn:p∈i)(o:m p∈i):DJ ks i L m d (Q++[p]) (λx=>if x=p then b else g x) (W++[m p]) b:=by
 have up:∀{c},(c∈d\/∃y∈Q,y∈L/\m y=c)->c∈d\/∃y∈Q++[p],y∈L/\m y=c:=λh=>h.imp_right λ⟨y,h,q⟩=>%[y,Yu _ h|q]
 refine%[xH a.ask n e a.by_,λx j=>?_,λx j=>?_,λc l=>?_,λc l=>?_|up a.by_]
 .exact(Xo j).elim (a.ql x) λh=>Xp h▸pl
 .exact(Xo j).elim (a.qn x) λh=>Xp h▸pn
 .rcases Xo l with h|h
  .exact%[(a.wn c h).1|up (a.wn c h).2]
  .rw[Xp h];exact%[o|.inr %[p,Yv _ Zm,pl|rfl]]
 .have f:(c∈d\/∃y∈Q,y∈L/\m y=c)->c∈W++[m p]\/c=b\/∀q,Rch ks c q->q∈Q++[p]:=λh=>(a.cl c h).imp (Yu _) λh=>h.imp_right λh q r=>Yu _ (h q r)
  rcases l with h|⟨y,s,t,rfl⟩
  .exact f (.inl h)
  .rcases Xo s with h|h
   .exact f (.inr %[y,h,t|rfl])
   .rw[Xp h];exact .inl (Yv _ Zm)
theorem cQ:((bJ (TD L m) (Sum.inr x)).isSome=true↔x∈L)/\(x∈L->bJ (TD L m) (Sum.inr x)=some (.str (m x))):=by
 refine%[?_|λh=>gK h];unfold TD;by_cases c:x∈L
 .rw[gK c];exact%[λ_=>c|λ_=>rfl]
 .rw[eF c];simp_all
theorem wH(h:x∉L):cW (TD L m) (Sum.inr x) (.str y)=TD (L++[x]) (λz=>if z=x then y else m z):=by
 unfold TD;rw[eG _ (eF h)];unfold VD;rw[Zd];refine congr (congrArg _ (Yq λa b=>?_)) ∅;show(Sum.inr a,V.str _)=((Sum.inr a),V.str (if a=x then y else m a))
 rw[if_neg (λc:a=x=>h (c▸b))]
inductive xI (vs:ZM) (H:Hp) (Q:VK) (E0:XK):Prop
 | mk (d hb al:Addr) (ks:List _) (rs:Gs Str) (ns L A0:ZB) (m:Str->Str) (z0:vs=[.ref d,.ref hb,.ref al]) (z1:ReF H ks d rs) (z2:(∀x,x∈rs.map (·.1)↔x∈ns)) (z3:(∀x y,Rch ks x y->y∈ns)) (z4:ns.length<=80) (z5:ns.Nodup) (z6:Rd H hb (.dK (TD L m))) (z7:(∀x∈L,m x∈ns)) (z8:H al=some (.lst (A0.map V.str))) (z9:(∀x∈A0,x∈ns)) (z10:A0.length<=80) (z11:∀q H' U g,ah H H'->H q=none->H' q=some (.dK (TD U g))->Ask (Rch ks) L m A0 U g->(∀x∈U,x∈ns)->((∃f∈U,f∉L)\/((∀x∈U,x∈L)/\∀b,(b∈A0\/∃y∈U,y∈L/\m y=b)->∀p,Rch ks b p->p∈U))->Q (.ref q) H'):xI vs H Q E0
theorem qj(T:Txt K mg):↥1 "ask_around" ["partners","held_by","askers"] xI:=by
 refine T.aO.cal db (λH vs Q E h=>?_)
 .have%[d,u,al,ks,rs,ns,L,A0,m,rfl,re,rk,rn,nl,nn,hh,mn,ha,an,a8|kk]:=h;refine%[rfl|λf bb A outer s hr=>?_];refine%[_,%["JCH3vCH4;<A2BC=L:abA4BECH5]y]z4DT~Wi05K6DO)63Cs536CO)61DI3PDVlh4Ai16BPDI3",db.nd|hr]|?_]
  show be _ _ _ [!d,!u,!al,none,none,none,none] H;refine ap λD1 k1 _=>?_
  lk;intro q fq;refine k1 _ _ (ap λD2 k2 _=>?_);have s1:=ah.upd (o:= .dK []) fq;have M:upd H q (.dK []) q=some (.dK (TD [] id)):=aa
  generalize upd H q (.dK [])=H1 at s1 M
  lk;refine%[_,.inl (SqL.of (s1 _ _ ha))|λj fw=>k2 _ _ (ap λD3 k3 r3=>?_)];have ac:j≠q:=λc=>by rw[c,M]at fw;cases fw
  have s2:=ah.upd (o:= .lst (A0.map V.str)) fw;have hw:upd H1 j (.lst (A0.map V.str)) j=_:=aa;have M:=s2 _ _ M;have as:=s1.trans s2;have a0:=s1.free fw
  generalize upd H1 j (.lst (A0.map V.str))=H2 at hw M as
  refine⟨λn σ a=>∃(o5 J:Option V) (U W:ZB) (g:Str->Str),σ=[!d,!u,!al,!q,!j,o5,J]/\ah H a/\a q=some (.dK (TD U g))/\a j=some (.lst (W.map V.str))/\G9 ks ns L m A0 U g W/\n=2*(81-U.length) +W.length/\n<=300,%[_,none,none,[],A0,id,rfl,as,M,hw,%[%[X6|λi x e=>(nomatch e)],λ_ h=>(nomatch h),λ_ h=>(nomatch h),λb u=>%[an b u|.inl u]|λb u=> .inl (u.elim (λh=>h) λ⟨_,h,_⟩=>(nomatch h))],rfl|by rw[length_nil];lia],?_⟩;intro n σ H3 %[o5,J,U,W,g,rfl,sm,M,hw,B,rfl|ab];have wm:(W.map V.str).length=W.length:=Z6 _;lk;have Ul:=STab.nodup_sub B.ask.nd B.qn;refine%[W.length,.inl %[_,SqL.of hw|wm.symm]|bx (λc=>?_) λc=>?_]
  .have c:=Zo c;obtain⟨W1,b,rfl⟩:∃W1 b,W=W1++[b]:=%[W.dropLast,W.getLast (λe=>by rw[e]at c;simp at c)|(List.dropLast_concat_getLast _).symm]
   refine⟨λa1 a=>∃n',n'<2*(81-U.length) +(W1++[b]).length/\∃(o5 J:Option V) (U W:ZB) (g:Str->Str),a1=[!d,!u,!al,!q,!j,o5,J]/\ah H a/\a q=some (.dK (TD U g))/\a j=some (.lst (W.map V.str))/\G9 ks ns L m A0 U g W/\n'=2*(81-U.length) +W.length/\n'<=300,λa1 a ⟨n',h1,o5,J,U,W,g,h2,h3,h4,h5,h6,h7⟩=>%[n',h1,%[o5,J|h2],h3,U,W,g,h4,h5,h6|h7],.inl %[_|SqL.of hw],j,_,.str b,rfl,rfl,hw,by simp,az λa9 hK=>?_⟩;have dl:((W1++[b]).map V.str).dropLast=W1.map V.str:=Zd▸List.dropLast_concat;rw[dl];have a2:upd H3 j (.lst (W1.map V.str)) j=_:=aa;have a3:upd H3 j (.lst (W1.map V.str)) q=some (.dK (TD U g)):=(ao ac.symm)▸M;have N:ah H (upd H3 j (.lst (W1.map V.str))):=ah.set sm a0
   generalize upd H3 j (.lst (W1.map V.str))=H4 at a2 a3 N ⊢
   have%[bn|a5]:=B.wn b ∅;have%[o|ed]:=re.at_;have%[r,a6,er|gv]:=mz (rs:=rs) (y:=b) ((rk b).mpr bn);have%[%[ro|a4],bc|C]:=re.in_ r a6;rw[er]at C;unfold qW;lk;have kl:(SD r.2.2).length=r.2.2.length:=Z6 _;refine%[_,(.inl %[_,Sum.inr b,.inr %[o|N _ _ ed],rfl|gv.symm]),_,rfl,_,_,N _ _ a4|hK _ _ (uD (λi σ a=>(∃J,σ=[!d,!u,!al,!q,!j,-b,J])/\ah H a/\∃(l W2:ZB) (g1:Str->Str),a q=some (.dK (TD l g1))/\a j=some (.lst (W2.map V.str))/\DJ ks ns L m A0 l g1 W2 b/\(∀x∈r.2.2.take i,x∈l)/\2*(81-l.length) +W2.length<=2*(81-U.length) +W1.length)
    %[%[_|rfl],N,U,W1,g,a3,a2,%[B.ask,B.ql,B.qn,λc hc=>B.wn c (Yu _ hc),λc hc=>(B.cl c hc).elim (λh=>(Xo h).imp_right λh=> .inl (Xp h)) λh=> .inr (.inr h)|a5],λ_ h=>(nomatch h)|Zi _] (λi σ a _ h=>h.2.1 _ _ a4) ?_ ?_)]
   .intro i k v σ a hv %[%[J|rfl],O,l,W2,g1,G,Y,t,dn|le];unfold SD VD at hv;rw[Zl]at hv;have%[p,hp|ep]:=map_eq_some_iff.mp hv;obtain⟨rfl,rfl⟩:Sum.inr p=k/\V.bl true=v:=%[congrArg (·.1) ep|congrArg (·.2) ep]
    have tk:r.2.2.take (i+1)=r.2.2.take i++[p]:=by rw[Xb,hp];rfl
    have bp:=(C p).mp (Z8 hp);have bf:=STab.nodup_sub t.ask.nd t.qn;show mX _ _ _ _ [!d,!u,!al,!q,!j,-b,-p] a;refine aD λD4 k4 r4=>?_
    lk;refine%[_,cf.k (k:=Sum.inr p) G|bx (λc=>?_) λc=>?_]
    .have pn:p∉l:=λh=>by rw[cQ.1.mpr h]at c;cases c
     refine%[_,iU.k (k:=Sum.inr p) G (by unfold TD VD;rw[Z6];exact aC ⋯)|?_];rw[wH pn];have I:=ah.set (o:= .dK (TD (l++[p]) λz=>if z=p then b else g1 z)) O fq;have ae:upd a q (.dK (TD (l++[p]) λz=>if z=p then b else g1 z)) q=_:=aa;have ag:upd a q (.dK (TD (l++[p]) λz=>if z=p then b else g1 z)) j=some (.lst (W2.map V.str)):=(ao ac)▸Y
     generalize upd a q (.dK (TD (l++[p]) λz=>if z=p then b else g1 z))=H6 at I ae ag ⊢
     have gh:cf H6 u (.str p) (bJ (TD L m) (Sum.inr p)):= .inl %[_,Sum.inr p,hh.imp (I _ _) λ⟨o,e⟩=>%[o|I _ _ e],rfl|rfl];refine%[_,gh|bx (λe=>?_) λe=>?_]
     .have pl:p∉L:=λh=>by rw[cQ.1.mpr h]at e;cases e
      exact r4 _ _ (r3 _ _ (kk q H6 _ _ I fq ae (xH t.ask pn bp t.by_) (λx hx=>(Xo hx).elim (t.qn x) λh=>Xp h▸rn _ _ bp) (.inl %[p,Yv _ Zm|pl])))
     .have pl:p∈L:=cQ.1.mp (by cases h:(bJ (TD L m) (Sum.inr p)).isSome with
       | true=>rfl
       | false=>rw[h]at e;exact absurd rfl e)
      rw[cQ.2 pl]at gh;have bl:W2.length<=300:=by rw[Z9]at ab;lia
      refine%[.inl %[_|SqL.of ag],_,gh,_,ag,by rw[Z6];exact aC ⋯|k4 _ _ %[%[_|rfl],ah.set I a0,l++[p],W2++[m p],_,(ao ac.symm).trans ae,by rw[aa,Zd];rfl,t.add pn bp pl (rn _ _ bp) (mn p pl),λx hx=>?_|?_]]
      .rw[tk]at hx;exact(Xo hx).elim (λh=>Yu _ (dn x h)) λh=>Yv _ h
      .have a7:=STab.nodup_sub (t.add pn bp pl (rn _ _ bp) (mn p pl)).ask.nd (t.add pn bp pl (rn _ _ bp) (mn p pl)).qn;rw[Z9,Yl]at a7 ⊢;rw[Z9,Yl]
       lia
    .have pu:p∈l:=cQ.1.mp (by cases h:(bJ (TD l g1) (Sum.inr p)).isSome with
      | true=>rfl
      | false=>rw[h]at c;exact absurd rfl c)
     refine k4 _ _ %[%[_|rfl],O,l,W2,g1,G,Y,t,λx hx=>?_|le];rw[tk]at hx;exact(Xo hx).elim (dn x) λh=>Xp h▸pu
   .intro σ a %[%[J|rfl],O,l,W2,g1,G,Y,t,dn|le];rw[kl,Zn (Zi _)]at dn;rw[Z9,Yl]at ab;refine%[_,?_,_,_,l,W2,g1,rfl,O,G,Y,%[t.ask,t.ql,t.qn,t.wn|λc hc=>?_],rfl|⋯]
    .rw[Z9,Yl];lia
    .rcases t.cl c hc with h|rfl|h
     .exact .inl h
     .exact .inr λp hp=>dn p ((C p).mpr hp)
     .exact .inr h
  .refine k3 _ _ ?_;have e:W=[]:=by
    cases W with
    | nil=>rfl
    | cons x W=>exact absurd (Zf (by rw[Zr];lia)) c
   subst e;lk;exact kk q H3 U g sm fq M B.ask B.qn (.inr %[B.ql|λb u=>(B.cl b u).resolve_left λh=>(nomatch h)])
inductive B2 (vs:ZM) (H:Hp) (Q:VK) (E0:XK):Prop
 | mk (d hb al:Addr) (ks:List ZB) (rs:Gs Str) (ns L A0:ZB) (m:Str->Str) (z0:vs=[.ref d,.ref hb,.ref al]) (z1:ReF H ks d rs) (z2:(∀x,x∈rs.map (·.1)↔x∈ns)) (z3:(∀x y,Rch ks x y->y∈ns)) (z4:ns.length<=80) (z5:ns.Nodup) (z6:Rd H hb (.dK (TD L m))) (z7:(∀x∈L,m x∈ns)) (z8:H al=some (.lst (A0.map V.str))) (z9:(∀x∈A0,x∈ns)) (z10:A0.length<=80) (z11:∀q o H' (U:ZB) (g:Str->Str),ah H H'->H' q=some (.frz o (.dK (TD U g)))->Ask (Rch ks) L m A0 U g->(∀x∈U,x∈ns)->((∃f∈U,f∉L)\/((∀x∈U,x∈L)/\∀b,(b∈A0\/∃y∈U,y∈L/\m y=b)->∀p,Rch ks b p->p∈U))->Q (.ref q) H'):B2 vs H Q E0
inductive xJ (vs:ZM) (H:Hp) (Q:VK) (E0:XK):Prop
 | mk (d:Addr) (o:Obj) (L:ZB) (m:Str->Str) (z0:vs=[.ref d]) (z1:H d=some (.frz o (.dK (TD L m)))) (z2:L.length<=80) (z3:L.Nodup) (z4:(∀x∈L,∀y∈L,m x=m y->x=y)) (z5:∀t H' (i:Str->Str),ah H H'->H t=none->H' t=some (.dK (TD (L.map m) i))->(∀x∈L,i (m x)=x)->Q (.ref t) H'):xJ vs H Q E0
inductive B3 (vs:ZM) (H:Hp) (Q:VK) (E0:XK):Prop
 | mk (d:Addr) (L:ZB) (m:Str->Str) (z0:vs=[.ref d]) (z1:Rd H d (.dK (TD L m))) (z2:L.length<=80) (z3:L.Nodup) (z4:(∀x∈L,∀y∈L,m x=m y->x=y)) (z5:∀t H' (i:Str->Str),ah H H'->H t=none->H' t=some (.dK (TD (L.map m) i))->(∀x∈L,i (m x)=x)->Q (.ref t) H'):B3 vs H Q E0
theorem lB(T:Txt K mg):↥1 "ask_around" ["partners","held_by","askers"] B2:=by
 refine(qj T).freeze.imp λvs H Q E zqw=>?_;have%[d,i,j,ks,rs,l,L,n,m,p,r,s,t,u,v,y,A,B,f,h|C]:=zqw;refine %[d,i,j,ks,rs,l,L,n,m,p,r,s,t,u,v,y,A,B,f,h|λq M U g G I J a b c=>%[[q]|λN=>C q _ _ U g (λx o e=>?_) (nD Zm J) a b c]]
 rw[oI]
 .exact G x o e
 .intro z;rw[Xp z,I]at e;cases e
theorem mB(T:Txt K mg):↥1 "keys_by_value" ["some"] xJ:=by
 refine T.aQ.cal cT (λH vs Q E h=>?_)
 .have%[d,o,L,m,rfl,hd,ae,nd,inj|kk]:=h;refine%[rfl|λf ac A outer s hr=>?_];refine%[_,%["JCH1vCT~+0fMK2MK3gDs213DI1",cT.nd|hr]|?_]
  show be _ _ _ [!d,none,none,none] H;refine ap λD1 k1 _=>?_
  lk;intro t G;refine k1 _ _ (ap λD2 k2 _=>az λab hK=>?_);have I:=ah.upd (o:= .dK []) G;have ht:upd H t (.dK []) t=some (.dK (TD (([]:ZB).map m) id)):=aa
  generalize upd H t (.dK [])=H1 at I ht
  unfold wq;lk;have ll:(TD L m).length=L.length:=Z6 _;refine%[_,_,I _ _ hd|hK _ _ (zg (λi u a=>(∃J M,u=[!d,!t,J,M])/\ah H a/\∃l:Str->Str,a t=some (.dK (TD ((L.take i).map m) l))/\∀x∈L.take i,l (m x)=x)
   %[%[_,_|rfl],I,id,ht|λ_ h=>(nomatch h)] (λi u a _ h=>h.2.1 _ _ hd) ?_ ?_)]
  .intro i k v B u a N %[%[J,M|rfl],O,l,b|g] U;unfold TD VD at N;rw[Zl]at N;have%[x,Y|ex]:=map_eq_some_iff.mp N;obtain⟨rfl,rfl⟩:Sum.inr x=k/\V.str (m x)=v:=%[congrArg (·.1) ex|congrArg (·.2) ex]
   have s2:=ah.upd (o:= .tup [.str x,.str (m x)]) U;have n:upd a B (.tup [.str x,.str (m x)]) B=_:=aa;have p:=s2 _ _ b;have q:=O.trans s2;show zV _ _ _ _ _ (upd a B (.tup [.str x,.str (m x)])) _
   generalize upd a B (.tup [.str x,.str (m x)])=H2 at n p q ⊢
   have tk:L.take (i+1)=L.take i++[x]:=by rw[Xb,Y];rfl
   have xn:m x∉(L.take i).map m:=λc=>by
    have%[y,C|e]:=Xq c;have%[j|r]:=Xg C;have jl:=(Xn r).1;rw[Ym]at jl;rw[Yd ⋯]at r;rw[inj y (Z8 r) x (Z8 Y) e]at r;have:=dD nd r Y
    lia
   refine%[_,SqT.of n,rfl,_,_,rfl,_,_,rfl,rfl|?_];show mI _ _ _ _ [!d,!t,-x,some (.str (m x))] H2;refine aD λD3 k3 _=>?_
   lk;have tl:(L.take i).length<=80:=by rw[Ym];lia
   refine%[_,iU.k (k:=Sum.inr (m x)) p (by unfold TD VD;rw[Z6,Z6];exact aC ⋯)|k3 _ _ %[%[_,_|rfl],ah.set q G,λz=>if z=m x then x else l z,?_|λy C=>?_]]
   .rw[aa,wH xn,tk,Zd];rfl
   .rw[tk]at C;rcases Xo C with h|h
    .show(if m y=m x then x else l (m y))=y;rw[if_neg (λe:m y=m x=>xn (e▸Xr %[y,h|rfl]))];exact g y h
    .rw[Xp h];show(if m x=m x then x else l (m x))=x;rw[if_pos rfl]
  .intro u a %[%[J,M|rfl],O,l,b|g];rw[ll,Zn (Zi _)]at b g;refine k2 _ _ ?_;lk;exact kk t a l O G b g
theorem eU(T:Txt K mg):↥1 "keys_by_value" ["some"] B3:=by
 refine(mB T).frozen.imp λvs H Q E zqw=>?_;have%[d,L,m,f,a,g,h,j|l]:=zqw;refine a.elim (λa=> .inr %[d,_,by rw[f];rfl,a|λo=>%[d,o,L,m,f,aa,g,h,j|λt r i p b q hi=>?_]]) λ⟨o,a⟩=> .inl %[d,o,L,m,f,a,g,h,j|l]
 have n:t≠d:=λc=>by rw[c,aa]at b;cases b
 rw[ao n]at b;refine l t _ i (λc o e=>?_) b (by rw[ao n];exact q) hi;by_cases z:c=d
 .rw[z]at e ⊢;rw[a]at e;rw[aa];exact e
 .rw[ao z];exact p c o (by rw[ao z];exact e)
inductive xK (vs:ZM) (H:Hp) (Q:VK) (E0:XK):Prop
 | mk (hb q:Addr) (o:Obj) (f a0:Str) (ks:List ZB) (L U:ZB) (m g:Str->Str) (S T:Str->Prop) (z0:vs=[.ref hb,.ref q,.str f]) (z1:H hb=some (.dK (TD L m))) (z2:H q=some (.frz o (.dK (TD U g)))) (z3:L.length<80) (z4:Mat (Rch ks) L m) (z5:Ask (Rch ks) L m [a0] U g) (z6:(∀x∈L,m x≠a0)) (z7:kU (Rch ks) L m S T) (z8:f∈U) (z9:f∉L) (z10:∀H' (L':ZB) (m':Str->Str),(∀c o,c≠hb->H c=some o->H' c=some o)->H' hb=some (.dK (TD L' m'))->Mat (Rch ks) L' m'->kU (Rch ks) L' m' S T->(∀x,x∈L'↔x∈L\/x=f)->(∀x∈L',m' x=a0\/∃y∈L,m y=m' x)->(∀y,y=a0\/(∃x∈L,m x=y)->∃x∈L',m' x=y)->Q .non H'):xK vs H Q E0
def Ha(s:Hp)(d q t:Addr)(f l:Str)(ks:List ZB)(L U:ZB)(m g:Str->Str)(S T:Str->Prop)(n:Nat)(r:L2.St)(e:Hp):Prop:=(∀c o,c≠d->s c=some o->e c=some o)/\∃(C h:ZB),((∃p j i,r=[!d,!q,-f,!t,-p,i]/\oJ (Rch ks) L U m g T f C j p/\e d=some (.dK (TD h λx=>if x∈C then g x else m x))/\((C=[]/\h=L)\/(f∈C/\h=L++[f]))/\n=j+1)\/(∃i,r=[!d,!q,-f,!t,some .non,i])/\n=0/\∃(a:ZB) (b:Str->Str),e d=some (.dK (TD a b))/\Mat (Rch ks) a b/\kU (Rch ks) a b S T/\(∀x,x∈a↔x∈L\/x=f)/\(∀x∈a,b x=l\/∃y∈L,m y=b x)/\∀y,y=l\/(∃x∈L,m x=y)->∃x∈a,b x=y)
theorem zG(T:Txt K mg):↥2 "pass_on" ["held_by","asked_by","free"] xK:=by
 refine T.aP.cal fK (λH vs Q E h=>?_)
 .have%[b,q,o,f,N,ks,L,U,m,g,S,O,rfl,G,Y,as,M,a,h0,sh,fU,I|kk]:=h;refine%[rfl|λ_ an A outer s J=>?_];refine%[_,%["JCH3F~kA0BCH42D=L~V4|CH5i14Cs504DH4~N]!3A5B",fK.nd|J]|?_]
  show be _ _ _ [!b,!q,-f,none,none,none] H;refine ap λD1 k1 _=>?_
  lk;refine%[b,L,m,rfl,.inl G,⋯,M.nd,M.inj|λt H1 i s1 ft ht hi=>k1 _ _ (ap λD2 k2 _=>?_)];lk;refine k2 _ _ ?_;have ab:t≠b:=λc=>by rw[c,G]at ft;cases ft
  have ac:q≠b:=λc=>by rw[c,G]at Y;cases Y
  have%[i0|ae]:=Xg fU;refine%[Ha H1 b q t f N ks L U m g S O,
   %[_,λ_ _ _ e=>e,[],L|.inl %[f,i0,none,rfl,oJ.start sh I ae,by rw[s1 _ _ G];rfl,.inl %[rfl|rfl]|rfl]]|?_]
  rintro n σ u ⟨sm,C,L1,⟨p,j,o5,rfl,bk,ag,v,rfl⟩|⟨⟨o5,rfl⟩,rfl,L',m',e1,e2,e3,e4,e5,e6⟩⟩
  .lk;rw[if_pos ∅];refine⟨λai H'=>∃n',n'<j+1/\Ha H1 b q t f N ks L U m g S O n' ai H',λ_ _ h=>h,?_⟩;have pU:p∈U:=Z8 bk.at_;have gq:cf u q (.str p) (some (.str (g p))):= .inl %[_,Sum.inr p,.inr %[o|sm _ _ ac (s1 _ _ Y)],rfl|(cQ.2 pU).symm];have a1:L1.length<=80:=by
    rcases v with⟨_,rfl⟩|⟨_,rfl⟩
    .lia
    .rw[Z9,Yl];lia
   have pC:p∉C:=λc=>by
    have%[k,kl|hk]:=bk.far p c;have:=dD a.nd bk.at_ hk
    lia
   have put:cW (TD L1 λx=>if x∈C then g x else m x) (Sum.inr p) (.str (g p))=TD (L++[f]) λx=>if x∈C++[p]then g x else m x:=by
    have fe:(λz=>if z=p then g p else if z∈C then g z else m z)=λx=>if x∈C++[p]then g x else m x:=funext λz=>by
     by_cases e:z=p
     .rw[if_pos e,if_pos (by rw[e];simp),e]
     .have:z∈C++[p]↔z∈C:=by rw[Yt,Yz];exact or_iff_left e
      rw[if_neg e];simp only[this]
    rcases v with⟨rfl,rfl⟩|⟨fc,rfl⟩
    .obtain rfl:p=f:=bk.hf.resolve_left λh=>(nomatch h)
     rw[wH I,fe]
    .have pl:p∈L++[f]:=Yu _ (bk.own.resolve_left λe=>pC (e▸fc));unfold TD;rw[wG pl,<-fe];exact congrArg (VD _) (funext λz=>by by_cases e:z=p<;> simp[e])
   refine%[_,gq,_,iU.k (k:=Sum.inr p) ag (by unfold TD VD;rw[Z6];exact aC ⋯)|?_];rw[put];have l:upd u b (.dK (TD (L++[f]) λx=>if x∈C++[p]then g x else m x)) b=_:=aa;have d:∀c o,c≠b->H1 c=some o->upd u b (.dK (TD (L++[f]) λx=>if x∈C++[p]then g x else m x)) c=some o:=λc o n e=>by rw[ao n];exact sm c o n e
   generalize upd u b (.dK (TD (L++[f]) λx=>if x∈C++[p]then g x else m x))=H3 at l d ⊢
   have B:=d _ _ ab ht;have aj:f∈C++[p]:=by rw[Yt,Yz];exact bk.hf.imp_right Eq.symm
   refine%[.inr (.inr (.inl (.inl %[_|B]))),Sum.inr (g p),rfl,_,B|?_];by_cases c:∃y∈L,m y=g p
   .have%[y,r|ym]:=c;have%[k,kl|al]:=bk.step M a h0 sh r ym;have iy:i (g p)=y:=by rw[<-ym];exact hi y r
    rw[cQ.2 (Xr %[y,r|ym]),iy];exact%[k+1,⋯,d,C++[p],L++[f]|.inl %[y,k,_,rfl,al,l,.inr %[aj|rfl]|rfl]]
   .have no:∀y∈L,m y≠g p:=λy r e=>c %[y,r|e]
    have nn:bJ (TD (L.map m) i) (Sum.inr (g p))=none:=eF λh=>by
     have%[y,r|e]:=Xq h;exact no y r e
    rw[nn];have nd:(L++[f]).Nodup:=nodup_append.mpr %[M.nd,by simp|λx hx y hy e=>I (by rw[<-Xp hy,<-e];exact hx)];have%[e2,e3,_,e5|e6]:=bk.fin M a sh I no nd λx=>by rw[Yt,Yz]
    exact%[0,⋯,d,[],[]|.inr %[%[_|rfl],rfl,L++[f],_,l,e2,e3,λx=>by rw[Yt,Yz],e5|e6]]
  .lk;rw[if_neg ∅];exact kk u L' m' (λc o n e=>sm c o n (s1 _ _ e)) e1 e2 e3 e4 e5 e6
structure hW (ks:List _) (ns L:ZB) (m:Str->Str) (N:ZB):Prop where
 mat:Mat (Rch ks) L m
 mn:∀x∈L,m x∈N
 ln:∀x∈L,x∈ns
 sh:∃S T,kU (Rch ks) L m S T/\∀a∈N,(∃x∈L,m x=a)\/S a
inductive xM (vs:ZM) (H:Hp) (Q:VK) (E0:XK):Prop
 | mk (d) (ks) (rs) (ns) (z0:vs=[.ref d]) (z1:ReF H ks d rs) (z2:(∀x,x∈rs.map (·.1)↔x∈ns)) (z3:(∀x y,Rch ks x y->y∈ns)) (z4:ns.length<=80) (z5:ns.Nodup) (z6:∀hb H' L m,ah H H'->H hb=none->H' hb=some (.dK (TD L m))->hW ks ns L m ns->Q (.ref hb) H'):xM vs H Q E0
theorem zH{L:ZB}{m:Str->Str}(nd:L.Nodup)(inj:∀x∈L,∀y∈L,m x=m y->x=y):(L.map m).Nodup:=by
 rw[X4,Xa];exact Xh (λ{x y} a b n e=>n (inj x a y b e)) (nodup_iff_pairwise_ne.mp nd)
theorem lC(T:Txt K mg):↥3 "most_pairs" ["partners"] xM:=by
 refine T.aN.cal c9 (λH vs Q E h=>?_)
 .have%[d,ks,rs,ns,rfl,re,Y,rn,nl,nn|kk]:=h;refine%[rfl|λf bb A outer s hr=>?_];have%[o|hd]:=re.at_;have rl:rs.length<=80:=by
   have:=STab.nodup_sub re.nd λx b=>(Y x).mp b
   rw[Z6]at this
   lia
  refine%[_,%["JC%1devCT~W0K2CH3F~,A0AN1ASA2BBC~F4edZ?1~W3W0?2,)0N10DOL:abA4BEDVF]$AN1A3AU4EBPDIN1",c9.nd,(show bH (am eZ) ["partners","held_by","asker","asked_by","free"] _ ["partner","held_by"] [(1,1)]=true from by decide +kernel),(show(["partner","held_by"]:ZB).Nodup from by decide +kernel)|hr]|?_]
  show be _ _ _ [!d,none,none,none,none] H;refine ap λD1 k1 _=>?_
  lk;intro z fb;refine k1 _ _ (ap λD2 k2 _=>az λab hK=>?_);have s1:=ah.upd (o:= .dK []) fb;have hh:upd H z (.dK []) z=some (.dK (TD [] id)):=aa
  generalize upd H z (.dK [])=H1 at s1 hh
  unfold qW;lk;have gl:(gD rs).length=rs.length:=Z6 _;refine%[_,_,s1 _ _ hd|hK _ _ (uD (λi G B=>(∃o2 o3 o4,G=[!d,!z,o2,o3,o4])/\ah H B/\∃(L:ZB) (m:Str->Str),B z=some (.dK (TD L m))/\hW ks ns L m ((rs.map (·.1)).take i))
   %[%[_,_,_|rfl],s1,[],id,hh,%[X6,λ_ h=>(nomatch h)|λ_ h=>(nomatch h)],λ_ h=>(nomatch h),λ_ h=>(nomatch h),λ_=>False,λ_=>False,%[λ_ h=>h.elim|λ_ h=>h.elim]|λ_ h=>(nomatch h)] (λi G B _ h=>h.2.1 _ _ hd) ?_ ?_)]
  .intro i k v G B hv %[%[o2,o3,o4|rfl],sm,L,m,hh|l];unfold gD at hv;rw[Zl]at hv;have%[r,ac|er]:=map_eq_some_iff.mp hv;obtain⟨rfl,rfl⟩:Sum.inr r.1=k/\V.ref r.2.1=v:=%[congrArg (·.1) er|congrArg (·.2) er]
   generalize ea:r.1=t at*
   have hN:(rs.map (·.1))[i]? =some t:=by rw[Zl,ac,<-ea];rfl
   have tk:(rs.map (·.1)).take (i+1)=(rs.map (·.1)).take i++[t]:=by rw[Xb,hN];rfl
   have a2:t∉(rs.map (·.1)).take i:=λc=>by
    have%[j|u]:=Xg c;have jl:=(Xn u).1;rw[Ym]at jl;rw[Yd ⋯]at u;have:=dD re.nd u hN
    lia
   have a3:t∈ns:=(Y t).mp (Z8 hN);have ae:∀x∈(rs.map (·.1)).take i,x∈ns:=λx b=>(Y x).mp (Yy b)
   have Ll:L.length<=i:=by
    have:=STab.nodup_sub (zH l.mat.nd l.mat.inj) (m:=(rs.map (·.1)).take i) λy hy=>by
     have%[x,b|rfl]:=Xq hy;exact l.mn x b
    rw[Z6,Ym]at this
    lia
   have il:i<rs.length:=(Xn ac).1;show be _ _ _ [!d,!z,-t,o3,o4] B;refine ap λD3 k3 _=>?_
   lk;refine%[#[1]|λal a4=>?_];have s2:=ah.upd (o:= .lst [V.str t]) a4;have ag:upd B al (.lst [V.str t]) al=some (.lst ([t].map V.str)):=aa;have M:=s2 _ _ hh;have N:=sm.trans s2
   generalize upd B al (.lst [V.str t])=H2 at ag M N ⊢
   refine%[d,z,al,ks,rs,ns,L,[t],m,rfl,re.up N,Y,rn,nl,nn,.inl M,λx b=>ae _ (l.mn x b),ag,λx b=>Xp b▸a3,(show 1<=80 by decide)|λq oq H3 U g s3 hq ask un a5=>k3 _ _ (ap λD4 k4 _=>aE λab hK=>?_)];have a6:=N.trans s3;have ai:=s3 _ _ M;have Ul:=STab.nodup_sub ask.nd un;unfold qW;lk;refine%[_,_,hq|hK _ _ λF hF=>?_];have ql:(TD U g).length=U.length:=Z6 _;refine bi (J:=Itk q oq (TD U g)) (n:=U.length) (D:=F) (λj vs G H4=>(∃o1,G=[o1,!z])/\ah H3 H4/\H4 F=some (.lst vs)/\vs=((U.take j).filter λx=>decide (x∉L)).map V.str)
    %[%[none|rfl],ah.upd hF,aa|rfl] (λj _ _ H4 u O=>%[O.2.1 _ _ hq|by rw[ql];exact u]) (λ_ _ H4 O=>%[O.2.1 _ _ hq|by exact ql▸Zi _]) ?_ ?_
   .intro j vs G H4 u %[%[o1|rfl],p,aj|rfl] x H5 %[e2,kx,vx,b|rfl];subst e2;unfold TD VD at b;rw[Zl,Z4 u]at b;obtain rfl:Sum.inr U[j]=kx:=congrArg (·.1) (Za b);lk;refine%[_,cf.k (k:=Sum.inr U[j]) (p _ _ ai)|bx (λc=>?_) λc=>?_]
    .have n:U[j]∉L:=λh=>by rw[cQ.1.mpr h]at c;cases c
     refine CK.mk u aj (by rw[Z6];have:=Yj (λx=>decide (x∉L)) (U.take j);rw[Ym]at this;exact aC ⋯) %[%[_|rfl],ah.set p hF,aa|?_];rw[Xb,Z4 u,Y3,Zd];show _=_++(List.filter _ [U[j]]).map V.str;rw[Y6 (by simpa using n)];rfl
    .have n:U[j]∈L:=cQ.1.mp (by cases h:(bJ (TD L m) (Sum.inr U[j])).isSome with
      | true=>rfl
      | false=>rw[h]at c;exact absurd rfl c)
     refine CN.mk u %[%[_|rfl],p,aj|?_];rw[Xb,Z4 u,Y3,Zd];show _=_++(List.filter _ [U[j]]).map V.str;rw[Y4 (by simpa using n)];simp
   intro vs G H4 %[_,p,C|rfl];rw[Zn (Zi _)]at C;refine k4 _ _ (aD λD5 k5 _=>?_);have I:=a6.trans p;have an:=p _ _ ai;have%[S,T',sh|all]:=l.sh;lk;have h0:∀x∈L,m x≠t:=λx b e=>a2 (e▸l.mn x b)
   have mt:∀{a},a∈(rs.map (·.1)).take (i+1)↔a∈(rs.map (·.1)).take i\/a=t:=λ{a}=>by rw[tk,Yt,Yz]
   have fl:∀{x},x∈U.filter (λx=>decide (x∉L))↔x∈U/\x∉L:=λ{x}=>by rw[List.mem_filter,decide_eq_true_iff]
   generalize U.filter (λx=>decide (x∉L))=Fr at C fl
   have vl:(Fr.map V.str).length=Fr.length:=Z6 _;refine%[Fr.length,.inl %[_,SqL.of C|vl.symm]|bx (λc=>?_) λc=>?_]
   .have c:0<Fr.length:=by have:=Zo c;lia
    have%[fU|fL]:=fl.mp (Ye c);refine%[_,SqL.of C,.str Fr[0],cJ (by rw[Zl,Z4 c];rfl),z,q,oq,Fr[0],t,ks,L,U,m,g,S,T',rfl,an,p _ _ hq,⋯,l.mat,ask,h0,sh,fU,fL|λH5 L' m' keep a7 a1 a8 a9 e5 e6=>k5 _ _ %[%[_,_,_|rfl],λc o e=>keep c o (ay e fb) (I _ _ e),L',m',a7,a1,λx b=>?_,λx b=>?_,S,T',a8|λa ha=>?_]]
    .rcases e5 x b with e|⟨y,yl,e⟩
     .exact mt.mpr (.inr e)
     .exact mt.mpr (.inl (e▸l.mn y yl))
    .exact((a9 x).mp b).elim (l.ln x) λe=>e▸un _ fU
    .rcases mt.mp ha with h|h
     .exact(all a h).imp_left λh=>e6 a (.inr h)
     .exact .inl (e6 a (.inl h))
   .have e:∀x∈U,x∈L:=λx b=>Decidable.byContradiction λn=>by
     have:=fl.mpr %[b|n];cases Fr with
     | nil=>cases this
     | cons y Fr=>exact c (Zf (by rw[Zr];lia))
    refine k5 _ _ %[%[_,_,_|rfl],I,L,m,an,l.mat,λx b=>mt.mpr (.inl (l.mn x b)),l.ln,_,_,sh.or (Ask.closed e ((a5.resolve_left λ⟨f,h1,h2⟩=>h2 (e f h1)).2))|λa ha=>?_];rcases mt.mp ha with h|h
    .exact(all a h).imp_right .inl
    .exact .inr (.inr (.inl (h▸Zm)))
  .intro G B %[%[o2,o3,o4|rfl],sm,L,m,hh|l];rw[gl,<-Z6 (f:=(·.1)) (as:=rs),Zn (Zi _)]at l;refine k2 _ _ ?_;lk;have%[S,T',sh|all]:=l.sh;exact kk z B L m sm fb hh %[l.mat,λx b=>(Y _).mp (l.mn x b),l.ln,S,T',sh|λa ha=>all a ((Y a).mpr ha)]
inductive xN (vs:ZM) (H:Hp) (Q:VK) (E0:XK):Prop
 | mk (d) (hb) (o) (ks) (rs) (ns) (L) (m) (z0:vs=[.ref d,.ref hb]) (z1:ReF H ks d rs) (z2:(∀x,x∈rs.map (·.1)↔x∈ns)) (z3:(∀x y,Rch ks x y->y∈ns)) (z4:ns.length<=80) (z5:ns.Nodup) (z6:H hb=some (.frz o (.dK (TD L m)))) (z7:hW ks ns L m ns) (z8:∀l H' (lf:ZB),ah H H'->H' l=some (.lst (lf.map V.str))->lf.length=L.length->(∀a b,a∈ns->Rch ks a b->a∈lf\/b∈lf)->Q (.ref l) H'):xN vs H Q E0
theorem jG(T:Txt K mg):↥2 "one_of_each_pair" ["partners","held_by"] xN:=by
 refine T.aR.cal cZ (λH vs Q E h=>?_)
 .have%[d,hb,o,ks,rs,ns,L,m,rfl,re,rk,rn,nl,nn,hh,pr|kk]:=h;refine%[rfl|λf a8 A outer s hr=>?_];have%[od|hd]:=re.at_;have rl:rs.length<=80:=by
   have:=STab.nodup_sub re.nd λx l=>(rk x).mp l
   rw[Z6]at this
   lia
  have Ll:=STab.nodup_sub pr.mat.nd pr.ln;refine%[_,%["JC%2deF~kA1BC%3deF~,A0A1AmZ?1~W0W0?2,)0N10BDImZ?3~+1fMW0?4MW1?4gq]%~R0N201",cZ.nd,(show bH (am bR) ["partners","held_by","holds","asked_by"] _ ["asker","holds"] [(1,2)]=true from by decide +kernel),(show(["asker","holds"]:ZB).Nodup from by decide +kernel),(show bH (am bR) ["partners","held_by","holds","asked_by"] _ ["partner","asker","asked_by"] [(2,3)]=true from by decide +kernel),(show(["partner","asker","asked_by"]:ZB).Nodup from by decide +kernel)|hr]|?_]
  show be _ _ _ [!d,!hb,none,none] H;refine ap λD1 k1 _=>?_
  lk;refine%[hb,L,m,rfl,.inr %[o|hh],⋯,pr.mat.nd,pr.mat.inj|λt H1 i s1 ft ht hi=>k1 _ _ (ap λD2 k2 _=>?_)];lk;refine aE λai hK=>?_
  unfold qW;lk;have M:=s1 _ _ hd;refine%[_,_,M|hK _ _ λF hF=>?_]
  generalize eN:rs.map (·.1)=N at rk
  have Nl:N.length=rs.length:=by rw[<-eN,Z6]
  have gl:(gD rs).length=N.length:=by rw[Nl];exact Z6 _
  have kN:∀(j:Nat) k v,(gD rs)[j]? =some (k,v)->∃x,N[j]? =some x/\k=Sum.inr x:=λj k v h=>by
   unfold gD at h;rw[Zl]at h;have%[r,h1|h2]:=map_eq_some_iff.mp h;exact%[r.1,by rw[<-eN,Zl,h1];rfl|(congrArg (·.1) h2).symm]
  refine bi (J:=Itk d od (gD rs)) (n:=N.length) (D:=F) (λj vs I H2=>(∃O,I=[O,!t])/\ah H1 H2/\H2 F=some (.lst vs)/\vs=((N.take j).filter λx=>decide (x∉L.map m)).map V.str)
   %[%[none|rfl],ah.upd hF,aa|rfl] (λj _ _ H2 C p=>%[p.2.1 _ _ M|by rw[gl];exact C]) (λ_ _ H2 p=>%[p.2.1 _ _ M|by exact gl▸Zi _]) ?_ ?_
  .intro j vs I H2 C %[%[O|rfl],B,aj|rfl] x H3 %[e2,kx,vx,l|rfl];subst e2;have%[z,hz|rfl]:=kN j kx vx l;have tk:N.take (j+1)=N.take j++[z]:=by rw[Xb,hz];rfl
   lk;refine%[_,cf.k (k:=Sum.inr z) (B _ _ ht)|bx (λc=>?_) λc=>?_]
   .have n:z∉L.map m:=λh=>by rw[cQ.1.mpr h]at c;cases c
    refine CK.mk C aj (by rw[Z6];have:=Yj (λx=>decide (x∉L.map m)) (N.take j);rw[Ym]at this;exact aC ⋯) %[%[_|rfl],ah.set B hF,aa|?_];rw[tk,Y3,Zd,Y6 (by simpa using n)];rfl
   .have n:z∈L.map m:=cQ.1.mp (by cases h:(bJ (TD (L.map m) i) (Sum.inr z)).isSome with
     | true=>rfl
     | false=>rw[h]at c;exact absurd rfl c)
    refine CN.mk C %[%[_|rfl],B,aj|?_];rw[tk,Y3,Zd,Y4 (by simpa using n)];simp
  intro vs I H2 %[_,B,Y|rfl];rw[Zn (Zi _)]at Y;have fl:∀{x},x∈N.filter (λx=>decide (x∉L.map m))↔x∈N/\x∉L.map m:=λ{x}=>by rw[List.mem_filter,decide_eq_true_iff]
  have a2:=Yj (λx=>decide (x∉L.map m)) N
  generalize N.filter (λx=>decide (x∉L.map m))=A0 at Y fl a2
  have ab:=s1.trans B;have%[S,T',sh|all]:=pr.sh;have a3:∀x∈A0,S x:=λx l=>(all x ((rk x).mp (fl.mp l).1)).resolve_left λ⟨y,yl,e⟩=>(fl.mp l).2 (Xr %[y,yl|e])
  refine%[d,hb,F,ks,rs,ns,L,A0,m,rfl,re.up ab,eN▸rk,rn,nl,nn,.inr %[o|ab _ _ hh],pr.mn,Y,λx l=>(rk x).mp (fl.mp l).1,⋯|λq oq H3 U g s3 hq ask un a4=>k2 _ _ ?_];have a5:=ask.shut sh a3;have cl:=(a4.resolve_left λ⟨f,h1,h2⟩=>h2 (sh.mt f (a5 f h1)).1)
  have al:=ab.trans s3;have ac:=al _ _ hh;refine aE λai hK=>?_
  unfold wq;lk;refine%[_,_,ac|hK _ _ λG hG=>?_];have tl:(TD L m).length=L.length:=Z6 _;refine bi (J:=Iti hb o (TD L m)) (n:=L.length) (D:=G) (λj vs I u=>(∃O o2,I=[O,o2,!q])/\ah H3 u/\u G=some (.lst vs)/\vs=((L.take j).map λx=>if x∈U then x else m x).map V.str)
   %[%[none,none|rfl],ah.upd hG,aa|rfl] (λj _ _ u C p=>%[p.2.1 _ _ ac|tl▸C]) (λ_ _ u p=>%[p.2.1 _ _ ac|tl▸Zi _]) ?_ ?_
  .intro j vs I u C %[%[O,o2|rfl],ae,a6|rfl] x H5 %[kx,vx,tp,l,a7,rfl|rfl];unfold TD VD at l;rw[Zl,Z4 C]at l;obtain⟨rfl,rfl⟩:Sum.inr L[j]=kx/\V.str (m L[j])=vx:=%[congrArg (·.1) (Za l)|congrArg (·.2) (Za l)]
   have s5:=ah.upd (o:= .tup [kV (Sum.inr L[j]),.str (m L[j])]) a7;have as:upd u tp (.tup [kV (Sum.inr L[j]),.str (m L[j])]) tp=some (.tup [.str L[j],.str (m L[j])]):=aa;have ag:=ae.trans s5;have a0:=s5 _ _ a6
   generalize upd u tp (.tup [kV (Sum.inr L[j]),.str (m L[j])])=H5 at as ag a0 ⊢
   have tk:L.take (j+1)=L.take j++[L[j]]:=by rw[Xb,Z4 C];rfl
   refine%[_,SqT.of as,rfl,_,_,rfl,_,_,rfl,rfl|?_];show yv [some (.str L[j]),some (.str (m L[j])),!q] H5 _;lk;have put:∀y,(if L[j]∈U then L[j]else m L[j])=y->CK G L.length j (λj vs I u=>(∃O o2,I=[O,o2,!q])/\ah H3 u/\u G=some (.lst vs)/\vs=((L.take j).map λx=>if x∈U then x else m x).map V.str) (((L.take j).map λx=>if x∈U then x else m x).map V.str) [some (.str L[j]),some (.str (m L[j])),!q] (.str y) H5:=λy e=>by
    refine CK.mk C a0 (by rw[Z6,Z6,Ym];exact aC ⋯) %[%[_,_|rfl],ah.set ag hG,aa|?_];rw[tk,Zd,Zd,<-e];rfl
   refine%[_,(.inl %[_,Sum.inr L[j],.inr %[oq|ag _ _ hq],rfl|rfl])|bx (λc=>put _ (if_pos (cQ.1.mp c))) λc=>put _ (if_neg λh=>c (cQ.1.mpr h))]
  intro vs I u %[_,ae,a1|rfl];rw[Zn (Zi _)]at a1;refine kk G u _ (al.trans ae) a1 (Z6 _) λa b an r=>?_
  have mem:∀x∈L,(if x∈U then x else m x)∈L.map λx=>if x∈U then x else m x:=λx l=>Xr %[x,l|rfl]
  by_cases c:a∈A0\/∃y∈U,y∈L/\m y=a
  .have bU:=cl.2 a c b r;have:=mem b (cl.1 b bU);rw[if_pos bU]at this;exact .inr this
  .have%[y,yl|rfl]:=Xq (Decidable.byContradiction λn=>c (.inl (fl.mpr %[(rk a).mpr an|n])));have:=mem y yl;rw[if_neg (λh=>c (.inr %[y,h,yl|rfl]))]at this;exact .inl this
inductive B4 (vs:ZM) (H:Hp) (Q:VK) (E0:XK):Prop
 | mk (d) (hb) (ks) (rs) (ns) (L) (m) (z0:vs=[.ref d,.ref hb]) (z1:ReF H ks d rs) (z2:(∀x,x∈rs.map (·.1)↔x∈ns)) (z3:(∀x y,Rch ks x y->y∈ns)) (z4:ns.length<=80) (z5:ns.Nodup) (z6:H hb=some (.dK (TD L m))) (z7:hW ks ns L m ns) (z8:∀l H' (lf:ZB),ah H H'->H' l=some (.lst (lf.map V.str))->lf.length=L.length->(∀a b,a∈ns->Rch ks a b->a∈lf\/b∈lf)->Q (.ref l) H'):B4 vs H Q E0
theorem kc(T:Txt K mg):↥2 "one_of_each_pair" ["partners","held_by"] B4:=by
 refine(jG T).frozen.imp λvs H Q E zqw=>?_;have%[d,a,ks,rs,n,L,m,g,b,p,q,s,t,h,v|y]:=zqw;refine  .inr %[a,_,by rw[g];rfl,h|λo=>?_]
 have ne:∀{c:Addr} {f:Obj} {u:HO},H c=some (.frz f u)->c≠a:=λe z=>by lia
 refine%[d,a,o,ks,rs,n,L,m,g,%[b.at_.imp λ_ e=>(ao (ne e))▸e,b.nd|λr i=>%[(b.in_ r i).1.imp λ_ e=>(ao (ne e))▸e|(b.in_ r i).2]],p,q,s,t,aa,v|λl I lf j A B C=>?_];have J:=j _ _ (aa);have G:l≠a:=λz=>by lia
 refine y l _ lf (λc f e=>?_) ((ao G)▸A) B C;by_cases z:c=a
 .rw[z]at e ⊢;rw[h]at e;rw[aa];exact e
 .rw[ao z];exact j c f ((ao z)▸e)
open Classical in
noncomputable def dep(ks:List ZB)(a:ZB)(x:Str):Nat:=(a.filter λy=>decide (Rch ks x y)).length
open Classical in
theorem Gc(b:a.Nodup)(c:∀x,¬ Rch ks x x)(r:Rch ks x y)(d:y∈a):dep ks a y<dep ks a x:=by
 unfold dep;have:=STab.nodup_sub (l:=y::a.filter λz=>decide (Rch ks y z)) (m:=a.filter λz=>decide (Rch ks x z)) (nodup_cons.mpr %[λh=>c y (Zo (List.mem_filter.mp h).2)|b.filter _]) λz e=>by
  rcases mem_cons.mp e with rfl|h
  .exact List.mem_filter.mpr %[d|Zf r]
  .exact List.mem_filter.mpr %[(List.mem_filter.mp h).1|Zf (r.trans (Zo (List.mem_filter.mp h).2))]
 rw[Zr]at this
 lia
open Classical in
theorem Gd(x:Str):dep ks a x<=a.length:=Yj _ _
inductive xO (vs:ZM) (H:Hp) (Q:VK) (E0:XK):Prop
 | mk (f:Str) (e:Addr) (ks:List _) (ns W:ZB) (i:Str->Str) (z0:vs=[.str f,.ref e]) (z1:H e=some (.dK (TD W i))) (z2:(∀a∈W,Rch ks a (i a)/\i a∈ns)) (z3:(∀x,¬ Rch ks x x)) (z4:ns.Nodup) (z5:ns.length<=80) (z6:∀r H' (zs:ZB),ah H H'->H r=none->H' r=some (.lst (zs.map V.str))->Q (.ref r) H'):xO vs H Q E0
def Hb(H:Hp)(f:Str)(e r:Addr)(ks:List ZB)(b:ZB)(n:Nat)(c:L2.St)(a:Hp):Prop:=c=[-f,!e,!r]/\ah H a/\∃zs y,a r=some (.lst ((zs++[y]).map V.str))/\n=dep ks b y/\zs.length+n<=80
theorem hW.size(f:d.Nodup)(h:hW ks d L m d)(h':hW ks d l q d):(d.filter λx=>decide (x∉L)).length<=(d.filter λx=>decide (x∉l)).length:=by
 have%[S,T,g|all]:=h.sh
 let lf:=λx=>open Classical in if T x then x else m x
 refine Yh (uE f h.mat.nd h.ln (lf:=L.map lf) (Z6 _)) (sU (λa b c h k=>h.trans k) f h'.mat h'.mn (f.filter _) (λx n=>(List.mem_filter.mp n).1) λa i b o r=>?_);rcases Classical.em _ with s|s
 .have j:=g.nb a s b r;exact(Zo (List.mem_filter.mp o).2) (Xr %[b,(g.mt b j).1|if_pos j])
 .have%[x,p|e]:=(all a (List.mem_filter.mp i).1).resolve_right s;exact(Zo (List.mem_filter.mp i).2) (Xr %[x,p|(if_neg λt=>s (e▸(g.mt x t).2)).trans e])
theorem hW.of(h:hW ks c L m c)(e:∀x,x∈c↔x∈d):hW ks d L m d:=by
 have%[S,T,f|all]:=h.sh;exact%[h.mat,λx b=>(e _).mp (h.mn x b),λx b=>(e x).mp (h.ln x b),S,T,f|λa g=>all a ((e a).mpr g)]
theorem Eg(d:∀k∈lk,dS c k)(e:Ed lk a b):a∈c/\b∈c:=by
 have%[z|f]:=e;have%[x,y,u,e,g|h]:=d _ f
 grind
theorem B5(c:∀k∈lk,dS d k)(r:Rch lk a b):a∈d/\b∈d:=by
 induction r with
 | one e=>exact Eg c e
 | more _ e f=>exact%[f.1|(Eg c e).2]
theorem u9{b c:ZB}(d:b.Nodup)(f:c.Nodup)(e:∀x,x∈b↔x∈c)(p:Str->Bool):(b.filter p).length=(c.filter p).length:=
 Nat.le_antisymm (STab.nodup_sub (d.filter _) λx a=>List.mem_filter.mpr %[(e x).mp (List.mem_filter.mp a).1|(List.mem_filter.mp a).2]) (STab.nodup_sub (f.filter _) λx a=>List.mem_filter.mpr %[(e x).mpr (List.mem_filter.mp a).1|(List.mem_filter.mp a).2])
inductive B6 (mg:ZC) (vs:ZM) (H:Hp) (Q:VK) (E0:XK):Prop
 | mk (g) (qs) (ls) (ts) (z0:vs=[.ref g]) (z1:iX mg H g qs ls ts) (z2:(∀lk,bM (bw qs) (ts.map (·.2)) lk->∀x,¬ Rch lk x x)) (z3:∀l H' lk ns L m ys,ah H H'->bM (bw qs) (ts.map (·.2)) lk->jp (bw qs) ls ns->hW lk ns L m ns->H' l=some (.lst ys)->ys.length=(ns.filter λx=>decide (x∉L)).length->Q (.ref l) H'):B6 mg vs H Q E0
theorem wI(T:Txt K mg):↥1 "row_from" ["first","earlier_behind"] xO:=by
 refine T.aY.cal mS (λH vs Q E h=>?_)
 .have%[f,e,ks,b,W,i,rfl,q,hi,v,z,nl|B]:=h;refine%[rfl|λ_ u A outer s p=>?_];refine%[_,%["JCH2SA0BC=~RU2*E1DVlh2Ai1U2*EBDI2",mS.nd|p]|?_]
  show be _ _ _ [-f,!e,none] H;refine ap λI k1 _=>?_
  lk;refine%[#[1]|λr j=>k1 _ _ (ap λJ k2 _=>%[Hb H f e r ks b,%[_,rfl,(ah.upd (o:= .lst [V.str f]) j),[],f,aa,rfl|by rw[length_nil,zero_add];exact Yh (Gd f) nl]|?_])];intro n L C %[rfl,d,zs,y,a,rfl|le];rw[Zd]at a;lk;refine%[_,SqL.of a,_,ki _ _,_,cf.k (k:=Sum.inr y) (d _ _ q)|bx (λc=>?_) λc=>?_]
  .have l:=cQ.1.mp c;have g:=cf.k (k:=Sum.inr y) (d _ _ q);rw[cQ.2 l]at g;have lt:=Gc z v (hi y l).1 (hi y l).2;refine⟨λm G=>∃t,t<dep ks b y/\Hb H f e r ks b t m G,λ_ _ h=>h,.inl %[_|SqL.of a],_,SqL.of a,_,ki _ _,_,g,_,a,by rw[Z9,Z6,List.map_singleton,Yl];exact aC ⋯,_,lt,rfl,ah.set d j,zs++[y],i y,by rw[aa,Zd,Zd];rfl,rfl,?_⟩;rw[Z9,Yl]
   lia
  .refine k2 _ _ ?_;lk;exact B r C (zs++[y]) d j (by rw[a,Zd])
theorem qk(T:Txt K mg):↥8 "fewest_rows" ["ground"] (B6 mg):=by
 refine T.aX.cal fO (λH vs Q E h=>?_)
 .have%[g,qs,ls,ts,rfl,G,nr|kk]:=h;refine%[rfl|λf al A outer s C=>?_];have%[c2,c3,c4|gr]:=G.gr;have ll:=G.ll;have e:∀{I:ZB},jp (bw qs) ls I->I.length<=80:=λ{I} l=>by
   have:=STab.nodup_sub l.nd λx hx=>((l.mem x).mp hx).1
   lia
  refine%[_,%["JC%1deF~.AF~/A0BBC%2deF~kAN1BDImZ?1QF~OA0BW0?2,)0N2F]&A0AN1B",fO.nd,(show bH (am eC) ["ground","later_ahead","earlier_behind"] _ ["name","earlier_behind","later_ahead"] [(1,2),(2,1)]=true from by decide +kernel),(show(["name","earlier_behind","later_ahead"]:ZB).Nodup from by decide +kernel)|C]|?_]
  show be _ _ _ [!g,none,none] H;refine ap λD1 k1 _=>?_
  lk;refine%[g,qs,ls,ts,rfl,G,nr|λd H1 rs lk I s1 p l re rk=>%[d,lk,rs,I,rfl,re,rk,λx y r=>(B5 (G.names p l) r).2,e l,l.nd|λhb H2 L m s2 fb hh q=>k1 _ _ (ap λD2 k2 _=>?_)]];have ab:=s1.trans s2;have Ll:=STab.nodup_sub q.mat.nd q.ln;have ac:=e l;lk;refine%[hb,L,m,rfl,.inl hh,⋯,q.mat.nd,q.mat.inj|λt H3 i s3 ft ht hi=>k2 _ _ ?_];have N:=ab.trans s3;refine aE λaj hK=>?_
  lk;refine%[g,c2,c3,c4,qs,ls,ts,rfl,gr.up N,G.nd,G.so,⋯|λo H4 b s4 fm hm u=> .inl %[o,rfl,%[_|SqL.of hm]|hK _ _ λF hF=>?_]];have ae:=s4 _ _ (s3 _ _ hh);have ag:=s4 _ _ ht;have an:=e u;refine bi (J:=Itl K o) (n:=b.length) (D:=F) (λj vs σ v=>(∃o1,σ=[o1,!t,!hb])/\ah H4 v/\v F=some (.lst vs)/\vs.length=((b.take j).filter λx=>decide (x∉L)).length)
   %[%[none|rfl],ah.upd hF,aa|rfl] (λj _ _ v O z=>%[_,V.str b[j],SqL.of (z.2.1 _ _ hm)|by simp]) (λ_ _ v z=>%[_,SqL.of (z.2.1 _ _ hm)|by simp]) ?_ ?_
  .intro j vs σ v O %[%[o1|rfl],B,U|M] x H6 %[e2|hx];subst e2;have Y:=hx _ (SqL.of (B _ _ hm));rw[Zl,Z4 O]at Y;obtain rfl:x=V.str b[j]:=(Za Y).symm;have tk:b.take (j+1)=b.take j++[b[j]]:=by rw[Xb,Z4 O];rfl
   lk;refine%[_,cf.k (k:=Sum.inr b[j]) (B _ _ ae)|bx (λc=>?_) λc=>?_]
   .have n:b[j]∉L:=λh=>by rw[cQ.1.mpr h]at c;cases c
    refine%[b[j],t,lk,I,L.map m,i,rfl,B _ _ ag,λa ha=>?_,nr _ p,l.nd,ac|λr H6 zs s6 fr as=>?_]
    .have%[x,xl|rfl]:=Xq ha;rw[hi x xl];exact%[q.mat.ed x xl|q.ln x xl]
    .have:=Yj (λx=>decide (x∉L)) (b.take j);rw[Ym]at this;refine CK.mk O (s6 _ _ U) (M▸aC ⋯) %[%[_|rfl],ah.set (B.trans s6) hF,aa|?_];rw[tk,Y3,Y6 (by simpa using n),Z9,Z9,M];rfl
   .have n:b[j]∈L:=cQ.1.mp (by cases h:(bJ (TD L m) (Sum.inr b[j])).isSome with
     | true=>rfl
     | false=>rw[h]at c;exact absurd rfl c)
    refine CN.mk O %[%[_|rfl],B,U|?_];rw[tk,Y3,Y4 (by simpa using n),Z9,M];rfl
  intro vs σ v %[_,B,ai|M];rw[Zn (Zi _)]at M;have eq:=λx=>(l.mem x).trans (u.mem x).symm
  exact kk F v lk b L m vs (N.trans (s4.trans B)) p u (q.of eq) ai M
inductive xP (mg:ZC) (vs:ZM) (H:Hp) (Q:VK) (E0:XK):Prop
 | mk (g:Addr) (qs:ZN) (ls:ZB) (ts:ZG) (z0:vs=[.ref g]) (z1:iX mg H g qs ls ts) (z2:(∀lk,bM (bw qs) (ts.map (·.2)) lk->∀x,¬ Rch lk x x)) (z3:∀l H' lk (ns L:ZB) (m:Str->Str) (ys:ZB),ah H H'->bM (bw qs) (ts.map (·.2)) lk->jp (bw qs) ls ns->hW lk ns L m ns->H l=none->H' l=some (.lst (ys.map V.str))->ys.length=(ns.filter λx=>decide (x∉L)).length->ys.Nodup->ys.Pairwise (λa b=>aV b a=false)->(∀a∈ys,a∈ns/\∀b∈ys,¬ Rch lk a b)->Q (.ref l) H'):xP mg vs H Q E0
theorem va(T:Txt K mg):↥8 "widest" ["ground"] (xP mg):=by
 refine T.aZ.cal lZ (λH vs Q E h=>?_)
 .have%[g,qs,ls,ts,rfl,B,nr|kk]:=h;refine%[rfl|λf aj A outer s hr=>?_];have%[c2,c3,c4|gr]:=B.gr;have ll:=B.ll;have l:∀{q:ZB},jp (bw qs) ls q->q.length<=80:=λ{q} p=>by
   have:=STab.nodup_sub p.nd λx G=>((p.mem x).mp G).1
   lia
  refine%[_,%["JCH1F~/A0BC%2deF]'A1AF~.A1BBDImZ?1QF~OA0BW0?2,L](0N10",lZ.nd,(show bH (am kY) ["ground","reach","left_out"] _ ["name","left_out"] [(1,2)]=true from by decide +kernel),(show(["name","left_out"]:ZB).Nodup from by decide +kernel)|hr]|?_]
  show be _ _ _ [!g,none,none] H;refine ap λD1 k1 _=>?_
  lk;refine%[g,qs,ls,ts,rfl,B,nr|λd H1 rs lk q s1 I p re rk=>k1 _ _ (ap λD2 k2 _=>?_)];have rn:∀x y,Rch lk x y->y∈q:=λx y r=>(B5 (B.names I p) r).2
  lk;refine%[d,lk,rs,q,rfl,re,rk,rn,l p,p.nd|λhb H2 L m s2 fb hh pr=>?_];refine%[d,hb,lk,rs,q,L,m,rfl,re.up s2,rk,rn,l p,p.nd,hh,pr|λlo H3 lf s3 ab ac ae=>k2 _ _ ?_];have u:=s1.trans (s2.trans s3);refine aE λai hK=>?_
  lk;refine%[g,c2,c3,c4,qs,ls,ts,rfl,gr.up u,B.nd,B.so,⋯|λt H4 i s4 fm hm e=> .inl %[t,rfl,%[_|SqL.of hm]|hK _ _ λF hF=>?_]];have al:=l e;refine bi (J:=Itl K t) (n:=i.length) (D:=F) (λj vs σ v=>(∃o1,σ=[o1,!lo])/\ah H4 v/\v F=some (.lst vs)/\vs=((i.take j).filter λx=>decide (x∉lf)).map V.str)
   %[%[none|rfl],ah.upd hF,aa|rfl] (λj _ _ v M z=>%[_,V.str i[j],SqL.of (z.2.1 _ _ hm)|by simp]) (λ_ _ v z=>%[_,SqL.of (z.2.1 _ _ hm)|by simp]) ?_ ?_
  .intro j vs σ v M %[%[o1|rfl],C,N|rfl] x H6 %[e2|G];subst e2;have O:=G _ (SqL.of (C _ _ hm));rw[Zl,Z4 M]at O;obtain rfl:x=V.str i[j]:=(Za O).symm;have tk:i.take (j+1)=i.take j++[i[j]]:=by rw[Xb,Z4 M];rfl
   lk;refine%[_,.inl (SqL.of (C _ _ (s4 _ _ ab))),rfl,rh lf|?_];rw[tf];refine bx (λc=>?_) λc=>?_
   .have n:i[j]∉lf:=λh=>by rw[Zf h]at c;cases c
    refine CK.mk M N (by rw[Z6];have:=Yj (λx=>decide (x∉lf)) (i.take j);rw[Ym]at this;exact aC ⋯) %[%[_|rfl],ah.set C hF,aa|?_];rw[tk,Y3,Zd,Y6 (by simpa using n)];rfl
   .have n:i[j]∈lf:=Decidable.byContradiction λh=>by rw[Zh h]at c;exact c rfl
    refine CN.mk M %[%[_|rfl],C,N|?_];rw[tk,Y3,Zd,Y4 (by simpa using n)];simp
  intro vs σ v %[_,C,U|rfl];rw[Zn (Zi _)]at U;have eq:∀x,x∈q↔x∈i:=λx=>(p.mem x).trans (e.mem x).symm
  have Y:=pr.of eq;have o:∀a∈i.filter (λx=>decide (x∉lf)),a∈i/\∀b∈i.filter (λx=>decide (x∉lf)),¬ Rch lk a b:=λa ha=>%[(List.mem_filter.mp ha).1|λb ag r=>by
   have na:=Zo (List.mem_filter.mp ha).2;have nb:=Zo (List.mem_filter.mp ag).2;exact(ae a b ((eq a).mpr (List.mem_filter.mp ha).1) r).elim na nb]
  exact kk F v lk i L m _ (u.trans (s4.trans C)) I e Y ((u.trans s4).free hF) U (Nat.le_antisymm (sU (E:=Rch lk) (λa b c h k=>h.trans k) e.nd Y.mat Y.mn (e.nd.filter _) (λx G=>(o x G).1) λa ha=>(o a ha).2) (uE e.nd Y.mat.nd Y.ln ac)) (e.nd.filter _) (e.so.filter _) o
noncomputable def qo(k:Nat)(d:Str->Nat)(new:Gs Str)(x:Str):V:= .int ((if x∈new.map (·.1)then k+1 else d x:Nat))
def Hd(H:Hp)(l d:Addr)(st:Str)(ss:ZG)(m:Nat)(c:L2.St)(a:Hp):Prop:=∃(e:Addr) (k:Nat) (f g h i:Option V) (F:ZB) (rs:Gs Str) (b:Str->Nat),c=[!l,-st,!d,!e,some (.int k),f,g,h,i]/\ah H a/\a e=some (.lst (F.map V.str))/\a d=some (.dK (VD (rs.map (·.1)) λx=> .int (b x)))/\ReB ss rs/\Lev (ss.map (·.2)) st rs b k F/\m=2*(98-rs.length) +F.length.min 1
inductive vb (vs:ZM) (H:Hp) (Q:VK) (E0:XK):Prop
 | mk (l:Addr) (st:Str) (ns:ZB) (ss:ZG) (z0:vs=[.ref l,.str st]) (z1:H l=some (.lst (ss.map λt=>V.ref t.1))) (z2:dO H ns ss) (z3:ss.length<=98) (z4:∀d H' (R:ZB) (f:Str->Nat),ah H H'->H d=none->H' d=some (.dK (VD R λx=> .int (f x)))->R.length<=98->(∀x,x∈R↔Rch (ss.map (·.2)) st x)->Q (.ref d) H'):vb vs H Q E0
theorem vc(T:Txt K mg):↥1 "_law_steps" ["_law_some","_law_begin"] vb:=by
 refine T.bt.cal bB (λH vs Q E h=>?_)
 .have%[l,st,ns,ss,rfl,hl,as,a6|kk]:=h;refine%[rfl|λf a5 A outer s M=>?_];have a0:(ss.map λt=>V.ref t.1).length=ss.length:=Z6 _;refine%[_,%["JCH2vCH3SA1BCH4EC=L~:3SBCH4Gx4ECH5SBCTQ0fMK6MK7MK8gDOcwL^63$)72Cs427DVlh5A7BPDH35DI2",bB.nd|M]|?_]
  show be _ _ _ [!l,-st,none,none,none,none,none,none,none] H;refine ap λD1 k1 _=>?_
  lk;intro d fd;refine k1 _ _ (ap λD2 k2 _=>?_);have s1:=ah.upd (o:= .dK []) fd;have j:upd H d (.dK []) d=some (.dK (VD (([]:Gs Str).map (·.1)) λ_=> .int (0:Nat))):=aa
  generalize upd H d (.dK [])=H1 at s1 j
  lk;refine%[#[1]|λe fe=>k2 _ _ (ap λD3 k3 _=>?_)];have s2:=ah.upd (o:= .lst [V.str st]) fe;have u:upd H1 e (.lst [V.str st]) e=some (.lst ([st].map V.str)):=aa;have j:=s2 _ _ j;have ac:=s1.trans s2
  generalize upd H1 e (.lst [V.str st])=H2 at ac u j
  lk;refine k3 _ _ (ap λD4 k4 _=>?_);refine%[Hd H l d st ss,%[_,e,0,none,none,none,none,[st],[],_,rfl,ac,u,j,%[X6|λ_ h=>(nomatch h)],.nil|rfl]|?_];intro m σ H3 %[e,k,o5,o6,o7,o8,F,rs,J,rfl,C,u,j,ae,ab|rfl];have Rl:=ae.len;lk;refine%[#[0]|λp fp=>%[F.map V.str,ah.upd fp _ _ u,aa|bx (λh=>?_) λh=>?_]]
  .have s3:=ah.upd (o:= .lst []) fp;have u:=s3 _ _ u;have j:=s3 _ _ j;have C:=C.trans s3
   generalize upd H3 p (.lst [])=H4 at u j C ⊢
   refine⟨λa1 I=>∃m',m'<2*(98-rs.length) +F.length.min 1/\Hd H l d st ss m' a1 I,λ_ _ h=>h,#[0],λN G=>az λa4 hK=>?_⟩;have s4:=ah.upd (o:= .lst []) G;have ag:upd H4 N (.lst []) N=some (.lst ((([]:Gs Str).map (·.1)).map V.str)):=aa;have mod:N≠d:=λc=>by rw[c,j]at G;cases G
   have a2:N≠e:=λc=>by rw[c,u]at G;cases G
   have ed:e≠d:=λc=>by rw[c,j]at u;cases u
   have G:=C.free G;have u:=s4 _ _ u;have j:=s4 _ _ j;have C:=C.trans s4
   generalize upd H4 N (.lst [])=H5 at ag u j C ⊢
   lk;refine .inl %[%[_|SqL.of (C _ _ hl)]|hK _ _ ?_];refine bh (xs:=ss.map λt=>V.ref t.1) (λi σ I=>(∃o6 o7 o8,σ=[!l,-st,!d,!e,some (.int ((k:Int) +1)),!N,o6,o7,o8])/\ah H I/\I e=some (.lst (F.map V.str))/\∃new:Gs Str,I N=some (.lst ((new.map (·.1)).map V.str))/\I d=some (.dK (VD ((rs++new).map (·.1)) (qo k J new)))/\ReB ss (rs++new)/\(∀r∈new,∃p z,p∈F/\r.2.2=[p,r.1,z])/\∀t∈ss.take i,∀x y,t.2[0]? =some x->t.2[1]? =some y->x∈F->y∈(rs++new).map (·.1))
    %[%[_,_,_|rfl],C,u,[],ag,by rw[Zz];exact j,by rw[Zz];exact ae,λr M=>(nomatch M)|λt ht=>(nomatch ht)] (λi σ I _ h=>SqL.of (h.2.1 _ _ hl)) ?_ ?_
   .intro i v σ I U %[%[o6,o7,o8|rfl],C,u,new,Y,j,b,L|B];rw[Zl]at U;have%[t,ht|rfl]:=map_eq_some_iff.mp U;have ai:=Z8 ht;have%[aj,x,y,z,et|_]:=as t ai;rw[et]at aj;have tk:ss.take (i+1)=ss.take i++[t]:=by rw[Xb,ht];rfl
    have a3:=b.len;rw[Z9]at a3;have go:∀M':Gs Str,(∀a∈(rs++new).map (·.1),a∈(rs++M').map (·.1))->(x∈F->y∈(rs++M').map (·.1))->∀t∈ss.take (i+1),∀x y,t.2[0]? =some x->t.2[1]? =some y->x∈F->y∈(rs++M').map (·.1):=λM' mono hy t' al x' y' e1 e2 an=>by
     rw[tk]at al;rcases Xo al with q|q
     .exact mono y' (B t' q x' y' e1 e2 an)
     .rw[Xp q,et]at e1 e2;obtain rfl:x=x':=Za e1;obtain rfl:y=y':=Za e2;exact hy an
    refine%[_,SqT.of (C _ _ aj),rfl,_,_,rfl,_,_,rfl,_,_,rfl,rfl|?_];show mX _ _ _ _ [!l,-st,!d,!e,some (.int ((k:Int) +1)),!N,-x,-y,-z] I;refine aD λD5 k5 _=>?_
    lk;refine%[_,.inl (SqL.of u),rfl,by simp[fV]|?_];rw[tf];refine bx (λO=>?_) λO=>?_
    .have O:=Zo O;refine%[_,cf.k (k:=Sum.inr y) j|bx (λU=>?_) λU=>?_]
     .have hy:y∉(rs++new).map (·.1):=λc=>by rw[gK c]at U;cases U
      refine%[_,iU.k (k:=Sum.inr y) j (by unfold VD;rw[Z6,Z6,Z9];exact aC ⋯)|?_];rw[eG _ (eF hy)];have e1:VD ((rs++new).map (·.1)) (qo k J new) ++[(Sum.inr y,V.int ((k:Int) +1))]=VD ((rs++(new++[(y,t.1,[x,y,z])])).map (·.1)) (qo k J (new++[(y,t.1,[x,y,z])])):=by
       have e0:(rs++(new++[(y,t.1,[x,y,z])])).map (·.1)=(rs++new).map (·.1) ++[y]:=by simp
       have yn:y∈(new++[(y,t.1,[x,y,z])]).map (·.1):=by simp
       unfold VD;rw[e0,Zd (l₂:=[y])];rw[List.map_singleton,show qo k J (new++[(y,t.1,[x,y,z])]) y= .int ((k:Int) +1) by unfold qo;rw[if_pos yn];rfl];refine congrArg (λl=>l++[(Sum.inr y,V.int ((k:Int) +1))]) (Yq λa ha=>?_);have:a∈(new++[(y,t.1,[x,y,z])]).map (·.1)↔a∈new.map (·.1):=by
        rw[Zd,Yt];exact or_iff_left λc=>hy (by rw[<-show a=y from Xp c];exact ha)
       unfold qo;simp only[this]
      rw[e1];have u1:∀c o,c≠d->I c=some o->upd I d (.dK (VD ((rs++(new++[(y,t.1,[x,y,z])])).map (·.1)) (qo k J (new++[(y,t.1,[x,y,z])])))) c=some o:=λc o h e=>by rw[ao h];exact e
      have ud:upd I d (.dK (VD ((rs++(new++[(y,t.1,[x,y,z])])).map (·.1)) (qo k J (new++[(y,t.1,[x,y,z])])))) d=_:=aa;have v1:=ah.set (o:= .dK (VD ((rs++(new++[(y,t.1,[x,y,z])])).map (·.1)) (qo k J (new++[(y,t.1,[x,y,z])])))) C fd
      generalize upd I d (.dK (VD ((rs++(new++[(y,t.1,[x,y,z])])).map (·.1)) (qo k J (new++[(y,t.1,[x,y,z])]))))=H6 at u1 ud v1
      have Y:=u1 _ _ mod Y;have R:=b.snoc (p:=x) (y:=y) (z:=z) (a:=t.1) (by rw[<-et];exact ai) hy;rw[Ze]at R;refine%[.inl %[_|SqL.of Y],_,Y,by rw[Z6,Z6];exact aC ⋯|k5 _ _ %[%[_,_,_|rfl],ah.set v1 G,(ao a2.symm).trans (u1 _ _ ed u),new++[(y,t.1,[x,y,z])],by rw[aa,Zd,Zd];rfl,(ao mod.symm).trans ud,R,λr M=>?_|go _ (λa ha=>?_) λ_=>?_]]
      .rcases Xo M with q|q
       .exact L r q
       .rw[Xp q];exact%[x,z,O|rfl]
      .rw[<-Ze,Zd];exact Yu _ ha
      .rw[<-Ze,Zd];exact Yv _ Zm
     .have hy:y∈(rs++new).map (·.1):=Decidable.byContradiction λc=>by rw[eF c]at U;exact U rfl
      exact k5 _ _ %[%[_,_,_|rfl],C,u,new,Y,j,b,L|go new (λ_ h=>h) λ_=>hy]
    .exact k5 _ _ %[%[_,_,_|rfl],C,u,new,Y,j,b,L|go new (λ_ h=>h) λc=>absurd (Zf c) O]
   .intro σ I %[%[o6,o7,o8|rfl],C,u,new,Y,j,b,L|B];rw[a0,Zn (Zi _)]at B;dsimp only;lk;have ln:=b.len;rw[Z9]at ln;have F1:F.length.min 1=1:=by
     cases F with
     | nil=>exact absurd h ∅
     | cons x F=>exact Nat.min_eq_right (by rw[Zr];lia)
    refine%[_,?_,N,k+1,_,_,_,_,new.map (·.1),rs++new,_,rfl,C,Y,j,b,ab.step b.nd (λr M=>%[Xr %[_,(b.sub r (Yv _ M)).1|rfl]|L r M]) λx O y ⟨z,hz⟩=>?_|rfl]
    .rw[F1,Z9,Z6];cases new with
     | nil=>simp
     | cons a r=>
       rw[Zr]at ln ⊢;have:(r.length+1).min 1<=1:=Nat.min_le_right _ _
       lia
    .have%[t,ht|et]:=Xq hz;exact B t ht x y (by rw[et];rfl) (by rw[et];rfl) O
  .refine k4 _ _ ?_;lk;have h:F=[]:=by
    cases F with
    | nil=>rfl
    | cons x F=>exact absurd (Zf ∅) h
   subst h;refine kk d _ (rs.map (·.1)) J (C.trans (ah.upd fp)) fd (ah.upd fp _ _ j) (by rw[Z6];lia) λx=>%[λO=>?_|λr=>?_]
   .have%[d1|d2]:=ab.dst O;obtain⟨n,e⟩:∃n,J x=n+1:=%[J x-1|⋯]
    rw[e]at d2;exact d2.rch
   .have%[n|g]:=r.dst;exact ab.stop g
theorem vd{K:ZA}(h:SqL K H a xs)(s:ah H b):SqL K b a xs:=h.imp_left λr=>r.imp (s _ _) λ⟨o,e⟩=>%[o|s _ _ e]
theorem at_mod(f:d->V){xs:List d}(h:1<=xs.length)(c:Int):∃x∈xs,atI (xs.map f) (c%(xs.length:Int))=some (f x):=by
 have a:0<=c%xs.length:=Int.emod_nonneg _ ⋯;have e:c%xs.length<xs.length:=Int.emod_lt_of_pos _ ⋯
 generalize c%xs.length=i at a e
 have%[k|rfl]:=Xi a;have b:k<xs.length:=by lia
 exact%[xs[k],Ye b|cJ (by rw[Zl,Z4 b];rfl)]
structure ve (H:Hp) (lk:List ZB) (k:Addr) (ns:ZB) (dd:Str->Addr):Prop where
 at_:H k=some (.dK (VD ns λn=> .ref (dd n)))
 in_:∀n∈ns,∃(R:ZB) (f:Str->Nat),H (dd n)=some (.dK (VD R λx=> .int (f x)))/\R.length<=98/\∀x,x∈R↔Rch lk n x
theorem ve.up(h:ve H lk k a b)(s:ah H c):ve c lk k a b:=
 %[s _ _ h.at_|λn d=>by
  have%[R,f,e|g]:=h.in_ n d;exact%[R,f,s _ _ e|g]]
theorem DK(b:z∉a)(e:∀x∈a,h x=g x):cW (VD a g) (Sum.inr z) (h z)=VD (a++[z]) h:=by
 rw[eG _ (eF b)];unfold VD;rw[Zd];exact congrArg (·++_) (Yq λx c=>by rw[e x c])
inductive vf (mg:ZC) (vs:ZM) (H:Hp) (Q:VK) (E0:XK):Prop
 | mk (g:Addr) (qs:ZN) (ls:ZB) (ts:ZG) (z0:vs=[.ref g]) (z1:iX mg H g qs ls ts) (z2:∀k H' lk ns dd,ah H H'->bM (bw qs) (ts.map (·.2)) lk->jp (bw qs) ls ns->ve H' lk k ns dd->Q (.ref k) H'):vf mg vs H Q E0
theorem qp(T:Txt K mg):↥6 "_law_earlier" ["_law_ground_here"] (vf mg):=by
 refine T.bu.cal cP (λH vs Q E h=>?_)
 .have%[g,qs,l,ts,rfl,b|kk]:=h;refine%[rfl|λf aj A outer s q=>?_];have%[c2,c3,c4|gr]:=b.gr;have ll:=b.ll;refine%[_,%["JCH1F~jA0BC~F2edZ?1QF~'A0BW0?2qU0ECH3vCTQ2K4DsF])A1A4B34DI3",cP.nd,(show bH (am eE) ["_law_ground_here","_law_some","_law_names","_law_known","_law_name"] _ ["_law_one"] []=true from by decide +kernel),(show(["_law_one"]:ZB).Nodup from by decide +kernel)|q]|?_]
  show be _ _ _ [!g,none,none,none,none] H;refine ap λD1 k1 _=>?_
  lk;refine%[g,c2,c3,c4,qs,l,ts,rfl,gr,b.nd,b.so,⋯,b.tl,b.t3|λso H1 ss s1 fm hm tu lk sl=>k1 _ _ (ap λD2 k2 _=>aE λU hK=>?_)];lk;refine%[g,c2,c3,c4,qs,l,ts,rfl,gr.up s1,b.nd,b.so,⋯|λl1 H2 us s2 f1 G la _ ⟨r,q,ed⟩ al=> .inl %[l1,rfl,%[_|SqL.of G]|hK _ _ λF hF=>?_]];have sg:us.length=(grp r l).length:=by
   have:=congrArg List.length ed;rwa[Z6,Z6]at this
  refine bi (J:=Itl K l1) (n:=us.length) (D:=F) (λj vs y a=>(∃o1,y=[o1])/\ah H2 a/\a F=some (.lst vs)/\vs=(((grp r l).take j).map (·.1)).map V.str)
   %[%[none|rfl],ah.upd hF,aa|rfl] (λj _ _ a p I=>%[_,V.ref us[j].1,SqL.of (I.2.1 _ _ G)|by simp[p]]) (λ_ _ a I=>%[_,SqL.of (I.2.1 _ _ G)|by simp]) ?_ ?_
  .intro j vs y H3 p %[%[o1|rfl],Y,ac|B] x H4 %[e2|C];subst e2;have ab:=C _ (SqL.of (Y _ _ G));rw[Zl,Z4 p]at ab;obtain rfl:x=V.ref us[j].1:=(Za ab).symm;have jg:j<(grp r l).length:=by lia
   have e2:us[j].2=(grp r l)[j].2:=by
    have:=congrArg (λz=>z[j]?) ed;simpa [p,jg]using this
   have N:=uV b.so q (Ye jg);lk;refine%[_,SqL.of (Y _ _ (la _ (Ye p))),_,(show atI (us[j].2.map V.str) ((0:Nat):Int)=some (.str (grp r l)[j].1)from cJ (by rw[Zl,e2,N];rfl))|?_];refine CK.mk p ac (by rw[B,Z6,Z6,Ym];exact aC ⋯) %[%[_|rfl],ah.set Y hF,aa|?_];rw[B,Xb,Z4 jg,Zd,Zd];rfl
  intro vs y H3 %[_,Y,t|B];rw[Zn ⋯]at B;rw[B]at t;have O:jp (bw qs) l ((grp r l).map (·.1)):=%[jD b.nd,λx=>by
   rw[iN];exact%[λh=>%[h.1|by have:=(q x h.1).2;rwa[h.2]at this]|λh=>%[h.1|(q x h.1).2.one h.2]],BW b.so|BV q]
  generalize (grp r l).map (·.1)=u at t O
  have an:u.length<=80:=by
   have:=STab.nodup_sub O.nd λx C=>((O.mem x).mp C).1
   lia
  refine k2 _ _ (ap λD3 k3 _=>?_);lk;intro k fk;refine k3 _ _ (ap λD4 k4 _=>az λU hK=>?_);have L:=s2.trans Y;have la:=(pI tu (b.names lk O)).up L;have ae:=L _ _ hm;have ag:=s1.trans L;have s4:=ah.upd (o:= .dK []) fk;lk;refine .inl %[%[_|SqL.of (s4 _ _ t)]|hK _ _ ?_];refine bh (xs:=u.map V.str) (λi y a=>(∃o4,y=[!g,!so,!F,!k,o4])/\ah H3 a/\∃m:Str->Addr,a k=some (.dK (VD (u.take i) λn=> .ref (m n)))/\∀n∈u.take i,m n≠k/\∃(R:ZB) (f:Str->Nat),a (m n)=some (.dK (VD R λx=> .int (f x)))/\R.length<=98/\∀x,x∈R↔Rch (ss.map (·.2)) n x)
   %[%[_|rfl],s4,λ_=>k,aa|λn h=>(nomatch h)] (λi y a _ h=>SqL.of (h.2.1 _ _ t)) ?_ ?_
  .intro i v y a B %[%[o4|rfl],sm,m,hk|N];rw[Zl]at B;have%[n,M|rfl]:=map_eq_some_iff.mp B;have il:=(Xn M).1;have tk:u.take (i+1)=u.take i++[n]:=by rw[Xb,M];rfl
   have nt:n∉u.take i:=λc=>by
    have%[j|p]:=Xg c;have jl:=(Xn p).1;rw[Ym]at jl;rw[Yd ⋯]at p;have:=dD O.nd p M
    lia
   show mI _ _ _ _ [!g,!so,!F,!k,-n] a;refine aD λD5 k5 _=>?_
   lk;refine%[so,n,u,ss,rfl,sm _ _ ae,la.up sm,sl|λd H5 R f s5 fd ai Rl Rm=>?_];have dk:d≠k:=λc=>by rw[c,hk]at fd;cases fd
   refine%[_,iU.k (k:=Sum.inr n) (s5 _ _ hk) (by unfold VD;rw[Z6,Ym];exact aC ⋯)|k5 _ _ %[%[_|rfl],ah.set (sm.trans s5) fk,λx=>if x=n then d else m x,?_|λx C=>?_]]
   .have:=DK (g:=λn=>V.ref (m n)) (h:=λx=>V.ref (if x=n then d else m x)) nt λx C=>by
     show V.ref (if x=n then d else m x)=V.ref (m x);rw[if_neg (λc:x=n=>nt (c▸C))]
    rw[if_pos rfl]at this;rw[aa,this,tk]
   .rw[tk]at C;dsimp only;by_cases e:x=n
    .subst e;rw[if_pos rfl];exact%[dk,R,f,(ao dk).trans ai,Rl|Rm]
    .rw[if_neg e];have%[G,R',f',h2|h3]:=N x ((Xo C).resolve_right λc=>e (Xp c));exact%[G,R',f',(ao G).trans (s5 _ _ h2)|h3]
  .intro y a %[%[o4|rfl],sm,m,hk|N];rw[Z6,Zn (Zi _)]at hk N;refine k4 _ _ ?_;lk;exact kk k a _ u m (ag.trans sm) lk O %[hk|λn h=>(N n h).2]
theorem nH(n:Str)(c:Nat):lnS n (sgn c)=cB n c:=by
 refine eX ?_;show(([].toArray) ++n.cps++ ([46].toArray) ++ ([c].toArray)).toList=(n.cps.toList++[46,c]).toArray.toList;simp
theorem nJ:x∈lyr p↔∃c,Let p.2.2 c/\x=cB p.2.1 c:=by
 unfold lyr;rw[mem_map]
 constructor
 .rintro⟨z,b,rfl⟩;have%[c,a|rfl]:=iL b;exact%[c,gZ.mp a|nH _ _]
 .rintro⟨c,a,rfl⟩;exact%[sgn c,bA.mpr (Xr %[c,gZ.mpr a|rfl])|nH _ _]
theorem pL(h:mU d):x∈(iW d).map (·.1)↔∃c,Let d.rows c/\x=cB d.name c:=by
 unfold iW Drn.rows;rw[Ys,mem_map]
 constructor
 .rintro⟨a,i,rfl⟩;have%[e,f|g]:=fA.mp i;exact%[sg a d.sh,(uG h.2.2.2.2.2).mpr %[a,e,f,g|rfl]|rfl]
 .rintro⟨c,g,rfl⟩;have%[a,e,f,b|rfl]:=(uG h.2.2.2.2.2).mp g;exact%[a,fA.mpr %[e,f|b]|rfl]
theorem pM:∀{xs:List t},(xs.map m).Nodup->(∀p∈xs,(f p).Nodup)->(∀p∈xs,∀x∈f p,∃c,x=cB (m p) c)->(xs.flatMap f).Nodup
 |[],_,_,_=>X6
 | p::xs,h,l,i=>by
   rw[Yr,nodup_cons]at h;rw[List.flatMap_cons,X3];refine%[l p Zm,pM h.2 (λq g=>l q (Zk _ g)) (λq g=>i q (Zk _ g))|λa n b o e=>?_];have%[q,g|j]:=mem_flatMap.mp o;have%[c|r]:=i p Zm a n;have%[d|s]:=i q (Zk _ g) b j;have:=(jy (r.symm.trans (e.trans s))).1;exact h.1 (Xr %[q,g|this.symm])
theorem rG(p:Addr×Str×ZB):(lyr p).Nodup:=by
 unfold lyr;rw[X4,Xa];refine Xh (λ{x y} e f a b=>?_) (nodup_iff_pairwise_ne.mp (fF _));have%[c,_|rfl]:=iL e;have%[d,_|rfl]:=iL f;rw[nH,nH]at b;exact a (by rw[(jy b).2])
theorem wJ(d:Drn):((iW d).map (·.1)).Nodup:=by
 unfold iW;rw[Ys,X4,Xa];refine Xh (λ{x y} b c a e=>?_) (nodup_iff_pairwise_ne.mp (uH d.cols));have%[f,g|_]:=fA.mp b;have%[h,i|_]:=fA.mp c;exact a (FY f g h i (jy e).2)
theorem rg.mono(h:rg g xs)(s:∀x∈g,x∈i):rg i xs:=by
 rcases h with⟨w,a,b,e,c,d,f,j⟩|⟨w,a,y,e,c,d,f⟩
 .exact .inl %[w,a,b,e,c,s _ d,s _ f|j]
 .exact .inr %[w,a,y,e,c,s _ d|f]
theorem ke{d:List _}{e:ZB}(h:e.Perm (d.flatMap lyr)){x:Str}:x∈e↔∃p∈d,∃c,Let p.2.2 c/\x=cB p.2.1 c:=by
 rw[h.mem_iff,mem_flatMap]
 constructor
 .rintro⟨p,a,b⟩;exact%[p,a|nJ.mp b]
 .rintro⟨p,a,b⟩;exact%[p,a|nJ.mpr b]
theorem zI(h:∀p∈ds,mU p.2):x∈(ds.flatMap λp=>(iW p.2).map (·.1))↔∃p∈dcs ds,∃c,Let p.2.2 c/\x=cB p.2.1 c:=by
 rw[mem_flatMap]
 constructor
 .rintro⟨p,a,b⟩;exact%[_,Xr %[p,a|rfl]|(pL (h p a)).mp b]
 .rintro⟨q,d,b⟩;have%[p,a|rfl]:=Xq d;exact%[p,a|(pL (h p a)).mpr b]
theorem Eh{ds:List (Addr×Drn)}(h:∀p∈ds,mU p.2)(a:(ds.map λp=>p.2.name).Nodup):(ds.flatMap λp=>(iW p.2).map (·.1)).Nodup:=
 pM a (λp _=>wJ p.2) λp b x d=>by
  have%[c,_|e]:=(pL (h p b)).mp d;exact%[c|e]
theorem lD{a:List _}(d:(a.map λp=>p.2.1).Nodup){b:ZB}(h:b.Perm (a.flatMap lyr)):b.Nodup:=by
 rw[h.nodup_iff];exact pM d (λp _=>rG p) λp g x f=>by
  have%[c,_|e]:=nJ.mp f;exact%[c|e]
structure gM (H:Hp) (cs:List _) (qs:List _):Prop where
 ca:cm H cs
 nd:(cs.map λp=>p.2.1).Nodup
 p1:1<=cs.length
 p3:cs.length<=3
 few:∀p∈cs,uI p.2.2
 ly:(cs.flatMap lyr).length<=80
 sa:∀ls,ls.Perm (cs.flatMap lyr)->dt H ls qs
 q20:qs.length<=20
theorem gM.up(h:gM H a qs)(s:ah H b):gM b a qs:=
 %[h.ca.up s,h.nd,h.p1,h.p3,h.few,h.ly,λc p=>(h.sa c p).up s|h.q20]
inductive pN (K:ZA) (vs:ZM) (H:Hp) (Q:VK) (E0:XK):Prop
 | mk (a:Addr) (ns:ZL) (z0:vs=[.ref a]) (z1:SqL K H a (ns.map V.int)) (z2:AF H) (z3:ns.length<=63) (z4:∀H',Q (.bl true) H'):pN K vs H Q E0
theorem DL{R:Hp->Prop}(l:H g=none)(j:H d=none)(r:H a=some (.lst (cF i)))(s:H b=some (.lst (qs.map λq=>V.ref q.1)))(p:gM H i qs)
 (k:∀f c ts,ah H f->iX mg f g qs c ts->c.Perm (i.flatMap lyr)->(∀k,k∈ts.map (·.2)↔k∈iI i\/k∈iJ qs qs.length)->R f):
 tt mg [.ref g,.ref a,.ref b] (upd (upd H d (.own g)) g (.ins (cL mg "Ground") d [])) (λv u=>v= .non/\R u) E0:=by
 have h:ah H (upd (upd H d (.own g)) g (.ins (cL mg "Ground") d [])):=λb o e=>by
  rw[ao (ay e l),ao (ay e j)];exact e
 refine%[g,a,b,d,i,qs,rfl,aa,h _ _ r,h _ _ s,p.ca.up h,p.nd,p.p1,p.p3,p.few,p.ly,λc q=>(p.sa c q).up h,p.q20|λf c ts y z A B C tk E G I pl J=>%[rfl|k f c ts (λb o e=>B b o (ay e l) (h _ _ e)) %[%[y,z,A|C],lD p.nd pl,J,pl.length_eq▸p.ly,I,λk m=>?_,λk m=>?_|E] pl G]]<;> have%[t,n|rfl]:=Xq m
 .exact(tk t n).1
 .exact(tk t n).2
noncomputable abbrev iP:Str:=Str.ofString "abcdefghijklmnopqrstuvwxyz"
noncomputable def rot(k:Nat):Str:=Txt.slice iP (some (k:Int)) none++Txt.slice iP none (some (k:Int))
def cI(z:Str):Prop:=z.cps.toList.length=26/\(∀c∈z.cps.toList,97<=c/\c<=122)/\∀i<26,97+i∈z.cps.toList
noncomputable instance(z:Str):Decidable (cI z):=by unfold cI;infer_instance
theorem Ge:∀k<26,cI (rot k):=by decide +kernel
theorem gB:iP.length<=sizeLine:=by decide +kernel
theorem xQ(m:Int):∃z,Txt.slice iP (some (m%26)) none++Txt.slice iP none (some (m%26))=z/\cI z/\(Txt.slice iP (some (m%26)) none).length+(Txt.slice iP none (some (m%26))).length<=sizeLine:=by
 have a:0<=m%26:=Int.emod_nonneg _ ⋯;have b:m%26<26:=Int.emod_lt_of_pos _ ⋯
 generalize m%26=i at a b
 have%[k|rfl]:=Xi a;have c:=Txt.slice_le iP (some (k:Int)) none;have d:=Txt.slice_le iP none (some (k:Int));have e:iP.length=26:=by decide +kernel
 exact%[_,rfl,Ge k ⋯|by rw[PySem.sizeLine_eq];lia]
theorem cI.iff{z:Str}(h:cI z){c:Nat}:c∈z.cps.toList↔97<=c/\c<=122:=%[h.2.1 c|λq=>by
 have:=h.2.2 (c-97) ⋯;rwa[show 97+(c-97)=c by lia]at this]
theorem xR{c:Nat}(h:97<=c/\c<=122):okc c=true:=by
 have:∀i<26,okc (97+i)=true:=by decide +kernel
 have:=this (c-97) ⋯;rwa[show 97+(c-97)=c by lia]at this
theorem cI.col{z:Str}(h:cI z):b8 (PyProof.Rows.signs z):=by
 have l:(PyProof.Rows.signs z).length=26:=by rw[signs_length];exact h.1
 have m:∀r∈PyProof.Rows.signs z,∃c,(97<=c/\c<=122)/\r=⟨([c].toArray)⟩:=λr a=>by
  have%[c,b|rfl]:=Xq a;exact%[c,h.2.1 c b|rfl]
 refine%[⋯,⋯,%[1,⋯,⋯|λr a=>?_],λr a=>?_,λi r f e n j c o g g' q=>?_|?_]
 .have%[c,_|rfl]:=m r a;rfl
 .have%[c,b|rfl]:=m r a;simpa using xR b
 .have%[d,p|rfl]:=m f (Z8 n);have:o∈[d]:=by simpa using Z8 (l:=[d]) (i:=j) (by simpa using g')
  simp at this
  lia
 .have q:=h.iff (c:=97);exact%[⟨([97].toArray)⟩,Xr %[97,q.mpr ⋯|rfl],97,by simp|⋯]
theorem cI.row{z:Str}(h:cI z):b8 [z]:=by
 refine%[by simp,by simp,%[26,⋯,⋯|λr a=>?_],λr a=>?_,λi r f e b j c l g g' q=>?_|?_]
 .obtain rfl:=Xp a;exact h.1
 .obtain rfl:=Xp a;exact all_eq_true.mpr λc d=>xR (h.2.1 c d)
 .simp at b
 .exact%[z,by simp,97,h.iff.mpr ⋯|⋯]
theorem cI.letC{z:Str}(h:cI z){c:Nat}:Let (PyProof.Rows.signs z) c↔97<=c/\c<=122:=by
 unfold Let
 constructor
 .rintro⟨_,r,a,b⟩;have%[d,e|rfl]:=Xq a;obtain rfl:c=d:=by simpa using b
  exact h.2.1 c e
 .intro q;exact%[⋯,⟨([c].toArray)⟩,Xr %[c,h.iff.mpr q|rfl]|by simp]
theorem cI.letR{z:Str}(h:cI z){c:Nat}:Let [z] c↔97<=c/\c<=122:=by
 unfold Let
 constructor
 .rintro⟨_,r,a,b⟩;obtain rfl:=Xp a;exact h.2.1 c b
 .intro q;exact%[⋯,z,by simp|h.iff.mpr q]
theorem DM(z:Str):uI [z]:=%[[],by simp|λa b ⟨_,_,i,j,r,d,e,c,_⟩=>by simp at c]
theorem cI.few{z:Str}(h:cI z):uI (PyProof.Rows.signs z):=by
 refine%[(List.range 25).map λi=>[(PyProof.Rows.signs z).getD i Str.empty,(PyProof.Rows.signs z).getD (i+1) Str.empty],by simp|λa b ⟨_,_,i,j,r,m,e,c,g,g'⟩=>?_];have one:∀{r:Str} {i a:Nat},(PyProof.Rows.signs z)[i]? =some r->r.cps[j]? =some a->r=sgn a:=λ{r i a} e g=>by
  have%[d,n|rfl]:=Xq (Z8 e);have:a∈[d]:=by simpa using Z8 (l:=[d]) (i:=j) (by simpa using g)
  rw[Xp this];rfl
 have f:=(Xn c).1;rw[signs_length,show z.length=26 from h.1]at f;refine Xr %[i,mem_range.mpr ⋯|?_];rw[Zc,Zc,e,c,<-one e g,<-one c g'];rfl
theorem four{H:Hp}{a b c d:Addr}{e g h o4:HO}(m:H a=none)(n:upd H a e b=none)(p:upd (upd H a e) b g c=none)(q:upd (upd (upd H a e) b g) c h d=none):∃f,upd (upd (upd (upd H a e) b g) c h) d o4=f/\ah H f/\f a=some e/\f b=some g/\f c=some h/\f d=some o4:=
 have r:=ah.upd (o:=e) m;have l:=ah.upd (o:=g) n;have j:=ah.upd (o:=h) p;have i:=ah.upd (o:=o4) q
 %[_,rfl,r.trans (l.trans (j.trans i)),i _ _ (j _ _ (l _ _ aa)),i _ _ (j _ _ aa),i _ _ aa|aa]
theorem tG(m:Int):∃c,atI iP.cps.toList (m%26)=some c/\97<=c/\c<=122:=by
 have a:0<=m%26:=Int.emod_nonneg _ ⋯;have b:m%26<26:=Int.emod_lt_of_pos _ ⋯
 generalize m%26=i at a b
 have%[k|rfl]:=Xi a;have:∀k<26,iP.cps.toList[k]? =some (97+k):=by decide +kernel
 exact%[97+k,cJ (this k ⋯),⋯|⋯]
theorem DN(c:Nat):Str.ofString "north."++⟨([c].toArray)⟩=cB (Str.ofString "north") c:=eX rfl
theorem l_a(c:Nat):Str.ofString "a."++⟨([c].toArray)⟩=cB (Str.ofString "a") c:=eX rfl
theorem l_zz(c:Nat):Str.ofString "zz."++⟨([c].toArray)⟩=cB (Str.ofString "zz") c:=eX rfl
def He(xs:ZM):Prop:=∃(n m:Str) (c d:Nat),xs=[.str (Str.ofString "later"),.str (cB n c),.str (cB m d)]/\n≠m/\n∈[Str.ofString "north",Str.ofString "a",Str.ofString "zz"]/\m∈[Str.ofString "north",Str.ofString "a",Str.ofString "zz"]/\(97<=c/\c<=122)/\97<=d/\d<=122
def rH(H:Hp)(qs:ZN):Prop:=∀q∈qs,H q.1=some (.tup q.2)/\He q.2
theorem Hf{d H:Hp}{ps p:Addr}{qs:ZN}{xs:ZM}(i:ah d H)(fs:d ps=none)(j:H ps=some (.lst (qs.map λq=>V.ref q.1)))(g:rH H qs)(l:H p=none)(h:He xs):
 ah d (upd (upd H p (.tup xs)) ps (.lst ((qs.map λq=>V.ref q.1) ++[V.ref p])))/\upd (upd H p (.tup xs)) ps (.lst ((qs.map λq=>V.ref q.1) ++[V.ref p])) ps=some (.lst ((qs++[(p,xs)]).map λq=>V.ref q.1))/\rH (upd (upd H p (.tup xs)) ps (.lst ((qs.map λq=>V.ref q.1) ++[V.ref p]))) (qs++[(p,xs)]):=by
 have f:=ah.upd (o:= .tup xs) l;refine%[ah.set (i.trans f) fs,by rw[aa,Zd];rfl|λq a=>?_];have ne:∀{b:Addr} {ys:ZM},upd H p (.tup xs) b=some (.tup ys)->b≠ps:=λe c=>by
  rw[c,f _ _ j]at e;cases e
 rcases Xo a with a|a
 .have e:=f _ _ (g q a).1;exact%[by rw[ao (ne e)];exact e|(g q a).2]
 .obtain rfl:=Xp a;have e:upd H p (.tup xs) p=some (.tup xs):=aa;exact%[by rw[ao (ne e)];exact e|h]
theorem B7{H:Hp}{o r s:Addr}{j f:Str}{qs:ZN}(u:cI j)(l:cI f)(g1:H o=some (.tup [.str (Str.ofString "north"),.str (Str.join nl (PyProof.Rows.signs j))]))(g2:H r=some (.tup [.str (Str.ofString "a"),.str f]))(g3:H s=some (.tup [.str (Str.ofString "zz"),.str (Str.join nl (PyProof.Rows.signs f))]))(v:rH H qs)(G:qs.length<=2):
 gM H [(o,Str.ofString "north",PyProof.Rows.signs j),(r,Str.ofString "a",[f]),(s,Str.ofString "zz",PyProof.Rows.signs f)] qs:=by
 have lt:∀p∈[(o,Str.ofString "north",PyProof.Rows.signs j),(r,Str.ofString "a",[f]),(s,Str.ofString "zz",PyProof.Rows.signs f)],∀c,Let p.2.2 c↔97<=c/\c<=122:=λp b c=>by
  simp only[Yw,X8,or_false]at b;rcases b with rfl|rfl|rfl
  .exact u.letC
  .exact l.letR
  .exact l.letC
 have a:∀p∈[(o,Str.ofString "north",PyProof.Rows.signs j),(r,Str.ofString "a",[f]),(s,Str.ofString "zz",PyProof.Rows.signs f)],(lyr p).length<=26:=λp b=>by
  have:=STab.nodup_sub (rG p) (m:=(List.range 26).map λi=>cB p.2.1 (97+i)) λx z=>by
   have%[c,g|rfl]:=nJ.mp z;have:=(lt p b c).mp g;exact Xr %[c-97,mem_range.mpr ⋯|by rw[show 97+(c-97)=c by lia]]
  simpa using this
 refine%[λp b=>?_,(show [Str.ofString "north",Str.ofString "a",Str.ofString "zz"].Nodup by decide),by simp,by simp,λp b=>?_,?_,λA pl q y=>%[(v q y).1|.inl ?_]|⋯]
 .simp only[Yw,X8,or_false]at b;rcases b with rfl|rfl|rfl
  .exact%[g1,(show eL (Str.ofString "north")=true by decide)|u.col]
  .exact%[g2,(show eL (Str.ofString "a")=true by decide)|l.row]
  .exact%[g3,(show eL (Str.ofString "zz")=true by decide)|l.col]
 .simp only[Yw,X8,or_false]at b;rcases b with rfl|rfl|rfl
  .exact u.few
  .exact DM _
  .exact l.few
 .have I:=a _ (.head _);have J:=a _ (.tail _ (.head _));have L:=a _ (.tail _ (.tail _ (.head _)));simp only[List.flatMap_cons,List.flatMap_nil,Z9,length_nil]
  lia
 .have%[n,m,c,d,e,B,t,C,g|E]:=(v q y).2;have mem:∀n∈[Str.ofString "north",Str.ofString "a",Str.ofString "zz"],∀c,97<=c/\c<=122->cB n c∈A:=λn t c g=>by
   refine(ke pl).mpr ?_;simp only[Yw,X8,or_false]at t;rcases t with rfl|rfl|rfl
   .exact%[_,.head _,c,(lt _ (.head _) c).mpr g|rfl]
   .exact%[_,.tail _ (.head _),c,(lt _ (.tail _ (.head _)) c).mpr g|rfl]
   .exact%[_,.tail _ (.tail _ (.head _)),c,(lt _ (.tail _ (.tail _ (.head _))) c).mpr g|rfl]
  exact%[_,_,_,e,.inl rfl,mem n t c g,mem m C d E|λh=>B (jy h).1]
inductive xS (vs:ZM) (H:Hp) (Q:VK) (E0:XK):Prop
 | mk (n:Int) (z0:vs=[.int n]) (z1:∀t l1 l2 l3 H' (cs:ZH) (qs:ZN),ah H H'->H' t=some (.tup [.ref l1,.ref l2,.ref l3])->H' l1=some (.lst (cF cs))->H' l2=some (.lst (qs.map λq=>V.ref q.1))->gM H' cs qs->Q (.ref t) H'):xS vs H Q E0
theorem vg(T:Txt K mg):↥1 "_law_great" ["_law_number"] xS:=by
 refine T.bw.cal bC (λH vs Q E h=>?_)
 .have%[n,rfl|kk]:=h;refine%[rfl|λf aj A outer s hr=>?_];refine%[_,%["JCH1RCH2Gp>1+GX0E~J>1~J+GX0ECH3Gp>1+GXGj0EE~J>1~J+GXGj0EECH4SAkARA~G~;RA2BBAkARA3BAkARA~G~;RA3BBBCH5SBCOLoGXGj0EEEDVlh5AkARAGpR~X1GXGj0EEAGpR~X1GXGj0EEBBPCOL:GXGj0EEEDVlh5AkARAGpR~X1GXGj0EEAGpR~X1GXGj0EEBBPCH6SBCTQ4fM~P7deMK8gDH6Gp6mZ?1Q1W0?2qGpGpN1R0DIkA4A5A6B",bC.nd,(show bH (am gu) ["_law_number","_law_signs_of","_law_one","_law_other","_law_cuts","_law_sayings","_law_layers","_law_name","_law_text"] _ ["_law_sign_at","_law_name"] [(1,7)]=true from by decide +kernel)|(show(["_law_sign_at","_law_name"]:ZB).Nodup from by decide +kernel)]|?_]
  show be _ _ _ [some (.int n),none,none,none,none,none,none,none,none] H;refine ap λD1 k1 _=>?_
  lk;refine k1 _ _ (ap λD2 k2 _=>?_);lk;have%[m,e1,a1|b1]:=xQ n;refine%[by decide,gB,by decide,gB,b1|k2 _ _ (ap λD3 k3 _=>?_)];rw[e1];clear e1 b1;lk;have%[g,M,a2|b2]:=xQ (n/26);refine%[%[by decide|by decide],by decide,gB,%[by decide|by decide],by decide,gB,b2|k3 _ _ (ap λD4 k4 _=>?_)];rw[M];clear M b2;lk;have y1:m.length<=1000:=by rw[show m.length=26 from a1.1];lia
  have y2:g.length<=1000:=by rw[show g.length=26 from a2.1];lia
  refine%[_,_,rfl,rfl,y1,by decide,#[2]|λp1 f1=>%[#[2]|λp2 f2=>%[_,_,rfl,rfl,y2,by decide,#[2]|λp3 f3=>%[#[3]|λr fc=>k4 _ _ (ap λD5 k5 _=>?_)]]]];have%[O,e,sc,g1,g2,g3|gc]:=four (o4:= .lst [.ref p1,.ref p2,.ref p3]) f1 f2 f3 fc;rw[show Txt.join (Str.ofString "\n") (PyProof.Rows.signs m)=Str.join nl (PyProof.Rows.signs m)from StrLaws.glued_eq_join _ _]at g1;rw[show Txt.join (Str.ofString "\n") (PyProof.Rows.signs g)=Str.join nl (PyProof.Rows.signs g)from StrLaws.glued_eq_join _ _]at g3;rw[e];clear e f1 f2 f3 fc;lk;refine%[#[0]|λps fs=>k5 _ _ (ap λD6 k6 _=>?_)];have t5:=ah.upd (o:= .lst []) fs;have b:upd O ps (.lst []) ps=some (.lst []):=aa;have C:rH (upd O ps (.lst [])) []:=λq h=>nomatch h
  have fin:∀l (qs:ZN),ah O l->l ps=some (.lst (qs.map λq=>V.ref q.1))->rH l qs->qs.length<=1->D6.nx [some (.int n),-iP,-m,-g,!r,!ps,none,none,none] l:=by
   intro l qs U b C ql;refine k6 _ _ (ap λD7 k7 _=>?_);have fin:∀l (qs:ZN),ah O l->l ps=some (.lst (qs.map λq=>V.ref q.1))->rH l qs->qs.length<=2->D7.nx [some (.int n),-iP,-m,-g,!r,!ps,none,none,none] l:=by
    intro H7 qs U b C ql;refine k7 _ _ (ap λD8 k8 _=>?_);lk;refine%[#[0]|λpl fl=>k8 _ _ (ap λD9 k9 _=>az λY hK=>?_)];lk;have u1:=ah.upd (o:= .lst []) fl;have hl:upd H7 pl (.lst []) pl=some (.lst []):=aa
    generalize upd H7 pl (.lst [])=H8 at u1 hl
    have s8:=U.trans u1;refine .inl %[%[_|SqL.of (s8 _ _ gc)]|hK _ _ (bh (xs:=[V.ref p1,V.ref p2,V.ref p3]) (λi G t=>∃(a:Addr) (o7 o8:Option V) (vs:ZM),G=[some (.int n),-iP,-m,-g,!r,!ps,!a,o7,o8]/\ah H8 t/\t a=some (.lst vs)/\vs.length=26*i)
     %[pl,_,_,[],rfl,λ_ _ e=>e,hl|rfl] (λi G t _ ⟨_,_,_,_,_,h,_⟩=>SqL.of (h _ _ (s8 _ _ gc))) ?_ ?_)]
    .intro i v G t hv %[a,o7,o8,vs,rfl,u,ab|vl];obtain⟨pp,I,tx,rfl,ag,al⟩:∃(pp:Addr) (I tx:Str),v= .ref pp/\O pp=some (.tup [.str I,.str tx])/\I.length<=8:=by
      have:=Z8 hv;simp only[Yw,X8,or_false]at this;rcases this with rfl|rfl|rfl
      .exact%[_,_,_,rfl,g1|by decide]
      .exact%[_,_,_,rfl,g2|by decide]
      .exact%[_,_,_,rfl,g3|by decide]
     have ac:=u _ _ (s8 _ _ ag);have il:i<3:=(Xn hv).1;refine%[_,SqT.of ac|?_];refine%[rfl,_,_,rfl,_,_,rfl,rfl|?_];show pP _ _ _ [some (.int n),-iP,-m,-g,!r,!ps,!a,-I,-tx] t;refine aD λan ai _=>?_
     lk;refine aE λY hK=>?_
     lk;refine hK _ _ λF hF=>?_
     have as:iP.cps.size=26:=by decide +kernel
     refine bi (J:=Its iP) (n:=iP.cps.size) (D:=F) (λj ys G N=>(∃o,G=[o,-I])/\ah t N/\N F=some (.lst ys)/\ys.length=j) %[%[none|rfl],ah.upd hF,aa|rfl]
      (λj _ _ _ hj _=>hj) (λ_ _ _ _=>Zi _) ?_ ?_
     .intro j ys G N hj %[%[o|rfl],z,L|yl] x a0 %[M,c,hc|rfl];subst M;lk;have e1:(Str.ofString ".").length=1:=rfl;have M:(I++Str.ofString ".").length=I.length+1:=by
       show(I.cps++(Str.ofString ".").cps).size=_;rw[size_append];rfl
      refine%[by rw[e1,PySem.sizeLine_eq];lia,by rw[M,PySem.sizeLine_eq,show(⟨([c].toArray)⟩:Str).length=1 from rfl];lia|CK.mk hj L (by rw[yl];exact aC ⋯) %[%[_|rfl],ah.set z hF,aa|by rw[Z9,yl];rfl]]
     .intro ys G N %[_,z,L|yl];exact%[F,rfl,vs,z _ _ ab,ys,L,by rw[PySem.sizeLine_eq];lia|λp B=>ai _ _ %[p,_,_,vs++ys,rfl,u.trans (z.trans (ah.upd B)),aa|by rw[Z9];lia]]
    .intro G t %[a,o7,o8,vs,rfl,u,ab|vl];refine k9 _ _ ?_;lk;refine%[#[3]|λp B=>?_];have u2:=ah.upd (o:= .tup [.ref r,.ref ps,.ref a]) B;have ae:upd t p (.tup [.ref r,.ref ps,.ref a]) p=some (.tup [.ref r,.ref ps,.ref a]):=aa
     generalize upd t p (.tup [.ref r,.ref ps,.ref a])=N at u2 ae
     have s9:=u1.trans (u.trans u2);have d:=U.trans s9;exact kk p r ps a N [(p1,Str.ofString "north",PyProof.Rows.signs m),(p2,Str.ofString "a",[g]),(p3,Str.ofString "zz",PyProof.Rows.signs g)] qs (sc.trans d) ae (d _ _ gc) (s9 _ _ b) (B7 a1 a2 (d _ _ g1) (d _ _ g2) (d _ _ g3) (λq hq=>%[s9 _ _ (C q hq).1|(C q hq).2]) ql)
   lk;refine%[%[by decide|by decide],by decide|bx (λc=>?_) λc=>fin _ _ U b C ⋯];have%[x,ex|lx]:=tG (n/35152);have%[y,ey|ly]:=tG (n/913952);refine%[.inl %[_|SqL.of b],%[by decide|by decide],by decide,gB,x,ex,(show(Str.ofString "a.").length+1<=sizeLine by decide),%[by decide|by decide],by decide,gB,y,ey,(show(Str.ofString "zz.").length+1<=sizeLine by decide),#[3]|λp B=>%[_,ah.upd B _ _ b,by rw[Z6];exact aC ⋯|?_]];have%[h1,h2|h3]:=Hf U fs b C B %[Str.ofString "a",Str.ofString "zz",x,y,rfl,by decide,by decide,by decide,lx|ly];rw[l_a,l_zz];exact fin _ _ h1 h2 h3 (by rw[Z9];simpa using ql)
  lk;refine%[%[by decide|by decide],by decide|bx (λc=>?_) λc=>fin _ [] t5 b C ∅];have%[x,ex|lx]:=tG (n/1352);have%[y,ey|ly]:=tG (n/35152);refine%[.inl %[_|SqL.of b],%[by decide|by decide],by decide,gB,x,ex,(show(Str.ofString "north.").length+1<=sizeLine by decide),%[by decide|by decide],by decide,gB,y,ey,(show(Str.ofString "a.").length+1<=sizeLine by decide),#[3]|λp B=>%[_,ah.upd B _ _ b,(show 0<sizeLine by decide)|?_]];have%[h1,h2|h3]:=Hf (qs:=[]) t5 fs b C B %[Str.ofString "north",Str.ofString "a",x,y,rfl,by decide,by decide,by decide,lx|ly];rw[DN,l_a];exact fin _ _ h1 h2 h3 ∅
inductive B8 (K:ZA) (vs:ZM) (H:Hp) (Q:VK) (E0:XK):Prop
 | mk (a:Addr) (ns:ZL) (z0:vs=[.ref a]) (z1:SqL K H a (ns.map V.int)) (z2:AF H) (z3:ns.length<=63) (z4:∀t l1 l2 l3 H' (cs:ZH) (qs:ZN),ah H H'->H' t=some (.tup [.ref l1,.ref l2,.ref l3])->H' l1=some (.lst (cF cs))->H' l2=some (.lst (qs.map λq=>V.ref q.1))->gM H' cs qs->Q (.ref t) H'):B8 K vs H Q E0
theorem lE(T:Txt K mg):↥4 "_law_told_ground" ["_law_script"] (B8 K):=by
 refine T.bx.cal j8 (λH vs Q E h=>?_)
 .have%[a,e,rfl,m,ho,hn|I]:=h;refine%[rfl|λf U A outer s b=>?_];refine%[_,%["JCOLoGXGjF~<A0AEBEEEDIF]*AF~<A0AEBBPDIF]+AF],A0AEBB",0|b]|?_]
  show be _ _ _ [!a] H;refine ap λD1 k1 Y=>?_
  lk;refine%[a,e,0,rfl,m,⋯|?_]
  generalize e.getD _ 0=c0
  lk;refine%[%[by decide|by decide],by decide|bx (λc=>?_) λc=>k1 _ _ ?_]
  .refine%[a,e,1,rfl,m,⋯,_,rfl|λt n o r J cs qs u v y z p=>Y _ _ (I t n o r J cs qs u v y z p)]
  .lk;refine%[a,e,43,rfl,m,⋯,by decide,by decide|λl0 H0 xs s0 f0 L B hb=>?_];refine%[l0,xs,rfl,SqL.of L,λJ u=>SqL.of (u _ _ L),B,hb|λt n o r M ds qs s1 ft f1 f2 f3 ab ac ae v y z h3 d1 d3 g C G i hq ag ai=>?_];have N:((dcs ds).map λp=>p.2.1).Nodup:=by
    unfold dcs;rw[Ys];exact C
   have dl:(dcs ds).length=ds.length:=by unfold dcs;rw[Z6]
   have sub:∀j:ZB,j.Perm ((dcs ds).flatMap lyr)->∀x,x∈j↔x∈(ds.flatMap λp=>(iW p.2).map (·.1)):=λj pl x=>by rw[ke pl,zI g]
   have few:∀p∈dcs ds,uI p.2.2:=λp O=>by
    unfold dcs at O;have%[d,hd|rfl]:=Xq O;exact BG (g d hd).2.2.2.2.2
   have ly:((dcs ds).flatMap lyr).length<=80:=by
    have:=STab.nodup_sub (lD N (.refl _)) λx B=>(sub _ (.refl _) x).mp B
    lia
   have P1:gM M (dcs ds) qs:=%[G,N,⋯,⋯,few,ly,λj p q l=>%[(i q l).1|(i q l).2.mono λx=>(sub j p x).mpr]|⋯]
   exact I t n o r M (dcs ds) qs (s0.trans s1) v y z P1
inductive vh (vs:ZM) (H:Hp) (Q:VK) (E0:XK):Prop
 | mk (l k:Addr) (ys ns:ZB) (lk:List ZB) (dd:Str->Addr) (z0:vs=[.ref l,.ref k,.int (ys.length:Int)]) (z1:H l=some (.lst (ys.map V.str))) (z2:ve H lk k ns dd) (z3:ys.length<=80) (z4:ys.Nodup) (z5:ys.Pairwise (λa b=>aV b a=false)) (z6:(∀a∈ys,a∈ns/\∀b∈ys,¬ Rch lk a b)) (z7:∀H',ah H H'->Q (.bl true) H'):vh vs H Q E0
theorem mW(T:Txt K mg):↥1 "_law_right" ["_law_found","_law_known","_law_many"] vh:=by
 refine T.bv.cal lc (λH vs Q E h=>?_)
 .have%[l,k,ys,ns,lk,M,rfl,G,hk,yl,yn,so,I|kk]:=h;refine%[rfl|λf ac A outer s C=>?_];refine%[_,%["JCOczun'(AN0A?1B!LtabAN0B2DIrPCT[AabAN0BB~P3deCOcz)UN0N3N1!cwL:N3E$L].UN0G~EN3EUN0N3DIrPDOL~:mZ?2QN0W0?3,~R0iN1UN2N30SBDIrPDIr",lc.nd,(blE (v:= .ty "list") rfl T.a5 boot_list rfl rfl rfl),(show bH (am gj) ["_law_found","_law_known","_law_many","_law_k"] _ ["_law_other","_law_known","_law_found","_law_k"] [(1,1),(2,0),(3,3)]=true from by decide +kernel),(show(["_law_other","_law_known","_law_found","_law_k"]:ZB).Nodup from by decide +kernel)|C]|?_]
  show be _ _ _ [!l,!k,some (.int ys.length),none] H;refine ap λD1 k1 r1=>?_
  lk;refine%[_,.lst G,true,rfl|?_];rw[if_neg (by decide)];refine%[_,.inl %[_,SqL.of G|rfl]|?_];rw[Z6,if_neg ∅];refine k1 _ _ (ap λD2 k2 r2=>az λu N=>?_);lk;refine%[ys.length,.inl %[_,SqL.of G|(Z6 _).symm],⋯,⋯|N _ _ ?_];rw[Int.toNat_natCast];refine fh (n:=ys.length) (λi m d=>(∃O,m=[!l,!k,some (.int ys.length),O])/\ah H d) %[%[_|rfl]|λ_ _ e=>e] ?_ ?_
  .intro i m d hi %[%[O|rfl]|y];show be _ _ _ [!l,!k,some (.int ys.length),some (.int (0+(i:Int)))] d;refine ap λD3 k3 r3=>?_
   have a:=y _ _ G;have o:=hk.up y;have b:∀{j:Nat} (h:j<ys.length),atI (ys.map V.str) ((j:Nat):Int)=some (.str ys[j]):=λ{j} h=>cJ (by rw[Zl,Z4 h];rfl)
   lk;have L:ys[i]∈ys:=Ye hi;have gk:cf d k (.str ys[i]) (some (.ref (M ys[i]))):=by
    have g:=cf.k (k:=Sum.inr ys[i]) o.at_;rwa[gK (I _ L).1]at g
   refine%[_,SqL.of a,_,b hi,_,gk|?_];rw[if_neg ∅];have nx:D3.nx [!l,!k,some (.int ys.length),some (.int i)] d:=by
    refine k3 _ _ (aD λD4 k4 _=>?_);lk;refine aE λu N=>?_
    lk;refine .inl %[%[_|SqL.of a]|N _ _ λF hF=>?_];have%[R,g,hR,Rl|Rm]:=o.in_ _ (I _ L).1;refine bi (J:=Itl K l) (n:=ys.length) (D:=F) (λj vs m t=>(∃o1,m=[o1,!k,!l,some (.int i)])/\ah d t/\t F=some (.lst vs)/\vs=[])
     %[%[none|rfl],ah.upd hF,aa|rfl] (λj _ _ t z q=>%[_,V.str ys[j],SqL.of (q.2.1 _ _ a)|by simp[z]]) (λ_ _ t q=>%[_,SqL.of (q.2.1 _ _ a)|by simp]) ?_ ?_
    .intro j vs m t z %[%[o1|rfl],r,U|rfl] x H6 %[e2|hx];subst e2;have B:=hx _ (SqL.of (r _ _ a));rw[Zl,Z4 z]at B;obtain rfl:x=V.str ys[j]:=(Za B).symm;lk;have Y:cf H6 k (.str ys[i]) (some (.ref (M ys[i]))):=by
      have g:=cf.k (k:=Sum.inr ys[i]) (o.up r).at_;rwa[gK (I _ L).1]at g
     have gr:=cf.k (k:=Sum.inr ys[j]) (r _ _ hR);rw[eF λh=>(I _ L).2 _ (Ye z) ((Rm _).mp h)]at gr;refine%[_,SqL.of (r _ _ a),_,b hi,_,Y,_,rfl,_,gr|?_];rw[if_neg ∅];exact CN.mk z %[%[_|rfl],r,U|rfl]
    .intro vs m t %[_,r,ab|rfl];refine%[#[0]|λp fp=>%[F,rfl,[],ah.upd fp _ _ ab,aa|?_]];rw[if_neg ∅];exact k4 _ _ %[%[_|rfl]|y.trans (r.trans (ah.upd fp))]
   refine bx (λc=>?_) λ_=>nx
   have i0:0<i:=by have:=Zo c;lia
   have e:(i:Int) -1=((i-1:Nat):Int):=by lia
   refine%[_,SqL.of a,_,(by rw[e];exact b ⋯),_,SqL.of a,_,b hi,_,_,rfl,rfl,_,rfl|?_];have lt:aV ys[i-1] ys[i]=true:=fz (pairwise_iff_getElem.mp so (i-1) i ⋯ hi ⋯) (pairwise_iff_getElem.mp (nodup_iff_pairwise_ne.mp yn) (i-1) i ⋯ hi ⋯).symm;rw[lt,if_neg (by decide)];exact nx
  .intro m d %[%[O|rfl]|y];refine k2 _ _ ?_;lk;exact kk d y
theorem gM.ne{H:Hp}{a:ZH}{qs:ZN}(h:gM H a qs){b:ZB}(pl:b.Perm (a.flatMap lyr)):b≠[]:=by
 have%[p|d]:=List.exists_mem_of_length_pos h.p1;have%[r,e,c,f|n]:=(h.ca p d).2.2.some';exact List.ne_nil_of_mem ((ke pl).mpr %[p,d,c,%[n,r,e|f]|rfl])
theorem Gf{f:Addr}{fd:FuncData}(F:Fun K "law" "law" lg f fd)(T:Txt K mg):eW P w K mg base CX0 12 f fd ["_law_script"] (pN K):=by
 refine F.ok jm (by fin2) (λbt A outer s H vs Q E n h=>?_)
 .have%[a,ns,rfl,hs,ho,i|kk]:=h;refine%[_,%["JC~TF]/A0BfMK1MK2MK3gCH4]:];A;<A1BA;<A2BBCOL~VF]<A4B|DIrPCH5F]=A4BCH6abAF]>A4BBCH7F~=A4BCOunF~>A7A5A6BDIrPCVlh7ARBDI&F~>AF~=A4BA5A6B.y:6E",jm.nd|n]|?_]
  show be _ _ _ [!a,none,none,none,none,none,none,none] H;refine ap λD1 k1 _=>?_
  lk;refine%[a,ns,rfl,hs,ho,i|λt l1 l2 l3 H1 cs qs s1 ht h1 h2 P1=>?_];lk;refine%[_,SqT.of ht,rfl,_,_,rfl,_,_,rfl,_,_,rfl,rfl|k1 _ _ (ap λD3 k3 _=>?_)];lk;refine%[_,.inl (SqL.of h1)|λa1 N=>%[_,.inl (SqL.of (ah.upd N _ _ h2))|λb1 v=>?_]];have t1:=ah.upd (o:= .lst (cF cs)) N;have ga1:upd H1 a1 (.lst (cF cs)) a1=some (.lst (cF cs)):=aa
  generalize upd H1 a1 (.lst (cF cs))=H2 at t1 ga1 v ⊢
  have t2:=ah.upd (o:= .lst (qs.map λq=>V.ref q.1)) v;have z:upd H2 b1 (.lst (qs.map λq=>V.ref q.1)) b1=some (.lst (qs.map λq=>V.ref q.1)):=aa;have ga2:=t2 _ _ ga1
  generalize upd H2 b1 (.lst (qs.map λq=>V.ref q.1))=H3 at t2 z ga2 ⊢
  have B:=t1.trans t2;refine λg dx fg as bU=>DL fg as ga2 z (P1.up B) λH4 C ts t4 G pl tm=>k3 _ _ (ap λD4 k4 r4=>?_)
  have O:=B.trans t4;have U:=s1.trans O;have a0:=vd hs U;have a2:=P1.ne pl;clear ga2 z v t1 t2 B ga1 P1 O U t4 h1 h2 ht hs
  generalize some (V.ref l1)=v1,some (V.ref l2)=v2,some (V.ref l3)=v3
  lk;refine%[g,qs,C,ts,rfl,G|λH5 lk t5 j=>%[λnr=>?_|λr x rx=>by rw[if_pos ∅];exact r4 _ _ (kk H5)]];rw[if_neg ∅];have I:∀p,bM (bw qs) (ts.map (·.2)) p->∀x,¬ Rch p x x:=λp h'=>by rw[h'.one j];exact nr
  have G:=G.up t5;have hs:=vd a0 t5;refine k4 _ _ (ap λD5 k5 _=>?_);lk;refine%[g,qs,C,ts,rfl,G|λk H6 p nb dd s6 Y i hk=>k5 _ _ (ap λD6 k6 _=>?_)];obtain rfl:=j.one Y;lk;refine%[g,qs,C,ts,rfl,G.up s6,I|λl H7 b0 a3 L1 m1 ab s7 a4 n1 L a5 e1=>%[_,.inl %[_,SqL.of a5|rfl]|k6 _ _ (ap λD7 k7 _=>?_)]];obtain rfl:=j.one a4;have a6:=s6.trans s7;have ac:=G.up a6;have ae:=hk.up s7;have ag:∀x,x∈a3↔x∈nb:=λx=>(n1.mem x).trans (i.mem x).symm
  have L:=L.of ag;rw[u9 n1.nd i.nd ag]at e1;have b2:nb.length<=80:=by
   have:=STab.nodup_sub i.nd λx m=>((i.mem x).mp m).1
   have:=G.ll
   lia
  have same:∀{d L2:ZB} {m2:Str->Str} {e:ZB},jp (bw qs) C d->hW lk d L2 m2 d->e.length=(d.filter λx=>decide (x∉L2)).length->ab.length=e.length:=λ{d L2 m2 e} u M e2=>by
   have ai:∀x,x∈d↔x∈nb:=λx=>(u.mem x).trans (i.mem x).symm
   have M:=M.of ai;rw[u9 u.nd i.nd ai]at e2;rw[e1,e2];exact Nat.le_antisymm (L.size i.nd M) (M.size i.nd L)
  have J:∀{d:ZB} {x:Str},jp (bw qs) C d->x∈d->x∈nb:=λ{d x} u h=>(i.mem x).mpr ((u.mem x).mp h)
  have pos:0<ab.length:=by
   have%[x|m]:=List.exists_mem_of_ne_nil _ (i.ne a2);have:=sU (E:=Rch lk) (λa b c h k=>h.trans k) i.nd L.mat L.mn (nodup_cons.mpr %[X8|X6]:[x].Nodup) (λy hy=>by rw[Xp hy];exact m) λa ha b hb r=>nr x (by rw[Xp ha,Xp hb]at r;exact r)
   rw[e1];exact this
  lk;refine%[g,qs,C,ts,rfl,ac,I|λl' H8 b3 d L2 m2 e s8 a7 u M fl aj e2 yn so ya=>k7 _ _ (ap λD8 k8 r8=>?_)];obtain rfl:=j.one a7;have a8:=same u M e2;have a9:e.length<=80:=by
   have:=STab.nodup_sub yn λx m=>J u (ya x m).1
   lia
  lk;refine%[l',k,e,nb,lk,dd,by rw[a8],aj,ae.up s8,a9,yn,so,λx m=>%[J u (ya x m).1|(ya x m).2]|λH9 s9=>?_];lk;refine k8 _ _ (ap λD9 k9 _=>?_);have al:=s9 _ _ aj;lk;refine%[.inl %[_|SqL.of al],_,al,by rw[Z6];exact aC ⋯|k9 _ _ ?_];have sX:=ah.set (o:= .lst (e.map V.str++[V.str (Str.ofString "")])) (s8.trans s9) fl
  generalize upd H9 l' (.lst (e.map V.str++[V.str (Str.ofString "")]))=HX at sX ⊢
  lk;refine%[g,qs,C,ts,rfl,ac.up sX,I|λl2 b4 b5 b6 L3 m3 bb bc bf n3 p3 b7 bl e3 bm bn an=>?_];obtain rfl:=j.one bf;have y3:=same n3 p3 e3;refine%[l2,k,bb,nb,lk,dd,by rw[y3],bl,ae.up (sX.trans bc),⋯,bm,bn,λx m=>%[J n3 (an x m).1|(an x m).2]|λbp b9=>?_];lk;rw[Zf ⋯];exact kk bp
end
def DI(K:ZA)(x:Str)(st:Stmt):Prop:=∃(f:Addr) (b:Value) (c d:ZI) (e:ZK) (kV g h a ct:Value),nsIn K mainGlobals x=some (some (.ref f))/\K.lookup f=some %[b,c,.func (fnOf x x (cq st) (bK st) (am st) .none kV g h d a ct)|e]/\codeIn K a x=true/\keepIn K (.ref f)=true
theorem di_mk{K:ZA}{x:Str}{st:Stmt}{f:Addr}{d:Value}{e g:ZI}{h:ZK}{kV i j b ct:Value}(a:nsIn K mainGlobals x=some (some (.ref f)))(l:K.lookup f=some %[d,e,.func (fnOf x x (cq st) (bK st) (am st) .none kV i j g b ct)|h])(c:codeIn K b x=true)(k:keepIn K (.ref f)=true):DI K x st:=%[f,d,e,g,h,kV,i,j,b,ct,a,l,c|k]
theorem aA{K:ZA}{h:Heap}{mg:ZC}{x:Str}{st:Stmt}{ps:ZB}(X:K.In h)(G:h.Ns mainGlobals mg)(d:DI K x st)(b:∀(kV e i:Value) (j:ZI) (g ct:Value) (us:ZF),us.length=ps.length->bindArgs (fnOf x x (cq st) (bK st) (am st) .none kV e i j g ct) %[us|[]]=pure (ps.zip us)):aG K mg x st ps:=by
 have%[f,m,n,j,o,kV,p,i,q,ct,a,l,c|k]:=d;exact Fo X G a l c k b
theorem all_mk{l:PySem.W.OpenLaw}{w:World}{K:ZA}{h:Heap}{mg:ZC}{fa av:Addr}(X:K.In h)(G:h.Ns mainGlobals mg)(hfa:mg "law"=some (.ref fa))
 {d7 dg:ZI} {d8:ZK} {ea dh dj dk aw dl:Value}
 (eb:DI K "names_by_layer" d6)
 (ec:DI K "join_deposits" eM)
 (ed:DI K "least_pointed_to" dm)
 (ee:DI K "deposits" jY)
 (eg:DI K "deposit_names" di)
 (eh:DI K "links" nE)
 (ei:DI K "links_by_later" d9)
 (ej:DI K "links_by_earlier" dq)
 (ek:DI K "grouped" lV)
 (el:DI K "laid_in_turn" dJ)
 (em:DI K "shortest_way" fJ)
 (en:DI K "next_edge" jh)
 (eo:DI K "way_to" oM)
 (ep:DI K "all_beneath" gH)
 (eq:DI K "most_pairs" eZ)
 (er:DI K "ask_around" iA)
 (es:DI K "pass_on" lW)
 (et:DI K "keys_by_value" eO)
 (eu:DI K "one_of_each_pair" bR)
 (ev:DI K "ring" wv)
 (ew:DI K "shortest_ring" eP)
 (ex:DI K "never_laid" iB)
 (ey:DI K "untorn_links" fM)
 (ez:DI K "earlier_ones" fN)
 (e0:DI K "fewest_rows" eC)
 (e1:DI K "row_from" j3)
 (e2:DI K "widest" kY)
 (e3:DI K "is_name" jz)
 (e4:DI K "rows_of" l7)
 (e5:DI K "is_row" kZ)
 (e6:DI K "lies_beneath" dL)
 (e8:DI K "letters_in" e7)
 (fb:DI K "letters" l8)
 (fc:DI K "meetings" j6)
 (fe:DI K "meetings_between" cv)
 (ff:DI K "check_cuts" iD)
 (fg:DI K "is_named_cut" fP)
 (fh:DI K "is_cut" oN)
 (fi:DI K "check_sayings" eR)
 (fj:DI K "is_saying" jj)
 (fk:DI K "is_text_among" eS)
 (fl:DI K "is_year" md)
 (fm:DI K "layer_name" iE)
 (fo:DI K "layers_of" gi)
 (fp:DI K "ties_of_cuts" fQ)
 (fq:DI K "ties_of_sayings" dM)
 (fr:DI K "_law_cell_at" gJ)
 (fs:DI K "_law_row" mf)
 (ft:DI K "_law_column" iF)
 (fu:DI K "_law_sign" j7)
 (fv:DI K "_law_cut" ef)
 (fw:DI K "_law_saying" iG)
 (fx:DI K "_law_ground" e9)
 (fy:DI K "_law_steps" jk)
 (fz:DI K "_law_earlier" eE)
 (f0:DI K "_law_right" gj)
 (f1:DI K "_law_great" gu)
 (f2:DI K "_law_told_ground" dN)
 (ax:nsIn K mainGlobals "law"=some (some (.ref av))) (ay:K.lookup av=some %[ea,d7,.func (fnOf "law" "law" (cq lg) (bK lg) (am lg) .none dh dj dk dg aw dl)|d8]) (az:codeIn K aw "law"=true) (a0:keepIn K (.ref av)=true)
 {dn dp dr ds dt du dv dw dx dy dz:Value}
 (ba:nsIn K mainGlobals "min"=some none)
 (bb:nsIn K mainGlobals "max"=some none)
 (bc:nsIn K mainGlobals "list"=some none)
 (bd:nsIn K mainGlobals "set"=some none)
 (be:nsIn K mainGlobals "sorted"=some none)
 (bf:nsIn K mainGlobals "len"=some none)
 (bg:nsIn K mainGlobals "reversed"=some none)
 (bh:nsIn K mainGlobals "all"=some none)
 (bi:nsIn K mainGlobals "str"=some none)
 (bj:nsIn K mainGlobals "isinstance"=some none)
 (bk:nsIn K mainGlobals "enumerate"=some none)
 (bl:nsIn K mainGlobals "zip"=some none)
 (bm:nsIn K mainGlobals "tuple"=some none)
 (bn:nsIn K mainGlobals "int"=some none)
 (bo:nsIn K mainGlobals "bool"=some none)
 (bp:nsIn K mainGlobals "range"=some none)
 (bq:nsIn K mainGlobals "abs"=some none)
 (br:nsIn K mainGlobals "LATER"=some (some dn)) (bs:aP (.int 0) dn)
 (bt:nsIn K mainGlobals "EARLIER"=some (some dp)) (bu:aP (.int 1) dp)
 (bv:nsIn K mainGlobals "LONGEST_NAME"=some (some dr)) (bw:aP (.int 8) dr)
 (bx:nsIn K mainGlobals "LETTERS"=some (some ds)) (bz:aP (.str "abcdefghijklmnopqrstuvwxyz") ds)
 (b0:nsIn K mainGlobals "MOST_ROWS"=some (some dt)) (b1:aP (.int 40) dt)
 (b2:nsIn K mainGlobals "MOST_SIGNS"=some (some du)) (b3:aP (.int 40) du)
 (b4:nsIn K mainGlobals "AIR"=some (some dv)) (b5:aP (.str ".") dv)
 (b6:nsIn K mainGlobals "MOST_CUTS"=some (some dw)) (b7:aP (.int 8) dw)
 (b8:nsIn K mainGlobals "MOST_SAYINGS"=some (some dx)) (b9:aP (.int 60) dx)
 (ca:nsIn K mainGlobals "FIRST_YEAR"=some (some dy)) (cb:aP (.int (-9999)) dy)
 (cc:nsIn K mainGlobals "LAST_YEAR"=some (some dz)) (cd:aP (.int 9999) dz)
 {aa:Addr}
 (ai:nsIn K mainGlobals "Ground"=some (some (.ref aa)))
 (ce:plainGet K aa Str.empty=true)
 (cf:hasDictIn K aa=true)
 (cg:plainOver K aa=true)
 (ch:findIn K (.ref aa) "__setattr__"=some (some (.builtin "object.__setattr__")))
 (ci:findIn K (.ref aa) "kept_cuts"=some none)
 (cj:findIn K (.ref aa) "kept_sayings"=some none)
 (cl:findIn K (.ref aa) "kept_layers"=some none)
 (cm:findIn K (.ref aa) "kept_ties"=some none)
 {ab:Addr} {f3 f4:ZI} {f5:ZK} {f6 f7 f8 f9 d0 ga:Value}
 (cn:findIn K (.ref aa) "__init__"=some (some (.ref ab)))
 (aj:K.lookup ab=some %[f6,f3,.func (fnOf "__init__" "Ground.__init__" (cq bY) (bK bY) (am bY) .none f7 f8 f9 f4 d0 ga)|f5])
 (ak:codeIn K d0 "Ground.__init__"=true)
 (al:keepIn K (.ref ab)=true)
 (co:isFn K (.ref ab)=true)
 (cp:makesIn K aa=true)
 (cr:keepIn K (.ref aa)=true)
 {ac:Addr} {gb gc:ZI} {gd:ZK} {ge gf gg gh d1 gk:Value}
 (cs:findIn K (.ref aa) "sayings"=some (some (.ref ac)))
 (an:K.lookup ac=some %[ge,gb,.func (fnOf "sayings" "Ground.sayings" (cq ck) (bK ck) (am ck) .none gf gg gh gc d1 gk)|gd])
 (ao:codeIn K d1 "Ground.sayings"=true)
 (ad:keepIn K (.ref ac)=true)
 (ct:isFn K (.ref ac)=true)
 {ae:Addr} {gl gm:ZI} {gn:ZK} {go gp gq gr d2 gs:Value}
 (cu:findIn K (.ref aa) "layers"=some (some (.ref ae)))
 (ap:K.lookup ae=some %[go,gl,.func (fnOf "layers" "Ground.layers" (cq cC) (bK cC) (am cC) .none gp gq gr gm d2 gs)|gn])
 (aq:codeIn K d2 "Ground.layers"=true)
 (af:keepIn K (.ref ae)=true)
 (cw:isFn K (.ref ae)=true)
 {ag:Addr} {gt gv:ZI} {gw:ZK} {gx gy gz g0 d3 g1:Value}
 (cx:findIn K (.ref aa) "ties"=some (some (.ref ag)))
 (ar:K.lookup ag=some %[gx,gt,.func (fnOf "ties" "Ground.ties" (cq df) (bK df) (am df) .none gy gz g0 gv d3 g1)|gw])
 (au:codeIn K d3 "Ground.ties"=true)
 (ah:keepIn K (.ref ag)=true)
 (cy:isFn K (.ref ag)=true)
 {d4:Addr} {cz:Obj} {c0:ZJ} {g2:Nat}
 (c1:nsIn K mainGlobals "YEAR_WORDS"=some (some (.ref d4)))
 (c2:K.lookup d4=some cz)
 (c3:cz.cls= .type "tuple")
 (c4:cz.data= .seq c0 g2)
 (c5:c0.size<=sizeLine)
 (c6:aI [.str "since",.str "by"] c0.toList)
 {d5:Addr} {c7:Obj} {c8:ZJ} {g3:Nat}
 (c9:nsIn K mainGlobals "LAYER_WORDS"=some (some (.ref d5)))
 (da:K.lookup d5=some c7)
 (db:c7.cls= .type "tuple")
 (dc:c7.data= .seq c8 g3)
 (dd:c8.size<=sizeLine)
 (de:aI [.str "later",.str "same"] c8.toList)
 :∃fd:FuncData,(∀(s:Shared) (v:Value),BindsTo s fd %[[v]|[]] [("_law_script",v)])/\∀base:Heap,K.In base->base.Ns mainGlobals mg->eW l.prog w K mg base CX0 12 fa fd ["_law_script"] (pN K):=by
 have e:=hfa.symm.trans (mg_of X G ax);cases e;have g4:=C7 (mg_of X G ai);subst g4;have T:Txt K mg:=%[mg_none_of X G ba,
  mg_none_of X G bb,
  mg_none_of X G bc,
  mg_none_of X G bd,
  mg_none_of X G be,
  mg_none_of X G bf,
  mg_none_of X G bg,
  mg_none_of X G bh,
  mg_none_of X G bi,
  mg_none_of X G bj,
  mg_none_of X G bk,
  mg_none_of X G bl,
  mg_none_of X G bm,
  mg_none_of X G bn,
  mg_none_of X G bo,
  mg_none_of X G bp,
  mg_none_of X G bq,
  i5 X G br bs,
  i5 X G bt bu,
  i5 X G bv bw,
  i5 X G bx bz,
  i5 X G b0 b1,
  i5 X G b2 b3,
  i5 X G b4 b5,
  i5 X G b6 b7,
  i5 X G b8 b9,
  i5 X G ca cb,
  i5 X G cc cd,
  aA X G eb (by room),
  aA X G ec (by room),
  aA X G ed (by room),
  aA X G ee (by room),
  aA X G eg (by room),
  aA X G eh (by room),
  aA X G ei (by room),
  aA X G ej (by room),
  aA X G ek (by room),
  aA X G el (by room),
  aA X G em (by room),
  aA X G en (by room),
  aA X G eo (by room),
  aA X G ep (by room),
  aA X G eq (by room),
  aA X G er (by room),
  aA X G es (by room),
  aA X G et (by room),
  aA X G eu (by room),
  aA X G ev (by room),
  aA X G ew (by room),
  aA X G ex (by room),
  aA X G ey (by room),
  aA X G ez (by room),
  aA X G e0 (by room),
  aA X G e1 (by room),
  aA X G e2 (by room),
  aA X G e3 (by room),
  aA X G e4 (by room),
  aA X G e5 (by room),
  aA X G e6 (by room),
  aA X G e8 (by room),
  aA X G fb (by room),
  aA X G fc (by room),
  aA X G fe (by room),
  aA X G ff (by room),
  aA X G fg (by room),
  aA X G fh (by room),
  aA X G fi (by room),
  aA X G fj (by room),
  aA X G fk (by room),
  aA X G fl (by room),
  aA X G fm (by room),
  aA X G fo (by room),
  aA X G fp (by room),
  aA X G fq (by room),
  aA X G fr (by room),
  aA X G fs (by room),
  aA X G ft (by room),
  aA X G fu (by room),
  aA X G fv (by room),
  aA X G fw (by room),
  aA X G fx (by room),
  aA X G fy (by room),
  aA X G fz (by room),
  aA X G f0 (by room),
  aA X G f1 (by room),
  aA X G f2 (by room),
  %[mg_of X G ai,ce,cf,cg|ch],
  ci,
  cj,
  cl,
  cm,
  %[ab,_,%[cp,cn,co|cr],fE aj ak al|(fE aj ak al).binds (by room)],
  %[ac,_,%[cs,ct|ad],fE an ao ad|(fE an ao ad).binds (by room)],
  %[ae,_,%[cu,cw|af],fE ap aq af|(fE ap aq af).binds (by room)],
  %[ag,_,%[cx,cy|ah],fE ar au ah|(fE ar au ah).binds (by room)],
  Bm X G c1 c2 c3 c4 c5 c6|
  Bm X G c9 da db dc dd de]
 exact%[fnOf "law" "law" (cq lg) (bK lg) (am lg) .none dh dj dk dg aw dl,λs v=> .of_eq rfl|λbase _ _=>Gf (fE (st:=lg) ay az a0) T]
theorem walk{l:PySem.W.OpenLaw}{q:Program}{b:ZB}{j:(Str->Option Value)->Heap->Prop}{e:World->Heap->Prop}{d:DefRec}{K:Params->ZA}(m:l.most=some 63)(c:d.params.defaults=[])
 (o:∀(w:World) (h:Heap),e w h->(K w.params).In h)
 (F:∀(w:World) (mg:ZC) (g:Addr) (h:Heap),(K w.params).In h->h.Ns mainGlobals mg->mg d.name=some (.ref g)->
  ∃i:FuncData,(∀(s:Shared) (u:Value),BindsTo s i %[[u]|[]] [("_law_script",u)])/\∀base:Heap,(K w.params).In base->base.Ns mainGlobals mg->eW l.prog w (K w.params) mg base CX0 12 g i ["_law_script"] (pN (K w.params))):
 PySem.W.WalkO q b j e l.row.toRowW d [] (λf vs=>PySem.call f vs):=
 L2.walk_of (n:=63) (k:=12) (x:="_law_script") (CX:=λ_=>CX0) (sp:=λw=>pN (K w.params)) m (by decide) c %[rfl,by decide,by decide|rfl] o F (λ_ _ a p r t v=>%[a,p,rfl,v,t,r|λ_=>rfl]) λ_ _ _ _ _ z=>z
end K62
end
open PySem PySem.W PyProof.Rows
set_option maxRecDepth 100000 in
theorem PySem.Challenge.cw_digbook_k62_widest_told_holds : PySem.Challenge.rw_digbook_k62_widest_told.Holds := by
 w_on;o_law;k_head;(case hw=>w_witness2)
 k_fill
 refine K62.walk (l:=PySem.Challenge.rw_digbook_k62_widest_told) rfl rfl (λw h Y=>PySem.W.kIn_of Y) ?F
 case F=>
  intro w mg fa h KX G hmg;refine' K62.all_mk KX G hmg ?_ ?_ ?_ ?_ ?_ ?_ ?_ ?_ ?_ ?_ ?_ ?_ ?_ ?_ ?_ ?_ ?_ ?_ ?_ ?_ ?_ ?_ ?_ ?_ ?_ ?_ ?_ ?_ ?_ ?_ ?_ ?_ ?_ ?_ ?_ ?_ ?_ ?_ ?_ ?_ ?_ ?_ ?_ ?_ ?_ ?_ ?_ ?_ ?_ ?_ ?_ ?_ ?_ ?_ ?_ ?_ ?_ ?_ ?ax ?ay ?az ?a0 ?ba ?bb ?bc ?bd ?be ?bf ?bg ?bh ?bi ?bj ?bk ?bl ?bm ?bn ?bo ?bp ?bq ?br ?bs ?bt ?bu ?bv ?bw ?bx ?bz ?b0 ?b1 ?b2 ?b3 ?b4 ?b5 ?b6 ?b7 ?b8 ?b9 ?ca ?cb ?cc ?cd ?ai ?ce ?cf ?cg ?ch ?ci ?cj ?cl ?cm ?cn ?aj ?ak ?al ?co ?cp ?cr ?cs ?an ?ao ?ad ?ct ?cu ?ap ?aq ?af ?cw ?cx ?ar ?au ?ah ?cy ?c1 ?c2 ?c3 ?c4 ?c5 ?c6 ?c9 ?da ?db ?dc ?dd ?de
  any_goals (refine' K62.di_mk ?a ?l ?c ?k;(case a=>k_is);(case l=>k_is);(case c=>k_is);(case k=>k_is))
  (case ax|ay|az|a0|ba|bb|bc|bd|be|bf|bg|bh|bi|bj|bk|bl|bm|bn|bo|bp|bq|br=>k_is)
  (case bs=>exact⟨_,rfl⟩)
  (case bt=>k_is)
  (case bu=>exact⟨_,rfl⟩)
  (case bv=>k_is)
  (case bw=>exact⟨_,rfl⟩)
  (case bx=>k_is)
  (case bz=>exact⟨_,rfl⟩)
  (case b0=>k_is)
  (case b1=>exact⟨_,rfl⟩)
  (case b2=>k_is)
  (case b3=>exact⟨_,rfl⟩)
  (case b4=>k_is)
  (case b5=>exact⟨_,rfl⟩)
  (case b6=>k_is)
  (case b7=>exact⟨_,rfl⟩)
  (case b8=>k_is)
  (case b9=>exact⟨_,rfl⟩)
  (case ca=>k_is)
  (case cb=>exact⟨_,rfl⟩)
  (case cc=>k_is)
  (case cd=>exact⟨_,rfl⟩)
  (case ai|ce|cf|cg|ch|ci|cj|cl|cm|cn|aj|ak|al|co|cp|cr|cs|an|ao|ad|ct|cu|ap|aq|af|cw|cx|ar|au|ah|cy|c1|c2=>k_is)
  (case c3|c4=>rfl)
  (case c5=>decide)
  (case c6=>exact .cons ⟨_,rfl⟩ (.cons ⟨_,rfl⟩ (.nil)))
  (case c9|da=>k_is)
  (case db|dc=>rfl)
  (case dd=>decide)
  (case de=>exact .cons ⟨_,rfl⟩ (.cons ⟨_,rfl⟩ (.nil)))
